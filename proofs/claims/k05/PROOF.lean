import PyProof.Rows.All
import Wide.All
import OpenK.AllK
import Wide.FinOn
import PySem.Challenge.RW_tasterow_k05_between
import HandS.ForMost
import HandS.Conv
import HandS.Strs
import HandS.TupAny
import HandS.Style
import HandS.IsInst
import HandS.EndBits
import HandS.Walk
import HandS.SortInts
import HandS.SortOrd
import HandS.Deep
import HandS.Wide
import HandS.NoneIn
import HandS.SetFor
import HandS.TupMul
import KE.GoesEnum
set_option Elab.async false
set_option linter.all false
set_option maxRecDepth 100000
namespace TR
open PySem PySem.Spec PyProof.Rows L2
/-! ### heaps -/
theorem same_upd {H : Hp} {p : Addr} {o : HO} (h : H p = none) : Same H (upd H p o) := fun b x e => by
  rw [upd_ne (ne_of_none e h)]
  exact e
theorem same_upd2 {H H1 : Hp} {p : Addr} {o : HO} (s : Same H H1) (h : H p = none) : Same H (upd H1 p o) := fun b x e => by
  rw [upd_ne (ne_of_none e h)]
  exact s b x e
theorem same_seqT {K : PySem.W.Frag} {H H' : Hp} {a : Addr} {xs : List V} (e : Same H H') (h : SqT K H a xs) : SqT K H' a xs := by
  rcases h with (h | ⟨o, h⟩) | h
  · exact .inl (.inl (e _ _ h))
  · exact .inl (.inr ⟨o, e _ _ h⟩)
  · exact .inr h
theorem sqL {K : PySem.W.Frag} {H : Hp} {a : Addr} {xs : List V} (h : H a = some (.lst xs)) : SqL K H a xs := .inl (.inl h)
theorem sqT {K : PySem.W.Frag} {H : Hp} {a : Addr} {xs : List V} (h : H a = some (.tup xs)) : SqT K H a xs := .inl (.inl h)
/-- all but the deck's two changing lists is as it was -/
def Keep (d p : Addr) (H H' : Hp) : Prop := ∀ b o, H b = some o → b ≠ d → b ≠ p → H' b = some o
theorem Keep.refl (d p : Addr) (H : Hp) : Keep d p H H := fun _ _ h _ _ => h
theorem Keep.trans {d p : Addr} {H H1 H2 : Hp} (a : Keep d p H H1) (b : Keep d p H1 H2) : Keep d p H H2 := fun c o h n m => b c o (a c o h n m) n m
theorem Same.keep {d p : Addr} {H H1 : Hp} (a : Same H H1) : Keep d p H H1 := fun c o h _ _ => a c o h
theorem keep_upd {d p x : Addr} {H H1 : Hp} {o : HO} (a : Keep d p H H1) (h : x = d ∨ x = p) : Keep d p H (upd H1 x o) := fun c u e n m => by
  rw [upd_ne (by rintro rfl; rcases h with h | h; exact n h; exact m h)]
  exact a c u e n m
/-! ### data -/
theorem dpAll_ints {K : PySem.W.Frag} {H : Hp} : ∀ xs : List Int, DpAll K H (xs.map V.int) (xs.map PyData.int)
  | [] => .nil
  | x :: r => .cons (.int x) (dpAll_ints r)
theorem can_ints : ∀ xs : List Int, PyData.canLayAll0 (xs.map PyData.int) = true
  | [] => rfl
  | x :: r => by
    show (true && PyData.canLayAll0 (r.map PyData.int)) = true
    rw [can_ints r]
    rfl
theorem dep_ints : ∀ xs : List Int, PyData.depthAll (xs.map PyData.int) = 0
  | [] => rfl
  | x :: r => by
    show max 0 (PyData.depthAll (r.map PyData.int)) = 0
    rw [dep_ints r]
    rfl
theorem shaped_ints (xs : List Int) : SeqAt.shaped (.list (xs.map PyData.int)) = true := by
  show (PyData.canLayAll0 (xs.map PyData.int) && decide (PyData.depthAll (xs.map PyData.int) + 1 ≤ 64)) = true
  rw [can_ints, dep_ints]
  rfl
theorem eqv_nil (xs : List Int) : PyData.eqv (.list (xs.map PyData.int)) (.list []) = xs.isEmpty := by
  cases xs with
  | nil => rfl
  | cons x r => rfl
/-! ### the deck -/
structure DeckL (H : Hp) (d p q : Addr) (n : Nat) (m : Nat) : Prop where
  ex : ∃ (xs cs : List Int) (c : Int), H d = some (.lst [.ref p, .ref q, .int c]) ∧ H p = some (.lst (xs.map V.int)) ∧ H q = some (.lst (cs.map V.int)) ∧
    0 ≤ c ∧ c ≤ (n : Int) ∧ cs ≠ [] ∧ xs.length = m
  dp : d ≠ p
  dq : d ≠ q
  pq : p ≠ q
def Deck (H : Hp) (d p q : Addr) (n : Nat) : Prop := ∃ m, DeckL H d p q n m
theorem DeckL.same {H H' : Hp} {d p q : Addr} {n m : Nat} (D : DeckL H d p q n m) (s : Same H H') : DeckL H' d p q n m := by
  obtain ⟨xs, cs, c, h1, h2, h3, h4⟩ := D.ex
  exact ⟨⟨xs, cs, c, s _ _ h1, s _ _ h2, s _ _ h3, h4⟩, D.dp, D.dq, D.pq⟩
theorem Deck.same {H H' : Hp} {d p q : Addr} {n : Nat} (D : Deck H d p q n) (s : Same H H') : Deck H' d p q n := by
  obtain ⟨m, D⟩ := D
  exact ⟨m, D.same s⟩
theorem Deck.mono {H : Hp} {d p q : Addr} {n k : Nat} (D : Deck H d p q n) (h : n ≤ k) : Deck H d p q k := by
  obtain ⟨m, ⟨xs, cs, c, h1, h2, h3, h4, h5, h6⟩, a, b, e⟩ := D
  exact ⟨m, ⟨xs, cs, c, h1, h2, h3, h4, by omega, h6⟩, a, b, e⟩
theorem Deck.hd {H : Hp} {d p q : Addr} {n : Nat} (D : Deck H d p q n) : ∃ a b c, H d = some (.lst [.ref a, .ref b, .int c]) := by
  obtain ⟨m, ⟨xs, cs, c, h1, _⟩, _⟩ := D
  exact ⟨_, _, _, h1⟩
theorem Deck.hp {H : Hp} {d p q : Addr} {n : Nat} (D : Deck H d p q n) : ∃ xs : List Int, H p = some (.lst (xs.map V.int)) := by
  obtain ⟨m, ⟨xs, cs, c, h1, h2, _⟩, _⟩ := D
  exact ⟨_, h2⟩
theorem Deck.ned {H : Hp} {d p q : Addr} {n : Nat} (D : Deck H d p q n) {b : Addr} (h : H b = none) : b ≠ d := by
  obtain ⟨x, y, c, e⟩ := D.hd
  exact (ne_of_none e h).symm
theorem Deck.nep {H : Hp} {d p q : Addr} {n : Nat} (D : Deck H d p q n) {b : Addr} (h : H b = none) : b ≠ p := by
  obtain ⟨x, e⟩ := D.hp
  exact (ne_of_none e h).symm
theorem Deck.tned {H : Hp} {d p q : Addr} {n : Nat} (D : Deck H d p q n) {b : Addr} {xs : List V} (h : H b = some (.tup xs)) : b ≠ d := by
  obtain ⟨x, y, c, e⟩ := D.hd
  exact ne_of h e (by intro z; cases z)
theorem Deck.tnep {H : Hp} {d p q : Addr} {n : Nat} (D : Deck H d p q n) {b : Addr} {xs : List V} (h : H b = some (.tup xs)) : b ≠ p := by
  obtain ⟨x, e⟩ := D.hp
  exact ne_of h e (by intro z; cases z)
end TR
namespace TR
/-! ### rankings as lists of ints -/
def rng (n : Nat) : List Int := (List.range n).map fun i : Nat => (i : Int)
def Rank (n : Nat) (ns : List Int) : Prop := ns.Perm (rng n)
theorem rng_len (n : Nat) : (rng n).length = n := by
  unfold rng; rw [List.length_map, List.length_range]
theorem mem_rng {n : Nat} {x : Int} : x ∈ rng n ↔ 0 ≤ x ∧ x < (n : Int) := by
  unfold rng
  rw [List.mem_map]
  constructor
  · rintro ⟨i, hi, rfl⟩
    have := List.mem_range.mp hi
    omega
  · rintro ⟨h0, h1⟩
    exact ⟨x.toNat, List.mem_range.mpr (by omega), by omega⟩
theorem rng_nodup (n : Nat) : (rng n).Nodup := by
  unfold rng List.Nodup
  rw [List.pairwise_map]
  exact List.nodup_range.imp (by intro a b h e; exact h (by omega))
theorem Rank.len {n : Nat} {ns : List Int} (h : Rank n ns) : ns.length = n := (List.Perm.length_eq h).trans (rng_len n)
theorem Rank.mem {n : Nat} {ns : List Int} (h : Rank n ns) {x : Int} (h0 : 0 ≤ x) (h1 : x < (n : Int)) : x ∈ ns := (List.Perm.mem_iff h).mpr (mem_rng.mpr ⟨h0, h1⟩)
theorem Rank.bnd {n : Nat} {ns : List Int} (h : Rank n ns) {x : Int} (m : x ∈ ns) : 0 ≤ x ∧ x < (n : Int) := mem_rng.mp ((List.Perm.mem_iff h).mp m)
theorem Rank.nodup {n : Nat} {ns : List Int} (h : Rank n ns) : ns.Nodup := (List.Perm.nodup_iff h).mpr (rng_nodup n)
theorem Rank.rev {n : Nat} {ns : List Int} (h : Rank n ns) : Rank n ns.reverse := (List.reverse_perm ns).trans h
/-! ### preference -/
def pref (ns : List Int) (a b : Int) : Bool := decide (ns.idxOf a < ns.idxOf b)
theorem idx_at {ns : List Int} (nd : ns.Nodup) {i : Nat} {x : Int} (h : ns[i]? = some x) : ns.idxOf x = i := by
  obtain ⟨hi, e⟩ := List.getElem?_eq_some_iff.mp h
  have m : x ∈ ns := e ▸ List.getElem_mem hi
  have hl : ns.idxOf x < ns.length := List.idxOf_lt_length_of_mem m
  have e2 : ns[ns.idxOf x] = x := List.getElem_idxOf hl
  exact (List.getElem_inj nd).mp (e2.trans e.symm)
theorem at_idx {ns : List Int} {x : Int} (m : x ∈ ns) : ns[ns.idxOf x]? = some x := by
  have hl : ns.idxOf x < ns.length := List.idxOf_lt_length_of_mem m
  rw [List.getElem?_eq_getElem hl, List.getElem_idxOf hl]
theorem idx_first {ns : List Int} {x : Int} {m : Nat} (h : m < ns.idxOf x) : ns[m]? ≠ some x := by
  intro e
  obtain ⟨hi, e2⟩ := List.getElem?_eq_some_iff.mp e
  have := List.not_of_lt_findIdx (p := (· == x)) (xs := ns) h
  rw [e2] at this
  simp at this
theorem idx_rev {ns : List Int} (nd : ns.Nodup) {x : Int} (m : x ∈ ns) : ns.reverse.idxOf x = ns.length - 1 - ns.idxOf x := by
  have hl : ns.idxOf x < ns.length := List.idxOf_lt_length_of_mem m
  refine idx_at ((List.Perm.nodup_iff (List.reverse_perm ns)).mpr nd) ?_
  rw [List.getElem?_reverse (by omega)]
  rw [show ns.length - 1 - (ns.length - 1 - ns.idxOf x) = ns.idxOf x by omega]
  exact at_idx m
theorem idx_inj {ns : List Int} {x y : Int} (m : x ∈ ns) (e : ns.idxOf x = ns.idxOf y) : x = y ∨ y ∉ ns := by
  by_cases h : y ∈ ns
  · left
    have a := at_idx m
    have b := at_idx h
    rw [e, b] at a
    exact (Option.some.inj a).symm
  · exact .inr h
theorem pref_rev {ns : List Int} (nd : ns.Nodup) {a b : Int} (ma : a ∈ ns) (mb : b ∈ ns) (ne : a ≠ b) : pref ns.reverse a b = !pref ns a b := by
  unfold pref
  have la : ns.idxOf a < ns.length := List.idxOf_lt_length_of_mem ma
  have lb : ns.idxOf b < ns.length := List.idxOf_lt_length_of_mem mb
  have hne : ns.idxOf a ≠ ns.idxOf b := fun e => by
    rcases idx_inj ma e with h | h
    · exact ne h
    · exact h mb
  rw [idx_rev nd ma, idx_rev nd mb]
  by_cases h : ns.idxOf a < ns.idxOf b
  · rw [decide_eq_true h, decide_eq_false (by omega)]
    rfl
  · rw [decide_eq_false h, decide_eq_true (by omega)]
    rfl
/-! ### pairs and differences -/
def prow (n a : Nat) : List (Int × Int) := (List.range (n - (a + 1))).map fun j : Nat => ((a : Int), ((a : Int) + 1 + (j : Int)))
def pairs (n : Nat) : List (Int × Int) := (List.range n).flatMap (prow n)
theorem mem_pairs {n : Nat} {p : Int × Int} (h : p ∈ pairs n) : 0 ≤ p.1 ∧ p.1 < p.2 ∧ p.2 < (n : Int) := by
  unfold pairs prow at h
  obtain ⟨a, ha, hp⟩ := List.mem_flatMap.mp h
  obtain ⟨j, hj, rfl⟩ := List.mem_map.mp hp
  have h1 := List.mem_range.mp ha
  have h2 := List.mem_range.mp hj
  dsimp only
  omega
theorem flat_succ {β : Type} (f : Nat → List β) (i : Nat) : (List.range (i + 1)).flatMap f = (List.range i).flatMap f ++ f i := by
  rw [List.range_succ, List.flatMap_append]
  simp
theorem map_succ {β : Type} (f : Nat → β) (i : Nat) : (List.range (i + 1)).map f = (List.range i).map f ++ [f i] := by
  rw [List.range_succ, List.map_append]
  rfl
def agr (one other : List Int) (p : Int × Int) : Bool := pref one p.1 p.2 == pref other p.1 p.2
def diffs (n : Nat) (one other : List Int) : List (Int × Int) := (pairs n).filter fun p => !agr one other p
def betw (n : Nat) (one other third : List Int) : Bool := ((pairs n).filter (agr one other)).all (agr one third)
theorem agr_symm (one other : List Int) (p : Int × Int) : agr one other p = agr other one p := by
  unfold agr
  cases pref one p.1 p.2 <;> cases pref other p.1 p.2 <;> rfl
theorem diffs_symm (n : Nat) (one other : List Int) : diffs n one other = diffs n other one := by
  unfold diffs
  congr 1
  funext p
  rw [agr_symm]
theorem diffs_rev {n : Nat} {ns : List Int} (h : Rank n ns) : diffs n ns ns.reverse = pairs n := by
  unfold diffs
  rw [List.filter_eq_self]
  intro p hp
  obtain ⟨h0, h1, h2⟩ := mem_pairs hp
  unfold agr
  rw [pref_rev h.nodup (h.mem h0 (by omega)) (h.mem (by omega) h2) (by omega)]
  cases pref ns p.1 p.2 <;> rfl
theorem filter_take {α : Type} (f : α → Bool) {l : List α} {i : Nat} {x : α} (h : l[i]? = some x) : (l.take (i + 1)).filter f = (l.take i).filter f ++ if f x = true then [x] else [] := by
  rw [List.take_add_one, h, List.filter_append]
  show _ ++ ([x].filter f) = _
  cases e : f x <;> simp [e]
theorem diffs_sub {n : Nat} {one other : List Int} {p : Int × Int} (h : p ∈ diffs n one other) : p ∈ pairs n := (List.mem_filter.mp h).1
theorem prow_len (n a : Nat) : (prow n a).length = n - (a + 1) := by
  unfold prow; rw [List.length_map, List.length_range]
theorem flat_len (n : Nat) : ∀ i : Nat, ((List.range i).flatMap (prow n)).length ≤ i * n
  | 0 => by simp
  | i + 1 => by
    have ih := flat_len n i
    rw [flat_succ, List.length_append, prow_len, Nat.succ_mul]
    omega
theorem pairs_len (n : Nat) : (pairs n).length ≤ n * n := flat_len n n
/-! ### exchanging neighbours, drawing -/
theorem perm_swap {ns : List Int} {k : Nat} {x y : Int} (hx : ns[k]? = some x) (hy : ns[k + 1]? = some y) : (ns.take k ++ ([y, x] ++ ns.drop (k + 2))).Perm ns := by
  have e : ns = ns.take k ++ (x :: y :: ns.drop (k + 2)) := by
    have h1 : k < ns.length := (List.getElem?_eq_some_iff.mp hx).1
    have h2 : k + 1 < ns.length := (List.getElem?_eq_some_iff.mp hy).1
    have a1 : ns.drop k = x :: ns.drop (k + 1) := by
      rw [List.drop_eq_getElem_cons h1, (List.getElem?_eq_some_iff.mp hx).2]
    have a2 : ns.drop (k + 1) = y :: ns.drop (k + 2) := by
      rw [List.drop_eq_getElem_cons h2, (List.getElem?_eq_some_iff.mp hy).2]
    rw [← a2, ← a1, List.take_append_drop]
  refine List.Perm.trans ?_ (List.Perm.of_eq e.symm)
  exact List.Perm.append_left _ (List.Perm.swap x y _)
theorem perm_erase {l : List Int} {j : Nat} {z : Int} (h : l[j]? = some z) : (z :: l.eraseIdx j).Perm l := by
  obtain ⟨hj, e⟩ := List.getElem?_eq_some_iff.mp h
  have e1 : l = l.take j ++ z :: l.drop (j + 1) := by
    rw [← e, ← List.drop_eq_getElem_cons hj, List.take_append_drop]
  have e2 : l.eraseIdx j = l.take j ++ l.drop (j + 1) := List.eraseIdx_eq_take_drop_succ l j
  rw [e2]
  refine List.Perm.trans ?_ (List.Perm.of_eq e1.symm)
  exact (List.perm_middle).symm
end TR
namespace TR
/-! ### swaps of neighbours, the way from one ranking to another -/
def swp (ns : List Int) (k : Nat) : List Int := ns.take k ++ ([ns.getD (k + 1) 0, ns.getD k 0] ++ ns.drop (k + 2))
def wrongN (ns ms : List Int) : List Nat := (List.range (ns.length - 1)).filter fun k => pref ms (ns.getD (k + 1) 0) (ns.getD k 0)
def wrongs (ns ms : List Int) : List Int := (wrongN ns ms).map fun k : Nat => (k : Int)
theorem getD_of {ns : List Int} {k : Nat} (h : k < ns.length) : ns.getD k 0 = ns[k] := by
  rw [List.getD_eq_getElem?_getD, List.getElem?_eq_getElem h]
  rfl
theorem swp_split {ns : List Int} {k : Nat} (h : k + 1 < ns.length) : ns = ns.take k ++ (ns.getD k 0 :: ns.getD (k + 1) 0 :: ns.drop (k + 2)) := by
  rw [getD_of h, getD_of (by omega)]
  have a1 : ns.drop k = ns[k] :: ns.drop (k + 1) := List.drop_eq_getElem_cons (by omega)
  have a2 : ns.drop (k + 1) = ns[k + 1] :: ns.drop (k + 2) := List.drop_eq_getElem_cons h
  rw [← a2, ← a1, List.take_append_drop]
theorem swp_rank {n : Nat} {ns : List Int} {k : Nat} (r : Rank n ns) (h : k + 1 < n) : Rank n (swp ns k) := by
  have hl := r.len
  refine List.Perm.trans ?_ r
  refine List.Perm.trans ?_ (List.Perm.of_eq (swp_split (ns := ns) (k := k) (by omega)).symm)
  exact List.Perm.append_left _ (List.Perm.swap _ _ _)
theorem mem_wrongN {ns ms : List Int} {k : Nat} : k ∈ wrongN ns ms ↔ k + 1 < ns.length ∧ pref ms (ns.getD (k + 1) 0) (ns.getD k 0) = true := by
  unfold wrongN
  rw [List.mem_filter, List.mem_range]
  constructor
  · rintro ⟨a, b⟩
    exact ⟨by omega, b⟩
  · rintro ⟨a, b⟩
    exact ⟨by omega, b⟩
/-! ### inversions -/
def invN : List Nat → Nat
  | [] => 0
  | x :: r => r.countP (fun y => decide (y < x)) + invN r
theorem invN_swap {x y : Nat} (h : x < y) (t : List Nat) : ∀ p : List Nat, invN (p ++ x :: y :: t) + 1 = invN (p ++ y :: x :: t)
  | [] => by
    show List.countP _ (y :: t) + (List.countP _ t + invN t) + 1 = List.countP _ (x :: t) + (List.countP _ t + invN t)
    rw [List.countP_cons_of_neg (by simp; omega), List.countP_cons_of_pos (by simp; omega)]
    omega
  | a :: p => by
    show List.countP _ (p ++ x :: y :: t) + invN (p ++ x :: y :: t) + 1 = List.countP _ (p ++ y :: x :: t) + invN (p ++ y :: x :: t)
    have ih := invN_swap h t p
    have e : List.countP (fun z => decide (z < a)) (p ++ x :: y :: t) = List.countP (fun z => decide (z < a)) (p ++ y :: x :: t) := List.Perm.countP_eq _ (List.Perm.append_left _ (List.Perm.swap _ _ _))
    rw [e]
    omega
theorem invN_le : ∀ l : List Nat, invN l ≤ l.length * l.length
  | [] => Nat.le_refl _
  | x :: r => by
    have ih := invN_le r
    have h : r.countP (fun y => decide (y < x)) ≤ r.length := List.countP_le_length
    show List.countP _ r + invN r ≤ (r.length + 1) * (r.length + 1)
    rw [Nat.succ_mul, Nat.mul_succ]
    omega
def dist (ns ms : List Int) : Nat := invN (ns.map ms.idxOf)
theorem dist_swap {n : Nat} {ns ms : List Int} {k : Nat} (r : Rank n ns) (h : k ∈ wrongN ns ms) : dist (swp ns k) ms + 1 = dist ns ms := by
  obtain ⟨h1, h2⟩ := mem_wrongN.mp h
  have e := swp_split h1
  have h3 : ms.idxOf (ns.getD (k + 1) 0) < ms.idxOf (ns.getD k 0) := of_decide_eq_true h2
  have e2 : dist ns ms = invN ((ns.take k).map ms.idxOf ++ (ms.idxOf (ns.getD k 0) :: ms.idxOf (ns.getD (k + 1) 0) :: (ns.drop (k + 2)).map ms.idxOf)) := by
    have g := congrArg (fun l : List Int => invN (l.map ms.idxOf)) e
    rw [List.map_append] at g
    exact g
  have e3 : dist (swp ns k) ms = invN ((ns.take k).map ms.idxOf ++ (ms.idxOf (ns.getD (k + 1) 0) :: ms.idxOf (ns.getD k 0) :: (ns.drop (k + 2)).map ms.idxOf)) := by
    unfold dist swp
    rw [List.map_append]
    rfl
  rw [e2, e3]
  exact invN_swap h3 _ _
theorem dist_le {n : Nat} {ns : List Int} (ms : List Int) (r : Rank n ns) : dist ns ms ≤ n * n := by
  have h := invN_le (ns.map ms.idxOf)
  rw [List.length_map, r.len] at h
  exact h
/-! ### no wrong place: the end -/
theorem wrong_nil {n : Nat} {ns ms : List Int} (r : Rank n ns) (s : Rank n ms) (h : wrongN ns ms = []) : ns = ms := by
  have ln := r.len
  have lm := s.len
  have memM : ∀ k, k < n → ns.getD k 0 ∈ ms := fun k hk => by
    rw [getD_of (by omega)]
    have b := r.bnd (List.getElem_mem (show k < ns.length by omega))
    exact s.mem b.1 b.2
  have up : ∀ k, k + 1 < n → ms.idxOf (ns.getD k 0) < ms.idxOf (ns.getD (k + 1) 0) := fun k hk => by
    have hn : ¬ ms.idxOf (ns.getD (k + 1) 0) < ms.idxOf (ns.getD k 0) := fun hlt => by
      have : k ∈ wrongN ns ms := mem_wrongN.mpr ⟨by omega, decide_eq_true hlt⟩
      rw [h] at this
      cases this
    have hne : ms.idxOf (ns.getD k 0) ≠ ms.idxOf (ns.getD (k + 1) 0) := fun e => by
      rcases idx_inj (memM k (by omega)) e with e2 | e2
      · rw [getD_of (by omega), getD_of (by omega)] at e2
        have := (List.getElem_inj r.nodup).mp e2
        omega
      · exact e2 (memM (k + 1) hk)
    omega
  have lo : ∀ k, k < n → k ≤ ms.idxOf (ns.getD k 0) := fun k => by
    induction k with
    | zero => intro _; exact Nat.zero_le _
    | succ k ih =>
      intro hk
      have := ih (by omega)
      have := up k hk
      omega
  have bd : ∀ k, k < n → ms.idxOf (ns.getD k 0) < n := fun k hk => by
    have := List.idxOf_lt_length_of_mem (memM k hk)
    omega
  have hi : ∀ d k, k + d + 1 = n → ms.idxOf (ns.getD k 0) ≤ k := fun d => by
    induction d with
    | zero =>
      intro k hk
      have := bd k (by omega)
      omega
    | succ d ih =>
      intro k hk
      have := ih (k + 1) (by omega)
      have := up k (by omega)
      omega
  refine List.ext_getElem (by omega) fun k h1 h2 => ?_
  have e : ms.idxOf (ns.getD k 0) = k := by
    have a := lo k (by omega)
    have b := hi (n - 1 - k) k (by omega)
    omega
  have g := at_idx (memM k (by omega))
  rw [e, List.getElem?_eq_getElem h2, getD_of h1] at g
  exact (Option.some.inj g).symm
theorem wrong_self {n : Nat} {ms : List Int} (s : Rank n ms) : wrongN ms ms = [] := by
  refine List.filter_eq_nil_iff.mpr fun k hk => ?_
  have hk' := List.mem_range.mp hk
  rw [getD_of (by omega), getD_of (by omega)]
  have e1 := idx_at s.nodup (List.getElem?_eq_getElem (show k < ms.length by omega))
  have e2 := idx_at s.nodup (List.getElem?_eq_getElem (show k + 1 < ms.length by omega))
  unfold pref
  rw [e1, e2]
  simp
/-! ### the way -/
def stp (ms r : List Int) : List Int := match wrongN r ms with
  | [] => r
  | k :: _ => swp r k
def itr (ms ns : List Int) : Nat → List Int
  | 0 => ns
  | j + 1 => stp ms (itr ms ns j)
def Pth (ns ms : List Int) (rows : List (List Int)) : Prop := ∃ j, rows = (List.range (j + 1)).map (itr ms ns) ∧ itr ms ns j = ms ∧ ∀ i, i < j → itr ms ns i ≠ ms
theorem Pth.uniq {ns ms : List Int} {r s : List (List Int)} (a : Pth ns ms r) (b : Pth ns ms s) : r = s := by
  obtain ⟨i, e1, e2, e3⟩ := a
  obtain ⟨j, f1, f2, f3⟩ := b
  have : i = j := by
    rcases Nat.lt_trichotomy i j with h | h | h
    · exact absurd e2 (f3 i h)
    · exact h
    · exact absurd f2 (e3 j h)
  subst this
  rw [e1, f1]
theorem itr_rank {n : Nat} {ns ms : List Int} (r : Rank n ns) : ∀ j, Rank n (itr ms ns j)
  | 0 => r
  | j + 1 => by
    have ih := itr_rank (ms := ms) r j
    show Rank n (stp ms (itr ms ns j))
    unfold stp
    cases e : wrongN (itr ms ns j) ms with
    | nil => exact ih
    | cons k t =>
      have := (mem_wrongN (ns := itr ms ns j) (ms := ms) (k := k)).mp (by rw [e]; exact List.mem_cons_self)
      exact swp_rank ih (by have := ih.len; omega)
theorem itr_succ {ms ns : List Int} {j k : Nat} {t : List Nat} (e : wrongN (itr ms ns j) ms = k :: t) : itr ms ns (j + 1) = swp (itr ms ns j) k := by
  show stp ms (itr ms ns j) = _
  unfold stp
  rw [e]
theorem wrong_ne {n : Nat} {ns ms : List Int} {k : Nat} {t : List Nat} (s : Rank n ms) (e : wrongN ns ms = k :: t) : ns ≠ ms := fun h => by
  subst h
  rw [wrong_self s] at e
  cases e
end TR
namespace TR
/-! ### ascending tuples -/
def nxt0 (r : List Int) : Int := match r.getLast? with
  | none => 0
  | some x => x + 1
theorem nxt0_nil : nxt0 [] = 0 := rfl
theorem nxt0_app (r : List Int) (x : Int) : nxt0 (r ++ [x]) = x + 1 := by
  unfold nxt0
  rw [List.getLast?_concat]
def ext (n : Nat) (r : List Int) : List (List Int) := (List.range ((n : Int) - nxt0 r).toNat).map fun j : Nat => r ++ [nxt0 r + (j : Int)]
def atup (n : Nat) : Nat → List (List Int)
  | 0 => [[]]
  | k + 1 => (atup n k).flatMap (ext n)
theorem mem_ext {n : Nat} {r s : List Int} (h : s ∈ ext n r) : ∃ x : Int, s = r ++ [x] ∧ nxt0 r ≤ x ∧ x < (n : Int) := by
  obtain ⟨j, hj, rfl⟩ := List.mem_map.mp h
  have := List.mem_range.mp hj
  exact ⟨_, rfl, by omega, by omega⟩
theorem ext_mem {n : Nat} {r : List Int} {x : Int} (h1 : nxt0 r ≤ x) (h2 : x < (n : Int)) : r ++ [x] ∈ ext n r := by
  refine List.mem_map.mpr ⟨(x - nxt0 r).toNat, List.mem_range.mpr (by omega), ?_⟩
  rw [show nxt0 r + (((x - nxt0 r).toNat : Nat) : Int) = x by omega]
structure AtOk (n k : Nat) (r : List Int) : Prop where
  len : r.length = k
  bnd : ∀ x ∈ r, 0 ≤ x ∧ x < nxt0 r ∧ x < (n : Int)
  pw : r.Pairwise (· < ·)
  lo : 0 ≤ nxt0 r ∧ nxt0 r ≤ (n : Int)
theorem atup_ok {n : Nat} : ∀ {k : Nat} {r : List Int}, r ∈ atup n k → AtOk n k r
  | 0, r, h => by
    cases List.mem_singleton.mp h
    exact ⟨rfl, (fun x hx => by cases hx), List.Pairwise.nil, Int.le_refl _, by rw [nxt0_nil]; omega⟩
  | k + 1, r, h => by
    obtain ⟨s, hs, hr⟩ := List.mem_flatMap.mp h
    obtain ⟨x, rfl, h1, h2⟩ := mem_ext hr
    obtain ⟨a, b, c, d⟩ := atup_ok hs
    refine ⟨by rw [List.length_append, a]; rfl, fun y hy => ?_, ?_, ?_⟩
    · rw [nxt0_app]
      rcases List.mem_append.mp hy with hy | hy
      · have := b y hy
        omega
      · rw [List.mem_singleton] at hy
        omega
    · refine List.pairwise_append.mpr ⟨c, List.pairwise_singleton _ _, fun y hy z hz => ?_⟩
      rw [List.mem_singleton] at hz
      have := b y hy
      omega
    · rw [nxt0_app]
      omega
theorem take_flat {α β : Type} (f : α → List β) {l : List α} {j : Nat} {r : α} (h : l[j]? = some r) : (l.take (j + 1)).flatMap f = (l.take j).flatMap f ++ f r := by
  rw [List.take_add_one, h, List.flatMap_append]
  simp
theorem take_flat_len {α β : Type} (f : α → List β) (l : List α) (j : Nat) : ((l.take j).flatMap f).length ≤ (l.flatMap f).length := by
  have e : l.flatMap f = (l.take j).flatMap f ++ (l.drop j).flatMap f := by
    rw [← List.flatMap_append, List.take_append_drop]
  rw [e, List.length_append]
  omega
theorem atup_one (n : Nat) : atup n 1 = (List.range n).map fun i : Nat => [(i : Int)] := by
  show [[]].flatMap (ext n) = _
  rw [List.flatMap_cons, List.flatMap_nil, List.append_nil]
  unfold ext
  rw [nxt0_nil, show ((n : Int) - 0).toNat = n by omega]
  refine congrArg (fun g => (List.range n).map g) (funext fun i => ?_)
  rw [Int.zero_add]
  rfl
theorem atup_two (n : Nat) : atup n 2 = (pairs n).map fun p => [p.1, p.2] := by
  show (atup n 1).flatMap (ext n) = _
  rw [atup_one, List.flatMap_map]
  unfold pairs
  rw [List.map_flatMap]
  refine congrArg (fun g => (List.range n).flatMap g) (funext fun i => ?_)
  unfold ext prow
  rw [List.map_map]
  have e : nxt0 [(i : Int)] = (i : Int) + 1 := nxt0_app [] _
  rw [e, show ((n : Int) - ((i : Int) + 1)).toNat = n - (i + 1) by omega]
  rfl
theorem atup2_len (n : Nat) (h : n ≤ 8) : ∀ j, j ≤ 2 → (atup n j).length ≤ 100000 := by
  intro j hj
  have l2 := pairs_len n
  have l4 : n * n ≤ 8 * 8 := Nat.mul_le_mul h h
  match j, hj with
  | 0, _ => exact (by decide : 1 ≤ 100000)
  | 1, _ => rw [atup_one, List.length_map, List.length_range]; omega
  | 2, _ => rw [atup_two, List.length_map]; omega
end TR
namespace TR
open PySem PySem.Spec PyProof.Rows L2
theorem flat_ints (ys : List Int) : (ys.map V.int).all flatV = true := by
  rw [List.all_map]; exact List.all_eq_true.mpr fun _ _ => rfl
def rTupIdx (K : PySem.W.Frag) : V → List V → Hp → VK → Prop := fun x xs H Q => ∃ p, ∃ ys : List Int, ∃ z j, x = .ref p ∧ xs = [.int z] ∧ SqT K H p (ys.map V.int) ∧ ys[j]? = some z ∧ (∀ m, m < j → ys[m]? ≠ some z) ∧ Q (.int (j : Nat)) H
section
variable {X : Cx}
/-- t.index(k), t a tuple of ints: the first place -/
theorem mt_tupIdx : MtR X "tuple.index" (fun x xs H Q => ∃ p, ∃ ys : List Int, ∃ z j, x = .ref p ∧ xs = [.int z] ∧ SqT X.K H p (ys.map V.int) ∧ ys[j]? = some z ∧ (∀ m, m < j → ys[m]? ≠ some z) ∧ Q (.int (j : Nat)) H) := by
  intro pins s σ H x xs v us Q I rx rs h
  obtain ⟨p, ys, z, j, rfl, rfl, hS, hy, hno, q⟩ := h
  cases rx
  obtain ⟨u, rfl, t, rfl⟩ := vals1 rs
  obtain ⟨its, r, pl, hz⟩ := I.tuple hS
  obtain ⟨⟨c1, dd, dt, sl⟩, ho, hc, n, hd⟩ := pl
  simp only at hc hd; subst hc; subst hd
  have hl : its.toArray.size = ys.length := by
    rw [List.size_toArray, ← r.length]; exact List.length_map _
  have hj : j < its.toArray.size := hl.symm ▸ (List.getElem?_eq_some_iff.mp hy).1
  have pick : ∀ (m : Nat) (hm : m < its.toArray.size), ∃ y t', ys[m]? = some y ∧ its.toArray[m] = Value.int y t' := fun m hm => by
    have hm2 : m < ys.length := hl ▸ hm
    obtain ⟨w, hw, t', hw'⟩ := r.get (i := m) (x := .int ys[m]) (by simp [hm2])
    refine ⟨ys[m], t', List.getElem?_eq_getElem hm2, ?_⟩
    have e := (List.getElem?_eq_some_iff.mp hw).2
    rw [← hw', ← e]; simp
  refine call_meets PySem.F.slot_tuple_index ⟨_, ho, rfl⟩ PySem.F.entry_tuple_index (PySem.F.args_tuple_index_2 _ _) (TI.tuple_indexAt p its.toArray n dd sl (.int z t) (eqU (.int z)) j hj ?_ ?_)
    ⟨ho, fun w hw => mem_eqAt (x := .int z) ⟨t, rfl⟩ rfl r (flat_ints ys) w (by simpa using hw), ⟨.int (j : Nat), H, I.tok _, ⟨_, rfl⟩, q⟩⟩
  · obtain ⟨y, t', h1, h2⟩ := pick j hj
    rw [hy] at h1; cases h1; rw [h2]
    show (z == z) = true; exact beq_self_eq_true z
  · intro m hm hmj
    obtain ⟨y, t', h1, h2⟩ := pick m hm
    rw [h2]; show (y == z) = false
    exact beq_eq_false_iff_ne.mpr fun e => hno m hmj (e ▸ h1)
end
section
variable {prog : Program} {w : World} {A : Around} {E : Value → Shared → Prop} {s : Shared}
theorem places_back (n : Nat) : Builtin.Slice.slicePlaces ((n : Int) - 1) (-1) (-1) = n := by
  unfold Builtin.Slice.slicePlaces
  rw [if_neg (show ¬ ((-1 : Int) > 0) by decide)]
  by_cases h : (n : Int) - 1 > -1
  · rw [if_pos h, show (- -1 : Int) = 1 by decide, Int.ediv_one]; omega
  · rw [if_neg h]; omega
theorem applied_back {sl : Addr} {vs : Value} {n : Nat} {Q : Int × Int × Nat → Shared → Prop} (hs : s.heap.IsSliceOf sl .none .none vs) (ps : IsPart vs (some (-1))) (h : Q ((n : Int) - 1, -1, n) s) :
    wpAny (model prog w) A (Builtin.Slice.sliceApplied (.ref sl) (pure (n : Int))) Q E s := by
  obtain ⟨os, hos, hcs, hds⟩ := id hs
  unfold Builtin.Slice.sliceApplied Builtin.Slice.sliceFields
  refine wpAny_bind (wpAny_bind (wpAny_field hos hds (x := .none) rfl (wpAny_bind (wpAny_field hos hds (x := .none) rfl (wpAny_bind (wpAny_field hos hds (x := vs) rfl (wpAny_pure ?_)))))))
  refine wpAny_bind (HT.slicePart_ ps ?_)
  show wpAny _ _ (if ((-1 : Int) == 0) = true then _ else _) _ _ s
  rw [if_neg (show ¬ (((-1 : Int) == 0) = true) by decide)]
  refine wpAny_bind (HT.slicePart_ .none (wpAny_bind (HT.slicePart_ .none (wpAny_bind (wpAny_pure ?_)))))
  show wpAny _ _ (pure ((n : Int) - 1, (-1 : Int), Builtin.Slice.slicePlaces ((n : Int) - 1) (-1) (-1))) _ _ s
  rw [places_back]; exact wpAny_pure h
theorem pick_back (xs : Array Value) : ((List.range xs.size).filterMap fun (k : Nat) => xs[((xs.size : Int) - 1 + (k : Int) * -1).toNat]?).toArray = xs.toList.reverse.toArray := by
  have e : ((List.range xs.size).filterMap fun (k : Nat) => xs[((xs.size : Int) - 1 + (k : Int) * -1).toNat]?) = ((List.range xs.size).map fun k => xs.size - 1 - k).filterMap (xs[·]?) := by
    rw [List.filterMap_map]
    refine congrArg (fun g => (List.range xs.size).filterMap g) (funext fun k => ?_)
    show xs[((xs.size : Int) - 1 + (k : Int) * -1).toNat]? = xs[xs.size - 1 - k]?
    rw [show ((xs.size : Int) - 1 + (k : Int) * -1).toNat = xs.size - 1 - k by omega]
  rw [e, PySem.W.krv_range, List.filterMap_reverse, PySem.W.krv_all]
theorem getItem_back {t sl : Addr} {items : Array Value} {vs : Value} {Q : Value → Shared → Prop} (ht : IsTup s.heap t items) (hs : s.heap.IsSliceOf sl .none .none vs) (ps : IsPart vs (some (-1)))
    (h : Q (.ref s.heap.objs.size) { s with heap := s.heap.push { cls := .type "tuple", data := .seq items.toList.reverse.toArray } }) (hsz : items.size ≤ sizeLine) : wpAny (model prog w) A (getItem (.ref t) (.ref sl)) Q E s := by
  have hok : sizeOk (.seq items.toList.reverse.toArray) := by
    show items.toList.reverse.toArray.size ≤ sizeLine
    rw [List.size_toArray, List.length_reverse]; exact hsz
  obtain ⟨os, hos, hcs, hds⟩ := id hs
  have hTs : s.TypeIs (.ref sl) "slice" := ⟨os, hos, hcs⟩
  unfold getItem
  try with_reducible refine wpAny_holding ?_
  first | refine wpAny_bind (wpAny_pure ?_) | skip
  refine wpAny_bind (wpAny_sequenceKey ht.typeIs (by decide) ?_)
  refine wpAny_bind (wpAny_callSpecial?_slot (name := Str.ofString "__getitem__") ht.typeIs PyProof.Rows.slot_tuple_getitem (wpAny_call_entry PyProof.Rows.slot_tuple_getitem ht.typeIs entry_tuple_getitem ?_ (args_tuple_getitem _ _)))
  show wpAny _ _ (Builtin.Tuple.tupleItemsOf (.ref t) >>= _) _ _ s
  refine wpAny_bind (PyProof.Rows.tupleItemsOf_ ht (wpAny_bind (wpAny_typeOf hTs ?_)))
  rw [if_pos (by decide)]
  refine wpAny_bind (applied_back hs ps ?_)
  have hno : ¬ ((((items.size : Int) - 1 == 0) && (-1 : Int) == 1 && items.size == items.size) = true) := by
    rw [show ((-1 : Int) == 1) = false by decide, Bool.and_false, Bool.false_and]; exact Bool.false_ne_true
  show wpAny _ _ (if (((items.size : Int) - 1 == 0) && (-1 : Int) == 1 && items.size == items.size) = true then _ else _) _ _ s
  rw [if_neg hno, pick_back]
  first
    | exact wpAny_bind (m := Builtin.Tuple.tupleExact _) (wpAny_newObj_type (wpAny_pure ⟨_, rfl, wpAny_pure h⟩) hok)
    | exact wpAny_bind (wpAny_bind (m := Builtin.Tuple.tupleExact _) (wpAny_newObj_type (wpAny_pure ⟨_, rfl, wpAny_pure h⟩) hok))
    | exact wpAny_bind (wpAny_bind (m := Builtin.Tuple.tupleExact _) (wpAny_newObj_type (wpAny_pure (wpAny_pure ⟨_, rfl, wpAny_pure h⟩)) hok))
end
section
variable {X : Cx}
/-- t[::-1], t a tuple: always a new one -/
def tRevT (K : PySem.W.Frag) (te : TE) : TE := fun σ H Q => te σ H fun x H1 => ∃ a xs, x = .ref a ∧ SqT K H1 a xs ∧ ∀ p o, H1 p = none → o.dict = none → Q (.ref p) (upd H1 p (.frz o (.tup xs.reverse)))
theorem pe_revT {e : Expr} {te : TE} {k : Nat} {p1 p2 p3 pos : Pos} (he : PE X e te) : PE X (.Subscript e (.Slice none none (some (.UnaryOp .USub (.Constant (.int 1) k p1) p2)) p3) pos) (tRevT X.K te) := by
  refine ⟨fun pins s σ H Q I h => Subscript_ (thn (he.run pins s σ H _ I h) fun v s1 ⟨x, H1, I1, r1, a, xs, ex, hx, q⟩ => ?_)⟩
  subst ex; cases r1
  have hst : PO X (some (.UnaryOp .USub (.Constant (.int 1) k p1) p2)) (tPart (tUn (rU fun i => .int (-i)) (tC (.int 1)))) := po_some (pe_un un_neg pe_int)
  refine wpAny_Slice (thn (po_none.run pins s1 σ H1 (fun o G => o = none ∧ G = H1) I1 ⟨rfl, rfl⟩) fun vl s2 ⟨l, H2, I2, pl, el, e2⟩ => ?_)
  subst el e2
  refine thn (po_none.run pins s2 σ H2 (fun o G => o = none ∧ G = H2) I2 ⟨rfl, rfl⟩) fun vu s3 ⟨u, H3, I3, pu, eu, e3⟩ => ?_
  subst eu e3
  refine thn (hst.run pins s3 σ H3 (fun o G => o = some (-1) ∧ G = H3) I3 ⟨1, rfl, -1, rfl, rfl, rfl⟩) fun vs s4 ⟨o, H4, I4, ps, eo, e4⟩ => ?_
  subst eo e4
  cases pl; cases pu
  have I5 : Inv X pins σ H4 { s4 with heap := s4.heap.push { cls := .type "slice", data := .fields #[.none, .none, vs] } } := I4.kept (t' := s4.toks) fun b ob q => Heap.get?_push_of_some _ q
  obtain ⟨its, r, ht, hz⟩ := I5.tuple hx
  have hlen := r.length
  show wpAny (model X.prog X.w) X.A (subscriptTail e (.Slice none none (some (.UnaryOp .USub (.Constant (.int 1) k p1) p2)) p3) (.ref a) (.ref s4.heap.objs.size)) (EP X pins σ Q) X.xe { s4 with heap := s4.heap.push { cls := .type "slice", data := .fields #[.none, .none, vs] } }
  refine tail_any (ops := [.ref a, .ref s4.heap.objs.size]) ht.typeIs (PyProof.Rows.slot_tuple_getitem.lookup) ?_ (by with_unfolding_all rfl)
  refine getItem_back ht (Heap.IsSliceOf.new _ .none .none vs) ps ?_ (by rw [List.size_toArray]; omega)
  refine ⟨.ref _, _, I5.laid (t' := s4.toks) (o := .frz { cls := .type "tuple", data := .seq its.toArray.toList.reverse.toArray } (.tup xs.reverse)) (fun b ob q => Heap.get?_push_of_some _ q) (Nat.le_refl _) ?_, rfl, q _ _ (I5.hok.fresh (Nat.le_refl _)) rfl⟩
  exact ⟨Heap.get?_push_size _ rfl, by rw [List.length_reverse]; exact hz, _, r.reverse, IsTup.new _ _⟩
/-- tuple(a list): the new tuple, as the very object -/
theorem call_tupleF : CallR X (.type "tuple") (fun xs H Q => ∃ p ys, xs = [.ref p] ∧ SqL X.K H p ys ∧ ∀ l o, H l = none → o.dict = none → Q (.ref l) (upd H l (.frz o (.tup ys)))) := by
  intro pins s σ H xs us Q I r ⟨p, ys, ex, hS, q⟩
  subst ex
  obtain ⟨u, rfl, rx⟩ := vals1 r
  cases rx
  obtain ⟨its, r', pl, hz⟩ := I.list hS
  have hlen := r'.length
  refine call_tuple_list pl.isList (fun h' kp => ?_) (by simp only [List.size_toArray] <;> omega)
  have I1 : Inv X pins σ H { s with heap := h' } := I.kept (t' := s.toks) kp
  exact ⟨.ref h'.objs.size, _, I1.laid (t' := s.toks) (o := .frz { cls := .type "tuple", data := .seq its.toArray } (.tup ys)) (fun b o e => Heap.get?_push_of_some _ e) (Nat.le_refl _) ⟨Heap.get?_push_size _ rfl, hz, its, r', IsTup.new _ _⟩, rfl, q _ _ (I1.hok.fresh (Nat.le_refl _)) rfl⟩
/-- (a, b, ..): the same -/
def tTupF (t : TA) : TE := fun σ H Q => t σ H fun xs H1 => xs.length ≤ sizeLine ∧ ∀ p o, H1 p = none → o.dict = none → Q (.ref p) (upd H1 p (.frz o (.tup xs)))
theorem pe_tupF {es : List Expr} {t : TA} {pos : Pos} {x1} (h : PA X es t) : PE X (.Tuple es x1 pos) (tTupF t) := by
  refine ⟨fun pins s σ H Q I hq => wpAny_Tuple_spliced (thn (h.run pos pins s σ H _ I hq) fun us s1 ⟨xs, H1, I1, r, z, q⟩ => ⟨by rw [← r.length]; exact z, ?_⟩)⟩
  exact ⟨.ref s1.heap.objs.size, _, I1.laid (t' := s1.toks) (o := .frz { cls := .type "tuple", data := .seq us.toArray } (.tup xs)) (fun b u e => Heap.get?_push_of_some _ e) (Nat.le_refl _) ⟨Heap.get?_push_size _ rfl, z, us, r, IsTup.new _ _⟩, rfl, q _ _ (I1.hok.fresh (Nat.le_refl _)) rfl⟩
/-- t + u -/
def rCatF (K : PySem.W.Frag) : R2 := fun x y H Q => ∃ a b xs ys, x = .ref a ∧ y = .ref b ∧ SqT K H a xs ∧ SqT K H b ys ∧ xs.length + ys.length ≤ sizeLine ∧
  (xs = [] → Q (.ref b) H) ∧ (xs ≠ [] → ys = [] → Q (.ref a) H) ∧ (xs ≠ [] → ys ≠ [] → ∀ p o, H p = none → o.dict = none → Q (.ref p) (upd H p (.frz o (.tup (xs ++ ys)))))
theorem op_catF : OpR X (binaryOp .Add) (rCatF X.K) := by
  intro pins s σ H x y v u Q I rx ry ⟨a, b, xs, ys, ex, ey, ha, hb, hz, q0, q1, q2⟩
  subst ex ey; cases rx; cases ry
  obtain ⟨its, r1, p1, _⟩ := I.tuple ha
  obtain ⟨its2, r2, p2, _⟩ := I.tuple hb
  by_cases hx : xs = []
  · subst hx; cases r1
    exact cat_tup0 p1 p2 ⟨.ref b, H, I, rfl, q0 rfl⟩
  · refine HT.cat_tup p1 p2 (fun z => hx (r1.nil_iff.mp z)) (fun z => ⟨.ref a, H, I, rfl, q1 hx (r2.nil_iff.mp z)⟩) (fun z => ?_) (by rw [← r1.length, ← r2.length]; exact hz)
    exact ⟨.ref s.heap.objs.size, _, I.laid (t' := s.toks) (o := .frz { cls := .type "tuple", data := .seq (its ++ its2).toArray } (.tup (xs ++ ys))) (fun b ob q => Heap.get?_push_of_some _ q) (Nat.le_refl _)
      ⟨Heap.get?_push_size _ rfl, by rw [List.length_append]; exact hz, _, r1.append r2, IsTup.new _ _⟩, rfl, q2 hx (fun w => z (r2.nil_iff.mpr w)) _ _ (I.hok.fresh (Nat.le_refl _)) rfl⟩
/-- t[lo:hi] -/
def rSlF (K : PySem.W.Frag) : V → Option Int → Option Int → Hp → VK → Prop := fun x lo hi H Q => ∃ a xs, x = .ref a ∧ SqT K H a xs ∧
  (HT.sIx xs.length 0 lo = 0 ∧ HT.sIx xs.length xs.length hi = xs.length → Q (.ref a) H) ∧
  (¬ (HT.sIx xs.length 0 lo = 0 ∧ HT.sIx xs.length xs.length hi = xs.length) → ∀ p o, H p = none → o.dict = none → Q (.ref p) (upd H p (.frz o (.tup (cutV xs lo hi)))))
theorem sl_tupF : SlR X (rSlF X.K) := by
  intro pins s σ H x v vl vu lo hi sl Q I rx hs pl pu ⟨a, xs, ex, hx, q1, q2⟩
  subst ex; cases rx
  obtain ⟨its, r, ht, hz⟩ := I.tuple hx
  have hlen : its.toArray.size = xs.length := List.size_toArray.trans r.length.symm
  refine ⟨"tuple", _, PyProof.Rows.slot_tuple_getitem.lookup, ht.typeIs, ?_⟩
  by_cases hw : HT.sIx xs.length 0 lo = 0 ∧ HT.sIx xs.length xs.length hi = xs.length
  · exact getItem_tuple_whole ht hs pl pu (by rw [hlen]; exact hw) ⟨.ref a, H, I, rfl, q1 hw⟩
  · refine HT.getItem_tuple_cut ht hs pl pu (by rw [hlen]; exact hw) ?_ (by rw [hlen]; exact hz)
    rw [hlen]
    exact ⟨.ref s.heap.objs.size, _, I.laid (t' := s.toks) (o := .frz { cls := .type "tuple", data := .seq ((its.toArray.toList.drop (HT.sIx xs.length 0 lo)).take (HT.sIx xs.length xs.length hi - HT.sIx xs.length 0 lo)).toArray } (.tup (cutV xs lo hi))) (fun b ob q => Heap.get?_push_of_some _ q) (Nat.le_refl _)
      ⟨Heap.get?_push_size _ rfl, Nat.le_trans (cutV_length xs lo hi) hz, _, (r.drop (HT.sIx xs.length 0 lo)).take (HT.sIx xs.length xs.length hi - HT.sIx xs.length 0 lo), IsTup.new _ _⟩, rfl, q2 hw _ _ (I.hok.fresh (Nat.le_refl _)) rfl⟩
/-- t.m(e, ..), t a tuple that stands as the very object, without a dict of its own -/
def tBMT (r : V → List V → Hp → VK → Prop) (to : TE) (t : TA) : TE := fun σ H Q => to σ H fun x H1 => (∃ p ob ys, x = .ref p ∧ ob.dict = none ∧ H1 p = some (.frz ob (.tup ys))) ∧ t σ H1 fun xs H2 => r x xs H2 Q
theorem pe_bmT {o e : Expr} {es : List Expr} {to : TE} {t : TA} {name : Str} {apos cpos : Pos} {id : String} {r : V → List V → Hp → VK → Prop} (slot : Slot "tuple" name id) (hty : typeOf (.builtin id) = pure (.type "method_descriptor")) (hm : MtR X id r) (ho : PE X o to) (ha : PA X (e :: es) t)
    (hbase : attributeBase o name X.env (eval o X.env) = eval o X.env := by rfl)
    (hfew : ((backTo cpos (starEach (e :: es) X.env)).all (fun x => !x.1) && (backToKw cpos (keywordEach [] X.env)).all (fun x => x.1.isSome) && decide ((e :: es).length + ([] : List Keyword).length + (if ([] : List Keyword).isEmpty then 0 else 1) < 30)) = true := by rfl)
    (hline : (apos.endLine == cpos.line) = true := by rfl) (hs : starEach (e :: es) X.env = (false, eval e X.env) :: starEach es X.env := by rfl) (hplain : (backTo cpos (starEach es X.env)).any (·.1) = false := by rfl) :
    PE X (.Call (.Attribute o name apos) (e :: es) [] cpos) (tBMT r to t) := by
  refine ⟨fun pins s σ H Q I h => wpAny_Call_method_late hbase hfew hline rfl (thn (ho.run pins s σ H _ I h) fun v s1 ⟨x, H1, I1, r1, ⟨p, ob, ys, ex, hd, hp⟩, q1⟩ => ?_)⟩
  subst ex
  cases (show v = Value.ref p from r1)
  obtain ⟨g, z, its, rv, o', g', c', _⟩ := (show ObjOk X.prog X.w H1 s1.heap p (.frz ob (.tup ys)) from I1.hok p _ hp)
  refine ⟨"tuple", id, PySem.F.plainAttrs_tuple, slot, hty, ⟨o', g', c'⟩, fun a e => by cases e; exact ⟨ob, g, hd⟩, ?_⟩
  have hA := ha.run cpos pins s1 σ H1 _ I1 q1
  rw [hs] at hA ⊢
  refine Calls.callWith_builtin (by show (false || (backTo cpos (starEach es X.env)).any (·.1)) = false; rw [hplain] <;> rfl) (Calls.evalArgs_plain (thn hA fun us s2 ⟨vs, H2, I2, r2, q2⟩ => ?_))
  exact hm pins s2 σ H2 (.ref p) vs (.ref p) us Q I2 rfl r2 q2
end
end TR
namespace TR
open PySem PySem.Spec PyProof.Rows L2
section
variable {prog : Program} {w : World} {A : Around} {E : Value → Shared → Prop} {s : Shared}
/-- what a tuple is collected into -/
theorem collect_tup {t : Addr} {vs : List Value} {Q : List Value → Shared → Prop} (ht : IsTup s.heap t vs.toArray) (h : Q vs { s with heap := (s.heap.push (seqObj "list" #[] 0)).update s.heap.objs.size (Obj.mapSeq (· ++ vs.toArray)) }) (hsz : vs.length ≤ sizeLine) : wpAny (model prog w) A (collect (.ref t)) Q E s := by
  obtain ⟨o, ho, hc, n, hd⟩ := id ht
  have ho2 : (s.heap.push (seqObj "list" #[] 0)).get? t = some o := Heap.get?_push_of_some _ ho
  unfold collect; refine wpAny_bind (wpAny_runValue (codeAny_builtin entry_proto_collect' ?_))
  show wpAny _ _ (do again (.builtin "list.__iadd__" ⟨[← newList [], .ref t], []⟩)) _ _ s
  refine wpAny_bind (wpAny_newList (wpAny_pure ⟨Code.quiet_builtin _ (by decide +kernel), codeAny_builtin entry_list_iadd' ?_⟩) (Nat.zero_le _))
  show wpAny _ _ (Builtin.List.listExtendWith (.ref s.heap.objs.size) (.ref t) (.ref s.heap.objs.size)) _ _ { s with heap := s.heap.push (seqObj "list" #[] 0) }
  unfold Builtin.List.listExtendWith; refine wpAny_bind (wpAny_typeOf (T := "tuple") ⟨o, ho2, hc⟩ ?_)
  have hy : (Value.type "tuple" == Value.type "tuple") = true := rfl
  rw [if_pos (by rw [hy]; simp)]; refine wpAny_bind (listItems_at ho2 hd ?_)
  refine wpAny_bind (listItems_at (xs := #[]) (n := 0) (Heap.get?_push_size _ rfl) rfl ?_); rw [if_neg (by simp)]
  refine wpAny_bind (listUpdate_at (xs := #[]) (n := 0) (Heap.get?_push_size _ rfl) rfl (wpAny_pure ?_) (Nat.zero_le _) (by show (#[] ++ vs.toArray).size ≤ sizeLine + 1; simp only [Array.size_append, List.size_toArray, List.length_nil]; omega))
  show wpAny (model prog w) A (load s.heap.objs.size >>= fun ob => match ob.data with | .seq xs _ => pure xs.toList | _ => unsupported "internal:collect") Q E { s with heap := (s.heap.push (seqObj "list" #[] 0)).update s.heap.objs.size (Obj.mapSeq (· ++ vs.toArray)) }
  refine wpAny_bind (wpAny_load (get?_update_seq (Heap.get?_push_size _ rfl) _) ?_)
  show wpAny _ _ (pure ((#[] : Array Value) ++ vs.toArray).toList) Q E _; rw [show ((#[] : Array Value) ++ vs.toArray).toList = vs by simp]; exact wpAny_pure h
/-- sorted of a tuple -/
theorem sorted_tupO {t : Addr} {vs : List Value} {ltv : Value → Value → Bool} {Q : Value → Shared → Prop} (O : SrtO.Swo ltv) (ht : IsTup s.heap t vs.toArray) (hz : vs.length ≤ sizeLine)
    (hS : 2 ≤ vs.length → ∀ (g : Heap) (a : Addr), g.get? a = some (seqObj "list" vs.toArray 0) → (∀ b o, s.heap.get? b = some o → b ≠ a ∧ g.get? b = some o) → SrtO.SortableO prog w A.in1.in1 { s with heap := g } a vs ltv)
    (h : ∀ out : List Value, SrtO.Srtd ltv out → SrtO.Stb ltv out vs → Q (.ref (s.heap.objs.size + 1)) { s with heap := sortedAll s.heap vs out.toArray }) : wpAny (model prog w) A (call (.builtin "sorted") [.ref t]) Q E s := by
  refine Calls.call_function_entry kind_sorted plain_sorted entry_sorted (args_sorted1 _) ?_
  unfold Builtin.«sorted»; refine wpAny_bind (m := checkCount "sorted" 1 1 _) (wpAny_pure (wpAny_bind (collect_tup ht (wpAny_bind (wpAny_newList ?_ hz)) hz)))
  have hn : ((s.heap.push (seqObj "list" #[] 0)).update s.heap.objs.size (Obj.mapSeq (· ++ vs.toArray))).objs.size = s.heap.objs.size + 1 := by rw [Heap.size_update]; simp [Heap.push]
  have hL : (((s.heap.push (seqObj "list" #[] 0)).update s.heap.objs.size (Obj.mapSeq (· ++ vs.toArray))).push (seqObj "list" vs.toArray 0)).get? (s.heap.objs.size + 1) = some (seqObj "list" vs.toArray 0) := hn ▸ Heap.get?_push_size _ rfl
  have kp : ∀ b o, s.heap.get? b = some o → b ≠ s.heap.objs.size + 1 ∧ (((s.heap.push (seqObj "list" #[] 0)).update s.heap.objs.size (Obj.mapSeq (· ++ vs.toArray))).push (seqObj "list" vs.toArray 0)).get? b = some o := fun b o q =>
    ⟨Nat.ne_of_lt (Nat.lt_succ_of_lt (Heap.lt_size q)), Heap.get?_push_of_some _ (by rw [Heap.get?_update_ne _ _ _ _ (Nat.ne_of_lt (Heap.lt_size q))]; exact Heap.get?_push_of_some _ q)⟩
  show wpAny _ _ _ _ _ { s with heap := ((s.heap.push (seqObj "list" #[] 0)).update s.heap.objs.size (Obj.mapSeq (· ++ vs.toArray))).push (seqObj "list" vs.toArray 0) }; rw [hn]
  refine wpAny_bind (wpAny_holding (wpAny_call_entry slot_list_sort ⟨_, hL, rfl⟩ entry_list_sort (SrtO.list_sort_ord O hL hz (fun h2 => hS h2 _ _ hL kp) fun out a b => ⟨_, rfl, wpAny_pure ⟨_, rfl, h out a b⟩⟩) (args_list_sort _)))
end
section
variable {X : Cx}
/-- sorted(t), t a tuple of ints -/
def rSortedTI (K : PySem.W.Frag) : List V → Hp → VK → Prop := fun vs H Q => ∃ (a : Addr) (ns : List Int), vs = [V.ref a] ∧ SqT K H a (ns.map V.int) ∧ ∀ (ms : List Int) (p : Addr), ms.Perm ns → ms.Pairwise (· ≤ ·) → H p = none → Q (.ref p) (upd H p (.lst (ms.map V.int)))
theorem cr_sortedTI : CallR X (.builtin "sorted") (rSortedTI X.K) := by
  intro pins s σ H vs us Q I r ⟨a, ns, ev, hs, q⟩
  subst ev
  obtain ⟨its, rv, ht, hz⟩ := I.tuple hs
  rw [Vals.ref1 r]; have hi := rv.ints
  refine sorted_tupO SrtO.swo_int ht (by rw [← rv.length]; exact hz) (fun h2 g a' _ _ => SrtO.ints_sortable hi h2) fun out h1 h2 => ?_
  obtain ⟨k1, k2, k3⟩ := SrtO.ints_out hi h1 h2; obtain ⟨ep, he⟩ := PyProof.Rows.sortedAll_at s.heap its out.toArray
  have hl : ((out.map SrtO.iv).map V.int).length ≤ sizeLine := by rw [List.length_map, k2.length_eq]; rw [List.length_map] at hz; exact hz
  exact ⟨.ref _, upd H (s.heap.objs.size + 1) (.lst ((out.map SrtO.iv).map V.int)), I.laid (t' := s.toks) (fun _ _ => PyProof.Rows.sortedAll_old) (Nat.le_succ _) ⟨hl, out, ep, vals_of_ints k1, he⟩, rfl, q _ _ k2 k3 (I.hok.fresh (Nat.le_succ _))⟩
end
end TR
namespace TR
open PySem PySem.Spec PyProof.Rows L2
def topS (i : Nat) : Stmt := PySem.Challenge.pw_tasterow_k05_between.main.body.getD i (.Pass ⟨0, 0, 0, 0⟩)
abbrev sAtup : Stmt := topS 1
abbrev sPairs : Stmt := topS 3
abbrev sPref : Stmt := topS 4
abbrev sAgree : Stmt := topS 5
abbrev sBetw : Stmt := topS 6
abbrev sDeck : Stmt := topS 8
abbrev sNext : Stmt := topS 9
abbrev sOne : Stmt := topS 10
abbrev sSame : Stmt := topS 11
abbrev sList : Stmt := topS 12
abbrev sExch : Stmt := topS 13
abbrev sRoad : Stmt := topS 14
abbrev sLPairs : Stmt := topS 15
abbrev sUnlike : Stmt := topS 16
abbrev sLBetw : Stmt := topS 17
abbrev sLaw : Stmt := topS 18
end TR
namespace TR
open PySem PySem.Spec PyProof.Rows L2
theorem scDeck : FnScope ["_law_script", "_law_cells", "_law_cell"] ["_law_script"] (defScope sDeck) := ⟨rfl, rfl, rfl, by decide +kernel, rfl, by decide +kernel, by decide +kernel⟩
section
variable {P : Program} {w : World} {K : PySem.W.Frag} {mg : Str → Option Value} {base : Heap}
def spDeck (K : PySem.W.Frag) : Sp := fun vs H Q _ => ∃ (a : Addr) (ns : List Int), vs = [.ref a] ∧ SqL K H a (ns.map V.int) ∧ ns.length ≤ 63 ∧
  ∀ H' d p q, Same H H' → Deck H' d p q 0 → Q (.ref d) H'
theorem ok_deck {f : Addr} {fd : FuncData} {k : Nat} (F : Fun K "_law_deck" "_law_deck" sDeck f fd) (mabs : mg "abs" = none) (mlen : mg "len" = none) : FnOk P w K mg base CX0 (k + 1) f fd ["_law_script"] (spDeck K) := by
  refine F.ok scDeck (fun vs H Q E h => ?_) (fun cdv A outer s H vs Q E hr h => ?_)
  · obtain ⟨a, ns, rfl, _⟩ := h
    rfl
  · obtain ⟨a, ns, rfl, hS, hlen, q⟩ := h
    refine ⟨_, pss_cons (ps_setLc (i := 1) (own := [("_law_cell", 2)]) (g := gName 2) (tt := tYes) (by rfl) scDeck.nd rfl rfl (sw_true rfl rfl rfl (by decide +kernel)) (pi_list (pv 0))
        (blkOk_by (own := [("_law_cell", 2)]) (N := ["_law_script", "_law_cells", "_law_cell"]) (sc := defScope sDeck) (by decide +kernel)) (fun _ _ _ _ _ => pg_name (i := 2) scDeck.nd rfl (Or.inl rfl)) (fun _ _ _ _ _ => pts_nil)
        (fun _ _ _ _ _ => pe_callB call_abs (by rfl) mabs (by decide +kernel) (pa_cons (pv 2) pa_nil)))
      (pss_one (ps_ret (pe_lst (pa_cons
        (pe_lc (own := [("_law_cell", 2)]) (g := gName 2) (by rfl) scDeck.nd (pi_list (pv 1))
          (blkOk_by (own := [("_law_cell", 2)]) (N := ["_law_script", "_law_cells", "_law_cell"]) (sc := defScope sDeck) (by decide +kernel)) (fun _ _ _ _ _ => pg_name (i := 2) scDeck.nd rfl (Or.inl rfl))
          (fun _ _ _ _ _ => pts_one (pt_cmpR op_ge (pv 2) (pe_op op_pow pe_int pe_int) (nomark _)))
          (fun _ _ _ _ _ => pv 2))
        (pa_cons (pe_op op_cat (pv 1) (pe_lst (pa_cons (pe_op op_add (pe_callB call_len_seq (by rfl) mlen PySem.boot_len (pa_cons (pv 1) pa_nil)) pe_int) pa_nil)))
        (pa_cons pe_int pa_nil)))))), ?_⟩
    refine ⟨.ref a, rfl, a, rfl, ⟨_, hS⟩, fun D hD => lc_list (K := K) (a := a) (xs := ns.map V.int) (fun i H1 => Same H H1 ∧ ∃ zs : List Int, zs.length ≤ i ∧ H1 D = some (.lst (zs.map V.int))) ⟨same_upd hD, [], Nat.zero_le _, upd_same⟩ (fun i H1 _ h => h.1.seq hS) (fun i x H1 hx h => ?_) (fun H1 h => ?_)⟩
    · obtain ⟨sm, zs, hz, hd⟩ := h
      obtain ⟨z, hz1, rfl⟩ : ∃ z, ns[i]? = some z ∧ x = .int z := by
        rw [List.getElem?_map] at hx
        cases e : ns[i]? with
        | none => rw [e] at hx; cases hx
        | some z => rw [e] at hx; exact ⟨z, rfl, (Option.some.inj hx).symm⟩
      have hi : i < ns.length := (List.getElem?_eq_some_iff.mp hz1).1
      refine ⟨rfl, .int z, rfl, z, rfl, _, hd, ?_, same_upd2 sm hD, zs ++ [if z < 0 then -z else z], ?_, ?_⟩
      · rw [List.length_map]
        exact small1000 (by omega)
      · rw [List.length_append]
        show zs.length + 1 ≤ i + 1
        omega
      · rw [upd_same, List.map_append]
        rfl
    · obtain ⟨sm, zs, hz, hd⟩ := h
      rw [List.length_map] at hz
      refine ⟨.ref D, rfl, D, rfl, ⟨_, sqL hd⟩, fun p hp => lc_list (K := K) (a := D) (xs := zs.map V.int) (fun i H2 => Same H1 H2 ∧ ∃ ys : List Int, ys.length ≤ i ∧ H2 p = some (.lst (ys.map V.int))) ⟨same_upd hp, [], Nat.zero_le _, upd_same⟩ (fun i H2 _ h => h.1.seq (sqL hd)) (fun i x H2 hx h => ?_) (fun H2 h => ?_)⟩
      · obtain ⟨sm2, ys, hy, hd2⟩ := h
        obtain ⟨z, hz1, rfl⟩ : ∃ z, zs[i]? = some z ∧ x = .int z := by
          rw [List.getElem?_map] at hx
          cases e : zs[i]? with
          | none => rw [e] at hx; cases hx
          | some z => rw [e] at hx; exact ⟨z, rfl, (Option.some.inj hx).symm⟩
        have hi : i < zs.length := (List.getElem?_eq_some_iff.mp hz1).1
        refine ⟨rfl, .int z, rfl, 10, 18, rfl, rfl, ⟨by decide, by decide, by decide⟩, _, _, rfl, rfl, _, rfl, ite2 (fun _ => ?_) (fun _ => ?_)⟩
        · refine ⟨.int z, rfl, _, hd2, ?_, same_upd2 sm2 hp, ys ++ [z], ?_, ?_⟩
          · rw [List.length_map]
            exact small1000 (by omega)
          · rw [List.length_append]
            show ys.length + 1 ≤ i + 1
            omega
          · rw [upd_same, List.map_append]
            rfl
        · exact ⟨sm2, ys, by omega, hd2⟩
      · obtain ⟨sm2, ys, hy, hd2⟩ := h
        have hD2 : H2 D = some (.lst (zs.map V.int)) := sm2 _ _ hd
        rw [List.length_map] at hy
        refine ⟨.ref D, rfl, .ref D, rfl, D, _, rfl, .inl (sqL hD2), _, _, rfl, rfl, by show 1 ≤ sizeLine; decide, fun t ht => ?_⟩
        have nDt : D ≠ t := ne_of_none hD2 ht
        refine ⟨D, t, _, _, rfl, rfl, (by rw [upd_ne nDt]; exact hD2), upd_same, ?_, fun q' hq' => ?_⟩
        · rw [List.length_map]
          show zs.length + 1 ≤ sizeLine
          exact Nat.le_of_lt (small1000 (by omega))
        · have e : zs.map V.int ++ [V.int (((zs.map V.int).length : Int) + 5)] = (zs ++ [((zs.map V.int).length : Int) + 5]).map V.int := by
            rw [List.map_append]
            rfl
          refine ⟨by show 3 ≤ sizeLine; decide, fun d hd' => q _ d p q' ?_ ⟨ys.length, ⟨⟨ys, zs ++ [((zs.map V.int).length : Int) + 5], 0, upd_same, ?_, ?_, Int.le_refl _, Int.le_refl _, by simp, rfl⟩, ?_, ?_, ?_⟩⟩⟩
          · exact (sm.trans sm2).trans ((same_upd ht).trans ((same_upd hq').trans (same_upd hd')))
          · exact ((same_upd ht).trans ((same_upd hq').trans (same_upd hd'))) _ _ hd2
          · rw [← e]
            exact (same_upd hd') _ _ upd_same
          · exact (ne_of_none (((same_upd ht).trans (same_upd hq')) _ _ hd2) hd').symm
          · exact (ne_of_none (upd_same (H := upd H2 t _)) hd').symm
          · exact ne_of_none ((same_upd ht) _ _ hd2) hq'
end
end TR
namespace TR
open PySem PySem.Spec PyProof.Rows L2
theorem scNext : FnScope ["_law_deck_here", "_law_many", "_law_rest", "_law_cell", "_law_mixed"] ["_law_deck_here", "_law_many"] (defScope sNext) := ⟨rfl, rfl, rfl, by decide +kernel, rfl, by decide +kernel, by decide +kernel⟩
theorem ixN_zero {n : Nat} (h : 0 < n) : ixN n 0 = some 0 := by
  unfold ixN
  rw [if_pos (Int.le_refl _), if_pos (by omega)]
  rfl
section
variable {P : Program} {w : World} {K : PySem.W.Frag} {mg : Str → Option Value} {base : Heap}
def spNext : Sp := fun vs H Q _ => ∃ (d p q : Addr) (n : Nat) (m : Int), vs = [.ref d, .int m] ∧ Deck H d p q n ∧ n ≤ 1000000 ∧ 0 < m ∧ m ≤ 1000000000000 ∧
  ∀ H' r, 0 ≤ r → r < m → Deck H' d p q (n + 1) → Keep d p H H' → Q (.int r) H'
theorem ok_next {f : Addr} {fd : FuncData} {k : Nat} (F : Fun K "_law_next" "_law_next" sNext f fd) (mlen : mg "len" = none) : FnOk P w K mg base CX0 (k + 1) f fd ["_law_deck_here", "_law_many"] spNext := by
  refine F.ok scNext (fun vs H Q E h => ?_) (fun cdv A outer s H vs Q E hr h => ?_)
  · obtain ⟨d, p, q, n, m, rfl, _⟩ := h
    rfl
  · obtain ⟨d, p, q, n, m, rfl, ⟨l0, D0⟩, hn, hm0, hm1, qq⟩ := h
    refine ⟨_, pss_cons (ps_while PassesOwn.never (pt_cmpR (op_neD hr.units) (pe_ix ix_list (pv 0) pe_int (fun _ _ => rfl)) (pe_lst pa_nil) (nomark _))
        (pss_cons (ps_set (i := 2) scNext.nd rfl (.inl rfl) (pe_ix ix_list (pe_ix ix_list (pv 0) pe_int (fun _ _ => rfl)) pe_int (fun _ _ => rfl)))
        (pss_cons (ps_if (pt_cmpR op_gt (pv 2) pe_int (nomark _))
          (pss_cons (ps_asg (pe_op op_fdivW (pv 2) (pv 1)) (pg_sub (pe_ix ix_list (pv 0) pe_int (fun _ _ => rfl)) pe_int set_list))
          (pss_one (ps_ret (pe_op op_mod (pv 2) (pv 1))))) pss_nil)
        (pss_one (ps_expr (pe_bm PySem.F.plainAttrs_list PySem.F.slot_list_pop PySem.F.type_list_pop mt_popAt (pe_ix ix_list (pv 0) pe_int (fun _ _ => rfl)) (pa_cons pe_int pa_nil)))))))
      (pss_cons (ps_asg (pe_op op_add (pe_ix ix_list (pv 0) pe_int (fun _ _ => rfl)) pe_int) (pg_sub (pv 0) pe_int set_list))
      (pss_cons (ps_set (i := 3) scNext.nd rfl (.inl rfl) (pe_op op_mod (pe_ix ix_list (pe_ix ix_list (pv 0) pe_int (fun _ _ => rfl)) (pe_op op_mod (pe_ix ix_list (pv 0) pe_int (fun _ _ => rfl)) (pe_callB call_len_seq (by rfl) mlen PySem.boot_len (pa_cons (pe_ix ix_list (pv 0) pe_int (fun _ _ => rfl)) pa_nil))) (fun _ _ => rfl)) pe_int))
      (pss_cons (ps_set (i := 4) scNext.nd rfl (.inl rfl) (pe_op op_add (pe_op op_add (pe_op op_mul (pv 3) (pe_op op_add pe_int (pe_op op_mul pe_int (pe_ix ix_list (pv 0) pe_int (fun _ _ => rfl))))) (pe_op op_mul (pe_op op_mul pe_int (pe_ix ix_list (pv 0) pe_int (fun _ _ => rfl))) (pe_ix ix_list (pv 0) pe_int (fun _ _ => rfl)))) pe_int))
      (pss_cons (ps_set (i := 4) scNext.nd rfl (.inl rfl) (pe_op op_mod (pv 4) pe_int))
      (pss_one (ps_ret (pe_op op_mod (pe_op op_fdiv (pe_op op_mod (pe_op op_mul (pv 4) (pv 4)) pe_int) pe_int) (pv 1)))))))), ?_⟩
    refine ⟨fun l σ H1 => ∃ y2, σ = [some (.ref d), some (.int m), y2, none, none] ∧ DeckL H1 d p q n l ∧ Keep d p H H1, ⟨l0, none, rfl, D0, Keep.refl _ _ _⟩, fun l σ H1 hW => ?_⟩
    obtain ⟨y2, rfl, ⟨⟨xs, cs, c, h1, h2, h3, h4, h5, h6, h7⟩, ndp, ndq, npq⟩, kp⟩ := hW
    refine ⟨.ref d, rfl, d, _, 0, .ref p, rfl, rfl, sqL h1, rfl, Nat.zero_le _, fun e he => ?_⟩
    have hp1 : upd H1 e (.lst []) p = some (.lst (xs.map V.int)) := by
      rw [upd_ne (ne_of_none h2 he)]
      exact h2
    have hd1 : upd H1 e (.lst []) d = some (.lst [.ref p, .ref q, .int c]) := by
      rw [upd_ne (ne_of_none h1 he)]
      exact h1
    have hq1 : upd H1 e (.lst []) q = some (.lst (cs.map V.int)) := by
      rw [upd_ne (ne_of_none h3 he)]
      exact h3
    have kp1 : Keep d p H (upd H1 e (.lst [])) := kp.trans (Same.keep (same_upd he))
    refine ⟨_, _, .lst (sqL hp1) (dpAll_ints xs), .lst (sqL upd_same) .nil, shaped_ints xs, rfl, _, rfl, ?_⟩
    rw [eqv_nil]
    cases xs with
    | cons x r =>
      refine iteT ?_
      refine ⟨fun σ H2 => ∃ y2, σ = [some (.ref d), some (.int m), y2, none, none] ∧ DeckL H2 d p q n r.length ∧ Keep d p H H2, fun σ' H' hN => ⟨r.length, by rw [← h7]; exact Nat.lt_succ_self _, hN⟩, ?_⟩
      refine ⟨.ref d, rfl, d, _, 0, .ref p, rfl, rfl, sqL hd1, rfl, p, _, 0, .int x, rfl, rfl, sqL hp1, atI_nat (j := 0) rfl, ?_⟩
      refine ⟨.int x, rfl, x, 0, rfl, rfl, _, rfl, ite2 (fun hx => ?_) (fun hx => ?_)⟩
      · refine ⟨.int x, rfl, .int m, rfl, x, m, rfl, rfl, wide_div (b := 41) hm0 (by show m.natAbs < 2199023255552; omega) (by decide) (by decide), .ref d, rfl, d, _, 0, .ref p, rfl, rfl, sqL hd1, rfl, p, _, 0, 0, rfl, rfl, hp1, ixN_zero (by simp), ?_⟩
        refine ⟨.int x, rfl, .int m, rfl, x, m, rfl, rfl, hm0, qq _ _ (Int.emod_nonneg _ (by omega)) (Int.emod_lt_of_pos _ hm0) ?_ (keep_upd kp1 (.inr rfl))⟩
        refine ⟨r.length + 1, ⟨⟨(x / m) :: r, cs, c, ?_, upd_same, ?_, h4, by omega, h6, rfl⟩, ndp, ndq, npq⟩⟩
        · rw [upd_ne ndp]
          exact hd1
        · rw [upd_ne npq.symm]
          exact hq1
      · refine ⟨.ref d, rfl, d, _, 0, .ref p, rfl, rfl, sqL hd1, rfl, .inl ⟨rfl, _, sqL hp1⟩, p, _, 0, 0, .int x, rfl, rfl, hp1, by decide, by decide, ?_, rfl, ?_⟩
        · show seqIndex? 0 ((V.int x :: r.map V.int).length) = some 0
          unfold seqIndex?
          simp
        · refine ⟨some (.int x), rfl, ⟨⟨r, cs, c, ?_, upd_same, ?_, h4, h5, h6, rfl⟩, ndp, ndq, npq⟩, keep_upd kp1 (.inr rfl)⟩
          · rw [upd_ne ndp]
            exact hd1
          · rw [upd_ne npq.symm]
            exact hq1
    | nil =>
      refine iteF ?_
      refine ⟨.ref d, rfl, d, _, 2, .int c, rfl, rfl, sqL hd1, rfl, c, 1, rfl, rfl, .ref d, rfl, d, _, 2, 2, rfl, rfl, hd1, rfl, ?_⟩
      have kp2 : Keep d p H (upd (upd H1 e (.lst [])) d (.lst [.ref p, .ref q, .int (c + 1)])) := keep_upd kp1 (.inl rfl)
      have hq2 : upd (upd H1 e (.lst [])) d (.lst [.ref p, .ref q, .int (c + 1)]) q = some (.lst (cs.map V.int)) := by
        rw [upd_ne ndq.symm]
        exact hq1
      have hp2 : upd (upd H1 e (.lst [])) d (.lst [.ref p, .ref q, .int (c + 1)]) p = some (.lst (([] : List Int).map V.int)) := by
        rw [upd_ne ndp.symm]
        exact hp1
      have hd2 : upd (upd H1 e (.lst [])) d (.lst [.ref p, .ref q, .int (c + 1)]) d = some (.lst [.ref p, .ref q, .int (c + 1)]) := upd_same
      have hcl : 0 < (cs.map V.int).length := by
        rw [List.length_map]
        exact List.length_pos_iff.mpr h6
      have hcl' : (0 : Int) < ((cs.map V.int).length : Int) := by omega
      have b0 : 0 ≤ (c + 1) % ((cs.map V.int).length : Int) := Int.emod_nonneg _ (by omega)
      have b1 : (c + 1) % ((cs.map V.int).length : Int) < ((cs.map V.int).length : Int) := Int.emod_lt_of_pos _ hcl'
      obtain ⟨j, hj⟩ := Int.eq_ofNat_of_zero_le b0
      have hjl : j < cs.length := by
        rw [List.length_map] at b1 hj
        omega
      have ga : (cs.map V.int)[j]? = some (.int cs[j]) := by
        rw [List.getElem?_map, List.getElem?_eq_getElem hjl]
        rfl
      have gb : atI (cs.map V.int) ((c + 1) % ((cs.map V.int).length : Int)) = some (.int cs[j]) := by
        rw [hj]
        exact atI_nat ga
      refine ⟨.ref d, rfl, d, _, 1, .ref q, rfl, rfl, sqL hd2, rfl, .ref d, rfl, d, _, 2, .int (c + 1), rfl, rfl, sqL hd2, rfl, .ref d, rfl, d, _, 1, .ref q, rfl, rfl, sqL hd2, rfl, q, _, rfl, .inl (sqL hq2), _, _, rfl, rfl, hcl', q, _, _, _, rfl, rfl, sqL hq2, gb, _, _, rfl, rfl, by show (0 : Int) < 2147483647; decide, ?_⟩
      have e1 : (0 : Int) ≤ cs[j] % 2147483647 := Int.emod_nonneg _ (by decide)
      have e2 : cs[j] % 2147483647 < 2147483647 := Int.emod_lt_of_pos _ (by decide)
      refine ⟨.int (cs[j] % 2147483647), rfl, .ref d, rfl, d, _, 2, .int (c + 1), rfl, rfl, sqL hd2, rfl, 48271, _, rfl, rfl, .inl ⟨by decide, by decide⟩, _, _, rfl, rfl, cs[j] % 2147483647, _, rfl, rfl, .inl ⟨by show -(2 : Int) ^ 64 < cs[j] % 2147483647; omega, by show cs[j] % 2147483647 < (2 : Int) ^ 64; omega⟩,
        .ref d, rfl, d, _, 2, .int (c + 1), rfl, rfl, sqL hd2, rfl, 30011, _, rfl, rfl, .inl ⟨by decide, by decide⟩, .ref d, rfl, d, _, 2, .int (c + 1), rfl, rfl, sqL hd2, rfl, _, _, rfl, rfl, .inr ⟨by show -(2 : Int) ^ 64 < c + 1; omega, by show c + 1 < (2 : Int) ^ 64; omega⟩, _, _, rfl, rfl, _, _, rfl, rfl, ?_⟩
      refine ⟨_, rfl, _, _, rfl, rfl, by show (0 : Int) < 2147483629; decide, ?_⟩
      have e3 : (0 : Int) ≤ (cs[j] % 2147483647 * (69621 + 48271 * (c + 1)) + 30011 * (c + 1) * (c + 1) + 47) % 2147483629 := Int.emod_nonneg _ (by decide)
      have e4 : (cs[j] % 2147483647 * (69621 + 48271 * (c + 1)) + 30011 * (c + 1) * (c + 1) + 47) % 2147483629 < 2147483629 := Int.emod_lt_of_pos _ (by decide)
      refine ⟨.int ((cs[j] % 2147483647 * (69621 + 48271 * (c + 1)) + 30011 * (c + 1) * (c + 1) + 47) % 2147483629), rfl, .int ((cs[j] % 2147483647 * (69621 + 48271 * (c + 1)) + 30011 * (c + 1) * (c + 1) + 47) % 2147483629), rfl, _, _, rfl, rfl, .inl ⟨by show -(2 : Int) ^ 64 < (cs[j] % 2147483647 * (69621 + 48271 * (c + 1)) + 30011 * (c + 1) * (c + 1) + 47) % 2147483629; omega, by show (cs[j] % 2147483647 * (69621 + 48271 * (c + 1)) + 30011 * (c + 1) * (c + 1) + 47) % 2147483629 < (2 : Int) ^ 64; omega⟩, _, _, rfl, rfl, by show (0 : Int) < 2147483587; decide, _, _, rfl, rfl, ⟨by decide, by decide⟩, .int m, rfl, _, m, rfl, rfl, hm0, ?_⟩
      exact qq _ _ (Int.emod_nonneg _ (by omega)) (Int.emod_lt_of_pos _ hm0) ⟨0, ⟨[], cs, c + 1, hd2, hp2, hq2, by omega, by omega, h6, rfl⟩, ndp, ndq, npq⟩ kp2
end
end TR
namespace TR
open PySem PySem.Spec PyProof.Rows L2
/-! ### rankings in the heap -/
def Tp (H : Hp) (a : Addr) (ns : List Int) : Prop := ∃ o : Obj, o.dict = none ∧ H a = some (.frz o (.tup (ns.map V.int)))
theorem Tp.sq {K : PySem.W.Frag} {H : Hp} {a : Addr} {ns : List Int} (t : Tp H a ns) : SqT K H a (ns.map V.int) := by
  obtain ⟨o, _, h⟩ := t
  exact .inl (.inr ⟨o, h⟩)
theorem Tp.same {H H' : Hp} {a : Addr} {ns : List Int} (t : Tp H a ns) (s : Same H H') : Tp H' a ns := by
  obtain ⟨o, d, h⟩ := t
  exact ⟨o, d, s _ _ h⟩
theorem Tp.keep {H H' : Hp} {a d p q : Addr} {n : Nat} {ns : List Int} (t : Tp H a ns) (D : Deck H d p q n) (s : Keep d p H H') : Tp H' a ns := by
  obtain ⟨o, hd, h⟩ := t
  obtain ⟨x, y, c, e1⟩ := D.hd
  obtain ⟨xs, e2⟩ := D.hp
  exact ⟨o, hd, s _ _ h (ne_of h e1 (by intro z; cases z)) (ne_of h e2 (by intro z; cases z))⟩
theorem Tp.new {H : Hp} {a : Addr} {ns : List Int} {o : Obj} (h : o.dict = none) : Tp (upd H a (.frz o (.tup (ns.map V.int)))) a ns := ⟨o, h, upd_same⟩
/-! ### tuples, written or made -/
theorem rdT_same {H H' : Hp} {a : Addr} {u : HO} (h : Rd H a u) (s : Same H H') : Rd H' a u := by
  rcases h with h | ⟨o, h⟩
  · exact .inl (s _ _ h)
  · exact .inr ⟨o, s _ _ h⟩
theorem rdT_keep {H H' : Hp} {a d p q : Addr} {n : Nat} {xs : List V} (h : Rd H a (.tup xs)) (D : Deck H d p q n) (s : Keep d p H H') : Rd H' a (.tup xs) := by
  obtain ⟨x, y, c, e1⟩ := D.hd
  obtain ⟨zs, e2⟩ := D.hp
  rcases h with h | ⟨o, h⟩
  · exact .inl (s _ _ h (ne_of h e1 (by intro z; cases z)) (ne_of h e2 (by intro z; cases z)))
  · exact .inr ⟨o, s _ _ h (ne_of h e1 (by intro z; cases z)) (ne_of h e2 (by intro z; cases z))⟩
theorem rdT_updl {H : Hp} {a D : Addr} {us xs ys : List V} (h : Rd H a (.tup us)) (e : H D = some (.lst xs)) : Rd (upd H D (.lst ys)) a (.tup us) := by
  rcases h with h | ⟨o, h⟩
  · exact .inl (by rw [upd_ne (ne_of h e (by intro z; cases z))]; exact h)
  · exact .inr ⟨o, by rw [upd_ne (ne_of h e (by intro z; cases z))]; exact h⟩
/-! ### lists of pairs -/
inductive Prs (H : Hp) : List V → List (Int × Int) → Prop
  | nil : Prs H [] []
  | cons {q : Addr} {a b : Int} {vs : List V} {ps : List (Int × Int)} : Rd H q (.tup [.int a, .int b]) → Prs H vs ps → Prs H (.ref q :: vs) ((a, b) :: ps)
theorem Prs.same {H H' : Hp} {vs : List V} {ps : List (Int × Int)} (h : Prs H vs ps) (s : Same H H') : Prs H' vs ps := by
  induction h with
  | nil => exact .nil
  | cons e _ ih => exact .cons (rdT_same e s) ih
theorem Prs.upd_lst {H : Hp} {vs : List V} {ps : List (Int × Int)} {D : Addr} {xs ys : List V} (h : Prs H vs ps) (e : H D = some (.lst xs)) : Prs (upd H D (.lst ys)) vs ps := by
  induction h with
  | nil => exact .nil
  | cons e2 _ ih => exact .cons (rdT_updl e2 e) ih
theorem Prs.append {H : Hp} {vs ws : List V} {ps qs : List (Int × Int)} (h : Prs H vs ps) (g : Prs H ws qs) : Prs H (vs ++ ws) (ps ++ qs) := by
  induction h with
  | nil => exact g
  | cons e _ ih => exact .cons e ih
theorem Prs.len {H : Hp} {vs : List V} {ps : List (Int × Int)} (h : Prs H vs ps) : vs.length = ps.length := by
  induction h with
  | nil => rfl
  | cons _ _ ih => rw [List.length_cons, List.length_cons, ih]
theorem Prs.get {H : Hp} {vs : List V} {ps : List (Int × Int)} (h : Prs H vs ps) : ∀ {i : Nat} {x : V}, vs[i]? = some x → ∃ q a b, x = .ref q ∧ ps[i]? = some (a, b) ∧ Rd H q (.tup [.int a, .int b]) := by
  induction h with
  | nil => intro i x e; simp at e
  | cons e _ ih =>
    intro i x g
    cases i with
    | zero => exact ⟨_, _, _, (Option.some.inj g).symm, rfl, e⟩
    | succ i => exact ih g
def pd (p : Int × Int) : PyData := .tuple [.int p.1, .int p.2]
theorem Prs.dp {K : PySem.W.Frag} {H : Hp} {vs : List V} {ps : List (Int × Int)} (h : Prs H vs ps) : DpAll K H vs (ps.map pd) := by
  induction h with
  | nil => exact .nil
  | cons e _ ih => exact .cons (.tup (.inl e) (.cons (.int _) (.cons (.int _) .nil))) ih
/-- a walk over a range inside a comprehension, by a word over heaps -/
theorem walk_in {n : Nat} {lo : Int} {H4 : Hp} {Nx : Hp → Prop} {B : V → Hp → (Hp → Prop) → Prop} (Pv : Nat → Hp → Prop) (h0 : Pv 0 H4) (hs : ∀ j H, j < n → Pv j H → B (.int (lo + (j : Int))) H (Pv (j + 1))) (hd : ∀ H, Pv n H → Nx H) :
    ∃ W : Nat → Nat → Hp → Prop, (∃ m, W 0 m H4) ∧ ∀ j k H, W j k H → ((Itr lo n).stop j H ∧ Nx H) ∨ ((Itr lo n).go j H ∧ ∃ N : Hp → Prop, (∀ H', N H' → ∃ k', k' < k ∧ W (j + 1) k' H') ∧ ∀ x H', (Itr lo n).yld j H x H' → B x H' N) := by
  refine ⟨fun j k H => k = n - j ∧ j ≤ n ∧ Pv j H, ⟨n, by simp, Nat.zero_le _, h0⟩, ?_⟩
  rintro j k H ⟨rfl, hj, p⟩
  by_cases hlt : j < n
  · refine .inr ⟨hlt, Pv (j + 1), fun H' p' => ⟨n - (j + 1), by omega, rfl, hlt, p'⟩, fun x H' y => ?_⟩
    obtain ⟨e, e2⟩ := y
    subst e e2
    exact hs j _ hlt p
  · have e : j = n := by omega
    subst e
    exact .inl ⟨Nat.le_refl _, hd H p⟩
end TR
namespace TR
open PySem PySem.Spec PyProof.Rows L2
theorem scPref : FnScope ["ranking", "one", "other"] ["ranking", "one", "other"] (defScope sPref) := ⟨rfl, rfl, rfl, by decide +kernel, rfl, by decide +kernel, by decide +kernel⟩
section
variable {P : Program} {w : World} {K : PySem.W.Frag} {mg : Str → Option Value} {base : Heap}
/-! ### prefers, agree -/
def spPref : Sp := fun vs H Q _ => ∃ (a : Addr) (ns : List Int) (x y : Int), vs = [.ref a, .int x, .int y] ∧ Tp H a ns ∧ x ∈ ns ∧ y ∈ ns ∧ Q (.bl (pref ns x y)) H
theorem ok_pref {f : Addr} {fd : FuncData} {k : Nat} (F : Fun K "prefers" "prefers" sPref f fd) : FnOk P w K mg base CX0 (k + 1) f fd ["ranking", "one", "other"] spPref := by
  refine F.ok scPref (fun vs H Q E h => ?_) (fun cdv A outer s H vs Q E hr h => ?_)
  · obtain ⟨a, ns, x, y, rfl, _⟩ := h
    rfl
  · obtain ⟨a, ns, x, y, rfl, ht, hx, hy, q⟩ := h
    refine ⟨_, pss_one (ps_ret (pe_cmpR op_lt (pe_bmT PySem.F.slot_tuple_index PySem.F.type_tuple_index mt_tupIdx (pv 0) (pa_cons (pv 1) pa_nil)) (pe_bmT PySem.F.slot_tuple_index PySem.F.type_tuple_index mt_tupIdx (pv 0) (pa_cons (pv 2) pa_nil)) (nomark _))), ?_⟩
    obtain ⟨o, hd, he⟩ := id ht
    refine ⟨.ref a, rfl, ⟨a, o, _, rfl, hd, he⟩, .int x, rfl, a, ns, x, ns.idxOf x, rfl, rfl, ht.sq, at_idx hx, fun m hm => idx_first hm,
      .ref a, rfl, ⟨a, o, _, rfl, hd, he⟩, .int y, rfl, a, ns, y, ns.idxOf y, rfl, rfl, ht.sq, at_idx hy, fun m hm => idx_first hm, _, _, rfl, rfl, ?_⟩
    have e : decide (((ns.idxOf x : Nat) : Int) < ((ns.idxOf y : Nat) : Int)) = pref ns x y := by
      unfold pref
      by_cases h : ns.idxOf x < ns.idxOf y
      · rw [decide_eq_true h, decide_eq_true (by omega)]
      · rw [decide_eq_false h, decide_eq_false (by omega)]
    show Q (.bl (decide (((ns.idxOf x : Nat) : Int) < ((ns.idxOf y : Nat) : Int)))) H
    rw [e]
    exact q
end
end TR
namespace TR
open PySem PySem.Spec PyProof.Rows L2
theorem scAgree : FnScope ["one", "other", "pair", "low", "high"] ["one", "other", "pair"] (defScope sAgree) := ⟨rfl, rfl, rfl, by decide +kernel, rfl, by decide +kernel, by decide +kernel⟩
section
variable {P : Program} {w : World} {K : PySem.W.Frag} {mg : Str → Option Value} {base : Heap}
def spAgree : Sp := fun vs H Q _ => ∃ (a b r : Addr) (ns ms : List Int) (x y : Int), vs = [.ref a, .ref b, .ref r] ∧ Tp H a ns ∧ Tp H b ms ∧ Rd H r (.tup [.int x, .int y]) ∧ x ∈ ns ∧ y ∈ ns ∧ x ∈ ms ∧ y ∈ ms ∧ Q (.bl (agr ns ms (x, y))) H
theorem ok_agree {f fP : Addr} {fd fdP : FuncData} {k : Nat} (F : Fun K "agree" "agree" sAgree f fd) (FP : Fun K "prefers" "prefers" sPref fP fdP) (bP : Binds K fdP ["ranking", "one", "other"] []) (gP : mg "prefers" = some (.ref fP)) : FnOk P w K mg base CX0 (k + 2) f fd ["one", "other", "pair"] spAgree := by
  have GP : FnOk P w K mg base CX0 (k + 1) fP fdP ["ranking", "one", "other"] spPref := ok_pref FP
  refine F.ok scAgree (fun vs H Q E h => ?_) (fun cdv A outer s H vs Q E hr h => ?_)
  · obtain ⟨a, b, r, ns, ms, x, y, rfl, _⟩ := h
    rfl
  · obtain ⟨a, b, r, ns, ms, x, y, rfl, ha, hb, hq, x1, y1, x2, y2, q⟩ := h
    refine ⟨_, pss_cons (ps_asg (pv 2) (pg_tup (by rfl) (pgs_cons (pg_name (i := 3) scAgree.nd rfl (.inl rfl)) (pgs_cons (pg_name (i := 4) scAgree.nd rfl (.inl rfl)) pgs_nil))))
      (pss_one (ps_ret (pe_cmpR op_eq (pe_call GP hr (by rfl) gP FP.kp bP .nil pass0 (pa_cons (pv 0) (pa_cons (pv 3) (pa_cons (pv 4) pa_nil)))) (pe_call GP hr (by rfl) gP FP.kp bP .nil pass0 (pa_cons (pv 1) (pa_cons (pv 3) (pa_cons (pv 4) pa_nil)))) (nomark _)))), ?_⟩
    refine ⟨.ref r, rfl, r, _, rfl, (.inl hq), rfl, .int x, _, rfl, .int y, _, rfl, rfl, ?_⟩
    refine ⟨.ref a, rfl, .int x, rfl, .int y, rfl, a, ns, x, y, rfl, ha, x1, y1, .ref b, rfl, .int x, rfl, .int y, rfl, b, ms, x, y, rfl, hb, x2, y2, rfl, ?_⟩
    have e : decide (V.bl (pref ns x y) = V.bl (pref ms x y)) = agr ns ms (x, y) := by
      unfold agr
      show _ = (pref ns x y == pref ms x y)
      cases pref ns x y <;> cases pref ms x y <;> rfl
    rw [e]
    exact q
end
end TR
namespace TR
open PySem PySem.Spec PyProof.Rows L2
theorem scSame : FnScope ["_law_found", "_law_due", "_law_k"] ["_law_found", "_law_due"] (defScope sSame) := ⟨rfl, rfl, rfl, by decide +kernel, rfl, by decide +kernel, by decide +kernel⟩
/-! ### the same data, at two places -/
def flatX : V → Bool
  | .non => true
  | .bl _ => true
  | .int _ => true
  | .str _ => true
  | _ => false
def Alk (K : PySem.W.Frag) (H : Hp) : Nat → V → V → Prop
  | 0, _, _ => False
  | m + 1, x, y => (flatX x = true ∧ x = y) ∨ ∃ (a b : Addr) (xs ys : List V), x = .ref a ∧ y = .ref b ∧ ((SqL K H a xs ∧ SqL K H b ys) ∨ (SqT K H a xs ∧ SqT K H b ys)) ∧ xs.length = ys.length ∧ xs.length ≤ 1000 ∧
      ∀ (i : Nat) (u v : V), xs[i]? = some u → ys[i]? = some v → Alk K H m u v
theorem Alk.same {K : PySem.W.Frag} {H H' : Hp} (s : Same H H') : ∀ {m : Nat} {x y : V}, Alk K H m x y → Alk K H' m x y
  | 0, _, _, h => h.elim
  | m + 1, x, y, h => by
    rcases h with h | ⟨a, b, xs, ys, ex, ey, hq, h1, h2, h3⟩
    · exact .inl h
    · refine .inr ⟨a, b, xs, ys, ex, ey, ?_, h1, h2, fun i u v hu hv => Alk.same s (h3 i u v hu hv)⟩
      rcases hq with ⟨p, q⟩ | ⟨p, q⟩
      · exact .inl ⟨s.seq p, s.seq q⟩
      · exact .inr ⟨same_seqT s p, same_seqT s q⟩
theorem tyL {K : PySem.W.Frag} {H : Hp} {a : Addr} {xs : List V} (h : SqL K H a xs) : TyX K H (.ref a) (.type "list") := by
  rcases h with (h | ⟨o, h⟩) | ⟨o, its, n, hk, hc, _⟩
  · exact .base (.lst h)
  · exact .base (.frz h)
  · exact .kList hk hc
theorem tyT {K : PySem.W.Frag} {H : Hp} {a : Addr} {xs : List V} (h : SqT K H a xs) : TyX K H (.ref a) (.type "tuple") := by
  rcases h with (h | ⟨o, h⟩) | ⟨o, its, n, hk, hc, _⟩
  · exact .base (.tup h)
  · exact .fTuple h
  · exact .kTuple hk hc
theorem kit_two {K : PySem.W.Frag} {t a b : String} {r1 r2 : Bool} (h1 : kitB t a = some r1) (h2 : kitB t b = some r2) : PySem.W.kitAny K (.type t) [Value.type a, Value.type b] = some (r1 || r2) := by
  unfold PySem.W.kitAny
  rw [kit_ty h1]
  cases r1 with
  | true => rfl
  | false =>
    show PySem.W.kitAny K (.type t) [Value.type b] = some r2
    unfold PySem.W.kitAny
    rw [kit_ty h2]
    cases r2 <;> rfl
def tyF : V → Value
  | .non => .type "NoneType"
  | .bl _ => .type "bool"
  | .int _ => .type "int"
  | _ => .type "str"
theorem tyFlat {K : PySem.W.Frag} {H : Hp} {x : V} (h : flatX x = true) : TyX K H x (tyF x) := by
  cases x with
  | non => exact .base .non
  | bl b => exact .base (.bl b)
  | int i => exact .base (.int i)
  | str z => exact .base (.str z)
  | _ => exact absurd (show false = true from h) Bool.false_ne_true
section
variable {P : Program} {w : World} {K : PySem.W.Frag} {mg : Str → Option Value} {base : Heap}
def spSame (K : PySem.W.Frag) (m : Nat) : Sp := fun vs H Q _ => ∃ x y, vs = [x, y] ∧ Alk K H m x y ∧ ∀ H', Same H H' → Q (.bl true) H'
theorem ok_same {f : Addr} {fd : FuncData} (F : Fun K "_law_same" "_law_same" sSame f fd) (bS : Binds K fd ["_law_found", "_law_due"] []) (gS : mg "_law_same" = some (.ref f))
    (misi : mg "isinstance" = none) (mt : mg "tuple" = none) (ml : mg "list" = none) (mlen : mg "len" = none) (mr : mg "range" = none) (md : mg "dict" = none) (ms : mg "str" = none) (mi : mg "int" = none) (mb : mg "bool" = none) :
    ∀ m, FnOk P w K mg base CX0 m f fd ["_law_found", "_law_due"] (spSame K m)
  | 0 => ⟨fun vs H Q E h => by obtain ⟨x, y, rfl, _⟩ := h; rfl, fun A outer s H args us vs Q E hr he hb hv h => by obtain ⟨x, y, _, h, _⟩ := h; exact h.elim⟩
  | m + 1 => by
    have GS := ok_same F bS gS misi mt ml mlen mr md ms mi mb m
    refine F.ok scSame (fun vs H Q E h => ?_) (fun cdv A outer s H vs Q E hr h => ?_)
    · obtain ⟨x, y, rfl, _⟩ := h
      rfl
    · obtain ⟨x, y, rfl, hal, q⟩ := h
      refine ⟨_, pss_cons (ps_if (pt_val (pe_callB call_isiT (by rfl) misi (by decide +kernel) (pa_cons (pv 1) (pa_cons (pe_tup (pa_cons (pe_bltn (v := .ty "tuple") (by rfl) mt (by decide +kernel) rfl) (pa_cons (pe_bltn (v := .ty "list") (by rfl) ml (by decide +kernel) rfl) pa_nil))) pa_nil))))
          (pss_cons (ps_if (pt_cmpR op_ne (pe_callB call_isi (by rfl) misi (by decide +kernel) (pa_cons (pv 0) (pa_cons (pe_bltn (v := .ty "tuple") (by rfl) mt (by decide +kernel) rfl) pa_nil))) (pe_callB call_isi (by rfl) misi (by decide +kernel) (pa_cons (pv 1) (pa_cons (pe_bltn (v := .ty "tuple") (by rfl) mt (by decide +kernel) rfl) pa_nil))) (nomark _)) (pss_one (ps_ret pe_bl)) pss_nil)
          (pss_cons (ps_if (pt_cmpR op_ne (pe_callB call_isi (by rfl) misi (by decide +kernel) (pa_cons (pv 0) (pa_cons (pe_bltn (v := .ty "list") (by rfl) ml (by decide +kernel) rfl) pa_nil))) (pe_callB call_isi (by rfl) misi (by decide +kernel) (pa_cons (pv 1) (pa_cons (pe_bltn (v := .ty "list") (by rfl) ml (by decide +kernel) rfl) pa_nil))) (nomark _)) (pss_one (ps_ret pe_bl)) pss_nil)
          (pss_cons (ps_if (pt_cmpR op_ne (pe_callB call_len_seq (by rfl) mlen PySem.boot_len (pa_cons (pv 0) pa_nil)) (pe_callB call_len_seq (by rfl) mlen PySem.boot_len (pa_cons (pv 1) pa_nil)) (nomark _)) (pss_one (ps_ret pe_bl)) pss_nil)
          (pss_one (ps_ret (pe_cmpR (op_eqD hr.units) (pe_lc (own := [("_law_k", 2)]) (g := gName 2) (by rfl) scSame.nd (pi_range1 (by rfl) mr (pa_cons (pe_callB call_len_seq (by rfl) mlen PySem.boot_len (pa_cons (pv 1) pa_nil)) pa_nil))
              (blkOk_by (own := [("_law_k", 2)]) (N := ["_law_found", "_law_due", "_law_k"]) (sc := defScope sSame) (by decide +kernel)) (fun _ _ _ _ _ => pg_name (i := 2) scSame.nd rfl (Or.inl rfl))
              (fun _ _ _ _ _ => pts_one (pt_not (pt_val (pe_call GS hr (by rfl) gS F.kp bS .nil pass0 (pa_cons (pe_ix (r := rIx K) ix_seq (pv 0) (pv 2) (fun _ _ => rfl)) (pa_cons (pe_ix (r := rIx K) ix_seq (pv 1) (pv 2) (fun _ _ => rfl)) pa_nil))))))
              (fun _ _ _ _ _ => pv 2)) (pe_lst pa_nil) (nomark _))))))) pss_nil)
        (pss_cons (ps_if (pt_val (pe_callB call_isi (by rfl) misi (by decide +kernel) (pa_cons (pv 1) (pa_cons (pe_bltn (v := .ty "dict") (by rfl) md (by decide +kernel) rfl) pa_nil)))) (pss_one (ps_ret (pe_and (pe_callB call_isi (by rfl) misi (by decide +kernel) (pa_cons (pv 0) (pa_cons (pe_bltn (v := .ty "dict") (by rfl) md (by decide +kernel) rfl) pa_nil))) (pe_one (pe_cmpR op_eq (pv 0) (pv 1) (nomark _)))))) pss_nil)
        (pss_cons (ps_if (pt_cmpR op_isN (pv 1) pe_non (nomark _)) (pss_one (ps_ret (pe_cmpR op_isN (pv 0) pe_non (nomark _)))) pss_nil)
        (pss_cons (ps_if (pt_val (pe_callB call_isi (by rfl) misi (by decide +kernel) (pa_cons (pv 1) (pa_cons (pe_bltn (v := .ty "str") (by rfl) ms (by decide +kernel) rfl) pa_nil)))) (pss_one (ps_ret (pe_and (pe_callB call_isi (by rfl) misi (by decide +kernel) (pa_cons (pv 0) (pa_cons (pe_bltn (v := .ty "str") (by rfl) ms (by decide +kernel) rfl) pa_nil))) (pe_one (pe_cmpR op_eq (pv 0) (pv 1) (nomark _)))))) pss_nil)
        (pss_one (ps_ret (pe_and (pe_callB call_isi (by rfl) misi (by decide +kernel) (pa_cons (pv 0) (pa_cons (pe_bltn (v := .ty "int") (by rfl) mi (by decide +kernel) rfl) pa_nil)))
          (pe_and (pe_cmpR op_eq (pe_callB call_isi (by rfl) misi (by decide +kernel) (pa_cons (pv 0) (pa_cons (pe_bltn (v := .ty "bool") (by rfl) mb (by decide +kernel) rfl) pa_nil))) (pe_callB call_isi (by rfl) misi (by decide +kernel) (pa_cons (pv 1) (pa_cons (pe_bltn (v := .ty "bool") (by rfl) mb (by decide +kernel) rfl) pa_nil))) (nomark _)) (pe_one (pe_cmpR op_eq (pv 0) (pv 1) (nomark _)))))))))), ?_⟩
      refine ⟨y, rfl, by show 2 ≤ sizeLine; decide, fun tp htp => ?_⟩
      have s1 : Same H (upd H tp (.tup [.ty "tuple", .ty "list"])) := same_upd htp
      have e1 : upd H tp (.tup [.ty "tuple", .ty "list"]) tp = some (.tup [.ty "tuple", .ty "list"]) := upd_same
      have hal1 : Alk K (upd H tp (.tup [.ty "tuple", .ty "list"])) (m + 1) x y := Alk.same s1 hal
      generalize upd H tp (.tup [.ty "tuple", .ty "list"]) = H1 at s1 e1 hal1 ⊢
      have pc : Paired ClsV [V.ty "tuple", V.ty "list"] [Value.type "tuple", Value.type "list"] := .cons (.ty _) (.cons (.ty _) .nil)
      rcases hal1 with ⟨hf, rfl⟩ | ⟨a, b, xs, ys, rfl, rfl, hq, hl, hz, hit⟩
      · have ty : TyX K H1 x (tyF x) := tyFlat hf
        cases x with
        | non =>
          refine ⟨_, tp, _, _, _, false, rfl, e1, pc, ty, kit_two (r1 := false) (r2 := false) (by decide +kernel) (by decide +kernel), _, rfl, iteF ?_⟩
          refine ⟨.non, rfl, .non, .ty "dict", _, _, false, rfl, .ty _, ty, kit_ty (by decide +kernel), _, rfl, iteF ?_⟩
          exact ⟨.non, rfl, rfl, _, rfl, iteT ⟨.non, rfl, rfl, q H1 s1⟩⟩
        | bl c =>
          refine ⟨_, tp, _, _, _, false, rfl, e1, pc, ty, kit_two (r1 := false) (r2 := false) (by decide +kernel) (by decide +kernel), _, rfl, iteF ?_⟩
          refine ⟨.bl c, rfl, .bl c, .ty "dict", _, _, false, rfl, .ty _, ty, kit_ty (by decide +kernel), _, rfl, iteF ?_⟩
          refine ⟨.bl c, rfl, rfl, _, rfl, iteF ?_⟩
          refine ⟨.bl c, rfl, .bl c, .ty "str", _, _, false, rfl, .ty _, ty, kit_ty (by decide +kernel), _, rfl, iteF ?_⟩
          refine ⟨.bl c, rfl, .bl c, .ty "int", _, _, true, rfl, .ty _, ty, kit_ty (by decide +kernel), _, rfl, iteT ?_⟩
          refine ⟨.bl c, rfl, .bl c, .ty "bool", _, _, true, rfl, .ty _, ty, kit_ty (by decide +kernel), .bl c, rfl, .bl c, .ty "bool", _, _, true, rfl, .ty _, ty, kit_ty (by decide +kernel), rfl, _, rfl, ?_⟩
          refine iteT ⟨.bl c, rfl, .bl c, rfl, rfl, ?_⟩
          rw [decide_eq_true rfl]
          exact q H1 s1
        | int c =>
          refine ⟨_, tp, _, _, _, false, rfl, e1, pc, ty, kit_two (r1 := false) (r2 := false) (by decide +kernel) (by decide +kernel), _, rfl, iteF ?_⟩
          refine ⟨.int c, rfl, .int c, .ty "dict", _, _, false, rfl, .ty _, ty, kit_ty (by decide +kernel), _, rfl, iteF ?_⟩
          refine ⟨.int c, rfl, rfl, _, rfl, iteF ?_⟩
          refine ⟨.int c, rfl, .int c, .ty "str", _, _, false, rfl, .ty _, ty, kit_ty (by decide +kernel), _, rfl, iteF ?_⟩
          refine ⟨.int c, rfl, .int c, .ty "int", _, _, true, rfl, .ty _, ty, kit_ty (by decide +kernel), _, rfl, iteT ?_⟩
          refine ⟨.int c, rfl, .int c, .ty "bool", _, _, false, rfl, .ty _, ty, kit_ty (by decide +kernel), .int c, rfl, .int c, .ty "bool", _, _, false, rfl, .ty _, ty, kit_ty (by decide +kernel), rfl, _, rfl, ?_⟩
          refine iteT ⟨.int c, rfl, .int c, rfl, rfl, ?_⟩
          rw [decide_eq_true rfl]
          exact q H1 s1
        | str c =>
          refine ⟨_, tp, _, _, _, false, rfl, e1, pc, ty, kit_two (r1 := false) (r2 := false) (by decide +kernel) (by decide +kernel), _, rfl, iteF ?_⟩
          refine ⟨.str c, rfl, .str c, .ty "dict", _, _, false, rfl, .ty _, ty, kit_ty (by decide +kernel), _, rfl, iteF ?_⟩
          refine ⟨.str c, rfl, rfl, _, rfl, iteF ?_⟩
          refine ⟨.str c, rfl, .str c, .ty "str", _, _, true, rfl, .ty _, ty, kit_ty (by decide +kernel), _, rfl, iteT ?_⟩
          refine ⟨.str c, rfl, .str c, .ty "str", _, _, true, rfl, .ty _, ty, kit_ty (by decide +kernel), _, rfl, iteT ⟨.str c, rfl, .str c, rfl, rfl, ?_⟩⟩
          rw [decide_eq_true rfl]
          exact q H1 s1
        | _ => exact absurd (show false = true from hf) Bool.false_ne_true
      · obtain ⟨t, ta, tb, k1, k2, k3, hlq⟩ : ∃ t : String, TyX K H1 (.ref a) (.type t) ∧ TyX K H1 (.ref b) (.type t) ∧ PySem.W.kitAny K (.type t) [Value.type "tuple", Value.type "list"] = some true ∧ (∃ c, PySem.W.kitOne K (.type t) (.type "tuple") = some c) ∧ (∃ c, PySem.W.kitOne K (.type t) (.type "list") = some c) ∧
            ((SqL K H1 a xs ∨ SqT K H1 a xs) ∧ (SqL K H1 b ys ∨ SqT K H1 b ys)) := by
          rcases hq with ⟨p, r⟩ | ⟨p, r⟩
          · exact ⟨"list", tyL p, tyL r, kit_two (r1 := false) (r2 := true) (by decide +kernel) (by decide +kernel), ⟨false, kit_ty (by decide +kernel)⟩, ⟨true, kit_ty (by decide +kernel)⟩, .inl p, .inl r⟩
          · exact ⟨"tuple", tyT p, tyT r, kit_two (r1 := true) (r2 := false) (by decide +kernel) (by decide +kernel), ⟨true, kit_ty (by decide +kernel)⟩, ⟨false, kit_ty (by decide +kernel)⟩, .inr p, .inr r⟩
        obtain ⟨c2, k2⟩ := k2
        obtain ⟨c3, k3⟩ := k3
        refine ⟨_, tp, _, _, _, true, rfl, e1, pc, tb, k1, _, rfl, iteT ?_⟩
        refine ⟨.ref a, rfl, .ref a, .ty "tuple", _, _, c2, rfl, .ty _, ta, k2, .ref b, rfl, .ref b, .ty "tuple", _, _, c2, rfl, .ty _, tb, k2, rfl, _, rfl, iteNS rfl ?_⟩
        refine ⟨.ref a, rfl, .ref a, .ty "list", _, _, c3, rfl, .ty _, ta, k3, .ref b, rfl, .ref b, .ty "list", _, _, c3, rfl, .ty _, tb, k3, rfl, _, rfl, iteNS rfl ?_⟩
        refine ⟨.ref a, rfl, a, xs, rfl, hlq.1, .ref b, rfl, b, ys, rfl, hlq.2, rfl, _, rfl, iteNS (by rw [hl]) ?_⟩
        refine ⟨.ref b, rfl, b, ys, rfl, hlq.2, _, rfl, by omega, by omega, fun D hD => walk_in (n := ys.length) (lo := 0) (fun i H2 => Same H1 H2 ∧ H2 D = some (.lst [])) ⟨same_upd hD, upd_same⟩ (fun i H2 hi h => ?_) (fun H2 h => ?_)⟩
        · obtain ⟨s2, hd2⟩ := h
          have gx : xs[i]? = some (xs[i]'(by omega)) := List.getElem?_eq_getElem _
          have gy : ys[i]? = some ys[i] := List.getElem?_eq_getElem _
          have ax : atI xs (0 + (i : Int)) = some (xs[i]'(by omega)) := by
            rw [Int.zero_add]
            exact atI_nat gx
          have ay : atI ys (0 + (i : Int)) = some ys[i] := by
            rw [Int.zero_add]
            exact atI_nat gy
          have ix : ∀ {c : Addr} {zs : List V} {z : V} {R : V → Hp → Prop}, (SqL K H1 c zs ∨ SqT K H1 c zs) → atI zs (0 + (i : Int)) = some z → R z H2 → rIx K (.ref c) (.int (0 + (i : Int))) H2 R := by
            intro c zs z R hc hz hR
            rcases hc with hc | hc
            · exact .inl ⟨c, zs, _, z, rfl, rfl, s2.seq hc, hz, hR⟩
            · exact .inr (.inl ⟨c, zs, _, z, rfl, rfl, same_seqT s2 hc, hz, hR⟩)
          refine ⟨rfl, .ref a, rfl, .int (0 + (i : Int)), rfl, ix hlq.1 ax ⟨.ref b, rfl, .int (0 + (i : Int)), rfl, ix hlq.2 ay ⟨_, _, rfl, Alk.same s2 (hit i _ _ gx gy), fun H3 s3 => ⟨_, rfl, iteF ⟨s2.trans s3, s3 _ _ hd2⟩⟩⟩⟩⟩
        · obtain ⟨s2, hd2⟩ := h
          refine ⟨Nat.zero_le _, fun e he => ?_⟩
          refine ⟨.list [], .list [], .lst (sqL ((same_upd he) _ _ hd2)) .nil, .lst (sqL upd_same) .nil, rfl, rfl, ?_⟩
          exact q _ ((s1.trans s2).trans (same_upd he))
end
theorem alk_int {K : PySem.W.Frag} {H : Hp} {m : Nat} {i j : Int} (h : i = j) : Alk K H (m + 1) (.int i) (.int j) := .inl ⟨rfl, by rw [h]⟩
theorem alk_bl {K : PySem.W.Frag} {H : Hp} {m : Nat} {i j : Bool} (h : i = j) : Alk K H (m + 1) (.bl i) (.bl j) := .inl ⟨rfl, by rw [h]⟩
theorem alk_tp {K : PySem.W.Frag} {H : Hp} {m : Nat} {a b : Addr} {ns : List Int} (ha : Tp H a ns) (hb : Tp H b ns) (hl : ns.length ≤ 1000) : Alk K H (m + 2) (.ref a) (.ref b) := by
  refine .inr ⟨a, b, _, _, rfl, rfl, .inr ⟨ha.sq, hb.sq⟩, rfl, by rw [List.length_map]; exact hl, fun i u v hu hv => ?_⟩
  rw [hu] at hv
  cases hv
  rw [List.getElem?_map] at hu
  cases e : ns[i]? with
  | none => rw [e] at hu; cases hu
  | some z => rw [e] at hu; cases hu; exact alk_int rfl
theorem alk_prs {K : PySem.W.Frag} {H : Hp} {m : Nat} {a b : Addr} {xs ys : List V} {ps : List (Int × Int)} (hx : Prs H xs ps) (hy : Prs H ys ps) (ha : H a = some (.tup xs)) (hb : H b = some (.tup ys)) (hl : ps.length ≤ 1000) : Alk K H (m + 3) (.ref a) (.ref b) := by
  refine .inr ⟨a, b, _, _, rfl, rfl, .inr ⟨sqT ha, sqT hb⟩, hx.len.trans hy.len.symm, by rw [hx.len]; exact hl, fun i u v hu hv => ?_⟩
  obtain ⟨r, x1, x2, rfl, g1, e1⟩ := hx.get hu
  obtain ⟨t, y1, y2, rfl, g2, e2⟩ := hy.get hv
  rw [g1] at g2
  cases g2
  refine .inr ⟨r, t, _, _, rfl, rfl, .inr ⟨.inl e1, .inl e2⟩, rfl, by show 2 ≤ 1000; decide, fun j u v hu hv => ?_⟩
  rw [hu] at hv
  cases hv
  match j, hu with
  | 0, hu => cases hu; exact alk_int rfl
  | 1, hu => cases hu; exact alk_int rfl
  | j + 2, hu => simp at hu
theorem alk_two {K : PySem.W.Frag} {H : Hp} {m : Nat} {a b : Addr} {x1 x2 y1 y2 : V} (ha : H a = some (.lst [x1, x2])) (hb : H b = some (.lst [y1, y2])) (h1 : Alk K H m x1 y1) (h2 : Alk K H m x2 y2) : Alk K H (m + 1) (.ref a) (.ref b) := by
  refine .inr ⟨a, b, _, _, rfl, rfl, .inl ⟨sqL ha, sqL hb⟩, rfl, by show 2 ≤ 1000; decide, fun i u v hu hv => ?_⟩
  match i, hu, hv with
  | 0, hu, hv => cases hu; cases hv; exact h1
  | 1, hu, hv => cases hu; cases hv; exact h2
  | i + 2, hu, hv => simp at hu
end TR
namespace TR
open PySem PySem.Spec PyProof.Rows L2
/-! ### rows of rankings, each known -/
inductive Rts (H : Hp) : List V → List (List Int) → Prop
  | nil : Rts H [] []
  | cons {b : Addr} {r : List Int} {vs : List V} {rs : List (List Int)} : Tp H b r → Rts H vs rs → Rts H (.ref b :: vs) (r :: rs)
theorem Tp.updl {H : Hp} {a D : Addr} {ns : List Int} {xs ys : List V} (t : Tp H a ns) (e : H D = some (.lst xs)) : Tp (upd H D (.lst ys)) a ns := by
  obtain ⟨o, d, h⟩ := t
  exact ⟨o, d, by rw [upd_ne (ne_of h e (by intro z; cases z))]; exact h⟩
theorem Rts.same {H H' : Hp} {vs : List V} {ps : List (List Int)} (h : Rts H vs ps) (s : Same H H') : Rts H' vs ps := by
  induction h with
  | nil => exact .nil
  | cons e _ ih => exact .cons (e.same s) ih
theorem Rts.upd_lst {H : Hp} {vs : List V} {ps : List (List Int)} {D : Addr} {xs ys : List V} (h : Rts H vs ps) (e : H D = some (.lst xs)) : Rts (upd H D (.lst ys)) vs ps := by
  induction h with
  | nil => exact .nil
  | cons e2 _ ih => exact .cons (e2.updl e) ih
theorem Rts.append {H : Hp} {vs ws : List V} {ps qs : List (List Int)} (h : Rts H vs ps) (g : Rts H ws qs) : Rts H (vs ++ ws) (ps ++ qs) := by
  induction h with
  | nil => exact g
  | cons e _ ih => exact .cons e ih
theorem Rts.len {H : Hp} {vs : List V} {ps : List (List Int)} (h : Rts H vs ps) : vs.length = ps.length := by
  induction h with
  | nil => rfl
  | cons _ _ ih => rw [List.length_cons, List.length_cons, ih]
theorem Rts.get {H : Hp} {vs : List V} {ps : List (List Int)} (h : Rts H vs ps) : ∀ {i : Nat} {x : V}, vs[i]? = some x → ∃ b r, x = .ref b ∧ ps[i]? = some r ∧ Tp H b r := by
  induction h with
  | nil => intro i x e; simp at e
  | cons e _ ih =>
    intro i x g
    cases i with
    | zero => exact ⟨_, _, (Option.some.inj g).symm, rfl, e⟩
    | succ i => exact ih g
theorem Rts.snoc {H : Hp} {r : List Int} : ∀ {vs : List V} {rs : List (List Int)}, Rts H vs (rs ++ [r]) → ∃ ws t, vs = ws ++ [.ref t] ∧ Rts H ws rs ∧ Tp H t r
  | _, [], h => by
    cases h with
    | cons e g => cases g; exact ⟨[], _, rfl, .nil, e⟩
  | _, x :: rs, h => by
    cases h with
    | cons e g =>
      obtain ⟨ws, t, rfl, g2, e2⟩ := Rts.snoc g
      exact ⟨_ :: ws, t, rfl, .cons e g2, e2⟩
theorem alk_rts {K : PySem.W.Frag} {H : Hp} {m : Nat} {a b : Addr} {xs ys : List V} {ps : List (List Int)} (hx : Rts H xs ps) (hy : Rts H ys ps) (ha : SqT K H a xs) (hb : SqT K H b ys) (hl : ps.length ≤ 1000) (hr : ∀ r ∈ ps, r.length ≤ 1000) : Alk K H (m + 3) (.ref a) (.ref b) := by
  refine .inr ⟨a, b, _, _, rfl, rfl, .inr ⟨ha, hb⟩, hx.len.trans hy.len.symm, by rw [hx.len]; exact hl, fun i u v hu hv => ?_⟩
  obtain ⟨r, x1, rfl, g1, e1⟩ := hx.get hu
  obtain ⟨t, y1, rfl, g2, e2⟩ := hy.get hv
  rw [g1] at g2
  cases g2
  exact alk_tp e1 e2 (hr _ (List.mem_of_getElem? g1))
theorem walk_inL {K : PySem.W.Frag} {a : Addr} {xs : List V} {H4 : Hp} {Nx : Hp → Prop} {B : V → Hp → (Hp → Prop) → Prop} (Pv : Nat → Hp → Prop) (h0 : Pv 0 H4) (hl : ∀ i H, Pv i H → SqL K H a xs) (hs : ∀ i x H, xs[i]? = some x → Pv i H → B x H (Pv (i + 1))) (hd : ∀ H, Pv xs.length H → Nx H) :
    ∃ W : Nat → Nat → Hp → Prop, (∃ m, W 0 m H4) ∧ ∀ i k H, W i k H → ((Itl K a).stop i H ∧ Nx H) ∨ ((Itl K a).go i H ∧ ∃ N : Hp → Prop, (∀ H', N H' → ∃ k', k' < k ∧ W (i + 1) k' H') ∧ ∀ x H', (Itl K a).yld i H x H' → B x H' N) := by
  refine ⟨fun i m H => m = xs.length - i ∧ i ≤ xs.length ∧ Pv i H, ⟨xs.length, by simp, Nat.zero_le _, h0⟩, ?_⟩
  rintro i m H ⟨rfl, hi, p⟩
  have q := hl i H p
  by_cases hlt : i < xs.length
  · refine .inr ⟨⟨xs, xs[i], q, by simp [hlt]⟩, Pv (i + 1), fun H' p' => ⟨xs.length - (i + 1), by omega, rfl, hlt, p'⟩, fun x H' y => ?_⟩
    obtain ⟨e, y⟩ := y
    subst e
    exact hs i x _ (y xs q) p
  · have e : i = xs.length := by omega
    subst e
    exact .inl ⟨⟨xs, q, Nat.le_refl _⟩, hd H p⟩
end TR
namespace TR
open PySem PySem.Spec PyProof.Rows L2
/-- a value's truth, the written part named -/
def tTruth (K : PySem.W.Frag) (ta : TE) : TT := fun σ H Q => ta σ H fun x H' => ∃ k, TruV K x H' k ∧ Q k H'
theorem pt_tru {X : Cx} {a : Expr} {ta : TE} {K : PySem.W.Frag} (ha : PE X a ta) (hK : X.K = K) (he : ∀ whole, isTrue a X.env whole = (do let v ← whole; standAt a.pos; holding [v] (truthy v))) : PT X a (tTruth K ta) := by
  subst hK
  exact pt_truth ha he
end TR
namespace TR
open PySem PySem.Spec PyProof.Rows L2
theorem scAtup : FnScope ["size", "length", "rows", "step", "row", "more"] ["size", "length"] (defScope sAtup) := ⟨rfl, rfl, rfl, by decide +kernel, rfl, by decide +kernel, by decide +kernel⟩
section
variable {P : Program} {w : World} {K : PySem.W.Frag} {mg : Str → Option Value} {base : Heap}
theorem snoc_cases (r : List Int) : r = [] ∨ ∃ r' z, r = r' ++ [z] := by
  rcases List.eq_nil_or_concat r with h | ⟨r', z, h⟩
  · exact .inl h
  · exact .inr ⟨r', z, by rw [h, List.concat_eq_append]⟩
def spAtup : Sp := fun vs H Q _ => ∃ (n k : Nat), vs = [.int (n : Int), .int (k : Int)] ∧ n ≤ 100 ∧ k ≤ 100 ∧ (∀ j, j ≤ k → (atup n j).length ≤ 100000) ∧
  ∀ H' l xs, Same H H' → H l = none → H' l = some (.lst xs) → Rts H' xs (atup n k) → Q (.ref l) H'
theorem ok_Atup {f  : Addr} {fd  : FuncData} {m : Nat} (F : Fun K "ascending_tuples" "ascending_tuples" sAtup f fd)
    (m_range : mg "range" = none) : FnOk P w K mg base CX0 (m + 1) f fd ["size", "length"] spAtup := by
  refine F.ok scAtup (fun vs H Q E h => ?_) (fun cdv A outer s H vs Q E hr h => ?_)
  · obtain ⟨n, k, rfl, _⟩ := h
    rfl
  · obtain ⟨n, k, rfl, hn, hk, hN, q⟩ := h
    refine ⟨_, 
      (pss_cons (ps_set (i := 2) scAtup.nd rfl (.inl rfl) (pe_lst (pa_cons (pe_tupF pa_nil) pa_nil))) 
      (pss_cons (ps_for PassesOwn.never rfl (pi_range1 (by rfl) m_range (pa_cons (pv 1) pa_nil)) (pg_name (i := 3) scAtup.nd rfl (.inl rfl)) 
        (pss_one (ps_setLc2 (i := 2) (own := [("row", 4), ("more", 5)]) (vs1 := [5]) (g := gName 4) (g1 := gName 5) (tt := tYes) (tt1 := tYes)  (by rfl) scAtup.nd rfl rfl (sw_true rfl rfl rfl (by decide +kernel)) (pi_list (pv 2)) (blkOk_by (own := [("row", 4), ("more", 5)]) (N := ["size", "length", "rows", "step", "row", "more"]) (sc := defScope sAtup) (by decide +kernel)) (by decide) (fun _ _ _ _ _ => (pg_name (i := 4) scAtup.nd rfl (Or.inl rfl))) (fun _ _ _ _ _ => pts_nil) (fun _ _ _ _ _ => (pi_range2 (by rfl) m_range (pa_cons (pe_ifExp (pt_tru (K := K) (pv 4) rfl (fun _ => rfl)) (pe_op op_add (pe_ix (r := rIxT K) ix_tup (pv 4) (pe_un un_neg pe_int) (fun _ _ => rfl)) pe_int) pe_int) (pa_cons (pv 0) pa_nil)))) (fun _ _ _ _ _ => (pg_name (i := 5) scAtup.nd rfl (Or.inl rfl))) (fun _ _ _ _ _ => pts_nil) (fun _ _ _ _ _ => (pe_op (r := rCatF K) op_catF (pv 4) (pe_tupF (pa_cons (pv 5) pa_nil))))))) 
      (pss_one (ps_ret (pv 2))))), ?_⟩
    refine ⟨by show 0 ≤ sizeLine; exact Nat.zero_le _, fun p0 o0 hp0 ho0 => ⟨by show 1 ≤ sizeLine; decide, fun l0 hl0 => ?_⟩⟩
    have s0 : Same H (upd H p0 (.frz o0 (.tup []))) := same_upd hp0
    have t0 : Tp (upd H p0 (.frz o0 (.tup (([] : List Int).map V.int)))) p0 [] := Tp.new ho0
    refine ⟨.int (k : Int), rfl, k, rfl, by omega, by omega, for_range (n := k) (lo := 0) (fun i σ H1 => ∃ l y3 y4 y5, σ = [some (.int (n : Int)), some (.int (k : Int)), some (.ref l), y3, y4, y5] ∧ H l = none ∧ ∃ xs, H1 l = some (.lst xs) ∧ Rts H1 xs (atup n i) ∧ Same H H1) ⟨l0, none, none, none, rfl, s0.free hl0, [.ref p0], upd_same, .cons (t0.same (same_upd hl0)) .nil, s0.trans (same_upd hl0)⟩ (fun i σ H1 hi h => ?_) (fun σ H1 h => ?_)⟩
    · obtain ⟨l, y3, y4, y5, rfl, hl0, xs, el, hX, s1⟩ := h
      refine ⟨.ref l, rfl, l, rfl, ⟨_, sqL el⟩, fun D hD => ?_⟩
      refine walk_inL (K := K) (a := l) (xs := xs) (fun j H2 => Same H1 H2 ∧ ∃ ys, H2 D = some (.lst ys) ∧ Rts H2 ys (((atup n i).take j).flatMap (ext n))) ⟨same_upd hD, [], upd_same, .nil⟩ (fun j H2 h => h.1.seq (sqL el)) (fun j x H2 hx h => ?_) (fun H2 h => ?_)
      · obtain ⟨s2, ys, eD, hR⟩ := h
        obtain ⟨b, r, rfl, hg, tb⟩ := hX.get hx
        have ok := atup_ok (List.mem_of_getElem? hg)
        have hlr := ok.len
        have hlo := ok.lo
        have tb2 := tb.same s2
        rcases snoc_cases r with rfl | ⟨r', z, rfl⟩
        · rw [nxt0_nil] at hlo
          refine ⟨rfl, .ref b, rfl, false, .inr (.inl ⟨_, tb2.sq, rfl⟩), iteF ?_⟩
          refine ⟨.int (n : Int), rfl, 0, (n : Int), rfl, ⟨by omega, by omega, by omega, by omega⟩, walk_in (n := ((n : Int) - (0 : Int)).toNat) (lo := (0 : Int)) (fun t H3 => Same H1 H3 ∧ ∃ zs, H3 D = some (.lst zs) ∧ Rts H3 zs (((atup n i).take j).flatMap (ext n) ++ (List.range t).map fun t : Nat => ([] : List Int) ++ [(0 : Int) + (t : Int)])) ⟨s2, ys, eD, by simpa using hR⟩ (fun t H3 htt h => ?_) (fun H3 h => ?_)⟩
          · obtain ⟨s3, zs, eD3, hR3⟩ := h
            have hl3 := hR3.len
            rw [List.length_append, List.length_map, List.length_range] at hl3
            have bl := take_flat_len (ext n) (atup n i) (j + 1)
            rw [take_flat (ext n) hg, List.length_append] at bl
            have el : (ext n (([] : List Int))).length = ((n : Int) - (0 : Int)).toNat := by
              unfold ext
              rw [List.length_map, List.length_range, nxt0_nil]
            have hbig := hN (i + 1) (by omega)
            have hbig2 : ((atup n i).flatMap (ext n)).length ≤ 100000 := hbig
            have fin : ∀ (H4 : Hp) (u : Addr), Same H3 H4 → Tp H4 u (([] : List Int) ++ [(0 : Int) + (t : Int)]) → ∃ acc, H4 D = some (.lst acc) ∧ acc.length < sizeLine ∧ Same H1 (upd H4 D (.lst (acc ++ [.ref u]))) ∧ ∃ zs, upd H4 D (.lst (acc ++ [.ref u])) D = some (.lst zs) ∧ Rts (upd H4 D (.lst (acc ++ [.ref u]))) zs (((atup n i).take j).flatMap (ext n) ++ (List.range (t + 1)).map fun t : Nat => ([] : List Int) ++ [(0 : Int) + (t : Int)]) := by
              intro H4 u s4 tu
              have e4 := s4 _ _ eD3
              refine ⟨zs, e4, ?_, same_upd2 (s3.trans s4) hD, zs ++ [.ref u], upd_same, ?_⟩
              · rw [sizeLine_eq]
                omega
              · rw [map_succ, ← List.append_assoc]
                exact ((hR3.same s4).upd_lst e4).append (.cons (tu.updl e4) .nil)
            have tb3 := tb.same s3
            refine ⟨rfl, .ref b, rfl, .int ((0 : Int) + (t : Int)), rfl, by show 1 ≤ sizeLine; decide, fun p o hp ho => ?_⟩
            have tp : Tp (upd H3 p (.frz o (.tup ([(0 : Int) + (t : Int)].map V.int)))) p [(0 : Int) + (t : Int)] := Tp.new ho
            have sp : Same H3 (upd H3 p (.frz o (.tup ([(0 : Int) + (t : Int)].map V.int)))) := same_upd hp
            refine ⟨b, p, _, _, rfl, rfl, (tb3.same sp).sq, tp.sq, ?_, fun zz => ?_, fun _ zz => ?_, fun _ _ p2 o2 hp2 ho2 => ?_⟩
            · rw [List.length_map, List.length_map, hlr]
              exact Nat.le_of_lt (small1000 (by show i + 1 ≤ 1000; omega))
            · have e0 : ([] : List Int) = [] := List.map_eq_nil_iff.mp zz
              refine fin _ p sp ?_
              rw [e0]
              exact tp
            · cases zz
            · rw [← List.map_append]
              exact fin _ p2 (sp.trans (same_upd hp2)) (Tp.new ho2)
          · obtain ⟨s3, zs, eD3, hR3⟩ := h
            refine ⟨s3, zs, eD3, ?_⟩
            rw [take_flat (ext n) hg]
            have ee : ext n (([] : List Int)) = (List.range ((n : Int) - (0 : Int)).toNat).map fun t : Nat => ([] : List Int) ++ [(0 : Int) + (t : Int)] := by
              unfold ext
              rw [nxt0_nil]
            rw [ee]
            exact hR3
        · rw [nxt0_app] at hlo
          refine ⟨rfl, .ref b, rfl, true, .inr (.inl ⟨_, tb2.sq, by simp⟩), iteT ?_⟩
          have alast : atI ((r' ++ [z]).map V.int) (-1) = some (.int z) := by
            rw [List.map_append]
            exact atI_last _ _
          refine ⟨.ref b, rfl, 1, rfl, b, _, -1, _, rfl, rfl, tb2.sq, alast, _, 1, rfl, rfl, .int (n : Int), rfl, z + 1, (n : Int), rfl, ⟨by omega, by omega, by omega, by omega⟩, walk_in (n := ((n : Int) - (z + 1)).toNat) (lo := (z + 1)) (fun t H3 => Same H1 H3 ∧ ∃ zs, H3 D = some (.lst zs) ∧ Rts H3 zs (((atup n i).take j).flatMap (ext n) ++ (List.range t).map fun t : Nat => (r' ++ [z]) ++ [(z + 1) + (t : Int)])) ⟨s2, ys, eD, by simpa using hR⟩ (fun t H3 htt h => ?_) (fun H3 h => ?_)⟩
          · obtain ⟨s3, zs, eD3, hR3⟩ := h
            have hl3 := hR3.len
            rw [List.length_append, List.length_map, List.length_range] at hl3
            have bl := take_flat_len (ext n) (atup n i) (j + 1)
            rw [take_flat (ext n) hg, List.length_append] at bl
            have el : (ext n ((r' ++ [z]))).length = ((n : Int) - (z + 1)).toNat := by
              unfold ext
              rw [List.length_map, List.length_range, nxt0_app]
            have hbig := hN (i + 1) (by omega)
            have hbig2 : ((atup n i).flatMap (ext n)).length ≤ 100000 := hbig
            have fin : ∀ (H4 : Hp) (u : Addr), Same H3 H4 → Tp H4 u ((r' ++ [z]) ++ [(z + 1) + (t : Int)]) → ∃ acc, H4 D = some (.lst acc) ∧ acc.length < sizeLine ∧ Same H1 (upd H4 D (.lst (acc ++ [.ref u]))) ∧ ∃ zs, upd H4 D (.lst (acc ++ [.ref u])) D = some (.lst zs) ∧ Rts (upd H4 D (.lst (acc ++ [.ref u]))) zs (((atup n i).take j).flatMap (ext n) ++ (List.range (t + 1)).map fun t : Nat => (r' ++ [z]) ++ [(z + 1) + (t : Int)]) := by
              intro H4 u s4 tu
              have e4 := s4 _ _ eD3
              refine ⟨zs, e4, ?_, same_upd2 (s3.trans s4) hD, zs ++ [.ref u], upd_same, ?_⟩
              · rw [sizeLine_eq]
                omega
              · rw [map_succ, ← List.append_assoc]
                exact ((hR3.same s4).upd_lst e4).append (.cons (tu.updl e4) .nil)
            have tb3 := tb.same s3
            refine ⟨rfl, .ref b, rfl, .int ((z + 1) + (t : Int)), rfl, by show 1 ≤ sizeLine; decide, fun p o hp ho => ?_⟩
            have tp : Tp (upd H3 p (.frz o (.tup ([(z + 1) + (t : Int)].map V.int)))) p [(z + 1) + (t : Int)] := Tp.new ho
            have sp : Same H3 (upd H3 p (.frz o (.tup ([(z + 1) + (t : Int)].map V.int)))) := same_upd hp
            refine ⟨b, p, _, _, rfl, rfl, (tb3.same sp).sq, tp.sq, ?_, fun zz => ?_, fun _ zz => ?_, fun _ _ p2 o2 hp2 ho2 => ?_⟩
            · rw [List.length_map, List.length_map, hlr]
              exact Nat.le_of_lt (small1000 (by show i + 1 ≤ 1000; omega))
            · have e0 : (r' ++ [z]) = [] := List.map_eq_nil_iff.mp zz
              refine fin _ p sp ?_
              rw [e0]
              exact tp
            · cases zz
            · rw [← List.map_append]
              exact fin _ p2 (sp.trans (same_upd hp2)) (Tp.new ho2)
          · obtain ⟨s3, zs, eD3, hR3⟩ := h
            refine ⟨s3, zs, eD3, ?_⟩
            rw [take_flat (ext n) hg]
            have ee : ext n ((r' ++ [z])) = (List.range ((n : Int) - (z + 1)).toNat).map fun t : Nat => (r' ++ [z]) ++ [(z + 1) + (t : Int)] := by
              unfold ext
              rw [nxt0_app]
            rw [ee]
            exact hR3
      · obtain ⟨s2, ys, eD, hR⟩ := h
        rw [hX.len, List.take_length] at hR
        exact ⟨D, _, _, _, rfl, s1.free hD, ys, eD, hR, s1.trans s2⟩
    · obtain ⟨l, y3, y4, y5, rfl, hl0, xs, el, hX, s1⟩ := h
      exact ⟨.ref l, rfl, q H1 l xs s1 hl0 el hX⟩
end
end TR
namespace TR
open PySem PySem.Spec PyProof.Rows L2
theorem scPairs : FnScope ["dishes"] ["dishes"] (defScope sPairs) := ⟨rfl, rfl, rfl, by decide +kernel, rfl, by decide +kernel, by decide +kernel⟩
section
variable {P : Program} {w : World} {K : PySem.W.Frag} {mg : Str → Option Value} {base : Heap}
/-! ### all_pairs -/
def spPairs : Sp := fun vs H Q _ => ∃ n : Nat, vs = [.int (n : Int)] ∧ n ≤ 8 ∧ ∀ H' l xs, Same H H' → H l = none → H' l = some (.lst xs) → Prs H' xs (pairs n) → Q (.ref l) H'
theorem rts_prs {H : Hp} : ∀ {xs : List V} {ps : List (Int × Int)}, Rts H xs (ps.map fun p => [p.1, p.2]) → Prs H xs ps
  | _, [], h => by cases h; exact .nil
  | _, p :: r, h => by
    cases h with
    | cons t g =>
      obtain ⟨o, _, e⟩ := t
      exact .cons (.inr ⟨o, e⟩) (rts_prs g)
theorem ok_Pairs {f f_ascending_tuples : Addr} {fd d_ascending_tuples : FuncData} {m : Nat} (F : Fun K "all_pairs" "all_pairs" sPairs f fd)
    (k_ascending_tuples : PySem.W.keepIn K (.ref f_ascending_tuples) = true) (b_ascending_tuples : Binds K d_ascending_tuples ["size", "length"] []) (g_ascending_tuples : mg "ascending_tuples" = some (.ref f_ascending_tuples)) (G_ascending_tuples : FnOk P w K mg base CX0 m f_ascending_tuples d_ascending_tuples ["size", "length"] spAtup)
     : FnOk P w K mg base CX0 (m + 1) f fd ["dishes"] spPairs := by
  refine F.ok scPairs (fun vs H Q E h => ?_) (fun cdv A outer s H vs Q E hr h => ?_)
  · obtain ⟨n, rfl, _⟩ := h
    rfl
  · obtain ⟨n, rfl, hn, q⟩ := h
    refine ⟨_, 
      (pss_one (ps_ret (pe_call G_ascending_tuples hr (by rfl) g_ascending_tuples k_ascending_tuples b_ascending_tuples .nil pass0 (pa_cons (pv 0) (pa_cons pe_int pa_nil))))), ?_⟩
    refine ⟨.int (n : Int), rfl, n, 2, rfl, by omega, by decide, atup2_len n hn, fun H1 l xs s1 hl el hR => q H1 l xs s1 hl el (rts_prs ?_)⟩
    rw [← atup_two]
    exact hR
end
end TR
namespace TR
open PySem PySem.Spec PyProof.Rows L2
theorem scBetw : FnScope ["one", "other", "third", "shared", "pair"] ["one", "other", "third"] (defScope sBetw) := ⟨rfl, rfl, rfl, by decide +kernel, rfl, by decide +kernel, by decide +kernel⟩
section
variable {P : Program} {w : World} {K : PySem.W.Frag} {mg : Str → Option Value} {base : Heap}
def spBetw : Sp := fun vs H Q _ => ∃ (a b c : Addr) (n : Nat) (ns ms ls : List Int), vs = [.ref a, .ref b, .ref c] ∧ Tp H a ns ∧ Tp H b ms ∧ Tp H c ls ∧ Rank n ns ∧ Rank n ms ∧ Rank n ls ∧ n ≤ 8 ∧ ∀ H', Same H H' → Q (.bl (betw n ns ms ls)) H'
theorem ok_betw {f fA fL : Addr} {fd fdA fdL : FuncData} {k : Nat} (F : Fun K "is_between" "is_between" sBetw f fd) (kA : PySem.W.keepIn K (.ref fA) = true) (bA : Binds K fdA ["one", "other", "pair"] []) (gA : mg "agree" = some (.ref fA)) (GA : FnOk P w K mg base CX0 (k + 2) fA fdA ["one", "other", "pair"] spAgree)
    (kL : PySem.W.keepIn K (.ref fL) = true) (bL : Binds K fdL ["dishes"] []) (gL : mg "all_pairs" = some (.ref fL)) (GL : FnOk P w K mg base CX0 (k + 2) fL fdL ["dishes"] spPairs) (mlen : mg "len" = none) (mall : mg "all" = none) : FnOk P w K mg base CX0 (k + 3) f fd ["one", "other", "third"] spBetw := by
  refine F.ok scBetw (fun vs H Q E h => ?_) (fun cdv A outer s H vs Q E hr h => ?_)
  · obtain ⟨a, b, c, n, ns, ms, ls, rfl, _⟩ := h
    rfl
  · obtain ⟨a, b, c, n, ns, ms, ls, rfl, ha, hb, hc, hna, hnb, hnc, hn, q⟩ := h
    refine ⟨_, pss_cons (ps_setLc (i := 3) (own := [("pair", 4)]) (g := gName 4) (by rfl) scBetw.nd rfl rfl (sw_true rfl rfl rfl (by decide +kernel)) (pi_list (pe_call GL hr (by rfl) gL kL bL .nil pass0 (pa_cons (pe_callB call_len_seq (by rfl) mlen PySem.boot_len (pa_cons (pv 0) pa_nil)) pa_nil)))
        (blkOk_by (own := [("pair", 4)]) (N := ["one", "other", "third", "shared", "pair"]) (sc := defScope sBetw) (by decide +kernel)) (fun _ _ _ _ _ => pg_name (i := 4) scBetw.nd rfl (Or.inl rfl))
        (fun _ _ _ _ _ => pts_one (pt_val (pe_call GA hr (by rfl) gA kA bA .nil pass0 (pa_cons (pv 0) (pa_cons (pv 1) (pa_cons (pv 4) pa_nil))))))
        (fun _ _ _ _ _ => pv 4))
      (pss_one (ps_ret (pe_callB (cr_all (by rfl)) (by rfl) mall (by decide +kernel) (pa_cons
        (pe_lc (own := [("pair", 4)]) (g := gName 4) (tt := tYes) (by rfl) scBetw.nd (pi_list (pv 3))
          (blkOk_by (own := [("pair", 4)]) (N := ["one", "other", "third", "shared", "pair"]) (sc := defScope sBetw) (by decide +kernel)) (fun _ _ _ _ _ => pg_name (i := 4) scBetw.nd rfl (Or.inl rfl))
          (fun _ _ _ _ _ => pts_nil)
          (fun _ _ _ _ _ => pe_call GA hr (by rfl) gA kA bA .nil pass0 (pa_cons (pv 0) (pa_cons (pv 2) (pa_cons (pv 4) pa_nil))))) pa_nil)))), ?_⟩
    have el : (ns.map V.int).length = n := by
      rw [List.length_map]
      exact hna.len
    refine ⟨.ref a, rfl, a, _, rfl, .inr ha.sq, n, by rw [el]; rfl, hn, fun H1 l xs sm hl hl1 hp => ?_⟩
    have plen : (pairs n).length ≤ 64 := by
      have l3 := pairs_len n
      have l4 : n * n ≤ 8 * 8 := Nat.mul_le_mul hn hn
      omega
    refine ⟨l, rfl, ⟨_, sqL hl1⟩, fun D hD => lc_list (K := K) (a := l) (xs := xs) (fun i H2 => Same H1 H2 ∧ ∃ ys, H2 D = some (.lst ys) ∧ Prs H2 ys (((pairs n).take i).filter (agr ns ms))) ⟨same_upd hD, [], upd_same, .nil⟩ (fun i H2 _ h => h.1.seq (sqL hl1)) (fun i x H2 hx h => ?_) (fun H2 h => ?_)⟩
    · obtain ⟨sm2, ys, hd2, hp2⟩ := h
      obtain ⟨r, u, v, rfl, hg, hr2⟩ := hp.get hx
      have hm : (u, v) ∈ pairs n := List.mem_of_getElem? hg
      obtain ⟨b0, b1, b2⟩ := mem_pairs hm
      dsimp only at b0 b1 b2
      have s12 : Same H H2 := sm.trans sm2
      refine ⟨rfl, .ref a, rfl, .ref b, rfl, .ref r, rfl, a, b, r, ns, ms, u, v, rfl, ha.same s12, hb.same s12, rdT_same hr2 sm2, hna.mem b0 (by omega), hna.mem (by omega) b2, hnb.mem b0 (by omega), hnb.mem (by omega) b2, _, rfl, ?_⟩
      have ft := filter_take (agr ns ms) hg
      cases e : agr ns ms (u, v) with
      | false =>
        refine iteF ?_
        refine ⟨sm2, ys, hd2, ?_⟩
        rw [ft]
        simp only [e, Bool.false_eq_true, if_false, List.append_nil]
        exact hp2
      | true =>
        refine iteT ?_
        refine ⟨.ref r, rfl, ys, hd2, ?_, same_upd2 sm2 hD, ys ++ [.ref r], upd_same, ?_⟩
        · have l1 := hp2.len
          have l2 := List.length_filter_le (agr ns ms) ((pairs n).take i)
          rw [List.length_take] at l2
          exact small1000 (by omega)
        · rw [ft]
          simp only [e, if_true]
          exact (hp2.upd_lst hd2).append (.cons (rdT_updl (rdT_same hr2 sm2) hd2) .nil)
    · obtain ⟨sm2, ys, hd2, hp2⟩ := h
      have e : (pairs n).take xs.length = pairs n := List.take_of_length_le (by rw [hp.len]; exact Nat.le_refl _)
      rw [e] at hp2
      have s02 := sm.trans sm2
      have flen : ((pairs n).filter (agr ns ms)).length ≤ 64 := Nat.le_trans (List.length_filter_le _ _) plen
      refine ⟨.ref D, rfl, D, rfl, ⟨_, sqL hd2⟩, fun B hB => lc_list (K := K) (a := D) (xs := ys) (fun i H3 => Same H2 H3 ∧ H3 B = some (.lst ((((pairs n).filter (agr ns ms)).take i).map fun p => V.bl (agr ns ls p)))) ⟨same_upd hB, upd_same⟩ (fun i H3 _ h => h.1.seq (sqL hd2)) (fun i x H3 hx h => ?_) (fun H3 h => ?_)⟩
      · obtain ⟨sm3, hb3⟩ := h
        obtain ⟨r, u, v, rfl, hg, hr2⟩ := hp2.get hx
        have hm : (u, v) ∈ pairs n := (List.mem_filter.mp (List.mem_of_getElem? hg)).1
        obtain ⟨b0, b1, b2⟩ := mem_pairs hm
        dsimp only at b0 b1 b2
        have s13 : Same H H3 := s02.trans sm3
        refine ⟨rfl, .ref a, rfl, .ref c, rfl, .ref r, rfl, a, c, r, ns, ls, u, v, rfl, ha.same s13, hc.same s13, rdT_same hr2 sm3, hna.mem b0 (by omega), hna.mem (by omega) b2, hnc.mem b0 (by omega), hnc.mem (by omega) b2, _, hb3, ?_, same_upd2 sm3 hB, ?_⟩
        · rw [List.length_map, List.length_take]
          exact small1000 (by omega)
        · rw [upd_same, List.take_add_one, hg, List.map_append]
          rfl
      · obtain ⟨sm3, hb3⟩ := h
        have e2 : ((pairs n).filter (agr ns ms)).take ys.length = (pairs n).filter (agr ns ms) := List.take_of_length_le (by rw [hp2.len]; exact Nat.le_refl _)
        rw [e2] at hb3
        have e3 : (((pairs n).filter (agr ns ms)).map fun p => V.bl (agr ns ls p)) = (((pairs n).filter (agr ns ms)).map (agr ns ls)).map V.bl := by
          rw [List.map_map]
          rfl
        rw [e3] at hb3
        refine ⟨B, _, rfl, sqL hb3, ?_⟩
        have e4 : (((pairs n).filter (agr ns ms)).map (agr ns ls)).all id = betw n ns ms ls := by
          unfold betw
          rw [List.all_map]
          rfl
        rw [e4]
        exact q H3 (s02.trans sm3)
end
end TR
namespace TR
open PySem PySem.Spec PyProof.Rows L2
theorem scList : FnScope ["_law_deck_here", "_law_dishes", "_law_left", "_law_found"] ["_law_deck_here", "_law_dishes"] (defScope sList) := ⟨rfl, rfl, rfl, by decide +kernel, rfl, by decide +kernel, by decide +kernel⟩
theorem keep_fresh {d p x : Addr} {H H1 : Hp} {o : HO} (a : Keep d p H H1) (h : H x = none) : Keep d p H (upd H1 x o) := fun c u e n m => by
  rw [upd_ne (ne_of_none e h)]
  exact a c u e n m
theorem Deck.upd {H : Hp} {d p q x : Addr} {n : Nat} {o : HO} (D : Deck H d p q n) (h1 : x ≠ d) (h2 : x ≠ p) (h3 : x ≠ q) : Deck (upd H x o) d p q n := by
  obtain ⟨m, ⟨xs, cs, c, e1, e2, e3, e4⟩, a, b, e⟩ := D
  exact ⟨m, ⟨xs, cs, c, by rw [upd_ne h1.symm]; exact e1, by rw [upd_ne h2.symm]; exact e2, by rw [upd_ne h3.symm]; exact e3, e4⟩, a, b, e⟩
theorem Deck.hq {H : Hp} {d p q : Addr} {n : Nat} (D : Deck H d p q n) : ∃ xs : List Int, H q = some (.lst (xs.map V.int)) := by
  obtain ⟨m, ⟨xs, cs, c, h1, h2, h3, _⟩, _⟩ := D
  exact ⟨_, h3⟩
theorem Deck.neq {H : Hp} {d p q : Addr} {n : Nat} (D : Deck H d p q n) {b : Addr} (h : H b = none) : b ≠ q := by
  obtain ⟨x, e⟩ := D.hq
  exact (ne_of_none e h).symm
theorem rgV_rng (n : Nat) : rgV 0 (n : Int) = (rng n).map V.int := by
  unfold rgV rng
  rw [List.map_map, show ((n : Int) - 0).toNat = n by omega]
  refine congrArg (fun g => (List.range n).map g) (funext fun i => ?_)
  show V.int (0 + (i : Int)) = V.int (i : Int)
  rw [Int.zero_add]
theorem erase_map {α β : Type} (f : α → β) : ∀ (l : List α) (j : Nat), (l.map f).eraseIdx j = (l.eraseIdx j).map f
  | [], _ => rfl
  | _ :: _, 0 => rfl
  | x :: r, j + 1 => by
    show f x :: (r.map f).eraseIdx j = f x :: (r.eraseIdx j).map f
    rw [erase_map f r j]
theorem seq_nat {j n : Nat} (h : j < n) : seqIndex? (j : Int) n = some j := by
  unfold seqIndex?
  rw [if_neg (show ¬ ((j : Int) < 0) by omega)]
  simp [h]
section
variable {P : Program} {w : World} {K : PySem.W.Frag} {mg : Str → Option Value} {base : Heap}
/-! ### _law_list -/
def spList : Sp := fun vs H Q _ => ∃ (d p q : Addr) (c n : Nat), vs = [.ref d, .int (n : Int)] ∧ Deck H d p q c ∧ c + n ≤ 1000000 ∧ n ≤ 8 ∧
  ∀ H' t ns, Rank n ns → Deck H' d p q (c + n) → Keep d p H H' → Tp H' t ns → Q (.ref t) H'
theorem ok_list {f fN : Addr} {fd fdN : FuncData} {k : Nat} (F : Fun K "_law_list" "_law_list" sList f fd) (FN : Fun K "_law_next" "_law_next" sNext fN fdN) (bN : Binds K fdN ["_law_deck_here", "_law_many"] []) (gN : mg "_law_next" = some (.ref fN))
    (GN : FnOk P w K mg base CX0 (k + 1) fN fdN ["_law_deck_here", "_law_many"] spNext) (mr : mg "range" = none) (ml : mg "list" = none) (mlen : mg "len" = none) (mt : mg "tuple" = none) : FnOk P w K mg base CX0 (k + 2) f fd ["_law_deck_here", "_law_dishes"] spList := by
  refine F.ok scList (fun vs H Q E h => ?_) (fun cdv A outer s H vs Q E hr h => ?_)
  · obtain ⟨d, p, q, c, n, rfl, _⟩ := h
    rfl
  · obtain ⟨d, p, q, c, n, rfl, D0, hc, hn, qq⟩ := h
    refine ⟨_, pss_cons (ps_par (i := 2) (j := 3) (by rfl) scList.nd rfl rfl (by decide) rfl rfl (pa_cons (pe_listRg (by rfl) (by rfl) ml (prg_1 (by rfl) mr (pv 1))) (pa_cons (pe_lst pa_nil) pa_nil)) (by rfl))
      (pss_cons (ps_while PassesOwn.never (pt_cmpR (op_neD hr.units) (pv 2) (pe_lst pa_nil) (nomark _))
        (pss_one (ps_expr (pe_bm PySem.F.plainAttrs_list PySem.F.slot_list_append PySem.F.type_list_append mt_append (pv 3) (pa_cons
          (pe_bm PySem.F.plainAttrs_list PySem.F.slot_list_pop PySem.F.type_list_pop mt_popAt (pv 2) (pa_cons
            (pe_call GN hr (by rfl) gN FN.kp bN .nil pass0 (pa_cons (pv 0) (pa_cons (pe_callB call_len_seq (by rfl) mlen PySem.boot_len (pa_cons (pv 2) pa_nil)) pa_nil))) pa_nil)) pa_nil)))))
      (pss_one (ps_ret (pe_callTy call_tupleF (by rfl) mt (by decide +kernel) (pa_cons (pv 3) pa_nil))))), ?_⟩
    refine ⟨.int (n : Int), rfl, n, rfl, RgOk.of_le (by omega) (by omega) (by omega) (by omega), fun l hl => ⟨Nat.zero_le _, fun g hg => ⟨.ref l, .ref g, rfl, ?_⟩⟩⟩
    rw [rgV_rng] at hg ⊢
    have hg0 : H g = none := (same_upd hl).free hg
    have nlg : l ≠ g := ne_of_none (upd_same (H := H)) hg
    refine ⟨fun m σ H1 => σ = [some (.ref d), some (.int (n : Int)), some (.ref l), some (.ref g)] ∧ ∃ left found : List Int, H1 l = some (.lst (left.map V.int)) ∧ H1 g = some (.lst (found.map V.int)) ∧ left.length = m ∧ m ≤ n ∧ (left ++ found).Perm (rng n) ∧ Deck H1 d p q (c + (n - m)) ∧ Keep d p H H1,
      ⟨n, rfl, rng n, [], ?_, upd_same, rng_len n, Nat.le_refl _, by rw [List.append_nil], ?_, ?_⟩, fun m σ H1 hW => ?_⟩
    · rw [upd_ne nlg, upd_same]
    · rw [Nat.sub_self]
      exact (D0.same (same_upd hl)).same (same_upd hg)
    · exact Same.keep ((same_upd hl).trans (same_upd hg))
    · obtain ⟨rfl, left, found, h1, h2, h3, h4, h5, D1, kp⟩ := hW
      refine ⟨.ref l, rfl, Nat.zero_le _, fun e he => ?_⟩
      have sE : Same H1 (upd H1 e (.lst [])) := same_upd he
      refine ⟨_, _, .lst (sqL (sE _ _ h1)) (dpAll_ints left), .lst (sqL upd_same) .nil, shaped_ints left, rfl, _, rfl, ?_⟩
      rw [eqv_nil]
      have kp1 : Keep d p H (upd H1 e (.lst [])) := kp.trans (Same.keep sE)
      have D2 := D1.same sE
      have h1' := sE _ _ h1
      have h2' := sE _ _ h2
      generalize upd H1 e (.lst []) = H2 at h1' h2' D2 kp1 ⊢
      cases left with
      | cons x r =>
        refine iteT ?_
        refine ⟨fun σ H' => σ = [some (.ref d), some (.int (n : Int)), some (.ref l), some (.ref g)] ∧ ∃ left found : List Int, H' l = some (.lst (left.map V.int)) ∧ H' g = some (.lst (found.map V.int)) ∧ left.length = r.length ∧ r.length ≤ n ∧ (left ++ found).Perm (rng n) ∧ Deck H' d p q (c + (n - r.length)) ∧ Keep d p H H',
          fun σ' H' hN => ⟨r.length, by rw [← h3]; exact Nat.lt_succ_self _, hN⟩, ?_⟩
        rw [List.length_cons] at h3
        refine ⟨.ref g, rfl, .inl ⟨rfl, _, sqL h2'⟩, .ref l, rfl, .inl ⟨rfl, _, sqL h1'⟩, .ref d, rfl, .ref l, rfl, l, _, rfl, .inl (sqL h1'), d, p, q, c + (n - m), _, rfl, D2, by omega, ?_, ?_, fun H3 z z0 z1 D3 kp3 => ?_⟩
        · rw [List.length_map, List.length_cons]
          omega
        · rw [List.length_map, List.length_cons]
          omega
        · rw [List.length_map] at z1
          have nld : l ≠ d := D0.ned hl
          have nlp : l ≠ p := D0.nep hl
          have nlq : l ≠ q := D0.neq hl
          have ngd : g ≠ d := D0.ned hg0
          have ngp : g ≠ p := D0.nep hg0
          have ngq : g ≠ q := D0.neq hg0
          have h1'' := kp3 _ _ h1' nld nlp
          have h2'' := kp3 _ _ h2' ngd ngp
          obtain ⟨j, rfl⟩ := Int.eq_ofNat_of_zero_le z0
          have hj : j < (x :: r).length := by omega
          have gj : (x :: r)[j]? = some (x :: r)[j] := List.getElem?_eq_getElem hj
          have hlen : (x :: r).length ≤ n := by
            rw [List.length_cons]
            omega
          refine ⟨l, _, (j : Int), j, .int (x :: r)[j], rfl, rfl, h1'', by omega, by omega, seq_nat (by rw [List.length_map]; exact hj), by rw [List.getElem?_map, gj]; rfl, ?_⟩
          have fl : found.length ≤ n := by
            have e := h5.length_eq
            rw [List.length_append, rng_len] at e
            omega
          refine ⟨g, _, _, rfl, rfl, by rw [upd_ne nlg.symm]; exact h2'', by rw [List.length_map]; exact small1000 (by omega), ?_⟩
          refine ⟨rfl, (x :: r).eraseIdx j, found ++ [(x :: r)[j]], ?_, ?_, ?_, by omega, ?_, ?_, ?_⟩
          · rw [upd_ne nlg, upd_same, erase_map]
          · rw [upd_same, List.map_append]
            rfl
          · rw [List.length_eraseIdx_of_lt hj]
            rfl
          · refine List.Perm.trans ?_ h5
            refine List.Perm.trans ?_ ((perm_erase gj).append_right found)
            refine List.Perm.trans (l₂ := (((x :: r).eraseIdx j) ++ ([(x :: r)[j]] ++ found))) (List.Perm.append_left _ List.perm_append_comm) ?_
            rw [← List.append_assoc]
            exact List.Perm.append_right _ (List.perm_append_comm)
          · refine Deck.mono ((D3.upd nld nlp nlq).upd ngd ngp ngq) ?_
            omega
          · exact keep_fresh (keep_fresh (kp1.trans kp3) hl) hg0
      | nil =>
        refine iteF ?_
        refine ⟨.ref g, rfl, g, _, rfl, sqL h2', fun t o ht ho => qq _ t found h5 ?_ ?_ (Tp.new ho)⟩
        · exact (D2.same (same_upd ht)).mono (by omega)
        · exact kp1.trans (Same.keep (same_upd ht))
end
end TR
namespace TR
open PySem PySem.Spec PyProof.Rows L2
theorem scExch : FnScope ["_law_row", "_law_k"] ["_law_row", "_law_k"] (defScope sExch) := ⟨rfl, rfl, rfl, by decide +kernel, rfl, by decide +kernel, by decide +kernel⟩
theorem cut_to {xs : List V} {k : Nat} (h : k ≤ xs.length) : cutV xs none (some (k : Int)) = xs.take k := by
  unfold cutV
  rw [HT.sIx_none, HT.sIx_nat, Nat.min_eq_left h]
  rfl
theorem cut_from {xs : List V} {k : Nat} : cutV xs (some (k : Int)) none = xs.drop k := by
  unfold cutV
  rw [HT.sIx_none, HT.sIx_nat]
  by_cases h : k ≤ xs.length
  · rw [Nat.min_eq_left h]
    exact List.take_of_length_le (by rw [List.length_drop]; exact Nat.le_refl _)
  · rw [Nat.min_eq_right (by omega), List.drop_of_length_le (Nat.le_refl _), List.drop_of_length_le (by omega), List.take_nil]
section
variable {P : Program} {w : World} {K : PySem.W.Frag} {mg : Str → Option Value} {base : Heap}
/-! ### _law_exchanged -/
def spExch : Sp := fun vs H Q _ => ∃ (a : Addr) (ns : List Int) (n k : Nat), vs = [.ref a, .int (k : Int)] ∧ Tp H a ns ∧ Rank n ns ∧ k + 1 < n ∧ n ≤ 8 ∧
  ∀ H' t, Same H H' → Rank n (swp ns k) → Tp H' t (swp ns k) → Q (.ref t) H'
theorem ok_exch {f : Addr} {fd : FuncData} {k : Nat} (F : Fun K "_law_exchanged" "_law_exchanged" sExch f fd) : FnOk P w K mg base CX0 (k + 1) f fd ["_law_row", "_law_k"] spExch := by
  refine F.ok scExch (fun vs H Q E h => ?_) (fun cdv A outer s H vs Q E hr h => ?_)
  · obtain ⟨a, ns, n, j, rfl, _⟩ := h
    rfl
  · obtain ⟨a, ns, n, j, rfl, ht, hrk, hj, hn, q⟩ := h
    refine ⟨_, pss_one (ps_ret (pe_op op_catF (pe_op op_catF (pe_slice sl_tupF (pv 0) po_none (po_some (pv 1))) (pe_tupF (pa_cons (pe_ix ix_tup (pv 0) (pe_op op_add (pv 1) pe_int) (fun _ _ => rfl)) (pa_cons (pe_ix ix_tup (pv 0) (pv 1) (fun _ _ => rfl)) pa_nil))))
      (pe_slice sl_tupF (pv 0) (po_some (pe_op op_add (pv 1) pe_int)) po_none))), ?_⟩
    have hl : ns.length = n := hrk.len
    have hlm : (ns.map V.int).length = n := by rw [List.length_map]; exact hl
    have j1 : j < ns.length := by omega
    have j2 : j + 1 < ns.length := by omega
    have gx : ns[j]? = some ns[j] := List.getElem?_eq_getElem j1
    have gy : ns[j + 1]? = some ns[j + 1] := List.getElem?_eq_getElem j2
    have vx : atI (ns.map V.int) (j : Int) = some (.int ns[j]) := atI_nat (by rw [List.getElem?_map, gx]; rfl)
    have vy : atI (ns.map V.int) ((j : Int) + 1) = some (.int ns[j + 1]) := by
      have e : ((j : Int) + 1) = ((j + 1 : Nat) : Int) := by omega
      rw [e]
      exact atI_nat (by rw [List.getElem?_map, gy]; rfl)
    refine ⟨.ref a, rfl, .int (j : Int), rfl, (j : Int), rfl, a, _, rfl, ht.sq, fun hw => ?_, fun _ p1 o1 hp1 ho1 => ?_⟩
    · have h2 := hw.2
      rw [HT.sIx_nat, hlm] at h2
      omega
    · rw [cut_to (by rw [hlm]; omega), ← List.map_take] at *
      have s1 : Same H (upd H p1 (.frz o1 (.tup ((ns.take j).map V.int)))) := same_upd hp1
      have t1 : Tp (upd H p1 (.frz o1 (.tup ((ns.take j).map V.int)))) p1 (ns.take j) := Tp.new ho1
      generalize upd H p1 (.frz o1 (.tup ((ns.take j).map V.int))) = H1 at s1 t1 ⊢
      have ht1 := ht.same s1
      refine ⟨.ref a, rfl, .int (j : Int), rfl, (j : Int), 1, rfl, rfl, a, _, _, _, rfl, rfl, ht1.sq, vy, .ref a, rfl, .int (j : Int), rfl, a, _, _, _, rfl, rfl, ht1.sq, vx, by show 2 ≤ sizeLine; decide, fun p2 o2 hp2 ho2 => ?_⟩
      have e2 : [V.int ns[j + 1], V.int ns[j]] = [ns[j + 1], ns[j]].map V.int := rfl
      rw [e2]
      have s2 : Same H1 (upd H1 p2 (.frz o2 (.tup ([ns[j + 1], ns[j]].map V.int)))) := same_upd hp2
      have t2 : Tp (upd H1 p2 (.frz o2 (.tup ([ns[j + 1], ns[j]].map V.int)))) p2 [ns[j + 1], ns[j]] := Tp.new ho2
      generalize upd H1 p2 (.frz o2 (.tup ([ns[j + 1], ns[j]].map V.int))) = H2 at s2 t2 ⊢
      have t12 := t1.same s2
      have s02 := s1.trans s2
      have hperm : Rank n (ns.take j ++ ([ns[j + 1], ns[j]] ++ ns.drop (j + 2))) := (perm_swap gx gy).trans hrk
      have esw : swp ns j = ns.take j ++ ([ns[j + 1], ns[j]] ++ ns.drop (j + 2)) := by
        unfold swp
        rw [getD_of j1, getD_of j2]
      have lt : (ns.take j).length = j := by
        rw [List.length_take]
        omega
      have ld : (ns.drop (j + 2)).length = n - (j + 2) := by rw [List.length_drop, hl]
      have step : ∀ (H3 : Hp) (t3 : Addr), Same H H3 → Tp H3 t3 (ns.take j ++ [ns[j + 1], ns[j]]) → tSl (rSlF K) (tVar 0) (tPart (tOp (rI0 fun i j => .int (i + j)) (tVar 1) (tC (.int 2)))) tNoPart [some (.ref a), some (.int (j : Int))] H3 (fun y H4 => rCatF K (.ref t3) y H4 Q) := by
        intro H3 t3 s3 tp3
        refine ⟨.ref a, rfl, .int (j : Int), rfl, (j : Int), 2, rfl, rfl, _, rfl, a, _, rfl, (ht.same s3).sq, fun hw => ?_, fun _ p4 o4 hp4 ho4 => ?_⟩
        · have h2 := hw.1
          rw [show ((j : Int) + 2) = ((j + 2 : Nat) : Int) by omega, HT.sIx_nat, hlm] at h2
          omega
        · rw [show ((j : Int) + 2) = ((j + 2 : Nat) : Int) by omega, cut_from, ← List.map_drop]
          have s4 : Same H3 (upd H3 p4 (.frz o4 (.tup ((ns.drop (j + 2)).map V.int)))) := same_upd hp4
          have t4 : Tp (upd H3 p4 (.frz o4 (.tup ((ns.drop (j + 2)).map V.int)))) p4 (ns.drop (j + 2)) := Tp.new ho4
          generalize upd H3 p4 (.frz o4 (.tup ((ns.drop (j + 2)).map V.int))) = H4 at s4 t4 ⊢
          have tp4 := tp3.same s4
          refine ⟨t3, p4, _, _, rfl, rfl, tp4.sq, t4.sq, ?_, fun z => ?_, fun _ z => ?_, fun _ _ p5 o5 hp5 ho5 => ?_⟩
          · rw [List.length_map, List.length_map, List.length_append, lt, ld]
            exact Nat.le_of_lt (small1000 (by show j + 2 + (n - (j + 2)) ≤ 1000; omega))
          · rw [List.map_append] at z
            exact absurd (List.append_eq_nil_iff.mp z).2 (by intro w; cases w)
          · have e0 : ns.drop (j + 2) = [] := List.map_eq_nil_iff.mp z
            rw [e0, List.append_nil] at hperm esw
            exact q H4 t3 (s3.trans s4) (esw ▸ hperm) (esw ▸ tp4)
          · rw [← List.map_append]
            rw [← List.append_assoc] at hperm esw
            exact q _ p5 ((s3.trans s4).trans (same_upd hp5)) (esw ▸ hperm) (esw ▸ Tp.new ho5)
      refine ⟨p1, p2, _, _, rfl, rfl, t12.sq, t2.sq, ?_, fun z => step H2 p2 s02 ?_, fun _ z => ?_, fun _ _ p3 o3 hp3 ho3 => ?_⟩
      · rw [List.length_map, List.length_map, lt]
        exact Nat.le_of_lt (small1000 (by show j + 2 ≤ 1000; omega))
      · have e0 : ns.take j = [] := List.map_eq_nil_iff.mp z
        rw [e0]
        exact t2
      · cases z
      · rw [← List.map_append]
        exact step _ p3 (s02.trans (same_upd hp3)) (Tp.new ho3)
end
end TR
namespace TR
open PySem PySem.Spec PyProof.Rows L2
theorem scLPairs : FnScope ["_law_dishes", "_law_found", "_law_a", "_law_b"] ["_law_dishes"] (defScope sLPairs) := ⟨rfl, rfl, rfl, by decide +kernel, rfl, by decide +kernel, by decide +kernel⟩
section
variable {P : Program} {w : World} {K : PySem.W.Frag} {mg : Str → Option Value} {base : Heap}
/-! ### _law_pairs -/
theorem ok_lpairs {f : Addr} {fd : FuncData} {k : Nat} (F : Fun K "_law_pairs" "_law_pairs" sLPairs f fd) (mr : mg "range" = none) : FnOk P w K mg base CX0 (k + 1) f fd ["_law_dishes"] spPairs := by
  refine F.ok scLPairs (fun vs H Q E h => ?_) (fun cdv A outer s H vs Q E hr h => ?_)
  · obtain ⟨n, rfl, _⟩ := h
    rfl
  · obtain ⟨n, rfl, hn, q⟩ := h
    refine ⟨_, pss_cons (ps_set (i := 1) scLPairs.nd rfl (.inl rfl) (pe_lst pa_nil))
      (pss_cons (ps_for PassesOwn.never rfl (pi_range1 (by rfl) mr (pa_cons (pv 0) pa_nil)) (pg_name (i := 2) scLPairs.nd rfl (.inr rfl))
        (pss_one (ps_expr (pe_bm PySem.F.plainAttrs_list PySem.F.slot_list_extend PySem.F.type_list_extend mt_extend (pv 1) (pa_cons
          (pe_lc (own := [("_law_b", 3)]) (g := gName 3) (tt := tYes) (by rfl) scLPairs.nd (pi_range2 (by rfl) mr (pa_cons (pe_op op_add (pv 2) pe_int) (pa_cons (pv 0) pa_nil)))
            (blkOk_by (own := [("_law_b", 3)]) (N := ["_law_dishes", "_law_found", "_law_a", "_law_b"]) (sc := defScope sLPairs) (by decide +kernel)) (fun _ _ _ _ _ => pg_name (i := 3) scLPairs.nd rfl (Or.inl rfl)) (fun _ _ _ _ _ => pts_nil)
            (fun _ _ _ _ _ => pe_tup (pa_cons (pv 2) (pa_cons (pv 3) pa_nil)))) pa_nil)))))
      (pss_one (ps_ret (pv 1)))), ?_⟩
    refine ⟨Nat.zero_le _, fun o ho => ⟨.int (n : Int), rfl, n, rfl, by omega, by omega, for_range (n := n) (lo := 0) (fun i σ H1 => (∃ y2 y3, σ = [some (.int (n : Int)), some (.ref o), y2, y3]) ∧ Same H H1 ∧ ∃ xs, H1 o = some (.lst xs) ∧ Prs H1 xs ((List.range i).flatMap (prow n))) ⟨⟨none, none, rfl⟩, same_upd ho, [], upd_same, .nil⟩ (fun i σ H1 hi h => ?_) (fun σ H1 h => ?_)⟩⟩
    · obtain ⟨⟨y2, y3, rfl⟩, sm, xs, hx, hp⟩ := h
      refine ⟨.ref o, rfl, .inl ⟨rfl, _, sqL hx⟩, .int (0 + (i : Int)), rfl, _, _, rfl, rfl, .int (n : Int), rfl, _, _, rfl, ⟨by omega, by omega, by omega, by omega⟩, fun D hD => ?_⟩
      have nDo : o ≠ D := ne_of_none hx hD
      refine walk_in (n := ((n : Int) - (0 + (i : Int) + 1)).toNat) (lo := 0 + (i : Int) + 1) (fun j H2 => Same H1 H2 ∧ ∃ ys, H2 D = some (.lst ys) ∧ Prs H2 ys ((List.range j).map fun t : Nat => ((i : Int), ((i : Int) + 1 + (t : Int))))) ⟨same_upd hD, [], upd_same, .nil⟩ (fun j H2 hj h => ?_) (fun H2 h => ?_)
      · obtain ⟨sm2, ys, hd2, hp2⟩ := h
        refine ⟨rfl, .int (0 + (i : Int)), rfl, .int (0 + (i : Int) + 1 + (j : Int)), rfl, by show 2 ≤ sizeLine; decide, fun t ht => ?_⟩
        have nDt : D ≠ t := ne_of_none hd2 ht
        have hl : ys.length < sizeLine := by
          have l1 := hp2.len
          rw [List.length_map, List.length_range] at l1
          exact small1000 (by omega)
        refine ⟨ys, by rw [upd_ne nDt]; exact hd2, hl, same_upd2 (same_upd2 sm2 (sm2.free ht)) hD, ys ++ [.ref t], upd_same, ?_⟩
        rw [map_succ]
        refine Prs.append ((hp2.same (same_upd ht)).upd_lst (by rw [upd_ne nDt]; exact hd2)) (.cons (.inl ?_) .nil)
        rw [upd_ne nDt.symm, upd_same]
        simp
      · obtain ⟨sm2, ys, hd2, hp2⟩ := h
        have hx2 := sm2 _ _ hx
        refine ⟨o, D, xs, ys, rfl, rfl, hx2, hd2, ?_, ⟨some (.int (0 + (i : Int))), _, rfl⟩, same_upd2 (sm.trans sm2) ho, xs ++ ys, upd_same, ?_⟩
        · have l1 := hp2.len
          have l2 := hp.len
          have l3 := flat_len n i
          rw [List.length_map, List.length_range] at l1
          have l4 : i * n ≤ 8 * 8 := Nat.mul_le_mul (by omega) hn
          exact Nat.le_of_lt (small1000 (by omega))
        · rw [flat_succ]
          refine ((hp.same sm2).upd_lst hx2).append ?_
          unfold prow
          rw [show n - (i + 1) = ((n : Int) - (0 + (i : Int) + 1)).toNat by omega]
          exact hp2.upd_lst hx2
    · obtain ⟨⟨y2, y3, rfl⟩, sm, xs, hx, hp⟩ := h
      exact ⟨.ref o, rfl, q H1 o xs sm ho hx hp⟩
end
end TR
namespace TR
open PySem PySem.Spec PyProof.Rows L2
theorem scUnlike : FnScope ["_law_one_here", "_law_other", "_law_found", "_law_a", "_law_b", "_law_first"] ["_law_one_here", "_law_other"] (defScope sUnlike) := ⟨rfl, rfl, rfl, by decide +kernel, rfl, by decide +kernel, by decide +kernel⟩
section
variable {P : Program} {w : World} {K : PySem.W.Frag} {mg : Str → Option Value} {base : Heap}
theorem pref_int (ns : List Int) (x y : Int) : decide (((ns.idxOf x : Nat) : Int) < ((ns.idxOf y : Nat) : Int)) = pref ns x y := by
  unfold pref
  by_cases h : ns.idxOf x < ns.idxOf y
  · rw [decide_eq_true h, decide_eq_true (by omega)]
  · rw [decide_eq_false h, decide_eq_false (by omega)]
/-! ### _law_unlike -/
def spUnlike : Sp := fun vs H Q _ => ∃ (a b : Addr) (n : Nat) (ns ms : List Int), vs = [.ref a, .ref b] ∧ Tp H a ns ∧ Tp H b ms ∧ Rank n ns ∧ Rank n ms ∧ n ≤ 8 ∧
  ∀ H' t xs, Same H H' → H t = none → H' t = some (.lst xs) → Prs H' xs (diffs n ns ms) → Q (.ref t) H'
theorem ok_unlike {f fL : Addr} {fd fdL : FuncData} {k : Nat} (F : Fun K "_law_unlike" "_law_unlike" sUnlike f fd) (FL : Fun K "_law_pairs" "_law_pairs" sLPairs fL fdL) (bL : Binds K fdL ["_law_dishes"] []) (gL : mg "_law_pairs" = some (.ref fL)) (GL : FnOk P w K mg base CX0 (k + 1) fL fdL ["_law_dishes"] spPairs)
    (mlen : mg "len" = none) : FnOk P w K mg base CX0 (k + 2) f fd ["_law_one_here", "_law_other"] spUnlike := by
  refine F.ok scUnlike (fun vs H Q E h => ?_) (fun cdv A outer s H vs Q E hr h => ?_)
  · obtain ⟨a, b, n, ns, ms, rfl, _⟩ := h
    rfl
  · obtain ⟨a, b, n, ns, ms, rfl, ha, hb, hna, hnb, hn, q⟩ := h
    refine ⟨_, pss_cons (ps_set (i := 2) scUnlike.nd rfl (.inl rfl) (pe_lst pa_nil))
      (pss_cons (ps_for PassesOwn.never rfl (pi_list (pe_call GL hr (by rfl) gL FL.kp bL .nil pass0 (pa_cons (pe_callB call_len_seq (by rfl) mlen PySem.boot_len (pa_cons (pv 0) pa_nil)) pa_nil)))
          (pg_tup (by rfl) (pgs_cons (pg_name (i := 3) scUnlike.nd rfl (.inl rfl)) (pgs_cons (pg_name (i := 4) scUnlike.nd rfl (.inl rfl)) pgs_nil)))
        (pss_cons (ps_set (i := 5) scUnlike.nd rfl (.inl rfl) (pe_cmpR op_lt (pe_bmT PySem.F.slot_tuple_index PySem.F.type_tuple_index mt_tupIdx (pv 0) (pa_cons (pv 3) pa_nil)) (pe_bmT PySem.F.slot_tuple_index PySem.F.type_tuple_index mt_tupIdx (pv 0) (pa_cons (pv 4) pa_nil)) (nomark _)))
        (pss_one (ps_if (pt_cmpR op_ne (pv 5) (pe_cmpR op_lt (pe_bmT PySem.F.slot_tuple_index PySem.F.type_tuple_index mt_tupIdx (pv 1) (pa_cons (pv 3) pa_nil)) (pe_bmT PySem.F.slot_tuple_index PySem.F.type_tuple_index mt_tupIdx (pv 1) (pa_cons (pv 4) pa_nil)) (nomark _)) (nomark _))
          (pss_one (ps_expr (pe_bm PySem.F.plainAttrs_list PySem.F.slot_list_append PySem.F.type_list_append mt_append (pv 2) (pa_cons (pe_tup (pa_cons (pv 3) (pa_cons (pv 4) pa_nil))) pa_nil)))) pss_nil))))
      (pss_one (ps_ret (pv 2)))), ?_⟩
    have el : (ns.map V.int).length = n := by
      rw [List.length_map]
      exact hna.len
    refine ⟨Nat.zero_le _, fun o ho => ?_⟩
    have s1 : Same H (upd H o (.lst [])) := same_upd ho
    have ho1 : upd H o (.lst []) o = some (.lst []) := upd_same
    generalize upd H o (.lst []) = H1 at s1 ho1 ⊢
    refine ⟨.ref a, rfl, a, _, rfl, .inr (ha.same s1).sq, n, by rw [el]; rfl, hn, fun H2 l xs sm hl hl2 hp => ?_⟩
    refine ⟨l, rfl, ⟨_, sqL hl2⟩, for_list (K := K) (a := l) (xs := xs) (fun i σ H3 => (∃ y3 y4 y5, σ = [some (.ref a), some (.ref b), some (.ref o), y3, y4, y5]) ∧ Same H H3 ∧ H3 l = some (.lst xs) ∧ Prs H3 xs (pairs n) ∧ ∃ ys, H3 o = some (.lst ys) ∧ Prs H3 ys (((pairs n).take i).filter fun p => !agr ns ms p)) ⟨⟨none, none, none, rfl⟩, s1.trans sm, hl2, hp, [], sm _ _ ho1, .nil⟩
      (fun i σ H3 _ h => sqL h.2.2.1) (fun i x σ H3 hx h => ?_) (fun σ H3 h => ?_)⟩
    · obtain ⟨⟨y3, y4, y5, rfl⟩, s3, hl3, hp3, ys, ho3, hq3⟩ := h
      obtain ⟨r, u, v, rfl, hg, hr2⟩ := hp3.get hx
      have hm : (u, v) ∈ pairs n := List.mem_of_getElem? hg
      obtain ⟨b0, b1, b2⟩ := mem_pairs hm
      dsimp only at b0 b1 b2
      have x1 := hna.mem b0 (show u < (n : Int) by omega)
      have y1 := hna.mem (show 0 ≤ v by omega) b2
      have x2 := hnb.mem b0 (show u < (n : Int) by omega)
      have y2 := hnb.mem (show 0 ≤ v by omega) b2
      have ha3 := ha.same s3
      have hb3 := hb.same s3
      obtain ⟨oa, da, ea⟩ := id ha3
      obtain ⟨ob, db, eb⟩ := id hb3
      refine ⟨r, _, rfl, (.inl hr2), rfl, .int u, _, rfl, .int v, _, rfl, rfl, ?_⟩
      refine ⟨.ref a, rfl, ⟨a, oa, _, rfl, da, ea⟩, .int u, rfl, a, ns, u, ns.idxOf u, rfl, rfl, ha3.sq, at_idx x1, fun m hm => idx_first hm,
        .ref a, rfl, ⟨a, oa, _, rfl, da, ea⟩, .int v, rfl, a, ns, v, ns.idxOf v, rfl, rfl, ha3.sq, at_idx y1, fun m hm => idx_first hm, _, _, rfl, rfl, ?_⟩
      refine ⟨_, rfl, .ref b, rfl, ⟨b, ob, _, rfl, db, eb⟩, .int u, rfl, b, ms, u, ms.idxOf u, rfl, rfl, hb3.sq, at_idx x2, fun m hm => idx_first hm,
        .ref b, rfl, ⟨b, ob, _, rfl, db, eb⟩, .int v, rfl, b, ms, v, ms.idxOf v, rfl, rfl, hb3.sq, at_idx y2, fun m hm => idx_first hm, _, _, rfl, rfl, rfl, _, rfl, ?_⟩
      have ft := filter_take (fun p => !agr ns ms p) hg
      have ec : (!decide (V.bl (decide (((ns.idxOf u : Nat) : Int) < ((ns.idxOf v : Nat) : Int))) = V.bl (decide (((ms.idxOf u : Nat) : Int) < ((ms.idxOf v : Nat) : Int))))) = !agr ns ms (u, v) := by
        rw [pref_int, pref_int]
        unfold agr
        show _ = !(pref ns u v == pref ms u v)
        cases pref ns u v <;> cases pref ms u v <;> rfl
      show if (!decide (V.bl (decide (((ns.idxOf u : Nat) : Int) < ((ns.idxOf v : Nat) : Int))) = V.bl (decide (((ms.idxOf u : Nat) : Int) < ((ms.idxOf v : Nat) : Int))))) = true then _ else _
      rw [ec]
      cases e : agr ns ms (u, v) with
      | true =>
        refine iteF ?_
        refine ⟨⟨_, _, _, rfl⟩, s3, hl3, hp3, ys, ho3, ?_⟩
        rw [ft]
        simp only [e, Bool.not_true, Bool.false_eq_true, if_false, List.append_nil]
        exact hq3
      | false =>
        refine iteT ?_
        refine ⟨.ref o, rfl, .inl ⟨rfl, _, sqL ho3⟩, .int u, rfl, .int v, rfl, by show 2 ≤ sizeLine; decide, fun t ht => ?_⟩
        have not_ : o ≠ t := ne_of_none ho3 ht
        have nlo : l ≠ o := fun z => by
          rw [z] at hl
          rw [hl] at ho1
          cases ho1
        have ho4 : upd H3 t (.tup [.int u, .int v]) o = some (.lst ys) := by
          rw [upd_ne not_]
          exact ho3
        refine ⟨o, ys, _, rfl, rfl, ho4, ?_, ⟨_, _, _, rfl⟩, ?_, ?_, ?_, ys ++ [.ref t], upd_same, ?_⟩
        · have l1 := hq3.len
          have l2 := List.length_filter_le (fun p => !agr ns ms p) ((pairs n).take i)
          have l3 := pairs_len n
          rw [List.length_take] at l2
          have l4 : n * n ≤ 8 * 8 := Nat.mul_le_mul hn hn
          exact small1000 (by omega)
        · exact same_upd2 (s3.trans (same_upd ht)) ho
        · rw [upd_ne nlo]
          exact (same_upd ht) _ _ hl3
        · exact (hp3.same (same_upd ht)).upd_lst ho4
        · rw [ft]
          simp only [e, Bool.not_false, if_true]
          refine ((hq3.same (same_upd ht)).upd_lst ho4).append (.cons (.inl ?_) .nil)
          rw [upd_ne not_.symm, upd_same]
    · obtain ⟨⟨y3, y4, y5, rfl⟩, s3, hl3, hp3, ys, ho3, hq3⟩ := h
      have e : (pairs n).take xs.length = pairs n := List.take_of_length_le (by rw [hp.len]; exact Nat.le_refl _)
      rw [e] at hq3
      exact ⟨.ref o, rfl, q H3 o ys s3 ho ho3 hq3⟩
end
end TR
namespace TR
open PySem PySem.Spec PyProof.Rows L2
theorem scOne : FnScope ["_law_deck_here", "_law_some"] ["_law_deck_here", "_law_some"] (defScope sOne) := ⟨rfl, rfl, rfl, by decide +kernel, rfl, by decide +kernel, by decide +kernel⟩
section
variable {P : Program} {w : World} {K : PySem.W.Frag} {mg : Str → Option Value} {base : Heap}
def spOne : Sp := fun vs H Q _ => ∃ (d p q l : Addr) (c : Nat) (xs : List V), vs = [.ref d, .ref l] ∧ Deck H d p q c ∧ c ≤ 1000000 ∧ H l = some (.lst xs) ∧ l ≠ d ∧ l ≠ p ∧ xs ≠ [] ∧ xs.length < 1000000 ∧
  ∀ H' x, x ∈ xs → Deck H' d p q (c + 1) → Keep d p H H' → Q x H'
theorem ok_one {f fN : Addr} {fd fdN : FuncData} {k : Nat} (F : Fun K "_law_one" "_law_one" sOne f fd) (kN : PySem.W.keepIn K (.ref fN) = true) (bN : Binds K fdN ["_law_deck_here", "_law_many"] []) (gN : mg "_law_next" = some (.ref fN))
    (GN : FnOk P w K mg base CX0 (k + 1) fN fdN ["_law_deck_here", "_law_many"] spNext) (mlen : mg "len" = none) : FnOk P w K mg base CX0 (k + 2) f fd ["_law_deck_here", "_law_some"] spOne := by
  refine F.ok scOne (fun vs H Q E h => ?_) (fun cdv A outer s H vs Q E hr h => ?_)
  · obtain ⟨d, p, q, l, c, xs, rfl, _⟩ := h
    rfl
  · obtain ⟨d, p, q, l, c, xs, rfl, D0, hc, hl, nld, nlp, hne, hlen, qq⟩ := h
    refine ⟨_, pss_one (ps_ret (pe_ix ix_list (pv 1) (pe_call GN hr (by rfl) gN kN bN .nil pass0 (pa_cons (pv 0) (pa_cons (pe_callB call_len_seq (by rfl) mlen PySem.boot_len (pa_cons (pv 1) pa_nil)) pa_nil))) (fun _ _ => rfl))), ?_⟩
    have h0 : 0 < xs.length := List.length_pos_iff.mpr hne
    refine ⟨.ref l, rfl, .ref d, rfl, .ref l, rfl, l, xs, rfl, .inl (sqL hl), d, p, q, c, _, rfl, D0, hc, by omega, by omega, fun H1 r r0 r1 D1 k1 => ?_⟩
    obtain ⟨j, rfl⟩ := Int.eq_ofNat_of_zero_le r0
    have hj : j < xs.length := by omega
    exact ⟨l, xs, _, xs[j], rfl, rfl, sqL (k1 _ _ hl nld nlp), atI_nat (List.getElem?_eq_getElem hj), qq H1 _ (List.getElem_mem hj) D1 k1⟩
end
end TR
namespace TR
open PySem PySem.Spec PyProof.Rows L2
theorem scRoad : FnScope ["_law_deck_here", "_law_dishes", "_law_steps", "_law_found", "_law_done", "_law_turn", "_law_row", "_law_k", "_law_pairs_here", "_law_some"] ["_law_deck_here", "_law_dishes", "_law_steps"] (defScope sRoad) := ⟨rfl, rfl, rfl, by decide +kernel, rfl, by decide +kernel, by decide +kernel⟩
theorem units65 {k : Nat} {A : Around} (r : Room k A) : A.units + 65 < cLine := by
  have := r.un
  omega
/-! ### rows of rankings -/
def Rws (n : Nat) (H : Hp) (xs : List V) : Prop := ∀ x ∈ xs, ∃ b ms, x = .ref b ∧ Tp H b ms ∧ Rank n ms
theorem Rws.same {n : Nat} {H H' : Hp} {xs : List V} (h : Rws n H xs) (s : Same H H') : Rws n H' xs := fun x hx => by
  obtain ⟨b, ms, e, t, r⟩ := h x hx
  exact ⟨b, ms, e, t.same s, r⟩
theorem Rws.keep {n c : Nat} {H H' : Hp} {xs : List V} {d p q : Addr} (h : Rws n H xs) (D : Deck H d p q c) (s : Keep d p H H') : Rws n H' xs := fun x hx => by
  obtain ⟨b, ms, e, t, r⟩ := h x hx
  exact ⟨b, ms, e, t.keep D s, r⟩
theorem Tp.upd_lst {H : Hp} {a D : Addr} {ns : List Int} {xs ys : List V} (t : Tp H a ns) (e : H D = some (.lst xs)) : Tp (upd H D (.lst ys)) a ns := by
  obtain ⟨o, d, h⟩ := t
  exact ⟨o, d, by rw [upd_ne (ne_of h e (by intro z; cases z))]; exact h⟩
theorem Rws.upd_lst {n : Nat} {H : Hp} {D : Addr} {xs us ys : List V} (h : Rws n H xs) (e : H D = some (.lst us)) : Rws n (upd H D (.lst ys)) xs := fun x hx => by
  obtain ⟨b, ms, e1, t, r⟩ := h x hx
  exact ⟨b, ms, e1, t.upd_lst e, r⟩
theorem Rws.app {n : Nat} {H : Hp} {xs : List V} {b : Addr} {ms : List Int} (h : Rws n H xs) (t : Tp H b ms) (r : Rank n ms) : Rws n H (xs ++ [.ref b]) := fun x hx => by
  rcases List.mem_append.mp hx with hx | hx
  · exact h x hx
  · rw [List.mem_singleton] at hx
    exact ⟨b, ms, hx, t, r⟩
theorem Prs.keep {H H' : Hp} {vs : List V} {ps : List (Int × Int)} {d p q : Addr} {n : Nat} (h : Prs H vs ps) (D : Deck H d p q n) (s : Keep d p H H') : Prs H' vs ps := by
  induction h with
  | nil => exact .nil
  | cons e _ ih => exact .cons (rdT_keep e D s) ih
theorem Keep.free {H H1 : Hp} {d p q g : Addr} {n : Nat} (k : Keep d p H H1) (D : Deck H1 d p q n) (h : H1 g = none) : H g = none := by
  cases e : H g with
  | none => rfl
  | some o =>
    have := k g o e (D.ned h) (D.nep h)
    rw [h] at this
    cases this
theorem last_of {xs : List V} (h : xs ≠ []) : ∃ x ∈ xs, atI xs (-1) = some x := by
  refine ⟨xs.getLast h, List.getLast_mem h, ?_⟩
  have e := atI_last xs.dropLast (xs.getLast h)
  rw [List.dropLast_concat_getLast] at e
  exact e
/-! ### pairs as data -/
theorem can_prs : ∀ ps : List (Int × Int), PyData.canLayAll0 (ps.map pd) = true
  | [] => rfl
  | p :: r => by
    show (PyData.canLay0 (pd p) && PyData.canLayAll0 (r.map pd)) = true
    rw [can_prs r]
    rfl
theorem dep_prs : ∀ ps : List (Int × Int), PyData.depthAll (ps.map pd) ≤ 1
  | [] => Nat.zero_le _
  | p :: r => by
    show max (PyData.depth (pd p)) (PyData.depthAll (r.map pd)) ≤ 1
    exact Nat.max_le.mpr ⟨by show 1 ≤ 1; decide, dep_prs r⟩
theorem shaped_prs (ps : List (Int × Int)) : SeqAt.shaped (.list (ps.map pd)) = true := by
  show (PyData.canLayAll0 (ps.map pd) && decide (PyData.depthAll (ps.map pd) + 1 ≤ 64)) = true
  have h := dep_prs ps
  rw [can_prs, decide_eq_true (by omega)]
  rfl
theorem any_prs (qs : List (Int × Int)) (p : Int × Int) : ((qs.map pd).any fun z => PyData.eqv z (pd p)) = qs.contains p := by
  induction qs with
  | nil => rfl
  | cons x r ih =>
    rw [List.map_cons, List.any_cons, ih, List.contains_cons]
    congr 1
    show ((x.1 == p.1) && ((x.2 == p.2) && true)) = (p == x)
    rw [Bool.and_true, Bool.beq_comm (a := p)]
    rfl
section
variable {P : Program} {w : World} {K : PySem.W.Frag} {mg : Str → Option Value} {base : Heap}
/-! ### _law_road -/
def spRoad : Sp := fun vs H Q _ => ∃ (d p q : Addr) (c n st : Nat), vs = [.ref d, .int (n : Int), .int (st : Int)] ∧ Deck H d p q c ∧ c ≤ 900000 ∧ 1 ≤ n ∧ n ≤ 8 ∧ st ≤ 100 ∧
  ∀ H' l xs, H l = none → H' l = some (.lst xs) → Rws n H' xs → xs ≠ [] → xs.length ≤ st + 1 → Deck H' d p q (c + n + st) → Keep d p H H' → Q (.ref l) H'
theorem ok_road {f fL fO fE : Addr} {fd dL dO dE : FuncData} {k : Nat} (F : Fun K "_law_road" "_law_road" sRoad f fd)
    (kL : PySem.W.keepIn K (.ref fL) = true) (bL : Binds K dL ["_law_deck_here", "_law_dishes"] []) (gL : mg "_law_list" = some (.ref fL)) (GL : FnOk P w K mg base CX0 (k + 1) fL dL ["_law_deck_here", "_law_dishes"] spList)
    (kO : PySem.W.keepIn K (.ref fO) = true) (bO : Binds K dO ["_law_deck_here", "_law_some"] []) (gO : mg "_law_one" = some (.ref fO)) (GO : FnOk P w K mg base CX0 (k + 1) fO dO ["_law_deck_here", "_law_some"] spOne)
    (kE : PySem.W.keepIn K (.ref fE) = true) (bE : Binds K dE ["_law_row", "_law_k"] []) (gE : mg "_law_exchanged" = some (.ref fE)) (GE : FnOk P w K mg base CX0 (k + 1) fE dE ["_law_row", "_law_k"] spExch)
    (mr : mg "range" = none) (mt : mg "tuple" = none) (mso : mg "sorted" = none) : FnOk P w K mg base CX0 (k + 2) f fd ["_law_deck_here", "_law_dishes", "_law_steps"] spRoad := by
  refine F.ok scRoad (fun vs H Q E h => ?_) (fun cdv A outer s H vs Q E hr h => ?_)
  · obtain ⟨d, p, q, c, n, st, rfl, _⟩ := h
    rfl
  · obtain ⟨d, p, q, c, n, st, rfl, D0, hc, hn1, hn, hst, qq⟩ := h
    refine ⟨_, pss_cons (ps_set (i := 3) scRoad.nd rfl (.inl rfl) (pe_lst (pa_cons (pe_call GL hr (by rfl) gL kL bL .nil pass0 (pa_cons (pv 0) (pa_cons (pv 1) pa_nil))) pa_nil)))
      (pss_cons (ps_set (i := 4) scRoad.nd rfl (.inr rfl) (pe_lst pa_nil))
      (pss_cons (ps_for PassesOwn.never rfl (pi_range1 (by rfl) mr (pa_cons (pv 2) pa_nil)) (pg_name (i := 5) scRoad.nd rfl (.inl rfl))
        (pss_cons (ps_set (i := 6) scRoad.nd rfl (.inr rfl) (pe_ix ix_list (pv 3) (pe_un un_neg pe_int) (fun _ _ => rfl)))
        (pss_cons (ps_set (i := 8) scRoad.nd rfl (.inr rfl) (pe_lc (own := [("_law_k", 7)]) (g := gName 7) (tt := tYes) (by rfl) scRoad.nd (pi_range1 (by rfl) mr (pa_cons (pe_op op_sub (pv 1) pe_int) pa_nil))
            (blkOk_by (own := [("_law_k", 7)]) (N := ["_law_deck_here", "_law_dishes", "_law_steps", "_law_found", "_law_done", "_law_turn", "_law_row", "_law_k", "_law_pairs_here", "_law_some"]) (sc := defScope sRoad) (by decide +kernel)) (fun _ _ _ _ _ => pg_name (i := 7) scRoad.nd rfl (Or.inl rfl))
            (fun _ _ _ _ _ => pts_nil)
            (fun _ _ _ _ _ => pe_callTy (r := fun xs H Q => ∃ p ys, xs = [V.ref p] ∧ ((SqL K H p ys ∧ ∀ l, H l = none → Q (.ref l) (upd H l (.tup ys))) ∨ (SqT K H p ys ∧ Q (.ref p) H))) call_tuple_of (by rfl) mt (by decide +kernel) (pa_cons (pe_callB (r := rSortedTI K) cr_sortedTI (by rfl) mso (by decide +kernel) (pa_cons (pe_slice (r := rSlF K) sl_tupF (pv 6) (po_some (pv 7)) (po_some (pe_op op_add (pv 7) pe_int))) pa_nil)) pa_nil))))
        (pss_cons (ps_setLc (i := 9) (own := [("_law_k", 7)]) (g := gName 7) (by rfl) scRoad.nd rfl rfl (sw_true rfl rfl rfl (by decide +kernel)) (pi_range1 (by rfl) mr (pa_cons (pe_op op_sub (pv 1) pe_int) pa_nil))
            (blkOk_by (own := [("_law_k", 7)]) (N := ["_law_deck_here", "_law_dishes", "_law_steps", "_law_found", "_law_done", "_law_turn", "_law_row", "_law_k", "_law_pairs_here", "_law_some"]) (sc := defScope sRoad) (by decide +kernel)) (fun _ _ _ _ _ => pg_name (i := 7) scRoad.nd rfl (Or.inl rfl))
            (fun _ _ _ _ _ => pts_one (pt_cmpR (r := rNotInD K) (op_notInD (units65 hr)) (pe_ix (r := rIxL K) ix_list (pv 8) (pv 7) (fun _ _ => rfl)) (pv 4) (by rfl)))
            (fun _ _ _ _ _ => pv 7))
        (pss_one (ps_if (pt_cmpR (op_neD hr.units) (pv 9) (pe_lst pa_nil) (nomark _))
          (pss_cons (ps_set (i := 7) scRoad.nd rfl (.inl rfl) (pe_call GO hr (by rfl) gO kO bO .nil pass0 (pa_cons (pv 0) (pa_cons (pv 9) pa_nil))))
          (pss_cons (ps_expr (pe_bm PySem.F.plainAttrs_list PySem.F.slot_list_append PySem.F.type_list_append mt_append (pv 4) (pa_cons (pe_ix ix_list (pv 8) (pv 7) (fun _ _ => rfl)) pa_nil)))
          (pss_one (ps_expr (pe_bm PySem.F.plainAttrs_list PySem.F.slot_list_append PySem.F.type_list_append mt_append (pv 3) (pa_cons (pe_call GE hr (by rfl) gE kE bE .nil pass0 (pa_cons (pv 6) (pa_cons (pv 7) pa_nil))) pa_nil)))))) pss_nil))))))
      (pss_one (ps_ret (pv 3))))), ?_⟩
    refine ⟨.ref d, rfl, .int (n : Int), rfl, d, p, q, c, n, rfl, D0, by omega, hn, fun H1 t ns hrk D1 k1 t1 => ⟨by show 1 ≤ sizeLine; decide, fun g hg => ?_⟩⟩
    have hg0 : H g = none := k1.free D1 hg
    have s2 : Same H1 (upd H1 g (.lst [.ref t])) := same_upd hg
    have eg : upd H1 g (.lst [.ref t]) g = some (.lst [.ref t]) := upd_same
    have D2 := D1.same s2
    have k2 : Keep d p H (upd H1 g (.lst [.ref t])) := k1.trans (Same.keep s2)
    have r2 : Rws n (upd H1 g (.lst [.ref t])) [.ref t] := fun x hx => ⟨t, ns, List.mem_singleton.mp hx, t1.same s2, hrk⟩
    generalize upd H1 g (.lst [.ref t]) = H2 at s2 eg D2 k2 r2 ⊢
    refine ⟨Nat.zero_le _, fun e he => ?_⟩
    have he0 : H e = none := k2.free D2 he
    have nge : g ≠ e := ne_of_none eg he
    have s3 : Same H2 (upd H2 e (.lst [])) := same_upd he
    have ee : upd H2 e (.lst []) e = some (.lst []) := upd_same
    have k3 : Keep d p H (upd H2 e (.lst [])) := k2.trans (Same.keep s3)
    have D3 := D2.same s3
    have r3 := r2.same s3
    have eg3 := s3 _ _ eg
    generalize upd H2 e (.lst []) = H3 at s3 ee D3 k3 r3 eg3 ⊢
    have ngd : g ≠ d := D0.ned hg0
    have ngp : g ≠ p := D0.nep hg0
    have ngq : g ≠ q := D0.neq hg0
    have ned : e ≠ d := D0.ned he0
    have nep : e ≠ p := D0.nep he0
    have neq : e ≠ q := D0.neq he0
    refine ⟨.int (st : Int), rfl, st, rfl, by omega, by omega, for_range (n := st) (lo := 0) (fun i σ H4 => (∃ y5 y6 y7 y8 y9, σ = [some (.ref d), some (.int (n : Int)), some (.int (st : Int)), some (.ref g), some (.ref e), y5, y6, y7, y8, y9]) ∧ (∃ xs, H4 g = some (.lst xs) ∧ Rws n H4 xs ∧ xs ≠ [] ∧ xs.length ≤ i + 1) ∧ (∃ ys ps, H4 e = some (.lst ys) ∧ Prs H4 ys ps ∧ ys.length ≤ i) ∧ Deck H4 d p q (c + n + i) ∧ Keep d p H H4)
      ⟨⟨none, none, none, none, none, rfl⟩, ⟨[.ref t], eg3, r3, by simp, Nat.le_refl _⟩, ⟨[], [], ee, .nil, Nat.le_refl _⟩, D3, k3⟩ (fun i σ H4 hi h => ?_) (fun σ H4 h => ?_)⟩
    · obtain ⟨⟨y5, y6, y7, y8, y9, rfl⟩, ⟨xs, eg4, r4, hx0, hxl⟩, ⟨ys, ps, ee4, p4, hyl⟩, D4, k4⟩ := h
      obtain ⟨x, hx, hxa⟩ := last_of hx0
      obtain ⟨b, ms, rfl, tb, hrb⟩ := r4 x hx
      have ml : (ms.map V.int).length = n := by
        rw [List.length_map]
        exact hrb.len
      refine ⟨.ref g, rfl, 1, rfl, g, xs, -1, _, rfl, rfl, sqL eg4, hxa, ?_⟩
      refine ⟨.int (n : Int), rfl, _, _, rfl, rfl, _, rfl, by omega, by omega, fun W hW => walk_in (n := ((n : Int) - 1).toNat) (lo := 0) (fun j H5 => Same H4 H5 ∧ ∃ zs qs, H5 W = some (.lst zs) ∧ Prs H5 zs qs ∧ zs.length = j) ⟨same_upd hW, [], [], upd_same, .nil, rfl⟩ (fun j H5 hj h => ?_) (fun H5 h => ?_)⟩
      · obtain ⟨s5, zs, qs, eW, pW, lW⟩ := h
        have tb5 := tb.same s5
        have step : ∀ (H6 : Hp) (u : Addr), Same H5 H6 → SqT K H6 u (((ms.drop j).take 2).map V.int) → tThen (fun _ H Q => Q (.ref u) H) (fun x H Q => rSortedTI K [x] H fun y H7 => (fun xs H Q => ∃ p ys, xs = [V.ref p] ∧ ((SqL K H p ys ∧ ∀ l, H l = none → Q (.ref l) (upd H l (.tup ys))) ∨ (SqT K H p ys ∧ Q (.ref p) H))) [y] H7 Q) [] H6 (fun y H7 => ∃ acc, H7 W = some (.lst acc) ∧ acc.length < sizeLine ∧ (Same H4 (upd H7 W (.lst (acc ++ [y]))) ∧ ∃ zs qs, upd H7 W (.lst (acc ++ [y])) W = some (.lst zs) ∧ Prs (upd H7 W (.lst (acc ++ [y]))) zs qs ∧ zs.length = j + 1)) := by
          intro H6 u s6 hu
          refine ⟨u, _, rfl, hu, fun os l1 hperm _ hl1 => ?_⟩
          obtain ⟨u1, u2, rfl⟩ : ∃ u1 u2, os = [u1, u2] := by
            have e1 := hperm.length_eq
            have e2 : ((ms.drop j).take 2).length = 2 := by
              rw [List.length_take, List.length_drop, hrb.len]
              omega
            rw [e2] at e1
            match os, e1 with
            | [u1, u2], _ => exact ⟨u1, u2, rfl⟩
          refine ⟨l1, _, rfl, .inl ⟨sqL upd_same, fun l2 hl2 => ?_⟩⟩
          have s7 : Same H6 (upd (upd H6 l1 (.lst ([u1, u2].map V.int))) l2 (.tup ([u1, u2].map V.int))) := (same_upd hl1).trans (same_upd hl2)
          have e7 : upd (upd H6 l1 (.lst ([u1, u2].map V.int))) l2 (.tup ([u1, u2].map V.int)) l2 = some (.tup [.int u1, .int u2]) := upd_same
          have s47 := s5.trans (s6.trans s7)
          have s57 := s6.trans s7
          generalize upd (upd H6 l1 (.lst ([u1, u2].map V.int))) l2 (.tup ([u1, u2].map V.int)) = H7 at s7 e7 s47 s57 ⊢
          have eW7 := s57 _ _ eW
          refine ⟨zs, eW7, small1000 (by omega), same_upd2 s47 hW, zs ++ [.ref l2], qs ++ [(u1, u2)], upd_same, ?_, ?_⟩
          · exact ((pW.same s57).upd_lst eW7).append (.cons (rdT_updl (.inl e7) eW7) .nil)
          · rw [List.length_append, lW]
            rfl
        have ecut : cutV (ms.map V.int) (some (0 + (j : Int))) (some (0 + (j : Int) + 2)) = ((ms.drop j).take 2).map V.int := by
          unfold cutV
          rw [show (0 + (j : Int)) = (j : Int) by omega, show ((j : Int) + 2) = ((j + 2 : Nat) : Int) by omega, HT.sIx_nat, HT.sIx_nat, ml, Nat.min_eq_left (by omega), Nat.min_eq_left (by omega), List.map_take, List.map_drop]
          rw [show j + 2 - j = 2 by omega]
        refine ⟨rfl, .ref b, rfl, .int (0 + (j : Int)), rfl, _, rfl, .int (0 + (j : Int)), rfl, _, 2, rfl, rfl, _, rfl, b, _, rfl, tb5.sq, fun hw => step H5 b (Same.refl _) ?_, fun _ u o hu ho => step _ u (same_upd hu) ?_⟩
        · have ewhole : ((ms.drop j).take 2).map V.int = ms.map V.int := by
            rw [← ecut]
            unfold cutV
            rw [hw.1, hw.2]
            show ((ms.map V.int).take ((ms.map V.int).length - 0)) = _
            exact List.take_of_length_le (by omega)
          rw [ewhole]
          exact tb5.sq
        · rw [ecut]
          exact .inl (.inr ⟨o, upd_same⟩)
      · obtain ⟨s5, zs, qs, eW, pW, lW⟩ := h
        have ee5 := s5 _ _ ee4
        have p5 := p4.same s5
        refine ⟨.int (n : Int), rfl, _, _, rfl, rfl, _, rfl, by omega, by omega, fun S hS => walk_in (n := ((n : Int) - 1).toNat) (lo := 0) (fun j H6 => Same H5 H6 ∧ ∃ ks : List Int, H6 S = some (.lst (ks.map V.int)) ∧ ks.length ≤ j ∧ ∀ z ∈ ks, 0 ≤ z ∧ z < (j : Int)) ⟨same_upd hS, [], upd_same, Nat.le_refl _, fun _ hz => by cases hz⟩ (fun j H6 hj h => ?_) (fun H6 h => ?_)⟩
        · obtain ⟨s6, ks, eS, lS, bS⟩ := h
          have hjz : j < zs.length := by omega
          have gz : zs[j]? = some zs[j] := List.getElem?_eq_getElem hjz
          obtain ⟨r, v1, v2, er, hg2, hr2⟩ := pW.get gz
          have az : atI zs (0 + (j : Int)) = some (.ref r) := by
            rw [show (0 + (j : Int)) = (j : Int) by omega, ← er]
            exact atI_nat gz
          refine ⟨rfl, .ref W, rfl, .int (0 + (j : Int)), rfl, W, zs, _, _, rfl, rfl, sqL (s6 _ _ eW), az, .ref e, rfl, pd (v1, v2), ps.map pd, .tup (.inl (rdT_same hr2 s6)) (.cons (.int _) (.cons (.int _) .nil)), .lst (sqL (s6 _ _ ee5)) (p5.same s6).dp, rfl, shaped_prs ps, _, rfl, ?_⟩
          refine ite2 (fun _ => ?_) (fun _ => ?_)
          · refine ⟨.int (0 + (j : Int)), rfl, _, eS, by rw [List.length_map]; exact small1000 (by omega), same_upd2 s6 hS, ks ++ [0 + (j : Int)], ?_, ?_, ?_⟩
            · rw [upd_same, List.map_append]
              rfl
            · rw [List.length_append]
              show ks.length + 1 ≤ j + 1
              omega
            · intro z hz
              rcases List.mem_append.mp hz with hz | hz
              · have := bS z hz
                omega
              · rw [List.mem_singleton] at hz
                omega
          · exact ⟨s6, ks, eS, by omega, fun z hz => by have := bS z hz; omega⟩
        · obtain ⟨s6, ks, eS, lS, bS⟩ := h
          have s46 := s5.trans s6
          refine ⟨.ref S, rfl, Nat.zero_le _, fun z hz => ?_⟩
          have s7 : Same H6 (upd H6 z (.lst [])) := same_upd hz
          refine ⟨_, _, .lst (sqL (s7 _ _ eS)) (dpAll_ints ks), .lst (sqL upd_same) .nil, shaped_ints ks, rfl, _, rfl, ?_⟩
          rw [eqv_nil]
          have s47 := s46.trans s7
          have s57 := s6.trans s7
          have eS7 := s7 _ _ eS
          generalize upd H6 z (.lst []) = H7 at s7 s47 s57 eS7 ⊢
          have D7 := D4.same s47
          have k7 : Keep d p H H7 := k4.trans (Same.keep s47)
          have nSd : S ≠ d := (D4.same s5).ned hS
          have nSp : S ≠ p := (D4.same s5).nep hS
          cases ks with
          | nil =>
            refine iteF ?_
            exact ⟨⟨_, _, _, _, _, rfl⟩, ⟨xs, s47 _ _ eg4, r4.same s47, hx0, by omega⟩, ⟨ys, ps, s47 _ _ ee4, p4.same s47, by omega⟩, D7.mono (by omega), k7⟩
          | cons k0 kr =>
            refine iteT ?_
            refine ⟨.ref d, rfl, .ref S, rfl, d, p, q, S, c + n + i, _, rfl, D7, by omega, eS7, nSd, nSp, by simp, ?_, fun H8 v hv D8 k8 => ?_⟩
            · rw [List.length_map]
              omega
            · obtain ⟨kk, hkk, rfl⟩ := List.mem_map.mp hv
              have bk := bS kk hkk
              obtain ⟨j, rfl⟩ := Int.eq_ofNat_of_zero_le bk.1
              have hjz : j < zs.length := by omega
              have gz : zs[j]? = some zs[j] := List.getElem?_eq_getElem hjz
              have pW8 := (pW.same s57).keep D7 k8
              obtain ⟨r, v1, v2, er, hg2, hr2⟩ := pW8.get gz
              have nWd : W ≠ d := D4.ned hW
              have nWp : W ≠ p := D4.nep hW
              have eW8 := k8 _ _ (s57 _ _ eW) nWd nWp
              have ee8 := k8 _ _ (s47 _ _ ee4) ned nep
              have eg8 := k8 _ _ (s47 _ _ eg4) ngd ngp
              have tb8 := (tb.same s47).keep D7 k8
              have r8 := (r4.same s47).keep D7 k8
              have p8 := (p4.same s47).keep D7 k8
              have az : atI zs (j : Int) = some (.ref r) := by
                rw [← er]
                exact atI_nat gz
              refine ⟨.ref e, rfl, .inl ⟨rfl, _, sqL ee8⟩, .ref W, rfl, .int (j : Int), rfl, W, zs, _, _, rfl, rfl, sqL eW8, az, e, ys, _, rfl, rfl, ee8, small1000 (by omega), ?_⟩
              have eg9 : upd H8 e (.lst (ys ++ [.ref r])) g = some (.lst xs) := by
                rw [upd_ne nge]
                exact eg8
              have ee9 : upd H8 e (.lst (ys ++ [.ref r])) e = some (.lst (ys ++ [.ref r])) := upd_same
              have tb9 : Tp (upd H8 e (.lst (ys ++ [.ref r]))) b ms := tb8.upd_lst ee8
              have r9 : Rws n (upd H8 e (.lst (ys ++ [.ref r]))) xs := r8.upd_lst ee8
              have p9 : Prs (upd H8 e (.lst (ys ++ [.ref r]))) (ys ++ [.ref r]) (ps ++ [(v1, v2)]) := (p8.upd_lst ee8).append (.cons (rdT_updl hr2 ee8) .nil)
              have D9 : Deck (upd H8 e (.lst (ys ++ [.ref r]))) d p q (c + n + i + 1) := D8.upd ned nep neq
              have k9 : Keep d p H (upd H8 e (.lst (ys ++ [.ref r]))) := keep_fresh (k7.trans k8) he0
              generalize upd H8 e (.lst (ys ++ [.ref r])) = H9 at eg9 ee9 tb9 r9 p9 D9 k9 ⊢
              refine ⟨.ref g, rfl, .inl ⟨rfl, _, sqL eg9⟩, .ref b, rfl, .int (j : Int), rfl, b, ms, n, j, rfl, tb9, hrb, by omega, hn, fun Ha u sa hru tu => ?_⟩
              have ega := sa _ _ eg9
              refine ⟨g, xs, _, rfl, rfl, ega, small1000 (by omega), ⟨_, _, _, _, _, rfl⟩, ⟨xs ++ [.ref u], upd_same, ?_, by simp, ?_⟩, ⟨ys ++ [.ref r], ps ++ [(v1, v2)], ?_, (p9.same sa).upd_lst ega, ?_⟩, ?_, ?_⟩
              · exact ((r9.same sa).upd_lst ega).app (tu.upd_lst ega) hru
              · rw [List.length_append]
                show xs.length + 1 ≤ i + 1 + 1
                omega
              · rw [upd_ne nge.symm]
                exact sa _ _ ee9
              · rw [List.length_append]
                show ys.length + 1 ≤ i + 1
                omega
              · exact (D9.same sa).upd ngd ngp ngq
              · exact keep_fresh (k9.trans (Same.keep sa)) hg0
    · obtain ⟨⟨y5, y6, y7, y8, y9, rfl⟩, ⟨xs, eg4, r4, hx0, hxl⟩, _, D4, k4⟩ := h
      exact ⟨.ref g, rfl, qq H4 g xs hg0 eg4 r4 hx0 hxl D4 k4⟩
end
end TR
namespace TR
open PySem PySem.Spec PyProof.Rows L2
theorem scLBetw : FnScope ["_law_one_here", "_law_other", "_law_third", "_law_apart", "_law_pair"] ["_law_one_here", "_law_other", "_law_third"] (defScope sLBetw) := ⟨rfl, rfl, rfl, by decide +kernel, rfl, by decide +kernel, by decide +kernel⟩
theorem eqv_prs (ps : List (Int × Int)) : PyData.eqv (.list (ps.map pd)) (.list []) = ps.isEmpty := by
  cases ps with
  | nil => rfl
  | cons x r => rfl
def lbetw (n : Nat) (one other third : List Int) : Bool := ((diffs n one third).filter fun p => !(diffs n one other).contains p).isEmpty
theorem lbetw_eq (n : Nat) (one other third : List Int) : lbetw n one other third = betw n one other third := by
  rw [Bool.eq_iff_iff]
  unfold lbetw betw
  rw [List.isEmpty_iff, List.filter_eq_nil_iff, List.all_eq_true]
  constructor
  · intro h p hp
    obtain ⟨h1, h2⟩ := List.mem_filter.mp hp
    cases e : agr one third p with
    | true => rfl
    | false =>
      have m : p ∈ diffs n one third := List.mem_filter.mpr ⟨h1, by simp [e]⟩
      have := h p m
      simp only [Bool.not_eq_true', Bool.not_eq_false, List.contains_iff_mem] at this
      have h3 := (List.mem_filter.mp this).2
      rw [h2] at h3
      cases h3
  · intro h p hp
    obtain ⟨h1, h2⟩ := List.mem_filter.mp hp
    have m : p ∈ diffs n one other := by
      refine List.mem_filter.mpr ⟨h1, ?_⟩
      cases e : agr one other p with
      | false => rfl
      | true =>
        have := h p (List.mem_filter.mpr ⟨h1, e⟩)
        rw [this] at h2
        cases h2
    simp [m]
theorem agr_self (one : List Int) (p : Int × Int) : agr one one p = true := by
  unfold agr
  exact beq_self_eq_true _
theorem betw_left (n : Nat) (one other : List Int) : betw n one other one = true := by
  unfold betw
  exact List.all_eq_true.mpr fun p _ => agr_self one p
theorem betw_right (n : Nat) (one other : List Int) : betw n one other other = true := by
  unfold betw
  exact List.all_eq_true.mpr fun p hp => (List.mem_filter.mp hp).2
section
variable {P : Program} {w : World} {K : PySem.W.Frag} {mg : Str → Option Value} {base : Heap}
theorem ok_lbetw {f fU : Addr} {fd dU : FuncData} {k : Nat} (F : Fun K "_law_between" "_law_between" sLBetw f fd) (kU : PySem.W.keepIn K (.ref fU) = true) (bU : Binds K dU ["_law_one_here", "_law_other"] []) (gU : mg "_law_unlike" = some (.ref fU)) (GU : FnOk P w K mg base CX0 (k + 1) fU dU ["_law_one_here", "_law_other"] spUnlike) :
    FnOk P w K mg base CX0 (k + 2) f fd ["_law_one_here", "_law_other", "_law_third"] spBetw := by
  refine F.ok scLBetw (fun vs H Q E h => ?_) (fun cdv A outer s H vs Q E hr h => ?_)
  · obtain ⟨a, b, c, n, ns, ms, ls, rfl, _⟩ := h
    rfl
  · obtain ⟨a, b, c, n, ns, ms, ls, rfl, ha, hb, hc, hna, hnb, hnc, hn, q⟩ := h
    refine ⟨_, pss_cons (ps_set (i := 3) scLBetw.nd rfl (.inr rfl) (pe_call GU hr (by rfl) gU kU bU .nil pass0 (pa_cons (pv 0) (pa_cons (pv 1) pa_nil))))
      (pss_one (ps_ret (pe_cmpR (op_eqD hr.units) (pe_lc (own := [("_law_pair", 4)]) (g := gName 4) (by rfl) scLBetw.nd (pi_list (pe_call GU hr (by rfl) gU kU bU .nil pass0 (pa_cons (pv 0) (pa_cons (pv 2) pa_nil))))
          (blkOk_by (own := [("_law_pair", 4)]) (N := ["_law_one_here", "_law_other", "_law_third", "_law_apart", "_law_pair"]) (sc := defScope sLBetw) (by decide +kernel)) (fun _ _ _ _ _ => pg_name (i := 4) scLBetw.nd rfl (Or.inl rfl))
          (fun _ _ _ _ _ => pts_one (pt_cmpR (r := rNotInD K) (op_notInD (units65 hr)) (pv 4) (pv 3) (by rfl)))
          (fun _ _ _ _ _ => pv 4)) (pe_lst pa_nil) (nomark _)))), ?_⟩
    refine ⟨.ref a, rfl, .ref b, rfl, a, b, n, ns, ms, rfl, ha, hb, hna, hnb, hn, fun H1 t xs s1 _ et hp => ?_⟩
    refine ⟨.ref a, rfl, .ref c, rfl, a, c, n, ns, ls, rfl, ha.same s1, hc.same s1, hna, hnc, hn, fun H2 u ys s2 _ eu hq => ?_⟩
    have et2 := s2 _ _ et
    have hp2 := hp.same s2
    refine ⟨u, rfl, ⟨_, sqL eu⟩, fun D hD => lc_list (K := K) (a := u) (xs := ys) (fun i H3 => Same H2 H3 ∧ ∃ zs, H3 D = some (.lst zs) ∧ Prs H3 zs (((diffs n ns ls).take i).filter fun p => !(diffs n ns ms).contains p)) ⟨same_upd hD, [], upd_same, .nil⟩ (fun i H3 _ h => h.1.seq (sqL eu)) (fun i x H3 hx h => ?_) (fun H3 h => ?_)⟩
    · obtain ⟨s3, zs, hd3, hp3⟩ := h
      obtain ⟨r, v1, v2, rfl, hg, hr2⟩ := hq.get hx
      refine ⟨rfl, .ref r, rfl, .ref t, rfl, pd (v1, v2), (diffs n ns ms).map pd, .tup (.inl (rdT_same hr2 s3)) (.cons (.int _) (.cons (.int _) .nil)), .lst (sqL (s3 _ _ et2)) (hp2.same s3).dp, rfl, shaped_prs _, _, rfl, ?_⟩
      rw [any_prs]
      have ft := filter_take (fun p => !(diffs n ns ms).contains p) hg
      cases e : (diffs n ns ms).contains (v1, v2) with
      | true =>
        refine iteF ?_
        refine ⟨s3, zs, hd3, ?_⟩
        rw [ft]
        simp only [e, Bool.not_true, Bool.false_eq_true, if_false, List.append_nil]
        exact hp3
      | false =>
        refine iteT ?_
        refine ⟨.ref r, rfl, zs, hd3, ?_, same_upd2 s3 hD, zs ++ [.ref r], upd_same, ?_⟩
        · have l1 := hp3.len
          have l2 := List.length_filter_le (fun p => !(diffs n ns ms).contains p) ((diffs n ns ls).take i)
          have l3 : (diffs n ns ls).length ≤ (pairs n).length := List.length_filter_le _ _
          have l5 := pairs_len n
          have l6 : n * n ≤ 8 * 8 := Nat.mul_le_mul hn hn
          rw [List.length_take] at l2
          exact small1000 (by omega)
        · rw [ft]
          simp only [e, Bool.not_false, if_true]
          exact (hp3.upd_lst hd3).append (.cons (rdT_updl (rdT_same hr2 s3) hd3) .nil)
    · obtain ⟨s3, zs, hd3, hp3⟩ := h
      have e : (diffs n ns ls).take ys.length = diffs n ns ls := List.take_of_length_le (by rw [hq.len]; exact Nat.le_refl _)
      rw [e] at hp3
      refine ⟨Nat.zero_le _, fun z hz => ⟨_, _, .lst (sqL ((same_upd hz) _ _ hd3)) (hp3.same (same_upd hz)).dp, .lst (sqL upd_same) .nil, shaped_prs _, rfl, ?_⟩⟩
      rw [eqv_prs]
      show Q (.bl (lbetw n ns ms ls)) _
      rw [lbetw_eq]
      exact q _ (s1.trans (s2.trans (s3.trans (same_upd hz))))
end
end TR
namespace TR
open PySem PySem.Spec PyProof.Rows L2
section
variable {P : Program} {w : World} {K : PySem.W.Frag} {mg : Str → Option Value} {base : Heap}
def spLaw (K : PySem.W.Frag) : Sp := fun vs H Q _ => ∃ (a : Addr) (ns : List Int), vs = [.ref a] ∧ SqL K H a (ns.map V.int) ∧ ns.length ≤ 63 ∧ ∀ H', Q (.bl true) H'
end
end TR
namespace TR
open PySem PySem.Spec PyProof.Rows L2
theorem scLaw : FnScope ["_law_script", "_law_deck_here", "_law_turn", "_law_dishes", "_law_road_here", "_law_time", "_law_one_here", "_law_other", "_law_third"] ["_law_script"] (defScope sLaw) := ⟨rfl, rfl, rfl, by decide +kernel, rfl, by decide +kernel, by decide +kernel⟩
section
variable {P : Program} {w : World} {K : PySem.W.Frag} {mg : Str → Option Value} {base : Heap}
theorem ok_law {f fDk fN fL fR fO fS fB fX : Addr} {fd dDk dN dL dR dO dS dB dX : FuncData} (F : Fun K "law" "law" sLaw f fd)
    (kDk : PySem.W.keepIn K (.ref fDk) = true) (bDk : Binds K dDk ["_law_script"] []) (gDk : mg "_law_deck" = some (.ref fDk)) (GDk : FnOk P w K mg base CX0 5 fDk dDk ["_law_script"] (spDeck K))
    (kN : PySem.W.keepIn K (.ref fN) = true) (bN : Binds K dN ["_law_deck_here", "_law_many"] []) (gN : mg "_law_next" = some (.ref fN)) (GN : FnOk P w K mg base CX0 5 fN dN ["_law_deck_here", "_law_many"] spNext)
    (kL : PySem.W.keepIn K (.ref fL) = true) (bL : Binds K dL ["_law_deck_here", "_law_dishes"] []) (gL : mg "_law_list" = some (.ref fL)) (GL : FnOk P w K mg base CX0 5 fL dL ["_law_deck_here", "_law_dishes"] spList)
    (kR : PySem.W.keepIn K (.ref fR) = true) (bR : Binds K dR ["_law_deck_here", "_law_dishes", "_law_steps"] []) (gR : mg "_law_road" = some (.ref fR)) (GR : FnOk P w K mg base CX0 5 fR dR ["_law_deck_here", "_law_dishes", "_law_steps"] spRoad)
    (kO : PySem.W.keepIn K (.ref fO) = true) (bO : Binds K dO ["_law_deck_here", "_law_some"] []) (gO : mg "_law_one" = some (.ref fO)) (GO : FnOk P w K mg base CX0 5 fO dO ["_law_deck_here", "_law_some"] spOne)
    (kS : PySem.W.keepIn K (.ref fS) = true) (bS : Binds K dS ["_law_found", "_law_due"] []) (gS : mg "_law_same" = some (.ref fS)) (GS : FnOk P w K mg base CX0 5 fS dS ["_law_found", "_law_due"] (spSame K 5))
    (kB : PySem.W.keepIn K (.ref fB) = true) (bB : Binds K dB ["one", "other", "third"] []) (gB : mg "is_between" = some (.ref fB)) (GB : FnOk P w K mg base CX0 5 fB dB ["one", "other", "third"] spBetw)
    (kX : PySem.W.keepIn K (.ref fX) = true) (bX : Binds K dX ["_law_one_here", "_law_other", "_law_third"] []) (gX : mg "_law_between" = some (.ref fX)) (GX : FnOk P w K mg base CX0 5 fX dX ["_law_one_here", "_law_other", "_law_third"] spBetw)
    (mr : mg "range" = none) : FnOk P w K mg base CX0 6 f fd ["_law_script"] (spLaw K) := by
  refine F.ok scLaw (fun vs H Q E h => ?_) (fun cdv A outer s H vs Q E hr h => ?_)
  · obtain ⟨a, ns, rfl, _⟩ := h
    rfl
  · obtain ⟨a, ns, rfl, hS, hlen, qq⟩ := h
    refine ⟨_, pss_cons (ps_set (i := 1) scLaw.nd rfl (.inl rfl) (pe_call GDk hr (by rfl) gDk kDk bDk .nil pass0 (pa_cons (pv 0) pa_nil)))
      (pss_cons (ps_for PassesOwn.never rfl (pi_range1 (by rfl) mr (pa_cons pe_int pa_nil)) (pg_name (i := 2) scLaw.nd rfl (.inl rfl))
        (pss_cons (ps_set (i := 3) scLaw.nd rfl (.inl rfl) (pe_op op_add pe_int (pe_call GN hr (by rfl) gN kN bN .nil pass0 (pa_cons (pv 1) (pa_cons pe_int pa_nil)))))
        (pss_cons (ps_set (i := 4) scLaw.nd rfl (.inl rfl) (pe_call GR hr (by rfl) gR kR bR .nil pass0 (pa_cons (pv 1) (pa_cons (pv 3) (pa_cons (pe_op op_add pe_int (pe_call GN hr (by rfl) gN kN bN .nil pass0 (pa_cons (pv 1) (pa_cons pe_int pa_nil)))) pa_nil)))))
        (pss_cons (ps_set (i := 4) scLaw.nd rfl (.inl rfl) (pe_op op_cat (pv 4) (pe_lst (pa_cons (pe_call GL hr (by rfl) gL kL bL .nil pass0 (pa_cons (pv 1) (pa_cons (pv 3) pa_nil))) (pa_cons (pe_revT (pe_ix ix_list (pv 4) pe_int (fun _ _ => rfl))) pa_nil)))))
        (pss_one (ps_for PassesOwn.never rfl (pi_range1 (by rfl) mr (pa_cons pe_int pa_nil)) (pg_name (i := 5) scLaw.nd rfl (.inl rfl))
          (pss_cons (ps_par3 (i := 6) (j := 7) (l := 8) (by rfl) scLaw.nd rfl rfl rfl (by decide) (by decide) (by decide) rfl rfl rfl
            (pa_cons (pe_call GO hr (by rfl) gO kO bO .nil pass0 (pa_cons (pv 1) (pa_cons (pv 4) pa_nil))) (pa_cons (pe_call GO hr (by rfl) gO kO bO .nil pass0 (pa_cons (pv 1) (pa_cons (pv 4) pa_nil))) (pa_cons (pe_call GO hr (by rfl) gO kO bO .nil pass0 (pa_cons (pv 1) (pa_cons (pv 4) pa_nil))) pa_nil))) (by rfl))
          (pss_cons (ps_if (pt_not (pt_val (pe_call GS hr (by rfl) gS kS bS .nil pass0 (pa_cons (pe_call GB hr (by rfl) gB kB bB .nil pass0 (pa_cons (pv 6) (pa_cons (pv 7) (pa_cons (pv 8) pa_nil)))) (pa_cons (pe_call GX hr (by rfl) gX kX bX .nil pass0 (pa_cons (pv 6) (pa_cons (pv 7) (pa_cons (pv 8) pa_nil)))) pa_nil))))) (pss_one (ps_ret pe_bl)) pss_nil)
          (pss_one (ps_if (pt_not (pt_val (pe_call GS hr (by rfl) gS kS bS .nil pass0 (pa_cons (pe_lst (pa_cons (pe_call GB hr (by rfl) gB kB bB .nil pass0 (pa_cons (pv 6) (pa_cons (pv 7) (pa_cons (pv 6) pa_nil)))) (pa_cons (pe_call GB hr (by rfl) gB kB bB .nil pass0 (pa_cons (pv 6) (pa_cons (pv 7) (pa_cons (pv 7) pa_nil)))) pa_nil))) (pa_cons (pe_lst (pa_cons pe_bl (pa_cons pe_bl pa_nil))) pa_nil))))) (pss_one (ps_ret pe_bl)) pss_nil))))))))))
      (pss_one (ps_ret pe_bl))), ?_⟩
    refine ⟨.ref a, rfl, a, ns, rfl, hS, hlen, fun H1 d p q s1 D1 => ?_⟩
    refine ⟨12, rfl, by decide, by decide, for_range (n := 12) (lo := 0) (fun i σ H2 => (∃ y2 y3 y4 y5 y6 y7 y8, σ = [some (.ref a), some (.ref d), y2, y3, y4, y5, y6, y7, y8]) ∧ Deck H2 d p q (100 * i)) ⟨⟨none, none, none, none, none, none, none, rfl⟩, D1⟩ (fun i σ H2 hi h => ?_) (fun σ H2 h => ?_)⟩
    · obtain ⟨⟨y2, y3, y4, y5, y6, y7, y8, rfl⟩, D2⟩ := h
      refine ⟨.ref d, rfl, d, p, q, 100 * i, 8, rfl, D2, by omega, by decide, by decide, fun H3 r r0 r1 D3 k3 => ?_⟩
      obtain ⟨j, rfl⟩ := Int.eq_ofNat_of_zero_le r0
      refine ⟨1, (j : Int), rfl, rfl, ?_⟩
      have en : (1 : Int) + (j : Int) = ((1 + j : Nat) : Int) := by omega
      have hn : 1 + j ≤ 8 := by omega
      have hn1 : 1 ≤ 1 + j := by omega
      show tSeq _ _ _ (List.set _ 3 (some (V.int (1 + (j : Int))))) H3
      rw [en]
      generalize 1 + j = n at hn hn1 ⊢
      refine ⟨.ref d, rfl, .int (n : Int), rfl, .ref d, rfl, d, p, q, 100 * i + 1, 12, rfl, D3, by omega, by decide, by decide, fun H4 r r0 r1 D4 k4 => ?_⟩
      obtain ⟨j, rfl⟩ := Int.eq_ofNat_of_zero_le r0
      refine ⟨1, (j : Int), rfl, rfl, ?_⟩
      obtain ⟨st, est⟩ : ∃ st : Nat, st = 1 + j := ⟨_, rfl⟩
      have en : (1 : Int) + (j : Int) = (st : Int) := by omega
      have hst : st ≤ 12 := by omega
      have ev : [V.ref d, V.int (n : Int), V.int (1 + (j : Int))] = [V.ref d, V.int (n : Int), V.int (st : Int)] := by rw [en]
      refine ⟨d, p, q, 100 * i + 1 + 1, n, st, ev, D4, by omega, hn1, hn, by omega, fun H5 l xs hl0 el r5 hx0 hxl D5 k5 => ?_⟩
      have nld : l ≠ d := D4.ned hl0
      have nlp : l ≠ p := D4.nep hl0
      refine ⟨.ref l, rfl, .ref d, rfl, .int (n : Int), rfl, d, p, q, 100 * i + 1 + 1 + n + st, n, rfl, D5, by omega, hn, fun H6 t one hone D6 k6 t6 => ?_⟩
      have el6 := k6 _ _ el nld nlp
      have r6 := r5.keep D5 k6
      obtain ⟨x0, xr, rfl⟩ : ∃ x0 xr, xs = x0 :: xr := by
        cases xs with
        | nil => exact absurd rfl hx0
        | cons x r => exact ⟨x, r, rfl⟩
      obtain ⟨b0, m0, rfl, tb0, hrb0⟩ := r6 _ (List.mem_cons_self ..)
      refine ⟨.ref l, rfl, l, _, 0, _, rfl, rfl, sqL el6, atI_nat (j := 0) rfl, b0, _, rfl, tb0.sq, fun t3 o3 ht3 ho3 => ?_⟩
      rw [← List.map_reverse]
      have s7 : Same H6 (upd H6 t3 (.frz o3 (.tup (m0.reverse.map V.int)))) := same_upd ht3
      have tp3 : Tp (upd H6 t3 (.frz o3 (.tup (m0.reverse.map V.int)))) t3 m0.reverse := Tp.new ho3
      generalize upd H6 t3 (.frz o3 (.tup (m0.reverse.map V.int))) = H7 at s7 tp3 ⊢
      refine ⟨by show 2 ≤ sizeLine; decide, fun l2 hl2 => ?_⟩
      have s8 : Same H7 (upd H7 l2 (.lst [.ref t, .ref t3])) := same_upd hl2
      have e8 : upd H7 l2 (.lst [.ref t, .ref t3]) l2 = some (.lst [.ref t, .ref t3]) := upd_same
      generalize upd H7 l2 (.lst [.ref t, .ref t3]) = H8 at s8 e8 ⊢
      have s68 := s7.trans s8
      rw [List.length_cons] at hxl
      refine ⟨l, l2, _, _, rfl, rfl, s68 _ _ el6, e8, ?_, fun l3 hl3 => ?_⟩
      · show (V.ref b0 :: xr).length + 2 ≤ sizeLine
        rw [List.length_cons]
        exact Nat.le_of_lt (small1000 (by omega))
      · have r8 : Rws n H8 ((.ref b0 :: xr) ++ [.ref t, .ref t3]) := by
          have a1 := (r6.same s68).app (t6.same s68) hone
          have a2 := a1.app (tp3.same s8) hrb0.rev
          rw [List.append_assoc] at a2
          exact a2
        have D8 := D6.same s68
        have s9 : Same H8 (upd H8 l3 (.lst ((.ref b0 :: xr) ++ [.ref t, .ref t3]))) := same_upd hl3
        have e9 : upd H8 l3 (.lst ((.ref b0 :: xr) ++ [.ref t, .ref t3])) l3 = some (.lst ((.ref b0 :: xr) ++ [.ref t, .ref t3])) := upd_same
        have nl3d : l3 ≠ d := D8.ned hl3
        have nl3p : l3 ≠ p := D8.nep hl3
        have r9 := r8.same s9
        have D9 := D8.same s9
        have hz0 : (V.ref b0 :: xr) ++ [.ref t, .ref t3] ≠ [] := by simp
        have hzl : ((V.ref b0 :: xr) ++ [V.ref t, V.ref t3]).length < 1000000 := by
          rw [List.length_append, List.length_cons]
          show xr.length + 1 + 2 < 1000000
          omega
        generalize (V.ref b0 :: xr) ++ [V.ref t, V.ref t3] = zs at s9 e9 r9 D9 hz0 hzl ⊢
        generalize upd H8 l3 (.lst zs) = H9 at s9 e9 r9 D9 ⊢
        refine ⟨5, rfl, by decide, by decide, for_range (n := 5) (lo := 0) (fun m σ Ha => (∃ y2 y5 y6 y7 y8, σ = [some (.ref a), some (.ref d), y2, some (.int (n : Int)), some (.ref l3), y5, y6, y7, y8]) ∧ Ha l3 = some (.lst zs) ∧ Rws n Ha zs ∧ Deck Ha d p q (100 * i + 1 + 1 + n + st + n + 3 * m)) ⟨⟨_, _, _, _, _, rfl⟩, e9, r9, D9⟩ (fun m σ Ha hm h => ?_) (fun σ Ha h => ?_)⟩
        · obtain ⟨⟨y2, y5, y6, y7, y8, rfl⟩, ea, ra, Da⟩ := h
          refine ⟨.ref d, rfl, .ref l3, rfl, d, p, q, l3, _, zs, rfl, Da, by omega, ea, nl3d, nl3p, hz0, hzl, fun Hb x1 hx1 Db kb => ?_⟩
          have eb := kb _ _ ea nl3d nl3p
          refine ⟨.ref d, rfl, .ref l3, rfl, d, p, q, l3, _, zs, rfl, Db, by omega, eb, nl3d, nl3p, hz0, hzl, fun Hc x2 hx2 Dc kc => ?_⟩
          have ec := kc _ _ eb nl3d nl3p
          refine ⟨.ref d, rfl, .ref l3, rfl, d, p, q, l3, _, zs, rfl, Dc, by omega, ec, nl3d, nl3p, hz0, hzl, fun Hd x3 hx3 Dd kd => ?_⟩
          have ed := kd _ _ ec nl3d nl3p
          have rd := ((ra.keep Da kb).keep Db kc).keep Dc kd
          obtain ⟨a1, m1, rfl, t1, hr1⟩ := rd x1 hx1
          obtain ⟨a2, m2, rfl, t2, hr2⟩ := rd x2 hx2
          obtain ⟨a3, m3, rfl, t3, hr3⟩ := rd x3 hx3
          refine ⟨_, _, _, rfl, ?_⟩
          refine ⟨.ref a1, rfl, .ref a2, rfl, .ref a3, rfl, a1, a2, a3, n, m1, m2, m3, rfl, t1, t2, t3, hr1, hr2, hr3, hn, fun He se => ?_⟩
          refine ⟨.ref a1, rfl, .ref a2, rfl, .ref a3, rfl, a1, a2, a3, n, m1, m2, m3, rfl, t1.same se, t2.same se, t3.same se, hr1, hr2, hr3, hn, fun Hf sf => ?_⟩
          refine ⟨_, _, rfl, alk_bl (m := 4) rfl, fun Hg sg => ⟨_, rfl, iteF ?_⟩⟩
          have sdg : Same Hd Hg := se.trans (sf.trans sg)
          refine ⟨.ref a1, rfl, .ref a2, rfl, .ref a1, rfl, a1, a2, a1, n, m1, m2, m1, rfl, t1.same sdg, t2.same sdg, t1.same sdg, hr1, hr2, hr1, hn, fun Hh sh => ?_⟩
          have sdh := sdg.trans sh
          refine ⟨.ref a1, rfl, .ref a2, rfl, .ref a2, rfl, a1, a2, a2, n, m1, m2, m2, rfl, t1.same sdh, t2.same sdh, t2.same sdh, hr1, hr2, hr2, hn, fun Hi si => ?_⟩
          refine ⟨by show 2 ≤ sizeLine; decide, fun u1 hu1 => ?_⟩
          have sj : Same Hi (upd Hi u1 (.lst [.bl (betw n m1 m2 m1), .bl (betw n m1 m2 m2)])) := same_upd hu1
          have ej : upd Hi u1 (.lst [.bl (betw n m1 m2 m1), .bl (betw n m1 m2 m2)]) u1 = some (.lst [.bl (betw n m1 m2 m1), .bl (betw n m1 m2 m2)]) := upd_same
          generalize upd Hi u1 (.lst [.bl (betw n m1 m2 m1), .bl (betw n m1 m2 m2)]) = Hj at sj ej ⊢
          refine ⟨by show 2 ≤ sizeLine; decide, fun u2 hu2 => ?_⟩
          refine ⟨_, _, rfl, alk_two ((same_upd hu2) _ _ ej) upd_same (alk_bl (m := 3) (betw_left n m1 m2)) (alk_bl (m := 3) (betw_right n m1 m2)), fun Hk sk => ⟨_, rfl, iteF ?_⟩⟩
          have sdk : Same Hd Hk := sdh.trans (si.trans (sj.trans ((same_upd hu2).trans sk)))
          exact ⟨⟨_, _, _, _, _, rfl⟩, sdk _ _ ed, rd.same sdk, (Dd.same sdk).mono (by omega)⟩
        · obtain ⟨⟨y2, y5, y6, y7, y8, rfl⟩, ea, ra, Da⟩ := h
          exact ⟨⟨_, _, _, _, _, _, _, rfl⟩, Da.mono (by omega)⟩
    · exact qq H2
end
end TR
namespace TR
open PySem PySem.Spec PyProof.Rows L2
theorem all_mk {l : PySem.W.OpenLaw} {w : World} {K : PySem.W.Frag} {h : Heap} {mg : Str → Option Value} {fa f0 f1 f2 f3 f4 f5 f6 f7 f8 f9 f10 f11 f12 f13 f14 f15 : Addr} (X : K.In h) (G : h.Ns mainGlobals mg) (hfa : mg "law" = some (.ref fa))
    {od0 an0 od1 an1 od2 an2 od3 an3 od4 an4 od5 an5 od6 an6 od7 an7 od8 an8 od9 an9 od10 an10 od11 an11 od12 an12 od13 an13 od14 an14 od15 an15 : Option Addr} {sl0 sl1 sl2 sl3 sl4 sl5 sl6 sl7 sl8 sl9 sl10 sl11 sl12 sl13 sl14 sl15 : Array (Option Value)} {oc0 kV0 dc0 pm0 cd0 ct0 oc1 kV1 dc1 pm1 cd1 ct1 oc2 kV2 dc2 pm2 cd2 ct2 oc3 kV3 dc3 pm3 cd3 ct3 oc4 kV4 dc4 pm4 cd4 ct4 oc5 kV5 dc5 pm5 cd5 ct5 oc6 kV6 dc6 pm6 cd6 ct6 oc7 kV7 dc7 pm7 cd7 ct7 oc8 kV8 dc8 pm8 cd8 ct8 oc9 kV9 dc9 pm9 cd9 ct9 oc10 kV10 dc10 pm10 cd10 ct10 oc11 kV11 dc11 pm11 cd11 ct11 oc12 kV12 dc12 pm12 cd12 ct12 oc13 kV13 dc13 pm13 cd13 ct13 oc14 kV14 dc14 pm14 cd14 ct14 oc15 kV15 dc15 pm15 cd15 ct15 : Value}
    (a0 : PySem.W.nsIn K mainGlobals "ascending_tuples" = some (some (.ref f0))) (l0 : K.lookup f0 = some ⟨oc0, od0, .func (PySem.W.fnOf "ascending_tuples" "ascending_tuples" (defArgs sAtup) (defBody sAtup) (defScope sAtup) .none kV0 dc0 pm0 an0 cd0 ct0), sl0⟩) (c0 : PySem.W.codeIn K cd0 "ascending_tuples" = true) (k0 : PySem.W.keepIn K (.ref f0) = true)
    (a1 : PySem.W.nsIn K mainGlobals "all_pairs" = some (some (.ref f1))) (l1 : K.lookup f1 = some ⟨oc1, od1, .func (PySem.W.fnOf "all_pairs" "all_pairs" (defArgs sPairs) (defBody sPairs) (defScope sPairs) .none kV1 dc1 pm1 an1 cd1 ct1), sl1⟩) (c1 : PySem.W.codeIn K cd1 "all_pairs" = true) (k1 : PySem.W.keepIn K (.ref f1) = true)
    (a2 : PySem.W.nsIn K mainGlobals "prefers" = some (some (.ref f2))) (l2 : K.lookup f2 = some ⟨oc2, od2, .func (PySem.W.fnOf "prefers" "prefers" (defArgs sPref) (defBody sPref) (defScope sPref) .none kV2 dc2 pm2 an2 cd2 ct2), sl2⟩) (c2 : PySem.W.codeIn K cd2 "prefers" = true) (k2 : PySem.W.keepIn K (.ref f2) = true)
    (a3 : PySem.W.nsIn K mainGlobals "agree" = some (some (.ref f3))) (l3 : K.lookup f3 = some ⟨oc3, od3, .func (PySem.W.fnOf "agree" "agree" (defArgs sAgree) (defBody sAgree) (defScope sAgree) .none kV3 dc3 pm3 an3 cd3 ct3), sl3⟩) (c3 : PySem.W.codeIn K cd3 "agree" = true) (k3 : PySem.W.keepIn K (.ref f3) = true)
    (a4 : PySem.W.nsIn K mainGlobals "is_between" = some (some (.ref f4))) (l4 : K.lookup f4 = some ⟨oc4, od4, .func (PySem.W.fnOf "is_between" "is_between" (defArgs sBetw) (defBody sBetw) (defScope sBetw) .none kV4 dc4 pm4 an4 cd4 ct4), sl4⟩) (c4 : PySem.W.codeIn K cd4 "is_between" = true) (k4 : PySem.W.keepIn K (.ref f4) = true)
    (a5 : PySem.W.nsIn K mainGlobals "_law_deck" = some (some (.ref f5))) (l5 : K.lookup f5 = some ⟨oc5, od5, .func (PySem.W.fnOf "_law_deck" "_law_deck" (defArgs sDeck) (defBody sDeck) (defScope sDeck) .none kV5 dc5 pm5 an5 cd5 ct5), sl5⟩) (c5 : PySem.W.codeIn K cd5 "_law_deck" = true) (k5 : PySem.W.keepIn K (.ref f5) = true)
    (a6 : PySem.W.nsIn K mainGlobals "_law_next" = some (some (.ref f6))) (l6 : K.lookup f6 = some ⟨oc6, od6, .func (PySem.W.fnOf "_law_next" "_law_next" (defArgs sNext) (defBody sNext) (defScope sNext) .none kV6 dc6 pm6 an6 cd6 ct6), sl6⟩) (c6 : PySem.W.codeIn K cd6 "_law_next" = true) (k6 : PySem.W.keepIn K (.ref f6) = true)
    (a7 : PySem.W.nsIn K mainGlobals "_law_one" = some (some (.ref f7))) (l7 : K.lookup f7 = some ⟨oc7, od7, .func (PySem.W.fnOf "_law_one" "_law_one" (defArgs sOne) (defBody sOne) (defScope sOne) .none kV7 dc7 pm7 an7 cd7 ct7), sl7⟩) (c7 : PySem.W.codeIn K cd7 "_law_one" = true) (k7 : PySem.W.keepIn K (.ref f7) = true)
    (a8 : PySem.W.nsIn K mainGlobals "_law_same" = some (some (.ref f8))) (l8 : K.lookup f8 = some ⟨oc8, od8, .func (PySem.W.fnOf "_law_same" "_law_same" (defArgs sSame) (defBody sSame) (defScope sSame) .none kV8 dc8 pm8 an8 cd8 ct8), sl8⟩) (c8 : PySem.W.codeIn K cd8 "_law_same" = true) (k8 : PySem.W.keepIn K (.ref f8) = true)
    (a9 : PySem.W.nsIn K mainGlobals "_law_list" = some (some (.ref f9))) (l9 : K.lookup f9 = some ⟨oc9, od9, .func (PySem.W.fnOf "_law_list" "_law_list" (defArgs sList) (defBody sList) (defScope sList) .none kV9 dc9 pm9 an9 cd9 ct9), sl9⟩) (c9 : PySem.W.codeIn K cd9 "_law_list" = true) (k9 : PySem.W.keepIn K (.ref f9) = true)
    (a10 : PySem.W.nsIn K mainGlobals "_law_exchanged" = some (some (.ref f10))) (l10 : K.lookup f10 = some ⟨oc10, od10, .func (PySem.W.fnOf "_law_exchanged" "_law_exchanged" (defArgs sExch) (defBody sExch) (defScope sExch) .none kV10 dc10 pm10 an10 cd10 ct10), sl10⟩) (c10 : PySem.W.codeIn K cd10 "_law_exchanged" = true) (k10 : PySem.W.keepIn K (.ref f10) = true)
    (a11 : PySem.W.nsIn K mainGlobals "_law_road" = some (some (.ref f11))) (l11 : K.lookup f11 = some ⟨oc11, od11, .func (PySem.W.fnOf "_law_road" "_law_road" (defArgs sRoad) (defBody sRoad) (defScope sRoad) .none kV11 dc11 pm11 an11 cd11 ct11), sl11⟩) (c11 : PySem.W.codeIn K cd11 "_law_road" = true) (k11 : PySem.W.keepIn K (.ref f11) = true)
    (a12 : PySem.W.nsIn K mainGlobals "_law_pairs" = some (some (.ref f12))) (l12 : K.lookup f12 = some ⟨oc12, od12, .func (PySem.W.fnOf "_law_pairs" "_law_pairs" (defArgs sLPairs) (defBody sLPairs) (defScope sLPairs) .none kV12 dc12 pm12 an12 cd12 ct12), sl12⟩) (c12 : PySem.W.codeIn K cd12 "_law_pairs" = true) (k12 : PySem.W.keepIn K (.ref f12) = true)
    (a13 : PySem.W.nsIn K mainGlobals "_law_unlike" = some (some (.ref f13))) (l13 : K.lookup f13 = some ⟨oc13, od13, .func (PySem.W.fnOf "_law_unlike" "_law_unlike" (defArgs sUnlike) (defBody sUnlike) (defScope sUnlike) .none kV13 dc13 pm13 an13 cd13 ct13), sl13⟩) (c13 : PySem.W.codeIn K cd13 "_law_unlike" = true) (k13 : PySem.W.keepIn K (.ref f13) = true)
    (a14 : PySem.W.nsIn K mainGlobals "_law_between" = some (some (.ref f14))) (l14 : K.lookup f14 = some ⟨oc14, od14, .func (PySem.W.fnOf "_law_between" "_law_between" (defArgs sLBetw) (defBody sLBetw) (defScope sLBetw) .none kV14 dc14 pm14 an14 cd14 ct14), sl14⟩) (c14 : PySem.W.codeIn K cd14 "_law_between" = true) (k14 : PySem.W.keepIn K (.ref f14) = true)
    (a15 : PySem.W.nsIn K mainGlobals "law" = some (some (.ref f15))) (l15 : K.lookup f15 = some ⟨oc15, od15, .func (PySem.W.fnOf "law" "law" (defArgs sLaw) (defBody sLaw) (defScope sLaw) .none kV15 dc15 pm15 an15 cd15 ct15), sl15⟩) (c15 : PySem.W.codeIn K cd15 "law" = true) (k15 : PySem.W.keepIn K (.ref f15) = true)
    (z0 : PySem.W.nsIn K mainGlobals "abs" = some none) (z1 : PySem.W.nsIn K mainGlobals "len" = some none) (z2 : PySem.W.nsIn K mainGlobals "range" = some none) (z3 : PySem.W.nsIn K mainGlobals "list" = some none) (z4 : PySem.W.nsIn K mainGlobals "tuple" = some none) (z5 : PySem.W.nsIn K mainGlobals "int" = some none) (z6 : PySem.W.nsIn K mainGlobals "isinstance" = some none) (z7 : PySem.W.nsIn K mainGlobals "dict" = some none) (z8 : PySem.W.nsIn K mainGlobals "str" = some none) (z9 : PySem.W.nsIn K mainGlobals "bool" = some none) (z10 : PySem.W.nsIn K mainGlobals "all" = some none) (z11 : PySem.W.nsIn K mainGlobals "sorted" = some none) :
    ∃ fd : FuncData, (∀ (s : Shared) (v : Value), BindsTo s fd ⟨[v], []⟩ [("_law_script", v)]) ∧ ∀ base : Heap, K.In base → base.Ns mainGlobals mg → FnOk l.prog w K mg base CX0 6 fa fd ["_law_script"] (spLaw K) := by
  have e := hfa.symm.trans (PySem.W.mg_of X G a15)
  cases e
  have F0 := fun_mk (st := sAtup) l0 c0 k0
  have F1 := fun_mk (st := sPairs) l1 c1 k1
  have F2 := fun_mk (st := sPref) l2 c2 k2
  have F3 := fun_mk (st := sAgree) l3 c3 k3
  have F4 := fun_mk (st := sBetw) l4 c4 k4
  have F5 := fun_mk (st := sDeck) l5 c5 k5
  have F6 := fun_mk (st := sNext) l6 c6 k6
  have F7 := fun_mk (st := sOne) l7 c7 k7
  have F8 := fun_mk (st := sSame) l8 c8 k8
  have F9 := fun_mk (st := sList) l9 c9 k9
  have F10 := fun_mk (st := sExch) l10 c10 k10
  have F11 := fun_mk (st := sRoad) l11 c11 k11
  have F12 := fun_mk (st := sLPairs) l12 c12 k12
  have F13 := fun_mk (st := sUnlike) l13 c13 k13
  have F14 := fun_mk (st := sLBetw) l14 c14 k14
  have F15 := fun_mk (st := sLaw) l15 c15 k15
  have b0 := F0.binds (ps := ["size", "length"]) fun _ _ _ _ _ _ us hl => match us, hl with | [_, _], _ => rfl
  have b1 := F1.binds (ps := ["dishes"]) fun _ _ _ _ _ _ us hl => match us, hl with | [_], _ => rfl
  have b2 := F2.binds (ps := ["ranking", "one", "other"]) fun _ _ _ _ _ _ us hl => match us, hl with | [_, _, _], _ => rfl
  have b3 := F3.binds (ps := ["one", "other", "pair"]) fun _ _ _ _ _ _ us hl => match us, hl with | [_, _, _], _ => rfl
  have b4 := F4.binds (ps := ["one", "other", "third"]) fun _ _ _ _ _ _ us hl => match us, hl with | [_, _, _], _ => rfl
  have b5 := F5.binds (ps := ["_law_script"]) fun _ _ _ _ _ _ us hl => match us, hl with | [_], _ => rfl
  have b6 := F6.binds (ps := ["_law_deck_here", "_law_many"]) fun _ _ _ _ _ _ us hl => match us, hl with | [_, _], _ => rfl
  have b7 := F7.binds (ps := ["_law_deck_here", "_law_some"]) fun _ _ _ _ _ _ us hl => match us, hl with | [_, _], _ => rfl
  have b8 := F8.binds (ps := ["_law_found", "_law_due"]) fun _ _ _ _ _ _ us hl => match us, hl with | [_, _], _ => rfl
  have b9 := F9.binds (ps := ["_law_deck_here", "_law_dishes"]) fun _ _ _ _ _ _ us hl => match us, hl with | [_, _], _ => rfl
  have b10 := F10.binds (ps := ["_law_row", "_law_k"]) fun _ _ _ _ _ _ us hl => match us, hl with | [_, _], _ => rfl
  have b11 := F11.binds (ps := ["_law_deck_here", "_law_dishes", "_law_steps"]) fun _ _ _ _ _ _ us hl => match us, hl with | [_, _, _], _ => rfl
  have b12 := F12.binds (ps := ["_law_dishes"]) fun _ _ _ _ _ _ us hl => match us, hl with | [_], _ => rfl
  have b13 := F13.binds (ps := ["_law_one_here", "_law_other"]) fun _ _ _ _ _ _ us hl => match us, hl with | [_, _], _ => rfl
  have b14 := F14.binds (ps := ["_law_one_here", "_law_other", "_law_third"]) fun _ _ _ _ _ _ us hl => match us, hl with | [_, _, _], _ => rfl
  have g0 := PySem.W.mg_of X G a0
  have g1 := PySem.W.mg_of X G a1
  have g2 := PySem.W.mg_of X G a2
  have g3 := PySem.W.mg_of X G a3
  have g4 := PySem.W.mg_of X G a4
  have g5 := PySem.W.mg_of X G a5
  have g6 := PySem.W.mg_of X G a6
  have g7 := PySem.W.mg_of X G a7
  have g8 := PySem.W.mg_of X G a8
  have g9 := PySem.W.mg_of X G a9
  have g10 := PySem.W.mg_of X G a10
  have g11 := PySem.W.mg_of X G a11
  have g12 := PySem.W.mg_of X G a12
  have g13 := PySem.W.mg_of X G a13
  have g14 := PySem.W.mg_of X G a14
  have g15 := PySem.W.mg_of X G a15
  have m_abs := PySem.W.mg_none_of X G z0
  have m_len := PySem.W.mg_none_of X G z1
  have m_range := PySem.W.mg_none_of X G z2
  have m_list := PySem.W.mg_none_of X G z3
  have m_tuple := PySem.W.mg_none_of X G z4
  have m_int := PySem.W.mg_none_of X G z5
  have m_isinstance := PySem.W.mg_none_of X G z6
  have m_dict := PySem.W.mg_none_of X G z7
  have m_str := PySem.W.mg_none_of X G z8
  have m_bool := PySem.W.mg_none_of X G z9
  have m_all := PySem.W.mg_none_of X G z10
  have m_sorted := PySem.W.mg_none_of X G z11
  refine ⟨PySem.W.fnOf "law" "law" (defArgs sLaw) (defBody sLaw) (defScope sLaw) .none kV15 dc15 pm15 an15 cd15 ct15, fun s v => .of_eq rfl, fun base _ _ => ?_⟩
  have GG__law_deck_5 : FnOk l.prog w K mg base CX0 5 f5 _ _ (spDeck K) := ok_deck F5 m_abs m_len
  have GG__law_next_5 : FnOk l.prog w K mg base CX0 5 f6 _ _ spNext := ok_next F6 m_len
  have GG__law_next_4 : FnOk l.prog w K mg base CX0 4 f6 _ _ spNext := ok_next F6 m_len
  have GG__law_list_5 : FnOk l.prog w K mg base CX0 5 f9 _ _ spList := ok_list F9 F6 b6 g6 GG__law_next_4 m_range m_list m_len m_tuple
  have GG__law_next_3 : FnOk l.prog w K mg base CX0 3 f6 _ _ spNext := ok_next F6 m_len
  have GG__law_list_4 : FnOk l.prog w K mg base CX0 4 f9 _ _ spList := ok_list F9 F6 b6 g6 GG__law_next_3 m_range m_list m_len m_tuple
  have GG__law_one_4 : FnOk l.prog w K mg base CX0 4 f7 _ _ spOne := ok_one F7 k6 b6 g6 GG__law_next_3 m_len
  have GG__law_exchanged_4 : FnOk l.prog w K mg base CX0 4 f10 _ _ spExch := ok_exch F10
  have GG__law_road_5 : FnOk l.prog w K mg base CX0 5 f11 _ _ spRoad := ok_road F11 k9 b9 g9 GG__law_list_4 k7 b7 g7 GG__law_one_4 k10 b10 g10 GG__law_exchanged_4 m_range m_tuple m_sorted
  have GG__law_one_5 : FnOk l.prog w K mg base CX0 5 f7 _ _ spOne := ok_one F7 k6 b6 g6 GG__law_next_4 m_len
  have GG__law_same_5 : FnOk l.prog w K mg base CX0 5 f8 _ _ (spSame K 5) := ok_same F8 b8 g8 m_isinstance m_tuple m_list m_len m_range m_dict m_str m_int m_bool 5
  have GG_agree_4 : FnOk l.prog w K mg base CX0 4 f3 _ _ spAgree := ok_agree F3 F2 b2 g2
  have GG_ascending_tuples_3 : FnOk l.prog w K mg base CX0 3 f0 _ _ spAtup := ok_Atup F0 m_range
  have GG_all_pairs_4 : FnOk l.prog w K mg base CX0 4 f1 _ _ spPairs := ok_Pairs F1 k0 b0 g0 GG_ascending_tuples_3
  have GG_is_between_5 : FnOk l.prog w K mg base CX0 5 f4 _ _ spBetw := ok_betw F4 k3 b3 g3 GG_agree_4 k1 b1 g1 GG_all_pairs_4 m_len m_all
  have GG__law_pairs_3 : FnOk l.prog w K mg base CX0 3 f12 _ _ spPairs := ok_lpairs F12 m_range
  have GG__law_unlike_4 : FnOk l.prog w K mg base CX0 4 f13 _ _ spUnlike := ok_unlike F13 F12 b12 g12 GG__law_pairs_3 m_len
  have GG__law_between_5 : FnOk l.prog w K mg base CX0 5 f14 _ _ spBetw := ok_lbetw F14 k13 b13 g13 GG__law_unlike_4
  exact ok_law F15 k5 b5 g5 GG__law_deck_5 k6 b6 g6 GG__law_next_5 k9 b9 g9 GG__law_list_5 k11 b11 g11 GG__law_road_5 k7 b7 g7 GG__law_one_5 k8 b8 g8 GG__law_same_5 k4 b4 g4 GG_is_between_5 k14 b14 g14 GG__law_between_5 m_range

end TR
open PySem PySem.W PyProof.Rows
set_option maxHeartbeats 0 in
theorem PySem.Challenge.cw_tasterow_k05_between_holds : PySem.Challenge.rw_tasterow_k05_between.Holds := by
  w_on; o_law; k_head; (case hw => w_witness2)
  k_fill
  refine L2.walk_of (l := PySem.Challenge.rw_tasterow_k05_between) (n := 63) (k := 6) (x := "_law_script") (CX := fun _ => L2.CX0) (sp := fun w => TR.spLaw _) rfl (by decide) rfl ⟨rfl, by decide, by decide⟩ (fun w h Y => PySem.W.kIn_of Y) ?F (fun _ _ a ns hl _ hS => ⟨a, ns, rfl, hS, hl, fun _ => rfl⟩) (fun _ _ _ _ _ h => h)
  case F =>
    intro w mg fa h KX G hmg
    refine' TR.all_mk KX G hmg ?a0 ?l0 ?c0 ?k0 ?a1 ?l1 ?c1 ?k1 ?a2 ?l2 ?c2 ?k2 ?a3 ?l3 ?c3 ?k3 ?a4 ?l4 ?c4 ?k4 ?a5 ?l5 ?c5 ?k5 ?a6 ?l6 ?c6 ?k6 ?a7 ?l7 ?c7 ?k7 ?a8 ?l8 ?c8 ?k8 ?a9 ?l9 ?c9 ?k9 ?a10 ?l10 ?c10 ?k10 ?a11 ?l11 ?c11 ?k11 ?a12 ?l12 ?c12 ?k12 ?a13 ?l13 ?c13 ?k13 ?a14 ?l14 ?c14 ?k14 ?a15 ?l15 ?c15 ?k15 ?z0 ?z1 ?z2 ?z3 ?z4 ?z5 ?z6 ?z7 ?z8 ?z9 ?z10 ?z11
    (case a0 => k_is); (case l0 => k_is); (case c0 => k_is); (case k0 => k_is); (case a1 => k_is); (case l1 => k_is); (case c1 => k_is); (case k1 => k_is); (case a2 => k_is); (case l2 => k_is); (case c2 => k_is); (case k2 => k_is); (case a3 => k_is); (case l3 => k_is); (case c3 => k_is); (case k3 => k_is); (case a4 => k_is); (case l4 => k_is); (case c4 => k_is); (case k4 => k_is); (case a5 => k_is); (case l5 => k_is); (case c5 => k_is); (case k5 => k_is); (case a6 => k_is); (case l6 => k_is); (case c6 => k_is); (case k6 => k_is); (case a7 => k_is); (case l7 => k_is); (case c7 => k_is); (case k7 => k_is); (case a8 => k_is); (case l8 => k_is); (case c8 => k_is); (case k8 => k_is); (case a9 => k_is); (case l9 => k_is); (case c9 => k_is); (case k9 => k_is); (case a10 => k_is); (case l10 => k_is); (case c10 => k_is); (case k10 => k_is); (case a11 => k_is); (case l11 => k_is); (case c11 => k_is); (case k11 => k_is); (case a12 => k_is); (case l12 => k_is); (case c12 => k_is); (case k12 => k_is); (case a13 => k_is); (case l13 => k_is); (case c13 => k_is); (case k13 => k_is); (case a14 => k_is); (case l14 => k_is); (case c14 => k_is); (case k14 => k_is); (case a15 => k_is); (case l15 => k_is); (case c15 => k_is); (case k15 => k_is); (case z0 => k_is); (case z1 => k_is); (case z2 => k_is); (case z3 => k_is); (case z4 => k_is); (case z5 => k_is); (case z6 => k_is); (case z7 => k_is); (case z8 => k_is); (case z9 => k_is); (case z10 => k_is); (case z11 => k_is)
