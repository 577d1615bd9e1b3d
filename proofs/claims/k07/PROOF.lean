import PyProof.Rows.All
import Wide.All
import OpenK.AllK
import Wide.FinOn
import PySem.Challenge.RW_tasterow_k07_tables_or_not
import HandS.ForMost
import HandS.Conv
import HandS.Strs
import HandS.TupAny
import HandS.Style
import HandS.IsInst
import HandS.EndBits
import HandS.Walk
import HandS.SortInts
import HandS.SortOrd
import HandS.Deep
import HandS.Wide
import HandS.NoneIn
import HandS.SetFor
import HandS.TupMul
import KE.GoesEnum
set_option Elab.async false
set_option linter.all false
set_option maxRecDepth 100000
namespace TR
open PySem PySem.Spec PyProof.Rows L2
/-! ### heaps -/
theorem same_upd {H : Hp} {p : Addr} {o : HO} (h : H p = none) : Same H (upd H p o) := fun b x e => by
  rw [upd_ne (ne_of_none e h)]
  exact e
theorem same_upd2 {H H1 : Hp} {p : Addr} {o : HO} (s : Same H H1) (h : H p = none) : Same H (upd H1 p o) := fun b x e => by
  rw [upd_ne (ne_of_none e h)]
  exact s b x e
theorem same_seqT {K : PySem.W.Frag} {H H' : Hp} {a : Addr} {xs : List V} (e : Same H H') (h : SqT K H a xs) : SqT K H' a xs := by
  rcases h with (h | ⟨o, h⟩) | h
  · exact .inl (.inl (e _ _ h))
  · exact .inl (.inr ⟨o, e _ _ h⟩)
  · exact .inr h
theorem sqL {K : PySem.W.Frag} {H : Hp} {a : Addr} {xs : List V} (h : H a = some (.lst xs)) : SqL K H a xs := .inl (.inl h)
theorem sqT {K : PySem.W.Frag} {H : Hp} {a : Addr} {xs : List V} (h : H a = some (.tup xs)) : SqT K H a xs := .inl (.inl h)
/-- all but the deck's two changing lists is as it was -/
def Keep (d p : Addr) (H H' : Hp) : Prop := ∀ b o, H b = some o → b ≠ d → b ≠ p → H' b = some o
theorem Keep.refl (d p : Addr) (H : Hp) : Keep d p H H := fun _ _ h _ _ => h
theorem Keep.trans {d p : Addr} {H H1 H2 : Hp} (a : Keep d p H H1) (b : Keep d p H1 H2) : Keep d p H H2 := fun c o h n m => b c o (a c o h n m) n m
theorem Same.keep {d p : Addr} {H H1 : Hp} (a : Same H H1) : Keep d p H H1 := fun c o h _ _ => a c o h
theorem keep_upd {d p x : Addr} {H H1 : Hp} {o : HO} (a : Keep d p H H1) (h : x = d ∨ x = p) : Keep d p H (upd H1 x o) := fun c u e n m => by
  rw [upd_ne (by rintro rfl; rcases h with h | h; exact n h; exact m h)]
  exact a c u e n m
/-! ### data -/
theorem dpAll_ints {K : PySem.W.Frag} {H : Hp} : ∀ xs : List Int, DpAll K H (xs.map V.int) (xs.map PyData.int)
  | [] => .nil
  | x :: r => .cons (.int x) (dpAll_ints r)
theorem can_ints : ∀ xs : List Int, PyData.canLayAll0 (xs.map PyData.int) = true
  | [] => rfl
  | x :: r => by
    show (true && PyData.canLayAll0 (r.map PyData.int)) = true
    rw [can_ints r]
    rfl
theorem dep_ints : ∀ xs : List Int, PyData.depthAll (xs.map PyData.int) = 0
  | [] => rfl
  | x :: r => by
    show max 0 (PyData.depthAll (r.map PyData.int)) = 0
    rw [dep_ints r]
    rfl
theorem shaped_ints (xs : List Int) : SeqAt.shaped (.list (xs.map PyData.int)) = true := by
  show (PyData.canLayAll0 (xs.map PyData.int) && decide (PyData.depthAll (xs.map PyData.int) + 1 ≤ 64)) = true
  rw [can_ints, dep_ints]
  rfl
theorem eqv_nil (xs : List Int) : PyData.eqv (.list (xs.map PyData.int)) (.list []) = xs.isEmpty := by
  cases xs with
  | nil => rfl
  | cons x r => rfl
/-! ### the deck -/
structure DeckL (H : Hp) (d p q : Addr) (n : Nat) (m : Nat) : Prop where
  ex : ∃ (xs cs : List Int) (c : Int), H d = some (.lst [.ref p, .ref q, .int c]) ∧ H p = some (.lst (xs.map V.int)) ∧ H q = some (.lst (cs.map V.int)) ∧
    0 ≤ c ∧ c ≤ (n : Int) ∧ cs ≠ [] ∧ xs.length = m
  dp : d ≠ p
  dq : d ≠ q
  pq : p ≠ q
def Deck (H : Hp) (d p q : Addr) (n : Nat) : Prop := ∃ m, DeckL H d p q n m
theorem DeckL.same {H H' : Hp} {d p q : Addr} {n m : Nat} (D : DeckL H d p q n m) (s : Same H H') : DeckL H' d p q n m := by
  obtain ⟨xs, cs, c, h1, h2, h3, h4⟩ := D.ex
  exact ⟨⟨xs, cs, c, s _ _ h1, s _ _ h2, s _ _ h3, h4⟩, D.dp, D.dq, D.pq⟩
theorem Deck.same {H H' : Hp} {d p q : Addr} {n : Nat} (D : Deck H d p q n) (s : Same H H') : Deck H' d p q n := by
  obtain ⟨m, D⟩ := D
  exact ⟨m, D.same s⟩
theorem Deck.mono {H : Hp} {d p q : Addr} {n k : Nat} (D : Deck H d p q n) (h : n ≤ k) : Deck H d p q k := by
  obtain ⟨m, ⟨xs, cs, c, h1, h2, h3, h4, h5, h6⟩, a, b, e⟩ := D
  exact ⟨m, ⟨xs, cs, c, h1, h2, h3, h4, by omega, h6⟩, a, b, e⟩
theorem Deck.hd {H : Hp} {d p q : Addr} {n : Nat} (D : Deck H d p q n) : ∃ a b c, H d = some (.lst [.ref a, .ref b, .int c]) := by
  obtain ⟨m, ⟨xs, cs, c, h1, _⟩, _⟩ := D
  exact ⟨_, _, _, h1⟩
theorem Deck.hp {H : Hp} {d p q : Addr} {n : Nat} (D : Deck H d p q n) : ∃ xs : List Int, H p = some (.lst (xs.map V.int)) := by
  obtain ⟨m, ⟨xs, cs, c, h1, h2, _⟩, _⟩ := D
  exact ⟨_, h2⟩
theorem Deck.ned {H : Hp} {d p q : Addr} {n : Nat} (D : Deck H d p q n) {b : Addr} (h : H b = none) : b ≠ d := by
  obtain ⟨x, y, c, e⟩ := D.hd
  exact (ne_of_none e h).symm
theorem Deck.nep {H : Hp} {d p q : Addr} {n : Nat} (D : Deck H d p q n) {b : Addr} (h : H b = none) : b ≠ p := by
  obtain ⟨x, e⟩ := D.hp
  exact (ne_of_none e h).symm
theorem Deck.tned {H : Hp} {d p q : Addr} {n : Nat} (D : Deck H d p q n) {b : Addr} {xs : List V} (h : H b = some (.tup xs)) : b ≠ d := by
  obtain ⟨x, y, c, e⟩ := D.hd
  exact ne_of h e (by intro z; cases z)
theorem Deck.tnep {H : Hp} {d p q : Addr} {n : Nat} (D : Deck H d p q n) {b : Addr} {xs : List V} (h : H b = some (.tup xs)) : b ≠ p := by
  obtain ⟨x, e⟩ := D.hp
  exact ne_of h e (by intro z; cases z)
end TR
namespace TR
/-! ### rankings as lists of ints -/
def rng (n : Nat) : List Int := (List.range n).map fun i : Nat => (i : Int)
def Rank (n : Nat) (ns : List Int) : Prop := ns.Perm (rng n)
theorem rng_len (n : Nat) : (rng n).length = n := by
  unfold rng; rw [List.length_map, List.length_range]
theorem mem_rng {n : Nat} {x : Int} : x ∈ rng n ↔ 0 ≤ x ∧ x < (n : Int) := by
  unfold rng
  rw [List.mem_map]
  constructor
  · rintro ⟨i, hi, rfl⟩
    have := List.mem_range.mp hi
    omega
  · rintro ⟨h0, h1⟩
    exact ⟨x.toNat, List.mem_range.mpr (by omega), by omega⟩
theorem rng_nodup (n : Nat) : (rng n).Nodup := by
  unfold rng List.Nodup
  rw [List.pairwise_map]
  exact List.nodup_range.imp (by intro a b h e; exact h (by omega))
theorem Rank.len {n : Nat} {ns : List Int} (h : Rank n ns) : ns.length = n := (List.Perm.length_eq h).trans (rng_len n)
theorem Rank.mem {n : Nat} {ns : List Int} (h : Rank n ns) {x : Int} (h0 : 0 ≤ x) (h1 : x < (n : Int)) : x ∈ ns := (List.Perm.mem_iff h).mpr (mem_rng.mpr ⟨h0, h1⟩)
theorem Rank.bnd {n : Nat} {ns : List Int} (h : Rank n ns) {x : Int} (m : x ∈ ns) : 0 ≤ x ∧ x < (n : Int) := mem_rng.mp ((List.Perm.mem_iff h).mp m)
theorem Rank.nodup {n : Nat} {ns : List Int} (h : Rank n ns) : ns.Nodup := (List.Perm.nodup_iff h).mpr (rng_nodup n)
theorem Rank.rev {n : Nat} {ns : List Int} (h : Rank n ns) : Rank n ns.reverse := (List.reverse_perm ns).trans h
/-! ### preference -/
def pref (ns : List Int) (a b : Int) : Bool := decide (ns.idxOf a < ns.idxOf b)
theorem idx_at {ns : List Int} (nd : ns.Nodup) {i : Nat} {x : Int} (h : ns[i]? = some x) : ns.idxOf x = i := by
  obtain ⟨hi, e⟩ := List.getElem?_eq_some_iff.mp h
  have m : x ∈ ns := e ▸ List.getElem_mem hi
  have hl : ns.idxOf x < ns.length := List.idxOf_lt_length_of_mem m
  have e2 : ns[ns.idxOf x] = x := List.getElem_idxOf hl
  exact (List.getElem_inj nd).mp (e2.trans e.symm)
theorem at_idx {ns : List Int} {x : Int} (m : x ∈ ns) : ns[ns.idxOf x]? = some x := by
  have hl : ns.idxOf x < ns.length := List.idxOf_lt_length_of_mem m
  rw [List.getElem?_eq_getElem hl, List.getElem_idxOf hl]
theorem idx_first {ns : List Int} {x : Int} {m : Nat} (h : m < ns.idxOf x) : ns[m]? ≠ some x := by
  intro e
  obtain ⟨hi, e2⟩ := List.getElem?_eq_some_iff.mp e
  have := List.not_of_lt_findIdx (p := (· == x)) (xs := ns) h
  rw [e2] at this
  simp at this
theorem idx_rev {ns : List Int} (nd : ns.Nodup) {x : Int} (m : x ∈ ns) : ns.reverse.idxOf x = ns.length - 1 - ns.idxOf x := by
  have hl : ns.idxOf x < ns.length := List.idxOf_lt_length_of_mem m
  refine idx_at ((List.Perm.nodup_iff (List.reverse_perm ns)).mpr nd) ?_
  rw [List.getElem?_reverse (by omega)]
  rw [show ns.length - 1 - (ns.length - 1 - ns.idxOf x) = ns.idxOf x by omega]
  exact at_idx m
theorem idx_inj {ns : List Int} {x y : Int} (m : x ∈ ns) (e : ns.idxOf x = ns.idxOf y) : x = y ∨ y ∉ ns := by
  by_cases h : y ∈ ns
  · left
    have a := at_idx m
    have b := at_idx h
    rw [e, b] at a
    exact (Option.some.inj a).symm
  · exact .inr h
theorem pref_rev {ns : List Int} (nd : ns.Nodup) {a b : Int} (ma : a ∈ ns) (mb : b ∈ ns) (ne : a ≠ b) : pref ns.reverse a b = !pref ns a b := by
  unfold pref
  have la : ns.idxOf a < ns.length := List.idxOf_lt_length_of_mem ma
  have lb : ns.idxOf b < ns.length := List.idxOf_lt_length_of_mem mb
  have hne : ns.idxOf a ≠ ns.idxOf b := fun e => by
    rcases idx_inj ma e with h | h
    · exact ne h
    · exact h mb
  rw [idx_rev nd ma, idx_rev nd mb]
  by_cases h : ns.idxOf a < ns.idxOf b
  · rw [decide_eq_true h, decide_eq_false (by omega)]
    rfl
  · rw [decide_eq_false h, decide_eq_true (by omega)]
    rfl
/-! ### pairs and differences -/
def prow (n a : Nat) : List (Int × Int) := (List.range (n - (a + 1))).map fun j : Nat => ((a : Int), ((a : Int) + 1 + (j : Int)))
def pairs (n : Nat) : List (Int × Int) := (List.range n).flatMap (prow n)
theorem mem_pairs {n : Nat} {p : Int × Int} (h : p ∈ pairs n) : 0 ≤ p.1 ∧ p.1 < p.2 ∧ p.2 < (n : Int) := by
  unfold pairs prow at h
  obtain ⟨a, ha, hp⟩ := List.mem_flatMap.mp h
  obtain ⟨j, hj, rfl⟩ := List.mem_map.mp hp
  have h1 := List.mem_range.mp ha
  have h2 := List.mem_range.mp hj
  dsimp only
  omega
theorem flat_succ {β : Type} (f : Nat → List β) (i : Nat) : (List.range (i + 1)).flatMap f = (List.range i).flatMap f ++ f i := by
  rw [List.range_succ, List.flatMap_append]
  simp
theorem map_succ {β : Type} (f : Nat → β) (i : Nat) : (List.range (i + 1)).map f = (List.range i).map f ++ [f i] := by
  rw [List.range_succ, List.map_append]
  rfl
def agr (one other : List Int) (p : Int × Int) : Bool := pref one p.1 p.2 == pref other p.1 p.2
def diffs (n : Nat) (one other : List Int) : List (Int × Int) := (pairs n).filter fun p => !agr one other p
def betw (n : Nat) (one other third : List Int) : Bool := ((pairs n).filter (agr one other)).all (agr one third)
theorem agr_symm (one other : List Int) (p : Int × Int) : agr one other p = agr other one p := by
  unfold agr
  cases pref one p.1 p.2 <;> cases pref other p.1 p.2 <;> rfl
theorem diffs_symm (n : Nat) (one other : List Int) : diffs n one other = diffs n other one := by
  unfold diffs
  congr 1
  funext p
  rw [agr_symm]
theorem diffs_rev {n : Nat} {ns : List Int} (h : Rank n ns) : diffs n ns ns.reverse = pairs n := by
  unfold diffs
  rw [List.filter_eq_self]
  intro p hp
  obtain ⟨h0, h1, h2⟩ := mem_pairs hp
  unfold agr
  rw [pref_rev h.nodup (h.mem h0 (by omega)) (h.mem (by omega) h2) (by omega)]
  cases pref ns p.1 p.2 <;> rfl
theorem filter_take {α : Type} (f : α → Bool) {l : List α} {i : Nat} {x : α} (h : l[i]? = some x) : (l.take (i + 1)).filter f = (l.take i).filter f ++ if f x = true then [x] else [] := by
  rw [List.take_add_one, h, List.filter_append]
  show _ ++ ([x].filter f) = _
  cases e : f x <;> simp [e]
theorem diffs_sub {n : Nat} {one other : List Int} {p : Int × Int} (h : p ∈ diffs n one other) : p ∈ pairs n := (List.mem_filter.mp h).1
theorem prow_len (n a : Nat) : (prow n a).length = n - (a + 1) := by
  unfold prow; rw [List.length_map, List.length_range]
theorem flat_len (n : Nat) : ∀ i : Nat, ((List.range i).flatMap (prow n)).length ≤ i * n
  | 0 => by simp
  | i + 1 => by
    have ih := flat_len n i
    rw [flat_succ, List.length_append, prow_len, Nat.succ_mul]
    omega
theorem pairs_len (n : Nat) : (pairs n).length ≤ n * n := flat_len n n
/-! ### exchanging neighbours, drawing -/
theorem perm_swap {ns : List Int} {k : Nat} {x y : Int} (hx : ns[k]? = some x) (hy : ns[k + 1]? = some y) : (ns.take k ++ ([y, x] ++ ns.drop (k + 2))).Perm ns := by
  have e : ns = ns.take k ++ (x :: y :: ns.drop (k + 2)) := by
    have h1 : k < ns.length := (List.getElem?_eq_some_iff.mp hx).1
    have h2 : k + 1 < ns.length := (List.getElem?_eq_some_iff.mp hy).1
    have a1 : ns.drop k = x :: ns.drop (k + 1) := by
      rw [List.drop_eq_getElem_cons h1, (List.getElem?_eq_some_iff.mp hx).2]
    have a2 : ns.drop (k + 1) = y :: ns.drop (k + 2) := by
      rw [List.drop_eq_getElem_cons h2, (List.getElem?_eq_some_iff.mp hy).2]
    rw [← a2, ← a1, List.take_append_drop]
  refine List.Perm.trans ?_ (List.Perm.of_eq e.symm)
  exact List.Perm.append_left _ (List.Perm.swap x y _)
theorem perm_erase {l : List Int} {j : Nat} {z : Int} (h : l[j]? = some z) : (z :: l.eraseIdx j).Perm l := by
  obtain ⟨hj, e⟩ := List.getElem?_eq_some_iff.mp h
  have e1 : l = l.take j ++ z :: l.drop (j + 1) := by
    rw [← e, ← List.drop_eq_getElem_cons hj, List.take_append_drop]
  have e2 : l.eraseIdx j = l.take j ++ l.drop (j + 1) := List.eraseIdx_eq_take_drop_succ l j
  rw [e2]
  refine List.Perm.trans ?_ (List.Perm.of_eq e1.symm)
  exact (List.perm_middle).symm
end TR
namespace TR
/-! ### swaps of neighbours, the way from one ranking to another -/
def swp (ns : List Int) (k : Nat) : List Int := ns.take k ++ ([ns.getD (k + 1) 0, ns.getD k 0] ++ ns.drop (k + 2))
def wrongN (ns ms : List Int) : List Nat := (List.range (ns.length - 1)).filter fun k => pref ms (ns.getD (k + 1) 0) (ns.getD k 0)
def wrongs (ns ms : List Int) : List Int := (wrongN ns ms).map fun k : Nat => (k : Int)
theorem getD_of {ns : List Int} {k : Nat} (h : k < ns.length) : ns.getD k 0 = ns[k] := by
  rw [List.getD_eq_getElem?_getD, List.getElem?_eq_getElem h]
  rfl
theorem swp_split {ns : List Int} {k : Nat} (h : k + 1 < ns.length) : ns = ns.take k ++ (ns.getD k 0 :: ns.getD (k + 1) 0 :: ns.drop (k + 2)) := by
  rw [getD_of h, getD_of (by omega)]
  have a1 : ns.drop k = ns[k] :: ns.drop (k + 1) := List.drop_eq_getElem_cons (by omega)
  have a2 : ns.drop (k + 1) = ns[k + 1] :: ns.drop (k + 2) := List.drop_eq_getElem_cons h
  rw [← a2, ← a1, List.take_append_drop]
theorem swp_rank {n : Nat} {ns : List Int} {k : Nat} (r : Rank n ns) (h : k + 1 < n) : Rank n (swp ns k) := by
  have hl := r.len
  refine List.Perm.trans ?_ r
  refine List.Perm.trans ?_ (List.Perm.of_eq (swp_split (ns := ns) (k := k) (by omega)).symm)
  exact List.Perm.append_left _ (List.Perm.swap _ _ _)
theorem mem_wrongN {ns ms : List Int} {k : Nat} : k ∈ wrongN ns ms ↔ k + 1 < ns.length ∧ pref ms (ns.getD (k + 1) 0) (ns.getD k 0) = true := by
  unfold wrongN
  rw [List.mem_filter, List.mem_range]
  constructor
  · rintro ⟨a, b⟩
    exact ⟨by omega, b⟩
  · rintro ⟨a, b⟩
    exact ⟨by omega, b⟩
/-! ### inversions -/
def invN : List Nat → Nat
  | [] => 0
  | x :: r => r.countP (fun y => decide (y < x)) + invN r
theorem invN_swap {x y : Nat} (h : x < y) (t : List Nat) : ∀ p : List Nat, invN (p ++ x :: y :: t) + 1 = invN (p ++ y :: x :: t)
  | [] => by
    show List.countP _ (y :: t) + (List.countP _ t + invN t) + 1 = List.countP _ (x :: t) + (List.countP _ t + invN t)
    rw [List.countP_cons_of_neg (by simp; omega), List.countP_cons_of_pos (by simp; omega)]
    omega
  | a :: p => by
    show List.countP _ (p ++ x :: y :: t) + invN (p ++ x :: y :: t) + 1 = List.countP _ (p ++ y :: x :: t) + invN (p ++ y :: x :: t)
    have ih := invN_swap h t p
    have e : List.countP (fun z => decide (z < a)) (p ++ x :: y :: t) = List.countP (fun z => decide (z < a)) (p ++ y :: x :: t) := List.Perm.countP_eq _ (List.Perm.append_left _ (List.Perm.swap _ _ _))
    rw [e]
    omega
theorem invN_le : ∀ l : List Nat, invN l ≤ l.length * l.length
  | [] => Nat.le_refl _
  | x :: r => by
    have ih := invN_le r
    have h : r.countP (fun y => decide (y < x)) ≤ r.length := List.countP_le_length
    show List.countP _ r + invN r ≤ (r.length + 1) * (r.length + 1)
    rw [Nat.succ_mul, Nat.mul_succ]
    omega
def dist (ns ms : List Int) : Nat := invN (ns.map ms.idxOf)
theorem dist_swap {n : Nat} {ns ms : List Int} {k : Nat} (r : Rank n ns) (h : k ∈ wrongN ns ms) : dist (swp ns k) ms + 1 = dist ns ms := by
  obtain ⟨h1, h2⟩ := mem_wrongN.mp h
  have e := swp_split h1
  have h3 : ms.idxOf (ns.getD (k + 1) 0) < ms.idxOf (ns.getD k 0) := of_decide_eq_true h2
  have e2 : dist ns ms = invN ((ns.take k).map ms.idxOf ++ (ms.idxOf (ns.getD k 0) :: ms.idxOf (ns.getD (k + 1) 0) :: (ns.drop (k + 2)).map ms.idxOf)) := by
    have g := congrArg (fun l : List Int => invN (l.map ms.idxOf)) e
    rw [List.map_append] at g
    exact g
  have e3 : dist (swp ns k) ms = invN ((ns.take k).map ms.idxOf ++ (ms.idxOf (ns.getD (k + 1) 0) :: ms.idxOf (ns.getD k 0) :: (ns.drop (k + 2)).map ms.idxOf)) := by
    unfold dist swp
    rw [List.map_append]
    rfl
  rw [e2, e3]
  exact invN_swap h3 _ _
theorem dist_le {n : Nat} {ns : List Int} (ms : List Int) (r : Rank n ns) : dist ns ms ≤ n * n := by
  have h := invN_le (ns.map ms.idxOf)
  rw [List.length_map, r.len] at h
  exact h
/-! ### no wrong place: the end -/
theorem wrong_nil {n : Nat} {ns ms : List Int} (r : Rank n ns) (s : Rank n ms) (h : wrongN ns ms = []) : ns = ms := by
  have ln := r.len
  have lm := s.len
  have memM : ∀ k, k < n → ns.getD k 0 ∈ ms := fun k hk => by
    rw [getD_of (by omega)]
    have b := r.bnd (List.getElem_mem (show k < ns.length by omega))
    exact s.mem b.1 b.2
  have up : ∀ k, k + 1 < n → ms.idxOf (ns.getD k 0) < ms.idxOf (ns.getD (k + 1) 0) := fun k hk => by
    have hn : ¬ ms.idxOf (ns.getD (k + 1) 0) < ms.idxOf (ns.getD k 0) := fun hlt => by
      have : k ∈ wrongN ns ms := mem_wrongN.mpr ⟨by omega, decide_eq_true hlt⟩
      rw [h] at this
      cases this
    have hne : ms.idxOf (ns.getD k 0) ≠ ms.idxOf (ns.getD (k + 1) 0) := fun e => by
      rcases idx_inj (memM k (by omega)) e with e2 | e2
      · rw [getD_of (by omega), getD_of (by omega)] at e2
        have := (List.getElem_inj r.nodup).mp e2
        omega
      · exact e2 (memM (k + 1) hk)
    omega
  have lo : ∀ k, k < n → k ≤ ms.idxOf (ns.getD k 0) := fun k => by
    induction k with
    | zero => intro _; exact Nat.zero_le _
    | succ k ih =>
      intro hk
      have := ih (by omega)
      have := up k hk
      omega
  have bd : ∀ k, k < n → ms.idxOf (ns.getD k 0) < n := fun k hk => by
    have := List.idxOf_lt_length_of_mem (memM k hk)
    omega
  have hi : ∀ d k, k + d + 1 = n → ms.idxOf (ns.getD k 0) ≤ k := fun d => by
    induction d with
    | zero =>
      intro k hk
      have := bd k (by omega)
      omega
    | succ d ih =>
      intro k hk
      have := ih (k + 1) (by omega)
      have := up k (by omega)
      omega
  refine List.ext_getElem (by omega) fun k h1 h2 => ?_
  have e : ms.idxOf (ns.getD k 0) = k := by
    have a := lo k (by omega)
    have b := hi (n - 1 - k) k (by omega)
    omega
  have g := at_idx (memM k (by omega))
  rw [e, List.getElem?_eq_getElem h2, getD_of h1] at g
  exact (Option.some.inj g).symm
theorem wrong_self {n : Nat} {ms : List Int} (s : Rank n ms) : wrongN ms ms = [] := by
  refine List.filter_eq_nil_iff.mpr fun k hk => ?_
  have hk' := List.mem_range.mp hk
  rw [getD_of (by omega), getD_of (by omega)]
  have e1 := idx_at s.nodup (List.getElem?_eq_getElem (show k < ms.length by omega))
  have e2 := idx_at s.nodup (List.getElem?_eq_getElem (show k + 1 < ms.length by omega))
  unfold pref
  rw [e1, e2]
  simp
/-! ### the way -/
def stp (ms r : List Int) : List Int := match wrongN r ms with
  | [] => r
  | k :: _ => swp r k
def itr (ms ns : List Int) : Nat → List Int
  | 0 => ns
  | j + 1 => stp ms (itr ms ns j)
def Pth (ns ms : List Int) (rows : List (List Int)) : Prop := ∃ j, rows = (List.range (j + 1)).map (itr ms ns) ∧ itr ms ns j = ms ∧ ∀ i, i < j → itr ms ns i ≠ ms
theorem Pth.uniq {ns ms : List Int} {r s : List (List Int)} (a : Pth ns ms r) (b : Pth ns ms s) : r = s := by
  obtain ⟨i, e1, e2, e3⟩ := a
  obtain ⟨j, f1, f2, f3⟩ := b
  have : i = j := by
    rcases Nat.lt_trichotomy i j with h | h | h
    · exact absurd e2 (f3 i h)
    · exact h
    · exact absurd f2 (e3 j h)
  subst this
  rw [e1, f1]
theorem itr_rank {n : Nat} {ns ms : List Int} (r : Rank n ns) : ∀ j, Rank n (itr ms ns j)
  | 0 => r
  | j + 1 => by
    have ih := itr_rank (ms := ms) r j
    show Rank n (stp ms (itr ms ns j))
    unfold stp
    cases e : wrongN (itr ms ns j) ms with
    | nil => exact ih
    | cons k t =>
      have := (mem_wrongN (ns := itr ms ns j) (ms := ms) (k := k)).mp (by rw [e]; exact List.mem_cons_self)
      exact swp_rank ih (by have := ih.len; omega)
theorem itr_succ {ms ns : List Int} {j k : Nat} {t : List Nat} (e : wrongN (itr ms ns j) ms = k :: t) : itr ms ns (j + 1) = swp (itr ms ns j) k := by
  show stp ms (itr ms ns j) = _
  unfold stp
  rw [e]
theorem wrong_ne {n : Nat} {ns ms : List Int} {k : Nat} {t : List Nat} (s : Rank n ms) (e : wrongN ns ms = k :: t) : ns ≠ ms := fun h => by
  subst h
  rw [wrong_self s] at e
  cases e
end TR
namespace TR
/-! ### least, ascending, costs -/
def mn : List Int → Int
  | [] => 0
  | [x] => x
  | x :: y :: r => min x (mn (y :: r))
theorem mn_mem : ∀ {l : List Int}, l ≠ [] → mn l ∈ l
  | [], h => absurd rfl h
  | [x], _ => List.mem_singleton.mpr rfl
  | x :: y :: r, _ => by
    have ih := mn_mem (l := y :: r) (by simp)
    show min x (mn (y :: r)) ∈ _
    by_cases h : x ≤ mn (y :: r)
    · rw [Int.min_eq_left h]; exact List.mem_cons_self
    · rw [Int.min_eq_right (by omega)]; exact List.mem_cons_of_mem _ ih
theorem mn_le : ∀ {l : List Int} {z : Int}, z ∈ l → mn l ≤ z
  | [x], z, h => by
    rw [List.mem_singleton] at h
    subst h
    exact Int.le_refl _
  | x :: y :: r, z, h => by
    show min x (mn (y :: r)) ≤ z
    rcases List.mem_cons.mp h with rfl | h
    · omega
    · have := mn_le h
      omega
theorem mn_uniq {l : List Int} {m : Int} (h : m ∈ l) (g : ∀ y, y ∈ l → m ≤ y) : m = mn l := by
  have h1 := mn_le h
  have h2 := g _ (mn_mem (List.ne_nil_of_mem h))
  omega
def cpos (rk ms : List Int) : Int := mn (ms.map fun d => ((rk.idxOf d : Nat) : Int))
def cst (ts : List (List Int × Int)) (ms : List Int) : Int := (ts.map fun t => t.2 * cpos t.1 ms).sum
def Asc (lo hi : Int) (ns : List Int) : Prop := (∀ x ∈ ns, lo ≤ x ∧ x ≤ hi) ∧ ns.Pairwise (· < ·)
def IsMn (n : Nat) (ms : List Int) : Prop := ms ≠ [] ∧ Asc 0 ((n : Int) - 1) ms
theorem adj_pw : ∀ {ns : List Int}, (∀ i, i + 1 < ns.length → ns.getD i 0 < ns.getD (i + 1) 0) → ns.Pairwise (· < ·)
  | [], _ => .nil
  | [x], _ => List.pairwise_singleton _ _
  | x :: y :: r, h => by
    have ih : (y :: r).Pairwise (· < ·) := adj_pw fun i hi => h (i + 1) (by rw [List.length_cons]; omega)
    refine List.pairwise_cons.mpr ⟨fun z hz => ?_, ih⟩
    have h0 : x < y := h 0 (by simp)
    rcases List.mem_cons.mp hz with rfl | hz
    · exact h0
    · have := List.rel_of_pairwise_cons ih hz
      omega
theorem pw_adj {ns : List Int} (h : ns.Pairwise (· < ·)) (i : Nat) (hi : i + 1 < ns.length) : ns.getD i 0 < ns.getD (i + 1) 0 := by
  have e : ∀ k (hk : k < ns.length), ns.getD k 0 = ns[k] := fun k hk => by
    rw [List.getD_eq_getElem?_getD, List.getElem?_eq_getElem hk]
    rfl
  rw [e i (by omega), e (i + 1) hi]
  exact List.pairwise_iff_getElem.mp h i (i + 1) (by omega) hi (by omega)
theorem cpos_ge {rk ms : List Int} : 0 ≤ cpos rk ms := by
  unfold cpos
  cases ms with
  | nil => exact Int.le_refl _
  | cons x r =>
    have := mn_mem (l := (x :: r).map fun d => ((rk.idxOf d : Nat) : Int)) (by simp)
    obtain ⟨d, _, e⟩ := List.mem_map.mp this
    rw [← e]
    exact Int.natCast_nonneg _
theorem cpos_lt {n : Nat} {rk ms : List Int} (r : Rank n rk) (h : IsMn n ms) : cpos rk ms < (n : Int) := by
  have := mn_mem (l := ms.map fun d => ((rk.idxOf d : Nat) : Int)) (by simpa using h.1)
  obtain ⟨d, hd, e⟩ := List.mem_map.mp this
  have b := h.2.1 d hd
  have := List.idxOf_lt_length_of_mem (r.mem b.1 (by omega))
  rw [r.len] at this
  unfold cpos
  rw [← e]
  omega
theorem cpos_mono {rk ms os : List Int} (h : ms ≠ []) (s : ∀ x ∈ ms, x ∈ os) : cpos rk os ≤ cpos rk ms := by
  have := mn_mem (l := ms.map fun d => ((rk.idxOf d : Nat) : Int)) (by simpa using h)
  obtain ⟨d, hd, e⟩ := List.mem_map.mp this
  show mn _ ≤ mn _
  rw [← e]
  exact mn_le (List.mem_map.mpr ⟨d, s d hd, rfl⟩)
theorem cpos_full {n : Nat} {rk : List Int} (r : Rank n rk) (h1 : 1 ≤ n) : cpos rk (rng n) = 0 := by
  have hl := r.len
  have h0 : 0 < rk.length := by omega
  have b := r.bnd (List.getElem_mem h0)
  have e : rk.idxOf rk[0] = 0 := by
    cases rk with
    | nil => simp at h0
    | cons x t => simp
  have m : ((rk.idxOf rk[0] : Nat) : Int) ∈ (rng n).map fun d => ((rk.idxOf d : Nat) : Int) := List.mem_map.mpr ⟨rk[0], mem_rng.mpr b, rfl⟩
  have h2 := mn_le m
  have h3 : 0 ≤ cpos rk (rng n) := cpos_ge
  unfold cpos at h3 ⊢
  rw [e] at h2
  omega
theorem cst_full {n : Nat} (h1 : 1 ≤ n) : ∀ {ts : List (List Int × Int)}, (∀ t ∈ ts, Rank n t.1) → cst ts (rng n) = 0
  | [], _ => rfl
  | t :: r, h => by
    have ih := cst_full h1 (ts := r) fun x hx => h x (List.mem_cons_of_mem _ hx)
    show t.2 * cpos t.1 (rng n) + cst r (rng n) = 0
    rw [ih, cpos_full (h t List.mem_cons_self) h1, Int.mul_zero]
    rfl
theorem cst_mono {ms os : List Int} (h : ms ≠ []) (s : ∀ x ∈ ms, x ∈ os) : ∀ {ts : List (List Int × Int)}, (∀ t ∈ ts, 0 ≤ t.2) → cst ts os ≤ cst ts ms
  | [], _ => Int.le_refl _
  | t :: r, g => by
    have ih := cst_mono h s (ts := r) fun x hx => g x (List.mem_cons_of_mem _ hx)
    have h1 := Int.mul_le_mul_of_nonneg_left (cpos_mono (rk := t.1) h s) (g t List.mem_cons_self)
    show t.2 * cpos t.1 os + cst r os ≤ t.2 * cpos t.1 ms + cst r ms
    omega
def times (ts : List (List Int × Int)) (f : Int) : List (List Int × Int) := ts.map fun t => (t.1, (1 + t.2 % 1000) * f)
theorem cst_times (f : Int) (ms : List Int) : ∀ ts : List (List Int × Int), cst (times ts f) ms = f * cst (times ts 1) ms
  | [] => by
    show (0 : Int) = f * 0
    rw [Int.mul_zero]
  | t :: r => by
    have ih := cst_times f ms r
    show (1 + t.2 % 1000) * f * cpos t.1 ms + cst (times r f) ms = f * ((1 + t.2 % 1000) * 1 * cpos t.1 ms + cst (times r 1) ms)
    rw [ih, Int.mul_one, Int.mul_add, Int.mul_comm (1 + t.2 % 1000) f, Int.mul_assoc]
theorem cst_app (ts ss : List (List Int × Int)) (ms : List Int) : cst (ts ++ ss) ms = cst ts ms + cst ss ms := by
  unfold cst
  rw [List.map_append, List.sum_append]
theorem cst_halved {ts : List (List Int × Int)} {k : Nat} {r : List Int} {v : Int} (ms : List Int) (h : ts[k]? = some (r, v)) : cst (ts.take k ++ ([(r, v / 2), (r, v - v / 2)] ++ ts.drop (k + 1))) ms = cst ts ms := by
  have hk : k < ts.length := (List.getElem?_eq_some_iff.mp h).1
  have e : ts.drop k = (r, v) :: ts.drop (k + 1) := by
    rw [List.drop_eq_getElem_cons hk, (List.getElem?_eq_some_iff.mp h).2]
  have e2 : cst ts ms = cst (ts.take k) ms + cst ((r, v) :: ts.drop (k + 1)) ms := by
    rw [← e, ← cst_app, List.take_append_drop]
  rw [cst_app, e2]
  show _ + (v / 2 * cpos r ms + ((v - v / 2) * cpos r ms + cst (ts.drop (k + 1)) ms)) = _ + (v * cpos r ms + cst (ts.drop (k + 1)) ms)
  have e3 : v * cpos r ms = v / 2 * cpos r ms + (v - v / 2) * cpos r ms := by
    rw [← Int.add_mul]
    congr 1
    omega
  rw [e3]
  omega
end TR
namespace TR
open PySem PySem.Spec PyProof.Rows L2
theorem flat_ints (ys : List Int) : (ys.map V.int).all flatV = true := by
  rw [List.all_map]; exact List.all_eq_true.mpr fun _ _ => rfl
def rTupIdx (K : PySem.W.Frag) : V → List V → Hp → VK → Prop := fun x xs H Q => ∃ p, ∃ ys : List Int, ∃ z j, x = .ref p ∧ xs = [.int z] ∧ SqT K H p (ys.map V.int) ∧ ys[j]? = some z ∧ (∀ m, m < j → ys[m]? ≠ some z) ∧ Q (.int (j : Nat)) H
section
variable {X : Cx}
/-- t.index(k), t a tuple of ints: the first place -/
theorem mt_tupIdx : MtR X "tuple.index" (fun x xs H Q => ∃ p, ∃ ys : List Int, ∃ z j, x = .ref p ∧ xs = [.int z] ∧ SqT X.K H p (ys.map V.int) ∧ ys[j]? = some z ∧ (∀ m, m < j → ys[m]? ≠ some z) ∧ Q (.int (j : Nat)) H) := by
  intro pins s σ H x xs v us Q I rx rs h
  obtain ⟨p, ys, z, j, rfl, rfl, hS, hy, hno, q⟩ := h
  cases rx
  obtain ⟨u, rfl, t, rfl⟩ := vals1 rs
  obtain ⟨its, r, pl, hz⟩ := I.tuple hS
  obtain ⟨⟨c1, dd, dt, sl⟩, ho, hc, n, hd⟩ := pl
  simp only at hc hd; subst hc; subst hd
  have hl : its.toArray.size = ys.length := by
    rw [List.size_toArray, ← r.length]; exact List.length_map _
  have hj : j < its.toArray.size := hl.symm ▸ (List.getElem?_eq_some_iff.mp hy).1
  have pick : ∀ (m : Nat) (hm : m < its.toArray.size), ∃ y t', ys[m]? = some y ∧ its.toArray[m] = Value.int y t' := fun m hm => by
    have hm2 : m < ys.length := hl ▸ hm
    obtain ⟨w, hw, t', hw'⟩ := r.get (i := m) (x := .int ys[m]) (by simp [hm2])
    refine ⟨ys[m], t', List.getElem?_eq_getElem hm2, ?_⟩
    have e := (List.getElem?_eq_some_iff.mp hw).2
    rw [← hw', ← e]; simp
  refine call_meets PySem.F.slot_tuple_index ⟨_, ho, rfl⟩ PySem.F.entry_tuple_index (PySem.F.args_tuple_index_2 _ _) (TI.tuple_indexAt p its.toArray n dd sl (.int z t) (eqU (.int z)) j hj ?_ ?_)
    ⟨ho, fun w hw => mem_eqAt (x := .int z) ⟨t, rfl⟩ rfl r (flat_ints ys) w (by simpa using hw), ⟨.int (j : Nat), H, I.tok _, ⟨_, rfl⟩, q⟩⟩
  · obtain ⟨y, t', h1, h2⟩ := pick j hj
    rw [hy] at h1; cases h1; rw [h2]
    show (z == z) = true; exact beq_self_eq_true z
  · intro m hm hmj
    obtain ⟨y, t', h1, h2⟩ := pick m hm
    rw [h2]; show (y == z) = false
    exact beq_eq_false_iff_ne.mpr fun e => hno m hmj (e ▸ h1)
end
section
variable {prog : Program} {w : World} {A : Around} {E : Value → Shared → Prop} {s : Shared}
theorem places_back (n : Nat) : Builtin.Slice.slicePlaces ((n : Int) - 1) (-1) (-1) = n := by
  unfold Builtin.Slice.slicePlaces
  rw [if_neg (show ¬ ((-1 : Int) > 0) by decide)]
  by_cases h : (n : Int) - 1 > -1
  · rw [if_pos h, show (- -1 : Int) = 1 by decide, Int.ediv_one]; omega
  · rw [if_neg h]; omega
theorem applied_back {sl : Addr} {vs : Value} {n : Nat} {Q : Int × Int × Nat → Shared → Prop} (hs : s.heap.IsSliceOf sl .none .none vs) (ps : IsPart vs (some (-1))) (h : Q ((n : Int) - 1, -1, n) s) :
    wpAny (model prog w) A (Builtin.Slice.sliceApplied (.ref sl) (pure (n : Int))) Q E s := by
  obtain ⟨os, hos, hcs, hds⟩ := id hs
  unfold Builtin.Slice.sliceApplied Builtin.Slice.sliceFields
  refine wpAny_bind (wpAny_bind (wpAny_field hos hds (x := .none) rfl (wpAny_bind (wpAny_field hos hds (x := .none) rfl (wpAny_bind (wpAny_field hos hds (x := vs) rfl (wpAny_pure ?_)))))))
  refine wpAny_bind (HT.slicePart_ ps ?_)
  show wpAny _ _ (if ((-1 : Int) == 0) = true then _ else _) _ _ s
  rw [if_neg (show ¬ (((-1 : Int) == 0) = true) by decide)]
  refine wpAny_bind (HT.slicePart_ .none (wpAny_bind (HT.slicePart_ .none (wpAny_bind (wpAny_pure ?_)))))
  show wpAny _ _ (pure ((n : Int) - 1, (-1 : Int), Builtin.Slice.slicePlaces ((n : Int) - 1) (-1) (-1))) _ _ s
  rw [places_back]; exact wpAny_pure h
theorem pick_back (xs : Array Value) : ((List.range xs.size).filterMap fun (k : Nat) => xs[((xs.size : Int) - 1 + (k : Int) * -1).toNat]?).toArray = xs.toList.reverse.toArray := by
  have e : ((List.range xs.size).filterMap fun (k : Nat) => xs[((xs.size : Int) - 1 + (k : Int) * -1).toNat]?) = ((List.range xs.size).map fun k => xs.size - 1 - k).filterMap (xs[·]?) := by
    rw [List.filterMap_map]
    refine congrArg (fun g => (List.range xs.size).filterMap g) (funext fun k => ?_)
    show xs[((xs.size : Int) - 1 + (k : Int) * -1).toNat]? = xs[xs.size - 1 - k]?
    rw [show ((xs.size : Int) - 1 + (k : Int) * -1).toNat = xs.size - 1 - k by omega]
  rw [e, PySem.W.krv_range, List.filterMap_reverse, PySem.W.krv_all]
theorem getItem_back {t sl : Addr} {items : Array Value} {vs : Value} {Q : Value → Shared → Prop} (ht : IsTup s.heap t items) (hs : s.heap.IsSliceOf sl .none .none vs) (ps : IsPart vs (some (-1)))
    (h : Q (.ref s.heap.objs.size) { s with heap := s.heap.push { cls := .type "tuple", data := .seq items.toList.reverse.toArray } }) (hsz : items.size ≤ sizeLine) : wpAny (model prog w) A (getItem (.ref t) (.ref sl)) Q E s := by
  have hok : sizeOk (.seq items.toList.reverse.toArray) := by
    show items.toList.reverse.toArray.size ≤ sizeLine
    rw [List.size_toArray, List.length_reverse]; exact hsz
  obtain ⟨os, hos, hcs, hds⟩ := id hs
  have hTs : s.TypeIs (.ref sl) "slice" := ⟨os, hos, hcs⟩
  unfold getItem
  try with_reducible refine wpAny_holding ?_
  first | refine wpAny_bind (wpAny_pure ?_) | skip
  refine wpAny_bind (wpAny_sequenceKey ht.typeIs (by decide) ?_)
  refine wpAny_bind (wpAny_callSpecial?_slot (name := Str.ofString "__getitem__") ht.typeIs PyProof.Rows.slot_tuple_getitem (wpAny_call_entry PyProof.Rows.slot_tuple_getitem ht.typeIs entry_tuple_getitem ?_ (args_tuple_getitem _ _)))
  show wpAny _ _ (Builtin.Tuple.tupleItemsOf (.ref t) >>= _) _ _ s
  refine wpAny_bind (PyProof.Rows.tupleItemsOf_ ht (wpAny_bind (wpAny_typeOf hTs ?_)))
  rw [if_pos (by decide)]
  refine wpAny_bind (applied_back hs ps ?_)
  have hno : ¬ ((((items.size : Int) - 1 == 0) && (-1 : Int) == 1 && items.size == items.size) = true) := by
    rw [show ((-1 : Int) == 1) = false by decide, Bool.and_false, Bool.false_and]; exact Bool.false_ne_true
  show wpAny _ _ (if (((items.size : Int) - 1 == 0) && (-1 : Int) == 1 && items.size == items.size) = true then _ else _) _ _ s
  rw [if_neg hno, pick_back]
  first
    | exact wpAny_bind (m := Builtin.Tuple.tupleExact _) (wpAny_newObj_type (wpAny_pure ⟨_, rfl, wpAny_pure h⟩) hok)
    | exact wpAny_bind (wpAny_bind (m := Builtin.Tuple.tupleExact _) (wpAny_newObj_type (wpAny_pure ⟨_, rfl, wpAny_pure h⟩) hok))
    | exact wpAny_bind (wpAny_bind (m := Builtin.Tuple.tupleExact _) (wpAny_newObj_type (wpAny_pure (wpAny_pure ⟨_, rfl, wpAny_pure h⟩)) hok))
end
section
variable {X : Cx}
/-- t[::-1], t a tuple: always a new one -/
def tRevT (K : PySem.W.Frag) (te : TE) : TE := fun σ H Q => te σ H fun x H1 => ∃ a xs, x = .ref a ∧ SqT K H1 a xs ∧ ∀ p o, H1 p = none → o.dict = none → Q (.ref p) (upd H1 p (.frz o (.tup xs.reverse)))
theorem pe_revT {e : Expr} {te : TE} {k : Nat} {p1 p2 p3 pos : Pos} (he : PE X e te) : PE X (.Subscript e (.Slice none none (some (.UnaryOp .USub (.Constant (.int 1) k p1) p2)) p3) pos) (tRevT X.K te) := by
  refine ⟨fun pins s σ H Q I h => Subscript_ (thn (he.run pins s σ H _ I h) fun v s1 ⟨x, H1, I1, r1, a, xs, ex, hx, q⟩ => ?_)⟩
  subst ex; cases r1
  have hst : PO X (some (.UnaryOp .USub (.Constant (.int 1) k p1) p2)) (tPart (tUn (rU fun i => .int (-i)) (tC (.int 1)))) := po_some (pe_un un_neg pe_int)
  refine wpAny_Slice (thn (po_none.run pins s1 σ H1 (fun o G => o = none ∧ G = H1) I1 ⟨rfl, rfl⟩) fun vl s2 ⟨l, H2, I2, pl, el, e2⟩ => ?_)
  subst el e2
  refine thn (po_none.run pins s2 σ H2 (fun o G => o = none ∧ G = H2) I2 ⟨rfl, rfl⟩) fun vu s3 ⟨u, H3, I3, pu, eu, e3⟩ => ?_
  subst eu e3
  refine thn (hst.run pins s3 σ H3 (fun o G => o = some (-1) ∧ G = H3) I3 ⟨1, rfl, -1, rfl, rfl, rfl⟩) fun vs s4 ⟨o, H4, I4, ps, eo, e4⟩ => ?_
  subst eo e4
  cases pl; cases pu
  have I5 : Inv X pins σ H4 { s4 with heap := s4.heap.push { cls := .type "slice", data := .fields #[.none, .none, vs] } } := I4.kept (t' := s4.toks) fun b ob q => Heap.get?_push_of_some _ q
  obtain ⟨its, r, ht, hz⟩ := I5.tuple hx
  have hlen := r.length
  show wpAny (model X.prog X.w) X.A (subscriptTail e (.Slice none none (some (.UnaryOp .USub (.Constant (.int 1) k p1) p2)) p3) (.ref a) (.ref s4.heap.objs.size)) (EP X pins σ Q) X.xe { s4 with heap := s4.heap.push { cls := .type "slice", data := .fields #[.none, .none, vs] } }
  refine tail_any (ops := [.ref a, .ref s4.heap.objs.size]) ht.typeIs (PyProof.Rows.slot_tuple_getitem.lookup) ?_ (by with_unfolding_all rfl)
  refine getItem_back ht (Heap.IsSliceOf.new _ .none .none vs) ps ?_ (by rw [List.size_toArray]; omega)
  refine ⟨.ref _, _, I5.laid (t' := s4.toks) (o := .frz { cls := .type "tuple", data := .seq its.toArray.toList.reverse.toArray } (.tup xs.reverse)) (fun b ob q => Heap.get?_push_of_some _ q) (Nat.le_refl _) ?_, rfl, q _ _ (I5.hok.fresh (Nat.le_refl _)) rfl⟩
  exact ⟨Heap.get?_push_size _ rfl, by rw [List.length_reverse]; exact hz, _, r.reverse, IsTup.new _ _⟩
/-- tuple(a list): the new tuple, as the very object -/
theorem call_tupleF : CallR X (.type "tuple") (fun xs H Q => ∃ p ys, xs = [.ref p] ∧ SqL X.K H p ys ∧ ∀ l o, H l = none → o.dict = none → Q (.ref l) (upd H l (.frz o (.tup ys)))) := by
  intro pins s σ H xs us Q I r ⟨p, ys, ex, hS, q⟩
  subst ex
  obtain ⟨u, rfl, rx⟩ := vals1 r
  cases rx
  obtain ⟨its, r', pl, hz⟩ := I.list hS
  have hlen := r'.length
  refine call_tuple_list pl.isList (fun h' kp => ?_) (by simp only [List.size_toArray] <;> omega)
  have I1 : Inv X pins σ H { s with heap := h' } := I.kept (t' := s.toks) kp
  exact ⟨.ref h'.objs.size, _, I1.laid (t' := s.toks) (o := .frz { cls := .type "tuple", data := .seq its.toArray } (.tup ys)) (fun b o e => Heap.get?_push_of_some _ e) (Nat.le_refl _) ⟨Heap.get?_push_size _ rfl, hz, its, r', IsTup.new _ _⟩, rfl, q _ _ (I1.hok.fresh (Nat.le_refl _)) rfl⟩
/-- (a, b, ..): the same -/
def tTupF (t : TA) : TE := fun σ H Q => t σ H fun xs H1 => xs.length ≤ sizeLine ∧ ∀ p o, H1 p = none → o.dict = none → Q (.ref p) (upd H1 p (.frz o (.tup xs)))
theorem pe_tupF {es : List Expr} {t : TA} {pos : Pos} {x1} (h : PA X es t) : PE X (.Tuple es x1 pos) (tTupF t) := by
  refine ⟨fun pins s σ H Q I hq => wpAny_Tuple_spliced (thn (h.run pos pins s σ H _ I hq) fun us s1 ⟨xs, H1, I1, r, z, q⟩ => ⟨by rw [← r.length]; exact z, ?_⟩)⟩
  exact ⟨.ref s1.heap.objs.size, _, I1.laid (t' := s1.toks) (o := .frz { cls := .type "tuple", data := .seq us.toArray } (.tup xs)) (fun b u e => Heap.get?_push_of_some _ e) (Nat.le_refl _) ⟨Heap.get?_push_size _ rfl, z, us, r, IsTup.new _ _⟩, rfl, q _ _ (I1.hok.fresh (Nat.le_refl _)) rfl⟩
/-- t + u -/
def rCatF (K : PySem.W.Frag) : R2 := fun x y H Q => ∃ a b xs ys, x = .ref a ∧ y = .ref b ∧ SqT K H a xs ∧ SqT K H b ys ∧ xs.length + ys.length ≤ sizeLine ∧
  (xs = [] → Q (.ref b) H) ∧ (xs ≠ [] → ys = [] → Q (.ref a) H) ∧ (xs ≠ [] → ys ≠ [] → ∀ p o, H p = none → o.dict = none → Q (.ref p) (upd H p (.frz o (.tup (xs ++ ys)))))
theorem op_catF : OpR X (binaryOp .Add) (rCatF X.K) := by
  intro pins s σ H x y v u Q I rx ry ⟨a, b, xs, ys, ex, ey, ha, hb, hz, q0, q1, q2⟩
  subst ex ey; cases rx; cases ry
  obtain ⟨its, r1, p1, _⟩ := I.tuple ha
  obtain ⟨its2, r2, p2, _⟩ := I.tuple hb
  by_cases hx : xs = []
  · subst hx; cases r1
    exact cat_tup0 p1 p2 ⟨.ref b, H, I, rfl, q0 rfl⟩
  · refine HT.cat_tup p1 p2 (fun z => hx (r1.nil_iff.mp z)) (fun z => ⟨.ref a, H, I, rfl, q1 hx (r2.nil_iff.mp z)⟩) (fun z => ?_) (by rw [← r1.length, ← r2.length]; exact hz)
    exact ⟨.ref s.heap.objs.size, _, I.laid (t' := s.toks) (o := .frz { cls := .type "tuple", data := .seq (its ++ its2).toArray } (.tup (xs ++ ys))) (fun b ob q => Heap.get?_push_of_some _ q) (Nat.le_refl _)
      ⟨Heap.get?_push_size _ rfl, by rw [List.length_append]; exact hz, _, r1.append r2, IsTup.new _ _⟩, rfl, q2 hx (fun w => z (r2.nil_iff.mpr w)) _ _ (I.hok.fresh (Nat.le_refl _)) rfl⟩
/-- t[lo:hi] -/
def rSlF (K : PySem.W.Frag) : V → Option Int → Option Int → Hp → VK → Prop := fun x lo hi H Q => ∃ a xs, x = .ref a ∧ SqT K H a xs ∧
  (HT.sIx xs.length 0 lo = 0 ∧ HT.sIx xs.length xs.length hi = xs.length → Q (.ref a) H) ∧
  (¬ (HT.sIx xs.length 0 lo = 0 ∧ HT.sIx xs.length xs.length hi = xs.length) → ∀ p o, H p = none → o.dict = none → Q (.ref p) (upd H p (.frz o (.tup (cutV xs lo hi)))))
theorem sl_tupF : SlR X (rSlF X.K) := by
  intro pins s σ H x v vl vu lo hi sl Q I rx hs pl pu ⟨a, xs, ex, hx, q1, q2⟩
  subst ex; cases rx
  obtain ⟨its, r, ht, hz⟩ := I.tuple hx
  have hlen : its.toArray.size = xs.length := List.size_toArray.trans r.length.symm
  refine ⟨"tuple", _, PyProof.Rows.slot_tuple_getitem.lookup, ht.typeIs, ?_⟩
  by_cases hw : HT.sIx xs.length 0 lo = 0 ∧ HT.sIx xs.length xs.length hi = xs.length
  · exact getItem_tuple_whole ht hs pl pu (by rw [hlen]; exact hw) ⟨.ref a, H, I, rfl, q1 hw⟩
  · refine HT.getItem_tuple_cut ht hs pl pu (by rw [hlen]; exact hw) ?_ (by rw [hlen]; exact hz)
    rw [hlen]
    exact ⟨.ref s.heap.objs.size, _, I.laid (t' := s.toks) (o := .frz { cls := .type "tuple", data := .seq ((its.toArray.toList.drop (HT.sIx xs.length 0 lo)).take (HT.sIx xs.length xs.length hi - HT.sIx xs.length 0 lo)).toArray } (.tup (cutV xs lo hi))) (fun b ob q => Heap.get?_push_of_some _ q) (Nat.le_refl _)
      ⟨Heap.get?_push_size _ rfl, Nat.le_trans (cutV_length xs lo hi) hz, _, (r.drop (HT.sIx xs.length 0 lo)).take (HT.sIx xs.length xs.length hi - HT.sIx xs.length 0 lo), IsTup.new _ _⟩, rfl, q2 hw _ _ (I.hok.fresh (Nat.le_refl _)) rfl⟩
/-- t.m(e, ..), t a tuple that stands as the very object, without a dict of its own -/
def tBMT (r : V → List V → Hp → VK → Prop) (to : TE) (t : TA) : TE := fun σ H Q => to σ H fun x H1 => (∃ p ob ys, x = .ref p ∧ ob.dict = none ∧ H1 p = some (.frz ob (.tup ys))) ∧ t σ H1 fun xs H2 => r x xs H2 Q
theorem pe_bmT {o e : Expr} {es : List Expr} {to : TE} {t : TA} {name : Str} {apos cpos : Pos} {id : String} {r : V → List V → Hp → VK → Prop} (slot : Slot "tuple" name id) (hty : typeOf (.builtin id) = pure (.type "method_descriptor")) (hm : MtR X id r) (ho : PE X o to) (ha : PA X (e :: es) t)
    (hbase : attributeBase o name X.env (eval o X.env) = eval o X.env := by rfl)
    (hfew : ((backTo cpos (starEach (e :: es) X.env)).all (fun x => !x.1) && (backToKw cpos (keywordEach [] X.env)).all (fun x => x.1.isSome) && decide ((e :: es).length + ([] : List Keyword).length + (if ([] : List Keyword).isEmpty then 0 else 1) < 30)) = true := by rfl)
    (hline : (apos.endLine == cpos.line) = true := by rfl) (hs : starEach (e :: es) X.env = (false, eval e X.env) :: starEach es X.env := by rfl) (hplain : (backTo cpos (starEach es X.env)).any (·.1) = false := by rfl) :
    PE X (.Call (.Attribute o name apos) (e :: es) [] cpos) (tBMT r to t) := by
  refine ⟨fun pins s σ H Q I h => wpAny_Call_method_late hbase hfew hline rfl (thn (ho.run pins s σ H _ I h) fun v s1 ⟨x, H1, I1, r1, ⟨p, ob, ys, ex, hd, hp⟩, q1⟩ => ?_)⟩
  subst ex
  cases (show v = Value.ref p from r1)
  obtain ⟨g, z, its, rv, o', g', c', _⟩ := (show ObjOk X.prog X.w H1 s1.heap p (.frz ob (.tup ys)) from I1.hok p _ hp)
  refine ⟨"tuple", id, PySem.F.plainAttrs_tuple, slot, hty, ⟨o', g', c'⟩, fun a e => by cases e; exact ⟨ob, g, hd⟩, ?_⟩
  have hA := ha.run cpos pins s1 σ H1 _ I1 q1
  rw [hs] at hA ⊢
  refine Calls.callWith_builtin (by show (false || (backTo cpos (starEach es X.env)).any (·.1)) = false; rw [hplain] <;> rfl) (Calls.evalArgs_plain (thn hA fun us s2 ⟨vs, H2, I2, r2, q2⟩ => ?_))
  exact hm pins s2 σ H2 (.ref p) vs (.ref p) us Q I2 rfl r2 q2
end
end TR
namespace TR
open PySem PySem.Spec PyProof.Rows L2
section
variable {prog : Program} {w : World} {A : Around} {E : Value → Shared → Prop} {s : Shared}
/-- what a tuple is collected into -/
theorem collect_tup {t : Addr} {vs : List Value} {Q : List Value → Shared → Prop} (ht : IsTup s.heap t vs.toArray) (h : Q vs { s with heap := (s.heap.push (seqObj "list" #[] 0)).update s.heap.objs.size (Obj.mapSeq (· ++ vs.toArray)) }) (hsz : vs.length ≤ sizeLine) : wpAny (model prog w) A (collect (.ref t)) Q E s := by
  obtain ⟨o, ho, hc, n, hd⟩ := id ht
  have ho2 : (s.heap.push (seqObj "list" #[] 0)).get? t = some o := Heap.get?_push_of_some _ ho
  unfold collect; refine wpAny_bind (wpAny_runValue (codeAny_builtin entry_proto_collect' ?_))
  show wpAny _ _ (do again (.builtin "list.__iadd__" ⟨[← newList [], .ref t], []⟩)) _ _ s
  refine wpAny_bind (wpAny_newList (wpAny_pure ⟨Code.quiet_builtin _ (by decide +kernel), codeAny_builtin entry_list_iadd' ?_⟩) (Nat.zero_le _))
  show wpAny _ _ (Builtin.List.listExtendWith (.ref s.heap.objs.size) (.ref t) (.ref s.heap.objs.size)) _ _ { s with heap := s.heap.push (seqObj "list" #[] 0) }
  unfold Builtin.List.listExtendWith; refine wpAny_bind (wpAny_typeOf (T := "tuple") ⟨o, ho2, hc⟩ ?_)
  have hy : (Value.type "tuple" == Value.type "tuple") = true := rfl
  rw [if_pos (by rw [hy]; simp)]; refine wpAny_bind (listItems_at ho2 hd ?_)
  refine wpAny_bind (listItems_at (xs := #[]) (n := 0) (Heap.get?_push_size _ rfl) rfl ?_); rw [if_neg (by simp)]
  refine wpAny_bind (listUpdate_at (xs := #[]) (n := 0) (Heap.get?_push_size _ rfl) rfl (wpAny_pure ?_) (Nat.zero_le _) (by show (#[] ++ vs.toArray).size ≤ sizeLine + 1; simp only [Array.size_append, List.size_toArray, List.length_nil]; omega))
  show wpAny (model prog w) A (load s.heap.objs.size >>= fun ob => match ob.data with | .seq xs _ => pure xs.toList | _ => unsupported "internal:collect") Q E { s with heap := (s.heap.push (seqObj "list" #[] 0)).update s.heap.objs.size (Obj.mapSeq (· ++ vs.toArray)) }
  refine wpAny_bind (wpAny_load (get?_update_seq (Heap.get?_push_size _ rfl) _) ?_)
  show wpAny _ _ (pure ((#[] : Array Value) ++ vs.toArray).toList) Q E _; rw [show ((#[] : Array Value) ++ vs.toArray).toList = vs by simp]; exact wpAny_pure h
/-- sorted of a tuple -/
theorem sorted_tupO {t : Addr} {vs : List Value} {ltv : Value → Value → Bool} {Q : Value → Shared → Prop} (O : SrtO.Swo ltv) (ht : IsTup s.heap t vs.toArray) (hz : vs.length ≤ sizeLine)
    (hS : 2 ≤ vs.length → ∀ (g : Heap) (a : Addr), g.get? a = some (seqObj "list" vs.toArray 0) → (∀ b o, s.heap.get? b = some o → b ≠ a ∧ g.get? b = some o) → SrtO.SortableO prog w A.in1.in1 { s with heap := g } a vs ltv)
    (h : ∀ out : List Value, SrtO.Srtd ltv out → SrtO.Stb ltv out vs → Q (.ref (s.heap.objs.size + 1)) { s with heap := sortedAll s.heap vs out.toArray }) : wpAny (model prog w) A (call (.builtin "sorted") [.ref t]) Q E s := by
  refine Calls.call_function_entry kind_sorted plain_sorted entry_sorted (args_sorted1 _) ?_
  unfold Builtin.«sorted»; refine wpAny_bind (m := checkCount "sorted" 1 1 _) (wpAny_pure (wpAny_bind (collect_tup ht (wpAny_bind (wpAny_newList ?_ hz)) hz)))
  have hn : ((s.heap.push (seqObj "list" #[] 0)).update s.heap.objs.size (Obj.mapSeq (· ++ vs.toArray))).objs.size = s.heap.objs.size + 1 := by rw [Heap.size_update]; simp [Heap.push]
  have hL : (((s.heap.push (seqObj "list" #[] 0)).update s.heap.objs.size (Obj.mapSeq (· ++ vs.toArray))).push (seqObj "list" vs.toArray 0)).get? (s.heap.objs.size + 1) = some (seqObj "list" vs.toArray 0) := hn ▸ Heap.get?_push_size _ rfl
  have kp : ∀ b o, s.heap.get? b = some o → b ≠ s.heap.objs.size + 1 ∧ (((s.heap.push (seqObj "list" #[] 0)).update s.heap.objs.size (Obj.mapSeq (· ++ vs.toArray))).push (seqObj "list" vs.toArray 0)).get? b = some o := fun b o q =>
    ⟨Nat.ne_of_lt (Nat.lt_succ_of_lt (Heap.lt_size q)), Heap.get?_push_of_some _ (by rw [Heap.get?_update_ne _ _ _ _ (Nat.ne_of_lt (Heap.lt_size q))]; exact Heap.get?_push_of_some _ q)⟩
  show wpAny _ _ _ _ _ { s with heap := ((s.heap.push (seqObj "list" #[] 0)).update s.heap.objs.size (Obj.mapSeq (· ++ vs.toArray))).push (seqObj "list" vs.toArray 0) }; rw [hn]
  refine wpAny_bind (wpAny_holding (wpAny_call_entry slot_list_sort ⟨_, hL, rfl⟩ entry_list_sort (SrtO.list_sort_ord O hL hz (fun h2 => hS h2 _ _ hL kp) fun out a b => ⟨_, rfl, wpAny_pure ⟨_, rfl, h out a b⟩⟩) (args_list_sort _)))
end
section
variable {X : Cx}
/-- sorted(t), t a tuple of ints -/
def rSortedTI (K : PySem.W.Frag) : List V → Hp → VK → Prop := fun vs H Q => ∃ (a : Addr) (ns : List Int), vs = [V.ref a] ∧ SqT K H a (ns.map V.int) ∧ ∀ (ms : List Int) (p : Addr), ms.Perm ns → ms.Pairwise (· ≤ ·) → H p = none → Q (.ref p) (upd H p (.lst (ms.map V.int)))
theorem cr_sortedTI : CallR X (.builtin "sorted") (rSortedTI X.K) := by
  intro pins s σ H vs us Q I r ⟨a, ns, ev, hs, q⟩
  subst ev
  obtain ⟨its, rv, ht, hz⟩ := I.tuple hs
  rw [Vals.ref1 r]; have hi := rv.ints
  refine sorted_tupO SrtO.swo_int ht (by rw [← rv.length]; exact hz) (fun h2 g a' _ _ => SrtO.ints_sortable hi h2) fun out h1 h2 => ?_
  obtain ⟨k1, k2, k3⟩ := SrtO.ints_out hi h1 h2; obtain ⟨ep, he⟩ := PyProof.Rows.sortedAll_at s.heap its out.toArray
  have hl : ((out.map SrtO.iv).map V.int).length ≤ sizeLine := by rw [List.length_map, k2.length_eq]; rw [List.length_map] at hz; exact hz
  exact ⟨.ref _, upd H (s.heap.objs.size + 1) (.lst ((out.map SrtO.iv).map V.int)), I.laid (t' := s.toks) (fun _ _ => PyProof.Rows.sortedAll_old) (Nat.le_succ _) ⟨hl, out, ep, vals_of_ints k1, he⟩, rfl, q _ _ k2 k3 (I.hok.fresh (Nat.le_succ _))⟩
end
end TR
namespace TR
open PySem PySem.Spec PyProof.Rows L2
/-! ### values of any kind, as data; ban: where no list of them stands -/
mutual
def Rp (H : Hp) (ban : List Addr) : PyData → V → Prop
  | .none, v => v = .non
  | .bool b, v => v = .bl b
  | .int i, v => v = .int i
  | .str x, v => v = .str x
  | .list ds, v => ∃ a xs, v = .ref a ∧ H a = some (.lst xs) ∧ a ∉ ban ∧ RpAll H ban ds xs
  | .tuple ds, v => ∃ a xs, v = .ref a ∧ Rd H a (.tup xs) ∧ RpAll H ban ds xs
  | .dict kvs, v => kvs = [] ∧ ∃ a, v = .ref a ∧ H a = some (.dK [])
def RpAll (H : Hp) (ban : List Addr) : List PyData → List V → Prop
  | [], xs => xs = []
  | d :: ds, xs => ∃ v r, xs = v :: r ∧ Rp H ban d v ∧ RpAll H ban ds r
end
mutual
theorem Rp.mv {H H' : Hp} {ban : List Addr} (mL : ∀ a xs, a ∉ ban → H a = some (.lst xs) → H' a = some (.lst xs)) (mT : ∀ a xs, Rd H a (.tup xs) → Rd H' a (.tup xs)) (mD : ∀ a, H a = some (.dK []) → H' a = some (.dK [])) : ∀ (d : PyData) (v : V), Rp H ban d v → Rp H' ban d v
  | .none, _, h => h
  | .bool _, _, h => h
  | .int _, _, h => h
  | .str _, _, h => h
  | .list ds, _, h => by
    obtain ⟨a, xs, e, h1, h2, h3⟩ := h
    exact ⟨a, xs, e, mL a xs h2 h1, h2, RpAll.mv mL mT mD ds xs h3⟩
  | .tuple ds, _, h => by
    obtain ⟨a, xs, e, h1, h3⟩ := h
    exact ⟨a, xs, e, mT a xs h1, RpAll.mv mL mT mD ds xs h3⟩
  | .dict kvs, _, h => by
    obtain ⟨e0, a, e, h1⟩ := h
    exact ⟨e0, a, e, mD a h1⟩
theorem RpAll.mv {H H' : Hp} {ban : List Addr} (mL : ∀ a xs, a ∉ ban → H a = some (.lst xs) → H' a = some (.lst xs)) (mT : ∀ a xs, Rd H a (.tup xs) → Rd H' a (.tup xs)) (mD : ∀ a, H a = some (.dK []) → H' a = some (.dK [])) : ∀ (ds : List PyData) (xs : List V), RpAll H ban ds xs → RpAll H' ban ds xs
  | [], _, h => h
  | d :: ds, _, h => by
    obtain ⟨v, r, e, h1, h2⟩ := h
    exact ⟨v, r, e, Rp.mv mL mT mD d v h1, RpAll.mv mL mT mD ds r h2⟩
end
theorem rd_same {H H' : Hp} {a : Addr} {u : HO} (s : Same H H') (h : Rd H a u) : Rd H' a u := by
  rcases h with h | ⟨o, h⟩
  · exact .inl (s _ _ h)
  · exact .inr ⟨o, s _ _ h⟩
theorem Rp.same {H H' : Hp} {ban : List Addr} {d : PyData} {v : V} (h : Rp H ban d v) (s : Same H H') : Rp H' ban d v := Rp.mv (fun a xs _ e => s _ _ e) (fun a xs e => rd_same s e) (fun a e => s _ _ e) d v h
theorem RpAll.same {H H' : Hp} {ban : List Addr} {ds : List PyData} {xs : List V} (h : RpAll H ban ds xs) (s : Same H H') : RpAll H' ban ds xs := RpAll.mv (fun a xs _ e => s _ _ e) (fun a xs e => rd_same s e) (fun a e => s _ _ e) ds xs h
theorem Rp.keep {H H' : Hp} {ban : List Addr} {d : PyData} {v : V} {k p q : Addr} {n : Nat} (h : Rp H ban d v) (D : Deck H k p q n) (s : Keep k p H H') (b1 : k ∈ ban) (b2 : p ∈ ban) : Rp H' ban d v := by
  obtain ⟨x, y, c, e1⟩ := D.hd
  obtain ⟨zs, e2⟩ := D.hp
  refine Rp.mv (fun a xs hn e => s _ _ e (fun z => hn (z ▸ b1)) (fun z => hn (z ▸ b2))) (fun a xs e => ?_) (fun a e => s _ _ e (ne_of e e1 (by intro z; cases z)) (ne_of e e2 (by intro z; cases z))) d v h
  rcases e with e | ⟨o, e⟩
  · exact .inl (s _ _ e (ne_of e e1 (by intro z; cases z)) (ne_of e e2 (by intro z; cases z)))
  · exact .inr ⟨o, s _ _ e (ne_of e e1 (by intro z; cases z)) (ne_of e e2 (by intro z; cases z))⟩
theorem RpAll.len {H : Hp} {ban : List Addr} : ∀ {ds : List PyData} {xs : List V}, RpAll H ban ds xs → xs.length = ds.length
  | [], _, h => by rw [show _ = [] from h]; rfl
  | d :: ds, _, h => by
    obtain ⟨v, r, rfl, _, h2⟩ := h
    rw [List.length_cons, List.length_cons, RpAll.len h2]
theorem RpAll.get {H : Hp} {ban : List Addr} : ∀ {ds : List PyData} {xs : List V}, RpAll H ban ds xs → ∀ {i : Nat} {x : V}, xs[i]? = some x → ∃ d, ds[i]? = some d ∧ Rp H ban d x
  | [], _, h, i, x, e => by rw [show _ = [] from h] at e; simp at e
  | d :: ds, _, h, i, x, e => by
    obtain ⟨v, r, rfl, h1, h2⟩ := h
    cases i with
    | zero =>
      cases (Option.some.inj e)
      exact ⟨d, rfl, h1⟩
    | succ i => exact RpAll.get h2 e
theorem RpAll.app {H : Hp} {ban : List Addr} : ∀ {ds es : List PyData} {xs ys : List V}, RpAll H ban ds xs → RpAll H ban es ys → RpAll H ban (ds ++ es) (xs ++ ys)
  | [], _, _, _, h, g => by rw [show _ = [] from h]; exact g
  | d :: ds, _, _, _, h, g => by
    obtain ⟨v, r, rfl, h1, h2⟩ := h
    exact ⟨v, _, rfl, h1, RpAll.app h2 g⟩
theorem RpAll.take {H : Hp} {ban : List Addr} : ∀ {ds : List PyData} {xs : List V} (k : Nat), RpAll H ban ds xs → RpAll H ban (ds.take k) (xs.take k)
  | _, _, 0, _ => rfl
  | [], _, k + 1, h => by rw [show _ = [] from h]; rfl
  | d :: ds, _, k + 1, h => by
    obtain ⟨v, r, rfl, h1, h2⟩ := h
    exact ⟨v, _, rfl, h1, RpAll.take k h2⟩
theorem RpAll.drop {H : Hp} {ban : List Addr} : ∀ {ds : List PyData} {xs : List V} (k : Nat), RpAll H ban ds xs → RpAll H ban (ds.drop k) (xs.drop k)
  | _, _, 0, h => h
  | [], _, k + 1, h => by rw [show _ = [] from h]; rfl
  | d :: ds, _, k + 1, h => by
    obtain ⟨v, r, rfl, h1, h2⟩ := h
    exact RpAll.drop k h2
theorem RpAll.rev {H : Hp} {ban : List Addr} : ∀ {ds : List PyData} {xs : List V}, RpAll H ban ds xs → RpAll H ban ds.reverse xs.reverse
  | [], _, h => by rw [show _ = [] from h]; rfl
  | d :: ds, _, h => by
    obtain ⟨v, r, rfl, h1, h2⟩ := h
    rw [List.reverse_cons, List.reverse_cons]
    exact RpAll.app (RpAll.rev h2) ⟨v, [], rfl, h1, rfl⟩
theorem RpAll.ints {H : Hp} {ban : List Addr} : ∀ ns : List Int, RpAll H ban (ns.map PyData.int) (ns.map V.int)
  | [] => rfl
  | n :: r => ⟨_, _, rfl, rfl, RpAll.ints r⟩
/-! ### what is small enough to be shown -/
def leafOk (L : Nat) : PyData → Prop
  | .none => True
  | .bool _ => True
  | .int i => i.natAbs ≤ 10 ^ 59 + L
  | .str x => x.length ≤ 69 ∧ ∀ c ∈ x.cps.toList, c < 16 ^ 8
  | _ => False
def Wf (L : Nat) : Nat → PyData → Prop
  | 0, d => leafOk L d
  | D + 1, d => leafOk L d ∨ d = .dict [] ∨ ∃ ds, (d = .list ds ∨ d = .tuple ds) ∧ ds.length ≤ L ∧ ∀ e ∈ ds, Wf L D e
theorem leafOk.mono {L L' : Nat} (h : L ≤ L') : ∀ {d : PyData}, leafOk L d → leafOk L' d
  | .none, _ => trivial
  | .bool _, _ => trivial
  | .int i, g => Nat.le_trans g (Nat.add_le_add_left h _)
  | .str _, g => g
theorem Wf.mono {L L' : Nat} (h : L ≤ L') : ∀ {D D' : Nat} {d : PyData}, D ≤ D' → Wf L D d → Wf L' D' d
  | 0, 0, _, _, g => leafOk.mono h g
  | 0, _ + 1, _, _, g => .inl (leafOk.mono h g)
  | _ + 1, 0, _, k, _ => absurd k (by omega)
  | D + 1, D' + 1, _, k, g => by
    rcases g with g | g | ⟨ds, e, l, c⟩
    · exact .inl (leafOk.mono h g)
    · exact .inr (.inl g)
    · exact .inr (.inr ⟨ds, e, Nat.le_trans l h, fun x hx => Wf.mono h (by omega) (c x hx)⟩)
def bnd : Nat → Nat
  | 0 => 700
  | D + 1 => 3 + 11 * (bnd D + 2)
theorem bnd_ge : ∀ D, 700 ≤ bnd D
  | 0 => Nat.le_refl _
  | D + 1 => by
    have := bnd_ge D
    show 700 ≤ 3 + 11 * (bnd D + 2)
    omega
theorem small_int {L : Nat} (h : L ≤ 30) {i : Int} (g : i.natAbs ≤ 10 ^ 59 + L) : i.natAbs < 10 ^ 60 := by
  have e : (10 : Nat) ^ 60 = 10 * 10 ^ 59 := by decide
  have e2 : (30 : Nat) < 10 ^ 59 := by decide
  omega
theorem small_log {i : Int} (g : i.natAbs < 10 ^ 60) : i.natAbs.log2 < 1920 := by
  by_cases h : i.natAbs = 0
  · rw [h]; decide
  · refine (Nat.log2_lt h).mpr (Nat.lt_trans g (by decide +kernel))
theorem leaf_shown {L : Nat} (h : L ≤ 30) : ∀ {d : PyData}, leafOk L d → d.shown.length ≤ 700 ∧ d.showable = true ∧ d.depth = 0
  | .none, _ => ⟨by decide +kernel, rfl, rfl⟩
  | .bool b, _ => ⟨by cases b <;> decide +kernel, rfl, rfl⟩
  | .int i, g => by
    have g2 := small_int h g
    refine ⟨?_, decide_eq_true (small_log g2), rfl⟩
    show (Str.ofString (toString i)).length ≤ 700
    have := int_text_length_le10 (k := 60) (by decide) g2
    rw [PySem.ofString_length]
    omega
  | .str x, g => by
    refine ⟨?_, rfl, rfl⟩
    show (reprText x).length ≤ 700
    have := StrLaws.reprText_len x g.2
    have := g.1
    omega
theorem piled_le {B : Nat} : ∀ ts : List Str, (∀ t ∈ ts, t.length ≤ B) → piled ts ≤ ts.length * (B + 2)
  | [], _ => Nat.zero_le _
  | t :: r, h => by
    have := piled_le r fun x hx => h x (List.mem_cons_of_mem _ hx)
    have := h t (List.mem_cons_self ..)
    rw [piled_cons, List.length_cons, Nat.succ_mul]
    omega
theorem text_le : ∀ (ts : List Str) (k : Nat) (acc : Str), (textFrom k acc ts).length ≤ acc.length + piled ts
  | [], _, _ => Nat.le_refl _
  | t :: r, k, acc => by
    have := text_le r (k + 1) (acc ++ (if k > 0 then ", " else "" : String) ++ t)
    rw [Str.length_append, Str.length_append] at this
    have e : ((if k > 0 then ", " else "" : String) : Str).length ≤ 2 := by
      split <;> decide +kernel
    rw [piled_cons]
    show (textFrom (k + 1) (acc ++ (if k > 0 then ", " else "" : String) ++ t) r).length ≤ _
    omega
theorem list_le (ts : List Str) : (listText ts).length ≤ 2 + piled ts := by
  have := text_le ts 0 "["
  unfold listText
  rw [Str.length_append]
  have e1 : ("[" : Str).length = 1 := by decide +kernel
  have e2 : ("]" : Str).length = 1 := by decide +kernel
  omega
theorem tup_le (ts : List Str) : (tupleText ts).length ≤ 3 + piled ts := by
  unfold tupleText
  rw [Str.length_append, Str.length_append]
  have e1 : ("(" : Str).length = 1 := by decide +kernel
  have e2 : ((if (ts.length == 1) = true then ",)" else ")" : String) : Str).length ≤ 2 := by
    split <;> decide +kernel
  have e3 : (Str.join ", " ts).length ≤ piled ts := by
    cases ts with
    | nil => decide +kernel
    | cons t r =>
      have := join_length_add (t :: r) (by simp)
      omega
  omega
theorem shownAll_len : ∀ ds : List PyData, (PyData.shownAll ds).length = ds.length
  | [] => rfl
  | d :: r => by
    show (PyData.shownAll r).length + 1 = r.length + 1
    rw [shownAll_len r]
theorem shownAll_mem : ∀ (ds : List PyData) (t : Str), t ∈ PyData.shownAll ds → ∃ d ∈ ds, t = d.shown
  | [], _, h => by cases h
  | d :: r, t, h => by
    rcases List.mem_cons.mp h with e | h
    · exact ⟨d, List.mem_cons_self .., e⟩
    · obtain ⟨x, hx, e⟩ := shownAll_mem r t h
      exact ⟨x, List.mem_cons_of_mem _ hx, e⟩
theorem showAll : ∀ ds : List PyData, (∀ d ∈ ds, d.showable = true) → PyData.showableAll ds = true
  | [], _ => rfl
  | d :: r, h => by
    show (d.showable && PyData.showableAll r) = true
    rw [h d (List.mem_cons_self ..), showAll r fun x hx => h x (List.mem_cons_of_mem _ hx)]
    rfl
theorem depAll {D : Nat} : ∀ ds : List PyData, (∀ d ∈ ds, d.depth ≤ D) → PyData.depthAll ds ≤ D
  | [], _ => Nat.zero_le _
  | d :: r, h => by
    show max d.depth (PyData.depthAll r) ≤ D
    exact Nat.max_le.mpr ⟨h d (List.mem_cons_self ..), depAll r fun x hx => h x (List.mem_cons_of_mem _ hx)⟩
theorem Wf.shown {L : Nat} (h : L ≤ 11) : ∀ {D : Nat} {d : PyData}, Wf L D d → d.shown.length ≤ bnd D ∧ d.showable = true ∧ d.depth ≤ D
  | 0, _, g => by
    obtain ⟨a, b, c⟩ := leaf_shown (by omega) g
    exact ⟨a, b, by omega⟩
  | D + 1, d, g => by
    have hb : 700 ≤ bnd (D + 1) := bnd_ge (D + 1)
    rcases g with g | rfl | ⟨ds, e, l, c⟩
    · obtain ⟨a, b, c⟩ := leaf_shown (by omega) g
      exact ⟨Nat.le_trans a hb, b, by omega⟩
    · exact ⟨Nat.le_trans (by decide +kernel) hb, rfl, by show 0 + 1 ≤ D + 1; omega⟩
    · have ih := fun x hx => Wf.shown h (c x hx)
      have p1 : piled (PyData.shownAll ds) ≤ 11 * (bnd D + 2) := by
        refine Nat.le_trans (piled_le (B := bnd D) _ fun t ht => ?_) ?_
        · obtain ⟨x, hx, rfl⟩ := shownAll_mem ds t ht
          exact (ih x hx).1
        · rw [shownAll_len]
          exact Nat.mul_le_mul_right _ (by omega)
      have p2 := showAll ds fun x hx => (ih x hx).2.1
      have p3 := depAll ds fun x hx => (ih x hx).2.2
      rcases e with rfl | rfl
      · refine ⟨?_, p2, ?_⟩
        · show (listText (PyData.shownAll ds)).length ≤ 3 + 11 * (bnd D + 2)
          have := list_le (PyData.shownAll ds)
          omega
        · show PyData.depthAll ds + 1 ≤ D + 1
          omega
      · refine ⟨?_, p2, ?_⟩
        · show (tupleText (PyData.shownAll ds)).length ≤ 3 + 11 * (bnd D + 2)
          have := tup_le (PyData.shownAll ds)
          omega
        · show PyData.depthAll ds + 1 ≤ D + 1
          omega
theorem bnd_small {D : Nat} (h : D ≤ 4) : bnd D ≤ sizeLine := by
  have e : bnd 4 ≤ sizeLine := by decide +kernel
  have m : ∀ a b, a ≤ b → bnd a ≤ bnd b := by
    intro a b hab
    induction hab with
    | refl => exact Nat.le_refl _
    | step _ ih =>
      refine Nat.le_trans ih ?_
      show bnd _ ≤ 3 + 11 * (bnd _ + 2)
      omega
  exact Nat.le_trans (m D 4 h) e
/-! ### how many parts, and how long shown -/
mutual
def sz : PyData → Nat
  | .none => 1
  | .bool _ => 1
  | .int _ => 1
  | .str _ => 1
  | .list ds => 1 + szAll ds
  | .tuple ds => 1 + szAll ds
  | .dict _ => 1
def szAll : List PyData → Nat
  | [] => 0
  | d :: r => sz d + szAll r
end
theorem szAll_app : ∀ ds es : List PyData, szAll (ds ++ es) = szAll ds + szAll es
  | [], es => by show szAll es = 0 + szAll es; omega
  | d :: r, es => by
    show sz d + szAll (r ++ es) = sz d + szAll r + szAll es
    rw [szAll_app r es]
    omega
theorem szAll_take (ds : List PyData) (k : Nat) : szAll (ds.take k) + szAll (ds.drop k) = szAll ds := by
  rw [← szAll_app, List.take_append_drop]
theorem szAll_cut (ds : List PyData) (a b : Nat) : szAll ((ds.drop a).take b) ≤ szAll ds := by
  have h1 := szAll_take ds a
  have h2 := szAll_take (ds.drop a) b
  omega
theorem szAll_rev : ∀ ds : List PyData, szAll ds.reverse = szAll ds
  | [] => rfl
  | d :: r => by
    rw [List.reverse_cons, szAll_app, szAll_rev r]
    show szAll r + (sz d + 0) = sz d + szAll r
    omega
theorem szAll_mem : ∀ {ds : List PyData} {d : PyData}, d ∈ ds → sz d ≤ szAll ds
  | e :: r, d, h => by
    show sz d ≤ sz e + szAll r
    rcases List.mem_cons.mp h with rfl | h
    · omega
    · have := szAll_mem h
      omega
theorem szAll_ints : ∀ ns : List Int, szAll (ns.map PyData.int) = ns.length
  | [] => rfl
  | n :: r => by
    show 1 + szAll (r.map PyData.int) = r.length + 1
    rw [szAll_ints r]
    omega
theorem szAll_le {B : Nat} : ∀ ds : List PyData, (∀ d ∈ ds, sz d ≤ B) → szAll ds ≤ ds.length * B
  | [], _ => Nat.zero_le _
  | d :: r, h => by
    have h1 := h d (List.mem_cons_self ..)
    have h2 := szAll_le r fun x hx => h x (List.mem_cons_of_mem _ hx)
    show sz d + szAll r ≤ (r.length + 1) * B
    rw [Nat.succ_mul]
    omega
def zb (L : Nat) : Nat → Nat
  | 0 => 1
  | D + 1 => 1 + L * zb L D
theorem leaf_sz {L : Nat} : ∀ {d : PyData}, leafOk L d → sz d = 1
  | .none, _ => rfl
  | .bool _, _ => rfl
  | .int _, _ => rfl
  | .str _, _ => rfl
theorem Wf.sz {L : Nat} : ∀ {D : Nat} {d : PyData}, Wf L D d → sz d ≤ zb L D
  | 0, _, g => Nat.le_of_eq (leaf_sz g)
  | D + 1, d, g => by
    have h1 : 1 ≤ zb L (D + 1) := by show 1 ≤ 1 + L * zb L D; omega
    rcases g with g | rfl | ⟨ds, e, l, c⟩
    · rw [leaf_sz g]; exact h1
    · exact h1
    · have h2 := szAll_le ds fun x hx => Wf.sz (c x hx)
      have h3 : ds.length * zb L D ≤ L * zb L D := Nat.mul_le_mul_right _ l
      rcases e with rfl | rfl
      · show 1 + szAll ds ≤ 1 + L * zb L D
        omega
      · show 1 + szAll ds ≤ 1 + L * zb L D
        omega
theorem piled_sz : ∀ ds : List PyData, (∀ d ∈ ds, d.shown.length + 5 ≤ 710 * TR.sz d) → piled (PyData.shownAll ds) ≤ 710 * szAll ds
  | [], _ => Nat.zero_le _
  | d :: r, h => by
    have h1 := h d (List.mem_cons_self ..)
    have h2 := piled_sz r fun x hx => h x (List.mem_cons_of_mem _ hx)
    show piled (d.shown :: PyData.shownAll r) ≤ 710 * (TR.sz d + szAll r)
    rw [piled_cons]
    omega
theorem Wf.shownS {L : Nat} (h : L ≤ 30) : ∀ {D : Nat} {d : PyData}, Wf L D d → d.shown.length + 5 ≤ 710 * TR.sz d ∧ d.showable = true ∧ d.depth ≤ D
  | 0, _, g => by
    obtain ⟨a, b, c⟩ := leaf_shown h g
    rw [leaf_sz g]
    exact ⟨by omega, b, by omega⟩
  | D + 1, d, g => by
    rcases g with g | rfl | ⟨ds, e, l, c⟩
    · obtain ⟨a, b, c⟩ := leaf_shown h g
      rw [leaf_sz g]
      exact ⟨by omega, b, by omega⟩
    · exact ⟨(by decide +kernel : _ + 5 ≤ 710 * 1), rfl, by show 0 + 1 ≤ D + 1; omega⟩
    · have ih := fun x hx => Wf.shownS h (c x hx)
      have p1 := piled_sz ds fun x hx => (ih x hx).1
      have p2 := showAll ds fun x hx => (ih x hx).2.1
      have p3 := depAll ds fun x hx => (ih x hx).2.2
      rcases e with rfl | rfl
      · refine ⟨?_, p2, ?_⟩
        · show (listText (PyData.shownAll ds)).length + 5 ≤ 710 * (1 + szAll ds)
          have := list_le (PyData.shownAll ds)
          omega
        · show PyData.depthAll ds + 1 ≤ D + 1
          omega
      · refine ⟨?_, p2, ?_⟩
        · show (tupleText (PyData.shownAll ds)).length + 5 ≤ 710 * (1 + szAll ds)
          have := tup_le (PyData.shownAll ds)
          omega
        · show PyData.depthAll ds + 1 ≤ D + 1
          omega
theorem shown_fits {d : PyData} {S : Nat} (h : d.shown.length + 5 ≤ 710 * TR.sz d) (g : TR.sz d ≤ S) (k : S ≤ 20000) : d.shown.length ≤ sizeLine := by
  rw [sizeLine_eq]
  omega
end TR
namespace TR
open PySem PySem.Spec PyProof.Rows L2
section
variable {X : Cx} {pins : List (Addr × Obj)} {σ : L2.St} {H : Hp} {s : Shared}
mutual
theorem Rp.reads {ban : List Addr} (hb : sysModules ∈ ban) (I : Inv X pins σ H s) : ∀ (d : PyData) (v : V) (u : Value), Rp H ban d v → RelV v u → ∃ as, Reads s.heap u d as ∧ sysModules ∉ as
  | .none, _, _, h, r => by cases (show _ = V.non from h); cases r; exact ⟨_, .none, by simp⟩
  | .bool b, _, _, h, r => by cases (show _ = V.bl b from h); cases r; exact ⟨_, .bool b, by simp⟩
  | .int i, _, _, h, r => by cases (show _ = V.int i from h); obtain ⟨t, rfl⟩ := r; exact ⟨_, .int i t, by simp⟩
  | .str x, _, _, h, r => by cases (show _ = V.str x from h); obtain ⟨t, rfl⟩ := r; exact ⟨_, .str x t, by simp⟩
  | .list ds, _, _, h, r => by
    obtain ⟨a, xs, rfl, h1, h2, h3⟩ := h
    cases r
    obtain ⟨z, its, n, rv, e⟩ := (show ObjOk X.prog X.w H s.heap a (.lst xs) from I.hok a _ h1)
    obtain ⟨as, g, m⟩ := RpAll.reads hb I ds xs its h3 rv
    exact ⟨a :: as, .list e rfl rfl (by simpa using g), by simp only [List.mem_cons, not_or]; exact ⟨fun e => h2 (e ▸ hb), m⟩⟩
  | .tuple ds, _, _, h, r => by
    obtain ⟨a, xs, rfl, h1, h3⟩ := h
    cases r
    obtain ⟨z, its, rv, o, e, c, n, hd⟩ := h1.ok I.hok
    obtain ⟨as, g, m⟩ := RpAll.reads hb I ds xs its h3 rv
    exact ⟨as, .tuple e c hd (by simpa using g), m⟩
  | .dict kvs, _, _, h, r => by
    obtain ⟨rfl, a, rfl, h1⟩ := h
    cases r
    obtain ⟨z, hs, vs, kv, o, es, ep, e, ex, hd, _, ps, _⟩ := dk_of I.hok h1
    cases kv
    have hes : es = #[] := by
      cases es with
      | mk l =>
        cases (show Pairs _ l [] from ps)
        rfl
    subst hes
    refine ⟨[a], .dict (as := []) (bs := []) e ex.1 hd .nil .nil, fun m => ?_⟩
    have e2 : sysModules = a := List.mem_singleton.mp m
    rw [e2] at hs
    exact absurd hs (by simp)
theorem RpAll.reads {ban : List Addr} (hb : sysModules ∈ ban) (I : Inv X pins σ H s) : ∀ (ds : List PyData) (xs : List V) (us : List Value), RpAll H ban ds xs → Vals xs us → ∃ as, ReadsAll s.heap us ds as ∧ sysModules ∉ as
  | [], _, _, h, r => by cases (show _ = [] from h); cases r; exact ⟨_, .nil, by simp⟩
  | d :: ds, _, _, h, r => by
    obtain ⟨v, t, rfl, h1, h2⟩ := h
    cases r with
    | cons r1 r2 =>
      obtain ⟨as, q1, m1⟩ := Rp.reads hb I d _ _ h1 r1
      obtain ⟨bs, q2, m2⟩ := RpAll.reads hb I ds _ _ h2 r2
      exact ⟨as ++ bs, .cons q1 q2, by simp only [List.mem_append, not_or]; exact ⟨m1, m2⟩⟩
end
end
section
variable {X : Cx}
/-- repr(x), x of any kind -/
theorem call_reprD (hg : X.A.guards = some []) (hu : X.A.units + 64 < cLine) : CallR X (.builtin "repr") (fun xs H Q => ∃ x d ban, xs = [x] ∧ sysModules ∈ ban ∧ Rp H ban d x ∧ d.showable = true ∧ d.depth ≤ 50 ∧ d.shown.length ≤ sizeLine ∧ Q (.str d.shown) H) := by
  intro pins s σ H xs us Q I r ⟨x, d, ban, ex, hb, hp, hs, hd, hz, q⟩
  subst ex
  obtain ⟨u, rfl, rx⟩ := vals1 r
  obtain ⟨as, rd, m⟩ := Rp.reads hb I d x u hp rx
  have fin : ∀ (h' : Heap) (t : Tok) (tk : Nat), (∀ b o, s.heap.get? b = some o → h'.get? b = some o) → EP X pins σ Q (.str d.shown t) { s with heap := h', toks := tk } := fun h' t tk kp => ⟨.str d.shown, H, I.kept (t' := tk) kp, ⟨t, rfl⟩, q⟩
  have here : ∀ (t : Tok) (tk : Nat), EP X pins σ Q (.str d.shown t) { s with toks := tk } := fun t tk => fin s.heap t tk fun _ _ e => e
  cases rd with
  | none => exact PySem.P.repr_of_none (here _ _)
  | bool b => exact PySem.P.repr_of_bool (here _ _)
  | int i t => exact PySem.P.repr_of_int (of_decide_eq_true hs) (here _ _)
  | str z t => exact PySem.P.repr_of_str (here _ _) hz
  | list h1 h2 h3 h4 => exact repr_of_reads' (.list h1 h2 h3 h4) hs (fun _ => m) hg (by omega) (fun _ _ e => e) (fun h' u tk kp => fin h' u tk kp) hz
  | tuple h1 h2 h3 h4 => exact repr_of_reads' (.tuple h1 h2 h3 h4) hs (fun _ => m) hg (by omega) (fun _ _ e => e) (fun h' u tk kp => fin h' u tk kp) hz
  | dict h1 h2 h3 h4 h5 => exact repr_of_reads' (.dict h1 h2 h3 h4 h5) hs (fun _ => m) hg (by omega) (fun _ _ e => e) (fun h' u tk kp => fin h' u tk kp) hz
/-- xs == [] -/
theorem op_eqL0 (hu : X.A.units < cLine) : OpR X (compareOp .Eq) (fun x y H Q => ∃ a b xs, x = .ref a ∧ y = .ref b ∧ SqL X.K H a xs ∧ SqL X.K H b [] ∧ Q (.bl xs.isEmpty) H) := by
  intro pins s σ H x y v u Q I rx ry ⟨a, b, xs, ex, ey, ha, hb, q⟩
  subst ex ey; cases rx; cases ry
  obtain ⟨its, r1, p1, _⟩ := I.list ha
  obtain ⟨its2, r2, p2, _⟩ := I.list hb
  cases r2
  cases r1 with
  | nil => exact SeqAt.RcAt.lists (e := fun _ => true) p1.isList p2.isList rfl hu (fun j j1 _ => absurd j1 (by simp)) _ _ _ _ ⟨.bl true, H, I, rfl, q⟩
  | cons _ _ => exact SeqAt.RcAt.lists_lengths p1.isList p2.isList (by simp) hu _ _ _ _ ⟨.bl false, H, I, rfl, q⟩
/-- t != () -/
theorem op_neT0 (hu : X.A.units < cLine) : OpR X (compareOp .NotEq) (fun x y H Q => ∃ a b xs, x = .ref a ∧ y = .ref b ∧ SqT X.K H a xs ∧ SqT X.K H b [] ∧ Q (.bl (!xs.isEmpty)) H) := by
  intro pins s σ H x y v u Q I rx ry ⟨a, b, xs, ex, ey, ha, hb, q⟩
  subst ex ey; cases rx; cases ry
  obtain ⟨its, r1, p1, _⟩ := I.tuple ha
  obtain ⟨its2, r2, p2, _⟩ := I.tuple hb
  cases r2
  have h := SeqAt.RcNeAt.tuples (A := X.A) (s := s) (e := fun _ => true) p1 p2 hu (fun j _ j2 => absurd j2 (by simp))
  cases r1 with
  | nil => exact h _ _ _ _ ⟨.bl false, H, I, rfl, q⟩
  | cons _ _ => exact h _ _ _ _ ⟨.bl true, H, I, rfl, q⟩
/-- b + i, b - i, b a bool -/
theorem op_add_bi : OpR X (binaryOp .Add) (fun x y H Q => ∃ k i, x = .bl k ∧ y = .int i ∧ Q (.int ((if k = true then (1 : Int) else 0) + i)) H) := by
  intro pins s σ H x y v u Q I rx ry ⟨k, i, ex, ey, q⟩
  subst ex ey; cases rx; obtain ⟨t, rfl⟩ := ry
  exact PySem.IntBool.add_bool_int ⟨.int _, H, I.tok _, ⟨_, rfl⟩, q⟩
theorem op_sub_bi : OpR X (binaryOp .Sub) (fun x y H Q => ∃ k i, x = .bl k ∧ y = .int i ∧ Q (.int ((if k = true then (1 : Int) else 0) - i)) H) := by
  intro pins s σ H x y v u Q I rx ry ⟨k, i, ex, ey, q⟩
  subst ex ey; cases rx; obtain ⟨t, rfl⟩ := ry
  exact PySem.IntBool.sub_bool_int ⟨.int _, H, I.tok _, ⟨_, rfl⟩, q⟩
/-- two rules for one operator: by what stands there -/
theorem OpR.either {f : Value → Value → Sem Value} {r1 r2 : R2} (h1 : OpR X f r1) (h2 : OpR X f r2) : OpR X f (fun x y H Q => r1 x y H Q ∨ r2 x y H Q) := by
  intro pins s σ H x y v u Q I rx ry h
  rcases h with h | h
  · exact h1 pins s σ H x y v u Q I rx ry h
  · exact h2 pins s σ H x y v u Q I rx ry h
/-- str(i), str(b) -/
theorem call_str_ib : CallR X (.type "str") (fun xs H Q => (∃ i, xs = [.int i] ∧ i.natAbs.log2 < 1920 ∧ Q (.str (toString i)) H) ∨ ∃ k : Bool, xs = [.bl k] ∧ Q (.str (if k then "True" else "False")) H) := by
  intro pins s σ H xs us Q I r h
  rcases h with h | ⟨k, ex, q⟩
  · exact call_str_int pins s σ H xs us Q I r h
  · subst ex
    obtain ⟨u, rfl, rx⟩ := vals1 r
    cases rx
    exact PySem.P.str_of_bool ⟨.str _, H, I.tok _, ⟨_, rfl⟩, q⟩
/-- [..]: a new list never stands where the modules' table stands -/
def tLstM (t : TA) : TE := fun σ H Q => t σ H fun xs H1 => xs.length ≤ sizeLine ∧ ∀ p, H1 p = none → p ≠ sysModules → Q (.ref p) (upd H1 p (.lst xs))
theorem pe_lstM {es : List Expr} {t : TA} {pos : Pos} (h : PA X es t) : PE X (.List es pos) (tLstM t) := by
  refine ⟨fun pins s σ H Q I hq => wpAny_List_spliced (thn (h.run pos pins s σ H _ I hq) fun us s1 ⟨xs, H1, I1, r, z, q⟩ => ⟨by rw [← r.length]; exact z, ?_⟩)⟩
  exact ⟨.ref s1.heap.objs.size, _, I1.laid (t' := s1.toks) (o := .lst xs) (fun b u e => Heap.get?_push_of_some _ e) (Nat.le_refl _) ⟨z, us, 0, r, Heap.get?_push_size _ rfl⟩, rfl, q _ (I1.hok.fresh (Nat.le_refl _)) (Nat.ne_of_gt I1.big)⟩
/-- list(t), t a tuple -/
theorem call_listM : CallR X (.type "list") (fun xs H Q => ∃ p ys, xs = [.ref p] ∧ SqT X.K H p ys ∧ ∀ l, H l = none → l ≠ sysModules → Q (.ref l) (upd H l (.lst ys))) := by
  intro pins s σ H xs us Q I r ⟨p, ys, ex, hq, q⟩
  subst ex
  obtain ⟨u, rfl, rx⟩ := vals1 r
  cases rx
  obtain ⟨its, r', pl, hz⟩ := I.tuple hq
  have hlen := r'.length
  obtain ⟨o, ho, hc, n, hd⟩ := pl
  refine call_list_seq p (.inr rfl) ho hc hd (fun h' c' kp e => ?_) (by simp only [List.size_toArray] <;> omega)
  exact ⟨.ref s.heap.objs.size, _, I.laid (t' := s.toks) (o := .lst ys) kp (Nat.le_refl _) ⟨hz, its, c', r', e⟩, rfl, q _ (I.hok.fresh (Nat.le_refl _)) (Nat.ne_of_gt I.big)⟩
end
/-! ### the type of a value -/
def tyD : PyData → String
  | .none => "NoneType"
  | .bool _ => "bool"
  | .int _ => "int"
  | .str _ => "str"
  | .list _ => "list"
  | .tuple _ => "tuple"
  | .dict _ => "dict"
theorem tyRp {K : PySem.W.Frag} {H : Hp} {ban : List Addr} : ∀ {d : PyData} {v : V}, Rp H ban d v → TyX K H v (.type (tyD d))
  | .none, _, h => by rw [show _ = V.non from h]; exact .base .non
  | .bool b, _, h => by rw [show _ = V.bl b from h]; exact .base (.bl b)
  | .int i, _, h => by rw [show _ = V.int i from h]; exact .base (.int i)
  | .str x, _, h => by rw [show _ = V.str x from h]; exact .base (.str x)
  | .list ds, _, h => by
    obtain ⟨a, xs, rfl, h1, _⟩ := h
    exact .base (.lst h1)
  | .tuple ds, _, h => by
    obtain ⟨a, xs, rfl, h1, _⟩ := h
    rcases h1 with h1 | ⟨o, h1⟩
    · exact .base (.tup h1)
    · exact .fTuple h1
  | .dict kvs, _, h => by
    obtain ⟨_, a, rfl, h1⟩ := h
    exact .base (.dK h1)
theorem kit7 : ∀ t ∈ ["NoneType", "bool", "int", "str", "list", "tuple", "dict"], kitB t "tuple" = some (decide (t = "tuple")) ∧ kitB t "int" = some (decide (t = "int" ∨ t = "bool")) ∧ kitB t "bool" = some (decide (t = "bool")) := by decide +kernel
theorem tyD_mem (d : PyData) : tyD d ∈ ["NoneType", "bool", "int", "str", "list", "tuple", "dict"] := by cases d <;> simp [tyD]
theorem kitD {K : PySem.W.Frag} (d : PyData) : PySem.W.kitOne K (.type (tyD d)) (.type "tuple") = some (decide (tyD d = "tuple")) ∧ PySem.W.kitOne K (.type (tyD d)) (.type "int") = some (decide (tyD d = "int" ∨ tyD d = "bool")) ∧ PySem.W.kitOne K (.type (tyD d)) (.type "bool") = some (decide (tyD d = "bool")) := by
  obtain ⟨a, b, c⟩ := kit7 (tyD d) (tyD_mem d)
  exact ⟨kit_ty a, kit_ty b, kit_ty c⟩
end TR
namespace TR
open PySem PySem.Spec PyProof.Rows L2
/-! ### what a ranking is, of data -/
def whole (d : PyData) : Bool := decide (tyD d = "int")
theorem whole_int {d : PyData} (h : whole d = true) : ∃ i, d = .int i := by
  cases d <;> first | exact ⟨_, rfl⟩ | (exfalso; simp [whole, tyD] at h)
theorem whole_ty (d : PyData) : (if decide (tyD d = "int" ∨ tyD d = "bool") = true then !decide (tyD d = "bool") else false) = whole d := by
  cases d <;> first | rfl | simp [whole, tyD]
theorem ff_iff {p : Prop} (h : ¬ p) : (false = true) ↔ p := ⟨fun z => Bool.noConfusion z, fun z => absurd z h⟩
def IsRk (n : Nat) (d : PyData) : Prop := ∃ ns : List Int, d = .tuple (ns.map PyData.int) ∧ Rank n ns
theorem whole_all : ∀ ds : List PyData, ds.all whole = true → ∃ ns : List Int, ds = ns.map PyData.int
  | [], _ => ⟨[], rfl⟩
  | d :: r, h => by
    rw [List.all_cons, Bool.and_eq_true] at h
    obtain ⟨i, rfl⟩ := whole_int h.1
    obtain ⟨ns, rfl⟩ := whole_all r h.2
    exact ⟨i :: ns, rfl⟩
theorem ints_whole : ∀ ns : List Int, (ns.map PyData.int).all whole = true
  | [] => rfl
  | n :: r => by
    rw [List.map_cons, List.all_cons, ints_whole r]
    rfl
theorem ints_inj : ∀ {ns ms : List Int}, ns.map PyData.int = ms.map PyData.int → ns = ms
  | [], [], _ => rfl
  | [], _ :: _, h => by cases h
  | _ :: _, [], h => by cases h
  | x :: r, y :: t, h => by
    rw [List.map_cons, List.map_cons] at h
    injection h with h1 h2
    injection h1 with h1
    rw [h1, ints_inj h2]
theorem rng_le : ∀ n : Nat, (rng n).Pairwise (· ≤ ·) := fun n => by
  unfold rng
  rw [List.pairwise_map]
  exact (List.pairwise_lt_range (n := n)).imp (by intro a b h; omega)
theorem sorted_rank {n : Nat} {ns ms : List Int} (hp : ms.Perm ns) (hs : ms.Pairwise (· ≤ ·)) : ms = rng n ↔ Rank n ns := by
  constructor
  · rintro rfl
    exact List.Perm.symm hp
  · intro h
    exact List.Perm.eq_of_pairwise (le := (· ≤ ·)) (fun a b _ _ h1 h2 => Int.le_antisymm h1 h2) hs (rng_le n) (List.Perm.trans hp h)
theorem not_isRk_ty {n : Nat} {d : PyData} (h : tyD d ≠ "tuple") : ¬ IsRk n d := by
  rintro ⟨ns, rfl, _⟩
  exact h rfl
theorem not_isRk_whole {n : Nat} {ds : List PyData} (h : ds.all whole = false) : ¬ IsRk n (.tuple ds) := by
  rintro ⟨ns, e, _⟩
  injection e with e
  rw [e, ints_whole] at h
  cases h
theorem isRk_tuple {n : Nat} {ns : List Int} : IsRk n (.tuple (ns.map PyData.int)) ↔ Rank n ns := by
  constructor
  · rintro ⟨ms, e, r⟩
    injection e with e
    rw [ints_inj e]
    exact r
  · exact fun r => ⟨ns, rfl, r⟩
theorem ty_tuple {d : PyData} (h : tyD d = "tuple") : ∃ ds, d = .tuple ds := by
  cases d <;> first | exact ⟨_, rfl⟩ | (exfalso; simp [tyD] at h)
theorem RpAll.int_vals {H : Hp} {ban : List Addr} : ∀ {ns : List Int} {xs : List V}, RpAll H ban (ns.map PyData.int) xs → xs = ns.map V.int
  | [], _, h => h
  | n :: r, _, h => by
    obtain ⟨v, t, rfl, h1, h2⟩ := h
    rw [show v = V.int n from h1, RpAll.int_vals h2]
    rfl
theorem eqvAll_intsX : ∀ xs ys : List Int, PyData.eqvAll (xs.map PyData.int) (ys.map PyData.int) = decide (xs = ys)
  | [], [] => rfl
  | [], _ :: _ => rfl
  | _ :: _, [] => rfl
  | x :: r, y :: t => by
    show ((x == y) && PyData.eqvAll (r.map PyData.int) (t.map PyData.int)) = decide (x :: r = y :: t)
    rw [eqvAll_intsX r t, Bool.eq_iff_iff]
    simp
theorem eqv_lstX (xs ys : List Int) : PyData.eqv (.list (xs.map PyData.int)) (.list (ys.map PyData.int)) = decide (xs = ys) := eqvAll_intsX xs ys
end TR
namespace TR
open PySem PySem.Spec PyProof.Rows L2
section
variable {X : Cx}
/-! ### new objects, told by what holds behind them -/
def tTupN (t : TA) : TE := fun σ H Q => t σ H fun xs H1 => xs.length ≤ sizeLine ∧ ∀ p H', H1 p = none → Same H1 H' → H' p = some (.tup xs) → Q (.ref p) H'
theorem pe_tupN {es : List Expr} {t : TA} {pos : Pos} {x1} (h : PA X es t) : PE X (.Tuple es x1 pos) (tTupN t) := by
  refine ⟨fun pins s σ H Q I hq => wpAny_Tuple_spliced (thn (h.run pos pins s σ H _ I hq) fun us s1 ⟨xs, H1, I1, r, z, q⟩ => ⟨by rw [← r.length]; exact z, ?_⟩)⟩
  have hf : H1 s1.heap.objs.size = none := I1.hok.fresh (Nat.le_refl _)
  exact ⟨.ref s1.heap.objs.size, _, I1.laid (t' := s1.toks) (o := .tup xs) (fun b u e => Heap.get?_push_of_some _ e) (Nat.le_refl _) ⟨z, us, r, IsTup.new _ _⟩, rfl, q _ _ hf (same_upd hf) upd_same⟩
def tLstN (t : TA) : TE := fun σ H Q => t σ H fun xs H1 => xs.length ≤ sizeLine ∧ ∀ p H', H1 p = none → p ≠ sysModules → Same H1 H' → H' p = some (.lst xs) → Q (.ref p) H'
theorem pe_lstN {es : List Expr} {t : TA} {pos : Pos} (h : PA X es t) : PE X (.List es pos) (tLstN t) := by
  refine ⟨fun pins s σ H Q I hq => wpAny_List_spliced (thn (h.run pos pins s σ H _ I hq) fun us s1 ⟨xs, H1, I1, r, z, q⟩ => ⟨by rw [← r.length]; exact z, ?_⟩)⟩
  have hf : H1 s1.heap.objs.size = none := I1.hok.fresh (Nat.le_refl _)
  exact ⟨.ref s1.heap.objs.size, _, I1.laid (t' := s1.toks) (o := .lst xs) (fun b u e => Heap.get?_push_of_some _ e) (Nat.le_refl _) ⟨z, us, 0, r, Heap.get?_push_size _ rfl⟩, rfl, q _ _ hf (Nat.ne_of_gt I1.big) (same_upd hf) upd_same⟩
def tDNewN : TE := fun _ H Q => ∀ p H', H p = none → Same H H' → H' p = some (.dK []) → Q (.ref p) H'
theorem pe_dnewN {pos : Pos} : PE X (.Dict [] [] pos) tDNewN := by
  refine ⟨fun pins s σ H Q I h => (pe_dnewK (pos := pos)).run pins s σ H Q I ?_⟩
  exact fun p hp => h p _ hp (same_upd hp) upd_same
/-- xs + ys, lists -/
theorem op_catN : OpR X (binaryOp .Add) (fun x y H Q => ∃ a b xs ys, x = .ref a ∧ y = .ref b ∧ H a = some (.lst xs) ∧ H b = some (.lst ys) ∧ xs.length + ys.length ≤ sizeLine ∧ ∀ p H', H p = none → Same H H' → H' p = some (.lst (xs ++ ys)) → Q (.ref p) H') := by
  intro pins s σ H x y v u Q I rx ry ⟨a, b, xs, ys, ex, ey, ha, hb, hz, q⟩
  exact op_cat pins s σ H x y v u Q I rx ry ⟨a, b, xs, ys, ex, ey, ha, hb, hz, fun p hp => q p _ hp (same_upd hp) upd_same⟩
/-- t + u, tuples: some tuple of both -/
theorem op_catTN : OpR X (binaryOp .Add) (fun x y H Q => ∃ a b xs ys, x = .ref a ∧ y = .ref b ∧ Rd H a (.tup xs) ∧ Rd H b (.tup ys) ∧ xs.length + ys.length ≤ sizeLine ∧ ∀ p H', Same H H' → Rd H' p (.tup (xs ++ ys)) → Q (.ref p) H') := by
  intro pins s σ H x y v u Q I rx ry ⟨a, b, xs, ys, ex, ey, ha, hb, hz, q⟩
  refine op_catA pins s σ H x y v u Q I rx ry ⟨a, b, xs, ys, ex, ey, .inl ha, .inl hb, hz, fun e => ?_, fun _ e => ?_, fun _ _ p hp => q p _ (same_upd hp) (.inl upd_same)⟩
  · subst e; exact q b H (Same.refl _) hb
  · subst e; exact q a H (Same.refl _) (by rw [List.append_nil]; exact ha)
theorem cut_whole {xs : List V} {lo hi : Option Int} (h : HT.sIx xs.length 0 lo = 0 ∧ HT.sIx xs.length xs.length hi = xs.length) : cutV xs lo hi = xs := by
  unfold cutV
  rw [h.1, h.2]
  exact List.take_of_length_le (by simp)
/-- t[lo:hi]: some tuple of the part -/
theorem sl_tupN : SlR X (fun x lo hi H Q => ∃ a xs, x = .ref a ∧ Rd H a (.tup xs) ∧ ∀ p H', Same H H' → Rd H' p (.tup (cutV xs lo hi)) → Q (.ref p) H') := by
  intro pins s σ H x v vl vu lo hi sl Q I rx hs pl pu ⟨a, xs, ex, hx, q⟩
  refine sl_tupA pins s σ H x v vl vu lo hi sl Q I rx hs pl pu ⟨a, xs, ex, .inl hx, fun hw => ?_, fun _ p hp => q p _ (same_upd hp) (.inl upd_same)⟩
  exact q a H (Same.refl _) (by rw [cut_whole hw]; exact hx)
/-- t[::-1] -/
def tRevN (te : TE) : TE := fun σ H Q => te σ H fun x H1 => ∃ a xs, x = .ref a ∧ Rd H1 a (.tup xs) ∧ ∀ p H', Same H1 H' → Rd H' p (.tup xs.reverse) → Q (.ref p) H'
theorem pe_revN {e : Expr} {te : TE} {k : Nat} {p1 p2 p3 pos : Pos} (he : PE X e te) (mono : ∀ σ H (Q Q' : VK), (∀ x H', Q x H' → Q' x H') → te σ H Q → te σ H Q') : PE X (.Subscript e (.Slice none none (some (.UnaryOp .USub (.Constant (.int 1) k p1) p2)) p3) pos) (tRevN te) := by
  refine ⟨fun pins s σ H Q I h => (pe_revT he).run pins s σ H Q I (mono σ H _ _ (fun x H1 hq => ?_) h)⟩
  obtain ⟨a, xs, ex, hx, q⟩ := hq
  exact ⟨a, xs, ex, .inl hx, fun p o hp _ => q p _ (same_upd hp) (.inr ⟨o, upd_same⟩)⟩
/-- list(t) -/
theorem call_listN : CallR X (.type "list") (fun xs H Q => ∃ a ys, xs = [.ref a] ∧ Rd H a (.tup ys) ∧ ∀ p H', H p = none → p ≠ sysModules → Same H H' → H' p = some (.lst ys) → Q (.ref p) H') := by
  intro pins s σ H xs us Q I r ⟨a, ys, ex, hx, q⟩
  exact call_listM pins s σ H xs us Q I r ⟨a, ys, ex, .inl hx, fun p hp n => q p _ hp n (same_upd hp) upd_same⟩
end
end TR
namespace TR
open PySem PySem.Spec PyProof.Rows L2
section
variable {X : Cx}
/-- set(t), t a tuple of ints -/
theorem cr_setTI (hc : X.calm = true) : CallR X (.type "set") (fun xs H Q => ∃ (p : Addr) (ns : List Int), xs = [.ref p] ∧ SqT X.K H p (ns.map V.int) ∧ ns.length < 60 ∧ ∀ l c, H l = none → c ≤ ns.length → Q (.ref l) (upd H l (SetO X.w l (fun j => decide (j ∈ ns)) c))) := by
  intro pins s σ H xs us Q I r ⟨p, ns, ex, hS, hz, q⟩
  subst ex
  rw [Vals.ref1 r]
  obtain ⟨its, rv, pl, _⟩ := I.tuple hS
  have pl : s.heap.IsTuple p its.toArray := pl
  refine call_set_tupI ns (I.ok.hd hc) pl (by simpa using rv.ints) (Nat.lt_of_lt_of_le (show ns.length + 1 < 64 by omega) (by decide)) fun h' tk c R hcn hk => ?_
  exact ⟨.ref s.heap.objs.size, _, I.laid (t' := tk) hk (Nat.le_refl _) (setO_new R), rfl, q _ c (I.hok.fresh (Nat.le_refl _)) hcn⟩
end
end TR
namespace PySem
open Sem (wp)
set_option maxHeartbeats 1000000 in
theorem meets_enum_new1 {v : Value} {o : Obj} {H : Heap → Prop} (B : Begins v o H) :
    Meets (Builtin.«enumerate.__new__» ⟨[.type "enumerate", v], []⟩) (fun _ R s => H s.heap ∧
      R (.ok (.ret (.ref (s.heap.push o).objs.size))) { s with heap := (s.heap.push o).push { cls := .type "enumerate", data := .fields #[.none, .bool false, .ref s.heap.objs.size, rawInt 0, .none, .none] } }) :=
  .of_wp fun prog w A R s h => by
    obtain ⟨hp, g, d, tk, os⟩ := s; obtain ⟨h1, h⟩ := h
    have hsub := sub_enumerate
    have q1 : ∀ {A' : Around} {E : Value → Shared → Prop} {Q : Value → Shared → Prop}, Q (.ref hp.objs.size) ⟨hp.push o, g, d, tk, os⟩ → wpAny (model prog w) A' (pyIter v) Q E ⟨hp, g, d, tk, os⟩ :=
      fun q => B.iter prog w _ _ ⟨hp, g, d, tk, os⟩ _ h1 q
    wp_walk using q1
    refine wpAny_stack_any fun st => wpAny_pure ?_
    split
    · rename_i c _ _ _ _ _
      cases (c == Value.type "enumerate")
      · wp_walk using q1
        exact ⟨_, rfl, h⟩
      · wp_walk using q1
        exact ⟨_, rfl, h⟩
    · wp_walk using q1
      exact ⟨_, rfl, h⟩
section
variable {prog : Program} {w : World} {A : Around} {E : Value → Shared → Prop} {s : Shared}
theorem call_enum1 {v : Value} {o : Obj} {H : Heap → Prop} {Q : Value → Shared → Prop} (B : Begins v o H) (h1 : H s.heap)
    (h : ∀ h', IsEnum h' (s.heap.objs.size + 1) s.heap.objs.size 0 .none → h'.get? s.heap.objs.size = some o → h'.objs.size = s.heap.objs.size + 2 →
      (∀ b o, s.heap.get? b = some o → h'.get? b = some o) → Q (.ref (s.heap.objs.size + 1)) { s with heap := h' }) :
    wpAny (model prog w) A (call (.type "enumerate") [v]) Q E s := by
  refine callType_new F.called_enumerate (by decide) (F.typeCall_enumerate_1 _) (F.newCall_enumerate_1 _) (fun obj => F.args_object_init_2 obj _) F.entry_enumerate_new
    (meets_enum_new1 B) ⟨h1, ?_⟩
  have hz : (s.heap.push o).objs.size = s.heap.objs.size + 1 := Heap.size_push ..
  show _ ∧ _
  rw [hz]
  have he : IsEnum ((s.heap.push o).push { cls := .type "enumerate", data := .fields #[.none, .bool false, .ref s.heap.objs.size, rawInt 0, .none, .none] }) (s.heap.objs.size + 1) s.heap.objs.size 0 .none := by
    have := Heap.get?_push_size (s.heap.push o) (o := { cls := .type "enumerate", data := .fields #[.none, .bool false, .ref s.heap.objs.size, rawInt 0, .none, .none] }) rfl
    rw [hz] at this; exact this
  refine ⟨⟨_, he, rfl⟩, h _ he (Heap.get?_push_of_some _ (Heap.get?_push_size _ B.free)) (by rw [Heap.size_push, hz]) fun b o x => Heap.get?_push_of_some _ (Heap.get?_push_of_some _ x)⟩
end
end PySem
namespace TR
open PySem PySem.Spec PyProof.Rows L2
/-! ### enumerate(tuple) -/
/-- the tuple at a, each item in a new pair -/
def IteT (K : PySem.W.Frag) (a : Addr) : It :=
  ⟨fun i H => ∃ (xs : List V) (x : V), SqT K H a xs ∧ xs[i]? = some x, fun i H v H' => ∃ T x, v = .ref T ∧ H T = none ∧ H' = upd H T (.tup [.int (i : Nat), x]) ∧ ∀ xs, SqT K H a xs → xs[i]? = some x, fun i H => ∃ xs : List V, SqT K H a xs ∧ xs.length = i⟩
theorem tupIter_ne {h : Heap} {it a : Addr} {i : Nat} {items : Array Value} (hit : h.IsTupleIter it a i) (ht : h.IsTuple a items) : a ≠ it := by
  rintro rfl
  obtain ⟨o, ho, _, hd⟩ := hit
  obtain ⟨o', ho', _, n, hd'⟩ := ht
  rw [ho] at ho'; cases ho'
  rw [hd] at hd'; cases hd'
theorem enum_ne {h : Heap} {e it a : Addr} {c : Int} {old : Value} {items : Array Value} (he : IsEnum h e it c old) (ht : h.IsTuple a items) : e ≠ a := by
  rintro rfl
  obtain ⟨o', ho', _, n, hd'⟩ := ht
  have he' : h.get? e = some _ := he
  rw [he'] at ho'; cases ho'
  cases hd'
theorem turn_enumT {P : Program} {w : World} {K : PySem.W.Frag} {elts : List Expr} {kk : Nat} {tpos : Pos} (a e it : Addr) :
    Turn P w K (.Tuple elts kk tpos) (IteT K a) [e, it] e (fun i h => (∃ old, IsEnum h e it ((i : Nat) : Int) old) ∧ h.IsTupleIter it a i ∧ e ≠ it) where
  mem := by simp
  obj := fun i h st b hb => by
    obtain ⟨⟨old, he⟩, ⟨o, ho, hc, hd⟩, _⟩ := st
    have e' : b = e ∨ b = it := by simpa using hb
    rcases e' with z | z
    · rw [z]; exact ⟨_, he, fun v q => nomatch q⟩
    · rw [z]; exact ⟨o, ho, fun v q => by rw [hd] at q; cases q⟩
  keep := fun i h h' st k => let ⟨⟨old, he⟩, hi, hne⟩ := st; ⟨⟨old, k e (by simp) _ he⟩, hi.at fun o q => k it (by simp) o q, hne⟩
  item := by
    intro X hP hw hK hc i pins s σ H E I hf st hg
    subst hP hw hK
    obtain ⟨⟨old, he⟩, hit, hne⟩ := st
    obtain ⟨xs, x, hq, hx⟩ := hg
    obtain ⟨its, rv, p, hz⟩ := I.tuple hq
    have p : s.heap.IsTuple a its.toArray := p
    obtain ⟨u, hu, ru⟩ := rv.get hx
    have hel : e < s.heap.objs.size := Heap.lt_size he
    have hil : it < s.heap.objs.size := by obtain ⟨_, q, _⟩ := id hit; exact Heap.lt_size q
    have hil2 : i < its.toArray.size := by
      rw [List.size_toArray]; exact (List.getElem?_eq_some_iff.mp hu).1
    refine wpAny_pyNext_enum_itemD (Draws.tuple (A := X.A.in1) (I.ok.hd hc) it a (tupIter_ne hit p) its.toArray) he ⟨hit, p⟩ hil2 hne (by
      intro m
      rcases List.mem_cons.mp m with z | m
      · exact hne z
      · exact enum_ne he p (List.mem_singleton.mp m)) fun u' h' tk hPu ho hst' hT hsz hk => ?_
    obtain ⟨hit', _⟩ := hst'
    have eu : u' = u := by
      have h2 : its.toArray[i]? = some u := by simpa using hu
      rw [h2] at hPu
      exact (Option.some.inj hPu).symm
    subst eu
    refine ⟨_, rfl, wpAny_letOwnedTupleGo_enum (s := { s with heap := h', toks := tk + 1 }) ho fun h'' he' sb => ?_⟩
    have hT2 : h''.get? s.heap.objs.size = some { cls := .type "tuple", data := .seq #[.int i tk, u'] } := (sb.2 _ (Nat.ne_of_gt hel)).trans hT
    have new : ObjOk X.prog X.w (upd H s.heap.objs.size (.tup [.int (i : Nat), x])) h'' s.heap.objs.size (.tup [.int (i : Nat), x]) :=
      ⟨by show 2 ≤ sizeLine; decide, [.int i tk, u'], .cons ⟨_, rfl⟩ (.cons ru .nil), ⟨_, hT2, rfl, _, rfl⟩⟩
    have I1 : Inv X pins σ (upd H s.heap.objs.size (.tup [.int (i : Nat), x])) { s with heap := h'', toks := tk + 1 } :=
      I.turnedNew (ch := [e, it]) (fun b ob hb q => (sb.2 b (fun z => hb (by simp [z]))).trans (hk b ob (fun z => hb (by simp [z])) (fun z => hb (by simp [z])) q)) hf (Nat.le_refl _) new
    refine ⟨.ref s.heap.objs.size, _, I1, rfl, ⟨_, x, rfl, I.hok.fresh (Nat.le_refl _), rfl, fun ys hy => by rw [I.tuple_inj hy hq]; exact hx⟩, ⟨⟨u', ?_⟩, hit'.at fun o q => (sb.2 it (Ne.symm hne)).trans q, hne⟩, fun b hb => ?_⟩
    · have e1 : ((i + 1 : Nat) : Int) = (i : Int) + 1 := by omega
      rw [e1]; exact he'
    · have hb' : b < s.heap.objs.size := by
        have e' : b = e ∨ b = it := by simpa using hb
        rcases e' with z | z
        · rw [z]; exact hel
        · rw [z]; exact hil
      rw [upd_ne (Nat.ne_of_lt hb')]
      exact (hf b hb).1
  done := by
    intro X hP hw hK hc i pins s σ H E I hf st hg
    subst hP hw hK
    obtain ⟨⟨old, he⟩, hit, hne⟩ := st
    obtain ⟨xs, hq, hx⟩ := hg
    obtain ⟨its, rv, p, hz⟩ := I.tuple hq
    have p : s.heap.IsTuple a its.toArray := p
    obtain ⟨f0, f1, f2, f3, f4, f5⟩ := hf it (by simp)
    have hl := rv.length
    have hi : i = its.toArray.size := by rw [List.size_toArray]; omega
    subst hi
    exact wpAny_pyNext_enum_endD (Draws.tuple (A := X.A.in1) (I.ok.hd hc) it a (tupIter_ne hit p) its.toArray) he ⟨hit, p⟩ fun h' eb => ⟨rfl, I.turned (t' := s.toks) (fun b o hb q => eb b o hb q) f0 f1 f3 f4 f5⟩
  self := fun A i s Q E st h => let ⟨⟨_, he⟩, _⟩ := st; wpAny_pyIter_enum he h
def iEnumT (K : PySem.W.Frag) (ta : TA) : TI := fun σ H R => ta σ H fun vs H1 => ∃ a xs, vs = [.ref a] ∧ SqT K H1 a xs ∧ R (IteT K a) H1
theorem pi_enumT {X : Cx} {e : Expr} {ta : TA} {p pos tpos : Pos} {elts : List Expr} {kk : Nat} (hg : Gl X "enumerate") (hm : X.mg "enumerate" = none) (ha : PA X [e] ta) (hs : starEach [e] X.env = [(false, eval e X.env)] := by rfl) :
    PI X (.Tuple elts kk tpos) (.Call (.Name "enumerate" p) [e] [] pos) (iEnumT X.K ta) := by
  refine ⟨fun pins s σ H R I h => ?_⟩
  refine Call_ (ld_blt I hg hm boot_enumerate (PyProof.Rows.callWith_type1 (thn (ha.run pos pins s σ H _ I h) fun us s1 ⟨vs, H1, I1, r1, q1⟩ => ?_) hs rfl))
  obtain ⟨a, xs, ex, hq, q⟩ := q1
  subst ex
  cases r1 with
  | cons r rr =>
    cases rr
    cases r
    obtain ⟨its, rv, p', hz⟩ := I1.tuple hq
    refine call_enum1 (begins_tuple a its.toArray) p' fun h' he hit hsz hk => wpAny_pyIter_enum he ?_
    have I2 : Inv X pins σ H1 { s1 with heap := h' } := I1.kept (t' := s1.toks) hk
    refine ⟨s1.heap.objs.size + 1, [s1.heap.objs.size + 1, s1.heap.objs.size], _, _, H1, rfl, I2, turn_enumT a (s1.heap.objs.size + 1) s1.heap.objs.size, ⟨⟨.none, he⟩, ⟨_, hit, rfl, rfl⟩, Nat.succ_ne_self _⟩, fun b hb => ?_, q⟩
    have e' : b = s1.heap.objs.size + 1 ∨ b = s1.heap.objs.size := by simpa using hb
    have hle : s1.heap.objs.size ≤ b := by
      rcases e' with z | z
      · rw [z]; exact Nat.le_add_right _ _
      · rw [z]; exact Nat.le_refl _
    exact I1.fpOk hle (I1.hok.fresh hle)
theorem enum_walk {K : PySem.W.Frag} {a : Addr} {xs : List V} : Walk (IteT K a) xs.length (fun H => SqT K H a xs) (YPair (fun i => some (.int ((i : Nat) : Int))) (fun i => xs[i]?)) :=
  ⟨fun i H hi h => ⟨xs, xs[i], h, List.getElem?_eq_getElem hi⟩, fun H h => ⟨xs, h, rfl⟩, fun i H v H' hi h y => by
    obtain ⟨T, x, e1, e2, e3, e4⟩ := y
    exact ⟨T, _, x, e1, e2, e3, rfl, e4 xs h⟩⟩
end TR
namespace TR
open PySem PySem.Spec PyProof.Rows L2
def topS (i : Nat) : Stmt := PySem.Challenge.pw_tasterow_k07_tables_or_not.main.body.getD i (.Pass ⟨0, 0, 0, 0⟩)
abbrev sWhole : Stmt := topS 4
abbrev sWithin : Stmt := topS 5
abbrev sIsOrder : Stmt := topS 6
abbrev sIsRk : Stmt := topS 8
abbrev sIsWt : Stmt := topS 10
abbrev sIsTas : Stmt := topS 11
abbrev sIsTab : Stmt := topS 12
abbrev sRkOf : Stmt := topS 13
abbrev sTotal : Stmt := topS 14
abbrev sDeck : Stmt := topS 16
abbrev sNext : Stmt := topS 17
abbrev sOne : Stmt := topS 18
abbrev sSame : Stmt := topS 19
abbrev sLWhole : Stmt := topS 20
abbrev sOdd : Stmt := topS 21
abbrev sBent : Stmt := topS 22
abbrev sPeople : Stmt := topS 23
abbrev sList : Stmt := topS 24
abbrev sExch : Stmt := topS 25
abbrev sRoad : Stmt := topS 26
abbrev sSeated : Stmt := topS 27
abbrev sAny : Stmt := topS 28
abbrev sTable : Stmt := topS 29
abbrev sIsList : Stmt := topS 30
abbrev sLIsTab : Stmt := topS 31
abbrev sLaw : Stmt := topS 32
end TR
namespace TR
open PySem PySem.Spec PyProof.Rows L2
theorem scDeck : FnScope ["_law_script", "_law_cells", "_law_cell"] ["_law_script"] (defScope sDeck) := ⟨rfl, rfl, rfl, by decide +kernel, rfl, by decide +kernel, by decide +kernel⟩
section
variable {P : Program} {w : World} {K : PySem.W.Frag} {mg : Str → Option Value} {base : Heap}
def spDeck (K : PySem.W.Frag) : Sp := fun vs H Q _ => ∃ (a : Addr) (ns : List Int), vs = [.ref a] ∧ SqL K H a (ns.map V.int) ∧ ns.length ≤ 63 ∧
  ∀ H' d p q, Same H H' → Deck H' d p q 0 → Q (.ref d) H'
theorem ok_deck {f : Addr} {fd : FuncData} {k : Nat} (F : Fun K "_law_deck" "_law_deck" sDeck f fd) (mabs : mg "abs" = none) (mlen : mg "len" = none) : FnOk P w K mg base CX0 (k + 1) f fd ["_law_script"] (spDeck K) := by
  refine F.ok scDeck (fun vs H Q E h => ?_) (fun cdv A outer s H vs Q E hr h => ?_)
  · obtain ⟨a, ns, rfl, _⟩ := h
    rfl
  · obtain ⟨a, ns, rfl, hS, hlen, q⟩ := h
    refine ⟨_, pss_cons (ps_setLc (i := 1) (own := [("_law_cell", 2)]) (g := gName 2) (tt := tYes) (by rfl) scDeck.nd rfl rfl (sw_true rfl rfl rfl (by decide +kernel)) (pi_list (pv 0))
        (blkOk_by (own := [("_law_cell", 2)]) (N := ["_law_script", "_law_cells", "_law_cell"]) (sc := defScope sDeck) (by decide +kernel)) (fun _ _ _ _ _ => pg_name (i := 2) scDeck.nd rfl (Or.inl rfl)) (fun _ _ _ _ _ => pts_nil)
        (fun _ _ _ _ _ => pe_callB call_abs (by rfl) mabs (by decide +kernel) (pa_cons (pv 2) pa_nil)))
      (pss_one (ps_ret (pe_lst (pa_cons
        (pe_lc (own := [("_law_cell", 2)]) (g := gName 2) (by rfl) scDeck.nd (pi_list (pv 1))
          (blkOk_by (own := [("_law_cell", 2)]) (N := ["_law_script", "_law_cells", "_law_cell"]) (sc := defScope sDeck) (by decide +kernel)) (fun _ _ _ _ _ => pg_name (i := 2) scDeck.nd rfl (Or.inl rfl))
          (fun _ _ _ _ _ => pts_one (pt_cmpR op_ge (pv 2) (pe_op op_pow pe_int pe_int) (nomark _)))
          (fun _ _ _ _ _ => pv 2))
        (pa_cons (pe_op op_cat (pv 1) (pe_lst (pa_cons (pe_op op_add (pe_callB call_len_seq (by rfl) mlen PySem.boot_len (pa_cons (pv 1) pa_nil)) pe_int) pa_nil)))
        (pa_cons pe_int pa_nil)))))), ?_⟩
    refine ⟨.ref a, rfl, a, rfl, ⟨_, hS⟩, fun D hD => lc_list (K := K) (a := a) (xs := ns.map V.int) (fun i H1 => Same H H1 ∧ ∃ zs : List Int, zs.length ≤ i ∧ H1 D = some (.lst (zs.map V.int))) ⟨same_upd hD, [], Nat.zero_le _, upd_same⟩ (fun i H1 _ h => h.1.seq hS) (fun i x H1 hx h => ?_) (fun H1 h => ?_)⟩
    · obtain ⟨sm, zs, hz, hd⟩ := h
      obtain ⟨z, hz1, rfl⟩ : ∃ z, ns[i]? = some z ∧ x = .int z := by
        rw [List.getElem?_map] at hx
        cases e : ns[i]? with
        | none => rw [e] at hx; cases hx
        | some z => rw [e] at hx; exact ⟨z, rfl, (Option.some.inj hx).symm⟩
      have hi : i < ns.length := (List.getElem?_eq_some_iff.mp hz1).1
      refine ⟨rfl, .int z, rfl, z, rfl, _, hd, ?_, same_upd2 sm hD, zs ++ [if z < 0 then -z else z], ?_, ?_⟩
      · rw [List.length_map]
        exact small1000 (by omega)
      · rw [List.length_append]
        show zs.length + 1 ≤ i + 1
        omega
      · rw [upd_same, List.map_append]
        rfl
    · obtain ⟨sm, zs, hz, hd⟩ := h
      rw [List.length_map] at hz
      refine ⟨.ref D, rfl, D, rfl, ⟨_, sqL hd⟩, fun p hp => lc_list (K := K) (a := D) (xs := zs.map V.int) (fun i H2 => Same H1 H2 ∧ ∃ ys : List Int, ys.length ≤ i ∧ H2 p = some (.lst (ys.map V.int))) ⟨same_upd hp, [], Nat.zero_le _, upd_same⟩ (fun i H2 _ h => h.1.seq (sqL hd)) (fun i x H2 hx h => ?_) (fun H2 h => ?_)⟩
      · obtain ⟨sm2, ys, hy, hd2⟩ := h
        obtain ⟨z, hz1, rfl⟩ : ∃ z, zs[i]? = some z ∧ x = .int z := by
          rw [List.getElem?_map] at hx
          cases e : zs[i]? with
          | none => rw [e] at hx; cases hx
          | some z => rw [e] at hx; exact ⟨z, rfl, (Option.some.inj hx).symm⟩
        have hi : i < zs.length := (List.getElem?_eq_some_iff.mp hz1).1
        refine ⟨rfl, .int z, rfl, 10, 18, rfl, rfl, ⟨by decide, by decide, by decide⟩, _, _, rfl, rfl, _, rfl, ite2 (fun _ => ?_) (fun _ => ?_)⟩
        · refine ⟨.int z, rfl, _, hd2, ?_, same_upd2 sm2 hp, ys ++ [z], ?_, ?_⟩
          · rw [List.length_map]
            exact small1000 (by omega)
          · rw [List.length_append]
            show ys.length + 1 ≤ i + 1
            omega
          · rw [upd_same, List.map_append]
            rfl
        · exact ⟨sm2, ys, by omega, hd2⟩
      · obtain ⟨sm2, ys, hy, hd2⟩ := h
        have hD2 : H2 D = some (.lst (zs.map V.int)) := sm2 _ _ hd
        rw [List.length_map] at hy
        refine ⟨.ref D, rfl, .ref D, rfl, D, _, rfl, .inl (sqL hD2), _, _, rfl, rfl, by show 1 ≤ sizeLine; decide, fun t ht => ?_⟩
        have nDt : D ≠ t := ne_of_none hD2 ht
        refine ⟨D, t, _, _, rfl, rfl, (by rw [upd_ne nDt]; exact hD2), upd_same, ?_, fun q' hq' => ?_⟩
        · rw [List.length_map]
          show zs.length + 1 ≤ sizeLine
          exact Nat.le_of_lt (small1000 (by omega))
        · have e : zs.map V.int ++ [V.int (((zs.map V.int).length : Int) + 5)] = (zs ++ [((zs.map V.int).length : Int) + 5]).map V.int := by
            rw [List.map_append]
            rfl
          refine ⟨by show 3 ≤ sizeLine; decide, fun d hd' => q _ d p q' ?_ ⟨ys.length, ⟨⟨ys, zs ++ [((zs.map V.int).length : Int) + 5], 0, upd_same, ?_, ?_, Int.le_refl _, Int.le_refl _, by simp, rfl⟩, ?_, ?_, ?_⟩⟩⟩
          · exact (sm.trans sm2).trans ((same_upd ht).trans ((same_upd hq').trans (same_upd hd')))
          · exact ((same_upd ht).trans ((same_upd hq').trans (same_upd hd'))) _ _ hd2
          · rw [← e]
            exact (same_upd hd') _ _ upd_same
          · exact (ne_of_none (((same_upd ht).trans (same_upd hq')) _ _ hd2) hd').symm
          · exact (ne_of_none (upd_same (H := upd H2 t _)) hd').symm
          · exact ne_of_none ((same_upd ht) _ _ hd2) hq'
end
end TR
namespace TR
open PySem PySem.Spec PyProof.Rows L2
theorem scNext : FnScope ["_law_deck_here", "_law_many", "_law_rest", "_law_cell", "_law_mixed"] ["_law_deck_here", "_law_many"] (defScope sNext) := ⟨rfl, rfl, rfl, by decide +kernel, rfl, by decide +kernel, by decide +kernel⟩
theorem ixN_zero {n : Nat} (h : 0 < n) : ixN n 0 = some 0 := by
  unfold ixN
  rw [if_pos (Int.le_refl _), if_pos (by omega)]
  rfl
section
variable {P : Program} {w : World} {K : PySem.W.Frag} {mg : Str → Option Value} {base : Heap}
def spNext : Sp := fun vs H Q _ => ∃ (d p q : Addr) (n : Nat) (m : Int), vs = [.ref d, .int m] ∧ Deck H d p q n ∧ n ≤ 1000000 ∧ 0 < m ∧ m ≤ 1000000000000 ∧
  ∀ H' r, 0 ≤ r → r < m → Deck H' d p q (n + 1) → Keep d p H H' → Q (.int r) H'
theorem ok_next {f : Addr} {fd : FuncData} {k : Nat} (F : Fun K "_law_next" "_law_next" sNext f fd) (mlen : mg "len" = none) : FnOk P w K mg base CX0 (k + 1) f fd ["_law_deck_here", "_law_many"] spNext := by
  refine F.ok scNext (fun vs H Q E h => ?_) (fun cdv A outer s H vs Q E hr h => ?_)
  · obtain ⟨d, p, q, n, m, rfl, _⟩ := h
    rfl
  · obtain ⟨d, p, q, n, m, rfl, ⟨l0, D0⟩, hn, hm0, hm1, qq⟩ := h
    refine ⟨_, pss_cons (ps_while PassesOwn.never (pt_cmpR (op_neD hr.units) (pe_ix ix_list (pv 0) pe_int (fun _ _ => rfl)) (pe_lst pa_nil) (nomark _))
        (pss_cons (ps_set (i := 2) scNext.nd rfl (.inl rfl) (pe_ix ix_list (pe_ix ix_list (pv 0) pe_int (fun _ _ => rfl)) pe_int (fun _ _ => rfl)))
        (pss_cons (ps_if (pt_cmpR op_gt (pv 2) pe_int (nomark _))
          (pss_cons (ps_asg (pe_op op_fdivW (pv 2) (pv 1)) (pg_sub (pe_ix ix_list (pv 0) pe_int (fun _ _ => rfl)) pe_int set_list))
          (pss_one (ps_ret (pe_op op_mod (pv 2) (pv 1))))) pss_nil)
        (pss_one (ps_expr (pe_bm PySem.F.plainAttrs_list PySem.F.slot_list_pop PySem.F.type_list_pop mt_popAt (pe_ix ix_list (pv 0) pe_int (fun _ _ => rfl)) (pa_cons pe_int pa_nil)))))))
      (pss_cons (ps_asg (pe_op op_add (pe_ix ix_list (pv 0) pe_int (fun _ _ => rfl)) pe_int) (pg_sub (pv 0) pe_int set_list))
      (pss_cons (ps_set (i := 3) scNext.nd rfl (.inl rfl) (pe_op op_mod (pe_ix ix_list (pe_ix ix_list (pv 0) pe_int (fun _ _ => rfl)) (pe_op op_mod (pe_ix ix_list (pv 0) pe_int (fun _ _ => rfl)) (pe_callB call_len_seq (by rfl) mlen PySem.boot_len (pa_cons (pe_ix ix_list (pv 0) pe_int (fun _ _ => rfl)) pa_nil))) (fun _ _ => rfl)) pe_int))
      (pss_cons (ps_set (i := 4) scNext.nd rfl (.inl rfl) (pe_op op_add (pe_op op_add (pe_op op_mul (pv 3) (pe_op op_add pe_int (pe_op op_mul pe_int (pe_ix ix_list (pv 0) pe_int (fun _ _ => rfl))))) (pe_op op_mul (pe_op op_mul pe_int (pe_ix ix_list (pv 0) pe_int (fun _ _ => rfl))) (pe_ix ix_list (pv 0) pe_int (fun _ _ => rfl)))) pe_int))
      (pss_cons (ps_set (i := 4) scNext.nd rfl (.inl rfl) (pe_op op_mod (pv 4) pe_int))
      (pss_one (ps_ret (pe_op op_mod (pe_op op_fdiv (pe_op op_mod (pe_op op_mul (pv 4) (pv 4)) pe_int) pe_int) (pv 1)))))))), ?_⟩
    refine ⟨fun l σ H1 => ∃ y2, σ = [some (.ref d), some (.int m), y2, none, none] ∧ DeckL H1 d p q n l ∧ Keep d p H H1, ⟨l0, none, rfl, D0, Keep.refl _ _ _⟩, fun l σ H1 hW => ?_⟩
    obtain ⟨y2, rfl, ⟨⟨xs, cs, c, h1, h2, h3, h4, h5, h6, h7⟩, ndp, ndq, npq⟩, kp⟩ := hW
    refine ⟨.ref d, rfl, d, _, 0, .ref p, rfl, rfl, sqL h1, rfl, Nat.zero_le _, fun e he => ?_⟩
    have hp1 : upd H1 e (.lst []) p = some (.lst (xs.map V.int)) := by
      rw [upd_ne (ne_of_none h2 he)]
      exact h2
    have hd1 : upd H1 e (.lst []) d = some (.lst [.ref p, .ref q, .int c]) := by
      rw [upd_ne (ne_of_none h1 he)]
      exact h1
    have hq1 : upd H1 e (.lst []) q = some (.lst (cs.map V.int)) := by
      rw [upd_ne (ne_of_none h3 he)]
      exact h3
    have kp1 : Keep d p H (upd H1 e (.lst [])) := kp.trans (Same.keep (same_upd he))
    refine ⟨_, _, .lst (sqL hp1) (dpAll_ints xs), .lst (sqL upd_same) .nil, shaped_ints xs, rfl, _, rfl, ?_⟩
    rw [eqv_nil]
    cases xs with
    | cons x r =>
      refine iteT ?_
      refine ⟨fun σ H2 => ∃ y2, σ = [some (.ref d), some (.int m), y2, none, none] ∧ DeckL H2 d p q n r.length ∧ Keep d p H H2, fun σ' H' hN => ⟨r.length, by rw [← h7]; exact Nat.lt_succ_self _, hN⟩, ?_⟩
      refine ⟨.ref d, rfl, d, _, 0, .ref p, rfl, rfl, sqL hd1, rfl, p, _, 0, .int x, rfl, rfl, sqL hp1, atI_nat (j := 0) rfl, ?_⟩
      refine ⟨.int x, rfl, x, 0, rfl, rfl, _, rfl, ite2 (fun hx => ?_) (fun hx => ?_)⟩
      · refine ⟨.int x, rfl, .int m, rfl, x, m, rfl, rfl, wide_div (b := 41) hm0 (by show m.natAbs < 2199023255552; omega) (by decide) (by decide), .ref d, rfl, d, _, 0, .ref p, rfl, rfl, sqL hd1, rfl, p, _, 0, 0, rfl, rfl, hp1, ixN_zero (by simp), ?_⟩
        refine ⟨.int x, rfl, .int m, rfl, x, m, rfl, rfl, hm0, qq _ _ (Int.emod_nonneg _ (by omega)) (Int.emod_lt_of_pos _ hm0) ?_ (keep_upd kp1 (.inr rfl))⟩
        refine ⟨r.length + 1, ⟨⟨(x / m) :: r, cs, c, ?_, upd_same, ?_, h4, by omega, h6, rfl⟩, ndp, ndq, npq⟩⟩
        · rw [upd_ne ndp]
          exact hd1
        · rw [upd_ne npq.symm]
          exact hq1
      · refine ⟨.ref d, rfl, d, _, 0, .ref p, rfl, rfl, sqL hd1, rfl, .inl ⟨rfl, _, sqL hp1⟩, p, _, 0, 0, .int x, rfl, rfl, hp1, by decide, by decide, ?_, rfl, ?_⟩
        · show seqIndex? 0 ((V.int x :: r.map V.int).length) = some 0
          unfold seqIndex?
          simp
        · refine ⟨some (.int x), rfl, ⟨⟨r, cs, c, ?_, upd_same, ?_, h4, h5, h6, rfl⟩, ndp, ndq, npq⟩, keep_upd kp1 (.inr rfl)⟩
          · rw [upd_ne ndp]
            exact hd1
          · rw [upd_ne npq.symm]
            exact hq1
    | nil =>
      refine iteF ?_
      refine ⟨.ref d, rfl, d, _, 2, .int c, rfl, rfl, sqL hd1, rfl, c, 1, rfl, rfl, .ref d, rfl, d, _, 2, 2, rfl, rfl, hd1, rfl, ?_⟩
      have kp2 : Keep d p H (upd (upd H1 e (.lst [])) d (.lst [.ref p, .ref q, .int (c + 1)])) := keep_upd kp1 (.inl rfl)
      have hq2 : upd (upd H1 e (.lst [])) d (.lst [.ref p, .ref q, .int (c + 1)]) q = some (.lst (cs.map V.int)) := by
        rw [upd_ne ndq.symm]
        exact hq1
      have hp2 : upd (upd H1 e (.lst [])) d (.lst [.ref p, .ref q, .int (c + 1)]) p = some (.lst (([] : List Int).map V.int)) := by
        rw [upd_ne ndp.symm]
        exact hp1
      have hd2 : upd (upd H1 e (.lst [])) d (.lst [.ref p, .ref q, .int (c + 1)]) d = some (.lst [.ref p, .ref q, .int (c + 1)]) := upd_same
      have hcl : 0 < (cs.map V.int).length := by
        rw [List.length_map]
        exact List.length_pos_iff.mpr h6
      have hcl' : (0 : Int) < ((cs.map V.int).length : Int) := by omega
      have b0 : 0 ≤ (c + 1) % ((cs.map V.int).length : Int) := Int.emod_nonneg _ (by omega)
      have b1 : (c + 1) % ((cs.map V.int).length : Int) < ((cs.map V.int).length : Int) := Int.emod_lt_of_pos _ hcl'
      obtain ⟨j, hj⟩ := Int.eq_ofNat_of_zero_le b0
      have hjl : j < cs.length := by
        rw [List.length_map] at b1 hj
        omega
      have ga : (cs.map V.int)[j]? = some (.int cs[j]) := by
        rw [List.getElem?_map, List.getElem?_eq_getElem hjl]
        rfl
      have gb : atI (cs.map V.int) ((c + 1) % ((cs.map V.int).length : Int)) = some (.int cs[j]) := by
        rw [hj]
        exact atI_nat ga
      refine ⟨.ref d, rfl, d, _, 1, .ref q, rfl, rfl, sqL hd2, rfl, .ref d, rfl, d, _, 2, .int (c + 1), rfl, rfl, sqL hd2, rfl, .ref d, rfl, d, _, 1, .ref q, rfl, rfl, sqL hd2, rfl, q, _, rfl, .inl (sqL hq2), _, _, rfl, rfl, hcl', q, _, _, _, rfl, rfl, sqL hq2, gb, _, _, rfl, rfl, by show (0 : Int) < 2147483647; decide, ?_⟩
      have e1 : (0 : Int) ≤ cs[j] % 2147483647 := Int.emod_nonneg _ (by decide)
      have e2 : cs[j] % 2147483647 < 2147483647 := Int.emod_lt_of_pos _ (by decide)
      refine ⟨.int (cs[j] % 2147483647), rfl, .ref d, rfl, d, _, 2, .int (c + 1), rfl, rfl, sqL hd2, rfl, 48271, _, rfl, rfl, .inl ⟨by decide, by decide⟩, _, _, rfl, rfl, cs[j] % 2147483647, _, rfl, rfl, .inl ⟨by show -(2 : Int) ^ 64 < cs[j] % 2147483647; omega, by show cs[j] % 2147483647 < (2 : Int) ^ 64; omega⟩,
        .ref d, rfl, d, _, 2, .int (c + 1), rfl, rfl, sqL hd2, rfl, 30011, _, rfl, rfl, .inl ⟨by decide, by decide⟩, .ref d, rfl, d, _, 2, .int (c + 1), rfl, rfl, sqL hd2, rfl, _, _, rfl, rfl, .inr ⟨by show -(2 : Int) ^ 64 < c + 1; omega, by show c + 1 < (2 : Int) ^ 64; omega⟩, _, _, rfl, rfl, _, _, rfl, rfl, ?_⟩
      refine ⟨_, rfl, _, _, rfl, rfl, by show (0 : Int) < 2147483629; decide, ?_⟩
      have e3 : (0 : Int) ≤ (cs[j] % 2147483647 * (69621 + 48271 * (c + 1)) + 30011 * (c + 1) * (c + 1) + 47) % 2147483629 := Int.emod_nonneg _ (by decide)
      have e4 : (cs[j] % 2147483647 * (69621 + 48271 * (c + 1)) + 30011 * (c + 1) * (c + 1) + 47) % 2147483629 < 2147483629 := Int.emod_lt_of_pos _ (by decide)
      refine ⟨.int ((cs[j] % 2147483647 * (69621 + 48271 * (c + 1)) + 30011 * (c + 1) * (c + 1) + 47) % 2147483629), rfl, .int ((cs[j] % 2147483647 * (69621 + 48271 * (c + 1)) + 30011 * (c + 1) * (c + 1) + 47) % 2147483629), rfl, _, _, rfl, rfl, .inl ⟨by show -(2 : Int) ^ 64 < (cs[j] % 2147483647 * (69621 + 48271 * (c + 1)) + 30011 * (c + 1) * (c + 1) + 47) % 2147483629; omega, by show (cs[j] % 2147483647 * (69621 + 48271 * (c + 1)) + 30011 * (c + 1) * (c + 1) + 47) % 2147483629 < (2 : Int) ^ 64; omega⟩, _, _, rfl, rfl, by show (0 : Int) < 2147483587; decide, _, _, rfl, rfl, ⟨by decide, by decide⟩, .int m, rfl, _, m, rfl, rfl, hm0, ?_⟩
      exact qq _ _ (Int.emod_nonneg _ (by omega)) (Int.emod_lt_of_pos _ hm0) ⟨0, ⟨[], cs, c + 1, hd2, hp2, hq2, by omega, by omega, h6, rfl⟩, ndp, ndq, npq⟩ kp2
end
end TR
namespace TR
open PySem PySem.Spec PyProof.Rows L2
/-! ### rankings in the heap -/
def Tp (H : Hp) (a : Addr) (ns : List Int) : Prop := ∃ o : Obj, o.dict = none ∧ H a = some (.frz o (.tup (ns.map V.int)))
theorem Tp.sq {K : PySem.W.Frag} {H : Hp} {a : Addr} {ns : List Int} (t : Tp H a ns) : SqT K H a (ns.map V.int) := by
  obtain ⟨o, _, h⟩ := t
  exact .inl (.inr ⟨o, h⟩)
theorem Tp.same {H H' : Hp} {a : Addr} {ns : List Int} (t : Tp H a ns) (s : Same H H') : Tp H' a ns := by
  obtain ⟨o, d, h⟩ := t
  exact ⟨o, d, s _ _ h⟩
theorem Tp.keep {H H' : Hp} {a d p q : Addr} {n : Nat} {ns : List Int} (t : Tp H a ns) (D : Deck H d p q n) (s : Keep d p H H') : Tp H' a ns := by
  obtain ⟨o, hd, h⟩ := t
  obtain ⟨x, y, c, e1⟩ := D.hd
  obtain ⟨xs, e2⟩ := D.hp
  exact ⟨o, hd, s _ _ h (ne_of h e1 (by intro z; cases z)) (ne_of h e2 (by intro z; cases z))⟩
theorem Tp.new {H : Hp} {a : Addr} {ns : List Int} {o : Obj} (h : o.dict = none) : Tp (upd H a (.frz o (.tup (ns.map V.int)))) a ns := ⟨o, h, upd_same⟩
/-! ### tuples, written or made -/
theorem rdT_same {H H' : Hp} {a : Addr} {u : HO} (h : Rd H a u) (s : Same H H') : Rd H' a u := by
  rcases h with h | ⟨o, h⟩
  · exact .inl (s _ _ h)
  · exact .inr ⟨o, s _ _ h⟩
theorem rdT_keep {H H' : Hp} {a d p q : Addr} {n : Nat} {xs : List V} (h : Rd H a (.tup xs)) (D : Deck H d p q n) (s : Keep d p H H') : Rd H' a (.tup xs) := by
  obtain ⟨x, y, c, e1⟩ := D.hd
  obtain ⟨zs, e2⟩ := D.hp
  rcases h with h | ⟨o, h⟩
  · exact .inl (s _ _ h (ne_of h e1 (by intro z; cases z)) (ne_of h e2 (by intro z; cases z)))
  · exact .inr ⟨o, s _ _ h (ne_of h e1 (by intro z; cases z)) (ne_of h e2 (by intro z; cases z))⟩
theorem rdT_updl {H : Hp} {a D : Addr} {us xs ys : List V} (h : Rd H a (.tup us)) (e : H D = some (.lst xs)) : Rd (upd H D (.lst ys)) a (.tup us) := by
  rcases h with h | ⟨o, h⟩
  · exact .inl (by rw [upd_ne (ne_of h e (by intro z; cases z))]; exact h)
  · exact .inr ⟨o, by rw [upd_ne (ne_of h e (by intro z; cases z))]; exact h⟩
/-! ### lists of pairs -/
inductive Prs (H : Hp) : List V → List (Int × Int) → Prop
  | nil : Prs H [] []
  | cons {q : Addr} {a b : Int} {vs : List V} {ps : List (Int × Int)} : Rd H q (.tup [.int a, .int b]) → Prs H vs ps → Prs H (.ref q :: vs) ((a, b) :: ps)
theorem Prs.same {H H' : Hp} {vs : List V} {ps : List (Int × Int)} (h : Prs H vs ps) (s : Same H H') : Prs H' vs ps := by
  induction h with
  | nil => exact .nil
  | cons e _ ih => exact .cons (rdT_same e s) ih
theorem Prs.upd_lst {H : Hp} {vs : List V} {ps : List (Int × Int)} {D : Addr} {xs ys : List V} (h : Prs H vs ps) (e : H D = some (.lst xs)) : Prs (upd H D (.lst ys)) vs ps := by
  induction h with
  | nil => exact .nil
  | cons e2 _ ih => exact .cons (rdT_updl e2 e) ih
theorem Prs.append {H : Hp} {vs ws : List V} {ps qs : List (Int × Int)} (h : Prs H vs ps) (g : Prs H ws qs) : Prs H (vs ++ ws) (ps ++ qs) := by
  induction h with
  | nil => exact g
  | cons e _ ih => exact .cons e ih
theorem Prs.len {H : Hp} {vs : List V} {ps : List (Int × Int)} (h : Prs H vs ps) : vs.length = ps.length := by
  induction h with
  | nil => rfl
  | cons _ _ ih => rw [List.length_cons, List.length_cons, ih]
theorem Prs.get {H : Hp} {vs : List V} {ps : List (Int × Int)} (h : Prs H vs ps) : ∀ {i : Nat} {x : V}, vs[i]? = some x → ∃ q a b, x = .ref q ∧ ps[i]? = some (a, b) ∧ Rd H q (.tup [.int a, .int b]) := by
  induction h with
  | nil => intro i x e; simp at e
  | cons e _ ih =>
    intro i x g
    cases i with
    | zero => exact ⟨_, _, _, (Option.some.inj g).symm, rfl, e⟩
    | succ i => exact ih g
def pd (p : Int × Int) : PyData := .tuple [.int p.1, .int p.2]
theorem Prs.dp {K : PySem.W.Frag} {H : Hp} {vs : List V} {ps : List (Int × Int)} (h : Prs H vs ps) : DpAll K H vs (ps.map pd) := by
  induction h with
  | nil => exact .nil
  | cons e _ ih => exact .cons (.tup (.inl e) (.cons (.int _) (.cons (.int _) .nil))) ih
/-- a walk over a range inside a comprehension, by a word over heaps -/
theorem walk_in {n : Nat} {lo : Int} {H4 : Hp} {Nx : Hp → Prop} {B : V → Hp → (Hp → Prop) → Prop} (Pv : Nat → Hp → Prop) (h0 : Pv 0 H4) (hs : ∀ j H, j < n → Pv j H → B (.int (lo + (j : Int))) H (Pv (j + 1))) (hd : ∀ H, Pv n H → Nx H) :
    ∃ W : Nat → Nat → Hp → Prop, (∃ m, W 0 m H4) ∧ ∀ j k H, W j k H → ((Itr lo n).stop j H ∧ Nx H) ∨ ((Itr lo n).go j H ∧ ∃ N : Hp → Prop, (∀ H', N H' → ∃ k', k' < k ∧ W (j + 1) k' H') ∧ ∀ x H', (Itr lo n).yld j H x H' → B x H' N) := by
  refine ⟨fun j k H => k = n - j ∧ j ≤ n ∧ Pv j H, ⟨n, by simp, Nat.zero_le _, h0⟩, ?_⟩
  rintro j k H ⟨rfl, hj, p⟩
  by_cases hlt : j < n
  · refine .inr ⟨hlt, Pv (j + 1), fun H' p' => ⟨n - (j + 1), by omega, rfl, hlt, p'⟩, fun x H' y => ?_⟩
    obtain ⟨e, e2⟩ := y
    subst e e2
    exact hs j _ hlt p
  · have e : j = n := by omega
    subst e
    exact .inl ⟨Nat.le_refl _, hd H p⟩
end TR
namespace TR
open PySem PySem.Spec PyProof.Rows L2
theorem scList : FnScope ["_law_deck_here", "_law_dishes", "_law_left", "_law_found"] ["_law_deck_here", "_law_dishes"] (defScope sList) := ⟨rfl, rfl, rfl, by decide +kernel, rfl, by decide +kernel, by decide +kernel⟩
theorem keep_fresh {d p x : Addr} {H H1 : Hp} {o : HO} (a : Keep d p H H1) (h : H x = none) : Keep d p H (upd H1 x o) := fun c u e n m => by
  rw [upd_ne (ne_of_none e h)]
  exact a c u e n m
theorem Deck.upd {H : Hp} {d p q x : Addr} {n : Nat} {o : HO} (D : Deck H d p q n) (h1 : x ≠ d) (h2 : x ≠ p) (h3 : x ≠ q) : Deck (upd H x o) d p q n := by
  obtain ⟨m, ⟨xs, cs, c, e1, e2, e3, e4⟩, a, b, e⟩ := D
  exact ⟨m, ⟨xs, cs, c, by rw [upd_ne h1.symm]; exact e1, by rw [upd_ne h2.symm]; exact e2, by rw [upd_ne h3.symm]; exact e3, e4⟩, a, b, e⟩
theorem Deck.hq {H : Hp} {d p q : Addr} {n : Nat} (D : Deck H d p q n) : ∃ xs : List Int, H q = some (.lst (xs.map V.int)) := by
  obtain ⟨m, ⟨xs, cs, c, h1, h2, h3, _⟩, _⟩ := D
  exact ⟨_, h3⟩
theorem Deck.neq {H : Hp} {d p q : Addr} {n : Nat} (D : Deck H d p q n) {b : Addr} (h : H b = none) : b ≠ q := by
  obtain ⟨x, e⟩ := D.hq
  exact (ne_of_none e h).symm
theorem rgV_rng (n : Nat) : rgV 0 (n : Int) = (rng n).map V.int := by
  unfold rgV rng
  rw [List.map_map, show ((n : Int) - 0).toNat = n by omega]
  refine congrArg (fun g => (List.range n).map g) (funext fun i => ?_)
  show V.int (0 + (i : Int)) = V.int (i : Int)
  rw [Int.zero_add]
theorem erase_map {α β : Type} (f : α → β) : ∀ (l : List α) (j : Nat), (l.map f).eraseIdx j = (l.eraseIdx j).map f
  | [], _ => rfl
  | _ :: _, 0 => rfl
  | x :: r, j + 1 => by
    show f x :: (r.map f).eraseIdx j = f x :: (r.eraseIdx j).map f
    rw [erase_map f r j]
theorem seq_nat {j n : Nat} (h : j < n) : seqIndex? (j : Int) n = some j := by
  unfold seqIndex?
  rw [if_neg (show ¬ ((j : Int) < 0) by omega)]
  simp [h]
section
variable {P : Program} {w : World} {K : PySem.W.Frag} {mg : Str → Option Value} {base : Heap}
/-! ### _law_list -/
def spList : Sp := fun vs H Q _ => ∃ (d p q : Addr) (c n : Nat), vs = [.ref d, .int (n : Int)] ∧ Deck H d p q c ∧ c + n ≤ 1000000 ∧ n ≤ 8 ∧
  ∀ H' t ns, Rank n ns → Deck H' d p q (c + n) → Keep d p H H' → Tp H' t ns → Q (.ref t) H'
theorem ok_list {f fN : Addr} {fd fdN : FuncData} {k : Nat} (F : Fun K "_law_list" "_law_list" sList f fd) (FN : Fun K "_law_next" "_law_next" sNext fN fdN) (bN : Binds K fdN ["_law_deck_here", "_law_many"] []) (gN : mg "_law_next" = some (.ref fN))
    (GN : FnOk P w K mg base CX0 (k + 1) fN fdN ["_law_deck_here", "_law_many"] spNext) (mr : mg "range" = none) (ml : mg "list" = none) (mlen : mg "len" = none) (mt : mg "tuple" = none) : FnOk P w K mg base CX0 (k + 2) f fd ["_law_deck_here", "_law_dishes"] spList := by
  refine F.ok scList (fun vs H Q E h => ?_) (fun cdv A outer s H vs Q E hr h => ?_)
  · obtain ⟨d, p, q, c, n, rfl, _⟩ := h
    rfl
  · obtain ⟨d, p, q, c, n, rfl, D0, hc, hn, qq⟩ := h
    refine ⟨_, pss_cons (ps_par (i := 2) (j := 3) (by rfl) scList.nd rfl rfl (by decide) rfl rfl (pa_cons (pe_listRg (by rfl) (by rfl) ml (prg_1 (by rfl) mr (pv 1))) (pa_cons (pe_lst pa_nil) pa_nil)) (by rfl))
      (pss_cons (ps_while PassesOwn.never (pt_cmpR (op_neD hr.units) (pv 2) (pe_lst pa_nil) (nomark _))
        (pss_one (ps_expr (pe_bm PySem.F.plainAttrs_list PySem.F.slot_list_append PySem.F.type_list_append mt_append (pv 3) (pa_cons
          (pe_bm PySem.F.plainAttrs_list PySem.F.slot_list_pop PySem.F.type_list_pop mt_popAt (pv 2) (pa_cons
            (pe_call GN hr (by rfl) gN FN.kp bN .nil pass0 (pa_cons (pv 0) (pa_cons (pe_callB call_len_seq (by rfl) mlen PySem.boot_len (pa_cons (pv 2) pa_nil)) pa_nil))) pa_nil)) pa_nil)))))
      (pss_one (ps_ret (pe_callTy call_tupleF (by rfl) mt (by decide +kernel) (pa_cons (pv 3) pa_nil))))), ?_⟩
    refine ⟨.int (n : Int), rfl, n, rfl, RgOk.of_le (by omega) (by omega) (by omega) (by omega), fun l hl => ⟨Nat.zero_le _, fun g hg => ⟨.ref l, .ref g, rfl, ?_⟩⟩⟩
    rw [rgV_rng] at hg ⊢
    have hg0 : H g = none := (same_upd hl).free hg
    have nlg : l ≠ g := ne_of_none (upd_same (H := H)) hg
    refine ⟨fun m σ H1 => σ = [some (.ref d), some (.int (n : Int)), some (.ref l), some (.ref g)] ∧ ∃ left found : List Int, H1 l = some (.lst (left.map V.int)) ∧ H1 g = some (.lst (found.map V.int)) ∧ left.length = m ∧ m ≤ n ∧ (left ++ found).Perm (rng n) ∧ Deck H1 d p q (c + (n - m)) ∧ Keep d p H H1,
      ⟨n, rfl, rng n, [], ?_, upd_same, rng_len n, Nat.le_refl _, by rw [List.append_nil], ?_, ?_⟩, fun m σ H1 hW => ?_⟩
    · rw [upd_ne nlg, upd_same]
    · rw [Nat.sub_self]
      exact (D0.same (same_upd hl)).same (same_upd hg)
    · exact Same.keep ((same_upd hl).trans (same_upd hg))
    · obtain ⟨rfl, left, found, h1, h2, h3, h4, h5, D1, kp⟩ := hW
      refine ⟨.ref l, rfl, Nat.zero_le _, fun e he => ?_⟩
      have sE : Same H1 (upd H1 e (.lst [])) := same_upd he
      refine ⟨_, _, .lst (sqL (sE _ _ h1)) (dpAll_ints left), .lst (sqL upd_same) .nil, shaped_ints left, rfl, _, rfl, ?_⟩
      rw [eqv_nil]
      have kp1 : Keep d p H (upd H1 e (.lst [])) := kp.trans (Same.keep sE)
      have D2 := D1.same sE
      have h1' := sE _ _ h1
      have h2' := sE _ _ h2
      generalize upd H1 e (.lst []) = H2 at h1' h2' D2 kp1 ⊢
      cases left with
      | cons x r =>
        refine iteT ?_
        refine ⟨fun σ H' => σ = [some (.ref d), some (.int (n : Int)), some (.ref l), some (.ref g)] ∧ ∃ left found : List Int, H' l = some (.lst (left.map V.int)) ∧ H' g = some (.lst (found.map V.int)) ∧ left.length = r.length ∧ r.length ≤ n ∧ (left ++ found).Perm (rng n) ∧ Deck H' d p q (c + (n - r.length)) ∧ Keep d p H H',
          fun σ' H' hN => ⟨r.length, by rw [← h3]; exact Nat.lt_succ_self _, hN⟩, ?_⟩
        rw [List.length_cons] at h3
        refine ⟨.ref g, rfl, .inl ⟨rfl, _, sqL h2'⟩, .ref l, rfl, .inl ⟨rfl, _, sqL h1'⟩, .ref d, rfl, .ref l, rfl, l, _, rfl, .inl (sqL h1'), d, p, q, c + (n - m), _, rfl, D2, by omega, ?_, ?_, fun H3 z z0 z1 D3 kp3 => ?_⟩
        · rw [List.length_map, List.length_cons]
          omega
        · rw [List.length_map, List.length_cons]
          omega
        · rw [List.length_map] at z1
          have nld : l ≠ d := D0.ned hl
          have nlp : l ≠ p := D0.nep hl
          have nlq : l ≠ q := D0.neq hl
          have ngd : g ≠ d := D0.ned hg0
          have ngp : g ≠ p := D0.nep hg0
          have ngq : g ≠ q := D0.neq hg0
          have h1'' := kp3 _ _ h1' nld nlp
          have h2'' := kp3 _ _ h2' ngd ngp
          obtain ⟨j, rfl⟩ := Int.eq_ofNat_of_zero_le z0
          have hj : j < (x :: r).length := by omega
          have gj : (x :: r)[j]? = some (x :: r)[j] := List.getElem?_eq_getElem hj
          have hlen : (x :: r).length ≤ n := by
            rw [List.length_cons]
            omega
          refine ⟨l, _, (j : Int), j, .int (x :: r)[j], rfl, rfl, h1'', by omega, by omega, seq_nat (by rw [List.length_map]; exact hj), by rw [List.getElem?_map, gj]; rfl, ?_⟩
          have fl : found.length ≤ n := by
            have e := h5.length_eq
            rw [List.length_append, rng_len] at e
            omega
          refine ⟨g, _, _, rfl, rfl, by rw [upd_ne nlg.symm]; exact h2'', by rw [List.length_map]; exact small1000 (by omega), ?_⟩
          refine ⟨rfl, (x :: r).eraseIdx j, found ++ [(x :: r)[j]], ?_, ?_, ?_, by omega, ?_, ?_, ?_⟩
          · rw [upd_ne nlg, upd_same, erase_map]
          · rw [upd_same, List.map_append]
            rfl
          · rw [List.length_eraseIdx_of_lt hj]
            rfl
          · refine List.Perm.trans ?_ h5
            refine List.Perm.trans ?_ ((perm_erase gj).append_right found)
            refine List.Perm.trans (l₂ := (((x :: r).eraseIdx j) ++ ([(x :: r)[j]] ++ found))) (List.Perm.append_left _ List.perm_append_comm) ?_
            rw [← List.append_assoc]
            exact List.Perm.append_right _ (List.perm_append_comm)
          · refine Deck.mono ((D3.upd nld nlp nlq).upd ngd ngp ngq) ?_
            omega
          · exact keep_fresh (keep_fresh (kp1.trans kp3) hl) hg0
      | nil =>
        refine iteF ?_
        refine ⟨.ref g, rfl, g, _, rfl, sqL h2', fun t o ht ho => qq _ t found h5 ?_ ?_ (Tp.new ho)⟩
        · exact (D2.same (same_upd ht)).mono (by omega)
        · exact kp1.trans (Same.keep (same_upd ht))
end
end TR
namespace TR
open PySem PySem.Spec PyProof.Rows L2
theorem scExch : FnScope ["_law_row", "_law_k"] ["_law_row", "_law_k"] (defScope sExch) := ⟨rfl, rfl, rfl, by decide +kernel, rfl, by decide +kernel, by decide +kernel⟩
theorem cut_to {xs : List V} {k : Nat} (h : k ≤ xs.length) : cutV xs none (some (k : Int)) = xs.take k := by
  unfold cutV
  rw [HT.sIx_none, HT.sIx_nat, Nat.min_eq_left h]
  rfl
theorem cut_from {xs : List V} {k : Nat} : cutV xs (some (k : Int)) none = xs.drop k := by
  unfold cutV
  rw [HT.sIx_none, HT.sIx_nat]
  by_cases h : k ≤ xs.length
  · rw [Nat.min_eq_left h]
    exact List.take_of_length_le (by rw [List.length_drop]; exact Nat.le_refl _)
  · rw [Nat.min_eq_right (by omega), List.drop_of_length_le (Nat.le_refl _), List.drop_of_length_le (by omega), List.take_nil]
section
variable {P : Program} {w : World} {K : PySem.W.Frag} {mg : Str → Option Value} {base : Heap}
/-! ### _law_exchanged -/
def spExch : Sp := fun vs H Q _ => ∃ (a : Addr) (ns : List Int) (n k : Nat), vs = [.ref a, .int (k : Int)] ∧ Tp H a ns ∧ Rank n ns ∧ k + 1 < n ∧ n ≤ 8 ∧
  ∀ H' t, Same H H' → Rank n (swp ns k) → Tp H' t (swp ns k) → Q (.ref t) H'
theorem ok_exch {f : Addr} {fd : FuncData} {k : Nat} (F : Fun K "_law_exchanged" "_law_exchanged" sExch f fd) : FnOk P w K mg base CX0 (k + 1) f fd ["_law_row", "_law_k"] spExch := by
  refine F.ok scExch (fun vs H Q E h => ?_) (fun cdv A outer s H vs Q E hr h => ?_)
  · obtain ⟨a, ns, n, j, rfl, _⟩ := h
    rfl
  · obtain ⟨a, ns, n, j, rfl, ht, hrk, hj, hn, q⟩ := h
    refine ⟨_, pss_one (ps_ret (pe_op op_catF (pe_op op_catF (pe_slice sl_tupF (pv 0) po_none (po_some (pv 1))) (pe_tupF (pa_cons (pe_ix ix_tup (pv 0) (pe_op op_add (pv 1) pe_int) (fun _ _ => rfl)) (pa_cons (pe_ix ix_tup (pv 0) (pv 1) (fun _ _ => rfl)) pa_nil))))
      (pe_slice sl_tupF (pv 0) (po_some (pe_op op_add (pv 1) pe_int)) po_none))), ?_⟩
    have hl : ns.length = n := hrk.len
    have hlm : (ns.map V.int).length = n := by rw [List.length_map]; exact hl
    have j1 : j < ns.length := by omega
    have j2 : j + 1 < ns.length := by omega
    have gx : ns[j]? = some ns[j] := List.getElem?_eq_getElem j1
    have gy : ns[j + 1]? = some ns[j + 1] := List.getElem?_eq_getElem j2
    have vx : atI (ns.map V.int) (j : Int) = some (.int ns[j]) := atI_nat (by rw [List.getElem?_map, gx]; rfl)
    have vy : atI (ns.map V.int) ((j : Int) + 1) = some (.int ns[j + 1]) := by
      have e : ((j : Int) + 1) = ((j + 1 : Nat) : Int) := by omega
      rw [e]
      exact atI_nat (by rw [List.getElem?_map, gy]; rfl)
    refine ⟨.ref a, rfl, .int (j : Int), rfl, (j : Int), rfl, a, _, rfl, ht.sq, fun hw => ?_, fun _ p1 o1 hp1 ho1 => ?_⟩
    · have h2 := hw.2
      rw [HT.sIx_nat, hlm] at h2
      omega
    · rw [cut_to (by rw [hlm]; omega), ← List.map_take] at *
      have s1 : Same H (upd H p1 (.frz o1 (.tup ((ns.take j).map V.int)))) := same_upd hp1
      have t1 : Tp (upd H p1 (.frz o1 (.tup ((ns.take j).map V.int)))) p1 (ns.take j) := Tp.new ho1
      generalize upd H p1 (.frz o1 (.tup ((ns.take j).map V.int))) = H1 at s1 t1 ⊢
      have ht1 := ht.same s1
      refine ⟨.ref a, rfl, .int (j : Int), rfl, (j : Int), 1, rfl, rfl, a, _, _, _, rfl, rfl, ht1.sq, vy, .ref a, rfl, .int (j : Int), rfl, a, _, _, _, rfl, rfl, ht1.sq, vx, by show 2 ≤ sizeLine; decide, fun p2 o2 hp2 ho2 => ?_⟩
      have e2 : [V.int ns[j + 1], V.int ns[j]] = [ns[j + 1], ns[j]].map V.int := rfl
      rw [e2]
      have s2 : Same H1 (upd H1 p2 (.frz o2 (.tup ([ns[j + 1], ns[j]].map V.int)))) := same_upd hp2
      have t2 : Tp (upd H1 p2 (.frz o2 (.tup ([ns[j + 1], ns[j]].map V.int)))) p2 [ns[j + 1], ns[j]] := Tp.new ho2
      generalize upd H1 p2 (.frz o2 (.tup ([ns[j + 1], ns[j]].map V.int))) = H2 at s2 t2 ⊢
      have t12 := t1.same s2
      have s02 := s1.trans s2
      have hperm : Rank n (ns.take j ++ ([ns[j + 1], ns[j]] ++ ns.drop (j + 2))) := (perm_swap gx gy).trans hrk
      have esw : swp ns j = ns.take j ++ ([ns[j + 1], ns[j]] ++ ns.drop (j + 2)) := by
        unfold swp
        rw [getD_of j1, getD_of j2]
      have lt : (ns.take j).length = j := by
        rw [List.length_take]
        omega
      have ld : (ns.drop (j + 2)).length = n - (j + 2) := by rw [List.length_drop, hl]
      have step : ∀ (H3 : Hp) (t3 : Addr), Same H H3 → Tp H3 t3 (ns.take j ++ [ns[j + 1], ns[j]]) → tSl (rSlF K) (tVar 0) (tPart (tOp (rI0 fun i j => .int (i + j)) (tVar 1) (tC (.int 2)))) tNoPart [some (.ref a), some (.int (j : Int))] H3 (fun y H4 => rCatF K (.ref t3) y H4 Q) := by
        intro H3 t3 s3 tp3
        refine ⟨.ref a, rfl, .int (j : Int), rfl, (j : Int), 2, rfl, rfl, _, rfl, a, _, rfl, (ht.same s3).sq, fun hw => ?_, fun _ p4 o4 hp4 ho4 => ?_⟩
        · have h2 := hw.1
          rw [show ((j : Int) + 2) = ((j + 2 : Nat) : Int) by omega, HT.sIx_nat, hlm] at h2
          omega
        · rw [show ((j : Int) + 2) = ((j + 2 : Nat) : Int) by omega, cut_from, ← List.map_drop]
          have s4 : Same H3 (upd H3 p4 (.frz o4 (.tup ((ns.drop (j + 2)).map V.int)))) := same_upd hp4
          have t4 : Tp (upd H3 p4 (.frz o4 (.tup ((ns.drop (j + 2)).map V.int)))) p4 (ns.drop (j + 2)) := Tp.new ho4
          generalize upd H3 p4 (.frz o4 (.tup ((ns.drop (j + 2)).map V.int))) = H4 at s4 t4 ⊢
          have tp4 := tp3.same s4
          refine ⟨t3, p4, _, _, rfl, rfl, tp4.sq, t4.sq, ?_, fun z => ?_, fun _ z => ?_, fun _ _ p5 o5 hp5 ho5 => ?_⟩
          · rw [List.length_map, List.length_map, List.length_append, lt, ld]
            exact Nat.le_of_lt (small1000 (by show j + 2 + (n - (j + 2)) ≤ 1000; omega))
          · rw [List.map_append] at z
            exact absurd (List.append_eq_nil_iff.mp z).2 (by intro w; cases w)
          · have e0 : ns.drop (j + 2) = [] := List.map_eq_nil_iff.mp z
            rw [e0, List.append_nil] at hperm esw
            exact q H4 t3 (s3.trans s4) (esw ▸ hperm) (esw ▸ tp4)
          · rw [← List.map_append]
            rw [← List.append_assoc] at hperm esw
            exact q _ p5 ((s3.trans s4).trans (same_upd hp5)) (esw ▸ hperm) (esw ▸ Tp.new ho5)
      refine ⟨p1, p2, _, _, rfl, rfl, t12.sq, t2.sq, ?_, fun z => step H2 p2 s02 ?_, fun _ z => ?_, fun _ _ p3 o3 hp3 ho3 => ?_⟩
      · rw [List.length_map, List.length_map, lt]
        exact Nat.le_of_lt (small1000 (by show j + 2 ≤ 1000; omega))
      · have e0 : ns.take j = [] := List.map_eq_nil_iff.mp z
        rw [e0]
        exact t2
      · cases z
      · rw [← List.map_append]
        exact step _ p3 (s02.trans (same_upd hp3)) (Tp.new ho3)
end
end TR
namespace TR
open PySem PySem.Spec PyProof.Rows L2
theorem scSame : FnScope ["_law_found", "_law_due", "_law_k"] ["_law_found", "_law_due"] (defScope sSame) := ⟨rfl, rfl, rfl, by decide +kernel, rfl, by decide +kernel, by decide +kernel⟩
/-! ### the same data, at two places -/
def flatX : V → Bool
  | .non => true
  | .bl _ => true
  | .int _ => true
  | .str _ => true
  | _ => false
def Alk (K : PySem.W.Frag) (H : Hp) : Nat → V → V → Prop
  | 0, _, _ => False
  | m + 1, x, y => (flatX x = true ∧ x = y) ∨ ∃ (a b : Addr) (xs ys : List V), x = .ref a ∧ y = .ref b ∧ ((SqL K H a xs ∧ SqL K H b ys) ∨ (SqT K H a xs ∧ SqT K H b ys)) ∧ xs.length = ys.length ∧ xs.length ≤ 1000 ∧
      ∀ (i : Nat) (u v : V), xs[i]? = some u → ys[i]? = some v → Alk K H m u v
theorem Alk.same {K : PySem.W.Frag} {H H' : Hp} (s : Same H H') : ∀ {m : Nat} {x y : V}, Alk K H m x y → Alk K H' m x y
  | 0, _, _, h => h.elim
  | m + 1, x, y, h => by
    rcases h with h | ⟨a, b, xs, ys, ex, ey, hq, h1, h2, h3⟩
    · exact .inl h
    · refine .inr ⟨a, b, xs, ys, ex, ey, ?_, h1, h2, fun i u v hu hv => Alk.same s (h3 i u v hu hv)⟩
      rcases hq with ⟨p, q⟩ | ⟨p, q⟩
      · exact .inl ⟨s.seq p, s.seq q⟩
      · exact .inr ⟨same_seqT s p, same_seqT s q⟩
theorem tyL {K : PySem.W.Frag} {H : Hp} {a : Addr} {xs : List V} (h : SqL K H a xs) : TyX K H (.ref a) (.type "list") := by
  rcases h with (h | ⟨o, h⟩) | ⟨o, its, n, hk, hc, _⟩
  · exact .base (.lst h)
  · exact .base (.frz h)
  · exact .kList hk hc
theorem tyT {K : PySem.W.Frag} {H : Hp} {a : Addr} {xs : List V} (h : SqT K H a xs) : TyX K H (.ref a) (.type "tuple") := by
  rcases h with (h | ⟨o, h⟩) | ⟨o, its, n, hk, hc, _⟩
  · exact .base (.tup h)
  · exact .fTuple h
  · exact .kTuple hk hc
theorem kit_two {K : PySem.W.Frag} {t a b : String} {r1 r2 : Bool} (h1 : kitB t a = some r1) (h2 : kitB t b = some r2) : PySem.W.kitAny K (.type t) [Value.type a, Value.type b] = some (r1 || r2) := by
  unfold PySem.W.kitAny
  rw [kit_ty h1]
  cases r1 with
  | true => rfl
  | false =>
    show PySem.W.kitAny K (.type t) [Value.type b] = some r2
    unfold PySem.W.kitAny
    rw [kit_ty h2]
    cases r2 <;> rfl
def tyF : V → Value
  | .non => .type "NoneType"
  | .bl _ => .type "bool"
  | .int _ => .type "int"
  | _ => .type "str"
theorem tyFlat {K : PySem.W.Frag} {H : Hp} {x : V} (h : flatX x = true) : TyX K H x (tyF x) := by
  cases x with
  | non => exact .base .non
  | bl b => exact .base (.bl b)
  | int i => exact .base (.int i)
  | str z => exact .base (.str z)
  | _ => exact absurd (show false = true from h) Bool.false_ne_true
section
variable {P : Program} {w : World} {K : PySem.W.Frag} {mg : Str → Option Value} {base : Heap}
def spSame (K : PySem.W.Frag) (m : Nat) : Sp := fun vs H Q _ => ∃ x y, vs = [x, y] ∧ Alk K H m x y ∧ ∀ H', Same H H' → Q (.bl true) H'
theorem ok_same {f : Addr} {fd : FuncData} (F : Fun K "_law_same" "_law_same" sSame f fd) (bS : Binds K fd ["_law_found", "_law_due"] []) (gS : mg "_law_same" = some (.ref f))
    (misi : mg "isinstance" = none) (mt : mg "tuple" = none) (ml : mg "list" = none) (mlen : mg "len" = none) (mr : mg "range" = none) (md : mg "dict" = none) (ms : mg "str" = none) (mi : mg "int" = none) (mb : mg "bool" = none) :
    ∀ m, FnOk P w K mg base CX0 m f fd ["_law_found", "_law_due"] (spSame K m)
  | 0 => ⟨fun vs H Q E h => by obtain ⟨x, y, rfl, _⟩ := h; rfl, fun A outer s H args us vs Q E hr he hb hv h => by obtain ⟨x, y, _, h, _⟩ := h; exact h.elim⟩
  | m + 1 => by
    have GS := ok_same F bS gS misi mt ml mlen mr md ms mi mb m
    refine F.ok scSame (fun vs H Q E h => ?_) (fun cdv A outer s H vs Q E hr h => ?_)
    · obtain ⟨x, y, rfl, _⟩ := h
      rfl
    · obtain ⟨x, y, rfl, hal, q⟩ := h
      refine ⟨_, pss_cons (ps_if (pt_val (pe_callB call_isiT (by rfl) misi (by decide +kernel) (pa_cons (pv 1) (pa_cons (pe_tup (pa_cons (pe_bltn (v := .ty "tuple") (by rfl) mt (by decide +kernel) rfl) (pa_cons (pe_bltn (v := .ty "list") (by rfl) ml (by decide +kernel) rfl) pa_nil))) pa_nil))))
          (pss_cons (ps_if (pt_cmpR op_ne (pe_callB call_isi (by rfl) misi (by decide +kernel) (pa_cons (pv 0) (pa_cons (pe_bltn (v := .ty "tuple") (by rfl) mt (by decide +kernel) rfl) pa_nil))) (pe_callB call_isi (by rfl) misi (by decide +kernel) (pa_cons (pv 1) (pa_cons (pe_bltn (v := .ty "tuple") (by rfl) mt (by decide +kernel) rfl) pa_nil))) (nomark _)) (pss_one (ps_ret pe_bl)) pss_nil)
          (pss_cons (ps_if (pt_cmpR op_ne (pe_callB call_isi (by rfl) misi (by decide +kernel) (pa_cons (pv 0) (pa_cons (pe_bltn (v := .ty "list") (by rfl) ml (by decide +kernel) rfl) pa_nil))) (pe_callB call_isi (by rfl) misi (by decide +kernel) (pa_cons (pv 1) (pa_cons (pe_bltn (v := .ty "list") (by rfl) ml (by decide +kernel) rfl) pa_nil))) (nomark _)) (pss_one (ps_ret pe_bl)) pss_nil)
          (pss_cons (ps_if (pt_cmpR op_ne (pe_callB call_len_seq (by rfl) mlen PySem.boot_len (pa_cons (pv 0) pa_nil)) (pe_callB call_len_seq (by rfl) mlen PySem.boot_len (pa_cons (pv 1) pa_nil)) (nomark _)) (pss_one (ps_ret pe_bl)) pss_nil)
          (pss_one (ps_ret (pe_cmpR (op_eqD hr.units) (pe_lc (own := [("_law_k", 2)]) (g := gName 2) (by rfl) scSame.nd (pi_range1 (by rfl) mr (pa_cons (pe_callB call_len_seq (by rfl) mlen PySem.boot_len (pa_cons (pv 1) pa_nil)) pa_nil))
              (blkOk_by (own := [("_law_k", 2)]) (N := ["_law_found", "_law_due", "_law_k"]) (sc := defScope sSame) (by decide +kernel)) (fun _ _ _ _ _ => pg_name (i := 2) scSame.nd rfl (Or.inl rfl))
              (fun _ _ _ _ _ => pts_one (pt_not (pt_val (pe_call GS hr (by rfl) gS F.kp bS .nil pass0 (pa_cons (pe_ix (r := rIx K) ix_seq (pv 0) (pv 2) (fun _ _ => rfl)) (pa_cons (pe_ix (r := rIx K) ix_seq (pv 1) (pv 2) (fun _ _ => rfl)) pa_nil))))))
              (fun _ _ _ _ _ => pv 2)) (pe_lst pa_nil) (nomark _))))))) pss_nil)
        (pss_cons (ps_if (pt_val (pe_callB call_isi (by rfl) misi (by decide +kernel) (pa_cons (pv 1) (pa_cons (pe_bltn (v := .ty "dict") (by rfl) md (by decide +kernel) rfl) pa_nil)))) (pss_one (ps_ret (pe_and (pe_callB call_isi (by rfl) misi (by decide +kernel) (pa_cons (pv 0) (pa_cons (pe_bltn (v := .ty "dict") (by rfl) md (by decide +kernel) rfl) pa_nil))) (pe_one (pe_cmpR op_eq (pv 0) (pv 1) (nomark _)))))) pss_nil)
        (pss_cons (ps_if (pt_cmpR op_isN (pv 1) pe_non (nomark _)) (pss_one (ps_ret (pe_cmpR op_isN (pv 0) pe_non (nomark _)))) pss_nil)
        (pss_cons (ps_if (pt_val (pe_callB call_isi (by rfl) misi (by decide +kernel) (pa_cons (pv 1) (pa_cons (pe_bltn (v := .ty "str") (by rfl) ms (by decide +kernel) rfl) pa_nil)))) (pss_one (ps_ret (pe_and (pe_callB call_isi (by rfl) misi (by decide +kernel) (pa_cons (pv 0) (pa_cons (pe_bltn (v := .ty "str") (by rfl) ms (by decide +kernel) rfl) pa_nil))) (pe_one (pe_cmpR op_eq (pv 0) (pv 1) (nomark _)))))) pss_nil)
        (pss_one (ps_ret (pe_and (pe_callB call_isi (by rfl) misi (by decide +kernel) (pa_cons (pv 0) (pa_cons (pe_bltn (v := .ty "int") (by rfl) mi (by decide +kernel) rfl) pa_nil)))
          (pe_and (pe_cmpR op_eq (pe_callB call_isi (by rfl) misi (by decide +kernel) (pa_cons (pv 0) (pa_cons (pe_bltn (v := .ty "bool") (by rfl) mb (by decide +kernel) rfl) pa_nil))) (pe_callB call_isi (by rfl) misi (by decide +kernel) (pa_cons (pv 1) (pa_cons (pe_bltn (v := .ty "bool") (by rfl) mb (by decide +kernel) rfl) pa_nil))) (nomark _)) (pe_one (pe_cmpR op_eq (pv 0) (pv 1) (nomark _)))))))))), ?_⟩
      refine ⟨y, rfl, by show 2 ≤ sizeLine; decide, fun tp htp => ?_⟩
      have s1 : Same H (upd H tp (.tup [.ty "tuple", .ty "list"])) := same_upd htp
      have e1 : upd H tp (.tup [.ty "tuple", .ty "list"]) tp = some (.tup [.ty "tuple", .ty "list"]) := upd_same
      have hal1 : Alk K (upd H tp (.tup [.ty "tuple", .ty "list"])) (m + 1) x y := Alk.same s1 hal
      generalize upd H tp (.tup [.ty "tuple", .ty "list"]) = H1 at s1 e1 hal1 ⊢
      have pc : Paired ClsV [V.ty "tuple", V.ty "list"] [Value.type "tuple", Value.type "list"] := .cons (.ty _) (.cons (.ty _) .nil)
      rcases hal1 with ⟨hf, rfl⟩ | ⟨a, b, xs, ys, rfl, rfl, hq, hl, hz, hit⟩
      · have ty : TyX K H1 x (tyF x) := tyFlat hf
        cases x with
        | non =>
          refine ⟨_, tp, _, _, _, false, rfl, e1, pc, ty, kit_two (r1 := false) (r2 := false) (by decide +kernel) (by decide +kernel), _, rfl, iteF ?_⟩
          refine ⟨.non, rfl, .non, .ty "dict", _, _, false, rfl, .ty _, ty, kit_ty (by decide +kernel), _, rfl, iteF ?_⟩
          exact ⟨.non, rfl, rfl, _, rfl, iteT ⟨.non, rfl, rfl, q H1 s1⟩⟩
        | bl c =>
          refine ⟨_, tp, _, _, _, false, rfl, e1, pc, ty, kit_two (r1 := false) (r2 := false) (by decide +kernel) (by decide +kernel), _, rfl, iteF ?_⟩
          refine ⟨.bl c, rfl, .bl c, .ty "dict", _, _, false, rfl, .ty _, ty, kit_ty (by decide +kernel), _, rfl, iteF ?_⟩
          refine ⟨.bl c, rfl, rfl, _, rfl, iteF ?_⟩
          refine ⟨.bl c, rfl, .bl c, .ty "str", _, _, false, rfl, .ty _, ty, kit_ty (by decide +kernel), _, rfl, iteF ?_⟩
          refine ⟨.bl c, rfl, .bl c, .ty "int", _, _, true, rfl, .ty _, ty, kit_ty (by decide +kernel), _, rfl, iteT ?_⟩
          refine ⟨.bl c, rfl, .bl c, .ty "bool", _, _, true, rfl, .ty _, ty, kit_ty (by decide +kernel), .bl c, rfl, .bl c, .ty "bool", _, _, true, rfl, .ty _, ty, kit_ty (by decide +kernel), rfl, _, rfl, ?_⟩
          refine iteT ⟨.bl c, rfl, .bl c, rfl, rfl, ?_⟩
          rw [decide_eq_true rfl]
          exact q H1 s1
        | int c =>
          refine ⟨_, tp, _, _, _, false, rfl, e1, pc, ty, kit_two (r1 := false) (r2 := false) (by decide +kernel) (by decide +kernel), _, rfl, iteF ?_⟩
          refine ⟨.int c, rfl, .int c, .ty "dict", _, _, false, rfl, .ty _, ty, kit_ty (by decide +kernel), _, rfl, iteF ?_⟩
          refine ⟨.int c, rfl, rfl, _, rfl, iteF ?_⟩
          refine ⟨.int c, rfl, .int c, .ty "str", _, _, false, rfl, .ty _, ty, kit_ty (by decide +kernel), _, rfl, iteF ?_⟩
          refine ⟨.int c, rfl, .int c, .ty "int", _, _, true, rfl, .ty _, ty, kit_ty (by decide +kernel), _, rfl, iteT ?_⟩
          refine ⟨.int c, rfl, .int c, .ty "bool", _, _, false, rfl, .ty _, ty, kit_ty (by decide +kernel), .int c, rfl, .int c, .ty "bool", _, _, false, rfl, .ty _, ty, kit_ty (by decide +kernel), rfl, _, rfl, ?_⟩
          refine iteT ⟨.int c, rfl, .int c, rfl, rfl, ?_⟩
          rw [decide_eq_true rfl]
          exact q H1 s1
        | str c =>
          refine ⟨_, tp, _, _, _, false, rfl, e1, pc, ty, kit_two (r1 := false) (r2 := false) (by decide +kernel) (by decide +kernel), _, rfl, iteF ?_⟩
          refine ⟨.str c, rfl, .str c, .ty "dict", _, _, false, rfl, .ty _, ty, kit_ty (by decide +kernel), _, rfl, iteF ?_⟩
          refine ⟨.str c, rfl, rfl, _, rfl, iteF ?_⟩
          refine ⟨.str c, rfl, .str c, .ty "str", _, _, true, rfl, .ty _, ty, kit_ty (by decide +kernel), _, rfl, iteT ?_⟩
          refine ⟨.str c, rfl, .str c, .ty "str", _, _, true, rfl, .ty _, ty, kit_ty (by decide +kernel), _, rfl, iteT ⟨.str c, rfl, .str c, rfl, rfl, ?_⟩⟩
          rw [decide_eq_true rfl]
          exact q H1 s1
        | _ => exact absurd (show false = true from hf) Bool.false_ne_true
      · obtain ⟨t, ta, tb, k1, k2, k3, hlq⟩ : ∃ t : String, TyX K H1 (.ref a) (.type t) ∧ TyX K H1 (.ref b) (.type t) ∧ PySem.W.kitAny K (.type t) [Value.type "tuple", Value.type "list"] = some true ∧ (∃ c, PySem.W.kitOne K (.type t) (.type "tuple") = some c) ∧ (∃ c, PySem.W.kitOne K (.type t) (.type "list") = some c) ∧
            ((SqL K H1 a xs ∨ SqT K H1 a xs) ∧ (SqL K H1 b ys ∨ SqT K H1 b ys)) := by
          rcases hq with ⟨p, r⟩ | ⟨p, r⟩
          · exact ⟨"list", tyL p, tyL r, kit_two (r1 := false) (r2 := true) (by decide +kernel) (by decide +kernel), ⟨false, kit_ty (by decide +kernel)⟩, ⟨true, kit_ty (by decide +kernel)⟩, .inl p, .inl r⟩
          · exact ⟨"tuple", tyT p, tyT r, kit_two (r1 := true) (r2 := false) (by decide +kernel) (by decide +kernel), ⟨true, kit_ty (by decide +kernel)⟩, ⟨false, kit_ty (by decide +kernel)⟩, .inr p, .inr r⟩
        obtain ⟨c2, k2⟩ := k2
        obtain ⟨c3, k3⟩ := k3
        refine ⟨_, tp, _, _, _, true, rfl, e1, pc, tb, k1, _, rfl, iteT ?_⟩
        refine ⟨.ref a, rfl, .ref a, .ty "tuple", _, _, c2, rfl, .ty _, ta, k2, .ref b, rfl, .ref b, .ty "tuple", _, _, c2, rfl, .ty _, tb, k2, rfl, _, rfl, iteNS rfl ?_⟩
        refine ⟨.ref a, rfl, .ref a, .ty "list", _, _, c3, rfl, .ty _, ta, k3, .ref b, rfl, .ref b, .ty "list", _, _, c3, rfl, .ty _, tb, k3, rfl, _, rfl, iteNS rfl ?_⟩
        refine ⟨.ref a, rfl, a, xs, rfl, hlq.1, .ref b, rfl, b, ys, rfl, hlq.2, rfl, _, rfl, iteNS (by rw [hl]) ?_⟩
        refine ⟨.ref b, rfl, b, ys, rfl, hlq.2, _, rfl, by omega, by omega, fun D hD => walk_in (n := ys.length) (lo := 0) (fun i H2 => Same H1 H2 ∧ H2 D = some (.lst [])) ⟨same_upd hD, upd_same⟩ (fun i H2 hi h => ?_) (fun H2 h => ?_)⟩
        · obtain ⟨s2, hd2⟩ := h
          have gx : xs[i]? = some (xs[i]'(by omega)) := List.getElem?_eq_getElem _
          have gy : ys[i]? = some ys[i] := List.getElem?_eq_getElem _
          have ax : atI xs (0 + (i : Int)) = some (xs[i]'(by omega)) := by
            rw [Int.zero_add]
            exact atI_nat gx
          have ay : atI ys (0 + (i : Int)) = some ys[i] := by
            rw [Int.zero_add]
            exact atI_nat gy
          have ix : ∀ {c : Addr} {zs : List V} {z : V} {R : V → Hp → Prop}, (SqL K H1 c zs ∨ SqT K H1 c zs) → atI zs (0 + (i : Int)) = some z → R z H2 → rIx K (.ref c) (.int (0 + (i : Int))) H2 R := by
            intro c zs z R hc hz hR
            rcases hc with hc | hc
            · exact .inl ⟨c, zs, _, z, rfl, rfl, s2.seq hc, hz, hR⟩
            · exact .inr (.inl ⟨c, zs, _, z, rfl, rfl, same_seqT s2 hc, hz, hR⟩)
          refine ⟨rfl, .ref a, rfl, .int (0 + (i : Int)), rfl, ix hlq.1 ax ⟨.ref b, rfl, .int (0 + (i : Int)), rfl, ix hlq.2 ay ⟨_, _, rfl, Alk.same s2 (hit i _ _ gx gy), fun H3 s3 => ⟨_, rfl, iteF ⟨s2.trans s3, s3 _ _ hd2⟩⟩⟩⟩⟩
        · obtain ⟨s2, hd2⟩ := h
          refine ⟨Nat.zero_le _, fun e he => ?_⟩
          refine ⟨.list [], .list [], .lst (sqL ((same_upd he) _ _ hd2)) .nil, .lst (sqL upd_same) .nil, rfl, rfl, ?_⟩
          exact q _ ((s1.trans s2).trans (same_upd he))
end
theorem alk_int {K : PySem.W.Frag} {H : Hp} {m : Nat} {i j : Int} (h : i = j) : Alk K H (m + 1) (.int i) (.int j) := .inl ⟨rfl, by rw [h]⟩
theorem alk_bl {K : PySem.W.Frag} {H : Hp} {m : Nat} {i j : Bool} (h : i = j) : Alk K H (m + 1) (.bl i) (.bl j) := .inl ⟨rfl, by rw [h]⟩
theorem alk_tp {K : PySem.W.Frag} {H : Hp} {m : Nat} {a b : Addr} {ns : List Int} (ha : Tp H a ns) (hb : Tp H b ns) (hl : ns.length ≤ 1000) : Alk K H (m + 2) (.ref a) (.ref b) := by
  refine .inr ⟨a, b, _, _, rfl, rfl, .inr ⟨ha.sq, hb.sq⟩, rfl, by rw [List.length_map]; exact hl, fun i u v hu hv => ?_⟩
  rw [hu] at hv
  cases hv
  rw [List.getElem?_map] at hu
  cases e : ns[i]? with
  | none => rw [e] at hu; cases hu
  | some z => rw [e] at hu; cases hu; exact alk_int rfl
theorem alk_prs {K : PySem.W.Frag} {H : Hp} {m : Nat} {a b : Addr} {xs ys : List V} {ps : List (Int × Int)} (hx : Prs H xs ps) (hy : Prs H ys ps) (ha : H a = some (.tup xs)) (hb : H b = some (.tup ys)) (hl : ps.length ≤ 1000) : Alk K H (m + 3) (.ref a) (.ref b) := by
  refine .inr ⟨a, b, _, _, rfl, rfl, .inr ⟨sqT ha, sqT hb⟩, hx.len.trans hy.len.symm, by rw [hx.len]; exact hl, fun i u v hu hv => ?_⟩
  obtain ⟨r, x1, x2, rfl, g1, e1⟩ := hx.get hu
  obtain ⟨t, y1, y2, rfl, g2, e2⟩ := hy.get hv
  rw [g1] at g2
  cases g2
  refine .inr ⟨r, t, _, _, rfl, rfl, .inr ⟨.inl e1, .inl e2⟩, rfl, by show 2 ≤ 1000; decide, fun j u v hu hv => ?_⟩
  rw [hu] at hv
  cases hv
  match j, hu with
  | 0, hu => cases hu; exact alk_int rfl
  | 1, hu => cases hu; exact alk_int rfl
  | j + 2, hu => simp at hu
theorem alk_two {K : PySem.W.Frag} {H : Hp} {m : Nat} {a b : Addr} {x1 x2 y1 y2 : V} (ha : H a = some (.lst [x1, x2])) (hb : H b = some (.lst [y1, y2])) (h1 : Alk K H m x1 y1) (h2 : Alk K H m x2 y2) : Alk K H (m + 1) (.ref a) (.ref b) := by
  refine .inr ⟨a, b, _, _, rfl, rfl, .inl ⟨sqL ha, sqL hb⟩, rfl, by show 2 ≤ 1000; decide, fun i u v hu hv => ?_⟩
  match i, hu, hv with
  | 0, hu, hv => cases hu; cases hv; exact h1
  | 1, hu, hv => cases hu; cases hv; exact h2
  | i + 2, hu, hv => simp at hu
end TR
namespace TR
open PySem PySem.Spec PyProof.Rows L2
/-! ### rows of rankings, each known -/
inductive Rts (H : Hp) : List V → List (List Int) → Prop
  | nil : Rts H [] []
  | cons {b : Addr} {r : List Int} {vs : List V} {rs : List (List Int)} : Tp H b r → Rts H vs rs → Rts H (.ref b :: vs) (r :: rs)
theorem Tp.updl {H : Hp} {a D : Addr} {ns : List Int} {xs ys : List V} (t : Tp H a ns) (e : H D = some (.lst xs)) : Tp (upd H D (.lst ys)) a ns := by
  obtain ⟨o, d, h⟩ := t
  exact ⟨o, d, by rw [upd_ne (ne_of h e (by intro z; cases z))]; exact h⟩
theorem Rts.same {H H' : Hp} {vs : List V} {ps : List (List Int)} (h : Rts H vs ps) (s : Same H H') : Rts H' vs ps := by
  induction h with
  | nil => exact .nil
  | cons e _ ih => exact .cons (e.same s) ih
theorem Rts.upd_lst {H : Hp} {vs : List V} {ps : List (List Int)} {D : Addr} {xs ys : List V} (h : Rts H vs ps) (e : H D = some (.lst xs)) : Rts (upd H D (.lst ys)) vs ps := by
  induction h with
  | nil => exact .nil
  | cons e2 _ ih => exact .cons (e2.updl e) ih
theorem Rts.append {H : Hp} {vs ws : List V} {ps qs : List (List Int)} (h : Rts H vs ps) (g : Rts H ws qs) : Rts H (vs ++ ws) (ps ++ qs) := by
  induction h with
  | nil => exact g
  | cons e _ ih => exact .cons e ih
theorem Rts.len {H : Hp} {vs : List V} {ps : List (List Int)} (h : Rts H vs ps) : vs.length = ps.length := by
  induction h with
  | nil => rfl
  | cons _ _ ih => rw [List.length_cons, List.length_cons, ih]
theorem Rts.get {H : Hp} {vs : List V} {ps : List (List Int)} (h : Rts H vs ps) : ∀ {i : Nat} {x : V}, vs[i]? = some x → ∃ b r, x = .ref b ∧ ps[i]? = some r ∧ Tp H b r := by
  induction h with
  | nil => intro i x e; simp at e
  | cons e _ ih =>
    intro i x g
    cases i with
    | zero => exact ⟨_, _, (Option.some.inj g).symm, rfl, e⟩
    | succ i => exact ih g
theorem Rts.snoc {H : Hp} {r : List Int} : ∀ {vs : List V} {rs : List (List Int)}, Rts H vs (rs ++ [r]) → ∃ ws t, vs = ws ++ [.ref t] ∧ Rts H ws rs ∧ Tp H t r
  | _, [], h => by
    cases h with
    | cons e g => cases g; exact ⟨[], _, rfl, .nil, e⟩
  | _, x :: rs, h => by
    cases h with
    | cons e g =>
      obtain ⟨ws, t, rfl, g2, e2⟩ := Rts.snoc g
      exact ⟨_ :: ws, t, rfl, .cons e g2, e2⟩
theorem alk_rts {K : PySem.W.Frag} {H : Hp} {m : Nat} {a b : Addr} {xs ys : List V} {ps : List (List Int)} (hx : Rts H xs ps) (hy : Rts H ys ps) (ha : SqT K H a xs) (hb : SqT K H b ys) (hl : ps.length ≤ 1000) (hr : ∀ r ∈ ps, r.length ≤ 1000) : Alk K H (m + 3) (.ref a) (.ref b) := by
  refine .inr ⟨a, b, _, _, rfl, rfl, .inr ⟨ha, hb⟩, hx.len.trans hy.len.symm, by rw [hx.len]; exact hl, fun i u v hu hv => ?_⟩
  obtain ⟨r, x1, rfl, g1, e1⟩ := hx.get hu
  obtain ⟨t, y1, rfl, g2, e2⟩ := hy.get hv
  rw [g1] at g2
  cases g2
  exact alk_tp e1 e2 (hr _ (List.mem_of_getElem? g1))
theorem walk_inL {K : PySem.W.Frag} {a : Addr} {xs : List V} {H4 : Hp} {Nx : Hp → Prop} {B : V → Hp → (Hp → Prop) → Prop} (Pv : Nat → Hp → Prop) (h0 : Pv 0 H4) (hl : ∀ i H, Pv i H → SqL K H a xs) (hs : ∀ i x H, xs[i]? = some x → Pv i H → B x H (Pv (i + 1))) (hd : ∀ H, Pv xs.length H → Nx H) :
    ∃ W : Nat → Nat → Hp → Prop, (∃ m, W 0 m H4) ∧ ∀ i k H, W i k H → ((Itl K a).stop i H ∧ Nx H) ∨ ((Itl K a).go i H ∧ ∃ N : Hp → Prop, (∀ H', N H' → ∃ k', k' < k ∧ W (i + 1) k' H') ∧ ∀ x H', (Itl K a).yld i H x H' → B x H' N) := by
  refine ⟨fun i m H => m = xs.length - i ∧ i ≤ xs.length ∧ Pv i H, ⟨xs.length, by simp, Nat.zero_le _, h0⟩, ?_⟩
  rintro i m H ⟨rfl, hi, p⟩
  have q := hl i H p
  by_cases hlt : i < xs.length
  · refine .inr ⟨⟨xs, xs[i], q, by simp [hlt]⟩, Pv (i + 1), fun H' p' => ⟨xs.length - (i + 1), by omega, rfl, hlt, p'⟩, fun x H' y => ?_⟩
    obtain ⟨e, y⟩ := y
    subst e
    exact hs i x _ (y xs q) p
  · have e : i = xs.length := by omega
    subst e
    exact .inl ⟨⟨xs, q, Nat.le_refl _⟩, hd H p⟩
end TR
namespace TR
open PySem PySem.Spec PyProof.Rows L2
/-- a value's truth, the written part named -/
def tTruth (K : PySem.W.Frag) (ta : TE) : TT := fun σ H Q => ta σ H fun x H' => ∃ k, TruV K x H' k ∧ Q k H'
theorem pt_tru {X : Cx} {a : Expr} {ta : TE} {K : PySem.W.Frag} (ha : PE X a ta) (hK : X.K = K) (he : ∀ whole, isTrue a X.env whole = (do let v ← whole; standAt a.pos; holding [v] (truthy v))) : PT X a (tTruth K ta) := by
  subst hK
  exact pt_truth ha he
end TR
namespace TR
open PySem PySem.Spec PyProof.Rows L2
theorem scOne : FnScope ["_law_deck_here", "_law_some"] ["_law_deck_here", "_law_some"] (defScope sOne) := ⟨rfl, rfl, rfl, by decide +kernel, rfl, by decide +kernel, by decide +kernel⟩
section
variable {P : Program} {w : World} {K : PySem.W.Frag} {mg : Str → Option Value} {base : Heap}
def spOne : Sp := fun vs H Q _ => ∃ (d p q l : Addr) (c : Nat) (xs : List V), vs = [.ref d, .ref l] ∧ Deck H d p q c ∧ c ≤ 1000000 ∧ H l = some (.lst xs) ∧ l ≠ d ∧ l ≠ p ∧ xs ≠ [] ∧ xs.length < 1000000 ∧
  ∀ H' x, x ∈ xs → Deck H' d p q (c + 1) → Keep d p H H' → Q x H'
theorem ok_one {f fN : Addr} {fd fdN : FuncData} {k : Nat} (F : Fun K "_law_one" "_law_one" sOne f fd) (kN : PySem.W.keepIn K (.ref fN) = true) (bN : Binds K fdN ["_law_deck_here", "_law_many"] []) (gN : mg "_law_next" = some (.ref fN))
    (GN : FnOk P w K mg base CX0 (k + 1) fN fdN ["_law_deck_here", "_law_many"] spNext) (mlen : mg "len" = none) : FnOk P w K mg base CX0 (k + 2) f fd ["_law_deck_here", "_law_some"] spOne := by
  refine F.ok scOne (fun vs H Q E h => ?_) (fun cdv A outer s H vs Q E hr h => ?_)
  · obtain ⟨d, p, q, l, c, xs, rfl, _⟩ := h
    rfl
  · obtain ⟨d, p, q, l, c, xs, rfl, D0, hc, hl, nld, nlp, hne, hlen, qq⟩ := h
    refine ⟨_, pss_one (ps_ret (pe_ix ix_list (pv 1) (pe_call GN hr (by rfl) gN kN bN .nil pass0 (pa_cons (pv 0) (pa_cons (pe_callB call_len_seq (by rfl) mlen PySem.boot_len (pa_cons (pv 1) pa_nil)) pa_nil))) (fun _ _ => rfl))), ?_⟩
    have h0 : 0 < xs.length := List.length_pos_iff.mpr hne
    refine ⟨.ref l, rfl, .ref d, rfl, .ref l, rfl, l, xs, rfl, .inl (sqL hl), d, p, q, c, _, rfl, D0, hc, by omega, by omega, fun H1 r r0 r1 D1 k1 => ?_⟩
    obtain ⟨j, rfl⟩ := Int.eq_ofNat_of_zero_le r0
    have hj : j < xs.length := by omega
    exact ⟨l, xs, _, xs[j], rfl, rfl, sqL (k1 _ _ hl nld nlp), atI_nat (List.getElem?_eq_getElem hj), qq H1 _ (List.getElem_mem hj) D1 k1⟩
end
end TR
namespace TR
open PySem PySem.Spec PyProof.Rows L2
theorem scRoad : FnScope ["_law_deck_here", "_law_dishes", "_law_steps", "_law_found", "_law_done", "_law_turn", "_law_row", "_law_k", "_law_pairs", "_law_some"] ["_law_deck_here", "_law_dishes", "_law_steps"] (defScope sRoad) := ⟨rfl, rfl, rfl, by decide +kernel, rfl, by decide +kernel, by decide +kernel⟩
theorem units65 {k : Nat} {A : Around} (r : Room k A) : A.units + 65 < cLine := by
  have := r.un
  omega
/-! ### rows of rankings -/
def Rws (n : Nat) (H : Hp) (xs : List V) : Prop := ∀ x ∈ xs, ∃ b ms, x = .ref b ∧ Tp H b ms ∧ Rank n ms
theorem Rws.same {n : Nat} {H H' : Hp} {xs : List V} (h : Rws n H xs) (s : Same H H') : Rws n H' xs := fun x hx => by
  obtain ⟨b, ms, e, t, r⟩ := h x hx
  exact ⟨b, ms, e, t.same s, r⟩
theorem Rws.keep {n c : Nat} {H H' : Hp} {xs : List V} {d p q : Addr} (h : Rws n H xs) (D : Deck H d p q c) (s : Keep d p H H') : Rws n H' xs := fun x hx => by
  obtain ⟨b, ms, e, t, r⟩ := h x hx
  exact ⟨b, ms, e, t.keep D s, r⟩
theorem Tp.upd_lst {H : Hp} {a D : Addr} {ns : List Int} {xs ys : List V} (t : Tp H a ns) (e : H D = some (.lst xs)) : Tp (upd H D (.lst ys)) a ns := by
  obtain ⟨o, d, h⟩ := t
  exact ⟨o, d, by rw [upd_ne (ne_of h e (by intro z; cases z))]; exact h⟩
theorem Rws.upd_lst {n : Nat} {H : Hp} {D : Addr} {xs us ys : List V} (h : Rws n H xs) (e : H D = some (.lst us)) : Rws n (upd H D (.lst ys)) xs := fun x hx => by
  obtain ⟨b, ms, e1, t, r⟩ := h x hx
  exact ⟨b, ms, e1, t.upd_lst e, r⟩
theorem Rws.app {n : Nat} {H : Hp} {xs : List V} {b : Addr} {ms : List Int} (h : Rws n H xs) (t : Tp H b ms) (r : Rank n ms) : Rws n H (xs ++ [.ref b]) := fun x hx => by
  rcases List.mem_append.mp hx with hx | hx
  · exact h x hx
  · rw [List.mem_singleton] at hx
    exact ⟨b, ms, hx, t, r⟩
theorem Prs.keep {H H' : Hp} {vs : List V} {ps : List (Int × Int)} {d p q : Addr} {n : Nat} (h : Prs H vs ps) (D : Deck H d p q n) (s : Keep d p H H') : Prs H' vs ps := by
  induction h with
  | nil => exact .nil
  | cons e _ ih => exact .cons (rdT_keep e D s) ih
theorem Keep.free {H H1 : Hp} {d p q g : Addr} {n : Nat} (k : Keep d p H H1) (D : Deck H1 d p q n) (h : H1 g = none) : H g = none := by
  cases e : H g with
  | none => rfl
  | some o =>
    have := k g o e (D.ned h) (D.nep h)
    rw [h] at this
    cases this
theorem last_of {xs : List V} (h : xs ≠ []) : ∃ x ∈ xs, atI xs (-1) = some x := by
  refine ⟨xs.getLast h, List.getLast_mem h, ?_⟩
  have e := atI_last xs.dropLast (xs.getLast h)
  rw [List.dropLast_concat_getLast] at e
  exact e
/-! ### pairs as data -/
theorem can_prs : ∀ ps : List (Int × Int), PyData.canLayAll0 (ps.map pd) = true
  | [] => rfl
  | p :: r => by
    show (PyData.canLay0 (pd p) && PyData.canLayAll0 (r.map pd)) = true
    rw [can_prs r]
    rfl
theorem dep_prs : ∀ ps : List (Int × Int), PyData.depthAll (ps.map pd) ≤ 1
  | [] => Nat.zero_le _
  | p :: r => by
    show max (PyData.depth (pd p)) (PyData.depthAll (r.map pd)) ≤ 1
    exact Nat.max_le.mpr ⟨by show 1 ≤ 1; decide, dep_prs r⟩
theorem shaped_prs (ps : List (Int × Int)) : SeqAt.shaped (.list (ps.map pd)) = true := by
  show (PyData.canLayAll0 (ps.map pd) && decide (PyData.depthAll (ps.map pd) + 1 ≤ 64)) = true
  have h := dep_prs ps
  rw [can_prs, decide_eq_true (by omega)]
  rfl
theorem any_prs (qs : List (Int × Int)) (p : Int × Int) : ((qs.map pd).any fun z => PyData.eqv z (pd p)) = qs.contains p := by
  induction qs with
  | nil => rfl
  | cons x r ih =>
    rw [List.map_cons, List.any_cons, ih, List.contains_cons]
    congr 1
    show ((x.1 == p.1) && ((x.2 == p.2) && true)) = (p == x)
    rw [Bool.and_true, Bool.beq_comm (a := p)]
    rfl
section
variable {P : Program} {w : World} {K : PySem.W.Frag} {mg : Str → Option Value} {base : Heap}
/-! ### _law_road -/
def spRoad : Sp := fun vs H Q _ => ∃ (d p q : Addr) (c n st : Nat), vs = [.ref d, .int (n : Int), .int (st : Int)] ∧ Deck H d p q c ∧ c ≤ 900000 ∧ 1 ≤ n ∧ n ≤ 8 ∧ st ≤ 100 ∧
  ∀ H' l xs, H l = none → H' l = some (.lst xs) → Rws n H' xs → xs ≠ [] → xs.length ≤ st + 1 → Deck H' d p q (c + n + st) → Keep d p H H' → Q (.ref l) H'
theorem ok_road {f fL fO fE : Addr} {fd dL dO dE : FuncData} {k : Nat} (F : Fun K "_law_road" "_law_road" sRoad f fd)
    (kL : PySem.W.keepIn K (.ref fL) = true) (bL : Binds K dL ["_law_deck_here", "_law_dishes"] []) (gL : mg "_law_list" = some (.ref fL)) (GL : FnOk P w K mg base CX0 (k + 1) fL dL ["_law_deck_here", "_law_dishes"] spList)
    (kO : PySem.W.keepIn K (.ref fO) = true) (bO : Binds K dO ["_law_deck_here", "_law_some"] []) (gO : mg "_law_one" = some (.ref fO)) (GO : FnOk P w K mg base CX0 (k + 1) fO dO ["_law_deck_here", "_law_some"] spOne)
    (kE : PySem.W.keepIn K (.ref fE) = true) (bE : Binds K dE ["_law_row", "_law_k"] []) (gE : mg "_law_exchanged" = some (.ref fE)) (GE : FnOk P w K mg base CX0 (k + 1) fE dE ["_law_row", "_law_k"] spExch)
    (mr : mg "range" = none) (mt : mg "tuple" = none) (mso : mg "sorted" = none) : FnOk P w K mg base CX0 (k + 2) f fd ["_law_deck_here", "_law_dishes", "_law_steps"] spRoad := by
  refine F.ok scRoad (fun vs H Q E h => ?_) (fun cdv A outer s H vs Q E hr h => ?_)
  · obtain ⟨d, p, q, c, n, st, rfl, _⟩ := h
    rfl
  · obtain ⟨d, p, q, c, n, st, rfl, D0, hc, hn1, hn, hst, qq⟩ := h
    refine ⟨_, pss_cons (ps_set (i := 3) scRoad.nd rfl (.inl rfl) (pe_lst (pa_cons (pe_call GL hr (by rfl) gL kL bL .nil pass0 (pa_cons (pv 0) (pa_cons (pv 1) pa_nil))) pa_nil)))
      (pss_cons (ps_set (i := 4) scRoad.nd rfl (.inr rfl) (pe_lst pa_nil))
      (pss_cons (ps_for PassesOwn.never rfl (pi_range1 (by rfl) mr (pa_cons (pv 2) pa_nil)) (pg_name (i := 5) scRoad.nd rfl (.inl rfl))
        (pss_cons (ps_set (i := 6) scRoad.nd rfl (.inr rfl) (pe_ix ix_list (pv 3) (pe_un un_neg pe_int) (fun _ _ => rfl)))
        (pss_cons (ps_set (i := 8) scRoad.nd rfl (.inr rfl) (pe_lc (own := [("_law_k", 7)]) (g := gName 7) (tt := tYes) (by rfl) scRoad.nd (pi_range1 (by rfl) mr (pa_cons (pe_op op_sub (pv 1) pe_int) pa_nil))
            (blkOk_by (own := [("_law_k", 7)]) (N := ["_law_deck_here", "_law_dishes", "_law_steps", "_law_found", "_law_done", "_law_turn", "_law_row", "_law_k", "_law_pairs", "_law_some"]) (sc := defScope sRoad) (by decide +kernel)) (fun _ _ _ _ _ => pg_name (i := 7) scRoad.nd rfl (Or.inl rfl))
            (fun _ _ _ _ _ => pts_nil)
            (fun _ _ _ _ _ => pe_callTy (r := fun xs H Q => ∃ p ys, xs = [V.ref p] ∧ ((SqL K H p ys ∧ ∀ l, H l = none → Q (.ref l) (upd H l (.tup ys))) ∨ (SqT K H p ys ∧ Q (.ref p) H))) call_tuple_of (by rfl) mt (by decide +kernel) (pa_cons (pe_callB (r := rSortedTI K) cr_sortedTI (by rfl) mso (by decide +kernel) (pa_cons (pe_slice (r := rSlF K) sl_tupF (pv 6) (po_some (pv 7)) (po_some (pe_op op_add (pv 7) pe_int))) pa_nil)) pa_nil))))
        (pss_cons (ps_setLc (i := 9) (own := [("_law_k", 7)]) (g := gName 7) (by rfl) scRoad.nd rfl rfl (sw_true rfl rfl rfl (by decide +kernel)) (pi_range1 (by rfl) mr (pa_cons (pe_op op_sub (pv 1) pe_int) pa_nil))
            (blkOk_by (own := [("_law_k", 7)]) (N := ["_law_deck_here", "_law_dishes", "_law_steps", "_law_found", "_law_done", "_law_turn", "_law_row", "_law_k", "_law_pairs", "_law_some"]) (sc := defScope sRoad) (by decide +kernel)) (fun _ _ _ _ _ => pg_name (i := 7) scRoad.nd rfl (Or.inl rfl))
            (fun _ _ _ _ _ => pts_one (pt_cmpR (r := rNotInD K) (op_notInD (units65 hr)) (pe_ix (r := rIxL K) ix_list (pv 8) (pv 7) (fun _ _ => rfl)) (pv 4) (by rfl)))
            (fun _ _ _ _ _ => pv 7))
        (pss_one (ps_if (pt_cmpR (op_neD hr.units) (pv 9) (pe_lst pa_nil) (nomark _))
          (pss_cons (ps_set (i := 7) scRoad.nd rfl (.inl rfl) (pe_call GO hr (by rfl) gO kO bO .nil pass0 (pa_cons (pv 0) (pa_cons (pv 9) pa_nil))))
          (pss_cons (ps_expr (pe_bm PySem.F.plainAttrs_list PySem.F.slot_list_append PySem.F.type_list_append mt_append (pv 4) (pa_cons (pe_ix ix_list (pv 8) (pv 7) (fun _ _ => rfl)) pa_nil)))
          (pss_one (ps_expr (pe_bm PySem.F.plainAttrs_list PySem.F.slot_list_append PySem.F.type_list_append mt_append (pv 3) (pa_cons (pe_call GE hr (by rfl) gE kE bE .nil pass0 (pa_cons (pv 6) (pa_cons (pv 7) pa_nil))) pa_nil)))))) pss_nil))))))
      (pss_one (ps_ret (pv 3))))), ?_⟩
    refine ⟨.ref d, rfl, .int (n : Int), rfl, d, p, q, c, n, rfl, D0, by omega, hn, fun H1 t ns hrk D1 k1 t1 => ⟨by show 1 ≤ sizeLine; decide, fun g hg => ?_⟩⟩
    have hg0 : H g = none := k1.free D1 hg
    have s2 : Same H1 (upd H1 g (.lst [.ref t])) := same_upd hg
    have eg : upd H1 g (.lst [.ref t]) g = some (.lst [.ref t]) := upd_same
    have D2 := D1.same s2
    have k2 : Keep d p H (upd H1 g (.lst [.ref t])) := k1.trans (Same.keep s2)
    have r2 : Rws n (upd H1 g (.lst [.ref t])) [.ref t] := fun x hx => ⟨t, ns, List.mem_singleton.mp hx, t1.same s2, hrk⟩
    generalize upd H1 g (.lst [.ref t]) = H2 at s2 eg D2 k2 r2 ⊢
    refine ⟨Nat.zero_le _, fun e he => ?_⟩
    have he0 : H e = none := k2.free D2 he
    have nge : g ≠ e := ne_of_none eg he
    have s3 : Same H2 (upd H2 e (.lst [])) := same_upd he
    have ee : upd H2 e (.lst []) e = some (.lst []) := upd_same
    have k3 : Keep d p H (upd H2 e (.lst [])) := k2.trans (Same.keep s3)
    have D3 := D2.same s3
    have r3 := r2.same s3
    have eg3 := s3 _ _ eg
    generalize upd H2 e (.lst []) = H3 at s3 ee D3 k3 r3 eg3 ⊢
    have ngd : g ≠ d := D0.ned hg0
    have ngp : g ≠ p := D0.nep hg0
    have ngq : g ≠ q := D0.neq hg0
    have ned : e ≠ d := D0.ned he0
    have nep : e ≠ p := D0.nep he0
    have neq : e ≠ q := D0.neq he0
    refine ⟨.int (st : Int), rfl, st, rfl, by omega, by omega, for_range (n := st) (lo := 0) (fun i σ H4 => (∃ y5 y6 y7 y8 y9, σ = [some (.ref d), some (.int (n : Int)), some (.int (st : Int)), some (.ref g), some (.ref e), y5, y6, y7, y8, y9]) ∧ (∃ xs, H4 g = some (.lst xs) ∧ Rws n H4 xs ∧ xs ≠ [] ∧ xs.length ≤ i + 1) ∧ (∃ ys ps, H4 e = some (.lst ys) ∧ Prs H4 ys ps ∧ ys.length ≤ i) ∧ Deck H4 d p q (c + n + i) ∧ Keep d p H H4)
      ⟨⟨none, none, none, none, none, rfl⟩, ⟨[.ref t], eg3, r3, by simp, Nat.le_refl _⟩, ⟨[], [], ee, .nil, Nat.le_refl _⟩, D3, k3⟩ (fun i σ H4 hi h => ?_) (fun σ H4 h => ?_)⟩
    · obtain ⟨⟨y5, y6, y7, y8, y9, rfl⟩, ⟨xs, eg4, r4, hx0, hxl⟩, ⟨ys, ps, ee4, p4, hyl⟩, D4, k4⟩ := h
      obtain ⟨x, hx, hxa⟩ := last_of hx0
      obtain ⟨b, ms, rfl, tb, hrb⟩ := r4 x hx
      have ml : (ms.map V.int).length = n := by
        rw [List.length_map]
        exact hrb.len
      refine ⟨.ref g, rfl, 1, rfl, g, xs, -1, _, rfl, rfl, sqL eg4, hxa, ?_⟩
      refine ⟨.int (n : Int), rfl, _, _, rfl, rfl, _, rfl, by omega, by omega, fun W hW => walk_in (n := ((n : Int) - 1).toNat) (lo := 0) (fun j H5 => Same H4 H5 ∧ ∃ zs qs, H5 W = some (.lst zs) ∧ Prs H5 zs qs ∧ zs.length = j) ⟨same_upd hW, [], [], upd_same, .nil, rfl⟩ (fun j H5 hj h => ?_) (fun H5 h => ?_)⟩
      · obtain ⟨s5, zs, qs, eW, pW, lW⟩ := h
        have tb5 := tb.same s5
        have step : ∀ (H6 : Hp) (u : Addr), Same H5 H6 → SqT K H6 u (((ms.drop j).take 2).map V.int) → tThen (fun _ H Q => Q (.ref u) H) (fun x H Q => rSortedTI K [x] H fun y H7 => (fun xs H Q => ∃ p ys, xs = [V.ref p] ∧ ((SqL K H p ys ∧ ∀ l, H l = none → Q (.ref l) (upd H l (.tup ys))) ∨ (SqT K H p ys ∧ Q (.ref p) H))) [y] H7 Q) [] H6 (fun y H7 => ∃ acc, H7 W = some (.lst acc) ∧ acc.length < sizeLine ∧ (Same H4 (upd H7 W (.lst (acc ++ [y]))) ∧ ∃ zs qs, upd H7 W (.lst (acc ++ [y])) W = some (.lst zs) ∧ Prs (upd H7 W (.lst (acc ++ [y]))) zs qs ∧ zs.length = j + 1)) := by
          intro H6 u s6 hu
          refine ⟨u, _, rfl, hu, fun os l1 hperm _ hl1 => ?_⟩
          obtain ⟨u1, u2, rfl⟩ : ∃ u1 u2, os = [u1, u2] := by
            have e1 := hperm.length_eq
            have e2 : ((ms.drop j).take 2).length = 2 := by
              rw [List.length_take, List.length_drop, hrb.len]
              omega
            rw [e2] at e1
            match os, e1 with
            | [u1, u2], _ => exact ⟨u1, u2, rfl⟩
          refine ⟨l1, _, rfl, .inl ⟨sqL upd_same, fun l2 hl2 => ?_⟩⟩
          have s7 : Same H6 (upd (upd H6 l1 (.lst ([u1, u2].map V.int))) l2 (.tup ([u1, u2].map V.int))) := (same_upd hl1).trans (same_upd hl2)
          have e7 : upd (upd H6 l1 (.lst ([u1, u2].map V.int))) l2 (.tup ([u1, u2].map V.int)) l2 = some (.tup [.int u1, .int u2]) := upd_same
          have s47 := s5.trans (s6.trans s7)
          have s57 := s6.trans s7
          generalize upd (upd H6 l1 (.lst ([u1, u2].map V.int))) l2 (.tup ([u1, u2].map V.int)) = H7 at s7 e7 s47 s57 ⊢
          have eW7 := s57 _ _ eW
          refine ⟨zs, eW7, small1000 (by omega), same_upd2 s47 hW, zs ++ [.ref l2], qs ++ [(u1, u2)], upd_same, ?_, ?_⟩
          · exact ((pW.same s57).upd_lst eW7).append (.cons (rdT_updl (.inl e7) eW7) .nil)
          · rw [List.length_append, lW]
            rfl
        have ecut : cutV (ms.map V.int) (some (0 + (j : Int))) (some (0 + (j : Int) + 2)) = ((ms.drop j).take 2).map V.int := by
          unfold cutV
          rw [show (0 + (j : Int)) = (j : Int) by omega, show ((j : Int) + 2) = ((j + 2 : Nat) : Int) by omega, HT.sIx_nat, HT.sIx_nat, ml, Nat.min_eq_left (by omega), Nat.min_eq_left (by omega), List.map_take, List.map_drop]
          rw [show j + 2 - j = 2 by omega]
        refine ⟨rfl, .ref b, rfl, .int (0 + (j : Int)), rfl, _, rfl, .int (0 + (j : Int)), rfl, _, 2, rfl, rfl, _, rfl, b, _, rfl, tb5.sq, fun hw => step H5 b (Same.refl _) ?_, fun _ u o hu ho => step _ u (same_upd hu) ?_⟩
        · have ewhole : ((ms.drop j).take 2).map V.int = ms.map V.int := by
            rw [← ecut]
            unfold cutV
            rw [hw.1, hw.2]
            show ((ms.map V.int).take ((ms.map V.int).length - 0)) = _
            exact List.take_of_length_le (by omega)
          rw [ewhole]
          exact tb5.sq
        · rw [ecut]
          exact .inl (.inr ⟨o, upd_same⟩)
      · obtain ⟨s5, zs, qs, eW, pW, lW⟩ := h
        have ee5 := s5 _ _ ee4
        have p5 := p4.same s5
        refine ⟨.int (n : Int), rfl, _, _, rfl, rfl, _, rfl, by omega, by omega, fun S hS => walk_in (n := ((n : Int) - 1).toNat) (lo := 0) (fun j H6 => Same H5 H6 ∧ ∃ ks : List Int, H6 S = some (.lst (ks.map V.int)) ∧ ks.length ≤ j ∧ ∀ z ∈ ks, 0 ≤ z ∧ z < (j : Int)) ⟨same_upd hS, [], upd_same, Nat.le_refl _, fun _ hz => by cases hz⟩ (fun j H6 hj h => ?_) (fun H6 h => ?_)⟩
        · obtain ⟨s6, ks, eS, lS, bS⟩ := h
          have hjz : j < zs.length := by omega
          have gz : zs[j]? = some zs[j] := List.getElem?_eq_getElem hjz
          obtain ⟨r, v1, v2, er, hg2, hr2⟩ := pW.get gz
          have az : atI zs (0 + (j : Int)) = some (.ref r) := by
            rw [show (0 + (j : Int)) = (j : Int) by omega, ← er]
            exact atI_nat gz
          refine ⟨rfl, .ref W, rfl, .int (0 + (j : Int)), rfl, W, zs, _, _, rfl, rfl, sqL (s6 _ _ eW), az, .ref e, rfl, pd (v1, v2), ps.map pd, .tup (.inl (rdT_same hr2 s6)) (.cons (.int _) (.cons (.int _) .nil)), .lst (sqL (s6 _ _ ee5)) (p5.same s6).dp, rfl, shaped_prs ps, _, rfl, ?_⟩
          refine ite2 (fun _ => ?_) (fun _ => ?_)
          · refine ⟨.int (0 + (j : Int)), rfl, _, eS, by rw [List.length_map]; exact small1000 (by omega), same_upd2 s6 hS, ks ++ [0 + (j : Int)], ?_, ?_, ?_⟩
            · rw [upd_same, List.map_append]
              rfl
            · rw [List.length_append]
              show ks.length + 1 ≤ j + 1
              omega
            · intro z hz
              rcases List.mem_append.mp hz with hz | hz
              · have := bS z hz
                omega
              · rw [List.mem_singleton] at hz
                omega
          · exact ⟨s6, ks, eS, by omega, fun z hz => by have := bS z hz; omega⟩
        · obtain ⟨s6, ks, eS, lS, bS⟩ := h
          have s46 := s5.trans s6
          refine ⟨.ref S, rfl, Nat.zero_le _, fun z hz => ?_⟩
          have s7 : Same H6 (upd H6 z (.lst [])) := same_upd hz
          refine ⟨_, _, .lst (sqL (s7 _ _ eS)) (dpAll_ints ks), .lst (sqL upd_same) .nil, shaped_ints ks, rfl, _, rfl, ?_⟩
          rw [eqv_nil]
          have s47 := s46.trans s7
          have s57 := s6.trans s7
          have eS7 := s7 _ _ eS
          generalize upd H6 z (.lst []) = H7 at s7 s47 s57 eS7 ⊢
          have D7 := D4.same s47
          have k7 : Keep d p H H7 := k4.trans (Same.keep s47)
          have nSd : S ≠ d := (D4.same s5).ned hS
          have nSp : S ≠ p := (D4.same s5).nep hS
          cases ks with
          | nil =>
            refine iteF ?_
            exact ⟨⟨_, _, _, _, _, rfl⟩, ⟨xs, s47 _ _ eg4, r4.same s47, hx0, by omega⟩, ⟨ys, ps, s47 _ _ ee4, p4.same s47, by omega⟩, D7.mono (by omega), k7⟩
          | cons k0 kr =>
            refine iteT ?_
            refine ⟨.ref d, rfl, .ref S, rfl, d, p, q, S, c + n + i, _, rfl, D7, by omega, eS7, nSd, nSp, by simp, ?_, fun H8 v hv D8 k8 => ?_⟩
            · rw [List.length_map]
              omega
            · obtain ⟨kk, hkk, rfl⟩ := List.mem_map.mp hv
              have bk := bS kk hkk
              obtain ⟨j, rfl⟩ := Int.eq_ofNat_of_zero_le bk.1
              have hjz : j < zs.length := by omega
              have gz : zs[j]? = some zs[j] := List.getElem?_eq_getElem hjz
              have pW8 := (pW.same s57).keep D7 k8
              obtain ⟨r, v1, v2, er, hg2, hr2⟩ := pW8.get gz
              have nWd : W ≠ d := D4.ned hW
              have nWp : W ≠ p := D4.nep hW
              have eW8 := k8 _ _ (s57 _ _ eW) nWd nWp
              have ee8 := k8 _ _ (s47 _ _ ee4) ned nep
              have eg8 := k8 _ _ (s47 _ _ eg4) ngd ngp
              have tb8 := (tb.same s47).keep D7 k8
              have r8 := (r4.same s47).keep D7 k8
              have p8 := (p4.same s47).keep D7 k8
              have az : atI zs (j : Int) = some (.ref r) := by
                rw [← er]
                exact atI_nat gz
              refine ⟨.ref e, rfl, .inl ⟨rfl, _, sqL ee8⟩, .ref W, rfl, .int (j : Int), rfl, W, zs, _, _, rfl, rfl, sqL eW8, az, e, ys, _, rfl, rfl, ee8, small1000 (by omega), ?_⟩
              have eg9 : upd H8 e (.lst (ys ++ [.ref r])) g = some (.lst xs) := by
                rw [upd_ne nge]
                exact eg8
              have ee9 : upd H8 e (.lst (ys ++ [.ref r])) e = some (.lst (ys ++ [.ref r])) := upd_same
              have tb9 : Tp (upd H8 e (.lst (ys ++ [.ref r]))) b ms := tb8.upd_lst ee8
              have r9 : Rws n (upd H8 e (.lst (ys ++ [.ref r]))) xs := r8.upd_lst ee8
              have p9 : Prs (upd H8 e (.lst (ys ++ [.ref r]))) (ys ++ [.ref r]) (ps ++ [(v1, v2)]) := (p8.upd_lst ee8).append (.cons (rdT_updl hr2 ee8) .nil)
              have D9 : Deck (upd H8 e (.lst (ys ++ [.ref r]))) d p q (c + n + i + 1) := D8.upd ned nep neq
              have k9 : Keep d p H (upd H8 e (.lst (ys ++ [.ref r]))) := keep_fresh (k7.trans k8) he0
              generalize upd H8 e (.lst (ys ++ [.ref r])) = H9 at eg9 ee9 tb9 r9 p9 D9 k9 ⊢
              refine ⟨.ref g, rfl, .inl ⟨rfl, _, sqL eg9⟩, .ref b, rfl, .int (j : Int), rfl, b, ms, n, j, rfl, tb9, hrb, by omega, hn, fun Ha u sa hru tu => ?_⟩
              have ega := sa _ _ eg9
              refine ⟨g, xs, _, rfl, rfl, ega, small1000 (by omega), ⟨_, _, _, _, _, rfl⟩, ⟨xs ++ [.ref u], upd_same, ?_, by simp, ?_⟩, ⟨ys ++ [.ref r], ps ++ [(v1, v2)], ?_, (p9.same sa).upd_lst ega, ?_⟩, ?_, ?_⟩
              · exact ((r9.same sa).upd_lst ega).app (tu.upd_lst ega) hru
              · rw [List.length_append]
                show xs.length + 1 ≤ i + 1 + 1
                omega
              · rw [upd_ne nge.symm]
                exact sa _ _ ee9
              · rw [List.length_append]
                show ys.length + 1 ≤ i + 1
                omega
              · exact (D9.same sa).upd ngd ngp ngq
              · exact keep_fresh (k9.trans (Same.keep sa)) hg0
    · obtain ⟨⟨y5, y6, y7, y8, y9, rfl⟩, ⟨xs, eg4, r4, hx0, hxl⟩, _, D4, k4⟩ := h
      exact ⟨.ref g, rfl, qq H4 g xs hg0 eg4 r4 hx0 hxl D4 k4⟩
end
end TR
namespace TR
open PySem PySem.Spec PyProof.Rows L2
section
variable {P : Program} {w : World} {K : PySem.W.Frag} {mg : Str → Option Value} {base : Heap}
def spLaw (K : PySem.W.Frag) : Sp := fun vs H Q _ => ∃ (a : Addr) (ns : List Int), vs = [.ref a] ∧ SqL K H a (ns.map V.int) ∧ ns.length ≤ 63 ∧ ∀ H', Q (.bl true) H'
end
end TR
namespace TR
open PySem PySem.Spec PyProof.Rows L2
/-! ### tables in the heap -/
theorem Tp.rd {H : Hp} {a : Addr} {ns : List Int} (t : Tp H a ns) : Rd H a (.tup (ns.map V.int)) := by
  obtain ⟨o, _, h⟩ := t
  exact .inr ⟨o, h⟩
theorem tp_updl {H : Hp} {a D : Addr} {ns : List Int} {xs ys : List V} (t : Tp H a ns) (e : H D = some (.lst xs)) : Tp (upd H D (.lst ys)) a ns := by
  obtain ⟨o, d, h⟩ := t
  exact ⟨o, d, by rw [upd_ne (ne_of h e (by intro z; cases z))]; exact h⟩
abbrev Tas := List (List Int × Int)
inductive Tst (H : Hp) : List V → Tas → Prop
  | nil : Tst H [] []
  | cons {t r : Addr} {rk : List Int} {w : Int} {vs : List V} {ts : Tas} : Rd H t (.tup [.ref r, .int w]) → Tp H r rk → Tst H vs ts → Tst H (.ref t :: vs) ((rk, w) :: ts)
theorem Tst.same {H H' : Hp} {vs : List V} {ts : Tas} (h : Tst H vs ts) (s : Same H H') : Tst H' vs ts := by
  induction h with
  | nil => exact .nil
  | cons e f _ ih => exact .cons (rdT_same e s) (f.same s) ih
theorem Tst.keep {H H' : Hp} {vs : List V} {ts : Tas} {d p q : Addr} {n : Nat} (h : Tst H vs ts) (D : Deck H d p q n) (s : Keep d p H H') : Tst H' vs ts := by
  induction h with
  | nil => exact .nil
  | cons e f _ ih => exact .cons (rdT_keep e D s) (f.keep D s) ih
theorem Tst.updl {H : Hp} {vs : List V} {ts : Tas} {D : Addr} {xs ys : List V} (h : Tst H vs ts) (e : H D = some (.lst xs)) : Tst (upd H D (.lst ys)) vs ts := by
  induction h with
  | nil => exact .nil
  | cons e1 f _ ih => exact .cons (rdT_updl e1 e) (tp_updl f e) ih
theorem Tst.app {H : Hp} {vs us : List V} {ts ss : Tas} (h : Tst H vs ts) (g : Tst H us ss) : Tst H (vs ++ us) (ts ++ ss) := by
  induction h with
  | nil => exact g
  | cons e f _ ih => exact .cons e f ih
theorem Tst.len {H : Hp} {vs : List V} {ts : Tas} (h : Tst H vs ts) : vs.length = ts.length := by
  induction h with
  | nil => rfl
  | cons _ _ _ ih => rw [List.length_cons, List.length_cons, ih]
theorem Tst.get {H : Hp} {vs : List V} {ts : Tas} (h : Tst H vs ts) : ∀ {i : Nat} {x : V}, vs[i]? = some x → ∃ t r rk w, x = .ref t ∧ ts[i]? = some (rk, w) ∧ Rd H t (.tup [.ref r, .int w]) ∧ Tp H r rk := by
  induction h with
  | nil => intro i x e; simp at e
  | cons e f _ ih =>
    intro i x g
    cases i with
    | zero => exact ⟨_, _, _, _, (Option.some.inj g).symm, rfl, e, f⟩
    | succ i => exact ih g
def Tab (H : Hp) (a : Addr) (n : Nat) (ts : Tas) : Prop := ∃ b xs, Rd H a (.tup [.int (n : Int), .ref b]) ∧ Rd H b (.tup xs) ∧ Tst H xs ts
theorem Tab.same {H H' : Hp} {a : Addr} {n : Nat} {ts : Tas} (h : Tab H a n ts) (s : Same H H') : Tab H' a n ts := by
  obtain ⟨b, xs, h1, h2, h3⟩ := h
  exact ⟨b, xs, rdT_same h1 s, rdT_same h2 s, h3.same s⟩
theorem Tab.keep {H H' : Hp} {a d p q : Addr} {n m : Nat} {ts : Tas} (h : Tab H a n ts) (D : Deck H d p q m) (s : Keep d p H H') : Tab H' a n ts := by
  obtain ⟨b, xs, h1, h2, h3⟩ := h
  exact ⟨b, xs, rdT_keep h1 D s, rdT_keep h2 D s, h3.keep D s⟩
structure WfT (D M n : Nat) (ts : Tas) : Prop where
  n1 : 1 ≤ n
  nD : n ≤ D
  l1 : 1 ≤ ts.length
  lM : ts.length ≤ M
  all : ∀ t ∈ ts, Rank n t.1 ∧ 1 ≤ t.2 ∧ t.2 ≤ 1000000000000
end TR
namespace TR
open PySem PySem.Spec PyProof.Rows L2
theorem scPeople : FnScope ["_law_deck_here"] ["_law_deck_here"] (defScope sPeople) := ⟨rfl, rfl, rfl, by decide +kernel, rfl, by decide +kernel, by decide +kernel⟩
section
variable {P : Program} {w : World} {K : PySem.W.Frag} {mg : Str → Option Value} {base : Heap}
def spPeople : Sp := fun vs H Q _ => ∃ (d p q : Addr) (c : Nat), vs = [.ref d] ∧ Deck H d p q c ∧ c ≤ 990000 ∧
  ∀ H' w, 1 ≤ w → w ≤ 1000000000000 → Deck H' d p q (c + 3) → Keep d p H H' → Q (.int w) H'
theorem ok_People {f f__law_next : Addr} {fd d__law_next : FuncData} {m : Nat} (F : Fun K "_law_people" "_law_people" sPeople f fd)
    (k__law_next : PySem.W.keepIn K (.ref f__law_next) = true) (b__law_next : Binds K d__law_next ["_law_deck_here", "_law_many"] []) (g__law_next : mg "_law_next" = some (.ref f__law_next)) (G__law_next : FnOk P w K mg base CX0 m f__law_next d__law_next ["_law_deck_here", "_law_many"] spNext)
     : FnOk P w K mg base CX0 (m + 1) f fd ["_law_deck_here"] spPeople := by
  refine F.ok scPeople (fun vs H Q E h => ?_) (fun cdv A outer s H vs Q E hr h => ?_)
  · obtain ⟨d, p, q, c, rfl, _⟩ := h
    rfl
  · obtain ⟨d, p, q, c, rfl, D0, hc, qq⟩ := h
    refine ⟨_, 
      (pss_one (ps_ret (pe_ix (r := rIxL K) ix_list (pe_lst (pa_cons pe_int (pa_cons pe_int (pa_cons (pe_op op_add pe_int (pe_call G__law_next hr (by rfl) g__law_next k__law_next b__law_next .nil pass0 (pa_cons (pv 0) (pa_cons pe_int pa_nil)))) (pa_cons (pe_op op_add pe_int (pe_call G__law_next hr (by rfl) g__law_next k__law_next b__law_next .nil pass0 (pa_cons (pv 0) (pa_cons (pe_op op_pow pe_int pe_int) pa_nil)))) (pa_cons (pe_op op_pow pe_int pe_int) pa_nil)))))) (pe_call G__law_next hr (by rfl) g__law_next k__law_next b__law_next .nil pass0 (pa_cons (pv 0) (pa_cons pe_int pa_nil))) (fun _ _ => rfl)))), ?_⟩
    refine ⟨.ref d, rfl, d, p, q, c, 5, rfl, D0, by omega, by decide, by decide, fun H1 r r0 r1 D1 k1 => ⟨1, r, rfl, rfl, ?_⟩⟩
    refine ⟨.ref d, rfl, 10, 12, rfl, rfl, ⟨by decide, by decide, by decide⟩, d, p, q, c + 1, 1000000000000, rfl, D1, by omega, by decide, by decide, fun H2 z z0 z1 D2 k2 => ⟨1, z, rfl, rfl, ?_⟩⟩
    refine ⟨10, 12, rfl, rfl, ⟨by decide, by decide, by decide⟩, by show 5 ≤ sizeLine; decide, fun l hl => ?_⟩
    have s3 : Same H2 (upd H2 l (.lst [.int 1, .int 1, .int (1 + r), .int (1 + z), .int 1000000000000])) := same_upd hl
    have e3 : upd H2 l (.lst [.int 1, .int 1, .int (1 + r), .int (1 + z), .int 1000000000000]) l = some (.lst [.int 1, .int 1, .int (1 + r), .int (1 + z), .int 1000000000000]) := upd_same
    have D3 := D2.same s3
    refine ⟨.ref d, rfl, d, p, q, c + 2, 5, rfl, D3, by omega, by decide, by decide, fun H4 k k0 kk D4 k4 => ?_⟩
    have nld : l ≠ d := D2.ned hl
    have nlp : l ≠ p := D2.nep hl
    have e4 := k4 _ _ e3 nld nlp
    have kp : Keep d p H H4 := k1.trans (k2.trans ((Same.keep s3).trans k4))
    have hk : k = 0 ∨ k = 1 ∨ k = 2 ∨ k = 3 ∨ k = 4 := by omega
    rcases hk with rfl | rfl | rfl | rfl | rfl
    · exact ⟨l, _, _, _, rfl, rfl, sqL e4, atI_nat (j := 0) rfl, qq H4 _ (by omega) (by omega) D4 kp⟩
    · exact ⟨l, _, _, _, rfl, rfl, sqL e4, atI_nat (j := 1) rfl, qq H4 _ (by omega) (by omega) D4 kp⟩
    · exact ⟨l, _, _, _, rfl, rfl, sqL e4, atI_nat (j := 2) rfl, qq H4 _ (by omega) (by omega) D4 kp⟩
    · exact ⟨l, _, _, _, rfl, rfl, sqL e4, atI_nat (j := 3) rfl, qq H4 _ (by omega) (by omega) D4 kp⟩
    · exact ⟨l, _, _, _, rfl, rfl, sqL e4, atI_nat (j := 4) rfl, qq H4 _ (by omega) (by omega) D4 kp⟩
end
end TR
namespace TR
open PySem PySem.Spec PyProof.Rows L2
theorem scSeated : FnScope ["_law_deck_here", "_law_dishes", "_law_many", "_law_road_here", "_law_k"] ["_law_deck_here", "_law_dishes", "_law_many"] (defScope sSeated) := ⟨rfl, rfl, rfl, by decide +kernel, rfl, by decide +kernel, by decide +kernel⟩
section
variable {P : Program} {w : World} {K : PySem.W.Frag} {mg : Str → Option Value} {base : Heap}
def spSeated : Sp := fun vs H Q _ => ∃ (d p q : Addr) (c n m : Nat), vs = [.ref d, .int (n : Int), .int (m : Int)] ∧ Deck H d p q c ∧ c ≤ 890000 ∧ 1 ≤ n ∧ n ≤ 8 ∧ 1 ≤ m ∧ m ≤ 16 ∧
  ∀ H' a ts, Tab H' a n ts → ts.length = m → (∀ t ∈ ts, Rank n t.1 ∧ 1 ≤ t.2 ∧ t.2 ≤ 1000000000000) → Deck H' d p q (c + 240) → Keep d p H H' → Q (.ref a) H'
theorem ok_Seated {f f__law_road f__law_next f__law_people f__law_one : Addr} {fd d__law_road d__law_next d__law_people d__law_one : FuncData} {m : Nat} (F : Fun K "_law_seated" "_law_seated" sSeated f fd)
    (k__law_road : PySem.W.keepIn K (.ref f__law_road) = true) (b__law_road : Binds K d__law_road ["_law_deck_here", "_law_dishes", "_law_steps"] []) (g__law_road : mg "_law_road" = some (.ref f__law_road)) (G__law_road : FnOk P w K mg base CX0 m f__law_road d__law_road ["_law_deck_here", "_law_dishes", "_law_steps"] spRoad)
    (k__law_next : PySem.W.keepIn K (.ref f__law_next) = true) (b__law_next : Binds K d__law_next ["_law_deck_here", "_law_many"] []) (g__law_next : mg "_law_next" = some (.ref f__law_next)) (G__law_next : FnOk P w K mg base CX0 m f__law_next d__law_next ["_law_deck_here", "_law_many"] spNext)
    (k__law_people : PySem.W.keepIn K (.ref f__law_people) = true) (b__law_people : Binds K d__law_people ["_law_deck_here"] []) (g__law_people : mg "_law_people" = some (.ref f__law_people)) (G__law_people : FnOk P w K mg base CX0 m f__law_people d__law_people ["_law_deck_here"] spPeople)
    (k__law_one : PySem.W.keepIn K (.ref f__law_one) = true) (b__law_one : Binds K d__law_one ["_law_deck_here", "_law_some"] []) (g__law_one : mg "_law_one" = some (.ref f__law_one)) (G__law_one : FnOk P w K mg base CX0 m f__law_one d__law_one ["_law_deck_here", "_law_some"] spOne)
    (m_tuple : mg "tuple" = none) (m_range : mg "range" = none) : FnOk P w K mg base CX0 (m + 1) f fd ["_law_deck_here", "_law_dishes", "_law_many"] spSeated := by
  refine F.ok scSeated (fun vs H Q E h => ?_) (fun cdv A outer s H vs Q E hr h => ?_)
  · obtain ⟨d, p, q, c, n, m, rfl, _⟩ := h
    rfl
  · obtain ⟨d, p, q, c, n, m, rfl, D0, hc, hn1, hn, hm1, hm, qq⟩ := h
    refine ⟨_, 
      (pss_cons (ps_set (i := 3) scSeated.nd rfl (.inr rfl) (pe_call G__law_road hr (by rfl) g__law_road k__law_road b__law_road .nil pass0 (pa_cons (pv 0) (pa_cons (pv 1) (pa_cons (pe_ix (r := rIxL K) ix_list (pe_lst (pa_cons pe_int (pa_cons pe_int (pa_cons pe_int pa_nil)))) (pe_call G__law_next hr (by rfl) g__law_next k__law_next b__law_next .nil pass0 (pa_cons (pv 0) (pa_cons pe_int pa_nil))) (fun _ _ => rfl)) pa_nil))))) 
      (pss_one (ps_ret (pe_tup (pa_cons (pv 1) (pa_cons (pe_callTy call_tupleF (by rfl) m_tuple (by decide +kernel) (pa_cons (pe_lc (own := [("_law_k", 4)]) (g := gName 4) (tt := tYes) (by rfl) scSeated.nd (pi_range1 (by rfl) m_range (pa_cons (pv 2) pa_nil)) (blkOk_by (own := [("_law_k", 4)]) (N := ["_law_deck_here", "_law_dishes", "_law_many", "_law_road_here", "_law_k"]) (sc := defScope sSeated) (by decide +kernel)) (fun _ _ _ _ _ => (pg_name (i := 4) scSeated.nd rfl (Or.inl rfl))) (fun _ _ _ _ _ => pts_nil) (fun _ _ _ _ _ => (pe_tup (pa_cons (pe_call G__law_one hr (by rfl) g__law_one k__law_one b__law_one .nil pass0 (pa_cons (pv 0) (pa_cons (pv 3) pa_nil))) (pa_cons (pe_call G__law_people hr (by rfl) g__law_people k__law_people b__law_people .nil pass0 (pa_cons (pv 0) pa_nil)) pa_nil))))) pa_nil)) pa_nil)))))), ?_⟩
    refine ⟨.ref d, rfl, .int (n : Int), rfl, by show 3 ≤ sizeLine; decide, fun l hl => ?_⟩
    have s1 : Same H (upd H l (.lst [.int 2, .int 5, .int 28])) := same_upd hl
    have e1 : upd H l (.lst [.int 2, .int 5, .int 28]) l = some (.lst [.int 2, .int 5, .int 28]) := upd_same
    have D1 := D0.same s1
    refine ⟨.ref d, rfl, d, p, q, c, 3, rfl, D1, by omega, by decide, by decide, fun H2 r r0 r1 D2 k2 => ?_⟩
    have e2 := k2 _ _ e1 (D0.ned hl) (D0.nep hl)
    obtain ⟨st, hst, hat⟩ : ∃ st : Nat, st ≤ 28 ∧ atI [V.int 2, V.int 5, V.int 28] r = some (.int (st : Int)) := by
      have hr3 : r = 0 ∨ r = 1 ∨ r = 2 := by omega
      rcases hr3 with rfl | rfl | rfl
      · exact ⟨2, by decide, atI_nat (j := 0) rfl⟩
      · exact ⟨5, by decide, atI_nat (j := 1) rfl⟩
      · exact ⟨28, by decide, atI_nat (j := 2) rfl⟩
    have k02 : Keep d p H H2 := (Same.keep s1).trans k2
    refine ⟨l, _, r, _, rfl, rfl, sqL e2, hat, d, p, q, c + 1, n, st, rfl, D2, by omega, hn1, hn, by omega, fun H3 g xs hg eg Rg hne hlen D3 k3 => ?_⟩
    have k03 := k02.trans k3
    have hg0 : H g = none := k02.free D2 hg
    have ngd : g ≠ d := D0.ned hg0
    have ngp : g ≠ p := D0.nep hg0
    have ngq : g ≠ q := D0.neq hg0
    refine ⟨.int (n : Int), rfl, .int (m : Int), rfl, m, rfl, by omega, by omega, fun L hL => walk_in (n := m) (lo := 0) (fun i H4 => Deck H4 d p q (c + 1 + n + st + 4 * i) ∧ Keep d p H H4 ∧ H4 g = some (.lst xs) ∧ Rws n H4 xs ∧ ∃ zs ts, H4 L = some (.lst zs) ∧ Tst H4 zs ts ∧ ts.length = i ∧ ∀ t ∈ ts, Rank n t.1 ∧ 1 ≤ t.2 ∧ t.2 ≤ 1000000000000) ⟨D3.same (same_upd hL), k03.trans (Same.keep (same_upd hL)), (same_upd hL) _ _ eg, Rg.same (same_upd hL), [], [], upd_same, .nil, rfl, fun t ht => by cases ht⟩ (fun i H4 hi h => ?_) (fun H4 h => ?_)⟩
    · obtain ⟨D4, k4, eg4, R4, zs, ts, eL, T4, hl4, ha4⟩ := h
      have hL0 : H L = none := k03.free D3 hL
      have nLd : L ≠ d := D0.ned hL0
      have nLp : L ≠ p := D0.nep hL0
      have nLq : L ≠ q := D0.neq hL0
      have nLg : L ≠ g := (ne_of_none eg hL).symm
      refine ⟨rfl, .ref d, rfl, .ref g, rfl, d, p, q, g, c + 1 + n + st + 4 * i, xs, rfl, D4, by omega, eg4, ngd, ngp, hne, by omega, fun H5 x hx D5 k5 => ?_⟩
      obtain ⟨b, ms, rfl, tb, hrb⟩ := R4 x hx
      refine ⟨.ref d, rfl, d, p, q, c + 1 + n + st + 4 * i + 1, rfl, D5, by omega, fun H6 w w1 w2 D6 k6 => ⟨by show 2 ≤ sizeLine; decide, fun t ht => ?_⟩⟩
      have tb6 := (tb.keep D4 k5).keep D5 k6
      have eL6 := k6 _ _ (k5 _ _ eL nLd nLp) nLd nLp
      have eg6 := k6 _ _ (k5 _ _ eg4 ngd ngp) ngd ngp
      have T6 := (T4.keep D4 k5).keep D5 k6
      have R6 := (R4.keep D4 k5).keep D5 k6
      have s7 : Same H6 (upd H6 t (.tup [.ref b, .int w])) := same_upd ht
      have e7 : upd H6 t (.tup [.ref b, .int w]) t = some (.tup [.ref b, .int w]) := upd_same
      have k46 : Keep d p H H6 := k4.trans (k5.trans k6)
      have k7 : Keep d p H (upd H6 t (.tup [.ref b, .int w])) := k46.trans (Same.keep s7)
      have D7 := D6.same s7
      have eL7 := s7 _ _ eL6
      have eg7 := s7 _ _ eg6
      have T7 := T6.same s7
      have R7 := R6.same s7
      have tb7 := tb6.same s7
      generalize upd H6 t (.tup [.ref b, .int w]) = H7 at s7 e7 k7 D7 eL7 eg7 T7 R7 tb7 ⊢
      have hzl := T7.len
      refine ⟨zs, eL7, small1000 (by omega), (D7.upd nLd nLp nLq).mono (by omega), keep_fresh k7 hL0, ?_, R7.upd_lst eL7, zs ++ [.ref t], ts ++ [(ms, w)], upd_same, (T7.updl eL7).app (.cons (rdT_updl (.inl e7) eL7) (tp_updl tb7 eL7) .nil), ?_, ?_⟩
      · rw [upd_ne nLg.symm]
        exact eg7
      · rw [List.length_append, hl4]
        rfl
      · intro t' ht'
        rcases List.mem_append.mp ht' with h | h
        · exact ha4 t' h
        · rw [List.mem_singleton] at h
          subst h
          exact ⟨hrb, w1, w2⟩
    · obtain ⟨D4, k4, eg4, R4, zs, ts, eL, T4, hl4, ha4⟩ := h
      refine ⟨L, zs, rfl, sqL eL, fun u o hu ho => ⟨by show 2 ≤ sizeLine; decide, fun a ha => ?_⟩⟩
      have s5 := same_upd (H := H4) (o := .frz o (.tup zs)) hu
      refine qq _ a ts ⟨u, zs, .inl upd_same, rdT_same (.inr ⟨o, upd_same⟩) (same_upd ha), (T4.same s5).same (same_upd ha)⟩ hl4 ha4 (((D4.same s5).same (same_upd ha)).mono (by omega)) ((k4.trans (Same.keep s5)).trans (Same.keep (same_upd ha)))
end
end TR
namespace TR
open PySem PySem.Spec PyProof.Rows L2
theorem scAny : FnScope ["_law_deck_here", "_law_dishes", "_law_many", "_law_found", "_law_row", "_law_way"] ["_law_deck_here", "_law_dishes", "_law_many"] (defScope sAny) := ⟨rfl, rfl, rfl, by decide +kernel, rfl, by decide +kernel, by decide +kernel⟩
section
variable {P : Program} {w : World} {K : PySem.W.Frag} {mg : Str → Option Value} {base : Heap}
theorem ok_Any {f f__law_list f__law_next f__law_one f__law_exchanged f__law_people : Addr} {fd d__law_list d__law_next d__law_one d__law_exchanged d__law_people : FuncData} {m : Nat} (F : Fun K "_law_any" "_law_any" sAny f fd)
    (k__law_list : PySem.W.keepIn K (.ref f__law_list) = true) (b__law_list : Binds K d__law_list ["_law_deck_here", "_law_dishes"] []) (g__law_list : mg "_law_list" = some (.ref f__law_list)) (G__law_list : FnOk P w K mg base CX0 m f__law_list d__law_list ["_law_deck_here", "_law_dishes"] spList)
    (k__law_next : PySem.W.keepIn K (.ref f__law_next) = true) (b__law_next : Binds K d__law_next ["_law_deck_here", "_law_many"] []) (g__law_next : mg "_law_next" = some (.ref f__law_next)) (G__law_next : FnOk P w K mg base CX0 m f__law_next d__law_next ["_law_deck_here", "_law_many"] spNext)
    (k__law_one : PySem.W.keepIn K (.ref f__law_one) = true) (b__law_one : Binds K d__law_one ["_law_deck_here", "_law_some"] []) (g__law_one : mg "_law_one" = some (.ref f__law_one)) (G__law_one : FnOk P w K mg base CX0 m f__law_one d__law_one ["_law_deck_here", "_law_some"] spOne)
    (k__law_exchanged : PySem.W.keepIn K (.ref f__law_exchanged) = true) (b__law_exchanged : Binds K d__law_exchanged ["_law_row", "_law_k"] []) (g__law_exchanged : mg "_law_exchanged" = some (.ref f__law_exchanged)) (G__law_exchanged : FnOk P w K mg base CX0 m f__law_exchanged d__law_exchanged ["_law_row", "_law_k"] spExch)
    (k__law_people : PySem.W.keepIn K (.ref f__law_people) = true) (b__law_people : Binds K d__law_people ["_law_deck_here"] []) (g__law_people : mg "_law_people" = some (.ref f__law_people)) (G__law_people : FnOk P w K mg base CX0 m f__law_people d__law_people ["_law_deck_here"] spPeople)
    (m_len : mg "len" = none) (m_tuple : mg "tuple" = none) : FnOk P w K mg base CX0 (m + 1) f fd ["_law_deck_here", "_law_dishes", "_law_many"] spSeated := by
  refine F.ok scAny (fun vs H Q E h => ?_) (fun cdv A outer s H vs Q E hr h => ?_)
  · obtain ⟨d, p, q, c, n, m, rfl, _⟩ := h
    rfl
  · obtain ⟨d, p, q, c, n, m, rfl, D0, hc, hn1, hn, hm1, hm, qq⟩ := h
    refine ⟨_, 
      (pss_cons (ps_set (i := 3) scAny.nd rfl (.inl rfl) (pe_lst (pa_cons (pe_call G__law_list hr (by rfl) g__law_list k__law_list b__law_list .nil pass0 (pa_cons (pv 0) (pa_cons (pv 1) pa_nil))) pa_nil))) 
      (pss_cons (ps_while PassesOwn.never (pt_cmpR op_lt (pe_callB call_len_seq (by rfl) m_len PySem.boot_len (pa_cons (pv 3) pa_nil)) (pv 2) (nomark _)) 
        (pss_cons (ps_par (i := 4) (j := 5) (by rfl) scAny.nd rfl rfl (by decide) rfl rfl (pa_cons (pe_call G__law_one hr (by rfl) g__law_one k__law_one b__law_one .nil pass0 (pa_cons (pv 0) (pa_cons (pv 3) pa_nil))) (pa_cons (pe_call G__law_next hr (by rfl) g__law_next k__law_next b__law_next .nil pass0 (pa_cons (pv 0) (pa_cons pe_int pa_nil))) pa_nil)) (by rfl)) 
        (pss_cons (ps_if (pt_cmpR op_eq (pv 5) pe_int (nomark _)) 
          (pss_one (ps_set (i := 4) scAny.nd rfl (.inl rfl) (pe_call G__law_list hr (by rfl) g__law_list k__law_list b__law_list .nil pass0 (pa_cons (pv 0) (pa_cons (pv 1) pa_nil))))) 
          (pss_one (ps_if (PW.pt (pw_and (pt_cmpR op_lt (pv 5) pe_int (nomark _)) (pw_and1 (pt_cmpR op_gt (pv 1) pe_int (nomark _))))) 
            (pss_one (ps_set (i := 4) scAny.nd rfl (.inl rfl) (pe_call G__law_exchanged hr (by rfl) g__law_exchanged k__law_exchanged b__law_exchanged .nil pass0 (pa_cons (pv 4) (pa_cons (pe_call G__law_next hr (by rfl) g__law_next k__law_next b__law_next .nil pass0 (pa_cons (pv 0) (pa_cons (pe_op op_sub (pv 1) pe_int) pa_nil))) pa_nil))))) pss_nil))) 
        (pss_one (ps_expr (pe_bm PySem.F.plainAttrs_list PySem.F.slot_list_append PySem.F.type_list_append mt_append (pv 3) (pa_cons (pv 4) pa_nil))))))) 
      (pss_one (ps_ret (pe_tup (pa_cons (pv 1) (pa_cons (pe_callTy call_tupleF (by rfl) m_tuple (by decide +kernel) (pa_cons (pe_lc (own := [("_law_row", 4)]) (g := gName 4) (tt := tYes) (by rfl) scAny.nd (pi_list (pv 3)) (blkOk_by (own := [("_law_row", 4)]) (N := ["_law_deck_here", "_law_dishes", "_law_many", "_law_found", "_law_row", "_law_way"]) (sc := defScope sAny) (by decide +kernel)) (fun _ _ _ _ _ => (pg_name (i := 4) scAny.nd rfl (Or.inl rfl))) (fun _ _ _ _ _ => pts_nil) (fun _ _ _ _ _ => (pe_tup (pa_cons (pv 4) (pa_cons (pe_call G__law_people hr (by rfl) g__law_people k__law_people b__law_people .nil pass0 (pa_cons (pv 0) pa_nil)) pa_nil))))) pa_nil)) pa_nil))))))), ?_⟩
    refine ⟨.ref d, rfl, .int (n : Int), rfl, d, p, q, c, n, rfl, D0, by omega, hn, fun H1 a1 r1 hr1 D1 k1 t1 => ⟨by show 1 ≤ sizeLine; decide, fun g hg => ?_⟩⟩
    have hg0 : H g = none := k1.free D1 hg
    have ngd : g ≠ d := D0.ned hg0
    have ngp : g ≠ p := D0.nep hg0
    have ngq : g ≠ q := D0.neq hg0
    refine ⟨fun j σ H3 => ∃ xs y4 y5, σ = [some (.ref d), some (.int (n : Int)), some (.int (m : Int)), some (.ref g), y4, y5] ∧ H3 g = some (.lst xs) ∧ Rws n H3 xs ∧ xs ≠ [] ∧ xs.length + j = m ∧ Deck H3 d p q (c + 11 * xs.length) ∧ Keep d p H H3,
      ⟨m - 1, [.ref a1], none, none, rfl, upd_same, fun x hx => ⟨a1, r1, List.mem_singleton.mp hx, t1.same (same_upd hg), hr1⟩, by simp, by show 1 + (m - 1) = m; omega, (D1.same (same_upd hg)).mono (by show c + n ≤ c + 11 * 1; omega), k1.trans (Same.keep (same_upd hg))⟩, fun j σ H3 hW => ?_⟩
    obtain ⟨xs, y4, y5, rfl, eg, Rg, hne, hj, D3, k3⟩ := hW
    refine ⟨.ref g, rfl, g, xs, rfl, .inl (sqL eg), .int (m : Int), rfl, _, _, rfl, rfl, _, rfl, ?_⟩
    by_cases hlt : (xs.length : Int) < (m : Int)
    · rw [decide_eq_true hlt]
      refine iteT ?_
      refine ⟨_, fun σ' H' hN => ⟨j - 1, by omega, hN⟩, ?_⟩
      refine ⟨.ref d, rfl, .ref g, rfl, d, p, q, g, c + 11 * xs.length, xs, rfl, D3, by omega, eg, ngd, ngp, hne, by omega, fun H4 x hx D4 k4 => ?_⟩
      obtain ⟨b, ms, rfl, tb, hrb⟩ := Rg x hx
      refine ⟨.ref d, rfl, d, p, q, c + 11 * xs.length + 1, 4, rfl, D4, by omega, by decide, by decide, fun H5 r r0 rr D5 k5 => ⟨.ref b, .int r, rfl, ?_⟩⟩
      have tb5 := (tb.keep D3 k4).keep D4 k5
      have R5 := (Rg.keep D3 k4).keep D4 k5
      have eg5 := k5 _ _ (k4 _ _ eg ngd ngp) ngd ngp
      have k05 : Keep d p H H5 := k3.trans (k4.trans k5)
      have step : ∀ (H6 : Hp) (u : Addr) (os : List Int), Rank n os → Tp H6 u os → Deck H6 d p q (c + 11 * xs.length + 11) → Keep d p H5 H6 → H6 g = some (.lst xs) ∧ xs.length < sizeLine ∧
          (∃ xs' y4 y5, [some (V.ref d), some (.int (n : Int)), some (.int (m : Int)), some (.ref g), some (.ref u), some (.int r)] = [some (V.ref d), some (.int (n : Int)), some (.int (m : Int)), some (.ref g), y4, y5] ∧ upd H6 g (.lst (xs ++ [.ref u])) g = some (.lst xs') ∧ Rws n (upd H6 g (.lst (xs ++ [.ref u]))) xs' ∧ xs' ≠ [] ∧ xs'.length + (j - 1) = m ∧ Deck (upd H6 g (.lst (xs ++ [.ref u]))) d p q (c + 11 * xs'.length) ∧ Keep d p H (upd H6 g (.lst (xs ++ [.ref u])))) := by
        intro H6 u os hos tu D6 k6
        have eg6 := k6 _ _ eg5 ngd ngp
        refine ⟨eg6, small1000 (by omega), xs ++ [.ref u], _, _, rfl, upd_same, ((R5.keep D5 k6).upd_lst eg6).app (tu.upd_lst eg6) hos, by simp, ?_, ?_, keep_fresh (k05.trans k6) hg0⟩
        · rw [List.length_append]
          show xs.length + 1 + (j - 1) = m
          omega
        · rw [List.length_append]
          exact (D6.upd ngd ngp ngq).mono (by show _ ≤ c + 11 * (xs.length + 1); omega)
      refine ⟨.int r, rfl, rfl, _, rfl, ite2 (fun _ => ?_) (fun _ => ?_)⟩
      · refine ⟨.ref d, rfl, .int (n : Int), rfl, d, p, q, c + 11 * xs.length + 1 + 1, n, rfl, D5, by omega, hn, fun H6 u os hos D6 k6 tu => ?_⟩
        obtain ⟨z1, z2, z3⟩ := step H6 u os hos tu (D6.mono (by omega)) k6
        exact ⟨.ref g, rfl, .inl ⟨rfl, _, sqL z1⟩, .ref u, rfl, g, xs, _, rfl, rfl, z1, z2, z3⟩
      · refine ⟨.int r, rfl, _, _, rfl, rfl, _, rfl, ?_⟩
        have same : ∀ (H6 : Hp), H6 = H5 → _ := fun H6 e => step H6 b ms hrb (e ▸ tb5) (e ▸ D5.mono (by omega)) (e ▸ Keep.refl _ _ _)
        obtain ⟨z1, z2, z3⟩ := same H5 rfl
        refine ite2 (fun _ => ?_) (fun _ => ?_)
        · refine ⟨.int (n : Int), rfl, _, _, rfl, rfl, _, rfl, ite2 (fun hgt => ?_) (fun _ => ?_)⟩
          · have hn2 : (n : Int) > 1 := of_decide_eq_true hgt
            refine ⟨.ref b, rfl, .ref d, rfl, .int (n : Int), rfl, _, _, rfl, rfl, d, p, q, c + 11 * xs.length + 1 + 1, _, rfl, D5, by omega, by omega, by omega, fun H6 z z0 zz D6 k6 => ?_⟩
            obtain ⟨i, rfl⟩ := Int.eq_ofNat_of_zero_le z0
            refine ⟨b, ms, n, i, rfl, tb5.keep D5 k6, hrb, by omega, hn, fun H7 u s7 hru tu => ?_⟩
            obtain ⟨z1, z2, z3⟩ := step H7 u _ hru tu ((D6.same s7).mono (by omega)) (k6.trans (Same.keep s7))
            exact ⟨.ref g, rfl, .inl ⟨rfl, _, sqL z1⟩, .ref u, rfl, g, xs, _, rfl, rfl, z1, z2, z3⟩
          · exact ⟨.ref g, rfl, .inl ⟨rfl, _, sqL z1⟩, .ref b, rfl, g, xs, _, rfl, rfl, z1, z2, z3⟩
        · exact ⟨.ref g, rfl, .inl ⟨rfl, _, sqL z1⟩, .ref b, rfl, g, xs, _, rfl, rfl, z1, z2, z3⟩
    · rw [decide_eq_false hlt]
      refine iteF ?_
      refine ⟨.int (n : Int), rfl, .ref g, rfl, g, rfl, ⟨_, sqL eg⟩, fun L hL => lc_list (K := K) (a := g) (xs := xs) (fun i H4 => Deck H4 d p q (c + 11 * xs.length + 3 * i) ∧ Keep d p H H4 ∧ H4 g = some (.lst xs) ∧ Rws n H4 xs ∧ ∃ zs ts, H4 L = some (.lst zs) ∧ Tst H4 zs ts ∧ ts.length = i ∧ ∀ t ∈ ts, Rank n t.1 ∧ 1 ≤ t.2 ∧ t.2 ≤ 1000000000000) ⟨D3.same (same_upd hL), k3.trans (Same.keep (same_upd hL)), (same_upd hL) _ _ eg, Rg.same (same_upd hL), [], [], upd_same, .nil, rfl, fun t ht => by cases ht⟩ (fun i H4 _ h => sqL h.2.2.1) (fun i x H4 hx h => ?_) (fun H4 h => ?_)⟩
      · obtain ⟨D4, k4, eg4, R4, zs, ts, eL, T4, hl4, ha4⟩ := h
        have hi : i < xs.length := (List.getElem?_eq_some_iff.mp hx).1
        have hL0 : H L = none := k3.free D3 hL
        have nLd : L ≠ d := D0.ned hL0
        have nLp : L ≠ p := D0.nep hL0
        have nLq : L ≠ q := D0.neq hL0
        have nLg : L ≠ g := (ne_of_none eg hL).symm
        obtain ⟨b, ms, rfl, tb, hrb⟩ := R4 x (List.mem_of_getElem? hx)
        refine ⟨rfl, .ref b, rfl, .ref d, rfl, d, p, q, c + 11 * xs.length + 3 * i, rfl, D4, by omega, fun H6 w w1 w2 D6 k6 => ⟨by show 2 ≤ sizeLine; decide, fun t ht => ?_⟩⟩
        have tb6 := tb.keep D4 k6
        have eL6 := k6 _ _ eL nLd nLp
        have eg6 := k6 _ _ eg4 ngd ngp
        have T6 := T4.keep D4 k6
        have R6 := R4.keep D4 k6
        have s7 : Same H6 (upd H6 t (.tup [.ref b, .int w])) := same_upd ht
        have e7 : upd H6 t (.tup [.ref b, .int w]) t = some (.tup [.ref b, .int w]) := upd_same
        have k7 : Keep d p H (upd H6 t (.tup [.ref b, .int w])) := (k4.trans k6).trans (Same.keep s7)
        have D7 := D6.same s7
        have eL7 := s7 _ _ eL6
        have eg7 := s7 _ _ eg6
        have T7 := T6.same s7
        have R7 := R6.same s7
        have tb7 := tb6.same s7
        generalize upd H6 t (.tup [.ref b, .int w]) = H7 at s7 e7 k7 D7 eL7 eg7 T7 R7 tb7 ⊢
        have hzl := T7.len
        refine ⟨zs, eL7, small1000 (by omega), (D7.upd nLd nLp nLq).mono (by omega), keep_fresh k7 hL0, ?_, R7.upd_lst eL7, zs ++ [.ref t], ts ++ [(ms, w)], upd_same, (T7.updl eL7).app (.cons (rdT_updl (.inl e7) eL7) (tp_updl tb7 eL7) .nil), ?_, ?_⟩
        · rw [upd_ne nLg.symm]
          exact eg7
        · rw [List.length_append, hl4]
          rfl
        · intro t' ht'
          rcases List.mem_append.mp ht' with h | h
          · exact ha4 t' h
          · rw [List.mem_singleton] at h
            subst h
            exact ⟨hrb, w1, w2⟩
      · obtain ⟨D4, k4, eg4, R4, zs, ts, eL, T4, hl4, ha4⟩ := h
        refine ⟨L, zs, rfl, sqL eL, fun u o hu ho => ⟨by show 2 ≤ sizeLine; decide, fun a ha => ?_⟩⟩
        have s5 := same_upd (H := H4) (o := .frz o (.tup zs)) hu
        refine qq _ a ts ⟨u, zs, .inl upd_same, rdT_same (.inr ⟨o, upd_same⟩) (same_upd ha), (T4.same s5).same (same_upd ha)⟩ (by omega) ha4 (((D4.same s5).same (same_upd ha)).mono (by omega)) ((k4.trans (Same.keep s5)).trans (Same.keep (same_upd ha)))
end
end TR
namespace TR
open PySem PySem.Spec PyProof.Rows L2
theorem scTable : FnScope ["_law_deck_here", "_law_dishes", "_law_many"] ["_law_deck_here", "_law_dishes", "_law_many"] (defScope sTable) := ⟨rfl, rfl, rfl, by decide +kernel, rfl, by decide +kernel, by decide +kernel⟩
section
variable {P : Program} {w : World} {K : PySem.W.Frag} {mg : Str → Option Value} {base : Heap}
def spTable : Sp := fun vs H Q _ => ∃ (d p q : Addr) (c D M : Nat), vs = [.ref d, .int (D : Int), .int (M : Int)] ∧ Deck H d p q c ∧ c ≤ 880000 ∧ 1 ≤ D ∧ D ≤ 8 ∧ 1 ≤ M ∧ M ≤ 16 ∧
  ∀ H' a n ts, Tab H' a n ts → WfT D M n ts → Deck H' d p q (c + 250) → Keep d p H H' → Q (.ref a) H'
theorem ok_Table {f f__law_next f__law_seated f__law_any : Addr} {fd d__law_next d__law_seated d__law_any : FuncData} {m : Nat} (F : Fun K "_law_table" "_law_table" sTable f fd)
    (k__law_next : PySem.W.keepIn K (.ref f__law_next) = true) (b__law_next : Binds K d__law_next ["_law_deck_here", "_law_many"] []) (g__law_next : mg "_law_next" = some (.ref f__law_next)) (G__law_next : FnOk P w K mg base CX0 m f__law_next d__law_next ["_law_deck_here", "_law_many"] spNext)
    (k__law_seated : PySem.W.keepIn K (.ref f__law_seated) = true) (b__law_seated : Binds K d__law_seated ["_law_deck_here", "_law_dishes", "_law_many"] []) (g__law_seated : mg "_law_seated" = some (.ref f__law_seated)) (G__law_seated : FnOk P w K mg base CX0 m f__law_seated d__law_seated ["_law_deck_here", "_law_dishes", "_law_many"] spSeated)
    (k__law_any : PySem.W.keepIn K (.ref f__law_any) = true) (b__law_any : Binds K d__law_any ["_law_deck_here", "_law_dishes", "_law_many"] []) (g__law_any : mg "_law_any" = some (.ref f__law_any)) (G__law_any : FnOk P w K mg base CX0 m f__law_any d__law_any ["_law_deck_here", "_law_dishes", "_law_many"] spSeated)
     : FnOk P w K mg base CX0 (m + 1) f fd ["_law_deck_here", "_law_dishes", "_law_many"] spTable := by
  refine F.ok scTable (fun vs H Q E h => ?_) (fun cdv A outer s H vs Q E hr h => ?_)
  · obtain ⟨d, p, q, c, D, M, rfl, _⟩ := h
    rfl
  · obtain ⟨d, p, q, c, D, M, rfl, D0, hc, hD1, hD, hM1, hM, qq⟩ := h
    refine ⟨_, 
      (pss_cons (ps_par (i := 1) (j := 2) (by rfl) scTable.nd rfl rfl (by decide) rfl rfl (pa_cons (pe_op op_add pe_int (pe_call G__law_next hr (by rfl) g__law_next k__law_next b__law_next .nil pass0 (pa_cons (pv 0) (pa_cons (pv 1) pa_nil)))) (pa_cons (pe_op op_add pe_int (pe_call G__law_next hr (by rfl) g__law_next k__law_next b__law_next .nil pass0 (pa_cons (pv 0) (pa_cons (pv 2) pa_nil)))) pa_nil)) (by rfl)) 
      (pss_cons (ps_if (pt_cmpR op_lt (pe_call G__law_next hr (by rfl) g__law_next k__law_next b__law_next .nil pass0 (pa_cons (pv 0) (pa_cons pe_int pa_nil))) pe_int (nomark _)) 
        (pss_one (ps_ret (pe_call G__law_seated hr (by rfl) g__law_seated k__law_seated b__law_seated .nil pass0 (pa_cons (pv 0) (pa_cons (pv 1) (pa_cons (pv 2) pa_nil)))))) pss_nil) 
      (pss_one (ps_ret (pe_call G__law_any hr (by rfl) g__law_any k__law_any b__law_any .nil pass0 (pa_cons (pv 0) (pa_cons (pv 1) (pa_cons (pv 2) pa_nil)))))))), ?_⟩
    refine ⟨.ref d, rfl, .int (D : Int), rfl, d, p, q, c, _, rfl, D0, by omega, by omega, by omega, fun H1 r r0 r1 D1 k1 => ⟨1, r, rfl, rfl, ?_⟩⟩
    refine ⟨.ref d, rfl, .int (M : Int), rfl, d, p, q, c + 1, _, rfl, D1, by omega, by omega, by omega, fun H2 z z0 z1 D2 k2 => ⟨1, z, rfl, rfl, .int (1 + r), .int (1 + z), rfl, ?_⟩⟩
    obtain ⟨n, hn⟩ : ∃ n : Nat, 1 + r = (n : Int) := ⟨(1 + r).toNat, by omega⟩
    obtain ⟨m, hm⟩ : ∃ m : Nat, 1 + z = (m : Int) := ⟨(1 + z).toNat, by omega⟩
    rw [hn, hm]
    refine ⟨.ref d, rfl, d, p, q, c + 2, 5, rfl, D2, by omega, by decide, by decide, fun H3 y y0 y1 D3 k3 => ?_⟩
    have kp : Keep d p H H3 := k1.trans (k2.trans k3)
    refine ⟨_, _, rfl, rfl, _, rfl, ite2 (fun _ => ?_) (fun _ => ?_)⟩
    · exact ⟨.ref d, rfl, .int (n : Int), rfl, .int (m : Int), rfl, d, p, q, c + 3, n, m, rfl, D3, by omega, by omega, by omega, by omega, by omega, fun H4 a ts tab hl hall D4 k4 => qq H4 a n ts tab ⟨by omega, by omega, by omega, by omega, hall⟩ (D4.mono (by omega)) (kp.trans k4)⟩
    · exact ⟨.ref d, rfl, .int (n : Int), rfl, .int (m : Int), rfl, d, p, q, c + 3, n, m, rfl, D3, by omega, by omega, by omega, by omega, by omega, fun H4 a ts tab hl hall D4 k4 => qq H4 a n ts tab ⟨by omega, by omega, by omega, by omega, hall⟩ (D4.mono (by omega)) (kp.trans k4)⟩
end
end TR
namespace TR
open PySem PySem.Spec PyProof.Rows L2
theorem scWhole : FnScope ["value"] ["value"] (defScope sWhole) := ⟨rfl, rfl, rfl, by decide +kernel, rfl, by decide +kernel, by decide +kernel⟩
section
variable {P : Program} {w : World} {K : PySem.W.Frag} {mg : Str → Option Value} {base : Heap}
def spWhole : Sp := fun vs H Q _ => ∃ (x : V) (d : PyData) (ban : List Addr), vs = [x] ∧ Rp H ban d x ∧ Q (.bl (whole d)) H
theorem ok_whole {f : Addr} {fd : FuncData} {k : Nat} (F : Fun K "is_whole" "is_whole" sWhole f fd) (misi : mg "isinstance" = none) (mi : mg "int" = none) (mb : mg "bool" = none) : FnOk P w K mg base CX0 (k + 1) f fd ["value"] spWhole := by
  refine F.ok scWhole (fun vs H Q E h => ?_) (fun cdv A outer s H vs Q E hr h => ?_)
  · obtain ⟨x, d, ban, rfl, _⟩ := h
    rfl
  · obtain ⟨x, d, ban, rfl, hp, q⟩ := h
    refine ⟨_, pss_one (ps_ret (pe_and (pe_callB call_isi (by rfl) misi (by decide +kernel) (pa_cons (pv 0) (pa_cons (pe_bltn (v := .ty "int") (by rfl) mi (by decide +kernel) rfl) pa_nil))) (pe_one (pe_not (pe_callB call_isi (by rfl) misi (by decide +kernel) (pa_cons (pv 0) (pa_cons (pe_bltn (v := .ty "bool") (by rfl) mb (by decide +kernel) rfl) pa_nil))))))), ?_⟩
    obtain ⟨k1, k2, k3⟩ := kitD (K := K) d
    rw [← whole_ty] at q
    refine ⟨x, rfl, x, .ty "int", _, _, _, rfl, .ty _, tyRp hp, k2, _, rfl, ?_⟩
    cases e : decide (tyD d = "int" ∨ tyD d = "bool") with
    | true =>
      rw [e] at q
      exact iteT ⟨x, rfl, x, .ty "bool", _, _, _, rfl, .ty _, tyRp hp, k3, _, rfl, q⟩
    | false =>
      rw [e] at q
      exact iteF q
end
end TR
namespace TR
open PySem PySem.Spec PyProof.Rows L2
theorem scWithin : FnScope ["value", "low", "high"] ["value", "low", "high"] (defScope sWithin) := ⟨rfl, rfl, rfl, by decide +kernel, rfl, by decide +kernel, by decide +kernel⟩
section
variable {P : Program} {w : World} {K : PySem.W.Frag} {mg : Str → Option Value} {base : Heap}
/-! ### is_within -/
def spWithin : Sp := fun vs H Q _ => ∃ (x : V) (d : PyData) (ban : List Addr) (lo hi : Int), vs = [x, .int lo, .int hi] ∧ Rp H ban d x ∧ (∀ i, d = .int i → Q (.bl (decide (lo ≤ i ∧ i ≤ hi))) H) ∧ (whole d = false → Q (.bl false) H)
theorem ok_within {f fW : Addr} {fd dW : FuncData} {k : Nat} (F : Fun K "is_within" "is_within" sWithin f fd) (kW : PySem.W.keepIn K (.ref fW) = true) (bW : Binds K dW ["value"] []) (gW : mg "is_whole" = some (.ref fW)) (GW : FnOk P w K mg base CX0 (k + 1) fW dW ["value"] spWhole) :
    FnOk P w K mg base CX0 (k + 2) f fd ["value", "low", "high"] spWithin := by
  refine F.ok scWithin (fun vs H Q E h => ?_) (fun cdv A outer s H vs Q E hr h => ?_)
  · obtain ⟨x, d, ban, lo, hi, rfl, _⟩ := h
    rfl
  · obtain ⟨x, d, ban, lo, hi, rfl, hp, q1, q2⟩ := h
    refine ⟨_, pss_one (ps_ret (pe_and (pe_call GW hr (by rfl) gW kW bW .nil pass0 (pa_cons (pv 0) pa_nil)) (pe_one (pe_chain op_le op_le (pv 1) (pv 0) (pv 2))))), ?_⟩
    refine ⟨x, rfl, x, d, ban, rfl, hp, _, rfl, ?_⟩
    cases e : whole d with
    | false => exact iteF (q2 e)
    | true =>
      obtain ⟨i, rfl⟩ := whole_int e
      obtain rfl : x = .int i := hp
      refine iteT ?_
      have q := q1 i rfl
      refine ⟨_, rfl, _, rfl, _, _, rfl, rfl, _, rfl, ?_⟩
      show if decide (lo ≤ i) = true then _ else _
      by_cases c : lo ≤ i
      · rw [decide_eq_true c]
        refine iteT ⟨_, rfl, _, _, rfl, rfl, ?_⟩
        show Q (.bl (decide (i ≤ hi))) H
        rw [decide_eq_decide.mpr (show (i ≤ hi) ↔ (lo ≤ i ∧ i ≤ hi) by omega)]
        exact q
      · rw [decide_eq_false c]
        rw [decide_eq_false (by omega)] at q
        exact iteF q
end
end TR
namespace TR
open PySem PySem.Spec PyProof.Rows L2
theorem scIsOrder : FnScope ["size", "value", "part"] ["size", "value"] (defScope sIsOrder) := ⟨rfl, rfl, rfl, by decide +kernel, rfl, by decide +kernel, by decide +kernel⟩
section
variable {P : Program} {w : World} {K : PySem.W.Frag} {mg : Str → Option Value} {base : Heap}
def spIsOrd : Sp := fun vs H Q _ => ∃ (x : V) (d : PyData) (ban : List Addr) (n : Nat), vs = [.int (n : Int), x] ∧ Rp H ban d x ∧ n ≤ 100 ∧ (∀ ds, d = .tuple ds → ds.length ≤ 100) ∧ ∀ H' b, Same H H' → (b = true ↔ IsRk n d) → Q (.bl b) H'
theorem ok_IsOrder {f f_is_whole : Addr} {fd d_is_whole : FuncData} {m : Nat} (F : Fun K "is_order" "is_order" sIsOrder f fd)
    (k_is_whole : PySem.W.keepIn K (.ref f_is_whole) = true) (b_is_whole : Binds K d_is_whole ["value"] []) (g_is_whole : mg "is_whole" = some (.ref f_is_whole)) (G_is_whole : FnOk P w K mg base CX0 m f_is_whole d_is_whole ["value"] spWhole)
    (m_all : mg "all" = none) (m_isinstance : mg "isinstance" = none) (m_tuple : mg "tuple" = none) (m_sorted : mg "sorted" = none) (m_list : mg "list" = none) (m_range : mg "range" = none) : FnOk P w K mg base CX0 (m + 1) f fd ["size", "value"] spIsOrd := by
  refine F.ok scIsOrder (fun vs H Q E h => ?_) (fun cdv A outer s H vs Q E hr h => ?_)
  · obtain ⟨x, d, ban, n, rfl, _⟩ := h
    rfl
  · obtain ⟨x, d, ban, n, rfl, hp, hn, hlen, q⟩ := h
    refine ⟨_, 
      (pss_cons (ps_if (PW.pt (pw_or (pt_not (pt_val (pe_callB call_isi (by rfl) m_isinstance (by decide +kernel) (pa_cons (pv 1) (pa_cons (pe_bltn (v := .ty "tuple") (by rfl) m_tuple (by decide +kernel) rfl) pa_nil))))) (pw_or1 (pt_not (pt_val (pe_callB (cr_all (by rfl)) (by rfl) m_all (by decide +kernel) (pa_cons (pe_lc (own := [("part", 2)]) (g := gName 2) (tt := tYes) (by rfl) scIsOrder.nd (pi_tup (pv 1)) (blkOk_by (own := [("part", 2)]) (N := ["size", "value", "part"]) (sc := defScope sIsOrder) (by decide +kernel)) (fun _ _ _ _ _ => (pg_name (i := 2) scIsOrder.nd rfl (Or.inl rfl))) (fun _ _ _ _ _ => pts_nil) (fun _ _ _ _ _ => (pe_call G_is_whole hr (by rfl) g_is_whole k_is_whole b_is_whole .nil pass0 (pa_cons (pv 2) pa_nil)))) pa_nil))))))) 
        (pss_one (ps_ret pe_bl)) pss_nil) 
      (pss_one (ps_ret (pe_cmpR (op_eqD hr.units) (pe_callB (r := rSortedTI K) cr_sortedTI (by rfl) m_sorted (by decide +kernel) (pa_cons (pv 1) pa_nil)) (pe_listRg (by rfl) (by rfl) m_list (prg_1 (by rfl) m_range (pv 0))) (nomark _))))), ?_⟩
    obtain ⟨k1, k2, k3⟩ := kitD (K := K) d
    refine ⟨x, rfl, x, .ty "tuple", _, _, _, rfl, .ty _, tyRp hp, k1, _, rfl, ?_⟩
    by_cases ht : tyD d = "tuple"
    · rw [decide_eq_true ht]
      refine iteF ?_
      obtain ⟨ds, rfl⟩ := ty_tuple ht
      obtain ⟨a, xs, rfl, ha, hx⟩ := hp
      have hdl := hlen ds rfl
      have sq : ∀ {H1 : Hp}, Same H H1 → SqT K H1 a xs := fun s1 => .inl (rd_same s1 ha)
      refine ⟨.ref a, rfl, a, rfl, ⟨_, sq (Same.refl _)⟩, fun D hD => lc_tup (K := K) (a := a) (xs := xs) (fun i H1 => Same H H1 ∧ H1 D = some (.lst (((ds.take i).map whole).map V.bl))) ⟨same_upd hD, upd_same⟩ (fun i H1 _ h => sq h.1) (fun i y H1 hy h => ?_) (fun H1 h => ?_)⟩
      · obtain ⟨s1, e1⟩ := h
        obtain ⟨e, he, hre⟩ := hx.get hy
        have hi : i < ds.length := (List.getElem?_eq_some_iff.mp he).1
        refine ⟨rfl, y, rfl, y, e, ban, rfl, hre.same s1, _, e1, ?_, same_upd2 s1 hD, ?_⟩
        · rw [List.length_map, List.length_map, List.length_take]
          exact small1000 (by omega)
        · rw [upd_same, List.take_add_one, he, List.map_append, List.map_append]
          rfl
      · obtain ⟨s1, e1⟩ := h
        rw [List.take_of_length_le (by rw [hx.len]; exact Nat.le_refl _)] at e1
        refine ⟨D, _, rfl, sqL e1, _, rfl, ?_⟩
        have ea : (ds.map whole).all id = ds.all whole := by
          rw [List.all_map]
          rfl
        rw [ea]
        cases hw : ds.all whole with
        | false =>
          exact iteT (q H1 false s1 (ff_iff (not_isRk_whole hw)))
        | true =>
          refine iteF ?_
          obtain ⟨ns, rfl⟩ := whole_all ds hw
          have ex := hx.int_vals
          subst ex
          refine ⟨.ref a, rfl, a, ns, rfl, sq s1, fun ms p1 hperm hsort hp1 => ?_⟩
          refine ⟨.int (n : Int), rfl, n, rfl, RgOk.of_le (by omega) (by omega) (by omega) (by omega), fun p2 hp2 => ?_⟩
          rw [rgV_rng]
          refine ⟨_, _, .lst (sqL ((same_upd hp2) _ _ upd_same)) (dpAll_ints ms), .lst (sqL upd_same) (dpAll_ints (rng n)), shaped_ints ms, shaped_ints (rng n), ?_⟩
          rw [eqv_lstX]
          refine q _ _ (s1.trans ((same_upd hp1).trans (same_upd hp2))) ?_
          rw [decide_eq_true_eq, sorted_rank hperm hsort, isRk_tuple]
    · rw [decide_eq_false ht]
      exact iteT (q H false (Same.refl _) (ff_iff (not_isRk_ty ht)))
end
end TR
namespace TR
open PySem PySem.Spec PyProof.Rows L2
theorem scIsRk : FnScope ["dishes", "value"] ["dishes", "value"] (defScope sIsRk) := ⟨rfl, rfl, rfl, by decide +kernel, rfl, by decide +kernel, by decide +kernel⟩
section
variable {P : Program} {w : World} {K : PySem.W.Frag} {mg : Str → Option Value} {base : Heap}
def spIsRk : Sp := fun vs H Q _ => ∃ (x : V) (d : PyData) (ban : List Addr) (n : Nat), vs = [.int (n : Int), x] ∧ Rp H ban d x ∧ 1 ≤ n ∧ n ≤ 8 ∧ (∀ ds, d = .tuple ds → ds.length ≤ 100) ∧ ∀ H' b, Same H H' → (b = true ↔ IsRk n d) → Q (.bl b) H'
theorem ok_IsRk {f f_is_order : Addr} {fd d_is_order : FuncData} {m : Nat} {t_MAX_DISHES : Tok} (F : Fun K "is_ranking" "is_ranking" sIsRk f fd)
    (k_is_order : PySem.W.keepIn K (.ref f_is_order) = true) (b_is_order : Binds K d_is_order ["size", "value"] []) (g_is_order : mg "is_order" = some (.ref f_is_order)) (G_is_order : FnOk P w K mg base CX0 m f_is_order d_is_order ["size", "value"] spIsOrd)
    (gc_MAX_DISHES : mg "MAX_DISHES" = some (.int 8 t_MAX_DISHES)) : FnOk P w K mg base CX0 (m + 1) f fd ["dishes", "value"] spIsRk := by
  refine F.ok scIsRk (fun vs H Q E h => ?_) (fun cdv A outer s H vs Q E hr h => ?_)
  · obtain ⟨x, d, ban, n, rfl, _⟩ := h
    rfl
  · obtain ⟨x, d, ban, n, rfl, hp, hn1, hn, hlen, q⟩ := h
    refine ⟨_, 
      (pss_one (ps_ret (pe_and (pe_chain op_le op_le pe_int (pv 0) (pe_glob (v := .int 8) (by rfl) gc_MAX_DISHES ⟨_, rfl⟩)) (pe_one (pe_call G_is_order hr (by rfl) g_is_order k_is_order b_is_order .nil pass0 (pa_cons (pv 0) (pa_cons (pv 1) pa_nil))))))), ?_⟩
    have c1 : decide ((1 : Int) ≤ (n : Int)) = true := decide_eq_true (by omega)
    have c2 : decide ((n : Int) ≤ 8) = true := decide_eq_true (by omega)
    refine ⟨.int (n : Int), rfl, 1, _, rfl, rfl, _, rfl, ?_⟩
    show if decide ((1 : Int) ≤ (n : Int)) = true then _ else _
    rw [c1]
    refine iteT ⟨_, _, rfl, rfl, _, rfl, ?_⟩
    show if decide ((n : Int) ≤ 8) = true then _ else _
    rw [c2]
    exact iteT ⟨.int (n : Int), rfl, x, rfl, x, d, ban, n, rfl, hp, by omega, hlen, q⟩
end
end TR
namespace TR
open PySem PySem.Spec PyProof.Rows L2
theorem scLWhole : FnScope ["_law_thing"] ["_law_thing"] (defScope sLWhole) := ⟨rfl, rfl, rfl, by decide +kernel, rfl, by decide +kernel, by decide +kernel⟩
section
variable {P : Program} {w : World} {K : PySem.W.Frag} {mg : Str → Option Value} {base : Heap}
theorem ok_lwhole {f : Addr} {fd : FuncData} {k : Nat} (F : Fun K "_law_whole" "_law_whole" sLWhole f fd) (misi : mg "isinstance" = none) (mi : mg "int" = none) (mb : mg "bool" = none) : FnOk P w K mg base CX0 (k + 1) f fd ["_law_thing"] spWhole := by
  refine F.ok scLWhole (fun vs H Q E h => ?_) (fun cdv A outer s H vs Q E hr h => ?_)
  · obtain ⟨x, d, ban, rfl, _⟩ := h
    rfl
  · obtain ⟨x, d, ban, rfl, hp, q⟩ := h
    refine ⟨_, pss_one (ps_ret (pe_and (pe_callB call_isi (by rfl) misi (by decide +kernel) (pa_cons (pv 0) (pa_cons (pe_bltn (v := .ty "int") (by rfl) mi (by decide +kernel) rfl) pa_nil))) (pe_one (pe_not (pe_callB call_isi (by rfl) misi (by decide +kernel) (pa_cons (pv 0) (pa_cons (pe_bltn (v := .ty "bool") (by rfl) mb (by decide +kernel) rfl) pa_nil))))))), ?_⟩
    obtain ⟨k1, k2, k3⟩ := kitD (K := K) d
    rw [← whole_ty] at q
    refine ⟨x, rfl, x, .ty "int", _, _, _, rfl, .ty _, tyRp hp, k2, _, rfl, ?_⟩
    cases e : decide (tyD d = "int" ∨ tyD d = "bool") with
    | true =>
      rw [e] at q
      exact iteT ⟨x, rfl, x, .ty "bool", _, _, _, rfl, .ty _, tyRp hp, k3, _, rfl, q⟩
    | false =>
      rw [e] at q
      exact iteF q
end
end TR
namespace TR
open PySem PySem.Spec PyProof.Rows L2
theorem scIsList : FnScope ["_law_dishes", "_law_thing", "_law_one_here"] ["_law_dishes", "_law_thing"] (defScope sIsList) := ⟨rfl, rfl, rfl, by decide +kernel, rfl, by decide +kernel, by decide +kernel⟩
theorem filter_nil_all : ∀ ds : List PyData, (ds.filter fun d => !whole d).isEmpty = ds.all whole
  | [] => rfl
  | d :: r => by
    rw [List.filter_cons, List.all_cons]
    cases whole d with
    | true => exact filter_nil_all r
    | false => rfl
section
variable {P : Program} {w : World} {K : PySem.W.Frag} {mg : Str → Option Value} {base : Heap}
theorem ok_islist {f fW : Addr} {fd dW : FuncData} {k : Nat} (F : Fun K "_law_is_list" "_law_is_list" sIsList f fd) (kW : PySem.W.keepIn K (.ref fW) = true) (bW : Binds K dW ["_law_thing"] []) (gW : mg "_law_whole" = some (.ref fW)) (GW : FnOk P w K mg base CX0 (k + 1) fW dW ["_law_thing"] spWhole)
    (misi : mg "isinstance" = none) (mt : mg "tuple" = none) (mlen : mg "len" = none) (mso : mg "sorted" = none) (ml : mg "list" = none) (mr : mg "range" = none) : FnOk P w K mg base CX0 (k + 2) f fd ["_law_dishes", "_law_thing"] spIsRk := by
  refine F.ok scIsList (fun vs H Q E h => ?_) (fun cdv A outer s H vs Q E hr h => ?_)
  · obtain ⟨x, d, ban, n, rfl, _⟩ := h
    rfl
  · obtain ⟨x, d, ban, n, rfl, hp, hn1, hn, hlen, q⟩ := h
    refine ⟨_, pss_cons (ps_if (PW.pt (pw_or (pt_not (pt_val (pe_callB call_isi (by rfl) misi (by decide +kernel) (pa_cons (pv 1) (pa_cons (pe_bltn (v := .ty "tuple") (by rfl) mt (by decide +kernel) rfl) pa_nil)))))
          (pw_or1 (pt_cmpR op_ne (pe_callB call_len_seq (by rfl) mlen PySem.boot_len (pa_cons (pv 1) pa_nil)) (pv 0) (nomark _))))) (pss_one (ps_ret pe_bl)) pss_nil)
      (pss_one (ps_ret (pe_and (pe_cmpR (op_eqL0 hr.units0) (pe_lc (own := [("_law_one_here", 2)]) (g := gName 2) (by rfl) scIsList.nd (pi_tup (pv 1))
            (blkOk_by (own := [("_law_one_here", 2)]) (N := ["_law_dishes", "_law_thing", "_law_one_here"]) (sc := defScope sIsList) (by decide +kernel)) (fun _ _ _ _ _ => pg_name (i := 2) scIsList.nd rfl (Or.inl rfl))
            (fun _ _ _ _ _ => pts_one (pt_not (pt_val (pe_call GW hr (by rfl) gW kW bW .nil pass0 (pa_cons (pv 2) pa_nil))))) (fun _ _ _ _ _ => pv 2)) (pe_lst pa_nil) (nomark _))
        (pe_one (pe_cmpR (op_eqD hr.units) (pe_callB cr_sortedTI (by rfl) mso (by decide +kernel) (pa_cons (pv 1) pa_nil)) (pe_listRg (by rfl) (by rfl) ml (prg_1 (by rfl) mr (pv 0))) (nomark _)))))), ?_⟩
    obtain ⟨k1, k2, k3⟩ := kitD (K := K) d
    refine ⟨x, rfl, x, .ty "tuple", _, _, _, rfl, .ty _, tyRp hp, k1, _, rfl, ?_⟩
    by_cases ht : tyD d = "tuple"
    · rw [decide_eq_true ht]
      refine iteF ?_
      obtain ⟨ds, rfl⟩ := ty_tuple ht
      obtain ⟨a, xs, rfl, ha, hx⟩ := hp
      have hdl := hlen ds rfl
      have sq : ∀ {H1 : Hp}, Same H H1 → SqT K H1 a xs := fun s1 => .inl (rd_same s1 ha)
      refine ⟨.ref a, rfl, a, xs, rfl, .inr (sq (Same.refl _)), .int (n : Int), rfl, rfl, _, rfl, ?_⟩
      by_cases hl : ds.length = n
      · refine iteNS (by rw [hx.len, hl]) ?_
        refine ⟨.ref a, rfl, a, rfl, ⟨_, sq (Same.refl _)⟩, fun D hD => lc_tup (K := K) (a := a) (xs := xs) (fun i H1 => Same H H1 ∧ ∃ zs : List V, H1 D = some (.lst zs) ∧ zs.length = ((ds.take i).filter fun d => !whole d).length) ⟨same_upd hD, [], upd_same, rfl⟩ (fun i H1 _ h => sq h.1) (fun i y H1 hy h => ?_) (fun H1 h => ?_)⟩
        · obtain ⟨s1, zs, e1, l1⟩ := h
          obtain ⟨e, he, hre⟩ := hx.get hy
          have hi : i < ds.length := (List.getElem?_eq_some_iff.mp he).1
          have ft := filter_take (fun d => !whole d) he
          refine ⟨rfl, y, rfl, y, e, ban, rfl, hre.same s1, _, rfl, ?_⟩
          cases ew : whole e with
          | true =>
            refine iteF ⟨s1, zs, e1, ?_⟩
            rw [ft]
            simp only [ew, Bool.not_true, Bool.false_eq_true, if_false, List.append_nil]
            exact l1
          | false =>
            refine iteT ⟨y, rfl, zs, e1, ?_, same_upd2 s1 hD, zs ++ [y], upd_same, ?_⟩
            · have := List.length_filter_le (fun d => !whole d) (ds.take i)
              rw [List.length_take] at this
              exact small1000 (by omega)
            · rw [ft]
              simp only [ew, Bool.not_false, if_true]
              rw [List.length_append, List.length_append, l1]
              rfl
        · obtain ⟨s1, zs, e1, l1⟩ := h
          rw [List.take_of_length_le (by rw [hx.len]; exact Nat.le_refl _)] at l1
          refine ⟨Nat.zero_le _, fun z hz => ⟨D, z, zs, rfl, rfl, sqL ((same_upd hz) _ _ e1), sqL upd_same, _, rfl, ?_⟩⟩
          have s2 : Same H (upd H1 z (.lst [])) := s1.trans (same_upd hz)
          have ez : zs.isEmpty = ds.all whole := by
            rw [← filter_nil_all, Bool.eq_iff_iff, List.isEmpty_iff, List.isEmpty_iff, ← List.length_eq_zero_iff, ← List.length_eq_zero_iff, l1]
          rw [ez]
          cases hw : ds.all whole with
          | false => exact iteF (q _ false s2 (ff_iff (not_isRk_whole hw)))
          | true =>
            refine iteT ?_
            obtain ⟨ns, rfl⟩ := whole_all ds hw
            have ex := hx.int_vals
            subst ex
            refine ⟨.ref a, rfl, a, ns, rfl, sq s2, fun ms p1 hperm hsort hp1 => ?_⟩
            refine ⟨.int (n : Int), rfl, n, rfl, RgOk.of_le (by omega) (by omega) (by omega) (by omega), fun p2 hp2 => ?_⟩
            rw [rgV_rng]
            refine ⟨_, _, .lst (sqL ((same_upd hp2) _ _ upd_same)) (dpAll_ints ms), .lst (sqL upd_same) (dpAll_ints (rng n)), shaped_ints ms, shaped_ints (rng n), ?_⟩
            rw [eqv_lstX]
            refine q _ _ (s2.trans ((same_upd hp1).trans (same_upd hp2))) ?_
            rw [decide_eq_true_eq, sorted_rank hperm hsort, isRk_tuple]
      · have en : (!decide (V.int ((xs.length : Nat) : Int) = V.int (n : Int))) = true := by
          rw [decide_eq_false]
          · rfl
          · intro h
            have := V.int.inj h
            rw [hx.len] at this
            omega
        show if (!decide (V.int ((xs.length : Nat) : Int) = V.int (n : Int))) = true then _ else _
        rw [en]
        refine iteT (q H false (Same.refl _) (ff_iff fun ⟨ns, e, r⟩ => ?_))
        injection e with e
        rw [e, List.length_map] at hl
        exact absurd r.len hl
    · rw [decide_eq_false ht]
      exact iteT (q H false (Same.refl _) (ff_iff (not_isRk_ty ht)))
end
end TR
namespace TR
open PySem PySem.Spec PyProof.Rows L2
section
variable {P : Program} {w : World} {K : PySem.W.Frag} {mg : Str → Option Value} {base : Heap}
/-- a def's promise where no repr is under way -/
def RunG (P : Program) (w : World) (K : PySem.W.Frag) (mg : Str → Option Value) (base : Heap) (k : Nat) (f : Addr) (fd : FuncData) (ps : List Str) (sp : Sp) : Prop :=
  ∀ (A : Around) (outer : List Env) (s : Shared) (H : Hp) (args : Args) (us : List Value) (vs : List V) (Q : VK) (E : XK), A.guards = some [] → Room k A → Env0 P w K mg base A outer s H → BindsTo s fd args (ps.zip us) → Vals vs us → sp vs H Q E → codeAny (model P w) A (.call (.ref f) args) (CR CX0 outer P w H s Q E) s
theorem okG {x qual : Str} {st : Stmt} {f : Addr} {fd : FuncData} {N ps : List Str} {k : Nat} {sp : Sp} (F : Fun K x qual st f fd) (S : FnScope N ps (defScope st)) (len : ∀ vs H Q E, sp vs H Q E → vs.length = ps.length)
    (hbody : ∀ (cdv : Value) (A : Around) (outer : List Env) (s : Shared) (H : Hp) (vs : List V) (Q : VK) (E : XK), A.guards = some [] → Room k (A.deeper (envOfC qual (defScope st) s.heap.objs.size f cdv)) → sp vs H Q E →
      ∃ t, PSs (cxOf CX0 P w K mg base N qual (defScope st) f cdv A outer s H E).nox (defBody st) t ∧ t { nx := fun _ H' => Q .non H', rt := Q } (start N vs) H) : RunG P w K mg base (k + 1) f fd ps sp := by
  obtain ⟨oc, od, kV, doc, pm, an, cdv, ct, osl, rfl, lk, hcd⟩ := F.ex
  intro A outer s H args us vs Q E hgd hr e0 hb r hsp
  have hl := len _ _ _ _ hsp; have KX : K.In s.heap := e0.mod.kin.keeps fun b o e => (e0.bs b o e).1
  have lim : s.heap.NoLimit := e0.mod.nolimit.keeps fun b o e => (e0.bs b o e).1
  have kinds : ∀ y ∈ ps.zip us, (defScope st).names.lookup y.1 = some .local ∨ ((defScope st).names.lookup y.1 = some .cell ∧ ((cellsFrom (s.heap.objs.size + 1) (defScope st).names []).lookup y.1).isSome = true) := fun ⟨n, v⟩ hy => by
    rcases S.par n (List.of_mem_zip hy).1 with q | q; exact .inl q; exact .inr ⟨q, PySem.W.cellsFrom_some _ _ _ (.inl q)⟩
  refine codeAny_call_function hr.depth (KX _ _ lk) rfl S.co S.gen rfl (PySem.W.codeRec_of KX hcd) (hb _ _ _ _ (wpAny_newFunctionEnv_cells S.kind kinds fun env he s1 x => ?_))
  subst he; refine ⟨lim.keeps x.toInCall.keep, codeAny_func ?_⟩
  obtain ⟨t, ht, hq⟩ := hbody cdv A outer s H vs Q E hgd (hr.deeper _) hsp
  have I : Inv (cxOf CX0 P w K mg base N qual (defScope st) f cdv A outer s H E) [] (start N vs) H s1 := inv_start S hr.hd e0 hl r x
  refine wpAny_mono (ht.nox.run [] s1 (start N vs) H _ I hq) (fun fl s' hs => ?_) fun e s' hs => hs
  have fin : ∀ {σ' : L2.St} {H' : Hp} {v : V} {u : Value}, Inv (cxOf CX0 P w K mg base N qual (defScope st) f cdv A outer s H E) [] σ' H' s' → RelV v u → Q v H' → CE outer P w H s Q u s' := fun {σ' H' v u} J rv q => ⟨v, H', J.os, J.bare, J.base, J.hok, rv, q⟩
  cases fl with
  | ret u => obtain ⟨v, σ', H', J, rv, q⟩ := hs; exact fin J rv q
  | next => obtain ⟨σ', H', J, q⟩ := hs; exact fin (v := V.non) (u := Value.none) J rfl q
  | brk => obtain ⟨_, _, _, q⟩ := hs; exact False.elim q
  | cont => obtain ⟨_, _, _, q⟩ := hs; exact False.elim q
end
theorem law_callG {P : Program} {w : World} {K : PySem.W.Frag} {mg mb : Str → Option Value} {k : Nat} {fa a : Addr} {fd : FuncData} {x : Str} {sp : Sp} {s₁ : Shared} {vs : List Value} {ns : List Int} (KX : K.In s₁.heap) (hns : s₁.heap.Ns mainGlobals mg) (hb : s₁.heap.Ns builtinsNs mb) (hbb : ∀ x : Str, x ≠ "__name__" → mb x = bootBuiltins x)
    (hlim : s₁.heap.NoLimit) (hg : s₁.gens = #[]) (ha : s₁.heap.get? a = some { cls := .type "list", data := .seq vs.toArray }) (hi : IntsAre vs ns) (hl : ns.length ≤ sizeLine) (hr : Room k callerA) (F : ∀ base : Heap, K.In base → base.Ns mainGlobals mg → RunG P w K mg base k fa fd [x] sp)
    (hbind : ∀ (s : Shared) (u : Value), BindsTo s fd ⟨[u], []⟩ [(x, u)]) (hsp : ∀ H : Hp, Only H → SqL K H a (ns.map V.int) → sp [.ref a] H (fun v _ => v = .bl true) fun _ _ _ => False) :
    codeAny (model P w) callerA (.call (.ref fa) ⟨[.ref a], []⟩) (fun r s' => r = .ok (.ret (.bool true)) ∧ OldK s₁.heap s'.heap ∧ s'.os = s₁.os ∧ AllBare s'.gens) s₁ := by
  have rv := vals_ints hi; have lenV := hi.length
  have core : ∀ H : Hp, Only H → SqL K H a (ns.map V.int) → HOk P w H s₁.heap → (∀ b, H b ≠ none → b = a) → (H a ≠ none → K.lookup a = none) → codeAny (model P w) callerA (.call (.ref fa) ⟨[.ref a], []⟩) (fun r s' => r = .ok (.ret (.bool true)) ∧ OldK s₁.heap s'.heap ∧ s'.os = s₁.os ∧ AllBare s'.gens) s₁ := by
    intro H hO hS hok hA hK
    have b1 : ∀ {b : Addr} {o : Obj}, s₁.heap.get? b = some o → H b = none → (hidT s₁.heap H).get? b = some o := fun e n => hidT_get e n
    have n1 : ∀ {b : Addr} {o : Obj} {es : Array DictEntry} {ep : Nat}, s₁.heap.get? b = some o → o.data = .dict es ep → H b = none := fun {b o es ep} e d => by
      cases q : H b with
      | none => rfl
      | some u => have e' : b = a := hA b (by rw [q]; simp)
                  subst e'; rw [ha] at e; cases e; cases (show Data.seq vs.toArray _ = Data.dict es ep from d)
    have n2 : ∀ {b : Addr} {m : Str → Option Value}, s₁.heap.Ns b m → (hidT s₁.heap H).Ns b m := fun {b m} ⟨o, es, ep, e, d, r⟩ => ⟨o, es, ep, b1 e (n1 e d), d, r⟩
    have hKb : K.In (hidT s₁.heap H) := fun b o e => b1 (KX b o e) (by
      cases q : H b with
      | none => rfl
      | some u => have e' : b = a := hA b (by rw [q]; simp)
                  subst e'; rw [hK (by rw [q]; simp)] at e; cases e)
    have hM : Mod K mg (hidT s₁.heap H) := ⟨hKb, n2 hns, ⟨mb, n2 hb, hbb⟩, let ⟨mc, h1, h2⟩ := hlim; ⟨mc, n2 h1, h2⟩⟩
    have e0 : Env0 P w K mg (hidT s₁.heap H) callerA [] s₁ H := ⟨rfl, hM, fun b o e => of_hidT e, Nat.le_of_eq (hidT_size _ _), trivial, fun b hb => absurd (show b ∈ ([] : List Addr) from hb) (by simp), hok, .of_eq hg⟩
    refine codeAny_mono (F _ hKb (n2 hns) callerA [] s₁ H ⟨[.ref a], []⟩ [.ref a] [.ref a] _ _ rfl hr e0 (hbind s₁ (.ref a)) (.cons rfl .nil) (hsp H hO hS)) fun r s' h => ?_
    cases r with
    | error e => exact (show False from h).elim
    | ok fl =>
      cases fl with
      | next => exact False.elim h
      | brk => exact False.elim h
      | cont => exact False.elim h
      | ret u =>
        obtain ⟨v, H', os, bare, un, hok', r', q⟩ := h
        subst q; obtain rfl : u = Value.bool true := r'
        refine ⟨rfl, OldK.of_keep fun b o e => ?_, os, bare⟩
        cases q : H b with
        | none => exact un.keep b o e q (by intro z; exact absurd (show b ∈ ([] : List Addr) from z) (by simp)) (by simp)
        | some u =>
          rcases hO b with z | ⟨ob, xs, z⟩
          · rw [q] at z; cases z
          · obtain ⟨e1, _⟩ := hok b _ z; obtain ⟨e2, _⟩ := hok' b _ (un.frzs b ob _ z)
            rw [e] at e1; cases e1; exact e2
  cases hk : K.lookup a with
  | some o =>
    have e := KX a o hk; rw [ha] at e; cases e
    exact core (fun _ => none) (fun _ => .inl rfl) (.inr ⟨_, vs.toArray, _, hk, rfl, rfl, rfl, by rw [List.size_toArray, lenV]; exact hl, by simpa using rv⟩) (fun b u z => by cases (show (none : Option HO) = some u from z)) (fun b z => absurd rfl z) fun z => absurd rfl z
  | none =>
    refine core (fun b => if b = a then some (.frz { cls := .type "list", data := .seq vs.toArray } (.lst (ns.map V.int))) else none) (fun b => ?_) (.inl (.inr ⟨{ cls := .type "list", data := .seq vs.toArray }, if_pos rfl⟩)) (fun b u z => ?_) (fun b z => ?_) fun _ => hk
    · by_cases e : b = a
      · exact .inr ⟨_, _, if_pos e⟩
      · exact .inl (if_neg e)
    · by_cases e : b = a
      · cases (if_pos e).symm.trans z; subst e
        exact ⟨ha, by rw [List.length_map]; exact hl, vs, _, rv, ha⟩
      · cases (if_neg e).symm.trans z
    · by_cases e : b = a
      · exact e
      · exact absurd (if_neg e) z
theorem walk_ofG {l : PySem.W.OpenLaw} {n k : Nat} {q : Program} {loose : List Str} {XP : (Str → Option Value) → Heap → Prop} {YP : World → Heap → Prop} {d : DefRec} {K : Params → PySem.W.Frag} {sp : World → Sp} {x : Str} (hn : l.most = some n) (hn2 : n ≤ sizeLine) (hdf : d.params.defaults = []) (hr : Room k callerA) (hY : ∀ (w : World) (h : Heap), YP w h → (K w.params).In h)
    (F : ∀ (w : World) (mg : Str → Option Value) (fa : Addr) (h : Heap), (K w.params).In h → h.Ns mainGlobals mg → mg d.name = some (.ref fa) → ∃ fd : FuncData, (∀ (s : Shared) (u : Value), BindsTo s fd ⟨[u], []⟩ [(x, u)]) ∧ ∀ base : Heap, (K w.params).In base → base.Ns mainGlobals mg → RunG l.prog w (K w.params) mg base k fa fd [x] (sp w))
    (hsp : ∀ (w : World) (H : Hp) (a : Addr) (ns : List Int), ns.length ≤ n → Only H → SqL (K w.params) H a (ns.map V.int) → sp w [.ref a] H (fun v _ => v = .bl true) fun _ _ _ => False) : PySem.W.WalkO q loose XP YP l.row.toRowW d [] (fun f vs => PySem.call f vs) := by
  refine Att.attach_call hn hdf fun w s₀ s₁ mg mb fa o pm cd doc a vs ns G Y ho hd hcd hmg hobj hints hlen hg => ?_
  have KX := hY w _ Y; obtain ⟨fd, hb, hF⟩ := F w mg fa _ KX G.T.g hmg
  exact law_callG KX G.T.g G.T.b G.T.builtins G.T.nolimit hg hobj hints (Nat.le_trans hlen hn2) hr hF hb (fun H hO hS => hsp w H a ns hlen hO hS)
end TR
namespace TR
open PySem PySem.Spec PyProof.Rows L2
theorem scOdd : FnScope ["_law_deck_here", "_law_some"] ["_law_deck_here"] (defScope sOdd) := ⟨rfl, rfl, rfl, by decide +kernel, rfl, by decide +kernel, by decide +kernel⟩
def oddD : List PyData := [.none, .bool true, .bool false, .int 0, .int 1, .int (-1), .int 2, .int 8, .int 16, .int (10 ^ 12), .int (10 ^ 12 + 1), .int (10 ^ 59), .str "", .str "0", .str "triple", .tuple [], .tuple [.int 0], .tuple [.int 0, .int 1], .list [], .dict [], .list [.int 0], .tuple [.bool true], .tuple [.tuple []]]
theorem odd_wf : ∀ d ∈ oddD, Wf 2 2 d := by
  unfold oddD
  refine List.forall_mem_cons.mpr ⟨.inl trivial, List.forall_mem_cons.mpr ⟨.inl trivial, List.forall_mem_cons.mpr ⟨.inl trivial, List.forall_mem_cons.mpr ⟨.inl (by show _ ≤ 10 ^ 59 + 2; decide +kernel), List.forall_mem_cons.mpr ⟨.inl (by show _ ≤ 10 ^ 59 + 2; decide +kernel), List.forall_mem_cons.mpr ⟨.inl (by show _ ≤ 10 ^ 59 + 2; decide +kernel), List.forall_mem_cons.mpr ⟨.inl (by show _ ≤ 10 ^ 59 + 2; decide +kernel), List.forall_mem_cons.mpr ⟨.inl (by show _ ≤ 10 ^ 59 + 2; decide +kernel), List.forall_mem_cons.mpr ⟨.inl (by show _ ≤ 10 ^ 59 + 2; decide +kernel), List.forall_mem_cons.mpr ⟨.inl (by show _ ≤ 10 ^ 59 + 2; decide +kernel), List.forall_mem_cons.mpr ⟨.inl (by show _ ≤ 10 ^ 59 + 2; decide +kernel), List.forall_mem_cons.mpr ⟨.inl (by show _ ≤ 10 ^ 59 + 2; decide +kernel), List.forall_mem_cons.mpr ⟨.inl ⟨by decide +kernel, by decide +kernel⟩, List.forall_mem_cons.mpr ⟨.inl ⟨by decide +kernel, by decide +kernel⟩, List.forall_mem_cons.mpr ⟨.inl ⟨by decide +kernel, by decide +kernel⟩, List.forall_mem_cons.mpr ⟨.inr (.inr ⟨_, .inr rfl, by decide, by simp⟩), List.forall_mem_cons.mpr ⟨.inr (.inr ⟨_, .inr rfl, by decide, by intro e he; rw [List.mem_singleton] at he; subst he; exact .inl (by show _ ≤ 10 ^ 59 + 2; decide +kernel)⟩), List.forall_mem_cons.mpr ⟨.inr (.inr ⟨_, .inr rfl, by decide, by intro e he; simp only [List.mem_cons, List.not_mem_nil, or_false] at he; rcases he with rfl | rfl <;> exact .inl (by show _ ≤ 10 ^ 59 + 2; decide +kernel)⟩), List.forall_mem_cons.mpr ⟨.inr (.inr ⟨_, .inl rfl, by decide, by simp⟩), List.forall_mem_cons.mpr ⟨.inr (.inl rfl), List.forall_mem_cons.mpr ⟨.inr (.inr ⟨_, .inl rfl, by decide, by intro e he; rw [List.mem_singleton] at he; subst he; exact .inl (by show _ ≤ 10 ^ 59 + 2; decide +kernel)⟩), List.forall_mem_cons.mpr ⟨.inr (.inr ⟨_, .inr rfl, by decide, by intro e he; rw [List.mem_singleton] at he; subst he; exact .inl trivial⟩), List.forall_mem_cons.mpr ⟨.inr (.inr ⟨_, .inr rfl, by decide, by intro e he; rw [List.mem_singleton] at he; subst he; exact .inr (.inr ⟨[], .inr rfl, by decide, by simp⟩)⟩), (fun _ h => absurd h (by simp))⟩⟩⟩⟩⟩⟩⟩⟩⟩⟩⟩⟩⟩⟩⟩⟩⟩⟩⟩⟩⟩⟩⟩
/-- objects that stand -/
def Alive (B : List Addr) (H : Hp) : Prop := ∀ b ∈ B, ∃ o, H b = some o
theorem Alive.nil {H : Hp} : Alive [] H := fun b h => absurd h (by simp)
theorem Alive.same {B : List Addr} {H H' : Hp} (a : Alive B H) (s : Same H H') : Alive B H' := fun b hb => by
  obtain ⟨o, e⟩ := a b hb
  exact ⟨o, s _ _ e⟩
theorem Alive.keep {B : List Addr} {H H' : Hp} {d p q : Addr} {n : Nat} (a : Alive B H) (k : Keep d p H H') (D : Deck H' d p q n) : Alive B H' := fun b hb => by
  obtain ⟨o, e⟩ := a b hb
  by_cases h1 : b = d
  · obtain ⟨x, y, c, g⟩ := D.hd
    exact ⟨_, h1 ▸ g⟩
  · by_cases h2 : b = p
    · obtain ⟨x, g⟩ := D.hp
      exact ⟨_, h2 ▸ g⟩
    · exact ⟨o, k _ _ e h1 h2⟩
theorem Alive.fresh {B : List Addr} {H : Hp} {l : Addr} (a : Alive B H) (h : H l = none) : l ∉ B := fun hb => by
  obtain ⟨o, e⟩ := a l hb
  rw [h] at e
  cases e
theorem RpAll.keep {H H' : Hp} {ban : List Addr} {ds : List PyData} {xs : List V} {k p q : Addr} {n : Nat} (h : RpAll H ban ds xs) (D : Deck H k p q n) (s : Keep k p H H') (b1 : k ∈ ban) (b2 : p ∈ ban) : RpAll H' ban ds xs := by
  obtain ⟨x, y, c, e1⟩ := D.hd
  obtain ⟨zs, e2⟩ := D.hp
  refine RpAll.mv (fun a xs hn e => s _ _ e (fun z => hn (z ▸ b1)) (fun z => hn (z ▸ b2))) (fun a xs e => ?_) (fun a e => s _ _ e (ne_of e e1 (by intro z; cases z)) (ne_of e e2 (by intro z; cases z))) ds xs h
  rcases e with e | ⟨o, e⟩
  · exact .inl (s _ _ e (ne_of e e1 (by intro z; cases z)) (ne_of e e2 (by intro z; cases z)))
  · exact .inr ⟨o, s _ _ e (ne_of e e1 (by intro z; cases z)) (ne_of e e2 (by intro z; cases z))⟩
section
variable {P : Program} {w : World} {K : PySem.W.Frag} {mg : Str → Option Value} {base : Heap}
def spOdd : Sp := fun vs H Q _ => ∃ (d p q : Addr) (c : Nat) (B : List Addr), vs = [.ref d] ∧ Deck H d p q c ∧ c ≤ 1000000 ∧ Alive B H ∧ ∀ H' x dd, Deck H' d p q (c + 1) → Keep d p H H' → Rp H' (d :: p :: sysModules :: B) dd x → Wf 2 2 dd → Q x H'
theorem ok_odd {f fN : Addr} {fd dN : FuncData} {k : Nat} (F : Fun K "_law_odd" "_law_odd" sOdd f fd) (kN : PySem.W.keepIn K (.ref fN) = true) (bN : Binds K dN ["_law_deck_here", "_law_many"] []) (gN : mg "_law_next" = some (.ref fN)) (GN : FnOk P w K mg base CX0 (k + 1) fN dN ["_law_deck_here", "_law_many"] spNext) :
    FnOk P w K mg base CX0 (k + 2) f fd ["_law_deck_here"] spOdd := by
  refine F.ok scOdd (fun vs H Q E h => ?_) (fun cdv A outer s H vs Q E hr h => ?_)
  · obtain ⟨d, p, q, c, B, rfl, _⟩ := h
    rfl
  · obtain ⟨d, p, q, c, B, rfl, D0, hc, hB, qq⟩ := h
    refine ⟨_, pss_cons (ps_set (i := 1) scOdd.nd rfl (.inl rfl) (pe_lstN (pa_cons (pe_non) (pa_cons (pe_bl) (pa_cons (pe_bl) (pa_cons (pe_int) (pa_cons (pe_int) (pa_cons (pe_un un_neg pe_int) (pa_cons (pe_int) (pa_cons (pe_int) (pa_cons (pe_int) (pa_cons (pe_op op_pow pe_int pe_int) (pa_cons (pe_op op_add (pe_op op_pow pe_int pe_int) pe_int) (pa_cons (pe_op op_pow pe_int pe_int) (pa_cons (pe_str) (pa_cons (pe_str) (pa_cons (pe_str) (pa_cons (pe_tupN pa_nil) (pa_cons (pe_tupN (pa_cons pe_int pa_nil)) pa_nil)))))))))))))))))))
      (pss_one (ps_ret (pe_ix ix_list (pe_op op_catN (pv 1) (pe_lstN (pa_cons (pe_tupN (pa_cons pe_int (pa_cons pe_int pa_nil))) (pa_cons (pe_lstN pa_nil) (pa_cons (pe_dnewN) (pa_cons (pe_lstN (pa_cons pe_int pa_nil)) (pa_cons (pe_tupN (pa_cons pe_bl pa_nil)) (pa_cons (pe_tupN (pa_cons (pe_tupN pa_nil) pa_nil)) pa_nil)))))))) (pe_call GN hr (by rfl) gN kN bN .nil pass0 (pa_cons (pv 0) (pa_cons pe_int pa_nil))) (fun _ _ => rfl)))), ?_⟩
    refine ⟨1, rfl, 10, 12, rfl, rfl, ⟨by decide, by decide, by decide⟩, 10, 12, rfl, rfl, ⟨by decide, by decide, by decide⟩, _, 1, rfl, rfl, 10, 59, rfl, rfl, ⟨by decide, by decide, by decide⟩, Nat.zero_le _, fun t1 H1 _ s1 e1 => ⟨by show 1 ≤ sizeLine; decide, fun t2 H2 _ s2 e2 => ⟨by show 17 ≤ sizeLine; decide, fun l0 H3 hl0 _ s3 e3 => ?_⟩⟩⟩
    refine ⟨.ref l0, rfl, by show 2 ≤ sizeLine; decide, fun t3 H4 _ s4 e4 => ⟨Nat.zero_le _, fun l1 H5 hl1 n1 s5 e5 => fun d1 H6 _ s6 e6 => ⟨by show 1 ≤ sizeLine; decide, fun l2 H7 hl2 n2 s7 e7 => ⟨by show 1 ≤ sizeLine; decide, fun t4 H8 _ s8 e8 => ⟨Nat.zero_le _, fun t5 H9 _ s9 e9 => ⟨by show 1 ≤ sizeLine; decide, fun t6 Ha _ sa ea => ⟨by show 6 ≤ sizeLine; decide, fun l3 Hb _ _ sb eb => ?_⟩⟩⟩⟩⟩⟩⟩
    have s9b := sa.trans sb
    have s8b := s9.trans s9b
    have s7b := s8.trans s8b
    have s6b := s7.trans s7b
    have s5b := s6.trans s6b
    have s4b := s5.trans s5b
    have s3b := s4.trans s4b
    have s2b := s3.trans s3b
    have s1b := s2.trans s2b
    have s0b := s1.trans s1b
    refine ⟨l0, l3, _, _, rfl, rfl, s3b _ _ e3, eb, by show 23 ≤ sizeLine; decide, fun l4 Hc hl4 sc ec => ?_⟩
    have D4 := D0.same (s1.trans (s2.trans (s3.trans s4)))
    have D6 := D4.same (s5.trans s6)
    have Db := D0.same s0b
    have b1 : l1 ∉ (d :: p :: sysModules :: B) := by
      simp only [List.mem_cons, not_or]
      exact ⟨D4.ned hl1, D4.nep hl1, n1, (hB.same (s1.trans (s2.trans (s3.trans s4)))).fresh hl1⟩
    have b2 : l2 ∉ (d :: p :: sysModules :: B) := by
      simp only [List.mem_cons, not_or]
      exact ⟨D6.ned hl2, D6.nep hl2, n2, (hB.same (s1.trans (s2.trans (s3.trans (s4.trans (s5.trans s6)))))).fresh hl2⟩
    have Dc := Db.same sc
    have all : RpAll Hc (d :: p :: sysModules :: B) oddD _ := ⟨.non, _, rfl, rfl, .bl true, _, rfl, rfl, .bl false, _, rfl, rfl, .int 0, _, rfl, rfl, .int 1, _, rfl, rfl, .int (-1), _, rfl, rfl, .int 2, _, rfl, rfl, .int 8, _, rfl, rfl, .int 16, _, rfl, rfl, .int (10 ^ 12), _, rfl, rfl, .int (10 ^ 12 + 1), _, rfl, rfl, .int (10 ^ 59), _, rfl, rfl, .str "", _, rfl, rfl, .str "0", _, rfl, rfl, .str "triple", _, rfl, rfl,
      .ref t1, _, rfl, ⟨t1, [], rfl, .inl (sc _ _ (s1b _ _ e1)), rfl⟩, .ref t2, _, rfl, ⟨t2, [.int 0], rfl, .inl (sc _ _ (s2b _ _ e2)), .int 0, [], rfl, rfl, rfl⟩, .ref t3, _, rfl, ⟨t3, [.int 0, .int 1], rfl, .inl (sc _ _ (s4b _ _ e4)), .int 0, _, rfl, rfl, .int 1, [], rfl, rfl, rfl⟩,
      .ref l1, _, rfl, ⟨l1, [], rfl, sc _ _ (s5b _ _ e5), b1, rfl⟩, .ref d1, _, rfl, ⟨rfl, d1, rfl, sc _ _ (s6b _ _ e6)⟩, .ref l2, _, rfl, ⟨l2, [.int 0], rfl, sc _ _ (s7b _ _ e7), b2, .int 0, [], rfl, rfl, rfl⟩, .ref t4, _, rfl, ⟨t4, [.bl true], rfl, .inl (sc _ _ (s8b _ _ e8)), .bl true, [], rfl, rfl, rfl⟩,
      .ref t6, [], rfl, ⟨t6, [.ref t5], rfl, .inl (sc _ _ (sb _ _ ea)), .ref t5, [], rfl, ⟨t5, [], rfl, .inl (sc _ _ (s9b _ _ e9)), rfl⟩, rfl⟩, rfl⟩
    refine ⟨.ref d, rfl, d, p, q, c, 23, rfl, Dc, by omega, by decide, by decide, fun Hd r r0 r1 Dd kd => ?_⟩
    obtain ⟨j, rfl⟩ := Int.eq_ofNat_of_zero_le r0
    have nld : l4 ≠ d := Db.ned hl4
    have nlp : l4 ≠ p := Db.nep hl4
    have ed := kd _ _ ec nld nlp
    have alld := all.keep Dc kd (by simp) (by simp)
    have el := alld.len
    have hj : j < oddD.length := by
      have : oddD.length = 23 := by decide
      omega
    rw [← el] at hj
    have gx := List.getElem?_eq_getElem hj
    obtain ⟨dd, hg, hrp⟩ := alld.get gx
    exact ⟨l4, _, (j : Int), _, rfl, rfl, sqL ed, atI_nat gx, qq Hd _ dd Dd ((Same.keep (s0b.trans sc)).trans kd) hrp (odd_wf dd (List.mem_of_getElem? hg))⟩
end
end TR
namespace TR
open PySem PySem.Spec PyProof.Rows L2
theorem scBent : FnScope ["_law_deck_here", "_law_thing", "_law_deep", "_law_spot"] ["_law_deck_here", "_law_thing", "_law_deep"] (defScope sBent) := ⟨rfl, rfl, rfl, by decide +kernel, rfl, by decide +kernel, by decide +kernel⟩
theorem RpAll.cut {H : Hp} {ban : List Addr} {ds : List PyData} {xs : List V} (h : RpAll H ban ds xs) (lo hi : Option Int) : RpAll H ban ((ds.drop (HT.sIx xs.length 0 lo)).take (HT.sIx xs.length xs.length hi - HT.sIx xs.length 0 lo)) (cutV xs lo hi) := (h.drop _).take _
theorem Wf.kids {L D : Nat} {ds : List PyData} (h : Wf L D (.tuple ds)) : 1 ≤ D ∧ ds.length ≤ L ∧ ∀ e ∈ ds, Wf L (D - 1) e := by
  cases D with
  | zero => exact (show False from h).elim
  | succ D =>
    rcases h with h | h | ⟨es, e, l, c⟩
    · exact (show False from h).elim
    · cases h
    · rcases e with e | e
      · cases e
      · injection e with e
        subst e
        exact ⟨by omega, l, c⟩
theorem Wf.tup {L D : Nat} {ds : List PyData} (l : ds.length ≤ L) (c : ∀ e ∈ ds, Wf L D e) : Wf L (D + 1) (.tuple ds) := .inr (.inr ⟨ds, .inr rfl, l, c⟩)
theorem Wf.lst {L D : Nat} {ds : List PyData} (l : ds.length ≤ L) (c : ∀ e ∈ ds, Wf L D e) : Wf L (D + 1) (.list ds) := .inr (.inr ⟨ds, .inl rfl, l, c⟩)
theorem Wf.leaf {L D : Nat} {d : PyData} (h : leafOk L d) : Wf L D d := by
  cases D with
  | zero => exact h
  | succ D => exact .inl h
theorem Wf.leaf_of {L D : Nat} {d : PyData} (h : Wf L D d) (t : tyD d = "int") : leafOk L d := by
  cases D with
  | zero => exact h
  | succ D =>
    rcases h with h | h | ⟨es, e, l, c⟩
    · exact h
    · subst h
      simp [tyD] at t
    · rcases e with e | e <;> subst e <;> simp [tyD] at t
theorem text_ok {L : Nat} {i : Int} (h : L ≤ 30) (g : i.natAbs ≤ 10 ^ 59 + L) : leafOk L (.str (Str.ofString (toString i))) := by
  refine ⟨?_, fun c hc => ?_⟩
  · have := int_text_length_le10 (k := 60) (by decide) (small_int h g)
    rw [PySem.ofString_length]
    omega
  · rw [signs_ofString] at hc
    obtain ⟨ch, _, rfl⟩ := List.mem_map.mp hc
    have := ch.valid
    have h2 : ch.toNat < 1114112 := by
      rcases this with h | h
      · exact Nat.lt_trans (show ch.val.toNat < 55296 from h) (by decide)
      · exact h.2
    exact Nat.lt_trans h2 (by decide)
theorem sIx_last (n : Nat) : HT.sIx n 0 (some (-1)) = n - 1 := by
  show (if (-1 : Int) < 0 then ((-1 : Int) + (n : Int)).toNat else min (-1 : Int).toNat n) = n - 1
  rw [if_pos (by decide)]
  omega
section
variable {P : Program} {w : World} {K : PySem.W.Frag} {mg : Str → Option Value} {base : Heap}
def spBent : Nat → Sp
  | 0 => fun _ _ _ _ => False
  | m + 1 => fun vs H Q _ => ∃ (d p q : Addr) (c : Nat) (x : V) (dd : PyData) (L D : Nat) (B : List Addr), vs = [.ref d, x, .int (m : Int)] ∧ Deck H d p q c ∧ c + 10 * (m + 1) ≤ 900000 ∧ Alive B H ∧ Rp H (d :: p :: sysModules :: B) dd x ∧ Wf L D dd ∧ 2 ≤ L ∧ L ≤ 20 ∧
      ∀ H' y ee, Deck H' d p q (c + 10 * (m + 1)) → Keep d p H H' → Rp H' (d :: p :: sysModules :: B) ee y → Wf (L + 1) (max D (m + 2)) ee → sz ee ≤ 2 * sz dd + 20 → Q y H'
theorem ok_bent {f fN fO : Addr} {fd dN dO : FuncData} (F : Fun K "_law_bent" "_law_bent" sBent f fd) (bB : Binds K fd ["_law_deck_here", "_law_thing", "_law_deep"] []) (gB : mg "_law_bent" = some (.ref f))
    (kN : PySem.W.keepIn K (.ref fN) = true) (bN : Binds K dN ["_law_deck_here", "_law_many"] []) (gN : mg "_law_next" = some (.ref fN)) (GN : ∀ k, FnOk P w K mg base CX0 (k + 1) fN dN ["_law_deck_here", "_law_many"] spNext)
    (kO : PySem.W.keepIn K (.ref fO) = true) (bO : Binds K dO ["_law_deck_here"] []) (gO : mg "_law_odd" = some (.ref fO)) (GO : ∀ k, FnOk P w K mg base CX0 (k + 2) fO dO ["_law_deck_here"] spOdd)
    (misi : mg "isinstance" = none) (mt : mg "tuple" = none) (mlen : mg "len" = none) (ml : mg "list" = none) (mi : mg "int" = none) (ms : mg "str" = none) : ∀ m, FnOk P w K mg base CX0 (m + 2) f fd ["_law_deck_here", "_law_thing", "_law_deep"] (spBent m)
  | 0 => ⟨fun vs H Q E h => (show False from h).elim, fun A outer s H args us vs Q E hr he hb hv h => (show False from h).elim⟩
  | m + 1 => by
    have GB := ok_bent F bB gB kN bN gN GN kO bO gO GO misi mt mlen ml mi ms m
    refine F.ok scBent (fun vs H Q E h => ?_) (fun cdv A outer s H vs Q E hr h => ?_)
    · obtain ⟨d, p, q, c, x, dd, L, D, B, rfl, _⟩ := h
      rfl
    · obtain ⟨d, p, q, c, x, dd, L, D, B, rfl, D0, hc, hB, hp, hw, hL2, hL, qq⟩ := h
      have GN' := GN (m + 1)
      have GO' := GO m
      obtain ⟨k1, k2, k3⟩ := kitD (K := K) dd
      have rest : ∃ t, PSs (cxOf CX0 P w K mg base ["_law_deck_here", "_law_thing", "_law_deep", "_law_spot"] "_law_bent" (defScope sBent) f cdv A outer s H E).nox ((defBody sBent).drop 1) t ∧
          ∀ H1, Deck H1 d p q (c + 1) → Keep d p H H1 → Rp H1 (d :: p :: sysModules :: B) dd x → t { nx := fun _ H' => Q .non H', rt := Q } [some (.ref d), some x, some (.int (m : Int)), none] H1 := by
        refine ⟨_, pss_cons (ps_if (pt_val (pe_callB call_isi (by rfl) misi (by decide +kernel) (pa_cons (pv 1) (pa_cons (pe_bltn (v := .ty "tuple") (by rfl) mt (by decide +kernel) rfl) pa_nil))))
            (pss_one (ps_ret (pe_ix ix_list (pe_lstN (pa_cons (pe_slice sl_tupN (pv 1) (po_some pe_int) po_none) (pa_cons (pe_op op_catTN (pv 1) (pe_slice sl_tupN (pv 1) (po_some (pe_un un_neg pe_int)) po_none)) (pa_cons (pe_revN (pv 1) (fun σ H Q Q' m h => let ⟨v, e, g⟩ := h; ⟨v, e, m _ _ g⟩)) (pa_cons (pe_callTy call_listN (by rfl) ml (by decide +kernel) (pa_cons (pv 1) pa_nil)) (pa_cons (pe_call GO' hr (by rfl) gO kO bO .nil pass0 (pa_cons (pv 0) pa_nil)) pa_nil))))))
              (pe_call GN' hr (by rfl) gN kN bN .nil pass0 (pa_cons (pv 0) (pa_cons pe_int pa_nil))) (fun _ _ => rfl)))) pss_nil)
          (pss_cons (ps_if (pt_val (pe_callB call_isi (by rfl) misi (by decide +kernel) (pa_cons (pv 1) (pa_cons (pe_bltn (v := .ty "int") (by rfl) mi (by decide +kernel) rfl) pa_nil))))
            (pss_one (ps_ret (pe_ix ix_list (pe_lstN (pa_cons (pe_op (OpR.either op_add op_add_bi) (pv 1) pe_int) (pa_cons (pe_op (OpR.either op_sub op_sub_bi) (pv 1) pe_int) (pa_cons (pe_callTy call_str_ib (by rfl) ms (by decide +kernel) (pa_cons (pv 1) pa_nil)) (pa_cons (pe_cmpR (op_eqD hr.units) (pv 1) pe_int (nomark _)) (pa_cons pe_int (pa_cons (pe_call GO' hr (by rfl) gO kO bO .nil pass0 (pa_cons (pv 0) pa_nil)) pa_nil)))))))
              (pe_call GN' hr (by rfl) gN kN bN .nil pass0 (pa_cons (pv 0) (pa_cons pe_int pa_nil))) (fun _ _ => rfl)))) pss_nil)
          (pss_one (ps_ret (pe_call GO' hr (by rfl) gO kO bO .nil pass0 (pa_cons (pv 0) pa_nil))))), fun H1 D1 kp1 hp1 => ?_⟩
        have finish : ∀ (ds : List PyData) (xs : List V) (H2 : Hp) (l : Addr) (n : Int), (n : Int) = (xs.length : Int) → 0 < n → n < 1000 → Deck H2 d p q (c + 2) → Keep d p H H2 → RpAll H2 (d :: p :: sysModules :: B) ds xs → H2 l = some (.lst xs) → l ≠ d → l ≠ p → (∀ e ∈ ds, Wf (L + 1) (max D (m + 2)) e ∧ sz e ≤ 2 * sz dd + 20) →
            spNext [.ref d, .int n] H2 (fun y H3 => rIxL K (.ref l) y H3 Q) E0 := by
          intro ds xs H2 l n en h0 h1 D2 kp2 hall hl nld nlp hwf
          refine ⟨d, p, q, c + 2, n, rfl, D2, by omega, h0, by omega, fun H3 r r0 r1 D3 kp3 => ?_⟩
          obtain ⟨j, rfl⟩ := Int.eq_ofNat_of_zero_le r0
          have hj : j < xs.length := by omega
          have all3 := hall.keep D2 kp3 (by simp) (by simp)
          obtain ⟨e, he, hre⟩ := all3.get (List.getElem?_eq_getElem hj)
          exact ⟨l, xs, (j : Int), _, rfl, rfl, sqL (kp3 _ _ hl nld nlp), atI_nat (List.getElem?_eq_getElem hj), qq H3 _ e (D3.mono (by omega)) (kp2.trans kp3) hre (hwf e (List.mem_of_getElem? he)).1 (hwf e (List.mem_of_getElem? he)).2⟩
        refine ⟨x, rfl, x, .ty "tuple", _, _, _, rfl, .ty _, tyRp hp1, k1, _, rfl, ?_⟩
        by_cases ht : tyD dd = "tuple"
        · rw [decide_eq_true ht]
          refine iteT ?_
          obtain ⟨ds, rfl⟩ := ty_tuple ht
          obtain ⟨a, xs, rfl, ha, hx⟩ := hp1
          obtain ⟨hD, hdl, hkids⟩ := hw.kids
          have xl : xs.length ≤ 20 := by
            rw [hx.len]
            omega
          have kid : ∀ e ∈ ds, Wf (L + 1) (max D (m + 2) - 1) e := fun e he => (hkids e he).mono (by omega) (by omega)
          have e1m : max D (m + 2) = (max D (m + 2) - 1) + 1 := by omega
          refine ⟨.ref a, rfl, 1, rfl, a, xs, rfl, ha, fun v1 H2 s2 h2 => ?_⟩
          have ha2 := rd_same s2 ha
          refine ⟨.ref a, rfl, .ref a, rfl, 1, rfl, -1, rfl, a, xs, rfl, ha2, fun v2 H3 s3 h3 => ?_⟩
          have ha3 := rd_same s3 ha2
          have ltail : (cutV xs (some (-1)) none).length ≤ 1 := by
            unfold cutV
            rw [sIx_last, HT.sIx_none, List.length_take]
            omega
          refine ⟨a, v2, xs, _, rfl, rfl, ha3, h3, ?_, fun v3 H4 s4 h4 => ?_⟩
          · exact Nat.le_of_lt (small1000 (by omega))
          have ha4 := rd_same s4 ha3
          refine ⟨.ref a, rfl, a, xs, rfl, ha4, fun v4 H5 s5 h5 => ?_⟩
          have ha5 := rd_same s5 ha4
          refine ⟨.ref a, rfl, a, xs, rfl, ha5, fun v5 H6 hv5 nv5 s6 h6 => ?_⟩
          have s16 : Same H1 H6 := s2.trans (s3.trans (s4.trans (s5.trans s6)))
          have D5 := D1.same (s2.trans (s3.trans (s4.trans s5)))
          have D6 := D5.same s6
          refine ⟨.ref d, rfl, d, p, q, c + 1, B, rfl, D6, by omega, (hB.keep kp1 D1).same s16, fun H7 v6 d6 D7 kp7 hp6 hw6 => ?_⟩
          have b5 : v5 ∉ (d :: p :: sysModules :: B) := by
            simp only [List.mem_cons, not_or]
            exact ⟨D5.ned hv5, D5.nep hv5, nv5, ((hB.keep kp1 D1).same (s2.trans (s3.trans (s4.trans s5)))).fresh hv5⟩
          have hx6 := hx.same s16
          refine ⟨by show 5 ≤ sizeLine; decide, fun l H8 hl nl s8 e8 => ?_⟩
          have c1 : RpAll H6 (d :: p :: sysModules :: B) ((ds.drop (HT.sIx xs.length 0 (some 1))).take (HT.sIx xs.length xs.length none - HT.sIx xs.length 0 (some 1))) (cutV xs (some 1) none) := hx6.cut _ _
          have c2 : RpAll H6 (d :: p :: sysModules :: B) ((ds.drop (HT.sIx xs.length 0 (some (-1)))).take (HT.sIx xs.length xs.length none - HT.sIx xs.length 0 (some (-1)))) (cutV xs (some (-1)) none) := hx6.cut _ _
          have lc2 := c2.len
          have r1 : Rp H6 (d :: p :: sysModules :: B) (.tuple _) (.ref v1) := ⟨v1, _, rfl, rd_same (s3.trans (s4.trans (s5.trans s6))) h2, c1⟩
          have r2 : Rp H6 (d :: p :: sysModules :: B) (.tuple _) (.ref v3) := ⟨v3, _, rfl, rd_same (s5.trans s6) h4, hx6.app c2⟩
          have r3 : Rp H6 (d :: p :: sysModules :: B) (.tuple ds.reverse) (.ref v4) := ⟨v4, _, rfl, rd_same s6 h5, hx6.rev⟩
          have r4 : Rp H6 (d :: p :: sysModules :: B) (.list ds) (.ref v5) := ⟨v5, _, rfl, h6, b5, hx6⟩
          have kk : ∀ {ee : PyData} {vv : V}, Rp H6 (d :: p :: sysModules :: B) ee vv → Rp H8 (d :: p :: sysModules :: B) ee vv := fun h => (h.keep D6 kp7 (by simp) (by simp)).same s8
          refine ⟨.ref d, rfl, finish [.tuple _, .tuple _, .tuple _, .list _, d6] _ H8 l 5 rfl (by decide) (by decide) (D7.same s8) ((kp1.trans (Same.keep s16)).trans (kp7.trans (Same.keep s8))) ⟨_, _, rfl, kk r1, _, _, rfl, kk r2, _, _, rfl, kk r3, _, _, rfl, kk r4, _, _, rfl, hp6.same s8, rfl⟩ e8 (D7.ned hl) (D7.nep hl) ?_⟩
          have z6 : sz d6 ≤ 2 * (1 + szAll ds) + 20 := by
            have : sz d6 ≤ 7 := hw6.sz
            omega
          refine List.forall_mem_cons.mpr ⟨?_, List.forall_mem_cons.mpr ⟨?_, List.forall_mem_cons.mpr ⟨?_, List.forall_mem_cons.mpr ⟨?_, List.forall_mem_cons.mpr ⟨⟨hw6.mono (by omega) (by omega), z6⟩, fun _ h => absurd h (by simp)⟩⟩⟩⟩⟩
          · refine ⟨?_, by show 1 + szAll ((ds.drop _).take _) ≤ 2 * (1 + szAll ds) + 20; have := szAll_cut ds (HT.sIx xs.length 0 (some 1)) (HT.sIx xs.length xs.length none - HT.sIx xs.length 0 (some 1)); omega⟩
            rw [e1m]
            refine Wf.tup ?_ fun e he => kid e (List.mem_of_mem_drop (List.mem_of_mem_take he))
            rw [List.length_take, List.length_drop]
            omega
          · refine ⟨?_, by show 1 + szAll (ds ++ (ds.drop _).take _) ≤ 2 * (1 + szAll ds) + 20; rw [szAll_app]; have := szAll_cut ds (HT.sIx xs.length 0 (some (-1))) (HT.sIx xs.length xs.length none - HT.sIx xs.length 0 (some (-1))); omega⟩
            rw [e1m]
            refine Wf.tup ?_ fun e he => ?_
            · rw [List.length_append]
              omega
            · rcases List.mem_append.mp he with he | he
              · exact kid e he
              · exact kid e (List.mem_of_mem_drop (List.mem_of_mem_take he))
          · refine ⟨?_, by show 1 + szAll ds.reverse ≤ 2 * (1 + szAll ds) + 20; rw [szAll_rev]; omega⟩
            rw [e1m]
            refine Wf.tup ?_ fun e he => kid e (List.mem_reverse.mp he)
            rw [List.length_reverse]
            omega
          · refine ⟨?_, by show 1 + szAll ds ≤ 2 * (1 + szAll ds) + 20; omega⟩
            rw [e1m]
            exact Wf.lst (by omega) kid
        · rw [decide_eq_false ht]
          refine iteF ?_
          refine ⟨x, rfl, x, .ty "int", _, _, _, rfl, .ty _, tyRp hp1, k2, _, rfl, ?_⟩
          by_cases hib : tyD dd = "int" ∨ tyD dd = "bool"
          · rw [decide_eq_true hib]
            refine iteT ?_
            have fin2 : ∀ (i : Int) (z : Str) (b2 : Bool) (H6 : Hp) (v6 : V) (d6 : PyData), i.natAbs ≤ 10 ^ 59 + L → leafOk (L + 1) (.str z) → Deck H6 d p q (c + 2) → Keep d p H H6 → Rp H6 (d :: p :: sysModules :: B) d6 v6 → Wf 2 2 d6 →
                ∀ l H8, H6 l = none → l ≠ sysModules → Same H6 H8 → H8 l = some (.lst [.int (i + 1), .int (i - 1), .str z, .bl b2, .int 0, v6]) → spNext [.ref d, .int 6] H8 (fun y H3 => rIxL K (.ref l) y H3 Q) E0 := by
              intro i z b2 H6 v6 d6 hi hz D6 kp6 hp6 hw6 l H8 hl nl s8 e8
              refine finish [.int (i + 1), .int (i - 1), .str z, .bool b2, .int 0, d6] _ H8 l 6 rfl (by decide) (by decide) (D6.same s8) (kp6.trans (Same.keep s8)) ⟨_, _, rfl, rfl, _, _, rfl, rfl, _, _, rfl, rfl, _, _, rfl, rfl, _, _, rfl, rfl, _, _, rfl, hp6.same s8, rfl⟩ e8 (D6.ned hl) (D6.nep hl) ?_
              have z1 : 1 ≤ 2 * sz dd + 20 := by omega
              have z6 : sz d6 ≤ 2 * sz dd + 20 := by
                have : sz d6 ≤ 7 := hw6.sz
                omega
              refine List.forall_mem_cons.mpr ⟨⟨Wf.leaf (show (i + 1).natAbs ≤ 10 ^ 59 + (L + 1) by omega), z1⟩, List.forall_mem_cons.mpr ⟨⟨Wf.leaf (show (i - 1).natAbs ≤ 10 ^ 59 + (L + 1) by omega), z1⟩, List.forall_mem_cons.mpr ⟨⟨Wf.leaf hz, z1⟩, List.forall_mem_cons.mpr ⟨⟨Wf.leaf trivial, z1⟩, List.forall_mem_cons.mpr ⟨⟨Wf.leaf (show (0 : Int).natAbs ≤ 10 ^ 59 + (L + 1) from Nat.zero_le _), z1⟩, List.forall_mem_cons.mpr ⟨⟨hw6.mono (by omega) (by omega), z6⟩, fun _ h => absurd h (by simp)⟩⟩⟩⟩⟩⟩
            cases dd with
            | int i =>
              cases (show x = V.int i from hp1)
              have hi : i.natAbs ≤ 10 ^ 59 + L := hw.leaf_of rfl
              refine ⟨.int i, rfl, .inl ⟨i, 1, rfl, rfl, .int i, rfl, .inl ⟨i, 1, rfl, rfl, .int i, rfl, .inl ⟨i, rfl, small_log (small_int (by omega) hi), .int i, rfl, _, _, .int i, .int 1, rfl, rfl, ?_⟩⟩⟩⟩
              refine ⟨.ref d, rfl, d, p, q, c + 1, B, rfl, D1, by omega, hB.keep kp1 D1, fun H7 v6 d6 D7 kp7 hp6 hw6 => ⟨by show 6 ≤ sizeLine; decide, ?_⟩⟩
              exact fun l H8 hl nl s8 e8 => ⟨.ref d, rfl, fin2 i _ _ H7 v6 d6 hi (leafOk.mono (Nat.le_succ L) (text_ok (by omega) hi)) D7 (kp1.trans kp7) hp6 hw6 l H8 hl nl s8 e8⟩
            | bool b =>
              cases (show x = V.bl b from hp1)
              have hb : (if b = true then (1 : Int) else 0).natAbs ≤ 10 ^ 59 + L := by
                cases b
                · exact Nat.zero_le _
                · show 1 ≤ 10 ^ 59 + L
                  exact Nat.le_trans (by decide : 1 ≤ 10 ^ 59) (Nat.le_add_right _ _)
              refine ⟨.bl b, rfl, .inr ⟨b, 1, rfl, rfl, .bl b, rfl, .inr ⟨b, 1, rfl, rfl, .bl b, rfl, .inr ⟨b, rfl, .bl b, rfl, _, _, .bl b, .int 1, rfl, rfl, ?_⟩⟩⟩⟩
              refine ⟨.ref d, rfl, d, p, q, c + 1, B, rfl, D1, by omega, hB.keep kp1 D1, fun H7 v6 d6 D7 kp7 hp6 hw6 => ⟨by show 6 ≤ sizeLine; decide, ?_⟩⟩
              exact fun l H8 hl nl s8 e8 => ⟨.ref d, rfl, fin2 _ _ _ H7 v6 d6 hb (by cases b <;> exact ⟨by decide +kernel, by decide +kernel⟩) D7 (kp1.trans kp7) hp6 hw6 l H8 hl nl s8 e8⟩
            | none => simp [tyD] at hib
            | str z => simp [tyD] at hib
            | list z => simp [tyD] at hib
            | tuple z => simp [tyD] at hib
            | dict z => simp [tyD] at hib
          · rw [decide_eq_false hib]
            refine iteF ?_
            refine ⟨.ref d, rfl, d, p, q, c + 1, B, rfl, D1, by omega, hB.keep kp1 D1, fun H7 v6 d6 D7 kp7 hp6 hw6 => ?_⟩
            exact qq H7 v6 d6 (D7.mono (by omega)) (kp1.trans kp7) hp6 (hw6.mono (by omega) (by omega)) (by have : sz d6 ≤ 7 := hw6.sz; omega)
      obtain ⟨t2, ht2, q2⟩ := rest
      refine ⟨_, pss_cons (ps_if (PW.pt (pw_and (pt_val (pe_callB call_isi (by rfl) misi (by decide +kernel) (pa_cons (pv 1) (pa_cons (pe_bltn (v := .ty "tuple") (by rfl) mt (by decide +kernel) rfl) pa_nil))))
          (pw_and (pt_cmpR (op_neT0 hr.units0) (pv 1) (pe_tupN pa_nil) (nomark _)) (pw_and (pt_cmpR op_gt (pv 2) pe_int (nomark _)) (pw_and1 (pt_cmpR op_gt (pe_call GN' hr (by rfl) gN kN bN .nil pass0 (pa_cons (pv 0) (pa_cons pe_int pa_nil))) pe_int (nomark _)))))))
        (pss_cons (ps_set (i := 3) scBent.nd rfl (.inl rfl) (pe_call GN' hr (by rfl) gN kN bN .nil pass0 (pa_cons (pv 0) (pa_cons (pe_callB call_len_seq (by rfl) mlen PySem.boot_len (pa_cons (pv 1) pa_nil)) pa_nil))))
          (pss_one (ps_ret (pe_op op_catTN (pe_op op_catTN (pe_slice sl_tupN (pv 1) po_none (po_some (pv 3))) (pe_tupN (pa_cons (pe_call GB hr (by rfl) gB F.kp bB .nil pass0 (pa_cons (pv 0) (pa_cons (pe_ix ix_tup (pv 1) (pv 3) (fun _ _ => rfl)) (pa_cons (pe_op op_sub (pv 2) pe_int) pa_nil)))) pa_nil)))
            (pe_slice sl_tupN (pv 1) (po_some (pe_op op_add (pv 3) pe_int)) po_none))))) pss_nil) ht2, ?_⟩
      have early : ∀ H1, Same H H1 → t2 { nx := fun _ H' => Q .non H', rt := Q } [some (.ref d), some x, some (.int (m : Int)), none] H1 := fun H1 s1 => q2 H1 ((D0.same s1).mono (by omega)) (Same.keep s1) (hp.same s1)
      refine ⟨x, rfl, x, .ty "tuple", _, _, _, rfl, .ty _, tyRp hp, k1, _, rfl, ?_⟩
      by_cases ht : tyD dd = "tuple"
      · rw [decide_eq_true ht]
        refine iteT ?_
        obtain ⟨ds, rfl⟩ := ty_tuple ht
        obtain ⟨a, xs, ex, ha, hx⟩ := id hp
        subst ex
        obtain ⟨hD, hdl, hkids⟩ := hw.kids
        refine ⟨.ref a, rfl, Nat.zero_le _, fun e He _ se ee => ⟨a, e, xs, rfl, rfl, .inl (rd_same se ha), sqT ee, _, rfl, ?_⟩⟩
        cases xs with
        | nil => exact iteF (iteF (early He se))
        | cons x0 xr =>
          refine iteT ?_
          refine ⟨.int (m : Int), rfl, _, _, rfl, rfl, _, rfl, ?_⟩
          cases m with
          | zero => exact iteF (iteF (early He se))
          | succ m =>
            have c1 : decide (((m + 1 : Nat) : Int) > 0) = true := decide_eq_true (by omega)
            show if decide (((m + 1 : Nat) : Int) > 0) = true then _ else _
            rw [c1]
            refine iteT ?_
            refine ⟨.ref d, rfl, d, p, q, c, 4, rfl, D0.same se, by omega, by decide, by decide, fun H1 r r0 r1 D1 kp1 => ?_⟩
            have De := D0.same se
            have hp1 : Rp H1 (d :: p :: sysModules :: B) (.tuple ds) (.ref a) := (hp.same se).keep De kp1 (by simp) (by simp)
            have kpe : Keep d p H H1 := (Same.keep se).trans kp1
            refine ⟨_, _, rfl, rfl, _, rfl, ite2 (fun _ => ?_) (fun _ => q2 H1 D1 kpe hp1)⟩
            obtain ⟨a', xs', ex, ha1, hx1⟩ := hp1
            cases ex
            have exs : xs' = x0 :: xr := by
              have h1 := hx1.len
              have h2 := hx.len
              have t1 : Rd H1 a (.tup (x0 :: xr)) := by
                obtain ⟨zx, zy, zc, z1⟩ := De.hd
                obtain ⟨zs, z2⟩ := De.hp
                rcases rd_same se ha with e | ⟨o, e⟩
                · exact .inl (kp1 _ _ e (ne_of e z1 (by intro z; cases z)) (ne_of e z2 (by intro z; cases z)))
                · exact .inr ⟨o, kp1 _ _ e (ne_of e z1 (by intro z; cases z)) (ne_of e z2 (by intro z; cases z))⟩
              rcases ha1 with u1 | ⟨o1, u1⟩ <;> rcases t1 with u2 | ⟨o2, u2⟩ <;> rw [u1] at u2 <;> cases u2 <;> rfl
            subst exs
            have hxl := hx.len
            have xl : (x0 :: xr).length ≤ 20 := by
              rw [hxl]
              omega
            generalize hxs : x0 :: xr = xs at *
            have hpos : 0 < xs.length := by
              rw [← hxs]
              exact Nat.succ_pos _
            refine ⟨.ref d, rfl, .ref a, rfl, a, xs, rfl, .inr (.inl ha1), d, p, q, c + 1, _, rfl, D1, by omega, by omega, by omega, fun H2 r r0 r1 D2 kp2 => ?_⟩
            obtain ⟨j, rfl⟩ := Int.eq_ofNat_of_zero_le r0
            have hj : j < xs.length := by omega
            have hp2 : Rp H2 (d :: p :: sysModules :: B) (.tuple ds) (.ref a) := Rp.keep (show Rp H1 (d :: p :: sysModules :: B) (.tuple ds) (.ref a) from ⟨a, xs, rfl, ha1, hx1⟩) D1 kp2 (by simp) (by simp)
            have rdk : ∀ {Hx Hy : Hp} {cc : Nat} {b : Addr} {ys : List V}, Deck Hx d p q cc → Keep d p Hx Hy → Rd Hx b (.tup ys) → Rd Hy b (.tup ys) := by
              intro Hx Hy cc b ys Dx kx e
              obtain ⟨zx, zy, zc, z1⟩ := Dx.hd
              obtain ⟨zs, z2⟩ := Dx.hp
              rcases e with e | ⟨o, e⟩
              · exact .inl (kx _ _ e (ne_of e z1 (by intro z; cases z)) (ne_of e z2 (by intro z; cases z)))
              · exact .inr ⟨o, kx _ _ e (ne_of e z1 (by intro z; cases z)) (ne_of e z2 (by intro z; cases z))⟩
            have ha2 := rdk D1 kp2 ha1
            have hx2 := RpAll.keep hx1 D1 kp2 (by simp) (by simp)
            refine ⟨.ref a, rfl, .int (j : Int), rfl, _, rfl, a, xs, rfl, ha2, fun v1 H3 s3 h3 => ?_⟩
            have hx3 := hx2.same s3
            have ha3 := rd_same s3 ha2
            have D3 := D2.same s3
            obtain ⟨dj, hdj, hrj⟩ := hx3.get (List.getElem?_eq_getElem hj)
            have mj : dj ∈ ds := List.mem_of_getElem? hdj
            have ev : ((m + 1 : Nat) : Int) - 1 = (m : Int) := by omega
            refine ⟨.ref d, rfl, .ref a, rfl, .int (j : Int), rfl, a, xs, _, _, rfl, rfl, .inl ha3, atI_nat (List.getElem?_eq_getElem hj), .int ((m + 1 : Nat) : Int), rfl, _, 1, rfl, rfl, ?_⟩
            refine ⟨d, p, q, c + 1 + 1, xs[j], dj, L, D - 1, B, ?_, D3, by omega, ((hB.keep kpe D1).keep kp2 D2).same s3, hrj, hkids dj mj, hL2, hL, fun H4 y ee D4 kp4 hpy hwy hzy => ?_⟩
            · show [V.ref d, xs[j], V.int (((m + 1 : Nat) : Int) - 1)] = _
              rw [ev]
            have h4 := rdk D3 kp4 h3
            have ha4 := rdk D3 kp4 ha3
            have hx4 := RpAll.keep hx3 D3 kp4 (by simp) (by simp)
            refine ⟨by show 1 ≤ sizeLine; decide, fun u H5 _ s5 e5 => ?_⟩
            have e2 : cutV xs none (some (j : Int)) = xs.take j := by
              unfold cutV
              rw [HT.sIx_none, HT.sIx_nat, Nat.min_eq_left (by omega)]
              rfl
            rw [e2] at h4
            refine ⟨v1, u, xs.take j, [y], rfl, rfl, rd_same s5 h4, .inl e5, ?_, fun u2 H6 s6 h6 => ?_⟩
            · rw [List.length_take]
              exact Nat.le_of_lt (small1000 (by show min j xs.length + 1 ≤ 1000; omega))
            have s46 := s5.trans s6
            refine ⟨.ref a, rfl, .int (j : Int), rfl, _, 1, rfl, rfl, _, rfl, a, xs, rfl, rd_same s46 ha4, fun u3 H7 s7 h7 => ?_⟩
            have e3 : cutV xs (some ((j : Int) + 1)) none = xs.drop (j + 1) := by
              unfold cutV
              rw [show ((j : Int) + 1) = ((j + 1 : Nat) : Int) by omega, HT.sIx_none, HT.sIx_nat, Nat.min_eq_left (by omega)]
              exact List.take_of_length_le (by rw [List.length_drop]; exact Nat.le_refl _)
            have h7' : Rd H7 u3 (.tup (xs.drop (j + 1))) := by
              rw [← e3]
              exact h7
            refine ⟨u2, u3, _, _, rfl, rfl, rd_same s7 h6, h7', ?_, fun u4 H8 s8 h8 => ?_⟩
            · rw [List.length_append, List.length_take, List.length_drop]
              exact Nat.le_of_lt (small1000 (by show min j xs.length + 1 + (xs.length - (j + 1)) ≤ 1000; omega))
            have s48 := s46.trans (s7.trans s8)
            have hx8 := hx4.same s48
            refine qq H8 (.ref u4) (.tuple ((ds.take j ++ [ee]) ++ ds.drop (j + 1))) ((D4.same s48).mono (by omega)) ((kpe.trans kp2).trans ((Same.keep s3).trans (kp4.trans (Same.keep s48)))) ⟨u4, _, rfl, h8, RpAll.app (RpAll.app (hx8.take j) ⟨y, [], rfl, hpy.same s48, rfl⟩) (hx8.drop (j + 1))⟩ ?_ ?_
            rotate_left
            · have h1 := szAll_take ds j
              have h2 : szAll (ds.drop j) = sz dj + szAll (ds.drop (j + 1)) := by
                have hjd : j < ds.length := (List.getElem?_eq_some_iff.mp hdj).1
                rw [List.drop_eq_getElem_cons hjd, (List.getElem?_eq_some_iff.mp hdj).2]
                rfl
              show 1 + szAll ((ds.take j ++ [ee]) ++ ds.drop (j + 1)) ≤ 2 * (1 + szAll ds) + 20
              rw [szAll_app, szAll_app]
              show 1 + (szAll (ds.take j) + (sz ee + 0) + szAll (ds.drop (j + 1))) ≤ _
              omega
            have em : max D (m + 1 + 2) = (max D (m + 1 + 2) - 1) + 1 := by omega
            rw [em]
            refine Wf.tup ?_ fun z hz => ?_
            · rw [List.length_append, List.length_append, List.length_take, List.length_drop]
              show min j ds.length + 1 + (ds.length - (j + 1)) ≤ L + 1
              omega
            · rcases List.mem_append.mp hz with hz | hz
              · rcases List.mem_append.mp hz with hz | hz
                · exact (hkids z (List.mem_of_mem_take hz)).mono (by omega) (by omega)
                · rw [List.mem_singleton] at hz
                  subst hz
                  exact hwy.mono (Nat.le_refl _) (by omega)
              · exact (hkids z (List.mem_of_mem_drop hz)).mono (by omega) (by omega)
      · rw [decide_eq_false ht]
        exact iteF (iteF (early H (Same.refl _)))
end
end TR
namespace TR
open PySem PySem.Spec PyProof.Rows L2
/-! ### tables as data -/
theorem iteND {c A B : Prop} [Decidable c] (hc : ¬ c) (h : A) : if (!decide c) = true then A else B := by
  rw [decide_eq_false hc]
  exact iteT h
def tasD (t : List Int × Int) : PyData := .tuple [.tuple (t.1.map PyData.int), .int t.2]
def tabD (n : Nat) (ts : Tas) : PyData := .tuple [.int (n : Int), .tuple (ts.map tasD)]
def IsWtD (d : PyData) : Prop := ∃ i : Int, d = .int i ∧ 1 ≤ i ∧ i ≤ 1000000000000
def IsTasD (n : Nat) (d : PyData) : Prop := ∃ e1 e2, d = .tuple [e1, e2] ∧ IsRk n e1 ∧ IsWtD e2
def IsTabD (d : PyData) : Prop := ∃ (n : Nat) (ds : List PyData), d = .tuple [.int (n : Int), .tuple ds] ∧ 1 ≤ n ∧ n ≤ 8 ∧ 1 ≤ ds.length ∧ ds.length ≤ 16 ∧ ∀ e ∈ ds, IsTasD n e
theorem two_of {α : Type} {l : List α} (h : l.length = 2) : ∃ a b, l = [a, b] := by
  match l, h with
  | [a, b], _ => exact ⟨a, b, rfl⟩
theorem not_tas_ty {n : Nat} {d : PyData} (h : tyD d ≠ "tuple") : ¬ IsTasD n d := by
  rintro ⟨e1, e2, rfl, _⟩
  exact h rfl
theorem not_tab_ty {d : PyData} (h : tyD d ≠ "tuple") : ¬ IsTabD d := by
  rintro ⟨n, ds, rfl, _⟩
  exact h rfl
theorem int_ne {a b : Int} (h : a ≠ b) : ¬ (V.int a = V.int b) := fun e => h (V.int.inj e)
end TR
namespace TR
open PySem PySem.Spec PyProof.Rows L2
theorem scIsWt : FnScope ["value"] ["value"] (defScope sIsWt) := ⟨rfl, rfl, rfl, by decide +kernel, rfl, by decide +kernel, by decide +kernel⟩
section
variable {P : Program} {w : World} {K : PySem.W.Frag} {mg : Str → Option Value} {base : Heap}
def spIsWt : Sp := fun vs H Q _ => ∃ (x : V) (d : PyData) (ban : List Addr), vs = [x] ∧ Rp H ban d x ∧ ∀ b, (b = true ↔ IsWtD d) → Q (.bl b) H
theorem ok_IsWt {f f_is_within : Addr} {fd d_is_within : FuncData} {m : Nat} {t_MAX_WEIGHT : Tok} (F : Fun K "is_weight" "is_weight" sIsWt f fd)
    (k_is_within : PySem.W.keepIn K (.ref f_is_within) = true) (b_is_within : Binds K d_is_within ["value", "low", "high"] []) (g_is_within : mg "is_within" = some (.ref f_is_within)) (G_is_within : FnOk P w K mg base CX0 m f_is_within d_is_within ["value", "low", "high"] spWithin)
    (gc_MAX_WEIGHT : mg "MAX_WEIGHT" = some (.int 1000000000000 t_MAX_WEIGHT)) : FnOk P w K mg base CX0 (m + 1) f fd ["value"] spIsWt := by
  refine F.ok scIsWt (fun vs H Q E h => ?_) (fun cdv A outer s H vs Q E hr h => ?_)
  · obtain ⟨x, d, ban, rfl, _⟩ := h
    rfl
  · obtain ⟨x, d, ban, rfl, hp, q⟩ := h
    refine ⟨_, 
      (pss_one (ps_ret (pe_call G_is_within hr (by rfl) g_is_within k_is_within b_is_within .nil pass0 (pa_cons (pv 0) (pa_cons pe_int (pa_cons (pe_glob (v := .int 1000000000000) (by rfl) gc_MAX_WEIGHT ⟨_, rfl⟩) pa_nil)))))), ?_⟩
    refine ⟨x, rfl, x, d, ban, 1, 1000000000000, rfl, hp, fun i hd => q _ ?_, fun hw => q _ (ff_iff ?_)⟩
    · rw [decide_eq_true_eq]
      constructor
      · exact fun h => ⟨i, hd, h⟩
      · rintro ⟨j, hj, h⟩
        rw [hd] at hj
        injection hj with hj
        subst hj
        exact h
    · rintro ⟨j, hj, h⟩
      rw [hj] at hw
      simp [whole, tyD] at hw
end
end TR
namespace TR
open PySem PySem.Spec PyProof.Rows L2
theorem scIsTas : FnScope ["dishes", "value", "ranking", "weight"] ["dishes", "value"] (defScope sIsTas) := ⟨rfl, rfl, rfl, by decide +kernel, rfl, by decide +kernel, by decide +kernel⟩
section
variable {P : Program} {w : World} {K : PySem.W.Frag} {mg : Str → Option Value} {base : Heap}
def spIsTas : Sp := fun vs H Q _ => ∃ (x : V) (d : PyData) (ban : List Addr) (n L D : Nat), vs = [.int (n : Int), x] ∧ Rp H ban d x ∧ Wf L D d ∧ L ≤ 30 ∧ 1 ≤ n ∧ n ≤ 8 ∧ ∀ H' b, Same H H' → (b = true ↔ IsTasD n d) → Q (.bl b) H'
theorem ok_IsTas {f f_is_weight f_is_ranking : Addr} {fd d_is_weight d_is_ranking : FuncData} {m : Nat} (F : Fun K "is_taster" "is_taster" sIsTas f fd)
    (k_is_weight : PySem.W.keepIn K (.ref f_is_weight) = true) (b_is_weight : Binds K d_is_weight ["value"] []) (g_is_weight : mg "is_weight" = some (.ref f_is_weight)) (G_is_weight : FnOk P w K mg base CX0 m f_is_weight d_is_weight ["value"] spIsWt)
    (k_is_ranking : PySem.W.keepIn K (.ref f_is_ranking) = true) (b_is_ranking : Binds K d_is_ranking ["dishes", "value"] []) (g_is_ranking : mg "is_ranking" = some (.ref f_is_ranking)) (G_is_ranking : FnOk P w K mg base CX0 m f_is_ranking d_is_ranking ["dishes", "value"] spIsRk)
    (m_len : mg "len" = none) (m_isinstance : mg "isinstance" = none) (m_tuple : mg "tuple" = none) : FnOk P w K mg base CX0 (m + 1) f fd ["dishes", "value"] spIsTas := by
  refine F.ok scIsTas (fun vs H Q E h => ?_) (fun cdv A outer s H vs Q E hr h => ?_)
  · obtain ⟨x, d, ban, n, L, D, rfl, _⟩ := h
    rfl
  · obtain ⟨x, d, ban, n, L, D, rfl, hp, hw, hL, hn1, hn, q⟩ := h
    refine ⟨_, 
      (pss_cons (ps_if (PW.pt (pw_or (pt_not (pt_val (pe_callB call_isi (by rfl) m_isinstance (by decide +kernel) (pa_cons (pv 1) (pa_cons (pe_bltn (v := .ty "tuple") (by rfl) m_tuple (by decide +kernel) rfl) pa_nil))))) (pw_or1 (pt_cmpR op_ne (pe_callB call_len_seq (by rfl) m_len PySem.boot_len (pa_cons (pv 1) pa_nil)) pe_int (nomark _))))) 
        (pss_one (ps_ret pe_bl)) pss_nil) 
      (pss_cons (ps_asg (pv 1) (pg_tup (by rfl) (pgs_cons (pg_name (i := 2) scIsTas.nd rfl (.inl rfl)) (pgs_cons (pg_name (i := 3) scIsTas.nd rfl (.inl rfl)) pgs_nil)))) 
      (pss_one (ps_ret (pe_and (pe_call G_is_ranking hr (by rfl) g_is_ranking k_is_ranking b_is_ranking .nil pass0 (pa_cons (pv 0) (pa_cons (pv 2) pa_nil))) (pe_one (pe_call G_is_weight hr (by rfl) g_is_weight k_is_weight b_is_weight .nil pass0 (pa_cons (pv 3) pa_nil)))))))), ?_⟩
    obtain ⟨k1, k2, k3⟩ := kitD (K := K) d
    refine ⟨x, rfl, x, .ty "tuple", _, _, _, rfl, .ty _, tyRp hp, k1, _, rfl, ?_⟩
    by_cases ht : tyD d = "tuple"
    · rw [decide_eq_true ht]
      refine iteF ?_
      obtain ⟨ds, rfl⟩ := ty_tuple ht
      obtain ⟨a, xs, rfl, ha, hx⟩ := hp
      refine ⟨.ref a, rfl, a, xs, rfl, .inr (.inl ha), rfl, _, rfl, ?_⟩
      have hxl := hx.len
      by_cases hl : ds.length = 2
      · refine iteNS (by rw [hxl, hl]; rfl) ?_
        obtain ⟨e1, e2, rfl⟩ := two_of hl
        obtain ⟨v1, r1, rfl, g1, v2, r2, rfl, g2, rfl⟩ := hx
        obtain ⟨_, _, kids⟩ := hw.kids
        have w1 := kids e1 (by simp)
        refine ⟨.ref a, rfl, a, _, rfl, .inl ha, rfl, v1, _, rfl, v2, _, rfl, rfl, ?_⟩
        refine ⟨.int (n : Int), rfl, v1, rfl, v1, e1, ban, n, rfl, g1, hn1, hn, fun ds e => by rw [e] at w1; have := w1.kids.2.1; omega, fun H1 b s1 hb => ⟨_, rfl, ?_⟩⟩
        cases b with
        | false =>
          refine iteF (q H1 false s1 (ff_iff ?_))
          rintro ⟨f1, f2, e, h1, _⟩
          injection e with e
          injection e with e e'
          subst e
          exact Bool.false_ne_true (hb.mpr h1)
        | true =>
          refine iteT ⟨v2, rfl, v2, e2, ban, rfl, g2.same s1, fun b2 hb2 => q H1 b2 s1 ?_⟩
          rw [hb2]
          constructor
          · exact fun h => ⟨e1, e2, rfl, hb.mp rfl, h⟩
          · rintro ⟨f1, f2, e, _, h⟩
            injection e with e
            injection e with e e'
            injection e' with e' _
            subst e'
            exact h
      · refine iteND (int_ne (by rw [hxl]; omega)) (q H false (Same.refl _) (ff_iff ?_))
        rintro ⟨f1, f2, e, _⟩
        injection e with e
        rw [e] at hl
        exact hl rfl
    · rw [decide_eq_false ht]
      exact iteT (q H false (Same.refl _) (ff_iff (not_tas_ty ht)))
end
end TR
namespace TR
open PySem PySem.Spec PyProof.Rows L2
theorem scIsTab : FnScope ["value", "dishes", "tasters", "taster"] ["value"] (defScope sIsTab) := ⟨rfl, rfl, rfl, by decide +kernel, rfl, by decide +kernel, by decide +kernel⟩
section
variable {P : Program} {w : World} {K : PySem.W.Frag} {mg : Str → Option Value} {base : Heap}
def spIsTab : Sp := fun vs H Q _ => ∃ (x : V) (d : PyData) (ban : List Addr) (L D : Nat), vs = [x] ∧ Rp H ban d x ∧ Wf L D d ∧ L ≤ 30 ∧ ∀ H' b, Same H H' → (b = true ↔ IsTabD d) → Q (.bl b) H'
theorem ok_IsTab {f f_is_within f_is_taster : Addr} {fd d_is_within d_is_taster : FuncData} {m : Nat} {t_MAX_DISHES : Tok} {t_MAX_TASTERS : Tok} (F : Fun K "is_table" "is_table" sIsTab f fd)
    (k_is_within : PySem.W.keepIn K (.ref f_is_within) = true) (b_is_within : Binds K d_is_within ["value", "low", "high"] []) (g_is_within : mg "is_within" = some (.ref f_is_within)) (G_is_within : FnOk P w K mg base CX0 m f_is_within d_is_within ["value", "low", "high"] spWithin)
    (k_is_taster : PySem.W.keepIn K (.ref f_is_taster) = true) (b_is_taster : Binds K d_is_taster ["dishes", "value"] []) (g_is_taster : mg "is_taster" = some (.ref f_is_taster)) (G_is_taster : FnOk P w K mg base CX0 m f_is_taster d_is_taster ["dishes", "value"] spIsTas)
    (m_len : mg "len" = none) (m_isinstance : mg "isinstance" = none) (m_tuple : mg "tuple" = none) (m_all : mg "all" = none) (gc_MAX_DISHES : mg "MAX_DISHES" = some (.int 8 t_MAX_DISHES)) (gc_MAX_TASTERS : mg "MAX_TASTERS" = some (.int 16 t_MAX_TASTERS)) : FnOk P w K mg base CX0 (m + 1) f fd ["value"] spIsTab := by
  refine F.ok scIsTab (fun vs H Q E h => ?_) (fun cdv A outer s H vs Q E hr h => ?_)
  · obtain ⟨x, d, ban, L, D, rfl, _⟩ := h
    rfl
  · obtain ⟨x, d, ban, L, D, rfl, hp, hw, hL, q⟩ := h
    refine ⟨_, 
      (pss_cons (ps_if (PW.pt (pw_or (pt_not (pt_val (pe_callB call_isi (by rfl) m_isinstance (by decide +kernel) (pa_cons (pv 0) (pa_cons (pe_bltn (v := .ty "tuple") (by rfl) m_tuple (by decide +kernel) rfl) pa_nil))))) (pw_or1 (pt_cmpR op_ne (pe_callB call_len_seq (by rfl) m_len PySem.boot_len (pa_cons (pv 0) pa_nil)) pe_int (nomark _))))) 
        (pss_one (ps_ret pe_bl)) pss_nil) 
      (pss_cons (ps_asg (pv 0) (pg_tup (by rfl) (pgs_cons (pg_name (i := 1) scIsTab.nd rfl (.inr rfl)) (pgs_cons (pg_name (i := 2) scIsTab.nd rfl (.inl rfl)) pgs_nil)))) 
      (pss_cons (ps_if (pt_not (pt_val (pe_call G_is_within hr (by rfl) g_is_within k_is_within b_is_within .nil pass0 (pa_cons (pv 1) (pa_cons pe_int (pa_cons (pe_glob (v := .int 8) (by rfl) gc_MAX_DISHES ⟨_, rfl⟩) pa_nil)))))) 
        (pss_one (ps_ret pe_bl)) pss_nil) 
      (pss_cons (ps_if (PW.pt (pw_or (pt_not (pt_val (pe_callB call_isi (by rfl) m_isinstance (by decide +kernel) (pa_cons (pv 2) (pa_cons (pe_bltn (v := .ty "tuple") (by rfl) m_tuple (by decide +kernel) rfl) pa_nil))))) (pw_or1 (pt_not (pt_chain op_le op_le pe_int (pe_callB call_len_seq (by rfl) m_len PySem.boot_len (pa_cons (pv 2) pa_nil)) (pe_glob (v := .int 16) (by rfl) gc_MAX_TASTERS ⟨_, rfl⟩)))))) 
        (pss_one (ps_ret pe_bl)) pss_nil) 
      (pss_one (ps_ret (pe_callB (cr_all (by rfl)) (by rfl) m_all (by decide +kernel) (pa_cons (pe_lc (own := [("taster", 3)]) (g := gName 3) (tt := tYes) (by rfl) scIsTab.nd (pi_tup (pv 2)) (blkOk_by (own := [("taster", 3)]) (N := ["value", "dishes", "tasters", "taster"]) (sc := defScope sIsTab) (by decide +kernel)) (fun _ _ _ _ _ => (pg_name (i := 3) scIsTab.nd rfl (Or.inl rfl))) (fun _ _ _ _ _ => pts_nil) (fun _ _ _ _ _ => (pe_call G_is_taster hr (by rfl) g_is_taster k_is_taster b_is_taster .nil pass0 (pa_cons (pv 1) (pa_cons (pv 3) pa_nil))))) pa_nil)))))))), ?_⟩
    obtain ⟨k1, k2, k3⟩ := kitD (K := K) d
    refine ⟨x, rfl, x, .ty "tuple", _, _, _, rfl, .ty _, tyRp hp, k1, _, rfl, ?_⟩
    by_cases ht : tyD d = "tuple"
    · rw [decide_eq_true ht]
      refine iteF ?_
      obtain ⟨ds, rfl⟩ := ty_tuple ht
      obtain ⟨a, xs, rfl, ha, hx⟩ := hp
      refine ⟨.ref a, rfl, a, xs, rfl, .inr (.inl ha), rfl, _, rfl, ?_⟩
      have hxl := hx.len
      by_cases hl : ds.length = 2
      · refine iteNS (by rw [hxl, hl]; rfl) ?_
        obtain ⟨e1, e2, rfl⟩ := two_of hl
        obtain ⟨v1, r1, rfl, g1, v2, r2, rfl, g2, rfl⟩ := hx
        obtain ⟨_, _, kids⟩ := hw.kids
        have w2 := kids e2 (by simp)
        refine ⟨.ref a, rfl, a, _, rfl, .inl ha, rfl, v1, _, rfl, v2, _, rfl, rfl, ?_⟩
        refine ⟨v1, rfl, v1, e1, ban, 1, 8, rfl, g1, fun i hd => ⟨_, rfl, ?_⟩, fun hw => ⟨_, rfl, ?_⟩⟩
        · subst hd
          obtain rfl : v1 = .int i := g1
          by_cases c : (1 : Int) ≤ i ∧ i ≤ 8
          · rw [decide_eq_true c]
            refine iteF ?_
            obtain ⟨n, rfl⟩ := Int.eq_ofNat_of_zero_le (show 0 ≤ i by omega)
            obtain ⟨j1, j2, j3⟩ := kitD (K := K) e2
            refine ⟨v2, rfl, v2, .ty "tuple", _, _, _, rfl, .ty _, tyRp g2, j1, _, rfl, ?_⟩
            by_cases ht2 : tyD e2 = "tuple"
            · rw [decide_eq_true ht2]
              refine iteF ?_
              obtain ⟨es, rfl⟩ := ty_tuple ht2
              obtain ⟨u, ys, rfl, hu, hy⟩ := g2
              have hyl := hy.len
              obtain ⟨_, hel, ekids⟩ := w2.kids
              have bad : ¬ (1 ≤ es.length ∧ es.length ≤ 16) → ¬ IsTabD (.tuple [.int (n : Int), .tuple es]) := by
                rintro h ⟨m, fs, e, _, _, h1, h2, _⟩
                injection e with e
                injection e with e e'
                injection e' with e' _
                injection e' with e'
                subst e'
                exact h ⟨h1, h2⟩
              refine ⟨.ref u, rfl, u, ys, rfl, .inr (.inl hu), 1, _, rfl, rfl, _, rfl, ?_⟩
              show if decide ((1 : Int) ≤ (ys.length : Int)) = true then _ else _
              by_cases c1 : 1 ≤ es.length
              · rw [decide_eq_true (by omega)]
                refine iteT ⟨_, _, rfl, rfl, _, rfl, ?_⟩
                show if (!decide ((ys.length : Int) ≤ 16)) = true then _ else _
                by_cases c2 : es.length ≤ 16
                · rw [decide_eq_true (by omega)]
                  refine iteF ?_
                  refine ⟨.ref u, rfl, u, rfl, ⟨_, .inl hu⟩, fun E hE => lc_tup (K := K) (a := u) (xs := ys) (fun i H1 => Same H H1 ∧ ∃ bs : List Bool, H1 E = some (.lst (bs.map V.bl)) ∧ bs.length = i ∧ ((∀ b ∈ bs, b = true) ↔ ∀ e ∈ es.take i, IsTasD n e)) ⟨same_upd hE, [], upd_same, rfl, by simp⟩ (fun i H1 _ h => .inl (rd_same h.1 hu)) (fun i y H1 hy1 h => ?_) (fun H1 h => ?_)⟩
                  · obtain ⟨s1, bs, eE, hbl, hiff⟩ := h
                    obtain ⟨e, he, hre⟩ := hy.get hy1
                    have hi : i < es.length := (List.getElem?_eq_some_iff.mp he).1
                    refine ⟨rfl, .int (n : Int), rfl, y, rfl, y, e, ban, n, L, _, rfl, hre.same s1, ekids e (List.mem_of_getElem? he), hL, by omega, by omega, fun H2 b s2 hb => ⟨_, s2 _ _ eE, ?_, same_upd2 (s1.trans s2) hE, bs ++ [b], ?_, ?_, ?_⟩⟩
                    · rw [List.length_map]
                      exact small1000 (by omega)
                    · rw [upd_same, List.map_append]
                      rfl
                    · rw [List.length_append, hbl]
                      rfl
                    · rw [List.take_add_one, he]
                      constructor
                      · intro h z hz
                        rcases List.mem_append.mp hz with hz | hz
                        · exact hiff.mp (fun c hc => h c (List.mem_append_left _ hc)) z hz
                        · have hz : z = e := by simpa using hz
                          subst hz
                          exact hb.mp (h b (by simp))
                      · intro h c hc
                        rcases List.mem_append.mp hc with hc | hc
                        · exact hiff.mpr (fun z hz => h z (List.mem_append_left _ hz)) c hc
                        · rw [List.mem_singleton] at hc
                          subst hc
                          exact hb.mpr (h e (by simp))
                  · obtain ⟨s1, bs, eE, hbl, hiff⟩ := h
                    rw [hyl, List.take_length] at hiff
                    refine ⟨E, bs, rfl, sqL eE, q H1 _ s1 ?_⟩
                    rw [List.all_eq_true]
                    constructor
                    · intro h
                      exact ⟨n, es, rfl, by omega, by omega, c1, c2, hiff.mp fun b hb => h b hb⟩
                    · rintro ⟨m, fs, e, _, _, _, _, hall⟩ b hb
                      injection e with e
                      injection e with e e'
                      injection e' with e' _
                      injection e' with e'
                      injection e with e
                      have em : n = m := by omega
                      subst em
                      subst e'
                      exact hiff.mpr hall b hb
                · rw [decide_eq_false (by omega)]
                  exact iteT (q H false (Same.refl _) (ff_iff (bad (by omega))))
              · rw [decide_eq_false (by omega)]
                exact iteF ⟨_, rfl, iteT (q H false (Same.refl _) (ff_iff (bad (by omega))))⟩
            · rw [decide_eq_false ht2]
              refine iteT (q H false (Same.refl _) (ff_iff ?_))
              rintro ⟨m, fs, e, _⟩
              injection e with e
              injection e with e e'
              injection e' with e' _
              subst e'
              exact ht2 rfl
          · rw [decide_eq_false c]
            refine iteT (q H false (Same.refl _) (ff_iff ?_))
            rintro ⟨m, fs, e, h1, h2, _⟩
            injection e with e
            injection e with e e'
            injection e with e
            omega
        · refine iteT (q H false (Same.refl _) (ff_iff ?_))
          rintro ⟨m, fs, e, h1, h2, _⟩
          injection e with e
          injection e with e e'
          subst e
          simp [whole, tyD] at hw
      · refine iteND (int_ne (by rw [hxl]; omega)) (q H false (Same.refl _) (ff_iff ?_))
        rintro ⟨m, fs, e, _⟩
        injection e with e
        rw [e] at hl
        exact hl rfl
    · rw [decide_eq_false ht]
      exact iteT (q H false (Same.refl _) (ff_iff (not_tab_ty ht)))
end
end TR
namespace TR
open PySem PySem.Spec PyProof.Rows L2
theorem scRkOf : FnScope ["table", "ranking", "weight"] ["table"] (defScope sRkOf) := ⟨rfl, rfl, rfl, by decide +kernel, rfl, by decide +kernel, by decide +kernel⟩
section
variable {P : Program} {w : World} {K : PySem.W.Frag} {mg : Str → Option Value} {base : Heap}
def spRkOf (K : PySem.W.Frag) : Sp := fun vs H Q _ => ∃ (t : Addr) (n : Nat) (ts : Tas), vs = [.ref t] ∧ Tab H t n ts ∧ ts.length ≤ 100 ∧ ∀ H' u xs, Same H H' → SqT K H' u xs → Rts H' xs (ts.map (·.1)) → Q (.ref u) H'
theorem ok_RkOf {f  : Addr} {fd  : FuncData} {m : Nat} (F : Fun K "rankings_of" "rankings_of" sRkOf f fd)
    (m_tuple : mg "tuple" = none) : FnOk P w K mg base CX0 (m + 1) f fd ["table"] (spRkOf K) := by
  refine F.ok scRkOf (fun vs H Q E h => ?_) (fun cdv A outer s H vs Q E hr h => ?_)
  · obtain ⟨t, n, ts, rfl, _⟩ := h
    rfl
  · obtain ⟨t, n, ts, rfl, tab, hlt, q⟩ := h
    refine ⟨_, 
      (pss_one (ps_ret (pe_callTy call_tupleF (by rfl) m_tuple (by decide +kernel) (pa_cons (pe_lc (own := [("ranking", 1), ("weight", 2)]) (g := gTup K 2 (gCons (gName 1) (gCons (gName 2) gNil))) (tt := tYes) (by rfl) scRkOf.nd (pi_tup (pe_ix (r := rIxT K) ix_tup (pv 0) pe_int (fun _ _ => rfl))) (blkOk_by (own := [("ranking", 1), ("weight", 2)]) (N := ["table", "ranking", "weight"]) (sc := defScope sRkOf) (by decide +kernel)) (fun _ _ _ _ _ => (pg_tup (by rfl) (pgs_cons (pg_name (i := 1) scRkOf.nd rfl (Or.inl rfl)) (pgs_cons (pg_name (i := 2) scRkOf.nd rfl (Or.inl rfl)) pgs_nil)))) (fun _ _ _ _ _ => pts_nil) (fun _ _ _ _ _ => (pv 1))) pa_nil)))), ?_⟩
    obtain ⟨u, xs, h1, h2, h3⟩ := tab
    refine ⟨.ref t, rfl, t, _, 1, .ref u, rfl, rfl, .inl h1, atI_nat (j := 1) rfl, u, rfl, ⟨_, .inl h2⟩, fun D hD => lc_tup (K := K) (a := u) (xs := xs) (fun i H1 => Same H H1 ∧ ∃ zs, H1 D = some (.lst zs) ∧ Rts H1 zs ((ts.take i).map (·.1))) ⟨same_upd hD, [], upd_same, .nil⟩ (fun i H1 _ h => .inl (rdT_same h2 h.1)) (fun i x H1 hx h => ?_) (fun H1 h => ?_)⟩
    · obtain ⟨s1, zs, e1, hR⟩ := h
      obtain ⟨tt, r, rk, w, rfl, hg, hr1, hr2⟩ := (h3.same s1).get hx
      have hi : i < ts.length := (List.getElem?_eq_some_iff.mp hg).1
      have hzl := hR.len
      rw [List.length_map, List.length_take] at hzl
      refine ⟨tt, _, rfl, .inl hr1, rfl, .ref r, _, rfl, .int w, _, rfl, rfl, rfl, .ref r, rfl, zs, e1, small1000 (by omega), same_upd2 s1 hD, zs ++ [.ref r], upd_same, ?_⟩
      rw [List.take_add_one, hg, List.map_append]
      exact (hR.upd_lst e1).append (.cons (tp_updl hr2 e1) .nil)
    · obtain ⟨s1, zs, e1, hR⟩ := h
      rw [h3.len, List.take_length] at hR
      exact ⟨D, zs, rfl, sqL e1, fun v o hv ho => q _ v zs (s1.trans (same_upd hv)) (.inl (.inr ⟨o, upd_same⟩)) (hR.same (same_upd hv))⟩
end
end TR
namespace TR
open PySem PySem.Spec PyProof.Rows L2
theorem scTotal : FnScope ["table", "ranking", "weight"] ["table"] (defScope sTotal) := ⟨rfl, rfl, rfl, by decide +kernel, rfl, by decide +kernel, by decide +kernel⟩
section
variable {P : Program} {w : World} {K : PySem.W.Frag} {mg : Str → Option Value} {base : Heap}
def spTotal : Sp := fun vs H Q _ => ∃ (t : Addr) (n : Nat) (ts : Tas), vs = [.ref t] ∧ Tab H t n ts ∧ ts.length ≤ 100 ∧ ∀ H', Same H H' → Q (.int ((ts.map (·.2)).sum)) H'
theorem ok_Total {f  : Addr} {fd  : FuncData} {m : Nat} (F : Fun K "total_weight" "total_weight" sTotal f fd)
    (m_sum : mg "sum" = none) : FnOk P w K mg base CX0 (m + 1) f fd ["table"] spTotal := by
  refine F.ok scTotal (fun vs H Q E h => ?_) (fun cdv A outer s H vs Q E hr h => ?_)
  · obtain ⟨t, n, ts, rfl, _⟩ := h
    rfl
  · obtain ⟨t, n, ts, rfl, tab, hlt, q⟩ := h
    refine ⟨_, 
      (pss_one (ps_ret (pe_callB (r := rSum K) (cr_sum (by rfl)) (by rfl) m_sum (by decide +kernel) (pa_cons (pe_lc (own := [("ranking", 1), ("weight", 2)]) (g := gTup K 2 (gCons (gName 1) (gCons (gName 2) gNil))) (tt := tYes) (by rfl) scTotal.nd (pi_tup (pe_ix (r := rIxT K) ix_tup (pv 0) pe_int (fun _ _ => rfl))) (blkOk_by (own := [("ranking", 1), ("weight", 2)]) (N := ["table", "ranking", "weight"]) (sc := defScope sTotal) (by decide +kernel)) (fun _ _ _ _ _ => (pg_tup (by rfl) (pgs_cons (pg_name (i := 1) scTotal.nd rfl (Or.inl rfl)) (pgs_cons (pg_name (i := 2) scTotal.nd rfl (Or.inl rfl)) pgs_nil)))) (fun _ _ _ _ _ => pts_nil) (fun _ _ _ _ _ => (pv 2))) pa_nil)))), ?_⟩
    obtain ⟨u, xs, h1, h2, h3⟩ := tab
    refine ⟨.ref t, rfl, t, _, 1, .ref u, rfl, rfl, .inl h1, atI_nat (j := 1) rfl, u, rfl, ⟨_, .inl h2⟩, fun D hD => lc_tup (K := K) (a := u) (xs := xs) (fun i H1 => Same H H1 ∧ H1 D = some (.lst (((ts.take i).map (·.2)).map V.int))) ⟨same_upd hD, upd_same⟩ (fun i H1 _ h => .inl (rdT_same h2 h.1)) (fun i x H1 hx h => ?_) (fun H1 h => ?_)⟩
    · obtain ⟨s1, e1⟩ := h
      obtain ⟨tt, r, rk, w, rfl, hg, hr1, hr2⟩ := (h3.same s1).get hx
      have hi : i < ts.length := (List.getElem?_eq_some_iff.mp hg).1
      refine ⟨tt, _, rfl, .inl hr1, rfl, .ref r, _, rfl, .int w, _, rfl, rfl, rfl, .int w, rfl, _, e1, ?_, same_upd2 s1 hD, ?_⟩
      · rw [List.length_map, List.length_map, List.length_take]
        exact small1000 (by omega)
      · rw [upd_same, List.take_add_one, hg, List.map_append, List.map_append]
        rfl
    · obtain ⟨s1, e1⟩ := h
      rw [h3.len, List.take_length] at e1
      exact ⟨D, _, rfl, sqL e1, q H1 s1⟩
end
end TR
namespace TR
open PySem PySem.Spec PyProof.Rows L2
theorem scLIsTab : FnScope ["_law_thing", "_law_one_here"] ["_law_thing"] (defScope sLIsTab) := ⟨rfl, rfl, rfl, by decide +kernel, rfl, by decide +kernel, by decide +kernel⟩
section
variable {P : Program} {w : World} {K : PySem.W.Frag} {mg : Str → Option Value} {base : Heap}
theorem ok_LIsTab {f f__law_whole f__law_is_list : Addr} {fd d__law_whole d__law_is_list : FuncData} {m : Nat} (F : Fun K "_law_is_table" "_law_is_table" sLIsTab f fd)
    (k__law_whole : PySem.W.keepIn K (.ref f__law_whole) = true) (b__law_whole : Binds K d__law_whole ["_law_thing"] []) (g__law_whole : mg "_law_whole" = some (.ref f__law_whole)) (G__law_whole : FnOk P w K mg base CX0 m f__law_whole d__law_whole ["_law_thing"] spWhole)
    (k__law_is_list : PySem.W.keepIn K (.ref f__law_is_list) = true) (b__law_is_list : Binds K d__law_is_list ["_law_dishes", "_law_thing"] []) (g__law_is_list : mg "_law_is_list" = some (.ref f__law_is_list)) (G__law_is_list : FnOk P w K mg base CX0 m f__law_is_list d__law_is_list ["_law_dishes", "_law_thing"] spIsRk)
    (m_len : mg "len" = none) (m_isinstance : mg "isinstance" = none) (m_tuple : mg "tuple" = none) : FnOk P w K mg base CX0 (m + 1) f fd ["_law_thing"] spIsTab := by
  refine F.ok scLIsTab (fun vs H Q E h => ?_) (fun cdv A outer s H vs Q E hr h => ?_)
  · obtain ⟨x, d, ban, L, D, rfl, _⟩ := h
    rfl
  · obtain ⟨x, d, ban, L, D, rfl, hp, hw, hL, q⟩ := h
    refine ⟨_, 
      (pss_cons (ps_if (PW.pt (pw_or (pt_not (pt_val (pe_callB call_isi (by rfl) m_isinstance (by decide +kernel) (pa_cons (pv 0) (pa_cons (pe_bltn (v := .ty "tuple") (by rfl) m_tuple (by decide +kernel) rfl) pa_nil))))) (pw_or (pt_cmpR op_ne (pe_callB call_len_seq (by rfl) m_len PySem.boot_len (pa_cons (pv 0) pa_nil)) pe_int (nomark _)) (pw_or (pt_not (pt_val (pe_call G__law_whole hr (by rfl) g__law_whole k__law_whole b__law_whole .nil pass0 (pa_cons (pe_ix (r := rIxT K) ix_tup (pv 0) pe_int (fun _ _ => rfl)) pa_nil)))) (pw_or1 (pt_not (pt_chain op_le op_le pe_int (pe_ix (r := rIxT K) ix_tup (pv 0) pe_int (fun _ _ => rfl)) pe_int))))))) 
        (pss_one (ps_ret pe_bl)) pss_nil) 
      (pss_cons (ps_if (PW.pt (pw_or (pt_not (pt_val (pe_callB call_isi (by rfl) m_isinstance (by decide +kernel) (pa_cons (pe_ix (r := rIxT K) ix_tup (pv 0) pe_int (fun _ _ => rfl)) (pa_cons (pe_bltn (v := .ty "tuple") (by rfl) m_tuple (by decide +kernel) rfl) pa_nil))))) (pw_or1 (pt_not (pt_chain op_le op_le pe_int (pe_callB call_len_seq (by rfl) m_len PySem.boot_len (pa_cons (pe_ix (r := rIxT K) ix_tup (pv 0) pe_int (fun _ _ => rfl)) pa_nil)) pe_int))))) 
        (pss_one (ps_ret pe_bl)) pss_nil) 
      (pss_cons (ps_for PassesOwn.never rfl (pi_tup (pe_ix (r := rIxT K) ix_tup (pv 0) pe_int (fun _ _ => rfl))) (pg_name (i := 1) scLIsTab.nd rfl (.inl rfl)) 
        (pss_cons (ps_if (PW.pt (pw_or (pt_not (pt_val (pe_callB call_isi (by rfl) m_isinstance (by decide +kernel) (pa_cons (pv 1) (pa_cons (pe_bltn (v := .ty "tuple") (by rfl) m_tuple (by decide +kernel) rfl) pa_nil))))) (pw_or (pt_cmpR op_ne (pe_callB call_len_seq (by rfl) m_len PySem.boot_len (pa_cons (pv 1) pa_nil)) pe_int (nomark _)) (pw_or1 (pt_not (pt_val (pe_call G__law_is_list hr (by rfl) g__law_is_list k__law_is_list b__law_is_list .nil pass0 (pa_cons (pe_ix (r := rIxT K) ix_tup (pv 0) pe_int (fun _ _ => rfl)) (pa_cons (pe_ix (r := rIxT K) ix_tup (pv 1) pe_int (fun _ _ => rfl)) pa_nil))))))))) 
          (pss_one (ps_ret pe_bl)) pss_nil) 
        (pss_one (ps_if (PW.pt (pw_or (pt_not (pt_val (pe_call G__law_whole hr (by rfl) g__law_whole k__law_whole b__law_whole .nil pass0 (pa_cons (pe_ix (r := rIxT K) ix_tup (pv 1) pe_int (fun _ _ => rfl)) pa_nil)))) (pw_or1 (pt_not (pt_chain op_le op_le pe_int (pe_ix (r := rIxT K) ix_tup (pv 1) pe_int (fun _ _ => rfl)) (pe_op op_pow pe_int pe_int)))))) 
          (pss_one (ps_ret pe_bl)) pss_nil)))) 
      (pss_one (ps_ret pe_bl))))), ?_⟩
    obtain ⟨k1, k2, k3⟩ := kitD (K := K) d
    refine ⟨x, rfl, x, .ty "tuple", _, _, _, rfl, .ty _, tyRp hp, k1, _, rfl, ?_⟩
    by_cases ht : tyD d = "tuple"
    · rw [decide_eq_true ht]
      refine iteF ?_
      obtain ⟨ds, rfl⟩ := ty_tuple ht
      obtain ⟨a, xs, rfl, ha, hx⟩ := hp
      refine ⟨.ref a, rfl, a, xs, rfl, .inr (.inl ha), rfl, _, rfl, ?_⟩
      have hxl := hx.len
      by_cases hl : ds.length = 2
      · refine iteNS (by rw [hxl, hl]; rfl) ?_
        obtain ⟨e1, e2, rfl⟩ := two_of hl
        obtain ⟨v1, r1, rfl, g1, v2, r2, rfl, g2, rfl⟩ := hx
        obtain ⟨_, _, kids⟩ := hw.kids
        have w2 := kids e2 (by simp)
        have at0 : atI [v1, v2] 0 = some v1 := atI_nat (j := 0) rfl
        have at1 : atI [v1, v2] 1 = some v2 := atI_nat (j := 1) rfl
        refine ⟨.ref a, rfl, a, _, 0, v1, rfl, rfl, .inl ha, at0, v1, e1, ban, rfl, g1, _, rfl, ?_⟩
        cases hw1 : whole e1 with
        | false =>
          refine iteT (q H false (Same.refl _) (ff_iff ?_))
          rintro ⟨m, fs, e, h1, h2, _⟩
          injection e with e
          injection e with e e'
          subst e
          simp [whole, tyD] at hw1
        | true =>
          refine iteF ?_
          obtain ⟨i, rfl⟩ := whole_int hw1
          obtain rfl : v1 = .int i := g1
          have bad1 : ¬ (1 ≤ i ∧ i ≤ 8) → ¬ IsTabD (.tuple [.int i, e2]) := by
            rintro h ⟨m, fs, e, h1, h2, _⟩
            injection e with e
            injection e with e e'
            injection e with e
            omega
          refine ⟨.ref a, rfl, a, _, 0, _, rfl, rfl, .inl ha, at0, 1, _, rfl, rfl, _, rfl, ?_⟩
          show if decide ((1 : Int) ≤ i) = true then _ else _
          by_cases c1 : (1 : Int) ≤ i
          · rw [decide_eq_true c1]
            refine iteT ⟨_, _, rfl, rfl, _, rfl, ?_⟩
            show if (!decide (i ≤ 8)) = true then _ else _
            by_cases c2 : i ≤ 8
            · rw [decide_eq_true c2]
              refine iteF ?_
              obtain ⟨n, rfl⟩ := Int.eq_ofNat_of_zero_le (show 0 ≤ i by omega)
              obtain ⟨j1, j2, j3⟩ := kitD (K := K) e2
              refine ⟨.ref a, rfl, a, _, 1, v2, rfl, rfl, .inl ha, at1, v2, .ty "tuple", _, _, _, rfl, .ty _, tyRp g2, j1, _, rfl, ?_⟩
              by_cases ht2 : tyD e2 = "tuple"
              · rw [decide_eq_true ht2]
                refine iteF ?_
                obtain ⟨es, rfl⟩ := ty_tuple ht2
                obtain ⟨u, ys, rfl, hu, hy⟩ := g2
                have hyl := hy.len
                obtain ⟨_, hel, ekids⟩ := w2.kids
                have inv : IsTabD (.tuple [.int (n : Int), .tuple es]) → 1 ≤ es.length ∧ es.length ≤ 16 ∧ ∀ e ∈ es, IsTasD n e := by
                  rintro ⟨m, fs, e, _, _, h1, h2, h3⟩
                  injection e with e
                  injection e with e e'
                  injection e' with e' _
                  injection e' with e'
                  injection e with e
                  have em : n = m := by omega
                  subst em
                  subst e'
                  exact ⟨h1, h2, h3⟩
                refine ⟨.ref a, rfl, a, _, 1, .ref u, rfl, rfl, .inl ha, at1, u, ys, rfl, .inr (.inl hu), 1, _, rfl, rfl, _, rfl, ?_⟩
                show if decide ((1 : Int) ≤ (ys.length : Int)) = true then _ else _
                by_cases c3 : 1 ≤ es.length
                · rw [decide_eq_true (by omega)]
                  refine iteT ⟨_, _, rfl, rfl, _, rfl, ?_⟩
                  show if (!decide ((ys.length : Int) ≤ 16)) = true then _ else _
                  by_cases c4 : es.length ≤ 16
                  · rw [decide_eq_true (by omega)]
                    refine iteF ?_
                    refine ⟨.ref a, rfl, a, _, 1, .ref u, rfl, rfl, .inl ha, at1, u, rfl, ⟨_, .inl hu⟩, for_tup (K := K) (a := u) (xs := ys) (fun i σ H1 => (∃ y1, σ = [some (.ref a), y1]) ∧ Same H H1 ∧ ∀ e ∈ es.take i, IsTasD n e) ⟨⟨none, rfl⟩, Same.refl _, by simp⟩ (fun i σ H1 _ h => .inl (rd_same h.2.1 hu)) (fun i y σ H1 hy1 h => ?_) (fun σ H1 h => ?_)⟩
                    · obtain ⟨⟨y1, rfl⟩, s1, hall⟩ := h
                      obtain ⟨e, he, hre⟩ := hy.get hy1
                      have em := List.mem_of_getElem? he
                      have hre1 := hre.same s1
                      have no : ¬ IsTasD n e → ¬ IsTabD (.tuple [.int (n : Int), .tuple es]) := fun h g => h ((inv g).2.2 e em)
                      obtain ⟨m1, m2, m3⟩ := kitD (K := K) e
                      refine ⟨y, rfl, y, .ty "tuple", _, _, _, rfl, .ty _, tyRp hre1, m1, _, rfl, ?_⟩
                      by_cases ht3 : tyD e = "tuple"
                      · rw [decide_eq_true ht3]
                        refine iteF ?_
                        obtain ⟨gs, rfl⟩ := ty_tuple ht3
                        obtain ⟨b, zs, rfl, hb, hz⟩ := hre1
                        refine ⟨.ref b, rfl, b, zs, rfl, .inr (.inl hb), rfl, _, rfl, ?_⟩
                        have hzl := hz.len
                        by_cases hl3 : gs.length = 2
                        · refine iteNS (by rw [hzl, hl3]; rfl) ?_
                          obtain ⟨f1, f2, rfl⟩ := two_of hl3
                          obtain ⟨z1, s1', rfl, i1, z2, s2', rfl, i2, rfl⟩ := hz
                          obtain ⟨_, _, gk⟩ := (ekids _ em).kids
                          have wf1 := gk f1 (by simp)
                          have bt0 : atI [z1, z2] 0 = some z1 := atI_nat (j := 0) rfl
                          have bt1 : atI [z1, z2] 1 = some z2 := atI_nat (j := 1) rfl
                          have ha1 := rd_same s1 ha
                          refine ⟨.ref a, rfl, a, _, 0, _, rfl, rfl, .inl ha1, at0, .ref b, rfl, b, _, 0, _, rfl, rfl, .inl hb, bt0, z1, f1, ban, n, rfl, i1, by omega, by omega, fun ds e => by rw [e] at wf1; have := wf1.kids.2.1; omega, fun H2 c s2 hc => ⟨_, rfl, ?_⟩⟩
                          have hb2 := rd_same s2 hb
                          cases c with
                          | false =>
                            refine iteT (q H2 false (s1.trans s2) (ff_iff (no ?_)))
                            rintro ⟨x1, x2, e, h1, _⟩
                            injection e with e
                            injection e with e e'
                            subst e
                            exact Bool.false_ne_true (hc.mpr h1)
                          | true =>
                            refine iteF ?_
                            refine ⟨.ref b, rfl, b, _, 1, _, rfl, rfl, .inl hb2, bt1, z2, f2, ban, rfl, i2.same s2, _, rfl, ?_⟩
                            cases hw2 : whole f2 with
                            | false =>
                              refine iteT (q H2 false (s1.trans s2) (ff_iff (no ?_)))
                              rintro ⟨x1, x2, e, _, ⟨k, hk, _⟩⟩
                              injection e with e
                              injection e with e e'
                              injection e' with e' _
                              subst e'
                              rw [hk] at hw2
                              simp [whole, tyD] at hw2
                            | true =>
                              refine iteF ?_
                              obtain ⟨k, rfl⟩ := whole_int hw2
                              obtain rfl : z2 = .int k := i2
                              have no2 : ¬ (1 ≤ k ∧ k ≤ 1000000000000) → ¬ IsTasD n (.tuple [f1, .int k]) := by
                                rintro h ⟨x1, x2, e, _, ⟨k', hk, g⟩⟩
                                injection e with e
                                injection e with e e'
                                injection e' with e' _
                                subst e'
                                injection hk with hk
                                subst hk
                                exact h g
                              refine ⟨.ref b, rfl, b, _, 1, _, rfl, rfl, .inl hb2, bt1, 1, _, rfl, rfl, _, rfl, ?_⟩
                              show if decide ((1 : Int) ≤ k) = true then _ else _
                              by_cases c5 : (1 : Int) ≤ k
                              · rw [decide_eq_true c5]
                                refine iteT ⟨10, 12, rfl, rfl, ⟨by decide, by decide, by decide⟩, _, _, rfl, rfl, _, rfl, ?_⟩
                                show if (!decide (k ≤ 1000000000000)) = true then _ else _
                                by_cases c6 : k ≤ 1000000000000
                                · rw [decide_eq_true c6]
                                  refine iteF ?_
                                  refine ⟨⟨_, rfl⟩, s1.trans s2, fun z hz => ?_⟩
                                  rw [List.take_add_one, he] at hz
                                  rcases List.mem_append.mp hz with hz | hz
                                  · exact hall z hz
                                  · have hz : z = .tuple [f1, .int k] := by simpa using hz
                                    subst hz
                                    exact ⟨f1, .int k, rfl, hc.mp rfl, k, rfl, c5, c6⟩
                                · rw [decide_eq_false c6]
                                  exact iteT (q H2 false (s1.trans s2) (ff_iff (no (no2 (by omega)))))
                              · rw [decide_eq_false c5]
                                exact iteF ⟨_, rfl, iteT (q H2 false (s1.trans s2) (ff_iff (no (no2 (by omega)))))⟩
                        · refine iteND (int_ne (by rw [hzl]; omega)) (q H1 false s1 (ff_iff (no ?_)))
                          rintro ⟨x1, x2, e, _⟩
                          injection e with e
                          rw [e] at hl3
                          exact hl3 rfl
                      · rw [decide_eq_false ht3]
                        exact iteT (q H1 false s1 (ff_iff (no (not_tas_ty ht3))))
                    · obtain ⟨⟨y1, rfl⟩, s1, hall⟩ := h
                      rw [hyl, List.take_length] at hall
                      exact q H1 true s1 ⟨fun _ => ⟨n, es, rfl, by omega, by omega, c3, c4, hall⟩, fun _ => rfl⟩
                  · rw [decide_eq_false (by omega)]
                    exact iteT (q H false (Same.refl _) (ff_iff fun g => c4 (inv g).2.1))
                · rw [decide_eq_false (by omega)]
                  exact iteF ⟨_, rfl, iteT (q H false (Same.refl _) (ff_iff fun g => c3 (inv g).1))⟩
              · rw [decide_eq_false ht2]
                refine iteT (q H false (Same.refl _) (ff_iff ?_))
                rintro ⟨m, fs, e, _⟩
                injection e with e
                injection e with e e'
                injection e' with e' _
                subst e'
                exact ht2 rfl
            · rw [decide_eq_false c2]
              exact iteT (q H false (Same.refl _) (ff_iff (bad1 (by omega))))
          · rw [decide_eq_false c1]
            exact iteF ⟨_, rfl, iteT (q H false (Same.refl _) (ff_iff (bad1 (by omega))))⟩
      · refine iteND (int_ne (by rw [hxl]; omega)) (q H false (Same.refl _) (ff_iff ?_))
        rintro ⟨m, fs, e, _⟩
        injection e with e
        rw [e] at hl
        exact hl rfl
    · rw [decide_eq_false ht]
      exact iteT (q H false (Same.refl _) (ff_iff (not_tab_ty ht)))
end
end TR
namespace TR
open PySem PySem.Spec PyProof.Rows L2
theorem scLaw : FnScope ["_law_script", "_law_deck_here", "_law_turn", "_law_table_here", "_law_dishes", "_law_tasters", "_law_row", "_law_some", "_law_thing", "_law_kept", "_law_k", "_law_one_here"] ["_law_script"] (defScope sLaw) := ⟨rfl, rfl, rfl, by decide +kernel, rfl, by decide +kernel, by decide +kernel⟩
theorem Tst.rp {H : Hp} {ban : List Addr} {vs : List V} {ts : Tas} (h : Tst H vs ts) : RpAll H ban (ts.map tasD) vs := by
  induction h with
  | nil => rfl
  | cons e f _ ih =>
    exact ⟨_, _, rfl, ⟨_, _, rfl, e, _, _, rfl, ⟨_, _, rfl, f.rd, RpAll.ints _⟩, _, _, rfl, rfl, rfl⟩, ih⟩
theorem Tab.rp {H : Hp} {ban : List Addr} {t : Addr} {n : Nat} {ts : Tas} (h : Tab H t n ts) : Rp H ban (tabD n ts) (.ref t) := by
  obtain ⟨b, xs, h1, h2, h3⟩ := h
  exact ⟨t, _, rfl, h1, _, _, rfl, rfl, _, _, rfl, ⟨b, xs, rfl, h2, h3.rp⟩, rfl⟩
theorem wf_rk {n : Nat} {rk : List Int} (r : Rank n rk) (hn : n ≤ 8) : Wf 16 1 (.tuple (rk.map PyData.int)) ∧ sz (.tuple (rk.map PyData.int)) ≤ 9 := by
  constructor
  · refine Wf.tup (D := 0) (by rw [List.length_map, r.len]; omega) fun e he => ?_
    obtain ⟨i, hi, rfl⟩ := List.mem_map.mp he
    obtain ⟨b0, b1⟩ := r.bnd hi
    show i.natAbs ≤ 10 ^ 59 + 16
    omega
  · show 1 + szAll (rk.map PyData.int) ≤ 9
    rw [szAll_ints, r.len]
    omega
theorem wf_two {e : PyData} {w : Int} {L D : Nat} (h : Wf L D e) (hL : 2 ≤ L) (hw : w.natAbs ≤ 10 ^ 59) : Wf L (D + 1) (.tuple [e, .int w]) := by
  refine Wf.tup hL fun x hx => ?_
  simp only [List.mem_cons, List.not_mem_nil, or_false] at hx
  rcases hx with rfl | rfl
  · exact h
  · exact Wf.leaf (show w.natAbs ≤ 10 ^ 59 + L by omega)
theorem wf_one {e : PyData} {L D : Nat} (h : Wf L D e) (hL : 1 ≤ L) : Wf L (D + 1) (.tuple [e]) := by
  refine Wf.tup hL fun x hx => ?_
  rw [List.mem_singleton] at hx
  rw [hx]
  exact h
theorem wf_pair {e : PyData} {w : Int} {L D : Nat} (h : Wf L D e) (hL : 2 ≤ L) (hw : w.natAbs ≤ 10 ^ 59) : Wf L (D + 1) (.tuple [.int w, e]) := by
  refine Wf.tup hL fun x hx => ?_
  simp only [List.mem_cons, List.not_mem_nil, or_false] at hx
  rcases hx with rfl | rfl
  · exact Wf.leaf (show w.natAbs ≤ 10 ^ 59 + L by omega)
  · exact h
theorem big59 {i : Int} (h : i.natAbs ≤ 1000000000001) : i.natAbs ≤ 10 ^ 59 := Nat.le_trans h (by decide)
theorem wf_tas {n : Nat} {t : List Int × Int} (r : Rank n t.1) (hn : n ≤ 8) (h1 : 1 ≤ t.2) (h2 : t.2 ≤ 1000000000000) : Wf 16 2 (tasD t) ∧ sz (tasD t) ≤ 11 := by
  obtain ⟨a, b⟩ := wf_rk r hn
  refine ⟨wf_two a (by decide) (big59 (by omega)), ?_⟩
  show 1 + (sz (.tuple (t.1.map PyData.int)) + (1 + 0)) ≤ 11
  omega
theorem wf_tast {n M : Nat} {ts : Tas} (wf : WfT 8 M n ts) : (∀ e ∈ ts.map tasD, Wf 16 2 e) ∧ szAll (ts.map tasD) ≤ ts.length * 11 := by
  have key : ∀ e ∈ ts.map tasD, Wf 16 2 e ∧ sz e ≤ 11 := fun e he => by
    obtain ⟨t, ht, rfl⟩ := List.mem_map.mp he
    obtain ⟨r, w1, w2⟩ := wf.all t ht
    exact wf_tas r wf.nD w1 w2
  refine ⟨fun e he => (key e he).1, ?_⟩
  have := szAll_le (ts.map tasD) fun e he => (key e he).2
  rw [List.length_map] at this
  exact this
theorem wf_tab {n : Nat} {ts : Tas} (wf : WfT 8 16 n ts) : Wf 16 4 (tabD n ts) ∧ sz (tabD n ts) ≤ 179 := by
  obtain ⟨a, b⟩ := wf_tast wf
  have h1 := wf.lM
  have h2 := wf.nD
  refine ⟨wf_pair (Wf.tup (by rw [List.length_map]; exact h1) a) (by decide) (big59 (by omega)), ?_⟩
  show 1 + (1 + ((1 + szAll (ts.map tasD)) + 0)) ≤ 179
  have : ts.length * 11 ≤ 16 * 11 := Nat.mul_le_mul_right _ h1
  omega
theorem RpAll.rep {H : Hp} {ban : List Addr} {ds : List PyData} {xs : List V} (h : RpAll H ban ds xs) : ∀ k, RpAll H ban (List.replicate k ds).flatten (List.replicate k xs).flatten
  | 0 => rfl
  | k + 1 => by
    rw [List.replicate_succ, List.replicate_succ, List.flatten_cons, List.flatten_cons]
    exact h.app (h.rep k)
theorem mem_rep {α : Type} {l : List α} {x : α} : ∀ {k : Nat}, x ∈ (List.replicate k l).flatten → x ∈ l
  | 0, h => by cases h
  | k + 1, h => by
    rw [List.replicate_succ, List.flatten_cons] at h
    rcases List.mem_append.mp h with h | h
    · exact h
    · exact mem_rep h
theorem RpAll.updl {H : Hp} {ban : List Addr} {ds : List PyData} {xs us ys : List V} {D : Addr} (h : RpAll H ban ds xs) (hD : D ∈ ban) (e : H D = some (.lst us)) : RpAll (upd H D (.lst ys)) ban ds xs :=
  RpAll.mv (fun a zs hn g => by rw [upd_ne (show a ≠ D from fun z => hn (by rw [z]; exact hD))]; exact g) (fun a zs g => rdT_updl g e) (fun a g => by rw [upd_ne (ne_of g e (by intro z; cases z))]; exact g) ds xs h
theorem Rp.updl {H : Hp} {ban : List Addr} {d : PyData} {v : V} {us ys : List V} {D : Addr} (h : Rp H ban d v) (hD : D ∈ ban) (e : H D = some (.lst us)) : Rp (upd H D (.lst ys)) ban d v :=
  Rp.mv (fun a zs hn g => by rw [upd_ne (show a ≠ D from fun z => hn (by rw [z]; exact hD))]; exact g) (fun a zs g => rdT_updl g e) (fun a g => by rw [upd_ne (ne_of g e (by intro z; cases z))]; exact g) d v h
mutual
theorem Rp.less {H : Hp} {ban ban' : List Addr} (s : ∀ b, b ∈ ban' → b ∈ ban) : ∀ (d : PyData) (v : V), Rp H ban d v → Rp H ban' d v
  | .none, _, h => h
  | .bool _, _, h => h
  | .int _, _, h => h
  | .str _, _, h => h
  | .list ds, _, h => by
    obtain ⟨a, xs, e, h1, h2, h3⟩ := h
    exact ⟨a, xs, e, h1, fun z => h2 (s a z), RpAll.less s ds xs h3⟩
  | .tuple ds, _, h => by
    obtain ⟨a, xs, e, h1, h3⟩ := h
    exact ⟨a, xs, e, h1, RpAll.less s ds xs h3⟩
  | .dict kvs, _, h => h
theorem RpAll.less {H : Hp} {ban ban' : List Addr} (s : ∀ b, b ∈ ban' → b ∈ ban) : ∀ (ds : List PyData) (xs : List V), RpAll H ban ds xs → RpAll H ban' ds xs
  | [], _, h => h
  | d :: ds, _, h => by
    obtain ⟨v, r, e, h1, h2⟩ := h
    exact ⟨v, r, e, Rp.less s d v h1, RpAll.less s ds r h2⟩
end
section
variable {P : Program} {w : World} {K : PySem.W.Frag} {mg : Str → Option Value} {base : Heap}
theorem ok_Law {f f__law_deck f__law_table f__law_bent f__law_odd f__law_same f__law_is_table f_is_table f_rankings_of f_total_weight : Addr} {fd d__law_deck d__law_table d__law_bent d__law_odd d__law_same d__law_is_table d_is_table d_rankings_of d_total_weight : FuncData} (F : Fun K "law" "law" sLaw f fd)
    (k__law_deck : PySem.W.keepIn K (.ref f__law_deck) = true) (b__law_deck : Binds K d__law_deck ["_law_script"] []) (g__law_deck : mg "_law_deck" = some (.ref f__law_deck)) (G__law_deck : FnOk P w K mg base CX0 7 f__law_deck d__law_deck ["_law_script"] (spDeck K))
    (k__law_table : PySem.W.keepIn K (.ref f__law_table) = true) (b__law_table : Binds K d__law_table ["_law_deck_here", "_law_dishes", "_law_many"] []) (g__law_table : mg "_law_table" = some (.ref f__law_table)) (G__law_table : FnOk P w K mg base CX0 7 f__law_table d__law_table ["_law_deck_here", "_law_dishes", "_law_many"] spTable)
    (k__law_bent : PySem.W.keepIn K (.ref f__law_bent) = true) (b__law_bent : Binds K d__law_bent ["_law_deck_here", "_law_thing", "_law_deep"] []) (g__law_bent : mg "_law_bent" = some (.ref f__law_bent)) (G__law_bent : FnOk P w K mg base CX0 7 f__law_bent d__law_bent ["_law_deck_here", "_law_thing", "_law_deep"] (spBent 5))
    (k__law_odd : PySem.W.keepIn K (.ref f__law_odd) = true) (b__law_odd : Binds K d__law_odd ["_law_deck_here"] []) (g__law_odd : mg "_law_odd" = some (.ref f__law_odd)) (G__law_odd : FnOk P w K mg base CX0 7 f__law_odd d__law_odd ["_law_deck_here"] spOdd)
    (k__law_same : PySem.W.keepIn K (.ref f__law_same) = true) (b__law_same : Binds K d__law_same ["_law_found", "_law_due"] []) (g__law_same : mg "_law_same" = some (.ref f__law_same)) (G__law_same : FnOk P w K mg base CX0 7 f__law_same d__law_same ["_law_found", "_law_due"] (spSame K 7))
    (k__law_is_table : PySem.W.keepIn K (.ref f__law_is_table) = true) (b__law_is_table : Binds K d__law_is_table ["_law_thing"] []) (g__law_is_table : mg "_law_is_table" = some (.ref f__law_is_table)) (G__law_is_table : FnOk P w K mg base CX0 7 f__law_is_table d__law_is_table ["_law_thing"] spIsTab)
    (k_is_table : PySem.W.keepIn K (.ref f_is_table) = true) (b_is_table : Binds K d_is_table ["value"] []) (g_is_table : mg "is_table" = some (.ref f_is_table)) (G_is_table : FnOk P w K mg base CX0 7 f_is_table d_is_table ["value"] spIsTab)
    (k_rankings_of : PySem.W.keepIn K (.ref f_rankings_of) = true) (b_rankings_of : Binds K d_rankings_of ["table"] []) (g_rankings_of : mg "rankings_of" = some (.ref f_rankings_of)) (G_rankings_of : FnOk P w K mg base CX0 7 f_rankings_of d_rankings_of ["table"] (spRkOf K))
    (k_total_weight : PySem.W.keepIn K (.ref f_total_weight) = true) (b_total_weight : Binds K d_total_weight ["table"] []) (g_total_weight : mg "total_weight" = some (.ref f_total_weight)) (G_total_weight : FnOk P w K mg base CX0 7 f_total_weight d_total_weight ["table"] spTotal)
    (m_range : mg "range" = none) (m_tuple : mg "tuple" = none) (m_list : mg "list" = none) (m_repr : mg "repr" = none) (m_sum : mg "sum" = none) : RunG P w K mg base 8 f fd ["_law_script"] (spLaw K) := by
  refine okG F scLaw (fun vs H Q E h => ?_) (fun cdv A outer s H vs Q E hg hr h => ?_)
  · obtain ⟨a, ns, rfl, _⟩ := h
    rfl
  · obtain ⟨a, ns, rfl, hS, hlen, qq⟩ := h
    refine ⟨_, 
      (pss_cons (ps_set (i := 1) scLaw.nd rfl (.inr rfl) (pe_call G__law_deck hr (by rfl) g__law_deck k__law_deck b__law_deck .nil pass0 (pa_cons (pv 0) pa_nil))) 
      (pss_cons (ps_for PassesOwn.never rfl (pi_range1 (by rfl) m_range (pa_cons pe_int pa_nil)) (pg_name (i := 2) scLaw.nd rfl (.inl rfl)) 
        (pss_cons (ps_set (i := 3) scLaw.nd rfl (.inr rfl) (pe_call G__law_table hr (by rfl) g__law_table k__law_table b__law_table .nil pass0 (pa_cons (pv 1) (pa_cons pe_int (pa_cons pe_int pa_nil))))) 
        (pss_cons (ps_asg (pv 3) (pg_tup (by rfl) (pgs_cons (pg_name (i := 4) scLaw.nd rfl (.inl rfl)) (pgs_cons (pg_name (i := 5) scLaw.nd rfl (.inl rfl)) pgs_nil)))) 
        (pss_cons (ps_set (i := 6) scLaw.nd rfl (.inl rfl) (pe_tupRg (by rfl) (by rfl) m_tuple (prg_1 (by rfl) m_range pe_int))) 
        (pss_cons (ps_set (i := 7) scLaw.nd rfl (.inl rfl) (pe_lstN (pa_cons (pv 3) (pa_cons (pe_tupN (pa_cons (pv 4) (pa_cons (pe_slice sl_tupN (pe_op op_repT (pv 5) pe_int) po_none (po_some pe_int)) pa_nil))) (pa_cons (pe_tupN (pa_cons pe_int (pa_cons (pe_tupN (pa_cons (pe_tupN (pa_cons (pv 6) (pa_cons pe_int pa_nil))) pa_nil)) pa_nil))) (pa_cons (pe_tupN (pa_cons (pv 4) (pa_cons (pe_tupN pa_nil) pa_nil))) (pa_cons (pe_lstN (pa_cons (pv 4) (pa_cons (pv 5) pa_nil))) pa_nil))))))) 
        (pss_cons (ps_set (i := 7) scLaw.nd rfl (.inl rfl) (pe_op op_catN (pv 7) (pe_lstN (pa_cons (pe_tupN (pa_cons (pv 4) (pa_cons (pe_callTy call_listN (by rfl) m_list (by decide +kernel) (pa_cons (pv 5) pa_nil)) pa_nil))) (pa_cons (pe_tupN (pa_cons (pv 4) (pa_cons (pe_tupN (pa_cons (pe_tupN (pa_cons (pe_ix (r := rIxT K) ix_tup (pe_ix (r := rIxT K) ix_tup (pv 5) pe_int (fun _ _ => rfl)) pe_int (fun _ _ => rfl)) (pa_cons (pe_op op_add (pe_op op_pow pe_int pe_int) pe_int) pa_nil))) pa_nil)) pa_nil))) (pa_cons (pe_tupN (pa_cons pe_int (pa_cons (pe_tupN (pa_cons (pe_tupN (pa_cons (pe_tupN pa_nil) (pa_cons pe_int pa_nil))) pa_nil)) pa_nil))) pa_nil)))))) 
        (pss_cons (ps_set (i := 7) scLaw.nd rfl (.inl rfl) (pe_op op_catN (pv 7) (pe_lstN (pa_cons (pe_tupN (pa_cons (pv 4) (pa_cons (pe_tupN (pa_cons (pe_tupN (pa_cons (pe_ix (r := rIxT K) ix_tup (pe_ix (r := rIxT K) ix_tup (pv 5) pe_int (fun _ _ => rfl)) pe_int (fun _ _ => rfl)) (pa_cons pe_int pa_nil))) pa_nil)) pa_nil))) pa_nil)))) 
        (pss_cons (ps_set (i := 7) scLaw.nd rfl (.inl rfl) (pe_op op_catN (pe_op op_catN (pv 7) (pe_lc (own := [("_law_k", 10)]) (g := gName 10) (tt := tYes) (by rfl) scLaw.nd (pi_range1 (by rfl) m_range (pa_cons pe_int pa_nil)) (blkOk_by (own := [("_law_k", 10)]) (N := ["_law_script", "_law_deck_here", "_law_turn", "_law_table_here", "_law_dishes", "_law_tasters", "_law_row", "_law_some", "_law_thing", "_law_kept", "_law_k", "_law_one_here"]) (sc := defScope sLaw) (by decide +kernel)) (fun _ _ _ _ _ => (pg_name (i := 10) scLaw.nd rfl (Or.inl rfl))) (fun _ _ _ _ _ => pts_nil) (fun _ _ _ _ _ => (pe_call G__law_bent hr (by rfl) g__law_bent k__law_bent b__law_bent .nil pass0 (pa_cons (pv 1) (pa_cons (pv 3) (pa_cons pe_int pa_nil))))))) (pe_lstN (pa_cons (pe_call G__law_odd hr (by rfl) g__law_odd k__law_odd b__law_odd .nil pass0 (pa_cons (pv 1) pa_nil)) pa_nil)))) 
        (pss_cons (ps_for PassesOwn.never rfl (pi_list (pv 7)) (pg_name (i := 8) scLaw.nd rfl (.inl rfl)) 
          (pss_cons (ps_set (i := 9) scLaw.nd rfl (.inl rfl) (pe_callB (call_reprD hg hr.units) (by rfl) m_repr (by decide +kernel) (pa_cons (pv 8) pa_nil))) 
          (pss_one (ps_if (PW.pt (pw_or (pt_not (pt_val (pe_call G__law_same hr (by rfl) g__law_same k__law_same b__law_same .nil pass0 (pa_cons (pe_call G_is_table hr (by rfl) g_is_table k_is_table b_is_table .nil pass0 (pa_cons (pv 8) pa_nil)) (pa_cons (pe_call G__law_is_table hr (by rfl) g__law_is_table k__law_is_table b__law_is_table .nil pass0 (pa_cons (pv 8) pa_nil)) pa_nil))))) (pw_or1 (pt_cmpR op_ne (pe_callB (call_reprD hg hr.units) (by rfl) m_repr (by decide +kernel) (pa_cons (pv 8) pa_nil)) (pv 9) (nomark _))))) 
            (pss_one (ps_ret pe_bl)) pss_nil)))) 
        (pss_cons (ps_if (pt_not (pt_val (pe_call G__law_same hr (by rfl) g__law_same k__law_same b__law_same .nil pass0 (pa_cons (pe_call G_rankings_of hr (by rfl) g_rankings_of k_rankings_of b_rankings_of .nil pass0 (pa_cons (pv 3) pa_nil)) (pa_cons (pe_callTy call_tupleF (by rfl) m_tuple (by decide +kernel) (pa_cons (pe_lc (own := [("_law_one_here", 11)]) (g := gName 11) (tt := tYes) (by rfl) scLaw.nd (pi_tup (pv 5)) (blkOk_by (own := [("_law_one_here", 11)]) (N := ["_law_script", "_law_deck_here", "_law_turn", "_law_table_here", "_law_dishes", "_law_tasters", "_law_row", "_law_some", "_law_thing", "_law_kept", "_law_k", "_law_one_here"]) (sc := defScope sLaw) (by decide +kernel)) (fun _ _ _ _ _ => (pg_name (i := 11) scLaw.nd rfl (Or.inl rfl))) (fun _ _ _ _ _ => pts_nil) (fun _ _ _ _ _ => (pe_ix (r := rIxT K) ix_tup (pv 11) pe_int (fun _ _ => rfl)))) pa_nil)) pa_nil))))) 
          (pss_one (ps_ret pe_bl)) pss_nil) 
        (pss_one (ps_if (pt_not (pt_val (pe_call G__law_same hr (by rfl) g__law_same k__law_same b__law_same .nil pass0 (pa_cons (pe_call G_total_weight hr (by rfl) g_total_weight k_total_weight b_total_weight .nil pass0 (pa_cons (pv 3) pa_nil)) (pa_cons (pe_callB (r := rSum K) (cr_sum (by rfl)) (by rfl) m_sum (by decide +kernel) (pa_cons (pe_lc (own := [("_law_one_here", 11)]) (g := gName 11) (tt := tYes) (by rfl) scLaw.nd (pi_tup (pv 5)) (blkOk_by (own := [("_law_one_here", 11)]) (N := ["_law_script", "_law_deck_here", "_law_turn", "_law_table_here", "_law_dishes", "_law_tasters", "_law_row", "_law_some", "_law_thing", "_law_kept", "_law_k", "_law_one_here"]) (sc := defScope sLaw) (by decide +kernel)) (fun _ _ _ _ _ => (pg_name (i := 11) scLaw.nd rfl (Or.inl rfl))) (fun _ _ _ _ _ => pts_nil) (fun _ _ _ _ _ => (pe_ix (r := rIxT K) ix_tup (pv 11) pe_int (fun _ _ => rfl)))) pa_nil)) pa_nil))))) 
          (pss_one (ps_ret pe_bl)) pss_nil)))))))))))) 
      (pss_one (ps_ret pe_bl)))), ?_⟩
    refine ⟨.ref a, rfl, a, ns, rfl, hS, hlen, fun H1 d p q s1 D1 => ?_⟩
    refine ⟨12, rfl, by decide, by decide, for_range (n := 12) (lo := 0) (fun i σ H2 => (∃ y2 y3 y4 y5 y6 y7 y8 y9 ya yb, σ = [some (.ref a), some (.ref d), y2, y3, y4, y5, y6, y7, y8, y9, ya, yb]) ∧ Deck H2 d p q (560 * i)) ⟨⟨none, none, none, none, none, none, none, none, none, none, rfl⟩, D1⟩ (fun i σ H2 hi h => ?_) (fun σ H2 h => qq H2)⟩
    obtain ⟨⟨y2, y3, y4, y5, y6, y7, y8, y9, ya, yb, rfl⟩, D2⟩ := h
    refine ⟨.ref d, rfl, d, p, q, 560 * i, 8, 16, rfl, D2, by omega, by decide, by decide, by decide, by decide, fun H3 t n ts tab wf D3 k3 => ?_⟩
    obtain ⟨b, xs, h1, h2, h3⟩ := id tab
    have hn := wf.nD
    have hn1 := wf.n1
    have hM := wf.lM
    have hm1 := wf.l1
    have hxl := h3.len
    refine ⟨.ref t, rfl, t, _, rfl, .inl h1, rfl, .int (n : Int), _, rfl, .ref b, _, rfl, rfl, ?_⟩
    refine ⟨9, rfl, RgOk.of_le (by decide) (by decide) (by decide) (by decide), fun rw' hrw => ?_⟩
    have s4 : Same H3 (upd H3 rw' (.tup (rgV 0 9))) := same_upd hrw
    have e4 : upd H3 rw' (.tup (rgV 0 9)) rw' = some (.tup (rgV 0 9)) := upd_same
    rw [show rgV 0 9 = rgV 0 ((9 : Nat) : Int) from rfl, rgV_rng] at s4 e4
    show tSeq _ _ _ _ (upd H3 rw' (.tup (rgV 0 ((9 : Nat) : Int))))
    rw [rgV_rng]
    generalize upd H3 rw' (.tup ((rng 9).map V.int)) = H4 at s4 e4 ⊢
    obtain ⟨x0, xr, ex0⟩ : ∃ x0 xr, xs = x0 :: xr := by
      cases xs with
      | nil => simp at hxl; omega
      | cons x0 xr => exact ⟨x0, xr, rfl⟩
    obtain ⟨t0, r0, rk0, w0, et0, hg0, hr0, tp0⟩ := h3.get (i := 0) (x := x0) (by rw [ex0]; rfl)
    subst et0
    have mem0 : (rk0, w0) ∈ ts := List.mem_of_getElem? hg0
    have rrk0 := (wf.all _ mem0).1
    dsimp only at rrk0
    have at0 : atI xs 0 = some (.ref t0) := atI_nat (j := 0) (by rw [ex0]; rfl)
    -- the first five
    refine ⟨.ref t, rfl, .int (n : Int), rfl, .ref b, rfl, b, 17, xs, rfl, rfl, .inl (rdT_same h2 s4), by rw [ex0]; simp, by decide, by decide, by omega, fun m1 hm1' => ?_⟩
    have s5 : Same H4 (upd H4 m1 (.tup (List.replicate 17 xs).flatten)) := same_upd hm1'
    have e5 : upd H4 m1 (.tup (List.replicate 17 xs).flatten) m1 = some (.tup (List.replicate 17 xs).flatten) := upd_same
    refine ⟨17, rfl, m1, _, rfl, .inl upd_same, fun c1 H6 s6 hc1 => ?_⟩
    refine ⟨by show 2 ≤ sizeLine; decide, fun p1 H7 _ s7 e7 => ?_⟩
    refine ⟨.ref rw', rfl, by show 2 ≤ sizeLine; decide, fun p2 H8 _ s8 e8 => ⟨by show 1 ≤ sizeLine; decide, fun p3 H9 _ s9 e9 => ⟨by show 2 ≤ sizeLine; decide, fun p4 Ha _ sa ea => ?_⟩⟩⟩
    refine ⟨.int (n : Int), rfl, Nat.zero_le _, fun p5 Hb _ sb eb => ⟨by show 2 ≤ sizeLine; decide, fun p6 Hc _ sc ec => ?_⟩⟩
    have s3c : Same H3 Hc := s4.trans (s5.trans (s6.trans (s7.trans (s8.trans (s9.trans (sa.trans (sb.trans sc)))))))
    refine ⟨.int (n : Int), rfl, .ref b, rfl, by show 2 ≤ sizeLine; decide, fun l1 Hd hl1 nl1 sd ed => ⟨by show 5 ≤ sizeLine; decide, fun L1 He hL1 nL1 se ee => ?_⟩⟩
    have s3e : Same H3 He := s3c.trans (sd.trans se)
    -- three more
    refine ⟨.ref L1, rfl, .int (n : Int), rfl, .ref b, rfl, b, xs, rfl, rdT_same h2 s3e, fun l2 Hf hl2 nl2 sf ef => ⟨by show 2 ≤ sizeLine; decide, fun p7 Hg _ sg eg => ?_⟩⟩
    have s3g : Same H3 Hg := s3e.trans (sf.trans sg)
    refine ⟨.int (n : Int), rfl, .ref b, rfl, b, xs, 0, .ref t0, rfl, rfl, .inl (rdT_same h2 s3g), at0, t0, _, 0, .ref r0, rfl, rfl, .inl (rdT_same hr0 s3g), atI_nat (j := 0) rfl, 10, 12, rfl, rfl, ⟨by decide, by decide, by decide⟩, _, 1, rfl, rfl, by show 2 ≤ sizeLine; decide, fun p8 Hh _ sh eh => ⟨by show 1 ≤ sizeLine; decide, fun p9 Hi _ si ei => ⟨by show 2 ≤ sizeLine; decide, fun p10 Hj _ sj ej => ?_⟩⟩⟩
    refine ⟨Nat.zero_le _, fun p11 Hk _ sk ek => ⟨by show 2 ≤ sizeLine; decide, fun p12 Hl _ sl el => ⟨by show 1 ≤ sizeLine; decide, fun p13 Hm _ sm em => ⟨by show 2 ≤ sizeLine; decide, fun p14 Hn _ sn en => ⟨by show 3 ≤ sizeLine; decide, fun L2 Ho hL2 nL2 so eo => ?_⟩⟩⟩⟩⟩
    have sgo : Same Hg Ho := sh.trans (si.trans (sj.trans (sk.trans (sl.trans (sm.trans (sn.trans so))))))
    have seo : Same He Ho := (sf.trans sg).trans sgo
    refine ⟨L1, L2, _, _, rfl, rfl, seo _ _ ee, eo, by show 8 ≤ sizeLine; decide, fun L3 Hp hL3 sp ep => ?_⟩
    have s3p : Same H3 Hp := s3e.trans (seo.trans sp)
    -- one more
    refine ⟨.ref L3, rfl, .int (n : Int), rfl, .ref b, rfl, b, xs, 0, .ref t0, rfl, rfl, .inl (rdT_same h2 s3p), at0, t0, _, 0, .ref r0, rfl, rfl, .inl (rdT_same hr0 s3p), atI_nat (j := 0) rfl, by show 2 ≤ sizeLine; decide, fun p15 Hq _ sq eq => ⟨by show 1 ≤ sizeLine; decide, fun p16 Hr _ sr er => ⟨by show 2 ≤ sizeLine; decide, fun p17 Hs _ ss es => ⟨by show 1 ≤ sizeLine; decide, fun L4 Ht hL4 nL4 st et => ?_⟩⟩⟩⟩
    have spt : Same Hp Ht := sq.trans (sr.trans (ss.trans st))
    refine ⟨L3, L4, _, _, rfl, rfl, spt _ _ ep, et, by show 9 ≤ sizeLine; decide, fun L5 Hu hL5 su eu => ?_⟩
    have spu : Same Hp Hu := spt.trans su
    have s3u : Same H3 Hu := s3p.trans spu
    have Du := D3.same s3u
    have tabu := tab.same s3u
    have hL50 : Ht L5 = none := hL5
    -- what stands so far, as data
    have ban1 : l1 ∉ [d, p, sysModules] := by
      simp only [List.mem_cons, List.not_mem_nil, or_false, not_or]
      exact ⟨(D3.same s3c).ned hl1, (D3.same s3c).nep hl1, nl1⟩
    have ban2 : l2 ∉ [d, p, sysModules] := by
      simp only [List.mem_cons, List.not_mem_nil, or_false, not_or]
      exact ⟨(D3.same s3e).ned hl2, (D3.same s3e).nep hl2, nl2⟩
    have seu : Same He Hu := seo.trans (sp.trans spu)
    have scu : Same Hc Hu := (sd.trans se).trans seu
    have sgu : Same Hg Hu := sgo.trans (sp.trans spu)
    have hxu : RpAll Hu [d, p, sysModules] (ts.map tasD) xs := (h3.same s3u).rp
    have bu := rdT_same h2 s3u
    obtain ⟨wA, zA⟩ := wf_tab wf
    obtain ⟨wB, zB⟩ := wf_tast wf
    obtain ⟨wC, zC⟩ := wf_rk rrk0 hn
    have zB2 : szAll (ts.map tasD) ≤ 176 := by
      have : ts.length * 11 ≤ 16 * 11 := Nat.mul_le_mul_right _ hM
      omega
    have nb : ((n : Int)).natAbs ≤ 10 ^ 59 := big59 (by omega)
    have rep17 : (List.replicate 17 xs).flatten.length = 17 * xs.length := by
      rw [List.length_flatten, List.map_replicate, List.sum_replicate_nat]
    have ecut : cutV (List.replicate 17 xs).flatten none (some 17) = (List.replicate 17 xs).flatten.take 17 := by
      have := cut_to (xs := (List.replicate 17 xs).flatten) (k := 17) (by rw [rep17]; omega)
      exact this
    replace hc1 : Rd H6 c1 (.tup ((List.replicate 17 xs).flatten.take 17)) := by
      rw [← ecut]
      exact hc1
    have c1u : Rd Hu c1 (.tup ((List.replicate 17 xs).flatten.take 17)) := rdT_same hc1 (s7.trans (s8.trans (s9.trans (sa.trans (sb.trans (sc.trans scu))))))
    have all9 : RpAll Hu [d, p, sysModules] [tabD n ts, .tuple [.int (n : Int), .tuple ((List.replicate 17 (ts.map tasD)).flatten.take 17)], .tuple [.int 9, .tuple [.tuple [.tuple ((rng 9).map PyData.int), .int 1]]], .tuple [.int (n : Int), .tuple []], .list [.int (n : Int), .tuple (ts.map tasD)], .tuple [.int (n : Int), .list (ts.map tasD)], .tuple [.int (n : Int), .tuple [.tuple [.tuple (rk0.map PyData.int), .int (10 ^ 12 + 1)]]], .tuple [.int 0, .tuple [.tuple [.tuple [], .int 1]]], .tuple [.int (n : Int), .tuple [.tuple [.tuple (rk0.map PyData.int), .int 0]]]] _ :=
      ⟨_, _, rfl, tabu.rp,
        _, _, rfl, ⟨p1, _, rfl, .inl ((s8.trans (s9.trans (sa.trans (sb.trans (sc.trans scu))))) _ _ e7), _, _, rfl, rfl, _, _, rfl, ⟨c1, _, rfl, c1u, (hxu.rep 17).take 17⟩, rfl⟩,
        _, _, rfl, ⟨p4, _, rfl, .inl ((sb.trans (sc.trans scu)) _ _ ea), _, _, rfl, rfl, _, _, rfl, ⟨p3, _, rfl, .inl ((sa.trans (sb.trans (sc.trans scu))) _ _ e9), _, _, rfl, ⟨p2, _, rfl, .inl ((s9.trans (sa.trans (sb.trans (sc.trans scu)))) _ _ e8), _, _, rfl, ⟨rw', _, rfl, .inl ((s5.trans (s6.trans (s7.trans (s8.trans (s9.trans (sa.trans (sb.trans (sc.trans scu)))))))) _ _ e4), RpAll.ints _⟩, _, _, rfl, rfl, rfl⟩, rfl⟩, rfl⟩,
        _, _, rfl, ⟨p6, _, rfl, .inl (scu _ _ ec), _, _, rfl, rfl, _, _, rfl, ⟨p5, _, rfl, .inl ((sc.trans scu) _ _ eb), rfl⟩, rfl⟩,
        _, _, rfl, ⟨l1, _, rfl, (se.trans seu) _ _ ed, ban1, _, _, rfl, rfl, _, _, rfl, ⟨b, xs, rfl, bu, hxu⟩, rfl⟩,
        _, _, rfl, ⟨p7, _, rfl, .inl (sgu _ _ eg), _, _, rfl, rfl, _, _, rfl, ⟨l2, _, rfl, (sg.trans sgu) _ _ ef, ban2, hxu⟩, rfl⟩,
        _, _, rfl, ⟨p10, _, rfl, .inl ((sk.trans (sl.trans (sm.trans (sn.trans (so.trans (sp.trans spu)))))) _ _ ej), _, _, rfl, rfl, _, _, rfl, ⟨p9, _, rfl, .inl ((sj.trans (sk.trans (sl.trans (sm.trans (sn.trans (so.trans (sp.trans spu))))))) _ _ ei), _, _, rfl, ⟨p8, _, rfl, .inl ((si.trans (sj.trans (sk.trans (sl.trans (sm.trans (sn.trans (so.trans (sp.trans spu)))))))) _ _ eh), _, _, rfl, ⟨r0, _, rfl, (tp0.same s3u).rd, RpAll.ints _⟩, _, _, rfl, rfl, rfl⟩, rfl⟩, rfl⟩,
        _, _, rfl, ⟨p14, _, rfl, .inl ((so.trans (sp.trans spu)) _ _ en), _, _, rfl, rfl, _, _, rfl, ⟨p13, _, rfl, .inl ((sn.trans (so.trans (sp.trans spu))) _ _ em), _, _, rfl, ⟨p12, _, rfl, .inl ((sm.trans (sn.trans (so.trans (sp.trans spu)))) _ _ el), _, _, rfl, ⟨p11, _, rfl, .inl ((sl.trans (sm.trans (sn.trans (so.trans (sp.trans spu))))) _ _ ek), rfl⟩, _, _, rfl, rfl, rfl⟩, rfl⟩, rfl⟩,
        _, _, rfl, ⟨p17, _, rfl, .inl ((st.trans su) _ _ es), _, _, rfl, rfl, _, _, rfl, ⟨p16, _, rfl, .inl ((ss.trans (st.trans su)) _ _ er), _, _, rfl, ⟨p15, _, rfl, .inl ((sr.trans (ss.trans (st.trans su))) _ _ eq), _, _, rfl, ⟨r0, _, rfl, (tp0.same s3u).rd, RpAll.ints _⟩, _, _, rfl, rfl, rfl⟩, rfl⟩, rfl⟩,
        rfl⟩
    have wf9 : ∀ e ∈ [tabD n ts, .tuple [.int (n : Int), .tuple ((List.replicate 17 (ts.map tasD)).flatten.take 17)], .tuple [.int 9, .tuple [.tuple [.tuple ((rng 9).map PyData.int), .int 1]]], .tuple [.int (n : Int), .tuple []], .list [.int (n : Int), .tuple (ts.map tasD)], .tuple [.int (n : Int), .list (ts.map tasD)], .tuple [.int (n : Int), .tuple [.tuple [.tuple (rk0.map PyData.int), .int (10 ^ 12 + 1)]]], .tuple [.int 0, .tuple [.tuple [.tuple [], .int 1]]], .tuple [.int (n : Int), .tuple [.tuple [.tuple (rk0.map PyData.int), .int 0]]]], Wf 17 6 e ∧ sz e ≤ 400 := by
      have lt : Wf 16 3 (.tuple (ts.map tasD)) := Wf.tup (by rw [List.length_map]; exact hM) wB
      have lst : Wf 16 3 (.list (ts.map tasD)) := Wf.lst (by rw [List.length_map]; exact hM) wB
      have w9 : Wf 16 1 (.tuple ((rng 9).map PyData.int)) := by
        refine Wf.tup (D := 0) (by rw [List.length_map, rng_len]; decide) fun e he => ?_
        obtain ⟨i, hi, rfl⟩ := List.mem_map.mp he
        have := mem_rng.mp hi
        show i.natAbs ≤ 10 ^ 59 + 16
        omega
      have w17 : Wf 17 3 (.tuple ((List.replicate 17 (ts.map tasD)).flatten.take 17)) := by
        refine Wf.tup (by rw [List.length_take]; omega) fun e he => (wB e (mem_rep (List.mem_of_mem_take he))).mono (by decide) (by decide)
      have z17 : szAll ((List.replicate 17 (ts.map tasD)).flatten.take 17) ≤ 17 * 11 := by
        have h := szAll_le (B := 11) ((List.replicate 17 (ts.map tasD)).flatten.take 17) fun e he => by
          obtain ⟨tt, ht, rfl⟩ := List.mem_map.mp (mem_rep (List.mem_of_mem_take he))
          obtain ⟨r, w1, w2⟩ := wf.all tt ht
          exact (wf_tas r hn w1 w2).2
        have h2 : ((List.replicate 17 (ts.map tasD)).flatten.take 17).length * 11 ≤ 17 * 11 := Nat.mul_le_mul_right _ (by rw [List.length_take]; omega)
        omega
      have z9 : sz (.tuple ((rng 9).map PyData.int)) = 10 := by
        show 1 + szAll ((rng 9).map PyData.int) = 10
        rw [szAll_ints, rng_len]
      have up : ∀ {e : PyData} {L D : Nat}, Wf L D e → L ≤ 17 → D ≤ 6 → Wf 17 6 e := fun h a b => h.mono a b
      refine List.forall_mem_cons.mpr ⟨⟨up wA (by decide) (by decide), by omega⟩, List.forall_mem_cons.mpr ⟨⟨up (wf_pair w17 (by decide) nb) (by decide) (by decide), by show 1 + (1 + ((1 + szAll ((List.replicate 17 (ts.map tasD)).flatten.take 17)) + 0)) ≤ 400; omega⟩, List.forall_mem_cons.mpr ⟨⟨up (wf_pair (wf_one (wf_two w9 (by decide) (by decide)) (by decide)) (by decide) (by decide)) (by decide) (by decide), by show 1 + (1 + ((1 + ((1 + (sz (.tuple ((rng 9).map PyData.int)) + (1 + 0))) + 0)) + 0)) ≤ 400; omega⟩,
        List.forall_mem_cons.mpr ⟨⟨up (wf_pair (Wf.tup (L := 16) (D := 0) (ds := []) (by decide) (by simp)) (by decide) nb) (by decide) (by decide), by show 1 + (1 + ((1 + 0) + 0)) ≤ 400; decide⟩, List.forall_mem_cons.mpr ⟨⟨up (Wf.lst (L := 16) (D := 3) (ds := [.int (n : Int), .tuple (ts.map tasD)]) (by show 2 ≤ 16; decide) ?_) (by decide) (by decide), by show 1 + (1 + ((1 + szAll (ts.map tasD)) + 0)) ≤ 400; omega⟩, List.forall_mem_cons.mpr ⟨⟨up (wf_pair lst (by decide) nb) (by decide) (by decide), by show 1 + (1 + ((1 + szAll (ts.map tasD)) + 0)) ≤ 400; omega⟩,
        List.forall_mem_cons.mpr ⟨⟨up (wf_pair (wf_one (wf_two wC (by decide) (by decide)) (by decide)) (by decide) nb) (by decide) (by decide), by show 1 + (1 + ((1 + ((1 + (sz (.tuple (rk0.map PyData.int)) + (1 + 0))) + 0)) + 0)) ≤ 400; omega⟩, List.forall_mem_cons.mpr ⟨⟨up (wf_pair (wf_one (wf_two (Wf.tup (L := 16) (D := 0) (ds := []) (by decide) (by simp)) (by decide) (by decide)) (by decide)) (by decide) (by decide)) (by decide) (by decide), by decide⟩, List.forall_mem_cons.mpr ⟨⟨up (wf_pair (wf_one (wf_two wC (by decide) (by decide)) (by decide)) (by decide) nb) (by decide) (by decide), by show 1 + (1 + ((1 + ((1 + (sz (.tuple (rk0.map PyData.int)) + (1 + 0))) + 0)) + 0)) ≤ 400; omega⟩, fun _ h => absurd h (by simp)⟩⟩⟩⟩⟩⟩⟩⟩⟩
      intro e he
      simp only [List.mem_cons, List.not_mem_nil, or_false] at he
      rcases he with rfl | rfl
      · exact Wf.leaf (show ((n : Int)).natAbs ≤ 10 ^ 59 + 16 by omega)
      · exact lt
    generalize hds : [tabD n ts, PyData.tuple [.int (n : Int), .tuple ((List.replicate 17 (ts.map tasD)).flatten.take 17)], .tuple [.int 9, .tuple [.tuple [.tuple ((rng 9).map PyData.int), .int 1]]], .tuple [.int (n : Int), .tuple []], .list [.int (n : Int), .tuple (ts.map tasD)], .tuple [.int (n : Int), .list (ts.map tasD)], .tuple [.int (n : Int), .tuple [.tuple [.tuple (rk0.map PyData.int), .int (10 ^ 12 + 1)]]], .tuple [.int 0, .tuple [.tuple [.tuple [], .int 1]]], .tuple [.int (n : Int), .tuple [.tuple [.tuple (rk0.map PyData.int), .int 0]]]] = ds9 at all9 wf9
    generalize hvs : ([V.ref t, .ref p1, .ref p4, .ref p6, .ref l1] ++ [V.ref p7, .ref p10, .ref p14]) ++ [V.ref p17] = vs9 at eu
    replace all9 : RpAll Hu [d, p, sysModules] ds9 vs9 := by
      rw [← hvs]
      exact all9
    have len9 : vs9.length = 9 := by rw [← hvs]; rfl
    -- six bent ones
    have nL5d : L5 ≠ d := ((D3.same s3p).same spt).ned hL5
    have nL5p : L5 ≠ p := ((D3.same s3p).same spt).nep hL5
    refine ⟨.ref L5, rfl, 6, rfl, by decide, by decide, fun E hE => walk_in (n := 6) (lo := 0) (fun j Hv => Deck Hv d p q (560 * i + 250 + 50 * j) ∧ Keep d p Hu Hv ∧ ∃ zs es, Hv E = some (.lst zs) ∧ RpAll Hv [d, p, sysModules, E] es zs ∧ es.length = j ∧ ∀ e ∈ es, Wf 17 6 e ∧ sz e ≤ 400) ⟨Du.same (same_upd hE), Same.keep (same_upd hE), [], [], upd_same, rfl, rfl, fun e he => by cases he⟩ (fun j Hv hj h => ?_) (fun Hv h => ?_)⟩
    · obtain ⟨Dv, kv, zs, es', eE, allv, hlv, wfv⟩ := h
      have nEd : E ≠ d := Du.ned hE
      have nEp : E ≠ p := Du.nep hE
      have nEq : E ≠ q := Du.neq hE
      have tabv := tabu.keep Du kv
      refine ⟨rfl, .ref d, rfl, .ref t, rfl, d, p, q, 560 * i + 250 + 50 * j, .ref t, tabD n ts, 16, 4, [E], rfl, Dv, (by show 560 * i + 250 + 50 * j + 10 * (4 + 1) ≤ 900000; omega), (fun x hx => by rw [List.mem_singleton] at hx; subst hx; exact ⟨_, eE⟩), tabv.rp, wA, by decide, by decide, fun Hw y ee' Dw kw hpy hwy hzy => ?_⟩
      have eEw := kw _ _ eE nEd nEp
      have allw := allv.keep Dv kw (by simp) (by simp)
      have hzl := allw.len
      refine ⟨zs, eEw, small1000 (by omega), Deck.mono (k := 560 * i + 250 + 50 * (j + 1)) (Dw.upd nEd nEp nEq) (by show 560 * i + 250 + 50 * j + 50 ≤ 560 * i + 250 + 50 * (j + 1); omega), keep_fresh (kv.trans kw) hE, zs ++ [y], es' ++ [ee'], upd_same, ?_, by rw [List.length_append, hlv]; rfl, ?_⟩
      · exact (allw.updl (by simp) eEw).app ⟨y, [], rfl, hpy.updl (by simp) eEw, rfl⟩
      · intro e he
        rcases List.mem_append.mp he with he | he
        · exact wfv e he
        · rw [List.mem_singleton] at he
          subst he
          exact ⟨hwy.mono (by decide) (by decide), by omega⟩
    · obtain ⟨Dv, kv, zs, es', eE, allv, hlv, wfv⟩ := h
      have nEL5 : L5 ≠ E := ne_of_none eu hE
      have eL5v := kv _ _ eu nL5d nL5p
      have hzl := allv.len
      refine ⟨L5, E, _, _, rfl, rfl, eL5v, eE, by rw [len9]; exact Nat.le_of_lt (small1000 (by omega)), fun L6 Hw hL6 sw ew => ?_⟩
      have Dw := Dv.same sw
      refine ⟨.ref d, rfl, d, p, q, 560 * i + 250 + 300, [], rfl, Dw, by omega, Alive.nil, fun Hx xo od Dx kx hpo hwo => ⟨by show 1 ≤ sizeLine; decide, fun L7 Hy hL7 nL7 sy ey => ?_⟩⟩
      have nL6d : L6 ≠ d := Dv.ned hL6
      have nL6p : L6 ≠ p := Dv.nep hL6
      have ew2 := sy _ _ (kx _ _ ew nL6d nL6p)
      refine ⟨L6, L7, _, _, rfl, rfl, ew2, ey, by rw [List.length_append, len9]; exact Nat.le_of_lt (small1000 (by show 9 + zs.length + 1 ≤ 1000; omega)), fun L8 Hz hL8 sz' ez => ?_⟩
      have kux : Keep d p Hu Hx := kv.trans ((Same.keep sw).trans kx)
      have syz := sy.trans sz'
      have Dz := Dx.same syz
      have tabz := (tabu.keep Du kux).same syz
      have allz : RpAll Hz [d, p, sysModules] ((ds9 ++ es') ++ [od]) ((vs9 ++ zs) ++ [xo]) := by
        have g1 := (all9.keep Du kux (by simp) (by simp)).same syz
        have g2 := ((((allv.same sw).keep Dw kx (by simp) (by simp)).same syz)).less (ban' := [d, p, sysModules]) (fun x hx => by
          simp only [List.mem_cons, List.not_mem_nil, or_false] at hx ⊢
          rcases hx with h | h | h
          · exact .inl h
          · exact .inr (.inl h)
          · exact .inr (.inr (.inl h)))
        exact RpAll.app (es := [od]) (ys := [xo]) (g1.app g2) ⟨xo, [], rfl, hpo.same syz, rfl⟩
      have wfz : ∀ e ∈ (ds9 ++ es') ++ [od], Wf 17 6 e ∧ sz e ≤ 400 := by
        intro e he
        rcases List.mem_append.mp he with he | he
        · rcases List.mem_append.mp he with he | he
          · exact wf9 e he
          · exact wfv e he
        · rw [List.mem_singleton] at he
          subst he
          have : sz e ≤ 7 := hwo.sz
          exact ⟨hwo.mono (by decide) (by decide), by omega⟩
      refine ⟨.ref L8, rfl, L8, rfl, ⟨_, sqL ez⟩, for_list (K := K) (a := L8) (fun m σ Ha => (∃ y2 y4 y6 y7 y8 y9 ya yb, σ = [some (.ref a), some (.ref d), y2, some (.ref t), y4, some (.ref b), y6, y7, y8, y9, ya, yb]) ∧ Same Hz Ha) ⟨⟨_, _, _, _, _, _, _, _, rfl⟩, Same.refl _⟩ (fun m σ Ha _ h => h.2.seq (sqL ez)) (fun m x σ Ha hx h => ?_) (fun σ Ha h => ?_)⟩
      · obtain ⟨⟨y2, y4, y6, y7, y8, y9, ya, yb, rfl⟩, sA⟩ := h
        obtain ⟨e, he, hre⟩ := allz.get hx
        obtain ⟨hw, hz⟩ := wfz e (List.mem_of_getElem? he)
        obtain ⟨q1, q2, q3⟩ := hw.shownS (by decide)
        have q4 := shown_fits q1 hz (by decide)
        have rpA := hre.same sA
        refine ⟨x, rfl, x, e, _, rfl, by simp, rpA, q2, by omega, q4, ?_⟩
        refine ⟨x, rfl, x, e, _, 17, 6, rfl, rpA, hw, by decide, fun Hb b1 sB hb1 => ?_⟩
        refine ⟨x, rfl, x, e, _, 17, 6, rfl, rpA.same sB, hw, by decide, fun Hc b2 sC hb2 => ?_⟩
        have eb : b1 = b2 := by
          rw [Bool.eq_iff_iff, hb1, hb2]
        refine ⟨_, _, rfl, alk_bl (m := 6) eb, fun Hd sD => ⟨_, rfl, iteF ?_⟩⟩
        have sAD := sB.trans (sC.trans sD)
        refine ⟨x, rfl, x, e, _, rfl, by simp, rpA.same sAD, q2, by omega, q4, _, rfl, rfl, _, rfl, ?_⟩
        exact iteNS rfl ⟨⟨_, _, _, _, _, _, _, _, rfl⟩, sA.trans sAD⟩
      · obtain ⟨⟨y2, y4, y6, y7, y8, y9, ya, yb, rfl⟩, sA⟩ := h
        have tabA := tabz.same sA
        have bA := rdT_same (rdT_keep bu Du kux) (syz.trans sA)
        have hA := ((h3.same s3u).keep Du kux).same (syz.trans sA)
        have hlt : ts.length ≤ 100 := by omega
        refine ⟨.ref t, rfl, t, n, ts, rfl, tabA, hlt, fun Hb u us sB qu Ru => ?_⟩
        refine ⟨.ref b, rfl, b, rfl, ⟨_, .inl (rdT_same bA sB)⟩, fun G hG => lc_tup (K := K) (a := b) (xs := xs) (fun i Hc => Same Hb Hc ∧ ∃ zs, Hc G = some (.lst zs) ∧ Rts Hc zs ((ts.take i).map (·.1))) ⟨same_upd hG, [], upd_same, .nil⟩ (fun i Hc _ h => .inl (rdT_same bA (sB.trans h.1))) (fun i x Hc hx h => ?_) (fun Hc h => ?_)⟩
        · obtain ⟨sC, zs, eG, hR⟩ := h
          obtain ⟨tt, r, rk, w, rfl, hg, hr1, hr2⟩ := (hA.same (sB.trans sC)).get hx
          have hi : i < ts.length := (List.getElem?_eq_some_iff.mp hg).1
          have hzl := hR.len
          rw [List.length_map, List.length_take] at hzl
          refine ⟨rfl, .ref tt, rfl, tt, _, 0, .ref r, rfl, rfl, .inl hr1, atI_nat (j := 0) rfl, zs, eG, small1000 (by omega), same_upd2 sC hG, zs ++ [.ref r], upd_same, ?_⟩
          rw [List.take_add_one, hg, List.map_append]
          exact (hR.upd_lst eG).append (.cons (tp_updl hr2 eG) .nil)
        · obtain ⟨sC, zs, eG, hR⟩ := h
          rw [h3.len, List.take_length] at hR
          refine ⟨G, zs, rfl, sqL eG, fun v o hv ho => ?_⟩
          have sD : Same Hc (upd Hc v (.frz o (.tup zs))) := same_upd hv
          refine ⟨.ref u, .ref v, rfl, alk_rts (m := 4) (Ru.same (sC.trans sD)) (hR.same sD) (same_seqT (sC.trans sD) qu) (.inl (.inr ⟨o, upd_same⟩)) (by rw [List.length_map]; omega) (fun r hr => ?_), fun Hd sE => ⟨_, rfl, iteF ?_⟩⟩
          · obtain ⟨tt, ht, rfl⟩ := List.mem_map.mp hr
            rw [(wf.all tt ht).1.len]
            omega
          have sAd : Same Ha Hd := sB.trans (sC.trans (sD.trans sE))
          refine ⟨.ref t, rfl, t, n, ts, rfl, tabA.same sAd, hlt, fun He sF => ?_⟩
          refine ⟨.ref b, rfl, b, rfl, ⟨_, .inl (rdT_same bA (sAd.trans sF))⟩, fun G2 hG2 => lc_tup (K := K) (a := b) (xs := xs) (fun i Hf => Same He Hf ∧ Hf G2 = some (.lst (((ts.take i).map (·.2)).map V.int))) ⟨same_upd hG2, upd_same⟩ (fun i Hf _ h => .inl (rdT_same bA (sAd.trans (sF.trans h.1)))) (fun i x Hf hx h => ?_) (fun Hf h => ?_)⟩
          · obtain ⟨sG, eG2⟩ := h
            obtain ⟨tt, r, rk, w, rfl, hg, hr1, hr2⟩ := (hA.same (sAd.trans (sF.trans sG))).get hx
            have hi : i < ts.length := (List.getElem?_eq_some_iff.mp hg).1
            refine ⟨rfl, .ref tt, rfl, tt, _, 1, .int w, rfl, rfl, .inl hr1, atI_nat (j := 1) rfl, _, eG2, ?_, same_upd2 sG hG2, ?_⟩
            · rw [List.length_map, List.length_map, List.length_take]
              exact small1000 (by omega)
            · rw [upd_same, List.take_add_one, hg, List.map_append, List.map_append]
              rfl
          · obtain ⟨sG, eG2⟩ := h
            rw [h3.len, List.take_length] at eG2
            refine ⟨G2, _, rfl, sqL eG2, _, _, rfl, alk_int (m := 6) rfl, fun Hg sH => ⟨_, rfl, iteF ?_⟩⟩
            exact ⟨⟨_, _, _, _, _, _, _, _, _, _, rfl⟩, (Dz.same (sA.trans (sAd.trans (sF.trans (sG.trans sH))))).mono (by omega)⟩
end
end TR
namespace TR
open PySem PySem.Spec PyProof.Rows L2
theorem all_mk {l : PySem.W.OpenLaw} {w : World} {K : PySem.W.Frag} {h : Heap} {mg : Str → Option Value} {fa f0 f1 f2 f3 f4 f5 f6 f7 f8 f9 f10 f11 f12 f13 f14 f15 f16 f17 f18 f19 f20 f21 f22 f23 f24 f25 : Addr} (X : K.In h) (G : h.Ns mainGlobals mg) (hfa : mg "law" = some (.ref fa))
    {od0 an0 od1 an1 od2 an2 od3 an3 od4 an4 od5 an5 od6 an6 od7 an7 od8 an8 od9 an9 od10 an10 od11 an11 od12 an12 od13 an13 od14 an14 od15 an15 od16 an16 od17 an17 od18 an18 od19 an19 od20 an20 od21 an21 od22 an22 od23 an23 od24 an24 od25 an25 : Option Addr} {sl0 sl1 sl2 sl3 sl4 sl5 sl6 sl7 sl8 sl9 sl10 sl11 sl12 sl13 sl14 sl15 sl16 sl17 sl18 sl19 sl20 sl21 sl22 sl23 sl24 sl25 : Array (Option Value)} {oc0 kV0 dc0 pm0 cd0 ct0 oc1 kV1 dc1 pm1 cd1 ct1 oc2 kV2 dc2 pm2 cd2 ct2 oc3 kV3 dc3 pm3 cd3 ct3 oc4 kV4 dc4 pm4 cd4 ct4 oc5 kV5 dc5 pm5 cd5 ct5 oc6 kV6 dc6 pm6 cd6 ct6 oc7 kV7 dc7 pm7 cd7 ct7 oc8 kV8 dc8 pm8 cd8 ct8 oc9 kV9 dc9 pm9 cd9 ct9 oc10 kV10 dc10 pm10 cd10 ct10 oc11 kV11 dc11 pm11 cd11 ct11 oc12 kV12 dc12 pm12 cd12 ct12 oc13 kV13 dc13 pm13 cd13 ct13 oc14 kV14 dc14 pm14 cd14 ct14 oc15 kV15 dc15 pm15 cd15 ct15 oc16 kV16 dc16 pm16 cd16 ct16 oc17 kV17 dc17 pm17 cd17 ct17 oc18 kV18 dc18 pm18 cd18 ct18 oc19 kV19 dc19 pm19 cd19 ct19 oc20 kV20 dc20 pm20 cd20 ct20 oc21 kV21 dc21 pm21 cd21 ct21 oc22 kV22 dc22 pm22 cd22 ct22 oc23 kV23 dc23 pm23 cd23 ct23 oc24 kV24 dc24 pm24 cd24 ct24 oc25 kV25 dc25 pm25 cd25 ct25 : Value}
    (a0 : PySem.W.nsIn K mainGlobals "is_whole" = some (some (.ref f0))) (l0 : K.lookup f0 = some ⟨oc0, od0, .func (PySem.W.fnOf "is_whole" "is_whole" (defArgs sWhole) (defBody sWhole) (defScope sWhole) .none kV0 dc0 pm0 an0 cd0 ct0), sl0⟩) (c0 : PySem.W.codeIn K cd0 "is_whole" = true) (k0 : PySem.W.keepIn K (.ref f0) = true)
    (a1 : PySem.W.nsIn K mainGlobals "is_within" = some (some (.ref f1))) (l1 : K.lookup f1 = some ⟨oc1, od1, .func (PySem.W.fnOf "is_within" "is_within" (defArgs sWithin) (defBody sWithin) (defScope sWithin) .none kV1 dc1 pm1 an1 cd1 ct1), sl1⟩) (c1 : PySem.W.codeIn K cd1 "is_within" = true) (k1 : PySem.W.keepIn K (.ref f1) = true)
    (a2 : PySem.W.nsIn K mainGlobals "is_order" = some (some (.ref f2))) (l2 : K.lookup f2 = some ⟨oc2, od2, .func (PySem.W.fnOf "is_order" "is_order" (defArgs sIsOrder) (defBody sIsOrder) (defScope sIsOrder) .none kV2 dc2 pm2 an2 cd2 ct2), sl2⟩) (c2 : PySem.W.codeIn K cd2 "is_order" = true) (k2 : PySem.W.keepIn K (.ref f2) = true)
    (a3 : PySem.W.nsIn K mainGlobals "is_ranking" = some (some (.ref f3))) (l3 : K.lookup f3 = some ⟨oc3, od3, .func (PySem.W.fnOf "is_ranking" "is_ranking" (defArgs sIsRk) (defBody sIsRk) (defScope sIsRk) .none kV3 dc3 pm3 an3 cd3 ct3), sl3⟩) (c3 : PySem.W.codeIn K cd3 "is_ranking" = true) (k3 : PySem.W.keepIn K (.ref f3) = true)
    (a4 : PySem.W.nsIn K mainGlobals "is_weight" = some (some (.ref f4))) (l4 : K.lookup f4 = some ⟨oc4, od4, .func (PySem.W.fnOf "is_weight" "is_weight" (defArgs sIsWt) (defBody sIsWt) (defScope sIsWt) .none kV4 dc4 pm4 an4 cd4 ct4), sl4⟩) (c4 : PySem.W.codeIn K cd4 "is_weight" = true) (k4 : PySem.W.keepIn K (.ref f4) = true)
    (a5 : PySem.W.nsIn K mainGlobals "is_taster" = some (some (.ref f5))) (l5 : K.lookup f5 = some ⟨oc5, od5, .func (PySem.W.fnOf "is_taster" "is_taster" (defArgs sIsTas) (defBody sIsTas) (defScope sIsTas) .none kV5 dc5 pm5 an5 cd5 ct5), sl5⟩) (c5 : PySem.W.codeIn K cd5 "is_taster" = true) (k5 : PySem.W.keepIn K (.ref f5) = true)
    (a6 : PySem.W.nsIn K mainGlobals "is_table" = some (some (.ref f6))) (l6 : K.lookup f6 = some ⟨oc6, od6, .func (PySem.W.fnOf "is_table" "is_table" (defArgs sIsTab) (defBody sIsTab) (defScope sIsTab) .none kV6 dc6 pm6 an6 cd6 ct6), sl6⟩) (c6 : PySem.W.codeIn K cd6 "is_table" = true) (k6 : PySem.W.keepIn K (.ref f6) = true)
    (a7 : PySem.W.nsIn K mainGlobals "rankings_of" = some (some (.ref f7))) (l7 : K.lookup f7 = some ⟨oc7, od7, .func (PySem.W.fnOf "rankings_of" "rankings_of" (defArgs sRkOf) (defBody sRkOf) (defScope sRkOf) .none kV7 dc7 pm7 an7 cd7 ct7), sl7⟩) (c7 : PySem.W.codeIn K cd7 "rankings_of" = true) (k7 : PySem.W.keepIn K (.ref f7) = true)
    (a8 : PySem.W.nsIn K mainGlobals "total_weight" = some (some (.ref f8))) (l8 : K.lookup f8 = some ⟨oc8, od8, .func (PySem.W.fnOf "total_weight" "total_weight" (defArgs sTotal) (defBody sTotal) (defScope sTotal) .none kV8 dc8 pm8 an8 cd8 ct8), sl8⟩) (c8 : PySem.W.codeIn K cd8 "total_weight" = true) (k8 : PySem.W.keepIn K (.ref f8) = true)
    (a9 : PySem.W.nsIn K mainGlobals "_law_deck" = some (some (.ref f9))) (l9 : K.lookup f9 = some ⟨oc9, od9, .func (PySem.W.fnOf "_law_deck" "_law_deck" (defArgs sDeck) (defBody sDeck) (defScope sDeck) .none kV9 dc9 pm9 an9 cd9 ct9), sl9⟩) (c9 : PySem.W.codeIn K cd9 "_law_deck" = true) (k9 : PySem.W.keepIn K (.ref f9) = true)
    (a10 : PySem.W.nsIn K mainGlobals "_law_next" = some (some (.ref f10))) (l10 : K.lookup f10 = some ⟨oc10, od10, .func (PySem.W.fnOf "_law_next" "_law_next" (defArgs sNext) (defBody sNext) (defScope sNext) .none kV10 dc10 pm10 an10 cd10 ct10), sl10⟩) (c10 : PySem.W.codeIn K cd10 "_law_next" = true) (k10 : PySem.W.keepIn K (.ref f10) = true)
    (a11 : PySem.W.nsIn K mainGlobals "_law_one" = some (some (.ref f11))) (l11 : K.lookup f11 = some ⟨oc11, od11, .func (PySem.W.fnOf "_law_one" "_law_one" (defArgs sOne) (defBody sOne) (defScope sOne) .none kV11 dc11 pm11 an11 cd11 ct11), sl11⟩) (c11 : PySem.W.codeIn K cd11 "_law_one" = true) (k11 : PySem.W.keepIn K (.ref f11) = true)
    (a12 : PySem.W.nsIn K mainGlobals "_law_same" = some (some (.ref f12))) (l12 : K.lookup f12 = some ⟨oc12, od12, .func (PySem.W.fnOf "_law_same" "_law_same" (defArgs sSame) (defBody sSame) (defScope sSame) .none kV12 dc12 pm12 an12 cd12 ct12), sl12⟩) (c12 : PySem.W.codeIn K cd12 "_law_same" = true) (k12 : PySem.W.keepIn K (.ref f12) = true)
    (a13 : PySem.W.nsIn K mainGlobals "_law_whole" = some (some (.ref f13))) (l13 : K.lookup f13 = some ⟨oc13, od13, .func (PySem.W.fnOf "_law_whole" "_law_whole" (defArgs sLWhole) (defBody sLWhole) (defScope sLWhole) .none kV13 dc13 pm13 an13 cd13 ct13), sl13⟩) (c13 : PySem.W.codeIn K cd13 "_law_whole" = true) (k13 : PySem.W.keepIn K (.ref f13) = true)
    (a14 : PySem.W.nsIn K mainGlobals "_law_odd" = some (some (.ref f14))) (l14 : K.lookup f14 = some ⟨oc14, od14, .func (PySem.W.fnOf "_law_odd" "_law_odd" (defArgs sOdd) (defBody sOdd) (defScope sOdd) .none kV14 dc14 pm14 an14 cd14 ct14), sl14⟩) (c14 : PySem.W.codeIn K cd14 "_law_odd" = true) (k14 : PySem.W.keepIn K (.ref f14) = true)
    (a15 : PySem.W.nsIn K mainGlobals "_law_bent" = some (some (.ref f15))) (l15 : K.lookup f15 = some ⟨oc15, od15, .func (PySem.W.fnOf "_law_bent" "_law_bent" (defArgs sBent) (defBody sBent) (defScope sBent) .none kV15 dc15 pm15 an15 cd15 ct15), sl15⟩) (c15 : PySem.W.codeIn K cd15 "_law_bent" = true) (k15 : PySem.W.keepIn K (.ref f15) = true)
    (a16 : PySem.W.nsIn K mainGlobals "_law_people" = some (some (.ref f16))) (l16 : K.lookup f16 = some ⟨oc16, od16, .func (PySem.W.fnOf "_law_people" "_law_people" (defArgs sPeople) (defBody sPeople) (defScope sPeople) .none kV16 dc16 pm16 an16 cd16 ct16), sl16⟩) (c16 : PySem.W.codeIn K cd16 "_law_people" = true) (k16 : PySem.W.keepIn K (.ref f16) = true)
    (a17 : PySem.W.nsIn K mainGlobals "_law_list" = some (some (.ref f17))) (l17 : K.lookup f17 = some ⟨oc17, od17, .func (PySem.W.fnOf "_law_list" "_law_list" (defArgs sList) (defBody sList) (defScope sList) .none kV17 dc17 pm17 an17 cd17 ct17), sl17⟩) (c17 : PySem.W.codeIn K cd17 "_law_list" = true) (k17 : PySem.W.keepIn K (.ref f17) = true)
    (a18 : PySem.W.nsIn K mainGlobals "_law_exchanged" = some (some (.ref f18))) (l18 : K.lookup f18 = some ⟨oc18, od18, .func (PySem.W.fnOf "_law_exchanged" "_law_exchanged" (defArgs sExch) (defBody sExch) (defScope sExch) .none kV18 dc18 pm18 an18 cd18 ct18), sl18⟩) (c18 : PySem.W.codeIn K cd18 "_law_exchanged" = true) (k18 : PySem.W.keepIn K (.ref f18) = true)
    (a19 : PySem.W.nsIn K mainGlobals "_law_road" = some (some (.ref f19))) (l19 : K.lookup f19 = some ⟨oc19, od19, .func (PySem.W.fnOf "_law_road" "_law_road" (defArgs sRoad) (defBody sRoad) (defScope sRoad) .none kV19 dc19 pm19 an19 cd19 ct19), sl19⟩) (c19 : PySem.W.codeIn K cd19 "_law_road" = true) (k19 : PySem.W.keepIn K (.ref f19) = true)
    (a20 : PySem.W.nsIn K mainGlobals "_law_seated" = some (some (.ref f20))) (l20 : K.lookup f20 = some ⟨oc20, od20, .func (PySem.W.fnOf "_law_seated" "_law_seated" (defArgs sSeated) (defBody sSeated) (defScope sSeated) .none kV20 dc20 pm20 an20 cd20 ct20), sl20⟩) (c20 : PySem.W.codeIn K cd20 "_law_seated" = true) (k20 : PySem.W.keepIn K (.ref f20) = true)
    (a21 : PySem.W.nsIn K mainGlobals "_law_any" = some (some (.ref f21))) (l21 : K.lookup f21 = some ⟨oc21, od21, .func (PySem.W.fnOf "_law_any" "_law_any" (defArgs sAny) (defBody sAny) (defScope sAny) .none kV21 dc21 pm21 an21 cd21 ct21), sl21⟩) (c21 : PySem.W.codeIn K cd21 "_law_any" = true) (k21 : PySem.W.keepIn K (.ref f21) = true)
    (a22 : PySem.W.nsIn K mainGlobals "_law_table" = some (some (.ref f22))) (l22 : K.lookup f22 = some ⟨oc22, od22, .func (PySem.W.fnOf "_law_table" "_law_table" (defArgs sTable) (defBody sTable) (defScope sTable) .none kV22 dc22 pm22 an22 cd22 ct22), sl22⟩) (c22 : PySem.W.codeIn K cd22 "_law_table" = true) (k22 : PySem.W.keepIn K (.ref f22) = true)
    (a23 : PySem.W.nsIn K mainGlobals "_law_is_list" = some (some (.ref f23))) (l23 : K.lookup f23 = some ⟨oc23, od23, .func (PySem.W.fnOf "_law_is_list" "_law_is_list" (defArgs sIsList) (defBody sIsList) (defScope sIsList) .none kV23 dc23 pm23 an23 cd23 ct23), sl23⟩) (c23 : PySem.W.codeIn K cd23 "_law_is_list" = true) (k23 : PySem.W.keepIn K (.ref f23) = true)
    (a24 : PySem.W.nsIn K mainGlobals "_law_is_table" = some (some (.ref f24))) (l24 : K.lookup f24 = some ⟨oc24, od24, .func (PySem.W.fnOf "_law_is_table" "_law_is_table" (defArgs sLIsTab) (defBody sLIsTab) (defScope sLIsTab) .none kV24 dc24 pm24 an24 cd24 ct24), sl24⟩) (c24 : PySem.W.codeIn K cd24 "_law_is_table" = true) (k24 : PySem.W.keepIn K (.ref f24) = true)
    (a25 : PySem.W.nsIn K mainGlobals "law" = some (some (.ref f25))) (l25 : K.lookup f25 = some ⟨oc25, od25, .func (PySem.W.fnOf "law" "law" (defArgs sLaw) (defBody sLaw) (defScope sLaw) .none kV25 dc25 pm25 an25 cd25 ct25), sl25⟩) (c25 : PySem.W.codeIn K cd25 "law" = true) (k25 : PySem.W.keepIn K (.ref f25) = true)
    {tc0 : Tok} (zc0 : PySem.W.nsIn K mainGlobals "MAX_DISHES" = some (some (.int 8 tc0)))
    {tc1 : Tok} (zc1 : PySem.W.nsIn K mainGlobals "MAX_TASTERS" = some (some (.int 16 tc1)))
    {tc2 : Tok} (zc2 : PySem.W.nsIn K mainGlobals "MAX_WEIGHT" = some (some (.int 1000000000000 tc2)))
    (z0 : PySem.W.nsIn K mainGlobals "abs" = some none) (z1 : PySem.W.nsIn K mainGlobals "len" = some none) (z2 : PySem.W.nsIn K mainGlobals "range" = some none) (z3 : PySem.W.nsIn K mainGlobals "list" = some none) (z4 : PySem.W.nsIn K mainGlobals "tuple" = some none) (z5 : PySem.W.nsIn K mainGlobals "int" = some none) (z6 : PySem.W.nsIn K mainGlobals "isinstance" = some none) (z7 : PySem.W.nsIn K mainGlobals "dict" = some none) (z8 : PySem.W.nsIn K mainGlobals "str" = some none) (z9 : PySem.W.nsIn K mainGlobals "bool" = some none) (z10 : PySem.W.nsIn K mainGlobals "all" = some none) (z11 : PySem.W.nsIn K mainGlobals "sorted" = some none) (z12 : PySem.W.nsIn K mainGlobals "repr" = some none) (z13 : PySem.W.nsIn K mainGlobals "sum" = some none) (z14 : PySem.W.nsIn K mainGlobals "min" = some none) (z15 : PySem.W.nsIn K mainGlobals "enumerate" = some none) (z16 : PySem.W.nsIn K mainGlobals "set" = some none) :
    ∃ fd : FuncData, (∀ (s : Shared) (v : Value), BindsTo s fd ⟨[v], []⟩ [("_law_script", v)]) ∧ ∀ base : Heap, K.In base → base.Ns mainGlobals mg → RunG l.prog w K mg base 8 fa fd ["_law_script"] (spLaw K) := by
  have e := hfa.symm.trans (PySem.W.mg_of X G a25)
  cases e
  have F0 := fun_mk (st := sWhole) l0 c0 k0
  have F1 := fun_mk (st := sWithin) l1 c1 k1
  have F2 := fun_mk (st := sIsOrder) l2 c2 k2
  have F3 := fun_mk (st := sIsRk) l3 c3 k3
  have F4 := fun_mk (st := sIsWt) l4 c4 k4
  have F5 := fun_mk (st := sIsTas) l5 c5 k5
  have F6 := fun_mk (st := sIsTab) l6 c6 k6
  have F7 := fun_mk (st := sRkOf) l7 c7 k7
  have F8 := fun_mk (st := sTotal) l8 c8 k8
  have F9 := fun_mk (st := sDeck) l9 c9 k9
  have F10 := fun_mk (st := sNext) l10 c10 k10
  have F11 := fun_mk (st := sOne) l11 c11 k11
  have F12 := fun_mk (st := sSame) l12 c12 k12
  have F13 := fun_mk (st := sLWhole) l13 c13 k13
  have F14 := fun_mk (st := sOdd) l14 c14 k14
  have F15 := fun_mk (st := sBent) l15 c15 k15
  have F16 := fun_mk (st := sPeople) l16 c16 k16
  have F17 := fun_mk (st := sList) l17 c17 k17
  have F18 := fun_mk (st := sExch) l18 c18 k18
  have F19 := fun_mk (st := sRoad) l19 c19 k19
  have F20 := fun_mk (st := sSeated) l20 c20 k20
  have F21 := fun_mk (st := sAny) l21 c21 k21
  have F22 := fun_mk (st := sTable) l22 c22 k22
  have F23 := fun_mk (st := sIsList) l23 c23 k23
  have F24 := fun_mk (st := sLIsTab) l24 c24 k24
  have F25 := fun_mk (st := sLaw) l25 c25 k25
  have b0 := F0.binds (ps := ["value"]) fun _ _ _ _ _ _ us hl => match us, hl with | [_], _ => rfl
  have b1 := F1.binds (ps := ["value", "low", "high"]) fun _ _ _ _ _ _ us hl => match us, hl with | [_, _, _], _ => rfl
  have b2 := F2.binds (ps := ["size", "value"]) fun _ _ _ _ _ _ us hl => match us, hl with | [_, _], _ => rfl
  have b3 := F3.binds (ps := ["dishes", "value"]) fun _ _ _ _ _ _ us hl => match us, hl with | [_, _], _ => rfl
  have b4 := F4.binds (ps := ["value"]) fun _ _ _ _ _ _ us hl => match us, hl with | [_], _ => rfl
  have b5 := F5.binds (ps := ["dishes", "value"]) fun _ _ _ _ _ _ us hl => match us, hl with | [_, _], _ => rfl
  have b6 := F6.binds (ps := ["value"]) fun _ _ _ _ _ _ us hl => match us, hl with | [_], _ => rfl
  have b7 := F7.binds (ps := ["table"]) fun _ _ _ _ _ _ us hl => match us, hl with | [_], _ => rfl
  have b8 := F8.binds (ps := ["table"]) fun _ _ _ _ _ _ us hl => match us, hl with | [_], _ => rfl
  have b9 := F9.binds (ps := ["_law_script"]) fun _ _ _ _ _ _ us hl => match us, hl with | [_], _ => rfl
  have b10 := F10.binds (ps := ["_law_deck_here", "_law_many"]) fun _ _ _ _ _ _ us hl => match us, hl with | [_, _], _ => rfl
  have b11 := F11.binds (ps := ["_law_deck_here", "_law_some"]) fun _ _ _ _ _ _ us hl => match us, hl with | [_, _], _ => rfl
  have b12 := F12.binds (ps := ["_law_found", "_law_due"]) fun _ _ _ _ _ _ us hl => match us, hl with | [_, _], _ => rfl
  have b13 := F13.binds (ps := ["_law_thing"]) fun _ _ _ _ _ _ us hl => match us, hl with | [_], _ => rfl
  have b14 := F14.binds (ps := ["_law_deck_here"]) fun _ _ _ _ _ _ us hl => match us, hl with | [_], _ => rfl
  have b15 := F15.binds (ps := ["_law_deck_here", "_law_thing", "_law_deep"]) fun _ _ _ _ _ _ us hl => match us, hl with | [_, _, _], _ => rfl
  have b16 := F16.binds (ps := ["_law_deck_here"]) fun _ _ _ _ _ _ us hl => match us, hl with | [_], _ => rfl
  have b17 := F17.binds (ps := ["_law_deck_here", "_law_dishes"]) fun _ _ _ _ _ _ us hl => match us, hl with | [_, _], _ => rfl
  have b18 := F18.binds (ps := ["_law_row", "_law_k"]) fun _ _ _ _ _ _ us hl => match us, hl with | [_, _], _ => rfl
  have b19 := F19.binds (ps := ["_law_deck_here", "_law_dishes", "_law_steps"]) fun _ _ _ _ _ _ us hl => match us, hl with | [_, _, _], _ => rfl
  have b20 := F20.binds (ps := ["_law_deck_here", "_law_dishes", "_law_many"]) fun _ _ _ _ _ _ us hl => match us, hl with | [_, _, _], _ => rfl
  have b21 := F21.binds (ps := ["_law_deck_here", "_law_dishes", "_law_many"]) fun _ _ _ _ _ _ us hl => match us, hl with | [_, _, _], _ => rfl
  have b22 := F22.binds (ps := ["_law_deck_here", "_law_dishes", "_law_many"]) fun _ _ _ _ _ _ us hl => match us, hl with | [_, _, _], _ => rfl
  have b23 := F23.binds (ps := ["_law_dishes", "_law_thing"]) fun _ _ _ _ _ _ us hl => match us, hl with | [_, _], _ => rfl
  have b24 := F24.binds (ps := ["_law_thing"]) fun _ _ _ _ _ _ us hl => match us, hl with | [_], _ => rfl
  have g0 := PySem.W.mg_of X G a0
  have g1 := PySem.W.mg_of X G a1
  have g2 := PySem.W.mg_of X G a2
  have g3 := PySem.W.mg_of X G a3
  have g4 := PySem.W.mg_of X G a4
  have g5 := PySem.W.mg_of X G a5
  have g6 := PySem.W.mg_of X G a6
  have g7 := PySem.W.mg_of X G a7
  have g8 := PySem.W.mg_of X G a8
  have g9 := PySem.W.mg_of X G a9
  have g10 := PySem.W.mg_of X G a10
  have g11 := PySem.W.mg_of X G a11
  have g12 := PySem.W.mg_of X G a12
  have g13 := PySem.W.mg_of X G a13
  have g14 := PySem.W.mg_of X G a14
  have g15 := PySem.W.mg_of X G a15
  have g16 := PySem.W.mg_of X G a16
  have g17 := PySem.W.mg_of X G a17
  have g18 := PySem.W.mg_of X G a18
  have g19 := PySem.W.mg_of X G a19
  have g20 := PySem.W.mg_of X G a20
  have g21 := PySem.W.mg_of X G a21
  have g22 := PySem.W.mg_of X G a22
  have g23 := PySem.W.mg_of X G a23
  have g24 := PySem.W.mg_of X G a24
  have g25 := PySem.W.mg_of X G a25
  have m_abs := PySem.W.mg_none_of X G z0
  have m_len := PySem.W.mg_none_of X G z1
  have m_range := PySem.W.mg_none_of X G z2
  have m_list := PySem.W.mg_none_of X G z3
  have m_tuple := PySem.W.mg_none_of X G z4
  have m_int := PySem.W.mg_none_of X G z5
  have m_isinstance := PySem.W.mg_none_of X G z6
  have m_dict := PySem.W.mg_none_of X G z7
  have m_str := PySem.W.mg_none_of X G z8
  have m_bool := PySem.W.mg_none_of X G z9
  have m_all := PySem.W.mg_none_of X G z10
  have m_sorted := PySem.W.mg_none_of X G z11
  have m_repr := PySem.W.mg_none_of X G z12
  have m_sum := PySem.W.mg_none_of X G z13
  have m_min := PySem.W.mg_none_of X G z14
  have m_enumerate := PySem.W.mg_none_of X G z15
  have m_set := PySem.W.mg_none_of X G z16
  refine ⟨PySem.W.fnOf "law" "law" (defArgs sLaw) (defBody sLaw) (defScope sLaw) .none kV25 dc25 pm25 an25 cd25 ct25, fun s v => .of_eq rfl, fun base _ _ => ?_⟩
  have GG__law_deck_7 : FnOk l.prog w K mg base CX0 7 f9 _ _ (spDeck K) := ok_deck F9 m_abs m_len
  have GG__law_next_6 : FnOk l.prog w K mg base CX0 6 f10 _ _ spNext := ok_next F10 m_len
  have GG__law_next_3 : FnOk l.prog w K mg base CX0 3 f10 _ _ spNext := ok_next F10 m_len
  have GG__law_list_4 : FnOk l.prog w K mg base CX0 4 f17 _ _ spList := ok_list F17 F10 b10 g10 GG__law_next_3 m_range m_list m_len m_tuple
  have GG__law_one_4 : FnOk l.prog w K mg base CX0 4 f11 _ _ spOne := ok_one F11 k10 b10 g10 GG__law_next_3 m_len
  have GG__law_exchanged_4 : FnOk l.prog w K mg base CX0 4 f18 _ _ spExch := ok_exch F18
  have GG__law_road_5 : FnOk l.prog w K mg base CX0 5 f19 _ _ spRoad := ok_road F19 k17 b17 g17 GG__law_list_4 k11 b11 g11 GG__law_one_4 k18 b18 g18 GG__law_exchanged_4 m_range m_tuple m_sorted
  have GG__law_next_5 : FnOk l.prog w K mg base CX0 5 f10 _ _ spNext := ok_next F10 m_len
  have GG__law_next_4 : FnOk l.prog w K mg base CX0 4 f10 _ _ spNext := ok_next F10 m_len
  have GG__law_people_5 : FnOk l.prog w K mg base CX0 5 f16 _ _ spPeople := ok_People F16 k10 b10 g10 GG__law_next_4
  have GG__law_one_5 : FnOk l.prog w K mg base CX0 5 f11 _ _ spOne := ok_one F11 k10 b10 g10 GG__law_next_4 m_len
  have GG__law_seated_6 : FnOk l.prog w K mg base CX0 6 f20 _ _ spSeated := ok_Seated F20 k19 b19 g19 GG__law_road_5 k10 b10 g10 GG__law_next_5 k16 b16 g16 GG__law_people_5 k11 b11 g11 GG__law_one_5 m_tuple m_range
  have GG__law_list_5 : FnOk l.prog w K mg base CX0 5 f17 _ _ spList := ok_list F17 F10 b10 g10 GG__law_next_4 m_range m_list m_len m_tuple
  have GG__law_exchanged_5 : FnOk l.prog w K mg base CX0 5 f18 _ _ spExch := ok_exch F18
  have GG__law_any_6 : FnOk l.prog w K mg base CX0 6 f21 _ _ spSeated := ok_Any F21 k17 b17 g17 GG__law_list_5 k10 b10 g10 GG__law_next_5 k11 b11 g11 GG__law_one_5 k18 b18 g18 GG__law_exchanged_5 k16 b16 g16 GG__law_people_5 m_len m_tuple
  have GG__law_table_7 : FnOk l.prog w K mg base CX0 7 f22 _ _ spTable := ok_Table F22 k10 b10 g10 GG__law_next_6 k20 b20 g20 GG__law_seated_6 k21 b21 g21 GG__law_any_6
  have GG__law_bent_7 : FnOk l.prog w K mg base CX0 7 f15 _ _ (spBent 5) := ok_bent F15 b15 g15 k10 b10 g10 (fun k => ok_next F10 m_len) k14 b14 g14 (fun k => ok_odd F14 k10 b10 g10 (ok_next F10 m_len)) m_isinstance m_tuple m_len m_list m_int m_str 5
  have GG__law_odd_7 : FnOk l.prog w K mg base CX0 7 f14 _ _ spOdd := ok_odd F14 k10 b10 g10 GG__law_next_6
  have GG__law_same_7 : FnOk l.prog w K mg base CX0 7 f12 _ _ (spSame K 7) := ok_same F12 b12 g12 m_isinstance m_tuple m_list m_len m_range m_dict m_str m_int m_bool 7
  have GG__law_whole_6 : FnOk l.prog w K mg base CX0 6 f13 _ _ spWhole := ok_lwhole F13 m_isinstance m_int m_bool
  have GG__law_whole_5 : FnOk l.prog w K mg base CX0 5 f13 _ _ spWhole := ok_lwhole F13 m_isinstance m_int m_bool
  have GG__law_is_list_6 : FnOk l.prog w K mg base CX0 6 f23 _ _ spIsRk := ok_islist F23 k13 b13 g13 GG__law_whole_5 m_isinstance m_tuple m_len m_sorted m_list m_range
  have GG__law_is_table_7 : FnOk l.prog w K mg base CX0 7 f24 _ _ spIsTab := ok_LIsTab F24 k13 b13 g13 GG__law_whole_6 k23 b23 g23 GG__law_is_list_6 m_len m_isinstance m_tuple
  have GG_is_whole_5 : FnOk l.prog w K mg base CX0 5 f0 _ _ spWhole := ok_whole F0 m_isinstance m_int m_bool
  have GG_is_within_6 : FnOk l.prog w K mg base CX0 6 f1 _ _ spWithin := ok_within F1 k0 b0 g0 GG_is_whole_5
  have GG_is_whole_3 : FnOk l.prog w K mg base CX0 3 f0 _ _ spWhole := ok_whole F0 m_isinstance m_int m_bool
  have GG_is_within_4 : FnOk l.prog w K mg base CX0 4 f1 _ _ spWithin := ok_within F1 k0 b0 g0 GG_is_whole_3
  have GG_is_weight_5 : FnOk l.prog w K mg base CX0 5 f4 _ _ spIsWt := ok_IsWt F4 k1 b1 g1 GG_is_within_4 (PySem.W.mg_of X G zc2)
  have GG_is_order_4 : FnOk l.prog w K mg base CX0 4 f2 _ _ spIsOrd := ok_IsOrder F2 k0 b0 g0 GG_is_whole_3 m_all m_isinstance m_tuple m_sorted m_list m_range
  have GG_is_ranking_5 : FnOk l.prog w K mg base CX0 5 f3 _ _ spIsRk := ok_IsRk F3 k2 b2 g2 GG_is_order_4 (PySem.W.mg_of X G zc0)
  have GG_is_taster_6 : FnOk l.prog w K mg base CX0 6 f5 _ _ spIsTas := ok_IsTas F5 k4 b4 g4 GG_is_weight_5 k3 b3 g3 GG_is_ranking_5 m_len m_isinstance m_tuple
  have GG_is_table_7 : FnOk l.prog w K mg base CX0 7 f6 _ _ spIsTab := ok_IsTab F6 k1 b1 g1 GG_is_within_6 k5 b5 g5 GG_is_taster_6 m_len m_isinstance m_tuple m_all (PySem.W.mg_of X G zc0) (PySem.W.mg_of X G zc1)
  have GG_rankings_of_7 : FnOk l.prog w K mg base CX0 7 f7 _ _ (spRkOf K) := ok_RkOf F7 m_tuple
  have GG_total_weight_7 : FnOk l.prog w K mg base CX0 7 f8 _ _ spTotal := ok_Total F8 m_sum
  exact ok_Law F25 k9 b9 g9 GG__law_deck_7 k22 b22 g22 GG__law_table_7 k15 b15 g15 GG__law_bent_7 k14 b14 g14 GG__law_odd_7 k12 b12 g12 GG__law_same_7 k24 b24 g24 GG__law_is_table_7 k6 b6 g6 GG_is_table_7 k7 b7 g7 GG_rankings_of_7 k8 b8 g8 GG_total_weight_7 m_range m_tuple m_list m_repr m_sum

end TR
open PySem PySem.W PyProof.Rows
set_option maxHeartbeats 0 in
theorem PySem.Challenge.cw_tasterow_k07_tables_or_not_holds : PySem.Challenge.rw_tasterow_k07_tables_or_not.Holds := by
  w_on; o_law; k_head; (case hw => w_witness2)
  k_fill
  refine TR.walk_ofG (l := PySem.Challenge.rw_tasterow_k07_tables_or_not) (n := 63) (k := 8) (x := "_law_script") (sp := fun w => TR.spLaw _) rfl (by decide) rfl ⟨rfl, by decide, by decide⟩ (fun w h Y => PySem.W.kIn_of Y) ?F (fun _ _ a ns hl _ hS => ⟨a, ns, rfl, hS, hl, fun _ => rfl⟩)
  case F =>
    intro w mg fa h KX G hmg
    refine' TR.all_mk KX G hmg ?a0 ?l0 ?c0 ?k0 ?a1 ?l1 ?c1 ?k1 ?a2 ?l2 ?c2 ?k2 ?a3 ?l3 ?c3 ?k3 ?a4 ?l4 ?c4 ?k4 ?a5 ?l5 ?c5 ?k5 ?a6 ?l6 ?c6 ?k6 ?a7 ?l7 ?c7 ?k7 ?a8 ?l8 ?c8 ?k8 ?a9 ?l9 ?c9 ?k9 ?a10 ?l10 ?c10 ?k10 ?a11 ?l11 ?c11 ?k11 ?a12 ?l12 ?c12 ?k12 ?a13 ?l13 ?c13 ?k13 ?a14 ?l14 ?c14 ?k14 ?a15 ?l15 ?c15 ?k15 ?a16 ?l16 ?c16 ?k16 ?a17 ?l17 ?c17 ?k17 ?a18 ?l18 ?c18 ?k18 ?a19 ?l19 ?c19 ?k19 ?a20 ?l20 ?c20 ?k20 ?a21 ?l21 ?c21 ?k21 ?a22 ?l22 ?c22 ?k22 ?a23 ?l23 ?c23 ?k23 ?a24 ?l24 ?c24 ?k24 ?a25 ?l25 ?c25 ?k25 ?zc0 ?zc1 ?zc2 ?z0 ?z1 ?z2 ?z3 ?z4 ?z5 ?z6 ?z7 ?z8 ?z9 ?z10 ?z11 ?z12 ?z13 ?z14 ?z15 ?z16
    (case a0 => k_is); (case l0 => k_is); (case c0 => k_is); (case k0 => k_is); (case a1 => k_is); (case l1 => k_is); (case c1 => k_is); (case k1 => k_is); (case a2 => k_is); (case l2 => k_is); (case c2 => k_is); (case k2 => k_is); (case a3 => k_is); (case l3 => k_is); (case c3 => k_is); (case k3 => k_is); (case a4 => k_is); (case l4 => k_is); (case c4 => k_is); (case k4 => k_is); (case a5 => k_is); (case l5 => k_is); (case c5 => k_is); (case k5 => k_is); (case a6 => k_is); (case l6 => k_is); (case c6 => k_is); (case k6 => k_is); (case a7 => k_is); (case l7 => k_is); (case c7 => k_is); (case k7 => k_is); (case a8 => k_is); (case l8 => k_is); (case c8 => k_is); (case k8 => k_is); (case a9 => k_is); (case l9 => k_is); (case c9 => k_is); (case k9 => k_is); (case a10 => k_is); (case l10 => k_is); (case c10 => k_is); (case k10 => k_is); (case a11 => k_is); (case l11 => k_is); (case c11 => k_is); (case k11 => k_is); (case a12 => k_is); (case l12 => k_is); (case c12 => k_is); (case k12 => k_is); (case a13 => k_is); (case l13 => k_is); (case c13 => k_is); (case k13 => k_is); (case a14 => k_is); (case l14 => k_is); (case c14 => k_is); (case k14 => k_is); (case a15 => k_is); (case l15 => k_is); (case c15 => k_is); (case k15 => k_is); (case a16 => k_is); (case l16 => k_is); (case c16 => k_is); (case k16 => k_is); (case a17 => k_is); (case l17 => k_is); (case c17 => k_is); (case k17 => k_is); (case a18 => k_is); (case l18 => k_is); (case c18 => k_is); (case k18 => k_is); (case a19 => k_is); (case l19 => k_is); (case c19 => k_is); (case k19 => k_is); (case a20 => k_is); (case l20 => k_is); (case c20 => k_is); (case k20 => k_is); (case a21 => k_is); (case l21 => k_is); (case c21 => k_is); (case k21 => k_is); (case a22 => k_is); (case l22 => k_is); (case c22 => k_is); (case k22 => k_is); (case a23 => k_is); (case l23 => k_is); (case c23 => k_is); (case k23 => k_is); (case a24 => k_is); (case l24 => k_is); (case c24 => k_is); (case k24 => k_is); (case a25 => k_is); (case l25 => k_is); (case c25 => k_is); (case k25 => k_is); (case zc0 => k_is); (case zc1 => k_is); (case zc2 => k_is); (case z0 => k_is); (case z1 => k_is); (case z2 => k_is); (case z3 => k_is); (case z4 => k_is); (case z5 => k_is); (case z6 => k_is); (case z7 => k_is); (case z8 => k_is); (case z9 => k_is); (case z10 => k_is); (case z11 => k_is); (case z12 => k_is); (case z13 => k_is); (case z14 => k_is); (case z15 => k_is); (case z16 => k_is)
