import PyProof.Rows.All
import Wide.All
import OpenK.AllK
import Wide.FinOn
import PySem.Challenge.RW_tasterow_k58_lines_and_rankings
import HandS.ForMost
import HandS.Conv
import HandS.Strs
import HandS.TupAny
import HandS.Style
import HandS.IsInst
import HandS.EndBits
import HandS.Walk
import HandS.SortInts
import HandS.SortOrd
import HandS.Deep
import HandS.Wide
import HandS.ForExc
import HandS.ExcIs
import HandS.ExcValue
import HandS.HotCalls
import HandS.NoneIn
import HandS.SetFor
import HandS.TupMul
import HandS.NamedTupSort
import KE.GoesEnum
import KE.KExcIs
import KE.RegKIsAll
import KE.DataMinMax
import KE.SortData
import PyProof.Claim2Refuses
set_option Elab.async false
set_option linter.all false
set_option maxRecDepth 100000
namespace TR
open PySem PySem.Spec PyProof.Rows L2
/-! ### heaps -/
theorem same_upd {H : Hp} {p : Addr} {o : HO} (h : H p = none) : Same H (upd H p o) := fun b x e => by
  rw [upd_ne (ne_of_none e h)]
  exact e
theorem same_upd2 {H H1 : Hp} {p : Addr} {o : HO} (s : Same H H1) (h : H p = none) : Same H (upd H1 p o) := fun b x e => by
  rw [upd_ne (ne_of_none e h)]
  exact s b x e
theorem same_seqT {K : PySem.W.Frag} {H H' : Hp} {a : Addr} {xs : List V} (e : Same H H') (h : SqT K H a xs) : SqT K H' a xs := by
  rcases h with (h | ⟨o, h⟩) | h
  · exact .inl (.inl (e _ _ h))
  · exact .inl (.inr ⟨o, e _ _ h⟩)
  · exact .inr h
theorem sqL {K : PySem.W.Frag} {H : Hp} {a : Addr} {xs : List V} (h : H a = some (.lst xs)) : SqL K H a xs := .inl (.inl h)
theorem sqT {K : PySem.W.Frag} {H : Hp} {a : Addr} {xs : List V} (h : H a = some (.tup xs)) : SqT K H a xs := .inl (.inl h)
/-- all but the deck's two changing lists is as it was -/
def Keep (d p : Addr) (H H' : Hp) : Prop := ∀ b o, H b = some o → b ≠ d → b ≠ p → H' b = some o
theorem Keep.refl (d p : Addr) (H : Hp) : Keep d p H H := fun _ _ h _ _ => h
theorem Keep.trans {d p : Addr} {H H1 H2 : Hp} (a : Keep d p H H1) (b : Keep d p H1 H2) : Keep d p H H2 := fun c o h n m => b c o (a c o h n m) n m
theorem Same.keep {d p : Addr} {H H1 : Hp} (a : Same H H1) : Keep d p H H1 := fun c o h _ _ => a c o h
theorem keep_upd {d p x : Addr} {H H1 : Hp} {o : HO} (a : Keep d p H H1) (h : x = d ∨ x = p) : Keep d p H (upd H1 x o) := fun c u e n m => by
  rw [upd_ne (by rintro rfl; rcases h with h | h; exact n h; exact m h)]
  exact a c u e n m
/-! ### data -/
theorem dpAll_ints {K : PySem.W.Frag} {H : Hp} : ∀ xs : List Int, DpAll K H (xs.map V.int) (xs.map PyData.int)
  | [] => .nil
  | x :: r => .cons (.int x) (dpAll_ints r)
theorem can_ints : ∀ xs : List Int, PyData.canLayAll0 (xs.map PyData.int) = true
  | [] => rfl
  | x :: r => by
    show (true && PyData.canLayAll0 (r.map PyData.int)) = true
    rw [can_ints r]
    rfl
theorem dep_ints : ∀ xs : List Int, PyData.depthAll (xs.map PyData.int) = 0
  | [] => rfl
  | x :: r => by
    show max 0 (PyData.depthAll (r.map PyData.int)) = 0
    rw [dep_ints r]
    rfl
theorem shaped_ints (xs : List Int) : SeqAt.shaped (.list (xs.map PyData.int)) = true := by
  show (PyData.canLayAll0 (xs.map PyData.int) && decide (PyData.depthAll (xs.map PyData.int) + 1 ≤ 64)) = true
  rw [can_ints, dep_ints]
  rfl
theorem eqv_nil (xs : List Int) : PyData.eqv (.list (xs.map PyData.int)) (.list []) = xs.isEmpty := by
  cases xs with
  | nil => rfl
  | cons x r => rfl
/-! ### the deck -/
structure DeckL (H : Hp) (d p q : Addr) (n : Nat) (m : Nat) : Prop where
  ex : ∃ (xs cs : List Int) (c : Int), H d = some (.lst [.ref p, .ref q, .int c]) ∧ H p = some (.lst (xs.map V.int)) ∧ H q = some (.lst (cs.map V.int)) ∧
    0 ≤ c ∧ c ≤ (n : Int) ∧ cs ≠ [] ∧ xs.length = m
  dp : d ≠ p
  dq : d ≠ q
  pq : p ≠ q
def Deck (H : Hp) (d p q : Addr) (n : Nat) : Prop := ∃ m, DeckL H d p q n m
theorem DeckL.same {H H' : Hp} {d p q : Addr} {n m : Nat} (D : DeckL H d p q n m) (s : Same H H') : DeckL H' d p q n m := by
  obtain ⟨xs, cs, c, h1, h2, h3, h4⟩ := D.ex
  exact ⟨⟨xs, cs, c, s _ _ h1, s _ _ h2, s _ _ h3, h4⟩, D.dp, D.dq, D.pq⟩
theorem Deck.same {H H' : Hp} {d p q : Addr} {n : Nat} (D : Deck H d p q n) (s : Same H H') : Deck H' d p q n := by
  obtain ⟨m, D⟩ := D
  exact ⟨m, D.same s⟩
theorem Deck.mono {H : Hp} {d p q : Addr} {n k : Nat} (D : Deck H d p q n) (h : n ≤ k) : Deck H d p q k := by
  obtain ⟨m, ⟨xs, cs, c, h1, h2, h3, h4, h5, h6⟩, a, b, e⟩ := D
  exact ⟨m, ⟨xs, cs, c, h1, h2, h3, h4, by omega, h6⟩, a, b, e⟩
theorem Deck.hd {H : Hp} {d p q : Addr} {n : Nat} (D : Deck H d p q n) : ∃ a b c, H d = some (.lst [.ref a, .ref b, .int c]) := by
  obtain ⟨m, ⟨xs, cs, c, h1, _⟩, _⟩ := D
  exact ⟨_, _, _, h1⟩
theorem Deck.hp {H : Hp} {d p q : Addr} {n : Nat} (D : Deck H d p q n) : ∃ xs : List Int, H p = some (.lst (xs.map V.int)) := by
  obtain ⟨m, ⟨xs, cs, c, h1, h2, _⟩, _⟩ := D
  exact ⟨_, h2⟩
theorem Deck.ned {H : Hp} {d p q : Addr} {n : Nat} (D : Deck H d p q n) {b : Addr} (h : H b = none) : b ≠ d := by
  obtain ⟨x, y, c, e⟩ := D.hd
  exact (ne_of_none e h).symm
theorem Deck.nep {H : Hp} {d p q : Addr} {n : Nat} (D : Deck H d p q n) {b : Addr} (h : H b = none) : b ≠ p := by
  obtain ⟨x, e⟩ := D.hp
  exact (ne_of_none e h).symm
theorem Deck.tned {H : Hp} {d p q : Addr} {n : Nat} (D : Deck H d p q n) {b : Addr} {xs : List V} (h : H b = some (.tup xs)) : b ≠ d := by
  obtain ⟨x, y, c, e⟩ := D.hd
  exact ne_of h e (by intro z; cases z)
theorem Deck.tnep {H : Hp} {d p q : Addr} {n : Nat} (D : Deck H d p q n) {b : Addr} {xs : List V} (h : H b = some (.tup xs)) : b ≠ p := by
  obtain ⟨x, e⟩ := D.hp
  exact ne_of h e (by intro z; cases z)
/-- a tuple that stands as the very object, without a dict of its own -/
def TF (H : Hp) (a : Addr) (xs : List V) : Prop := ∃ o : Obj, o.dict = none ∧ H a = some (.frz o (.tup xs))
theorem TF.rd {H : Hp} {a : Addr} {xs : List V} (h : TF H a xs) : Rd H a (.tup xs) := by
  obtain ⟨o, _, e⟩ := h
  exact .inr ⟨o, e⟩
theorem TF.same {H H' : Hp} {a : Addr} {xs : List V} (h : TF H a xs) (s : Same H H') : TF H' a xs := by
  obtain ⟨o, d, e⟩ := h
  exact ⟨o, d, s _ _ e⟩
theorem TF.keep {H H' : Hp} {a d p q : Addr} {n : Nat} {xs : List V} (h : TF H a xs) (D : Deck H d p q n) (s : Keep d p H H') : TF H' a xs := by
  obtain ⟨x, y, c, e1⟩ := D.hd
  obtain ⟨zs, e2⟩ := D.hp
  obtain ⟨o, hd, e⟩ := h
  exact ⟨o, hd, s _ _ e (ne_of e e1 (by intro z; cases z)) (ne_of e e2 (by intro z; cases z))⟩
theorem TF.updl {H : Hp} {a D : Addr} {us xs ys : List V} (h : TF H a us) (e : H D = some (.lst xs)) : TF (upd H D (.lst ys)) a us := by
  obtain ⟨o, hd, g⟩ := h
  exact ⟨o, hd, by rw [upd_ne (ne_of g e (by intro z; cases z))]; exact g⟩
theorem TF.new {H : Hp} {a : Addr} {xs : List V} {o : Obj} (h : o.dict = none) : TF (upd H a (.frz o (.tup xs))) a xs := ⟨o, h, upd_same⟩
theorem tf_same {H H' : Hp} {a : Addr} {xs : List V} (s : Same H H') (h : TF H a xs) : TF H' a xs := h.same s
end TR
namespace TR
/-! ### rankings as lists of ints -/
def rng (n : Nat) : List Int := (List.range n).map fun i : Nat => (i : Int)
def Rank (n : Nat) (ns : List Int) : Prop := ns.Perm (rng n)
theorem rng_len (n : Nat) : (rng n).length = n := by
  unfold rng; rw [List.length_map, List.length_range]
theorem mem_rng {n : Nat} {x : Int} : x ∈ rng n ↔ 0 ≤ x ∧ x < (n : Int) := by
  unfold rng
  rw [List.mem_map]
  constructor
  · rintro ⟨i, hi, rfl⟩
    have := List.mem_range.mp hi
    omega
  · rintro ⟨h0, h1⟩
    exact ⟨x.toNat, List.mem_range.mpr (by omega), by omega⟩
theorem rng_nodup (n : Nat) : (rng n).Nodup := by
  unfold rng List.Nodup
  rw [List.pairwise_map]
  exact List.nodup_range.imp (by intro a b h e; exact h (by omega))
theorem Rank.len {n : Nat} {ns : List Int} (h : Rank n ns) : ns.length = n := (List.Perm.length_eq h).trans (rng_len n)
theorem Rank.mem {n : Nat} {ns : List Int} (h : Rank n ns) {x : Int} (h0 : 0 ≤ x) (h1 : x < (n : Int)) : x ∈ ns := (List.Perm.mem_iff h).mpr (mem_rng.mpr ⟨h0, h1⟩)
theorem Rank.bnd {n : Nat} {ns : List Int} (h : Rank n ns) {x : Int} (m : x ∈ ns) : 0 ≤ x ∧ x < (n : Int) := mem_rng.mp ((List.Perm.mem_iff h).mp m)
theorem Rank.nodup {n : Nat} {ns : List Int} (h : Rank n ns) : ns.Nodup := (List.Perm.nodup_iff h).mpr (rng_nodup n)
theorem Rank.rev {n : Nat} {ns : List Int} (h : Rank n ns) : Rank n ns.reverse := (List.reverse_perm ns).trans h
/-! ### preference -/
def pref (ns : List Int) (a b : Int) : Bool := decide (ns.idxOf a < ns.idxOf b)
theorem idx_at {ns : List Int} (nd : ns.Nodup) {i : Nat} {x : Int} (h : ns[i]? = some x) : ns.idxOf x = i := by
  obtain ⟨hi, e⟩ := List.getElem?_eq_some_iff.mp h
  have m : x ∈ ns := e ▸ List.getElem_mem hi
  have hl : ns.idxOf x < ns.length := List.idxOf_lt_length_of_mem m
  have e2 : ns[ns.idxOf x] = x := List.getElem_idxOf hl
  exact (List.getElem_inj nd).mp (e2.trans e.symm)
theorem at_idx {ns : List Int} {x : Int} (m : x ∈ ns) : ns[ns.idxOf x]? = some x := by
  have hl : ns.idxOf x < ns.length := List.idxOf_lt_length_of_mem m
  rw [List.getElem?_eq_getElem hl, List.getElem_idxOf hl]
theorem idx_first {ns : List Int} {x : Int} {m : Nat} (h : m < ns.idxOf x) : ns[m]? ≠ some x := by
  intro e
  obtain ⟨hi, e2⟩ := List.getElem?_eq_some_iff.mp e
  have := List.not_of_lt_findIdx (p := (· == x)) (xs := ns) h
  rw [e2] at this
  simp at this
theorem idx_rev {ns : List Int} (nd : ns.Nodup) {x : Int} (m : x ∈ ns) : ns.reverse.idxOf x = ns.length - 1 - ns.idxOf x := by
  have hl : ns.idxOf x < ns.length := List.idxOf_lt_length_of_mem m
  refine idx_at ((List.Perm.nodup_iff (List.reverse_perm ns)).mpr nd) ?_
  rw [List.getElem?_reverse (by omega)]
  rw [show ns.length - 1 - (ns.length - 1 - ns.idxOf x) = ns.idxOf x by omega]
  exact at_idx m
theorem idx_inj {ns : List Int} {x y : Int} (m : x ∈ ns) (e : ns.idxOf x = ns.idxOf y) : x = y ∨ y ∉ ns := by
  by_cases h : y ∈ ns
  · left
    have a := at_idx m
    have b := at_idx h
    rw [e, b] at a
    exact (Option.some.inj a).symm
  · exact .inr h
theorem pref_rev {ns : List Int} (nd : ns.Nodup) {a b : Int} (ma : a ∈ ns) (mb : b ∈ ns) (ne : a ≠ b) : pref ns.reverse a b = !pref ns a b := by
  unfold pref
  have la : ns.idxOf a < ns.length := List.idxOf_lt_length_of_mem ma
  have lb : ns.idxOf b < ns.length := List.idxOf_lt_length_of_mem mb
  have hne : ns.idxOf a ≠ ns.idxOf b := fun e => by
    rcases idx_inj ma e with h | h
    · exact ne h
    · exact h mb
  rw [idx_rev nd ma, idx_rev nd mb]
  by_cases h : ns.idxOf a < ns.idxOf b
  · rw [decide_eq_true h, decide_eq_false (by omega)]
    rfl
  · rw [decide_eq_false h, decide_eq_true (by omega)]
    rfl
/-! ### pairs and differences -/
def prow (n a : Nat) : List (Int × Int) := (List.range (n - (a + 1))).map fun j : Nat => ((a : Int), ((a : Int) + 1 + (j : Int)))
def pairs (n : Nat) : List (Int × Int) := (List.range n).flatMap (prow n)
theorem mem_pairs {n : Nat} {p : Int × Int} (h : p ∈ pairs n) : 0 ≤ p.1 ∧ p.1 < p.2 ∧ p.2 < (n : Int) := by
  unfold pairs prow at h
  obtain ⟨a, ha, hp⟩ := List.mem_flatMap.mp h
  obtain ⟨j, hj, rfl⟩ := List.mem_map.mp hp
  have h1 := List.mem_range.mp ha
  have h2 := List.mem_range.mp hj
  dsimp only
  omega
theorem flat_succ {β : Type} (f : Nat → List β) (i : Nat) : (List.range (i + 1)).flatMap f = (List.range i).flatMap f ++ f i := by
  rw [List.range_succ, List.flatMap_append]
  simp
theorem map_succ {β : Type} (f : Nat → β) (i : Nat) : (List.range (i + 1)).map f = (List.range i).map f ++ [f i] := by
  rw [List.range_succ, List.map_append]
  rfl
def agr (one other : List Int) (p : Int × Int) : Bool := pref one p.1 p.2 == pref other p.1 p.2
def diffs (n : Nat) (one other : List Int) : List (Int × Int) := (pairs n).filter fun p => !agr one other p
def betw (n : Nat) (one other third : List Int) : Bool := ((pairs n).filter (agr one other)).all (agr one third)
theorem agr_symm (one other : List Int) (p : Int × Int) : agr one other p = agr other one p := by
  unfold agr
  cases pref one p.1 p.2 <;> cases pref other p.1 p.2 <;> rfl
theorem diffs_symm (n : Nat) (one other : List Int) : diffs n one other = diffs n other one := by
  unfold diffs
  congr 1
  funext p
  rw [agr_symm]
theorem diffs_rev {n : Nat} {ns : List Int} (h : Rank n ns) : diffs n ns ns.reverse = pairs n := by
  unfold diffs
  rw [List.filter_eq_self]
  intro p hp
  obtain ⟨h0, h1, h2⟩ := mem_pairs hp
  unfold agr
  rw [pref_rev h.nodup (h.mem h0 (by omega)) (h.mem (by omega) h2) (by omega)]
  cases pref ns p.1 p.2 <;> rfl
theorem filter_take {α : Type} (f : α → Bool) {l : List α} {i : Nat} {x : α} (h : l[i]? = some x) : (l.take (i + 1)).filter f = (l.take i).filter f ++ if f x = true then [x] else [] := by
  rw [List.take_add_one, h, List.filter_append]
  show _ ++ ([x].filter f) = _
  cases e : f x <;> simp [e]
theorem diffs_sub {n : Nat} {one other : List Int} {p : Int × Int} (h : p ∈ diffs n one other) : p ∈ pairs n := (List.mem_filter.mp h).1
theorem prow_len (n a : Nat) : (prow n a).length = n - (a + 1) := by
  unfold prow; rw [List.length_map, List.length_range]
theorem flat_len (n : Nat) : ∀ i : Nat, ((List.range i).flatMap (prow n)).length ≤ i * n
  | 0 => by simp
  | i + 1 => by
    have ih := flat_len n i
    rw [flat_succ, List.length_append, prow_len, Nat.succ_mul]
    omega
theorem pairs_len (n : Nat) : (pairs n).length ≤ n * n := flat_len n n
/-! ### exchanging neighbours, drawing -/
theorem perm_swap {ns : List Int} {k : Nat} {x y : Int} (hx : ns[k]? = some x) (hy : ns[k + 1]? = some y) : (ns.take k ++ ([y, x] ++ ns.drop (k + 2))).Perm ns := by
  have e : ns = ns.take k ++ (x :: y :: ns.drop (k + 2)) := by
    have h1 : k < ns.length := (List.getElem?_eq_some_iff.mp hx).1
    have h2 : k + 1 < ns.length := (List.getElem?_eq_some_iff.mp hy).1
    have a1 : ns.drop k = x :: ns.drop (k + 1) := by
      rw [List.drop_eq_getElem_cons h1, (List.getElem?_eq_some_iff.mp hx).2]
    have a2 : ns.drop (k + 1) = y :: ns.drop (k + 2) := by
      rw [List.drop_eq_getElem_cons h2, (List.getElem?_eq_some_iff.mp hy).2]
    rw [← a2, ← a1, List.take_append_drop]
  refine List.Perm.trans ?_ (List.Perm.of_eq e.symm)
  exact List.Perm.append_left _ (List.Perm.swap x y _)
theorem perm_erase {l : List Int} {j : Nat} {z : Int} (h : l[j]? = some z) : (z :: l.eraseIdx j).Perm l := by
  obtain ⟨hj, e⟩ := List.getElem?_eq_some_iff.mp h
  have e1 : l = l.take j ++ z :: l.drop (j + 1) := by
    rw [← e, ← List.drop_eq_getElem_cons hj, List.take_append_drop]
  have e2 : l.eraseIdx j = l.take j ++ l.drop (j + 1) := List.eraseIdx_eq_take_drop_succ l j
  rw [e2]
  refine List.Perm.trans ?_ (List.Perm.of_eq e1.symm)
  exact (List.perm_middle).symm
end TR
namespace TR
/-! ### swaps of neighbours, the way from one ranking to another -/
def swp (ns : List Int) (k : Nat) : List Int := ns.take k ++ ([ns.getD (k + 1) 0, ns.getD k 0] ++ ns.drop (k + 2))
def wrongN (ns ms : List Int) : List Nat := (List.range (ns.length - 1)).filter fun k => pref ms (ns.getD (k + 1) 0) (ns.getD k 0)
def wrongs (ns ms : List Int) : List Int := (wrongN ns ms).map fun k : Nat => (k : Int)
theorem getD_of {ns : List Int} {k : Nat} (h : k < ns.length) : ns.getD k 0 = ns[k] := by
  rw [List.getD_eq_getElem?_getD, List.getElem?_eq_getElem h]
  rfl
theorem swp_split {ns : List Int} {k : Nat} (h : k + 1 < ns.length) : ns = ns.take k ++ (ns.getD k 0 :: ns.getD (k + 1) 0 :: ns.drop (k + 2)) := by
  rw [getD_of h, getD_of (by omega)]
  have a1 : ns.drop k = ns[k] :: ns.drop (k + 1) := List.drop_eq_getElem_cons (by omega)
  have a2 : ns.drop (k + 1) = ns[k + 1] :: ns.drop (k + 2) := List.drop_eq_getElem_cons h
  rw [← a2, ← a1, List.take_append_drop]
theorem swp_rank {n : Nat} {ns : List Int} {k : Nat} (r : Rank n ns) (h : k + 1 < n) : Rank n (swp ns k) := by
  have hl := r.len
  refine List.Perm.trans ?_ r
  refine List.Perm.trans ?_ (List.Perm.of_eq (swp_split (ns := ns) (k := k) (by omega)).symm)
  exact List.Perm.append_left _ (List.Perm.swap _ _ _)
theorem mem_wrongN {ns ms : List Int} {k : Nat} : k ∈ wrongN ns ms ↔ k + 1 < ns.length ∧ pref ms (ns.getD (k + 1) 0) (ns.getD k 0) = true := by
  unfold wrongN
  rw [List.mem_filter, List.mem_range]
  constructor
  · rintro ⟨a, b⟩
    exact ⟨by omega, b⟩
  · rintro ⟨a, b⟩
    exact ⟨by omega, b⟩
/-! ### inversions -/
def invN : List Nat → Nat
  | [] => 0
  | x :: r => r.countP (fun y => decide (y < x)) + invN r
theorem invN_swap {x y : Nat} (h : x < y) (t : List Nat) : ∀ p : List Nat, invN (p ++ x :: y :: t) + 1 = invN (p ++ y :: x :: t)
  | [] => by
    show List.countP _ (y :: t) + (List.countP _ t + invN t) + 1 = List.countP _ (x :: t) + (List.countP _ t + invN t)
    rw [List.countP_cons_of_neg (by simp; omega), List.countP_cons_of_pos (by simp; omega)]
    omega
  | a :: p => by
    show List.countP _ (p ++ x :: y :: t) + invN (p ++ x :: y :: t) + 1 = List.countP _ (p ++ y :: x :: t) + invN (p ++ y :: x :: t)
    have ih := invN_swap h t p
    have e : List.countP (fun z => decide (z < a)) (p ++ x :: y :: t) = List.countP (fun z => decide (z < a)) (p ++ y :: x :: t) := List.Perm.countP_eq _ (List.Perm.append_left _ (List.Perm.swap _ _ _))
    rw [e]
    omega
theorem invN_le : ∀ l : List Nat, invN l ≤ l.length * l.length
  | [] => Nat.le_refl _
  | x :: r => by
    have ih := invN_le r
    have h : r.countP (fun y => decide (y < x)) ≤ r.length := List.countP_le_length
    show List.countP _ r + invN r ≤ (r.length + 1) * (r.length + 1)
    rw [Nat.succ_mul, Nat.mul_succ]
    omega
theorem invN_le2 : ∀ l : List Nat, 2 * invN l + l.length ≤ l.length * l.length
  | [] => Nat.le_refl _
  | x :: r => by
    have ih := invN_le2 r
    have h : r.countP (fun y => decide (y < x)) ≤ r.length := List.countP_le_length
    have e : (r.length + 1) * (r.length + 1) = r.length * r.length + 2 * r.length + 1 := by
      rw [Nat.add_mul, Nat.mul_add, Nat.one_mul, Nat.mul_one]
      omega
    show 2 * (List.countP _ r + invN r) + (r.length + 1) ≤ (r.length + 1) * (r.length + 1)
    rw [e]
    omega
def dist (ns ms : List Int) : Nat := invN (ns.map ms.idxOf)
theorem dist_swap {n : Nat} {ns ms : List Int} {k : Nat} (r : Rank n ns) (h : k ∈ wrongN ns ms) : dist (swp ns k) ms + 1 = dist ns ms := by
  obtain ⟨h1, h2⟩ := mem_wrongN.mp h
  have e := swp_split h1
  have h3 : ms.idxOf (ns.getD (k + 1) 0) < ms.idxOf (ns.getD k 0) := of_decide_eq_true h2
  have e2 : dist ns ms = invN ((ns.take k).map ms.idxOf ++ (ms.idxOf (ns.getD k 0) :: ms.idxOf (ns.getD (k + 1) 0) :: (ns.drop (k + 2)).map ms.idxOf)) := by
    have g := congrArg (fun l : List Int => invN (l.map ms.idxOf)) e
    rw [List.map_append] at g
    exact g
  have e3 : dist (swp ns k) ms = invN ((ns.take k).map ms.idxOf ++ (ms.idxOf (ns.getD (k + 1) 0) :: ms.idxOf (ns.getD k 0) :: (ns.drop (k + 2)).map ms.idxOf)) := by
    unfold dist swp
    rw [List.map_append]
    rfl
  rw [e2, e3]
  exact invN_swap h3 _ _
theorem dist_le {n : Nat} {ns : List Int} (ms : List Int) (r : Rank n ns) : dist ns ms ≤ n * n := by
  have h := invN_le (ns.map ms.idxOf)
  rw [List.length_map, r.len] at h
  exact h
theorem dist_le28 {n : Nat} {ns : List Int} (ms : List Int) (r : Rank n ns) (hn : n ≤ 8) : dist ns ms ≤ 28 := by
  have h := invN_le2 (ns.map ms.idxOf)
  rw [List.length_map, r.len] at h
  have h2 : 2 * dist ns ms + n ≤ n * n := h
  match n, hn with
  | 0, _ => omega
  | 1, _ => omega
  | 2, _ => omega
  | 3, _ => omega
  | 4, _ => omega
  | 5, _ => omega
  | 6, _ => omega
  | 7, _ => omega
  | 8, _ => omega
/-! ### no wrong place: the end -/
theorem wrong_nil {n : Nat} {ns ms : List Int} (r : Rank n ns) (s : Rank n ms) (h : wrongN ns ms = []) : ns = ms := by
  have ln := r.len
  have lm := s.len
  have memM : ∀ k, k < n → ns.getD k 0 ∈ ms := fun k hk => by
    rw [getD_of (by omega)]
    have b := r.bnd (List.getElem_mem (show k < ns.length by omega))
    exact s.mem b.1 b.2
  have up : ∀ k, k + 1 < n → ms.idxOf (ns.getD k 0) < ms.idxOf (ns.getD (k + 1) 0) := fun k hk => by
    have hn : ¬ ms.idxOf (ns.getD (k + 1) 0) < ms.idxOf (ns.getD k 0) := fun hlt => by
      have : k ∈ wrongN ns ms := mem_wrongN.mpr ⟨by omega, decide_eq_true hlt⟩
      rw [h] at this
      cases this
    have hne : ms.idxOf (ns.getD k 0) ≠ ms.idxOf (ns.getD (k + 1) 0) := fun e => by
      rcases idx_inj (memM k (by omega)) e with e2 | e2
      · rw [getD_of (by omega), getD_of (by omega)] at e2
        have := (List.getElem_inj r.nodup).mp e2
        omega
      · exact e2 (memM (k + 1) hk)
    omega
  have lo : ∀ k, k < n → k ≤ ms.idxOf (ns.getD k 0) := fun k => by
    induction k with
    | zero => intro _; exact Nat.zero_le _
    | succ k ih =>
      intro hk
      have := ih (by omega)
      have := up k hk
      omega
  have bd : ∀ k, k < n → ms.idxOf (ns.getD k 0) < n := fun k hk => by
    have := List.idxOf_lt_length_of_mem (memM k hk)
    omega
  have hi : ∀ d k, k + d + 1 = n → ms.idxOf (ns.getD k 0) ≤ k := fun d => by
    induction d with
    | zero =>
      intro k hk
      have := bd k (by omega)
      omega
    | succ d ih =>
      intro k hk
      have := ih (k + 1) (by omega)
      have := up k (by omega)
      omega
  refine List.ext_getElem (by omega) fun k h1 h2 => ?_
  have e : ms.idxOf (ns.getD k 0) = k := by
    have a := lo k (by omega)
    have b := hi (n - 1 - k) k (by omega)
    omega
  have g := at_idx (memM k (by omega))
  rw [e, List.getElem?_eq_getElem h2, getD_of h1] at g
  exact (Option.some.inj g).symm
theorem wrong_self {n : Nat} {ms : List Int} (s : Rank n ms) : wrongN ms ms = [] := by
  refine List.filter_eq_nil_iff.mpr fun k hk => ?_
  have hk' := List.mem_range.mp hk
  rw [getD_of (by omega), getD_of (by omega)]
  have e1 := idx_at s.nodup (List.getElem?_eq_getElem (show k < ms.length by omega))
  have e2 := idx_at s.nodup (List.getElem?_eq_getElem (show k + 1 < ms.length by omega))
  unfold pref
  rw [e1, e2]
  simp
/-! ### the way -/
def stp (ms r : List Int) : List Int := match wrongN r ms with
  | [] => r
  | k :: _ => swp r k
def itr (ms ns : List Int) : Nat → List Int
  | 0 => ns
  | j + 1 => stp ms (itr ms ns j)
def Pth (ns ms : List Int) (rows : List (List Int)) : Prop := ∃ j, rows = (List.range (j + 1)).map (itr ms ns) ∧ itr ms ns j = ms ∧ ∀ i, i < j → itr ms ns i ≠ ms
theorem Pth.uniq {ns ms : List Int} {r s : List (List Int)} (a : Pth ns ms r) (b : Pth ns ms s) : r = s := by
  obtain ⟨i, e1, e2, e3⟩ := a
  obtain ⟨j, f1, f2, f3⟩ := b
  have : i = j := by
    rcases Nat.lt_trichotomy i j with h | h | h
    · exact absurd e2 (f3 i h)
    · exact h
    · exact absurd f2 (e3 j h)
  subst this
  rw [e1, f1]
theorem itr_rank {n : Nat} {ns ms : List Int} (r : Rank n ns) : ∀ j, Rank n (itr ms ns j)
  | 0 => r
  | j + 1 => by
    have ih := itr_rank (ms := ms) r j
    show Rank n (stp ms (itr ms ns j))
    unfold stp
    cases e : wrongN (itr ms ns j) ms with
    | nil => exact ih
    | cons k t =>
      have := (mem_wrongN (ns := itr ms ns j) (ms := ms) (k := k)).mp (by rw [e]; exact List.mem_cons_self)
      exact swp_rank ih (by have := ih.len; omega)
theorem itr_succ {ms ns : List Int} {j k : Nat} {t : List Nat} (e : wrongN (itr ms ns j) ms = k :: t) : itr ms ns (j + 1) = swp (itr ms ns j) k := by
  show stp ms (itr ms ns j) = _
  unfold stp
  rw [e]
theorem wrong_ne {n : Nat} {ns ms : List Int} {k : Nat} {t : List Nat} (s : Rank n ms) (e : wrongN ns ms = k :: t) : ns ≠ ms := fun h => by
  subst h
  rw [wrong_self s] at e
  cases e
end TR
namespace TR
open PySem PySem.Spec PyProof.Rows L2
theorem flat_ints (ys : List Int) : (ys.map V.int).all flatV = true := by
  rw [List.all_map]; exact List.all_eq_true.mpr fun _ _ => rfl
def rTupIdx (K : PySem.W.Frag) : V → List V → Hp → VK → Prop := fun x xs H Q => ∃ p, ∃ ys : List Int, ∃ z j, x = .ref p ∧ xs = [.int z] ∧ SqT K H p (ys.map V.int) ∧ ys[j]? = some z ∧ (∀ m, m < j → ys[m]? ≠ some z) ∧ Q (.int (j : Nat)) H
section
variable {X : Cx}
/-- t.index(k), t a tuple of ints: the first place -/
theorem mt_tupIdx : MtR X "tuple.index" (fun x xs H Q => ∃ p, ∃ ys : List Int, ∃ z j, x = .ref p ∧ xs = [.int z] ∧ SqT X.K H p (ys.map V.int) ∧ ys[j]? = some z ∧ (∀ m, m < j → ys[m]? ≠ some z) ∧ Q (.int (j : Nat)) H) := by
  intro pins s σ H x xs v us Q I rx rs h
  obtain ⟨p, ys, z, j, rfl, rfl, hS, hy, hno, q⟩ := h
  cases rx
  obtain ⟨u, rfl, t, rfl⟩ := vals1 rs
  obtain ⟨its, r, pl, hz⟩ := I.tuple hS
  obtain ⟨⟨c1, dd, dt, sl⟩, ho, hc, n, hd⟩ := pl
  simp only at hc hd; subst hc; subst hd
  have hl : its.toArray.size = ys.length := by
    rw [List.size_toArray, ← r.length]; exact List.length_map _
  have hj : j < its.toArray.size := hl.symm ▸ (List.getElem?_eq_some_iff.mp hy).1
  have pick : ∀ (m : Nat) (hm : m < its.toArray.size), ∃ y t', ys[m]? = some y ∧ its.toArray[m] = Value.int y t' := fun m hm => by
    have hm2 : m < ys.length := hl ▸ hm
    obtain ⟨w, hw, t', hw'⟩ := r.get (i := m) (x := .int ys[m]) (by simp [hm2])
    refine ⟨ys[m], t', List.getElem?_eq_getElem hm2, ?_⟩
    have e := (List.getElem?_eq_some_iff.mp hw).2
    rw [← hw', ← e]; simp
  refine call_meets PySem.F.slot_tuple_index ⟨_, ho, rfl⟩ PySem.F.entry_tuple_index (PySem.F.args_tuple_index_2 _ _) (TI.tuple_indexAt p its.toArray n dd sl (.int z t) (eqU (.int z)) j hj ?_ ?_)
    ⟨ho, fun w hw => mem_eqAt (x := .int z) ⟨t, rfl⟩ rfl r (flat_ints ys) w (by simpa using hw), ⟨.int (j : Nat), H, I.tok _, ⟨_, rfl⟩, q⟩⟩
  · obtain ⟨y, t', h1, h2⟩ := pick j hj
    rw [hy] at h1; cases h1; rw [h2]
    show (z == z) = true; exact beq_self_eq_true z
  · intro m hm hmj
    obtain ⟨y, t', h1, h2⟩ := pick m hm
    rw [h2]; show (y == z) = false
    exact beq_eq_false_iff_ne.mpr fun e => hno m hmj (e ▸ h1)
end
section
variable {prog : Program} {w : World} {A : Around} {E : Value → Shared → Prop} {s : Shared}
theorem places_back (n : Nat) : Builtin.Slice.slicePlaces ((n : Int) - 1) (-1) (-1) = n := by
  unfold Builtin.Slice.slicePlaces
  rw [if_neg (show ¬ ((-1 : Int) > 0) by decide)]
  by_cases h : (n : Int) - 1 > -1
  · rw [if_pos h, show (- -1 : Int) = 1 by decide, Int.ediv_one]; omega
  · rw [if_neg h]; omega
theorem applied_back {sl : Addr} {vs : Value} {n : Nat} {Q : Int × Int × Nat → Shared → Prop} (hs : s.heap.IsSliceOf sl .none .none vs) (ps : IsPart vs (some (-1))) (h : Q ((n : Int) - 1, -1, n) s) :
    wpAny (model prog w) A (Builtin.Slice.sliceApplied (.ref sl) (pure (n : Int))) Q E s := by
  obtain ⟨os, hos, hcs, hds⟩ := id hs
  unfold Builtin.Slice.sliceApplied Builtin.Slice.sliceFields
  refine wpAny_bind (wpAny_bind (wpAny_field hos hds (x := .none) rfl (wpAny_bind (wpAny_field hos hds (x := .none) rfl (wpAny_bind (wpAny_field hos hds (x := vs) rfl (wpAny_pure ?_)))))))
  refine wpAny_bind (HT.slicePart_ ps ?_)
  show wpAny _ _ (if ((-1 : Int) == 0) = true then _ else _) _ _ s
  rw [if_neg (show ¬ (((-1 : Int) == 0) = true) by decide)]
  refine wpAny_bind (HT.slicePart_ .none (wpAny_bind (HT.slicePart_ .none (wpAny_bind (wpAny_pure ?_)))))
  show wpAny _ _ (pure ((n : Int) - 1, (-1 : Int), Builtin.Slice.slicePlaces ((n : Int) - 1) (-1) (-1))) _ _ s
  rw [places_back]; exact wpAny_pure h
theorem pick_back (xs : Array Value) : ((List.range xs.size).filterMap fun (k : Nat) => xs[((xs.size : Int) - 1 + (k : Int) * -1).toNat]?).toArray = xs.toList.reverse.toArray := by
  have e : ((List.range xs.size).filterMap fun (k : Nat) => xs[((xs.size : Int) - 1 + (k : Int) * -1).toNat]?) = ((List.range xs.size).map fun k => xs.size - 1 - k).filterMap (xs[·]?) := by
    rw [List.filterMap_map]
    refine congrArg (fun g => (List.range xs.size).filterMap g) (funext fun k => ?_)
    show xs[((xs.size : Int) - 1 + (k : Int) * -1).toNat]? = xs[xs.size - 1 - k]?
    rw [show ((xs.size : Int) - 1 + (k : Int) * -1).toNat = xs.size - 1 - k by omega]
  rw [e, PySem.W.krv_range, List.filterMap_reverse, PySem.W.krv_all]
theorem getItem_back {t sl : Addr} {items : Array Value} {vs : Value} {Q : Value → Shared → Prop} (ht : IsTup s.heap t items) (hs : s.heap.IsSliceOf sl .none .none vs) (ps : IsPart vs (some (-1)))
    (h : Q (.ref s.heap.objs.size) { s with heap := s.heap.push { cls := .type "tuple", data := .seq items.toList.reverse.toArray } }) (hsz : items.size ≤ sizeLine) : wpAny (model prog w) A (getItem (.ref t) (.ref sl)) Q E s := by
  have hok : sizeOk (.seq items.toList.reverse.toArray) := by
    show items.toList.reverse.toArray.size ≤ sizeLine
    rw [List.size_toArray, List.length_reverse]; exact hsz
  obtain ⟨os, hos, hcs, hds⟩ := id hs
  have hTs : s.TypeIs (.ref sl) "slice" := ⟨os, hos, hcs⟩
  unfold getItem
  try with_reducible refine wpAny_holding ?_
  first | refine wpAny_bind (wpAny_pure ?_) | skip
  refine wpAny_bind (wpAny_sequenceKey ht.typeIs (by decide) ?_)
  refine wpAny_bind (wpAny_callSpecial?_slot (name := Str.ofString "__getitem__") ht.typeIs PyProof.Rows.slot_tuple_getitem (wpAny_call_entry PyProof.Rows.slot_tuple_getitem ht.typeIs entry_tuple_getitem ?_ (args_tuple_getitem _ _)))
  show wpAny _ _ (Builtin.Tuple.tupleItemsOf (.ref t) >>= _) _ _ s
  refine wpAny_bind (PyProof.Rows.tupleItemsOf_ ht (wpAny_bind (wpAny_typeOf hTs ?_)))
  rw [if_pos (by decide)]
  refine wpAny_bind (applied_back hs ps ?_)
  have hno : ¬ ((((items.size : Int) - 1 == 0) && (-1 : Int) == 1 && items.size == items.size) = true) := by
    rw [show ((-1 : Int) == 1) = false by decide, Bool.and_false, Bool.false_and]; exact Bool.false_ne_true
  show wpAny _ _ (if (((items.size : Int) - 1 == 0) && (-1 : Int) == 1 && items.size == items.size) = true then _ else _) _ _ s
  rw [if_neg hno, pick_back]
  first
    | exact wpAny_bind (m := Builtin.Tuple.tupleExact _) (wpAny_newObj_type (wpAny_pure ⟨_, rfl, wpAny_pure h⟩) hok)
    | exact wpAny_bind (wpAny_bind (m := Builtin.Tuple.tupleExact _) (wpAny_newObj_type (wpAny_pure ⟨_, rfl, wpAny_pure h⟩) hok))
    | exact wpAny_bind (wpAny_bind (m := Builtin.Tuple.tupleExact _) (wpAny_newObj_type (wpAny_pure (wpAny_pure ⟨_, rfl, wpAny_pure h⟩)) hok))
end
section
variable {X : Cx}
/-- t[::-1], t a tuple: always a new one -/
def tRevT (K : PySem.W.Frag) (te : TE) : TE := fun σ H Q => te σ H fun x H1 => ∃ a xs, x = .ref a ∧ SqT K H1 a xs ∧ ∀ p o, H1 p = none → o.dict = none → Q (.ref p) (upd H1 p (.frz o (.tup xs.reverse)))
theorem pe_revT {e : Expr} {te : TE} {k : Nat} {p1 p2 p3 pos : Pos} (he : PE X e te) : PE X (.Subscript e (.Slice none none (some (.UnaryOp .USub (.Constant (.int 1) k p1) p2)) p3) pos) (tRevT X.K te) := by
  refine ⟨fun pins s σ H Q I h => Subscript_ (thn (he.run pins s σ H _ I h) fun v s1 ⟨x, H1, I1, r1, a, xs, ex, hx, q⟩ => ?_)⟩
  subst ex; cases r1
  have hst : PO X (some (.UnaryOp .USub (.Constant (.int 1) k p1) p2)) (tPart (tUn (rU fun i => .int (-i)) (tC (.int 1)))) := po_some (pe_un un_neg pe_int)
  refine wpAny_Slice (thn (po_none.run pins s1 σ H1 (fun o G => o = none ∧ G = H1) I1 ⟨rfl, rfl⟩) fun vl s2 ⟨l, H2, I2, pl, el, e2⟩ => ?_)
  subst el e2
  refine thn (po_none.run pins s2 σ H2 (fun o G => o = none ∧ G = H2) I2 ⟨rfl, rfl⟩) fun vu s3 ⟨u, H3, I3, pu, eu, e3⟩ => ?_
  subst eu e3
  refine thn (hst.run pins s3 σ H3 (fun o G => o = some (-1) ∧ G = H3) I3 ⟨1, rfl, -1, rfl, rfl, rfl⟩) fun vs s4 ⟨o, H4, I4, ps, eo, e4⟩ => ?_
  subst eo e4
  cases pl; cases pu
  have I5 : Inv X pins σ H4 { s4 with heap := s4.heap.push { cls := .type "slice", data := .fields #[.none, .none, vs] } } := I4.kept (t' := s4.toks) fun b ob q => Heap.get?_push_of_some _ q
  obtain ⟨its, r, ht, hz⟩ := I5.tuple hx
  have hlen := r.length
  show wpAny (model X.prog X.w) X.A (subscriptTail e (.Slice none none (some (.UnaryOp .USub (.Constant (.int 1) k p1) p2)) p3) (.ref a) (.ref s4.heap.objs.size)) (EP X pins σ Q) X.xe { s4 with heap := s4.heap.push { cls := .type "slice", data := .fields #[.none, .none, vs] } }
  refine tail_any (ops := [.ref a, .ref s4.heap.objs.size]) ht.typeIs (PyProof.Rows.slot_tuple_getitem.lookup) ?_ (by with_unfolding_all rfl)
  refine getItem_back ht (Heap.IsSliceOf.new _ .none .none vs) ps ?_ (by rw [List.size_toArray]; omega)
  refine ⟨.ref _, _, I5.laid (t' := s4.toks) (o := .frz { cls := .type "tuple", data := .seq its.toArray.toList.reverse.toArray } (.tup xs.reverse)) (fun b ob q => Heap.get?_push_of_some _ q) (Nat.le_refl _) ?_, rfl, q _ _ (I5.hok.fresh (Nat.le_refl _)) rfl⟩
  exact ⟨Heap.get?_push_size _ rfl, by rw [List.length_reverse]; exact hz, _, r.reverse, IsTup.new _ _⟩
/-- tuple(a list): the new tuple, as the very object -/
theorem call_tupleF : CallR X (.type "tuple") (fun xs H Q => ∃ p ys, xs = [.ref p] ∧ SqL X.K H p ys ∧ ∀ l o, H l = none → o.dict = none → Q (.ref l) (upd H l (.frz o (.tup ys)))) := by
  intro pins s σ H xs us Q I r ⟨p, ys, ex, hS, q⟩
  subst ex
  obtain ⟨u, rfl, rx⟩ := vals1 r
  cases rx
  obtain ⟨its, r', pl, hz⟩ := I.list hS
  have hlen := r'.length
  refine call_tuple_list pl.isList (fun h' kp => ?_) (by simp only [List.size_toArray] <;> omega)
  have I1 : Inv X pins σ H { s with heap := h' } := I.kept (t' := s.toks) kp
  exact ⟨.ref h'.objs.size, _, I1.laid (t' := s.toks) (o := .frz { cls := .type "tuple", data := .seq its.toArray } (.tup ys)) (fun b o e => Heap.get?_push_of_some _ e) (Nat.le_refl _) ⟨Heap.get?_push_size _ rfl, hz, its, r', IsTup.new _ _⟩, rfl, q _ _ (I1.hok.fresh (Nat.le_refl _)) rfl⟩
/-- (a, b, ..): the same -/
def tTupF (t : TA) : TE := fun σ H Q => t σ H fun xs H1 => xs.length ≤ sizeLine ∧ ∀ p o, H1 p = none → o.dict = none → Q (.ref p) (upd H1 p (.frz o (.tup xs)))
theorem pe_tupF {es : List Expr} {t : TA} {pos : Pos} {x1} (h : PA X es t) : PE X (.Tuple es x1 pos) (tTupF t) := by
  refine ⟨fun pins s σ H Q I hq => wpAny_Tuple_spliced (thn (h.run pos pins s σ H _ I hq) fun us s1 ⟨xs, H1, I1, r, z, q⟩ => ⟨by rw [← r.length]; exact z, ?_⟩)⟩
  exact ⟨.ref s1.heap.objs.size, _, I1.laid (t' := s1.toks) (o := .frz { cls := .type "tuple", data := .seq us.toArray } (.tup xs)) (fun b u e => Heap.get?_push_of_some _ e) (Nat.le_refl _) ⟨Heap.get?_push_size _ rfl, z, us, r, IsTup.new _ _⟩, rfl, q _ _ (I1.hok.fresh (Nat.le_refl _)) rfl⟩
/-- t + u -/
def rCatF (K : PySem.W.Frag) : R2 := fun x y H Q => ∃ a b xs ys, x = .ref a ∧ y = .ref b ∧ SqT K H a xs ∧ SqT K H b ys ∧ xs.length + ys.length ≤ sizeLine ∧
  (xs = [] → Q (.ref b) H) ∧ (xs ≠ [] → ys = [] → Q (.ref a) H) ∧ (xs ≠ [] → ys ≠ [] → ∀ p o, H p = none → o.dict = none → Q (.ref p) (upd H p (.frz o (.tup (xs ++ ys)))))
theorem op_catF : OpR X (binaryOp .Add) (rCatF X.K) := by
  intro pins s σ H x y v u Q I rx ry ⟨a, b, xs, ys, ex, ey, ha, hb, hz, q0, q1, q2⟩
  subst ex ey; cases rx; cases ry
  obtain ⟨its, r1, p1, _⟩ := I.tuple ha
  obtain ⟨its2, r2, p2, _⟩ := I.tuple hb
  by_cases hx : xs = []
  · subst hx; cases r1
    exact cat_tup0 p1 p2 ⟨.ref b, H, I, rfl, q0 rfl⟩
  · refine HT.cat_tup p1 p2 (fun z => hx (r1.nil_iff.mp z)) (fun z => ⟨.ref a, H, I, rfl, q1 hx (r2.nil_iff.mp z)⟩) (fun z => ?_) (by rw [← r1.length, ← r2.length]; exact hz)
    exact ⟨.ref s.heap.objs.size, _, I.laid (t' := s.toks) (o := .frz { cls := .type "tuple", data := .seq (its ++ its2).toArray } (.tup (xs ++ ys))) (fun b ob q => Heap.get?_push_of_some _ q) (Nat.le_refl _)
      ⟨Heap.get?_push_size _ rfl, by rw [List.length_append]; exact hz, _, r1.append r2, IsTup.new _ _⟩, rfl, q2 hx (fun w => z (r2.nil_iff.mpr w)) _ _ (I.hok.fresh (Nat.le_refl _)) rfl⟩
/-- t[lo:hi] -/
def rSlF (K : PySem.W.Frag) : V → Option Int → Option Int → Hp → VK → Prop := fun x lo hi H Q => ∃ a xs, x = .ref a ∧ SqT K H a xs ∧
  (HT.sIx xs.length 0 lo = 0 ∧ HT.sIx xs.length xs.length hi = xs.length → Q (.ref a) H) ∧
  (¬ (HT.sIx xs.length 0 lo = 0 ∧ HT.sIx xs.length xs.length hi = xs.length) → ∀ p o, H p = none → o.dict = none → Q (.ref p) (upd H p (.frz o (.tup (cutV xs lo hi)))))
theorem sl_tupF : SlR X (rSlF X.K) := by
  intro pins s σ H x v vl vu lo hi sl Q I rx hs pl pu ⟨a, xs, ex, hx, q1, q2⟩
  subst ex; cases rx
  obtain ⟨its, r, ht, hz⟩ := I.tuple hx
  have hlen : its.toArray.size = xs.length := List.size_toArray.trans r.length.symm
  refine ⟨"tuple", _, PyProof.Rows.slot_tuple_getitem.lookup, ht.typeIs, ?_⟩
  by_cases hw : HT.sIx xs.length 0 lo = 0 ∧ HT.sIx xs.length xs.length hi = xs.length
  · exact getItem_tuple_whole ht hs pl pu (by rw [hlen]; exact hw) ⟨.ref a, H, I, rfl, q1 hw⟩
  · refine HT.getItem_tuple_cut ht hs pl pu (by rw [hlen]; exact hw) ?_ (by rw [hlen]; exact hz)
    rw [hlen]
    exact ⟨.ref s.heap.objs.size, _, I.laid (t' := s.toks) (o := .frz { cls := .type "tuple", data := .seq ((its.toArray.toList.drop (HT.sIx xs.length 0 lo)).take (HT.sIx xs.length xs.length hi - HT.sIx xs.length 0 lo)).toArray } (.tup (cutV xs lo hi))) (fun b ob q => Heap.get?_push_of_some _ q) (Nat.le_refl _)
      ⟨Heap.get?_push_size _ rfl, Nat.le_trans (cutV_length xs lo hi) hz, _, (r.drop (HT.sIx xs.length 0 lo)).take (HT.sIx xs.length xs.length hi - HT.sIx xs.length 0 lo), IsTup.new _ _⟩, rfl, q2 hw _ _ (I.hok.fresh (Nat.le_refl _)) rfl⟩
/-- t.m(e, ..), t a tuple that stands as the very object, without a dict of its own -/
def tBMT (r : V → List V → Hp → VK → Prop) (to : TE) (t : TA) : TE := fun σ H Q => to σ H fun x H1 => (∃ p ob ys, x = .ref p ∧ ob.dict = none ∧ H1 p = some (.frz ob (.tup ys))) ∧ t σ H1 fun xs H2 => r x xs H2 Q
theorem pe_bmT {o e : Expr} {es : List Expr} {to : TE} {t : TA} {name : Str} {apos cpos : Pos} {id : String} {r : V → List V → Hp → VK → Prop} (slot : Slot "tuple" name id) (hty : typeOf (.builtin id) = pure (.type "method_descriptor")) (hm : MtR X id r) (ho : PE X o to) (ha : PA X (e :: es) t)
    (hbase : attributeBase o name X.env (eval o X.env) = eval o X.env := by rfl)
    (hfew : ((backTo cpos (starEach (e :: es) X.env)).all (fun x => !x.1) && (backToKw cpos (keywordEach [] X.env)).all (fun x => x.1.isSome) && decide ((e :: es).length + ([] : List Keyword).length + (if ([] : List Keyword).isEmpty then 0 else 1) < 30)) = true := by rfl)
    (hline : (apos.endLine == cpos.line) = true := by rfl) (hs : starEach (e :: es) X.env = (false, eval e X.env) :: starEach es X.env := by rfl) (hplain : (backTo cpos (starEach es X.env)).any (·.1) = false := by rfl) :
    PE X (.Call (.Attribute o name apos) (e :: es) [] cpos) (tBMT r to t) := by
  refine ⟨fun pins s σ H Q I h => wpAny_Call_method_late hbase hfew hline rfl (thn (ho.run pins s σ H _ I h) fun v s1 ⟨x, H1, I1, r1, ⟨p, ob, ys, ex, hd, hp⟩, q1⟩ => ?_)⟩
  subst ex
  cases (show v = Value.ref p from r1)
  obtain ⟨g, z, its, rv, o', g', c', _⟩ := (show ObjOk X.prog X.w H1 s1.heap p (.frz ob (.tup ys)) from I1.hok p _ hp)
  refine ⟨"tuple", id, PySem.F.plainAttrs_tuple, slot, hty, ⟨o', g', c'⟩, fun a e => by cases e; exact ⟨ob, g, hd⟩, ?_⟩
  have hA := ha.run cpos pins s1 σ H1 _ I1 q1
  rw [hs] at hA ⊢
  refine Calls.callWith_builtin (by show (false || (backTo cpos (starEach es X.env)).any (·.1)) = false; rw [hplain] <;> rfl) (Calls.evalArgs_plain (thn hA fun us s2 ⟨vs, H2, I2, r2, q2⟩ => ?_))
  exact hm pins s2 σ H2 (.ref p) vs (.ref p) us Q I2 rfl r2 q2
end
end TR
namespace TR
open PySem PySem.Spec PyProof.Rows L2
section
variable {prog : Program} {w : World} {A : Around} {E : Value → Shared → Prop} {s : Shared}
/-- what a tuple is collected into -/
theorem collect_tup {t : Addr} {vs : List Value} {Q : List Value → Shared → Prop} (ht : IsTup s.heap t vs.toArray) (h : Q vs { s with heap := (s.heap.push (seqObj "list" #[] 0)).update s.heap.objs.size (Obj.mapSeq (· ++ vs.toArray)) }) (hsz : vs.length ≤ sizeLine) : wpAny (model prog w) A (collect (.ref t)) Q E s := by
  obtain ⟨o, ho, hc, n, hd⟩ := id ht
  have ho2 : (s.heap.push (seqObj "list" #[] 0)).get? t = some o := Heap.get?_push_of_some _ ho
  unfold collect; refine wpAny_bind (wpAny_runValue (codeAny_builtin entry_proto_collect' ?_))
  show wpAny _ _ (do again (.builtin "list.__iadd__" ⟨[← newList [], .ref t], []⟩)) _ _ s
  refine wpAny_bind (wpAny_newList (wpAny_pure ⟨Code.quiet_builtin _ (by decide +kernel), codeAny_builtin entry_list_iadd' ?_⟩) (Nat.zero_le _))
  show wpAny _ _ (Builtin.List.listExtendWith (.ref s.heap.objs.size) (.ref t) (.ref s.heap.objs.size)) _ _ { s with heap := s.heap.push (seqObj "list" #[] 0) }
  unfold Builtin.List.listExtendWith; refine wpAny_bind (wpAny_typeOf (T := "tuple") ⟨o, ho2, hc⟩ ?_)
  have hy : (Value.type "tuple" == Value.type "tuple") = true := rfl
  rw [if_pos (by rw [hy]; simp)]; refine wpAny_bind (listItems_at ho2 hd ?_)
  refine wpAny_bind (listItems_at (xs := #[]) (n := 0) (Heap.get?_push_size _ rfl) rfl ?_); rw [if_neg (by simp)]
  refine wpAny_bind (listUpdate_at (xs := #[]) (n := 0) (Heap.get?_push_size _ rfl) rfl (wpAny_pure ?_) (Nat.zero_le _) (by show (#[] ++ vs.toArray).size ≤ sizeLine + 1; simp only [Array.size_append, List.size_toArray, List.length_nil]; omega))
  show wpAny (model prog w) A (load s.heap.objs.size >>= fun ob => match ob.data with | .seq xs _ => pure xs.toList | _ => unsupported "internal:collect") Q E { s with heap := (s.heap.push (seqObj "list" #[] 0)).update s.heap.objs.size (Obj.mapSeq (· ++ vs.toArray)) }
  refine wpAny_bind (wpAny_load (get?_update_seq (Heap.get?_push_size _ rfl) _) ?_)
  show wpAny _ _ (pure ((#[] : Array Value) ++ vs.toArray).toList) Q E _; rw [show ((#[] : Array Value) ++ vs.toArray).toList = vs by simp]; exact wpAny_pure h
/-- sorted of a tuple -/
theorem sorted_tupO {t : Addr} {vs : List Value} {ltv : Value → Value → Bool} {Q : Value → Shared → Prop} (O : SrtO.Swo ltv) (ht : IsTup s.heap t vs.toArray) (hz : vs.length ≤ sizeLine)
    (hS : 2 ≤ vs.length → ∀ (g : Heap) (a : Addr), g.get? a = some (seqObj "list" vs.toArray 0) → (∀ b o, s.heap.get? b = some o → b ≠ a ∧ g.get? b = some o) → SrtO.SortableO prog w A.in1.in1 { s with heap := g } a vs ltv)
    (h : ∀ out : List Value, SrtO.Srtd ltv out → SrtO.Stb ltv out vs → Q (.ref (s.heap.objs.size + 1)) { s with heap := sortedAll s.heap vs out.toArray }) : wpAny (model prog w) A (call (.builtin "sorted") [.ref t]) Q E s := by
  refine Calls.call_function_entry kind_sorted plain_sorted entry_sorted (args_sorted1 _) ?_
  unfold Builtin.«sorted»; refine wpAny_bind (m := checkCount "sorted" 1 1 _) (wpAny_pure (wpAny_bind (collect_tup ht (wpAny_bind (wpAny_newList ?_ hz)) hz)))
  have hn : ((s.heap.push (seqObj "list" #[] 0)).update s.heap.objs.size (Obj.mapSeq (· ++ vs.toArray))).objs.size = s.heap.objs.size + 1 := by rw [Heap.size_update]; simp [Heap.push]
  have hL : (((s.heap.push (seqObj "list" #[] 0)).update s.heap.objs.size (Obj.mapSeq (· ++ vs.toArray))).push (seqObj "list" vs.toArray 0)).get? (s.heap.objs.size + 1) = some (seqObj "list" vs.toArray 0) := hn ▸ Heap.get?_push_size _ rfl
  have kp : ∀ b o, s.heap.get? b = some o → b ≠ s.heap.objs.size + 1 ∧ (((s.heap.push (seqObj "list" #[] 0)).update s.heap.objs.size (Obj.mapSeq (· ++ vs.toArray))).push (seqObj "list" vs.toArray 0)).get? b = some o := fun b o q =>
    ⟨Nat.ne_of_lt (Nat.lt_succ_of_lt (Heap.lt_size q)), Heap.get?_push_of_some _ (by rw [Heap.get?_update_ne _ _ _ _ (Nat.ne_of_lt (Heap.lt_size q))]; exact Heap.get?_push_of_some _ q)⟩
  show wpAny _ _ _ _ _ { s with heap := ((s.heap.push (seqObj "list" #[] 0)).update s.heap.objs.size (Obj.mapSeq (· ++ vs.toArray))).push (seqObj "list" vs.toArray 0) }; rw [hn]
  refine wpAny_bind (wpAny_holding (wpAny_call_entry slot_list_sort ⟨_, hL, rfl⟩ entry_list_sort (SrtO.list_sort_ord O hL hz (fun h2 => hS h2 _ _ hL kp) fun out a b => ⟨_, rfl, wpAny_pure ⟨_, rfl, h out a b⟩⟩) (args_list_sort _)))
end
section
variable {X : Cx}
/-- sorted(t), t a tuple of ints -/
def rSortedTI (K : PySem.W.Frag) : List V → Hp → VK → Prop := fun vs H Q => ∃ (a : Addr) (ns : List Int), vs = [V.ref a] ∧ SqT K H a (ns.map V.int) ∧ ∀ (ms : List Int) (p : Addr), ms.Perm ns → ms.Pairwise (· ≤ ·) → H p = none → Q (.ref p) (upd H p (.lst (ms.map V.int)))
theorem cr_sortedTI : CallR X (.builtin "sorted") (rSortedTI X.K) := by
  intro pins s σ H vs us Q I r ⟨a, ns, ev, hs, q⟩
  subst ev
  obtain ⟨its, rv, ht, hz⟩ := I.tuple hs
  rw [Vals.ref1 r]; have hi := rv.ints
  refine sorted_tupO SrtO.swo_int ht (by rw [← rv.length]; exact hz) (fun h2 g a' _ _ => SrtO.ints_sortable hi h2) fun out h1 h2 => ?_
  obtain ⟨k1, k2, k3⟩ := SrtO.ints_out hi h1 h2; obtain ⟨ep, he⟩ := PyProof.Rows.sortedAll_at s.heap its out.toArray
  have hl : ((out.map SrtO.iv).map V.int).length ≤ sizeLine := by rw [List.length_map, k2.length_eq]; rw [List.length_map] at hz; exact hz
  exact ⟨.ref _, upd H (s.heap.objs.size + 1) (.lst ((out.map SrtO.iv).map V.int)), I.laid (t' := s.toks) (fun _ _ => PyProof.Rows.sortedAll_old) (Nat.le_succ _) ⟨hl, out, ep, vals_of_ints k1, he⟩, rfl, q _ _ k2 k3 (I.hok.fresh (Nat.le_succ _))⟩
end
end TR
namespace TR
open PySem PySem.Spec PyProof.Rows L2
section
variable {prog : Program} {w : World} {A : Around} {E : Value → Shared → Prop} {s : Shared}
/-- two tuples of ints, of any lengths, compared in a sort -/
theorem lex_any {b fin : Bool} {Q : Bool → Shared → Prop} {xs ys : List Value} {ns ms : List Int} (i : Nat) (hx : IntsAre xs ns) (hy : IntsAre ys ms) (hf : fin = decide (ns.length < ms.length))
    (h : Q (HT.lexLt ns ms) s) : PySem.W.KatLex prog w A b fin Q (xs.zip ys) i s := by
  induction hx generalizing ys ms i with
  | nil =>
    cases hy with
    | nil =>
      rw [HT.lexLt_nil_nil] at h
      rw [hf]
      exact PySem.W.kat_nil h
    | cons q u hy =>
      rw [HT.lexLt_nil_cons] at h
      have e : fin = true := by rw [hf]; exact decide_eq_true (Nat.succ_pos _)
      rw [e]
      exact PySem.W.kat_nil h
  | @cons p t xs ns hx ih =>
    cases hy with
    | nil =>
      rw [HT.lexLt_cons_nil] at h
      have e : fin = false := by rw [hf]; exact decide_eq_false (Nat.not_lt_zero _)
      rw [e]
      exact PySem.W.kat_nil h
    | @cons q u ys ms hy =>
      have hf' : fin = decide (ns.length < ms.length) := by
        rw [hf]
        refine decide_eq_decide.mpr ?_
        rw [List.length_cons, List.length_cons]
        omega
      show PySem.W.KatLex prog w A b fin Q ((Value.int p t, Value.int q u) :: xs.zip ys) i s
      refine PySem.W.kat_cons (wpAny_eqBool_int ?_)
      rw [HT.lexLt_cons] at h
      by_cases e : p = q
      · subst e
        rw [beq_self_eq_true]
        rw [if_pos rfl] at h
        refine PySem.W.kat_yes ?_
        first
          | exact ih (i + 1) hy hf' h
          | exact ih _ _ (i + 1) hy hf' h
      · rw [show (p == q) = false from beq_eq_false_iff_ne.mpr e]
        rw [if_neg e] at h
        exact PySem.W.kat_no (TS.oneLt_ints _ h)
theorem tups_firsts {h : Heap} {k : Value → List Int} : ∀ {vs : List Value}, (∀ v ∈ vs, TS.TupInts h v (k v) ∧ k v ≠ []) → ∃ fs : List Value, PySem.W.KatTups h vs fs ∧ fs.length = vs.length ∧ ∀ f ∈ fs, ∃ x t, f = Value.int x t
  | [], _ => ⟨[], PySem.W.KatTups.nil, rfl, fun _ hm => by simp at hm⟩
  | v :: vs, hp => by
    obtain ⟨fs, h1, h2, h3⟩ := tups_firsts (vs := vs) fun v' hm => hp v' (List.mem_cons_of_mem _ hm)
    obtain ⟨⟨a, xs, e, ⟨o, ho, hc, n, hd⟩, i⟩, ne⟩ := hp v List.mem_cons_self
    generalize k v = ns at i ne
    subst e
    obtain ⟨x, t, hx⟩ : ∃ x t, xs[0]? = some (Value.int x t) := by
      rw [← Array.getElem?_toList]
      clear hd
      generalize xs.toList = l at i ⊢
      cases i with
      | nil => exact absurd rfl ne
      | cons x t _ => exact ⟨x, t, rfl⟩
    refine ⟨.int x t :: fs, PySem.W.KatTups.cons ho hc hd hx h1, by rw [List.length_cons, List.length_cons, h2], fun f hm => ?_⟩
    rcases List.mem_cons.mp hm with rfl | hm
    · exact ⟨x, t, rfl⟩
    · exact h3 f hm
theorem tups_cmp {vs : List Value} {k : Value → List Int} (hp : ∀ v ∈ vs, TS.TupInts s.heap v (k v) ∧ k v ≠ []) : SrtO.Cmp prog w A s (tuples' true) (fun p => p.1 ∈ vs) (SrtO.lt2 fun v u => HT.lexLt (k v) (k u)) := by
  intro p q hm hm'
  obtain ⟨h1, _⟩ := hp _ hm
  obtain ⟨h2, _⟩ := hp _ hm'
  show wpAny (model prog w) A (keyLt' (tuples' true) p.1 q.1) (fun r s' => s' = s ∧ r = HT.lexLt (k p.1) (k q.1)) (fun _ _ => False) s
  generalize k p.1 = ns at h1 ⊢
  generalize k q.1 = ms at h2 ⊢
  obtain ⟨a, xs, e, ⟨o, ho, hc, n, hd⟩, i⟩ := h1
  obtain ⟨a', xs', e', ⟨o', ho', hc', n', hd'⟩, i'⟩ := h2
  rw [e, e']
  refine PySem.W.kat_lt ho hd ho' hd' (lex_any 0 i i' ?_ ⟨rfl, rfl⟩)
  refine decide_eq_decide.mpr ?_
  rw [← Array.length_toList, ← Array.length_toList, i.length, i'.length]
theorem tups_sortable {a : Addr} {vs : List Value} {k : Value → List Int} (h0 : 0 < vs.length) (hp : ∀ v ∈ vs, TS.TupInts s.heap v (k v) ∧ k v ≠ []) (ha : ∀ o, s.heap.get? a = some o → o.cls ≠ .type "tuple") : SrtO.SortableO prog w A s a vs fun v u => HT.lexLt (k v) (k u) := by
  intro h' keep
  have hp' : ∀ v ∈ vs, TS.TupInts h' v (k v) ∧ k v ≠ [] := fun v hm => ⟨(hp v hm).1.keeps fun b o e c => keep b o (fun z => by subst z; exact ha o e c) e, (hp v hm).2⟩
  obtain ⟨fs, h1, h2, h3⟩ := tups_firsts hp'
  refine ⟨tuples' true, fun Q E hq => ?_, tups_cmp hp'⟩
  refine PySem.W.kat_kind (T := .type "int") h1 (by omega) (fun f hm => ?_) (by rfl) ?_
  · obtain ⟨x, t, rfl⟩ := h3 f hm
    exact PySem.W.Looks.now
  · have e : (Value.type "int" != Value.type "tuple") = true := by first | decide +kernel | rfl | decide
    rw [e]
    exact hq
end
/-- x before y, by their ints -/
abbrev ltT (k : V → List Int) (x y : V) : Bool := HT.lexLt (k x) (k y)
/-- sorted(xs), xs a list of tuples of ints, none empty, of any lengths: a new list, sorted, equal ones in their order -/
def rSortedT (K : PySem.W.Frag) : List V → Hp → VK → Prop := fun vs H Q => ∃ (a : Addr) (xs : List V) (k : V → List Int), vs = [V.ref a] ∧ SqL K H a xs ∧ (∀ x ∈ xs, k x ≠ [] ∧ ∃ t, x = V.ref t ∧ Rd H t (.tup ((k x).map V.int))) ∧
  ∀ ys p, SrtO.Srtd (ltT k) ys → SrtO.Stb (ltT k) ys xs → H p = none → Q (.ref p) (upd H p (.lst ys))
section
variable {X : Cx}
theorem cr_sortedT : CallR X (.builtin "sorted") (rSortedT X.K) := by
  intro pins s σ H vs us Q I r h
  obtain ⟨a, xs, k, rfl, hs, hx, q⟩ := h
  obtain ⟨its, rv, hl, hz⟩ := I.list hs
  obtain ⟨u, rfl, ru⟩ := vals1 r
  obtain rfl : u = Value.ref a := ru
  obtain ⟨e1, e2⟩ := refs_back rv fun x m => by
    obtain ⟨_, t, e, _⟩ := hx x m
    exact ⟨t, e⟩
  have hp : ∀ v ∈ its, TS.TupInts s.heap v (k (backV v)) ∧ k (backV v) ≠ [] := fun v hv => by
    obtain ⟨t, rfl⟩ := e2 v hv
    have hm : V.ref t ∈ xs := by rw [e1]; exact List.mem_map.mpr ⟨_, hv, rfl⟩
    obtain ⟨ne, t', e, ht⟩ := hx _ hm
    cases e
    obtain ⟨_, its2, r2, it⟩ := ht.ok I.hok
    refine ⟨⟨t, its2.toArray, rfl, it, ?_⟩, ne⟩
    exact r2.ints
  refine SrtO.sorted_ord (NtL.swo_lexL fun u => k (backV u)) hl.isList (by rw [← rv.length]; exact hz) (fun h2 h₁ a' ha' kk => ?_) fun out h1 h2 => ?_
  · refine tups_sortable (s := { s with heap := h₁ }) (by omega) (fun v hm => ⟨(hp v hm).1.keeps fun b o e _ => (kk b o e).2, (hp v hm).2⟩) fun o e => ?_
    have e' : some o = some (seqObj "list" its.toArray 0) := e.symm.trans ha'
    cases e'
    intro c
    exact absurd (Value.type.inj c) (by decide)
  · have h3 : ∀ u ∈ out, ∃ a, u = Value.ref a := fun u hu => e2 u (h2.perm.mem_iff.mp hu)
    have hb : SrtO.Stb (ltT k) (out.map backV) xs := by
      rw [e1]
      exact SrtO.Stb.map (NtL.swo_lexL k) backV h2
    obtain ⟨ep, he'⟩ := PyProof.Rows.sortedAll_at s.heap its out.toArray
    have hlen : (out.map backV).length ≤ sizeLine := by
      rw [hb.len]
      exact hz
    exact ⟨.ref _, upd H (s.heap.objs.size + 1) (.lst (out.map backV)), I.laid (t' := s.toks) (fun _ _ => PyProof.Rows.sortedAll_old) (Nat.le_succ _) ⟨hlen, out, ep, vals_back h3, he'⟩, rfl, q _ _ (SrtO.srtd_map h1) hb (I.hok.fresh (Nat.le_succ _))⟩
end
end TR
namespace TR
open PySem PySem.Spec PyProof.Rows L2
/-! ### values of any kind, as data; ban: where no list of them stands -/
mutual
def Rp (H : Hp) (ban : List Addr) : PyData → V → Prop
  | .none, v => v = .non
  | .bool b, v => v = .bl b
  | .int i, v => v = .int i
  | .str x, v => v = .str x
  | .list ds, v => ∃ a xs, v = .ref a ∧ H a = some (.lst xs) ∧ a ∉ ban ∧ RpAll H ban ds xs
  | .tuple ds, v => ∃ a xs, v = .ref a ∧ TF H a xs ∧ RpAll H ban ds xs
  | .dict kvs, v => kvs = [] ∧ ∃ a, v = .ref a ∧ H a = some (.dK [])
def RpAll (H : Hp) (ban : List Addr) : List PyData → List V → Prop
  | [], xs => xs = []
  | d :: ds, xs => ∃ v r, xs = v :: r ∧ Rp H ban d v ∧ RpAll H ban ds r
end
mutual
theorem Rp.mv {H H' : Hp} {ban : List Addr} (mL : ∀ a xs, a ∉ ban → H a = some (.lst xs) → H' a = some (.lst xs)) (mT : ∀ a xs, TF H a xs → TF H' a xs) (mD : ∀ a, H a = some (.dK []) → H' a = some (.dK [])) : ∀ (d : PyData) (v : V), Rp H ban d v → Rp H' ban d v
  | .none, _, h => h
  | .bool _, _, h => h
  | .int _, _, h => h
  | .str _, _, h => h
  | .list ds, _, h => by
    obtain ⟨a, xs, e, h1, h2, h3⟩ := h
    exact ⟨a, xs, e, mL a xs h2 h1, h2, RpAll.mv mL mT mD ds xs h3⟩
  | .tuple ds, _, h => by
    obtain ⟨a, xs, e, h1, h3⟩ := h
    exact ⟨a, xs, e, mT a xs h1, RpAll.mv mL mT mD ds xs h3⟩
  | .dict kvs, _, h => by
    obtain ⟨e0, a, e, h1⟩ := h
    exact ⟨e0, a, e, mD a h1⟩
theorem RpAll.mv {H H' : Hp} {ban : List Addr} (mL : ∀ a xs, a ∉ ban → H a = some (.lst xs) → H' a = some (.lst xs)) (mT : ∀ a xs, TF H a xs → TF H' a xs) (mD : ∀ a, H a = some (.dK []) → H' a = some (.dK [])) : ∀ (ds : List PyData) (xs : List V), RpAll H ban ds xs → RpAll H' ban ds xs
  | [], _, h => h
  | d :: ds, _, h => by
    obtain ⟨v, r, e, h1, h2⟩ := h
    exact ⟨v, r, e, Rp.mv mL mT mD d v h1, RpAll.mv mL mT mD ds r h2⟩
end
theorem rd_same {H H' : Hp} {a : Addr} {u : HO} (s : Same H H') (h : Rd H a u) : Rd H' a u := by
  rcases h with h | ⟨o, h⟩
  · exact .inl (s _ _ h)
  · exact .inr ⟨o, s _ _ h⟩
theorem Rp.same {H H' : Hp} {ban : List Addr} {d : PyData} {v : V} (h : Rp H ban d v) (s : Same H H') : Rp H' ban d v := Rp.mv (fun a xs _ e => s _ _ e) (fun a xs e => tf_same s e) (fun a e => s _ _ e) d v h
theorem RpAll.same {H H' : Hp} {ban : List Addr} {ds : List PyData} {xs : List V} (h : RpAll H ban ds xs) (s : Same H H') : RpAll H' ban ds xs := RpAll.mv (fun a xs _ e => s _ _ e) (fun a xs e => tf_same s e) (fun a e => s _ _ e) ds xs h
theorem Rp.keep {H H' : Hp} {ban : List Addr} {d : PyData} {v : V} {k p q : Addr} {n : Nat} (h : Rp H ban d v) (D : Deck H k p q n) (s : Keep k p H H') (b1 : k ∈ ban) (b2 : p ∈ ban) : Rp H' ban d v := by
  obtain ⟨x, y, c, e1⟩ := D.hd
  obtain ⟨zs, e2⟩ := D.hp
  refine Rp.mv (fun a xs hn e => s _ _ e (fun z => hn (z ▸ b1)) (fun z => hn (z ▸ b2))) (fun a xs e => e.keep D s) (fun a e => s _ _ e (ne_of e e1 (by intro z; cases z)) (ne_of e e2 (by intro z; cases z))) d v h
theorem RpAll.len {H : Hp} {ban : List Addr} : ∀ {ds : List PyData} {xs : List V}, RpAll H ban ds xs → xs.length = ds.length
  | [], _, h => by rw [show _ = [] from h]; rfl
  | d :: ds, _, h => by
    obtain ⟨v, r, rfl, _, h2⟩ := h
    rw [List.length_cons, List.length_cons, RpAll.len h2]
theorem RpAll.get {H : Hp} {ban : List Addr} : ∀ {ds : List PyData} {xs : List V}, RpAll H ban ds xs → ∀ {i : Nat} {x : V}, xs[i]? = some x → ∃ d, ds[i]? = some d ∧ Rp H ban d x
  | [], _, h, i, x, e => by rw [show _ = [] from h] at e; simp at e
  | d :: ds, _, h, i, x, e => by
    obtain ⟨v, r, rfl, h1, h2⟩ := h
    cases i with
    | zero =>
      cases (Option.some.inj e)
      exact ⟨d, rfl, h1⟩
    | succ i => exact RpAll.get h2 e
theorem RpAll.app {H : Hp} {ban : List Addr} : ∀ {ds es : List PyData} {xs ys : List V}, RpAll H ban ds xs → RpAll H ban es ys → RpAll H ban (ds ++ es) (xs ++ ys)
  | [], _, _, _, h, g => by rw [show _ = [] from h]; exact g
  | d :: ds, _, _, _, h, g => by
    obtain ⟨v, r, rfl, h1, h2⟩ := h
    exact ⟨v, _, rfl, h1, RpAll.app h2 g⟩
theorem RpAll.take {H : Hp} {ban : List Addr} : ∀ {ds : List PyData} {xs : List V} (k : Nat), RpAll H ban ds xs → RpAll H ban (ds.take k) (xs.take k)
  | _, _, 0, _ => rfl
  | [], _, k + 1, h => by rw [show _ = [] from h]; rfl
  | d :: ds, _, k + 1, h => by
    obtain ⟨v, r, rfl, h1, h2⟩ := h
    exact ⟨v, _, rfl, h1, RpAll.take k h2⟩
theorem RpAll.drop {H : Hp} {ban : List Addr} : ∀ {ds : List PyData} {xs : List V} (k : Nat), RpAll H ban ds xs → RpAll H ban (ds.drop k) (xs.drop k)
  | _, _, 0, h => h
  | [], _, k + 1, h => by rw [show _ = [] from h]; rfl
  | d :: ds, _, k + 1, h => by
    obtain ⟨v, r, rfl, h1, h2⟩ := h
    exact RpAll.drop k h2
theorem RpAll.rev {H : Hp} {ban : List Addr} : ∀ {ds : List PyData} {xs : List V}, RpAll H ban ds xs → RpAll H ban ds.reverse xs.reverse
  | [], _, h => by rw [show _ = [] from h]; rfl
  | d :: ds, _, h => by
    obtain ⟨v, r, rfl, h1, h2⟩ := h
    rw [List.reverse_cons, List.reverse_cons]
    exact RpAll.app (RpAll.rev h2) ⟨v, [], rfl, h1, rfl⟩
theorem RpAll.ints {H : Hp} {ban : List Addr} : ∀ ns : List Int, RpAll H ban (ns.map PyData.int) (ns.map V.int)
  | [] => rfl
  | n :: r => ⟨_, _, rfl, rfl, RpAll.ints r⟩
/-! ### what is small enough to be shown -/
def leafOk (L : Nat) : PyData → Prop
  | .none => True
  | .bool _ => True
  | .int i => i.natAbs ≤ 10 ^ 59 + L
  | .str x => x.length ≤ 69 ∧ ∀ c ∈ x.cps.toList, c < 16 ^ 8
  | _ => False
def Wf (L : Nat) : Nat → PyData → Prop
  | 0, d => leafOk L d
  | D + 1, d => leafOk L d ∨ d = .dict [] ∨ ∃ ds, (d = .list ds ∨ d = .tuple ds) ∧ ds.length ≤ L ∧ ∀ e ∈ ds, Wf L D e
theorem leafOk.mono {L L' : Nat} (h : L ≤ L') : ∀ {d : PyData}, leafOk L d → leafOk L' d
  | .none, _ => trivial
  | .bool _, _ => trivial
  | .int i, g => Nat.le_trans g (Nat.add_le_add_left h _)
  | .str _, g => g
theorem Wf.mono {L L' : Nat} (h : L ≤ L') : ∀ {D D' : Nat} {d : PyData}, D ≤ D' → Wf L D d → Wf L' D' d
  | 0, 0, _, _, g => leafOk.mono h g
  | 0, _ + 1, _, _, g => .inl (leafOk.mono h g)
  | _ + 1, 0, _, k, _ => absurd k (by omega)
  | D + 1, D' + 1, _, k, g => by
    rcases g with g | g | ⟨ds, e, l, c⟩
    · exact .inl (leafOk.mono h g)
    · exact .inr (.inl g)
    · exact .inr (.inr ⟨ds, e, Nat.le_trans l h, fun x hx => Wf.mono h (by omega) (c x hx)⟩)
def bnd : Nat → Nat
  | 0 => 700
  | D + 1 => 3 + 11 * (bnd D + 2)
theorem bnd_ge : ∀ D, 700 ≤ bnd D
  | 0 => Nat.le_refl _
  | D + 1 => by
    have := bnd_ge D
    show 700 ≤ 3 + 11 * (bnd D + 2)
    omega
theorem small_int {L : Nat} (h : L ≤ 41) {i : Int} (g : i.natAbs ≤ 10 ^ 59 + L) : i.natAbs < 10 ^ 60 := by
  have e : (10 : Nat) ^ 60 = 10 * 10 ^ 59 := by decide
  have e2 : (41 : Nat) < 10 ^ 59 := by decide
  omega
theorem small_log {i : Int} (g : i.natAbs < 10 ^ 60) : i.natAbs.log2 < 1920 := by
  by_cases h : i.natAbs = 0
  · rw [h]; decide
  · refine (Nat.log2_lt h).mpr (Nat.lt_trans g (by decide +kernel))
theorem leaf_shown {L : Nat} (h : L ≤ 41) : ∀ {d : PyData}, leafOk L d → d.shown.length ≤ 700 ∧ d.showable = true ∧ d.depth = 0
  | .none, _ => ⟨by decide +kernel, rfl, rfl⟩
  | .bool b, _ => ⟨by cases b <;> decide +kernel, rfl, rfl⟩
  | .int i, g => by
    have g2 := small_int h g
    refine ⟨?_, decide_eq_true (small_log g2), rfl⟩
    show (Str.ofString (toString i)).length ≤ 700
    have := int_text_length_le10 (k := 60) (by decide) g2
    rw [PySem.ofString_length]
    omega
  | .str x, g => by
    refine ⟨?_, rfl, rfl⟩
    show (reprText x).length ≤ 700
    have := StrLaws.reprText_len x g.2
    have := g.1
    omega
theorem piled_le {B : Nat} : ∀ ts : List Str, (∀ t ∈ ts, t.length ≤ B) → piled ts ≤ ts.length * (B + 2)
  | [], _ => Nat.zero_le _
  | t :: r, h => by
    have := piled_le r fun x hx => h x (List.mem_cons_of_mem _ hx)
    have := h t (List.mem_cons_self ..)
    rw [piled_cons, List.length_cons, Nat.succ_mul]
    omega
theorem text_le : ∀ (ts : List Str) (k : Nat) (acc : Str), (textFrom k acc ts).length ≤ acc.length + piled ts
  | [], _, _ => Nat.le_refl _
  | t :: r, k, acc => by
    have := text_le r (k + 1) (acc ++ (if k > 0 then ", " else "" : String) ++ t)
    rw [Str.length_append, Str.length_append] at this
    have e : ((if k > 0 then ", " else "" : String) : Str).length ≤ 2 := by
      split <;> decide +kernel
    rw [piled_cons]
    show (textFrom (k + 1) (acc ++ (if k > 0 then ", " else "" : String) ++ t) r).length ≤ _
    omega
theorem list_le (ts : List Str) : (listText ts).length ≤ 2 + piled ts := by
  have := text_le ts 0 "["
  unfold listText
  rw [Str.length_append]
  have e1 : ("[" : Str).length = 1 := by decide +kernel
  have e2 : ("]" : Str).length = 1 := by decide +kernel
  omega
theorem tup_le (ts : List Str) : (tupleText ts).length ≤ 3 + piled ts := by
  unfold tupleText
  rw [Str.length_append, Str.length_append]
  have e1 : ("(" : Str).length = 1 := by decide +kernel
  have e2 : ((if (ts.length == 1) = true then ",)" else ")" : String) : Str).length ≤ 2 := by
    split <;> decide +kernel
  have e3 : (Str.join ", " ts).length ≤ piled ts := by
    cases ts with
    | nil => decide +kernel
    | cons t r =>
      have := join_length_add (t :: r) (by simp)
      omega
  omega
theorem shownAll_len : ∀ ds : List PyData, (PyData.shownAll ds).length = ds.length
  | [] => rfl
  | d :: r => by
    show (PyData.shownAll r).length + 1 = r.length + 1
    rw [shownAll_len r]
theorem shownAll_mem : ∀ (ds : List PyData) (t : Str), t ∈ PyData.shownAll ds → ∃ d ∈ ds, t = d.shown
  | [], _, h => by cases h
  | d :: r, t, h => by
    rcases List.mem_cons.mp h with e | h
    · exact ⟨d, List.mem_cons_self .., e⟩
    · obtain ⟨x, hx, e⟩ := shownAll_mem r t h
      exact ⟨x, List.mem_cons_of_mem _ hx, e⟩
theorem showAll : ∀ ds : List PyData, (∀ d ∈ ds, d.showable = true) → PyData.showableAll ds = true
  | [], _ => rfl
  | d :: r, h => by
    show (d.showable && PyData.showableAll r) = true
    rw [h d (List.mem_cons_self ..), showAll r fun x hx => h x (List.mem_cons_of_mem _ hx)]
    rfl
theorem depAll {D : Nat} : ∀ ds : List PyData, (∀ d ∈ ds, d.depth ≤ D) → PyData.depthAll ds ≤ D
  | [], _ => Nat.zero_le _
  | d :: r, h => by
    show max d.depth (PyData.depthAll r) ≤ D
    exact Nat.max_le.mpr ⟨h d (List.mem_cons_self ..), depAll r fun x hx => h x (List.mem_cons_of_mem _ hx)⟩
theorem Wf.shown {L : Nat} (h : L ≤ 11) : ∀ {D : Nat} {d : PyData}, Wf L D d → d.shown.length ≤ bnd D ∧ d.showable = true ∧ d.depth ≤ D
  | 0, _, g => by
    obtain ⟨a, b, c⟩ := leaf_shown (by omega) g
    exact ⟨a, b, by omega⟩
  | D + 1, d, g => by
    have hb : 700 ≤ bnd (D + 1) := bnd_ge (D + 1)
    rcases g with g | rfl | ⟨ds, e, l, c⟩
    · obtain ⟨a, b, c⟩ := leaf_shown (by omega) g
      exact ⟨Nat.le_trans a hb, b, by omega⟩
    · exact ⟨Nat.le_trans (by decide +kernel) hb, rfl, by show 0 + 1 ≤ D + 1; omega⟩
    · have ih := fun x hx => Wf.shown h (c x hx)
      have p1 : piled (PyData.shownAll ds) ≤ 11 * (bnd D + 2) := by
        refine Nat.le_trans (piled_le (B := bnd D) _ fun t ht => ?_) ?_
        · obtain ⟨x, hx, rfl⟩ := shownAll_mem ds t ht
          exact (ih x hx).1
        · rw [shownAll_len]
          exact Nat.mul_le_mul_right _ (by omega)
      have p2 := showAll ds fun x hx => (ih x hx).2.1
      have p3 := depAll ds fun x hx => (ih x hx).2.2
      rcases e with rfl | rfl
      · refine ⟨?_, p2, ?_⟩
        · show (listText (PyData.shownAll ds)).length ≤ 3 + 11 * (bnd D + 2)
          have := list_le (PyData.shownAll ds)
          omega
        · show PyData.depthAll ds + 1 ≤ D + 1
          omega
      · refine ⟨?_, p2, ?_⟩
        · show (tupleText (PyData.shownAll ds)).length ≤ 3 + 11 * (bnd D + 2)
          have := tup_le (PyData.shownAll ds)
          omega
        · show PyData.depthAll ds + 1 ≤ D + 1
          omega
theorem bnd_small {D : Nat} (h : D ≤ 4) : bnd D ≤ sizeLine := by
  have e : bnd 4 ≤ sizeLine := by decide +kernel
  have m : ∀ a b, a ≤ b → bnd a ≤ bnd b := by
    intro a b hab
    induction hab with
    | refl => exact Nat.le_refl _
    | step _ ih =>
      refine Nat.le_trans ih ?_
      show bnd _ ≤ 3 + 11 * (bnd _ + 2)
      omega
  exact Nat.le_trans (m D 4 h) e
/-! ### how many parts, and how long shown -/
mutual
def sz : PyData → Nat
  | .none => 1
  | .bool _ => 1
  | .int _ => 1
  | .str _ => 1
  | .list ds => 1 + szAll ds
  | .tuple ds => 1 + szAll ds
  | .dict _ => 1
def szAll : List PyData → Nat
  | [] => 0
  | d :: r => sz d + szAll r
end
theorem szAll_app : ∀ ds es : List PyData, szAll (ds ++ es) = szAll ds + szAll es
  | [], es => by show szAll es = 0 + szAll es; omega
  | d :: r, es => by
    show sz d + szAll (r ++ es) = sz d + szAll r + szAll es
    rw [szAll_app r es]
    omega
theorem szAll_take (ds : List PyData) (k : Nat) : szAll (ds.take k) + szAll (ds.drop k) = szAll ds := by
  rw [← szAll_app, List.take_append_drop]
theorem szAll_cut (ds : List PyData) (a b : Nat) : szAll ((ds.drop a).take b) ≤ szAll ds := by
  have h1 := szAll_take ds a
  have h2 := szAll_take (ds.drop a) b
  omega
theorem szAll_rev : ∀ ds : List PyData, szAll ds.reverse = szAll ds
  | [] => rfl
  | d :: r => by
    rw [List.reverse_cons, szAll_app, szAll_rev r]
    show szAll r + (sz d + 0) = sz d + szAll r
    omega
theorem szAll_mem : ∀ {ds : List PyData} {d : PyData}, d ∈ ds → sz d ≤ szAll ds
  | e :: r, d, h => by
    show sz d ≤ sz e + szAll r
    rcases List.mem_cons.mp h with rfl | h
    · omega
    · have := szAll_mem h
      omega
theorem szAll_ints : ∀ ns : List Int, szAll (ns.map PyData.int) = ns.length
  | [] => rfl
  | n :: r => by
    show 1 + szAll (r.map PyData.int) = r.length + 1
    rw [szAll_ints r]
    omega
theorem szAll_le {B : Nat} : ∀ ds : List PyData, (∀ d ∈ ds, sz d ≤ B) → szAll ds ≤ ds.length * B
  | [], _ => Nat.zero_le _
  | d :: r, h => by
    have h1 := h d (List.mem_cons_self ..)
    have h2 := szAll_le r fun x hx => h x (List.mem_cons_of_mem _ hx)
    show sz d + szAll r ≤ (r.length + 1) * B
    rw [Nat.succ_mul]
    omega
def zb (L : Nat) : Nat → Nat
  | 0 => 1
  | D + 1 => 1 + L * zb L D
theorem leaf_sz {L : Nat} : ∀ {d : PyData}, leafOk L d → sz d = 1
  | .none, _ => rfl
  | .bool _, _ => rfl
  | .int _, _ => rfl
  | .str _, _ => rfl
theorem Wf.sz {L : Nat} : ∀ {D : Nat} {d : PyData}, Wf L D d → sz d ≤ zb L D
  | 0, _, g => Nat.le_of_eq (leaf_sz g)
  | D + 1, d, g => by
    have h1 : 1 ≤ zb L (D + 1) := by show 1 ≤ 1 + L * zb L D; omega
    rcases g with g | rfl | ⟨ds, e, l, c⟩
    · rw [leaf_sz g]; exact h1
    · exact h1
    · have h2 := szAll_le ds fun x hx => Wf.sz (c x hx)
      have h3 : ds.length * zb L D ≤ L * zb L D := Nat.mul_le_mul_right _ l
      rcases e with rfl | rfl
      · show 1 + szAll ds ≤ 1 + L * zb L D
        omega
      · show 1 + szAll ds ≤ 1 + L * zb L D
        omega
theorem piled_sz : ∀ ds : List PyData, (∀ d ∈ ds, d.shown.length + 5 ≤ 710 * TR.sz d) → piled (PyData.shownAll ds) ≤ 710 * szAll ds
  | [], _ => Nat.zero_le _
  | d :: r, h => by
    have h1 := h d (List.mem_cons_self ..)
    have h2 := piled_sz r fun x hx => h x (List.mem_cons_of_mem _ hx)
    show piled (d.shown :: PyData.shownAll r) ≤ 710 * (TR.sz d + szAll r)
    rw [piled_cons]
    omega
theorem Wf.shownS {L : Nat} (h : L ≤ 41) : ∀ {D : Nat} {d : PyData}, Wf L D d → d.shown.length + 5 ≤ 710 * TR.sz d ∧ d.showable = true ∧ d.depth ≤ D
  | 0, _, g => by
    obtain ⟨a, b, c⟩ := leaf_shown h g
    rw [leaf_sz g]
    exact ⟨by omega, b, by omega⟩
  | D + 1, d, g => by
    rcases g with g | rfl | ⟨ds, e, l, c⟩
    · obtain ⟨a, b, c⟩ := leaf_shown h g
      rw [leaf_sz g]
      exact ⟨by omega, b, by omega⟩
    · exact ⟨(by decide +kernel : _ + 5 ≤ 710 * 1), rfl, by show 0 + 1 ≤ D + 1; omega⟩
    · have ih := fun x hx => Wf.shownS h (c x hx)
      have p1 := piled_sz ds fun x hx => (ih x hx).1
      have p2 := showAll ds fun x hx => (ih x hx).2.1
      have p3 := depAll ds fun x hx => (ih x hx).2.2
      rcases e with rfl | rfl
      · refine ⟨?_, p2, ?_⟩
        · show (listText (PyData.shownAll ds)).length + 5 ≤ 710 * (1 + szAll ds)
          have := list_le (PyData.shownAll ds)
          omega
        · show PyData.depthAll ds + 1 ≤ D + 1
          omega
      · refine ⟨?_, p2, ?_⟩
        · show (tupleText (PyData.shownAll ds)).length + 5 ≤ 710 * (1 + szAll ds)
          have := tup_le (PyData.shownAll ds)
          omega
        · show PyData.depthAll ds + 1 ≤ D + 1
          omega
theorem shown_fits {d : PyData} {S : Nat} (h : d.shown.length + 5 ≤ 710 * TR.sz d) (g : TR.sz d ≤ S) (k : S ≤ 20000) : d.shown.length ≤ sizeLine := by
  rw [sizeLine_eq]
  omega
end TR
namespace TR
open PySem PySem.Spec PyProof.Rows L2
section
variable {X : Cx} {pins : List (Addr × Obj)} {σ : L2.St} {H : Hp} {s : Shared}
mutual
theorem Rp.reads {ban : List Addr} (hb : sysModules ∈ ban) (I : Inv X pins σ H s) : ∀ (d : PyData) (v : V) (u : Value), Rp H ban d v → RelV v u → ∃ as, Reads s.heap u d as ∧ sysModules ∉ as
  | .none, _, _, h, r => by cases (show _ = V.non from h); cases r; exact ⟨_, .none, by simp⟩
  | .bool b, _, _, h, r => by cases (show _ = V.bl b from h); cases r; exact ⟨_, .bool b, by simp⟩
  | .int i, _, _, h, r => by cases (show _ = V.int i from h); obtain ⟨t, rfl⟩ := r; exact ⟨_, .int i t, by simp⟩
  | .str x, _, _, h, r => by cases (show _ = V.str x from h); obtain ⟨t, rfl⟩ := r; exact ⟨_, .str x t, by simp⟩
  | .list ds, _, _, h, r => by
    obtain ⟨a, xs, rfl, h1, h2, h3⟩ := h
    cases r
    obtain ⟨z, its, n, rv, e⟩ := (show ObjOk X.prog X.w H s.heap a (.lst xs) from I.hok a _ h1)
    obtain ⟨as, g, m⟩ := RpAll.reads hb I ds xs its h3 rv
    exact ⟨a :: as, .list e rfl rfl (by simpa using g), by simp only [List.mem_cons, not_or]; exact ⟨fun e => h2 (e ▸ hb), m⟩⟩
  | .tuple ds, _, _, h, r => by
    obtain ⟨a, xs, rfl, h1, h3⟩ := h
    cases r
    obtain ⟨z, its, rv, o, e, c, n, hd⟩ := h1.rd.ok I.hok
    obtain ⟨as, g, m⟩ := RpAll.reads hb I ds xs its h3 rv
    exact ⟨as, .tuple e c hd (by simpa using g), m⟩
  | .dict kvs, _, _, h, r => by
    obtain ⟨rfl, a, rfl, h1⟩ := h
    cases r
    obtain ⟨z, hs, vs, kv, o, es, ep, e, ex, hd, _, ps, _⟩ := dk_of I.hok h1
    cases kv
    have hes : es = #[] := by
      cases es with
      | mk l =>
        cases (show Pairs _ l [] from ps)
        rfl
    subst hes
    refine ⟨[a], .dict (as := []) (bs := []) e ex.1 hd .nil .nil, fun m => ?_⟩
    have e2 : sysModules = a := List.mem_singleton.mp m
    rw [e2] at hs
    exact absurd hs (by simp)
theorem RpAll.reads {ban : List Addr} (hb : sysModules ∈ ban) (I : Inv X pins σ H s) : ∀ (ds : List PyData) (xs : List V) (us : List Value), RpAll H ban ds xs → Vals xs us → ∃ as, ReadsAll s.heap us ds as ∧ sysModules ∉ as
  | [], _, _, h, r => by cases (show _ = [] from h); cases r; exact ⟨_, .nil, by simp⟩
  | d :: ds, _, _, h, r => by
    obtain ⟨v, t, rfl, h1, h2⟩ := h
    cases r with
    | cons r1 r2 =>
      obtain ⟨as, q1, m1⟩ := Rp.reads hb I d _ _ h1 r1
      obtain ⟨bs, q2, m2⟩ := RpAll.reads hb I ds _ _ h2 r2
      exact ⟨as ++ bs, .cons q1 q2, by simp only [List.mem_append, not_or]; exact ⟨m1, m2⟩⟩
end
end
section
variable {X : Cx}
/-- repr(x), x of any kind -/
theorem call_reprD (hg : X.A.guards = some []) (hu : X.A.units + 64 < cLine) : CallR X (.builtin "repr") (fun xs H Q => ∃ x d ban, xs = [x] ∧ sysModules ∈ ban ∧ Rp H ban d x ∧ d.showable = true ∧ d.depth ≤ 50 ∧ d.shown.length ≤ sizeLine ∧ Q (.str d.shown) H) := by
  intro pins s σ H xs us Q I r ⟨x, d, ban, ex, hb, hp, hs, hd, hz, q⟩
  subst ex
  obtain ⟨u, rfl, rx⟩ := vals1 r
  obtain ⟨as, rd, m⟩ := Rp.reads hb I d x u hp rx
  have fin : ∀ (h' : Heap) (t : Tok) (tk : Nat), (∀ b o, s.heap.get? b = some o → h'.get? b = some o) → EP X pins σ Q (.str d.shown t) { s with heap := h', toks := tk } := fun h' t tk kp => ⟨.str d.shown, H, I.kept (t' := tk) kp, ⟨t, rfl⟩, q⟩
  have here : ∀ (t : Tok) (tk : Nat), EP X pins σ Q (.str d.shown t) { s with toks := tk } := fun t tk => fin s.heap t tk fun _ _ e => e
  cases rd with
  | none => exact PySem.P.repr_of_none (here _ _)
  | bool b => exact PySem.P.repr_of_bool (here _ _)
  | int i t => exact PySem.P.repr_of_int (of_decide_eq_true hs) (here _ _)
  | str z t => exact PySem.P.repr_of_str (here _ _) hz
  | list h1 h2 h3 h4 => exact repr_of_reads' (.list h1 h2 h3 h4) hs (fun _ => m) hg (by omega) (fun _ _ e => e) (fun h' u tk kp => fin h' u tk kp) hz
  | tuple h1 h2 h3 h4 => exact repr_of_reads' (.tuple h1 h2 h3 h4) hs (fun _ => m) hg (by omega) (fun _ _ e => e) (fun h' u tk kp => fin h' u tk kp) hz
  | dict h1 h2 h3 h4 h5 => exact repr_of_reads' (.dict h1 h2 h3 h4 h5) hs (fun _ => m) hg (by omega) (fun _ _ e => e) (fun h' u tk kp => fin h' u tk kp) hz
/-- xs == [] -/
theorem op_eqL0 (hu : X.A.units < cLine) : OpR X (compareOp .Eq) (fun x y H Q => ∃ a b xs, x = .ref a ∧ y = .ref b ∧ SqL X.K H a xs ∧ SqL X.K H b [] ∧ Q (.bl xs.isEmpty) H) := by
  intro pins s σ H x y v u Q I rx ry ⟨a, b, xs, ex, ey, ha, hb, q⟩
  subst ex ey; cases rx; cases ry
  obtain ⟨its, r1, p1, _⟩ := I.list ha
  obtain ⟨its2, r2, p2, _⟩ := I.list hb
  cases r2
  cases r1 with
  | nil => exact SeqAt.RcAt.lists (e := fun _ => true) p1.isList p2.isList rfl hu (fun j j1 _ => absurd j1 (by simp)) _ _ _ _ ⟨.bl true, H, I, rfl, q⟩
  | cons _ _ => exact SeqAt.RcAt.lists_lengths p1.isList p2.isList (by simp) hu _ _ _ _ ⟨.bl false, H, I, rfl, q⟩
/-- xs != [] -/
theorem op_neL0 (hu : X.A.units < cLine) : OpR X (compareOp .NotEq) (fun x y H Q => ∃ a b xs, x = .ref a ∧ y = .ref b ∧ SqL X.K H a xs ∧ SqL X.K H b [] ∧ Q (.bl (!xs.isEmpty)) H) := by
  intro pins s σ H x y v u Q I rx ry ⟨a, b, xs, ex, ey, ha, hb, q⟩
  subst ex ey; cases rx; cases ry
  obtain ⟨its, r1, p1, _⟩ := I.list ha
  obtain ⟨its2, r2, p2, _⟩ := I.list hb
  cases r2
  cases r1 with
  | nil => exact SeqAt.RcNeAt.lists (e := fun _ => true) p1.isList p2.isList rfl hu (fun j j1 _ => absurd j1 (by simp)) _ _ _ _ ⟨.bl false, H, I, rfl, q⟩
  | cons _ _ => exact SeqAt.RcNeAt.lists_lengths p1.isList p2.isList (by simp) hu _ _ _ _ ⟨.bl true, H, I, rfl, q⟩
/-- t != () -/
theorem op_neT0 (hu : X.A.units < cLine) : OpR X (compareOp .NotEq) (fun x y H Q => ∃ a b xs, x = .ref a ∧ y = .ref b ∧ SqT X.K H a xs ∧ SqT X.K H b [] ∧ Q (.bl (!xs.isEmpty)) H) := by
  intro pins s σ H x y v u Q I rx ry ⟨a, b, xs, ex, ey, ha, hb, q⟩
  subst ex ey; cases rx; cases ry
  obtain ⟨its, r1, p1, _⟩ := I.tuple ha
  obtain ⟨its2, r2, p2, _⟩ := I.tuple hb
  cases r2
  have h := SeqAt.RcNeAt.tuples (A := X.A) (s := s) (e := fun _ => true) p1 p2 hu (fun j _ j2 => absurd j2 (by simp))
  cases r1 with
  | nil => exact h _ _ _ _ ⟨.bl false, H, I, rfl, q⟩
  | cons _ _ => exact h _ _ _ _ ⟨.bl true, H, I, rfl, q⟩
/-- b + i, b - i, b a bool -/
theorem op_add_bi : OpR X (binaryOp .Add) (fun x y H Q => ∃ k i, x = .bl k ∧ y = .int i ∧ Q (.int ((if k = true then (1 : Int) else 0) + i)) H) := by
  intro pins s σ H x y v u Q I rx ry ⟨k, i, ex, ey, q⟩
  subst ex ey; cases rx; obtain ⟨t, rfl⟩ := ry
  exact PySem.IntBool.add_bool_int ⟨.int _, H, I.tok _, ⟨_, rfl⟩, q⟩
theorem op_sub_bi : OpR X (binaryOp .Sub) (fun x y H Q => ∃ k i, x = .bl k ∧ y = .int i ∧ Q (.int ((if k = true then (1 : Int) else 0) - i)) H) := by
  intro pins s σ H x y v u Q I rx ry ⟨k, i, ex, ey, q⟩
  subst ex ey; cases rx; obtain ⟨t, rfl⟩ := ry
  exact PySem.IntBool.sub_bool_int ⟨.int _, H, I.tok _, ⟨_, rfl⟩, q⟩
/-- two rules for one operator: by what stands there -/
theorem OpR.either {f : Value → Value → Sem Value} {r1 r2 : R2} (h1 : OpR X f r1) (h2 : OpR X f r2) : OpR X f (fun x y H Q => r1 x y H Q ∨ r2 x y H Q) := by
  intro pins s σ H x y v u Q I rx ry h
  rcases h with h | h
  · exact h1 pins s σ H x y v u Q I rx ry h
  · exact h2 pins s σ H x y v u Q I rx ry h
/-- str(i), str(b) -/
theorem call_str_ib : CallR X (.type "str") (fun xs H Q => (∃ i, xs = [.int i] ∧ i.natAbs.log2 < 1920 ∧ Q (.str (toString i)) H) ∨ ∃ k : Bool, xs = [.bl k] ∧ Q (.str (if k then "True" else "False")) H) := by
  intro pins s σ H xs us Q I r h
  rcases h with h | ⟨k, ex, q⟩
  · exact call_str_int pins s σ H xs us Q I r h
  · subst ex
    obtain ⟨u, rfl, rx⟩ := vals1 r
    cases rx
    exact PySem.P.str_of_bool ⟨.str _, H, I.tok _, ⟨_, rfl⟩, q⟩
/-- [..]: a new list never stands where the modules' table stands -/
def tLstM (t : TA) : TE := fun σ H Q => t σ H fun xs H1 => xs.length ≤ sizeLine ∧ ∀ p, H1 p = none → p ≠ sysModules → Q (.ref p) (upd H1 p (.lst xs))
theorem pe_lstM {es : List Expr} {t : TA} {pos : Pos} (h : PA X es t) : PE X (.List es pos) (tLstM t) := by
  refine ⟨fun pins s σ H Q I hq => wpAny_List_spliced (thn (h.run pos pins s σ H _ I hq) fun us s1 ⟨xs, H1, I1, r, z, q⟩ => ⟨by rw [← r.length]; exact z, ?_⟩)⟩
  exact ⟨.ref s1.heap.objs.size, _, I1.laid (t' := s1.toks) (o := .lst xs) (fun b u e => Heap.get?_push_of_some _ e) (Nat.le_refl _) ⟨z, us, 0, r, Heap.get?_push_size _ rfl⟩, rfl, q _ (I1.hok.fresh (Nat.le_refl _)) (Nat.ne_of_gt I1.big)⟩
/-- list(t), t a tuple -/
theorem call_listM : CallR X (.type "list") (fun xs H Q => ∃ p ys, xs = [.ref p] ∧ SqT X.K H p ys ∧ ∀ l, H l = none → l ≠ sysModules → Q (.ref l) (upd H l (.lst ys))) := by
  intro pins s σ H xs us Q I r ⟨p, ys, ex, hq, q⟩
  subst ex
  obtain ⟨u, rfl, rx⟩ := vals1 r
  cases rx
  obtain ⟨its, r', pl, hz⟩ := I.tuple hq
  have hlen := r'.length
  obtain ⟨o, ho, hc, n, hd⟩ := pl
  refine call_list_seq p (.inr rfl) ho hc hd (fun h' c' kp e => ?_) (by simp only [List.size_toArray] <;> omega)
  exact ⟨.ref s.heap.objs.size, _, I.laid (t' := s.toks) (o := .lst ys) kp (Nat.le_refl _) ⟨hz, its, c', r', e⟩, rfl, q _ (I.hok.fresh (Nat.le_refl _)) (Nat.ne_of_gt I.big)⟩
end
/-! ### the type of a value -/
def tyD : PyData → String
  | .none => "NoneType"
  | .bool _ => "bool"
  | .int _ => "int"
  | .str _ => "str"
  | .list _ => "list"
  | .tuple _ => "tuple"
  | .dict _ => "dict"
theorem tyRp {K : PySem.W.Frag} {H : Hp} {ban : List Addr} : ∀ {d : PyData} {v : V}, Rp H ban d v → TyX K H v (.type (tyD d))
  | .none, _, h => by rw [show _ = V.non from h]; exact .base .non
  | .bool b, _, h => by rw [show _ = V.bl b from h]; exact .base (.bl b)
  | .int i, _, h => by rw [show _ = V.int i from h]; exact .base (.int i)
  | .str x, _, h => by rw [show _ = V.str x from h]; exact .base (.str x)
  | .list ds, _, h => by
    obtain ⟨a, xs, rfl, h1, _⟩ := h
    exact .base (.lst h1)
  | .tuple ds, _, h => by
    obtain ⟨a, xs, rfl, ⟨o, _, h1⟩, _⟩ := h
    exact .fTuple h1
  | .dict kvs, _, h => by
    obtain ⟨_, a, rfl, h1⟩ := h
    exact .base (.dK h1)
theorem kit7 : ∀ t ∈ ["NoneType", "bool", "int", "str", "list", "tuple", "dict"], kitB t "tuple" = some (decide (t = "tuple")) ∧ kitB t "int" = some (decide (t = "int" ∨ t = "bool")) ∧ kitB t "bool" = some (decide (t = "bool")) := by decide +kernel
theorem tyD_mem (d : PyData) : tyD d ∈ ["NoneType", "bool", "int", "str", "list", "tuple", "dict"] := by cases d <;> simp [tyD]
theorem kitD {K : PySem.W.Frag} (d : PyData) : PySem.W.kitOne K (.type (tyD d)) (.type "tuple") = some (decide (tyD d = "tuple")) ∧ PySem.W.kitOne K (.type (tyD d)) (.type "int") = some (decide (tyD d = "int" ∨ tyD d = "bool")) ∧ PySem.W.kitOne K (.type (tyD d)) (.type "bool") = some (decide (tyD d = "bool")) := by
  obtain ⟨a, b, c⟩ := kit7 (tyD d) (tyD_mem d)
  exact ⟨kit_ty a, kit_ty b, kit_ty c⟩
end TR
namespace TR
open PySem PySem.Spec PyProof.Rows L2
/-! ### what a ranking is, of data -/
def whole (d : PyData) : Bool := decide (tyD d = "int")
theorem whole_int {d : PyData} (h : whole d = true) : ∃ i, d = .int i := by
  cases d <;> first | exact ⟨_, rfl⟩ | (exfalso; simp [whole, tyD] at h)
theorem whole_ty (d : PyData) : (if decide (tyD d = "int" ∨ tyD d = "bool") = true then !decide (tyD d = "bool") else false) = whole d := by
  cases d <;> first | rfl | simp [whole, tyD]
theorem ff_iff {p : Prop} (h : ¬ p) : (false = true) ↔ p := ⟨fun z => Bool.noConfusion z, fun z => absurd z h⟩
def IsRk (n : Nat) (d : PyData) : Prop := ∃ ns : List Int, d = .tuple (ns.map PyData.int) ∧ Rank n ns
theorem whole_all : ∀ ds : List PyData, ds.all whole = true → ∃ ns : List Int, ds = ns.map PyData.int
  | [], _ => ⟨[], rfl⟩
  | d :: r, h => by
    rw [List.all_cons, Bool.and_eq_true] at h
    obtain ⟨i, rfl⟩ := whole_int h.1
    obtain ⟨ns, rfl⟩ := whole_all r h.2
    exact ⟨i :: ns, rfl⟩
theorem ints_whole : ∀ ns : List Int, (ns.map PyData.int).all whole = true
  | [] => rfl
  | n :: r => by
    rw [List.map_cons, List.all_cons, ints_whole r]
    rfl
theorem ints_inj : ∀ {ns ms : List Int}, ns.map PyData.int = ms.map PyData.int → ns = ms
  | [], [], _ => rfl
  | [], _ :: _, h => by cases h
  | _ :: _, [], h => by cases h
  | x :: r, y :: t, h => by
    rw [List.map_cons, List.map_cons] at h
    injection h with h1 h2
    injection h1 with h1
    rw [h1, ints_inj h2]
theorem rng_le : ∀ n : Nat, (rng n).Pairwise (· ≤ ·) := fun n => by
  unfold rng
  rw [List.pairwise_map]
  exact (List.pairwise_lt_range (n := n)).imp (by intro a b h; omega)
theorem sorted_rank {n : Nat} {ns ms : List Int} (hp : ms.Perm ns) (hs : ms.Pairwise (· ≤ ·)) : ms = rng n ↔ Rank n ns := by
  constructor
  · rintro rfl
    exact List.Perm.symm hp
  · intro h
    exact List.Perm.eq_of_pairwise (le := (· ≤ ·)) (fun a b _ _ h1 h2 => Int.le_antisymm h1 h2) hs (rng_le n) (List.Perm.trans hp h)
theorem not_isRk_ty {n : Nat} {d : PyData} (h : tyD d ≠ "tuple") : ¬ IsRk n d := by
  rintro ⟨ns, rfl, _⟩
  exact h rfl
theorem not_isRk_whole {n : Nat} {ds : List PyData} (h : ds.all whole = false) : ¬ IsRk n (.tuple ds) := by
  rintro ⟨ns, e, _⟩
  injection e with e
  rw [e, ints_whole] at h
  cases h
theorem isRk_tuple {n : Nat} {ns : List Int} : IsRk n (.tuple (ns.map PyData.int)) ↔ Rank n ns := by
  constructor
  · rintro ⟨ms, e, r⟩
    injection e with e
    rw [ints_inj e]
    exact r
  · exact fun r => ⟨ns, rfl, r⟩
theorem ty_tuple {d : PyData} (h : tyD d = "tuple") : ∃ ds, d = .tuple ds := by
  cases d <;> first | exact ⟨_, rfl⟩ | (exfalso; simp [tyD] at h)
theorem RpAll.int_vals {H : Hp} {ban : List Addr} : ∀ {ns : List Int} {xs : List V}, RpAll H ban (ns.map PyData.int) xs → xs = ns.map V.int
  | [], _, h => h
  | n :: r, _, h => by
    obtain ⟨v, t, rfl, h1, h2⟩ := h
    rw [show v = V.int n from h1, RpAll.int_vals h2]
    rfl
theorem eqvAll_intsX : ∀ xs ys : List Int, PyData.eqvAll (xs.map PyData.int) (ys.map PyData.int) = decide (xs = ys)
  | [], [] => rfl
  | [], _ :: _ => rfl
  | _ :: _, [] => rfl
  | x :: r, y :: t => by
    show ((x == y) && PyData.eqvAll (r.map PyData.int) (t.map PyData.int)) = decide (x :: r = y :: t)
    rw [eqvAll_intsX r t, Bool.eq_iff_iff]
    simp
theorem eqv_lstX (xs ys : List Int) : PyData.eqv (.list (xs.map PyData.int)) (.list (ys.map PyData.int)) = decide (xs = ys) := eqvAll_intsX xs ys
end TR
namespace TR
open PySem PySem.Spec PyProof.Rows L2
section
variable {X : Cx}
/-! ### new objects, told by what holds behind them -/
def tTupN (t : TA) : TE := fun σ H Q => t σ H fun xs H1 => xs.length ≤ sizeLine ∧ ∀ p H', H1 p = none → Same H1 H' → TF H' p xs → Q (.ref p) H'
theorem pe_tupN {es : List Expr} {t : TA} {pos : Pos} {x1} (h : PA X es t) : PE X (.Tuple es x1 pos) (tTupN t) := by
  refine ⟨fun pins s σ H Q I hq => wpAny_Tuple_spliced (thn (h.run pos pins s σ H _ I hq) fun us s1 ⟨xs, H1, I1, r, z, q⟩ => ⟨by rw [← r.length]; exact z, ?_⟩)⟩
  have hf : H1 s1.heap.objs.size = none := I1.hok.fresh (Nat.le_refl _)
  exact ⟨.ref s1.heap.objs.size, _, I1.laid (t' := s1.toks) (o := .frz { cls := .type "tuple", data := .seq us.toArray } (.tup xs)) (fun b u e => Heap.get?_push_of_some _ e) (Nat.le_refl _) ⟨Heap.get?_push_size _ rfl, z, us, r, IsTup.new _ _⟩, rfl, q _ _ hf (same_upd hf) (TF.new rfl)⟩
def tLstN (t : TA) : TE := fun σ H Q => t σ H fun xs H1 => xs.length ≤ sizeLine ∧ ∀ p H', H1 p = none → p ≠ sysModules → Same H1 H' → H' p = some (.lst xs) → Q (.ref p) H'
theorem pe_lstN {es : List Expr} {t : TA} {pos : Pos} (h : PA X es t) : PE X (.List es pos) (tLstN t) := by
  refine ⟨fun pins s σ H Q I hq => wpAny_List_spliced (thn (h.run pos pins s σ H _ I hq) fun us s1 ⟨xs, H1, I1, r, z, q⟩ => ⟨by rw [← r.length]; exact z, ?_⟩)⟩
  have hf : H1 s1.heap.objs.size = none := I1.hok.fresh (Nat.le_refl _)
  exact ⟨.ref s1.heap.objs.size, _, I1.laid (t' := s1.toks) (o := .lst xs) (fun b u e => Heap.get?_push_of_some _ e) (Nat.le_refl _) ⟨z, us, 0, r, Heap.get?_push_size _ rfl⟩, rfl, q _ _ hf (Nat.ne_of_gt I1.big) (same_upd hf) upd_same⟩
def tDNewN : TE := fun _ H Q => ∀ p H', H p = none → Same H H' → H' p = some (.dK []) → Q (.ref p) H'
theorem pe_dnewN {pos : Pos} : PE X (.Dict [] [] pos) tDNewN := by
  refine ⟨fun pins s σ H Q I h => (pe_dnewK (pos := pos)).run pins s σ H Q I ?_⟩
  exact fun p hp => h p _ hp (same_upd hp) upd_same
/-- xs + ys, lists -/
theorem op_catN : OpR X (binaryOp .Add) (fun x y H Q => ∃ a b xs ys, x = .ref a ∧ y = .ref b ∧ H a = some (.lst xs) ∧ H b = some (.lst ys) ∧ xs.length + ys.length ≤ sizeLine ∧ ∀ p H', H p = none → Same H H' → H' p = some (.lst (xs ++ ys)) → Q (.ref p) H') := by
  intro pins s σ H x y v u Q I rx ry ⟨a, b, xs, ys, ex, ey, ha, hb, hz, q⟩
  exact op_cat pins s σ H x y v u Q I rx ry ⟨a, b, xs, ys, ex, ey, ha, hb, hz, fun p hp => q p _ hp (same_upd hp) upd_same⟩
/-- t + u, tuples: some tuple of both -/
theorem op_catTN : OpR X (binaryOp .Add) (fun x y H Q => ∃ a b xs ys, x = .ref a ∧ y = .ref b ∧ TF H a xs ∧ TF H b ys ∧ xs.length + ys.length ≤ sizeLine ∧ ∀ p H', Same H H' → TF H' p (xs ++ ys) → Q (.ref p) H') := by
  intro pins s σ H x y v u Q I rx ry ⟨a, b, xs, ys, ex, ey, ha, hb, hz, q⟩
  refine op_catF pins s σ H x y v u Q I rx ry ⟨a, b, xs, ys, ex, ey, .inl ha.rd, .inl hb.rd, hz, fun e => ?_, fun _ e => ?_, fun _ _ p o hp ho => q p _ (same_upd hp) (TF.new ho)⟩
  · subst e; exact q b H (Same.refl _) hb
  · subst e; exact q a H (Same.refl _) (by rw [List.append_nil]; exact ha)
theorem cut_whole {xs : List V} {lo hi : Option Int} (h : HT.sIx xs.length 0 lo = 0 ∧ HT.sIx xs.length xs.length hi = xs.length) : cutV xs lo hi = xs := by
  unfold cutV
  rw [h.1, h.2]
  exact List.take_of_length_le (by simp)
/-- t[lo:hi]: some tuple of the part -/
theorem sl_tupN : SlR X (fun x lo hi H Q => ∃ a xs, x = .ref a ∧ TF H a xs ∧ ∀ p H', Same H H' → TF H' p (cutV xs lo hi) → Q (.ref p) H') := by
  intro pins s σ H x v vl vu lo hi sl Q I rx hs pl pu ⟨a, xs, ex, hx, q⟩
  refine sl_tupF pins s σ H x v vl vu lo hi sl Q I rx hs pl pu ⟨a, xs, ex, .inl hx.rd, fun hw => ?_, fun _ p o hp ho => q p _ (same_upd hp) (TF.new ho)⟩
  exact q a H (Same.refl _) (by rw [cut_whole hw]; exact hx)
/-- t[::-1] -/
def tRevN (te : TE) : TE := fun σ H Q => te σ H fun x H1 => ∃ a xs, x = .ref a ∧ TF H1 a xs ∧ ∀ p H', Same H1 H' → TF H' p xs.reverse → Q (.ref p) H'
theorem pe_revN {e : Expr} {te : TE} {k : Nat} {p1 p2 p3 pos : Pos} (he : PE X e te) (mono : ∀ σ H (Q Q' : VK), (∀ x H', Q x H' → Q' x H') → te σ H Q → te σ H Q') : PE X (.Subscript e (.Slice none none (some (.UnaryOp .USub (.Constant (.int 1) k p1) p2)) p3) pos) (tRevN te) := by
  refine ⟨fun pins s σ H Q I h => (pe_revT he).run pins s σ H Q I (mono σ H _ _ (fun x H1 hq => ?_) h)⟩
  obtain ⟨a, xs, ex, hx, q⟩ := hq
  exact ⟨a, xs, ex, .inl hx.rd, fun p o hp ho => q p _ (same_upd hp) (TF.new ho)⟩
/-- tuple(range(..)) -/
def tTupRgN (te : L2.St → Hp → (Int → Int → Hp → Prop) → Prop) : TE := fun σ H Q => te σ H fun a b H1 => RgOk a b ∧ ∀ p H', H1 p = none → Same H1 H' → TF H' p (rgV a b) → Q (.ref p) H'
theorem pe_tupRgN {e : Expr} {te : L2.St → Hp → (Int → Int → Hp → Prop) → Prop} {p pos : Pos} (hc : X.calm = true) (hg : Gl X "tuple") (hm : X.mg "tuple" = none) (he : PRg X e te) (na : starEach [e] X.env = (false, eval e X.env) :: starEach [] X.env := by rfl) : PE X (.Call (.Name "tuple" p) [e] [] pos) (tTupRgN te) := by
  refine ⟨fun pins s σ H Q I h => ?_⟩
  refine Call_ (ld_blt I hg hm boot_tuple (PyProof.Rows.callWith_type1 (args_cons (thn (he pins s σ H _ I h) fun x s1 ⟨r, a, b, t, u, v, H1, ex, hr, I1, ok, q⟩ => args_nil ?_) na) na))
  subst ex
  obtain ⟨b1, b2, b3, b4, b5⟩ := ok
  refine call_tuple_range (n := (b - a).toNat) (I1.ok.hd hc) hr (small_one b1 b2 b3 b4) (rangeSize_nat a b) b5 fun h' tk acc hk hi => ?_
  have I2 : Inv X pins σ H1 { s1 with heap := h', toks := tk } := I1.kept hk
  have hf : H1 h'.objs.size = none := I2.hok.fresh (Nat.le_refl _)
  refine ⟨.ref h'.objs.size, upd H1 h'.objs.size (.frz { cls := .type "tuple", data := .seq acc } (.tup (rgV a b))), I2.laid (t' := tk) (fun c o e => Heap.get?_push_of_some _ e) (Nat.le_refl _) (show ObjOk X.prog X.w _ _ _ (.frz { cls := .type "tuple", data := .seq acc } (.tup (rgV a b))) from ⟨Heap.get?_push_size _ rfl, ?_, acc.toList, vals_rg hi, ?_⟩), rfl, q _ _ hf (same_upd hf) (TF.new rfl)⟩
  · rw [rgV_length, sizeLine_eq]; omega
  · rw [Array.toArray_toList]; exact IsTup.new _ _
/-- list(t) -/
theorem call_listN : CallR X (.type "list") (fun xs H Q => ∃ a ys, xs = [.ref a] ∧ Rd H a (.tup ys) ∧ ∀ p H', H p = none → p ≠ sysModules → Same H H' → H' p = some (.lst ys) → Q (.ref p) H') := by
  intro pins s σ H xs us Q I r ⟨a, ys, ex, hx, q⟩
  exact call_listM pins s σ H xs us Q I r ⟨a, ys, ex, .inl hx, fun p hp n => q p _ hp n (same_upd hp) upd_same⟩
end
end TR
namespace TR
open PySem PySem.Spec PyProof.Rows L2
section
variable {X : Cx}
/-- set(t), t a tuple of ints -/
theorem cr_setTI (hc : X.calm = true) : CallR X (.type "set") (fun xs H Q => ∃ (p : Addr) (ns : List Int), xs = [.ref p] ∧ SqT X.K H p (ns.map V.int) ∧ ns.length < 60 ∧ ∀ l c, H l = none → c ≤ ns.length → Q (.ref l) (upd H l (SetO X.w l (fun j => decide (j ∈ ns)) c))) := by
  intro pins s σ H xs us Q I r ⟨p, ns, ex, hS, hz, q⟩
  subst ex
  rw [Vals.ref1 r]
  obtain ⟨its, rv, pl, _⟩ := I.tuple hS
  have pl : s.heap.IsTuple p its.toArray := pl
  refine call_set_tupI ns (I.ok.hd hc) pl (by simpa using rv.ints) (Nat.lt_of_lt_of_le (show ns.length + 1 < 64 by omega) (by decide)) fun h' tk c R hcn hk => ?_
  exact ⟨.ref s.heap.objs.size, _, I.laid (t' := tk) hk (Nat.le_refl _) (setO_new R), rfl, q _ c (I.hok.fresh (Nat.le_refl _)) hcn⟩
end
end TR
namespace TR
open PySem PySem.Spec PyProof.Rows L2
section
variable {X : Cx}
/-- t * k, k from 2 to 100, t a tuple of at most 100 items: a new tuple as the very object -/
theorem op_repTF : OpR X (binaryOp .Mult) (fun x y H Q => ∃ (l : Addr) (k : Int) (xs : List V), x = .ref l ∧ y = .int k ∧ TF H l xs ∧ xs ≠ [] ∧ 2 ≤ k ∧ k ≤ 100 ∧ xs.length ≤ 100 ∧ ∀ p H', Same H H' → TF H' p (List.replicate k.toNat xs).flatten → Q (.ref p) H') := by
  intro pins s σ H x y v u Q I rx ry ⟨l, k, xs, ex, ey, hT, hne, g1, g2, hz, q⟩
  subst ex ey
  cases rx
  obtain ⟨tk, rfl⟩ := ry
  obtain ⟨its, r, ⟨⟨cls, dd, data, sl⟩, ho, hc, n, hd⟩, _⟩ := I.tuple (show SqT X.K H l xs from .inl hT.rd)
  dsimp only at hc hd
  subst hc hd
  have lenE : its.length = xs.length := r.length.symm
  have nonE : its.toArray.isEmpty = false := by
    cases its with
    | nil => exact absurd (List.eq_nil_of_length_eq_zero lenE.symm) hne
    | cons _ _ => rfl
  have sizE : its.toArray.size = xs.length := by rw [List.size_toArray, lenE]
  have prodE : ((its.toArray.size : Nat) : Int) * k ≤ 10000 := by
    rw [sizE]
    have := Int.mul_le_mul_of_nonneg_right (show ((xs.length : Nat) : Int) ≤ 100 by omega) (show 0 ≤ k by omega)
    omega
  have flatE : k.toNat * xs.length ≤ 100 * 100 := Nat.mul_le_mul (by omega) hz
  have lenF : (List.replicate k.toNat its).flatten.length ≤ sizeLine := by
    rw [PyProof.Rows.lm_len_rep_flat, lenE, sizeLine_eq]
    omega
  have b0 : (decide (k < -(2 ^ 63)) || decide (k ≥ 2 ^ 63)) = false := by simp; omega
  have b1 : (its.toArray.isEmpty || k == 1) = false := by simp [nonE]; omega
  have b2 : (decide (k ≤ 0) || its.toArray.isEmpty) = false := by simp [nonE]; omega
  have b4 : Builtin.Tuple.tupleTooMany (((its.toArray.size : Nat) : Int) * k) = false := decide_eq_false (by rw [sizeLine_eq]; omega)
  have mulE := tuple_mulW l its.toArray n dd sl k tk b0 b1 b2 (by omega) b4 (by rw [size_rep, List.size_toArray]; exact lenF)
  refine wpAny_binaryOp_repeat_ref (T := "tuple") (U := "int") (by decide) ⟨_, ho, rfl⟩ (fun s' => typeIs_int s' k tk) noFill_tuple_mul F.fills_int_mul F.slot_int_rmul repeat_tuple F.slot_int_index.lookup (call_meets F.slot_int_rmul (typeIs_int s k tk) F.entry_int_rmul (F.args_int_rmul_2 _ _) (int_rmul_tuple k tk l its.toArray n dd sl) ⟨ho, rfl, ⟨_, ho, rfl⟩, ?_⟩)
  refine call_meets F.slot_tuple_mul ⟨_, ho, rfl⟩ F.entry_tuple_mul (F.args_tuple_mul_2 _ _) mulE ⟨ho, ?_⟩
  rw [size_rep]
  have fr : H s.heap.objs.size = none := I.hok.fresh (Nat.le_refl _)
  refine ⟨.ref s.heap.objs.size, _, I.laid (t' := s.toks) (o := .frz { cls := .type "tuple", data := .seq (List.replicate k.toNat its).flatten.toArray } (.tup (List.replicate k.toNat xs).flatten)) (fun b u e => Heap.get?_push_of_some _ e) (Nat.le_refl _) ⟨Heap.get?_push_size _ rfl, ?_, _, r.rep k.toNat, IsTup.new _ _⟩, rfl, q _ _ (same_upd fr) (TF.new rfl)⟩
  rw [PyProof.Rows.lm_len_rep_flat, sizeLine_eq]
  omega
end
end TR
namespace PySem
namespace NtX
open PySem.W PySem.Calls PyProof.Rows PySem.HandSPX
/-! ### the text of __init__ -/
def iA (p1 p2 : Pos) : Arguments := { posonlyargs := [], args := [{ arg := "self", annotation := none, pos := p1 }, { arg := "taster", annotation := none, pos := p2 }], vararg := none, kwonlyargs := [], kw_defaults := [], kwarg := none, defaults := [] }
def iB (q1 q2 q3 q4 : Pos) : List Stmt := [.Assign [.Attribute (.Name "self" q1) "taster" q2] (.Name "taster" q3) q4]
def iS : Scope := { kind := .function, names := [(PySem.Str.ofString "self", .local), (PySem.Str.ofString "taster", .local)], isGenerator := false, isCoroutine := false, more := [] }
/-- what the written part says of Low, at C, and of its __init__, at fI -/
structure NtTxt (K : Frag) (mg : Str → Option Value) (C fI : Addr) : Prop where
  gC : mg "NoTaster" = some (.ref C)
  cls : ∃ nm q N bs bm sn sub ab col dd k0 k1 k2 k3 k5, K.lookup C = some (excClassObj nm q C N bs bm true sn sub ab col dd k0 k1 k2 k3 k5 "ValueError.__new__") ∧ refsVE bm = true
  sa : findIn K (.ref C) "__setattr__" = some (some (.builtin "object.__setattr__"))
  ga : findIn K (.ref C) "__getattribute__" = some (some (.builtin "BaseException.__getattribute__"))
  gg : findIn K (.ref C) "__getattr__" = some none
  noN : findIn K (.ref C) "taster" = some none
  iC : findIn K (.ref C) "__init__" = some (some (.ref fI))
  tC : typeIn K (.ref fI) = some (.type "function")
  kC : keepIn K (.ref C) = true
  exC : subIn K (.ref C) (.type "BaseException") = some true
  tyC : typeIn K (.ref C) = some (.type "type")
  hdC : hasDictIn K C = true
  te : exmOne K (.ref C) (.ref C) = some true
  fn : ∃ (oc : Value) (od : Option Addr) (doc pm : Value) (an : Option Addr) (cdv ct : Value) (osl : Array (Option Value)) (p1 p2 q1 q2 q3 q4 : Pos),
    K.lookup fI = some ⟨oc, od, .func (fnOf "__init__" "NoTaster.__init__" (iA p1 p2) (iB q1 q2 q3 q4) iS .none .none doc pm an cdv ct), osl⟩ ∧ codeIn K cdv "NoTaster.__init__" = true
theorem one_size (v : Value) : [v].length ≤ sizeLine := by
  rw [sizeLine_eq]
  exact (by decide : 1 ≤ 16777216)
theorem kept_but {K : Frag} {h h' : Heap} {x : Addr} (X : K.In h) (hx : K.lookup x = none) (k : ∀ b o, b ≠ x → h.get? b = some o → h'.get? b = some o) : K.In h' := fun a o e =>
  k a o (fun z => by rw [z, hx] at e; cases e) (X a o e)
theorem ldC {M : Model} {s : Shared} {name : Str} {scope : Scope} {L a : Addr} {cd : Value} {m : Str → Option Value} {x : Str} {pos : Pos} {v : Value} {Q : Value → Shared → Prop} {A : Around} {E : Value → Shared → Prop} (hn : s.heap.Ns L m) (hv : m x = some v) (h : Q v s)
    (hk : scope.kind = .function := by rfl) (hl : (envOfC name scope L a cd).kindOf x = some .local := by rfl) (hd : (x == ("__debug__" : Str)) = false := by decide) :
    wpAny M A (eval (.Name x pos) (envOfC name scope L a cd)) Q E s := wpAny_Name (wpAny_loadName_local hk hl hn hv h) hd
/-- what __init__ leaves of a fresh exception at x -/
structure InitEnd (h h' : Heap) (x C dx t1 : Addr) (v : Value) : Prop where
  keep : ∀ b o, b ≠ x → h.get? b = some o → h'.get? b = some o
  obj : h'.get? x = some { cls := .ref C, dict := some dx, data := .fields #[.ref t1, .none, .none, .none, .bool false, .none] }
  dbig : h.objs.size ≤ dx
  dne : dx ≠ x
  ns : h'.Ns1 dx (fun y => if y = "taster" then some v else none)
/-- a made Low -/
structure OwnMade (h h' : Heap) (e C d : Addr) (v : Value) : Prop where
  keep : ∀ b o, h.get? b = some o → h'.get? b = some o
  new : h.objs.size ≤ e
  obj : ∃ oe vs, h'.get? e = some oe ∧ oe.cls = .ref C ∧ oe.dict = some d ∧ oe.data = .fields vs ∧ vs[1]? = some .none
  dbig : h.objs.size ≤ d
  dne : d ≠ e
  ns : h'.Ns1 d (fun y => if y = "taster" then some v else none)
section
variable {prog : Program} {w : World} {A : Around} {E : Value → Shared → Prop} {R : Result → Shared → Prop} {s : Shared} {K : Frag} {mg : Str → Option Value} {C fI : Addr}
theorem nt_init (T : NtTxt K mg C fI) {x t0 : Addr} {v : Value} (X : K.In s.heap) (hlim : s.heap.NoLimit) (hx : s.heap.get? x = some (excO C t0)) (hnx : K.lookup x = none) (hroom : A.depth < recursionLimit)
    (hq : ∀ h' tk dx, InitEnd s.heap h' x C dx t0 v → R (.ok (.ret .none)) { s with heap := h', toks := tk }) :
    codeAny (model prog w) A (.call (.ref fI) ⟨[.ref x, v], []⟩) R s := by
  obtain ⟨oc, od, doc, pm, an, cdv, ct, osl, p1, p2, q1, q2, q3, q4, ho, hcd⟩ := T.fn
  obtain ⟨nm, q, N, bs, bm, sn, sub, ab, col, dd, k0, k1, k2, k3, k5, hC, hbm⟩ := T.cls
  have hcl : clsIn K C = some { name := nm, bases := bs, mro := .ref C :: bm, ns := N, qualname := q, hasDict := true, slotNames := sn, subclasses := sub, abstract := ab, collection := col, hasDel := false } := by unfold clsIn; rw [hC] <;> rfl
  refine Att.call_fn (binds := [("self", .ref x), ("taster", v)]) X hlim ho hcd hroom (BindsTo.of_eq (by first | rfl | with_unfolding_all rfl)) (by first | rfl | decide | with_unfolding_all rfl) (fun s₁ IC => ?_) rfl rfl rfl
  obtain ⟨h₁, tk₁, rfl⟩ := IC.toInCall.same
  have k : ∀ b o, s.heap.get? b = some o → h₁.get? b = some o := IC.toInCall.keep
  have hn := IC.toInCall.ns
  have hxL : s.heap.objs.size ≠ x := Nat.ne_of_gt (Heap.lt_size hx)
  have X₁ : K.In h₁ := X.keeps k
  have hx₁ := k _ _ hx
  -- self.by = by
  show wpAny _ _ (execs _ _) _ _ _
  refine wpAny_execs_cons (plainObj_wpAny_Assign_Attribute ?_)
  refine ldC (v := v) hn (by first | rfl | with_unfolding_all rfl | kernel_rfl) (ldC (v := .ref x) hn (by first | rfl | with_unfolding_all rfl | kernel_rfl) ?_)
  refine set_plain X₁ (ox := excO C t0) (od := none) ⟨hx₁, rfl, rfl, trivial⟩ T.sa ?_
  refine exc_osa X₁ hx₁ hcl (show refsVE (.ref C :: bm) = true from hbm) rfl T.noN (fun h₃ tk₃ dx k₃ dn dne hx₃ hn₃ => ?_)
  show wpAny _ _ (execs _ _) _ _ _
  have z : s.heap.objs.size < h₁.objs.size := hn.lt
  exact wpAny_execs_nil (hq h₃ tk₃ dx ⟨fun b o hb e => k₃ b o hb (k b o e), hx₃, Nat.le_of_lt (Nat.lt_of_lt_of_le z dn), dne, hn₃⟩)
theorem nt_made (T : NtTxt K mg C fI) {v : Value} (X : K.In s.heap) (hlim : s.heap.NoLimit) (hroom : A.depth + 1 < recursionLimit)
    (hq : ∀ h' tk e d, OwnMade s.heap h' e C d v → R (.ok (.ret (.ref e))) { s with heap := h', toks := tk }) :
    codeAny (model prog w) A (.call (.ref C) ⟨[v], []⟩) R s := by
  obtain ⟨nm, q, N, bs, bm, sn, sub, ab, col, dd, k0, k1, k2, k3, k5, hC, hbm⟩ := T.cls
  obtain ⟨hp, g, dr, tk, os⟩ := s
  have k : ∀ b o, hp.get? b = some o → ((hp.push (kdv_tup [v])).push (excO C hp.objs.size)).get? b = some o := fun b o e => Heap.get?_push_of_some _ (Heap.get?_push_of_some _ e)
  have hget : ((hp.push (kdv_tup [v])).push (excO C hp.objs.size)).get? (hp.objs.size + 1) = some (excO C hp.objs.size) := by heap_get
  have hnx : K.lookup (hp.objs.size + 1) = none := by
    cases e : K.lookup (hp.objs.size + 1) with
    | none => rfl
    | some o =>
      have z : hp.get? (hp.objs.size + 1) = some o := X _ _ e
      exact absurd (Nat.lt_of_succ_lt (Heap.lt_size z)) (Nat.lt_irrefl _)
  refine call_own F.excBase_ValueError (fun X => refsVE_contains X bm hbm) (X _ _ hC) (looks_findIn X T.iC) (fun self => bind_fn X self T.tC) (one_size v) ?_
  refine nt_init (s := ⟨(hp.push (kdv_tup [v])).push (excO C hp.objs.size), g, dr, tk, os⟩) T (X.keeps k) (hlim.keeps k) hget hnx ?_ fun h' tk' dx ⟨k', hx, dn, dne, hns⟩ => ?_
  · show A.depth + 1 < recursionLimit
    exact hroom
  · have old : ∀ b o, hp.get? b = some o → h'.get? b = some o := fun b o e => k' b o (Nat.ne_of_lt (Nat.lt_succ_of_lt (Heap.lt_size e))) (k b o e)
    have z : hp.objs.size + 1 + 1 ≤ dx := by
      first
        | (simpa only [Heap.size_push] using dn)
        | exact dn
        | (have q := dn; rw [Heap.size_push, Heap.size_push] at q; exact q)
    exact ⟨rfl, hq h' tk' (hp.objs.size + 1) dx ⟨old, Nat.le_succ _, ⟨_, _, hx, rfl, rfl, rfl, rfl⟩, Nat.le_trans (Nat.le_trans (Nat.le_succ _) (Nat.le_succ _)) z, dne, hns⟩⟩
end
end NtX
end PySem
namespace L2
open PySem PySem.Spec PyProof.Rows
theorem relO_nt {v : V} {v' : Value} (r : RelV v v') (f : Str) : RelO (List.lookup f [(("taster" : Str), v)]) (if f = "taster" then some v' else none) := by
  by_cases hw : f = "taster"
  · subst hw
    rw [if_pos rfl]
    have q : List.lookup ("taster" : Str) [(("taster" : Str), v)] = some v := by simp [List.lookup]
    rw [q]
    exact r
  · rw [if_neg hw]
    have qw : (f == ("taster" : Str)) = false := by simpa using hw
    have q2 : List.lookup f [(("taster" : Str), v)] = none := by simp [List.lookup, qw]
    rw [q2]
    trivial
section
variable {X : Cx} {C fI : Addr}
/-- Low(e) -/
def tMkNt (C : Addr) (ta : TA) : St → Hp → XK → Prop := fun σ H Q => ta σ H fun vs H1 => ∃ v, vs = [v] ∧ ∀ d, H1 d = none → Q (.ref C) (some d) (upd H1 d (.xd [(("taster" : Str), v)]))
theorem pmk_nt {a : Expr} {ta : TA} {p pos : Pos} {k : Nat} (T : PySem.NtX.NtTxt X.K X.mg C fI) (hr : Room k X.A) (ha : PA X [a] ta) (hg : Gl X "NoTaster" := by rfl)
    (he : starEach (a :: []) X.env = (false, eval a X.env) :: starEach [] X.env := by rfl) (hpl : (backTo pos (starEach [] X.env)).any (·.1) = false := by rfl) :
    PMk X (.Call (.Name "NoTaster" p) [a] [] pos) (tMkNt C ta) := by
  intro pins s σ H Q I h
  refine wpAny_Call_Name_kw (ld_glob I hg T.gC ?_)
  refine PySem.W.callWith_K (h₀ := X.base) I.ok.mod.kin T.kC (thn (ha.run pos pins s σ H _ I h) fun us s1 hh => ?_) he hpl
  obtain ⟨vs, H1, I1, r1, v, ev, q1⟩ := hh
  subst ev
  refine ⟨I1.kIn, ?_⟩
  cases r1 with
  | cons rv rn =>
    rename_i v' us'
    cases rn
    show wpAny _ _ (call (.ref C) [v']) _ _ _
    have hlim := I1.nolimit
    obtain ⟨hp, g, dr, tk, os⟩ := s1
    refine wpAny_call (PySem.NtX.nt_made T I1.kIn hlim (by have := hr.dp; omega) fun h' tk' e d M => ?_)
    show MkP X pins σ Q (.ref e) ⟨h', g, dr, tk', os⟩
    obtain ⟨oe, fv, hoe, hc, hd, hdat, h1⟩ := M.obj
    have hns := M.ns
    obtain ⟨G', g1, g2⟩ := restrict h' fun b => decide (b ≠ e)
    have gk : ∀ b, b ≠ e → G'.get? b = h'.get? b := fun b hb => g1 b (decide_eq_true hb)
    have ge : G'.get? e = none := g2 e (by simp)
    have old : ∀ b o, hp.get? b = some o → G'.get? b = some o := fun b o q => (gk b (Nat.ne_of_lt (Nat.lt_of_lt_of_le (Heap.lt_size q) M.new))).trans (M.keep b o q)
    have ob : ObjOk X.prog X.w (upd H1 d (.xd [(("taster" : Str), v)])) G' d (.xd [(("taster" : Str), v)]) :=
      ⟨_, hns.at (fun o q => (gk d M.dne).trans q), fun f => relO_nt rv f⟩
    have J : Inv X pins σ (upd H1 d (.xd [(("taster" : Str), v)])) ⟨G', g, dr, tk', os⟩ := I1.laid (t' := tk') old M.dbig ob
    refine ⟨e, oe, fv, ⟨G', g, dr, tk', os⟩, _, .ref C, some d, rfl, J, fun b o q => ?_, ge, hoe, ⟨hc, hd⟩, hdat, h1, ?_, rfl, I1.bare, raises_own T.exC T.tyC, q1 d (I1.hok.fresh M.dbig)⟩
    · by_cases hb : b = e
      · have q' : G'.get? b = some o := q
        rw [hb, ge] at q'; cases q'
      · exact (gk b hb).symm.trans q
    · rw [upd_ne (Ne.symm M.dne)]
      exact I1.hok.fresh M.new
/-- raise Low(e) -/
def tRaiseNt (C : Addr) (W : WX) (ta : TA) : TS := fun _ σ H => tMkNt C ta σ H fun cls d H' => W cls d σ H'
theorem ps_raiseNt {a : Expr} {ta : TA} {W : WX} {p pos pos2 : Pos} {k : Nat} (hc : X.calm = true) (T : PySem.NtX.NtTxt X.K X.mg C fI) (hr : Room k X.A) (tk : Takes X W) (ha : PA X [a] ta) (hg : Gl X "NoTaster" := by rfl)
    (he : starEach (a :: []) X.env = (false, eval a X.env) :: starEach [] X.env := by rfl) (hpl : (backTo pos (starEach [] X.env)).any (·.1) = false := by rfl) :
    PS X (.Raise (some (.Call (.Name "NoTaster" p) [a] [] pos)) none pos2) (tRaiseNt C W ta) := ps_raise hc tk (pmk_nt T hr ha hg he hpl)
/-- low.by, low the exception that the suite holds (at a; its class cls, its dict d) -/
def tByNt (C : Addr) (a : Addr) (cls : Value) (d : Option Addr) (te : TE) : TE := fun σ H Q => te σ H fun x H1 => x = .ref a ∧ cls = .ref C ∧ ∃ (dd : Addr) (v : V), d = some dd ∧ H1 dd = some (.xd [(("taster" : Str), v)]) ∧ Q v H1
theorem pe_byNt {a : Addr} {oe : Obj} {cls : Value} {d : Option Addr} {pn : List (Addr × Obj)} {e : Expr} {te : TE} {pos : Pos} (T : PySem.NtX.NtTxt X.K X.mg C fI) (hz : Zc cls d oe) (hf : ∃ vs, oe.data = .fields vs) (he : PE (X.suite a ((a, oe) :: pn)) e te)
    (hb : attributeBase e "taster" X.env (eval e X.env) = eval e X.env := by rfl) :
    PE (X.suite a ((a, oe) :: pn)) (.Attribute e "taster" pos) (tByNt C a cls d te) := by
  refine ⟨fun pins s σ H Q I h => ?_⟩
  refine attr_of hb (thn (he.run pins s σ H _ I h) fun u s1 hh => ?_)
  obtain ⟨x, H1, I1, rx, ex, ec, dd, v, ed, ea, q⟩ := hh
  subst ex
  obtain rfl : u = Value.ref a := rx
  subst ec
  subst ed
  obtain ⟨ha, _⟩ := I1.pin (a, oe) (List.mem_append_left _ List.mem_cons_self)
  obtain ⟨vs, hd⟩ := hf
  have hx : ObjOk X.prog X.w H1 s1.heap dd (.xd [(("taster" : Str), v)]) := I1.hok dd _ ea
  obtain ⟨mA, hns, hr⟩ := hx
  obtain ⟨od, ho, hl⟩ := lookIn_ns hns
  have l : List.lookup ("taster" : Str) [(("taster" : Str), v)] = some v := by simp [List.lookup]
  obtain ⟨u, hu, ru⟩ := RelO.some_of (v := v) (o := mA "taster") (by rw [← l]; exact hr "taster")
  have J : PySem.W.InstAt s1.heap a oe C (some od) := ⟨ha, hz.1, by unfold PySem.W.notCls; rw [hd] <;> rfl, by rw [hz.2]; exact ho⟩
  exact HandSPX.exc_get I1.kIn J T.ga T.gg T.exC (PySem.W.findObj_own T.hdC T.noN rfl (by rw [hl, hu])) (handed_of ru) ⟨v, H1, I1.tok _, ru, q⟩
end
end L2

namespace PySem
open Sem (wp)
set_option maxHeartbeats 1000000 in
theorem meets_enum_new1 {v : Value} {o : Obj} {H : Heap → Prop} (B : Begins v o H) :
    Meets (Builtin.«enumerate.__new__» ⟨[.type "enumerate", v], []⟩) (fun _ R s => H s.heap ∧
      R (.ok (.ret (.ref (s.heap.push o).objs.size))) { s with heap := (s.heap.push o).push { cls := .type "enumerate", data := .fields #[.none, .bool false, .ref s.heap.objs.size, rawInt 0, .none, .none] } }) :=
  .of_wp fun prog w A R s h => by
    obtain ⟨hp, g, d, tk, os⟩ := s; obtain ⟨h1, h⟩ := h
    have hsub := sub_enumerate
    have q1 : ∀ {A' : Around} {E : Value → Shared → Prop} {Q : Value → Shared → Prop}, Q (.ref hp.objs.size) ⟨hp.push o, g, d, tk, os⟩ → wpAny (model prog w) A' (pyIter v) Q E ⟨hp, g, d, tk, os⟩ :=
      fun q => B.iter prog w _ _ ⟨hp, g, d, tk, os⟩ _ h1 q
    wp_walk using q1
    refine wpAny_stack_any fun st => wpAny_pure ?_
    split
    · rename_i c _ _ _ _ _
      cases (c == Value.type "enumerate")
      · wp_walk using q1
        exact ⟨_, rfl, h⟩
      · wp_walk using q1
        exact ⟨_, rfl, h⟩
    · wp_walk using q1
      exact ⟨_, rfl, h⟩
section
variable {prog : Program} {w : World} {A : Around} {E : Value → Shared → Prop} {s : Shared}
theorem call_enum1 {v : Value} {o : Obj} {H : Heap → Prop} {Q : Value → Shared → Prop} (B : Begins v o H) (h1 : H s.heap)
    (h : ∀ h', IsEnum h' (s.heap.objs.size + 1) s.heap.objs.size 0 .none → h'.get? s.heap.objs.size = some o → h'.objs.size = s.heap.objs.size + 2 →
      (∀ b o, s.heap.get? b = some o → h'.get? b = some o) → Q (.ref (s.heap.objs.size + 1)) { s with heap := h' }) :
    wpAny (model prog w) A (call (.type "enumerate") [v]) Q E s := by
  refine callType_new F.called_enumerate (by decide) (F.typeCall_enumerate_1 _) (F.newCall_enumerate_1 _) (fun obj => F.args_object_init_2 obj _) F.entry_enumerate_new
    (meets_enum_new1 B) ⟨h1, ?_⟩
  have hz : (s.heap.push o).objs.size = s.heap.objs.size + 1 := Heap.size_push ..
  show _ ∧ _
  rw [hz]
  have he : IsEnum ((s.heap.push o).push { cls := .type "enumerate", data := .fields #[.none, .bool false, .ref s.heap.objs.size, rawInt 0, .none, .none] }) (s.heap.objs.size + 1) s.heap.objs.size 0 .none := by
    have := Heap.get?_push_size (s.heap.push o) (o := { cls := .type "enumerate", data := .fields #[.none, .bool false, .ref s.heap.objs.size, rawInt 0, .none, .none] }) rfl
    rw [hz] at this; exact this
  refine ⟨⟨_, he, rfl⟩, h _ he (Heap.get?_push_of_some _ (Heap.get?_push_size _ B.free)) (by rw [Heap.size_push, hz]) fun b o x => Heap.get?_push_of_some _ (Heap.get?_push_of_some _ x)⟩
end
end PySem
namespace TR
open PySem PySem.Spec PyProof.Rows L2
/-! ### enumerate(tuple) -/
/-- the tuple at a, each item in a new pair -/
def IteT (K : PySem.W.Frag) (a : Addr) : It :=
  ⟨fun i H => ∃ (xs : List V) (x : V), SqT K H a xs ∧ xs[i]? = some x, fun i H v H' => ∃ T x, v = .ref T ∧ H T = none ∧ H' = upd H T (.tup [.int (i : Nat), x]) ∧ ∀ xs, SqT K H a xs → xs[i]? = some x, fun i H => ∃ xs : List V, SqT K H a xs ∧ xs.length = i⟩
theorem tupIter_ne {h : Heap} {it a : Addr} {i : Nat} {items : Array Value} (hit : h.IsTupleIter it a i) (ht : h.IsTuple a items) : a ≠ it := by
  rintro rfl
  obtain ⟨o, ho, _, hd⟩ := hit
  obtain ⟨o', ho', _, n, hd'⟩ := ht
  rw [ho] at ho'; cases ho'
  rw [hd] at hd'; cases hd'
theorem enum_ne {h : Heap} {e it a : Addr} {c : Int} {old : Value} {items : Array Value} (he : IsEnum h e it c old) (ht : h.IsTuple a items) : e ≠ a := by
  rintro rfl
  obtain ⟨o', ho', _, n, hd'⟩ := ht
  have he' : h.get? e = some _ := he
  rw [he'] at ho'; cases ho'
  cases hd'
theorem turn_enumT {P : Program} {w : World} {K : PySem.W.Frag} {elts : List Expr} {kk : Nat} {tpos : Pos} (a e it : Addr) :
    Turn P w K (.Tuple elts kk tpos) (IteT K a) [e, it] e (fun i h => (∃ old, IsEnum h e it ((i : Nat) : Int) old) ∧ h.IsTupleIter it a i ∧ e ≠ it) where
  mem := by simp
  obj := fun i h st b hb => by
    obtain ⟨⟨old, he⟩, ⟨o, ho, hc, hd⟩, _⟩ := st
    have e' : b = e ∨ b = it := by simpa using hb
    rcases e' with z | z
    · rw [z]; exact ⟨_, he, fun v q => nomatch q⟩
    · rw [z]; exact ⟨o, ho, fun v q => by rw [hd] at q; cases q⟩
  keep := fun i h h' st k => let ⟨⟨old, he⟩, hi, hne⟩ := st; ⟨⟨old, k e (by simp) _ he⟩, hi.at fun o q => k it (by simp) o q, hne⟩
  item := by
    intro X hP hw hK hc i pins s σ H E I hf st hg
    subst hP hw hK
    obtain ⟨⟨old, he⟩, hit, hne⟩ := st
    obtain ⟨xs, x, hq, hx⟩ := hg
    obtain ⟨its, rv, p, hz⟩ := I.tuple hq
    have p : s.heap.IsTuple a its.toArray := p
    obtain ⟨u, hu, ru⟩ := rv.get hx
    have hel : e < s.heap.objs.size := Heap.lt_size he
    have hil : it < s.heap.objs.size := by obtain ⟨_, q, _⟩ := id hit; exact Heap.lt_size q
    have hil2 : i < its.toArray.size := by
      rw [List.size_toArray]; exact (List.getElem?_eq_some_iff.mp hu).1
    refine wpAny_pyNext_enum_itemD (Draws.tuple (A := X.A.in1) (I.ok.hd hc) it a (tupIter_ne hit p) its.toArray) he ⟨hit, p⟩ hil2 hne (by
      intro m
      rcases List.mem_cons.mp m with z | m
      · exact hne z
      · exact enum_ne he p (List.mem_singleton.mp m)) fun u' h' tk hPu ho hst' hT hsz hk => ?_
    obtain ⟨hit', _⟩ := hst'
    have eu : u' = u := by
      have h2 : its.toArray[i]? = some u := by simpa using hu
      rw [h2] at hPu
      exact (Option.some.inj hPu).symm
    subst eu
    refine ⟨_, rfl, wpAny_letOwnedTupleGo_enum (s := { s with heap := h', toks := tk + 1 }) ho fun h'' he' sb => ?_⟩
    have hT2 : h''.get? s.heap.objs.size = some { cls := .type "tuple", data := .seq #[.int i tk, u'] } := (sb.2 _ (Nat.ne_of_gt hel)).trans hT
    have new : ObjOk X.prog X.w (upd H s.heap.objs.size (.tup [.int (i : Nat), x])) h'' s.heap.objs.size (.tup [.int (i : Nat), x]) :=
      ⟨by show 2 ≤ sizeLine; decide, [.int i tk, u'], .cons ⟨_, rfl⟩ (.cons ru .nil), ⟨_, hT2, rfl, _, rfl⟩⟩
    have I1 : Inv X pins σ (upd H s.heap.objs.size (.tup [.int (i : Nat), x])) { s with heap := h'', toks := tk + 1 } :=
      I.turnedNew (ch := [e, it]) (fun b ob hb q => (sb.2 b (fun z => hb (by simp [z]))).trans (hk b ob (fun z => hb (by simp [z])) (fun z => hb (by simp [z])) q)) hf (Nat.le_refl _) new
    refine ⟨.ref s.heap.objs.size, _, I1, rfl, ⟨_, x, rfl, I.hok.fresh (Nat.le_refl _), rfl, fun ys hy => by rw [I.tuple_inj hy hq]; exact hx⟩, ⟨⟨u', ?_⟩, hit'.at fun o q => (sb.2 it (Ne.symm hne)).trans q, hne⟩, fun b hb => ?_⟩
    · have e1 : ((i + 1 : Nat) : Int) = (i : Int) + 1 := by omega
      rw [e1]; exact he'
    · have hb' : b < s.heap.objs.size := by
        have e' : b = e ∨ b = it := by simpa using hb
        rcases e' with z | z
        · rw [z]; exact hel
        · rw [z]; exact hil
      rw [upd_ne (Nat.ne_of_lt hb')]
      exact (hf b hb).1
  done := by
    intro X hP hw hK hc i pins s σ H E I hf st hg
    subst hP hw hK
    obtain ⟨⟨old, he⟩, hit, hne⟩ := st
    obtain ⟨xs, hq, hx⟩ := hg
    obtain ⟨its, rv, p, hz⟩ := I.tuple hq
    have p : s.heap.IsTuple a its.toArray := p
    obtain ⟨f0, f1, f2, f3, f4, f5⟩ := hf it (by simp)
    have hl := rv.length
    have hi : i = its.toArray.size := by rw [List.size_toArray]; omega
    subst hi
    exact wpAny_pyNext_enum_endD (Draws.tuple (A := X.A.in1) (I.ok.hd hc) it a (tupIter_ne hit p) its.toArray) he ⟨hit, p⟩ fun h' eb => ⟨rfl, I.turned (t' := s.toks) (fun b o hb q => eb b o hb q) f0 f1 f3 f4 f5⟩
  self := fun A i s Q E st h => let ⟨⟨_, he⟩, _⟩ := st; wpAny_pyIter_enum he h
def iEnumT (K : PySem.W.Frag) (ta : TA) : TI := fun σ H R => ta σ H fun vs H1 => ∃ a xs, vs = [.ref a] ∧ SqT K H1 a xs ∧ R (IteT K a) H1
theorem pi_enumT {X : Cx} {e : Expr} {ta : TA} {p pos tpos : Pos} {elts : List Expr} {kk : Nat} (hg : Gl X "enumerate") (hm : X.mg "enumerate" = none) (ha : PA X [e] ta) (hs : starEach [e] X.env = [(false, eval e X.env)] := by rfl) :
    PI X (.Tuple elts kk tpos) (.Call (.Name "enumerate" p) [e] [] pos) (iEnumT X.K ta) := by
  refine ⟨fun pins s σ H R I h => ?_⟩
  refine Call_ (ld_blt I hg hm boot_enumerate (PyProof.Rows.callWith_type1 (thn (ha.run pos pins s σ H _ I h) fun us s1 ⟨vs, H1, I1, r1, q1⟩ => ?_) hs rfl))
  obtain ⟨a, xs, ex, hq, q⟩ := q1
  subst ex
  cases r1 with
  | cons r rr =>
    cases rr
    cases r
    obtain ⟨its, rv, p', hz⟩ := I1.tuple hq
    refine call_enum1 (begins_tuple a its.toArray) p' fun h' he hit hsz hk => wpAny_pyIter_enum he ?_
    have I2 : Inv X pins σ H1 { s1 with heap := h' } := I1.kept (t' := s1.toks) hk
    refine ⟨s1.heap.objs.size + 1, [s1.heap.objs.size + 1, s1.heap.objs.size], _, _, H1, rfl, I2, turn_enumT a (s1.heap.objs.size + 1) s1.heap.objs.size, ⟨⟨.none, he⟩, ⟨_, hit, rfl, rfl⟩, Nat.succ_ne_self _⟩, fun b hb => ?_, q⟩
    have e' : b = s1.heap.objs.size + 1 ∨ b = s1.heap.objs.size := by simpa using hb
    have hle : s1.heap.objs.size ≤ b := by
      rcases e' with z | z
      · rw [z]; exact Nat.le_add_right _ _
      · rw [z]; exact Nat.le_refl _
    exact I1.fpOk hle (I1.hok.fresh hle)
theorem enum_walk {K : PySem.W.Frag} {a : Addr} {xs : List V} : Walk (IteT K a) xs.length (fun H => SqT K H a xs) (YPair (fun i => some (.int ((i : Nat) : Int))) (fun i => xs[i]?)) :=
  ⟨fun i H hi h => ⟨xs, xs[i], h, List.getElem?_eq_getElem hi⟩, fun H h => ⟨xs, h, rfl⟩, fun i H v H' hi h y => by
    obtain ⟨T, x, e1, e2, e3, e4⟩ := y
    exact ⟨T, _, x, e1, e2, e3, rfl, e4 xs h⟩⟩
end TR
namespace TR
open PySem PySem.Spec PyProof.Rows L2
/-! ### own exceptions as values -/
/-- an exception of the class at C, its dict d, at a -/
def ExF (C : Addr) (d : Option Addr) (a : Addr) : HO := .ext fun h => ∃ (oe : Obj) (vs : Array Value), h.get? a = some oe ∧ Zc (.ref C) d oe ∧ oe.data = .fields vs
theorem exF_ok {P : Program} {w : World} {H : Hp} {h : Heap} {a C : Addr} {d : Option Addr} {oe : Obj} {vs : Array Value} (e : h.get? a = some oe) (z : Zc (.ref C) d oe) (hd : oe.data = .fields vs) : ObjOk P w H h a (ExF C d a) :=
  ⟨⟨oe, vs, e, z, hd⟩, ⟨oe, e⟩, fun _ _ ⟨o, v, q, r⟩ k => ⟨o, v, k o q, r⟩⟩
/-- what the making of an exception with one field leaves -/
structure Made (fn : Str) (h h' : Heap) (e C d : Addr) (v : Value) : Prop where
  keep : ∀ b o, h.get? b = some o → h'.get? b = some o
  new : h.objs.size ≤ e
  obj : ∃ oe vs, h'.get? e = some oe ∧ oe.cls = .ref C ∧ oe.dict = some d ∧ oe.data = .fields vs
  dbig : h.objs.size ≤ d
  dne : d ≠ e
  ns : h'.Ns1 d (fun y => if y = fn then some v else none)
/-- a class whose __init__ stores its one argument in the field fn -/
structure MkF (K : PySem.W.Frag) (mg : Str → Option Value) (cn fn : Str) (C : Addr) : Prop where
  gC : mg cn = some (.ref C)
  kC : PySem.W.keepIn K (.ref C) = true
  no : PySem.W.findIn K (.ref C) fn = some none
  made : ∀ (prog : Program) (w : World) (A : Around) (R : Result → Shared → Prop) (s : Shared) (v : Value), K.In s.heap → s.heap.NoLimit → A.depth + 1 < recursionLimit →
    (∀ h' tk e d, Made fn s.heap h' e C d v → R (.ok (.ret (.ref e))) { s with heap := h', toks := tk }) → codeAny (model prog w) A (.call (.ref C) ⟨[v], []⟩) R s
theorem relO_fld {v : V} {v' : Value} (r : RelV v v') (fn f : Str) : RelO (List.lookup f [(fn, v)]) (if f = fn then some v' else none) := by
  by_cases hw : f = fn
  · subst hw
    rw [if_pos rfl]
    have q : List.lookup f [(f, v)] = some v := by simp [List.lookup]
    rw [q]
    exact r
  · rw [if_neg hw]
    have qw : (f == fn) = false := by simpa using hw
    have q2 : List.lookup f [(fn, v)] = none := by simp [List.lookup, qw]
    rw [q2]
    trivial
section
variable {X : Cx}
/-- C(e) -/
def tMkF (C : Addr) (fn : Str) (ta : TA) : TE := fun σ H Q => ta σ H fun vs H1 => ∃ v, vs = [v] ∧ ∀ e d H', Same H1 H' → H' e = some (ExF C (some d) e) → H' d = some (.xd [(fn, v)]) → Q (.ref e) H'
theorem pe_mkF {cn fn : Str} {C : Addr} {a : Expr} {ta : TA} {p pos : Pos} {k : Nat} (T : MkF X.K X.mg cn fn C) (hr : Room k X.A) (ha : PA X [a] ta) (hg : Gl X cn := by rfl) (hdb : (cn == ("__debug__" : Str)) = false := by decide)
    (he : starEach (a :: []) X.env = (false, eval a X.env) :: starEach [] X.env := by rfl) (hpl : (backTo pos (starEach [] X.env)).any (·.1) = false := by rfl) :
    PE X (.Call (.Name cn p) [a] [] pos) (tMkF C fn ta) := by
  refine ⟨fun pins s σ H Q I h => ?_⟩
  refine wpAny_Call_Name_kw (ld_glob I hg T.gC ?_ hdb)
  refine PySem.W.callWith_K (h₀ := X.base) I.ok.mod.kin T.kC (thn (ha.run pos pins s σ H _ I h) fun us s1 hh => ?_) he hpl
  obtain ⟨vs, H1, I1, r1, v, ev, q1⟩ := hh
  subst ev
  refine ⟨I1.kIn, ?_⟩
  cases r1 with
  | cons rv rn =>
    rename_i v' us'
    cases rn
    show wpAny _ _ (call (.ref C) [v']) _ _ _
    have hlim := I1.nolimit
    obtain ⟨hp, g, dr, tk, os⟩ := s1
    refine wpAny_call (T.made _ _ _ _ _ _ I1.kIn hlim (by have := hr.dp; omega) fun h' tk' e d M => ?_)
    show EP X pins σ Q (.ref e) ⟨h', g, dr, tk', os⟩
    obtain ⟨oe, fv, hoe, hc, hd, hdat⟩ := M.obj
    have hns := M.ns
    obtain ⟨G', g1, g2⟩ := restrict h' fun b => decide (b ≠ e)
    have gk : ∀ b, b ≠ e → G'.get? b = h'.get? b := fun b hb => g1 b (decide_eq_true hb)
    have ge : G'.get? e = none := g2 e (by simp)
    have old : ∀ b o, hp.get? b = some o → G'.get? b = some o := fun b o q => (gk b (Nat.ne_of_lt (Nat.lt_of_lt_of_le (Heap.lt_size q) M.new))).trans (M.keep b o q)
    have ob : ObjOk X.prog X.w (upd H1 d (.xd [(fn, v)])) G' d (.xd [(fn, v)]) :=
      ⟨_, hns.at (fun o q => (gk d M.dne).trans q), fun f => relO_fld rv fn f⟩
    have J : Inv X pins σ (upd H1 d (.xd [(fn, v)])) ⟨G', g, dr, tk', os⟩ := I1.laid (t' := tk') old M.dbig ob
    have nd : H1 d = none := I1.hok.fresh M.dbig
    have ne : upd H1 d (.xd [(fn, v)]) e = none := by
      rw [upd_ne (Ne.symm M.dne)]
      exact I1.hok.fresh M.new
    have J2 : Inv X pins σ (upd (upd H1 d (.xd [(fn, v)])) e (ExF C (some d) e)) ⟨h', g, dr, tk', os⟩ := J.laidN (t' := tk') (fun b o q => by
      by_cases hb : b = e
      · have q' : G'.get? b = some o := q
        rw [hb, ge] at q'; cases q'
      · exact (gk b hb).symm.trans q) ge ne (exF_ok hoe ⟨hc, hd⟩ hdat)
    exact ⟨.ref e, _, J2, rfl, q1 e d _ ((same_upd nd).trans (same_upd ne)) upd_same (by rw [upd_ne M.dne]; exact upd_same)⟩
/-- C() -/
def tMk0 (C : Addr) : TE := fun _ H Q => ∀ e H', Same H H' → H' e = some (ExF C none e) → Q (.ref e) H'
theorem pe_mk0 {C : Addr} {bmB : List Value} {B newId initId : String} {x : Str} {p pos : Pos} (F : ExcBaseFacts B newId initId bmB) (q : PySem.W.excIn X.K C bmB newId = true) (gC : X.mg x = some (.ref C)) (kC : PySem.W.keepIn X.K (.ref C) = true) (hg : Gl X x) (hdb : (x == ("__debug__" : Str)) = false := by decide) :
    PE X (.Call (.Name x p) [] [] pos) (tMk0 C) := by
  refine ⟨fun pins s σ H Q I h => ?_⟩
  refine wpAny_Call_Name_kw (ld_glob I hg gC ?_ hdb)
  refine PySem.W.callWith_K0 I.kIn kC ?_
  show wpAny _ _ (call (.ref C) []) _ _ _
  obtain ⟨bm, N, nm, qn, bs, hdct, sn, sub, ab, col, dd, k0, k1, k2, k3, k5, mN, hC, hN, hni, T⟩ := exc_obj I.kIn q
  refine wpAny_call_exc_subT F T hC hN hni (fun h' a hm => ?_) (Nat.zero_le _)
  have hn : H a = none := I.hok.gone hm.new
  obtain ⟨t, ht, _, _⟩ := hm.there
  exact ⟨.ref a, upd H a (ExF C none a), I.laidN hm.keeps hm.new hn (exF_ok ht ⟨rfl, rfl⟩ rfl), rfl, h a _ (same_upd hn) upd_same⟩
/-- where an exception's dict stands -/
def XdAt (H : Hp) : Option Addr → Prop
  | none => True
  | some dd => ∃ fs, H dd = some (.xd fs)
theorem XdAt.same {H H' : Hp} (s : Same H H') : ∀ {d : Option Addr}, XdAt H d → XdAt H' d
  | none, _ => trivial
  | some _, ⟨fs, h⟩ => ⟨fs, s _ _ h⟩
theorem exF_inst {pins : List (Addr × Obj)} {σ : L2.St} {H : Hp} {s : Shared} {a C : Addr} {d : Option Addr} (I : Inv X pins σ H s) (h : H a = some (ExF C d a)) (hd : XdAt H d) : ∃ oe od, PySem.W.InstAt s.heap a oe C od ∧ (d = none → od = none) ∧ (∀ dd, d = some dd → od.isSome = true) := by
  obtain ⟨⟨oe, vs, hget, hz, hv⟩, _⟩ := (show ObjOk X.prog X.w H s.heap a (ExF C d a) from I.hok a _ h)
  cases d with
  | none => exact ⟨oe, none, ⟨hget, hz.1, by unfold PySem.W.notCls; rw [hv] <;> rfl, by rw [hz.2]; trivial⟩, fun _ => rfl, fun _ z => by cases z⟩
  | some dd =>
    obtain ⟨fs, hx⟩ := hd
    obtain ⟨mA, hns, _⟩ := (show ObjOk X.prog X.w H s.heap dd (.xd fs) from I.hok dd _ hx)
    obtain ⟨od, ho, _⟩ := lookIn_ns hns
    exact ⟨oe, some od, ⟨hget, hz.1, by unfold PySem.W.notCls; rw [hv] <;> rfl, by rw [hz.2]; exact ho⟩, (fun z => by cases z), fun _ _ => rfl⟩
/-- isinstance(e, c), e an exception held as a value -/
def rIsF (K : PySem.W.Frag) : List V → Hp → VK → Prop := fun xs H Q => ∃ (a C : Addr) (d : Option Addr) (c : V) (cv : Value) (b : Bool), xs = [.ref a, c] ∧ H a = some (ExF C d a) ∧ XdAt H d ∧ ExcC K C ∧ ClsV c cv ∧ PySem.W.kitOne K (.ref C) cv = some b ∧ Q (.bl b) H
theorem call_isF : CallR X (.builtin "isinstance") (rIsF X.K) := by
  intro pins s σ H xs us Q I r ⟨a, D, d, c, cv, b, ex, ha, hd, C, hc, e, q⟩
  subst ex
  cases r with
  | cons rx rr =>
    cases rr with
    | cons rt rr =>
      cases rr; cases rx
      have ec := hc.eq rt
      subst ec
      obtain ⟨oe, od, J, h0, h1⟩ := exF_inst I ha hd
      cases d with
      | none =>
        cases h0 rfl
        exact PySem.W.kia_one (PySem.W.handS_kitx_exc C.hg C.hk C.hs C.hd C.ha C.hn C.ht C.hm) I.kIn J e (fun z => nomatch z) fun tk => ⟨.bl b, H, I.kept (t' := tk) fun _ _ z => z, rfl, q⟩
      | some dd =>
        obtain ⟨od', rfl⟩ := Option.isSome_iff_exists.mp (h1 dd rfl)
        obtain ⟨cd, hcd, _⟩ := PySem.W.any_some C.hd
        exact PySem.W.kia_one (PySem.W.kitx_exc (by rw [hcd]; rfl) C.hg C.hk C.hs C.ha C.hn C.ht C.hm) I.kIn J e (fun z => nomatch z) fun tk => ⟨.bl b, H, I.kept (t' := tk) fun _ _ z => z, rfl, q⟩
/-- e.f, e an exception held as a value -/
def tFldF (K : PySem.W.Frag) (n : Str) (te : TE) : TE := fun σ H Q => te σ H fun x H1 => ∃ (a C dd : Addr) (v : V), x = .ref a ∧ H1 a = some (ExF C (some dd) a) ∧ H1 dd = some (.xd [(n, v)]) ∧ ExcC K C ∧ PySem.W.findIn K (.ref C) n = some none ∧ Q v H1
theorem pe_fldF {e : Expr} {te : TE} {pos : Pos} {n : Str} (he : PE X e te) (hb : attributeBase e n X.env (eval e X.env) = eval e X.env := by rfl) : PE X (.Attribute e n pos) (tFldF X.K n te) := by
  refine ⟨fun pins s σ H Q I h => ?_⟩
  refine attr_of hb (thn (he.run pins s σ H _ I h) fun u s1 hh => ?_)
  obtain ⟨x, H1, I1, rx, a, C, dd, v, ex, ha, hx, T, no, q⟩ := hh
  subst ex
  obtain rfl : u = Value.ref a := rx
  obtain ⟨⟨oe, vs, hget, hz, hv⟩, _⟩ := (show ObjOk X.prog X.w H1 s1.heap a (ExF C (some dd) a) from I1.hok a _ ha)
  obtain ⟨mA, hns, hr⟩ := (show ObjOk X.prog X.w H1 s1.heap dd (.xd [(n, v)]) from I1.hok dd _ hx)
  obtain ⟨od, ho, hl⟩ := lookIn_ns hns
  have l : List.lookup n [(n, v)] = some v := by simp [List.lookup]
  obtain ⟨u, hu, ru⟩ := RelO.some_of (v := v) (o := mA n) (by rw [← l]; exact hr n)
  have J : PySem.W.InstAt s1.heap a oe C (some od) := ⟨hget, hz.1, by unfold PySem.W.notCls; rw [hv] <;> rfl, by rw [hz.2]; exact ho⟩
  exact HandSPX.exc_get I1.kIn J T.hg T.hk T.hs (PySem.W.findObj_own T.hd no rfl (by rw [hl, hu])) (handed_of ru) ⟨v, H1, I1.tok _, ru, q⟩
end
end TR
namespace TR
open PySem PySem.Spec PyProof.Rows L2
/-! ### a def that is handed the exception which the caller's suite holds -/
abbrev SpE := Value → Option Addr → Addr → Sp
structure FnE (P : Program) (w : World) (K : PySem.W.Frag) (mg : Str → Option Value) (base : Heap) (k : Nat) (f : Addr) (fd : FuncData) (ps : List Str) (sp : SpE) : Prop where
  len : ∀ c d a vs H Q E, sp c d a vs H Q E → vs.length = ps.length
  run : ∀ (A : Around) (l : List Env) (s : Shared) (H : Hp) (args : Args) (us : List Value) (vs : List V) (Q : VK) (p : Addr × Obj) (cls : Value) (d : Option Addr), L2H.RoomH k A → L2H.PinOk l H s p → Zc cls d p.2 → (∃ v, p.2.data = .fields v) →
    Env0 P w K mg base A l s H → BindsTo s fd args (ps.zip us) → Vals vs us → sp cls d p.1 vs H Q E0 → codeAny (model P w) A (.call (.ref f) args) (CR CX0 l P w H s Q E0) s
section
variable {P : Program} {w : World} {K : PySem.W.Frag} {mg : Str → Option Value} {base : Heap}
theorem okE {x q : Str} {st : Stmt} {f : Addr} {fd : FuncData} {N ps : List Str} {k : Nat} {sp : SpE} (F : Fun K x q st f fd) (S : FnScope N ps (defScope st)) (len : ∀ c d a vs H Q E, sp c d a vs H Q E → vs.length = ps.length)
    (body : ∀ (cdv : Value) (A : Around) (l : List Env) (s : Shared) (H : Hp) (vs : List V) (Q : VK) (p : Addr × Obj) (cls : Value) (d : Option Addr), L2H.RoomH k (A.deeper (envOfC q (defScope st) s.heap.objs.size f cdv)) → Zc cls d p.2 → (∃ v, p.2.data = .fields v) → sp cls d p.1 vs H Q E0 →
      ∃ t, PSs (L2H.cxH CX0 P w K mg base N q (defScope st) f cdv A l s H E0 p) (defBody st) t ∧ t { nx := fun _ H' => Q .non H', rt := Q } (L2.start N vs) H) : FnE P w K mg base (k + 1) f fd ps sp := by
  obtain ⟨oc, od, kV, doc, pm, an, cdv, ct, osl, rfl, lk, hcd⟩ := F.ex
  refine ⟨len, fun A l s H args us vs Q p cls d room pin hz hf en bt r hs => ?_⟩
  have n := len _ _ _ _ _ _ _ hs
  have kin : K.In s.heap := en.mod.kin.keeps fun b o e => (en.bs b o e).1
  have nol : s.heap.NoLimit := en.mod.nolimit.keeps fun b o e => (en.bs b o e).1
  have kinds : ∀ y ∈ ps.zip us, (defScope st).names.lookup y.1 = some .local ∨ ((defScope st).names.lookup y.1 = some .cell ∧ ((cellsFrom (s.heap.objs.size + 1) (defScope st).names []).lookup y.1).isSome = true) := by
    rintro ⟨y, v⟩ hy
    cases S.par y (List.of_mem_zip hy).1 with
    | inl z => exact .inl z
    | inr z => exact .inr ⟨z, PySem.W.cellsFrom_some _ _ _ (.inl z)⟩
  refine codeAny_call_function room.depth (kin _ _ lk) rfl S.co S.gen rfl (PySem.W.codeRec_of kin hcd) (bt _ _ _ _ ?_)
  refine wpAny_newFunctionEnv_cells S.kind kinds fun env eq s1 ic => ?_
  subst eq
  refine ⟨nol.keeps ic.toInCall.keep, codeAny_func ?_⟩
  obtain ⟨t, ht, hq⟩ := body cdv A l s H vs Q p cls d (room.deeper _) hz hf hs
  have J : Inv (L2H.cxH CX0 P w K mg base N q (defScope st) f cdv A l s H E0 p) [] (L2.start N vs) H s1 := L2H.inv_startH S pin en n r ic
  refine wpAny_mono (ht.run [] s1 _ H _ J hq) (fun fl s2 h2 => ?_) fun e s2 h2 => h2
  cases fl with
  | ret u =>
    obtain ⟨v, σ', H', I, rv, z⟩ := h2
    exact ⟨v, H', I.os, I.bare, I.base, I.hok, rv, z⟩
  | next =>
    obtain ⟨σ', H', I, z⟩ := h2
    exact ⟨V.non, H', I.os, I.bare, I.base, I.hok, rfl, z⟩
  | brk => exact h2.elim fun _ h => h.elim fun _ h => h.2.elim
  | cont => exact h2.elim fun _ h => h.elim fun _ h => h.2.elim
end
/-! ### in the body of such a def, and in the suite -/
section
variable {X : Cx}
theorem pin_inst {pins : List (Addr × Obj)} {σ : L2.St} {H : Hp} {s : Shared} {p : Addr × Obj} {C : Addr} {d : Option Addr} (I : Inv X pins σ H s) (hp : p ∈ X.pn) (hz : Zc (.ref C) d p.2) (hf : ∃ vs, p.2.data = .fields vs) (hd : XdAt H d) :
    ∃ od, PySem.W.InstAt s.heap p.1 p.2 C od ∧ (d = none → od = none) ∧ (∀ dd, d = some dd → od.isSome = true) := by
  obtain ⟨g, _⟩ := I.pin p (List.mem_append_left _ hp)
  obtain ⟨vs, hv⟩ := hf
  cases d with
  | none => exact ⟨none, ⟨g, hz.1, by unfold PySem.W.notCls; rw [hv] <;> rfl, by rw [hz.2]; trivial⟩, fun _ => rfl, fun _ z => by cases z⟩
  | some dd =>
    obtain ⟨fs, hx⟩ := hd
    obtain ⟨mA, hns, _⟩ := (show ObjOk X.prog X.w H s.heap dd (.xd fs) from I.hok dd _ hx)
    obtain ⟨od, ho, _⟩ := lookIn_ns hns
    exact ⟨some od, ⟨g, hz.1, by unfold PySem.W.notCls; rw [hv] <;> rfl, by rw [hz.2]; exact ho⟩, (fun z => by cases z), fun _ _ => rfl⟩
/-- isinstance(e, c), e the exception that is pinned -/
def rIsP (K : PySem.W.Frag) (p : Addr × Obj) : List V → Hp → VK → Prop := fun xs H Q => ∃ (C : Addr) (d : Option Addr) (c : V) (cv : Value) (b : Bool), xs = [.ref p.1, c] ∧ Zc (.ref C) d p.2 ∧ (∃ vs, p.2.data = .fields vs) ∧ XdAt H d ∧ ExcC K C ∧ ClsV c cv ∧ PySem.W.kitOne K (.ref C) cv = some b ∧ Q (.bl b) H
theorem call_isP {p : Addr × Obj} (hp : p ∈ X.pn) : CallR X (.builtin "isinstance") (rIsP X.K p) := by
  intro pins s σ H xs us Q I r ⟨D, d, c, cv, b, ex, hz, hf, hd, C, hc, e, q⟩
  subst ex
  cases r with
  | cons rx rr =>
    cases rr with
    | cons rt rr =>
      cases rr; cases rx
      have ec := hc.eq rt
      subst ec
      obtain ⟨od, J, h0, h1⟩ := pin_inst I hp hz hf hd
      cases d with
      | none =>
        cases h0 rfl
        exact PySem.W.kia_one (PySem.W.handS_kitx_exc C.hg C.hk C.hs C.hd C.ha C.hn C.ht C.hm) I.kIn J e (fun z => nomatch z) fun tk => ⟨.bl b, H, I.kept (t' := tk) fun _ _ z => z, rfl, q⟩
      | some dd =>
        obtain ⟨od', rfl⟩ := Option.isSome_iff_exists.mp (h1 dd rfl)
        obtain ⟨cd, hcd, _⟩ := PySem.W.any_some C.hd
        exact PySem.W.kia_one (PySem.W.kitx_exc (by rw [hcd]; rfl) C.hg C.hk C.hs C.ha C.hn C.ht C.hm) I.kIn J e (fun z => nomatch z) fun tk => ⟨.bl b, H, I.kept (t' := tk) fun _ _ z => z, rfl, q⟩
/-- isinstance(e, (c, ..)), e the exception that is pinned -/
def rIsPT (K : PySem.W.Frag) (p : Addr × Obj) : List V → Hp → VK → Prop := fun xs H Q => ∃ (C : Addr) (d : Option Addr) (tp : Addr) (cs : List V) (us : List Value) (b : Bool), xs = [.ref p.1, .ref tp] ∧ Zc (.ref C) d p.2 ∧ (∃ vs, p.2.data = .fields vs) ∧ XdAt H d ∧ ExcC K C ∧ H tp = some (.tup cs) ∧ Paired ClsV cs us ∧ PySem.W.kitAny K (.ref C) us = some b ∧ Q (.bl b) H
theorem call_isPT {p : Addr × Obj} (hp : p ∈ X.pn) : CallR X (.builtin "isinstance") (rIsPT X.K p) := by
  intro pins s σ H xs us Q I r ⟨D, d, tp, cs, vs, b, ex, hz, hf, hd, C, htp, hpr, e, q⟩
  subst ex
  cases r with
  | cons rx rr =>
    cases rr with
    | cons rt rr =>
      cases rr; cases rx; cases rt
      obtain ⟨od, J, h0, h1⟩ := pin_inst I hp hz hf hd
      obtain ⟨z, its, rv, ⟨oc, odd, odt, osl⟩, ho, hc, n, hdt⟩ := (show ObjOk X.prog X.w H s.heap tp (.tup cs) from I.hok tp _ htp)
      dsimp only at hc hdt; subst hc hdt
      have ev := ClsV.all hpr rv
      subst ev
      cases d with
      | none =>
        cases h0 rfl
        exact PySem.W.kia_tup (PySem.W.handS_kitx_exc C.hg C.hk C.hs C.hd C.ha C.hn C.ht C.hm) I.kIn J ho e (fun z => nomatch z) fun tk => ⟨.bl b, H, I.kept (t' := tk) fun _ _ z => z, rfl, q⟩
      | some dd =>
        obtain ⟨od', rfl⟩ := Option.isSome_iff_exists.mp (h1 dd rfl)
        obtain ⟨cd, hcd, _⟩ := PySem.W.any_some C.hd
        exact PySem.W.kia_tup (PySem.W.kitx_exc (by rw [hcd]; rfl) C.hg C.hk C.hs C.ha C.hn C.ht C.hm) I.kIn J ho e (fun z => nomatch z) fun tk => ⟨.bl b, H, I.kept (t' := tk) fun _ _ z => z, rfl, q⟩
/-- e.f, e the exception that is pinned -/
def tFldP (K : PySem.W.Frag) (p : Addr × Obj) (n : Str) (te : TE) : TE := fun σ H Q => te σ H fun x H1 => ∃ (C dd : Addr) (v : V), x = .ref p.1 ∧ Zc (.ref C) (some dd) p.2 ∧ (∃ vs, p.2.data = .fields vs) ∧ H1 dd = some (.xd [(n, v)]) ∧ ExcC K C ∧ PySem.W.findIn K (.ref C) n = some none ∧ Q v H1
theorem pe_fldP {p : Addr × Obj} {e : Expr} {te : TE} {pos : Pos} {n : Str} (hp : p ∈ X.pn) (he : PE X e te) (hb : attributeBase e n X.env (eval e X.env) = eval e X.env := by rfl) : PE X (.Attribute e n pos) (tFldP X.K p n te) := by
  refine ⟨fun pins s σ H Q I h => ?_⟩
  refine attr_of hb (thn (he.run pins s σ H _ I h) fun u s1 hh => ?_)
  obtain ⟨x, H1, I1, rx, C, dd, v, ex, hz, ⟨vs, hv⟩, hx, T, no, q⟩ := hh
  subst ex
  obtain rfl : u = Value.ref p.1 := rx
  obtain ⟨hget, _⟩ := I1.pin p (List.mem_append_left _ hp)
  obtain ⟨mA, hns, hr⟩ := (show ObjOk X.prog X.w H1 s1.heap dd (.xd [(n, v)]) from I1.hok dd _ hx)
  obtain ⟨od, ho, hl⟩ := lookIn_ns hns
  have l : List.lookup n [(n, v)] = some v := by simp [List.lookup]
  obtain ⟨u, hu, ru⟩ := RelO.some_of (v := v) (o := mA n) (by rw [← l]; exact hr n)
  have J : PySem.W.InstAt s1.heap p.1 p.2 C (some od) := ⟨hget, hz.1, by unfold PySem.W.notCls; rw [hv] <;> rfl, by rw [hz.2]; exact ho⟩
  exact HandSPX.exc_get I1.kIn J T.hg T.hk T.hs (PySem.W.findObj_own T.hd no rfl (by rw [hl, hu])) (handed_of ru) ⟨v, H1, I1.tok _, ru, q⟩
/-- f(e, ..) where e is the exception that is pinned -/
def tCallE (sp : SpE) (cls : Value) (d : Option Addr) (a : Addr) (t : TA) : TE := fun σ H Q => t σ H fun vs H1 => sp cls d a vs H1 Q E0
theorem pe_callE {k : Nat} {f : Addr} {fd : FuncData} {ps : List Str} {sp : SpE} {x : Str} {q pos : Pos} {e : Expr} {es : List Expr} {t : TA} {a : Addr} {oe : Obj} {cls : Value} {d : Option Addr} (F : FnE X.prog X.w X.K X.mg X.base k f fd ps sp) (hr : L2H.RoomH k X.A) (hp : (a, oe) ∈ X.pn) (hz : Zc cls d oe) (hf : ∃ vs, oe.data = .fields vs)
    (hg : Gl X x) (hm : X.mg x = some (.ref f)) (hk : PySem.W.keepIn X.K (.ref f) = true) (hb : Binds X.K fd ps []) (ha : PA X (e :: es) t)
    (hdb : (x == ("__debug__" : Str)) = false := by decide) (he : starEach (e :: es) X.env = (false, eval e X.env) :: starEach es X.env := by rfl) (hpl : (backTo pos (starEach es X.env)).any (·.1) = false := by rfl) :
    PE X (.Call (.Name x q) (e :: es) [] pos) (tCallE sp cls d a t) := by
  refine ⟨fun pins s σ H Q I h => ?_⟩
  refine wpAny_Call_Name_kw (ld_glob I hg hm ?_ hdb)
  refine PySem.W.callWith_K (h₀ := X.base) I.ok.mod.kin hk (thn (ha.run pos pins s σ H _ I h) fun us s1 hh => ?_) he hpl
  obtain ⟨vs, H1, I1, r, z⟩ := hh
  refine ⟨I1.kIn, ?_⟩
  have n : us.length = ps.length := by rw [← r.length]; exact F.len _ _ _ _ _ _ _ z
  have b := hb s1 us I1.kIn (by rw [List.append_nil]; exact n)
  rw [List.append_nil] at b
  have P1 := I1.pin (a, oe) (List.mem_append_left _ hp)
  have pin : L2H.PinOk X.stack H1 s1 (a, oe) := ⟨P1.1, P1.2.1, fun m => (List.mem_cons.mp (I1.stkSub a m)).elim P1.2.2.1 P1.2.2.2.1, P1.2.2.2.2⟩
  refine wpAny_call (codeAny_mono (F.run X.A X.stack s1 H1 ⟨us, []⟩ us vs Q (a, oe) cls d hr pin hz hf I1.env0 b r z) fun r s' hq => ?_)
  cases r with
  | error e => exact False.elim hq
  | ok fl =>
    cases fl with
    | ret u => exact I1.after hq
    | next => exact False.elim hq
    | brk => exact False.elim hq
    | cont => exact False.elim hq
/-- raise C() -/
theorem pmk_0 {C : Addr} {bmB : List Value} {B newId initId : String} {x : Str} {p pos : Pos} (F : ExcBaseFacts B newId initId bmB) (q : PySem.W.excIn X.K C bmB newId = true) (gC : X.mg x = some (.ref C)) (kC : PySem.W.keepIn X.K (.ref C) = true) (r : Raises X (.ref C)) (hg : Gl X x) (hdb : (x == ("__debug__" : Str)) = false := by decide) :
    PMk X (.Call (.Name x p) [] [] pos) (fun _ H Q => Q (.ref C) none H) := by
  intro pins s σ H Q I h
  refine wpAny_Call_Name_kw (ld_glob I hg gC ?_ hdb)
  refine PySem.W.callWith_K0 I.kIn kC ?_
  show wpAny _ _ (call (.ref C) []) _ _ _
  obtain ⟨bm, N, nm, qn, bs, hdct, sn, sub, ab, col, dd, k0, k1, k2, k3, k5, mN, hC, hN, hni, T⟩ := exc_obj I.kIn q
  exact wpAny_call_exc_subT F T hC hN hni (fun h' a hm => mk_of I hm r h (I.hok.gone hm.new)) (Nat.zero_le _)
end
theorem roomH_suite {k : Nat} {A : Around} {u : Option Value} (r : Room k A) : L2H.RoomH k (A.mark u) := ⟨r.dp, r.un⟩
end TR
namespace TR
open PySem PySem.Spec PyProof.Rows L2
/-- a class without __init__ of its own, which is raised -/
structure Mk0 (K : PySem.W.Frag) (mg : Str → Option Value) (cn : Str) (C : Addr) : Prop where
  g : mg cn = some (.ref C)
  k : PySem.W.keepIn K (.ref C) = true
  q : PySem.W.excIn K C [.type "ValueError", .type "Exception", .type "BaseException", .type "object"] "ValueError.__new__" = true
  b : PySem.W.subIn K (.ref C) (.type "BaseException") = some true
  t : PySem.W.typeIn K (.ref C) = some (.type "type")
end TR
namespace TR
open PySem PySem.Spec PyProof.Rows L2
def topS (i : Nat) : Stmt := PySem.Challenge.pw_tasterow_k58_lines_and_rankings.main.body.getD i (.Pass ⟨0, 0, 0, 0⟩)
abbrev sWhole : Stmt := topS 15
abbrev sWithin : Stmt := topS 16
abbrev sIsLd : Stmt := topS 18
abbrev sIsLine : Stmt := topS 19
abbrev sIsPlace : Stmt := topS 20
abbrev sLineRk : Stmt := topS 21
abbrev sDeck : Stmt := topS 23
abbrev sNext : Stmt := topS 24
abbrev sOne : Stmt := topS 25
abbrev sLWhole : Stmt := topS 26
abbrev sSame : Stmt := topS 27
abbrev sOdd : Stmt := topS 28
abbrev sBent : Stmt := topS 29
abbrev sIsList : Stmt := topS 30
abbrev sLine : Stmt := topS 31
abbrev sMeeting : Stmt := topS 32
abbrev sRaised : Stmt := topS 33
abbrev sLIsLine : Stmt := topS 34
abbrev sAnswer58 : Stmt := topS 35
abbrev sOrdered : Stmt := topS 36
abbrev sValues58 : Stmt := topS 37
abbrev sLaw : Stmt := topS 38
end TR
namespace TR
open PySem PySem.Spec PyProof.Rows L2
theorem scRaised : FnScope ["_law_error", "_law_found"] ["_law_error"] (defScope sRaised) := ⟨rfl, rfl, rfl, by decide +kernel, rfl, by decide +kernel, by decide +kernel⟩
/-- what is known of the class number i of those that _law_raised asks for -/
structure RsC (K : PySem.W.Frag) (cs : Nat → Addr) (i : Nat) : Prop where
  ec : ExcC K (cs i)
  kit : ∀ j, j < 10 → PySem.W.kitOne K (.ref (cs i)) (.ref (cs j)) = some (decide (i = j))
  kv : PySem.W.kitOne K (.ref (cs i)) (.type "ValueError") = some true
structure RsG (mg : Str → Option Value) (cs : Nat → Addr) : Prop where
  g0 : mg "NoMenu" = some (.ref (cs 0))
  g1 : mg "NotSeatable" = some (.ref (cs 1))
  g2 : mg "NoSeating" = some (.ref (cs 2))
  g3 : mg "NoCuts" = some (.ref (cs 3))
  g4 : mg "NoSize" = some (.ref (cs 4))
  g5 : mg "NoDish" = some (.ref (cs 5))
  g6 : mg "NoRanking" = some (.ref (cs 6))
  g7 : mg "NoTaster" = some (.ref (cs 7))
  g8 : mg "NoSpan" = some (.ref (cs 8))
  g9 : mg "NoPlaces" = some (.ref (cs 9))
/-- an exception without a field, named n -/
def spRs0 (C : Addr) (n : Str) : SpE := fun cls d a vs H Q _ => vs = [.ref a] ∧ cls = .ref C ∧ d = none ∧ ∀ H' l, Same H H' → H l = none → l ≠ sysModules → H' l = some (.lst [.str n]) → Q (.ref l) H'
/-- an exception with the field fn, which is v -/
def spRs1 (C : Addr) (n fn : Str) : SpE := fun cls d a vs H Q _ => ∃ (dd : Addr) (v : V), vs = [.ref a] ∧ cls = .ref C ∧ d = some dd ∧ H dd = some (.xd [(fn, v)]) ∧ ∀ H' l, Same H H' → H l = none → l ≠ sysModules → H' l = some (.lst [.str n, v]) → Q (.ref l) H'
end TR
namespace TR
open PySem PySem.Spec PyProof.Rows L2
section
variable {P : Program} {w : World} {K : PySem.W.Frag} {mg : Str → Option Value} {base : Heap} {cs : Nat → Addr}
theorem ok_raised7 {f : Addr} {fd : FuncData} {k : Nat} (F : Fun K "_law_raised" "_law_raised" sRaised f fd) (G : RsG mg cs) (U : RsC K cs 7) (nf : PySem.W.findIn K (.ref (cs 7)) "taster" = some none) (misi : mg "isinstance" = none) (mlen : mg "len" = none) (mve : mg "ValueError" = none) : FnE P w K mg base (k + 1) f fd ["_law_error"] (spRs1 (cs 7) "NoTaster" "taster") := by
  refine okE F scRaised (fun c d a vs H Q E h => ?_) (fun cdv A l s H vs Q p cls d hr hz hf h => ?_)
  · obtain ⟨_, _, rfl, _⟩ := h
    rfl
  · obtain ⟨dd, v, rfl, rfl, rfl, hx, q⟩ := h
    have hp : p ∈ [p] := List.mem_cons_self
    refine ⟨_, 
      (pss_cons (ps_set (i := 1) scRaised.nd rfl (.inl rfl) (pe_lstN pa_nil))
      (pss_cons (ps_if (pt_val (pe_callB (call_isP hp) (by rfl) misi (by decide +kernel) (pa_cons (pv 0) (pa_cons (pe_glob (v := .ref (cs 0)) (by rfl) G.g0 rfl) pa_nil)))) (pss_one (ps_expr (pe_bm PySem.F.plainAttrs_list PySem.F.slot_list_append PySem.F.type_list_append mt_append (pv 1) (pa_cons (pe_lstN (pa_cons pe_str pa_nil)) pa_nil)))) pss_nil)
      (pss_cons (ps_if (pt_val (pe_callB (call_isP hp) (by rfl) misi (by decide +kernel) (pa_cons (pv 0) (pa_cons (pe_glob (v := .ref (cs 1)) (by rfl) G.g1 rfl) pa_nil)))) (pss_one (ps_expr (pe_bm PySem.F.plainAttrs_list PySem.F.slot_list_append PySem.F.type_list_append mt_append (pv 1) (pa_cons (pe_lstN (pa_cons pe_str (pa_cons (pe_fldP hp (pv 0)) pa_nil))) pa_nil)))) pss_nil)
      (pss_cons (ps_if (pt_val (pe_callB (call_isP hp) (by rfl) misi (by decide +kernel) (pa_cons (pv 0) (pa_cons (pe_glob (v := .ref (cs 2)) (by rfl) G.g2 rfl) pa_nil)))) (pss_one (ps_expr (pe_bm PySem.F.plainAttrs_list PySem.F.slot_list_append PySem.F.type_list_append mt_append (pv 1) (pa_cons (pe_lstN (pa_cons pe_str pa_nil)) pa_nil)))) pss_nil)
      (pss_cons (ps_if (pt_val (pe_callB (call_isP hp) (by rfl) misi (by decide +kernel) (pa_cons (pv 0) (pa_cons (pe_glob (v := .ref (cs 3)) (by rfl) G.g3 rfl) pa_nil)))) (pss_one (ps_expr (pe_bm PySem.F.plainAttrs_list PySem.F.slot_list_append PySem.F.type_list_append mt_append (pv 1) (pa_cons (pe_lstN (pa_cons pe_str pa_nil)) pa_nil)))) pss_nil)
      (pss_cons (ps_if (pt_val (pe_callB (call_isP hp) (by rfl) misi (by decide +kernel) (pa_cons (pv 0) (pa_cons (pe_glob (v := .ref (cs 4)) (by rfl) G.g4 rfl) pa_nil)))) (pss_one (ps_expr (pe_bm PySem.F.plainAttrs_list PySem.F.slot_list_append PySem.F.type_list_append mt_append (pv 1) (pa_cons (pe_lstN (pa_cons pe_str (pa_cons (pe_fldP hp (pv 0)) pa_nil))) pa_nil)))) pss_nil)
      (pss_cons (ps_if (pt_val (pe_callB (call_isP hp) (by rfl) misi (by decide +kernel) (pa_cons (pv 0) (pa_cons (pe_glob (v := .ref (cs 5)) (by rfl) G.g5 rfl) pa_nil)))) (pss_one (ps_expr (pe_bm PySem.F.plainAttrs_list PySem.F.slot_list_append PySem.F.type_list_append mt_append (pv 1) (pa_cons (pe_lstN (pa_cons pe_str (pa_cons (pe_fldP hp (pv 0)) pa_nil))) pa_nil)))) pss_nil)
      (pss_cons (ps_if (pt_val (pe_callB (call_isP hp) (by rfl) misi (by decide +kernel) (pa_cons (pv 0) (pa_cons (pe_glob (v := .ref (cs 6)) (by rfl) G.g6 rfl) pa_nil)))) (pss_one (ps_expr (pe_bm PySem.F.plainAttrs_list PySem.F.slot_list_append PySem.F.type_list_append mt_append (pv 1) (pa_cons (pe_lstN (pa_cons pe_str (pa_cons (pe_fldP hp (pv 0)) pa_nil))) pa_nil)))) pss_nil)
      (pss_cons (ps_if (pt_val (pe_callB (call_isP hp) (by rfl) misi (by decide +kernel) (pa_cons (pv 0) (pa_cons (pe_glob (v := .ref (cs 7)) (by rfl) G.g7 rfl) pa_nil)))) (pss_one (ps_expr (pe_bm PySem.F.plainAttrs_list PySem.F.slot_list_append PySem.F.type_list_append mt_append (pv 1) (pa_cons (pe_lstN (pa_cons pe_str (pa_cons (pe_fldP hp (pv 0)) pa_nil))) pa_nil)))) pss_nil)
      (pss_cons (ps_if (pt_val (pe_callB (call_isP hp) (by rfl) misi (by decide +kernel) (pa_cons (pv 0) (pa_cons (pe_glob (v := .ref (cs 8)) (by rfl) G.g8 rfl) pa_nil)))) (pss_one (ps_expr (pe_bm PySem.F.plainAttrs_list PySem.F.slot_list_append PySem.F.type_list_append mt_append (pv 1) (pa_cons (pe_lstN (pa_cons pe_str pa_nil)) pa_nil)))) pss_nil)
      (pss_cons (ps_if (pt_val (pe_callB (call_isP hp) (by rfl) misi (by decide +kernel) (pa_cons (pv 0) (pa_cons (pe_glob (v := .ref (cs 9)) (by rfl) G.g9 rfl) pa_nil)))) (pss_one (ps_expr (pe_bm PySem.F.plainAttrs_list PySem.F.slot_list_append PySem.F.type_list_append mt_append (pv 1) (pa_cons (pe_lstN (pa_cons pe_str pa_nil)) pa_nil)))) pss_nil)
      (pss_one (ps_ret (pe_ifExp (PW.pt (pw_and (pt_cmpR op_eq (pe_callB call_len_seq (by rfl) mlen PySem.boot_len (pa_cons (pv 1) pa_nil)) pe_int (nomark _)) (pw_and1 (pt_val (pe_callB (call_isP hp) (by rfl) misi (by decide +kernel) (pa_cons (pv 0) (pa_cons (pe_bltn (v := .ty "ValueError") (by rfl) mve (by decide +kernel) rfl) pa_nil))))))) (pe_ix (r := rIxL K) ix_list (pv 1) pe_int (fun _ _ => rfl)) (pe_lstN (pa_cons pe_str pa_nil)))))))))))))))), ?_⟩
    refine ⟨by show 0 ≤ sizeLine; decide, fun g H1 hg ng s1 e1 => ?_⟩
    have HX := s1 _ _ hx
    refine ⟨.ref p.1, rfl, cs 7, _, .ref (cs 0), _, false, rfl, hz, hf, ⟨_, HX⟩, U.ec, .own _, U.kit 0 (by decide), _, rfl, iteF ?_⟩
    refine ⟨.ref p.1, rfl, cs 7, _, .ref (cs 1), _, false, rfl, hz, hf, ⟨_, HX⟩, U.ec, .own _, U.kit 1 (by decide), _, rfl, iteF ?_⟩
    refine ⟨.ref p.1, rfl, cs 7, _, .ref (cs 2), _, false, rfl, hz, hf, ⟨_, HX⟩, U.ec, .own _, U.kit 2 (by decide), _, rfl, iteF ?_⟩
    refine ⟨.ref p.1, rfl, cs 7, _, .ref (cs 3), _, false, rfl, hz, hf, ⟨_, HX⟩, U.ec, .own _, U.kit 3 (by decide), _, rfl, iteF ?_⟩
    refine ⟨.ref p.1, rfl, cs 7, _, .ref (cs 4), _, false, rfl, hz, hf, ⟨_, HX⟩, U.ec, .own _, U.kit 4 (by decide), _, rfl, iteF ?_⟩
    refine ⟨.ref p.1, rfl, cs 7, _, .ref (cs 5), _, false, rfl, hz, hf, ⟨_, HX⟩, U.ec, .own _, U.kit 5 (by decide), _, rfl, iteF ?_⟩
    refine ⟨.ref p.1, rfl, cs 7, _, .ref (cs 6), _, false, rfl, hz, hf, ⟨_, HX⟩, U.ec, .own _, U.kit 6 (by decide), _, rfl, iteF ?_⟩
    refine ⟨.ref p.1, rfl, cs 7, _, .ref (cs 7), _, true, rfl, hz, hf, ⟨_, HX⟩, U.ec, .own _, U.kit 7 (by decide), _, rfl, iteT ?_⟩
    refine ⟨.ref g, rfl, .inl ⟨rfl, _, sqL e1⟩, .ref p.1, rfl, cs 7, dd, v, rfl, hz, hf, HX, U.ec, nf, by show 2 ≤ sizeLine; decide, fun l H2 hl nl s2 e2 => ?_⟩
    have e1 := s2 _ _ e1
    refine ⟨g, _, _, rfl, rfl, e1, by show 0 < sizeLine; decide, ?_⟩
    have ngl : l ≠ g := fun z => by rw [z] at e2; rw [e1] at e2; cases e2
    have e2 : upd H2 g (.lst ([] ++ [.ref l])) l = _ := (upd_ne ngl).trans e2
    have S := same_upd2 (s1.trans s2) hg (p := g) (o := .lst ([] ++ [.ref l]))
    have e1 : upd H2 g (.lst ([] ++ [.ref l])) g = some (.lst [.ref l]) := upd_same
    have HX := S _ _ hx
    generalize upd H2 g (.lst ([] ++ [.ref l])) = H3 at e1 e2 S HX ⊢
    refine ⟨.ref p.1, rfl, cs 7, _, .ref (cs 8), _, false, rfl, hz, hf, ⟨_, HX⟩, U.ec, .own _, U.kit 8 (by decide), _, rfl, iteF ?_⟩
    refine ⟨.ref p.1, rfl, cs 7, _, .ref (cs 9), _, false, rfl, hz, hf, ⟨_, HX⟩, U.ec, .own _, U.kit 9 (by decide), _, rfl, iteF ?_⟩
    refine ⟨.ref g, rfl, g, _, rfl, .inl (sqL e1), rfl, _, rfl, iteT ?_⟩
    refine ⟨.ref p.1, rfl, cs 7, _, .ty "ValueError", _, true, rfl, hz, hf, ⟨_, HX⟩, U.ec, .ty _, U.kv, _, rfl, iteT ?_⟩
    exact ⟨.ref g, rfl, g, _, 0, .ref l, rfl, rfl, sqL e1, rfl, q H3 l S (s1.free hl) nl e2⟩
end
end TR
namespace TR
open PySem PySem.Spec PyProof.Rows L2
theorem scDeck : FnScope ["_law_script", "_law_cells", "_law_cell"] ["_law_script"] (defScope sDeck) := ⟨rfl, rfl, rfl, by decide +kernel, rfl, by decide +kernel, by decide +kernel⟩
section
variable {P : Program} {w : World} {K : PySem.W.Frag} {mg : Str → Option Value} {base : Heap}
def spDeck (K : PySem.W.Frag) : Sp := fun vs H Q _ => ∃ (a : Addr) (ns : List Int), vs = [.ref a] ∧ SqL K H a (ns.map V.int) ∧ ns.length ≤ 63 ∧
  ∀ H' d p q, Same H H' → Deck H' d p q 0 → Q (.ref d) H'
theorem ok_deck {f : Addr} {fd : FuncData} {k : Nat} (F : Fun K "_law_deck" "_law_deck" sDeck f fd) (mabs : mg "abs" = none) (mlen : mg "len" = none) : FnOk P w K mg base CX0 (k + 1) f fd ["_law_script"] (spDeck K) := by
  refine F.ok scDeck (fun vs H Q E h => ?_) (fun cdv A outer s H vs Q E hr h => ?_)
  · obtain ⟨a, ns, rfl, _⟩ := h
    rfl
  · obtain ⟨a, ns, rfl, hS, hlen, q⟩ := h
    refine ⟨_, pss_cons (ps_setLc (i := 1) (own := [("_law_cell", 2)]) (g := gName 2) (tt := tYes) (by rfl) scDeck.nd rfl rfl (sw_true rfl rfl rfl (by decide +kernel)) (pi_list (pv 0))
        (blkOk_by (own := [("_law_cell", 2)]) (N := ["_law_script", "_law_cells", "_law_cell"]) (sc := defScope sDeck) (by decide +kernel)) (fun _ _ _ _ _ => pg_name (i := 2) scDeck.nd rfl (Or.inl rfl)) (fun _ _ _ _ _ => pts_nil)
        (fun _ _ _ _ _ => pe_callB call_abs (by rfl) mabs (by decide +kernel) (pa_cons (pv 2) pa_nil)))
      (pss_one (ps_ret (pe_lst (pa_cons
        (pe_lc (own := [("_law_cell", 2)]) (g := gName 2) (by rfl) scDeck.nd (pi_list (pv 1))
          (blkOk_by (own := [("_law_cell", 2)]) (N := ["_law_script", "_law_cells", "_law_cell"]) (sc := defScope sDeck) (by decide +kernel)) (fun _ _ _ _ _ => pg_name (i := 2) scDeck.nd rfl (Or.inl rfl))
          (fun _ _ _ _ _ => pts_one (pt_cmpR op_ge (pv 2) (pe_op op_pow pe_int pe_int) (nomark _)))
          (fun _ _ _ _ _ => pv 2))
        (pa_cons (pe_op op_cat (pv 1) (pe_lst (pa_cons (pe_op op_add (pe_callB call_len_seq (by rfl) mlen PySem.boot_len (pa_cons (pv 1) pa_nil)) pe_int) pa_nil)))
        (pa_cons pe_int pa_nil)))))), ?_⟩
    refine ⟨.ref a, rfl, a, rfl, ⟨_, hS⟩, fun D hD => lc_list (K := K) (a := a) (xs := ns.map V.int) (fun i H1 => Same H H1 ∧ ∃ zs : List Int, zs.length ≤ i ∧ H1 D = some (.lst (zs.map V.int))) ⟨same_upd hD, [], Nat.zero_le _, upd_same⟩ (fun i H1 _ h => h.1.seq hS) (fun i x H1 hx h => ?_) (fun H1 h => ?_)⟩
    · obtain ⟨sm, zs, hz, hd⟩ := h
      obtain ⟨z, hz1, rfl⟩ : ∃ z, ns[i]? = some z ∧ x = .int z := by
        rw [List.getElem?_map] at hx
        cases e : ns[i]? with
        | none => rw [e] at hx; cases hx
        | some z => rw [e] at hx; exact ⟨z, rfl, (Option.some.inj hx).symm⟩
      have hi : i < ns.length := (List.getElem?_eq_some_iff.mp hz1).1
      refine ⟨rfl, .int z, rfl, z, rfl, _, hd, ?_, same_upd2 sm hD, zs ++ [if z < 0 then -z else z], ?_, ?_⟩
      · rw [List.length_map]
        exact small1000 (by omega)
      · rw [List.length_append]
        show zs.length + 1 ≤ i + 1
        omega
      · rw [upd_same, List.map_append]
        rfl
    · obtain ⟨sm, zs, hz, hd⟩ := h
      rw [List.length_map] at hz
      refine ⟨.ref D, rfl, D, rfl, ⟨_, sqL hd⟩, fun p hp => lc_list (K := K) (a := D) (xs := zs.map V.int) (fun i H2 => Same H1 H2 ∧ ∃ ys : List Int, ys.length ≤ i ∧ H2 p = some (.lst (ys.map V.int))) ⟨same_upd hp, [], Nat.zero_le _, upd_same⟩ (fun i H2 _ h => h.1.seq (sqL hd)) (fun i x H2 hx h => ?_) (fun H2 h => ?_)⟩
      · obtain ⟨sm2, ys, hy, hd2⟩ := h
        obtain ⟨z, hz1, rfl⟩ : ∃ z, zs[i]? = some z ∧ x = .int z := by
          rw [List.getElem?_map] at hx
          cases e : zs[i]? with
          | none => rw [e] at hx; cases hx
          | some z => rw [e] at hx; exact ⟨z, rfl, (Option.some.inj hx).symm⟩
        have hi : i < zs.length := (List.getElem?_eq_some_iff.mp hz1).1
        refine ⟨rfl, .int z, rfl, 10, 18, rfl, rfl, ⟨by decide, by decide, by decide⟩, _, _, rfl, rfl, _, rfl, ite2 (fun _ => ?_) (fun _ => ?_)⟩
        · refine ⟨.int z, rfl, _, hd2, ?_, same_upd2 sm2 hp, ys ++ [z], ?_, ?_⟩
          · rw [List.length_map]
            exact small1000 (by omega)
          · rw [List.length_append]
            show ys.length + 1 ≤ i + 1
            omega
          · rw [upd_same, List.map_append]
            rfl
        · exact ⟨sm2, ys, by omega, hd2⟩
      · obtain ⟨sm2, ys, hy, hd2⟩ := h
        have hD2 : H2 D = some (.lst (zs.map V.int)) := sm2 _ _ hd
        rw [List.length_map] at hy
        refine ⟨.ref D, rfl, .ref D, rfl, D, _, rfl, .inl (sqL hD2), _, _, rfl, rfl, by show 1 ≤ sizeLine; decide, fun t ht => ?_⟩
        have nDt : D ≠ t := ne_of_none hD2 ht
        refine ⟨D, t, _, _, rfl, rfl, (by rw [upd_ne nDt]; exact hD2), upd_same, ?_, fun q' hq' => ?_⟩
        · rw [List.length_map]
          show zs.length + 1 ≤ sizeLine
          exact Nat.le_of_lt (small1000 (by omega))
        · have e : zs.map V.int ++ [V.int (((zs.map V.int).length : Int) + 5)] = (zs ++ [((zs.map V.int).length : Int) + 5]).map V.int := by
            rw [List.map_append]
            rfl
          refine ⟨by show 3 ≤ sizeLine; decide, fun d hd' => q _ d p q' ?_ ⟨ys.length, ⟨⟨ys, zs ++ [((zs.map V.int).length : Int) + 5], 0, upd_same, ?_, ?_, Int.le_refl _, Int.le_refl _, by simp, rfl⟩, ?_, ?_, ?_⟩⟩⟩
          · exact (sm.trans sm2).trans ((same_upd ht).trans ((same_upd hq').trans (same_upd hd')))
          · exact ((same_upd ht).trans ((same_upd hq').trans (same_upd hd'))) _ _ hd2
          · rw [← e]
            exact (same_upd hd') _ _ upd_same
          · exact (ne_of_none (((same_upd ht).trans (same_upd hq')) _ _ hd2) hd').symm
          · exact (ne_of_none (upd_same (H := upd H2 t _)) hd').symm
          · exact ne_of_none ((same_upd ht) _ _ hd2) hq'
end
end TR
namespace TR
open PySem PySem.Spec PyProof.Rows L2
theorem scNext : FnScope ["_law_deck_here", "_law_many", "_law_rest", "_law_cell", "_law_mixed"] ["_law_deck_here", "_law_many"] (defScope sNext) := ⟨rfl, rfl, rfl, by decide +kernel, rfl, by decide +kernel, by decide +kernel⟩
theorem ixN_zero {n : Nat} (h : 0 < n) : ixN n 0 = some 0 := by
  unfold ixN
  rw [if_pos (Int.le_refl _), if_pos (by omega)]
  rfl
section
variable {P : Program} {w : World} {K : PySem.W.Frag} {mg : Str → Option Value} {base : Heap}
def spNext : Sp := fun vs H Q _ => ∃ (d p q : Addr) (n : Nat) (m : Int), vs = [.ref d, .int m] ∧ Deck H d p q n ∧ n ≤ 1000000 ∧ 0 < m ∧ m ≤ 4000000000000 ∧
  ∀ H' r, 0 ≤ r → r < m → Deck H' d p q (n + 1) → Keep d p H H' → Q (.int r) H'
theorem ok_next {f : Addr} {fd : FuncData} {k : Nat} (F : Fun K "_law_next" "_law_next" sNext f fd) (mlen : mg "len" = none) : FnOk P w K mg base CX0 (k + 1) f fd ["_law_deck_here", "_law_many"] spNext := by
  refine F.ok scNext (fun vs H Q E h => ?_) (fun cdv A outer s H vs Q E hr h => ?_)
  · obtain ⟨d, p, q, n, m, rfl, _⟩ := h
    rfl
  · obtain ⟨d, p, q, n, m, rfl, ⟨l0, D0⟩, hn, hm0, hm1, qq⟩ := h
    refine ⟨_, pss_cons (ps_while PassesOwn.never (pt_cmpR (op_neD hr.units) (pe_ix ix_list (pv 0) pe_int (fun _ _ => rfl)) (pe_lst pa_nil) (nomark _))
        (pss_cons (ps_set (i := 2) scNext.nd rfl (.inl rfl) (pe_ix ix_list (pe_ix ix_list (pv 0) pe_int (fun _ _ => rfl)) pe_int (fun _ _ => rfl)))
        (pss_cons (ps_if (pt_cmpR op_gt (pv 2) pe_int (nomark _))
          (pss_cons (ps_asg (pe_op op_fdivW (pv 2) (pv 1)) (pg_sub (pe_ix ix_list (pv 0) pe_int (fun _ _ => rfl)) pe_int set_list))
          (pss_one (ps_ret (pe_op op_mod (pv 2) (pv 1))))) pss_nil)
        (pss_one (ps_expr (pe_bm PySem.F.plainAttrs_list PySem.F.slot_list_pop PySem.F.type_list_pop mt_popAt (pe_ix ix_list (pv 0) pe_int (fun _ _ => rfl)) (pa_cons pe_int pa_nil)))))))
      (pss_cons (ps_asg (pe_op op_add (pe_ix ix_list (pv 0) pe_int (fun _ _ => rfl)) pe_int) (pg_sub (pv 0) pe_int set_list))
      (pss_cons (ps_set (i := 3) scNext.nd rfl (.inl rfl) (pe_op op_mod (pe_ix ix_list (pe_ix ix_list (pv 0) pe_int (fun _ _ => rfl)) (pe_op op_mod (pe_ix ix_list (pv 0) pe_int (fun _ _ => rfl)) (pe_callB call_len_seq (by rfl) mlen PySem.boot_len (pa_cons (pe_ix ix_list (pv 0) pe_int (fun _ _ => rfl)) pa_nil))) (fun _ _ => rfl)) pe_int))
      (pss_cons (ps_set (i := 4) scNext.nd rfl (.inl rfl) (pe_op op_add (pe_op op_add (pe_op op_mul (pv 3) (pe_op op_add pe_int (pe_op op_mul pe_int (pe_ix ix_list (pv 0) pe_int (fun _ _ => rfl))))) (pe_op op_mul (pe_op op_mul pe_int (pe_ix ix_list (pv 0) pe_int (fun _ _ => rfl))) (pe_ix ix_list (pv 0) pe_int (fun _ _ => rfl)))) pe_int))
      (pss_cons (ps_set (i := 4) scNext.nd rfl (.inl rfl) (pe_op op_mod (pv 4) pe_int))
      (pss_one (ps_ret (pe_op op_mod (pe_op op_fdiv (pe_op op_mod (pe_op op_mul (pv 4) (pv 4)) pe_int) pe_int) (pv 1)))))))), ?_⟩
    refine ⟨fun l σ H1 => ∃ y2, σ = [some (.ref d), some (.int m), y2, none, none] ∧ DeckL H1 d p q n l ∧ Keep d p H H1, ⟨l0, none, rfl, D0, Keep.refl _ _ _⟩, fun l σ H1 hW => ?_⟩
    obtain ⟨y2, rfl, ⟨⟨xs, cs, c, h1, h2, h3, h4, h5, h6, h7⟩, ndp, ndq, npq⟩, kp⟩ := hW
    refine ⟨.ref d, rfl, d, _, 0, .ref p, rfl, rfl, sqL h1, rfl, Nat.zero_le _, fun e he => ?_⟩
    have hp1 : upd H1 e (.lst []) p = some (.lst (xs.map V.int)) := by
      rw [upd_ne (ne_of_none h2 he)]
      exact h2
    have hd1 : upd H1 e (.lst []) d = some (.lst [.ref p, .ref q, .int c]) := by
      rw [upd_ne (ne_of_none h1 he)]
      exact h1
    have hq1 : upd H1 e (.lst []) q = some (.lst (cs.map V.int)) := by
      rw [upd_ne (ne_of_none h3 he)]
      exact h3
    have kp1 : Keep d p H (upd H1 e (.lst [])) := kp.trans (Same.keep (same_upd he))
    refine ⟨_, _, .lst (sqL hp1) (dpAll_ints xs), .lst (sqL upd_same) .nil, shaped_ints xs, rfl, _, rfl, ?_⟩
    rw [eqv_nil]
    cases xs with
    | cons x r =>
      refine iteT ?_
      refine ⟨fun σ H2 => ∃ y2, σ = [some (.ref d), some (.int m), y2, none, none] ∧ DeckL H2 d p q n r.length ∧ Keep d p H H2, fun σ' H' hN => ⟨r.length, by rw [← h7]; exact Nat.lt_succ_self _, hN⟩, ?_⟩
      refine ⟨.ref d, rfl, d, _, 0, .ref p, rfl, rfl, sqL hd1, rfl, p, _, 0, .int x, rfl, rfl, sqL hp1, atI_nat (j := 0) rfl, ?_⟩
      refine ⟨.int x, rfl, x, 0, rfl, rfl, _, rfl, ite2 (fun hx => ?_) (fun hx => ?_)⟩
      · refine ⟨.int x, rfl, .int m, rfl, x, m, rfl, rfl, wide_div (b := 42) hm0 (by show m.natAbs < 4398046511104; omega) (by decide) (by decide), .ref d, rfl, d, _, 0, .ref p, rfl, rfl, sqL hd1, rfl, p, _, 0, 0, rfl, rfl, hp1, ixN_zero (by simp), ?_⟩
        refine ⟨.int x, rfl, .int m, rfl, x, m, rfl, rfl, hm0, qq _ _ (Int.emod_nonneg _ (by omega)) (Int.emod_lt_of_pos _ hm0) ?_ (keep_upd kp1 (.inr rfl))⟩
        refine ⟨r.length + 1, ⟨⟨(x / m) :: r, cs, c, ?_, upd_same, ?_, h4, by omega, h6, rfl⟩, ndp, ndq, npq⟩⟩
        · rw [upd_ne ndp]
          exact hd1
        · rw [upd_ne npq.symm]
          exact hq1
      · refine ⟨.ref d, rfl, d, _, 0, .ref p, rfl, rfl, sqL hd1, rfl, .inl ⟨rfl, _, sqL hp1⟩, p, _, 0, 0, .int x, rfl, rfl, hp1, by decide, by decide, ?_, rfl, ?_⟩
        · show seqIndex? 0 ((V.int x :: r.map V.int).length) = some 0
          unfold seqIndex?
          simp
        · refine ⟨some (.int x), rfl, ⟨⟨r, cs, c, ?_, upd_same, ?_, h4, h5, h6, rfl⟩, ndp, ndq, npq⟩, keep_upd kp1 (.inr rfl)⟩
          · rw [upd_ne ndp]
            exact hd1
          · rw [upd_ne npq.symm]
            exact hq1
    | nil =>
      refine iteF ?_
      refine ⟨.ref d, rfl, d, _, 2, .int c, rfl, rfl, sqL hd1, rfl, c, 1, rfl, rfl, .ref d, rfl, d, _, 2, 2, rfl, rfl, hd1, rfl, ?_⟩
      have kp2 : Keep d p H (upd (upd H1 e (.lst [])) d (.lst [.ref p, .ref q, .int (c + 1)])) := keep_upd kp1 (.inl rfl)
      have hq2 : upd (upd H1 e (.lst [])) d (.lst [.ref p, .ref q, .int (c + 1)]) q = some (.lst (cs.map V.int)) := by
        rw [upd_ne ndq.symm]
        exact hq1
      have hp2 : upd (upd H1 e (.lst [])) d (.lst [.ref p, .ref q, .int (c + 1)]) p = some (.lst (([] : List Int).map V.int)) := by
        rw [upd_ne ndp.symm]
        exact hp1
      have hd2 : upd (upd H1 e (.lst [])) d (.lst [.ref p, .ref q, .int (c + 1)]) d = some (.lst [.ref p, .ref q, .int (c + 1)]) := upd_same
      have hcl : 0 < (cs.map V.int).length := by
        rw [List.length_map]
        exact List.length_pos_iff.mpr h6
      have hcl' : (0 : Int) < ((cs.map V.int).length : Int) := by omega
      have b0 : 0 ≤ (c + 1) % ((cs.map V.int).length : Int) := Int.emod_nonneg _ (by omega)
      have b1 : (c + 1) % ((cs.map V.int).length : Int) < ((cs.map V.int).length : Int) := Int.emod_lt_of_pos _ hcl'
      obtain ⟨j, hj⟩ := Int.eq_ofNat_of_zero_le b0
      have hjl : j < cs.length := by
        rw [List.length_map] at b1 hj
        omega
      have ga : (cs.map V.int)[j]? = some (.int cs[j]) := by
        rw [List.getElem?_map, List.getElem?_eq_getElem hjl]
        rfl
      have gb : atI (cs.map V.int) ((c + 1) % ((cs.map V.int).length : Int)) = some (.int cs[j]) := by
        rw [hj]
        exact atI_nat ga
      refine ⟨.ref d, rfl, d, _, 1, .ref q, rfl, rfl, sqL hd2, rfl, .ref d, rfl, d, _, 2, .int (c + 1), rfl, rfl, sqL hd2, rfl, .ref d, rfl, d, _, 1, .ref q, rfl, rfl, sqL hd2, rfl, q, _, rfl, .inl (sqL hq2), _, _, rfl, rfl, hcl', q, _, _, _, rfl, rfl, sqL hq2, gb, _, _, rfl, rfl, by show (0 : Int) < 2147483647; decide, ?_⟩
      have e1 : (0 : Int) ≤ cs[j] % 2147483647 := Int.emod_nonneg _ (by decide)
      have e2 : cs[j] % 2147483647 < 2147483647 := Int.emod_lt_of_pos _ (by decide)
      refine ⟨.int (cs[j] % 2147483647), rfl, .ref d, rfl, d, _, 2, .int (c + 1), rfl, rfl, sqL hd2, rfl, 48271, _, rfl, rfl, .inl ⟨by decide, by decide⟩, _, _, rfl, rfl, cs[j] % 2147483647, _, rfl, rfl, .inl ⟨by show -(2 : Int) ^ 64 < cs[j] % 2147483647; omega, by show cs[j] % 2147483647 < (2 : Int) ^ 64; omega⟩,
        .ref d, rfl, d, _, 2, .int (c + 1), rfl, rfl, sqL hd2, rfl, 30011, _, rfl, rfl, .inl ⟨by decide, by decide⟩, .ref d, rfl, d, _, 2, .int (c + 1), rfl, rfl, sqL hd2, rfl, _, _, rfl, rfl, .inr ⟨by show -(2 : Int) ^ 64 < c + 1; omega, by show c + 1 < (2 : Int) ^ 64; omega⟩, _, _, rfl, rfl, _, _, rfl, rfl, ?_⟩
      refine ⟨_, rfl, _, _, rfl, rfl, by show (0 : Int) < 2147483629; decide, ?_⟩
      have e3 : (0 : Int) ≤ (cs[j] % 2147483647 * (69621 + 48271 * (c + 1)) + 30011 * (c + 1) * (c + 1) + 47) % 2147483629 := Int.emod_nonneg _ (by decide)
      have e4 : (cs[j] % 2147483647 * (69621 + 48271 * (c + 1)) + 30011 * (c + 1) * (c + 1) + 47) % 2147483629 < 2147483629 := Int.emod_lt_of_pos _ (by decide)
      refine ⟨.int ((cs[j] % 2147483647 * (69621 + 48271 * (c + 1)) + 30011 * (c + 1) * (c + 1) + 47) % 2147483629), rfl, .int ((cs[j] % 2147483647 * (69621 + 48271 * (c + 1)) + 30011 * (c + 1) * (c + 1) + 47) % 2147483629), rfl, _, _, rfl, rfl, .inl ⟨by show -(2 : Int) ^ 64 < (cs[j] % 2147483647 * (69621 + 48271 * (c + 1)) + 30011 * (c + 1) * (c + 1) + 47) % 2147483629; omega, by show (cs[j] % 2147483647 * (69621 + 48271 * (c + 1)) + 30011 * (c + 1) * (c + 1) + 47) % 2147483629 < (2 : Int) ^ 64; omega⟩, _, _, rfl, rfl, by show (0 : Int) < 2147483587; decide, _, _, rfl, rfl, ⟨by decide, by decide⟩, .int m, rfl, _, m, rfl, rfl, hm0, ?_⟩
      exact qq _ _ (Int.emod_nonneg _ (by omega)) (Int.emod_lt_of_pos _ hm0) ⟨0, ⟨[], cs, c + 1, hd2, hp2, hq2, by omega, by omega, h6, rfl⟩, ndp, ndq, npq⟩ kp2
end
end TR
namespace TR
open PySem PySem.Spec PyProof.Rows L2
/-! ### rankings in the heap -/
def Tp (H : Hp) (a : Addr) (ns : List Int) : Prop := ∃ o : Obj, o.dict = none ∧ H a = some (.frz o (.tup (ns.map V.int)))
theorem Tp.sq {K : PySem.W.Frag} {H : Hp} {a : Addr} {ns : List Int} (t : Tp H a ns) : SqT K H a (ns.map V.int) := by
  obtain ⟨o, _, h⟩ := t
  exact .inl (.inr ⟨o, h⟩)
theorem Tp.same {H H' : Hp} {a : Addr} {ns : List Int} (t : Tp H a ns) (s : Same H H') : Tp H' a ns := by
  obtain ⟨o, d, h⟩ := t
  exact ⟨o, d, s _ _ h⟩
theorem Tp.keep {H H' : Hp} {a d p q : Addr} {n : Nat} {ns : List Int} (t : Tp H a ns) (D : Deck H d p q n) (s : Keep d p H H') : Tp H' a ns := by
  obtain ⟨o, hd, h⟩ := t
  obtain ⟨x, y, c, e1⟩ := D.hd
  obtain ⟨xs, e2⟩ := D.hp
  exact ⟨o, hd, s _ _ h (ne_of h e1 (by intro z; cases z)) (ne_of h e2 (by intro z; cases z))⟩
theorem Tp.new {H : Hp} {a : Addr} {ns : List Int} {o : Obj} (h : o.dict = none) : Tp (upd H a (.frz o (.tup (ns.map V.int)))) a ns := ⟨o, h, upd_same⟩
/-! ### tuples, written or made -/
theorem rdT_same {H H' : Hp} {a : Addr} {u : HO} (h : Rd H a u) (s : Same H H') : Rd H' a u := by
  rcases h with h | ⟨o, h⟩
  · exact .inl (s _ _ h)
  · exact .inr ⟨o, s _ _ h⟩
theorem rdT_keep {H H' : Hp} {a d p q : Addr} {n : Nat} {xs : List V} (h : Rd H a (.tup xs)) (D : Deck H d p q n) (s : Keep d p H H') : Rd H' a (.tup xs) := by
  obtain ⟨x, y, c, e1⟩ := D.hd
  obtain ⟨zs, e2⟩ := D.hp
  rcases h with h | ⟨o, h⟩
  · exact .inl (s _ _ h (ne_of h e1 (by intro z; cases z)) (ne_of h e2 (by intro z; cases z)))
  · exact .inr ⟨o, s _ _ h (ne_of h e1 (by intro z; cases z)) (ne_of h e2 (by intro z; cases z))⟩
theorem rdT_updl {H : Hp} {a D : Addr} {us xs ys : List V} (h : Rd H a (.tup us)) (e : H D = some (.lst xs)) : Rd (upd H D (.lst ys)) a (.tup us) := by
  rcases h with h | ⟨o, h⟩
  · exact .inl (by rw [upd_ne (ne_of h e (by intro z; cases z))]; exact h)
  · exact .inr ⟨o, by rw [upd_ne (ne_of h e (by intro z; cases z))]; exact h⟩
/-! ### lists of pairs -/
inductive Prs (H : Hp) : List V → List (Int × Int) → Prop
  | nil : Prs H [] []
  | cons {q : Addr} {a b : Int} {vs : List V} {ps : List (Int × Int)} : Rd H q (.tup [.int a, .int b]) → Prs H vs ps → Prs H (.ref q :: vs) ((a, b) :: ps)
theorem Prs.same {H H' : Hp} {vs : List V} {ps : List (Int × Int)} (h : Prs H vs ps) (s : Same H H') : Prs H' vs ps := by
  induction h with
  | nil => exact .nil
  | cons e _ ih => exact .cons (rdT_same e s) ih
theorem Prs.upd_lst {H : Hp} {vs : List V} {ps : List (Int × Int)} {D : Addr} {xs ys : List V} (h : Prs H vs ps) (e : H D = some (.lst xs)) : Prs (upd H D (.lst ys)) vs ps := by
  induction h with
  | nil => exact .nil
  | cons e2 _ ih => exact .cons (rdT_updl e2 e) ih
theorem Prs.append {H : Hp} {vs ws : List V} {ps qs : List (Int × Int)} (h : Prs H vs ps) (g : Prs H ws qs) : Prs H (vs ++ ws) (ps ++ qs) := by
  induction h with
  | nil => exact g
  | cons e _ ih => exact .cons e ih
theorem Prs.len {H : Hp} {vs : List V} {ps : List (Int × Int)} (h : Prs H vs ps) : vs.length = ps.length := by
  induction h with
  | nil => rfl
  | cons _ _ ih => rw [List.length_cons, List.length_cons, ih]
theorem Prs.get {H : Hp} {vs : List V} {ps : List (Int × Int)} (h : Prs H vs ps) : ∀ {i : Nat} {x : V}, vs[i]? = some x → ∃ q a b, x = .ref q ∧ ps[i]? = some (a, b) ∧ Rd H q (.tup [.int a, .int b]) := by
  induction h with
  | nil => intro i x e; simp at e
  | cons e _ ih =>
    intro i x g
    cases i with
    | zero => exact ⟨_, _, _, (Option.some.inj g).symm, rfl, e⟩
    | succ i => exact ih g
def pd (p : Int × Int) : PyData := .tuple [.int p.1, .int p.2]
theorem Prs.dp {K : PySem.W.Frag} {H : Hp} {vs : List V} {ps : List (Int × Int)} (h : Prs H vs ps) : DpAll K H vs (ps.map pd) := by
  induction h with
  | nil => exact .nil
  | cons e _ ih => exact .cons (.tup (.inl e) (.cons (.int _) (.cons (.int _) .nil))) ih
/-- a walk over a range inside a comprehension, by a word over heaps -/
theorem walk_in {n : Nat} {lo : Int} {H4 : Hp} {Nx : Hp → Prop} {B : V → Hp → (Hp → Prop) → Prop} (Pv : Nat → Hp → Prop) (h0 : Pv 0 H4) (hs : ∀ j H, j < n → Pv j H → B (.int (lo + (j : Int))) H (Pv (j + 1))) (hd : ∀ H, Pv n H → Nx H) :
    ∃ W : Nat → Nat → Hp → Prop, (∃ m, W 0 m H4) ∧ ∀ j k H, W j k H → ((Itr lo n).stop j H ∧ Nx H) ∨ ((Itr lo n).go j H ∧ ∃ N : Hp → Prop, (∀ H', N H' → ∃ k', k' < k ∧ W (j + 1) k' H') ∧ ∀ x H', (Itr lo n).yld j H x H' → B x H' N) := by
  refine ⟨fun j k H => k = n - j ∧ j ≤ n ∧ Pv j H, ⟨n, by simp, Nat.zero_le _, h0⟩, ?_⟩
  rintro j k H ⟨rfl, hj, p⟩
  by_cases hlt : j < n
  · refine .inr ⟨hlt, Pv (j + 1), fun H' p' => ⟨n - (j + 1), by omega, rfl, hlt, p'⟩, fun x H' y => ?_⟩
    obtain ⟨e, e2⟩ := y
    subst e e2
    exact hs j _ hlt p
  · have e : j = n := by omega
    subst e
    exact .inl ⟨Nat.le_refl _, hd H p⟩
end TR
namespace TR
open PySem PySem.Spec PyProof.Rows L2
theorem scSame : FnScope ["_law_found", "_law_due", "_law_k"] ["_law_found", "_law_due"] (defScope sSame) := ⟨rfl, rfl, rfl, by decide +kernel, rfl, by decide +kernel, by decide +kernel⟩
/-! ### the same data, at two places -/
def flatX : V → Bool
  | .non => true
  | .bl _ => true
  | .int _ => true
  | .str _ => true
  | _ => false
def Alk (K : PySem.W.Frag) (H : Hp) : Nat → V → V → Prop
  | 0, _, _ => False
  | m + 1, x, y => (flatX x = true ∧ x = y) ∨ ∃ (a b : Addr) (xs ys : List V), x = .ref a ∧ y = .ref b ∧ ((SqL K H a xs ∧ SqL K H b ys) ∨ (SqT K H a xs ∧ SqT K H b ys)) ∧ xs.length = ys.length ∧ xs.length ≤ 1000 ∧
      ∀ (i : Nat) (u v : V), xs[i]? = some u → ys[i]? = some v → Alk K H m u v
theorem Alk.same {K : PySem.W.Frag} {H H' : Hp} (s : Same H H') : ∀ {m : Nat} {x y : V}, Alk K H m x y → Alk K H' m x y
  | 0, _, _, h => h.elim
  | m + 1, x, y, h => by
    rcases h with h | ⟨a, b, xs, ys, ex, ey, hq, h1, h2, h3⟩
    · exact .inl h
    · refine .inr ⟨a, b, xs, ys, ex, ey, ?_, h1, h2, fun i u v hu hv => Alk.same s (h3 i u v hu hv)⟩
      rcases hq with ⟨p, q⟩ | ⟨p, q⟩
      · exact .inl ⟨s.seq p, s.seq q⟩
      · exact .inr ⟨same_seqT s p, same_seqT s q⟩
theorem tyL {K : PySem.W.Frag} {H : Hp} {a : Addr} {xs : List V} (h : SqL K H a xs) : TyX K H (.ref a) (.type "list") := by
  rcases h with (h | ⟨o, h⟩) | ⟨o, its, n, hk, hc, _⟩
  · exact .base (.lst h)
  · exact .base (.frz h)
  · exact .kList hk hc
theorem tyT {K : PySem.W.Frag} {H : Hp} {a : Addr} {xs : List V} (h : SqT K H a xs) : TyX K H (.ref a) (.type "tuple") := by
  rcases h with (h | ⟨o, h⟩) | ⟨o, its, n, hk, hc, _⟩
  · exact .base (.tup h)
  · exact .fTuple h
  · exact .kTuple hk hc
theorem kit_two {K : PySem.W.Frag} {t a b : String} {r1 r2 : Bool} (h1 : kitB t a = some r1) (h2 : kitB t b = some r2) : PySem.W.kitAny K (.type t) [Value.type a, Value.type b] = some (r1 || r2) := by
  unfold PySem.W.kitAny
  rw [kit_ty h1]
  cases r1 with
  | true => rfl
  | false =>
    show PySem.W.kitAny K (.type t) [Value.type b] = some r2
    unfold PySem.W.kitAny
    rw [kit_ty h2]
    cases r2 <;> rfl
def tyF : V → Value
  | .non => .type "NoneType"
  | .bl _ => .type "bool"
  | .int _ => .type "int"
  | _ => .type "str"
theorem tyFlat {K : PySem.W.Frag} {H : Hp} {x : V} (h : flatX x = true) : TyX K H x (tyF x) := by
  cases x with
  | non => exact .base .non
  | bl b => exact .base (.bl b)
  | int i => exact .base (.int i)
  | str z => exact .base (.str z)
  | _ => exact absurd (show false = true from h) Bool.false_ne_true
section
variable {P : Program} {w : World} {K : PySem.W.Frag} {mg : Str → Option Value} {base : Heap}
def spSame (K : PySem.W.Frag) (m : Nat) : Sp := fun vs H Q _ => ∃ x y, vs = [x, y] ∧ Alk K H m x y ∧ ∀ H', Same H H' → Q (.bl true) H'
theorem ok_same {f : Addr} {fd : FuncData} (F : Fun K "_law_same" "_law_same" sSame f fd) (bS : Binds K fd ["_law_found", "_law_due"] []) (gS : mg "_law_same" = some (.ref f))
    (misi : mg "isinstance" = none) (mt : mg "tuple" = none) (ml : mg "list" = none) (mlen : mg "len" = none) (mr : mg "range" = none) (md : mg "dict" = none) (ms : mg "str" = none) (mi : mg "int" = none) (mb : mg "bool" = none) :
    ∀ m, FnOk P w K mg base CX0 m f fd ["_law_found", "_law_due"] (spSame K m)
  | 0 => ⟨fun vs H Q E h => by obtain ⟨x, y, rfl, _⟩ := h; rfl, fun A outer s H args us vs Q E hr he hb hv h => by obtain ⟨x, y, _, h, _⟩ := h; exact h.elim⟩
  | m + 1 => by
    have GS := ok_same F bS gS misi mt ml mlen mr md ms mi mb m
    refine F.ok scSame (fun vs H Q E h => ?_) (fun cdv A outer s H vs Q E hr h => ?_)
    · obtain ⟨x, y, rfl, _⟩ := h
      rfl
    · obtain ⟨x, y, rfl, hal, q⟩ := h
      refine ⟨_, pss_cons (ps_if (pt_val (pe_callB call_isiT (by rfl) misi (by decide +kernel) (pa_cons (pv 1) (pa_cons (pe_tup (pa_cons (pe_bltn (v := .ty "tuple") (by rfl) mt (by decide +kernel) rfl) (pa_cons (pe_bltn (v := .ty "list") (by rfl) ml (by decide +kernel) rfl) pa_nil))) pa_nil))))
          (pss_cons (ps_if (pt_cmpR op_ne (pe_callB call_isi (by rfl) misi (by decide +kernel) (pa_cons (pv 0) (pa_cons (pe_bltn (v := .ty "tuple") (by rfl) mt (by decide +kernel) rfl) pa_nil))) (pe_callB call_isi (by rfl) misi (by decide +kernel) (pa_cons (pv 1) (pa_cons (pe_bltn (v := .ty "tuple") (by rfl) mt (by decide +kernel) rfl) pa_nil))) (nomark _)) (pss_one (ps_ret pe_bl)) pss_nil)
          (pss_cons (ps_if (pt_cmpR op_ne (pe_callB call_isi (by rfl) misi (by decide +kernel) (pa_cons (pv 0) (pa_cons (pe_bltn (v := .ty "list") (by rfl) ml (by decide +kernel) rfl) pa_nil))) (pe_callB call_isi (by rfl) misi (by decide +kernel) (pa_cons (pv 1) (pa_cons (pe_bltn (v := .ty "list") (by rfl) ml (by decide +kernel) rfl) pa_nil))) (nomark _)) (pss_one (ps_ret pe_bl)) pss_nil)
          (pss_cons (ps_if (pt_cmpR op_ne (pe_callB call_len_seq (by rfl) mlen PySem.boot_len (pa_cons (pv 0) pa_nil)) (pe_callB call_len_seq (by rfl) mlen PySem.boot_len (pa_cons (pv 1) pa_nil)) (nomark _)) (pss_one (ps_ret pe_bl)) pss_nil)
          (pss_one (ps_ret (pe_cmpR (op_eqD hr.units) (pe_lc (own := [("_law_k", 2)]) (g := gName 2) (by rfl) scSame.nd (pi_range1 (by rfl) mr (pa_cons (pe_callB call_len_seq (by rfl) mlen PySem.boot_len (pa_cons (pv 1) pa_nil)) pa_nil))
              (blkOk_by (own := [("_law_k", 2)]) (N := ["_law_found", "_law_due", "_law_k"]) (sc := defScope sSame) (by decide +kernel)) (fun _ _ _ _ _ => pg_name (i := 2) scSame.nd rfl (Or.inl rfl))
              (fun _ _ _ _ _ => pts_one (pt_not (pt_val (pe_call GS hr (by rfl) gS F.kp bS .nil pass0 (pa_cons (pe_ix (r := rIx K) ix_seq (pv 0) (pv 2) (fun _ _ => rfl)) (pa_cons (pe_ix (r := rIx K) ix_seq (pv 1) (pv 2) (fun _ _ => rfl)) pa_nil))))))
              (fun _ _ _ _ _ => pv 2)) (pe_lst pa_nil) (nomark _))))))) pss_nil)
        (pss_cons (ps_if (pt_val (pe_callB call_isi (by rfl) misi (by decide +kernel) (pa_cons (pv 1) (pa_cons (pe_bltn (v := .ty "dict") (by rfl) md (by decide +kernel) rfl) pa_nil)))) (pss_one (ps_ret (pe_and (pe_callB call_isi (by rfl) misi (by decide +kernel) (pa_cons (pv 0) (pa_cons (pe_bltn (v := .ty "dict") (by rfl) md (by decide +kernel) rfl) pa_nil))) (pe_one (pe_cmpR op_eq (pv 0) (pv 1) (nomark _)))))) pss_nil)
        (pss_cons (ps_if (pt_cmpR op_isN (pv 1) pe_non (nomark _)) (pss_one (ps_ret (pe_cmpR op_isN (pv 0) pe_non (nomark _)))) pss_nil)
        (pss_cons (ps_if (pt_val (pe_callB call_isi (by rfl) misi (by decide +kernel) (pa_cons (pv 1) (pa_cons (pe_bltn (v := .ty "str") (by rfl) ms (by decide +kernel) rfl) pa_nil)))) (pss_one (ps_ret (pe_and (pe_callB call_isi (by rfl) misi (by decide +kernel) (pa_cons (pv 0) (pa_cons (pe_bltn (v := .ty "str") (by rfl) ms (by decide +kernel) rfl) pa_nil))) (pe_one (pe_cmpR op_eq (pv 0) (pv 1) (nomark _)))))) pss_nil)
        (pss_one (ps_ret (pe_and (pe_callB call_isi (by rfl) misi (by decide +kernel) (pa_cons (pv 0) (pa_cons (pe_bltn (v := .ty "int") (by rfl) mi (by decide +kernel) rfl) pa_nil)))
          (pe_and (pe_cmpR op_eq (pe_callB call_isi (by rfl) misi (by decide +kernel) (pa_cons (pv 0) (pa_cons (pe_bltn (v := .ty "bool") (by rfl) mb (by decide +kernel) rfl) pa_nil))) (pe_callB call_isi (by rfl) misi (by decide +kernel) (pa_cons (pv 1) (pa_cons (pe_bltn (v := .ty "bool") (by rfl) mb (by decide +kernel) rfl) pa_nil))) (nomark _)) (pe_one (pe_cmpR op_eq (pv 0) (pv 1) (nomark _)))))))))), ?_⟩
      refine ⟨y, rfl, by show 2 ≤ sizeLine; decide, fun tp htp => ?_⟩
      have s1 : Same H (upd H tp (.tup [.ty "tuple", .ty "list"])) := same_upd htp
      have e1 : upd H tp (.tup [.ty "tuple", .ty "list"]) tp = some (.tup [.ty "tuple", .ty "list"]) := upd_same
      have hal1 : Alk K (upd H tp (.tup [.ty "tuple", .ty "list"])) (m + 1) x y := Alk.same s1 hal
      generalize upd H tp (.tup [.ty "tuple", .ty "list"]) = H1 at s1 e1 hal1 ⊢
      have pc : Paired ClsV [V.ty "tuple", V.ty "list"] [Value.type "tuple", Value.type "list"] := .cons (.ty _) (.cons (.ty _) .nil)
      rcases hal1 with ⟨hf, rfl⟩ | ⟨a, b, xs, ys, rfl, rfl, hq, hl, hz, hit⟩
      · have ty : TyX K H1 x (tyF x) := tyFlat hf
        cases x with
        | non =>
          refine ⟨_, tp, _, _, _, false, rfl, e1, pc, ty, kit_two (r1 := false) (r2 := false) (by decide +kernel) (by decide +kernel), _, rfl, iteF ?_⟩
          refine ⟨.non, rfl, .non, .ty "dict", _, _, false, rfl, .ty _, ty, kit_ty (by decide +kernel), _, rfl, iteF ?_⟩
          exact ⟨.non, rfl, rfl, _, rfl, iteT ⟨.non, rfl, rfl, q H1 s1⟩⟩
        | bl c =>
          refine ⟨_, tp, _, _, _, false, rfl, e1, pc, ty, kit_two (r1 := false) (r2 := false) (by decide +kernel) (by decide +kernel), _, rfl, iteF ?_⟩
          refine ⟨.bl c, rfl, .bl c, .ty "dict", _, _, false, rfl, .ty _, ty, kit_ty (by decide +kernel), _, rfl, iteF ?_⟩
          refine ⟨.bl c, rfl, rfl, _, rfl, iteF ?_⟩
          refine ⟨.bl c, rfl, .bl c, .ty "str", _, _, false, rfl, .ty _, ty, kit_ty (by decide +kernel), _, rfl, iteF ?_⟩
          refine ⟨.bl c, rfl, .bl c, .ty "int", _, _, true, rfl, .ty _, ty, kit_ty (by decide +kernel), _, rfl, iteT ?_⟩
          refine ⟨.bl c, rfl, .bl c, .ty "bool", _, _, true, rfl, .ty _, ty, kit_ty (by decide +kernel), .bl c, rfl, .bl c, .ty "bool", _, _, true, rfl, .ty _, ty, kit_ty (by decide +kernel), rfl, _, rfl, ?_⟩
          refine iteT ⟨.bl c, rfl, .bl c, rfl, rfl, ?_⟩
          rw [decide_eq_true rfl]
          exact q H1 s1
        | int c =>
          refine ⟨_, tp, _, _, _, false, rfl, e1, pc, ty, kit_two (r1 := false) (r2 := false) (by decide +kernel) (by decide +kernel), _, rfl, iteF ?_⟩
          refine ⟨.int c, rfl, .int c, .ty "dict", _, _, false, rfl, .ty _, ty, kit_ty (by decide +kernel), _, rfl, iteF ?_⟩
          refine ⟨.int c, rfl, rfl, _, rfl, iteF ?_⟩
          refine ⟨.int c, rfl, .int c, .ty "str", _, _, false, rfl, .ty _, ty, kit_ty (by decide +kernel), _, rfl, iteF ?_⟩
          refine ⟨.int c, rfl, .int c, .ty "int", _, _, true, rfl, .ty _, ty, kit_ty (by decide +kernel), _, rfl, iteT ?_⟩
          refine ⟨.int c, rfl, .int c, .ty "bool", _, _, false, rfl, .ty _, ty, kit_ty (by decide +kernel), .int c, rfl, .int c, .ty "bool", _, _, false, rfl, .ty _, ty, kit_ty (by decide +kernel), rfl, _, rfl, ?_⟩
          refine iteT ⟨.int c, rfl, .int c, rfl, rfl, ?_⟩
          rw [decide_eq_true rfl]
          exact q H1 s1
        | str c =>
          refine ⟨_, tp, _, _, _, false, rfl, e1, pc, ty, kit_two (r1 := false) (r2 := false) (by decide +kernel) (by decide +kernel), _, rfl, iteF ?_⟩
          refine ⟨.str c, rfl, .str c, .ty "dict", _, _, false, rfl, .ty _, ty, kit_ty (by decide +kernel), _, rfl, iteF ?_⟩
          refine ⟨.str c, rfl, rfl, _, rfl, iteF ?_⟩
          refine ⟨.str c, rfl, .str c, .ty "str", _, _, true, rfl, .ty _, ty, kit_ty (by decide +kernel), _, rfl, iteT ?_⟩
          refine ⟨.str c, rfl, .str c, .ty "str", _, _, true, rfl, .ty _, ty, kit_ty (by decide +kernel), _, rfl, iteT ⟨.str c, rfl, .str c, rfl, rfl, ?_⟩⟩
          rw [decide_eq_true rfl]
          exact q H1 s1
        | _ => exact absurd (show false = true from hf) Bool.false_ne_true
      · obtain ⟨t, ta, tb, k1, k2, k3, hlq⟩ : ∃ t : String, TyX K H1 (.ref a) (.type t) ∧ TyX K H1 (.ref b) (.type t) ∧ PySem.W.kitAny K (.type t) [Value.type "tuple", Value.type "list"] = some true ∧ (∃ c, PySem.W.kitOne K (.type t) (.type "tuple") = some c) ∧ (∃ c, PySem.W.kitOne K (.type t) (.type "list") = some c) ∧
            ((SqL K H1 a xs ∨ SqT K H1 a xs) ∧ (SqL K H1 b ys ∨ SqT K H1 b ys)) := by
          rcases hq with ⟨p, r⟩ | ⟨p, r⟩
          · exact ⟨"list", tyL p, tyL r, kit_two (r1 := false) (r2 := true) (by decide +kernel) (by decide +kernel), ⟨false, kit_ty (by decide +kernel)⟩, ⟨true, kit_ty (by decide +kernel)⟩, .inl p, .inl r⟩
          · exact ⟨"tuple", tyT p, tyT r, kit_two (r1 := true) (r2 := false) (by decide +kernel) (by decide +kernel), ⟨true, kit_ty (by decide +kernel)⟩, ⟨false, kit_ty (by decide +kernel)⟩, .inr p, .inr r⟩
        obtain ⟨c2, k2⟩ := k2
        obtain ⟨c3, k3⟩ := k3
        refine ⟨_, tp, _, _, _, true, rfl, e1, pc, tb, k1, _, rfl, iteT ?_⟩
        refine ⟨.ref a, rfl, .ref a, .ty "tuple", _, _, c2, rfl, .ty _, ta, k2, .ref b, rfl, .ref b, .ty "tuple", _, _, c2, rfl, .ty _, tb, k2, rfl, _, rfl, iteNS rfl ?_⟩
        refine ⟨.ref a, rfl, .ref a, .ty "list", _, _, c3, rfl, .ty _, ta, k3, .ref b, rfl, .ref b, .ty "list", _, _, c3, rfl, .ty _, tb, k3, rfl, _, rfl, iteNS rfl ?_⟩
        refine ⟨.ref a, rfl, a, xs, rfl, hlq.1, .ref b, rfl, b, ys, rfl, hlq.2, rfl, _, rfl, iteNS (by rw [hl]) ?_⟩
        refine ⟨.ref b, rfl, b, ys, rfl, hlq.2, _, rfl, by omega, by omega, fun D hD => walk_in (n := ys.length) (lo := 0) (fun i H2 => Same H1 H2 ∧ H2 D = some (.lst [])) ⟨same_upd hD, upd_same⟩ (fun i H2 hi h => ?_) (fun H2 h => ?_)⟩
        · obtain ⟨s2, hd2⟩ := h
          have gx : xs[i]? = some (xs[i]'(by omega)) := List.getElem?_eq_getElem _
          have gy : ys[i]? = some ys[i] := List.getElem?_eq_getElem _
          have ax : atI xs (0 + (i : Int)) = some (xs[i]'(by omega)) := by
            rw [Int.zero_add]
            exact atI_nat gx
          have ay : atI ys (0 + (i : Int)) = some ys[i] := by
            rw [Int.zero_add]
            exact atI_nat gy
          have ix : ∀ {c : Addr} {zs : List V} {z : V} {R : V → Hp → Prop}, (SqL K H1 c zs ∨ SqT K H1 c zs) → atI zs (0 + (i : Int)) = some z → R z H2 → rIx K (.ref c) (.int (0 + (i : Int))) H2 R := by
            intro c zs z R hc hz hR
            rcases hc with hc | hc
            · exact .inl ⟨c, zs, _, z, rfl, rfl, s2.seq hc, hz, hR⟩
            · exact .inr (.inl ⟨c, zs, _, z, rfl, rfl, same_seqT s2 hc, hz, hR⟩)
          refine ⟨rfl, .ref a, rfl, .int (0 + (i : Int)), rfl, ix hlq.1 ax ⟨.ref b, rfl, .int (0 + (i : Int)), rfl, ix hlq.2 ay ⟨_, _, rfl, Alk.same s2 (hit i _ _ gx gy), fun H3 s3 => ⟨_, rfl, iteF ⟨s2.trans s3, s3 _ _ hd2⟩⟩⟩⟩⟩
        · obtain ⟨s2, hd2⟩ := h
          refine ⟨Nat.zero_le _, fun e he => ?_⟩
          refine ⟨.list [], .list [], .lst (sqL ((same_upd he) _ _ hd2)) .nil, .lst (sqL upd_same) .nil, rfl, rfl, ?_⟩
          exact q _ ((s1.trans s2).trans (same_upd he))
end
theorem alk_int {K : PySem.W.Frag} {H : Hp} {m : Nat} {i j : Int} (h : i = j) : Alk K H (m + 1) (.int i) (.int j) := .inl ⟨rfl, by rw [h]⟩
theorem alk_bl {K : PySem.W.Frag} {H : Hp} {m : Nat} {i j : Bool} (h : i = j) : Alk K H (m + 1) (.bl i) (.bl j) := .inl ⟨rfl, by rw [h]⟩
theorem alk_tp {K : PySem.W.Frag} {H : Hp} {m : Nat} {a b : Addr} {ns : List Int} (ha : Tp H a ns) (hb : Tp H b ns) (hl : ns.length ≤ 1000) : Alk K H (m + 2) (.ref a) (.ref b) := by
  refine .inr ⟨a, b, _, _, rfl, rfl, .inr ⟨ha.sq, hb.sq⟩, rfl, by rw [List.length_map]; exact hl, fun i u v hu hv => ?_⟩
  rw [hu] at hv
  cases hv
  rw [List.getElem?_map] at hu
  cases e : ns[i]? with
  | none => rw [e] at hu; cases hu
  | some z => rw [e] at hu; cases hu; exact alk_int rfl
theorem alk_prs {K : PySem.W.Frag} {H : Hp} {m : Nat} {a b : Addr} {xs ys : List V} {ps : List (Int × Int)} (hx : Prs H xs ps) (hy : Prs H ys ps) (ha : H a = some (.tup xs)) (hb : H b = some (.tup ys)) (hl : ps.length ≤ 1000) : Alk K H (m + 3) (.ref a) (.ref b) := by
  refine .inr ⟨a, b, _, _, rfl, rfl, .inr ⟨sqT ha, sqT hb⟩, hx.len.trans hy.len.symm, by rw [hx.len]; exact hl, fun i u v hu hv => ?_⟩
  obtain ⟨r, x1, x2, rfl, g1, e1⟩ := hx.get hu
  obtain ⟨t, y1, y2, rfl, g2, e2⟩ := hy.get hv
  rw [g1] at g2
  cases g2
  refine .inr ⟨r, t, _, _, rfl, rfl, .inr ⟨.inl e1, .inl e2⟩, rfl, by show 2 ≤ 1000; decide, fun j u v hu hv => ?_⟩
  rw [hu] at hv
  cases hv
  match j, hu with
  | 0, hu => cases hu; exact alk_int rfl
  | 1, hu => cases hu; exact alk_int rfl
  | j + 2, hu => simp at hu
theorem alk_two {K : PySem.W.Frag} {H : Hp} {m : Nat} {a b : Addr} {x1 x2 y1 y2 : V} (ha : H a = some (.lst [x1, x2])) (hb : H b = some (.lst [y1, y2])) (h1 : Alk K H m x1 y1) (h2 : Alk K H m x2 y2) : Alk K H (m + 1) (.ref a) (.ref b) := by
  refine .inr ⟨a, b, _, _, rfl, rfl, .inl ⟨sqL ha, sqL hb⟩, rfl, by show 2 ≤ 1000; decide, fun i u v hu hv => ?_⟩
  match i, hu, hv with
  | 0, hu, hv => cases hu; cases hv; exact h1
  | 1, hu, hv => cases hu; cases hv; exact h2
  | i + 2, hu, hv => simp at hu
end TR
namespace TR
open PySem PySem.Spec PyProof.Rows L2
/-! ### rows of rankings, each known -/
inductive Rts (H : Hp) : List V → List (List Int) → Prop
  | nil : Rts H [] []
  | cons {b : Addr} {r : List Int} {vs : List V} {rs : List (List Int)} : Tp H b r → Rts H vs rs → Rts H (.ref b :: vs) (r :: rs)
theorem Tp.updl {H : Hp} {a D : Addr} {ns : List Int} {xs ys : List V} (t : Tp H a ns) (e : H D = some (.lst xs)) : Tp (upd H D (.lst ys)) a ns := by
  obtain ⟨o, d, h⟩ := t
  exact ⟨o, d, by rw [upd_ne (ne_of h e (by intro z; cases z))]; exact h⟩
theorem Rts.same {H H' : Hp} {vs : List V} {ps : List (List Int)} (h : Rts H vs ps) (s : Same H H') : Rts H' vs ps := by
  induction h with
  | nil => exact .nil
  | cons e _ ih => exact .cons (e.same s) ih
theorem Rts.upd_lst {H : Hp} {vs : List V} {ps : List (List Int)} {D : Addr} {xs ys : List V} (h : Rts H vs ps) (e : H D = some (.lst xs)) : Rts (upd H D (.lst ys)) vs ps := by
  induction h with
  | nil => exact .nil
  | cons e2 _ ih => exact .cons (e2.updl e) ih
theorem Rts.append {H : Hp} {vs ws : List V} {ps qs : List (List Int)} (h : Rts H vs ps) (g : Rts H ws qs) : Rts H (vs ++ ws) (ps ++ qs) := by
  induction h with
  | nil => exact g
  | cons e _ ih => exact .cons e ih
theorem Rts.len {H : Hp} {vs : List V} {ps : List (List Int)} (h : Rts H vs ps) : vs.length = ps.length := by
  induction h with
  | nil => rfl
  | cons _ _ ih => rw [List.length_cons, List.length_cons, ih]
theorem Rts.get {H : Hp} {vs : List V} {ps : List (List Int)} (h : Rts H vs ps) : ∀ {i : Nat} {x : V}, vs[i]? = some x → ∃ b r, x = .ref b ∧ ps[i]? = some r ∧ Tp H b r := by
  induction h with
  | nil => intro i x e; simp at e
  | cons e _ ih =>
    intro i x g
    cases i with
    | zero => exact ⟨_, _, (Option.some.inj g).symm, rfl, e⟩
    | succ i => exact ih g
theorem Rts.snoc {H : Hp} {r : List Int} : ∀ {vs : List V} {rs : List (List Int)}, Rts H vs (rs ++ [r]) → ∃ ws t, vs = ws ++ [.ref t] ∧ Rts H ws rs ∧ Tp H t r
  | _, [], h => by
    cases h with
    | cons e g => cases g; exact ⟨[], _, rfl, .nil, e⟩
  | _, x :: rs, h => by
    cases h with
    | cons e g =>
      obtain ⟨ws, t, rfl, g2, e2⟩ := Rts.snoc g
      exact ⟨_ :: ws, t, rfl, .cons e g2, e2⟩
theorem alk_rts {K : PySem.W.Frag} {H : Hp} {m : Nat} {a b : Addr} {xs ys : List V} {ps : List (List Int)} (hx : Rts H xs ps) (hy : Rts H ys ps) (ha : SqT K H a xs) (hb : SqT K H b ys) (hl : ps.length ≤ 1000) (hr : ∀ r ∈ ps, r.length ≤ 1000) : Alk K H (m + 3) (.ref a) (.ref b) := by
  refine .inr ⟨a, b, _, _, rfl, rfl, .inr ⟨ha, hb⟩, hx.len.trans hy.len.symm, by rw [hx.len]; exact hl, fun i u v hu hv => ?_⟩
  obtain ⟨r, x1, rfl, g1, e1⟩ := hx.get hu
  obtain ⟨t, y1, rfl, g2, e2⟩ := hy.get hv
  rw [g1] at g2
  cases g2
  exact alk_tp e1 e2 (hr _ (List.mem_of_getElem? g1))
theorem walk_inL {K : PySem.W.Frag} {a : Addr} {xs : List V} {H4 : Hp} {Nx : Hp → Prop} {B : V → Hp → (Hp → Prop) → Prop} (Pv : Nat → Hp → Prop) (h0 : Pv 0 H4) (hl : ∀ i H, Pv i H → SqL K H a xs) (hs : ∀ i x H, xs[i]? = some x → Pv i H → B x H (Pv (i + 1))) (hd : ∀ H, Pv xs.length H → Nx H) :
    ∃ W : Nat → Nat → Hp → Prop, (∃ m, W 0 m H4) ∧ ∀ i k H, W i k H → ((Itl K a).stop i H ∧ Nx H) ∨ ((Itl K a).go i H ∧ ∃ N : Hp → Prop, (∀ H', N H' → ∃ k', k' < k ∧ W (i + 1) k' H') ∧ ∀ x H', (Itl K a).yld i H x H' → B x H' N) := by
  refine ⟨fun i m H => m = xs.length - i ∧ i ≤ xs.length ∧ Pv i H, ⟨xs.length, by simp, Nat.zero_le _, h0⟩, ?_⟩
  rintro i m H ⟨rfl, hi, p⟩
  have q := hl i H p
  by_cases hlt : i < xs.length
  · refine .inr ⟨⟨xs, xs[i], q, by simp [hlt]⟩, Pv (i + 1), fun H' p' => ⟨xs.length - (i + 1), by omega, rfl, hlt, p'⟩, fun x H' y => ?_⟩
    obtain ⟨e, y⟩ := y
    subst e
    exact hs i x _ (y xs q) p
  · have e : i = xs.length := by omega
    subst e
    exact .inl ⟨⟨xs, q, Nat.le_refl _⟩, hd H p⟩
end TR
namespace TR
open PySem PySem.Spec PyProof.Rows L2
/-- a value's truth, the written part named -/
def tTruth (K : PySem.W.Frag) (ta : TE) : TT := fun σ H Q => ta σ H fun x H' => ∃ k, TruV K x H' k ∧ Q k H'
theorem pt_tru {X : Cx} {a : Expr} {ta : TE} {K : PySem.W.Frag} (ha : PE X a ta) (hK : X.K = K) (he : ∀ whole, isTrue a X.env whole = (do let v ← whole; standAt a.pos; holding [v] (truthy v))) : PT X a (tTruth K ta) := by
  subst hK
  exact pt_truth ha he
end TR
namespace TR
open PySem PySem.Spec PyProof.Rows L2
/-- len(xs), the written part named -/
def rLenK (K : PySem.W.Frag) : List V → Hp → VK → Prop := fun xs H Q => ∃ p ys, xs = [V.ref p] ∧ (SqL K H p ys ∨ SqT K H p ys) ∧ Q (V.int (ys.length : Int)) H
end TR
namespace TR
open PySem PySem.Spec PyProof.Rows L2
theorem scOne : FnScope ["_law_deck_here", "_law_some"] ["_law_deck_here", "_law_some"] (defScope sOne) := ⟨rfl, rfl, rfl, by decide +kernel, rfl, by decide +kernel, by decide +kernel⟩
section
variable {P : Program} {w : World} {K : PySem.W.Frag} {mg : Str → Option Value} {base : Heap}
def spOne : Sp := fun vs H Q _ => ∃ (d p q l : Addr) (c : Nat) (xs : List V), vs = [.ref d, .ref l] ∧ Deck H d p q c ∧ c ≤ 1000000 ∧ ((H l = some (.lst xs) ∧ l ≠ d ∧ l ≠ p) ∨ TF H l xs) ∧ xs ≠ [] ∧ xs.length < 1000000 ∧
  ∀ H' x, x ∈ xs → Deck H' d p q (c + 1) → Keep d p H H' → Q x H'
theorem ok_one {f fN : Addr} {fd fdN : FuncData} {k : Nat} (F : Fun K "_law_one" "_law_one" sOne f fd) (kN : PySem.W.keepIn K (.ref fN) = true) (bN : Binds K fdN ["_law_deck_here", "_law_many"] []) (gN : mg "_law_next" = some (.ref fN))
    (GN : FnOk P w K mg base CX0 (k + 1) fN fdN ["_law_deck_here", "_law_many"] spNext) (mlen : mg "len" = none) : FnOk P w K mg base CX0 (k + 2) f fd ["_law_deck_here", "_law_some"] spOne := by
  refine F.ok scOne (fun vs H Q E h => ?_) (fun cdv A outer s H vs Q E hr h => ?_)
  · obtain ⟨d, p, q, l, c, xs, rfl, _⟩ := h
    rfl
  · obtain ⟨d, p, q, l, c, xs, rfl, D0, hc, hl, hne, hlen, qq⟩ := h
    refine ⟨_, pss_one (ps_ret (pe_ix (r := rIx K) ix_seq (pv 1) (pe_call GN hr (by rfl) gN kN bN .nil pass0 (pa_cons (pv 0) (pa_cons (pe_callB call_len_seq (by rfl) mlen PySem.boot_len (pa_cons (pv 1) pa_nil)) pa_nil))) (fun _ _ => rfl))), ?_⟩
    have h0 : 0 < xs.length := List.length_pos_iff.mpr hne
    refine ⟨.ref l, rfl, .ref d, rfl, .ref l, rfl, l, xs, rfl, hl.elim (fun h => .inl (sqL h.1)) (fun h => .inr (.inl h.rd)), d, p, q, c, _, rfl, D0, hc, by omega, by omega, fun H1 r r0 r1 D1 k1 => ?_⟩
    obtain ⟨j, rfl⟩ := Int.eq_ofNat_of_zero_le r0
    have hj : j < xs.length := by omega
    rcases hl with ⟨hl, nld, nlp⟩ | hl
    · exact .inl ⟨l, xs, _, xs[j], rfl, rfl, sqL (k1 _ _ hl nld nlp), atI_nat (List.getElem?_eq_getElem hj), qq H1 _ (List.getElem_mem hj) D1 k1⟩
    · exact .inr (.inl ⟨l, xs, _, xs[j], rfl, rfl, .inl (hl.keep D0 k1).rd, atI_nat (List.getElem?_eq_getElem hj), qq H1 _ (List.getElem_mem hj) D1 k1⟩)
end
end TR
namespace TR
open PySem PySem.Spec PyProof.Rows L2
section
variable {P : Program} {w : World} {K : PySem.W.Frag} {mg : Str → Option Value} {base : Heap}
def spLaw (K : PySem.W.Frag) : Sp := fun vs H Q _ => ∃ (a : Addr) (ns : List Int), vs = [.ref a] ∧ SqL K H a (ns.map V.int) ∧ ns.length ≤ 63 ∧ ∀ H', Q (.bl true) H'
end
end TR
namespace TR
open PySem PySem.Spec PyProof.Rows L2
theorem scWhole : FnScope ["value"] ["value"] (defScope sWhole) := ⟨rfl, rfl, rfl, by decide +kernel, rfl, by decide +kernel, by decide +kernel⟩
section
variable {P : Program} {w : World} {K : PySem.W.Frag} {mg : Str → Option Value} {base : Heap}
def spWhole : Sp := fun vs H Q _ => ∃ (x : V) (d : PyData) (ban : List Addr), vs = [x] ∧ Rp H ban d x ∧ Q (.bl (whole d)) H
theorem ok_whole {f : Addr} {fd : FuncData} {k : Nat} (F : Fun K "is_whole" "is_whole" sWhole f fd) (misi : mg "isinstance" = none) (mi : mg "int" = none) (mb : mg "bool" = none) : FnOk P w K mg base CX0 (k + 1) f fd ["value"] spWhole := by
  refine F.ok scWhole (fun vs H Q E h => ?_) (fun cdv A outer s H vs Q E hr h => ?_)
  · obtain ⟨x, d, ban, rfl, _⟩ := h
    rfl
  · obtain ⟨x, d, ban, rfl, hp, q⟩ := h
    refine ⟨_, pss_one (ps_ret (pe_and (pe_callB call_isi (by rfl) misi (by decide +kernel) (pa_cons (pv 0) (pa_cons (pe_bltn (v := .ty "int") (by rfl) mi (by decide +kernel) rfl) pa_nil))) (pe_one (pe_not (pe_callB call_isi (by rfl) misi (by decide +kernel) (pa_cons (pv 0) (pa_cons (pe_bltn (v := .ty "bool") (by rfl) mb (by decide +kernel) rfl) pa_nil))))))), ?_⟩
    obtain ⟨k1, k2, k3⟩ := kitD (K := K) d
    rw [← whole_ty] at q
    refine ⟨x, rfl, x, .ty "int", _, _, _, rfl, .ty _, tyRp hp, k2, _, rfl, ?_⟩
    cases e : decide (tyD d = "int" ∨ tyD d = "bool") with
    | true =>
      rw [e] at q
      exact iteT ⟨x, rfl, x, .ty "bool", _, _, _, rfl, .ty _, tyRp hp, k3, _, rfl, q⟩
    | false =>
      rw [e] at q
      exact iteF q
end
end TR
namespace TR
open PySem PySem.Spec PyProof.Rows L2
theorem scWithin : FnScope ["value", "low", "high"] ["value", "low", "high"] (defScope sWithin) := ⟨rfl, rfl, rfl, by decide +kernel, rfl, by decide +kernel, by decide +kernel⟩
section
variable {P : Program} {w : World} {K : PySem.W.Frag} {mg : Str → Option Value} {base : Heap}
/-! ### is_within -/
def spWithin : Sp := fun vs H Q _ => ∃ (x : V) (d : PyData) (ban : List Addr) (lo hi : Int), vs = [x, .int lo, .int hi] ∧ Rp H ban d x ∧ (∀ i, d = .int i → Q (.bl (decide (lo ≤ i ∧ i ≤ hi))) H) ∧ (whole d = false → Q (.bl false) H)
theorem ok_within {f fW : Addr} {fd dW : FuncData} {k : Nat} (F : Fun K "is_within" "is_within" sWithin f fd) (kW : PySem.W.keepIn K (.ref fW) = true) (bW : Binds K dW ["value"] []) (gW : mg "is_whole" = some (.ref fW)) (GW : FnOk P w K mg base CX0 (k + 1) fW dW ["value"] spWhole) :
    FnOk P w K mg base CX0 (k + 2) f fd ["value", "low", "high"] spWithin := by
  refine F.ok scWithin (fun vs H Q E h => ?_) (fun cdv A outer s H vs Q E hr h => ?_)
  · obtain ⟨x, d, ban, lo, hi, rfl, _⟩ := h
    rfl
  · obtain ⟨x, d, ban, lo, hi, rfl, hp, q1, q2⟩ := h
    refine ⟨_, pss_one (ps_ret (pe_and (pe_call GW hr (by rfl) gW kW bW .nil pass0 (pa_cons (pv 0) pa_nil)) (pe_one (pe_chain op_le op_le (pv 1) (pv 0) (pv 2))))), ?_⟩
    refine ⟨x, rfl, x, d, ban, rfl, hp, _, rfl, ?_⟩
    cases e : whole d with
    | false => exact iteF (q2 e)
    | true =>
      obtain ⟨i, rfl⟩ := whole_int e
      obtain rfl : x = .int i := hp
      refine iteT ?_
      have q := q1 i rfl
      refine ⟨_, rfl, _, rfl, _, _, rfl, rfl, _, rfl, ?_⟩
      show if decide (lo ≤ i) = true then _ else _
      by_cases c : lo ≤ i
      · rw [decide_eq_true c]
        refine iteT ⟨_, rfl, _, _, rfl, rfl, ?_⟩
        show Q (.bl (decide (i ≤ hi))) H
        rw [decide_eq_decide.mpr (show (i ≤ hi) ↔ (lo ≤ i ∧ i ≤ hi) by omega)]
        exact q
      · rw [decide_eq_false c]
        rw [decide_eq_false (by omega)] at q
        exact iteF q
end
end TR
namespace TR
open PySem PySem.Spec PyProof.Rows L2
theorem keep_fresh {d p x : Addr} {H H1 : Hp} {o : HO} (a : Keep d p H H1) (h : H x = none) : Keep d p H (upd H1 x o) := fun c u e n m => by
  rw [upd_ne (ne_of_none e h)]
  exact a c u e n m
theorem Deck.upd {H : Hp} {d p q x : Addr} {n : Nat} {o : HO} (D : Deck H d p q n) (h1 : x ≠ d) (h2 : x ≠ p) (h3 : x ≠ q) : Deck (upd H x o) d p q n := by
  obtain ⟨m, ⟨xs, cs, c, e1, e2, e3, e4⟩, a, b, e⟩ := D
  exact ⟨m, ⟨xs, cs, c, by rw [upd_ne h1.symm]; exact e1, by rw [upd_ne h2.symm]; exact e2, by rw [upd_ne h3.symm]; exact e3, e4⟩, a, b, e⟩
theorem Deck.hq {H : Hp} {d p q : Addr} {n : Nat} (D : Deck H d p q n) : ∃ xs : List Int, H q = some (.lst (xs.map V.int)) := by
  obtain ⟨m, ⟨xs, cs, c, h1, h2, h3, _⟩, _⟩ := D
  exact ⟨_, h3⟩
theorem Deck.neq {H : Hp} {d p q : Addr} {n : Nat} (D : Deck H d p q n) {b : Addr} (h : H b = none) : b ≠ q := by
  obtain ⟨x, e⟩ := D.hq
  exact (ne_of_none e h).symm
theorem rgV_rng (n : Nat) : rgV 0 (n : Int) = (rng n).map V.int := by
  unfold rgV rng
  rw [List.map_map, show ((n : Int) - 0).toNat = n by omega]
  refine congrArg (fun g => (List.range n).map g) (funext fun i => ?_)
  show V.int (0 + (i : Int)) = V.int (i : Int)
  rw [Int.zero_add]
def spIsRk : Sp := fun vs H Q _ => ∃ (x : V) (d : PyData) (ban : List Addr) (n : Nat), vs = [.int (n : Int), x] ∧ Rp H ban d x ∧ 1 ≤ n ∧ n ≤ 8 ∧ (∀ ds, d = .tuple ds → ds.length ≤ 100) ∧ ∀ H' b, Same H H' → (b = true ↔ IsRk n d) → Q (.bl b) H'
end TR
namespace TR
open PySem PySem.Spec PyProof.Rows L2
theorem scLWhole : FnScope ["_law_thing"] ["_law_thing"] (defScope sLWhole) := ⟨rfl, rfl, rfl, by decide +kernel, rfl, by decide +kernel, by decide +kernel⟩
section
variable {P : Program} {w : World} {K : PySem.W.Frag} {mg : Str → Option Value} {base : Heap}
theorem ok_lwhole {f : Addr} {fd : FuncData} {k : Nat} (F : Fun K "_law_whole" "_law_whole" sLWhole f fd) (misi : mg "isinstance" = none) (mi : mg "int" = none) (mb : mg "bool" = none) : FnOk P w K mg base CX0 (k + 1) f fd ["_law_thing"] spWhole := by
  refine F.ok scLWhole (fun vs H Q E h => ?_) (fun cdv A outer s H vs Q E hr h => ?_)
  · obtain ⟨x, d, ban, rfl, _⟩ := h
    rfl
  · obtain ⟨x, d, ban, rfl, hp, q⟩ := h
    refine ⟨_, pss_one (ps_ret (pe_and (pe_callB call_isi (by rfl) misi (by decide +kernel) (pa_cons (pv 0) (pa_cons (pe_bltn (v := .ty "int") (by rfl) mi (by decide +kernel) rfl) pa_nil))) (pe_one (pe_not (pe_callB call_isi (by rfl) misi (by decide +kernel) (pa_cons (pv 0) (pa_cons (pe_bltn (v := .ty "bool") (by rfl) mb (by decide +kernel) rfl) pa_nil))))))), ?_⟩
    obtain ⟨k1, k2, k3⟩ := kitD (K := K) d
    rw [← whole_ty] at q
    refine ⟨x, rfl, x, .ty "int", _, _, _, rfl, .ty _, tyRp hp, k2, _, rfl, ?_⟩
    cases e : decide (tyD d = "int" ∨ tyD d = "bool") with
    | true =>
      rw [e] at q
      exact iteT ⟨x, rfl, x, .ty "bool", _, _, _, rfl, .ty _, tyRp hp, k3, _, rfl, q⟩
    | false =>
      rw [e] at q
      exact iteF q
end
end TR
namespace TR
open PySem PySem.Spec PyProof.Rows L2
theorem scIsList : FnScope ["_law_dishes", "_law_thing", "_law_one_here"] ["_law_dishes", "_law_thing"] (defScope sIsList) := ⟨rfl, rfl, rfl, by decide +kernel, rfl, by decide +kernel, by decide +kernel⟩
theorem filter_nil_all : ∀ ds : List PyData, (ds.filter fun d => !whole d).isEmpty = ds.all whole
  | [] => rfl
  | d :: r => by
    rw [List.filter_cons, List.all_cons]
    cases whole d with
    | true => exact filter_nil_all r
    | false => rfl
section
variable {P : Program} {w : World} {K : PySem.W.Frag} {mg : Str → Option Value} {base : Heap}
theorem ok_islist {f fW : Addr} {fd dW : FuncData} {k : Nat} (F : Fun K "_law_is_list" "_law_is_list" sIsList f fd) (kW : PySem.W.keepIn K (.ref fW) = true) (bW : Binds K dW ["_law_thing"] []) (gW : mg "_law_whole" = some (.ref fW)) (GW : FnOk P w K mg base CX0 (k + 1) fW dW ["_law_thing"] spWhole)
    (misi : mg "isinstance" = none) (mt : mg "tuple" = none) (mlen : mg "len" = none) (mso : mg "sorted" = none) (ml : mg "list" = none) (mr : mg "range" = none) : FnOk P w K mg base CX0 (k + 2) f fd ["_law_dishes", "_law_thing"] spIsRk := by
  refine F.ok scIsList (fun vs H Q E h => ?_) (fun cdv A outer s H vs Q E hr h => ?_)
  · obtain ⟨x, d, ban, n, rfl, _⟩ := h
    rfl
  · obtain ⟨x, d, ban, n, rfl, hp, hn1, hn, hlen, q⟩ := h
    refine ⟨_, pss_cons (ps_if (PW.pt (pw_or (pt_not (pt_val (pe_callB call_isi (by rfl) misi (by decide +kernel) (pa_cons (pv 1) (pa_cons (pe_bltn (v := .ty "tuple") (by rfl) mt (by decide +kernel) rfl) pa_nil)))))
          (pw_or1 (pt_cmpR op_ne (pe_callB call_len_seq (by rfl) mlen PySem.boot_len (pa_cons (pv 1) pa_nil)) (pv 0) (nomark _))))) (pss_one (ps_ret pe_bl)) pss_nil)
      (pss_one (ps_ret (pe_and (pe_cmpR (op_eqL0 hr.units0) (pe_lc (own := [("_law_one_here", 2)]) (g := gName 2) (by rfl) scIsList.nd (pi_tup (pv 1))
            (blkOk_by (own := [("_law_one_here", 2)]) (N := ["_law_dishes", "_law_thing", "_law_one_here"]) (sc := defScope sIsList) (by decide +kernel)) (fun _ _ _ _ _ => pg_name (i := 2) scIsList.nd rfl (Or.inl rfl))
            (fun _ _ _ _ _ => pts_one (pt_not (pt_val (pe_call GW hr (by rfl) gW kW bW .nil pass0 (pa_cons (pv 2) pa_nil))))) (fun _ _ _ _ _ => pv 2)) (pe_lst pa_nil) (nomark _))
        (pe_one (pe_cmpR (op_eqD hr.units) (pe_callB cr_sortedTI (by rfl) mso (by decide +kernel) (pa_cons (pv 1) pa_nil)) (pe_listRg (by rfl) (by rfl) ml (prg_1 (by rfl) mr (pv 0))) (nomark _)))))), ?_⟩
    obtain ⟨k1, k2, k3⟩ := kitD (K := K) d
    refine ⟨x, rfl, x, .ty "tuple", _, _, _, rfl, .ty _, tyRp hp, k1, _, rfl, ?_⟩
    by_cases ht : tyD d = "tuple"
    · rw [decide_eq_true ht]
      refine iteF ?_
      obtain ⟨ds, rfl⟩ := ty_tuple ht
      obtain ⟨a, xs, rfl, ha', hx⟩ := hp
      have ha := ha'.rd
      have hdl := hlen ds rfl
      have sq : ∀ {H1 : Hp}, Same H H1 → SqT K H1 a xs := fun s1 => .inl (rd_same s1 ha)
      refine ⟨.ref a, rfl, a, xs, rfl, .inr (sq (Same.refl _)), .int (n : Int), rfl, rfl, _, rfl, ?_⟩
      by_cases hl : ds.length = n
      · refine iteNS (by rw [hx.len, hl]) ?_
        refine ⟨.ref a, rfl, a, rfl, ⟨_, sq (Same.refl _)⟩, fun D hD => lc_tup (K := K) (a := a) (xs := xs) (fun i H1 => Same H H1 ∧ ∃ zs : List V, H1 D = some (.lst zs) ∧ zs.length = ((ds.take i).filter fun d => !whole d).length) ⟨same_upd hD, [], upd_same, rfl⟩ (fun i H1 _ h => sq h.1) (fun i y H1 hy h => ?_) (fun H1 h => ?_)⟩
        · obtain ⟨s1, zs, e1, l1⟩ := h
          obtain ⟨e, he, hre⟩ := hx.get hy
          have hi : i < ds.length := (List.getElem?_eq_some_iff.mp he).1
          have ft := filter_take (fun d => !whole d) he
          refine ⟨rfl, y, rfl, y, e, ban, rfl, hre.same s1, _, rfl, ?_⟩
          cases ew : whole e with
          | true =>
            refine iteF ⟨s1, zs, e1, ?_⟩
            rw [ft]
            simp only [ew, Bool.not_true, Bool.false_eq_true, if_false, List.append_nil]
            exact l1
          | false =>
            refine iteT ⟨y, rfl, zs, e1, ?_, same_upd2 s1 hD, zs ++ [y], upd_same, ?_⟩
            · have := List.length_filter_le (fun d => !whole d) (ds.take i)
              rw [List.length_take] at this
              exact small1000 (by omega)
            · rw [ft]
              simp only [ew, Bool.not_false, if_true]
              rw [List.length_append, List.length_append, l1]
              rfl
        · obtain ⟨s1, zs, e1, l1⟩ := h
          rw [List.take_of_length_le (by rw [hx.len]; exact Nat.le_refl _)] at l1
          refine ⟨Nat.zero_le _, fun z hz => ⟨D, z, zs, rfl, rfl, sqL ((same_upd hz) _ _ e1), sqL upd_same, _, rfl, ?_⟩⟩
          have s2 : Same H (upd H1 z (.lst [])) := s1.trans (same_upd hz)
          have ez : zs.isEmpty = ds.all whole := by
            rw [← filter_nil_all, Bool.eq_iff_iff, List.isEmpty_iff, List.isEmpty_iff, ← List.length_eq_zero_iff, ← List.length_eq_zero_iff, l1]
          rw [ez]
          cases hw : ds.all whole with
          | false => exact iteF (q _ false s2 (ff_iff (not_isRk_whole hw)))
          | true =>
            refine iteT ?_
            obtain ⟨ns, rfl⟩ := whole_all ds hw
            have ex := hx.int_vals
            subst ex
            refine ⟨.ref a, rfl, a, ns, rfl, sq s2, fun ms p1 hperm hsort hp1 => ?_⟩
            refine ⟨.int (n : Int), rfl, n, rfl, RgOk.of_le (by omega) (by omega) (by omega) (by omega), fun p2 hp2 => ?_⟩
            rw [rgV_rng]
            refine ⟨_, _, .lst (sqL ((same_upd hp2) _ _ upd_same)) (dpAll_ints ms), .lst (sqL upd_same) (dpAll_ints (rng n)), shaped_ints ms, shaped_ints (rng n), ?_⟩
            rw [eqv_lstX]
            refine q _ _ (s2.trans ((same_upd hp1).trans (same_upd hp2))) ?_
            rw [decide_eq_true_eq, sorted_rank hperm hsort, isRk_tuple]
      · have en : (!decide (V.int ((xs.length : Nat) : Int) = V.int (n : Int))) = true := by
          rw [decide_eq_false]
          · rfl
          · intro h
            have := V.int.inj h
            rw [hx.len] at this
            omega
        show if (!decide (V.int ((xs.length : Nat) : Int) = V.int (n : Int))) = true then _ else _
        rw [en]
        refine iteT (q H false (Same.refl _) (ff_iff fun ⟨ns, e, r⟩ => ?_))
        injection e with e
        rw [e, List.length_map] at hl
        exact absurd r.len hl
    · rw [decide_eq_false ht]
      exact iteT (q H false (Same.refl _) (ff_iff (not_isRk_ty ht)))
end
end TR
namespace TR
open PySem PySem.Spec PyProof.Rows L2
section
variable {P : Program} {w : World} {K : PySem.W.Frag} {mg : Str → Option Value} {base : Heap}
/-- a def's promise where no repr is under way -/
def RunG (P : Program) (w : World) (K : PySem.W.Frag) (mg : Str → Option Value) (base : Heap) (k : Nat) (f : Addr) (fd : FuncData) (ps : List Str) (sp : Sp) : Prop :=
  ∀ (A : Around) (outer : List Env) (s : Shared) (H : Hp) (args : Args) (us : List Value) (vs : List V) (Q : VK) (E : XK), A.guards = some [] → Room k A → Env0 P w K mg base A outer s H → BindsTo s fd args (ps.zip us) → Vals vs us → sp vs H Q E → codeAny (model P w) A (.call (.ref f) args) (CR CX0 outer P w H s Q E) s
theorem okG {x qual : Str} {st : Stmt} {f : Addr} {fd : FuncData} {N ps : List Str} {k : Nat} {sp : Sp} (F : Fun K x qual st f fd) (S : FnScope N ps (defScope st)) (len : ∀ vs H Q E, sp vs H Q E → vs.length = ps.length)
    (hbody : ∀ (cdv : Value) (A : Around) (outer : List Env) (s : Shared) (H : Hp) (vs : List V) (Q : VK) (E : XK), A.guards = some [] → Room k (A.deeper (envOfC qual (defScope st) s.heap.objs.size f cdv)) → sp vs H Q E →
      ∃ t, PSs (cxOf CX0 P w K mg base N qual (defScope st) f cdv A outer s H E).nox (defBody st) t ∧ t { nx := fun _ H' => Q .non H', rt := Q } (start N vs) H) : RunG P w K mg base (k + 1) f fd ps sp := by
  obtain ⟨oc, od, kV, doc, pm, an, cdv, ct, osl, rfl, lk, hcd⟩ := F.ex
  intro A outer s H args us vs Q E hgd hr e0 hb r hsp
  have hl := len _ _ _ _ hsp; have KX : K.In s.heap := e0.mod.kin.keeps fun b o e => (e0.bs b o e).1
  have lim : s.heap.NoLimit := e0.mod.nolimit.keeps fun b o e => (e0.bs b o e).1
  have kinds : ∀ y ∈ ps.zip us, (defScope st).names.lookup y.1 = some .local ∨ ((defScope st).names.lookup y.1 = some .cell ∧ ((cellsFrom (s.heap.objs.size + 1) (defScope st).names []).lookup y.1).isSome = true) := fun ⟨n, v⟩ hy => by
    rcases S.par n (List.of_mem_zip hy).1 with q | q; exact .inl q; exact .inr ⟨q, PySem.W.cellsFrom_some _ _ _ (.inl q)⟩
  refine codeAny_call_function hr.depth (KX _ _ lk) rfl S.co S.gen rfl (PySem.W.codeRec_of KX hcd) (hb _ _ _ _ (wpAny_newFunctionEnv_cells S.kind kinds fun env he s1 x => ?_))
  subst he; refine ⟨lim.keeps x.toInCall.keep, codeAny_func ?_⟩
  obtain ⟨t, ht, hq⟩ := hbody cdv A outer s H vs Q E hgd (hr.deeper _) hsp
  have I : Inv (cxOf CX0 P w K mg base N qual (defScope st) f cdv A outer s H E) [] (start N vs) H s1 := inv_start S hr.hd e0 hl r x
  refine wpAny_mono (ht.nox.run [] s1 (start N vs) H _ I hq) (fun fl s' hs => ?_) fun e s' hs => hs
  have fin : ∀ {σ' : L2.St} {H' : Hp} {v : V} {u : Value}, Inv (cxOf CX0 P w K mg base N qual (defScope st) f cdv A outer s H E) [] σ' H' s' → RelV v u → Q v H' → CE outer P w H s Q u s' := fun {σ' H' v u} J rv q => ⟨v, H', J.os, J.bare, J.base, J.hok, rv, q⟩
  cases fl with
  | ret u => obtain ⟨v, σ', H', J, rv, q⟩ := hs; exact fin J rv q
  | next => obtain ⟨σ', H', J, q⟩ := hs; exact fin (v := V.non) (u := Value.none) J rfl q
  | brk => obtain ⟨_, _, _, q⟩ := hs; exact False.elim q
  | cont => obtain ⟨_, _, _, q⟩ := hs; exact False.elim q
end
theorem law_callG {P : Program} {w : World} {K : PySem.W.Frag} {mg mb : Str → Option Value} {k : Nat} {fa a : Addr} {fd : FuncData} {x : Str} {sp : Sp} {s₁ : Shared} {vs : List Value} {ns : List Int} (KX : K.In s₁.heap) (hns : s₁.heap.Ns mainGlobals mg) (hb : s₁.heap.Ns builtinsNs mb) (hbb : ∀ x : Str, x ≠ "__name__" → mb x = bootBuiltins x)
    (hlim : s₁.heap.NoLimit) (hg : s₁.gens = #[]) (ha : s₁.heap.get? a = some { cls := .type "list", data := .seq vs.toArray }) (hi : IntsAre vs ns) (hl : ns.length ≤ sizeLine) (hr : Room k callerA) (F : ∀ base : Heap, K.In base → base.Ns mainGlobals mg → RunG P w K mg base k fa fd [x] sp)
    (hbind : ∀ (s : Shared) (u : Value), BindsTo s fd ⟨[u], []⟩ [(x, u)]) (hsp : ∀ H : Hp, Only H → SqL K H a (ns.map V.int) → sp [.ref a] H (fun v _ => v = .bl true) fun _ _ _ => False) :
    codeAny (model P w) callerA (.call (.ref fa) ⟨[.ref a], []⟩) (fun r s' => r = .ok (.ret (.bool true)) ∧ OldK s₁.heap s'.heap ∧ s'.os = s₁.os ∧ AllBare s'.gens) s₁ := by
  have rv := vals_ints hi; have lenV := hi.length
  have core : ∀ H : Hp, Only H → SqL K H a (ns.map V.int) → HOk P w H s₁.heap → (∀ b, H b ≠ none → b = a) → (H a ≠ none → K.lookup a = none) → codeAny (model P w) callerA (.call (.ref fa) ⟨[.ref a], []⟩) (fun r s' => r = .ok (.ret (.bool true)) ∧ OldK s₁.heap s'.heap ∧ s'.os = s₁.os ∧ AllBare s'.gens) s₁ := by
    intro H hO hS hok hA hK
    have b1 : ∀ {b : Addr} {o : Obj}, s₁.heap.get? b = some o → H b = none → (hidT s₁.heap H).get? b = some o := fun e n => hidT_get e n
    have n1 : ∀ {b : Addr} {o : Obj} {es : Array DictEntry} {ep : Nat}, s₁.heap.get? b = some o → o.data = .dict es ep → H b = none := fun {b o es ep} e d => by
      cases q : H b with
      | none => rfl
      | some u => have e' : b = a := hA b (by rw [q]; simp)
                  subst e'; rw [ha] at e; cases e; cases (show Data.seq vs.toArray _ = Data.dict es ep from d)
    have n2 : ∀ {b : Addr} {m : Str → Option Value}, s₁.heap.Ns b m → (hidT s₁.heap H).Ns b m := fun {b m} ⟨o, es, ep, e, d, r⟩ => ⟨o, es, ep, b1 e (n1 e d), d, r⟩
    have hKb : K.In (hidT s₁.heap H) := fun b o e => b1 (KX b o e) (by
      cases q : H b with
      | none => rfl
      | some u => have e' : b = a := hA b (by rw [q]; simp)
                  subst e'; rw [hK (by rw [q]; simp)] at e; cases e)
    have hM : Mod K mg (hidT s₁.heap H) := ⟨hKb, n2 hns, ⟨mb, n2 hb, hbb⟩, let ⟨mc, h1, h2⟩ := hlim; ⟨mc, n2 h1, h2⟩⟩
    have e0 : Env0 P w K mg (hidT s₁.heap H) callerA [] s₁ H := ⟨rfl, hM, fun b o e => of_hidT e, Nat.le_of_eq (hidT_size _ _), trivial, fun b hb => absurd (show b ∈ ([] : List Addr) from hb) (by simp), hok, .of_eq hg⟩
    refine codeAny_mono (F _ hKb (n2 hns) callerA [] s₁ H ⟨[.ref a], []⟩ [.ref a] [.ref a] _ _ rfl hr e0 (hbind s₁ (.ref a)) (.cons rfl .nil) (hsp H hO hS)) fun r s' h => ?_
    cases r with
    | error e => exact (show False from h).elim
    | ok fl =>
      cases fl with
      | next => exact False.elim h
      | brk => exact False.elim h
      | cont => exact False.elim h
      | ret u =>
        obtain ⟨v, H', os, bare, un, hok', r', q⟩ := h
        subst q; obtain rfl : u = Value.bool true := r'
        refine ⟨rfl, OldK.of_keep fun b o e => ?_, os, bare⟩
        cases q : H b with
        | none => exact un.keep b o e q (by intro z; exact absurd (show b ∈ ([] : List Addr) from z) (by simp)) (by simp)
        | some u =>
          rcases hO b with z | ⟨ob, xs, z⟩
          · rw [q] at z; cases z
          · obtain ⟨e1, _⟩ := hok b _ z; obtain ⟨e2, _⟩ := hok' b _ (un.frzs b ob _ z)
            rw [e] at e1; cases e1; exact e2
  cases hk : K.lookup a with
  | some o =>
    have e := KX a o hk; rw [ha] at e; cases e
    exact core (fun _ => none) (fun _ => .inl rfl) (.inr ⟨_, vs.toArray, _, hk, rfl, rfl, rfl, by rw [List.size_toArray, lenV]; exact hl, by simpa using rv⟩) (fun b u z => by cases (show (none : Option HO) = some u from z)) (fun b z => absurd rfl z) fun z => absurd rfl z
  | none =>
    refine core (fun b => if b = a then some (.frz { cls := .type "list", data := .seq vs.toArray } (.lst (ns.map V.int))) else none) (fun b => ?_) (.inl (.inr ⟨{ cls := .type "list", data := .seq vs.toArray }, if_pos rfl⟩)) (fun b u z => ?_) (fun b z => ?_) fun _ => hk
    · by_cases e : b = a
      · exact .inr ⟨_, _, if_pos e⟩
      · exact .inl (if_neg e)
    · by_cases e : b = a
      · cases (if_pos e).symm.trans z; subst e
        exact ⟨ha, by rw [List.length_map]; exact hl, vs, _, rv, ha⟩
      · cases (if_neg e).symm.trans z
    · by_cases e : b = a
      · exact e
      · exact absurd (if_neg e) z
theorem walk_ofG {l : PySem.W.OpenLaw} {n k : Nat} {q : Program} {loose : List Str} {XP : (Str → Option Value) → Heap → Prop} {YP : World → Heap → Prop} {d : DefRec} {K : Params → PySem.W.Frag} {sp : World → Sp} {x : Str} (hn : l.most = some n) (hn2 : n ≤ sizeLine) (hdf : d.params.defaults = []) (hr : Room k callerA) (hY : ∀ (w : World) (h : Heap), YP w h → (K w.params).In h)
    (F : ∀ (w : World) (mg : Str → Option Value) (fa : Addr) (h : Heap), (K w.params).In h → h.Ns mainGlobals mg → mg d.name = some (.ref fa) → ∃ fd : FuncData, (∀ (s : Shared) (u : Value), BindsTo s fd ⟨[u], []⟩ [(x, u)]) ∧ ∀ base : Heap, (K w.params).In base → base.Ns mainGlobals mg → RunG l.prog w (K w.params) mg base k fa fd [x] (sp w))
    (hsp : ∀ (w : World) (H : Hp) (a : Addr) (ns : List Int), ns.length ≤ n → Only H → SqL (K w.params) H a (ns.map V.int) → sp w [.ref a] H (fun v _ => v = .bl true) fun _ _ _ => False) : PySem.W.WalkO q loose XP YP l.row.toRowW d [] (fun f vs => PySem.call f vs) := by
  refine Att.attach_call hn hdf fun w s₀ s₁ mg mb fa o pm cd doc a vs ns G Y ho hd hcd hmg hobj hints hlen hg => ?_
  have KX := hY w _ Y; obtain ⟨fd, hb, hF⟩ := F w mg fa _ KX G.T.g hmg
  exact law_callG KX G.T.g G.T.b G.T.builtins G.T.nolimit hg hobj hints (Nat.le_trans hlen hn2) hr hF hb (fun H hO hS => hsp w H a ns hlen hO hS)
end TR
namespace TR
open PySem PySem.Spec PyProof.Rows L2
theorem Wf.tup {L D : Nat} {ds : List PyData} (l : ds.length ≤ L) (c : ∀ e ∈ ds, Wf L D e) : Wf L (D + 1) (.tuple ds) := .inr (.inr ⟨ds, .inr rfl, l, c⟩)
theorem Wf.lst {L D : Nat} {ds : List PyData} (l : ds.length ≤ L) (c : ∀ e ∈ ds, Wf L D e) : Wf L (D + 1) (.list ds) := .inr (.inr ⟨ds, .inl rfl, l, c⟩)
theorem Wf.leaf {L D : Nat} {d : PyData} (h : leafOk L d) : Wf L D d := by
  cases D with
  | zero => exact h
  | succ D => exact .inl h
end TR
namespace TR
open PySem PySem.Spec PyProof.Rows L2
theorem scOdd : FnScope ["_law_deck_here", "_law_some"] ["_law_deck_here"] (defScope sOdd) := ⟨rfl, rfl, rfl, by decide +kernel, rfl, by decide +kernel, by decide +kernel⟩
def oddD : List PyData := [.none, .bool true, .bool false, .int 0, .int 1, .int (-1), .int 2, .int 8, .int 16, .int (10 ^ 12), .int (10 ^ 12 + 1), .int (10 ^ 59), .str "", .str "0", .str "triple", .tuple [], .tuple [.int 0], .tuple [.int 0, .int 1], .list [], .dict [], .list [.int 0], .tuple [.bool true], .tuple [.tuple []]]
theorem odd_wf : ∀ d ∈ oddD, Wf 2 2 d := by
  unfold oddD
  refine List.forall_mem_cons.mpr ⟨.inl trivial, List.forall_mem_cons.mpr ⟨.inl trivial, List.forall_mem_cons.mpr ⟨.inl trivial, List.forall_mem_cons.mpr ⟨.inl (by show _ ≤ 10 ^ 59 + 2; decide +kernel), List.forall_mem_cons.mpr ⟨.inl (by show _ ≤ 10 ^ 59 + 2; decide +kernel), List.forall_mem_cons.mpr ⟨.inl (by show _ ≤ 10 ^ 59 + 2; decide +kernel), List.forall_mem_cons.mpr ⟨.inl (by show _ ≤ 10 ^ 59 + 2; decide +kernel), List.forall_mem_cons.mpr ⟨.inl (by show _ ≤ 10 ^ 59 + 2; decide +kernel), List.forall_mem_cons.mpr ⟨.inl (by show _ ≤ 10 ^ 59 + 2; decide +kernel), List.forall_mem_cons.mpr ⟨.inl (by show _ ≤ 10 ^ 59 + 2; decide +kernel), List.forall_mem_cons.mpr ⟨.inl (by show _ ≤ 10 ^ 59 + 2; decide +kernel), List.forall_mem_cons.mpr ⟨.inl (by show _ ≤ 10 ^ 59 + 2; decide +kernel), List.forall_mem_cons.mpr ⟨.inl ⟨by decide +kernel, by decide +kernel⟩, List.forall_mem_cons.mpr ⟨.inl ⟨by decide +kernel, by decide +kernel⟩, List.forall_mem_cons.mpr ⟨.inl ⟨by decide +kernel, by decide +kernel⟩, List.forall_mem_cons.mpr ⟨.inr (.inr ⟨_, .inr rfl, by decide, by simp⟩), List.forall_mem_cons.mpr ⟨.inr (.inr ⟨_, .inr rfl, by decide, by intro e he; rw [List.mem_singleton] at he; subst he; exact .inl (by show _ ≤ 10 ^ 59 + 2; decide +kernel)⟩), List.forall_mem_cons.mpr ⟨.inr (.inr ⟨_, .inr rfl, by decide, by intro e he; simp only [List.mem_cons, List.not_mem_nil, or_false] at he; rcases he with rfl | rfl <;> exact .inl (by show _ ≤ 10 ^ 59 + 2; decide +kernel)⟩), List.forall_mem_cons.mpr ⟨.inr (.inr ⟨_, .inl rfl, by decide, by simp⟩), List.forall_mem_cons.mpr ⟨.inr (.inl rfl), List.forall_mem_cons.mpr ⟨.inr (.inr ⟨_, .inl rfl, by decide, by intro e he; rw [List.mem_singleton] at he; subst he; exact .inl (by show _ ≤ 10 ^ 59 + 2; decide +kernel)⟩), List.forall_mem_cons.mpr ⟨.inr (.inr ⟨_, .inr rfl, by decide, by intro e he; rw [List.mem_singleton] at he; subst he; exact .inl trivial⟩), List.forall_mem_cons.mpr ⟨.inr (.inr ⟨_, .inr rfl, by decide, by intro e he; rw [List.mem_singleton] at he; subst he; exact .inr (.inr ⟨[], .inr rfl, by decide, by simp⟩)⟩), (fun _ h => absurd h (by simp))⟩⟩⟩⟩⟩⟩⟩⟩⟩⟩⟩⟩⟩⟩⟩⟩⟩⟩⟩⟩⟩⟩⟩
/-- objects that stand -/
def Alive (B : List Addr) (H : Hp) : Prop := ∀ b ∈ B, ∃ o, H b = some o
theorem Alive.nil {H : Hp} : Alive [] H := fun b h => absurd h (by simp)
theorem Alive.same {B : List Addr} {H H' : Hp} (a : Alive B H) (s : Same H H') : Alive B H' := fun b hb => by
  obtain ⟨o, e⟩ := a b hb
  exact ⟨o, s _ _ e⟩
theorem Alive.keep {B : List Addr} {H H' : Hp} {d p q : Addr} {n : Nat} (a : Alive B H) (k : Keep d p H H') (D : Deck H' d p q n) : Alive B H' := fun b hb => by
  obtain ⟨o, e⟩ := a b hb
  by_cases h1 : b = d
  · obtain ⟨x, y, c, g⟩ := D.hd
    exact ⟨_, h1 ▸ g⟩
  · by_cases h2 : b = p
    · obtain ⟨x, g⟩ := D.hp
      exact ⟨_, h2 ▸ g⟩
    · exact ⟨o, k _ _ e h1 h2⟩
theorem Alive.fresh {B : List Addr} {H : Hp} {l : Addr} (a : Alive B H) (h : H l = none) : l ∉ B := fun hb => by
  obtain ⟨o, e⟩ := a l hb
  rw [h] at e
  cases e
theorem RpAll.keep {H H' : Hp} {ban : List Addr} {ds : List PyData} {xs : List V} {k p q : Addr} {n : Nat} (h : RpAll H ban ds xs) (D : Deck H k p q n) (s : Keep k p H H') (b1 : k ∈ ban) (b2 : p ∈ ban) : RpAll H' ban ds xs := by
  obtain ⟨x, y, c, e1⟩ := D.hd
  obtain ⟨zs, e2⟩ := D.hp
  refine RpAll.mv (fun a xs hn e => s _ _ e (fun z => hn (z ▸ b1)) (fun z => hn (z ▸ b2))) (fun a xs e => e.keep D s) (fun a e => s _ _ e (ne_of e e1 (by intro z; cases z)) (ne_of e e2 (by intro z; cases z))) ds xs h
section
variable {P : Program} {w : World} {K : PySem.W.Frag} {mg : Str → Option Value} {base : Heap}
def spOdd : Sp := fun vs H Q _ => ∃ (d p q : Addr) (c : Nat) (B : List Addr), vs = [.ref d] ∧ Deck H d p q c ∧ c ≤ 1000000 ∧ Alive B H ∧ ∀ H' x dd, Deck H' d p q (c + 1) → Keep d p H H' → Rp H' (d :: p :: sysModules :: B) dd x → Wf 2 2 dd → Q x H'
theorem ok_odd {f fN : Addr} {fd dN : FuncData} {k : Nat} (F : Fun K "_law_odd" "_law_odd" sOdd f fd) (kN : PySem.W.keepIn K (.ref fN) = true) (bN : Binds K dN ["_law_deck_here", "_law_many"] []) (gN : mg "_law_next" = some (.ref fN)) (GN : FnOk P w K mg base CX0 (k + 1) fN dN ["_law_deck_here", "_law_many"] spNext) :
    FnOk P w K mg base CX0 (k + 2) f fd ["_law_deck_here"] spOdd := by
  refine F.ok scOdd (fun vs H Q E h => ?_) (fun cdv A outer s H vs Q E hr h => ?_)
  · obtain ⟨d, p, q, c, B, rfl, _⟩ := h
    rfl
  · obtain ⟨d, p, q, c, B, rfl, D0, hc, hB, qq⟩ := h
    refine ⟨_, pss_cons (ps_set (i := 1) scOdd.nd rfl (.inl rfl) (pe_lstN (pa_cons (pe_non) (pa_cons (pe_bl) (pa_cons (pe_bl) (pa_cons (pe_int) (pa_cons (pe_int) (pa_cons (pe_un un_neg pe_int) (pa_cons (pe_int) (pa_cons (pe_int) (pa_cons (pe_int) (pa_cons (pe_op op_pow pe_int pe_int) (pa_cons (pe_op op_add (pe_op op_pow pe_int pe_int) pe_int) (pa_cons (pe_op op_pow pe_int pe_int) (pa_cons (pe_str) (pa_cons (pe_str) (pa_cons (pe_str) (pa_cons (pe_tupN pa_nil) (pa_cons (pe_tupN (pa_cons pe_int pa_nil)) pa_nil)))))))))))))))))))
      (pss_one (ps_ret (pe_ix ix_list (pe_op op_catN (pv 1) (pe_lstN (pa_cons (pe_tupN (pa_cons pe_int (pa_cons pe_int pa_nil))) (pa_cons (pe_lstN pa_nil) (pa_cons (pe_dnewN) (pa_cons (pe_lstN (pa_cons pe_int pa_nil)) (pa_cons (pe_tupN (pa_cons pe_bl pa_nil)) (pa_cons (pe_tupN (pa_cons (pe_tupN pa_nil) pa_nil)) pa_nil)))))))) (pe_call GN hr (by rfl) gN kN bN .nil pass0 (pa_cons (pv 0) (pa_cons pe_int pa_nil))) (fun _ _ => rfl)))), ?_⟩
    refine ⟨1, rfl, 10, 12, rfl, rfl, ⟨by decide, by decide, by decide⟩, 10, 12, rfl, rfl, ⟨by decide, by decide, by decide⟩, _, 1, rfl, rfl, 10, 59, rfl, rfl, ⟨by decide, by decide, by decide⟩, Nat.zero_le _, fun t1 H1 _ s1 e1 => ⟨by show 1 ≤ sizeLine; decide, fun t2 H2 _ s2 e2 => ⟨by show 17 ≤ sizeLine; decide, fun l0 H3 hl0 _ s3 e3 => ?_⟩⟩⟩
    refine ⟨.ref l0, rfl, by show 2 ≤ sizeLine; decide, fun t3 H4 _ s4 e4 => ⟨Nat.zero_le _, fun l1 H5 hl1 n1 s5 e5 => fun d1 H6 _ s6 e6 => ⟨by show 1 ≤ sizeLine; decide, fun l2 H7 hl2 n2 s7 e7 => ⟨by show 1 ≤ sizeLine; decide, fun t4 H8 _ s8 e8 => ⟨Nat.zero_le _, fun t5 H9 _ s9 e9 => ⟨by show 1 ≤ sizeLine; decide, fun t6 Ha _ sa ea => ⟨by show 6 ≤ sizeLine; decide, fun l3 Hb _ _ sb eb => ?_⟩⟩⟩⟩⟩⟩⟩
    have s9b := sa.trans sb
    have s8b := s9.trans s9b
    have s7b := s8.trans s8b
    have s6b := s7.trans s7b
    have s5b := s6.trans s6b
    have s4b := s5.trans s5b
    have s3b := s4.trans s4b
    have s2b := s3.trans s3b
    have s1b := s2.trans s2b
    have s0b := s1.trans s1b
    refine ⟨l0, l3, _, _, rfl, rfl, s3b _ _ e3, eb, by show 23 ≤ sizeLine; decide, fun l4 Hc hl4 sc ec => ?_⟩
    have D4 := D0.same (s1.trans (s2.trans (s3.trans s4)))
    have D6 := D4.same (s5.trans s6)
    have Db := D0.same s0b
    have b1 : l1 ∉ (d :: p :: sysModules :: B) := by
      simp only [List.mem_cons, not_or]
      exact ⟨D4.ned hl1, D4.nep hl1, n1, (hB.same (s1.trans (s2.trans (s3.trans s4)))).fresh hl1⟩
    have b2 : l2 ∉ (d :: p :: sysModules :: B) := by
      simp only [List.mem_cons, not_or]
      exact ⟨D6.ned hl2, D6.nep hl2, n2, (hB.same (s1.trans (s2.trans (s3.trans (s4.trans (s5.trans s6)))))).fresh hl2⟩
    have Dc := Db.same sc
    have all : RpAll Hc (d :: p :: sysModules :: B) oddD _ := ⟨.non, _, rfl, rfl, .bl true, _, rfl, rfl, .bl false, _, rfl, rfl, .int 0, _, rfl, rfl, .int 1, _, rfl, rfl, .int (-1), _, rfl, rfl, .int 2, _, rfl, rfl, .int 8, _, rfl, rfl, .int 16, _, rfl, rfl, .int (10 ^ 12), _, rfl, rfl, .int (10 ^ 12 + 1), _, rfl, rfl, .int (10 ^ 59), _, rfl, rfl, .str "", _, rfl, rfl, .str "0", _, rfl, rfl, .str "triple", _, rfl, rfl,
      .ref t1, _, rfl, ⟨t1, [], rfl, e1.same (s1b.trans sc), rfl⟩, .ref t2, _, rfl, ⟨t2, [.int 0], rfl, e2.same (s2b.trans sc), .int 0, [], rfl, rfl, rfl⟩, .ref t3, _, rfl, ⟨t3, [.int 0, .int 1], rfl, e4.same (s4b.trans sc), .int 0, _, rfl, rfl, .int 1, [], rfl, rfl, rfl⟩,
      .ref l1, _, rfl, ⟨l1, [], rfl, sc _ _ (s5b _ _ e5), b1, rfl⟩, .ref d1, _, rfl, ⟨rfl, d1, rfl, sc _ _ (s6b _ _ e6)⟩, .ref l2, _, rfl, ⟨l2, [.int 0], rfl, sc _ _ (s7b _ _ e7), b2, .int 0, [], rfl, rfl, rfl⟩, .ref t4, _, rfl, ⟨t4, [.bl true], rfl, e8.same (s8b.trans sc), .bl true, [], rfl, rfl, rfl⟩,
      .ref t6, [], rfl, ⟨t6, [.ref t5], rfl, ea.same (sb.trans sc), .ref t5, [], rfl, ⟨t5, [], rfl, e9.same (s9b.trans sc), rfl⟩, rfl⟩, rfl⟩
    refine ⟨.ref d, rfl, d, p, q, c, 23, rfl, Dc, by omega, by decide, by decide, fun Hd r r0 r1 Dd kd => ?_⟩
    obtain ⟨j, rfl⟩ := Int.eq_ofNat_of_zero_le r0
    have nld : l4 ≠ d := Db.ned hl4
    have nlp : l4 ≠ p := Db.nep hl4
    have ed := kd _ _ ec nld nlp
    have alld := all.keep Dc kd (by simp) (by simp)
    have el := alld.len
    have hj : j < oddD.length := by
      have : oddD.length = 23 := by decide
      omega
    rw [← el] at hj
    have gx := List.getElem?_eq_getElem hj
    obtain ⟨dd, hg, hrp⟩ := alld.get gx
    exact ⟨l4, _, (j : Int), _, rfl, rfl, sqL ed, atI_nat gx, qq Hd _ dd Dd ((Same.keep (s0b.trans sc)).trans kd) hrp (odd_wf dd (List.mem_of_getElem? hg))⟩
end
end TR
namespace TR
open PySem PySem.Spec PyProof.Rows L2
theorem scBent : FnScope ["_law_deck_here", "_law_thing", "_law_deep", "_law_spot"] ["_law_deck_here", "_law_thing", "_law_deep"] (defScope sBent) := ⟨rfl, rfl, rfl, by decide +kernel, rfl, by decide +kernel, by decide +kernel⟩
theorem RpAll.cut {H : Hp} {ban : List Addr} {ds : List PyData} {xs : List V} (h : RpAll H ban ds xs) (lo hi : Option Int) : RpAll H ban ((ds.drop (HT.sIx xs.length 0 lo)).take (HT.sIx xs.length xs.length hi - HT.sIx xs.length 0 lo)) (cutV xs lo hi) := (h.drop _).take _
theorem Wf.kids {L D : Nat} {ds : List PyData} (h : Wf L D (.tuple ds)) : 1 ≤ D ∧ ds.length ≤ L ∧ ∀ e ∈ ds, Wf L (D - 1) e := by
  cases D with
  | zero => exact (show False from h).elim
  | succ D =>
    rcases h with h | h | ⟨es, e, l, c⟩
    · exact (show False from h).elim
    · cases h
    · rcases e with e | e
      · cases e
      · injection e with e
        subst e
        exact ⟨by omega, l, c⟩
theorem Wf.leaf_of {L D : Nat} {d : PyData} (h : Wf L D d) (t : tyD d = "int") : leafOk L d := by
  cases D with
  | zero => exact h
  | succ D =>
    rcases h with h | h | ⟨es, e, l, c⟩
    · exact h
    · subst h
      simp [tyD] at t
    · rcases e with e | e <;> subst e <;> simp [tyD] at t
theorem text_ok {L : Nat} {i : Int} (h : L ≤ 41) (g : i.natAbs ≤ 10 ^ 59 + L) : leafOk L (.str (Str.ofString (toString i))) := by
  refine ⟨?_, fun c hc => ?_⟩
  · have := int_text_length_le10 (k := 60) (by decide) (small_int h g)
    rw [PySem.ofString_length]
    omega
  · rw [signs_ofString] at hc
    obtain ⟨ch, _, rfl⟩ := List.mem_map.mp hc
    have := ch.valid
    have h2 : ch.toNat < 1114112 := by
      rcases this with h | h
      · exact Nat.lt_trans (show ch.val.toNat < 55296 from h) (by decide)
      · exact h.2
    exact Nat.lt_trans h2 (by decide)
theorem sIx_last (n : Nat) : HT.sIx n 0 (some (-1)) = n - 1 := by
  show (if (-1 : Int) < 0 then ((-1 : Int) + (n : Int)).toNat else min (-1 : Int).toNat n) = n - 1
  rw [if_pos (by decide)]
  omega
section
variable {P : Program} {w : World} {K : PySem.W.Frag} {mg : Str → Option Value} {base : Heap}
def spBent : Nat → Sp
  | 0 => fun _ _ _ _ => False
  | m + 1 => fun vs H Q _ => ∃ (d p q : Addr) (c : Nat) (x : V) (dd : PyData) (L D : Nat) (B : List Addr), vs = [.ref d, x, .int (m : Int)] ∧ Deck H d p q c ∧ c + 10 * (m + 1) ≤ 900000 ∧ Alive B H ∧ Rp H (d :: p :: sysModules :: B) dd x ∧ Wf L D dd ∧ 2 ≤ L ∧ L ≤ 40 ∧
      ∀ H' y ee, Deck H' d p q (c + 10 * (m + 1)) → Keep d p H H' → Rp H' (d :: p :: sysModules :: B) ee y → Wf (L + 1) (max D (m + 2)) ee → sz ee ≤ 2 * sz dd + 20 → Q y H'
theorem ok_bent {f fN fO : Addr} {fd dN dO : FuncData} (F : Fun K "_law_bent" "_law_bent" sBent f fd) (bB : Binds K fd ["_law_deck_here", "_law_thing", "_law_deep"] []) (gB : mg "_law_bent" = some (.ref f))
    (kN : PySem.W.keepIn K (.ref fN) = true) (bN : Binds K dN ["_law_deck_here", "_law_many"] []) (gN : mg "_law_next" = some (.ref fN)) (GN : ∀ k, FnOk P w K mg base CX0 (k + 1) fN dN ["_law_deck_here", "_law_many"] spNext)
    (kO : PySem.W.keepIn K (.ref fO) = true) (bO : Binds K dO ["_law_deck_here"] []) (gO : mg "_law_odd" = some (.ref fO)) (GO : ∀ k, FnOk P w K mg base CX0 (k + 2) fO dO ["_law_deck_here"] spOdd)
    (misi : mg "isinstance" = none) (mt : mg "tuple" = none) (mlen : mg "len" = none) (ml : mg "list" = none) (mi : mg "int" = none) (ms : mg "str" = none) : ∀ m, FnOk P w K mg base CX0 (m + 2) f fd ["_law_deck_here", "_law_thing", "_law_deep"] (spBent m)
  | 0 => ⟨fun vs H Q E h => (show False from h).elim, fun A outer s H args us vs Q E hr he hb hv h => (show False from h).elim⟩
  | m + 1 => by
    have GB := ok_bent F bB gB kN bN gN GN kO bO gO GO misi mt mlen ml mi ms m
    refine F.ok scBent (fun vs H Q E h => ?_) (fun cdv A outer s H vs Q E hr h => ?_)
    · obtain ⟨d, p, q, c, x, dd, L, D, B, rfl, _⟩ := h
      rfl
    · obtain ⟨d, p, q, c, x, dd, L, D, B, rfl, D0, hc, hB, hp, hw, hL2, hL, qq⟩ := h
      have GN' := GN (m + 1)
      have GO' := GO m
      obtain ⟨k1, k2, k3⟩ := kitD (K := K) dd
      have rest : ∃ t, PSs (cxOf CX0 P w K mg base ["_law_deck_here", "_law_thing", "_law_deep", "_law_spot"] "_law_bent" (defScope sBent) f cdv A outer s H E).nox ((defBody sBent).drop 1) t ∧
          ∀ H1, Deck H1 d p q (c + 1) → Keep d p H H1 → Rp H1 (d :: p :: sysModules :: B) dd x → t { nx := fun _ H' => Q .non H', rt := Q } [some (.ref d), some x, some (.int (m : Int)), none] H1 := by
        refine ⟨_, pss_cons (ps_if (pt_val (pe_callB call_isi (by rfl) misi (by decide +kernel) (pa_cons (pv 1) (pa_cons (pe_bltn (v := .ty "tuple") (by rfl) mt (by decide +kernel) rfl) pa_nil))))
            (pss_one (ps_ret (pe_ix ix_list (pe_lstN (pa_cons (pe_slice sl_tupN (pv 1) (po_some pe_int) po_none) (pa_cons (pe_op op_catTN (pv 1) (pe_slice sl_tupN (pv 1) (po_some (pe_un un_neg pe_int)) po_none)) (pa_cons (pe_revN (pv 1) (fun σ H Q Q' m h => let ⟨v, e, g⟩ := h; ⟨v, e, m _ _ g⟩)) (pa_cons (pe_callTy call_listN (by rfl) ml (by decide +kernel) (pa_cons (pv 1) pa_nil)) (pa_cons (pe_call GO' hr (by rfl) gO kO bO .nil pass0 (pa_cons (pv 0) pa_nil)) pa_nil))))))
              (pe_call GN' hr (by rfl) gN kN bN .nil pass0 (pa_cons (pv 0) (pa_cons pe_int pa_nil))) (fun _ _ => rfl)))) pss_nil)
          (pss_cons (ps_if (pt_val (pe_callB call_isi (by rfl) misi (by decide +kernel) (pa_cons (pv 1) (pa_cons (pe_bltn (v := .ty "int") (by rfl) mi (by decide +kernel) rfl) pa_nil))))
            (pss_one (ps_ret (pe_ix ix_list (pe_lstN (pa_cons (pe_op (OpR.either op_add op_add_bi) (pv 1) pe_int) (pa_cons (pe_op (OpR.either op_sub op_sub_bi) (pv 1) pe_int) (pa_cons (pe_callTy call_str_ib (by rfl) ms (by decide +kernel) (pa_cons (pv 1) pa_nil)) (pa_cons (pe_cmpR (op_eqD hr.units) (pv 1) pe_int (nomark _)) (pa_cons pe_int (pa_cons (pe_call GO' hr (by rfl) gO kO bO .nil pass0 (pa_cons (pv 0) pa_nil)) pa_nil)))))))
              (pe_call GN' hr (by rfl) gN kN bN .nil pass0 (pa_cons (pv 0) (pa_cons pe_int pa_nil))) (fun _ _ => rfl)))) pss_nil)
          (pss_one (ps_ret (pe_call GO' hr (by rfl) gO kO bO .nil pass0 (pa_cons (pv 0) pa_nil))))), fun H1 D1 kp1 hp1 => ?_⟩
        have finish : ∀ (ds : List PyData) (xs : List V) (H2 : Hp) (l : Addr) (n : Int), (n : Int) = (xs.length : Int) → 0 < n → n < 1000 → Deck H2 d p q (c + 2) → Keep d p H H2 → RpAll H2 (d :: p :: sysModules :: B) ds xs → H2 l = some (.lst xs) → l ≠ d → l ≠ p → (∀ e ∈ ds, Wf (L + 1) (max D (m + 2)) e ∧ sz e ≤ 2 * sz dd + 20) →
            spNext [.ref d, .int n] H2 (fun y H3 => rIxL K (.ref l) y H3 Q) E0 := by
          intro ds xs H2 l n en h0 h1 D2 kp2 hall hl nld nlp hwf
          refine ⟨d, p, q, c + 2, n, rfl, D2, by omega, h0, by omega, fun H3 r r0 r1 D3 kp3 => ?_⟩
          obtain ⟨j, rfl⟩ := Int.eq_ofNat_of_zero_le r0
          have hj : j < xs.length := by omega
          have all3 := hall.keep D2 kp3 (by simp) (by simp)
          obtain ⟨e, he, hre⟩ := all3.get (List.getElem?_eq_getElem hj)
          exact ⟨l, xs, (j : Int), _, rfl, rfl, sqL (kp3 _ _ hl nld nlp), atI_nat (List.getElem?_eq_getElem hj), qq H3 _ e (D3.mono (by omega)) (kp2.trans kp3) hre (hwf e (List.mem_of_getElem? he)).1 (hwf e (List.mem_of_getElem? he)).2⟩
        refine ⟨x, rfl, x, .ty "tuple", _, _, _, rfl, .ty _, tyRp hp1, k1, _, rfl, ?_⟩
        by_cases ht : tyD dd = "tuple"
        · rw [decide_eq_true ht]
          refine iteT ?_
          obtain ⟨ds, rfl⟩ := ty_tuple ht
          obtain ⟨a, xs, rfl, ha, hx⟩ := hp1
          obtain ⟨hD, hdl, hkids⟩ := hw.kids
          have xl : xs.length ≤ 40 := by
            rw [hx.len]
            omega
          have kid : ∀ e ∈ ds, Wf (L + 1) (max D (m + 2) - 1) e := fun e he => (hkids e he).mono (by omega) (by omega)
          have e1m : max D (m + 2) = (max D (m + 2) - 1) + 1 := by omega
          refine ⟨.ref a, rfl, 1, rfl, a, xs, rfl, ha, fun v1 H2 s2 h2 => ?_⟩
          have ha2 := tf_same s2 ha
          refine ⟨.ref a, rfl, .ref a, rfl, 1, rfl, -1, rfl, a, xs, rfl, ha2, fun v2 H3 s3 h3 => ?_⟩
          have ha3 := tf_same s3 ha2
          have ltail : (cutV xs (some (-1)) none).length ≤ 1 := by
            unfold cutV
            rw [sIx_last, HT.sIx_none, List.length_take]
            omega
          refine ⟨a, v2, xs, _, rfl, rfl, ha3, h3, ?_, fun v3 H4 s4 h4 => ?_⟩
          · exact Nat.le_of_lt (small1000 (by omega))
          have ha4 := tf_same s4 ha3
          refine ⟨.ref a, rfl, a, xs, rfl, ha4, fun v4 H5 s5 h5 => ?_⟩
          have ha5 := tf_same s5 ha4
          refine ⟨.ref a, rfl, a, xs, rfl, ha5.rd, fun v5 H6 hv5 nv5 s6 h6 => ?_⟩
          have s16 : Same H1 H6 := s2.trans (s3.trans (s4.trans (s5.trans s6)))
          have D5 := D1.same (s2.trans (s3.trans (s4.trans s5)))
          have D6 := D5.same s6
          refine ⟨.ref d, rfl, d, p, q, c + 1, B, rfl, D6, by omega, (hB.keep kp1 D1).same s16, fun H7 v6 d6 D7 kp7 hp6 hw6 => ?_⟩
          have b5 : v5 ∉ (d :: p :: sysModules :: B) := by
            simp only [List.mem_cons, not_or]
            exact ⟨D5.ned hv5, D5.nep hv5, nv5, ((hB.keep kp1 D1).same (s2.trans (s3.trans (s4.trans s5)))).fresh hv5⟩
          have hx6 := hx.same s16
          refine ⟨by show 5 ≤ sizeLine; decide, fun l H8 hl nl s8 e8 => ?_⟩
          have c1 : RpAll H6 (d :: p :: sysModules :: B) ((ds.drop (HT.sIx xs.length 0 (some 1))).take (HT.sIx xs.length xs.length none - HT.sIx xs.length 0 (some 1))) (cutV xs (some 1) none) := hx6.cut _ _
          have c2 : RpAll H6 (d :: p :: sysModules :: B) ((ds.drop (HT.sIx xs.length 0 (some (-1)))).take (HT.sIx xs.length xs.length none - HT.sIx xs.length 0 (some (-1)))) (cutV xs (some (-1)) none) := hx6.cut _ _
          have lc2 := c2.len
          have r1 : Rp H6 (d :: p :: sysModules :: B) (.tuple _) (.ref v1) := ⟨v1, _, rfl, tf_same (s3.trans (s4.trans (s5.trans s6))) h2, c1⟩
          have r2 : Rp H6 (d :: p :: sysModules :: B) (.tuple _) (.ref v3) := ⟨v3, _, rfl, tf_same (s5.trans s6) h4, hx6.app c2⟩
          have r3 : Rp H6 (d :: p :: sysModules :: B) (.tuple ds.reverse) (.ref v4) := ⟨v4, _, rfl, tf_same s6 h5, hx6.rev⟩
          have r4 : Rp H6 (d :: p :: sysModules :: B) (.list ds) (.ref v5) := ⟨v5, _, rfl, h6, b5, hx6⟩
          have kk : ∀ {ee : PyData} {vv : V}, Rp H6 (d :: p :: sysModules :: B) ee vv → Rp H8 (d :: p :: sysModules :: B) ee vv := fun h => (h.keep D6 kp7 (by simp) (by simp)).same s8
          refine ⟨.ref d, rfl, finish [.tuple _, .tuple _, .tuple _, .list _, d6] _ H8 l 5 rfl (by decide) (by decide) (D7.same s8) ((kp1.trans (Same.keep s16)).trans (kp7.trans (Same.keep s8))) ⟨_, _, rfl, kk r1, _, _, rfl, kk r2, _, _, rfl, kk r3, _, _, rfl, kk r4, _, _, rfl, hp6.same s8, rfl⟩ e8 (D7.ned hl) (D7.nep hl) ?_⟩
          have z6 : sz d6 ≤ 2 * (1 + szAll ds) + 20 := by
            have : sz d6 ≤ 7 := hw6.sz
            omega
          refine List.forall_mem_cons.mpr ⟨?_, List.forall_mem_cons.mpr ⟨?_, List.forall_mem_cons.mpr ⟨?_, List.forall_mem_cons.mpr ⟨?_, List.forall_mem_cons.mpr ⟨⟨hw6.mono (by omega) (by omega), z6⟩, fun _ h => absurd h (by simp)⟩⟩⟩⟩⟩
          · refine ⟨?_, by show 1 + szAll ((ds.drop _).take _) ≤ 2 * (1 + szAll ds) + 20; have := szAll_cut ds (HT.sIx xs.length 0 (some 1)) (HT.sIx xs.length xs.length none - HT.sIx xs.length 0 (some 1)); omega⟩
            rw [e1m]
            refine Wf.tup ?_ fun e he => kid e (List.mem_of_mem_drop (List.mem_of_mem_take he))
            rw [List.length_take, List.length_drop]
            omega
          · refine ⟨?_, by show 1 + szAll (ds ++ (ds.drop _).take _) ≤ 2 * (1 + szAll ds) + 20; rw [szAll_app]; have := szAll_cut ds (HT.sIx xs.length 0 (some (-1))) (HT.sIx xs.length xs.length none - HT.sIx xs.length 0 (some (-1))); omega⟩
            rw [e1m]
            refine Wf.tup ?_ fun e he => ?_
            · rw [List.length_append]
              omega
            · rcases List.mem_append.mp he with he | he
              · exact kid e he
              · exact kid e (List.mem_of_mem_drop (List.mem_of_mem_take he))
          · refine ⟨?_, by show 1 + szAll ds.reverse ≤ 2 * (1 + szAll ds) + 20; rw [szAll_rev]; omega⟩
            rw [e1m]
            refine Wf.tup ?_ fun e he => kid e (List.mem_reverse.mp he)
            rw [List.length_reverse]
            omega
          · refine ⟨?_, by show 1 + szAll ds ≤ 2 * (1 + szAll ds) + 20; omega⟩
            rw [e1m]
            exact Wf.lst (by omega) kid
        · rw [decide_eq_false ht]
          refine iteF ?_
          refine ⟨x, rfl, x, .ty "int", _, _, _, rfl, .ty _, tyRp hp1, k2, _, rfl, ?_⟩
          by_cases hib : tyD dd = "int" ∨ tyD dd = "bool"
          · rw [decide_eq_true hib]
            refine iteT ?_
            have fin2 : ∀ (i : Int) (z : Str) (b2 : Bool) (H6 : Hp) (v6 : V) (d6 : PyData), i.natAbs ≤ 10 ^ 59 + L → leafOk (L + 1) (.str z) → Deck H6 d p q (c + 2) → Keep d p H H6 → Rp H6 (d :: p :: sysModules :: B) d6 v6 → Wf 2 2 d6 →
                ∀ l H8, H6 l = none → l ≠ sysModules → Same H6 H8 → H8 l = some (.lst [.int (i + 1), .int (i - 1), .str z, .bl b2, .int 0, v6]) → spNext [.ref d, .int 6] H8 (fun y H3 => rIxL K (.ref l) y H3 Q) E0 := by
              intro i z b2 H6 v6 d6 hi hz D6 kp6 hp6 hw6 l H8 hl nl s8 e8
              refine finish [.int (i + 1), .int (i - 1), .str z, .bool b2, .int 0, d6] _ H8 l 6 rfl (by decide) (by decide) (D6.same s8) (kp6.trans (Same.keep s8)) ⟨_, _, rfl, rfl, _, _, rfl, rfl, _, _, rfl, rfl, _, _, rfl, rfl, _, _, rfl, rfl, _, _, rfl, hp6.same s8, rfl⟩ e8 (D6.ned hl) (D6.nep hl) ?_
              have z1 : 1 ≤ 2 * sz dd + 20 := by omega
              have z6 : sz d6 ≤ 2 * sz dd + 20 := by
                have : sz d6 ≤ 7 := hw6.sz
                omega
              refine List.forall_mem_cons.mpr ⟨⟨Wf.leaf (show (i + 1).natAbs ≤ 10 ^ 59 + (L + 1) by omega), z1⟩, List.forall_mem_cons.mpr ⟨⟨Wf.leaf (show (i - 1).natAbs ≤ 10 ^ 59 + (L + 1) by omega), z1⟩, List.forall_mem_cons.mpr ⟨⟨Wf.leaf hz, z1⟩, List.forall_mem_cons.mpr ⟨⟨Wf.leaf trivial, z1⟩, List.forall_mem_cons.mpr ⟨⟨Wf.leaf (show (0 : Int).natAbs ≤ 10 ^ 59 + (L + 1) from Nat.zero_le _), z1⟩, List.forall_mem_cons.mpr ⟨⟨hw6.mono (by omega) (by omega), z6⟩, fun _ h => absurd h (by simp)⟩⟩⟩⟩⟩⟩
            cases dd with
            | int i =>
              cases (show x = V.int i from hp1)
              have hi : i.natAbs ≤ 10 ^ 59 + L := hw.leaf_of rfl
              refine ⟨.int i, rfl, .inl ⟨i, 1, rfl, rfl, .int i, rfl, .inl ⟨i, 1, rfl, rfl, .int i, rfl, .inl ⟨i, rfl, small_log (small_int (by omega) hi), .int i, rfl, _, _, .int i, .int 1, rfl, rfl, ?_⟩⟩⟩⟩
              refine ⟨.ref d, rfl, d, p, q, c + 1, B, rfl, D1, by omega, hB.keep kp1 D1, fun H7 v6 d6 D7 kp7 hp6 hw6 => ⟨by show 6 ≤ sizeLine; decide, ?_⟩⟩
              exact fun l H8 hl nl s8 e8 => ⟨.ref d, rfl, fin2 i _ _ H7 v6 d6 hi (leafOk.mono (Nat.le_succ L) (text_ok (by omega) hi)) D7 (kp1.trans kp7) hp6 hw6 l H8 hl nl s8 e8⟩
            | bool b =>
              cases (show x = V.bl b from hp1)
              have hb : (if b = true then (1 : Int) else 0).natAbs ≤ 10 ^ 59 + L := by
                cases b
                · exact Nat.zero_le _
                · show 1 ≤ 10 ^ 59 + L
                  exact Nat.le_trans (by decide : 1 ≤ 10 ^ 59) (Nat.le_add_right _ _)
              refine ⟨.bl b, rfl, .inr ⟨b, 1, rfl, rfl, .bl b, rfl, .inr ⟨b, 1, rfl, rfl, .bl b, rfl, .inr ⟨b, rfl, .bl b, rfl, _, _, .bl b, .int 1, rfl, rfl, ?_⟩⟩⟩⟩
              refine ⟨.ref d, rfl, d, p, q, c + 1, B, rfl, D1, by omega, hB.keep kp1 D1, fun H7 v6 d6 D7 kp7 hp6 hw6 => ⟨by show 6 ≤ sizeLine; decide, ?_⟩⟩
              exact fun l H8 hl nl s8 e8 => ⟨.ref d, rfl, fin2 _ _ _ H7 v6 d6 hb (by cases b <;> exact ⟨by decide +kernel, by decide +kernel⟩) D7 (kp1.trans kp7) hp6 hw6 l H8 hl nl s8 e8⟩
            | none => simp [tyD] at hib
            | str z => simp [tyD] at hib
            | list z => simp [tyD] at hib
            | tuple z => simp [tyD] at hib
            | dict z => simp [tyD] at hib
          · rw [decide_eq_false hib]
            refine iteF ?_
            refine ⟨.ref d, rfl, d, p, q, c + 1, B, rfl, D1, by omega, hB.keep kp1 D1, fun H7 v6 d6 D7 kp7 hp6 hw6 => ?_⟩
            exact qq H7 v6 d6 (D7.mono (by omega)) (kp1.trans kp7) hp6 (hw6.mono (by omega) (by omega)) (by have : sz d6 ≤ 7 := hw6.sz; omega)
      obtain ⟨t2, ht2, q2⟩ := rest
      refine ⟨_, pss_cons (ps_if (PW.pt (pw_and (pt_val (pe_callB call_isi (by rfl) misi (by decide +kernel) (pa_cons (pv 1) (pa_cons (pe_bltn (v := .ty "tuple") (by rfl) mt (by decide +kernel) rfl) pa_nil))))
          (pw_and (pt_cmpR (op_neT0 hr.units0) (pv 1) (pe_tupN pa_nil) (nomark _)) (pw_and (pt_cmpR op_gt (pv 2) pe_int (nomark _)) (pw_and1 (pt_cmpR op_gt (pe_call GN' hr (by rfl) gN kN bN .nil pass0 (pa_cons (pv 0) (pa_cons pe_int pa_nil))) pe_int (nomark _)))))))
        (pss_cons (ps_set (i := 3) scBent.nd rfl (.inl rfl) (pe_call GN' hr (by rfl) gN kN bN .nil pass0 (pa_cons (pv 0) (pa_cons (pe_callB call_len_seq (by rfl) mlen PySem.boot_len (pa_cons (pv 1) pa_nil)) pa_nil))))
          (pss_one (ps_ret (pe_op op_catTN (pe_op op_catTN (pe_slice sl_tupN (pv 1) po_none (po_some (pv 3))) (pe_tupN (pa_cons (pe_call GB hr (by rfl) gB F.kp bB .nil pass0 (pa_cons (pv 0) (pa_cons (pe_ix ix_tup (pv 1) (pv 3) (fun _ _ => rfl)) (pa_cons (pe_op op_sub (pv 2) pe_int) pa_nil)))) pa_nil)))
            (pe_slice sl_tupN (pv 1) (po_some (pe_op op_add (pv 3) pe_int)) po_none))))) pss_nil) ht2, ?_⟩
      have early : ∀ H1, Same H H1 → t2 { nx := fun _ H' => Q .non H', rt := Q } [some (.ref d), some x, some (.int (m : Int)), none] H1 := fun H1 s1 => q2 H1 ((D0.same s1).mono (by omega)) (Same.keep s1) (hp.same s1)
      refine ⟨x, rfl, x, .ty "tuple", _, _, _, rfl, .ty _, tyRp hp, k1, _, rfl, ?_⟩
      by_cases ht : tyD dd = "tuple"
      · rw [decide_eq_true ht]
        refine iteT ?_
        obtain ⟨ds, rfl⟩ := ty_tuple ht
        obtain ⟨a, xs, ex, ha, hx⟩ := id hp
        subst ex
        obtain ⟨hD, hdl, hkids⟩ := hw.kids
        refine ⟨.ref a, rfl, Nat.zero_le _, fun e He _ se ee => ⟨a, e, xs, rfl, rfl, .inl (tf_same se ha).rd, .inl ee.rd, _, rfl, ?_⟩⟩
        cases xs with
        | nil => exact iteF (iteF (early He se))
        | cons x0 xr =>
          refine iteT ?_
          refine ⟨.int (m : Int), rfl, _, _, rfl, rfl, _, rfl, ?_⟩
          cases m with
          | zero => exact iteF (iteF (early He se))
          | succ m =>
            have c1 : decide (((m + 1 : Nat) : Int) > 0) = true := decide_eq_true (by omega)
            show if decide (((m + 1 : Nat) : Int) > 0) = true then _ else _
            rw [c1]
            refine iteT ?_
            refine ⟨.ref d, rfl, d, p, q, c, 4, rfl, D0.same se, by omega, by decide, by decide, fun H1 r r0 r1 D1 kp1 => ?_⟩
            have De := D0.same se
            have hp1 : Rp H1 (d :: p :: sysModules :: B) (.tuple ds) (.ref a) := (hp.same se).keep De kp1 (by simp) (by simp)
            have kpe : Keep d p H H1 := (Same.keep se).trans kp1
            refine ⟨_, _, rfl, rfl, _, rfl, ite2 (fun _ => ?_) (fun _ => q2 H1 D1 kpe hp1)⟩
            obtain ⟨a', xs', ex, ha1, hx1⟩ := hp1
            cases ex
            have exs : xs' = x0 :: xr := by
              obtain ⟨o1, _, u1⟩ := ha1
              obtain ⟨o2, _, u2⟩ := (tf_same se ha).keep De kp1
              rw [u1] at u2
              cases u2
              rfl
            subst exs
            have hxl := hx.len
            have xl : (x0 :: xr).length ≤ 40 := by
              rw [hxl]
              omega
            generalize hxs : x0 :: xr = xs at *
            have hpos : 0 < xs.length := by
              rw [← hxs]
              exact Nat.succ_pos _
            refine ⟨.ref d, rfl, .ref a, rfl, a, xs, rfl, .inr (.inl ha1.rd), d, p, q, c + 1, _, rfl, D1, by omega, by omega, by omega, fun H2 r r0 r1 D2 kp2 => ?_⟩
            obtain ⟨j, rfl⟩ := Int.eq_ofNat_of_zero_le r0
            have hj : j < xs.length := by omega
            have hp2 : Rp H2 (d :: p :: sysModules :: B) (.tuple ds) (.ref a) := Rp.keep (show Rp H1 (d :: p :: sysModules :: B) (.tuple ds) (.ref a) from ⟨a, xs, rfl, ha1, hx1⟩) D1 kp2 (by simp) (by simp)
            have rdk : ∀ {Hx Hy : Hp} {cc : Nat} {b : Addr} {ys : List V}, Deck Hx d p q cc → Keep d p Hx Hy → TF Hx b ys → TF Hy b ys := fun Dx kx e => e.keep Dx kx
            have ha2 := rdk D1 kp2 ha1
            have hx2 := RpAll.keep hx1 D1 kp2 (by simp) (by simp)
            refine ⟨.ref a, rfl, .int (j : Int), rfl, _, rfl, a, xs, rfl, ha2, fun v1 H3 s3 h3 => ?_⟩
            have hx3 := hx2.same s3
            have ha3 := tf_same s3 ha2
            have D3 := D2.same s3
            obtain ⟨dj, hdj, hrj⟩ := hx3.get (List.getElem?_eq_getElem hj)
            have mj : dj ∈ ds := List.mem_of_getElem? hdj
            have ev : ((m + 1 : Nat) : Int) - 1 = (m : Int) := by omega
            refine ⟨.ref d, rfl, .ref a, rfl, .int (j : Int), rfl, a, xs, _, _, rfl, rfl, .inl ha3.rd, atI_nat (List.getElem?_eq_getElem hj), .int ((m + 1 : Nat) : Int), rfl, _, 1, rfl, rfl, ?_⟩
            refine ⟨d, p, q, c + 1 + 1, xs[j], dj, L, D - 1, B, ?_, D3, by omega, ((hB.keep kpe D1).keep kp2 D2).same s3, hrj, hkids dj mj, hL2, hL, fun H4 y ee D4 kp4 hpy hwy hzy => ?_⟩
            · show [V.ref d, xs[j], V.int (((m + 1 : Nat) : Int) - 1)] = _
              rw [ev]
            have h4 := rdk D3 kp4 h3
            have ha4 := rdk D3 kp4 ha3
            have hx4 := RpAll.keep hx3 D3 kp4 (by simp) (by simp)
            refine ⟨by show 1 ≤ sizeLine; decide, fun u H5 _ s5 e5 => ?_⟩
            have e2 : cutV xs none (some (j : Int)) = xs.take j := by
              unfold cutV
              rw [HT.sIx_none, HT.sIx_nat, Nat.min_eq_left (by omega)]
              rfl
            rw [e2] at h4
            refine ⟨v1, u, xs.take j, [y], rfl, rfl, tf_same s5 h4, e5, ?_, fun u2 H6 s6 h6 => ?_⟩
            · rw [List.length_take]
              exact Nat.le_of_lt (small1000 (by show min j xs.length + 1 ≤ 1000; omega))
            have s46 := s5.trans s6
            refine ⟨.ref a, rfl, .int (j : Int), rfl, _, 1, rfl, rfl, _, rfl, a, xs, rfl, tf_same s46 ha4, fun u3 H7 s7 h7 => ?_⟩
            have e3 : cutV xs (some ((j : Int) + 1)) none = xs.drop (j + 1) := by
              unfold cutV
              rw [show ((j : Int) + 1) = ((j + 1 : Nat) : Int) by omega, HT.sIx_none, HT.sIx_nat, Nat.min_eq_left (by omega)]
              exact List.take_of_length_le (by rw [List.length_drop]; exact Nat.le_refl _)
            have h7' : TF H7 u3 (xs.drop (j + 1)) := by
              rw [← e3]
              exact h7
            refine ⟨u2, u3, _, _, rfl, rfl, tf_same s7 h6, h7', ?_, fun u4 H8 s8 h8 => ?_⟩
            · rw [List.length_append, List.length_take, List.length_drop]
              exact Nat.le_of_lt (small1000 (by show min j xs.length + 1 + (xs.length - (j + 1)) ≤ 1000; omega))
            have s48 := s46.trans (s7.trans s8)
            have hx8 := hx4.same s48
            refine qq H8 (.ref u4) (.tuple ((ds.take j ++ [ee]) ++ ds.drop (j + 1))) ((D4.same s48).mono (by omega)) ((kpe.trans kp2).trans ((Same.keep s3).trans (kp4.trans (Same.keep s48)))) ⟨u4, _, rfl, h8, RpAll.app (RpAll.app (hx8.take j) ⟨y, [], rfl, hpy.same s48, rfl⟩) (hx8.drop (j + 1))⟩ ?_ ?_
            rotate_left
            · have h1 := szAll_take ds j
              have h2 : szAll (ds.drop j) = sz dj + szAll (ds.drop (j + 1)) := by
                have hjd : j < ds.length := (List.getElem?_eq_some_iff.mp hdj).1
                rw [List.drop_eq_getElem_cons hjd, (List.getElem?_eq_some_iff.mp hdj).2]
                rfl
              show 1 + szAll ((ds.take j ++ [ee]) ++ ds.drop (j + 1)) ≤ 2 * (1 + szAll ds) + 20
              rw [szAll_app, szAll_app]
              show 1 + (szAll (ds.take j) + (sz ee + 0) + szAll (ds.drop (j + 1))) ≤ _
              omega
            have em : max D (m + 1 + 2) = (max D (m + 1 + 2) - 1) + 1 := by omega
            rw [em]
            refine Wf.tup ?_ fun z hz => ?_
            · rw [List.length_append, List.length_append, List.length_take, List.length_drop]
              show min j ds.length + 1 + (ds.length - (j + 1)) ≤ L + 1
              omega
            · rcases List.mem_append.mp hz with hz | hz
              · rcases List.mem_append.mp hz with hz | hz
                · exact (hkids z (List.mem_of_mem_take hz)).mono (by omega) (by omega)
                · rw [List.mem_singleton] at hz
                  subst hz
                  exact hwy.mono (Nat.le_refl _) (by omega)
              · exact (hkids z (List.mem_of_mem_drop hz)).mono (by omega) (by omega)
      · rw [decide_eq_false ht]
        exact iteF (iteF (early H (Same.refl _)))
end
end TR
namespace TR
open PySem PySem.Spec PyProof.Rows L2
theorem iteND {c A B : Prop} [Decidable c] (hc : ¬ c) (h : A) : if (!decide c) = true then A else B := by
  rw [decide_eq_false hc]
  exact iteT h
theorem two_of {α : Type} {l : List α} (h : l.length = 2) : ∃ a b, l = [a, b] := by
  match l, h with
  | [a, b], _ => exact ⟨a, b, rfl⟩
theorem int_ne {a b : Int} (h : a ≠ b) : ¬ (V.int a = V.int b) := fun e => h (V.int.inj e)
end TR
namespace TR
open PySem PySem.Spec PyProof.Rows L2
/-! ### lines -/
theorem if_mid {c : TT} {t v u : TS} {D : Ends} {σ : L2.St} {H : Hp} (M : L2.St → Hp → Prop) (h1 : ∀ R : L2.St → Hp → Prop, (∀ σ' H', M σ' H' → R σ' H') → tIfS c t v { D with nx := R } σ H) (h2 : ∀ σ' H', M σ' H' → u D σ' H') : tSeq (tIfS c t v) u D σ H := h1 (u D) h2
/-- a statement, then the rest: what holds between -/
theorem seq_mid {t u : TS} {D : Ends} {σ : L2.St} {H : Hp} (M : L2.St → Hp → Prop) (h1 : ∀ R : L2.St → Hp → Prop, (∀ σ' H', M σ' H' → R σ' H') → t { D with nx := R } σ H) (h2 : ∀ σ' H', M σ' H' → u D σ' H') : tSeq t u D σ H := h1 (u D) h2
theorem keep_freeL {H H1 : Hp} {d p q g : Addr} {n : Nat} (k : Keep d p H H1) (D : Deck H1 d p q n) (h : H1 g = none) : H g = none := by
  cases e : H g with
  | none => rfl
  | some o =>
    have := k g o e (D.ned h) (D.nep h)
    rw [h] at this
    cases this
inductive Lds (H : Hp) : List V → List (Int × Int) → Prop
  | nil : Lds H [] []
  | cons {q : Addr} {a b : Int} {vs : List V} {ps : List (Int × Int)} : TF H q [.int a, .int b] → Lds H vs ps → Lds H (.ref q :: vs) ((a, b) :: ps)
theorem Lds.same {H H' : Hp} {vs : List V} {ps : List (Int × Int)} (h : Lds H vs ps) (s : Same H H') : Lds H' vs ps := by
  induction h with
  | nil => exact .nil
  | cons e _ ih => exact .cons (e.same s) ih
theorem Lds.keep {H H' : Hp} {d p q : Addr} {n : Nat} {vs : List V} {ps : List (Int × Int)} (h : Lds H vs ps) (D : Deck H d p q n) (s : Keep d p H H') : Lds H' vs ps := by
  induction h with
  | nil => exact .nil
  | cons e _ ih => exact .cons (e.keep D s) ih
theorem Lds.updl {H : Hp} {vs : List V} {ps : List (Int × Int)} {D : Addr} {xs ys : List V} (h : Lds H vs ps) (e : H D = some (.lst xs)) : Lds (upd H D (.lst ys)) vs ps := by
  induction h with
  | nil => exact .nil
  | cons e2 _ ih => exact .cons (e2.updl e) ih
theorem Lds.snoc {H : Hp} {vs : List V} {ps : List (Int × Int)} {q : Addr} {a b : Int} (h : Lds H vs ps) (e : TF H q [.int a, .int b]) : Lds H (vs ++ [.ref q]) (ps ++ [(a, b)]) := by
  induction h with
  | nil => exact .cons e .nil
  | cons e2 _ ih => exact .cons e2 ih
theorem Lds.len {H : Hp} {vs : List V} {ps : List (Int × Int)} (h : Lds H vs ps) : vs.length = ps.length := by
  induction h with
  | nil => rfl
  | cons _ _ ih => rw [List.length_cons, List.length_cons, ih]
theorem Lds.get {H : Hp} {vs : List V} {ps : List (Int × Int)} (h : Lds H vs ps) : ∀ {i : Nat} {x : V}, vs[i]? = some x → ∃ q a b, x = .ref q ∧ ps[i]? = some (a, b) ∧ TF H q [.int a, .int b] := by
  induction h with
  | nil => intro i x e; simp at e
  | cons e _ ih =>
    intro i x g
    cases i with
    | zero => exact ⟨_, _, _, (Option.some.inj g).symm, rfl, e⟩
    | succ i => exact ih g
theorem Lds.mem {H : Hp} {vs : List V} {ps : List (Int × Int)} (h : Lds H vs ps) {x : V} (hx : x ∈ vs) : ∃ q a b, x = .ref q ∧ (a, b) ∈ ps ∧ TF H q [.int a, .int b] := by
  obtain ⟨i, hi⟩ := List.mem_iff_getElem?.mp hx
  obtain ⟨q, a, b, h1, h2, h3⟩ := h.get hi
  exact ⟨q, a, b, h1, List.mem_of_getElem? h2, h3⟩
def ldD (p : Int × Int) : PyData := .tuple [.int p.1, .int p.2]
theorem Lds.rp {H : Hp} {ban : List Addr} {vs : List V} {ps : List (Int × Int)} (h : Lds H vs ps) : RpAll H ban (ps.map ldD) vs := by
  induction h with
  | nil => rfl
  | cons e _ ih => exact ⟨_, _, rfl, ⟨_, _, rfl, e, _, _, rfl, rfl, _, _, rfl, rfl, rfl⟩, ih⟩
def Ln (H : Hp) (a : Addr) (ls : List (Int × Int)) : Prop := ∃ xs, TF H a xs ∧ Lds H xs ls
theorem Ln.same {H H' : Hp} {a : Addr} {ls : List (Int × Int)} (h : Ln H a ls) (s : Same H H') : Ln H' a ls := by
  obtain ⟨xs, h1, h2⟩ := h
  exact ⟨xs, h1.same s, h2.same s⟩
theorem Ln.keep {H H' : Hp} {a d p q : Addr} {n : Nat} {ls : List (Int × Int)} (h : Ln H a ls) (D : Deck H d p q n) (s : Keep d p H H') : Ln H' a ls := by
  obtain ⟨xs, h1, h2⟩ := h
  exact ⟨xs, h1.keep D s, h2.keep D s⟩
def lnD (ls : List (Int × Int)) : PyData := .tuple (ls.map ldD)
theorem Ln.rp {H : Hp} {ban : List Addr} {a : Addr} {ls : List (Int × Int)} (h : Ln H a ls) : Rp H ban (lnD ls) (.ref a) := by
  obtain ⟨xs, h1, h2⟩ := h
  exact ⟨a, xs, rfl, h1, h2.rp⟩
structure WfL (ls : List (Int × Int)) : Prop where
  l1 : 1 ≤ ls.length
  l8 : ls.length ≤ 8
  bd : ∀ p ∈ ls, -1000000000000 ≤ p.1 ∧ p.1 ≤ 1000000000000 ∧ -1000000000000 ≤ p.2 ∧ p.2 ≤ 1000000000000
/-! ### the ranking of a taster -/
def neg (ls : List (Int × Int)) (t : Int) (d : Nat) : Int := -(ls.getD d (0, 0)).1 - (ls.getD d (0, 0)).2 * t
def pairLe (p q : Int × Int) : Prop := p.1 < q.1 ∨ (p.1 = q.1 ∧ p.2 ≤ q.2)
/-- the dishes with their worths, in order -/
def keysOf (ls : List (Int × Int)) (t : Int) : List (Int × Int) := (List.range ls.length).map fun d : Nat => (neg ls t d, (d : Int))
def IsLR (ls : List (Int × Int)) (t : Int) (rk : List Int) : Prop := ∃ ps : List (Int × Int), ps.Perm (keysOf ls t) ∧ ps.Pairwise pairLe ∧ rk = ps.map (·.2)
theorem IsLR.rank {ls : List (Int × Int)} {t : Int} {rk : List Int} (h : IsLR ls t rk) : Rank ls.length rk := by
  obtain ⟨ps, hp, _, rfl⟩ := h
  have := hp.map (·.2)
  unfold keysOf at this
  rw [List.map_map] at this
  exact this
theorem IsLR.uniq {ls : List (Int × Int)} {t : Int} {a b : List Int} (h : IsLR ls t a) (g : IsLR ls t b) : a = b := by
  obtain ⟨ps, h1, h2, rfl⟩ := h
  obtain ⟨qs, g1, g2, rfl⟩ := g
  have e : ps = qs := by
    refine List.Perm.eq_of_pairwise (le := pairLe) (fun x y _ _ u v => ?_) h2 g2 (h1.trans g1.symm)
    unfold pairLe at u v
    refine Prod.ext ?_ ?_ <;> omega
  rw [e]
/-! ### enumerate in a comprehension -/
theorem walk_enumT {K : PySem.W.Frag} {a : Addr} {xs : List V} {H4 : Hp} {Nx : Hp → Prop} {B : V → Hp → (Hp → Prop) → Prop} (Pv : Nat → Hp → Prop) (h0 : Pv 0 H4) (hl : ∀ i H, Pv i H → SqT K H a xs)
    (hs : ∀ (i : Nat) x T H, xs[i]? = some x → Pv i H → H T = none → B (.ref T) (upd H T (.tup [.int ((i : Nat) : Int), x])) (Pv (i + 1))) (hd : ∀ H, Pv xs.length H → Nx H) :
    ∃ W : Nat → Nat → Hp → Prop, (∃ m, W 0 m H4) ∧ ∀ i k H, W i k H → ((IteT K a).stop i H ∧ Nx H) ∨ ((IteT K a).go i H ∧ ∃ N : Hp → Prop, (∀ H', N H' → ∃ k', k' < k ∧ W (i + 1) k' H') ∧ ∀ x H', (IteT K a).yld i H x H' → B x H' N) := by
  refine ⟨fun i m H => m = xs.length - i ∧ i ≤ xs.length ∧ Pv i H, ⟨xs.length, by simp, Nat.zero_le _, h0⟩, ?_⟩
  rintro i m H ⟨rfl, hi, p⟩
  have q := hl i H p
  by_cases hlt : i < xs.length
  · refine .inr ⟨⟨xs, xs[i], q, by simp [hlt]⟩, Pv (i + 1), fun H' p' => ⟨xs.length - (i + 1), by omega, rfl, hlt, p'⟩, fun x H' y => ?_⟩
    obtain ⟨T, z, rfl, hT, rfl, hz⟩ := y
    exact hs i z T H (hz xs q) p hT
  · have e : i = xs.length := by omega
    subst e
    exact .inl ⟨⟨xs, q, rfl⟩, hd H p⟩
/-! ### sorted of pairs -/
open Classical in
noncomputable def prOf (H : Hp) (x : V) : Int × Int := if h : ∃ q : Int × Int, ∃ t, x = .ref t ∧ TF H t [.int q.1, .int q.2] then Classical.choose h else (0, 0)
theorem prOf_eq {H : Hp} {t : Addr} {a b : Int} (h : TF H t [.int a, .int b]) : prOf H (.ref t) = (a, b) := by
  unfold prOf
  have hex : ∃ q : Int × Int, ∃ t', V.ref t = .ref t' ∧ TF H t' [.int q.1, .int q.2] := ⟨(a, b), t, rfl, h⟩
  rw [dif_pos hex]
  obtain ⟨t', e, o2, _, e2⟩ := Classical.choose_spec hex
  cases e
  obtain ⟨o1, _, e1⟩ := h
  rw [e1] at e2
  injection e2 with e2
  injection e2 with _ e2
  injection e2 with e2
  injection e2 with e3 e4
  injection e4 with e4 _
  exact (Prod.ext (V.int.inj e3) (V.int.inj e4)).symm
theorem Lds.map {H : Hp} {vs : List V} {ps : List (Int × Int)} (h : Lds H vs ps) : vs.map (prOf H) = ps := by
  induction h with
  | nil => rfl
  | cons e _ ih => rw [List.map_cons, ih, prOf_eq e]
theorem lds_of {H : Hp} : ∀ {vs : List V}, (∀ x ∈ vs, ∃ q a b, x = .ref q ∧ TF H q [.int a, .int b]) → Lds H vs (vs.map (prOf H))
  | [], _ => .nil
  | x :: vs, h => by
    obtain ⟨q, a, b, rfl, hq⟩ := h x List.mem_cons_self
    rw [List.map_cons, prOf_eq hq]
    exact .cons hq (lds_of fun y hy => h y (List.mem_cons_of_mem _ hy))
section
variable {X : Cx}
def rSortedP (K : PySem.W.Frag) : List V → Hp → VK → Prop := fun vs H Q => ∃ (a : Addr) (xs : List V) (ps : List (Int × Int)), vs = [.ref a] ∧ SqL K H a xs ∧ Lds H xs ps ∧
  ∀ ys qs p, H p = none → Lds H ys qs → qs.Perm ps → qs.Pairwise pairLe → Q (.ref p) (upd H p (.lst ys))
theorem cr_sortedP : CallR X (.builtin "sorted") (rSortedP X.K) := by
  intro pins s σ H vs us Q I r ⟨a, xs, ps, ex, hs, hl, q⟩
  refine cr_sortedT pins s σ H vs us Q I r ⟨a, xs, fun x => [(prOf H x).1, (prOf H x).2], ex, hs, fun x hx => ⟨by simp, ?_⟩, fun ys p hso hst hp => ?_⟩
  · obtain ⟨t, u, v, rfl, _, ht⟩ := hl.mem hx
    refine ⟨t, rfl, ?_⟩
    dsimp only
    rw [prOf_eq ht]
    exact ht.rd
  · have hm : ∀ y ∈ ys, ∃ q a b, y = .ref q ∧ TF H q [.int a, .int b] := fun y hy => by
      obtain ⟨t, u, v, e, _, ht⟩ := hl.mem (hst.perm.mem_iff.mp hy)
      exact ⟨t, u, v, e, ht⟩
    refine q ys (ys.map (prOf H)) p hp (lds_of hm) ?_ ?_
    · rw [← hl.map]
      exact hst.perm.map _
    · refine List.pairwise_map.mpr (List.Pairwise.imp (fun {u v} h => ?_) hso)
      have h' : HT.lexLt [(prOf H v).1, (prOf H v).2] [(prOf H u).1, (prOf H u).2] = false := h
      rw [HT.lexLt_cons, HT.lexLt_cons, HT.lexLt_nil_nil] at h'
      unfold pairLe
      by_cases c : (prOf H v).1 = (prOf H u).1
      · rw [if_pos c] at h'
        by_cases c2 : (prOf H v).2 = (prOf H u).2
        · omega
        · rw [if_neg c2] at h'
          have := of_decide_eq_false h'
          omega
      · rw [if_neg c] at h'
        have := of_decide_eq_false h'
        omega
/-- // by any divisor but 0 -/
def CDivZ (_ j : Int) : Prop := j ≠ 0 ∧ j.natAbs < 2 ^ 60
theorem op_fdivZ : OpR X (binaryOp .FloorDiv) (rI CDivZ fun i j => .int (i.fdiv j)) := opI fun i j _ _ _ _ _ hc q => by
  have h1 : j ≠ 0 := hc.1
  have h2 : j.natAbs < 2 ^ 60 := hc.2
  exact floordiv_int h1 q (.inl (PyProof.noPylong_of_log2 (Nat.lt_of_lt_of_le (PySem.Flt.log2_lt_of (by decide) h2) (by decide))))
end
end TR
namespace TR
open PySem PySem.Spec PyProof.Rows L2
theorem scIsPlace : FnScope ["value"] ["value"] (defScope sIsPlace) := ⟨rfl, rfl, rfl, by decide +kernel, rfl, by decide +kernel, by decide +kernel⟩
section
variable {P : Program} {w : World} {K : PySem.W.Frag} {mg : Str → Option Value} {base : Heap}
def spPlace : Sp := fun vs H Q _ => ∃ (x : V) (d : PyData) (ban : List Addr), vs = [x] ∧ Rp H ban d x ∧ (∀ i, d = .int i → Q (.bl (decide (0 ≤ i ∧ i ≤ 1000000000000))) H) ∧ (whole d = false → Q (.bl false) H)
theorem ok_IsPlace {f f_is_within : Addr} {fd d_is_within : FuncData} {m : Nat} {t_MAX_WEIGHT : Tok} (F : Fun K "is_place" "is_place" sIsPlace f fd)
    (k_is_within : PySem.W.keepIn K (.ref f_is_within) = true) (b_is_within : Binds K d_is_within ["value", "low", "high"] []) (g_is_within : mg "is_within" = some (.ref f_is_within)) (G_is_within : FnOk P w K mg base CX0 m f_is_within d_is_within ["value", "low", "high"] spWithin)
    (gc_MAX_WEIGHT : mg "MAX_WEIGHT" = some (.int 1000000000000 t_MAX_WEIGHT)) : FnOk P w K mg base CX0 (m + 1) f fd ["value"] spPlace := by
  refine F.ok scIsPlace (fun vs H Q E h => ?_) (fun cdv A outer s H vs Q E hr h => ?_)
  · obtain ⟨x, d, ban, rfl, _⟩ := h
    rfl
  · obtain ⟨x, d, ban, rfl, hp, q1, q2⟩ := h
    refine ⟨_, 
      (pss_one (ps_ret (pe_call G_is_within hr (by rfl) g_is_within k_is_within b_is_within .nil pass0 (pa_cons (pv 0) (pa_cons pe_int (pa_cons (pe_glob (v := .int 1000000000000) (by rfl) gc_MAX_WEIGHT ⟨_, rfl⟩) pa_nil)))))), ?_⟩
    exact ⟨x, rfl, x, d, ban, 0, 1000000000000, rfl, hp, q1, q2⟩
end
end TR
namespace TR
open PySem PySem.Spec PyProof.Rows L2
theorem scLineRk : FnScope ["line", "t", "order", "dish", "height", "slope", "worth"] ["line", "t"] (defScope sLineRk) := ⟨rfl, rfl, rfl, by decide +kernel, rfl, by decide +kernel, by decide +kernel⟩
section
variable {P : Program} {w : World} {K : PySem.W.Frag} {mg : Str → Option Value} {base : Heap}
def IsPl (d : PyData) : Prop := ∃ i : Int, d = .int i ∧ 0 ≤ i ∧ i ≤ 1000000000000
def spLineRk (C : Addr) : Sp := fun vs H Q E => ∃ (a : Addr) (x : V) (ls : List (Int × Int)) (d : PyData) (ban : List Addr), vs = [.ref a, x] ∧ Ln H a ls ∧ WfL ls ∧ Rp H ban d x ∧
  (∀ i, d = .int i → 0 ≤ i → i ≤ 1000000000000 → ∀ H' b rk, Same H H' → Tp H' b rk → IsLR ls i rk → Q (.ref b) H') ∧
  (¬ IsPl d → ∀ H' e, Same H H' → H' e = some (.xd [(("taster" : Str), x)]) → E (.ref C) (some e) H')
theorem ok_LineRk {c_NoTaster i_NoTaster : Addr} {f f_is_place : Addr} {fd d_is_place : FuncData} {m : Nat} (F : Fun K "line_ranking" "line_ranking" sLineRk f fd)
    (k_is_place : PySem.W.keepIn K (.ref f_is_place) = true) (b_is_place : Binds K d_is_place ["value"] []) (g_is_place : mg "is_place" = some (.ref f_is_place)) (G_is_place : FnOk P w K mg base CX0 m f_is_place d_is_place ["value"] spPlace)
    (T_NoTaster : PySem.NtX.NtTxt K mg c_NoTaster i_NoTaster) (m_sorted : mg "sorted" = none) (m_enumerate : mg "enumerate" = none) (m_tuple : mg "tuple" = none) : FnOk P w K mg base (L2.CX P w) (m + 1) f fd ["line", "t"] (spLineRk c_NoTaster) := by
  refine F.okX scLineRk (fun vs H Q E h => ?_) (fun cdv A outer s H vs Q E hr h => ?_)
  · obtain ⟨a, x, ls, d, ban, rfl, _⟩ := h
    rfl
  · obtain ⟨a, x, ls, d, ban, rfl, ln, wf, hp, q1, q2⟩ := h
    refine ⟨_, 
      (pss_cons (ps_if (pt_not (pt_val (pe_call G_is_place hr (by rfl) g_is_place k_is_place b_is_place .nil pass0 (pa_cons (pv 1) pa_nil)))) 
        (pss_one (ps_raiseNt (W := fun cls d _ H => E cls d H) rfl T_NoTaster hr (takes_of rfl rfl rfl rfl) (pa_cons (pv 1) pa_nil))) pss_nil) (PSs.nox 
      (pss_cons (ps_set (i := 2) scLineRk.nd rfl (.inl rfl) (pe_callB (r := rSortedP K) cr_sortedP (by rfl) m_sorted (by decide +kernel) (pa_cons (pe_lc (own := [("dish", 3), ("height", 4), ("slope", 5)]) (g := gTup K 2 (gCons (gName 3) (gCons (gTup K 2 (gCons (gName 4) (gCons (gName 5) gNil))) gNil))) (tt := tYes) (by rfl) scLineRk.nd (pi_enumT (by rfl) m_enumerate (pa_cons (pv 0) pa_nil)) (blkOk_by (own := [("dish", 3), ("height", 4), ("slope", 5)]) (N := ["line", "t", "order", "dish", "height", "slope", "worth"]) (sc := defScope sLineRk) (by decide +kernel)) (fun _ _ _ _ _ => (pg_tup (by rfl) (pgs_cons (pg_name (i := 3) scLineRk.nd rfl (Or.inl rfl)) (pgs_cons (pg_tup (by rfl) (pgs_cons (pg_name (i := 4) scLineRk.nd rfl (Or.inl rfl)) (pgs_cons (pg_name (i := 5) scLineRk.nd rfl (Or.inl rfl)) pgs_nil))) pgs_nil)))) (fun _ _ _ _ _ => pts_nil) (fun _ _ _ _ _ => (pe_tupF (pa_cons (pe_op op_sub (pe_un un_neg (pv 4)) (pe_op op_mul (pv 5) (pv 1))) (pa_cons (pv 3) pa_nil))))) pa_nil))) 
      (pss_one (ps_ret (pe_callTy call_tupleF (by rfl) m_tuple (by decide +kernel) (pa_cons (pe_lc (own := [("worth", 6), ("dish", 3)]) (g := gTup K 2 (gCons (gName 6) (gCons (gName 3) gNil))) (tt := tYes) (by rfl) scLineRk.nd (pi_list (pv 2)) (blkOk_by (own := [("worth", 6), ("dish", 3)]) (N := ["line", "t", "order", "dish", "height", "slope", "worth"]) (sc := defScope sLineRk) (by decide +kernel)) (fun _ _ _ _ _ => (pg_tup (by rfl) (pgs_cons (pg_name (i := 6) scLineRk.nd rfl (Or.inl rfl)) (pgs_cons (pg_name (i := 3) scLineRk.nd rfl (Or.inl rfl)) pgs_nil)))) (fun _ _ _ _ _ => pts_nil) (fun _ _ _ _ _ => (pv 3))) pa_nil))))))), ?_⟩
    refine ⟨x, rfl, x, d, ban, rfl, hp, fun i hd => ⟨_, rfl, ?_⟩, fun hw => ⟨_, rfl, ?_⟩⟩
    · subst hd
      obtain rfl : x = .int i := hp
      by_cases c : 0 ≤ i ∧ i ≤ 1000000000000
      · rw [decide_eq_true c]
        refine iteF ?_
        replace q1 := q1 i rfl c.1 c.2
        clear q2
        obtain ⟨xs, h1, h2⟩ := ln
        have hxl := h2.len
        have hl8 := wf.l8
        refine ⟨.ref a, rfl, a, xs, rfl, .inl h1.rd, fun D hD => walk_enumT (K := K) (a := a) (xs := xs) (fun j H1 => Same H H1 ∧ ∃ ys, H1 D = some (.lst ys) ∧ Lds H1 ys ((keysOf ls i).take j)) ⟨same_upd hD, [], upd_same, .nil⟩ (fun j H1 h => .inl (rd_same h.1 h1.rd)) (fun j y T H1 hy h hT => ?_) (fun H1 h => ?_)⟩
        · obtain ⟨s1, ys, eD, hL⟩ := h
          obtain ⟨q0, u, v, rfl, hg, tf⟩ := (h2.same s1).get hy
          have hj : j < ls.length := (List.getElem?_eq_some_iff.mp hg).1
          have sT : Same H1 (upd H1 T (.tup [.int ((j : Nat) : Int), .ref q0])) := same_upd hT
          have eT : upd H1 T (.tup [.int ((j : Nat) : Int), .ref q0]) T = some (.tup [.int ((j : Nat) : Int), .ref q0]) := upd_same
          generalize upd H1 T (.tup [.int ((j : Nat) : Int), .ref q0]) = H2 at sT eT
          have bd := wf.bd (u, v) (List.mem_of_getElem? hg)
          dsimp only at bd
          have hgd : ls.getD j (0, 0) = (u, v) := by rw [List.getD_eq_getElem?_getD, hg]; rfl
          have hyl := hL.len
          rw [List.length_take] at hyl
          have kl : (keysOf ls i).length = ls.length := by unfold keysOf; rw [List.length_map, List.length_range]
          have kj : (keysOf ls i)[j]? = some (neg ls i j, (j : Int)) := by
            unfold keysOf
            rw [List.getElem?_map, List.getElem?_range hj]
            rfl
          refine ⟨T, _, rfl, .inl (.inl eT), rfl, .int (j : Int), _, rfl, .ref q0, _, rfl, q0, _, rfl, .inl (tf.same sT).rd, rfl, .int u, _, rfl, .int v, _, rfl, rfl, rfl, rfl, .int u, rfl, u, rfl, .int v, rfl, .int i, rfl, v, i, rfl, rfl, .inl ⟨by show -(2 : Int) ^ 64 < _; omega, by show _ < (2 : Int) ^ 64; omega⟩, _, _, rfl, rfl, .int (j : Int), rfl, by show 2 ≤ sizeLine; decide, fun pp o hpp ho => ?_⟩
          have sP : Same H2 (upd H2 pp (.frz o (.tup [.int (-u - v * i), .int (j : Int)]))) := same_upd hpp
          have tP : TF (upd H2 pp (.frz o (.tup [.int (-u - v * i), .int (j : Int)]))) pp [.int (-u - v * i), .int (j : Int)] := TF.new ho
          have e4 := sP _ _ (sT _ _ eD)
          refine ⟨ys, e4, small1000 (by omega), same_upd2 (s1.trans (sT.trans sP)) hD, _, upd_same, ?_⟩
          rw [List.take_add_one, kj]
          have en : neg ls i j = -u - v * i := by
            unfold neg
            rw [hgd]
          rw [en]
          exact ((hL.same (sT.trans sP)).updl e4).snoc (tP.updl e4)
        · obtain ⟨s1, ys, eD, hL⟩ := h
          have kl : (keysOf ls i).length = ls.length := by unfold keysOf; rw [List.length_map, List.length_range]
          rw [hxl, ← kl, List.take_length] at hL
          refine ⟨D, ys, _, rfl, sqL eD, hL, fun zs qs pp hpp hZ hperm hpw => ?_⟩
          have s2 : Same H1 (upd H1 pp (.lst zs)) := same_upd hpp
          have e2 : upd H1 pp (.lst zs) pp = some (.lst zs) := upd_same
          have hZ2 := hZ.same s2
          generalize upd H1 pp (.lst zs) = H2 at s2 e2 hZ2
          have hzl := hZ.len
          have hql : qs.length = ls.length := by rw [hperm.length_eq, kl]
          refine ⟨.ref pp, rfl, pp, rfl, ⟨_, sqL e2⟩, fun G hG => lc_list (K := K) (a := pp) (xs := zs) (fun j H3 => Same H2 H3 ∧ H3 G = some (.lst (((qs.take j).map (·.2)).map V.int))) ⟨same_upd hG, upd_same⟩ (fun j H3 _ h => h.1.seq (sqL e2)) (fun j y H3 hy h => ?_) (fun H3 h => ?_)⟩
          · obtain ⟨s3, e3⟩ := h
            obtain ⟨q0, u, v, rfl, hg, tf⟩ := (hZ2.same s3).get hy
            refine ⟨q0, _, rfl, .inl tf.rd, rfl, .int u, _, rfl, .int v, _, rfl, rfl, rfl, .int v, rfl, _, e3, ?_, same_upd2 s3 hG, ?_⟩
            · rw [List.length_map, List.length_map, List.length_take]
              exact small1000 (by omega)
            · rw [upd_same, List.take_add_one, hg, List.map_append, List.map_append]
              rfl
          · obtain ⟨s3, e3⟩ := h
            rw [hzl, List.take_length] at e3
            exact ⟨G, _, rfl, sqL e3, fun b o hb ho => q1 _ b _ (s1.trans (s2.trans (s3.trans (same_upd hb)))) (Tp.new ho) ⟨qs, hperm, hpw, rfl⟩⟩
      · rw [decide_eq_false c]
        refine iteT ⟨_, rfl, _, rfl, fun e he => q2 (fun ⟨j, hj, h0, h1⟩ => c ?_) _ e (same_upd he) upd_same⟩
        injection hj with hj
        omega
    · refine iteT ⟨x, rfl, x, rfl, fun e he => q2 (fun ⟨j, hj, _⟩ => ?_) _ e (same_upd he) upd_same⟩
      rw [hj] at hw
      simp [whole, tyD] at hw
end
end TR
namespace TR
open PySem PySem.Spec PyProof.Rows L2
theorem scIsLd : FnScope ["value", "part"] ["value"] (defScope sIsLd) := ⟨rfl, rfl, rfl, by decide +kernel, rfl, by decide +kernel, by decide +kernel⟩
def okW (d : PyData) : Prop := ∃ i : Int, d = .int i ∧ -1000000000000 ≤ i ∧ i ≤ 1000000000000
def IsLdD (d : PyData) : Prop := ∃ e1 e2, d = .tuple [e1, e2] ∧ okW e1 ∧ okW e2
def okWb : PyData → Bool
  | .int i => decide (-1000000000000 ≤ i ∧ i ≤ 1000000000000)
  | _ => false
theorem okWb_iff {d : PyData} : okWb d = true ↔ okW d := by
  constructor
  · intro h
    cases d with
    | int i => exact ⟨i, rfl, of_decide_eq_true h⟩
    | _ => cases h
  · rintro ⟨i, rfl, h⟩
    exact decide_eq_true h
theorem okWb_whole {d : PyData} (h : whole d = false) : okWb d = false := by
  cases d with
  | int i => simp [whole, tyD] at h
  | _ => rfl
section
variable {P : Program} {w : World} {K : PySem.W.Frag} {mg : Str → Option Value} {base : Heap}
def spIsLd : Sp := fun vs H Q _ => ∃ (x : V) (d : PyData) (ban : List Addr), vs = [x] ∧ Rp H ban d x ∧ ∀ H' b, Same H H' → (b = true ↔ IsLdD d) → Q (.bl b) H'
theorem ok_IsLd {f f_is_within : Addr} {fd d_is_within : FuncData} {m : Nat} {t_MAX_WEIGHT : Tok} (F : Fun K "is_line_dish" "is_line_dish" sIsLd f fd)
    (k_is_within : PySem.W.keepIn K (.ref f_is_within) = true) (b_is_within : Binds K d_is_within ["value", "low", "high"] []) (g_is_within : mg "is_within" = some (.ref f_is_within)) (G_is_within : FnOk P w K mg base CX0 m f_is_within d_is_within ["value", "low", "high"] spWithin)
    (m_len : mg "len" = none) (m_isinstance : mg "isinstance" = none) (m_tuple : mg "tuple" = none) (m_all : mg "all" = none) (gc_MAX_WEIGHT : mg "MAX_WEIGHT" = some (.int 1000000000000 t_MAX_WEIGHT)) : FnOk P w K mg base CX0 (m + 1) f fd ["value"] spIsLd := by
  refine F.ok scIsLd (fun vs H Q E h => ?_) (fun cdv A outer s H vs Q E hr h => ?_)
  · obtain ⟨x, d, ban, rfl, _⟩ := h
    rfl
  · obtain ⟨x, d, ban, rfl, hp, q⟩ := h
    refine ⟨_, 
      (pss_cons (ps_if (PW.pt (pw_or (pt_not (pt_val (pe_callB call_isi (by rfl) m_isinstance (by decide +kernel) (pa_cons (pv 0) (pa_cons (pe_bltn (v := .ty "tuple") (by rfl) m_tuple (by decide +kernel) rfl) pa_nil))))) (pw_or1 (pt_cmpR op_ne (pe_callB call_len_seq (by rfl) m_len PySem.boot_len (pa_cons (pv 0) pa_nil)) pe_int (nomark _))))) 
        (pss_one (ps_ret pe_bl)) pss_nil) 
      (pss_one (ps_ret (pe_callB (cr_all (by rfl)) (by rfl) m_all (by decide +kernel) (pa_cons (pe_lc (own := [("part", 1)]) (g := gName 1) (tt := tYes) (by rfl) scIsLd.nd (pi_tup (pv 0)) (blkOk_by (own := [("part", 1)]) (N := ["value", "part"]) (sc := defScope sIsLd) (by decide +kernel)) (fun _ _ _ _ _ => (pg_name (i := 1) scIsLd.nd rfl (Or.inl rfl))) (fun _ _ _ _ _ => pts_nil) (fun _ _ _ _ _ => (pe_call G_is_within hr (by rfl) g_is_within k_is_within b_is_within .nil pass0 (pa_cons (pv 1) (pa_cons (pe_un un_neg (pe_glob (v := .int 1000000000000) (by rfl) gc_MAX_WEIGHT ⟨_, rfl⟩)) (pa_cons (pe_glob (v := .int 1000000000000) (by rfl) gc_MAX_WEIGHT ⟨_, rfl⟩) pa_nil)))))) pa_nil))))), ?_⟩
    obtain ⟨k1, k2, k3⟩ := kitD (K := K) d
    refine ⟨x, rfl, x, .ty "tuple", _, _, _, rfl, .ty _, tyRp hp, k1, _, rfl, ?_⟩
    by_cases ht : tyD d = "tuple"
    · rw [decide_eq_true ht]
      refine iteF ?_
      obtain ⟨ds, rfl⟩ := ty_tuple ht
      obtain ⟨a, xs, rfl, ha, hx⟩ := hp
      have hxl := hx.len
      refine ⟨.ref a, rfl, a, xs, rfl, .inr (.inl ha.rd), rfl, _, rfl, ?_⟩
      by_cases hl : ds.length = 2
      · refine iteNS (by rw [hxl, hl]; rfl) ?_
        refine ⟨.ref a, rfl, a, rfl, ⟨_, .inl ha.rd⟩, fun D hD => lc_tup (K := K) (a := a) (xs := xs) (fun i H1 => Same H H1 ∧ H1 D = some (.lst (((ds.take i).map okWb).map V.bl))) ⟨same_upd hD, upd_same⟩ (fun i H1 _ h => .inl (rd_same h.1 ha.rd)) (fun i y H1 hy h => ?_) (fun H1 h => ?_)⟩
        · obtain ⟨s1, e1⟩ := h
          obtain ⟨e, he, hre⟩ := hx.get hy
          have fin : ∀ b, b = okWb e → ∃ acc, H1 D = some (.lst acc) ∧ acc.length < sizeLine ∧ Same H (upd H1 D (.lst (acc ++ [.bl b]))) ∧ upd H1 D (.lst (acc ++ [.bl b])) D = some (.lst (((ds.take (i + 1)).map okWb).map V.bl)) := by
            rintro b rfl
            refine ⟨_, e1, ?_, same_upd2 s1 hD, ?_⟩
            · rw [List.length_map, List.length_map, List.length_take]
              exact small1000 (by omega)
            · rw [upd_same, List.take_add_one, he, List.map_append, List.map_append]
              rfl
          refine ⟨rfl, y, rfl, 1000000000000, rfl, y, e, ban, -1000000000000, 1000000000000, rfl, hre.same s1, fun j hd => fin _ (by rw [hd]; rfl), fun hw => fin _ (okWb_whole hw).symm⟩
        · obtain ⟨s1, e1⟩ := h
          rw [hxl, List.take_length] at e1
          refine ⟨D, _, rfl, sqL e1, ?_⟩
          refine q _ _ s1 ?_
          obtain ⟨d1, d2, rfl⟩ := two_of hl
          rw [List.all_eq_true]
          constructor
          · intro h
            exact ⟨d1, d2, rfl, okWb_iff.mp (h _ List.mem_cons_self), okWb_iff.mp (h _ (List.mem_cons_of_mem _ List.mem_cons_self))⟩
          · rintro ⟨e1, e2, e, h1, h2⟩
            injection e with e
            injection e with e3 e4
            injection e4 with e4 _
            subst e3 e4
            intro b hb
            rcases List.mem_cons.mp hb with rfl | hb
            · exact okWb_iff.mpr h1
            · rw [List.mem_singleton.mp hb]
              exact okWb_iff.mpr h2
      · refine iteND (int_ne (by omega)) (q H false (Same.refl _) (ff_iff ?_))
        rintro ⟨e1, e2, e, _⟩
        injection e with e
        rw [e] at hl
        exact hl rfl
    · rw [decide_eq_false ht]
      exact iteT (q H false (Same.refl _) (ff_iff (fun ⟨e1, e2, e, _⟩ => by rw [e] at ht; exact ht rfl)))
end
end TR
namespace TR
open PySem PySem.Spec PyProof.Rows L2
theorem scIsLine : FnScope ["value", "dish"] ["value"] (defScope sIsLine) := ⟨rfl, rfl, rfl, by decide +kernel, rfl, by decide +kernel, by decide +kernel⟩
def IsLineD (d : PyData) : Prop := ∃ ds : List PyData, d = .tuple ds ∧ 1 ≤ ds.length ∧ ds.length ≤ 8 ∧ ∀ e ∈ ds, IsLdD e
section
variable {P : Program} {w : World} {K : PySem.W.Frag} {mg : Str → Option Value} {base : Heap}
def spIsLine : Sp := fun vs H Q _ => ∃ (x : V) (d : PyData) (ban : List Addr), vs = [x] ∧ Rp H ban d x ∧ (∀ ds, d = .tuple ds → ds.length ≤ 100) ∧ ∀ H' b, Same H H' → (b = true ↔ IsLineD d) → Q (.bl b) H'
theorem ok_IsLine {f f_is_line_dish : Addr} {fd d_is_line_dish : FuncData} {m : Nat} {t_MAX_DISHES : Tok} (F : Fun K "is_line" "is_line" sIsLine f fd)
    (k_is_line_dish : PySem.W.keepIn K (.ref f_is_line_dish) = true) (b_is_line_dish : Binds K d_is_line_dish ["value"] []) (g_is_line_dish : mg "is_line_dish" = some (.ref f_is_line_dish)) (G_is_line_dish : FnOk P w K mg base CX0 m f_is_line_dish d_is_line_dish ["value"] spIsLd)
    (m_len : mg "len" = none) (m_isinstance : mg "isinstance" = none) (m_tuple : mg "tuple" = none) (m_all : mg "all" = none) (gc_MAX_DISHES : mg "MAX_DISHES" = some (.int 8 t_MAX_DISHES)) : FnOk P w K mg base CX0 (m + 1) f fd ["value"] spIsLine := by
  refine F.ok scIsLine (fun vs H Q E h => ?_) (fun cdv A outer s H vs Q E hr h => ?_)
  · obtain ⟨x, d, ban, rfl, _⟩ := h
    rfl
  · obtain ⟨x, d, ban, rfl, hp, hlen, q⟩ := h
    refine ⟨_, 
      (pss_cons (ps_if (PW.pt (pw_or (pt_not (pt_val (pe_callB call_isi (by rfl) m_isinstance (by decide +kernel) (pa_cons (pv 0) (pa_cons (pe_bltn (v := .ty "tuple") (by rfl) m_tuple (by decide +kernel) rfl) pa_nil))))) (pw_or1 (pt_not (pt_chain op_le op_le pe_int (pe_callB call_len_seq (by rfl) m_len PySem.boot_len (pa_cons (pv 0) pa_nil)) (pe_glob (v := .int 8) (by rfl) gc_MAX_DISHES ⟨_, rfl⟩)))))) 
        (pss_one (ps_ret pe_bl)) pss_nil) 
      (pss_one (ps_ret (pe_callB (cr_all (by rfl)) (by rfl) m_all (by decide +kernel) (pa_cons (pe_lc (own := [("dish", 1)]) (g := gName 1) (tt := tYes) (by rfl) scIsLine.nd (pi_tup (pv 0)) (blkOk_by (own := [("dish", 1)]) (N := ["value", "dish"]) (sc := defScope sIsLine) (by decide +kernel)) (fun _ _ _ _ _ => (pg_name (i := 1) scIsLine.nd rfl (Or.inl rfl))) (fun _ _ _ _ _ => pts_nil) (fun _ _ _ _ _ => (pe_call G_is_line_dish hr (by rfl) g_is_line_dish k_is_line_dish b_is_line_dish .nil pass0 (pa_cons (pv 1) pa_nil)))) pa_nil))))), ?_⟩
    obtain ⟨k1, k2, k3⟩ := kitD (K := K) d
    refine ⟨x, rfl, x, .ty "tuple", _, _, _, rfl, .ty _, tyRp hp, k1, _, rfl, ?_⟩
    by_cases ht : tyD d = "tuple"
    · rw [decide_eq_true ht]
      refine iteF ?_
      obtain ⟨ds, rfl⟩ := ty_tuple ht
      obtain ⟨a, xs, rfl, ha, hx⟩ := hp
      have hxl := hx.len
      have bad : ¬ (1 ≤ ds.length ∧ ds.length ≤ 8) → ¬ IsLineD (.tuple ds) := by
        rintro h ⟨es, e, h1, h2, _⟩
        injection e with e
        subst e
        exact h ⟨h1, h2⟩
      refine ⟨.ref a, rfl, a, xs, rfl, .inr (.inl ha.rd), 1, _, rfl, rfl, _, rfl, ?_⟩
      show if decide ((1 : Int) ≤ (xs.length : Int)) = true then _ else _
      by_cases c1 : 1 ≤ ds.length
      · rw [decide_eq_true (by omega)]
        refine iteT ⟨_, _, rfl, rfl, _, rfl, ?_⟩
        show if (!decide ((xs.length : Int) ≤ 8)) = true then _ else _
        by_cases c2 : ds.length ≤ 8
        · rw [decide_eq_true (by omega)]
          refine iteF ?_
          refine ⟨.ref a, rfl, a, rfl, ⟨_, .inl ha.rd⟩, fun D hD => lc_tup (K := K) (a := a) (xs := xs) (fun i H1 => Same H H1 ∧ ∃ bs : List Bool, H1 D = some (.lst (bs.map V.bl)) ∧ bs.length = i ∧ ((∀ b ∈ bs, b = true) ↔ ∀ e ∈ ds.take i, IsLdD e)) ⟨same_upd hD, [], upd_same, rfl, by simp⟩ (fun i H1 _ h => .inl (rd_same h.1 ha.rd)) (fun i y H1 hy h => ?_) (fun H1 h => ?_)⟩
          · obtain ⟨s1, bs, e1, hbl, hiff⟩ := h
            obtain ⟨e, he, hre⟩ := hx.get hy
            have hi : i < ds.length := (List.getElem?_eq_some_iff.mp he).1
            refine ⟨rfl, y, rfl, y, e, ban, rfl, hre.same s1, fun H2 b s2 hb => ⟨_, s2 _ _ e1, ?_, same_upd2 (s1.trans s2) hD, bs ++ [b], ?_, by rw [List.length_append, hbl]; rfl, ?_⟩⟩
            · rw [List.length_map]
              exact small1000 (by omega)
            · rw [upd_same, List.map_append]
              rfl
            · rw [List.take_add_one, he]
              constructor
              · intro h e' he'
                rcases List.mem_append.mp he' with h' | h'
                · exact hiff.mp (fun b' hb' => h b' (List.mem_append_left _ hb')) e' h'
                · obtain rfl : e' = e := by simpa using h'
                  exact hb.mp (h b (List.mem_append_right _ List.mem_cons_self))
              · intro h b' hb'
                rcases List.mem_append.mp hb' with h' | h'
                · exact hiff.mpr (fun e' he' => h e' (List.mem_append_left _ he')) b' h'
                · rw [List.mem_singleton.mp h']
                  exact hb.mpr (h e (List.mem_append_right _ (by simp)))
          · obtain ⟨s1, bs, e1, hbl, hiff⟩ := h
            rw [hxl, List.take_length] at hiff
            refine ⟨D, _, rfl, sqL e1, q _ _ s1 ?_⟩
            rw [List.all_eq_true]
            constructor
            · intro h
              exact ⟨ds, rfl, c1, c2, hiff.mp h⟩
            · rintro ⟨es, e, _, _, h⟩
              injection e with e
              subst e
              exact hiff.mpr h
        · rw [decide_eq_false (by omega)]
          exact iteT (q H false (Same.refl _) (ff_iff (bad fun z => c2 z.2)))
      · rw [decide_eq_false (by omega)]
        exact iteF ⟨_, rfl, iteT (q H false (Same.refl _) (ff_iff (bad fun z => c1 z.1)))⟩
    · rw [decide_eq_false ht]
      exact iteT (q H false (Same.refl _) (ff_iff (fun ⟨ds, e, _⟩ => by rw [e] at ht; exact ht rfl)))
end
end TR
namespace TR
open PySem PySem.Spec PyProof.Rows L2
theorem scLine : FnScope ["_law_deck_here", "_law_dishes", "_law_high", "_law_steep", "_law_found", "_law_dish", "_law_height", "_law_slope"] ["_law_deck_here", "_law_dishes"] (defScope sLine) := ⟨rfl, rfl, rfl, by decide +kernel, rfl, by decide +kernel, by decide +kernel⟩
section
variable {P : Program} {w : World} {K : PySem.W.Frag} {mg : Str → Option Value} {base : Heap}
def spLine : Sp := fun vs H Q _ => ∃ (d p q : Addr) (c : Nat), vs = [.ref d, .int 8] ∧ Deck H d p q c ∧ c ≤ 900000 ∧ ∀ H' a ls, Ln H' a ls → WfL ls → Deck H' d p q (c + 40) → Keep d p H H' → Q (.ref a) H'
def Bd (p : Int × Int) : Prop := -1000000000000 ≤ p.1 ∧ p.1 ≤ 1000000000000 ∧ -1000000000000 ≤ p.2 ∧ p.2 ≤ 1000000000000
theorem Lds.last {H : Hp} : ∀ {vs : List V} {ps : List (Int × Int)}, Lds H vs ps → vs ≠ [] → ∃ ws q a b, vs = ws ++ [.ref q] ∧ TF H q [.int a, .int b] ∧ (a, b) ∈ ps
  | _, _, .nil, h => absurd rfl h
  | _, _, .cons (vs := []) (ps := ps) e r, _ => ⟨[], _, _, _, rfl, e, List.mem_cons_self⟩
  | _, _, .cons (vs := v :: vs) e r, _ => by
    obtain ⟨ws, q, a, b, e1, t, m⟩ := Lds.last r (by simp)
    exact ⟨_ :: ws, q, a, b, by rw [e1]; rfl, t, List.mem_cons_of_mem _ m⟩
/-- in the middle of a turn -/
def Mid (H : Hp) (d p q g : Addr) (hi st : Int) (cc : Nat) (vs : List V) (ls : List (Int × Int)) (σ : L2.St) (H' : Hp) : Prop :=
  (∃ y5 h s, σ = [some (.ref d), some (.int 8), some (.int hi), some (.int st), some (.ref g), y5, some (.int h), some (.int s)] ∧ Bd (h, s)) ∧ H' g = some (.lst vs) ∧ Lds H' vs ls ∧ Deck H' d p q cc ∧ Keep d p H H'
theorem ok_Line {f f__law_one f__law_next : Addr} {fd d__law_one d__law_next : FuncData} {m : Nat} (F : Fun K "_law_line" "_law_line" sLine f fd)
    (k__law_one : PySem.W.keepIn K (.ref f__law_one) = true) (b__law_one : Binds K d__law_one ["_law_deck_here", "_law_some"] []) (g__law_one : mg "_law_one" = some (.ref f__law_one)) (G__law_one : FnOk P w K mg base CX0 m f__law_one d__law_one ["_law_deck_here", "_law_some"] spOne)
    (k__law_next : PySem.W.keepIn K (.ref f__law_next) = true) (b__law_next : Binds K d__law_next ["_law_deck_here", "_law_many"] []) (g__law_next : mg "_law_next" = some (.ref f__law_next)) (G__law_next : FnOk P w K mg base CX0 m f__law_next d__law_next ["_law_deck_here", "_law_many"] spNext)
    (m_range : mg "range" = none) (m_tuple : mg "tuple" = none) : FnOk P w K mg base CX0 (m + 1) f fd ["_law_deck_here", "_law_dishes"] spLine := by
  refine F.ok scLine (fun vs H Q E h => ?_) (fun cdv A outer s H vs Q E hr h => ?_)
  · obtain ⟨d, p, q, c, rfl, _⟩ := h
    rfl
  · obtain ⟨d, p, q, c, rfl, D0, hc, qq⟩ := h
    refine ⟨_, 
      (pss_cons (ps_asg (pe_call G__law_one hr (by rfl) g__law_one k__law_one b__law_one .nil pass0 (pa_cons (pv 0) (pa_cons (pe_lstN (pa_cons (pe_tupN (pa_cons pe_int (pa_cons pe_int pa_nil))) (pa_cons (pe_tupN (pa_cons pe_int (pa_cons pe_int pa_nil))) (pa_cons (pe_tupN (pa_cons (pe_op op_pow pe_int pe_int) (pa_cons pe_int pa_nil))) (pa_cons (pe_tupN (pa_cons (pe_op op_pow pe_int pe_int) (pa_cons pe_int pa_nil))) (pa_cons (pe_tupN (pa_cons (pe_op op_pow pe_int pe_int) (pa_cons (pe_op op_pow pe_int pe_int) pa_nil))) pa_nil)))))) pa_nil))) (pg_tup (by rfl) (pgs_cons (pg_name (i := 2) scLine.nd rfl (.inl rfl)) (pgs_cons (pg_name (i := 3) scLine.nd rfl (.inl rfl)) pgs_nil)))) 
      (pss_cons (ps_set (i := 4) scLine.nd rfl (.inl rfl) (pe_lstN pa_nil)) 
      (pss_cons (ps_for PassesOwn.never rfl (pi_range1 (by rfl) m_range (pa_cons (pe_op op_add pe_int (pe_call G__law_next hr (by rfl) g__law_next k__law_next b__law_next .nil pass0 (pa_cons (pv 0) (pa_cons (pv 1) pa_nil)))) pa_nil)) (pg_name (i := 5) scLine.nd rfl (.inl rfl)) 
        (pss_cons (ps_par (i := 6) (j := 7) (by rfl) scLine.nd rfl rfl (by decide) rfl rfl (pa_cons (pe_op op_sub (pe_call G__law_next hr (by rfl) g__law_next k__law_next b__law_next .nil pass0 (pa_cons (pv 0) (pa_cons (pe_op op_add (pe_op op_mul pe_int (pv 2)) pe_int) pa_nil))) (pv 2)) (pa_cons (pe_op op_sub (pe_call G__law_next hr (by rfl) g__law_next k__law_next b__law_next .nil pass0 (pa_cons (pv 0) (pa_cons (pe_op op_add (pe_op op_mul pe_int (pv 3)) pe_int) pa_nil))) (pv 3)) pa_nil)) (by rfl)) 
        (pss_cons (ps_if (PW.pt (pw_and (pt_cmpR (op_neL0 hr.units0) (pv 4) (pe_lstN pa_nil) (nomark _)) (pw_and1 (pt_cmpR op_eq (pe_call G__law_next hr (by rfl) g__law_next k__law_next b__law_next .nil pass0 (pa_cons (pv 0) (pa_cons pe_int pa_nil))) pe_int (nomark _))))) 
          (pss_one (ps_set (i := 7) scLine.nd rfl (.inl rfl) (pe_ix (r := rIxT K) ix_tup (pe_ix (r := rIxL K) ix_list (pv 4) (pe_un un_neg pe_int) (fun _ _ => rfl)) pe_int (fun _ _ => rfl)))) pss_nil) 
        (pss_cons (ps_if (PW.pt (pw_and (pt_cmpR (op_neL0 hr.units0) (pv 4) (pe_lstN pa_nil) (nomark _)) (pw_and1 (pt_cmpR op_eq (pe_call G__law_next hr (by rfl) g__law_next k__law_next b__law_next .nil pass0 (pa_cons (pv 0) (pa_cons pe_int pa_nil))) pe_int (nomark _))))) 
          (pss_one (ps_set (i := 6) scLine.nd rfl (.inl rfl) (pe_ix (r := rIxT K) ix_tup (pe_ix (r := rIxL K) ix_list (pv 4) (pe_un un_neg pe_int) (fun _ _ => rfl)) pe_int (fun _ _ => rfl)))) pss_nil) 
        (pss_one (ps_expr (pe_bm PySem.F.plainAttrs_list PySem.F.slot_list_append PySem.F.type_list_append mt_append (pv 4) (pa_cons (pe_tupN (pa_cons (pv 6) (pa_cons (pv 7) pa_nil))) pa_nil)))))))) 
      (pss_one (ps_ret (pe_callTy call_tupleF (by rfl) m_tuple (by decide +kernel) (pa_cons (pv 4) pa_nil))))))), ?_⟩
    refine ⟨.ref d, rfl, by show 2 ≤ sizeLine; decide, fun p1 H1 _ s1 t1 => ⟨by show 2 ≤ sizeLine; decide, fun p2 H2 _ s2 t2 => ?_⟩⟩
    refine ⟨10, 6, rfl, rfl, ⟨by decide, by decide, by decide⟩, by show 2 ≤ sizeLine; decide, fun p3 H3 _ s3 t3 => ?_⟩
    refine ⟨10, 12, rfl, rfl, ⟨by decide, by decide, by decide⟩, by show 2 ≤ sizeLine; decide, fun p4 H4 _ s4 t4 => ?_⟩
    refine ⟨10, 12, rfl, rfl, ⟨by decide, by decide, by decide⟩, 10, 12, rfl, rfl, ⟨by decide, by decide, by decide⟩, by show 2 ≤ sizeLine; decide, fun p5 H5 _ s5 t5 => ?_⟩
    refine ⟨by show 5 ≤ sizeLine; decide, fun L H6 hL _ s6 eL => ?_⟩
    have t3 : TF H3 p3 [.int 1000000, .int 10] := t3
    have t4 : TF H4 p4 [.int 1000000000000, .int 1000] := t4
    have t5 : TF H5 p5 [.int 1000000000000, .int 1000000000000] := t5
    have s05 : Same H H5 := s1.trans (s2.trans (s3.trans (s4.trans s5)))
    have D5 := D0.same s05
    have D6 := D5.same s6
    refine ⟨d, p, q, L, c, _, rfl, D6, by omega, .inl ⟨eL, D5.ned hL, D5.nep hL⟩, by simp, by show 5 < 1000000; decide, fun H7 x hx D7 k7 => ?_⟩
    have k07 : Keep d p H H7 := (Same.keep (s05.trans s6)).trans k7
    obtain ⟨t, hi, st, rfl, ht, h1, h2, h3, h4⟩ : ∃ t hi st, x = .ref t ∧ TF H7 t [.int hi, .int st] ∧ (1 : Int) ≤ hi ∧ hi ≤ 1000000000000 ∧ (1 : Int) ≤ st ∧ st ≤ 1000000000000 := by
      simp only [List.mem_cons, List.not_mem_nil, or_false] at hx
      rcases hx with rfl | rfl | rfl | rfl | rfl
      · exact ⟨p1, 6, 3, rfl, (t1.same (s2.trans (s3.trans (s4.trans (s5.trans s6))))).keep D6 k7, by decide, by decide, by decide, by decide⟩
      · exact ⟨p2, 40, 9, rfl, (t2.same (s3.trans (s4.trans (s5.trans s6)))).keep D6 k7, by decide, by decide, by decide, by decide⟩
      · exact ⟨p3, _, _, rfl, (t3.same (s4.trans (s5.trans s6))).keep D6 k7, by decide, by decide, by decide, by decide⟩
      · exact ⟨p4, _, _, rfl, (t4.same (s5.trans s6)).keep D6 k7, by decide, by decide, by decide, by decide⟩
      · exact ⟨p5, _, _, rfl, (t5.same s6).keep D6 k7, by decide, by decide, by decide, by decide⟩
    refine ⟨t, _, rfl, .inl ht.rd, rfl, .int hi, _, rfl, .int st, _, rfl, rfl, ?_⟩
    refine ⟨by show 0 ≤ sizeLine; decide, fun g H8 hg _ s8 e8 => ?_⟩
    have D8 := D7.same s8
    have ngd : g ≠ d := D7.ned hg
    have ngp : g ≠ p := D7.nep hg
    have ngq : g ≠ q := D7.neq hg
    have hgH : H g = none := keep_freeL k07 D7 hg
    have k08 : Keep d p H H8 := k07.trans (Same.keep s8)
    refine ⟨.ref d, rfl, .int 8, rfl, d, p, q, c + 1, 8, rfl, D8, by omega, by decide, by decide, fun H9 r r0 r1 D9 k9 => ?_⟩
    obtain ⟨j, rfl⟩ := Int.eq_ofNat_of_zero_le r0
    refine ⟨1, (j : Int), rfl, rfl, 1 + j, by show [V.int (1 + (j : Int))] = [V.int ((1 + j : Nat) : Int)]; rw [show ((1 + j : Nat) : Int) = 1 + (j : Int) by omega], by omega, by omega, ?_⟩
    refine for_range (n := 1 + j) (lo := 0) (fun i σ Ha => (∃ y5 y6 y7, σ = [some (.ref d), some (.int 8), some (.int hi), some (.int st), some (.ref g), y5, y6, y7]) ∧ ∃ vs ls, Ha g = some (.lst vs) ∧ Lds Ha vs ls ∧ ls.length = i ∧ (∀ p ∈ ls, Bd p) ∧ Deck Ha d p q (c + 2 + 4 * i) ∧ Keep d p H Ha) ⟨⟨none, none, none, rfl⟩, [], [], k9 _ _ e8 ngd ngp, .nil, rfl, (fun p hp => by cases hp), D9, k08.trans k9⟩ (fun i σ Ha hi' h => ?_) (fun σ Ha h => ?_)
    · obtain ⟨⟨y5, y6, y7, rfl⟩, vs, ls, eg, hV, hll, hbd, Da, ka⟩ := h
      have hvl := hV.len
      refine ⟨.ref d, rfl, .int hi, rfl, 2, hi, rfl, rfl, .inl ⟨by decide, by decide⟩, _, 1, rfl, rfl, d, p, q, c + 2 + 4 * i, 2 * hi + 1, rfl, Da, by omega, by omega, by omega, fun Hb r1 r10 r11 Db kb => ?_⟩
      refine ⟨.int hi, rfl, _, _, rfl, rfl, .ref d, rfl, .int st, rfl, 2, st, rfl, rfl, .inl ⟨by decide, by decide⟩, _, 1, rfl, rfl, d, p, q, c + 2 + 4 * i + 1, 2 * st + 1, rfl, Db, by omega, by omega, by omega, fun Hc r2 r20 r21 Dc kc => ?_⟩
      refine ⟨.int st, rfl, _, _, rfl, rfl, _, _, rfl, ?_⟩
      have egc := kc _ _ (kb _ _ eg ngd ngp) ngd ngp
      have hVc := (hV.keep Da kb).keep Db kc
      have kac := ka.trans (kb.trans kc)
      dsimp only
      refine if_mid (Mid H d p q g hi st (c + 2 + 4 * i + 3) vs ls) (fun R key => ?_) (fun σ' Hd hM => ?_)
      · refine ⟨.ref g, rfl, by show 0 ≤ sizeLine; decide, fun z Hd hz _ sd ez => ⟨g, z, vs, rfl, rfl, sqL (sd _ _ egc), sqL ez, _, rfl, ?_⟩⟩
        have Dd := Dc.same sd
        have egd := sd _ _ egc
        have hVd := hVc.same sd
        have kad := kac.trans (Same.keep sd)
        have bd0 : Bd (r1 - hi, r2 - st) := ⟨by show _ ≤ r1 - hi; omega, by show r1 - hi ≤ _; omega, by show _ ≤ r2 - st; omega, by show r2 - st ≤ _; omega⟩
        by_cases hvs : vs = []
        · subst hvs
          exact iteF (iteF (key _ _ ⟨⟨_, _, _, rfl, bd0⟩, egd, hVd, Dd.mono (by omega), kad⟩))
        · rw [show vs.isEmpty = false by cases vs with | nil => exact absurd rfl hvs | cons _ _ => rfl]
          refine iteT ⟨.ref d, rfl, d, p, q, c + 2 + 4 * i + 2, 6, rfl, Dd, by omega, by decide, by decide, fun He r3 r30 r31 De ke => ⟨rfl, _, rfl, ite2 (fun _ => ?_) (fun _ => ?_)⟩⟩
          · have ege := ke _ _ egd ngd ngp
            have hVe := hVd.keep Dd ke
            obtain ⟨ws, q0, u, v, ews, tq, mq⟩ := hVe.last hvs
            have bq := hbd _ mq
            refine ⟨.ref g, rfl, 1, rfl, g, _, -1, _, rfl, rfl, sqL (by rw [ews] at ege; exact ege), atI_last _ _, q0, _, 1, .int v, rfl, rfl, .inl tq.rd, atI_nat (j := 1) rfl, ?_⟩
            exact key _ _ ⟨⟨_, _, _, rfl, ⟨bd0.1, bd0.2.1, bq.2.2.1, bq.2.2.2⟩⟩, ege, hVe, De, kad.trans ke⟩
          · exact key _ _ ⟨⟨_, _, _, rfl, bd0⟩, ke _ _ egd ngd ngp, hVd.keep Dd ke, De, kad.trans ke⟩
      · obtain ⟨⟨z5, h, s, rfl, bh⟩, egd, hVd, Dd, kad⟩ := hM
        refine if_mid (Mid H d p q g hi st (c + 2 + 4 * i + 4) vs ls) (fun R key => ?_) (fun σ'' He hM => ?_)
        · refine ⟨.ref g, rfl, by show 0 ≤ sizeLine; decide, fun z He hz _ se ez => ⟨g, z, vs, rfl, rfl, sqL (se _ _ egd), sqL ez, _, rfl, ?_⟩⟩
          have De := Dd.same se
          have ege := se _ _ egd
          have hVe := hVd.same se
          have kae := kad.trans (Same.keep se)
          by_cases hvs : vs = []
          · subst hvs
            exact iteF (iteF (key _ _ ⟨⟨_, _, _, rfl, bh⟩, ege, hVe, De.mono (by omega), kae⟩))
          · rw [show vs.isEmpty = false by cases vs with | nil => exact absurd rfl hvs | cons _ _ => rfl]
            refine iteT ⟨.ref d, rfl, d, p, q, c + 2 + 4 * i + 3, 8, rfl, De, by omega, by decide, by decide, fun Hf r3 r30 r31 Df kf => ⟨rfl, _, rfl, ite2 (fun _ => ?_) (fun _ => ?_)⟩⟩
            · have egf := kf _ _ ege ngd ngp
              have hVf := hVe.keep De kf
              obtain ⟨ws, q0, u, v, ews, tq, mq⟩ := hVf.last hvs
              have bq := hbd _ mq
              refine ⟨.ref g, rfl, 1, rfl, g, _, -1, _, rfl, rfl, sqL (by rw [ews] at egf; exact egf), atI_last _ _, q0, _, 0, .int u, rfl, rfl, .inl tq.rd, atI_nat (j := 0) rfl, ?_⟩
              exact key _ _ ⟨⟨_, _, _, rfl, ⟨bq.1, bq.2.1, bh.2.2.1, bh.2.2.2⟩⟩, egf, hVf, Df, kae.trans kf⟩
            · exact key _ _ ⟨⟨_, _, _, rfl, bh⟩, kf _ _ ege ngd ngp, hVe.keep De kf, Df, kae.trans kf⟩
        · obtain ⟨⟨w5, h', s', rfl, bh'⟩, ege, hVe, De, kae⟩ := hM
          refine ⟨.ref g, rfl, .inl ⟨rfl, _, sqL ege⟩, _, rfl, _, rfl, by show 2 ≤ sizeLine; decide, fun pp Hf hpp sf tf => ?_⟩
          have egf := sf _ _ ege
          refine ⟨g, _, _, rfl, rfl, egf, small1000 (by omega), ?_⟩
          refine ⟨⟨_, _, _, rfl⟩, _, ls ++ [(h', s')], upd_same, ((hVe.same sf).updl egf).snoc (tf.updl egf), by rw [List.length_append, hll]; rfl, fun y hy => ?_, ((De.same sf).upd ngd ngp ngq).mono (by omega), keep_fresh (kae.trans (Same.keep sf)) hgH⟩
          rcases List.mem_append.mp hy with hy | hy
          · exact hbd y hy
          · rw [List.mem_singleton.mp hy]
            exact bh'
    · obtain ⟨⟨y5, y6, y7, rfl⟩, vs, ls, eg, hV, hll, hbd, Da, ka⟩ := h
      refine ⟨.ref g, rfl, g, _, rfl, sqL eg, fun b o hb ho => ?_⟩
      have sb : Same Ha (upd Ha b (.frz o (.tup vs))) := same_upd hb
      exact qq _ b ls ⟨vs, TF.new ho, hV.same sb⟩ ⟨by omega, by omega, hbd⟩ ((Da.same sb).mono (by omega)) (ka.trans (Same.keep sb))
end
end TR
namespace TR
open PySem PySem.Spec PyProof.Rows L2
theorem scMeeting : FnScope ["_law_deck_here", "_law_line_here", "_law_one_here", "_law_other", "_law_place"] ["_law_deck_here", "_law_line_here"] (defScope sMeeting) := ⟨rfl, rfl, rfl, by decide +kernel, rfl, by decide +kernel, by decide +kernel⟩
section
variable {P : Program} {w : World} {K : PySem.W.Frag} {mg : Str → Option Value} {base : Heap}
def spMeeting : Sp := fun vs H Q _ => ∃ (d p q a : Addr) (c : Nat) (ls : List (Int × Int)), vs = [.ref d, .ref a] ∧ Deck H d p q c ∧ c ≤ 900000 ∧ Ln H a ls ∧ WfL ls ∧ ∀ H' i, 0 ≤ i → i ≤ 1000000000000 → Deck H' d p q (c + 4) → Keep d p H H' → Q (.int i) H'
theorem ok_Meeting {f f__law_one f__law_next : Addr} {fd d__law_one d__law_next : FuncData} {m : Nat} (F : Fun K "_law_meeting" "_law_meeting" sMeeting f fd)
    (k__law_one : PySem.W.keepIn K (.ref f__law_one) = true) (b__law_one : Binds K d__law_one ["_law_deck_here", "_law_some"] []) (g__law_one : mg "_law_one" = some (.ref f__law_one)) (G__law_one : FnOk P w K mg base CX0 m f__law_one d__law_one ["_law_deck_here", "_law_some"] spOne)
    (k__law_next : PySem.W.keepIn K (.ref f__law_next) = true) (b__law_next : Binds K d__law_next ["_law_deck_here", "_law_many"] []) (g__law_next : mg "_law_next" = some (.ref f__law_next)) (G__law_next : FnOk P w K mg base CX0 m f__law_next d__law_next ["_law_deck_here", "_law_many"] spNext)
    (m_max : mg "max" = none) (m_min : mg "min" = none) : FnOk P w K mg base CX0 (m + 1) f fd ["_law_deck_here", "_law_line_here"] spMeeting := by
  refine F.ok scMeeting (fun vs H Q E h => ?_) (fun cdv A outer s H vs Q E hr h => ?_)
  · obtain ⟨d, p, q, a, c, ls, rfl, _⟩ := h
    rfl
  · obtain ⟨d, p, q, a, c, ls, rfl, D0, hc, ln, wf, qq⟩ := h
    refine ⟨_, 
      (pss_cons (ps_par (i := 2) (j := 3) (by rfl) scMeeting.nd rfl rfl (by decide) rfl rfl (pa_cons (pe_call G__law_one hr (by rfl) g__law_one k__law_one b__law_one .nil pass0 (pa_cons (pv 0) (pa_cons (pv 1) pa_nil))) (pa_cons (pe_call G__law_one hr (by rfl) g__law_one k__law_one b__law_one .nil pass0 (pa_cons (pv 0) (pa_cons (pv 1) pa_nil))) pa_nil)) (by rfl)) 
      (pss_cons (ps_if (PW.pt (pw_or (pt_cmpR op_eq (pe_ix (r := rIxT K) ix_tup (pv 2) pe_int (fun _ _ => rfl)) (pe_ix (r := rIxT K) ix_tup (pv 3) pe_int (fun _ _ => rfl)) (nomark _)) (pw_or1 (pt_cmpR op_eq (pe_call G__law_next hr (by rfl) g__law_next k__law_next b__law_next .nil pass0 (pa_cons (pv 0) (pa_cons pe_int pa_nil))) pe_int (nomark _))))) 
        (pss_one (ps_ret (pe_call G__law_next hr (by rfl) g__law_next k__law_next b__law_next .nil pass0 (pa_cons (pv 0) (pa_cons (pe_op op_add (pe_op op_pow pe_int pe_int) pe_int) pa_nil))))) pss_nil) 
      (pss_cons (ps_set (i := 4) scMeeting.nd rfl (.inl rfl) (pe_op op_fdivZ (pe_op op_sub (pe_ix (r := rIxT K) ix_tup (pv 3) pe_int (fun _ _ => rfl)) (pe_ix (r := rIxT K) ix_tup (pv 2) pe_int (fun _ _ => rfl))) (pe_op op_sub (pe_ix (r := rIxT K) ix_tup (pv 2) pe_int (fun _ _ => rfl)) (pe_ix (r := rIxT K) ix_tup (pv 3) pe_int (fun _ _ => rfl))))) 
      (pss_one (ps_ret (pe_callB (call_max2 (by rfl)) (by rfl) m_max (by decide +kernel) (pa_cons pe_int (pa_cons (pe_callB (call_min2 (by rfl)) (by rfl) m_min (by decide +kernel) (pa_cons (pe_op op_pow pe_int pe_int) (pa_cons (pe_op op_sub (pe_op op_add (pv 4) (pe_call G__law_next hr (by rfl) g__law_next k__law_next b__law_next .nil pass0 (pa_cons (pv 0) (pa_cons pe_int pa_nil)))) pe_int) pa_nil))) pa_nil)))))))), ?_⟩
    obtain ⟨xs, h1, h2⟩ := id ln
    have hxl := h2.len
    have hne : xs ≠ [] := fun z => by rw [z] at hxl; have := wf.l1; simp at hxl; omega
    have hbig : xs.length < 1000000 := by have := wf.l8; omega
    refine ⟨.ref d, rfl, .ref a, rfl, d, p, q, a, c, xs, rfl, D0, by omega, .inr h1, hne, hbig, fun H1 x hx D1 k1 => ?_⟩
    refine ⟨.ref d, rfl, .ref a, rfl, d, p, q, a, c + 1, xs, rfl, D1, by omega, .inr (h1.keep D0 k1), hne, hbig, fun H2 y hy D2 k2 => ?_⟩
    refine ⟨_, _, rfl, ?_⟩
    obtain ⟨qx, ax, bx, rfl, mx, tx⟩ := ((h2.keep D0 k1).keep D1 k2).mem hx
    obtain ⟨qy, ay, bY, rfl, my, ty⟩ := ((h2.keep D0 k1).keep D1 k2).mem hy
    have bx' := wf.bd _ mx
    have by' := wf.bd _ my
    dsimp only at bx' by'
    refine ⟨.ref qx, rfl, qx, _, 1, .int bx, rfl, rfl, .inl tx.rd, atI_nat (j := 1) rfl, .ref qy, rfl, qy, _, 1, .int bY, rfl, rfl, .inl ty.rd, atI_nat (j := 1) rfl, rfl, _, rfl, ?_⟩
    have early : ∀ H3 cc, Deck H3 d p q cc → cc ≤ c + 3 → Keep d p H H3 → ∃ j k : Int, V.int 10 = .int j ∧ True := fun _ _ _ _ _ => ⟨10, 0, rfl, trivial⟩
    by_cases e : bx = bY
    · rw [decide_eq_true (by rw [e])]
      refine iteT (iteT ?_)
      refine ⟨.ref d, rfl, 10, 12, rfl, rfl, ⟨by decide, by decide, by decide⟩, _, 1, rfl, rfl, d, p, q, c + 2, 1000000000001, rfl, D2, by omega, by decide, by decide, fun H3 r r0 r1 D3 k3 => ?_⟩
      exact qq H3 r r0 (by omega) (D3.mono (by omega)) (k1.trans (k2.trans k3))
    · rw [decide_eq_false (fun z => e (V.int.inj z))]
      refine iteF ⟨.ref d, rfl, d, p, q, c + 2, 4, rfl, D2, by omega, by decide, by decide, fun H3 r r0 r1 D3 k3 => ⟨rfl, _, rfl, ite2 (fun _ => ?_) (fun _ => ?_)⟩⟩
      · refine ⟨.ref d, rfl, 10, 12, rfl, rfl, ⟨by decide, by decide, by decide⟩, _, 1, rfl, rfl, d, p, q, c + 3, 1000000000001, rfl, D3, by omega, by decide, by decide, fun H4 r' r0' r1' D4 k4 => ?_⟩
        exact qq H4 r' r0' (by omega) D4 (k1.trans (k2.trans (k3.trans k4)))
      · have tx3 := tx.keep D2 k3
        have ty3 := ty.keep D2 k3
        refine ⟨.ref qy, rfl, qy, _, 0, .int ay, rfl, rfl, .inl ty3.rd, atI_nat (j := 0) rfl, .ref qx, rfl, qx, _, 0, .int ax, rfl, rfl, .inl tx3.rd, atI_nat (j := 0) rfl, _, _, rfl, rfl, .ref qx, rfl, qx, _, 1, .int bx, rfl, rfl, .inl tx3.rd, atI_nat (j := 1) rfl, .ref qy, rfl, qy, _, 1, .int bY, rfl, rfl, .inl ty3.rd, atI_nat (j := 1) rfl, _, _, rfl, rfl, _, _, rfl, rfl, ⟨by omega, by show (bx - bY).natAbs < 1152921504606846976; omega⟩, ?_⟩
        refine ⟨10, 12, rfl, rfl, ⟨by decide, by decide, by decide⟩, _, rfl, .ref d, rfl, d, p, q, c + 3, 3, rfl, D3, by omega, by decide, by decide, fun H4 r' r0' r1' D4 k4 => ?_⟩
        refine ⟨_, _, rfl, rfl, _, 1, rfl, rfl, _, _, rfl, _, _, rfl, ?_⟩
        refine qq H4 _ ?_ ?_ D4 (k1.trans (k2.trans (k3.trans k4)))
        · split <;> omega
        · have e12 : (10 : Int) ^ (12 : Int).toNat = 1000000000000 := rfl
          split
          · rename_i hh
            split
            · omega
            · omega
          · omega
end
end TR
namespace TR
open PySem PySem.Spec PyProof.Rows L2
theorem scLIsLine : FnScope ["_law_value", "_law_dish", "_law_number"] ["_law_value"] (defScope sLIsLine) := ⟨rfl, rfl, rfl, by decide +kernel, rfl, by decide +kernel, by decide +kernel⟩
section
variable {P : Program} {w : World} {K : PySem.W.Frag} {mg : Str → Option Value} {base : Heap}
theorem ok_LIsLine {f f__law_whole : Addr} {fd d__law_whole : FuncData} {m : Nat} (F : Fun K "_law_is_line" "_law_is_line" sLIsLine f fd)
    (k__law_whole : PySem.W.keepIn K (.ref f__law_whole) = true) (b__law_whole : Binds K d__law_whole ["_law_thing"] []) (g__law_whole : mg "_law_whole" = some (.ref f__law_whole)) (G__law_whole : FnOk P w K mg base CX0 m f__law_whole d__law_whole ["_law_thing"] spWhole)
    (m_len : mg "len" = none) (m_isinstance : mg "isinstance" = none) (m_tuple : mg "tuple" = none) : FnOk P w K mg base CX0 (m + 1) f fd ["_law_value"] spIsLine := by
  refine F.ok scLIsLine (fun vs H Q E h => ?_) (fun cdv A outer s H vs Q E hr h => ?_)
  · obtain ⟨x, d, ban, rfl, _⟩ := h
    rfl
  · obtain ⟨x, d, ban, rfl, hp, hlen, q⟩ := h
    refine ⟨_, 
      (pss_cons (ps_if (PW.pt (pw_or (pt_not (pt_val (pe_callB call_isi (by rfl) m_isinstance (by decide +kernel) (pa_cons (pv 0) (pa_cons (pe_bltn (v := .ty "tuple") (by rfl) m_tuple (by decide +kernel) rfl) pa_nil))))) (pw_or1 (pt_not (pt_chain op_le op_le pe_int (pe_callB call_len_seq (by rfl) m_len PySem.boot_len (pa_cons (pv 0) pa_nil)) pe_int))))) 
        (pss_one (ps_ret pe_bl)) pss_nil) 
      (pss_cons (ps_for PassesOwn.never rfl (pi_tup (pv 0)) (pg_name (i := 1) scLIsLine.nd rfl (.inl rfl)) 
        (pss_cons (ps_if (PW.pt (pw_or (pt_not (pt_val (pe_callB call_isi (by rfl) m_isinstance (by decide +kernel) (pa_cons (pv 1) (pa_cons (pe_bltn (v := .ty "tuple") (by rfl) m_tuple (by decide +kernel) rfl) pa_nil))))) (pw_or1 (pt_cmpR op_ne (pe_callB call_len_seq (by rfl) m_len PySem.boot_len (pa_cons (pv 1) pa_nil)) pe_int (nomark _))))) 
          (pss_one (ps_ret pe_bl)) pss_nil) 
        (pss_one (ps_if (pt_cmpR (op_neL0 hr.units0) (pe_lc (own := [("_law_number", 2)]) (g := gName 2)  (by rfl) scLIsLine.nd (pi_tup (pv 1)) (blkOk_by (own := [("_law_number", 2)]) (N := ["_law_value", "_law_dish", "_law_number"]) (sc := defScope sLIsLine) (by decide +kernel)) (fun _ _ _ _ _ => (pg_name (i := 2) scLIsLine.nd rfl (Or.inl rfl))) (fun _ _ _ _ _ => (pts_one (PW.pt (pw_or (pt_not (pt_val (pe_call G__law_whole hr (by rfl) g__law_whole k__law_whole b__law_whole .nil pass0 (pa_cons (pv 2) pa_nil)))) (pw_or1 (pt_not (pt_chain op_le op_le (pe_op op_sub pe_int (pe_op op_pow pe_int pe_int)) (pv 2) (pe_op op_pow pe_int pe_int)))))))) (fun _ _ _ _ _ => (pv 2))) (pe_lst pa_nil) (nomark _)) 
          (pss_one (ps_ret pe_bl)) pss_nil)))) 
      (pss_one (ps_ret pe_bl)))), ?_⟩
    obtain ⟨k1, k2, k3⟩ := kitD (K := K) d
    refine ⟨x, rfl, x, .ty "tuple", _, _, _, rfl, .ty _, tyRp hp, k1, _, rfl, ?_⟩
    by_cases ht : tyD d = "tuple"
    · rw [decide_eq_true ht]
      refine iteF ?_
      obtain ⟨ds, rfl⟩ := ty_tuple ht
      obtain ⟨a, xs, rfl, ha, hx⟩ := hp
      have hxl := hx.len
      have bad : ¬ (1 ≤ ds.length ∧ ds.length ≤ 8) → ¬ IsLineD (.tuple ds) := by
        rintro h ⟨es, e, h1, h2, _⟩
        injection e with e
        subst e
        exact h ⟨h1, h2⟩
      have badE : ∀ e ∈ ds, ¬ IsLdD e → ¬ IsLineD (.tuple ds) := by
        rintro e he h ⟨es, e', _, _, h3⟩
        injection e' with e'
        subst e'
        exact h (h3 e he)
      refine ⟨.ref a, rfl, a, xs, rfl, .inr (.inl ha.rd), 1, _, rfl, rfl, _, rfl, ?_⟩
      show if decide ((1 : Int) ≤ (xs.length : Int)) = true then _ else _
      by_cases c1 : 1 ≤ ds.length
      · rw [decide_eq_true (by omega)]
        refine iteT ⟨_, _, rfl, rfl, _, rfl, ?_⟩
        show if (!decide ((xs.length : Int) ≤ 8)) = true then _ else _
        by_cases c2 : ds.length ≤ 8
        · rw [decide_eq_true (by omega)]
          refine iteF ?_
          refine ⟨.ref a, rfl, a, rfl, ⟨_, .inl ha.rd⟩, for_tup (K := K) (a := a) (xs := xs) (fun i σ H1 => (∃ y1 y2, σ = [some (.ref a), y1, y2]) ∧ Same H H1 ∧ ∀ e ∈ ds.take i, IsLdD e) ⟨⟨none, none, rfl⟩, Same.refl _, fun e he => by simp at he⟩ (fun i σ H1 _ h => .inl (rd_same h.2.1 ha.rd)) (fun i y σ H1 hy h => ?_) (fun σ H1 h => ?_)⟩
          · obtain ⟨⟨y1, y2, rfl⟩, s1, hall⟩ := h
            obtain ⟨e, he, hre0⟩ := hx.get hy
            have hre := hre0.same s1
            have hem := List.mem_of_getElem? he
            obtain ⟨j1, j2, j3⟩ := kitD (K := K) e
            refine ⟨y, rfl, y, .ty "tuple", _, _, _, rfl, .ty _, tyRp hre, j1, _, rfl, ?_⟩
            by_cases hte : tyD e = "tuple"
            · rw [decide_eq_true hte]
              refine iteF ?_
              obtain ⟨es, rfl⟩ := ty_tuple hte
              obtain ⟨b, ys, rfl, hb, hys⟩ := hre
              have hyl := hys.len
              refine ⟨.ref b, rfl, b, ys, rfl, .inr (.inl hb.rd), rfl, _, rfl, ?_⟩
              by_cases hl : es.length = 2
              · refine iteNS (by rw [hyl, hl]; rfl) ?_
                refine ⟨.ref b, rfl, b, rfl, ⟨_, .inl hb.rd⟩, fun D hD => lc_tup (K := K) (a := b) (xs := ys) (fun i H2 => Same H1 H2 ∧ ∃ zs : List V, H2 D = some (.lst zs) ∧ zs.length = ((es.take i).filter fun e => !okWb e).length) ⟨same_upd hD, [], upd_same, rfl⟩ (fun i H2 _ h => .inl (rd_same h.1 hb.rd)) (fun k z H2 hz h => ?_) (fun H2 h => ?_)⟩
                · obtain ⟨s2, zs, e1, l1⟩ := h
                  obtain ⟨e, he', hre2⟩ := hys.get hz
                  have ft := filter_take (fun e => !okWb e) he'
                  have hzl : zs.length ≤ 100 := by
                    have := List.length_filter_le (fun e => !okWb e) (es.take k)
                    rw [List.length_take] at this
                    omega
                  have yes : okWb e = false → ∃ acc, H2 D = some (.lst acc) ∧ acc.length < sizeLine ∧ Same H1 (upd H2 D (.lst (acc ++ [z]))) ∧ ∃ zs' : List V, upd H2 D (.lst (acc ++ [z])) D = some (.lst zs') ∧ zs'.length = ((es.take (k + 1)).filter fun e => !okWb e).length := fun ho => by
                    refine ⟨zs, e1, small1000 (by omega), same_upd2 s2 hD, zs ++ [z], upd_same, ?_⟩
                    rw [ft]
                    simp only [ho, Bool.not_false, if_true]
                    rw [List.length_append, List.length_append, l1]
                    rfl
                  have no : okWb e = true → Same H1 H2 ∧ ∃ zs : List V, H2 D = some (.lst zs) ∧ zs.length = ((es.take (k + 1)).filter fun e => !okWb e).length := fun ho => by
                    refine ⟨s2, zs, e1, ?_⟩
                    rw [ft]
                    simp only [ho, Bool.not_true, Bool.false_eq_true, if_false, List.append_nil]
                    exact l1
                  refine ⟨rfl, z, rfl, z, e, ban, rfl, hre2.same s2, _, rfl, ?_⟩
                  cases ew : whole e with
                  | false => exact iteT (iteT ⟨z, rfl, yes (okWb_whole ew)⟩)
                  | true =>
                    obtain ⟨ii, rfl⟩ := whole_int ew
                    obtain rfl : z = .int ii := hre2
                    refine iteF ⟨10, 12, rfl, rfl, ⟨by decide, by decide, by decide⟩, 0, _, rfl, rfl, _, rfl, _, _, rfl, rfl, _, rfl, ?_⟩
                    show if decide ((-1000000000000 : Int) ≤ ii) = true then _ else _
                    by_cases c1 : (-1000000000000 : Int) ≤ ii
                    · rw [decide_eq_true c1]
                      refine iteT ⟨10, 12, rfl, rfl, ⟨by decide, by decide, by decide⟩, _, _, rfl, rfl, _, rfl, ?_⟩
                      show if (!decide (ii ≤ (1000000000000 : Int))) = true then _ else _
                      by_cases c2 : ii ≤ (1000000000000 : Int)
                      · rw [decide_eq_true c2]
                        exact iteF (no (decide_eq_true ⟨c1, c2⟩))
                      · rw [decide_eq_false c2]
                        exact iteT ⟨_, rfl, yes (decide_eq_false fun z => c2 z.2)⟩
                    · rw [decide_eq_false c1]
                      exact iteF ⟨_, rfl, iteT ⟨_, rfl, yes (decide_eq_false fun z => c1 z.1)⟩⟩
                · obtain ⟨s2, zs, e1, l1⟩ := h
                  rw [List.take_of_length_le (by rw [hyl]; exact Nat.le_refl _)] at l1
                  refine ⟨Nat.zero_le _, fun z hz => ⟨D, z, zs, rfl, rfl, sqL ((same_upd hz) _ _ e1), sqL upd_same, _, rfl, ?_⟩⟩
                  have s3 : Same H (upd H2 z (.lst [])) := s1.trans (s2.trans (same_upd hz))
                  obtain ⟨d1, d2, rfl⟩ := two_of hl
                  cases zs with
                  | cons z0 zr =>
                    refine iteT (q _ false s3 (ff_iff (badE _ hem fun h => ?_)))
                    obtain ⟨e1, e2, ee, h1, h2⟩ := h
                    injection ee with ee
                    injection ee with e3 e4
                    injection e4 with e4 _
                    subst e3 e4
                    simp [okWb_iff.mpr h1, okWb_iff.mpr h2] at l1
                  | nil =>
                    refine iteF ⟨⟨_, _, rfl⟩, s3, fun e' he' => ?_⟩
                    rw [List.take_add_one, he] at he'
                    rcases List.mem_append.mp he' with h' | h'
                    · exact hall e' h'
                    · obtain rfl : e' = .tuple [d1, d2] := by simpa using h'
                      have z := List.filter_eq_nil_iff.mp (List.length_eq_zero_iff.mp l1.symm)
                      have z1 := z d1 List.mem_cons_self
                      have z2 := z d2 (List.mem_cons_of_mem _ List.mem_cons_self)
                      exact ⟨d1, d2, rfl, okWb_iff.mp (by simpa using z1), okWb_iff.mp (by simpa using z2)⟩
              · refine iteND (int_ne (by omega)) (q _ false s1 (ff_iff (badE _ hem ?_)))
                rintro ⟨e1, e2, ee, _⟩
                injection ee with ee
                rw [ee] at hl
                exact hl rfl
            · rw [decide_eq_false hte]
              exact iteT (q _ false s1 (ff_iff (badE _ hem fun ⟨e1, e2, ee, _⟩ => by rw [ee] at hte; exact hte rfl)))
          · obtain ⟨⟨y1, y2, rfl⟩, s1, hall⟩ := h
            rw [hxl, List.take_length] at hall
            exact q _ true s1 ⟨fun _ => ⟨ds, rfl, c1, c2, hall⟩, fun _ => rfl⟩
        · rw [decide_eq_false (by omega)]
          exact iteT (q H false (Same.refl _) (ff_iff (bad fun z => c2 z.2)))
      · rw [decide_eq_false (by omega)]
        exact iteF ⟨_, rfl, iteT (q H false (Same.refl _) (ff_iff (bad fun z => c1 z.1)))⟩
    · rw [decide_eq_false ht]
      exact iteT (q H false (Same.refl _) (ff_iff (fun ⟨ds, e, _⟩ => by rw [e] at ht; exact ht rfl)))
end
end TR
namespace TR
open PySem PySem.Spec PyProof.Rows L2
theorem scAnswer58 : FnScope ["_law_line_here", "_law_t", "_law_found", "_law_error"] ["_law_line_here", "_law_t"] (defScope sAnswer58) := ⟨rfl, rfl, rfl, by decide +kernel, rfl, by decide +kernel, by decide +kernel⟩
section
variable {P : Program} {w : World} {K : PySem.W.Frag} {mg : Str → Option Value} {base : Heap}
def spAns58 : Sp := fun vs H Q _ => ∃ (a : Addr) (x : V) (ls : List (Int × Int)) (d : PyData) (ban : List Addr), vs = [.ref a, x] ∧ Ln H a ls ∧ WfL ls ∧ Rp H ban d x ∧
  (∀ i, d = .int i → 0 ≤ i → i ≤ 1000000000000 → ∀ H' l b rk, Same H H' → H' l = some (.lst [.str "returned", .ref b]) → Tp H' b rk → IsLR ls i rk → Q (.ref l) H') ∧
  (¬ IsPl d → ∀ H' l, Same H H' → H l = none → l ≠ sysModules → H' l = some (.lst [.str "NoTaster", x]) → Q (.ref l) H')
theorem ok_Answer58 {c_NoTaster : Addr} {c_TasteError : Addr} {f f_line_ranking f__law_raised : Addr} {fd d_line_ranking d__law_raised : FuncData} {m : Nat} (F : Fun K "_law_answer" "_law_answer" sAnswer58 f fd)
    (k_line_ranking : PySem.W.keepIn K (.ref f_line_ranking) = true) (b_line_ranking : Binds K d_line_ranking ["line", "t"] []) (g_line_ranking : mg "line_ranking" = some (.ref f_line_ranking)) (G_line_ranking : FnOk P w K mg base (L2.CX P w) m f_line_ranking d_line_ranking ["line", "t"] (spLineRk c_NoTaster))
    (k__law_raised : PySem.W.keepIn K (.ref f__law_raised) = true) (b__law_raised : Binds K d__law_raised ["_law_error"] []) (g__law_raised : mg "_law_raised" = some (.ref f__law_raised)) (G__law_raised : FnE P w K mg base m f__law_raised d__law_raised ["_law_error"] (spRs1 c_NoTaster "NoTaster" "taster"))
    (gB : mg "TasteError" = some (.ref c_TasteError)) (te : PySem.W.exmOne K (.ref c_NoTaster) (.ref c_TasteError) = some true) : FnOk P w K mg base CX0 (m + 1) f fd ["_law_line_here", "_law_t"] spAns58 := by
  refine F.ok scAnswer58 (fun vs H Q E h => ?_) (fun cdv A outer s H vs Q E hr h => ?_)
  · obtain ⟨a, x, ls, d, ban, rfl, _⟩ := h
    rfl
  · obtain ⟨a, x, ls, d, ban, rfl, ln, wf, hp, q1, q2⟩ := h
    refine ⟨_, 
      (pss_cons (ps_set (i := 2) scAnswer58.nd rfl (.inl rfl) pe_non) 
      (pss_cons (ps_try_as (i := 3) (Wout := fun _ _ _ _ => False) rfl rfl scAnswer58.nd rfl rfl ⟨rfl, by decide, Or.inl gB⟩ takes0 (fun W pn xe tk _ => 
          (pss_one (ps_set (i := 2) scAnswer58.nd rfl (.inl rfl) (pe_lstN (pa_cons pe_str (pa_cons (pe_callS (E := WE W) G_line_ranking hr rfl g_line_ranking k_line_ranking b_line_ranking (fun σ => passAt tk σ) (by exact (pa_cons (pv 0) (pa_cons (pv 1) pa_nil)))) pa_nil)))))) (fun a oe cls d pn hz hf => 
          (pss_one (ps_set (i := 2) scAnswer58.nd rfl (.inl rfl) (pe_callE (a := a) (oe := oe) G__law_raised (roomH_suite hr) List.mem_cons_self hz hf rfl g__law_raised k__law_raised b__law_raised (by exact (pa_cons (pv 3) pa_nil))))))) 
      (pss_one (ps_ret (pv 2))))), ?_⟩
    refine ⟨.ref a, rfl, x, rfl, a, x, ls, d, ban, rfl, ln, wf, hp, fun i hd h1 h2 H1 b rk s1 tb hL => ⟨by show 2 ≤ sizeLine; decide, fun l H2 hl nl s2 e2 => ⟨.ref l, rfl, q1 i hd h1 h2 H2 l b rk (s1.trans s2) e2 (tb.same s2) hL⟩⟩, fun hno H1 e s1 he => ?_⟩
    refine ⟨true, te, fun _ a0 ha0 => ?_, fun z => Bool.noConfusion z⟩
    exact ⟨.ref a0, rfl, e, x, rfl, rfl, rfl, he, fun H2 l s2 hl nl e2 => ⟨.ref l, rfl, q2 hno H2 l (s1.trans s2) (s1.free hl) nl e2⟩⟩
end
end TR
namespace TR
open PySem PySem.Spec PyProof.Rows L2
theorem scOrdered : FnScope ["_law_line_here", "_law_t", "_law_ranking", "_law_worths", "_law_k", "_law_dish"] ["_law_line_here", "_law_t", "_law_ranking"] (defScope sOrdered) := ⟨rfl, rfl, rfl, by decide +kernel, rfl, by decide +kernel, by decide +kernel⟩
section
variable {P : Program} {w : World} {K : PySem.W.Frag} {mg : Str → Option Value} {base : Heap}
/-- the worth of a dish -/
def wrt (ls : List (Int × Int)) (t d : Int) : Int := -(neg ls t d.toNat)
theorem IsLR.step {ls : List (Int × Int)} {t : Int} {rk : List Int} (h : IsLR ls t rk) {k : Nat} {x y : Int} (hx : rk[k]? = some x) (hy : rk[k + 1]? = some y) : ¬ (wrt ls t y > wrt ls t x ∨ (wrt ls t y = wrt ls t x ∧ y < x)) := by
  obtain ⟨ps, hp, hw, rfl⟩ := h
  rw [List.getElem?_map] at hx hy
  obtain ⟨a, ha, rfl⟩ := Option.map_eq_some_iff.mp hx
  obtain ⟨b, hb, rfl⟩ := Option.map_eq_some_iff.mp hy
  obtain ⟨la, ea⟩ := List.getElem?_eq_some_iff.mp ha
  obtain ⟨lb, eb⟩ := List.getElem?_eq_some_iff.mp hb
  have hle := List.pairwise_iff_getElem.mp hw k (k + 1) la lb (Nat.lt_succ_self k)
  rw [ea, eb] at hle
  have key : ∀ c ∈ ps, wrt ls t c.2 = -c.1 := fun c hc => by
    obtain ⟨j, hj, rfl⟩ := List.mem_map.mp (hp.mem_iff.mp hc)
    unfold wrt
    rw [show ((j : Nat) : Int).toNat = j by omega]
  rw [key a (List.mem_of_getElem? ha), key b (List.mem_of_getElem? hb)]
  unfold pairLe at hle
  omega
def spOrdered : Sp := fun vs H Q _ => ∃ (a b : Addr) (t : Int) (ls : List (Int × Int)) (rk : List Int), vs = [.ref a, .int t, .ref b] ∧ Ln H a ls ∧ WfL ls ∧ Tp H b rk ∧ IsLR ls t rk ∧ 0 ≤ t ∧ t ≤ 1000000000000 ∧ ∀ H', Same H H' → Q (.bl true) H'
theorem ok_Ordered {f f__law_is_list : Addr} {fd d__law_is_list : FuncData} {m : Nat} (F : Fun K "_law_ordered" "_law_ordered" sOrdered f fd)
    (k__law_is_list : PySem.W.keepIn K (.ref f__law_is_list) = true) (b__law_is_list : Binds K d__law_is_list ["_law_dishes", "_law_thing"] []) (g__law_is_list : mg "_law_is_list" = some (.ref f__law_is_list)) (G__law_is_list : FnOk P w K mg base CX0 m f__law_is_list d__law_is_list ["_law_dishes", "_law_thing"] spIsRk)
    (m_len : mg "len" = none) (m_range : mg "range" = none) : FnOk P w K mg base CX0 (m + 1) f fd ["_law_line_here", "_law_t", "_law_ranking"] spOrdered := by
  refine F.ok scOrdered (fun vs H Q E h => ?_) (fun cdv A outer s H vs Q E hr h => ?_)
  · obtain ⟨a, b, t, ls, rk, rfl, _⟩ := h
    rfl
  · obtain ⟨a, b, t, ls, rk, rfl, ln, wf, tb, hL, ht0, ht1, q⟩ := h
    refine ⟨_, 
      (pss_cons (ps_if (pt_not (pt_val (pe_call G__law_is_list hr (by rfl) g__law_is_list k__law_is_list b__law_is_list .nil pass0 (pa_cons (pe_callB call_len_seq (by rfl) m_len PySem.boot_len (pa_cons (pv 0) pa_nil)) (pa_cons (pv 2) pa_nil))))) 
        (pss_one (ps_ret pe_bl)) pss_nil) 
      (pss_cons (ps_setLc (i := 3) (own := [("_law_dish", 5)]) (g := gName 5) (tt := tYes) (by rfl) scOrdered.nd rfl rfl (sw_true rfl rfl rfl (by decide +kernel)) (pi_tup (pv 2)) (blkOk_by (own := [("_law_dish", 5)]) (N := ["_law_line_here", "_law_t", "_law_ranking", "_law_worths", "_law_k", "_law_dish"]) (sc := defScope sOrdered) (by decide +kernel)) (fun _ _ _ _ _ => (pg_name (i := 5) scOrdered.nd rfl (Or.inl rfl))) (fun _ _ _ _ _ => pts_nil) (fun _ _ _ _ _ => (pe_op op_add (pe_ix (r := rIxT K) ix_tup (pe_ix (r := rIxT K) ix_tup (pv 0) (pv 5) (fun _ _ => rfl)) pe_int (fun _ _ => rfl)) (pe_op op_mul (pe_ix (r := rIxT K) ix_tup (pe_ix (r := rIxT K) ix_tup (pv 0) (pv 5) (fun _ _ => rfl)) pe_int (fun _ _ => rfl)) (pv 1))))) 
      (pss_cons (ps_for PassesOwn.never rfl (pi_range2 (by rfl) m_range (pa_cons pe_int (pa_cons (pe_callB call_len_seq (by rfl) m_len PySem.boot_len (pa_cons (pv 2) pa_nil)) pa_nil))) (pg_name (i := 4) scOrdered.nd rfl (.inl rfl)) 
        (pss_one (ps_if (PW.pt (pw_or (pt_cmpR op_gt (pe_ix (r := rIxL K) ix_list (pv 3) (pv 4) (fun _ _ => rfl)) (pe_ix (r := rIxL K) ix_list (pv 3) (pe_op op_sub (pv 4) pe_int) (fun _ _ => rfl)) (nomark _)) (pw_or1 (PW.pt (pw_and (pt_cmpR op_eq (pe_ix (r := rIxL K) ix_list (pv 3) (pv 4) (fun _ _ => rfl)) (pe_ix (r := rIxL K) ix_list (pv 3) (pe_op op_sub (pv 4) pe_int) (fun _ _ => rfl)) (nomark _)) (pw_and1 (pt_cmpR op_lt (pe_ix (r := rIxT K) ix_tup (pv 2) (pv 4) (fun _ _ => rfl)) (pe_ix (r := rIxT K) ix_tup (pv 2) (pe_op op_sub (pv 4) pe_int) (fun _ _ => rfl)) (nomark _)))))))) 
          (pss_one (ps_ret pe_bl)) pss_nil))) 
      (pss_one (ps_ret pe_bl))))), ?_⟩
    have hrk := hL.rank
    have hrl := hrk.len
    have h1 := wf.l1
    have h8 := wf.l8
    obtain ⟨xs, hx1, hx2⟩ := id ln
    have hxl := hx2.len
    refine ⟨.ref a, rfl, a, xs, rfl, .inr (.inl hx1.rd), .ref b, rfl, .ref b, .tuple (rk.map PyData.int), [], ls.length, congrArg (fun k : Nat => [V.int (k : Int), V.ref b]) hxl, ⟨b, _, rfl, tb, RpAll.ints rk⟩, h1, h8, fun ds e => ?_, fun H1 c s1 hc => ⟨_, rfl, ?_⟩⟩
    · injection e with e
      rw [← e, List.length_map, hrl]
      omega
    · have ec : c = true := hc.mpr ⟨rk, rfl, hrk⟩
      subst ec
      refine iteF ?_
      refine ⟨.ref b, rfl, b, rfl, ⟨_, (tb.same s1).sq⟩, fun D hD => lc_tup (K := K) (a := b) (xs := rk.map V.int) (fun i H2 => Same H1 H2 ∧ H2 D = some (.lst (((rk.take i).map (wrt ls t)).map V.int))) ⟨same_upd hD, upd_same⟩ (fun i H2 _ h => (tb.same (s1.trans h.1)).sq) (fun i y H2 hy h => ?_) (fun H2 h => ?_)⟩
      · obtain ⟨s2, e2⟩ := h
        rw [List.getElem?_map] at hy
        obtain ⟨z, hz, rfl⟩ := Option.map_eq_some_iff.mp hy
        have hb := hrk.bnd (List.mem_of_getElem? hz)
        obtain ⟨j, rfl⟩ := Int.eq_ofNat_of_zero_le hb.1
        have hj : j < ls.length := by omega
        have hjx : j < xs.length := by omega
        obtain ⟨q0, u, v, eq0, hg, tf⟩ := ((hx2.same s1).same s2).get (List.getElem?_eq_getElem hjx)
        have bd := wf.bd (u, v) (List.mem_of_getElem? hg)
        dsimp only at bd
        have hgd : ls.getD j (0, 0) = (u, v) := by rw [List.getD_eq_getElem?_getD, hg]; rfl
        have ax : SqT K H2 a xs := .inl ((hx1.same s1).same s2).rd
        have aj : atI xs ((j : Nat) : Int) = some (.ref q0) := atI_nat (by rw [List.getElem?_eq_getElem hjx, eq0])
        refine ⟨rfl, .ref a, rfl, .int (j : Int), rfl, a, xs, _, .ref q0, rfl, rfl, ax, aj, q0, _, 0, .int u, rfl, rfl, .inl tf.rd, atI_nat (j := 0) rfl, .ref a, rfl, .int (j : Int), rfl, a, xs, _, .ref q0, rfl, rfl, ax, aj, q0, _, 1, .int v, rfl, rfl, .inl tf.rd, atI_nat (j := 1) rfl, .int t, rfl, v, t, rfl, rfl, .inl ⟨by show -(2 : Int) ^ 64 < _; omega, by show _ < (2 : Int) ^ 64; omega⟩, _, _, rfl, rfl, _, e2, ?_, same_upd2 s2 hD, ?_⟩
        · rw [List.length_map, List.length_map, List.length_take]
          exact small1000 (by omega)
        · have ew : wrt ls t (j : Int) = u + v * t := by
            unfold wrt neg
            rw [show ((j : Nat) : Int).toNat = j by omega, hgd]
            show -(-u - v * t) = u + v * t
            omega
          rw [upd_same, List.take_add_one, hz, List.map_append, List.map_append]
          show some (HO.lst (_ ++ [V.int (u + v * t)])) = some (HO.lst (_ ++ [V.int (wrt ls t (j : Int))]))
          rw [ew]
      · obtain ⟨s2, e2⟩ := h
        rw [List.length_map, List.take_length] at e2
        have tb2 := (tb.same s1).same s2
        refine ⟨.ref b, rfl, b, _, rfl, .inr tb2.sq, 1, _, rfl, ⟨by omega, by omega, by rw [List.length_map]; omega, by rw [List.length_map]; omega⟩, ?_⟩
        refine for_range (n := (((rk.map V.int).length : Int) - 1).toNat) (lo := 1) (fun k σ H3 => (∃ y5 y6, σ = [some (.ref a), some (.int t), some (.ref b), some (.ref D), y5, y6]) ∧ H3 = H2) ⟨⟨none, none, rfl⟩, rfl⟩ (fun k σ H3 hk h => ?_) (fun σ H3 h => ?_)
        · obtain ⟨⟨y5, y6, rfl⟩, rfl⟩ := h
          rw [List.length_map] at hk
          have hk1 : k + 1 < rk.length := by omega
          obtain ⟨x, hx⟩ : ∃ x, rk[k]? = some x := ⟨_, List.getElem?_eq_getElem (by omega)⟩
          obtain ⟨y, hy⟩ : ∃ y, rk[k + 1]? = some y := ⟨_, List.getElem?_eq_getElem hk1⟩
          have no := hL.step hx hy
          have e1k : (1 : Int) + (k : Int) = ((k + 1 : Nat) : Int) := by omega
          have e0k : (1 : Int) + (k : Int) - 1 = ((k : Nat) : Int) := by omega
          have w1 : atI ((rk.map (wrt ls t)).map V.int) ((1 : Int) + (k : Int)) = some (.int (wrt ls t y)) := by
            rw [e1k]
            exact atI_nat (by rw [List.getElem?_map, List.getElem?_map, hy]; rfl)
          have w0 : atI ((rk.map (wrt ls t)).map V.int) ((1 : Int) + (k : Int) - 1) = some (.int (wrt ls t x)) := by
            rw [e0k]
            exact atI_nat (by rw [List.getElem?_map, List.getElem?_map, hx]; rfl)
          have r1 : atI (rk.map V.int) ((1 : Int) + (k : Int)) = some (.int y) := by
            rw [e1k]
            exact atI_nat (by rw [List.getElem?_map, hy]; rfl)
          have r0 : atI (rk.map V.int) ((1 : Int) + (k : Int) - 1) = some (.int x) := by
            rw [e0k]
            exact atI_nat (by rw [List.getElem?_map, hx]; rfl)
          refine ⟨.ref D, rfl, _, rfl, D, _, _, _, rfl, rfl, sqL e2, w1, .ref D, rfl, _, rfl, _, 1, rfl, rfl, D, _, _, _, rfl, rfl, sqL e2, w0, _, _, rfl, rfl, _, rfl, ?_⟩
          show if decide (wrt ls t y > wrt ls t x) = true then _ else _
          rw [decide_eq_false (fun z => no (.inl z))]
          refine iteF ?_
          refine ⟨.ref D, rfl, _, rfl, D, _, _, _, rfl, rfl, sqL e2, w1, .ref D, rfl, _, rfl, _, 1, rfl, rfl, D, _, _, _, rfl, rfl, sqL e2, w0, rfl, _, rfl, ?_⟩
          by_cases ew : wrt ls t y = wrt ls t x
          · rw [decide_eq_true (by rw [ew])]
            refine iteT ⟨.ref b, rfl, _, rfl, b, _, _, _, rfl, rfl, tb2.sq, r1, .ref b, rfl, _, rfl, _, 1, rfl, rfl, b, _, _, _, rfl, rfl, tb2.sq, r0, _, _, rfl, rfl, _, rfl, ?_⟩
            show if decide (y < x) = true then _ else _
            rw [decide_eq_false (fun z => no (.inr ⟨ew, z⟩))]
            exact iteF ⟨⟨_, _, rfl⟩, rfl⟩
          · rw [decide_eq_false (fun z => ew (V.int.inj z))]
            exact iteF (iteF ⟨⟨_, _, rfl⟩, rfl⟩)
        · obtain ⟨⟨y5, y6, rfl⟩, rfl⟩ := h
          exact q _ (s1.trans s2)
end
end TR
namespace TR
open PySem PySem.Spec PyProof.Rows L2
theorem scValues58 : FnScope ["_law_deck_here", "_law_line_here", "_law_edge", "_law_some", "_law_k", "_law_once"] ["_law_deck_here", "_law_line_here"] (defScope sValues58) := ⟨rfl, rfl, rfl, by decide +kernel, rfl, by decide +kernel, by decide +kernel⟩
section
variable {P : Program} {w : World} {K : PySem.W.Frag} {mg : Str → Option Value} {base : Heap}
theorem wf_line {ks : List (Int × Int)} (h1 : ks.length ≤ 16) (h2 : ∀ k ∈ ks, k.1.natAbs ≤ 1000000000001 ∧ k.2.natAbs ≤ 1000000000001) : Wf 16 2 (lnD ks) ∧ Wf 16 2 (.list (ks.map ldD)) ∧ sz (lnD ks) ≤ 49 ∧ sz (.list (ks.map ldD)) ≤ 49 := by
  have one : ∀ e ∈ ks.map ldD, Wf 16 1 e ∧ sz e ≤ 3 := fun e he => by
    obtain ⟨k, hk, rfl⟩ := List.mem_map.mp he
    have b := h2 k hk
    refine ⟨Wf.tup (by show 2 ≤ 16; decide) fun x hx => ?_, by show 1 + (1 + (1 + 0)) ≤ 3; decide⟩
    simp only [List.mem_cons, List.not_mem_nil, or_false] at hx
    have big : (1000000000001 : Nat) ≤ 10 ^ 59 + 16 := by decide
    rcases hx with rfl | rfl
    · exact Wf.leaf (show k.1.natAbs ≤ 10 ^ 59 + 16 from Nat.le_trans b.1 big)
    · exact Wf.leaf (show k.2.natAbs ≤ 10 ^ 59 + 16 from Nat.le_trans b.2 big)
  have z := szAll_le (ks.map ldD) fun e he => (one e he).2
  rw [List.length_map] at z
  have z2 : ks.length * 3 ≤ 16 * 3 := Nat.mul_le_mul_right _ h1
  refine ⟨Wf.tup (by rw [List.length_map]; exact h1) fun e he => (one e he).1, Wf.lst (by rw [List.length_map]; exact h1) fun e he => (one e he).1, ?_, ?_⟩
  · show 1 + szAll (ks.map ldD) ≤ 49
    omega
  · show 1 + szAll (ks.map ldD) ≤ 49
    omega
def GoodV (d p : Addr) (B : List Addr) (H : Hp) (ds : List PyData) (vs : List V) : Prop := RpAll H (d :: p :: sysModules :: B) ds vs ∧ ∀ e ∈ ds, Wf 18 6 e ∧ sz e ≤ 1000
def spValues58 : Sp := fun vs H Q _ => ∃ (d p q a : Addr) (c : Nat) (ls : List (Int × Int)), vs = [.ref d, .ref a] ∧ Deck H d p q c ∧ c ≤ 800000 ∧ Ln H a ls ∧ WfL ls ∧
  ∀ H' l ds ws, Deck H' d p q (c + 420) → Keep d p H H' → H l = none → H' l = some (.lst ws) → GoodV d p [] H' ds ws → Q (.ref l) H'
theorem ok_Values58 {f f__law_odd f__law_bent : Addr} {fd d__law_odd d__law_bent : FuncData} (F : Fun K "_law_values" "_law_values" sValues58 f fd)
    (k__law_odd : PySem.W.keepIn K (.ref f__law_odd) = true) (b__law_odd : Binds K d__law_odd ["_law_deck_here"] []) (g__law_odd : mg "_law_odd" = some (.ref f__law_odd)) (G__law_odd : FnOk P w K mg base CX0 6 f__law_odd d__law_odd ["_law_deck_here"] spOdd)
    (k__law_bent : PySem.W.keepIn K (.ref f__law_bent) = true) (b__law_bent : Binds K d__law_bent ["_law_deck_here", "_law_thing", "_law_deep"] []) (g__law_bent : mg "_law_bent" = some (.ref f__law_bent)) (G__law_bent : FnOk P w K mg base CX0 6 f__law_bent d__law_bent ["_law_deck_here", "_law_thing", "_law_deep"] (spBent 4))
    (m_list : mg "list" = none) (m_range : mg "range" = none) : FnOk P w K mg base CX0 7 f fd ["_law_deck_here", "_law_line_here"] spValues58 := by
  refine F.ok scValues58 (fun vs H Q E h => ?_) (fun cdv A outer s H vs Q E hr h => ?_)
  · obtain ⟨d, p, q, a, c, ls, rfl, _⟩ := h
    rfl
  · obtain ⟨d, p, q, a, c, ls, rfl, D0, hc, ln, wf, qq⟩ := h
    refine ⟨_, 
      (pss_cons (ps_set (i := 2) scValues58.nd rfl (.inl rfl) (pe_tupN (pa_cons (pe_tupN (pa_cons (pe_op op_pow pe_int pe_int) (pa_cons (pe_op op_sub pe_int (pe_op op_pow pe_int pe_int)) pa_nil))) pa_nil))) 
      (pss_cons (ps_set (i := 3) scValues58.nd rfl (.inl rfl) (pe_lstN (pa_cons (pv 1) (pa_cons (pe_op op_repTF (pv 2) pe_int) (pa_cons (pe_op op_repTF (pv 2) pe_int) (pa_cons (pe_tupN (pa_cons (pe_tupN (pa_cons (pe_op op_add (pe_op op_pow pe_int pe_int) pe_int) (pa_cons pe_int pa_nil))) pa_nil)) (pa_cons (pe_tupN (pa_cons (pe_tupN (pa_cons pe_int (pa_cons (pe_op op_sub (pe_op op_sub pe_int (pe_op op_pow pe_int pe_int)) pe_int) pa_nil))) pa_nil)) (pa_cons (pe_tupN pa_nil) (pa_cons (pe_callTy call_listN (by rfl) m_list (by decide +kernel) (pa_cons (pv 1) pa_nil)) (pa_cons (pe_call G__law_odd hr (by rfl) g__law_odd k__law_odd b__law_odd .nil pass0 (pa_cons (pv 0) pa_nil)) pa_nil)))))))))) 
      (pss_cons (ps_for PassesOwn.never rfl (pi_range1 (by rfl) m_range (pa_cons pe_int pa_nil)) (pg_name (i := 4) scValues58.nd rfl (.inl rfl)) 
        (pss_cons (ps_set (i := 5) scValues58.nd rfl (.inl rfl) (pe_call G__law_bent hr (by rfl) g__law_bent k__law_bent b__law_bent .nil pass0 (pa_cons (pv 0) (pa_cons (pv 1) (pa_cons pe_int pa_nil))))) 
        (pss_one (ps_set (i := 3) scValues58.nd rfl (.inl rfl) (pe_op op_catN (pv 3) (pe_lstN (pa_cons (pv 5) (pa_cons (pe_call G__law_bent hr (by rfl) g__law_bent k__law_bent b__law_bent .nil pass0 (pa_cons (pv 0) (pa_cons (pv 5) (pa_cons pe_int pa_nil)))) pa_nil)))))))) 
      (pss_one (ps_ret (pv 3)))))), ?_⟩
    obtain ⟨xs, hx1, hx2⟩ := id ln
    have hxl := hx2.len
    have h8 := wf.l8
    refine ⟨10, 12, rfl, rfl, ⟨by decide, by decide, by decide⟩, 10, 12, rfl, rfl, ⟨by decide, by decide, by decide⟩, 0, _, rfl, rfl, by show 2 ≤ sizeLine; decide, fun e1 H1 _ s1 t1 => ⟨by show 1 ≤ sizeLine; decide, fun e2 H2 _ s2 t2 => ?_⟩⟩
    have t1 : TF H1 e1 [.int 1000000000000, .int (-1000000000000)] := t1
    refine ⟨.ref a, rfl, .ref e2, rfl, e2, 8, _, rfl, rfl, t2, by simp, by decide, by decide, by show 1 ≤ 100; decide, fun m1 H3 s3 t3 => ?_⟩
    refine ⟨.ref e2, rfl, e2, 9, _, rfl, rfl, t2.same s3, by simp, by decide, by decide, by show 1 ≤ 100; decide, fun m2 H4 s4 t4 => ?_⟩
    refine ⟨10, 12, rfl, rfl, ⟨by decide, by decide, by decide⟩, _, 1, rfl, rfl, by show 2 ≤ sizeLine; decide, fun e3 H5 _ s5 t5 => ⟨by show 1 ≤ sizeLine; decide, fun e4 H6 _ s6 t6 => ?_⟩⟩
    have t5 : TF H5 e3 [.int 1000000000001, .int 0] := t5
    refine ⟨10, 12, rfl, rfl, ⟨by decide, by decide, by decide⟩, 0, _, rfl, rfl, _, 1, rfl, rfl, by show 2 ≤ sizeLine; decide, fun e5 H7 _ s7 t7 => ⟨by show 1 ≤ sizeLine; decide, fun e6 H8 _ s8 t8 => ?_⟩⟩
    have t7 : TF H7 e5 [.int 0, .int (-1000000000001)] := t7
    refine ⟨Nat.zero_le _, fun e7 H9 _ s9 t9 => ?_⟩
    have s29 : Same H2 H9 := s3.trans (s4.trans (s5.trans (s6.trans (s7.trans (s8.trans s9)))))
    have s09 : Same H H9 := s1.trans (s2.trans s29)
    refine ⟨.ref a, rfl, a, xs, rfl, (hx1.same s09).rd, fun l1 Ha hl1 nl1 sa ea => ?_⟩
    have D9 := D0.same s09
    have Da := D9.same sa
    refine ⟨.ref d, rfl, d, p, q, c, [], rfl, Da, by omega, Alive.nil, fun Hb xo od Db kb rpo wfo => ⟨by show 8 ≤ sizeLine; decide, fun L Hc hL nL sc eL => ?_⟩⟩
    have k0b : Keep d p H Hb := (Same.keep (s09.trans sa)).trans kb
    have hLH : H L = none := keep_freeL k0b Db hL
    have banl : l1 ∉ (d :: p :: sysModules :: ([] : List Addr)) := by
      simp only [List.mem_cons, List.not_mem_nil, or_false, not_or]
      exact ⟨D9.ned hl1, D9.nep hl1, nl1⟩
    have r8 : (List.replicate (8 : Int).toNat [V.ref e1]).flatten = [.ref e1, .ref e1, .ref e1, .ref e1, .ref e1, .ref e1, .ref e1, .ref e1] := rfl
    have r9 : (List.replicate (9 : Int).toNat [V.ref e1]).flatten = [.ref e1, .ref e1, .ref e1, .ref e1, .ref e1, .ref e1, .ref e1, .ref e1, .ref e1] := rfl
    rw [r8] at t3
    rw [r9] at t4
    have lnA : Ln Ha a ls := ln.same (s09.trans sa)
    have s2a := s29.trans sa
    have e1a : Lds Ha [.ref e1] [(1000000000000, -1000000000000)] := .cons (t1.same (s2.trans s2a)) .nil
    have te1 := t1.same (s2.trans s2a)
    have rpa : RpAll Ha (d :: p :: sysModules :: []) [lnD ls, lnD (List.replicate 8 (1000000000000, -1000000000000)), lnD (List.replicate 9 (1000000000000, -1000000000000)), lnD [(1000000000001, 0)], lnD [(0, -1000000000001)], .tuple [], .list (ls.map ldD)] [.ref a, .ref m1, .ref m2, .ref e4, .ref e6, .ref e7, .ref l1] := by
      refine ⟨_, _, rfl, lnA.rp, _, _, rfl, Ln.rp ⟨_, t3.same (s4.trans (s5.trans (s6.trans (s7.trans (s8.trans (s9.trans sa)))))), ?_⟩, _, _, rfl, Ln.rp ⟨_, t4.same (s5.trans (s6.trans (s7.trans (s8.trans (s9.trans sa))))), ?_⟩, _, _, rfl, Ln.rp ⟨_, t6.same (s7.trans (s8.trans (s9.trans sa))), ?_⟩, _, _, rfl, Ln.rp ⟨_, t8.same (s9.trans sa), ?_⟩, _, _, rfl, ⟨e7, _, rfl, t9.same sa, rfl⟩, _, _, rfl, ⟨l1, _, rfl, ea, banl, ((hx2.same s09).same sa).rp⟩, rfl⟩
      · exact .cons te1 (.cons te1 (.cons te1 (.cons te1 (.cons te1 (.cons te1 (.cons te1 (.cons te1 .nil)))))))
      · exact .cons te1 (.cons te1 (.cons te1 (.cons te1 (.cons te1 (.cons te1 (.cons te1 (.cons te1 (.cons te1 .nil))))))))
      · exact .cons (t5.same (s6.trans (s7.trans (s8.trans (s9.trans sa))))) .nil
      · exact .cons (t7.same (s8.trans (s9.trans sa))) .nil
    have big : ∀ ks : List (Int × Int), ks.length ≤ 16 → (∀ k ∈ ks, k.1.natAbs ≤ 1000000000001 ∧ k.2.natAbs ≤ 1000000000001) → Wf 16 2 (lnD ks) ∧ Wf 16 2 (.list (ks.map ldD)) ∧ sz (lnD ks) ≤ 49 ∧ sz (.list (ks.map ldD)) ≤ 49 := fun ks h1 h2 => wf_line h1 h2
    have bls : ∀ k ∈ ls, k.1.natAbs ≤ 1000000000001 ∧ k.2.natAbs ≤ 1000000000001 := fun k hk => by have := wf.bd k hk; omega
    obtain ⟨wl1, wl2, zl1, zl2⟩ := big ls (by omega) bls
    have g0 : GoodV d p [] Hc ([lnD ls, lnD (List.replicate 8 (1000000000000, -1000000000000)), lnD (List.replicate 9 (1000000000000, -1000000000000)), lnD [(1000000000001, 0)], lnD [(0, -1000000000001)], .tuple [], .list (ls.map ldD)] ++ [od]) ([.ref a, .ref m1, .ref m2, .ref e4, .ref e6, .ref e7, .ref l1] ++ [xo]) := by
      refine ⟨(RpAll.app (es := [od]) (ys := [xo]) (RpAll.keep rpa Da kb (by simp) (by simp)) ⟨xo, [], rfl, rpo, rfl⟩).same sc, fun e he => ?_⟩
      have up : ∀ {e : PyData}, Wf 16 2 e ∧ sz e ≤ 49 → Wf 18 6 e ∧ sz e ≤ 1000 := fun h => ⟨h.1.mono (by decide) (by decide), by have := h.2; omega⟩
      rcases List.mem_append.mp he with h | h
      · simp only [List.mem_cons, List.not_mem_nil, or_false] at h
        rcases h with rfl | rfl | rfl | rfl | rfl | rfl | rfl
        · exact up ⟨wl1, zl1⟩
        · have := big (List.replicate 8 (1000000000000, -1000000000000)) (by decide) (fun k hk => by rw [(List.mem_replicate.mp hk).2]; decide)
          exact up ⟨this.1, this.2.2.1⟩
        · have := big (List.replicate 9 (1000000000000, -1000000000000)) (by decide) (fun k hk => by rw [(List.mem_replicate.mp hk).2]; decide)
          exact up ⟨this.1, this.2.2.1⟩
        · have := big [(1000000000001, 0)] (by decide) (fun k hk => by rw [List.mem_singleton.mp hk]; decide)
          exact up ⟨this.1, this.2.2.1⟩
        · have := big [(0, -1000000000001)] (by decide) (fun k hk => by rw [List.mem_singleton.mp hk]; decide)
          exact up ⟨this.1, this.2.2.1⟩
        · exact up ⟨Wf.tup (by decide) fun e he => absurd he (by simp), by decide⟩
        · exact up ⟨wl2, zl2⟩
      · rw [List.mem_singleton] at h
        subst h
        exact ⟨wfo.mono (by decide) (by decide), Nat.le_trans wfo.sz (by decide)⟩
    have lnC : Ln Hc a ls := (lnA.keep Da kb).same sc
    have eL : Hc L = some (.lst ([.ref a, .ref m1, .ref m2, .ref e4, .ref e6, .ref e7, .ref l1] ++ [xo])) := eL
    refine ⟨5, rfl, by decide, by decide, for_range (n := 5) (lo := 0) (fun i σ Hx => ∃ y4 y5 l ds ws, σ = [some (.ref d), some (.ref a), some (.ref e2), some (.ref l), y4, y5] ∧ Hx l = some (.lst ws) ∧ l ≠ d ∧ l ≠ p ∧ H l = none ∧ GoodV d p [] Hx ds ws ∧ ws.length = 8 + 2 * i ∧ Ln Hx a ls ∧ Deck Hx d p q (c + 1 + 80 * i) ∧ Keep d p H Hx) ⟨none, none, L, _, _, rfl, eL, Db.ned hL, Db.nep hL, hLH, g0, rfl, lnC, Db.same sc, k0b.trans (Same.keep sc)⟩ (fun i σ Hx hi h => ?_) (fun σ Hx h => ?_)⟩
    · obtain ⟨y4, y5, l, ds, ws, rfl, el, nld, nlp, hlH, gv, hwl, lnx, Dx, kx⟩ := h
      refine ⟨.ref d, rfl, .ref a, rfl, d, p, q, c + 1 + 80 * i, .ref a, lnD ls, 16, 2, [], rfl, Dx, by show c + 1 + 80 * i + 10 * 4 ≤ 900000; omega, Alive.nil, lnx.rp, wl1, by decide, by decide, fun Hy y ee Dy ky rpy wy zy => ?_⟩
      have wy : Wf 17 5 ee := wy
      have Dy : Deck Hy d p q (c + 1 + 80 * i + 40) := Dy
      refine ⟨.ref l, rfl, y, rfl, .ref d, rfl, y, rfl, d, p, q, c + 1 + 80 * i + 40, y, ee, 17, 5, [], rfl, Dy, by show c + 1 + 80 * i + 40 + 10 * 4 ≤ 900000; omega, Alive.nil, rpy, wy, by decide, by decide, fun Hz y2 ee2 Dz kz rp2 w2 z2 => ?_⟩
      have w2 : Wf 18 5 ee2 := w2
      have Dz : Deck Hz d p q (c + 1 + 80 * i + 80) := Dz
      refine ⟨by show 2 ≤ sizeLine; decide, fun l2 Hu hl2 nl2 su eu => ?_⟩
      refine ⟨l, l2, _, _, rfl, rfl, su _ _ (kz _ _ (ky _ _ el nld nlp) nld nlp), eu, ?_, fun l3 Hv hl3 sv ev => ?_⟩
      · show ws.length + 2 ≤ sizeLine
        exact Nat.le_of_lt (small1000 (by omega))
      have suv := su.trans sv
      have kxz : Keep d p H Hz := kx.trans (ky.trans kz)
      have Du := Dz.same su
      have hl3z : H l3 = none := keep_freeL kxz Dz (su.free hl3)
      have gy := RpAll.keep gv.1 Dx ky (by simp) (by simp)
      have gz := RpAll.keep gy Dy kz (by simp) (by simp)
      have rpyz := rpy.keep Dy kz (by simp) (by simp)
      refine ⟨_, _, l3, ds ++ [ee, ee2], ws ++ [y, y2], rfl, ev, Du.ned hl3, Du.nep hl3, hl3z, ⟨(RpAll.app (es := [ee, ee2]) (ys := [y, y2]) gz ⟨y, _, rfl, rpyz, y2, [], rfl, rp2, rfl⟩).same suv, fun e he => ?_⟩, by rw [List.length_append, hwl]; show 8 + 2 * i + 2 = _; omega, ((lnx.keep Dx ky).keep Dy kz).same suv, (Dz.same suv).mono (by omega), kxz.trans (Same.keep suv)⟩
      rcases List.mem_append.mp he with h | h
      · exact gv.2 e h
      · simp only [List.mem_cons, List.not_mem_nil, or_false] at h
        rcases h with rfl | rfl
        · exact ⟨wy.mono (by decide) (by decide), by omega⟩
        · exact ⟨w2.mono (by decide) (by decide), by omega⟩
    · obtain ⟨y4, y5, l, ds, ws, rfl, el, nld, nlp, hlH, gv, hwl, lnx, Dx, kx⟩ := h
      exact ⟨_, rfl, qq Hx l ds ws (Dx.mono (by omega)) kx hlH el gv⟩
end
end TR
namespace TR
open PySem PySem.Spec PyProof.Rows L2
theorem scLaw : FnScope ["_law_script", "_law_deck_here", "_law_turn", "_law_line_here", "_law_value", "_law_kept", "_law_t", "_law_found", "_law_k"] ["_law_script"] (defScope sLaw) := ⟨rfl, rfl, rfl, by decide +kernel, rfl, by decide +kernel, by decide +kernel⟩
theorem tup_len {L D : Nat} {ds : List PyData} (h : Wf L D (.tuple ds)) : ds.length ≤ L := by
  cases D with
  | zero => exact h.elim
  | succ D =>
    rcases h with h | h | ⟨es, e, hl, _⟩
    · exact h.elim
    · cases h
    · rcases e with e | e
      · cases e
      · injection e with e
        subst e
        exact hl
section
variable {P : Program} {w : World} {K : PySem.W.Frag} {mg : Str → Option Value} {base : Heap}
theorem ok_Law {f f__law_deck f__law_line f__law_values f__law_same f__law_is_line f_is_line f__law_next f__law_meeting f__law_answer f__law_ordered : Addr} {fd d__law_deck d__law_line d__law_values d__law_same d__law_is_line d_is_line d__law_next d__law_meeting d__law_answer d__law_ordered : FuncData} (F : Fun K "law" "law" sLaw f fd)
    (k__law_deck : PySem.W.keepIn K (.ref f__law_deck) = true) (b__law_deck : Binds K d__law_deck ["_law_script"] []) (g__law_deck : mg "_law_deck" = some (.ref f__law_deck)) (G__law_deck : FnOk P w K mg base CX0 7 f__law_deck d__law_deck ["_law_script"] (spDeck K))
    (k__law_line : PySem.W.keepIn K (.ref f__law_line) = true) (b__law_line : Binds K d__law_line ["_law_deck_here", "_law_dishes"] []) (g__law_line : mg "_law_line" = some (.ref f__law_line)) (G__law_line : FnOk P w K mg base CX0 7 f__law_line d__law_line ["_law_deck_here", "_law_dishes"] spLine)
    (k__law_values : PySem.W.keepIn K (.ref f__law_values) = true) (b__law_values : Binds K d__law_values ["_law_deck_here", "_law_line_here"] []) (g__law_values : mg "_law_values" = some (.ref f__law_values)) (G__law_values : FnOk P w K mg base CX0 7 f__law_values d__law_values ["_law_deck_here", "_law_line_here"] spValues58)
    (k__law_same : PySem.W.keepIn K (.ref f__law_same) = true) (b__law_same : Binds K d__law_same ["_law_found", "_law_due"] []) (g__law_same : mg "_law_same" = some (.ref f__law_same)) (G__law_same : FnOk P w K mg base CX0 7 f__law_same d__law_same ["_law_found", "_law_due"] (spSame K 7))
    (k__law_is_line : PySem.W.keepIn K (.ref f__law_is_line) = true) (b__law_is_line : Binds K d__law_is_line ["_law_value"] []) (g__law_is_line : mg "_law_is_line" = some (.ref f__law_is_line)) (G__law_is_line : FnOk P w K mg base CX0 7 f__law_is_line d__law_is_line ["_law_value"] spIsLine)
    (k_is_line : PySem.W.keepIn K (.ref f_is_line) = true) (b_is_line : Binds K d_is_line ["value"] []) (g_is_line : mg "is_line" = some (.ref f_is_line)) (G_is_line : FnOk P w K mg base CX0 7 f_is_line d_is_line ["value"] spIsLine)
    (k__law_next : PySem.W.keepIn K (.ref f__law_next) = true) (b__law_next : Binds K d__law_next ["_law_deck_here", "_law_many"] []) (g__law_next : mg "_law_next" = some (.ref f__law_next)) (G__law_next : FnOk P w K mg base CX0 7 f__law_next d__law_next ["_law_deck_here", "_law_many"] spNext)
    (k__law_meeting : PySem.W.keepIn K (.ref f__law_meeting) = true) (b__law_meeting : Binds K d__law_meeting ["_law_deck_here", "_law_line_here"] []) (g__law_meeting : mg "_law_meeting" = some (.ref f__law_meeting)) (G__law_meeting : FnOk P w K mg base CX0 7 f__law_meeting d__law_meeting ["_law_deck_here", "_law_line_here"] spMeeting)
    (k__law_answer : PySem.W.keepIn K (.ref f__law_answer) = true) (b__law_answer : Binds K d__law_answer ["_law_line_here", "_law_t"] []) (g__law_answer : mg "_law_answer" = some (.ref f__law_answer)) (G__law_answer : FnOk P w K mg base CX0 7 f__law_answer d__law_answer ["_law_line_here", "_law_t"] spAns58)
    (k__law_ordered : PySem.W.keepIn K (.ref f__law_ordered) = true) (b__law_ordered : Binds K d__law_ordered ["_law_line_here", "_law_t", "_law_ranking"] []) (g__law_ordered : mg "_law_ordered" = some (.ref f__law_ordered)) (G__law_ordered : FnOk P w K mg base CX0 7 f__law_ordered d__law_ordered ["_law_line_here", "_law_t", "_law_ranking"] spOrdered)
    (m_range : mg "range" = none) (m_repr : mg "repr" = none) : RunG P w K mg base 8 f fd ["_law_script"] (spLaw K) := by
  refine okG F scLaw (fun vs H Q E h => ?_) (fun cdv A outer s H vs Q E hg hr h => ?_)
  · obtain ⟨a, ns, rfl, _⟩ := h
    rfl
  · obtain ⟨a, ns, rfl, hS, hlen, qq⟩ := h
    refine ⟨_, 
      (pss_cons (ps_set (i := 1) scLaw.nd rfl (.inr rfl) (pe_call G__law_deck hr (by rfl) g__law_deck k__law_deck b__law_deck .nil pass0 (pa_cons (pv 0) pa_nil))) 
      (pss_cons (ps_for PassesOwn.never rfl (pi_range1 (by rfl) m_range (pa_cons pe_int pa_nil)) (pg_name (i := 2) scLaw.nd rfl (.inl rfl)) 
        (pss_cons (ps_set (i := 3) scLaw.nd rfl (.inr rfl) (pe_call G__law_line hr (by rfl) g__law_line k__law_line b__law_line .nil pass0 (pa_cons (pv 1) (pa_cons pe_int pa_nil)))) 
        (pss_cons (ps_for PassesOwn.never rfl (pi_list (pe_call G__law_values hr (by rfl) g__law_values k__law_values b__law_values .nil pass0 (pa_cons (pv 1) (pa_cons (pv 3) pa_nil)))) (pg_name (i := 4) scLaw.nd rfl (.inl rfl)) 
          (pss_cons (ps_set (i := 5) scLaw.nd rfl (.inl rfl) (pe_callB (call_reprD hg hr.units) (by rfl) m_repr (by decide +kernel) (pa_cons (pv 4) pa_nil))) 
          (pss_one (ps_if (PW.pt (pw_or (pt_not (pt_val (pe_call G__law_same hr (by rfl) g__law_same k__law_same b__law_same .nil pass0 (pa_cons (pe_call G_is_line hr (by rfl) g_is_line k_is_line b_is_line .nil pass0 (pa_cons (pv 4) pa_nil)) (pa_cons (pe_call G__law_is_line hr (by rfl) g__law_is_line k__law_is_line b__law_is_line .nil pass0 (pa_cons (pv 4) pa_nil)) pa_nil))))) (pw_or1 (pt_cmpR op_ne (pe_callB (call_reprD hg hr.units) (by rfl) m_repr (by decide +kernel) (pa_cons (pv 4) pa_nil)) (pv 5) (nomark _))))) 
            (pss_one (ps_ret pe_bl)) pss_nil)))) 
        (pss_cons (ps_for PassesOwn.never rfl (pi_list (pe_op op_catN (pe_lstN (pa_cons pe_int (pa_cons (pe_op op_pow pe_int pe_int) (pa_cons (pe_call G__law_next hr (by rfl) g__law_next k__law_next b__law_next .nil pass0 (pa_cons (pv 1) (pa_cons pe_int pa_nil))) pa_nil)))) (pe_lc (own := [("_law_k", 8)]) (g := gName 8) (tt := tYes) (by rfl) scLaw.nd (pi_range1 (by rfl) m_range (pa_cons pe_int pa_nil)) (blkOk_by (own := [("_law_k", 8)]) (N := ["_law_script", "_law_deck_here", "_law_turn", "_law_line_here", "_law_value", "_law_kept", "_law_t", "_law_found", "_law_k"]) (sc := defScope sLaw) (by decide +kernel)) (fun _ _ _ _ _ => (pg_name (i := 8) scLaw.nd rfl (Or.inl rfl))) (fun _ _ _ _ _ => pts_nil) (fun _ _ _ _ _ => (pe_call G__law_meeting hr (by rfl) g__law_meeting k__law_meeting b__law_meeting .nil pass0 (pa_cons (pv 1) (pa_cons (pv 3) pa_nil))))))) (pg_name (i := 6) scLaw.nd rfl (.inl rfl)) 
          (pss_cons (ps_set (i := 7) scLaw.nd rfl (.inl rfl) (pe_call G__law_answer hr (by rfl) g__law_answer k__law_answer b__law_answer .nil pass0 (pa_cons (pv 3) (pa_cons (pv 6) pa_nil)))) 
          (pss_one (ps_if (PW.pt (pw_or (pt_cmpR op_ne (pe_ix (r := rIxL K) ix_list (pv 7) pe_int (fun _ _ => rfl)) pe_str (nomark _)) (pw_or1 (pt_not (pt_val (pe_call G__law_ordered hr (by rfl) g__law_ordered k__law_ordered b__law_ordered .nil pass0 (pa_cons (pv 3) (pa_cons (pv 6) (pa_cons (pe_ix (r := rIxL K) ix_list (pv 7) pe_int (fun _ _ => rfl)) pa_nil))))))))) 
            (pss_one (ps_ret pe_bl)) pss_nil)))) 
        (pss_one (ps_for PassesOwn.never rfl (pi_list (pe_lstN (pa_cons (pe_un un_neg pe_int) (pa_cons (pe_op op_add (pe_op op_pow pe_int pe_int) pe_int) (pa_cons pe_bl (pa_cons pe_bl (pa_cons pe_non (pa_cons pe_str (pa_cons (pe_tupN (pa_cons pe_int pa_nil)) (pa_cons (pe_lstN pa_nil) (pa_cons pe_dnewN (pa_cons (pe_op op_pow pe_int pe_int) pa_nil)))))))))))) (pg_name (i := 6) scLaw.nd rfl (.inl rfl)) 
          (pss_one (ps_if (pt_cmpR op_ne (pe_callB (call_reprD hg hr.units) (by rfl) m_repr (by decide +kernel) (pa_cons (pe_call G__law_answer hr (by rfl) g__law_answer k__law_answer b__law_answer .nil pass0 (pa_cons (pv 3) (pa_cons (pv 6) pa_nil))) pa_nil)) (pe_callB (call_reprD hg hr.units) (by rfl) m_repr (by decide +kernel) (pa_cons (pe_lstN (pa_cons pe_str (pa_cons (pv 6) pa_nil))) pa_nil)) (nomark _)) 
            (pss_one (ps_ret pe_bl)) pss_nil)))))))) 
      (pss_one (ps_ret pe_bl)))), ?_⟩
    refine ⟨.ref a, rfl, a, ns, rfl, hS, hlen, fun H1 d p q s1 D1 => ?_⟩
    refine ⟨4, rfl, by decide, by decide, for_range (n := 4) (lo := 0) (fun i σ H2 => (∃ y2 y3 y4 y5 y6 y7 y8, σ = [some (.ref a), some (.ref d), y2, y3, y4, y5, y6, y7, y8]) ∧ Deck H2 d p q (600 * i)) ⟨⟨none, none, none, none, none, none, none, rfl⟩, D1⟩ (fun i σ H2 hi h => ?_) (fun σ H2 h => qq H2)⟩
    obtain ⟨⟨y2, y3, y4, y5, y6, y7, y8, rfl⟩, D2⟩ := h
    refine ⟨.ref d, rfl, d, p, q, 600 * i, rfl, D2, by omega, fun H3 b ls ln wf D3 k3 => ?_⟩
    refine ⟨.ref d, rfl, .ref b, rfl, d, p, q, b, 600 * i + 40, ls, rfl, D3, by omega, ln, wf, fun H4 l ds ws D4 k4 hl el gv => ?_⟩
    have ln4 := ln.keep D3 k4
    refine ⟨l, rfl, ⟨_, sqL el⟩, for_list (K := K) (a := l) (xs := ws) (fun m σ H5 => (∃ y2 y4 y5 y6 y7 y8, σ = [some (.ref a), some (.ref d), y2, some (.ref b), y4, y5, y6, y7, y8]) ∧ Same H4 H5) ⟨⟨_, _, _, _, _, _, rfl⟩, Same.refl _⟩ (fun m σ H5 _ h => h.2.seq (sqL el)) (fun m x σ H5 hx h => ?_) (fun σ H5 h => ?_)⟩
    · obtain ⟨⟨y2, y4, y5, y6, y7, y8, rfl⟩, s5⟩ := h
      obtain ⟨e, he, hre⟩ := gv.1.get hx
      obtain ⟨hw, hz⟩ := gv.2 e (List.mem_of_getElem? he)
      obtain ⟨q1, q2, q3⟩ := hw.shownS (by decide)
      have q4 := shown_fits q1 hz (by decide)
      have rp := hre.same s5
      have hl100 : ∀ ds, e = .tuple ds → ds.length ≤ 100 := fun ds h => by subst h; have := tup_len hw; omega
      refine ⟨x, rfl, x, e, _, rfl, by simp, rp, q2, by omega, q4, ?_⟩
      refine ⟨x, rfl, x, e, _, rfl, rp, hl100, fun H6 b1 s6 hb1 => ?_⟩
      refine ⟨x, rfl, x, e, _, rfl, rp.same s6, hl100, fun H7 b2 s7 hb2 => ?_⟩
      have eb : b1 = b2 := by rw [Bool.eq_iff_iff, hb1, hb2]
      refine ⟨_, _, rfl, alk_bl (m := 6) eb, fun H8 s8 => ⟨_, rfl, iteF ?_⟩⟩
      have s58 := s6.trans (s7.trans s8)
      refine ⟨x, rfl, x, e, _, rfl, by simp, rp.same s58, q2, by omega, q4, _, rfl, rfl, _, rfl, ?_⟩
      exact iteNS rfl ⟨⟨_, _, _, _, _, _, rfl⟩, s5.trans s58⟩
    · obtain ⟨⟨y2, y4, y5, y6, y7, y8, rfl⟩, s5⟩ := h
      have ln5 := ln4.same s5
      have D5 := D4.same s5
      refine ⟨10, 12, rfl, rfl, ⟨by decide, by decide, by decide⟩, .ref d, rfl, d, p, q, 600 * i + 40 + 420, 50, rfl, D5, by omega, by decide, by decide, fun H6 r r0 r1 D6 k6 => ⟨by show 3 ≤ sizeLine; decide, fun L1 H7 hL1 _ s7 e7 => ?_⟩⟩
      have ln7 := (ln5.keep D5 k6).same s7
      have D7 := D6.same s7
      have nL1d := D6.ned hL1
      have nL1p := D6.nep hL1
      refine ⟨5, rfl, by decide, by decide, fun L hL => walk_in (n := 5) (lo := 0) (fun j H8 => Deck H8 d p q (600 * i + 461 + 4 * j) ∧ Keep d p H7 H8 ∧ ∃ ts : List Int, H8 L = some (.lst (ts.map V.int)) ∧ ts.length = j ∧ ∀ t ∈ ts, 0 ≤ t ∧ t ≤ 1000000000000) ⟨D7.same (same_upd hL), Same.keep (same_upd hL), [], upd_same, rfl, fun t ht => by cases ht⟩ (fun j H8 hj h => ?_) (fun H8 h => ?_)⟩
      · obtain ⟨D8, k8, ts, eL, htl, hts⟩ := h
        have nLd : L ≠ d := D7.ned hL
        have nLp : L ≠ p := D7.nep hL
        have nLq : L ≠ q := D7.neq hL
        refine ⟨rfl, .ref d, rfl, .ref b, rfl, d, p, q, b, 600 * i + 461 + 4 * j, ls, rfl, D8, by omega, ln7.keep D7 k8, wf, fun H9 t t0 t1 D9 k9 => ?_⟩
        refine ⟨_, k9 _ _ eL nLd nLp, by rw [List.length_map]; exact small1000 (by omega), (D9.upd nLd nLp nLq).mono (by omega), keep_fresh (k8.trans k9) hL, ts ++ [t], ?_, by rw [List.length_append, htl]; rfl, fun u hu => ?_⟩
        · rw [upd_same, List.map_append]
          rfl
        · rcases List.mem_append.mp hu with hu | hu
          · exact hts u hu
          · rw [List.mem_singleton.mp hu]
            exact ⟨t0, t1⟩
      · obtain ⟨D8, k8, ts, eL, htl, hts⟩ := h
        have ln8 := ln7.keep D7 k8
        refine ⟨L1, L, _, _, rfl, rfl, k8 _ _ e7 nL1d nL1p, eL, ?_, fun L2 H9 hL2 s9 e9 => ?_⟩
        · rw [List.length_map, htl]
          show 3 + 5 ≤ sizeLine
          decide
        have e9 : H9 L2 = some (.lst (([0, 1000000000000, r] ++ ts).map V.int)) := by
          rw [List.map_append]
          exact e9
        have htt : ∀ t ∈ [0, 1000000000000, r] ++ ts, 0 ≤ t ∧ t ≤ 1000000000000 := fun t ht => by
          rcases List.mem_append.mp ht with h | h
          · simp only [List.mem_cons, List.not_mem_nil, or_false] at h
            rcases h with rfl | rfl | rfl
            · decide
            · decide
            · omega
          · exact hts t h
        generalize [0, 1000000000000, r] ++ ts = us at e9 htt
        have ln9 := ln8.same s9
        refine ⟨L2, rfl, ⟨_, sqL e9⟩, for_list (K := K) (a := L2) (xs := us.map V.int) (fun m σ Ha => (∃ y2 y4 y5 y6 y7 y8, σ = [some (.ref a), some (.ref d), y2, some (.ref b), y4, y5, y6, y7, y8]) ∧ Same H9 Ha) ⟨⟨_, _, _, _, _, _, rfl⟩, Same.refl _⟩ (fun m σ Ha _ h => h.2.seq (sqL e9)) (fun m x σ Ha hx h => ?_) (fun σ Ha h => ?_)⟩
        · obtain ⟨⟨y2, y4, y5, y6, y7, y8, rfl⟩, sa⟩ := h
          rw [List.getElem?_map] at hx
          obtain ⟨t, ht, rfl⟩ := Option.map_eq_some_iff.mp hx
          have tt := htt t (List.mem_of_getElem? ht)
          refine ⟨.ref b, rfl, .int t, rfl, b, .int t, ls, .int t, [], rfl, ln9.same sa, wf, rfl, fun t' he h0 h1 Hb lf bf rk sb ef tf hR => ?_, fun hno => absurd ⟨t, rfl, tt⟩ hno⟩
          injection he with he
          subst he
          refine ⟨.ref lf, rfl, lf, _, 0, .str "returned", rfl, rfl, sqL ef, atI_nat (j := 0) rfl, rfl, _, rfl, iteNS rfl ?_⟩
          refine ⟨.ref b, rfl, .int t, rfl, .ref lf, rfl, lf, _, 1, .ref bf, rfl, rfl, sqL ef, atI_nat (j := 1) rfl, b, bf, t, ls, rk, rfl, (ln9.same sa).same sb, wf, tf, hR, tt.1, tt.2, fun Hc sc => ⟨_, rfl, iteF ?_⟩⟩
          exact ⟨⟨_, _, _, _, _, _, rfl⟩, sa.trans (sb.trans sc)⟩
        · obtain ⟨⟨y2, y4, y5, y6, y7, y8, rfl⟩, sa⟩ := h
          have lna := ln9.same sa
          have Da := D8.same (s9.trans sa)
          refine ⟨1, rfl, 10, 12, rfl, rfl, ⟨by decide, by decide, by decide⟩, _, 1, rfl, rfl, by show 1 ≤ sizeLine; decide, fun p1 Hb hp1 sb tb => ⟨by show 0 ≤ sizeLine; decide, fun l1 Hc hl1 nl1 sc ec => fun d1 Hd hd1 sd ed => ⟨10, 59, rfl, rfl, ⟨by decide, by decide, by decide⟩, by show 10 ≤ sizeLine; decide, fun L3 He hL3 _ se eL3 => ?_⟩⟩⟩
          have Db := Da.same sb
          have ban1 : l1 ∉ [d, p, sysModules] := by
            simp only [List.mem_cons, List.not_mem_nil, or_false, not_or]
            exact ⟨Db.ned hl1, Db.nep hl1, nl1⟩
          have sbe := sc.trans (sd.trans se)
          have hR : RpAll He [d, p, sysModules] [.int (-1), .int 1000000000001, .bool true, .bool false, .none, .str "0", .tuple [.int 0], .list [], .dict [], .int (10 ^ 59)] [.int (-1), .int 1000000000001, .bl true, .bl false, .non, .str "0", .ref p1, .ref l1, .ref d1, .int (10 ^ 59)] :=
            ⟨_, _, rfl, rfl, _, _, rfl, rfl, _, _, rfl, rfl, _, _, rfl, rfl, _, _, rfl, rfl, _, _, rfl, rfl, _, _, rfl, ⟨p1, _, rfl, tb.same sbe, _, _, rfl, rfl, rfl⟩, _, _, rfl, ⟨l1, _, rfl, (sd.trans se) _ _ ec, ban1, rfl⟩, _, _, rfl, ⟨rfl, d1, rfl, se _ _ ed⟩, _, _, rfl, rfl, rfl⟩
          have hW : ∀ e ∈ ([.int (-1), .int 1000000000001, .bool true, .bool false, .none, .str "0", .tuple [.int 0], .list [], .dict [], .int (10 ^ 59)] : List PyData), Wf 16 2 e ∧ sz e ≤ 1000 ∧ ¬ IsPl e := by
            intro e he
            simp only [List.mem_cons, List.not_mem_nil, or_false] at he
            rcases he with rfl | rfl | rfl | rfl | rfl | rfl | rfl | rfl | rfl | rfl
            · exact ⟨Wf.leaf (by show (-1 : Int).natAbs ≤ 10 ^ 59 + 16; decide), by show 1 ≤ 1000; decide, fun ⟨j, hj, h0, h1⟩ => by injection hj with hj; omega⟩
            · exact ⟨Wf.leaf (by show (1000000000001 : Int).natAbs ≤ 10 ^ 59 + 16; decide), by show 1 ≤ 1000; decide, fun ⟨j, hj, h0, h1⟩ => by injection hj with hj; omega⟩
            · exact ⟨Wf.leaf trivial, by show 1 ≤ 1000; decide, fun ⟨j, hj, _⟩ => by cases hj⟩
            · exact ⟨Wf.leaf trivial, by show 1 ≤ 1000; decide, fun ⟨j, hj, _⟩ => by cases hj⟩
            · exact ⟨Wf.leaf trivial, by show 1 ≤ 1000; decide, fun ⟨j, hj, _⟩ => by cases hj⟩
            · exact ⟨Wf.leaf ⟨by decide, by decide⟩, by show 1 ≤ 1000; decide, fun ⟨j, hj, _⟩ => by cases hj⟩
            · refine ⟨Wf.tup (by decide) fun e he => ?_, by decide, fun ⟨j, hj, _⟩ => by cases hj⟩
              rw [List.mem_singleton.mp he]
              exact Wf.leaf (by show (0 : Int).natAbs ≤ 10 ^ 59 + 16; decide)
            · exact ⟨Wf.lst (by decide) fun e he => absurd he (by simp), by decide, fun ⟨j, hj, _⟩ => by cases hj⟩
            · exact ⟨.inr (.inl rfl), by decide, fun ⟨j, hj, _⟩ => by cases hj⟩
            · exact ⟨Wf.leaf (by show ((10 : Int) ^ 59).natAbs ≤ 10 ^ 59 + 16; decide), by show 1 ≤ 1000; decide, fun ⟨j, hj, h0, h1⟩ => by injection hj with hj; rw [← hj] at h1; exact absurd h1 (by decide)⟩
          have eL3 : He L3 = some (.lst [.int (-1), .int 1000000000001, .bl true, .bl false, .non, .str "0", .ref p1, .ref l1, .ref d1, .int (10 ^ 59)]) := eL3
          have De := Db.same sbe
          have lne := lna.same (sb.trans sbe)
          generalize ([.int (-1), .int 1000000000001, .bool true, .bool false, .none, .str "0", .tuple [.int 0], .list [], .dict [], .int (10 ^ 59)] : List PyData) = fs at hR hW
          generalize ([.int (-1), .int 1000000000001, .bl true, .bl false, .non, .str "0", .ref p1, .ref l1, .ref d1, .int (10 ^ 59)] : List V) = zs at hR eL3
          refine ⟨L3, rfl, ⟨_, sqL eL3⟩, for_list (K := K) (a := L3) (xs := zs) (fun m σ Hf => (∃ y2 y4 y5 y6 y7 y8, σ = [some (.ref a), some (.ref d), y2, some (.ref b), y4, y5, y6, y7, y8]) ∧ Same He Hf) ⟨⟨_, _, _, _, _, _, rfl⟩, Same.refl _⟩ (fun m σ Hf _ h => h.2.seq (sqL eL3)) (fun m x σ Hf hx h => ?_) (fun σ Hf h => ?_)⟩
          · obtain ⟨⟨y2, y4, y5, y6, y7, y8, rfl⟩, sf⟩ := h
            obtain ⟨e, he, hre⟩ := hR.get hx
            obtain ⟨hw, hz, hno⟩ := hW e (List.mem_of_getElem? he)
            have rp := hre.same sf
            have Df := De.same sf
            have wl : Wf 16 3 (.list [.str "NoTaster", e]) ∧ sz (.list [.str "NoTaster", e]) ≤ 2000 := by
              refine ⟨Wf.lst (by show 2 ≤ 16; decide) fun x hx => ?_, ?_⟩
              · simp only [List.mem_cons, List.not_mem_nil, or_false] at hx
                rcases hx with rfl | rfl
                · exact Wf.leaf ⟨by decide, by decide⟩
                · exact hw
              · show 1 + (1 + (sz e + 0)) ≤ 2000
                omega
            obtain ⟨r1, r2, r3⟩ := wl.1.shownS (by decide)
            have r4 := shown_fits r1 wl.2 (by decide)
            refine ⟨.ref b, rfl, x, rfl, b, x, ls, e, _, rfl, lne.same sf, wf, rp, fun t he' h0 h1 => absurd ⟨t, he', h0, h1⟩ hno, fun _ Hg lg sg hlg nlg eg => ?_⟩
            have Dg := Df.same sg
            have rl : Rp Hg [d, p, sysModules] (.list [.str "NoTaster", e]) (.ref lg) := ⟨lg, _, rfl, eg, by simp only [List.mem_cons, List.not_mem_nil, or_false, not_or]; exact ⟨Df.ned hlg, Df.nep hlg, nlg⟩, _, _, rfl, rfl, _, _, rfl, rp.same sg, rfl⟩
            refine ⟨.ref lg, _, _, rfl, by simp, rl, r2, by omega, r4, x, rfl, by show 2 ≤ sizeLine; decide, fun lh Hh hlh nlh sh eh => ?_⟩
            have rl2 : Rp Hh [d, p, sysModules] (.list [.str "NoTaster", e]) (.ref lh) := ⟨lh, _, rfl, eh, by simp only [List.mem_cons, List.not_mem_nil, or_false, not_or]; exact ⟨Dg.ned hlh, Dg.nep hlh, nlh⟩, _, _, rfl, rfl, _, _, rfl, rp.same (sg.trans sh), rfl⟩
            refine ⟨.ref lh, _, _, rfl, by simp, rl2, r2, by omega, r4, rfl, _, rfl, ?_⟩
            exact iteNS rfl ⟨⟨_, _, _, _, _, _, rfl⟩, sf.trans (sg.trans sh)⟩
          · obtain ⟨⟨y2, y4, y5, y6, y7, y8, rfl⟩, sf⟩ := h
            exact ⟨⟨_, _, _, _, _, _, _, rfl⟩, (De.same sf).mono (by omega)⟩
end
end TR
namespace TR
open PySem PySem.Spec PyProof.Rows L2
set_option maxHeartbeats 0 in
theorem all_mk {l : PySem.W.OpenLaw} {w : World} {K : PySem.W.Frag} {h : Heap} {mg : Str → Option Value} {fa f0 f1 f2 f3 f4 f5 f6 f7 f8 f9 f10 f11 f12 f13 f14 f15 f16 f17 f18 f19 f20 f21 : Addr} (X : K.In h) (G : h.Ns mainGlobals mg) (hfa : mg "law" = some (.ref fa))
    {od0 an0 od1 an1 od2 an2 od3 an3 od4 an4 od5 an5 od6 an6 od7 an7 od8 an8 od9 an9 od10 an10 od11 an11 od12 an12 od13 an13 od14 an14 od15 an15 od16 an16 od17 an17 od18 an18 od19 an19 od20 an20 od21 an21 : Option Addr} {sl0 sl1 sl2 sl3 sl4 sl5 sl6 sl7 sl8 sl9 sl10 sl11 sl12 sl13 sl14 sl15 sl16 sl17 sl18 sl19 sl20 sl21 : Array (Option Value)} {oc0 kV0 dc0 pm0 cd0 ct0 oc1 kV1 dc1 pm1 cd1 ct1 oc2 kV2 dc2 pm2 cd2 ct2 oc3 kV3 dc3 pm3 cd3 ct3 oc4 kV4 dc4 pm4 cd4 ct4 oc5 kV5 dc5 pm5 cd5 ct5 oc6 kV6 dc6 pm6 cd6 ct6 oc7 kV7 dc7 pm7 cd7 ct7 oc8 kV8 dc8 pm8 cd8 ct8 oc9 kV9 dc9 pm9 cd9 ct9 oc10 kV10 dc10 pm10 cd10 ct10 oc11 kV11 dc11 pm11 cd11 ct11 oc12 kV12 dc12 pm12 cd12 ct12 oc13 kV13 dc13 pm13 cd13 ct13 oc14 kV14 dc14 pm14 cd14 ct14 oc15 kV15 dc15 pm15 cd15 ct15 oc16 kV16 dc16 pm16 cd16 ct16 oc17 kV17 dc17 pm17 cd17 ct17 oc18 kV18 dc18 pm18 cd18 ct18 oc19 kV19 dc19 pm19 cd19 ct19 oc20 kV20 dc20 pm20 cd20 ct20 oc21 kV21 dc21 pm21 cd21 ct21 : Value}
    (a0 : PySem.W.nsIn K mainGlobals "is_whole" = some (some (.ref f0))) (l0 : K.lookup f0 = some ⟨oc0, od0, .func (PySem.W.fnOf "is_whole" "is_whole" (defArgs sWhole) (defBody sWhole) (defScope sWhole) .none kV0 dc0 pm0 an0 cd0 ct0), sl0⟩) (c0 : PySem.W.codeIn K cd0 "is_whole" = true) (k0 : PySem.W.keepIn K (.ref f0) = true)
    (a1 : PySem.W.nsIn K mainGlobals "is_within" = some (some (.ref f1))) (l1 : K.lookup f1 = some ⟨oc1, od1, .func (PySem.W.fnOf "is_within" "is_within" (defArgs sWithin) (defBody sWithin) (defScope sWithin) .none kV1 dc1 pm1 an1 cd1 ct1), sl1⟩) (c1 : PySem.W.codeIn K cd1 "is_within" = true) (k1 : PySem.W.keepIn K (.ref f1) = true)
    (a2 : PySem.W.nsIn K mainGlobals "is_line_dish" = some (some (.ref f2))) (l2 : K.lookup f2 = some ⟨oc2, od2, .func (PySem.W.fnOf "is_line_dish" "is_line_dish" (defArgs sIsLd) (defBody sIsLd) (defScope sIsLd) .none kV2 dc2 pm2 an2 cd2 ct2), sl2⟩) (c2 : PySem.W.codeIn K cd2 "is_line_dish" = true) (k2 : PySem.W.keepIn K (.ref f2) = true)
    (a3 : PySem.W.nsIn K mainGlobals "is_line" = some (some (.ref f3))) (l3 : K.lookup f3 = some ⟨oc3, od3, .func (PySem.W.fnOf "is_line" "is_line" (defArgs sIsLine) (defBody sIsLine) (defScope sIsLine) .none kV3 dc3 pm3 an3 cd3 ct3), sl3⟩) (c3 : PySem.W.codeIn K cd3 "is_line" = true) (k3 : PySem.W.keepIn K (.ref f3) = true)
    (a4 : PySem.W.nsIn K mainGlobals "is_place" = some (some (.ref f4))) (l4 : K.lookup f4 = some ⟨oc4, od4, .func (PySem.W.fnOf "is_place" "is_place" (defArgs sIsPlace) (defBody sIsPlace) (defScope sIsPlace) .none kV4 dc4 pm4 an4 cd4 ct4), sl4⟩) (c4 : PySem.W.codeIn K cd4 "is_place" = true) (k4 : PySem.W.keepIn K (.ref f4) = true)
    (a5 : PySem.W.nsIn K mainGlobals "line_ranking" = some (some (.ref f5))) (l5 : K.lookup f5 = some ⟨oc5, od5, .func (PySem.W.fnOf "line_ranking" "line_ranking" (defArgs sLineRk) (defBody sLineRk) (defScope sLineRk) .none kV5 dc5 pm5 an5 cd5 ct5), sl5⟩) (c5 : PySem.W.codeIn K cd5 "line_ranking" = true) (k5 : PySem.W.keepIn K (.ref f5) = true)
    (a6 : PySem.W.nsIn K mainGlobals "_law_deck" = some (some (.ref f6))) (l6 : K.lookup f6 = some ⟨oc6, od6, .func (PySem.W.fnOf "_law_deck" "_law_deck" (defArgs sDeck) (defBody sDeck) (defScope sDeck) .none kV6 dc6 pm6 an6 cd6 ct6), sl6⟩) (c6 : PySem.W.codeIn K cd6 "_law_deck" = true) (k6 : PySem.W.keepIn K (.ref f6) = true)
    (a7 : PySem.W.nsIn K mainGlobals "_law_next" = some (some (.ref f7))) (l7 : K.lookup f7 = some ⟨oc7, od7, .func (PySem.W.fnOf "_law_next" "_law_next" (defArgs sNext) (defBody sNext) (defScope sNext) .none kV7 dc7 pm7 an7 cd7 ct7), sl7⟩) (c7 : PySem.W.codeIn K cd7 "_law_next" = true) (k7 : PySem.W.keepIn K (.ref f7) = true)
    (a8 : PySem.W.nsIn K mainGlobals "_law_one" = some (some (.ref f8))) (l8 : K.lookup f8 = some ⟨oc8, od8, .func (PySem.W.fnOf "_law_one" "_law_one" (defArgs sOne) (defBody sOne) (defScope sOne) .none kV8 dc8 pm8 an8 cd8 ct8), sl8⟩) (c8 : PySem.W.codeIn K cd8 "_law_one" = true) (k8 : PySem.W.keepIn K (.ref f8) = true)
    (a9 : PySem.W.nsIn K mainGlobals "_law_whole" = some (some (.ref f9))) (l9 : K.lookup f9 = some ⟨oc9, od9, .func (PySem.W.fnOf "_law_whole" "_law_whole" (defArgs sLWhole) (defBody sLWhole) (defScope sLWhole) .none kV9 dc9 pm9 an9 cd9 ct9), sl9⟩) (c9 : PySem.W.codeIn K cd9 "_law_whole" = true) (k9 : PySem.W.keepIn K (.ref f9) = true)
    (a10 : PySem.W.nsIn K mainGlobals "_law_same" = some (some (.ref f10))) (l10 : K.lookup f10 = some ⟨oc10, od10, .func (PySem.W.fnOf "_law_same" "_law_same" (defArgs sSame) (defBody sSame) (defScope sSame) .none kV10 dc10 pm10 an10 cd10 ct10), sl10⟩) (c10 : PySem.W.codeIn K cd10 "_law_same" = true) (k10 : PySem.W.keepIn K (.ref f10) = true)
    (a11 : PySem.W.nsIn K mainGlobals "_law_odd" = some (some (.ref f11))) (l11 : K.lookup f11 = some ⟨oc11, od11, .func (PySem.W.fnOf "_law_odd" "_law_odd" (defArgs sOdd) (defBody sOdd) (defScope sOdd) .none kV11 dc11 pm11 an11 cd11 ct11), sl11⟩) (c11 : PySem.W.codeIn K cd11 "_law_odd" = true) (k11 : PySem.W.keepIn K (.ref f11) = true)
    (a12 : PySem.W.nsIn K mainGlobals "_law_bent" = some (some (.ref f12))) (l12 : K.lookup f12 = some ⟨oc12, od12, .func (PySem.W.fnOf "_law_bent" "_law_bent" (defArgs sBent) (defBody sBent) (defScope sBent) .none kV12 dc12 pm12 an12 cd12 ct12), sl12⟩) (c12 : PySem.W.codeIn K cd12 "_law_bent" = true) (k12 : PySem.W.keepIn K (.ref f12) = true)
    (a13 : PySem.W.nsIn K mainGlobals "_law_is_list" = some (some (.ref f13))) (l13 : K.lookup f13 = some ⟨oc13, od13, .func (PySem.W.fnOf "_law_is_list" "_law_is_list" (defArgs sIsList) (defBody sIsList) (defScope sIsList) .none kV13 dc13 pm13 an13 cd13 ct13), sl13⟩) (c13 : PySem.W.codeIn K cd13 "_law_is_list" = true) (k13 : PySem.W.keepIn K (.ref f13) = true)
    (a14 : PySem.W.nsIn K mainGlobals "_law_line" = some (some (.ref f14))) (l14 : K.lookup f14 = some ⟨oc14, od14, .func (PySem.W.fnOf "_law_line" "_law_line" (defArgs sLine) (defBody sLine) (defScope sLine) .none kV14 dc14 pm14 an14 cd14 ct14), sl14⟩) (c14 : PySem.W.codeIn K cd14 "_law_line" = true) (k14 : PySem.W.keepIn K (.ref f14) = true)
    (a15 : PySem.W.nsIn K mainGlobals "_law_meeting" = some (some (.ref f15))) (l15 : K.lookup f15 = some ⟨oc15, od15, .func (PySem.W.fnOf "_law_meeting" "_law_meeting" (defArgs sMeeting) (defBody sMeeting) (defScope sMeeting) .none kV15 dc15 pm15 an15 cd15 ct15), sl15⟩) (c15 : PySem.W.codeIn K cd15 "_law_meeting" = true) (k15 : PySem.W.keepIn K (.ref f15) = true)
    (a16 : PySem.W.nsIn K mainGlobals "_law_raised" = some (some (.ref f16))) (l16 : K.lookup f16 = some ⟨oc16, od16, .func (PySem.W.fnOf "_law_raised" "_law_raised" (defArgs sRaised) (defBody sRaised) (defScope sRaised) .none kV16 dc16 pm16 an16 cd16 ct16), sl16⟩) (c16 : PySem.W.codeIn K cd16 "_law_raised" = true) (k16 : PySem.W.keepIn K (.ref f16) = true)
    (a17 : PySem.W.nsIn K mainGlobals "_law_is_line" = some (some (.ref f17))) (l17 : K.lookup f17 = some ⟨oc17, od17, .func (PySem.W.fnOf "_law_is_line" "_law_is_line" (defArgs sLIsLine) (defBody sLIsLine) (defScope sLIsLine) .none kV17 dc17 pm17 an17 cd17 ct17), sl17⟩) (c17 : PySem.W.codeIn K cd17 "_law_is_line" = true) (k17 : PySem.W.keepIn K (.ref f17) = true)
    (a18 : PySem.W.nsIn K mainGlobals "_law_answer" = some (some (.ref f18))) (l18 : K.lookup f18 = some ⟨oc18, od18, .func (PySem.W.fnOf "_law_answer" "_law_answer" (defArgs sAnswer58) (defBody sAnswer58) (defScope sAnswer58) .none kV18 dc18 pm18 an18 cd18 ct18), sl18⟩) (c18 : PySem.W.codeIn K cd18 "_law_answer" = true) (k18 : PySem.W.keepIn K (.ref f18) = true)
    (a19 : PySem.W.nsIn K mainGlobals "_law_ordered" = some (some (.ref f19))) (l19 : K.lookup f19 = some ⟨oc19, od19, .func (PySem.W.fnOf "_law_ordered" "_law_ordered" (defArgs sOrdered) (defBody sOrdered) (defScope sOrdered) .none kV19 dc19 pm19 an19 cd19 ct19), sl19⟩) (c19 : PySem.W.codeIn K cd19 "_law_ordered" = true) (k19 : PySem.W.keepIn K (.ref f19) = true)
    (a20 : PySem.W.nsIn K mainGlobals "_law_values" = some (some (.ref f20))) (l20 : K.lookup f20 = some ⟨oc20, od20, .func (PySem.W.fnOf "_law_values" "_law_values" (defArgs sValues58) (defBody sValues58) (defScope sValues58) .none kV20 dc20 pm20 an20 cd20 ct20), sl20⟩) (c20 : PySem.W.codeIn K cd20 "_law_values" = true) (k20 : PySem.W.keepIn K (.ref f20) = true)
    (a21 : PySem.W.nsIn K mainGlobals "law" = some (some (.ref f21))) (l21 : K.lookup f21 = some ⟨oc21, od21, .func (PySem.W.fnOf "law" "law" (defArgs sLaw) (defBody sLaw) (defScope sLaw) .none kV21 dc21 pm21 an21 cd21 ct21), sl21⟩) (c21 : PySem.W.codeIn K cd21 "law" = true) (k21 : PySem.W.keepIn K (.ref f21) = true)
    {tc0 : Tok} (zc0 : PySem.W.nsIn K mainGlobals "MAX_DISHES" = some (some (.int 8 tc0)))
    {tc1 : Tok} (zc1 : PySem.W.nsIn K mainGlobals "MAX_WEIGHT" = some (some (.int 1000000000000 tc1)))
    {c_TasteError c_NoMenu c_NotSeatable c_NoSeating c_NoCuts c_NoSize c_NoDish c_NoRanking c_NoTaster c_NoSpan c_NoPlaces i_NoTaster : Addr}
    (eB : PySem.W.nsIn K mainGlobals "TasteError" = some (some (.ref c_TasteError)))
    (eBs : PySem.W.subIn K (.ref c_TasteError) (.type "BaseException") = some true)
    (eBd : PySem.W.hasDictIn K c_TasteError = true)
    (eBt : PySem.W.typeIn K (.ref c_TasteError) = some (.type "type"))
    (ehn : PySem.W.specialIn K (.builtin "object.__class__") "__get__" = some (some (.builtin "getset_descriptor.__get__")))
    (eht : PySem.W.takesIn K (.builtin "object.__class__") = some true)
    (n_NoMenu : PySem.W.nsIn K mainGlobals "NoMenu" = some (some (.ref c_NoMenu)))
    (n_NotSeatable : PySem.W.nsIn K mainGlobals "NotSeatable" = some (some (.ref c_NotSeatable)))
    (n_NoSeating : PySem.W.nsIn K mainGlobals "NoSeating" = some (some (.ref c_NoSeating)))
    (n_NoCuts : PySem.W.nsIn K mainGlobals "NoCuts" = some (some (.ref c_NoCuts)))
    (n_NoSize : PySem.W.nsIn K mainGlobals "NoSize" = some (some (.ref c_NoSize)))
    (n_NoDish : PySem.W.nsIn K mainGlobals "NoDish" = some (some (.ref c_NoDish)))
    (n_NoRanking : PySem.W.nsIn K mainGlobals "NoRanking" = some (some (.ref c_NoRanking)))
    (n_NoTaster : PySem.W.nsIn K mainGlobals "NoTaster" = some (some (.ref c_NoTaster)))
    (n_NoSpan : PySem.W.nsIn K mainGlobals "NoSpan" = some (some (.ref c_NoSpan)))
    (n_NoPlaces : PySem.W.nsIn K mainGlobals "NoPlaces" = some (some (.ref c_NoPlaces)))
    (ga_NoTaster : PySem.W.findIn K (.ref c_NoTaster) "__getattribute__" = some (some (.builtin "BaseException.__getattribute__")))
    (gg_NoTaster : PySem.W.findIn K (.ref c_NoTaster) "__getattr__" = some none)
    (ex_NoTaster : PySem.W.subIn K (.ref c_NoTaster) (.type "BaseException") = some true)
    (hd_NoTaster : PySem.W.hasDictIn K c_NoTaster = true)
    (ha_NoTaster : PySem.W.findIn K (.ref c_NoTaster) "__class__" = some (some (.builtin "object.__class__")))
    (hm_NoTaster : PySem.W.mroIn K c_NoTaster (.type "object") = some true)
    (kp_NoTaster : PySem.W.keepIn K (.ref c_NoTaster) = true)
    (ty_NoTaster : PySem.W.typeIn K (.ref c_NoTaster) = some (.type "type"))
    (sb_NoTaster : PySem.W.subIn K (.ref c_NoTaster) (.ref c_TasteError) = some true)
    {nmNt qnNt : Str} {NNNt : Addr} {bsNt : List Value} {snNt : List Str} {subNt : List Value} {abNt : Bool} {colNt : Option Bool} {ddNt : Option Addr} {xaNt xbNt xeNt xfNt xgNt : Option Value} {odNtI anNtI : Option Addr} {slNtI : Array (Option Value)} {ocNtI dcNtI pmNtI cdNtI ctNtI : Value}
    (L_NoTaster : K.lookup c_NoTaster = some (excClassObj nmNt qnNt c_NoTaster NNNt bsNt [.ref c_TasteError, .type "ValueError", .type "Exception", .type "BaseException", .type "object"] true snNt subNt abNt colNt ddNt xaNt xbNt xeNt xfNt xgNt "ValueError.__new__"))
    (sa_NoTaster : PySem.W.findIn K (.ref c_NoTaster) "__setattr__" = some (some (.builtin "object.__setattr__")))
    (nf_NoTaster : PySem.W.findIn K (.ref c_NoTaster) "taster" = some none)
    (in_NoTaster : PySem.W.findIn K (.ref c_NoTaster) "__init__" = some (some (.ref i_NoTaster)))
    (tf_NoTaster : PySem.W.typeIn K (.ref i_NoTaster) = some (.type "function"))
    (lf_NoTaster : K.lookup i_NoTaster = some ⟨ocNtI, odNtI, .func (PySem.W.fnOf "__init__" "NoTaster.__init__" (PySem.NtX.iA ⟨10, 17, 10, 21⟩ ⟨10, 23, 10, 29⟩) (PySem.NtX.iB ⟨11, 8, 11, 12⟩ ⟨11, 8, 11, 19⟩ ⟨11, 22, 11, 28⟩ ⟨11, 8, 11, 28⟩) PySem.NtX.iS .none .none dcNtI pmNtI anNtI cdNtI ctNtI), slNtI⟩)
    (cf_NoTaster : PySem.W.codeIn K cdNtI "NoTaster.__init__" = true)
    (ss_NoTaster : PySem.W.subIn K (.ref c_NoTaster) (.ref c_NoTaster) = some true)
    (kt_7_0 : PySem.W.kitOne K (.ref c_NoTaster) (.ref c_NoMenu) = some false)
    (kt_7_1 : PySem.W.kitOne K (.ref c_NoTaster) (.ref c_NotSeatable) = some false)
    (kt_7_2 : PySem.W.kitOne K (.ref c_NoTaster) (.ref c_NoSeating) = some false)
    (kt_7_3 : PySem.W.kitOne K (.ref c_NoTaster) (.ref c_NoCuts) = some false)
    (kt_7_4 : PySem.W.kitOne K (.ref c_NoTaster) (.ref c_NoSize) = some false)
    (kt_7_5 : PySem.W.kitOne K (.ref c_NoTaster) (.ref c_NoDish) = some false)
    (kt_7_6 : PySem.W.kitOne K (.ref c_NoTaster) (.ref c_NoRanking) = some false)
    (kt_7_7 : PySem.W.kitOne K (.ref c_NoTaster) (.ref c_NoTaster) = some true)
    (kt_7_8 : PySem.W.kitOne K (.ref c_NoTaster) (.ref c_NoSpan) = some false)
    (kt_7_9 : PySem.W.kitOne K (.ref c_NoTaster) (.ref c_NoPlaces) = some false)
    (kv_7 : PySem.W.kitOne K (.ref c_NoTaster) (.type "ValueError") = some true)
    (z0 : PySem.W.nsIn K mainGlobals "abs" = some none) (z1 : PySem.W.nsIn K mainGlobals "len" = some none) (z2 : PySem.W.nsIn K mainGlobals "range" = some none) (z3 : PySem.W.nsIn K mainGlobals "list" = some none) (z4 : PySem.W.nsIn K mainGlobals "tuple" = some none) (z5 : PySem.W.nsIn K mainGlobals "int" = some none) (z6 : PySem.W.nsIn K mainGlobals "isinstance" = some none) (z7 : PySem.W.nsIn K mainGlobals "dict" = some none) (z8 : PySem.W.nsIn K mainGlobals "str" = some none) (z9 : PySem.W.nsIn K mainGlobals "bool" = some none) (z10 : PySem.W.nsIn K mainGlobals "all" = some none) (z11 : PySem.W.nsIn K mainGlobals "sorted" = some none) (z12 : PySem.W.nsIn K mainGlobals "repr" = some none) (z13 : PySem.W.nsIn K mainGlobals "sum" = some none) (z14 : PySem.W.nsIn K mainGlobals "min" = some none) (z15 : PySem.W.nsIn K mainGlobals "enumerate" = some none) (z16 : PySem.W.nsIn K mainGlobals "set" = some none) (z17 : PySem.W.nsIn K mainGlobals "ValueError" = some none) (z18 : PySem.W.nsIn K mainGlobals "max" = some none) :
    ∃ fd : FuncData, (∀ (s : Shared) (v : Value), BindsTo s fd ⟨[v], []⟩ [("_law_script", v)]) ∧ ∀ base : Heap, K.In base → base.Ns mainGlobals mg → RunG l.prog w K mg base 8 fa fd ["_law_script"] (spLaw K) := by
  have e := hfa.symm.trans (PySem.W.mg_of X G a21)
  cases e
  have F0 := fun_mk (st := sWhole) l0 c0 k0
  have F1 := fun_mk (st := sWithin) l1 c1 k1
  have F2 := fun_mk (st := sIsLd) l2 c2 k2
  have F3 := fun_mk (st := sIsLine) l3 c3 k3
  have F4 := fun_mk (st := sIsPlace) l4 c4 k4
  have F5 := fun_mk (st := sLineRk) l5 c5 k5
  have F6 := fun_mk (st := sDeck) l6 c6 k6
  have F7 := fun_mk (st := sNext) l7 c7 k7
  have F8 := fun_mk (st := sOne) l8 c8 k8
  have F9 := fun_mk (st := sLWhole) l9 c9 k9
  have F10 := fun_mk (st := sSame) l10 c10 k10
  have F11 := fun_mk (st := sOdd) l11 c11 k11
  have F12 := fun_mk (st := sBent) l12 c12 k12
  have F13 := fun_mk (st := sIsList) l13 c13 k13
  have F14 := fun_mk (st := sLine) l14 c14 k14
  have F15 := fun_mk (st := sMeeting) l15 c15 k15
  have F16 := fun_mk (st := sRaised) l16 c16 k16
  have F17 := fun_mk (st := sLIsLine) l17 c17 k17
  have F18 := fun_mk (st := sAnswer58) l18 c18 k18
  have F19 := fun_mk (st := sOrdered) l19 c19 k19
  have F20 := fun_mk (st := sValues58) l20 c20 k20
  have F21 := fun_mk (st := sLaw) l21 c21 k21
  have b0 := F0.binds (ps := ["value"]) fun _ _ _ _ _ _ us hl => match us, hl with | [_], _ => rfl
  have b1 := F1.binds (ps := ["value", "low", "high"]) fun _ _ _ _ _ _ us hl => match us, hl with | [_, _, _], _ => rfl
  have b2 := F2.binds (ps := ["value"]) fun _ _ _ _ _ _ us hl => match us, hl with | [_], _ => rfl
  have b3 := F3.binds (ps := ["value"]) fun _ _ _ _ _ _ us hl => match us, hl with | [_], _ => rfl
  have b4 := F4.binds (ps := ["value"]) fun _ _ _ _ _ _ us hl => match us, hl with | [_], _ => rfl
  have b5 := F5.binds (ps := ["line", "t"]) fun _ _ _ _ _ _ us hl => match us, hl with | [_, _], _ => rfl
  have b6 := F6.binds (ps := ["_law_script"]) fun _ _ _ _ _ _ us hl => match us, hl with | [_], _ => rfl
  have b7 := F7.binds (ps := ["_law_deck_here", "_law_many"]) fun _ _ _ _ _ _ us hl => match us, hl with | [_, _], _ => rfl
  have b8 := F8.binds (ps := ["_law_deck_here", "_law_some"]) fun _ _ _ _ _ _ us hl => match us, hl with | [_, _], _ => rfl
  have b9 := F9.binds (ps := ["_law_thing"]) fun _ _ _ _ _ _ us hl => match us, hl with | [_], _ => rfl
  have b10 := F10.binds (ps := ["_law_found", "_law_due"]) fun _ _ _ _ _ _ us hl => match us, hl with | [_, _], _ => rfl
  have b11 := F11.binds (ps := ["_law_deck_here"]) fun _ _ _ _ _ _ us hl => match us, hl with | [_], _ => rfl
  have b12 := F12.binds (ps := ["_law_deck_here", "_law_thing", "_law_deep"]) fun _ _ _ _ _ _ us hl => match us, hl with | [_, _, _], _ => rfl
  have b13 := F13.binds (ps := ["_law_dishes", "_law_thing"]) fun _ _ _ _ _ _ us hl => match us, hl with | [_, _], _ => rfl
  have b14 := F14.binds (ps := ["_law_deck_here", "_law_dishes"]) fun _ _ _ _ _ _ us hl => match us, hl with | [_, _], _ => rfl
  have b15 := F15.binds (ps := ["_law_deck_here", "_law_line_here"]) fun _ _ _ _ _ _ us hl => match us, hl with | [_, _], _ => rfl
  have b16 := F16.binds (ps := ["_law_error"]) fun _ _ _ _ _ _ us hl => match us, hl with | [_], _ => rfl
  have b17 := F17.binds (ps := ["_law_value"]) fun _ _ _ _ _ _ us hl => match us, hl with | [_], _ => rfl
  have b18 := F18.binds (ps := ["_law_line_here", "_law_t"]) fun _ _ _ _ _ _ us hl => match us, hl with | [_, _], _ => rfl
  have b19 := F19.binds (ps := ["_law_line_here", "_law_t", "_law_ranking"]) fun _ _ _ _ _ _ us hl => match us, hl with | [_, _, _], _ => rfl
  have b20 := F20.binds (ps := ["_law_deck_here", "_law_line_here"]) fun _ _ _ _ _ _ us hl => match us, hl with | [_, _], _ => rfl
  have g0 := PySem.W.mg_of X G a0
  have g1 := PySem.W.mg_of X G a1
  have g2 := PySem.W.mg_of X G a2
  have g3 := PySem.W.mg_of X G a3
  have g4 := PySem.W.mg_of X G a4
  have g5 := PySem.W.mg_of X G a5
  have g6 := PySem.W.mg_of X G a6
  have g7 := PySem.W.mg_of X G a7
  have g8 := PySem.W.mg_of X G a8
  have g9 := PySem.W.mg_of X G a9
  have g10 := PySem.W.mg_of X G a10
  have g11 := PySem.W.mg_of X G a11
  have g12 := PySem.W.mg_of X G a12
  have g13 := PySem.W.mg_of X G a13
  have g14 := PySem.W.mg_of X G a14
  have g15 := PySem.W.mg_of X G a15
  have g16 := PySem.W.mg_of X G a16
  have g17 := PySem.W.mg_of X G a17
  have g18 := PySem.W.mg_of X G a18
  have g19 := PySem.W.mg_of X G a19
  have g20 := PySem.W.mg_of X G a20
  have g21 := PySem.W.mg_of X G a21
  have m_abs := PySem.W.mg_none_of X G z0
  have m_len := PySem.W.mg_none_of X G z1
  have m_range := PySem.W.mg_none_of X G z2
  have m_list := PySem.W.mg_none_of X G z3
  have m_tuple := PySem.W.mg_none_of X G z4
  have m_int := PySem.W.mg_none_of X G z5
  have m_isinstance := PySem.W.mg_none_of X G z6
  have m_dict := PySem.W.mg_none_of X G z7
  have m_str := PySem.W.mg_none_of X G z8
  have m_bool := PySem.W.mg_none_of X G z9
  have m_all := PySem.W.mg_none_of X G z10
  have m_sorted := PySem.W.mg_none_of X G z11
  have m_repr := PySem.W.mg_none_of X G z12
  have m_sum := PySem.W.mg_none_of X G z13
  have m_min := PySem.W.mg_none_of X G z14
  have m_enumerate := PySem.W.mg_none_of X G z15
  have m_set := PySem.W.mg_none_of X G z16
  have m_ValueError := PySem.W.mg_none_of X G z17
  have m_max := PySem.W.mg_none_of X G z18
  let cs : Nat → Addr := fun i => [c_NoMenu, c_NotSeatable, c_NoSeating, c_NoCuts, c_NoSize, c_NoDish, c_NoRanking, c_NoTaster, c_NoSpan, c_NoPlaces].getD i 0
  have RG : RsG mg cs := ⟨PySem.W.mg_of X G n_NoMenu, PySem.W.mg_of X G n_NotSeatable, PySem.W.mg_of X G n_NoSeating, PySem.W.mg_of X G n_NoCuts, PySem.W.mg_of X G n_NoSize, PySem.W.mg_of X G n_NoDish, PySem.W.mg_of X G n_NoRanking, PySem.W.mg_of X G n_NoTaster, PySem.W.mg_of X G n_NoSpan, PySem.W.mg_of X G n_NoPlaces⟩
  have gB : mg "TasteError" = some (.ref c_TasteError) := PySem.W.mg_of X G eB
  have gC_NoMenu : mg "NoMenu" = some (.ref c_NoMenu) := PySem.W.mg_of X G n_NoMenu
  have gC_NotSeatable : mg "NotSeatable" = some (.ref c_NotSeatable) := PySem.W.mg_of X G n_NotSeatable
  have gC_NoSeating : mg "NoSeating" = some (.ref c_NoSeating) := PySem.W.mg_of X G n_NoSeating
  have gC_NoCuts : mg "NoCuts" = some (.ref c_NoCuts) := PySem.W.mg_of X G n_NoCuts
  have gC_NoSize : mg "NoSize" = some (.ref c_NoSize) := PySem.W.mg_of X G n_NoSize
  have gC_NoDish : mg "NoDish" = some (.ref c_NoDish) := PySem.W.mg_of X G n_NoDish
  have gC_NoRanking : mg "NoRanking" = some (.ref c_NoRanking) := PySem.W.mg_of X G n_NoRanking
  have gC_NoTaster : mg "NoTaster" = some (.ref c_NoTaster) := PySem.W.mg_of X G n_NoTaster
  have gC_NoSpan : mg "NoSpan" = some (.ref c_NoSpan) := PySem.W.mg_of X G n_NoSpan
  have gC_NoPlaces : mg "NoPlaces" = some (.ref c_NoPlaces) := PySem.W.mg_of X G n_NoPlaces
  have te_NoTaster : PySem.W.exmOne K (.ref c_NoTaster) (.ref c_TasteError) = some true := PySem.W.exm_ref eBs eBd eBt sb_NoTaster
  have ec_NoTaster : ExcC K c_NoTaster := ⟨ga_NoTaster, gg_NoTaster, ex_NoTaster, hd_NoTaster, ha_NoTaster, ehn, eht, hm_NoTaster⟩
  have RC7 : RsC K cs 7 := ⟨ec_NoTaster, fun j hj => match j, hj with
    | 0, _ => kt_7_0
    | 1, _ => kt_7_1
    | 2, _ => kt_7_2
    | 3, _ => kt_7_3
    | 4, _ => kt_7_4
    | 5, _ => kt_7_5
    | 6, _ => kt_7_6
    | 7, _ => kt_7_7
    | 8, _ => kt_7_8
    | 9, _ => kt_7_9
    | n + 10, h => absurd h (by omega), kv_7⟩
  have T_NoTaster : PySem.NtX.NtTxt K mg c_NoTaster i_NoTaster := { gC := gC_NoTaster, cls := ⟨nmNt, qnNt, NNNt, bsNt, _, snNt, subNt, abNt, colNt, ddNt, xaNt, xbNt, xeNt, xfNt, xgNt, L_NoTaster, by first | rfl | decide +kernel⟩, sa := sa_NoTaster, ga := ga_NoTaster, gg := gg_NoTaster, noN := nf_NoTaster, iC := in_NoTaster, tC := tf_NoTaster, kC := kp_NoTaster, exC := ex_NoTaster, tyC := ty_NoTaster, hdC := hd_NoTaster, te := PySem.W.exm_ref ex_NoTaster hd_NoTaster ty_NoTaster ss_NoTaster, fn := ⟨_, _, _, _, _, _, _, _, _, _, _, _, _, _, lf_NoTaster, cf_NoTaster⟩ }
  refine ⟨PySem.W.fnOf "law" "law" (defArgs sLaw) (defBody sLaw) (defScope sLaw) .none kV21 dc21 pm21 an21 cd21 ct21, fun s v => .of_eq rfl, fun base _ _ => ?_⟩
  have GG__law_deck_7 : FnOk l.prog w K mg base CX0 7 f6 _ _ (spDeck K) := ok_deck F6 m_abs m_len
  have GG__law_next_5 : FnOk l.prog w K mg base CX0 5 f7 _ _ spNext := ok_next F7 m_len
  have GG__law_one_6 : FnOk l.prog w K mg base CX0 6 f8 _ _ spOne := ok_one F8 k7 b7 g7 GG__law_next_5 m_len
  have GG__law_next_6 : FnOk l.prog w K mg base CX0 6 f7 _ _ spNext := ok_next F7 m_len
  have GG__law_line_7 : FnOk l.prog w K mg base CX0 7 f14 _ _ spLine := ok_Line F14 k8 b8 g8 GG__law_one_6 k7 b7 g7 GG__law_next_6 m_range m_tuple
  have GG__law_odd_6 : FnOk l.prog w K mg base CX0 6 f11 _ _ spOdd := ok_odd F11 k7 b7 g7 GG__law_next_5
  have GG__law_bent_6 : FnOk l.prog w K mg base CX0 6 f12 _ _ (spBent 4) := FnOk.mono (j := 6) (ok_bent F12 b12 g12 k7 b7 g7 (fun k => ok_next F7 m_len) k11 b11 g11 (fun k => ok_odd F11 k7 b7 g7 (ok_next F7 m_len)) m_isinstance m_tuple m_len m_list m_int m_str 4) (by decide)
  have GG__law_values_7 : FnOk l.prog w K mg base CX0 7 f20 _ _ spValues58 := ok_Values58 F20 k11 b11 g11 GG__law_odd_6 k12 b12 g12 GG__law_bent_6 m_list m_range
  have GG__law_same_7 : FnOk l.prog w K mg base CX0 7 f10 _ _ (spSame K 7) := ok_same F10 b10 g10 m_isinstance m_tuple m_list m_len m_range m_dict m_str m_int m_bool 7
  have GG__law_whole_6 : FnOk l.prog w K mg base CX0 6 f9 _ _ spWhole := ok_lwhole F9 m_isinstance m_int m_bool
  have GG__law_is_line_7 : FnOk l.prog w K mg base CX0 7 f17 _ _ spIsLine := ok_LIsLine F17 k9 b9 g9 GG__law_whole_6 m_len m_isinstance m_tuple
  have GG_is_whole_4 : FnOk l.prog w K mg base CX0 4 f0 _ _ spWhole := ok_whole F0 m_isinstance m_int m_bool
  have GG_is_within_5 : FnOk l.prog w K mg base CX0 5 f1 _ _ spWithin := ok_within F1 k0 b0 g0 GG_is_whole_4
  have GG_is_line_dish_6 : FnOk l.prog w K mg base CX0 6 f2 _ _ spIsLd := ok_IsLd F2 k1 b1 g1 GG_is_within_5 m_len m_isinstance m_tuple m_all (PySem.W.mg_of X G zc1)
  have GG_is_line_7 : FnOk l.prog w K mg base CX0 7 f3 _ _ spIsLine := ok_IsLine F3 k2 b2 g2 GG_is_line_dish_6 m_len m_isinstance m_tuple m_all (PySem.W.mg_of X G zc0)
  have GG__law_next_7 : FnOk l.prog w K mg base CX0 7 f7 _ _ spNext := ok_next F7 m_len
  have GG__law_meeting_7 : FnOk l.prog w K mg base CX0 7 f15 _ _ spMeeting := ok_Meeting F15 k8 b8 g8 GG__law_one_6 k7 b7 g7 GG__law_next_6 m_max m_min
  have GG_is_whole_3 : FnOk l.prog w K mg base CX0 3 f0 _ _ spWhole := ok_whole F0 m_isinstance m_int m_bool
  have GG_is_within_4 : FnOk l.prog w K mg base CX0 4 f1 _ _ spWithin := ok_within F1 k0 b0 g0 GG_is_whole_3
  have GG_is_place_5 : FnOk l.prog w K mg base CX0 5 f4 _ _ spPlace := ok_IsPlace F4 k1 b1 g1 GG_is_within_4 (PySem.W.mg_of X G zc1)
  have GG_line_ranking_6 : FnOk l.prog w K mg base (L2.CX l.prog w) 6 f5 _ _ (spLineRk c_NoTaster) := ok_LineRk F5 k4 b4 g4 GG_is_place_5 T_NoTaster m_sorted m_enumerate m_tuple
  have GG__law_raised_6 : FnE l.prog w K mg base 6 f16 _ _ (spRs1 c_NoTaster "NoTaster" "taster") := ok_raised7 (cs := cs) F16 RG RC7 nf_NoTaster m_isinstance m_len m_ValueError
  have GG__law_answer_7 : FnOk l.prog w K mg base CX0 7 f18 _ _ spAns58 := ok_Answer58 F18 k5 b5 g5 GG_line_ranking_6 k16 b16 g16 GG__law_raised_6 gB te_NoTaster
  have GG__law_whole_5 : FnOk l.prog w K mg base CX0 5 f9 _ _ spWhole := ok_lwhole F9 m_isinstance m_int m_bool
  have GG__law_is_list_6 : FnOk l.prog w K mg base CX0 6 f13 _ _ spIsRk := ok_islist F13 k9 b9 g9 GG__law_whole_5 m_isinstance m_tuple m_len m_sorted m_list m_range
  have GG__law_ordered_7 : FnOk l.prog w K mg base CX0 7 f19 _ _ spOrdered := ok_Ordered F19 k13 b13 g13 GG__law_is_list_6 m_len m_range
  exact ok_Law F21 k6 b6 g6 GG__law_deck_7 k14 b14 g14 GG__law_line_7 k20 b20 g20 GG__law_values_7 k10 b10 g10 GG__law_same_7 k17 b17 g17 GG__law_is_line_7 k3 b3 g3 GG_is_line_7 k7 b7 g7 GG__law_next_7 k15 b15 g15 GG__law_meeting_7 k18 b18 g18 GG__law_answer_7 k19 b19 g19 GG__law_ordered_7 m_range m_repr

end TR
open PySem PySem.W PyProof.Rows
set_option maxHeartbeats 0 in
theorem PySem.Challenge.cw_tasterow_k58_lines_and_rankings_holds : PySem.Challenge.rw_tasterow_k58_lines_and_rankings.Holds := by
  w_on; o_law; k_head; (case hw => w_witness2)
  k_fill
  refine TR.walk_ofG (l := PySem.Challenge.rw_tasterow_k58_lines_and_rankings) (n := 63) (k := 8) (x := "_law_script") (sp := fun w => TR.spLaw _) rfl (by decide) rfl ⟨rfl, by decide, by decide⟩ (fun w h Y => PySem.W.kIn_of Y) ?F (fun _ _ a ns hl _ hS => ⟨a, ns, rfl, hS, hl, fun _ => rfl⟩)
  case F =>
    intro w mg fa h KX G hmg
    refine' TR.all_mk KX G hmg ?a0 ?l0 ?c0 ?k0 ?a1 ?l1 ?c1 ?k1 ?a2 ?l2 ?c2 ?k2 ?a3 ?l3 ?c3 ?k3 ?a4 ?l4 ?c4 ?k4 ?a5 ?l5 ?c5 ?k5 ?a6 ?l6 ?c6 ?k6 ?a7 ?l7 ?c7 ?k7 ?a8 ?l8 ?c8 ?k8 ?a9 ?l9 ?c9 ?k9 ?a10 ?l10 ?c10 ?k10 ?a11 ?l11 ?c11 ?k11 ?a12 ?l12 ?c12 ?k12 ?a13 ?l13 ?c13 ?k13 ?a14 ?l14 ?c14 ?k14 ?a15 ?l15 ?c15 ?k15 ?a16 ?l16 ?c16 ?k16 ?a17 ?l17 ?c17 ?k17 ?a18 ?l18 ?c18 ?k18 ?a19 ?l19 ?c19 ?k19 ?a20 ?l20 ?c20 ?k20 ?a21 ?l21 ?c21 ?k21 ?zc0 ?zc1 ?eB ?eBs ?eBd ?eBt ?ehn ?eht ?n_NoMenu ?n_NotSeatable ?n_NoSeating ?n_NoCuts ?n_NoSize ?n_NoDish ?n_NoRanking ?n_NoTaster ?n_NoSpan ?n_NoPlaces ?ga_NoTaster ?gg_NoTaster ?ex_NoTaster ?hd_NoTaster ?ha_NoTaster ?hm_NoTaster ?kp_NoTaster ?ty_NoTaster ?sb_NoTaster ?L_NoTaster ?sa_NoTaster ?nf_NoTaster ?in_NoTaster ?tf_NoTaster ?lf_NoTaster ?cf_NoTaster ?ss_NoTaster ?kt_7_0 ?kt_7_1 ?kt_7_2 ?kt_7_3 ?kt_7_4 ?kt_7_5 ?kt_7_6 ?kt_7_7 ?kt_7_8 ?kt_7_9 ?kv_7 ?z0 ?z1 ?z2 ?z3 ?z4 ?z5 ?z6 ?z7 ?z8 ?z9 ?z10 ?z11 ?z12 ?z13 ?z14 ?z15 ?z16 ?z17 ?z18
    (case a0 => k_is); (case l0 => k_is); (case c0 => k_is); (case k0 => k_is); (case a1 => k_is); (case l1 => k_is); (case c1 => k_is); (case k1 => k_is); (case a2 => k_is); (case l2 => k_is); (case c2 => k_is); (case k2 => k_is); (case a3 => k_is); (case l3 => k_is); (case c3 => k_is); (case k3 => k_is); (case a4 => k_is); (case l4 => k_is); (case c4 => k_is); (case k4 => k_is); (case a5 => k_is); (case l5 => k_is); (case c5 => k_is); (case k5 => k_is); (case a6 => k_is); (case l6 => k_is); (case c6 => k_is); (case k6 => k_is); (case a7 => k_is); (case l7 => k_is); (case c7 => k_is); (case k7 => k_is); (case a8 => k_is); (case l8 => k_is); (case c8 => k_is); (case k8 => k_is); (case a9 => k_is); (case l9 => k_is); (case c9 => k_is); (case k9 => k_is); (case a10 => k_is); (case l10 => k_is); (case c10 => k_is); (case k10 => k_is); (case a11 => k_is); (case l11 => k_is); (case c11 => k_is); (case k11 => k_is); (case a12 => k_is); (case l12 => k_is); (case c12 => k_is); (case k12 => k_is); (case a13 => k_is); (case l13 => k_is); (case c13 => k_is); (case k13 => k_is); (case a14 => k_is); (case l14 => k_is); (case c14 => k_is); (case k14 => k_is); (case a15 => k_is); (case l15 => k_is); (case c15 => k_is); (case k15 => k_is); (case a16 => k_is); (case l16 => k_is); (case c16 => k_is); (case k16 => k_is); (case a17 => k_is); (case l17 => k_is); (case c17 => k_is); (case k17 => k_is); (case a18 => k_is); (case l18 => k_is); (case c18 => k_is); (case k18 => k_is); (case a19 => k_is); (case l19 => k_is); (case c19 => k_is); (case k19 => k_is); (case a20 => k_is); (case l20 => k_is); (case c20 => k_is); (case k20 => k_is); (case a21 => k_is); (case l21 => k_is); (case c21 => k_is); (case k21 => k_is); (case zc0 => k_is); (case zc1 => k_is); (case eB => k_is); (case eBs => k_is); (case eBd => k_is); (case eBt => k_is); (case ehn => k_is); (case eht => k_is); (case n_NoMenu => k_is); (case n_NotSeatable => k_is); (case n_NoSeating => k_is); (case n_NoCuts => k_is); (case n_NoSize => k_is); (case n_NoDish => k_is); (case n_NoRanking => k_is); (case n_NoTaster => k_is); (case n_NoSpan => k_is); (case n_NoPlaces => k_is); (case ga_NoTaster => k_is); (case gg_NoTaster => k_is); (case ex_NoTaster => k_is); (case hd_NoTaster => k_is); (case ha_NoTaster => k_is); (case hm_NoTaster => k_is); (case kp_NoTaster => k_is); (case ty_NoTaster => k_is); (case sb_NoTaster => k_is); (case L_NoTaster => k_is); (case sa_NoTaster => k_is); (case nf_NoTaster => k_is); (case in_NoTaster => k_is); (case tf_NoTaster => k_is); (case lf_NoTaster => k_is); (case cf_NoTaster => k_is); (case ss_NoTaster => first | rfl | k_is); (case kt_7_0 => kit_is); (case kt_7_1 => kit_is); (case kt_7_2 => kit_is); (case kt_7_3 => kit_is); (case kt_7_4 => kit_is); (case kt_7_5 => kit_is); (case kt_7_6 => kit_is); (case kt_7_7 => kit_is); (case kt_7_8 => kit_is); (case kt_7_9 => kit_is); (case kv_7 => kit_is); (case z0 => k_is); (case z1 => k_is); (case z2 => k_is); (case z3 => k_is); (case z4 => k_is); (case z5 => k_is); (case z6 => k_is); (case z7 => k_is); (case z8 => k_is); (case z9 => k_is); (case z10 => k_is); (case z11 => k_is); (case z12 => k_is); (case z13 => k_is); (case z14 => k_is); (case z15 => k_is); (case z16 => k_is); (case z17 => k_is); (case z18 => k_is)
