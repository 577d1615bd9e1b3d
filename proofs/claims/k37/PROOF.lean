import PyProof.Rows.All
import Wide.All
import OpenK.AllK
import Wide.FinOn
import PySem.Challenge.RW_tasterow_k37_paths_checked
import HandS.ForMost
import HandS.Conv
import HandS.Strs
import HandS.TupAny
import HandS.Style
import HandS.IsInst
import HandS.EndBits
import HandS.Walk
import HandS.SortInts
import HandS.SortOrd
import HandS.Deep
import HandS.Wide
import HandS.NoneIn
import HandS.SetFor
import HandS.TupMul
import KE.GoesEnum
set_option Elab.async false
set_option linter.all false
set_option maxRecDepth 100000
namespace TR
open PySem PySem.Spec PyProof.Rows L2
/-! ### heaps -/
theorem same_upd {H : Hp} {p : Addr} {o : HO} (h : H p = none) : Same H (upd H p o) := fun b x e => by
  rw [upd_ne (ne_of_none e h)]
  exact e
theorem same_upd2 {H H1 : Hp} {p : Addr} {o : HO} (s : Same H H1) (h : H p = none) : Same H (upd H1 p o) := fun b x e => by
  rw [upd_ne (ne_of_none e h)]
  exact s b x e
theorem same_seqT {K : PySem.W.Frag} {H H' : Hp} {a : Addr} {xs : List V} (e : Same H H') (h : SqT K H a xs) : SqT K H' a xs := by
  rcases h with (h | ⟨o, h⟩) | h
  · exact .inl (.inl (e _ _ h))
  · exact .inl (.inr ⟨o, e _ _ h⟩)
  · exact .inr h
theorem sqL {K : PySem.W.Frag} {H : Hp} {a : Addr} {xs : List V} (h : H a = some (.lst xs)) : SqL K H a xs := .inl (.inl h)
theorem sqT {K : PySem.W.Frag} {H : Hp} {a : Addr} {xs : List V} (h : H a = some (.tup xs)) : SqT K H a xs := .inl (.inl h)
/-- all but the deck's two changing lists is as it was -/
def Keep (d p : Addr) (H H' : Hp) : Prop := ∀ b o, H b = some o → b ≠ d → b ≠ p → H' b = some o
theorem Keep.refl (d p : Addr) (H : Hp) : Keep d p H H := fun _ _ h _ _ => h
theorem Keep.trans {d p : Addr} {H H1 H2 : Hp} (a : Keep d p H H1) (b : Keep d p H1 H2) : Keep d p H H2 := fun c o h n m => b c o (a c o h n m) n m
theorem Same.keep {d p : Addr} {H H1 : Hp} (a : Same H H1) : Keep d p H H1 := fun c o h _ _ => a c o h
theorem keep_upd {d p x : Addr} {H H1 : Hp} {o : HO} (a : Keep d p H H1) (h : x = d ∨ x = p) : Keep d p H (upd H1 x o) := fun c u e n m => by
  rw [upd_ne (by rintro rfl; rcases h with h | h; exact n h; exact m h)]
  exact a c u e n m
/-! ### data -/
theorem dpAll_ints {K : PySem.W.Frag} {H : Hp} : ∀ xs : List Int, DpAll K H (xs.map V.int) (xs.map PyData.int)
  | [] => .nil
  | x :: r => .cons (.int x) (dpAll_ints r)
theorem can_ints : ∀ xs : List Int, PyData.canLayAll0 (xs.map PyData.int) = true
  | [] => rfl
  | x :: r => by
    show (true && PyData.canLayAll0 (r.map PyData.int)) = true
    rw [can_ints r]
    rfl
theorem dep_ints : ∀ xs : List Int, PyData.depthAll (xs.map PyData.int) = 0
  | [] => rfl
  | x :: r => by
    show max 0 (PyData.depthAll (r.map PyData.int)) = 0
    rw [dep_ints r]
    rfl
theorem shaped_ints (xs : List Int) : SeqAt.shaped (.list (xs.map PyData.int)) = true := by
  show (PyData.canLayAll0 (xs.map PyData.int) && decide (PyData.depthAll (xs.map PyData.int) + 1 ≤ 64)) = true
  rw [can_ints, dep_ints]
  rfl
theorem eqv_nil (xs : List Int) : PyData.eqv (.list (xs.map PyData.int)) (.list []) = xs.isEmpty := by
  cases xs with
  | nil => rfl
  | cons x r => rfl
/-! ### the deck -/
structure DeckL (H : Hp) (d p q : Addr) (n : Nat) (m : Nat) : Prop where
  ex : ∃ (xs cs : List Int) (c : Int), H d = some (.lst [.ref p, .ref q, .int c]) ∧ H p = some (.lst (xs.map V.int)) ∧ H q = some (.lst (cs.map V.int)) ∧
    0 ≤ c ∧ c ≤ (n : Int) ∧ cs ≠ [] ∧ xs.length = m
  dp : d ≠ p
  dq : d ≠ q
  pq : p ≠ q
def Deck (H : Hp) (d p q : Addr) (n : Nat) : Prop := ∃ m, DeckL H d p q n m
theorem DeckL.same {H H' : Hp} {d p q : Addr} {n m : Nat} (D : DeckL H d p q n m) (s : Same H H') : DeckL H' d p q n m := by
  obtain ⟨xs, cs, c, h1, h2, h3, h4⟩ := D.ex
  exact ⟨⟨xs, cs, c, s _ _ h1, s _ _ h2, s _ _ h3, h4⟩, D.dp, D.dq, D.pq⟩
theorem Deck.same {H H' : Hp} {d p q : Addr} {n : Nat} (D : Deck H d p q n) (s : Same H H') : Deck H' d p q n := by
  obtain ⟨m, D⟩ := D
  exact ⟨m, D.same s⟩
theorem Deck.mono {H : Hp} {d p q : Addr} {n k : Nat} (D : Deck H d p q n) (h : n ≤ k) : Deck H d p q k := by
  obtain ⟨m, ⟨xs, cs, c, h1, h2, h3, h4, h5, h6⟩, a, b, e⟩ := D
  exact ⟨m, ⟨xs, cs, c, h1, h2, h3, h4, by omega, h6⟩, a, b, e⟩
theorem Deck.hd {H : Hp} {d p q : Addr} {n : Nat} (D : Deck H d p q n) : ∃ a b c, H d = some (.lst [.ref a, .ref b, .int c]) := by
  obtain ⟨m, ⟨xs, cs, c, h1, _⟩, _⟩ := D
  exact ⟨_, _, _, h1⟩
theorem Deck.hp {H : Hp} {d p q : Addr} {n : Nat} (D : Deck H d p q n) : ∃ xs : List Int, H p = some (.lst (xs.map V.int)) := by
  obtain ⟨m, ⟨xs, cs, c, h1, h2, _⟩, _⟩ := D
  exact ⟨_, h2⟩
theorem Deck.ned {H : Hp} {d p q : Addr} {n : Nat} (D : Deck H d p q n) {b : Addr} (h : H b = none) : b ≠ d := by
  obtain ⟨x, y, c, e⟩ := D.hd
  exact (ne_of_none e h).symm
theorem Deck.nep {H : Hp} {d p q : Addr} {n : Nat} (D : Deck H d p q n) {b : Addr} (h : H b = none) : b ≠ p := by
  obtain ⟨x, e⟩ := D.hp
  exact (ne_of_none e h).symm
theorem Deck.tned {H : Hp} {d p q : Addr} {n : Nat} (D : Deck H d p q n) {b : Addr} {xs : List V} (h : H b = some (.tup xs)) : b ≠ d := by
  obtain ⟨x, y, c, e⟩ := D.hd
  exact ne_of h e (by intro z; cases z)
theorem Deck.tnep {H : Hp} {d p q : Addr} {n : Nat} (D : Deck H d p q n) {b : Addr} {xs : List V} (h : H b = some (.tup xs)) : b ≠ p := by
  obtain ⟨x, e⟩ := D.hp
  exact ne_of h e (by intro z; cases z)
/-- a tuple that stands as the very object, without a dict of its own -/
def TF (H : Hp) (a : Addr) (xs : List V) : Prop := ∃ o : Obj, o.dict = none ∧ H a = some (.frz o (.tup xs))
theorem TF.rd {H : Hp} {a : Addr} {xs : List V} (h : TF H a xs) : Rd H a (.tup xs) := by
  obtain ⟨o, _, e⟩ := h
  exact .inr ⟨o, e⟩
theorem TF.same {H H' : Hp} {a : Addr} {xs : List V} (h : TF H a xs) (s : Same H H') : TF H' a xs := by
  obtain ⟨o, d, e⟩ := h
  exact ⟨o, d, s _ _ e⟩
theorem TF.keep {H H' : Hp} {a d p q : Addr} {n : Nat} {xs : List V} (h : TF H a xs) (D : Deck H d p q n) (s : Keep d p H H') : TF H' a xs := by
  obtain ⟨x, y, c, e1⟩ := D.hd
  obtain ⟨zs, e2⟩ := D.hp
  obtain ⟨o, hd, e⟩ := h
  exact ⟨o, hd, s _ _ e (ne_of e e1 (by intro z; cases z)) (ne_of e e2 (by intro z; cases z))⟩
theorem TF.updl {H : Hp} {a D : Addr} {us xs ys : List V} (h : TF H a us) (e : H D = some (.lst xs)) : TF (upd H D (.lst ys)) a us := by
  obtain ⟨o, hd, g⟩ := h
  exact ⟨o, hd, by rw [upd_ne (ne_of g e (by intro z; cases z))]; exact g⟩
theorem TF.new {H : Hp} {a : Addr} {xs : List V} {o : Obj} (h : o.dict = none) : TF (upd H a (.frz o (.tup xs))) a xs := ⟨o, h, upd_same⟩
theorem tf_same {H H' : Hp} {a : Addr} {xs : List V} (s : Same H H') (h : TF H a xs) : TF H' a xs := h.same s
end TR
namespace TR
/-! ### rankings as lists of ints -/
def rng (n : Nat) : List Int := (List.range n).map fun i : Nat => (i : Int)
def Rank (n : Nat) (ns : List Int) : Prop := ns.Perm (rng n)
theorem rng_len (n : Nat) : (rng n).length = n := by
  unfold rng; rw [List.length_map, List.length_range]
theorem mem_rng {n : Nat} {x : Int} : x ∈ rng n ↔ 0 ≤ x ∧ x < (n : Int) := by
  unfold rng
  rw [List.mem_map]
  constructor
  · rintro ⟨i, hi, rfl⟩
    have := List.mem_range.mp hi
    omega
  · rintro ⟨h0, h1⟩
    exact ⟨x.toNat, List.mem_range.mpr (by omega), by omega⟩
theorem rng_nodup (n : Nat) : (rng n).Nodup := by
  unfold rng List.Nodup
  rw [List.pairwise_map]
  exact List.nodup_range.imp (by intro a b h e; exact h (by omega))
theorem Rank.len {n : Nat} {ns : List Int} (h : Rank n ns) : ns.length = n := (List.Perm.length_eq h).trans (rng_len n)
theorem Rank.mem {n : Nat} {ns : List Int} (h : Rank n ns) {x : Int} (h0 : 0 ≤ x) (h1 : x < (n : Int)) : x ∈ ns := (List.Perm.mem_iff h).mpr (mem_rng.mpr ⟨h0, h1⟩)
theorem Rank.bnd {n : Nat} {ns : List Int} (h : Rank n ns) {x : Int} (m : x ∈ ns) : 0 ≤ x ∧ x < (n : Int) := mem_rng.mp ((List.Perm.mem_iff h).mp m)
theorem Rank.nodup {n : Nat} {ns : List Int} (h : Rank n ns) : ns.Nodup := (List.Perm.nodup_iff h).mpr (rng_nodup n)
theorem Rank.rev {n : Nat} {ns : List Int} (h : Rank n ns) : Rank n ns.reverse := (List.reverse_perm ns).trans h
/-! ### preference -/
def pref (ns : List Int) (a b : Int) : Bool := decide (ns.idxOf a < ns.idxOf b)
theorem idx_at {ns : List Int} (nd : ns.Nodup) {i : Nat} {x : Int} (h : ns[i]? = some x) : ns.idxOf x = i := by
  obtain ⟨hi, e⟩ := List.getElem?_eq_some_iff.mp h
  have m : x ∈ ns := e ▸ List.getElem_mem hi
  have hl : ns.idxOf x < ns.length := List.idxOf_lt_length_of_mem m
  have e2 : ns[ns.idxOf x] = x := List.getElem_idxOf hl
  exact (List.getElem_inj nd).mp (e2.trans e.symm)
theorem at_idx {ns : List Int} {x : Int} (m : x ∈ ns) : ns[ns.idxOf x]? = some x := by
  have hl : ns.idxOf x < ns.length := List.idxOf_lt_length_of_mem m
  rw [List.getElem?_eq_getElem hl, List.getElem_idxOf hl]
theorem idx_first {ns : List Int} {x : Int} {m : Nat} (h : m < ns.idxOf x) : ns[m]? ≠ some x := by
  intro e
  obtain ⟨hi, e2⟩ := List.getElem?_eq_some_iff.mp e
  have := List.not_of_lt_findIdx (p := (· == x)) (xs := ns) h
  rw [e2] at this
  simp at this
theorem idx_rev {ns : List Int} (nd : ns.Nodup) {x : Int} (m : x ∈ ns) : ns.reverse.idxOf x = ns.length - 1 - ns.idxOf x := by
  have hl : ns.idxOf x < ns.length := List.idxOf_lt_length_of_mem m
  refine idx_at ((List.Perm.nodup_iff (List.reverse_perm ns)).mpr nd) ?_
  rw [List.getElem?_reverse (by omega)]
  rw [show ns.length - 1 - (ns.length - 1 - ns.idxOf x) = ns.idxOf x by omega]
  exact at_idx m
theorem idx_inj {ns : List Int} {x y : Int} (m : x ∈ ns) (e : ns.idxOf x = ns.idxOf y) : x = y ∨ y ∉ ns := by
  by_cases h : y ∈ ns
  · left
    have a := at_idx m
    have b := at_idx h
    rw [e, b] at a
    exact (Option.some.inj a).symm
  · exact .inr h
theorem pref_rev {ns : List Int} (nd : ns.Nodup) {a b : Int} (ma : a ∈ ns) (mb : b ∈ ns) (ne : a ≠ b) : pref ns.reverse a b = !pref ns a b := by
  unfold pref
  have la : ns.idxOf a < ns.length := List.idxOf_lt_length_of_mem ma
  have lb : ns.idxOf b < ns.length := List.idxOf_lt_length_of_mem mb
  have hne : ns.idxOf a ≠ ns.idxOf b := fun e => by
    rcases idx_inj ma e with h | h
    · exact ne h
    · exact h mb
  rw [idx_rev nd ma, idx_rev nd mb]
  by_cases h : ns.idxOf a < ns.idxOf b
  · rw [decide_eq_true h, decide_eq_false (by omega)]
    rfl
  · rw [decide_eq_false h, decide_eq_true (by omega)]
    rfl
/-! ### pairs and differences -/
def prow (n a : Nat) : List (Int × Int) := (List.range (n - (a + 1))).map fun j : Nat => ((a : Int), ((a : Int) + 1 + (j : Int)))
def pairs (n : Nat) : List (Int × Int) := (List.range n).flatMap (prow n)
theorem mem_pairs {n : Nat} {p : Int × Int} (h : p ∈ pairs n) : 0 ≤ p.1 ∧ p.1 < p.2 ∧ p.2 < (n : Int) := by
  unfold pairs prow at h
  obtain ⟨a, ha, hp⟩ := List.mem_flatMap.mp h
  obtain ⟨j, hj, rfl⟩ := List.mem_map.mp hp
  have h1 := List.mem_range.mp ha
  have h2 := List.mem_range.mp hj
  dsimp only
  omega
theorem flat_succ {β : Type} (f : Nat → List β) (i : Nat) : (List.range (i + 1)).flatMap f = (List.range i).flatMap f ++ f i := by
  rw [List.range_succ, List.flatMap_append]
  simp
theorem map_succ {β : Type} (f : Nat → β) (i : Nat) : (List.range (i + 1)).map f = (List.range i).map f ++ [f i] := by
  rw [List.range_succ, List.map_append]
  rfl
def agr (one other : List Int) (p : Int × Int) : Bool := pref one p.1 p.2 == pref other p.1 p.2
def diffs (n : Nat) (one other : List Int) : List (Int × Int) := (pairs n).filter fun p => !agr one other p
def betw (n : Nat) (one other third : List Int) : Bool := ((pairs n).filter (agr one other)).all (agr one third)
theorem agr_symm (one other : List Int) (p : Int × Int) : agr one other p = agr other one p := by
  unfold agr
  cases pref one p.1 p.2 <;> cases pref other p.1 p.2 <;> rfl
theorem diffs_symm (n : Nat) (one other : List Int) : diffs n one other = diffs n other one := by
  unfold diffs
  congr 1
  funext p
  rw [agr_symm]
theorem diffs_rev {n : Nat} {ns : List Int} (h : Rank n ns) : diffs n ns ns.reverse = pairs n := by
  unfold diffs
  rw [List.filter_eq_self]
  intro p hp
  obtain ⟨h0, h1, h2⟩ := mem_pairs hp
  unfold agr
  rw [pref_rev h.nodup (h.mem h0 (by omega)) (h.mem (by omega) h2) (by omega)]
  cases pref ns p.1 p.2 <;> rfl
theorem filter_take {α : Type} (f : α → Bool) {l : List α} {i : Nat} {x : α} (h : l[i]? = some x) : (l.take (i + 1)).filter f = (l.take i).filter f ++ if f x = true then [x] else [] := by
  rw [List.take_add_one, h, List.filter_append]
  show _ ++ ([x].filter f) = _
  cases e : f x <;> simp [e]
theorem diffs_sub {n : Nat} {one other : List Int} {p : Int × Int} (h : p ∈ diffs n one other) : p ∈ pairs n := (List.mem_filter.mp h).1
theorem prow_len (n a : Nat) : (prow n a).length = n - (a + 1) := by
  unfold prow; rw [List.length_map, List.length_range]
theorem flat_len (n : Nat) : ∀ i : Nat, ((List.range i).flatMap (prow n)).length ≤ i * n
  | 0 => by simp
  | i + 1 => by
    have ih := flat_len n i
    rw [flat_succ, List.length_append, prow_len, Nat.succ_mul]
    omega
theorem pairs_len (n : Nat) : (pairs n).length ≤ n * n := flat_len n n
/-! ### exchanging neighbours, drawing -/
theorem perm_swap {ns : List Int} {k : Nat} {x y : Int} (hx : ns[k]? = some x) (hy : ns[k + 1]? = some y) : (ns.take k ++ ([y, x] ++ ns.drop (k + 2))).Perm ns := by
  have e : ns = ns.take k ++ (x :: y :: ns.drop (k + 2)) := by
    have h1 : k < ns.length := (List.getElem?_eq_some_iff.mp hx).1
    have h2 : k + 1 < ns.length := (List.getElem?_eq_some_iff.mp hy).1
    have a1 : ns.drop k = x :: ns.drop (k + 1) := by
      rw [List.drop_eq_getElem_cons h1, (List.getElem?_eq_some_iff.mp hx).2]
    have a2 : ns.drop (k + 1) = y :: ns.drop (k + 2) := by
      rw [List.drop_eq_getElem_cons h2, (List.getElem?_eq_some_iff.mp hy).2]
    rw [← a2, ← a1, List.take_append_drop]
  refine List.Perm.trans ?_ (List.Perm.of_eq e.symm)
  exact List.Perm.append_left _ (List.Perm.swap x y _)
theorem perm_erase {l : List Int} {j : Nat} {z : Int} (h : l[j]? = some z) : (z :: l.eraseIdx j).Perm l := by
  obtain ⟨hj, e⟩ := List.getElem?_eq_some_iff.mp h
  have e1 : l = l.take j ++ z :: l.drop (j + 1) := by
    rw [← e, ← List.drop_eq_getElem_cons hj, List.take_append_drop]
  have e2 : l.eraseIdx j = l.take j ++ l.drop (j + 1) := List.eraseIdx_eq_take_drop_succ l j
  rw [e2]
  refine List.Perm.trans ?_ (List.Perm.of_eq e1.symm)
  exact (List.perm_middle).symm
end TR
namespace TR
/-! ### swaps of neighbours, the way from one ranking to another -/
def swp (ns : List Int) (k : Nat) : List Int := ns.take k ++ ([ns.getD (k + 1) 0, ns.getD k 0] ++ ns.drop (k + 2))
def wrongN (ns ms : List Int) : List Nat := (List.range (ns.length - 1)).filter fun k => pref ms (ns.getD (k + 1) 0) (ns.getD k 0)
def wrongs (ns ms : List Int) : List Int := (wrongN ns ms).map fun k : Nat => (k : Int)
theorem getD_of {ns : List Int} {k : Nat} (h : k < ns.length) : ns.getD k 0 = ns[k] := by
  rw [List.getD_eq_getElem?_getD, List.getElem?_eq_getElem h]
  rfl
theorem swp_split {ns : List Int} {k : Nat} (h : k + 1 < ns.length) : ns = ns.take k ++ (ns.getD k 0 :: ns.getD (k + 1) 0 :: ns.drop (k + 2)) := by
  rw [getD_of h, getD_of (by omega)]
  have a1 : ns.drop k = ns[k] :: ns.drop (k + 1) := List.drop_eq_getElem_cons (by omega)
  have a2 : ns.drop (k + 1) = ns[k + 1] :: ns.drop (k + 2) := List.drop_eq_getElem_cons h
  rw [← a2, ← a1, List.take_append_drop]
theorem swp_rank {n : Nat} {ns : List Int} {k : Nat} (r : Rank n ns) (h : k + 1 < n) : Rank n (swp ns k) := by
  have hl := r.len
  refine List.Perm.trans ?_ r
  refine List.Perm.trans ?_ (List.Perm.of_eq (swp_split (ns := ns) (k := k) (by omega)).symm)
  exact List.Perm.append_left _ (List.Perm.swap _ _ _)
theorem mem_wrongN {ns ms : List Int} {k : Nat} : k ∈ wrongN ns ms ↔ k + 1 < ns.length ∧ pref ms (ns.getD (k + 1) 0) (ns.getD k 0) = true := by
  unfold wrongN
  rw [List.mem_filter, List.mem_range]
  constructor
  · rintro ⟨a, b⟩
    exact ⟨by omega, b⟩
  · rintro ⟨a, b⟩
    exact ⟨by omega, b⟩
/-! ### inversions -/
def invN : List Nat → Nat
  | [] => 0
  | x :: r => r.countP (fun y => decide (y < x)) + invN r
theorem invN_swap {x y : Nat} (h : x < y) (t : List Nat) : ∀ p : List Nat, invN (p ++ x :: y :: t) + 1 = invN (p ++ y :: x :: t)
  | [] => by
    show List.countP _ (y :: t) + (List.countP _ t + invN t) + 1 = List.countP _ (x :: t) + (List.countP _ t + invN t)
    rw [List.countP_cons_of_neg (by simp; omega), List.countP_cons_of_pos (by simp; omega)]
    omega
  | a :: p => by
    show List.countP _ (p ++ x :: y :: t) + invN (p ++ x :: y :: t) + 1 = List.countP _ (p ++ y :: x :: t) + invN (p ++ y :: x :: t)
    have ih := invN_swap h t p
    have e : List.countP (fun z => decide (z < a)) (p ++ x :: y :: t) = List.countP (fun z => decide (z < a)) (p ++ y :: x :: t) := List.Perm.countP_eq _ (List.Perm.append_left _ (List.Perm.swap _ _ _))
    rw [e]
    omega
theorem invN_le : ∀ l : List Nat, invN l ≤ l.length * l.length
  | [] => Nat.le_refl _
  | x :: r => by
    have ih := invN_le r
    have h : r.countP (fun y => decide (y < x)) ≤ r.length := List.countP_le_length
    show List.countP _ r + invN r ≤ (r.length + 1) * (r.length + 1)
    rw [Nat.succ_mul, Nat.mul_succ]
    omega
theorem invN_le2 : ∀ l : List Nat, 2 * invN l + l.length ≤ l.length * l.length
  | [] => Nat.le_refl _
  | x :: r => by
    have ih := invN_le2 r
    have h : r.countP (fun y => decide (y < x)) ≤ r.length := List.countP_le_length
    have e : (r.length + 1) * (r.length + 1) = r.length * r.length + 2 * r.length + 1 := by
      rw [Nat.add_mul, Nat.mul_add, Nat.one_mul, Nat.mul_one]
      omega
    show 2 * (List.countP _ r + invN r) + (r.length + 1) ≤ (r.length + 1) * (r.length + 1)
    rw [e]
    omega
def dist (ns ms : List Int) : Nat := invN (ns.map ms.idxOf)
theorem dist_swap {n : Nat} {ns ms : List Int} {k : Nat} (r : Rank n ns) (h : k ∈ wrongN ns ms) : dist (swp ns k) ms + 1 = dist ns ms := by
  obtain ⟨h1, h2⟩ := mem_wrongN.mp h
  have e := swp_split h1
  have h3 : ms.idxOf (ns.getD (k + 1) 0) < ms.idxOf (ns.getD k 0) := of_decide_eq_true h2
  have e2 : dist ns ms = invN ((ns.take k).map ms.idxOf ++ (ms.idxOf (ns.getD k 0) :: ms.idxOf (ns.getD (k + 1) 0) :: (ns.drop (k + 2)).map ms.idxOf)) := by
    have g := congrArg (fun l : List Int => invN (l.map ms.idxOf)) e
    rw [List.map_append] at g
    exact g
  have e3 : dist (swp ns k) ms = invN ((ns.take k).map ms.idxOf ++ (ms.idxOf (ns.getD (k + 1) 0) :: ms.idxOf (ns.getD k 0) :: (ns.drop (k + 2)).map ms.idxOf)) := by
    unfold dist swp
    rw [List.map_append]
    rfl
  rw [e2, e3]
  exact invN_swap h3 _ _
theorem dist_le {n : Nat} {ns : List Int} (ms : List Int) (r : Rank n ns) : dist ns ms ≤ n * n := by
  have h := invN_le (ns.map ms.idxOf)
  rw [List.length_map, r.len] at h
  exact h
theorem dist_le28 {n : Nat} {ns : List Int} (ms : List Int) (r : Rank n ns) (hn : n ≤ 8) : dist ns ms ≤ 28 := by
  have h := invN_le2 (ns.map ms.idxOf)
  rw [List.length_map, r.len] at h
  have h2 : 2 * dist ns ms + n ≤ n * n := h
  match n, hn with
  | 0, _ => omega
  | 1, _ => omega
  | 2, _ => omega
  | 3, _ => omega
  | 4, _ => omega
  | 5, _ => omega
  | 6, _ => omega
  | 7, _ => omega
  | 8, _ => omega
/-! ### no wrong place: the end -/
theorem wrong_nil {n : Nat} {ns ms : List Int} (r : Rank n ns) (s : Rank n ms) (h : wrongN ns ms = []) : ns = ms := by
  have ln := r.len
  have lm := s.len
  have memM : ∀ k, k < n → ns.getD k 0 ∈ ms := fun k hk => by
    rw [getD_of (by omega)]
    have b := r.bnd (List.getElem_mem (show k < ns.length by omega))
    exact s.mem b.1 b.2
  have up : ∀ k, k + 1 < n → ms.idxOf (ns.getD k 0) < ms.idxOf (ns.getD (k + 1) 0) := fun k hk => by
    have hn : ¬ ms.idxOf (ns.getD (k + 1) 0) < ms.idxOf (ns.getD k 0) := fun hlt => by
      have : k ∈ wrongN ns ms := mem_wrongN.mpr ⟨by omega, decide_eq_true hlt⟩
      rw [h] at this
      cases this
    have hne : ms.idxOf (ns.getD k 0) ≠ ms.idxOf (ns.getD (k + 1) 0) := fun e => by
      rcases idx_inj (memM k (by omega)) e with e2 | e2
      · rw [getD_of (by omega), getD_of (by omega)] at e2
        have := (List.getElem_inj r.nodup).mp e2
        omega
      · exact e2 (memM (k + 1) hk)
    omega
  have lo : ∀ k, k < n → k ≤ ms.idxOf (ns.getD k 0) := fun k => by
    induction k with
    | zero => intro _; exact Nat.zero_le _
    | succ k ih =>
      intro hk
      have := ih (by omega)
      have := up k hk
      omega
  have bd : ∀ k, k < n → ms.idxOf (ns.getD k 0) < n := fun k hk => by
    have := List.idxOf_lt_length_of_mem (memM k hk)
    omega
  have hi : ∀ d k, k + d + 1 = n → ms.idxOf (ns.getD k 0) ≤ k := fun d => by
    induction d with
    | zero =>
      intro k hk
      have := bd k (by omega)
      omega
    | succ d ih =>
      intro k hk
      have := ih (k + 1) (by omega)
      have := up k (by omega)
      omega
  refine List.ext_getElem (by omega) fun k h1 h2 => ?_
  have e : ms.idxOf (ns.getD k 0) = k := by
    have a := lo k (by omega)
    have b := hi (n - 1 - k) k (by omega)
    omega
  have g := at_idx (memM k (by omega))
  rw [e, List.getElem?_eq_getElem h2, getD_of h1] at g
  exact (Option.some.inj g).symm
theorem wrong_self {n : Nat} {ms : List Int} (s : Rank n ms) : wrongN ms ms = [] := by
  refine List.filter_eq_nil_iff.mpr fun k hk => ?_
  have hk' := List.mem_range.mp hk
  rw [getD_of (by omega), getD_of (by omega)]
  have e1 := idx_at s.nodup (List.getElem?_eq_getElem (show k < ms.length by omega))
  have e2 := idx_at s.nodup (List.getElem?_eq_getElem (show k + 1 < ms.length by omega))
  unfold pref
  rw [e1, e2]
  simp
/-! ### the way -/
def stp (ms r : List Int) : List Int := match wrongN r ms with
  | [] => r
  | k :: _ => swp r k
def itr (ms ns : List Int) : Nat → List Int
  | 0 => ns
  | j + 1 => stp ms (itr ms ns j)
def Pth (ns ms : List Int) (rows : List (List Int)) : Prop := ∃ j, rows = (List.range (j + 1)).map (itr ms ns) ∧ itr ms ns j = ms ∧ ∀ i, i < j → itr ms ns i ≠ ms
theorem Pth.uniq {ns ms : List Int} {r s : List (List Int)} (a : Pth ns ms r) (b : Pth ns ms s) : r = s := by
  obtain ⟨i, e1, e2, e3⟩ := a
  obtain ⟨j, f1, f2, f3⟩ := b
  have : i = j := by
    rcases Nat.lt_trichotomy i j with h | h | h
    · exact absurd e2 (f3 i h)
    · exact h
    · exact absurd f2 (e3 j h)
  subst this
  rw [e1, f1]
theorem itr_rank {n : Nat} {ns ms : List Int} (r : Rank n ns) : ∀ j, Rank n (itr ms ns j)
  | 0 => r
  | j + 1 => by
    have ih := itr_rank (ms := ms) r j
    show Rank n (stp ms (itr ms ns j))
    unfold stp
    cases e : wrongN (itr ms ns j) ms with
    | nil => exact ih
    | cons k t =>
      have := (mem_wrongN (ns := itr ms ns j) (ms := ms) (k := k)).mp (by rw [e]; exact List.mem_cons_self)
      exact swp_rank ih (by have := ih.len; omega)
theorem itr_succ {ms ns : List Int} {j k : Nat} {t : List Nat} (e : wrongN (itr ms ns j) ms = k :: t) : itr ms ns (j + 1) = swp (itr ms ns j) k := by
  show stp ms (itr ms ns j) = _
  unfold stp
  rw [e]
theorem wrong_ne {n : Nat} {ns ms : List Int} {k : Nat} {t : List Nat} (s : Rank n ms) (e : wrongN ns ms = k :: t) : ns ≠ ms := fun h => by
  subst h
  rw [wrong_self s] at e
  cases e
end TR
namespace TR
/-! ### ascending tuples -/
def nxt0 (r : List Int) : Int := match r.getLast? with
  | none => 0
  | some x => x + 1
theorem nxt0_nil : nxt0 [] = 0 := rfl
theorem nxt0_app (r : List Int) (x : Int) : nxt0 (r ++ [x]) = x + 1 := by
  unfold nxt0
  rw [List.getLast?_concat]
def ext (n : Nat) (r : List Int) : List (List Int) := (List.range ((n : Int) - nxt0 r).toNat).map fun j : Nat => r ++ [nxt0 r + (j : Int)]
def atup (n : Nat) : Nat → List (List Int)
  | 0 => [[]]
  | k + 1 => (atup n k).flatMap (ext n)
theorem mem_ext {n : Nat} {r s : List Int} (h : s ∈ ext n r) : ∃ x : Int, s = r ++ [x] ∧ nxt0 r ≤ x ∧ x < (n : Int) := by
  obtain ⟨j, hj, rfl⟩ := List.mem_map.mp h
  have := List.mem_range.mp hj
  exact ⟨_, rfl, by omega, by omega⟩
theorem ext_mem {n : Nat} {r : List Int} {x : Int} (h1 : nxt0 r ≤ x) (h2 : x < (n : Int)) : r ++ [x] ∈ ext n r := by
  refine List.mem_map.mpr ⟨(x - nxt0 r).toNat, List.mem_range.mpr (by omega), ?_⟩
  rw [show nxt0 r + (((x - nxt0 r).toNat : Nat) : Int) = x by omega]
structure AtOk (n k : Nat) (r : List Int) : Prop where
  len : r.length = k
  bnd : ∀ x ∈ r, 0 ≤ x ∧ x < nxt0 r ∧ x < (n : Int)
  pw : r.Pairwise (· < ·)
  lo : 0 ≤ nxt0 r ∧ nxt0 r ≤ (n : Int)
theorem atup_ok {n : Nat} : ∀ {k : Nat} {r : List Int}, r ∈ atup n k → AtOk n k r
  | 0, r, h => by
    cases List.mem_singleton.mp h
    exact ⟨rfl, (fun x hx => by cases hx), List.Pairwise.nil, Int.le_refl _, by rw [nxt0_nil]; omega⟩
  | k + 1, r, h => by
    obtain ⟨s, hs, hr⟩ := List.mem_flatMap.mp h
    obtain ⟨x, rfl, h1, h2⟩ := mem_ext hr
    obtain ⟨a, b, c, d⟩ := atup_ok hs
    refine ⟨by rw [List.length_append, a]; rfl, fun y hy => ?_, ?_, ?_⟩
    · rw [nxt0_app]
      rcases List.mem_append.mp hy with hy | hy
      · have := b y hy
        omega
      · rw [List.mem_singleton] at hy
        omega
    · refine List.pairwise_append.mpr ⟨c, List.pairwise_singleton _ _, fun y hy z hz => ?_⟩
      rw [List.mem_singleton] at hz
      have := b y hy
      omega
    · rw [nxt0_app]
      omega
theorem take_flat {α β : Type} (f : α → List β) {l : List α} {j : Nat} {r : α} (h : l[j]? = some r) : (l.take (j + 1)).flatMap f = (l.take j).flatMap f ++ f r := by
  rw [List.take_add_one, h, List.flatMap_append]
  simp
theorem take_flat_len {α β : Type} (f : α → List β) (l : List α) (j : Nat) : ((l.take j).flatMap f).length ≤ (l.flatMap f).length := by
  have e : l.flatMap f = (l.take j).flatMap f ++ (l.drop j).flatMap f := by
    rw [← List.flatMap_append, List.take_append_drop]
  rw [e, List.length_append]
  omega
theorem atup_one (n : Nat) : atup n 1 = (List.range n).map fun i : Nat => [(i : Int)] := by
  show [[]].flatMap (ext n) = _
  rw [List.flatMap_cons, List.flatMap_nil, List.append_nil]
  unfold ext
  rw [nxt0_nil, show ((n : Int) - 0).toNat = n by omega]
  refine congrArg (fun g => (List.range n).map g) (funext fun i => ?_)
  rw [Int.zero_add]
  rfl
theorem atup_two (n : Nat) : atup n 2 = (pairs n).map fun p => [p.1, p.2] := by
  show (atup n 1).flatMap (ext n) = _
  rw [atup_one, List.flatMap_map]
  unfold pairs
  rw [List.map_flatMap]
  refine congrArg (fun g => (List.range n).flatMap g) (funext fun i => ?_)
  unfold ext prow
  rw [List.map_map]
  have e : nxt0 [(i : Int)] = (i : Int) + 1 := nxt0_app [] _
  rw [e, show ((n : Int) - ((i : Int) + 1)).toNat = n - (i + 1) by omega]
  rfl
theorem atup2_len (n : Nat) (h : n ≤ 8) : ∀ j, j ≤ 2 → (atup n j).length ≤ 100000 := by
  intro j hj
  have l2 := pairs_len n
  have l4 : n * n ≤ 8 * 8 := Nat.mul_le_mul h h
  match j, hj with
  | 0, _ => exact (by decide : 1 ≤ 100000)
  | 1, _ => rw [atup_one, List.length_map, List.length_range]; omega
  | 2, _ => rw [atup_two, List.length_map]; omega
end TR
namespace TR
open PySem PySem.Spec PyProof.Rows L2
theorem flat_ints (ys : List Int) : (ys.map V.int).all flatV = true := by
  rw [List.all_map]; exact List.all_eq_true.mpr fun _ _ => rfl
def rTupIdx (K : PySem.W.Frag) : V → List V → Hp → VK → Prop := fun x xs H Q => ∃ p, ∃ ys : List Int, ∃ z j, x = .ref p ∧ xs = [.int z] ∧ SqT K H p (ys.map V.int) ∧ ys[j]? = some z ∧ (∀ m, m < j → ys[m]? ≠ some z) ∧ Q (.int (j : Nat)) H
section
variable {X : Cx}
/-- t.index(k), t a tuple of ints: the first place -/
theorem mt_tupIdx : MtR X "tuple.index" (fun x xs H Q => ∃ p, ∃ ys : List Int, ∃ z j, x = .ref p ∧ xs = [.int z] ∧ SqT X.K H p (ys.map V.int) ∧ ys[j]? = some z ∧ (∀ m, m < j → ys[m]? ≠ some z) ∧ Q (.int (j : Nat)) H) := by
  intro pins s σ H x xs v us Q I rx rs h
  obtain ⟨p, ys, z, j, rfl, rfl, hS, hy, hno, q⟩ := h
  cases rx
  obtain ⟨u, rfl, t, rfl⟩ := vals1 rs
  obtain ⟨its, r, pl, hz⟩ := I.tuple hS
  obtain ⟨⟨c1, dd, dt, sl⟩, ho, hc, n, hd⟩ := pl
  simp only at hc hd; subst hc; subst hd
  have hl : its.toArray.size = ys.length := by
    rw [List.size_toArray, ← r.length]; exact List.length_map _
  have hj : j < its.toArray.size := hl.symm ▸ (List.getElem?_eq_some_iff.mp hy).1
  have pick : ∀ (m : Nat) (hm : m < its.toArray.size), ∃ y t', ys[m]? = some y ∧ its.toArray[m] = Value.int y t' := fun m hm => by
    have hm2 : m < ys.length := hl ▸ hm
    obtain ⟨w, hw, t', hw'⟩ := r.get (i := m) (x := .int ys[m]) (by simp [hm2])
    refine ⟨ys[m], t', List.getElem?_eq_getElem hm2, ?_⟩
    have e := (List.getElem?_eq_some_iff.mp hw).2
    rw [← hw', ← e]; simp
  refine call_meets PySem.F.slot_tuple_index ⟨_, ho, rfl⟩ PySem.F.entry_tuple_index (PySem.F.args_tuple_index_2 _ _) (TI.tuple_indexAt p its.toArray n dd sl (.int z t) (eqU (.int z)) j hj ?_ ?_)
    ⟨ho, fun w hw => mem_eqAt (x := .int z) ⟨t, rfl⟩ rfl r (flat_ints ys) w (by simpa using hw), ⟨.int (j : Nat), H, I.tok _, ⟨_, rfl⟩, q⟩⟩
  · obtain ⟨y, t', h1, h2⟩ := pick j hj
    rw [hy] at h1; cases h1; rw [h2]
    show (z == z) = true; exact beq_self_eq_true z
  · intro m hm hmj
    obtain ⟨y, t', h1, h2⟩ := pick m hm
    rw [h2]; show (y == z) = false
    exact beq_eq_false_iff_ne.mpr fun e => hno m hmj (e ▸ h1)
end
section
variable {prog : Program} {w : World} {A : Around} {E : Value → Shared → Prop} {s : Shared}
theorem places_back (n : Nat) : Builtin.Slice.slicePlaces ((n : Int) - 1) (-1) (-1) = n := by
  unfold Builtin.Slice.slicePlaces
  rw [if_neg (show ¬ ((-1 : Int) > 0) by decide)]
  by_cases h : (n : Int) - 1 > -1
  · rw [if_pos h, show (- -1 : Int) = 1 by decide, Int.ediv_one]; omega
  · rw [if_neg h]; omega
theorem applied_back {sl : Addr} {vs : Value} {n : Nat} {Q : Int × Int × Nat → Shared → Prop} (hs : s.heap.IsSliceOf sl .none .none vs) (ps : IsPart vs (some (-1))) (h : Q ((n : Int) - 1, -1, n) s) :
    wpAny (model prog w) A (Builtin.Slice.sliceApplied (.ref sl) (pure (n : Int))) Q E s := by
  obtain ⟨os, hos, hcs, hds⟩ := id hs
  unfold Builtin.Slice.sliceApplied Builtin.Slice.sliceFields
  refine wpAny_bind (wpAny_bind (wpAny_field hos hds (x := .none) rfl (wpAny_bind (wpAny_field hos hds (x := .none) rfl (wpAny_bind (wpAny_field hos hds (x := vs) rfl (wpAny_pure ?_)))))))
  refine wpAny_bind (HT.slicePart_ ps ?_)
  show wpAny _ _ (if ((-1 : Int) == 0) = true then _ else _) _ _ s
  rw [if_neg (show ¬ (((-1 : Int) == 0) = true) by decide)]
  refine wpAny_bind (HT.slicePart_ .none (wpAny_bind (HT.slicePart_ .none (wpAny_bind (wpAny_pure ?_)))))
  show wpAny _ _ (pure ((n : Int) - 1, (-1 : Int), Builtin.Slice.slicePlaces ((n : Int) - 1) (-1) (-1))) _ _ s
  rw [places_back]; exact wpAny_pure h
theorem pick_back (xs : Array Value) : ((List.range xs.size).filterMap fun (k : Nat) => xs[((xs.size : Int) - 1 + (k : Int) * -1).toNat]?).toArray = xs.toList.reverse.toArray := by
  have e : ((List.range xs.size).filterMap fun (k : Nat) => xs[((xs.size : Int) - 1 + (k : Int) * -1).toNat]?) = ((List.range xs.size).map fun k => xs.size - 1 - k).filterMap (xs[·]?) := by
    rw [List.filterMap_map]
    refine congrArg (fun g => (List.range xs.size).filterMap g) (funext fun k => ?_)
    show xs[((xs.size : Int) - 1 + (k : Int) * -1).toNat]? = xs[xs.size - 1 - k]?
    rw [show ((xs.size : Int) - 1 + (k : Int) * -1).toNat = xs.size - 1 - k by omega]
  rw [e, PySem.W.krv_range, List.filterMap_reverse, PySem.W.krv_all]
theorem getItem_back {t sl : Addr} {items : Array Value} {vs : Value} {Q : Value → Shared → Prop} (ht : IsTup s.heap t items) (hs : s.heap.IsSliceOf sl .none .none vs) (ps : IsPart vs (some (-1)))
    (h : Q (.ref s.heap.objs.size) { s with heap := s.heap.push { cls := .type "tuple", data := .seq items.toList.reverse.toArray } }) (hsz : items.size ≤ sizeLine) : wpAny (model prog w) A (getItem (.ref t) (.ref sl)) Q E s := by
  have hok : sizeOk (.seq items.toList.reverse.toArray) := by
    show items.toList.reverse.toArray.size ≤ sizeLine
    rw [List.size_toArray, List.length_reverse]; exact hsz
  obtain ⟨os, hos, hcs, hds⟩ := id hs
  have hTs : s.TypeIs (.ref sl) "slice" := ⟨os, hos, hcs⟩
  unfold getItem
  try with_reducible refine wpAny_holding ?_
  first | refine wpAny_bind (wpAny_pure ?_) | skip
  refine wpAny_bind (wpAny_sequenceKey ht.typeIs (by decide) ?_)
  refine wpAny_bind (wpAny_callSpecial?_slot (name := Str.ofString "__getitem__") ht.typeIs PyProof.Rows.slot_tuple_getitem (wpAny_call_entry PyProof.Rows.slot_tuple_getitem ht.typeIs entry_tuple_getitem ?_ (args_tuple_getitem _ _)))
  show wpAny _ _ (Builtin.Tuple.tupleItemsOf (.ref t) >>= _) _ _ s
  refine wpAny_bind (PyProof.Rows.tupleItemsOf_ ht (wpAny_bind (wpAny_typeOf hTs ?_)))
  rw [if_pos (by decide)]
  refine wpAny_bind (applied_back hs ps ?_)
  have hno : ¬ ((((items.size : Int) - 1 == 0) && (-1 : Int) == 1 && items.size == items.size) = true) := by
    rw [show ((-1 : Int) == 1) = false by decide, Bool.and_false, Bool.false_and]; exact Bool.false_ne_true
  show wpAny _ _ (if (((items.size : Int) - 1 == 0) && (-1 : Int) == 1 && items.size == items.size) = true then _ else _) _ _ s
  rw [if_neg hno, pick_back]
  first
    | exact wpAny_bind (m := Builtin.Tuple.tupleExact _) (wpAny_newObj_type (wpAny_pure ⟨_, rfl, wpAny_pure h⟩) hok)
    | exact wpAny_bind (wpAny_bind (m := Builtin.Tuple.tupleExact _) (wpAny_newObj_type (wpAny_pure ⟨_, rfl, wpAny_pure h⟩) hok))
    | exact wpAny_bind (wpAny_bind (m := Builtin.Tuple.tupleExact _) (wpAny_newObj_type (wpAny_pure (wpAny_pure ⟨_, rfl, wpAny_pure h⟩)) hok))
end
section
variable {X : Cx}
/-- t[::-1], t a tuple: always a new one -/
def tRevT (K : PySem.W.Frag) (te : TE) : TE := fun σ H Q => te σ H fun x H1 => ∃ a xs, x = .ref a ∧ SqT K H1 a xs ∧ ∀ p o, H1 p = none → o.dict = none → Q (.ref p) (upd H1 p (.frz o (.tup xs.reverse)))
theorem pe_revT {e : Expr} {te : TE} {k : Nat} {p1 p2 p3 pos : Pos} (he : PE X e te) : PE X (.Subscript e (.Slice none none (some (.UnaryOp .USub (.Constant (.int 1) k p1) p2)) p3) pos) (tRevT X.K te) := by
  refine ⟨fun pins s σ H Q I h => Subscript_ (thn (he.run pins s σ H _ I h) fun v s1 ⟨x, H1, I1, r1, a, xs, ex, hx, q⟩ => ?_)⟩
  subst ex; cases r1
  have hst : PO X (some (.UnaryOp .USub (.Constant (.int 1) k p1) p2)) (tPart (tUn (rU fun i => .int (-i)) (tC (.int 1)))) := po_some (pe_un un_neg pe_int)
  refine wpAny_Slice (thn (po_none.run pins s1 σ H1 (fun o G => o = none ∧ G = H1) I1 ⟨rfl, rfl⟩) fun vl s2 ⟨l, H2, I2, pl, el, e2⟩ => ?_)
  subst el e2
  refine thn (po_none.run pins s2 σ H2 (fun o G => o = none ∧ G = H2) I2 ⟨rfl, rfl⟩) fun vu s3 ⟨u, H3, I3, pu, eu, e3⟩ => ?_
  subst eu e3
  refine thn (hst.run pins s3 σ H3 (fun o G => o = some (-1) ∧ G = H3) I3 ⟨1, rfl, -1, rfl, rfl, rfl⟩) fun vs s4 ⟨o, H4, I4, ps, eo, e4⟩ => ?_
  subst eo e4
  cases pl; cases pu
  have I5 : Inv X pins σ H4 { s4 with heap := s4.heap.push { cls := .type "slice", data := .fields #[.none, .none, vs] } } := I4.kept (t' := s4.toks) fun b ob q => Heap.get?_push_of_some _ q
  obtain ⟨its, r, ht, hz⟩ := I5.tuple hx
  have hlen := r.length
  show wpAny (model X.prog X.w) X.A (subscriptTail e (.Slice none none (some (.UnaryOp .USub (.Constant (.int 1) k p1) p2)) p3) (.ref a) (.ref s4.heap.objs.size)) (EP X pins σ Q) X.xe { s4 with heap := s4.heap.push { cls := .type "slice", data := .fields #[.none, .none, vs] } }
  refine tail_any (ops := [.ref a, .ref s4.heap.objs.size]) ht.typeIs (PyProof.Rows.slot_tuple_getitem.lookup) ?_ (by with_unfolding_all rfl)
  refine getItem_back ht (Heap.IsSliceOf.new _ .none .none vs) ps ?_ (by rw [List.size_toArray]; omega)
  refine ⟨.ref _, _, I5.laid (t' := s4.toks) (o := .frz { cls := .type "tuple", data := .seq its.toArray.toList.reverse.toArray } (.tup xs.reverse)) (fun b ob q => Heap.get?_push_of_some _ q) (Nat.le_refl _) ?_, rfl, q _ _ (I5.hok.fresh (Nat.le_refl _)) rfl⟩
  exact ⟨Heap.get?_push_size _ rfl, by rw [List.length_reverse]; exact hz, _, r.reverse, IsTup.new _ _⟩
/-- tuple(a list): the new tuple, as the very object -/
theorem call_tupleF : CallR X (.type "tuple") (fun xs H Q => ∃ p ys, xs = [.ref p] ∧ SqL X.K H p ys ∧ ∀ l o, H l = none → o.dict = none → Q (.ref l) (upd H l (.frz o (.tup ys)))) := by
  intro pins s σ H xs us Q I r ⟨p, ys, ex, hS, q⟩
  subst ex
  obtain ⟨u, rfl, rx⟩ := vals1 r
  cases rx
  obtain ⟨its, r', pl, hz⟩ := I.list hS
  have hlen := r'.length
  refine call_tuple_list pl.isList (fun h' kp => ?_) (by simp only [List.size_toArray] <;> omega)
  have I1 : Inv X pins σ H { s with heap := h' } := I.kept (t' := s.toks) kp
  exact ⟨.ref h'.objs.size, _, I1.laid (t' := s.toks) (o := .frz { cls := .type "tuple", data := .seq its.toArray } (.tup ys)) (fun b o e => Heap.get?_push_of_some _ e) (Nat.le_refl _) ⟨Heap.get?_push_size _ rfl, hz, its, r', IsTup.new _ _⟩, rfl, q _ _ (I1.hok.fresh (Nat.le_refl _)) rfl⟩
/-- (a, b, ..): the same -/
def tTupF (t : TA) : TE := fun σ H Q => t σ H fun xs H1 => xs.length ≤ sizeLine ∧ ∀ p o, H1 p = none → o.dict = none → Q (.ref p) (upd H1 p (.frz o (.tup xs)))
theorem pe_tupF {es : List Expr} {t : TA} {pos : Pos} {x1} (h : PA X es t) : PE X (.Tuple es x1 pos) (tTupF t) := by
  refine ⟨fun pins s σ H Q I hq => wpAny_Tuple_spliced (thn (h.run pos pins s σ H _ I hq) fun us s1 ⟨xs, H1, I1, r, z, q⟩ => ⟨by rw [← r.length]; exact z, ?_⟩)⟩
  exact ⟨.ref s1.heap.objs.size, _, I1.laid (t' := s1.toks) (o := .frz { cls := .type "tuple", data := .seq us.toArray } (.tup xs)) (fun b u e => Heap.get?_push_of_some _ e) (Nat.le_refl _) ⟨Heap.get?_push_size _ rfl, z, us, r, IsTup.new _ _⟩, rfl, q _ _ (I1.hok.fresh (Nat.le_refl _)) rfl⟩
/-- t + u -/
def rCatF (K : PySem.W.Frag) : R2 := fun x y H Q => ∃ a b xs ys, x = .ref a ∧ y = .ref b ∧ SqT K H a xs ∧ SqT K H b ys ∧ xs.length + ys.length ≤ sizeLine ∧
  (xs = [] → Q (.ref b) H) ∧ (xs ≠ [] → ys = [] → Q (.ref a) H) ∧ (xs ≠ [] → ys ≠ [] → ∀ p o, H p = none → o.dict = none → Q (.ref p) (upd H p (.frz o (.tup (xs ++ ys)))))
theorem op_catF : OpR X (binaryOp .Add) (rCatF X.K) := by
  intro pins s σ H x y v u Q I rx ry ⟨a, b, xs, ys, ex, ey, ha, hb, hz, q0, q1, q2⟩
  subst ex ey; cases rx; cases ry
  obtain ⟨its, r1, p1, _⟩ := I.tuple ha
  obtain ⟨its2, r2, p2, _⟩ := I.tuple hb
  by_cases hx : xs = []
  · subst hx; cases r1
    exact cat_tup0 p1 p2 ⟨.ref b, H, I, rfl, q0 rfl⟩
  · refine HT.cat_tup p1 p2 (fun z => hx (r1.nil_iff.mp z)) (fun z => ⟨.ref a, H, I, rfl, q1 hx (r2.nil_iff.mp z)⟩) (fun z => ?_) (by rw [← r1.length, ← r2.length]; exact hz)
    exact ⟨.ref s.heap.objs.size, _, I.laid (t' := s.toks) (o := .frz { cls := .type "tuple", data := .seq (its ++ its2).toArray } (.tup (xs ++ ys))) (fun b ob q => Heap.get?_push_of_some _ q) (Nat.le_refl _)
      ⟨Heap.get?_push_size _ rfl, by rw [List.length_append]; exact hz, _, r1.append r2, IsTup.new _ _⟩, rfl, q2 hx (fun w => z (r2.nil_iff.mpr w)) _ _ (I.hok.fresh (Nat.le_refl _)) rfl⟩
/-- t[lo:hi] -/
def rSlF (K : PySem.W.Frag) : V → Option Int → Option Int → Hp → VK → Prop := fun x lo hi H Q => ∃ a xs, x = .ref a ∧ SqT K H a xs ∧
  (HT.sIx xs.length 0 lo = 0 ∧ HT.sIx xs.length xs.length hi = xs.length → Q (.ref a) H) ∧
  (¬ (HT.sIx xs.length 0 lo = 0 ∧ HT.sIx xs.length xs.length hi = xs.length) → ∀ p o, H p = none → o.dict = none → Q (.ref p) (upd H p (.frz o (.tup (cutV xs lo hi)))))
theorem sl_tupF : SlR X (rSlF X.K) := by
  intro pins s σ H x v vl vu lo hi sl Q I rx hs pl pu ⟨a, xs, ex, hx, q1, q2⟩
  subst ex; cases rx
  obtain ⟨its, r, ht, hz⟩ := I.tuple hx
  have hlen : its.toArray.size = xs.length := List.size_toArray.trans r.length.symm
  refine ⟨"tuple", _, PyProof.Rows.slot_tuple_getitem.lookup, ht.typeIs, ?_⟩
  by_cases hw : HT.sIx xs.length 0 lo = 0 ∧ HT.sIx xs.length xs.length hi = xs.length
  · exact getItem_tuple_whole ht hs pl pu (by rw [hlen]; exact hw) ⟨.ref a, H, I, rfl, q1 hw⟩
  · refine HT.getItem_tuple_cut ht hs pl pu (by rw [hlen]; exact hw) ?_ (by rw [hlen]; exact hz)
    rw [hlen]
    exact ⟨.ref s.heap.objs.size, _, I.laid (t' := s.toks) (o := .frz { cls := .type "tuple", data := .seq ((its.toArray.toList.drop (HT.sIx xs.length 0 lo)).take (HT.sIx xs.length xs.length hi - HT.sIx xs.length 0 lo)).toArray } (.tup (cutV xs lo hi))) (fun b ob q => Heap.get?_push_of_some _ q) (Nat.le_refl _)
      ⟨Heap.get?_push_size _ rfl, Nat.le_trans (cutV_length xs lo hi) hz, _, (r.drop (HT.sIx xs.length 0 lo)).take (HT.sIx xs.length xs.length hi - HT.sIx xs.length 0 lo), IsTup.new _ _⟩, rfl, q2 hw _ _ (I.hok.fresh (Nat.le_refl _)) rfl⟩
/-- t.m(e, ..), t a tuple that stands as the very object, without a dict of its own -/
def tBMT (r : V → List V → Hp → VK → Prop) (to : TE) (t : TA) : TE := fun σ H Q => to σ H fun x H1 => (∃ p ob ys, x = .ref p ∧ ob.dict = none ∧ H1 p = some (.frz ob (.tup ys))) ∧ t σ H1 fun xs H2 => r x xs H2 Q
theorem pe_bmT {o e : Expr} {es : List Expr} {to : TE} {t : TA} {name : Str} {apos cpos : Pos} {id : String} {r : V → List V → Hp → VK → Prop} (slot : Slot "tuple" name id) (hty : typeOf (.builtin id) = pure (.type "method_descriptor")) (hm : MtR X id r) (ho : PE X o to) (ha : PA X (e :: es) t)
    (hbase : attributeBase o name X.env (eval o X.env) = eval o X.env := by rfl)
    (hfew : ((backTo cpos (starEach (e :: es) X.env)).all (fun x => !x.1) && (backToKw cpos (keywordEach [] X.env)).all (fun x => x.1.isSome) && decide ((e :: es).length + ([] : List Keyword).length + (if ([] : List Keyword).isEmpty then 0 else 1) < 30)) = true := by rfl)
    (hline : (apos.endLine == cpos.line) = true := by rfl) (hs : starEach (e :: es) X.env = (false, eval e X.env) :: starEach es X.env := by rfl) (hplain : (backTo cpos (starEach es X.env)).any (·.1) = false := by rfl) :
    PE X (.Call (.Attribute o name apos) (e :: es) [] cpos) (tBMT r to t) := by
  refine ⟨fun pins s σ H Q I h => wpAny_Call_method_late hbase hfew hline rfl (thn (ho.run pins s σ H _ I h) fun v s1 ⟨x, H1, I1, r1, ⟨p, ob, ys, ex, hd, hp⟩, q1⟩ => ?_)⟩
  subst ex
  cases (show v = Value.ref p from r1)
  obtain ⟨g, z, its, rv, o', g', c', _⟩ := (show ObjOk X.prog X.w H1 s1.heap p (.frz ob (.tup ys)) from I1.hok p _ hp)
  refine ⟨"tuple", id, PySem.F.plainAttrs_tuple, slot, hty, ⟨o', g', c'⟩, fun a e => by cases e; exact ⟨ob, g, hd⟩, ?_⟩
  have hA := ha.run cpos pins s1 σ H1 _ I1 q1
  rw [hs] at hA ⊢
  refine Calls.callWith_builtin (by show (false || (backTo cpos (starEach es X.env)).any (·.1)) = false; rw [hplain] <;> rfl) (Calls.evalArgs_plain (thn hA fun us s2 ⟨vs, H2, I2, r2, q2⟩ => ?_))
  exact hm pins s2 σ H2 (.ref p) vs (.ref p) us Q I2 rfl r2 q2
end
end TR
namespace TR
open PySem PySem.Spec PyProof.Rows L2
section
variable {prog : Program} {w : World} {A : Around} {E : Value → Shared → Prop} {s : Shared}
/-- what a tuple is collected into -/
theorem collect_tup {t : Addr} {vs : List Value} {Q : List Value → Shared → Prop} (ht : IsTup s.heap t vs.toArray) (h : Q vs { s with heap := (s.heap.push (seqObj "list" #[] 0)).update s.heap.objs.size (Obj.mapSeq (· ++ vs.toArray)) }) (hsz : vs.length ≤ sizeLine) : wpAny (model prog w) A (collect (.ref t)) Q E s := by
  obtain ⟨o, ho, hc, n, hd⟩ := id ht
  have ho2 : (s.heap.push (seqObj "list" #[] 0)).get? t = some o := Heap.get?_push_of_some _ ho
  unfold collect; refine wpAny_bind (wpAny_runValue (codeAny_builtin entry_proto_collect' ?_))
  show wpAny _ _ (do again (.builtin "list.__iadd__" ⟨[← newList [], .ref t], []⟩)) _ _ s
  refine wpAny_bind (wpAny_newList (wpAny_pure ⟨Code.quiet_builtin _ (by decide +kernel), codeAny_builtin entry_list_iadd' ?_⟩) (Nat.zero_le _))
  show wpAny _ _ (Builtin.List.listExtendWith (.ref s.heap.objs.size) (.ref t) (.ref s.heap.objs.size)) _ _ { s with heap := s.heap.push (seqObj "list" #[] 0) }
  unfold Builtin.List.listExtendWith; refine wpAny_bind (wpAny_typeOf (T := "tuple") ⟨o, ho2, hc⟩ ?_)
  have hy : (Value.type "tuple" == Value.type "tuple") = true := rfl
  rw [if_pos (by rw [hy]; simp)]; refine wpAny_bind (listItems_at ho2 hd ?_)
  refine wpAny_bind (listItems_at (xs := #[]) (n := 0) (Heap.get?_push_size _ rfl) rfl ?_); rw [if_neg (by simp)]
  refine wpAny_bind (listUpdate_at (xs := #[]) (n := 0) (Heap.get?_push_size _ rfl) rfl (wpAny_pure ?_) (Nat.zero_le _) (by show (#[] ++ vs.toArray).size ≤ sizeLine + 1; simp only [Array.size_append, List.size_toArray, List.length_nil]; omega))
  show wpAny (model prog w) A (load s.heap.objs.size >>= fun ob => match ob.data with | .seq xs _ => pure xs.toList | _ => unsupported "internal:collect") Q E { s with heap := (s.heap.push (seqObj "list" #[] 0)).update s.heap.objs.size (Obj.mapSeq (· ++ vs.toArray)) }
  refine wpAny_bind (wpAny_load (get?_update_seq (Heap.get?_push_size _ rfl) _) ?_)
  show wpAny _ _ (pure ((#[] : Array Value) ++ vs.toArray).toList) Q E _; rw [show ((#[] : Array Value) ++ vs.toArray).toList = vs by simp]; exact wpAny_pure h
/-- sorted of a tuple -/
theorem sorted_tupO {t : Addr} {vs : List Value} {ltv : Value → Value → Bool} {Q : Value → Shared → Prop} (O : SrtO.Swo ltv) (ht : IsTup s.heap t vs.toArray) (hz : vs.length ≤ sizeLine)
    (hS : 2 ≤ vs.length → ∀ (g : Heap) (a : Addr), g.get? a = some (seqObj "list" vs.toArray 0) → (∀ b o, s.heap.get? b = some o → b ≠ a ∧ g.get? b = some o) → SrtO.SortableO prog w A.in1.in1 { s with heap := g } a vs ltv)
    (h : ∀ out : List Value, SrtO.Srtd ltv out → SrtO.Stb ltv out vs → Q (.ref (s.heap.objs.size + 1)) { s with heap := sortedAll s.heap vs out.toArray }) : wpAny (model prog w) A (call (.builtin "sorted") [.ref t]) Q E s := by
  refine Calls.call_function_entry kind_sorted plain_sorted entry_sorted (args_sorted1 _) ?_
  unfold Builtin.«sorted»; refine wpAny_bind (m := checkCount "sorted" 1 1 _) (wpAny_pure (wpAny_bind (collect_tup ht (wpAny_bind (wpAny_newList ?_ hz)) hz)))
  have hn : ((s.heap.push (seqObj "list" #[] 0)).update s.heap.objs.size (Obj.mapSeq (· ++ vs.toArray))).objs.size = s.heap.objs.size + 1 := by rw [Heap.size_update]; simp [Heap.push]
  have hL : (((s.heap.push (seqObj "list" #[] 0)).update s.heap.objs.size (Obj.mapSeq (· ++ vs.toArray))).push (seqObj "list" vs.toArray 0)).get? (s.heap.objs.size + 1) = some (seqObj "list" vs.toArray 0) := hn ▸ Heap.get?_push_size _ rfl
  have kp : ∀ b o, s.heap.get? b = some o → b ≠ s.heap.objs.size + 1 ∧ (((s.heap.push (seqObj "list" #[] 0)).update s.heap.objs.size (Obj.mapSeq (· ++ vs.toArray))).push (seqObj "list" vs.toArray 0)).get? b = some o := fun b o q =>
    ⟨Nat.ne_of_lt (Nat.lt_succ_of_lt (Heap.lt_size q)), Heap.get?_push_of_some _ (by rw [Heap.get?_update_ne _ _ _ _ (Nat.ne_of_lt (Heap.lt_size q))]; exact Heap.get?_push_of_some _ q)⟩
  show wpAny _ _ _ _ _ { s with heap := ((s.heap.push (seqObj "list" #[] 0)).update s.heap.objs.size (Obj.mapSeq (· ++ vs.toArray))).push (seqObj "list" vs.toArray 0) }; rw [hn]
  refine wpAny_bind (wpAny_holding (wpAny_call_entry slot_list_sort ⟨_, hL, rfl⟩ entry_list_sort (SrtO.list_sort_ord O hL hz (fun h2 => hS h2 _ _ hL kp) fun out a b => ⟨_, rfl, wpAny_pure ⟨_, rfl, h out a b⟩⟩) (args_list_sort _)))
end
section
variable {X : Cx}
/-- sorted(t), t a tuple of ints -/
def rSortedTI (K : PySem.W.Frag) : List V → Hp → VK → Prop := fun vs H Q => ∃ (a : Addr) (ns : List Int), vs = [V.ref a] ∧ SqT K H a (ns.map V.int) ∧ ∀ (ms : List Int) (p : Addr), ms.Perm ns → ms.Pairwise (· ≤ ·) → H p = none → Q (.ref p) (upd H p (.lst (ms.map V.int)))
theorem cr_sortedTI : CallR X (.builtin "sorted") (rSortedTI X.K) := by
  intro pins s σ H vs us Q I r ⟨a, ns, ev, hs, q⟩
  subst ev
  obtain ⟨its, rv, ht, hz⟩ := I.tuple hs
  rw [Vals.ref1 r]; have hi := rv.ints
  refine sorted_tupO SrtO.swo_int ht (by rw [← rv.length]; exact hz) (fun h2 g a' _ _ => SrtO.ints_sortable hi h2) fun out h1 h2 => ?_
  obtain ⟨k1, k2, k3⟩ := SrtO.ints_out hi h1 h2; obtain ⟨ep, he⟩ := PyProof.Rows.sortedAll_at s.heap its out.toArray
  have hl : ((out.map SrtO.iv).map V.int).length ≤ sizeLine := by rw [List.length_map, k2.length_eq]; rw [List.length_map] at hz; exact hz
  exact ⟨.ref _, upd H (s.heap.objs.size + 1) (.lst ((out.map SrtO.iv).map V.int)), I.laid (t' := s.toks) (fun _ _ => PyProof.Rows.sortedAll_old) (Nat.le_succ _) ⟨hl, out, ep, vals_of_ints k1, he⟩, rfl, q _ _ k2 k3 (I.hok.fresh (Nat.le_succ _))⟩
end
end TR
namespace TR
open PySem PySem.Spec PyProof.Rows L2
/-! ### values of any kind, as data; ban: where no list of them stands -/
mutual
def Rp (H : Hp) (ban : List Addr) : PyData → V → Prop
  | .none, v => v = .non
  | .bool b, v => v = .bl b
  | .int i, v => v = .int i
  | .str x, v => v = .str x
  | .list ds, v => ∃ a xs, v = .ref a ∧ H a = some (.lst xs) ∧ a ∉ ban ∧ RpAll H ban ds xs
  | .tuple ds, v => ∃ a xs, v = .ref a ∧ TF H a xs ∧ RpAll H ban ds xs
  | .dict kvs, v => kvs = [] ∧ ∃ a, v = .ref a ∧ H a = some (.dK [])
def RpAll (H : Hp) (ban : List Addr) : List PyData → List V → Prop
  | [], xs => xs = []
  | d :: ds, xs => ∃ v r, xs = v :: r ∧ Rp H ban d v ∧ RpAll H ban ds r
end
mutual
theorem Rp.mv {H H' : Hp} {ban : List Addr} (mL : ∀ a xs, a ∉ ban → H a = some (.lst xs) → H' a = some (.lst xs)) (mT : ∀ a xs, TF H a xs → TF H' a xs) (mD : ∀ a, H a = some (.dK []) → H' a = some (.dK [])) : ∀ (d : PyData) (v : V), Rp H ban d v → Rp H' ban d v
  | .none, _, h => h
  | .bool _, _, h => h
  | .int _, _, h => h
  | .str _, _, h => h
  | .list ds, _, h => by
    obtain ⟨a, xs, e, h1, h2, h3⟩ := h
    exact ⟨a, xs, e, mL a xs h2 h1, h2, RpAll.mv mL mT mD ds xs h3⟩
  | .tuple ds, _, h => by
    obtain ⟨a, xs, e, h1, h3⟩ := h
    exact ⟨a, xs, e, mT a xs h1, RpAll.mv mL mT mD ds xs h3⟩
  | .dict kvs, _, h => by
    obtain ⟨e0, a, e, h1⟩ := h
    exact ⟨e0, a, e, mD a h1⟩
theorem RpAll.mv {H H' : Hp} {ban : List Addr} (mL : ∀ a xs, a ∉ ban → H a = some (.lst xs) → H' a = some (.lst xs)) (mT : ∀ a xs, TF H a xs → TF H' a xs) (mD : ∀ a, H a = some (.dK []) → H' a = some (.dK [])) : ∀ (ds : List PyData) (xs : List V), RpAll H ban ds xs → RpAll H' ban ds xs
  | [], _, h => h
  | d :: ds, _, h => by
    obtain ⟨v, r, e, h1, h2⟩ := h
    exact ⟨v, r, e, Rp.mv mL mT mD d v h1, RpAll.mv mL mT mD ds r h2⟩
end
theorem rd_same {H H' : Hp} {a : Addr} {u : HO} (s : Same H H') (h : Rd H a u) : Rd H' a u := by
  rcases h with h | ⟨o, h⟩
  · exact .inl (s _ _ h)
  · exact .inr ⟨o, s _ _ h⟩
theorem Rp.same {H H' : Hp} {ban : List Addr} {d : PyData} {v : V} (h : Rp H ban d v) (s : Same H H') : Rp H' ban d v := Rp.mv (fun a xs _ e => s _ _ e) (fun a xs e => tf_same s e) (fun a e => s _ _ e) d v h
theorem RpAll.same {H H' : Hp} {ban : List Addr} {ds : List PyData} {xs : List V} (h : RpAll H ban ds xs) (s : Same H H') : RpAll H' ban ds xs := RpAll.mv (fun a xs _ e => s _ _ e) (fun a xs e => tf_same s e) (fun a e => s _ _ e) ds xs h
theorem Rp.keep {H H' : Hp} {ban : List Addr} {d : PyData} {v : V} {k p q : Addr} {n : Nat} (h : Rp H ban d v) (D : Deck H k p q n) (s : Keep k p H H') (b1 : k ∈ ban) (b2 : p ∈ ban) : Rp H' ban d v := by
  obtain ⟨x, y, c, e1⟩ := D.hd
  obtain ⟨zs, e2⟩ := D.hp
  refine Rp.mv (fun a xs hn e => s _ _ e (fun z => hn (z ▸ b1)) (fun z => hn (z ▸ b2))) (fun a xs e => e.keep D s) (fun a e => s _ _ e (ne_of e e1 (by intro z; cases z)) (ne_of e e2 (by intro z; cases z))) d v h
theorem RpAll.len {H : Hp} {ban : List Addr} : ∀ {ds : List PyData} {xs : List V}, RpAll H ban ds xs → xs.length = ds.length
  | [], _, h => by rw [show _ = [] from h]; rfl
  | d :: ds, _, h => by
    obtain ⟨v, r, rfl, _, h2⟩ := h
    rw [List.length_cons, List.length_cons, RpAll.len h2]
theorem RpAll.get {H : Hp} {ban : List Addr} : ∀ {ds : List PyData} {xs : List V}, RpAll H ban ds xs → ∀ {i : Nat} {x : V}, xs[i]? = some x → ∃ d, ds[i]? = some d ∧ Rp H ban d x
  | [], _, h, i, x, e => by rw [show _ = [] from h] at e; simp at e
  | d :: ds, _, h, i, x, e => by
    obtain ⟨v, r, rfl, h1, h2⟩ := h
    cases i with
    | zero =>
      cases (Option.some.inj e)
      exact ⟨d, rfl, h1⟩
    | succ i => exact RpAll.get h2 e
theorem RpAll.app {H : Hp} {ban : List Addr} : ∀ {ds es : List PyData} {xs ys : List V}, RpAll H ban ds xs → RpAll H ban es ys → RpAll H ban (ds ++ es) (xs ++ ys)
  | [], _, _, _, h, g => by rw [show _ = [] from h]; exact g
  | d :: ds, _, _, _, h, g => by
    obtain ⟨v, r, rfl, h1, h2⟩ := h
    exact ⟨v, _, rfl, h1, RpAll.app h2 g⟩
theorem RpAll.take {H : Hp} {ban : List Addr} : ∀ {ds : List PyData} {xs : List V} (k : Nat), RpAll H ban ds xs → RpAll H ban (ds.take k) (xs.take k)
  | _, _, 0, _ => rfl
  | [], _, k + 1, h => by rw [show _ = [] from h]; rfl
  | d :: ds, _, k + 1, h => by
    obtain ⟨v, r, rfl, h1, h2⟩ := h
    exact ⟨v, _, rfl, h1, RpAll.take k h2⟩
theorem RpAll.drop {H : Hp} {ban : List Addr} : ∀ {ds : List PyData} {xs : List V} (k : Nat), RpAll H ban ds xs → RpAll H ban (ds.drop k) (xs.drop k)
  | _, _, 0, h => h
  | [], _, k + 1, h => by rw [show _ = [] from h]; rfl
  | d :: ds, _, k + 1, h => by
    obtain ⟨v, r, rfl, h1, h2⟩ := h
    exact RpAll.drop k h2
theorem RpAll.rev {H : Hp} {ban : List Addr} : ∀ {ds : List PyData} {xs : List V}, RpAll H ban ds xs → RpAll H ban ds.reverse xs.reverse
  | [], _, h => by rw [show _ = [] from h]; rfl
  | d :: ds, _, h => by
    obtain ⟨v, r, rfl, h1, h2⟩ := h
    rw [List.reverse_cons, List.reverse_cons]
    exact RpAll.app (RpAll.rev h2) ⟨v, [], rfl, h1, rfl⟩
theorem RpAll.ints {H : Hp} {ban : List Addr} : ∀ ns : List Int, RpAll H ban (ns.map PyData.int) (ns.map V.int)
  | [] => rfl
  | n :: r => ⟨_, _, rfl, rfl, RpAll.ints r⟩
/-! ### what is small enough to be shown -/
def leafOk (L : Nat) : PyData → Prop
  | .none => True
  | .bool _ => True
  | .int i => i.natAbs ≤ 10 ^ 59 + L
  | .str x => x.length ≤ 69 ∧ ∀ c ∈ x.cps.toList, c < 16 ^ 8
  | _ => False
def Wf (L : Nat) : Nat → PyData → Prop
  | 0, d => leafOk L d
  | D + 1, d => leafOk L d ∨ d = .dict [] ∨ ∃ ds, (d = .list ds ∨ d = .tuple ds) ∧ ds.length ≤ L ∧ ∀ e ∈ ds, Wf L D e
theorem leafOk.mono {L L' : Nat} (h : L ≤ L') : ∀ {d : PyData}, leafOk L d → leafOk L' d
  | .none, _ => trivial
  | .bool _, _ => trivial
  | .int i, g => Nat.le_trans g (Nat.add_le_add_left h _)
  | .str _, g => g
theorem Wf.mono {L L' : Nat} (h : L ≤ L') : ∀ {D D' : Nat} {d : PyData}, D ≤ D' → Wf L D d → Wf L' D' d
  | 0, 0, _, _, g => leafOk.mono h g
  | 0, _ + 1, _, _, g => .inl (leafOk.mono h g)
  | _ + 1, 0, _, k, _ => absurd k (by omega)
  | D + 1, D' + 1, _, k, g => by
    rcases g with g | g | ⟨ds, e, l, c⟩
    · exact .inl (leafOk.mono h g)
    · exact .inr (.inl g)
    · exact .inr (.inr ⟨ds, e, Nat.le_trans l h, fun x hx => Wf.mono h (by omega) (c x hx)⟩)
def bnd : Nat → Nat
  | 0 => 700
  | D + 1 => 3 + 11 * (bnd D + 2)
theorem bnd_ge : ∀ D, 700 ≤ bnd D
  | 0 => Nat.le_refl _
  | D + 1 => by
    have := bnd_ge D
    show 700 ≤ 3 + 11 * (bnd D + 2)
    omega
theorem small_int {L : Nat} (h : L ≤ 41) {i : Int} (g : i.natAbs ≤ 10 ^ 59 + L) : i.natAbs < 10 ^ 60 := by
  have e : (10 : Nat) ^ 60 = 10 * 10 ^ 59 := by decide
  have e2 : (41 : Nat) < 10 ^ 59 := by decide
  omega
theorem small_log {i : Int} (g : i.natAbs < 10 ^ 60) : i.natAbs.log2 < 1920 := by
  by_cases h : i.natAbs = 0
  · rw [h]; decide
  · refine (Nat.log2_lt h).mpr (Nat.lt_trans g (by decide +kernel))
theorem leaf_shown {L : Nat} (h : L ≤ 41) : ∀ {d : PyData}, leafOk L d → d.shown.length ≤ 700 ∧ d.showable = true ∧ d.depth = 0
  | .none, _ => ⟨by decide +kernel, rfl, rfl⟩
  | .bool b, _ => ⟨by cases b <;> decide +kernel, rfl, rfl⟩
  | .int i, g => by
    have g2 := small_int h g
    refine ⟨?_, decide_eq_true (small_log g2), rfl⟩
    show (Str.ofString (toString i)).length ≤ 700
    have := int_text_length_le10 (k := 60) (by decide) g2
    rw [PySem.ofString_length]
    omega
  | .str x, g => by
    refine ⟨?_, rfl, rfl⟩
    show (reprText x).length ≤ 700
    have := StrLaws.reprText_len x g.2
    have := g.1
    omega
theorem piled_le {B : Nat} : ∀ ts : List Str, (∀ t ∈ ts, t.length ≤ B) → piled ts ≤ ts.length * (B + 2)
  | [], _ => Nat.zero_le _
  | t :: r, h => by
    have := piled_le r fun x hx => h x (List.mem_cons_of_mem _ hx)
    have := h t (List.mem_cons_self ..)
    rw [piled_cons, List.length_cons, Nat.succ_mul]
    omega
theorem text_le : ∀ (ts : List Str) (k : Nat) (acc : Str), (textFrom k acc ts).length ≤ acc.length + piled ts
  | [], _, _ => Nat.le_refl _
  | t :: r, k, acc => by
    have := text_le r (k + 1) (acc ++ (if k > 0 then ", " else "" : String) ++ t)
    rw [Str.length_append, Str.length_append] at this
    have e : ((if k > 0 then ", " else "" : String) : Str).length ≤ 2 := by
      split <;> decide +kernel
    rw [piled_cons]
    show (textFrom (k + 1) (acc ++ (if k > 0 then ", " else "" : String) ++ t) r).length ≤ _
    omega
theorem list_le (ts : List Str) : (listText ts).length ≤ 2 + piled ts := by
  have := text_le ts 0 "["
  unfold listText
  rw [Str.length_append]
  have e1 : ("[" : Str).length = 1 := by decide +kernel
  have e2 : ("]" : Str).length = 1 := by decide +kernel
  omega
theorem tup_le (ts : List Str) : (tupleText ts).length ≤ 3 + piled ts := by
  unfold tupleText
  rw [Str.length_append, Str.length_append]
  have e1 : ("(" : Str).length = 1 := by decide +kernel
  have e2 : ((if (ts.length == 1) = true then ",)" else ")" : String) : Str).length ≤ 2 := by
    split <;> decide +kernel
  have e3 : (Str.join ", " ts).length ≤ piled ts := by
    cases ts with
    | nil => decide +kernel
    | cons t r =>
      have := join_length_add (t :: r) (by simp)
      omega
  omega
theorem shownAll_len : ∀ ds : List PyData, (PyData.shownAll ds).length = ds.length
  | [] => rfl
  | d :: r => by
    show (PyData.shownAll r).length + 1 = r.length + 1
    rw [shownAll_len r]
theorem shownAll_mem : ∀ (ds : List PyData) (t : Str), t ∈ PyData.shownAll ds → ∃ d ∈ ds, t = d.shown
  | [], _, h => by cases h
  | d :: r, t, h => by
    rcases List.mem_cons.mp h with e | h
    · exact ⟨d, List.mem_cons_self .., e⟩
    · obtain ⟨x, hx, e⟩ := shownAll_mem r t h
      exact ⟨x, List.mem_cons_of_mem _ hx, e⟩
theorem showAll : ∀ ds : List PyData, (∀ d ∈ ds, d.showable = true) → PyData.showableAll ds = true
  | [], _ => rfl
  | d :: r, h => by
    show (d.showable && PyData.showableAll r) = true
    rw [h d (List.mem_cons_self ..), showAll r fun x hx => h x (List.mem_cons_of_mem _ hx)]
    rfl
theorem depAll {D : Nat} : ∀ ds : List PyData, (∀ d ∈ ds, d.depth ≤ D) → PyData.depthAll ds ≤ D
  | [], _ => Nat.zero_le _
  | d :: r, h => by
    show max d.depth (PyData.depthAll r) ≤ D
    exact Nat.max_le.mpr ⟨h d (List.mem_cons_self ..), depAll r fun x hx => h x (List.mem_cons_of_mem _ hx)⟩
theorem Wf.shown {L : Nat} (h : L ≤ 11) : ∀ {D : Nat} {d : PyData}, Wf L D d → d.shown.length ≤ bnd D ∧ d.showable = true ∧ d.depth ≤ D
  | 0, _, g => by
    obtain ⟨a, b, c⟩ := leaf_shown (by omega) g
    exact ⟨a, b, by omega⟩
  | D + 1, d, g => by
    have hb : 700 ≤ bnd (D + 1) := bnd_ge (D + 1)
    rcases g with g | rfl | ⟨ds, e, l, c⟩
    · obtain ⟨a, b, c⟩ := leaf_shown (by omega) g
      exact ⟨Nat.le_trans a hb, b, by omega⟩
    · exact ⟨Nat.le_trans (by decide +kernel) hb, rfl, by show 0 + 1 ≤ D + 1; omega⟩
    · have ih := fun x hx => Wf.shown h (c x hx)
      have p1 : piled (PyData.shownAll ds) ≤ 11 * (bnd D + 2) := by
        refine Nat.le_trans (piled_le (B := bnd D) _ fun t ht => ?_) ?_
        · obtain ⟨x, hx, rfl⟩ := shownAll_mem ds t ht
          exact (ih x hx).1
        · rw [shownAll_len]
          exact Nat.mul_le_mul_right _ (by omega)
      have p2 := showAll ds fun x hx => (ih x hx).2.1
      have p3 := depAll ds fun x hx => (ih x hx).2.2
      rcases e with rfl | rfl
      · refine ⟨?_, p2, ?_⟩
        · show (listText (PyData.shownAll ds)).length ≤ 3 + 11 * (bnd D + 2)
          have := list_le (PyData.shownAll ds)
          omega
        · show PyData.depthAll ds + 1 ≤ D + 1
          omega
      · refine ⟨?_, p2, ?_⟩
        · show (tupleText (PyData.shownAll ds)).length ≤ 3 + 11 * (bnd D + 2)
          have := tup_le (PyData.shownAll ds)
          omega
        · show PyData.depthAll ds + 1 ≤ D + 1
          omega
theorem bnd_small {D : Nat} (h : D ≤ 4) : bnd D ≤ sizeLine := by
  have e : bnd 4 ≤ sizeLine := by decide +kernel
  have m : ∀ a b, a ≤ b → bnd a ≤ bnd b := by
    intro a b hab
    induction hab with
    | refl => exact Nat.le_refl _
    | step _ ih =>
      refine Nat.le_trans ih ?_
      show bnd _ ≤ 3 + 11 * (bnd _ + 2)
      omega
  exact Nat.le_trans (m D 4 h) e
/-! ### how many parts, and how long shown -/
mutual
def sz : PyData → Nat
  | .none => 1
  | .bool _ => 1
  | .int _ => 1
  | .str _ => 1
  | .list ds => 1 + szAll ds
  | .tuple ds => 1 + szAll ds
  | .dict _ => 1
def szAll : List PyData → Nat
  | [] => 0
  | d :: r => sz d + szAll r
end
theorem szAll_app : ∀ ds es : List PyData, szAll (ds ++ es) = szAll ds + szAll es
  | [], es => by show szAll es = 0 + szAll es; omega
  | d :: r, es => by
    show sz d + szAll (r ++ es) = sz d + szAll r + szAll es
    rw [szAll_app r es]
    omega
theorem szAll_take (ds : List PyData) (k : Nat) : szAll (ds.take k) + szAll (ds.drop k) = szAll ds := by
  rw [← szAll_app, List.take_append_drop]
theorem szAll_cut (ds : List PyData) (a b : Nat) : szAll ((ds.drop a).take b) ≤ szAll ds := by
  have h1 := szAll_take ds a
  have h2 := szAll_take (ds.drop a) b
  omega
theorem szAll_rev : ∀ ds : List PyData, szAll ds.reverse = szAll ds
  | [] => rfl
  | d :: r => by
    rw [List.reverse_cons, szAll_app, szAll_rev r]
    show szAll r + (sz d + 0) = sz d + szAll r
    omega
theorem szAll_mem : ∀ {ds : List PyData} {d : PyData}, d ∈ ds → sz d ≤ szAll ds
  | e :: r, d, h => by
    show sz d ≤ sz e + szAll r
    rcases List.mem_cons.mp h with rfl | h
    · omega
    · have := szAll_mem h
      omega
theorem szAll_ints : ∀ ns : List Int, szAll (ns.map PyData.int) = ns.length
  | [] => rfl
  | n :: r => by
    show 1 + szAll (r.map PyData.int) = r.length + 1
    rw [szAll_ints r]
    omega
theorem szAll_le {B : Nat} : ∀ ds : List PyData, (∀ d ∈ ds, sz d ≤ B) → szAll ds ≤ ds.length * B
  | [], _ => Nat.zero_le _
  | d :: r, h => by
    have h1 := h d (List.mem_cons_self ..)
    have h2 := szAll_le r fun x hx => h x (List.mem_cons_of_mem _ hx)
    show sz d + szAll r ≤ (r.length + 1) * B
    rw [Nat.succ_mul]
    omega
def zb (L : Nat) : Nat → Nat
  | 0 => 1
  | D + 1 => 1 + L * zb L D
theorem leaf_sz {L : Nat} : ∀ {d : PyData}, leafOk L d → sz d = 1
  | .none, _ => rfl
  | .bool _, _ => rfl
  | .int _, _ => rfl
  | .str _, _ => rfl
theorem Wf.sz {L : Nat} : ∀ {D : Nat} {d : PyData}, Wf L D d → sz d ≤ zb L D
  | 0, _, g => Nat.le_of_eq (leaf_sz g)
  | D + 1, d, g => by
    have h1 : 1 ≤ zb L (D + 1) := by show 1 ≤ 1 + L * zb L D; omega
    rcases g with g | rfl | ⟨ds, e, l, c⟩
    · rw [leaf_sz g]; exact h1
    · exact h1
    · have h2 := szAll_le ds fun x hx => Wf.sz (c x hx)
      have h3 : ds.length * zb L D ≤ L * zb L D := Nat.mul_le_mul_right _ l
      rcases e with rfl | rfl
      · show 1 + szAll ds ≤ 1 + L * zb L D
        omega
      · show 1 + szAll ds ≤ 1 + L * zb L D
        omega
theorem piled_sz : ∀ ds : List PyData, (∀ d ∈ ds, d.shown.length + 5 ≤ 710 * TR.sz d) → piled (PyData.shownAll ds) ≤ 710 * szAll ds
  | [], _ => Nat.zero_le _
  | d :: r, h => by
    have h1 := h d (List.mem_cons_self ..)
    have h2 := piled_sz r fun x hx => h x (List.mem_cons_of_mem _ hx)
    show piled (d.shown :: PyData.shownAll r) ≤ 710 * (TR.sz d + szAll r)
    rw [piled_cons]
    omega
theorem Wf.shownS {L : Nat} (h : L ≤ 41) : ∀ {D : Nat} {d : PyData}, Wf L D d → d.shown.length + 5 ≤ 710 * TR.sz d ∧ d.showable = true ∧ d.depth ≤ D
  | 0, _, g => by
    obtain ⟨a, b, c⟩ := leaf_shown h g
    rw [leaf_sz g]
    exact ⟨by omega, b, by omega⟩
  | D + 1, d, g => by
    rcases g with g | rfl | ⟨ds, e, l, c⟩
    · obtain ⟨a, b, c⟩ := leaf_shown h g
      rw [leaf_sz g]
      exact ⟨by omega, b, by omega⟩
    · exact ⟨(by decide +kernel : _ + 5 ≤ 710 * 1), rfl, by show 0 + 1 ≤ D + 1; omega⟩
    · have ih := fun x hx => Wf.shownS h (c x hx)
      have p1 := piled_sz ds fun x hx => (ih x hx).1
      have p2 := showAll ds fun x hx => (ih x hx).2.1
      have p3 := depAll ds fun x hx => (ih x hx).2.2
      rcases e with rfl | rfl
      · refine ⟨?_, p2, ?_⟩
        · show (listText (PyData.shownAll ds)).length + 5 ≤ 710 * (1 + szAll ds)
          have := list_le (PyData.shownAll ds)
          omega
        · show PyData.depthAll ds + 1 ≤ D + 1
          omega
      · refine ⟨?_, p2, ?_⟩
        · show (tupleText (PyData.shownAll ds)).length + 5 ≤ 710 * (1 + szAll ds)
          have := tup_le (PyData.shownAll ds)
          omega
        · show PyData.depthAll ds + 1 ≤ D + 1
          omega
theorem shown_fits {d : PyData} {S : Nat} (h : d.shown.length + 5 ≤ 710 * TR.sz d) (g : TR.sz d ≤ S) (k : S ≤ 20000) : d.shown.length ≤ sizeLine := by
  rw [sizeLine_eq]
  omega
end TR
namespace TR
open PySem PySem.Spec PyProof.Rows L2
section
variable {X : Cx} {pins : List (Addr × Obj)} {σ : L2.St} {H : Hp} {s : Shared}
mutual
theorem Rp.reads {ban : List Addr} (hb : sysModules ∈ ban) (I : Inv X pins σ H s) : ∀ (d : PyData) (v : V) (u : Value), Rp H ban d v → RelV v u → ∃ as, Reads s.heap u d as ∧ sysModules ∉ as
  | .none, _, _, h, r => by cases (show _ = V.non from h); cases r; exact ⟨_, .none, by simp⟩
  | .bool b, _, _, h, r => by cases (show _ = V.bl b from h); cases r; exact ⟨_, .bool b, by simp⟩
  | .int i, _, _, h, r => by cases (show _ = V.int i from h); obtain ⟨t, rfl⟩ := r; exact ⟨_, .int i t, by simp⟩
  | .str x, _, _, h, r => by cases (show _ = V.str x from h); obtain ⟨t, rfl⟩ := r; exact ⟨_, .str x t, by simp⟩
  | .list ds, _, _, h, r => by
    obtain ⟨a, xs, rfl, h1, h2, h3⟩ := h
    cases r
    obtain ⟨z, its, n, rv, e⟩ := (show ObjOk X.prog X.w H s.heap a (.lst xs) from I.hok a _ h1)
    obtain ⟨as, g, m⟩ := RpAll.reads hb I ds xs its h3 rv
    exact ⟨a :: as, .list e rfl rfl (by simpa using g), by simp only [List.mem_cons, not_or]; exact ⟨fun e => h2 (e ▸ hb), m⟩⟩
  | .tuple ds, _, _, h, r => by
    obtain ⟨a, xs, rfl, h1, h3⟩ := h
    cases r
    obtain ⟨z, its, rv, o, e, c, n, hd⟩ := h1.rd.ok I.hok
    obtain ⟨as, g, m⟩ := RpAll.reads hb I ds xs its h3 rv
    exact ⟨as, .tuple e c hd (by simpa using g), m⟩
  | .dict kvs, _, _, h, r => by
    obtain ⟨rfl, a, rfl, h1⟩ := h
    cases r
    obtain ⟨z, hs, vs, kv, o, es, ep, e, ex, hd, _, ps, _⟩ := dk_of I.hok h1
    cases kv
    have hes : es = #[] := by
      cases es with
      | mk l =>
        cases (show Pairs _ l [] from ps)
        rfl
    subst hes
    refine ⟨[a], .dict (as := []) (bs := []) e ex.1 hd .nil .nil, fun m => ?_⟩
    have e2 : sysModules = a := List.mem_singleton.mp m
    rw [e2] at hs
    exact absurd hs (by simp)
theorem RpAll.reads {ban : List Addr} (hb : sysModules ∈ ban) (I : Inv X pins σ H s) : ∀ (ds : List PyData) (xs : List V) (us : List Value), RpAll H ban ds xs → Vals xs us → ∃ as, ReadsAll s.heap us ds as ∧ sysModules ∉ as
  | [], _, _, h, r => by cases (show _ = [] from h); cases r; exact ⟨_, .nil, by simp⟩
  | d :: ds, _, _, h, r => by
    obtain ⟨v, t, rfl, h1, h2⟩ := h
    cases r with
    | cons r1 r2 =>
      obtain ⟨as, q1, m1⟩ := Rp.reads hb I d _ _ h1 r1
      obtain ⟨bs, q2, m2⟩ := RpAll.reads hb I ds _ _ h2 r2
      exact ⟨as ++ bs, .cons q1 q2, by simp only [List.mem_append, not_or]; exact ⟨m1, m2⟩⟩
end
end
section
variable {X : Cx}
/-- repr(x), x of any kind -/
theorem call_reprD (hg : X.A.guards = some []) (hu : X.A.units + 64 < cLine) : CallR X (.builtin "repr") (fun xs H Q => ∃ x d ban, xs = [x] ∧ sysModules ∈ ban ∧ Rp H ban d x ∧ d.showable = true ∧ d.depth ≤ 50 ∧ d.shown.length ≤ sizeLine ∧ Q (.str d.shown) H) := by
  intro pins s σ H xs us Q I r ⟨x, d, ban, ex, hb, hp, hs, hd, hz, q⟩
  subst ex
  obtain ⟨u, rfl, rx⟩ := vals1 r
  obtain ⟨as, rd, m⟩ := Rp.reads hb I d x u hp rx
  have fin : ∀ (h' : Heap) (t : Tok) (tk : Nat), (∀ b o, s.heap.get? b = some o → h'.get? b = some o) → EP X pins σ Q (.str d.shown t) { s with heap := h', toks := tk } := fun h' t tk kp => ⟨.str d.shown, H, I.kept (t' := tk) kp, ⟨t, rfl⟩, q⟩
  have here : ∀ (t : Tok) (tk : Nat), EP X pins σ Q (.str d.shown t) { s with toks := tk } := fun t tk => fin s.heap t tk fun _ _ e => e
  cases rd with
  | none => exact PySem.P.repr_of_none (here _ _)
  | bool b => exact PySem.P.repr_of_bool (here _ _)
  | int i t => exact PySem.P.repr_of_int (of_decide_eq_true hs) (here _ _)
  | str z t => exact PySem.P.repr_of_str (here _ _) hz
  | list h1 h2 h3 h4 => exact repr_of_reads' (.list h1 h2 h3 h4) hs (fun _ => m) hg (by omega) (fun _ _ e => e) (fun h' u tk kp => fin h' u tk kp) hz
  | tuple h1 h2 h3 h4 => exact repr_of_reads' (.tuple h1 h2 h3 h4) hs (fun _ => m) hg (by omega) (fun _ _ e => e) (fun h' u tk kp => fin h' u tk kp) hz
  | dict h1 h2 h3 h4 h5 => exact repr_of_reads' (.dict h1 h2 h3 h4 h5) hs (fun _ => m) hg (by omega) (fun _ _ e => e) (fun h' u tk kp => fin h' u tk kp) hz
/-- xs == [] -/
theorem op_eqL0 (hu : X.A.units < cLine) : OpR X (compareOp .Eq) (fun x y H Q => ∃ a b xs, x = .ref a ∧ y = .ref b ∧ SqL X.K H a xs ∧ SqL X.K H b [] ∧ Q (.bl xs.isEmpty) H) := by
  intro pins s σ H x y v u Q I rx ry ⟨a, b, xs, ex, ey, ha, hb, q⟩
  subst ex ey; cases rx; cases ry
  obtain ⟨its, r1, p1, _⟩ := I.list ha
  obtain ⟨its2, r2, p2, _⟩ := I.list hb
  cases r2
  cases r1 with
  | nil => exact SeqAt.RcAt.lists (e := fun _ => true) p1.isList p2.isList rfl hu (fun j j1 _ => absurd j1 (by simp)) _ _ _ _ ⟨.bl true, H, I, rfl, q⟩
  | cons _ _ => exact SeqAt.RcAt.lists_lengths p1.isList p2.isList (by simp) hu _ _ _ _ ⟨.bl false, H, I, rfl, q⟩
/-- xs != [] -/
theorem op_neL0 (hu : X.A.units < cLine) : OpR X (compareOp .NotEq) (fun x y H Q => ∃ a b xs, x = .ref a ∧ y = .ref b ∧ SqL X.K H a xs ∧ SqL X.K H b [] ∧ Q (.bl (!xs.isEmpty)) H) := by
  intro pins s σ H x y v u Q I rx ry ⟨a, b, xs, ex, ey, ha, hb, q⟩
  subst ex ey; cases rx; cases ry
  obtain ⟨its, r1, p1, _⟩ := I.list ha
  obtain ⟨its2, r2, p2, _⟩ := I.list hb
  cases r2
  cases r1 with
  | nil => exact SeqAt.RcNeAt.lists (e := fun _ => true) p1.isList p2.isList rfl hu (fun j j1 _ => absurd j1 (by simp)) _ _ _ _ ⟨.bl false, H, I, rfl, q⟩
  | cons _ _ => exact SeqAt.RcNeAt.lists_lengths p1.isList p2.isList (by simp) hu _ _ _ _ ⟨.bl true, H, I, rfl, q⟩
/-- t != () -/
theorem op_neT0 (hu : X.A.units < cLine) : OpR X (compareOp .NotEq) (fun x y H Q => ∃ a b xs, x = .ref a ∧ y = .ref b ∧ SqT X.K H a xs ∧ SqT X.K H b [] ∧ Q (.bl (!xs.isEmpty)) H) := by
  intro pins s σ H x y v u Q I rx ry ⟨a, b, xs, ex, ey, ha, hb, q⟩
  subst ex ey; cases rx; cases ry
  obtain ⟨its, r1, p1, _⟩ := I.tuple ha
  obtain ⟨its2, r2, p2, _⟩ := I.tuple hb
  cases r2
  have h := SeqAt.RcNeAt.tuples (A := X.A) (s := s) (e := fun _ => true) p1 p2 hu (fun j _ j2 => absurd j2 (by simp))
  cases r1 with
  | nil => exact h _ _ _ _ ⟨.bl false, H, I, rfl, q⟩
  | cons _ _ => exact h _ _ _ _ ⟨.bl true, H, I, rfl, q⟩
/-- b + i, b - i, b a bool -/
theorem op_add_bi : OpR X (binaryOp .Add) (fun x y H Q => ∃ k i, x = .bl k ∧ y = .int i ∧ Q (.int ((if k = true then (1 : Int) else 0) + i)) H) := by
  intro pins s σ H x y v u Q I rx ry ⟨k, i, ex, ey, q⟩
  subst ex ey; cases rx; obtain ⟨t, rfl⟩ := ry
  exact PySem.IntBool.add_bool_int ⟨.int _, H, I.tok _, ⟨_, rfl⟩, q⟩
theorem op_sub_bi : OpR X (binaryOp .Sub) (fun x y H Q => ∃ k i, x = .bl k ∧ y = .int i ∧ Q (.int ((if k = true then (1 : Int) else 0) - i)) H) := by
  intro pins s σ H x y v u Q I rx ry ⟨k, i, ex, ey, q⟩
  subst ex ey; cases rx; obtain ⟨t, rfl⟩ := ry
  exact PySem.IntBool.sub_bool_int ⟨.int _, H, I.tok _, ⟨_, rfl⟩, q⟩
/-- two rules for one operator: by what stands there -/
theorem OpR.either {f : Value → Value → Sem Value} {r1 r2 : R2} (h1 : OpR X f r1) (h2 : OpR X f r2) : OpR X f (fun x y H Q => r1 x y H Q ∨ r2 x y H Q) := by
  intro pins s σ H x y v u Q I rx ry h
  rcases h with h | h
  · exact h1 pins s σ H x y v u Q I rx ry h
  · exact h2 pins s σ H x y v u Q I rx ry h
/-- str(i), str(b) -/
theorem call_str_ib : CallR X (.type "str") (fun xs H Q => (∃ i, xs = [.int i] ∧ i.natAbs.log2 < 1920 ∧ Q (.str (toString i)) H) ∨ ∃ k : Bool, xs = [.bl k] ∧ Q (.str (if k then "True" else "False")) H) := by
  intro pins s σ H xs us Q I r h
  rcases h with h | ⟨k, ex, q⟩
  · exact call_str_int pins s σ H xs us Q I r h
  · subst ex
    obtain ⟨u, rfl, rx⟩ := vals1 r
    cases rx
    exact PySem.P.str_of_bool ⟨.str _, H, I.tok _, ⟨_, rfl⟩, q⟩
/-- [..]: a new list never stands where the modules' table stands -/
def tLstM (t : TA) : TE := fun σ H Q => t σ H fun xs H1 => xs.length ≤ sizeLine ∧ ∀ p, H1 p = none → p ≠ sysModules → Q (.ref p) (upd H1 p (.lst xs))
theorem pe_lstM {es : List Expr} {t : TA} {pos : Pos} (h : PA X es t) : PE X (.List es pos) (tLstM t) := by
  refine ⟨fun pins s σ H Q I hq => wpAny_List_spliced (thn (h.run pos pins s σ H _ I hq) fun us s1 ⟨xs, H1, I1, r, z, q⟩ => ⟨by rw [← r.length]; exact z, ?_⟩)⟩
  exact ⟨.ref s1.heap.objs.size, _, I1.laid (t' := s1.toks) (o := .lst xs) (fun b u e => Heap.get?_push_of_some _ e) (Nat.le_refl _) ⟨z, us, 0, r, Heap.get?_push_size _ rfl⟩, rfl, q _ (I1.hok.fresh (Nat.le_refl _)) (Nat.ne_of_gt I1.big)⟩
/-- list(t), t a tuple -/
theorem call_listM : CallR X (.type "list") (fun xs H Q => ∃ p ys, xs = [.ref p] ∧ SqT X.K H p ys ∧ ∀ l, H l = none → l ≠ sysModules → Q (.ref l) (upd H l (.lst ys))) := by
  intro pins s σ H xs us Q I r ⟨p, ys, ex, hq, q⟩
  subst ex
  obtain ⟨u, rfl, rx⟩ := vals1 r
  cases rx
  obtain ⟨its, r', pl, hz⟩ := I.tuple hq
  have hlen := r'.length
  obtain ⟨o, ho, hc, n, hd⟩ := pl
  refine call_list_seq p (.inr rfl) ho hc hd (fun h' c' kp e => ?_) (by simp only [List.size_toArray] <;> omega)
  exact ⟨.ref s.heap.objs.size, _, I.laid (t' := s.toks) (o := .lst ys) kp (Nat.le_refl _) ⟨hz, its, c', r', e⟩, rfl, q _ (I.hok.fresh (Nat.le_refl _)) (Nat.ne_of_gt I.big)⟩
end
/-! ### the type of a value -/
def tyD : PyData → String
  | .none => "NoneType"
  | .bool _ => "bool"
  | .int _ => "int"
  | .str _ => "str"
  | .list _ => "list"
  | .tuple _ => "tuple"
  | .dict _ => "dict"
theorem tyRp {K : PySem.W.Frag} {H : Hp} {ban : List Addr} : ∀ {d : PyData} {v : V}, Rp H ban d v → TyX K H v (.type (tyD d))
  | .none, _, h => by rw [show _ = V.non from h]; exact .base .non
  | .bool b, _, h => by rw [show _ = V.bl b from h]; exact .base (.bl b)
  | .int i, _, h => by rw [show _ = V.int i from h]; exact .base (.int i)
  | .str x, _, h => by rw [show _ = V.str x from h]; exact .base (.str x)
  | .list ds, _, h => by
    obtain ⟨a, xs, rfl, h1, _⟩ := h
    exact .base (.lst h1)
  | .tuple ds, _, h => by
    obtain ⟨a, xs, rfl, ⟨o, _, h1⟩, _⟩ := h
    exact .fTuple h1
  | .dict kvs, _, h => by
    obtain ⟨_, a, rfl, h1⟩ := h
    exact .base (.dK h1)
theorem kit7 : ∀ t ∈ ["NoneType", "bool", "int", "str", "list", "tuple", "dict"], kitB t "tuple" = some (decide (t = "tuple")) ∧ kitB t "int" = some (decide (t = "int" ∨ t = "bool")) ∧ kitB t "bool" = some (decide (t = "bool")) := by decide +kernel
theorem tyD_mem (d : PyData) : tyD d ∈ ["NoneType", "bool", "int", "str", "list", "tuple", "dict"] := by cases d <;> simp [tyD]
theorem kitD {K : PySem.W.Frag} (d : PyData) : PySem.W.kitOne K (.type (tyD d)) (.type "tuple") = some (decide (tyD d = "tuple")) ∧ PySem.W.kitOne K (.type (tyD d)) (.type "int") = some (decide (tyD d = "int" ∨ tyD d = "bool")) ∧ PySem.W.kitOne K (.type (tyD d)) (.type "bool") = some (decide (tyD d = "bool")) := by
  obtain ⟨a, b, c⟩ := kit7 (tyD d) (tyD_mem d)
  exact ⟨kit_ty a, kit_ty b, kit_ty c⟩
end TR
namespace TR
open PySem PySem.Spec PyProof.Rows L2
/-! ### what a ranking is, of data -/
def whole (d : PyData) : Bool := decide (tyD d = "int")
theorem whole_int {d : PyData} (h : whole d = true) : ∃ i, d = .int i := by
  cases d <;> first | exact ⟨_, rfl⟩ | (exfalso; simp [whole, tyD] at h)
theorem whole_ty (d : PyData) : (if decide (tyD d = "int" ∨ tyD d = "bool") = true then !decide (tyD d = "bool") else false) = whole d := by
  cases d <;> first | rfl | simp [whole, tyD]
theorem ff_iff {p : Prop} (h : ¬ p) : (false = true) ↔ p := ⟨fun z => Bool.noConfusion z, fun z => absurd z h⟩
def IsRk (n : Nat) (d : PyData) : Prop := ∃ ns : List Int, d = .tuple (ns.map PyData.int) ∧ Rank n ns
theorem whole_all : ∀ ds : List PyData, ds.all whole = true → ∃ ns : List Int, ds = ns.map PyData.int
  | [], _ => ⟨[], rfl⟩
  | d :: r, h => by
    rw [List.all_cons, Bool.and_eq_true] at h
    obtain ⟨i, rfl⟩ := whole_int h.1
    obtain ⟨ns, rfl⟩ := whole_all r h.2
    exact ⟨i :: ns, rfl⟩
theorem ints_whole : ∀ ns : List Int, (ns.map PyData.int).all whole = true
  | [] => rfl
  | n :: r => by
    rw [List.map_cons, List.all_cons, ints_whole r]
    rfl
theorem ints_inj : ∀ {ns ms : List Int}, ns.map PyData.int = ms.map PyData.int → ns = ms
  | [], [], _ => rfl
  | [], _ :: _, h => by cases h
  | _ :: _, [], h => by cases h
  | x :: r, y :: t, h => by
    rw [List.map_cons, List.map_cons] at h
    injection h with h1 h2
    injection h1 with h1
    rw [h1, ints_inj h2]
theorem rng_le : ∀ n : Nat, (rng n).Pairwise (· ≤ ·) := fun n => by
  unfold rng
  rw [List.pairwise_map]
  exact (List.pairwise_lt_range (n := n)).imp (by intro a b h; omega)
theorem sorted_rank {n : Nat} {ns ms : List Int} (hp : ms.Perm ns) (hs : ms.Pairwise (· ≤ ·)) : ms = rng n ↔ Rank n ns := by
  constructor
  · rintro rfl
    exact List.Perm.symm hp
  · intro h
    exact List.Perm.eq_of_pairwise (le := (· ≤ ·)) (fun a b _ _ h1 h2 => Int.le_antisymm h1 h2) hs (rng_le n) (List.Perm.trans hp h)
theorem not_isRk_ty {n : Nat} {d : PyData} (h : tyD d ≠ "tuple") : ¬ IsRk n d := by
  rintro ⟨ns, rfl, _⟩
  exact h rfl
theorem not_isRk_whole {n : Nat} {ds : List PyData} (h : ds.all whole = false) : ¬ IsRk n (.tuple ds) := by
  rintro ⟨ns, e, _⟩
  injection e with e
  rw [e, ints_whole] at h
  cases h
theorem isRk_tuple {n : Nat} {ns : List Int} : IsRk n (.tuple (ns.map PyData.int)) ↔ Rank n ns := by
  constructor
  · rintro ⟨ms, e, r⟩
    injection e with e
    rw [ints_inj e]
    exact r
  · exact fun r => ⟨ns, rfl, r⟩
theorem ty_tuple {d : PyData} (h : tyD d = "tuple") : ∃ ds, d = .tuple ds := by
  cases d <;> first | exact ⟨_, rfl⟩ | (exfalso; simp [tyD] at h)
theorem RpAll.int_vals {H : Hp} {ban : List Addr} : ∀ {ns : List Int} {xs : List V}, RpAll H ban (ns.map PyData.int) xs → xs = ns.map V.int
  | [], _, h => h
  | n :: r, _, h => by
    obtain ⟨v, t, rfl, h1, h2⟩ := h
    rw [show v = V.int n from h1, RpAll.int_vals h2]
    rfl
theorem eqvAll_intsX : ∀ xs ys : List Int, PyData.eqvAll (xs.map PyData.int) (ys.map PyData.int) = decide (xs = ys)
  | [], [] => rfl
  | [], _ :: _ => rfl
  | _ :: _, [] => rfl
  | x :: r, y :: t => by
    show ((x == y) && PyData.eqvAll (r.map PyData.int) (t.map PyData.int)) = decide (x :: r = y :: t)
    rw [eqvAll_intsX r t, Bool.eq_iff_iff]
    simp
theorem eqv_lstX (xs ys : List Int) : PyData.eqv (.list (xs.map PyData.int)) (.list (ys.map PyData.int)) = decide (xs = ys) := eqvAll_intsX xs ys
end TR
namespace TR
open PySem PySem.Spec PyProof.Rows L2
section
variable {X : Cx}
/-! ### new objects, told by what holds behind them -/
def tTupN (t : TA) : TE := fun σ H Q => t σ H fun xs H1 => xs.length ≤ sizeLine ∧ ∀ p H', H1 p = none → Same H1 H' → TF H' p xs → Q (.ref p) H'
theorem pe_tupN {es : List Expr} {t : TA} {pos : Pos} {x1} (h : PA X es t) : PE X (.Tuple es x1 pos) (tTupN t) := by
  refine ⟨fun pins s σ H Q I hq => wpAny_Tuple_spliced (thn (h.run pos pins s σ H _ I hq) fun us s1 ⟨xs, H1, I1, r, z, q⟩ => ⟨by rw [← r.length]; exact z, ?_⟩)⟩
  have hf : H1 s1.heap.objs.size = none := I1.hok.fresh (Nat.le_refl _)
  exact ⟨.ref s1.heap.objs.size, _, I1.laid (t' := s1.toks) (o := .frz { cls := .type "tuple", data := .seq us.toArray } (.tup xs)) (fun b u e => Heap.get?_push_of_some _ e) (Nat.le_refl _) ⟨Heap.get?_push_size _ rfl, z, us, r, IsTup.new _ _⟩, rfl, q _ _ hf (same_upd hf) (TF.new rfl)⟩
def tLstN (t : TA) : TE := fun σ H Q => t σ H fun xs H1 => xs.length ≤ sizeLine ∧ ∀ p H', H1 p = none → p ≠ sysModules → Same H1 H' → H' p = some (.lst xs) → Q (.ref p) H'
theorem pe_lstN {es : List Expr} {t : TA} {pos : Pos} (h : PA X es t) : PE X (.List es pos) (tLstN t) := by
  refine ⟨fun pins s σ H Q I hq => wpAny_List_spliced (thn (h.run pos pins s σ H _ I hq) fun us s1 ⟨xs, H1, I1, r, z, q⟩ => ⟨by rw [← r.length]; exact z, ?_⟩)⟩
  have hf : H1 s1.heap.objs.size = none := I1.hok.fresh (Nat.le_refl _)
  exact ⟨.ref s1.heap.objs.size, _, I1.laid (t' := s1.toks) (o := .lst xs) (fun b u e => Heap.get?_push_of_some _ e) (Nat.le_refl _) ⟨z, us, 0, r, Heap.get?_push_size _ rfl⟩, rfl, q _ _ hf (Nat.ne_of_gt I1.big) (same_upd hf) upd_same⟩
def tDNewN : TE := fun _ H Q => ∀ p H', H p = none → Same H H' → H' p = some (.dK []) → Q (.ref p) H'
theorem pe_dnewN {pos : Pos} : PE X (.Dict [] [] pos) tDNewN := by
  refine ⟨fun pins s σ H Q I h => (pe_dnewK (pos := pos)).run pins s σ H Q I ?_⟩
  exact fun p hp => h p _ hp (same_upd hp) upd_same
/-- xs + ys, lists -/
theorem op_catN : OpR X (binaryOp .Add) (fun x y H Q => ∃ a b xs ys, x = .ref a ∧ y = .ref b ∧ H a = some (.lst xs) ∧ H b = some (.lst ys) ∧ xs.length + ys.length ≤ sizeLine ∧ ∀ p H', H p = none → Same H H' → H' p = some (.lst (xs ++ ys)) → Q (.ref p) H') := by
  intro pins s σ H x y v u Q I rx ry ⟨a, b, xs, ys, ex, ey, ha, hb, hz, q⟩
  exact op_cat pins s σ H x y v u Q I rx ry ⟨a, b, xs, ys, ex, ey, ha, hb, hz, fun p hp => q p _ hp (same_upd hp) upd_same⟩
/-- t + u, tuples: some tuple of both -/
theorem op_catTN : OpR X (binaryOp .Add) (fun x y H Q => ∃ a b xs ys, x = .ref a ∧ y = .ref b ∧ TF H a xs ∧ TF H b ys ∧ xs.length + ys.length ≤ sizeLine ∧ ∀ p H', Same H H' → TF H' p (xs ++ ys) → Q (.ref p) H') := by
  intro pins s σ H x y v u Q I rx ry ⟨a, b, xs, ys, ex, ey, ha, hb, hz, q⟩
  refine op_catF pins s σ H x y v u Q I rx ry ⟨a, b, xs, ys, ex, ey, .inl ha.rd, .inl hb.rd, hz, fun e => ?_, fun _ e => ?_, fun _ _ p o hp ho => q p _ (same_upd hp) (TF.new ho)⟩
  · subst e; exact q b H (Same.refl _) hb
  · subst e; exact q a H (Same.refl _) (by rw [List.append_nil]; exact ha)
theorem cut_whole {xs : List V} {lo hi : Option Int} (h : HT.sIx xs.length 0 lo = 0 ∧ HT.sIx xs.length xs.length hi = xs.length) : cutV xs lo hi = xs := by
  unfold cutV
  rw [h.1, h.2]
  exact List.take_of_length_le (by simp)
/-- t[lo:hi]: some tuple of the part -/
theorem sl_tupN : SlR X (fun x lo hi H Q => ∃ a xs, x = .ref a ∧ TF H a xs ∧ ∀ p H', Same H H' → TF H' p (cutV xs lo hi) → Q (.ref p) H') := by
  intro pins s σ H x v vl vu lo hi sl Q I rx hs pl pu ⟨a, xs, ex, hx, q⟩
  refine sl_tupF pins s σ H x v vl vu lo hi sl Q I rx hs pl pu ⟨a, xs, ex, .inl hx.rd, fun hw => ?_, fun _ p o hp ho => q p _ (same_upd hp) (TF.new ho)⟩
  exact q a H (Same.refl _) (by rw [cut_whole hw]; exact hx)
/-- t[::-1] -/
def tRevN (te : TE) : TE := fun σ H Q => te σ H fun x H1 => ∃ a xs, x = .ref a ∧ TF H1 a xs ∧ ∀ p H', Same H1 H' → TF H' p xs.reverse → Q (.ref p) H'
theorem pe_revN {e : Expr} {te : TE} {k : Nat} {p1 p2 p3 pos : Pos} (he : PE X e te) (mono : ∀ σ H (Q Q' : VK), (∀ x H', Q x H' → Q' x H') → te σ H Q → te σ H Q') : PE X (.Subscript e (.Slice none none (some (.UnaryOp .USub (.Constant (.int 1) k p1) p2)) p3) pos) (tRevN te) := by
  refine ⟨fun pins s σ H Q I h => (pe_revT he).run pins s σ H Q I (mono σ H _ _ (fun x H1 hq => ?_) h)⟩
  obtain ⟨a, xs, ex, hx, q⟩ := hq
  exact ⟨a, xs, ex, .inl hx.rd, fun p o hp ho => q p _ (same_upd hp) (TF.new ho)⟩
/-- tuple(range(..)) -/
def tTupRgN (te : L2.St → Hp → (Int → Int → Hp → Prop) → Prop) : TE := fun σ H Q => te σ H fun a b H1 => RgOk a b ∧ ∀ p H', H1 p = none → Same H1 H' → TF H' p (rgV a b) → Q (.ref p) H'
theorem pe_tupRgN {e : Expr} {te : L2.St → Hp → (Int → Int → Hp → Prop) → Prop} {p pos : Pos} (hc : X.calm = true) (hg : Gl X "tuple") (hm : X.mg "tuple" = none) (he : PRg X e te) (na : starEach [e] X.env = (false, eval e X.env) :: starEach [] X.env := by rfl) : PE X (.Call (.Name "tuple" p) [e] [] pos) (tTupRgN te) := by
  refine ⟨fun pins s σ H Q I h => ?_⟩
  refine Call_ (ld_blt I hg hm boot_tuple (PyProof.Rows.callWith_type1 (args_cons (thn (he pins s σ H _ I h) fun x s1 ⟨r, a, b, t, u, v, H1, ex, hr, I1, ok, q⟩ => args_nil ?_) na) na))
  subst ex
  obtain ⟨b1, b2, b3, b4, b5⟩ := ok
  refine call_tuple_range (n := (b - a).toNat) (I1.ok.hd hc) hr (small_one b1 b2 b3 b4) (rangeSize_nat a b) b5 fun h' tk acc hk hi => ?_
  have I2 : Inv X pins σ H1 { s1 with heap := h', toks := tk } := I1.kept hk
  have hf : H1 h'.objs.size = none := I2.hok.fresh (Nat.le_refl _)
  refine ⟨.ref h'.objs.size, upd H1 h'.objs.size (.frz { cls := .type "tuple", data := .seq acc } (.tup (rgV a b))), I2.laid (t' := tk) (fun c o e => Heap.get?_push_of_some _ e) (Nat.le_refl _) (show ObjOk X.prog X.w _ _ _ (.frz { cls := .type "tuple", data := .seq acc } (.tup (rgV a b))) from ⟨Heap.get?_push_size _ rfl, ?_, acc.toList, vals_rg hi, ?_⟩), rfl, q _ _ hf (same_upd hf) (TF.new rfl)⟩
  · rw [rgV_length, sizeLine_eq]; omega
  · rw [Array.toArray_toList]; exact IsTup.new _ _
/-- list(t) -/
theorem call_listN : CallR X (.type "list") (fun xs H Q => ∃ a ys, xs = [.ref a] ∧ Rd H a (.tup ys) ∧ ∀ p H', H p = none → p ≠ sysModules → Same H H' → H' p = some (.lst ys) → Q (.ref p) H') := by
  intro pins s σ H xs us Q I r ⟨a, ys, ex, hx, q⟩
  exact call_listM pins s σ H xs us Q I r ⟨a, ys, ex, .inl hx, fun p hp n => q p _ hp n (same_upd hp) upd_same⟩
end
end TR
namespace TR
open PySem PySem.Spec PyProof.Rows L2
def topS (i : Nat) : Stmt := PySem.Challenge.pw_tasterow_k37_paths_checked.main.body.getD i (.Pass ⟨0, 0, 0, 0⟩)
abbrev sWhole : Stmt := topS 2
abbrev sIsOrder : Stmt := topS 3
abbrev sAtup : Stmt := topS 4
abbrev sIsRk : Stmt := topS 6
abbrev sPairs : Stmt := topS 7
abbrev sPref : Stmt := topS 8
abbrev sAgree : Stmt := topS 9
abbrev sDiffs : Stmt := topS 10
abbrev sDist : Stmt := topS 11
abbrev sSwap : Stmt := topS 13
abbrev sWrong : Stmt := topS 14
abbrev sSwPath : Stmt := topS 15
abbrev sIsPath : Stmt := topS 16
abbrev sDeck : Stmt := topS 18
abbrev sNext : Stmt := topS 19
abbrev sOne : Stmt := topS 20
abbrev sLWhole : Stmt := topS 21
abbrev sSame : Stmt := topS 22
abbrev sOdd : Stmt := topS 23
abbrev sBent : Stmt := topS 24
abbrev sList : Stmt := topS 25
abbrev sExch : Stmt := topS 26
abbrev sLPairs : Stmt := topS 27
abbrev sUnlike : Stmt := topS 28
abbrev sIsList : Stmt := topS 29
abbrev sTwo : Stmt := topS 30
abbrev sUseful : Stmt := topS 31
abbrev sDrawn : Stmt := topS 32
abbrev sLIsPath : Stmt := topS 33
abbrev sDetour : Stmt := topS 34
abbrev sTwist : Stmt := topS 35
abbrev sValues : Stmt := topS 36
abbrev sLaw : Stmt := topS 37
end TR
namespace TR
open PySem PySem.Spec PyProof.Rows L2
theorem scDeck : FnScope ["_law_script", "_law_cells", "_law_cell"] ["_law_script"] (defScope sDeck) := ⟨rfl, rfl, rfl, by decide +kernel, rfl, by decide +kernel, by decide +kernel⟩
section
variable {P : Program} {w : World} {K : PySem.W.Frag} {mg : Str → Option Value} {base : Heap}
def spDeck (K : PySem.W.Frag) : Sp := fun vs H Q _ => ∃ (a : Addr) (ns : List Int), vs = [.ref a] ∧ SqL K H a (ns.map V.int) ∧ ns.length ≤ 63 ∧
  ∀ H' d p q, Same H H' → Deck H' d p q 0 → Q (.ref d) H'
theorem ok_deck {f : Addr} {fd : FuncData} {k : Nat} (F : Fun K "_law_deck" "_law_deck" sDeck f fd) (mabs : mg "abs" = none) (mlen : mg "len" = none) : FnOk P w K mg base CX0 (k + 1) f fd ["_law_script"] (spDeck K) := by
  refine F.ok scDeck (fun vs H Q E h => ?_) (fun cdv A outer s H vs Q E hr h => ?_)
  · obtain ⟨a, ns, rfl, _⟩ := h
    rfl
  · obtain ⟨a, ns, rfl, hS, hlen, q⟩ := h
    refine ⟨_, pss_cons (ps_setLc (i := 1) (own := [("_law_cell", 2)]) (g := gName 2) (tt := tYes) (by rfl) scDeck.nd rfl rfl (sw_true rfl rfl rfl (by decide +kernel)) (pi_list (pv 0))
        (blkOk_by (own := [("_law_cell", 2)]) (N := ["_law_script", "_law_cells", "_law_cell"]) (sc := defScope sDeck) (by decide +kernel)) (fun _ _ _ _ _ => pg_name (i := 2) scDeck.nd rfl (Or.inl rfl)) (fun _ _ _ _ _ => pts_nil)
        (fun _ _ _ _ _ => pe_callB call_abs (by rfl) mabs (by decide +kernel) (pa_cons (pv 2) pa_nil)))
      (pss_one (ps_ret (pe_lst (pa_cons
        (pe_lc (own := [("_law_cell", 2)]) (g := gName 2) (by rfl) scDeck.nd (pi_list (pv 1))
          (blkOk_by (own := [("_law_cell", 2)]) (N := ["_law_script", "_law_cells", "_law_cell"]) (sc := defScope sDeck) (by decide +kernel)) (fun _ _ _ _ _ => pg_name (i := 2) scDeck.nd rfl (Or.inl rfl))
          (fun _ _ _ _ _ => pts_one (pt_cmpR op_ge (pv 2) (pe_op op_pow pe_int pe_int) (nomark _)))
          (fun _ _ _ _ _ => pv 2))
        (pa_cons (pe_op op_cat (pv 1) (pe_lst (pa_cons (pe_op op_add (pe_callB call_len_seq (by rfl) mlen PySem.boot_len (pa_cons (pv 1) pa_nil)) pe_int) pa_nil)))
        (pa_cons pe_int pa_nil)))))), ?_⟩
    refine ⟨.ref a, rfl, a, rfl, ⟨_, hS⟩, fun D hD => lc_list (K := K) (a := a) (xs := ns.map V.int) (fun i H1 => Same H H1 ∧ ∃ zs : List Int, zs.length ≤ i ∧ H1 D = some (.lst (zs.map V.int))) ⟨same_upd hD, [], Nat.zero_le _, upd_same⟩ (fun i H1 _ h => h.1.seq hS) (fun i x H1 hx h => ?_) (fun H1 h => ?_)⟩
    · obtain ⟨sm, zs, hz, hd⟩ := h
      obtain ⟨z, hz1, rfl⟩ : ∃ z, ns[i]? = some z ∧ x = .int z := by
        rw [List.getElem?_map] at hx
        cases e : ns[i]? with
        | none => rw [e] at hx; cases hx
        | some z => rw [e] at hx; exact ⟨z, rfl, (Option.some.inj hx).symm⟩
      have hi : i < ns.length := (List.getElem?_eq_some_iff.mp hz1).1
      refine ⟨rfl, .int z, rfl, z, rfl, _, hd, ?_, same_upd2 sm hD, zs ++ [if z < 0 then -z else z], ?_, ?_⟩
      · rw [List.length_map]
        exact small1000 (by omega)
      · rw [List.length_append]
        show zs.length + 1 ≤ i + 1
        omega
      · rw [upd_same, List.map_append]
        rfl
    · obtain ⟨sm, zs, hz, hd⟩ := h
      rw [List.length_map] at hz
      refine ⟨.ref D, rfl, D, rfl, ⟨_, sqL hd⟩, fun p hp => lc_list (K := K) (a := D) (xs := zs.map V.int) (fun i H2 => Same H1 H2 ∧ ∃ ys : List Int, ys.length ≤ i ∧ H2 p = some (.lst (ys.map V.int))) ⟨same_upd hp, [], Nat.zero_le _, upd_same⟩ (fun i H2 _ h => h.1.seq (sqL hd)) (fun i x H2 hx h => ?_) (fun H2 h => ?_)⟩
      · obtain ⟨sm2, ys, hy, hd2⟩ := h
        obtain ⟨z, hz1, rfl⟩ : ∃ z, zs[i]? = some z ∧ x = .int z := by
          rw [List.getElem?_map] at hx
          cases e : zs[i]? with
          | none => rw [e] at hx; cases hx
          | some z => rw [e] at hx; exact ⟨z, rfl, (Option.some.inj hx).symm⟩
        have hi : i < zs.length := (List.getElem?_eq_some_iff.mp hz1).1
        refine ⟨rfl, .int z, rfl, 10, 18, rfl, rfl, ⟨by decide, by decide, by decide⟩, _, _, rfl, rfl, _, rfl, ite2 (fun _ => ?_) (fun _ => ?_)⟩
        · refine ⟨.int z, rfl, _, hd2, ?_, same_upd2 sm2 hp, ys ++ [z], ?_, ?_⟩
          · rw [List.length_map]
            exact small1000 (by omega)
          · rw [List.length_append]
            show ys.length + 1 ≤ i + 1
            omega
          · rw [upd_same, List.map_append]
            rfl
        · exact ⟨sm2, ys, by omega, hd2⟩
      · obtain ⟨sm2, ys, hy, hd2⟩ := h
        have hD2 : H2 D = some (.lst (zs.map V.int)) := sm2 _ _ hd
        rw [List.length_map] at hy
        refine ⟨.ref D, rfl, .ref D, rfl, D, _, rfl, .inl (sqL hD2), _, _, rfl, rfl, by show 1 ≤ sizeLine; decide, fun t ht => ?_⟩
        have nDt : D ≠ t := ne_of_none hD2 ht
        refine ⟨D, t, _, _, rfl, rfl, (by rw [upd_ne nDt]; exact hD2), upd_same, ?_, fun q' hq' => ?_⟩
        · rw [List.length_map]
          show zs.length + 1 ≤ sizeLine
          exact Nat.le_of_lt (small1000 (by omega))
        · have e : zs.map V.int ++ [V.int (((zs.map V.int).length : Int) + 5)] = (zs ++ [((zs.map V.int).length : Int) + 5]).map V.int := by
            rw [List.map_append]
            rfl
          refine ⟨by show 3 ≤ sizeLine; decide, fun d hd' => q _ d p q' ?_ ⟨ys.length, ⟨⟨ys, zs ++ [((zs.map V.int).length : Int) + 5], 0, upd_same, ?_, ?_, Int.le_refl _, Int.le_refl _, by simp, rfl⟩, ?_, ?_, ?_⟩⟩⟩
          · exact (sm.trans sm2).trans ((same_upd ht).trans ((same_upd hq').trans (same_upd hd')))
          · exact ((same_upd ht).trans ((same_upd hq').trans (same_upd hd'))) _ _ hd2
          · rw [← e]
            exact (same_upd hd') _ _ upd_same
          · exact (ne_of_none (((same_upd ht).trans (same_upd hq')) _ _ hd2) hd').symm
          · exact (ne_of_none (upd_same (H := upd H2 t _)) hd').symm
          · exact ne_of_none ((same_upd ht) _ _ hd2) hq'
end
end TR
namespace TR
open PySem PySem.Spec PyProof.Rows L2
theorem scNext : FnScope ["_law_deck_here", "_law_many", "_law_rest", "_law_cell", "_law_mixed"] ["_law_deck_here", "_law_many"] (defScope sNext) := ⟨rfl, rfl, rfl, by decide +kernel, rfl, by decide +kernel, by decide +kernel⟩
theorem ixN_zero {n : Nat} (h : 0 < n) : ixN n 0 = some 0 := by
  unfold ixN
  rw [if_pos (Int.le_refl _), if_pos (by omega)]
  rfl
section
variable {P : Program} {w : World} {K : PySem.W.Frag} {mg : Str → Option Value} {base : Heap}
def spNext : Sp := fun vs H Q _ => ∃ (d p q : Addr) (n : Nat) (m : Int), vs = [.ref d, .int m] ∧ Deck H d p q n ∧ n ≤ 1000000 ∧ 0 < m ∧ m ≤ 1000000000000 ∧
  ∀ H' r, 0 ≤ r → r < m → Deck H' d p q (n + 1) → Keep d p H H' → Q (.int r) H'
theorem ok_next {f : Addr} {fd : FuncData} {k : Nat} (F : Fun K "_law_next" "_law_next" sNext f fd) (mlen : mg "len" = none) : FnOk P w K mg base CX0 (k + 1) f fd ["_law_deck_here", "_law_many"] spNext := by
  refine F.ok scNext (fun vs H Q E h => ?_) (fun cdv A outer s H vs Q E hr h => ?_)
  · obtain ⟨d, p, q, n, m, rfl, _⟩ := h
    rfl
  · obtain ⟨d, p, q, n, m, rfl, ⟨l0, D0⟩, hn, hm0, hm1, qq⟩ := h
    refine ⟨_, pss_cons (ps_while PassesOwn.never (pt_cmpR (op_neD hr.units) (pe_ix ix_list (pv 0) pe_int (fun _ _ => rfl)) (pe_lst pa_nil) (nomark _))
        (pss_cons (ps_set (i := 2) scNext.nd rfl (.inl rfl) (pe_ix ix_list (pe_ix ix_list (pv 0) pe_int (fun _ _ => rfl)) pe_int (fun _ _ => rfl)))
        (pss_cons (ps_if (pt_cmpR op_gt (pv 2) pe_int (nomark _))
          (pss_cons (ps_asg (pe_op op_fdivW (pv 2) (pv 1)) (pg_sub (pe_ix ix_list (pv 0) pe_int (fun _ _ => rfl)) pe_int set_list))
          (pss_one (ps_ret (pe_op op_mod (pv 2) (pv 1))))) pss_nil)
        (pss_one (ps_expr (pe_bm PySem.F.plainAttrs_list PySem.F.slot_list_pop PySem.F.type_list_pop mt_popAt (pe_ix ix_list (pv 0) pe_int (fun _ _ => rfl)) (pa_cons pe_int pa_nil)))))))
      (pss_cons (ps_asg (pe_op op_add (pe_ix ix_list (pv 0) pe_int (fun _ _ => rfl)) pe_int) (pg_sub (pv 0) pe_int set_list))
      (pss_cons (ps_set (i := 3) scNext.nd rfl (.inl rfl) (pe_op op_mod (pe_ix ix_list (pe_ix ix_list (pv 0) pe_int (fun _ _ => rfl)) (pe_op op_mod (pe_ix ix_list (pv 0) pe_int (fun _ _ => rfl)) (pe_callB call_len_seq (by rfl) mlen PySem.boot_len (pa_cons (pe_ix ix_list (pv 0) pe_int (fun _ _ => rfl)) pa_nil))) (fun _ _ => rfl)) pe_int))
      (pss_cons (ps_set (i := 4) scNext.nd rfl (.inl rfl) (pe_op op_add (pe_op op_add (pe_op op_mul (pv 3) (pe_op op_add pe_int (pe_op op_mul pe_int (pe_ix ix_list (pv 0) pe_int (fun _ _ => rfl))))) (pe_op op_mul (pe_op op_mul pe_int (pe_ix ix_list (pv 0) pe_int (fun _ _ => rfl))) (pe_ix ix_list (pv 0) pe_int (fun _ _ => rfl)))) pe_int))
      (pss_cons (ps_set (i := 4) scNext.nd rfl (.inl rfl) (pe_op op_mod (pv 4) pe_int))
      (pss_one (ps_ret (pe_op op_mod (pe_op op_fdiv (pe_op op_mod (pe_op op_mul (pv 4) (pv 4)) pe_int) pe_int) (pv 1)))))))), ?_⟩
    refine ⟨fun l σ H1 => ∃ y2, σ = [some (.ref d), some (.int m), y2, none, none] ∧ DeckL H1 d p q n l ∧ Keep d p H H1, ⟨l0, none, rfl, D0, Keep.refl _ _ _⟩, fun l σ H1 hW => ?_⟩
    obtain ⟨y2, rfl, ⟨⟨xs, cs, c, h1, h2, h3, h4, h5, h6, h7⟩, ndp, ndq, npq⟩, kp⟩ := hW
    refine ⟨.ref d, rfl, d, _, 0, .ref p, rfl, rfl, sqL h1, rfl, Nat.zero_le _, fun e he => ?_⟩
    have hp1 : upd H1 e (.lst []) p = some (.lst (xs.map V.int)) := by
      rw [upd_ne (ne_of_none h2 he)]
      exact h2
    have hd1 : upd H1 e (.lst []) d = some (.lst [.ref p, .ref q, .int c]) := by
      rw [upd_ne (ne_of_none h1 he)]
      exact h1
    have hq1 : upd H1 e (.lst []) q = some (.lst (cs.map V.int)) := by
      rw [upd_ne (ne_of_none h3 he)]
      exact h3
    have kp1 : Keep d p H (upd H1 e (.lst [])) := kp.trans (Same.keep (same_upd he))
    refine ⟨_, _, .lst (sqL hp1) (dpAll_ints xs), .lst (sqL upd_same) .nil, shaped_ints xs, rfl, _, rfl, ?_⟩
    rw [eqv_nil]
    cases xs with
    | cons x r =>
      refine iteT ?_
      refine ⟨fun σ H2 => ∃ y2, σ = [some (.ref d), some (.int m), y2, none, none] ∧ DeckL H2 d p q n r.length ∧ Keep d p H H2, fun σ' H' hN => ⟨r.length, by rw [← h7]; exact Nat.lt_succ_self _, hN⟩, ?_⟩
      refine ⟨.ref d, rfl, d, _, 0, .ref p, rfl, rfl, sqL hd1, rfl, p, _, 0, .int x, rfl, rfl, sqL hp1, atI_nat (j := 0) rfl, ?_⟩
      refine ⟨.int x, rfl, x, 0, rfl, rfl, _, rfl, ite2 (fun hx => ?_) (fun hx => ?_)⟩
      · refine ⟨.int x, rfl, .int m, rfl, x, m, rfl, rfl, wide_div (b := 41) hm0 (by show m.natAbs < 2199023255552; omega) (by decide) (by decide), .ref d, rfl, d, _, 0, .ref p, rfl, rfl, sqL hd1, rfl, p, _, 0, 0, rfl, rfl, hp1, ixN_zero (by simp), ?_⟩
        refine ⟨.int x, rfl, .int m, rfl, x, m, rfl, rfl, hm0, qq _ _ (Int.emod_nonneg _ (by omega)) (Int.emod_lt_of_pos _ hm0) ?_ (keep_upd kp1 (.inr rfl))⟩
        refine ⟨r.length + 1, ⟨⟨(x / m) :: r, cs, c, ?_, upd_same, ?_, h4, by omega, h6, rfl⟩, ndp, ndq, npq⟩⟩
        · rw [upd_ne ndp]
          exact hd1
        · rw [upd_ne npq.symm]
          exact hq1
      · refine ⟨.ref d, rfl, d, _, 0, .ref p, rfl, rfl, sqL hd1, rfl, .inl ⟨rfl, _, sqL hp1⟩, p, _, 0, 0, .int x, rfl, rfl, hp1, by decide, by decide, ?_, rfl, ?_⟩
        · show seqIndex? 0 ((V.int x :: r.map V.int).length) = some 0
          unfold seqIndex?
          simp
        · refine ⟨some (.int x), rfl, ⟨⟨r, cs, c, ?_, upd_same, ?_, h4, h5, h6, rfl⟩, ndp, ndq, npq⟩, keep_upd kp1 (.inr rfl)⟩
          · rw [upd_ne ndp]
            exact hd1
          · rw [upd_ne npq.symm]
            exact hq1
    | nil =>
      refine iteF ?_
      refine ⟨.ref d, rfl, d, _, 2, .int c, rfl, rfl, sqL hd1, rfl, c, 1, rfl, rfl, .ref d, rfl, d, _, 2, 2, rfl, rfl, hd1, rfl, ?_⟩
      have kp2 : Keep d p H (upd (upd H1 e (.lst [])) d (.lst [.ref p, .ref q, .int (c + 1)])) := keep_upd kp1 (.inl rfl)
      have hq2 : upd (upd H1 e (.lst [])) d (.lst [.ref p, .ref q, .int (c + 1)]) q = some (.lst (cs.map V.int)) := by
        rw [upd_ne ndq.symm]
        exact hq1
      have hp2 : upd (upd H1 e (.lst [])) d (.lst [.ref p, .ref q, .int (c + 1)]) p = some (.lst (([] : List Int).map V.int)) := by
        rw [upd_ne ndp.symm]
        exact hp1
      have hd2 : upd (upd H1 e (.lst [])) d (.lst [.ref p, .ref q, .int (c + 1)]) d = some (.lst [.ref p, .ref q, .int (c + 1)]) := upd_same
      have hcl : 0 < (cs.map V.int).length := by
        rw [List.length_map]
        exact List.length_pos_iff.mpr h6
      have hcl' : (0 : Int) < ((cs.map V.int).length : Int) := by omega
      have b0 : 0 ≤ (c + 1) % ((cs.map V.int).length : Int) := Int.emod_nonneg _ (by omega)
      have b1 : (c + 1) % ((cs.map V.int).length : Int) < ((cs.map V.int).length : Int) := Int.emod_lt_of_pos _ hcl'
      obtain ⟨j, hj⟩ := Int.eq_ofNat_of_zero_le b0
      have hjl : j < cs.length := by
        rw [List.length_map] at b1 hj
        omega
      have ga : (cs.map V.int)[j]? = some (.int cs[j]) := by
        rw [List.getElem?_map, List.getElem?_eq_getElem hjl]
        rfl
      have gb : atI (cs.map V.int) ((c + 1) % ((cs.map V.int).length : Int)) = some (.int cs[j]) := by
        rw [hj]
        exact atI_nat ga
      refine ⟨.ref d, rfl, d, _, 1, .ref q, rfl, rfl, sqL hd2, rfl, .ref d, rfl, d, _, 2, .int (c + 1), rfl, rfl, sqL hd2, rfl, .ref d, rfl, d, _, 1, .ref q, rfl, rfl, sqL hd2, rfl, q, _, rfl, .inl (sqL hq2), _, _, rfl, rfl, hcl', q, _, _, _, rfl, rfl, sqL hq2, gb, _, _, rfl, rfl, by show (0 : Int) < 2147483647; decide, ?_⟩
      have e1 : (0 : Int) ≤ cs[j] % 2147483647 := Int.emod_nonneg _ (by decide)
      have e2 : cs[j] % 2147483647 < 2147483647 := Int.emod_lt_of_pos _ (by decide)
      refine ⟨.int (cs[j] % 2147483647), rfl, .ref d, rfl, d, _, 2, .int (c + 1), rfl, rfl, sqL hd2, rfl, 48271, _, rfl, rfl, .inl ⟨by decide, by decide⟩, _, _, rfl, rfl, cs[j] % 2147483647, _, rfl, rfl, .inl ⟨by show -(2 : Int) ^ 64 < cs[j] % 2147483647; omega, by show cs[j] % 2147483647 < (2 : Int) ^ 64; omega⟩,
        .ref d, rfl, d, _, 2, .int (c + 1), rfl, rfl, sqL hd2, rfl, 30011, _, rfl, rfl, .inl ⟨by decide, by decide⟩, .ref d, rfl, d, _, 2, .int (c + 1), rfl, rfl, sqL hd2, rfl, _, _, rfl, rfl, .inr ⟨by show -(2 : Int) ^ 64 < c + 1; omega, by show c + 1 < (2 : Int) ^ 64; omega⟩, _, _, rfl, rfl, _, _, rfl, rfl, ?_⟩
      refine ⟨_, rfl, _, _, rfl, rfl, by show (0 : Int) < 2147483629; decide, ?_⟩
      have e3 : (0 : Int) ≤ (cs[j] % 2147483647 * (69621 + 48271 * (c + 1)) + 30011 * (c + 1) * (c + 1) + 47) % 2147483629 := Int.emod_nonneg _ (by decide)
      have e4 : (cs[j] % 2147483647 * (69621 + 48271 * (c + 1)) + 30011 * (c + 1) * (c + 1) + 47) % 2147483629 < 2147483629 := Int.emod_lt_of_pos _ (by decide)
      refine ⟨.int ((cs[j] % 2147483647 * (69621 + 48271 * (c + 1)) + 30011 * (c + 1) * (c + 1) + 47) % 2147483629), rfl, .int ((cs[j] % 2147483647 * (69621 + 48271 * (c + 1)) + 30011 * (c + 1) * (c + 1) + 47) % 2147483629), rfl, _, _, rfl, rfl, .inl ⟨by show -(2 : Int) ^ 64 < (cs[j] % 2147483647 * (69621 + 48271 * (c + 1)) + 30011 * (c + 1) * (c + 1) + 47) % 2147483629; omega, by show (cs[j] % 2147483647 * (69621 + 48271 * (c + 1)) + 30011 * (c + 1) * (c + 1) + 47) % 2147483629 < (2 : Int) ^ 64; omega⟩, _, _, rfl, rfl, by show (0 : Int) < 2147483587; decide, _, _, rfl, rfl, ⟨by decide, by decide⟩, .int m, rfl, _, m, rfl, rfl, hm0, ?_⟩
      exact qq _ _ (Int.emod_nonneg _ (by omega)) (Int.emod_lt_of_pos _ hm0) ⟨0, ⟨[], cs, c + 1, hd2, hp2, hq2, by omega, by omega, h6, rfl⟩, ndp, ndq, npq⟩ kp2
end
end TR
namespace TR
open PySem PySem.Spec PyProof.Rows L2
/-! ### rankings in the heap -/
def Tp (H : Hp) (a : Addr) (ns : List Int) : Prop := ∃ o : Obj, o.dict = none ∧ H a = some (.frz o (.tup (ns.map V.int)))
theorem Tp.sq {K : PySem.W.Frag} {H : Hp} {a : Addr} {ns : List Int} (t : Tp H a ns) : SqT K H a (ns.map V.int) := by
  obtain ⟨o, _, h⟩ := t
  exact .inl (.inr ⟨o, h⟩)
theorem Tp.same {H H' : Hp} {a : Addr} {ns : List Int} (t : Tp H a ns) (s : Same H H') : Tp H' a ns := by
  obtain ⟨o, d, h⟩ := t
  exact ⟨o, d, s _ _ h⟩
theorem Tp.keep {H H' : Hp} {a d p q : Addr} {n : Nat} {ns : List Int} (t : Tp H a ns) (D : Deck H d p q n) (s : Keep d p H H') : Tp H' a ns := by
  obtain ⟨o, hd, h⟩ := t
  obtain ⟨x, y, c, e1⟩ := D.hd
  obtain ⟨xs, e2⟩ := D.hp
  exact ⟨o, hd, s _ _ h (ne_of h e1 (by intro z; cases z)) (ne_of h e2 (by intro z; cases z))⟩
theorem Tp.new {H : Hp} {a : Addr} {ns : List Int} {o : Obj} (h : o.dict = none) : Tp (upd H a (.frz o (.tup (ns.map V.int)))) a ns := ⟨o, h, upd_same⟩
/-! ### tuples, written or made -/
theorem rdT_same {H H' : Hp} {a : Addr} {u : HO} (h : Rd H a u) (s : Same H H') : Rd H' a u := by
  rcases h with h | ⟨o, h⟩
  · exact .inl (s _ _ h)
  · exact .inr ⟨o, s _ _ h⟩
theorem rdT_keep {H H' : Hp} {a d p q : Addr} {n : Nat} {xs : List V} (h : Rd H a (.tup xs)) (D : Deck H d p q n) (s : Keep d p H H') : Rd H' a (.tup xs) := by
  obtain ⟨x, y, c, e1⟩ := D.hd
  obtain ⟨zs, e2⟩ := D.hp
  rcases h with h | ⟨o, h⟩
  · exact .inl (s _ _ h (ne_of h e1 (by intro z; cases z)) (ne_of h e2 (by intro z; cases z)))
  · exact .inr ⟨o, s _ _ h (ne_of h e1 (by intro z; cases z)) (ne_of h e2 (by intro z; cases z))⟩
theorem rdT_updl {H : Hp} {a D : Addr} {us xs ys : List V} (h : Rd H a (.tup us)) (e : H D = some (.lst xs)) : Rd (upd H D (.lst ys)) a (.tup us) := by
  rcases h with h | ⟨o, h⟩
  · exact .inl (by rw [upd_ne (ne_of h e (by intro z; cases z))]; exact h)
  · exact .inr ⟨o, by rw [upd_ne (ne_of h e (by intro z; cases z))]; exact h⟩
/-! ### lists of pairs -/
inductive Prs (H : Hp) : List V → List (Int × Int) → Prop
  | nil : Prs H [] []
  | cons {q : Addr} {a b : Int} {vs : List V} {ps : List (Int × Int)} : Rd H q (.tup [.int a, .int b]) → Prs H vs ps → Prs H (.ref q :: vs) ((a, b) :: ps)
theorem Prs.same {H H' : Hp} {vs : List V} {ps : List (Int × Int)} (h : Prs H vs ps) (s : Same H H') : Prs H' vs ps := by
  induction h with
  | nil => exact .nil
  | cons e _ ih => exact .cons (rdT_same e s) ih
theorem Prs.upd_lst {H : Hp} {vs : List V} {ps : List (Int × Int)} {D : Addr} {xs ys : List V} (h : Prs H vs ps) (e : H D = some (.lst xs)) : Prs (upd H D (.lst ys)) vs ps := by
  induction h with
  | nil => exact .nil
  | cons e2 _ ih => exact .cons (rdT_updl e2 e) ih
theorem Prs.append {H : Hp} {vs ws : List V} {ps qs : List (Int × Int)} (h : Prs H vs ps) (g : Prs H ws qs) : Prs H (vs ++ ws) (ps ++ qs) := by
  induction h with
  | nil => exact g
  | cons e _ ih => exact .cons e ih
theorem Prs.len {H : Hp} {vs : List V} {ps : List (Int × Int)} (h : Prs H vs ps) : vs.length = ps.length := by
  induction h with
  | nil => rfl
  | cons _ _ ih => rw [List.length_cons, List.length_cons, ih]
theorem Prs.get {H : Hp} {vs : List V} {ps : List (Int × Int)} (h : Prs H vs ps) : ∀ {i : Nat} {x : V}, vs[i]? = some x → ∃ q a b, x = .ref q ∧ ps[i]? = some (a, b) ∧ Rd H q (.tup [.int a, .int b]) := by
  induction h with
  | nil => intro i x e; simp at e
  | cons e _ ih =>
    intro i x g
    cases i with
    | zero => exact ⟨_, _, _, (Option.some.inj g).symm, rfl, e⟩
    | succ i => exact ih g
def pd (p : Int × Int) : PyData := .tuple [.int p.1, .int p.2]
theorem Prs.dp {K : PySem.W.Frag} {H : Hp} {vs : List V} {ps : List (Int × Int)} (h : Prs H vs ps) : DpAll K H vs (ps.map pd) := by
  induction h with
  | nil => exact .nil
  | cons e _ ih => exact .cons (.tup (.inl e) (.cons (.int _) (.cons (.int _) .nil))) ih
/-- a walk over a range inside a comprehension, by a word over heaps -/
theorem walk_in {n : Nat} {lo : Int} {H4 : Hp} {Nx : Hp → Prop} {B : V → Hp → (Hp → Prop) → Prop} (Pv : Nat → Hp → Prop) (h0 : Pv 0 H4) (hs : ∀ j H, j < n → Pv j H → B (.int (lo + (j : Int))) H (Pv (j + 1))) (hd : ∀ H, Pv n H → Nx H) :
    ∃ W : Nat → Nat → Hp → Prop, (∃ m, W 0 m H4) ∧ ∀ j k H, W j k H → ((Itr lo n).stop j H ∧ Nx H) ∨ ((Itr lo n).go j H ∧ ∃ N : Hp → Prop, (∀ H', N H' → ∃ k', k' < k ∧ W (j + 1) k' H') ∧ ∀ x H', (Itr lo n).yld j H x H' → B x H' N) := by
  refine ⟨fun j k H => k = n - j ∧ j ≤ n ∧ Pv j H, ⟨n, by simp, Nat.zero_le _, h0⟩, ?_⟩
  rintro j k H ⟨rfl, hj, p⟩
  by_cases hlt : j < n
  · refine .inr ⟨hlt, Pv (j + 1), fun H' p' => ⟨n - (j + 1), by omega, rfl, hlt, p'⟩, fun x H' y => ?_⟩
    obtain ⟨e, e2⟩ := y
    subst e e2
    exact hs j _ hlt p
  · have e : j = n := by omega
    subst e
    exact .inl ⟨Nat.le_refl _, hd H p⟩
end TR
namespace TR
open PySem PySem.Spec PyProof.Rows L2
theorem scPref : FnScope ["ranking", "one", "other"] ["ranking", "one", "other"] (defScope sPref) := ⟨rfl, rfl, rfl, by decide +kernel, rfl, by decide +kernel, by decide +kernel⟩
section
variable {P : Program} {w : World} {K : PySem.W.Frag} {mg : Str → Option Value} {base : Heap}
/-! ### prefers, agree -/
def spPref : Sp := fun vs H Q _ => ∃ (a : Addr) (ns : List Int) (x y : Int), vs = [.ref a, .int x, .int y] ∧ Tp H a ns ∧ x ∈ ns ∧ y ∈ ns ∧ Q (.bl (pref ns x y)) H
theorem ok_pref {f : Addr} {fd : FuncData} {k : Nat} (F : Fun K "prefers" "prefers" sPref f fd) : FnOk P w K mg base CX0 (k + 1) f fd ["ranking", "one", "other"] spPref := by
  refine F.ok scPref (fun vs H Q E h => ?_) (fun cdv A outer s H vs Q E hr h => ?_)
  · obtain ⟨a, ns, x, y, rfl, _⟩ := h
    rfl
  · obtain ⟨a, ns, x, y, rfl, ht, hx, hy, q⟩ := h
    refine ⟨_, pss_one (ps_ret (pe_cmpR op_lt (pe_bmT PySem.F.slot_tuple_index PySem.F.type_tuple_index mt_tupIdx (pv 0) (pa_cons (pv 1) pa_nil)) (pe_bmT PySem.F.slot_tuple_index PySem.F.type_tuple_index mt_tupIdx (pv 0) (pa_cons (pv 2) pa_nil)) (nomark _))), ?_⟩
    obtain ⟨o, hd, he⟩ := id ht
    refine ⟨.ref a, rfl, ⟨a, o, _, rfl, hd, he⟩, .int x, rfl, a, ns, x, ns.idxOf x, rfl, rfl, ht.sq, at_idx hx, fun m hm => idx_first hm,
      .ref a, rfl, ⟨a, o, _, rfl, hd, he⟩, .int y, rfl, a, ns, y, ns.idxOf y, rfl, rfl, ht.sq, at_idx hy, fun m hm => idx_first hm, _, _, rfl, rfl, ?_⟩
    have e : decide (((ns.idxOf x : Nat) : Int) < ((ns.idxOf y : Nat) : Int)) = pref ns x y := by
      unfold pref
      by_cases h : ns.idxOf x < ns.idxOf y
      · rw [decide_eq_true h, decide_eq_true (by omega)]
      · rw [decide_eq_false h, decide_eq_false (by omega)]
    show Q (.bl (decide (((ns.idxOf x : Nat) : Int) < ((ns.idxOf y : Nat) : Int)))) H
    rw [e]
    exact q
end
end TR
namespace TR
open PySem PySem.Spec PyProof.Rows L2
theorem scAgree : FnScope ["one", "other", "pair", "low", "high"] ["one", "other", "pair"] (defScope sAgree) := ⟨rfl, rfl, rfl, by decide +kernel, rfl, by decide +kernel, by decide +kernel⟩
section
variable {P : Program} {w : World} {K : PySem.W.Frag} {mg : Str → Option Value} {base : Heap}
def spAgree : Sp := fun vs H Q _ => ∃ (a b r : Addr) (ns ms : List Int) (x y : Int), vs = [.ref a, .ref b, .ref r] ∧ Tp H a ns ∧ Tp H b ms ∧ Rd H r (.tup [.int x, .int y]) ∧ x ∈ ns ∧ y ∈ ns ∧ x ∈ ms ∧ y ∈ ms ∧ Q (.bl (agr ns ms (x, y))) H
theorem ok_agree {f fP : Addr} {fd fdP : FuncData} {k : Nat} (F : Fun K "agree" "agree" sAgree f fd) (FP : Fun K "prefers" "prefers" sPref fP fdP) (bP : Binds K fdP ["ranking", "one", "other"] []) (gP : mg "prefers" = some (.ref fP)) : FnOk P w K mg base CX0 (k + 2) f fd ["one", "other", "pair"] spAgree := by
  have GP : FnOk P w K mg base CX0 (k + 1) fP fdP ["ranking", "one", "other"] spPref := ok_pref FP
  refine F.ok scAgree (fun vs H Q E h => ?_) (fun cdv A outer s H vs Q E hr h => ?_)
  · obtain ⟨a, b, r, ns, ms, x, y, rfl, _⟩ := h
    rfl
  · obtain ⟨a, b, r, ns, ms, x, y, rfl, ha, hb, hq, x1, y1, x2, y2, q⟩ := h
    refine ⟨_, pss_cons (ps_asg (pv 2) (pg_tup (by rfl) (pgs_cons (pg_name (i := 3) scAgree.nd rfl (.inl rfl)) (pgs_cons (pg_name (i := 4) scAgree.nd rfl (.inl rfl)) pgs_nil))))
      (pss_one (ps_ret (pe_cmpR op_eq (pe_call GP hr (by rfl) gP FP.kp bP .nil pass0 (pa_cons (pv 0) (pa_cons (pv 3) (pa_cons (pv 4) pa_nil)))) (pe_call GP hr (by rfl) gP FP.kp bP .nil pass0 (pa_cons (pv 1) (pa_cons (pv 3) (pa_cons (pv 4) pa_nil)))) (nomark _)))), ?_⟩
    refine ⟨.ref r, rfl, r, _, rfl, (.inl hq), rfl, .int x, _, rfl, .int y, _, rfl, rfl, ?_⟩
    refine ⟨.ref a, rfl, .int x, rfl, .int y, rfl, a, ns, x, y, rfl, ha, x1, y1, .ref b, rfl, .int x, rfl, .int y, rfl, b, ms, x, y, rfl, hb, x2, y2, rfl, ?_⟩
    have e : decide (V.bl (pref ns x y) = V.bl (pref ms x y)) = agr ns ms (x, y) := by
      unfold agr
      show _ = (pref ns x y == pref ms x y)
      cases pref ns x y <;> cases pref ms x y <;> rfl
    rw [e]
    exact q
end
end TR
namespace TR
open PySem PySem.Spec PyProof.Rows L2
theorem scSame : FnScope ["_law_found", "_law_due", "_law_k"] ["_law_found", "_law_due"] (defScope sSame) := ⟨rfl, rfl, rfl, by decide +kernel, rfl, by decide +kernel, by decide +kernel⟩
/-! ### the same data, at two places -/
def flatX : V → Bool
  | .non => true
  | .bl _ => true
  | .int _ => true
  | .str _ => true
  | _ => false
def Alk (K : PySem.W.Frag) (H : Hp) : Nat → V → V → Prop
  | 0, _, _ => False
  | m + 1, x, y => (flatX x = true ∧ x = y) ∨ ∃ (a b : Addr) (xs ys : List V), x = .ref a ∧ y = .ref b ∧ ((SqL K H a xs ∧ SqL K H b ys) ∨ (SqT K H a xs ∧ SqT K H b ys)) ∧ xs.length = ys.length ∧ xs.length ≤ 1000 ∧
      ∀ (i : Nat) (u v : V), xs[i]? = some u → ys[i]? = some v → Alk K H m u v
theorem Alk.same {K : PySem.W.Frag} {H H' : Hp} (s : Same H H') : ∀ {m : Nat} {x y : V}, Alk K H m x y → Alk K H' m x y
  | 0, _, _, h => h.elim
  | m + 1, x, y, h => by
    rcases h with h | ⟨a, b, xs, ys, ex, ey, hq, h1, h2, h3⟩
    · exact .inl h
    · refine .inr ⟨a, b, xs, ys, ex, ey, ?_, h1, h2, fun i u v hu hv => Alk.same s (h3 i u v hu hv)⟩
      rcases hq with ⟨p, q⟩ | ⟨p, q⟩
      · exact .inl ⟨s.seq p, s.seq q⟩
      · exact .inr ⟨same_seqT s p, same_seqT s q⟩
theorem tyL {K : PySem.W.Frag} {H : Hp} {a : Addr} {xs : List V} (h : SqL K H a xs) : TyX K H (.ref a) (.type "list") := by
  rcases h with (h | ⟨o, h⟩) | ⟨o, its, n, hk, hc, _⟩
  · exact .base (.lst h)
  · exact .base (.frz h)
  · exact .kList hk hc
theorem tyT {K : PySem.W.Frag} {H : Hp} {a : Addr} {xs : List V} (h : SqT K H a xs) : TyX K H (.ref a) (.type "tuple") := by
  rcases h with (h | ⟨o, h⟩) | ⟨o, its, n, hk, hc, _⟩
  · exact .base (.tup h)
  · exact .fTuple h
  · exact .kTuple hk hc
theorem kit_two {K : PySem.W.Frag} {t a b : String} {r1 r2 : Bool} (h1 : kitB t a = some r1) (h2 : kitB t b = some r2) : PySem.W.kitAny K (.type t) [Value.type a, Value.type b] = some (r1 || r2) := by
  unfold PySem.W.kitAny
  rw [kit_ty h1]
  cases r1 with
  | true => rfl
  | false =>
    show PySem.W.kitAny K (.type t) [Value.type b] = some r2
    unfold PySem.W.kitAny
    rw [kit_ty h2]
    cases r2 <;> rfl
def tyF : V → Value
  | .non => .type "NoneType"
  | .bl _ => .type "bool"
  | .int _ => .type "int"
  | _ => .type "str"
theorem tyFlat {K : PySem.W.Frag} {H : Hp} {x : V} (h : flatX x = true) : TyX K H x (tyF x) := by
  cases x with
  | non => exact .base .non
  | bl b => exact .base (.bl b)
  | int i => exact .base (.int i)
  | str z => exact .base (.str z)
  | _ => exact absurd (show false = true from h) Bool.false_ne_true
section
variable {P : Program} {w : World} {K : PySem.W.Frag} {mg : Str → Option Value} {base : Heap}
def spSame (K : PySem.W.Frag) (m : Nat) : Sp := fun vs H Q _ => ∃ x y, vs = [x, y] ∧ Alk K H m x y ∧ ∀ H', Same H H' → Q (.bl true) H'
theorem ok_same {f : Addr} {fd : FuncData} (F : Fun K "_law_same" "_law_same" sSame f fd) (bS : Binds K fd ["_law_found", "_law_due"] []) (gS : mg "_law_same" = some (.ref f))
    (misi : mg "isinstance" = none) (mt : mg "tuple" = none) (ml : mg "list" = none) (mlen : mg "len" = none) (mr : mg "range" = none) (md : mg "dict" = none) (ms : mg "str" = none) (mi : mg "int" = none) (mb : mg "bool" = none) :
    ∀ m, FnOk P w K mg base CX0 m f fd ["_law_found", "_law_due"] (spSame K m)
  | 0 => ⟨fun vs H Q E h => by obtain ⟨x, y, rfl, _⟩ := h; rfl, fun A outer s H args us vs Q E hr he hb hv h => by obtain ⟨x, y, _, h, _⟩ := h; exact h.elim⟩
  | m + 1 => by
    have GS := ok_same F bS gS misi mt ml mlen mr md ms mi mb m
    refine F.ok scSame (fun vs H Q E h => ?_) (fun cdv A outer s H vs Q E hr h => ?_)
    · obtain ⟨x, y, rfl, _⟩ := h
      rfl
    · obtain ⟨x, y, rfl, hal, q⟩ := h
      refine ⟨_, pss_cons (ps_if (pt_val (pe_callB call_isiT (by rfl) misi (by decide +kernel) (pa_cons (pv 1) (pa_cons (pe_tup (pa_cons (pe_bltn (v := .ty "tuple") (by rfl) mt (by decide +kernel) rfl) (pa_cons (pe_bltn (v := .ty "list") (by rfl) ml (by decide +kernel) rfl) pa_nil))) pa_nil))))
          (pss_cons (ps_if (pt_cmpR op_ne (pe_callB call_isi (by rfl) misi (by decide +kernel) (pa_cons (pv 0) (pa_cons (pe_bltn (v := .ty "tuple") (by rfl) mt (by decide +kernel) rfl) pa_nil))) (pe_callB call_isi (by rfl) misi (by decide +kernel) (pa_cons (pv 1) (pa_cons (pe_bltn (v := .ty "tuple") (by rfl) mt (by decide +kernel) rfl) pa_nil))) (nomark _)) (pss_one (ps_ret pe_bl)) pss_nil)
          (pss_cons (ps_if (pt_cmpR op_ne (pe_callB call_isi (by rfl) misi (by decide +kernel) (pa_cons (pv 0) (pa_cons (pe_bltn (v := .ty "list") (by rfl) ml (by decide +kernel) rfl) pa_nil))) (pe_callB call_isi (by rfl) misi (by decide +kernel) (pa_cons (pv 1) (pa_cons (pe_bltn (v := .ty "list") (by rfl) ml (by decide +kernel) rfl) pa_nil))) (nomark _)) (pss_one (ps_ret pe_bl)) pss_nil)
          (pss_cons (ps_if (pt_cmpR op_ne (pe_callB call_len_seq (by rfl) mlen PySem.boot_len (pa_cons (pv 0) pa_nil)) (pe_callB call_len_seq (by rfl) mlen PySem.boot_len (pa_cons (pv 1) pa_nil)) (nomark _)) (pss_one (ps_ret pe_bl)) pss_nil)
          (pss_one (ps_ret (pe_cmpR (op_eqD hr.units) (pe_lc (own := [("_law_k", 2)]) (g := gName 2) (by rfl) scSame.nd (pi_range1 (by rfl) mr (pa_cons (pe_callB call_len_seq (by rfl) mlen PySem.boot_len (pa_cons (pv 1) pa_nil)) pa_nil))
              (blkOk_by (own := [("_law_k", 2)]) (N := ["_law_found", "_law_due", "_law_k"]) (sc := defScope sSame) (by decide +kernel)) (fun _ _ _ _ _ => pg_name (i := 2) scSame.nd rfl (Or.inl rfl))
              (fun _ _ _ _ _ => pts_one (pt_not (pt_val (pe_call GS hr (by rfl) gS F.kp bS .nil pass0 (pa_cons (pe_ix (r := rIx K) ix_seq (pv 0) (pv 2) (fun _ _ => rfl)) (pa_cons (pe_ix (r := rIx K) ix_seq (pv 1) (pv 2) (fun _ _ => rfl)) pa_nil))))))
              (fun _ _ _ _ _ => pv 2)) (pe_lst pa_nil) (nomark _))))))) pss_nil)
        (pss_cons (ps_if (pt_val (pe_callB call_isi (by rfl) misi (by decide +kernel) (pa_cons (pv 1) (pa_cons (pe_bltn (v := .ty "dict") (by rfl) md (by decide +kernel) rfl) pa_nil)))) (pss_one (ps_ret (pe_and (pe_callB call_isi (by rfl) misi (by decide +kernel) (pa_cons (pv 0) (pa_cons (pe_bltn (v := .ty "dict") (by rfl) md (by decide +kernel) rfl) pa_nil))) (pe_one (pe_cmpR op_eq (pv 0) (pv 1) (nomark _)))))) pss_nil)
        (pss_cons (ps_if (pt_cmpR op_isN (pv 1) pe_non (nomark _)) (pss_one (ps_ret (pe_cmpR op_isN (pv 0) pe_non (nomark _)))) pss_nil)
        (pss_cons (ps_if (pt_val (pe_callB call_isi (by rfl) misi (by decide +kernel) (pa_cons (pv 1) (pa_cons (pe_bltn (v := .ty "str") (by rfl) ms (by decide +kernel) rfl) pa_nil)))) (pss_one (ps_ret (pe_and (pe_callB call_isi (by rfl) misi (by decide +kernel) (pa_cons (pv 0) (pa_cons (pe_bltn (v := .ty "str") (by rfl) ms (by decide +kernel) rfl) pa_nil))) (pe_one (pe_cmpR op_eq (pv 0) (pv 1) (nomark _)))))) pss_nil)
        (pss_one (ps_ret (pe_and (pe_callB call_isi (by rfl) misi (by decide +kernel) (pa_cons (pv 0) (pa_cons (pe_bltn (v := .ty "int") (by rfl) mi (by decide +kernel) rfl) pa_nil)))
          (pe_and (pe_cmpR op_eq (pe_callB call_isi (by rfl) misi (by decide +kernel) (pa_cons (pv 0) (pa_cons (pe_bltn (v := .ty "bool") (by rfl) mb (by decide +kernel) rfl) pa_nil))) (pe_callB call_isi (by rfl) misi (by decide +kernel) (pa_cons (pv 1) (pa_cons (pe_bltn (v := .ty "bool") (by rfl) mb (by decide +kernel) rfl) pa_nil))) (nomark _)) (pe_one (pe_cmpR op_eq (pv 0) (pv 1) (nomark _)))))))))), ?_⟩
      refine ⟨y, rfl, by show 2 ≤ sizeLine; decide, fun tp htp => ?_⟩
      have s1 : Same H (upd H tp (.tup [.ty "tuple", .ty "list"])) := same_upd htp
      have e1 : upd H tp (.tup [.ty "tuple", .ty "list"]) tp = some (.tup [.ty "tuple", .ty "list"]) := upd_same
      have hal1 : Alk K (upd H tp (.tup [.ty "tuple", .ty "list"])) (m + 1) x y := Alk.same s1 hal
      generalize upd H tp (.tup [.ty "tuple", .ty "list"]) = H1 at s1 e1 hal1 ⊢
      have pc : Paired ClsV [V.ty "tuple", V.ty "list"] [Value.type "tuple", Value.type "list"] := .cons (.ty _) (.cons (.ty _) .nil)
      rcases hal1 with ⟨hf, rfl⟩ | ⟨a, b, xs, ys, rfl, rfl, hq, hl, hz, hit⟩
      · have ty : TyX K H1 x (tyF x) := tyFlat hf
        cases x with
        | non =>
          refine ⟨_, tp, _, _, _, false, rfl, e1, pc, ty, kit_two (r1 := false) (r2 := false) (by decide +kernel) (by decide +kernel), _, rfl, iteF ?_⟩
          refine ⟨.non, rfl, .non, .ty "dict", _, _, false, rfl, .ty _, ty, kit_ty (by decide +kernel), _, rfl, iteF ?_⟩
          exact ⟨.non, rfl, rfl, _, rfl, iteT ⟨.non, rfl, rfl, q H1 s1⟩⟩
        | bl c =>
          refine ⟨_, tp, _, _, _, false, rfl, e1, pc, ty, kit_two (r1 := false) (r2 := false) (by decide +kernel) (by decide +kernel), _, rfl, iteF ?_⟩
          refine ⟨.bl c, rfl, .bl c, .ty "dict", _, _, false, rfl, .ty _, ty, kit_ty (by decide +kernel), _, rfl, iteF ?_⟩
          refine ⟨.bl c, rfl, rfl, _, rfl, iteF ?_⟩
          refine ⟨.bl c, rfl, .bl c, .ty "str", _, _, false, rfl, .ty _, ty, kit_ty (by decide +kernel), _, rfl, iteF ?_⟩
          refine ⟨.bl c, rfl, .bl c, .ty "int", _, _, true, rfl, .ty _, ty, kit_ty (by decide +kernel), _, rfl, iteT ?_⟩
          refine ⟨.bl c, rfl, .bl c, .ty "bool", _, _, true, rfl, .ty _, ty, kit_ty (by decide +kernel), .bl c, rfl, .bl c, .ty "bool", _, _, true, rfl, .ty _, ty, kit_ty (by decide +kernel), rfl, _, rfl, ?_⟩
          refine iteT ⟨.bl c, rfl, .bl c, rfl, rfl, ?_⟩
          rw [decide_eq_true rfl]
          exact q H1 s1
        | int c =>
          refine ⟨_, tp, _, _, _, false, rfl, e1, pc, ty, kit_two (r1 := false) (r2 := false) (by decide +kernel) (by decide +kernel), _, rfl, iteF ?_⟩
          refine ⟨.int c, rfl, .int c, .ty "dict", _, _, false, rfl, .ty _, ty, kit_ty (by decide +kernel), _, rfl, iteF ?_⟩
          refine ⟨.int c, rfl, rfl, _, rfl, iteF ?_⟩
          refine ⟨.int c, rfl, .int c, .ty "str", _, _, false, rfl, .ty _, ty, kit_ty (by decide +kernel), _, rfl, iteF ?_⟩
          refine ⟨.int c, rfl, .int c, .ty "int", _, _, true, rfl, .ty _, ty, kit_ty (by decide +kernel), _, rfl, iteT ?_⟩
          refine ⟨.int c, rfl, .int c, .ty "bool", _, _, false, rfl, .ty _, ty, kit_ty (by decide +kernel), .int c, rfl, .int c, .ty "bool", _, _, false, rfl, .ty _, ty, kit_ty (by decide +kernel), rfl, _, rfl, ?_⟩
          refine iteT ⟨.int c, rfl, .int c, rfl, rfl, ?_⟩
          rw [decide_eq_true rfl]
          exact q H1 s1
        | str c =>
          refine ⟨_, tp, _, _, _, false, rfl, e1, pc, ty, kit_two (r1 := false) (r2 := false) (by decide +kernel) (by decide +kernel), _, rfl, iteF ?_⟩
          refine ⟨.str c, rfl, .str c, .ty "dict", _, _, false, rfl, .ty _, ty, kit_ty (by decide +kernel), _, rfl, iteF ?_⟩
          refine ⟨.str c, rfl, rfl, _, rfl, iteF ?_⟩
          refine ⟨.str c, rfl, .str c, .ty "str", _, _, true, rfl, .ty _, ty, kit_ty (by decide +kernel), _, rfl, iteT ?_⟩
          refine ⟨.str c, rfl, .str c, .ty "str", _, _, true, rfl, .ty _, ty, kit_ty (by decide +kernel), _, rfl, iteT ⟨.str c, rfl, .str c, rfl, rfl, ?_⟩⟩
          rw [decide_eq_true rfl]
          exact q H1 s1
        | _ => exact absurd (show false = true from hf) Bool.false_ne_true
      · obtain ⟨t, ta, tb, k1, k2, k3, hlq⟩ : ∃ t : String, TyX K H1 (.ref a) (.type t) ∧ TyX K H1 (.ref b) (.type t) ∧ PySem.W.kitAny K (.type t) [Value.type "tuple", Value.type "list"] = some true ∧ (∃ c, PySem.W.kitOne K (.type t) (.type "tuple") = some c) ∧ (∃ c, PySem.W.kitOne K (.type t) (.type "list") = some c) ∧
            ((SqL K H1 a xs ∨ SqT K H1 a xs) ∧ (SqL K H1 b ys ∨ SqT K H1 b ys)) := by
          rcases hq with ⟨p, r⟩ | ⟨p, r⟩
          · exact ⟨"list", tyL p, tyL r, kit_two (r1 := false) (r2 := true) (by decide +kernel) (by decide +kernel), ⟨false, kit_ty (by decide +kernel)⟩, ⟨true, kit_ty (by decide +kernel)⟩, .inl p, .inl r⟩
          · exact ⟨"tuple", tyT p, tyT r, kit_two (r1 := true) (r2 := false) (by decide +kernel) (by decide +kernel), ⟨true, kit_ty (by decide +kernel)⟩, ⟨false, kit_ty (by decide +kernel)⟩, .inr p, .inr r⟩
        obtain ⟨c2, k2⟩ := k2
        obtain ⟨c3, k3⟩ := k3
        refine ⟨_, tp, _, _, _, true, rfl, e1, pc, tb, k1, _, rfl, iteT ?_⟩
        refine ⟨.ref a, rfl, .ref a, .ty "tuple", _, _, c2, rfl, .ty _, ta, k2, .ref b, rfl, .ref b, .ty "tuple", _, _, c2, rfl, .ty _, tb, k2, rfl, _, rfl, iteNS rfl ?_⟩
        refine ⟨.ref a, rfl, .ref a, .ty "list", _, _, c3, rfl, .ty _, ta, k3, .ref b, rfl, .ref b, .ty "list", _, _, c3, rfl, .ty _, tb, k3, rfl, _, rfl, iteNS rfl ?_⟩
        refine ⟨.ref a, rfl, a, xs, rfl, hlq.1, .ref b, rfl, b, ys, rfl, hlq.2, rfl, _, rfl, iteNS (by rw [hl]) ?_⟩
        refine ⟨.ref b, rfl, b, ys, rfl, hlq.2, _, rfl, by omega, by omega, fun D hD => walk_in (n := ys.length) (lo := 0) (fun i H2 => Same H1 H2 ∧ H2 D = some (.lst [])) ⟨same_upd hD, upd_same⟩ (fun i H2 hi h => ?_) (fun H2 h => ?_)⟩
        · obtain ⟨s2, hd2⟩ := h
          have gx : xs[i]? = some (xs[i]'(by omega)) := List.getElem?_eq_getElem _
          have gy : ys[i]? = some ys[i] := List.getElem?_eq_getElem _
          have ax : atI xs (0 + (i : Int)) = some (xs[i]'(by omega)) := by
            rw [Int.zero_add]
            exact atI_nat gx
          have ay : atI ys (0 + (i : Int)) = some ys[i] := by
            rw [Int.zero_add]
            exact atI_nat gy
          have ix : ∀ {c : Addr} {zs : List V} {z : V} {R : V → Hp → Prop}, (SqL K H1 c zs ∨ SqT K H1 c zs) → atI zs (0 + (i : Int)) = some z → R z H2 → rIx K (.ref c) (.int (0 + (i : Int))) H2 R := by
            intro c zs z R hc hz hR
            rcases hc with hc | hc
            · exact .inl ⟨c, zs, _, z, rfl, rfl, s2.seq hc, hz, hR⟩
            · exact .inr (.inl ⟨c, zs, _, z, rfl, rfl, same_seqT s2 hc, hz, hR⟩)
          refine ⟨rfl, .ref a, rfl, .int (0 + (i : Int)), rfl, ix hlq.1 ax ⟨.ref b, rfl, .int (0 + (i : Int)), rfl, ix hlq.2 ay ⟨_, _, rfl, Alk.same s2 (hit i _ _ gx gy), fun H3 s3 => ⟨_, rfl, iteF ⟨s2.trans s3, s3 _ _ hd2⟩⟩⟩⟩⟩
        · obtain ⟨s2, hd2⟩ := h
          refine ⟨Nat.zero_le _, fun e he => ?_⟩
          refine ⟨.list [], .list [], .lst (sqL ((same_upd he) _ _ hd2)) .nil, .lst (sqL upd_same) .nil, rfl, rfl, ?_⟩
          exact q _ ((s1.trans s2).trans (same_upd he))
end
theorem alk_int {K : PySem.W.Frag} {H : Hp} {m : Nat} {i j : Int} (h : i = j) : Alk K H (m + 1) (.int i) (.int j) := .inl ⟨rfl, by rw [h]⟩
theorem alk_bl {K : PySem.W.Frag} {H : Hp} {m : Nat} {i j : Bool} (h : i = j) : Alk K H (m + 1) (.bl i) (.bl j) := .inl ⟨rfl, by rw [h]⟩
theorem alk_tp {K : PySem.W.Frag} {H : Hp} {m : Nat} {a b : Addr} {ns : List Int} (ha : Tp H a ns) (hb : Tp H b ns) (hl : ns.length ≤ 1000) : Alk K H (m + 2) (.ref a) (.ref b) := by
  refine .inr ⟨a, b, _, _, rfl, rfl, .inr ⟨ha.sq, hb.sq⟩, rfl, by rw [List.length_map]; exact hl, fun i u v hu hv => ?_⟩
  rw [hu] at hv
  cases hv
  rw [List.getElem?_map] at hu
  cases e : ns[i]? with
  | none => rw [e] at hu; cases hu
  | some z => rw [e] at hu; cases hu; exact alk_int rfl
theorem alk_prs {K : PySem.W.Frag} {H : Hp} {m : Nat} {a b : Addr} {xs ys : List V} {ps : List (Int × Int)} (hx : Prs H xs ps) (hy : Prs H ys ps) (ha : H a = some (.tup xs)) (hb : H b = some (.tup ys)) (hl : ps.length ≤ 1000) : Alk K H (m + 3) (.ref a) (.ref b) := by
  refine .inr ⟨a, b, _, _, rfl, rfl, .inr ⟨sqT ha, sqT hb⟩, hx.len.trans hy.len.symm, by rw [hx.len]; exact hl, fun i u v hu hv => ?_⟩
  obtain ⟨r, x1, x2, rfl, g1, e1⟩ := hx.get hu
  obtain ⟨t, y1, y2, rfl, g2, e2⟩ := hy.get hv
  rw [g1] at g2
  cases g2
  refine .inr ⟨r, t, _, _, rfl, rfl, .inr ⟨.inl e1, .inl e2⟩, rfl, by show 2 ≤ 1000; decide, fun j u v hu hv => ?_⟩
  rw [hu] at hv
  cases hv
  match j, hu with
  | 0, hu => cases hu; exact alk_int rfl
  | 1, hu => cases hu; exact alk_int rfl
  | j + 2, hu => simp at hu
theorem alk_two {K : PySem.W.Frag} {H : Hp} {m : Nat} {a b : Addr} {x1 x2 y1 y2 : V} (ha : H a = some (.lst [x1, x2])) (hb : H b = some (.lst [y1, y2])) (h1 : Alk K H m x1 y1) (h2 : Alk K H m x2 y2) : Alk K H (m + 1) (.ref a) (.ref b) := by
  refine .inr ⟨a, b, _, _, rfl, rfl, .inl ⟨sqL ha, sqL hb⟩, rfl, by show 2 ≤ 1000; decide, fun i u v hu hv => ?_⟩
  match i, hu, hv with
  | 0, hu, hv => cases hu; cases hv; exact h1
  | 1, hu, hv => cases hu; cases hv; exact h2
  | i + 2, hu, hv => simp at hu
end TR
namespace TR
open PySem PySem.Spec PyProof.Rows L2
/-! ### rows of rankings, each known -/
inductive Rts (H : Hp) : List V → List (List Int) → Prop
  | nil : Rts H [] []
  | cons {b : Addr} {r : List Int} {vs : List V} {rs : List (List Int)} : Tp H b r → Rts H vs rs → Rts H (.ref b :: vs) (r :: rs)
theorem Tp.updl {H : Hp} {a D : Addr} {ns : List Int} {xs ys : List V} (t : Tp H a ns) (e : H D = some (.lst xs)) : Tp (upd H D (.lst ys)) a ns := by
  obtain ⟨o, d, h⟩ := t
  exact ⟨o, d, by rw [upd_ne (ne_of h e (by intro z; cases z))]; exact h⟩
theorem Rts.same {H H' : Hp} {vs : List V} {ps : List (List Int)} (h : Rts H vs ps) (s : Same H H') : Rts H' vs ps := by
  induction h with
  | nil => exact .nil
  | cons e _ ih => exact .cons (e.same s) ih
theorem Rts.upd_lst {H : Hp} {vs : List V} {ps : List (List Int)} {D : Addr} {xs ys : List V} (h : Rts H vs ps) (e : H D = some (.lst xs)) : Rts (upd H D (.lst ys)) vs ps := by
  induction h with
  | nil => exact .nil
  | cons e2 _ ih => exact .cons (e2.updl e) ih
theorem Rts.append {H : Hp} {vs ws : List V} {ps qs : List (List Int)} (h : Rts H vs ps) (g : Rts H ws qs) : Rts H (vs ++ ws) (ps ++ qs) := by
  induction h with
  | nil => exact g
  | cons e _ ih => exact .cons e ih
theorem Rts.len {H : Hp} {vs : List V} {ps : List (List Int)} (h : Rts H vs ps) : vs.length = ps.length := by
  induction h with
  | nil => rfl
  | cons _ _ ih => rw [List.length_cons, List.length_cons, ih]
theorem Rts.get {H : Hp} {vs : List V} {ps : List (List Int)} (h : Rts H vs ps) : ∀ {i : Nat} {x : V}, vs[i]? = some x → ∃ b r, x = .ref b ∧ ps[i]? = some r ∧ Tp H b r := by
  induction h with
  | nil => intro i x e; simp at e
  | cons e _ ih =>
    intro i x g
    cases i with
    | zero => exact ⟨_, _, (Option.some.inj g).symm, rfl, e⟩
    | succ i => exact ih g
theorem Rts.snoc {H : Hp} {r : List Int} : ∀ {vs : List V} {rs : List (List Int)}, Rts H vs (rs ++ [r]) → ∃ ws t, vs = ws ++ [.ref t] ∧ Rts H ws rs ∧ Tp H t r
  | _, [], h => by
    cases h with
    | cons e g => cases g; exact ⟨[], _, rfl, .nil, e⟩
  | _, x :: rs, h => by
    cases h with
    | cons e g =>
      obtain ⟨ws, t, rfl, g2, e2⟩ := Rts.snoc g
      exact ⟨_ :: ws, t, rfl, .cons e g2, e2⟩
theorem alk_rts {K : PySem.W.Frag} {H : Hp} {m : Nat} {a b : Addr} {xs ys : List V} {ps : List (List Int)} (hx : Rts H xs ps) (hy : Rts H ys ps) (ha : SqT K H a xs) (hb : SqT K H b ys) (hl : ps.length ≤ 1000) (hr : ∀ r ∈ ps, r.length ≤ 1000) : Alk K H (m + 3) (.ref a) (.ref b) := by
  refine .inr ⟨a, b, _, _, rfl, rfl, .inr ⟨ha, hb⟩, hx.len.trans hy.len.symm, by rw [hx.len]; exact hl, fun i u v hu hv => ?_⟩
  obtain ⟨r, x1, rfl, g1, e1⟩ := hx.get hu
  obtain ⟨t, y1, rfl, g2, e2⟩ := hy.get hv
  rw [g1] at g2
  cases g2
  exact alk_tp e1 e2 (hr _ (List.mem_of_getElem? g1))
theorem walk_inL {K : PySem.W.Frag} {a : Addr} {xs : List V} {H4 : Hp} {Nx : Hp → Prop} {B : V → Hp → (Hp → Prop) → Prop} (Pv : Nat → Hp → Prop) (h0 : Pv 0 H4) (hl : ∀ i H, Pv i H → SqL K H a xs) (hs : ∀ i x H, xs[i]? = some x → Pv i H → B x H (Pv (i + 1))) (hd : ∀ H, Pv xs.length H → Nx H) :
    ∃ W : Nat → Nat → Hp → Prop, (∃ m, W 0 m H4) ∧ ∀ i k H, W i k H → ((Itl K a).stop i H ∧ Nx H) ∨ ((Itl K a).go i H ∧ ∃ N : Hp → Prop, (∀ H', N H' → ∃ k', k' < k ∧ W (i + 1) k' H') ∧ ∀ x H', (Itl K a).yld i H x H' → B x H' N) := by
  refine ⟨fun i m H => m = xs.length - i ∧ i ≤ xs.length ∧ Pv i H, ⟨xs.length, by simp, Nat.zero_le _, h0⟩, ?_⟩
  rintro i m H ⟨rfl, hi, p⟩
  have q := hl i H p
  by_cases hlt : i < xs.length
  · refine .inr ⟨⟨xs, xs[i], q, by simp [hlt]⟩, Pv (i + 1), fun H' p' => ⟨xs.length - (i + 1), by omega, rfl, hlt, p'⟩, fun x H' y => ?_⟩
    obtain ⟨e, y⟩ := y
    subst e
    exact hs i x _ (y xs q) p
  · have e : i = xs.length := by omega
    subst e
    exact .inl ⟨⟨xs, q, Nat.le_refl _⟩, hd H p⟩
end TR
namespace TR
open PySem PySem.Spec PyProof.Rows L2
/-- a value's truth, the written part named -/
def tTruth (K : PySem.W.Frag) (ta : TE) : TT := fun σ H Q => ta σ H fun x H' => ∃ k, TruV K x H' k ∧ Q k H'
theorem pt_tru {X : Cx} {a : Expr} {ta : TE} {K : PySem.W.Frag} (ha : PE X a ta) (hK : X.K = K) (he : ∀ whole, isTrue a X.env whole = (do let v ← whole; standAt a.pos; holding [v] (truthy v))) : PT X a (tTruth K ta) := by
  subst hK
  exact pt_truth ha he
end TR
namespace TR
open PySem PySem.Spec PyProof.Rows L2
theorem scAtup : FnScope ["size", "length", "rows", "step", "row", "more"] ["size", "length"] (defScope sAtup) := ⟨rfl, rfl, rfl, by decide +kernel, rfl, by decide +kernel, by decide +kernel⟩
section
variable {P : Program} {w : World} {K : PySem.W.Frag} {mg : Str → Option Value} {base : Heap}
theorem snoc_cases (r : List Int) : r = [] ∨ ∃ r' z, r = r' ++ [z] := by
  rcases List.eq_nil_or_concat r with h | ⟨r', z, h⟩
  · exact .inl h
  · exact .inr ⟨r', z, by rw [h, List.concat_eq_append]⟩
def spAtup : Sp := fun vs H Q _ => ∃ (n k : Nat), vs = [.int (n : Int), .int (k : Int)] ∧ n ≤ 100 ∧ k ≤ 100 ∧ (∀ j, j ≤ k → (atup n j).length ≤ 100000) ∧
  ∀ H' l xs, Same H H' → H l = none → H' l = some (.lst xs) → Rts H' xs (atup n k) → Q (.ref l) H'
theorem ok_Atup {f  : Addr} {fd  : FuncData} {m : Nat} (F : Fun K "ascending_tuples" "ascending_tuples" sAtup f fd)
    (m_range : mg "range" = none) : FnOk P w K mg base CX0 (m + 1) f fd ["size", "length"] spAtup := by
  refine F.ok scAtup (fun vs H Q E h => ?_) (fun cdv A outer s H vs Q E hr h => ?_)
  · obtain ⟨n, k, rfl, _⟩ := h
    rfl
  · obtain ⟨n, k, rfl, hn, hk, hN, q⟩ := h
    refine ⟨_, 
      (pss_cons (ps_set (i := 2) scAtup.nd rfl (.inl rfl) (pe_lst (pa_cons (pe_tupF pa_nil) pa_nil))) 
      (pss_cons (ps_for PassesOwn.never rfl (pi_range1 (by rfl) m_range (pa_cons (pv 1) pa_nil)) (pg_name (i := 3) scAtup.nd rfl (.inl rfl)) 
        (pss_one (ps_setLc2 (i := 2) (own := [("row", 4), ("more", 5)]) (vs1 := [5]) (g := gName 4) (g1 := gName 5) (tt := tYes) (tt1 := tYes)  (by rfl) scAtup.nd rfl rfl (sw_true rfl rfl rfl (by decide +kernel)) (pi_list (pv 2)) (blkOk_by (own := [("row", 4), ("more", 5)]) (N := ["size", "length", "rows", "step", "row", "more"]) (sc := defScope sAtup) (by decide +kernel)) (by decide) (fun _ _ _ _ _ => (pg_name (i := 4) scAtup.nd rfl (Or.inl rfl))) (fun _ _ _ _ _ => pts_nil) (fun _ _ _ _ _ => (pi_range2 (by rfl) m_range (pa_cons (pe_ifExp (pt_tru (K := K) (pv 4) rfl (fun _ => rfl)) (pe_op op_add (pe_ix (r := rIxT K) ix_tup (pv 4) (pe_un un_neg pe_int) (fun _ _ => rfl)) pe_int) pe_int) (pa_cons (pv 0) pa_nil)))) (fun _ _ _ _ _ => (pg_name (i := 5) scAtup.nd rfl (Or.inl rfl))) (fun _ _ _ _ _ => pts_nil) (fun _ _ _ _ _ => (pe_op (r := rCatF K) op_catF (pv 4) (pe_tupF (pa_cons (pv 5) pa_nil))))))) 
      (pss_one (ps_ret (pv 2))))), ?_⟩
    refine ⟨by show 0 ≤ sizeLine; exact Nat.zero_le _, fun p0 o0 hp0 ho0 => ⟨by show 1 ≤ sizeLine; decide, fun l0 hl0 => ?_⟩⟩
    have s0 : Same H (upd H p0 (.frz o0 (.tup []))) := same_upd hp0
    have t0 : Tp (upd H p0 (.frz o0 (.tup (([] : List Int).map V.int)))) p0 [] := Tp.new ho0
    refine ⟨.int (k : Int), rfl, k, rfl, by omega, by omega, for_range (n := k) (lo := 0) (fun i σ H1 => ∃ l y3 y4 y5, σ = [some (.int (n : Int)), some (.int (k : Int)), some (.ref l), y3, y4, y5] ∧ H l = none ∧ ∃ xs, H1 l = some (.lst xs) ∧ Rts H1 xs (atup n i) ∧ Same H H1) ⟨l0, none, none, none, rfl, s0.free hl0, [.ref p0], upd_same, .cons (t0.same (same_upd hl0)) .nil, s0.trans (same_upd hl0)⟩ (fun i σ H1 hi h => ?_) (fun σ H1 h => ?_)⟩
    · obtain ⟨l, y3, y4, y5, rfl, hl0, xs, el, hX, s1⟩ := h
      refine ⟨.ref l, rfl, l, rfl, ⟨_, sqL el⟩, fun D hD => ?_⟩
      refine walk_inL (K := K) (a := l) (xs := xs) (fun j H2 => Same H1 H2 ∧ ∃ ys, H2 D = some (.lst ys) ∧ Rts H2 ys (((atup n i).take j).flatMap (ext n))) ⟨same_upd hD, [], upd_same, .nil⟩ (fun j H2 h => h.1.seq (sqL el)) (fun j x H2 hx h => ?_) (fun H2 h => ?_)
      · obtain ⟨s2, ys, eD, hR⟩ := h
        obtain ⟨b, r, rfl, hg, tb⟩ := hX.get hx
        have ok := atup_ok (List.mem_of_getElem? hg)
        have hlr := ok.len
        have hlo := ok.lo
        have tb2 := tb.same s2
        rcases snoc_cases r with rfl | ⟨r', z, rfl⟩
        · rw [nxt0_nil] at hlo
          refine ⟨rfl, .ref b, rfl, false, .inr (.inl ⟨_, tb2.sq, rfl⟩), iteF ?_⟩
          refine ⟨.int (n : Int), rfl, 0, (n : Int), rfl, ⟨by omega, by omega, by omega, by omega⟩, walk_in (n := ((n : Int) - (0 : Int)).toNat) (lo := (0 : Int)) (fun t H3 => Same H1 H3 ∧ ∃ zs, H3 D = some (.lst zs) ∧ Rts H3 zs (((atup n i).take j).flatMap (ext n) ++ (List.range t).map fun t : Nat => ([] : List Int) ++ [(0 : Int) + (t : Int)])) ⟨s2, ys, eD, by simpa using hR⟩ (fun t H3 htt h => ?_) (fun H3 h => ?_)⟩
          · obtain ⟨s3, zs, eD3, hR3⟩ := h
            have hl3 := hR3.len
            rw [List.length_append, List.length_map, List.length_range] at hl3
            have bl := take_flat_len (ext n) (atup n i) (j + 1)
            rw [take_flat (ext n) hg, List.length_append] at bl
            have el : (ext n (([] : List Int))).length = ((n : Int) - (0 : Int)).toNat := by
              unfold ext
              rw [List.length_map, List.length_range, nxt0_nil]
            have hbig := hN (i + 1) (by omega)
            have hbig2 : ((atup n i).flatMap (ext n)).length ≤ 100000 := hbig
            have fin : ∀ (H4 : Hp) (u : Addr), Same H3 H4 → Tp H4 u (([] : List Int) ++ [(0 : Int) + (t : Int)]) → ∃ acc, H4 D = some (.lst acc) ∧ acc.length < sizeLine ∧ Same H1 (upd H4 D (.lst (acc ++ [.ref u]))) ∧ ∃ zs, upd H4 D (.lst (acc ++ [.ref u])) D = some (.lst zs) ∧ Rts (upd H4 D (.lst (acc ++ [.ref u]))) zs (((atup n i).take j).flatMap (ext n) ++ (List.range (t + 1)).map fun t : Nat => ([] : List Int) ++ [(0 : Int) + (t : Int)]) := by
              intro H4 u s4 tu
              have e4 := s4 _ _ eD3
              refine ⟨zs, e4, ?_, same_upd2 (s3.trans s4) hD, zs ++ [.ref u], upd_same, ?_⟩
              · rw [sizeLine_eq]
                omega
              · rw [map_succ, ← List.append_assoc]
                exact ((hR3.same s4).upd_lst e4).append (.cons (tu.updl e4) .nil)
            have tb3 := tb.same s3
            refine ⟨rfl, .ref b, rfl, .int ((0 : Int) + (t : Int)), rfl, by show 1 ≤ sizeLine; decide, fun p o hp ho => ?_⟩
            have tp : Tp (upd H3 p (.frz o (.tup ([(0 : Int) + (t : Int)].map V.int)))) p [(0 : Int) + (t : Int)] := Tp.new ho
            have sp : Same H3 (upd H3 p (.frz o (.tup ([(0 : Int) + (t : Int)].map V.int)))) := same_upd hp
            refine ⟨b, p, _, _, rfl, rfl, (tb3.same sp).sq, tp.sq, ?_, fun zz => ?_, fun _ zz => ?_, fun _ _ p2 o2 hp2 ho2 => ?_⟩
            · rw [List.length_map, List.length_map, hlr]
              exact Nat.le_of_lt (small1000 (by show i + 1 ≤ 1000; omega))
            · have e0 : ([] : List Int) = [] := List.map_eq_nil_iff.mp zz
              refine fin _ p sp ?_
              rw [e0]
              exact tp
            · cases zz
            · rw [← List.map_append]
              exact fin _ p2 (sp.trans (same_upd hp2)) (Tp.new ho2)
          · obtain ⟨s3, zs, eD3, hR3⟩ := h
            refine ⟨s3, zs, eD3, ?_⟩
            rw [take_flat (ext n) hg]
            have ee : ext n (([] : List Int)) = (List.range ((n : Int) - (0 : Int)).toNat).map fun t : Nat => ([] : List Int) ++ [(0 : Int) + (t : Int)] := by
              unfold ext
              rw [nxt0_nil]
            rw [ee]
            exact hR3
        · rw [nxt0_app] at hlo
          refine ⟨rfl, .ref b, rfl, true, .inr (.inl ⟨_, tb2.sq, by simp⟩), iteT ?_⟩
          have alast : atI ((r' ++ [z]).map V.int) (-1) = some (.int z) := by
            rw [List.map_append]
            exact atI_last _ _
          refine ⟨.ref b, rfl, 1, rfl, b, _, -1, _, rfl, rfl, tb2.sq, alast, _, 1, rfl, rfl, .int (n : Int), rfl, z + 1, (n : Int), rfl, ⟨by omega, by omega, by omega, by omega⟩, walk_in (n := ((n : Int) - (z + 1)).toNat) (lo := (z + 1)) (fun t H3 => Same H1 H3 ∧ ∃ zs, H3 D = some (.lst zs) ∧ Rts H3 zs (((atup n i).take j).flatMap (ext n) ++ (List.range t).map fun t : Nat => (r' ++ [z]) ++ [(z + 1) + (t : Int)])) ⟨s2, ys, eD, by simpa using hR⟩ (fun t H3 htt h => ?_) (fun H3 h => ?_)⟩
          · obtain ⟨s3, zs, eD3, hR3⟩ := h
            have hl3 := hR3.len
            rw [List.length_append, List.length_map, List.length_range] at hl3
            have bl := take_flat_len (ext n) (atup n i) (j + 1)
            rw [take_flat (ext n) hg, List.length_append] at bl
            have el : (ext n ((r' ++ [z]))).length = ((n : Int) - (z + 1)).toNat := by
              unfold ext
              rw [List.length_map, List.length_range, nxt0_app]
            have hbig := hN (i + 1) (by omega)
            have hbig2 : ((atup n i).flatMap (ext n)).length ≤ 100000 := hbig
            have fin : ∀ (H4 : Hp) (u : Addr), Same H3 H4 → Tp H4 u ((r' ++ [z]) ++ [(z + 1) + (t : Int)]) → ∃ acc, H4 D = some (.lst acc) ∧ acc.length < sizeLine ∧ Same H1 (upd H4 D (.lst (acc ++ [.ref u]))) ∧ ∃ zs, upd H4 D (.lst (acc ++ [.ref u])) D = some (.lst zs) ∧ Rts (upd H4 D (.lst (acc ++ [.ref u]))) zs (((atup n i).take j).flatMap (ext n) ++ (List.range (t + 1)).map fun t : Nat => (r' ++ [z]) ++ [(z + 1) + (t : Int)]) := by
              intro H4 u s4 tu
              have e4 := s4 _ _ eD3
              refine ⟨zs, e4, ?_, same_upd2 (s3.trans s4) hD, zs ++ [.ref u], upd_same, ?_⟩
              · rw [sizeLine_eq]
                omega
              · rw [map_succ, ← List.append_assoc]
                exact ((hR3.same s4).upd_lst e4).append (.cons (tu.updl e4) .nil)
            have tb3 := tb.same s3
            refine ⟨rfl, .ref b, rfl, .int ((z + 1) + (t : Int)), rfl, by show 1 ≤ sizeLine; decide, fun p o hp ho => ?_⟩
            have tp : Tp (upd H3 p (.frz o (.tup ([(z + 1) + (t : Int)].map V.int)))) p [(z + 1) + (t : Int)] := Tp.new ho
            have sp : Same H3 (upd H3 p (.frz o (.tup ([(z + 1) + (t : Int)].map V.int)))) := same_upd hp
            refine ⟨b, p, _, _, rfl, rfl, (tb3.same sp).sq, tp.sq, ?_, fun zz => ?_, fun _ zz => ?_, fun _ _ p2 o2 hp2 ho2 => ?_⟩
            · rw [List.length_map, List.length_map, hlr]
              exact Nat.le_of_lt (small1000 (by show i + 1 ≤ 1000; omega))
            · have e0 : (r' ++ [z]) = [] := List.map_eq_nil_iff.mp zz
              refine fin _ p sp ?_
              rw [e0]
              exact tp
            · cases zz
            · rw [← List.map_append]
              exact fin _ p2 (sp.trans (same_upd hp2)) (Tp.new ho2)
          · obtain ⟨s3, zs, eD3, hR3⟩ := h
            refine ⟨s3, zs, eD3, ?_⟩
            rw [take_flat (ext n) hg]
            have ee : ext n ((r' ++ [z])) = (List.range ((n : Int) - (z + 1)).toNat).map fun t : Nat => (r' ++ [z]) ++ [(z + 1) + (t : Int)] := by
              unfold ext
              rw [nxt0_app]
            rw [ee]
            exact hR3
      · obtain ⟨s2, ys, eD, hR⟩ := h
        rw [hX.len, List.take_length] at hR
        exact ⟨D, _, _, _, rfl, s1.free hD, ys, eD, hR, s1.trans s2⟩
    · obtain ⟨l, y3, y4, y5, rfl, hl0, xs, el, hX, s1⟩ := h
      exact ⟨.ref l, rfl, q H1 l xs s1 hl0 el hX⟩
end
end TR
namespace TR
open PySem PySem.Spec PyProof.Rows L2
theorem scPairs : FnScope ["dishes"] ["dishes"] (defScope sPairs) := ⟨rfl, rfl, rfl, by decide +kernel, rfl, by decide +kernel, by decide +kernel⟩
section
variable {P : Program} {w : World} {K : PySem.W.Frag} {mg : Str → Option Value} {base : Heap}
/-! ### all_pairs -/
def spPairs : Sp := fun vs H Q _ => ∃ n : Nat, vs = [.int (n : Int)] ∧ n ≤ 8 ∧ ∀ H' l xs, Same H H' → H l = none → H' l = some (.lst xs) → Prs H' xs (pairs n) → Q (.ref l) H'
theorem rts_prs {H : Hp} : ∀ {xs : List V} {ps : List (Int × Int)}, Rts H xs (ps.map fun p => [p.1, p.2]) → Prs H xs ps
  | _, [], h => by cases h; exact .nil
  | _, p :: r, h => by
    cases h with
    | cons t g =>
      obtain ⟨o, _, e⟩ := t
      exact .cons (.inr ⟨o, e⟩) (rts_prs g)
theorem ok_Pairs {f f_ascending_tuples : Addr} {fd d_ascending_tuples : FuncData} {m : Nat} (F : Fun K "all_pairs" "all_pairs" sPairs f fd)
    (k_ascending_tuples : PySem.W.keepIn K (.ref f_ascending_tuples) = true) (b_ascending_tuples : Binds K d_ascending_tuples ["size", "length"] []) (g_ascending_tuples : mg "ascending_tuples" = some (.ref f_ascending_tuples)) (G_ascending_tuples : FnOk P w K mg base CX0 m f_ascending_tuples d_ascending_tuples ["size", "length"] spAtup)
     : FnOk P w K mg base CX0 (m + 1) f fd ["dishes"] spPairs := by
  refine F.ok scPairs (fun vs H Q E h => ?_) (fun cdv A outer s H vs Q E hr h => ?_)
  · obtain ⟨n, rfl, _⟩ := h
    rfl
  · obtain ⟨n, rfl, hn, q⟩ := h
    refine ⟨_, 
      (pss_one (ps_ret (pe_call G_ascending_tuples hr (by rfl) g_ascending_tuples k_ascending_tuples b_ascending_tuples .nil pass0 (pa_cons (pv 0) (pa_cons pe_int pa_nil))))), ?_⟩
    refine ⟨.int (n : Int), rfl, n, 2, rfl, by omega, by decide, atup2_len n hn, fun H1 l xs s1 hl el hR => q H1 l xs s1 hl el (rts_prs ?_)⟩
    rw [← atup_two]
    exact hR
end
end TR
namespace TR
open PySem PySem.Spec PyProof.Rows L2
theorem scDiffs : FnScope ["one", "other", "pair"] ["one", "other"] (defScope sDiffs) := ⟨rfl, rfl, rfl, by decide +kernel, rfl, by decide +kernel, by decide +kernel⟩
section
variable {P : Program} {w : World} {K : PySem.W.Frag} {mg : Str → Option Value} {base : Heap}
/-! ### differences, distance -/
def spDiffs : Sp := fun vs H Q _ => ∃ (a b : Addr) (n : Nat) (ns ms : List Int), vs = [.ref a, .ref b] ∧ Tp H a ns ∧ Tp H b ms ∧ Rank n ns ∧ Rank n ms ∧ n ≤ 8 ∧
  ∀ H' t xs, Same H H' → H t = none → H' t = some (.tup xs) → Prs H' xs (diffs n ns ms) → Q (.ref t) H'
theorem ok_diffs {f fA fL : Addr} {fd fdA fdL : FuncData} {k : Nat} (F : Fun K "differences" "differences" sDiffs f fd) (FA : Fun K "agree" "agree" sAgree fA fdA) (bA : Binds K fdA ["one", "other", "pair"] []) (gA : mg "agree" = some (.ref fA))
    (FL : Fun K "all_pairs" "all_pairs" sPairs fL fdL) (bL : Binds K fdL ["dishes"] []) (gL : mg "all_pairs" = some (.ref fL)) (GA : FnOk P w K mg base CX0 (k + 2) fA fdA ["one", "other", "pair"] spAgree) (GL : FnOk P w K mg base CX0 (k + 2) fL fdL ["dishes"] spPairs) (mlen : mg "len" = none) (mt : mg "tuple" = none) : FnOk P w K mg base CX0 (k + 3) f fd ["one", "other"] spDiffs := by
  refine F.ok scDiffs (fun vs H Q E h => ?_) (fun cdv A outer s H vs Q E hr h => ?_)
  · obtain ⟨a, b, n, ns, ms, rfl, _⟩ := h
    rfl
  · obtain ⟨a, b, n, ns, ms, rfl, ha, hb, hna, hnb, hn, q⟩ := h
    refine ⟨_, pss_one (ps_ret (pe_callTy call_tuple_of (by rfl) mt (by decide +kernel) (pa_cons
      (pe_lc (own := [("pair", 2)]) (g := gName 2) (by rfl) scDiffs.nd (pi_list (pe_call GL hr (by rfl) gL FL.kp bL .nil pass0 (pa_cons (pe_callB call_len_seq (by rfl) mlen PySem.boot_len (pa_cons (pv 0) pa_nil)) pa_nil)))
        (blkOk_by (own := [("pair", 2)]) (N := ["one", "other", "pair"]) (sc := defScope sDiffs) (by decide +kernel)) (fun _ _ _ _ _ => pg_name (i := 2) scDiffs.nd rfl (Or.inl rfl))
        (fun _ _ _ _ _ => pts_one (pt_not (pt_val (pe_call GA hr (by rfl) gA FA.kp bA .nil pass0 (pa_cons (pv 0) (pa_cons (pv 1) (pa_cons (pv 2) pa_nil)))))))
        (fun _ _ _ _ _ => pv 2)) pa_nil))), ?_⟩
    have el : (ns.map V.int).length = n := by
      rw [List.length_map]
      exact hna.len
    refine ⟨.ref a, rfl, a, _, rfl, .inr ha.sq, n, by rw [el]; rfl, hn, fun H1 l xs sm hl hl1 hp => ?_⟩
    refine ⟨l, rfl, ⟨_, sqL hl1⟩, fun D hD => lc_list (K := K) (a := l) (xs := xs) (fun i H2 => Same H1 H2 ∧ ∃ ys, H2 D = some (.lst ys) ∧ Prs H2 ys (((pairs n).take i).filter fun p => !agr ns ms p)) ⟨same_upd hD, [], upd_same, .nil⟩ (fun i H2 _ h => h.1.seq (sqL hl1)) (fun i x H2 hx h => ?_) (fun H2 h => ?_)⟩
    · obtain ⟨sm2, ys, hd2, hp2⟩ := h
      obtain ⟨r, u, v, rfl, hg, hr2⟩ := hp.get hx
      have hm : (u, v) ∈ pairs n := List.mem_of_getElem? hg
      obtain ⟨b0, b1, b2⟩ := mem_pairs hm
      dsimp only at b0 b1 b2
      have s12 : Same H H2 := sm.trans sm2
      refine ⟨rfl, .ref a, rfl, .ref b, rfl, .ref r, rfl, a, b, r, ns, ms, u, v, rfl, ha.same s12, hb.same s12, rdT_same hr2 sm2, hna.mem b0 (by omega), hna.mem (by omega) b2, hnb.mem b0 (by omega), hnb.mem (by omega) b2, _, rfl, ?_⟩
      have ft := filter_take (fun p => !agr ns ms p) hg
      cases e : agr ns ms (u, v) with
      | true =>
        refine iteF ?_
        refine ⟨sm2, ys, hd2, ?_⟩
        rw [ft]
        simp only [e, Bool.not_true, Bool.false_eq_true, if_false, List.append_nil]
        exact hp2
      | false =>
        refine iteT ?_
        refine ⟨.ref r, rfl, ys, hd2, ?_, same_upd2 sm2 hD, ys ++ [.ref r], upd_same, ?_⟩
        · have l1 := hp2.len
          have l2 := List.length_filter_le (fun p => !agr ns ms p) ((pairs n).take i)
          have l3 := pairs_len n
          rw [List.length_take] at l2
          have l4 : n * n ≤ 8 * 8 := Nat.mul_le_mul hn hn
          exact small1000 (by omega)
        · rw [ft]
          simp only [e, Bool.not_false, if_true]
          exact (hp2.upd_lst hd2).append (.cons (rdT_updl (rdT_same hr2 sm2) hd2) .nil)
    · obtain ⟨sm2, ys, hd2, hp2⟩ := h
      refine ⟨D, ys, rfl, .inl ⟨sqL hd2, fun t ht => q _ t ys ((sm.trans sm2).trans (same_upd ht)) ((sm.trans sm2).free ht) upd_same ?_⟩⟩
      have e : (pairs n).take xs.length = pairs n := List.take_of_length_le (by rw [hp.len]; exact Nat.le_refl _)
      rw [e] at hp2
      exact hp2.same (same_upd ht)
end
theorem diffs_len (n : Nat) (ns ms : List Int) (hn : n ≤ 8) : (diffs n ns ms).length ≤ 1000 := by
  have l2 : (diffs n ns ms).length ≤ (pairs n).length := List.length_filter_le _ _
  have l3 := pairs_len n
  have l4 : n * n ≤ 8 * 8 := Nat.mul_le_mul hn hn
  omega
end TR
namespace TR
open PySem PySem.Spec PyProof.Rows L2
theorem scDist : FnScope ["one", "other"] ["one", "other"] (defScope sDist) := ⟨rfl, rfl, rfl, by decide +kernel, rfl, by decide +kernel, by decide +kernel⟩
section
variable {P : Program} {w : World} {K : PySem.W.Frag} {mg : Str → Option Value} {base : Heap}
def spDist : Sp := fun vs H Q _ => ∃ (a b : Addr) (n : Nat) (ns ms : List Int), vs = [.ref a, .ref b] ∧ Tp H a ns ∧ Tp H b ms ∧ Rank n ns ∧ Rank n ms ∧ n ≤ 8 ∧
  ∀ H', Same H H' → Q (.int ((diffs n ns ms).length : Int)) H'
theorem ok_dist {f fD : Addr} {fd fdD : FuncData} {k : Nat} (F : Fun K "distance" "distance" sDist f fd) (FD : Fun K "differences" "differences" sDiffs fD fdD) (bD : Binds K fdD ["one", "other"] []) (gD : mg "differences" = some (.ref fD))
    (GD : FnOk P w K mg base CX0 (k + 3) fD fdD ["one", "other"] spDiffs) (mlen : mg "len" = none) : FnOk P w K mg base CX0 (k + 4) f fd ["one", "other"] spDist := by
  refine F.ok scDist (fun vs H Q E h => ?_) (fun cdv A outer s H vs Q E hr h => ?_)
  · obtain ⟨a, b, n, ns, ms, rfl, _⟩ := h
    rfl
  · obtain ⟨a, b, n, ns, ms, rfl, ha, hb, hna, hnb, hn, q⟩ := h
    refine ⟨_, pss_one (ps_ret (pe_callB call_len_seq (by rfl) mlen PySem.boot_len (pa_cons (pe_call GD hr (by rfl) gD FD.kp bD .nil pass0 (pa_cons (pv 0) (pa_cons (pv 1) pa_nil))) pa_nil))), ?_⟩
    refine ⟨.ref a, rfl, .ref b, rfl, a, b, n, ns, ms, rfl, ha, hb, hna, hnb, hn, fun H' t xs sm ht e hp => ⟨t, xs, rfl, .inr (sqT e), ?_⟩⟩
    rw [hp.len]
    exact q H' sm
end
end TR
namespace TR
open PySem PySem.Spec PyProof.Rows L2
theorem scList : FnScope ["_law_deck_here", "_law_dishes", "_law_left", "_law_found"] ["_law_deck_here", "_law_dishes"] (defScope sList) := ⟨rfl, rfl, rfl, by decide +kernel, rfl, by decide +kernel, by decide +kernel⟩
theorem keep_fresh {d p x : Addr} {H H1 : Hp} {o : HO} (a : Keep d p H H1) (h : H x = none) : Keep d p H (upd H1 x o) := fun c u e n m => by
  rw [upd_ne (ne_of_none e h)]
  exact a c u e n m
theorem Deck.upd {H : Hp} {d p q x : Addr} {n : Nat} {o : HO} (D : Deck H d p q n) (h1 : x ≠ d) (h2 : x ≠ p) (h3 : x ≠ q) : Deck (upd H x o) d p q n := by
  obtain ⟨m, ⟨xs, cs, c, e1, e2, e3, e4⟩, a, b, e⟩ := D
  exact ⟨m, ⟨xs, cs, c, by rw [upd_ne h1.symm]; exact e1, by rw [upd_ne h2.symm]; exact e2, by rw [upd_ne h3.symm]; exact e3, e4⟩, a, b, e⟩
theorem Deck.hq {H : Hp} {d p q : Addr} {n : Nat} (D : Deck H d p q n) : ∃ xs : List Int, H q = some (.lst (xs.map V.int)) := by
  obtain ⟨m, ⟨xs, cs, c, h1, h2, h3, _⟩, _⟩ := D
  exact ⟨_, h3⟩
theorem Deck.neq {H : Hp} {d p q : Addr} {n : Nat} (D : Deck H d p q n) {b : Addr} (h : H b = none) : b ≠ q := by
  obtain ⟨x, e⟩ := D.hq
  exact (ne_of_none e h).symm
theorem rgV_rng (n : Nat) : rgV 0 (n : Int) = (rng n).map V.int := by
  unfold rgV rng
  rw [List.map_map, show ((n : Int) - 0).toNat = n by omega]
  refine congrArg (fun g => (List.range n).map g) (funext fun i => ?_)
  show V.int (0 + (i : Int)) = V.int (i : Int)
  rw [Int.zero_add]
theorem erase_map {α β : Type} (f : α → β) : ∀ (l : List α) (j : Nat), (l.map f).eraseIdx j = (l.eraseIdx j).map f
  | [], _ => rfl
  | _ :: _, 0 => rfl
  | x :: r, j + 1 => by
    show f x :: (r.map f).eraseIdx j = f x :: (r.eraseIdx j).map f
    rw [erase_map f r j]
theorem seq_nat {j n : Nat} (h : j < n) : seqIndex? (j : Int) n = some j := by
  unfold seqIndex?
  rw [if_neg (show ¬ ((j : Int) < 0) by omega)]
  simp [h]
section
variable {P : Program} {w : World} {K : PySem.W.Frag} {mg : Str → Option Value} {base : Heap}
/-! ### _law_list -/
def spList : Sp := fun vs H Q _ => ∃ (d p q : Addr) (c n : Nat), vs = [.ref d, .int (n : Int)] ∧ Deck H d p q c ∧ c + n ≤ 1000000 ∧ n ≤ 8 ∧
  ∀ H' t ns, Rank n ns → Deck H' d p q (c + n) → Keep d p H H' → Tp H' t ns → Q (.ref t) H'
theorem ok_list {f fN : Addr} {fd fdN : FuncData} {k : Nat} (F : Fun K "_law_list" "_law_list" sList f fd) (FN : Fun K "_law_next" "_law_next" sNext fN fdN) (bN : Binds K fdN ["_law_deck_here", "_law_many"] []) (gN : mg "_law_next" = some (.ref fN))
    (GN : FnOk P w K mg base CX0 (k + 1) fN fdN ["_law_deck_here", "_law_many"] spNext) (mr : mg "range" = none) (ml : mg "list" = none) (mlen : mg "len" = none) (mt : mg "tuple" = none) : FnOk P w K mg base CX0 (k + 2) f fd ["_law_deck_here", "_law_dishes"] spList := by
  refine F.ok scList (fun vs H Q E h => ?_) (fun cdv A outer s H vs Q E hr h => ?_)
  · obtain ⟨d, p, q, c, n, rfl, _⟩ := h
    rfl
  · obtain ⟨d, p, q, c, n, rfl, D0, hc, hn, qq⟩ := h
    refine ⟨_, pss_cons (ps_par (i := 2) (j := 3) (by rfl) scList.nd rfl rfl (by decide) rfl rfl (pa_cons (pe_listRg (by rfl) (by rfl) ml (prg_1 (by rfl) mr (pv 1))) (pa_cons (pe_lst pa_nil) pa_nil)) (by rfl))
      (pss_cons (ps_while PassesOwn.never (pt_cmpR (op_neD hr.units) (pv 2) (pe_lst pa_nil) (nomark _))
        (pss_one (ps_expr (pe_bm PySem.F.plainAttrs_list PySem.F.slot_list_append PySem.F.type_list_append mt_append (pv 3) (pa_cons
          (pe_bm PySem.F.plainAttrs_list PySem.F.slot_list_pop PySem.F.type_list_pop mt_popAt (pv 2) (pa_cons
            (pe_call GN hr (by rfl) gN FN.kp bN .nil pass0 (pa_cons (pv 0) (pa_cons (pe_callB call_len_seq (by rfl) mlen PySem.boot_len (pa_cons (pv 2) pa_nil)) pa_nil))) pa_nil)) pa_nil)))))
      (pss_one (ps_ret (pe_callTy call_tupleF (by rfl) mt (by decide +kernel) (pa_cons (pv 3) pa_nil))))), ?_⟩
    refine ⟨.int (n : Int), rfl, n, rfl, RgOk.of_le (by omega) (by omega) (by omega) (by omega), fun l hl => ⟨Nat.zero_le _, fun g hg => ⟨.ref l, .ref g, rfl, ?_⟩⟩⟩
    rw [rgV_rng] at hg ⊢
    have hg0 : H g = none := (same_upd hl).free hg
    have nlg : l ≠ g := ne_of_none (upd_same (H := H)) hg
    refine ⟨fun m σ H1 => σ = [some (.ref d), some (.int (n : Int)), some (.ref l), some (.ref g)] ∧ ∃ left found : List Int, H1 l = some (.lst (left.map V.int)) ∧ H1 g = some (.lst (found.map V.int)) ∧ left.length = m ∧ m ≤ n ∧ (left ++ found).Perm (rng n) ∧ Deck H1 d p q (c + (n - m)) ∧ Keep d p H H1,
      ⟨n, rfl, rng n, [], ?_, upd_same, rng_len n, Nat.le_refl _, by rw [List.append_nil], ?_, ?_⟩, fun m σ H1 hW => ?_⟩
    · rw [upd_ne nlg, upd_same]
    · rw [Nat.sub_self]
      exact (D0.same (same_upd hl)).same (same_upd hg)
    · exact Same.keep ((same_upd hl).trans (same_upd hg))
    · obtain ⟨rfl, left, found, h1, h2, h3, h4, h5, D1, kp⟩ := hW
      refine ⟨.ref l, rfl, Nat.zero_le _, fun e he => ?_⟩
      have sE : Same H1 (upd H1 e (.lst [])) := same_upd he
      refine ⟨_, _, .lst (sqL (sE _ _ h1)) (dpAll_ints left), .lst (sqL upd_same) .nil, shaped_ints left, rfl, _, rfl, ?_⟩
      rw [eqv_nil]
      have kp1 : Keep d p H (upd H1 e (.lst [])) := kp.trans (Same.keep sE)
      have D2 := D1.same sE
      have h1' := sE _ _ h1
      have h2' := sE _ _ h2
      generalize upd H1 e (.lst []) = H2 at h1' h2' D2 kp1 ⊢
      cases left with
      | cons x r =>
        refine iteT ?_
        refine ⟨fun σ H' => σ = [some (.ref d), some (.int (n : Int)), some (.ref l), some (.ref g)] ∧ ∃ left found : List Int, H' l = some (.lst (left.map V.int)) ∧ H' g = some (.lst (found.map V.int)) ∧ left.length = r.length ∧ r.length ≤ n ∧ (left ++ found).Perm (rng n) ∧ Deck H' d p q (c + (n - r.length)) ∧ Keep d p H H',
          fun σ' H' hN => ⟨r.length, by rw [← h3]; exact Nat.lt_succ_self _, hN⟩, ?_⟩
        rw [List.length_cons] at h3
        refine ⟨.ref g, rfl, .inl ⟨rfl, _, sqL h2'⟩, .ref l, rfl, .inl ⟨rfl, _, sqL h1'⟩, .ref d, rfl, .ref l, rfl, l, _, rfl, .inl (sqL h1'), d, p, q, c + (n - m), _, rfl, D2, by omega, ?_, ?_, fun H3 z z0 z1 D3 kp3 => ?_⟩
        · rw [List.length_map, List.length_cons]
          omega
        · rw [List.length_map, List.length_cons]
          omega
        · rw [List.length_map] at z1
          have nld : l ≠ d := D0.ned hl
          have nlp : l ≠ p := D0.nep hl
          have nlq : l ≠ q := D0.neq hl
          have ngd : g ≠ d := D0.ned hg0
          have ngp : g ≠ p := D0.nep hg0
          have ngq : g ≠ q := D0.neq hg0
          have h1'' := kp3 _ _ h1' nld nlp
          have h2'' := kp3 _ _ h2' ngd ngp
          obtain ⟨j, rfl⟩ := Int.eq_ofNat_of_zero_le z0
          have hj : j < (x :: r).length := by omega
          have gj : (x :: r)[j]? = some (x :: r)[j] := List.getElem?_eq_getElem hj
          have hlen : (x :: r).length ≤ n := by
            rw [List.length_cons]
            omega
          refine ⟨l, _, (j : Int), j, .int (x :: r)[j], rfl, rfl, h1'', by omega, by omega, seq_nat (by rw [List.length_map]; exact hj), by rw [List.getElem?_map, gj]; rfl, ?_⟩
          have fl : found.length ≤ n := by
            have e := h5.length_eq
            rw [List.length_append, rng_len] at e
            omega
          refine ⟨g, _, _, rfl, rfl, by rw [upd_ne nlg.symm]; exact h2'', by rw [List.length_map]; exact small1000 (by omega), ?_⟩
          refine ⟨rfl, (x :: r).eraseIdx j, found ++ [(x :: r)[j]], ?_, ?_, ?_, by omega, ?_, ?_, ?_⟩
          · rw [upd_ne nlg, upd_same, erase_map]
          · rw [upd_same, List.map_append]
            rfl
          · rw [List.length_eraseIdx_of_lt hj]
            rfl
          · refine List.Perm.trans ?_ h5
            refine List.Perm.trans ?_ ((perm_erase gj).append_right found)
            refine List.Perm.trans (l₂ := (((x :: r).eraseIdx j) ++ ([(x :: r)[j]] ++ found))) (List.Perm.append_left _ List.perm_append_comm) ?_
            rw [← List.append_assoc]
            exact List.Perm.append_right _ (List.perm_append_comm)
          · refine Deck.mono ((D3.upd nld nlp nlq).upd ngd ngp ngq) ?_
            omega
          · exact keep_fresh (keep_fresh (kp1.trans kp3) hl) hg0
      | nil =>
        refine iteF ?_
        refine ⟨.ref g, rfl, g, _, rfl, sqL h2', fun t o ht ho => qq _ t found h5 ?_ ?_ (Tp.new ho)⟩
        · exact (D2.same (same_upd ht)).mono (by omega)
        · exact kp1.trans (Same.keep (same_upd ht))
end
end TR
namespace TR
open PySem PySem.Spec PyProof.Rows L2
theorem scExch : FnScope ["_law_row", "_law_k"] ["_law_row", "_law_k"] (defScope sExch) := ⟨rfl, rfl, rfl, by decide +kernel, rfl, by decide +kernel, by decide +kernel⟩
theorem cut_to {xs : List V} {k : Nat} (h : k ≤ xs.length) : cutV xs none (some (k : Int)) = xs.take k := by
  unfold cutV
  rw [HT.sIx_none, HT.sIx_nat, Nat.min_eq_left h]
  rfl
theorem cut_from {xs : List V} {k : Nat} : cutV xs (some (k : Int)) none = xs.drop k := by
  unfold cutV
  rw [HT.sIx_none, HT.sIx_nat]
  by_cases h : k ≤ xs.length
  · rw [Nat.min_eq_left h]
    exact List.take_of_length_le (by rw [List.length_drop]; exact Nat.le_refl _)
  · rw [Nat.min_eq_right (by omega), List.drop_of_length_le (Nat.le_refl _), List.drop_of_length_le (by omega), List.take_nil]
section
variable {P : Program} {w : World} {K : PySem.W.Frag} {mg : Str → Option Value} {base : Heap}
/-! ### _law_exchanged -/
def spExch : Sp := fun vs H Q _ => ∃ (a : Addr) (ns : List Int) (n k : Nat), vs = [.ref a, .int (k : Int)] ∧ Tp H a ns ∧ Rank n ns ∧ k + 1 < n ∧ n ≤ 8 ∧
  ∀ H' t, Same H H' → Rank n (swp ns k) → Tp H' t (swp ns k) → Q (.ref t) H'
theorem ok_exch {f : Addr} {fd : FuncData} {k : Nat} (F : Fun K "_law_exchanged" "_law_exchanged" sExch f fd) : FnOk P w K mg base CX0 (k + 1) f fd ["_law_row", "_law_k"] spExch := by
  refine F.ok scExch (fun vs H Q E h => ?_) (fun cdv A outer s H vs Q E hr h => ?_)
  · obtain ⟨a, ns, n, j, rfl, _⟩ := h
    rfl
  · obtain ⟨a, ns, n, j, rfl, ht, hrk, hj, hn, q⟩ := h
    refine ⟨_, pss_one (ps_ret (pe_op op_catF (pe_op op_catF (pe_slice sl_tupF (pv 0) po_none (po_some (pv 1))) (pe_tupF (pa_cons (pe_ix ix_tup (pv 0) (pe_op op_add (pv 1) pe_int) (fun _ _ => rfl)) (pa_cons (pe_ix ix_tup (pv 0) (pv 1) (fun _ _ => rfl)) pa_nil))))
      (pe_slice sl_tupF (pv 0) (po_some (pe_op op_add (pv 1) pe_int)) po_none))), ?_⟩
    have hl : ns.length = n := hrk.len
    have hlm : (ns.map V.int).length = n := by rw [List.length_map]; exact hl
    have j1 : j < ns.length := by omega
    have j2 : j + 1 < ns.length := by omega
    have gx : ns[j]? = some ns[j] := List.getElem?_eq_getElem j1
    have gy : ns[j + 1]? = some ns[j + 1] := List.getElem?_eq_getElem j2
    have vx : atI (ns.map V.int) (j : Int) = some (.int ns[j]) := atI_nat (by rw [List.getElem?_map, gx]; rfl)
    have vy : atI (ns.map V.int) ((j : Int) + 1) = some (.int ns[j + 1]) := by
      have e : ((j : Int) + 1) = ((j + 1 : Nat) : Int) := by omega
      rw [e]
      exact atI_nat (by rw [List.getElem?_map, gy]; rfl)
    refine ⟨.ref a, rfl, .int (j : Int), rfl, (j : Int), rfl, a, _, rfl, ht.sq, fun hw => ?_, fun _ p1 o1 hp1 ho1 => ?_⟩
    · have h2 := hw.2
      rw [HT.sIx_nat, hlm] at h2
      omega
    · rw [cut_to (by rw [hlm]; omega), ← List.map_take] at *
      have s1 : Same H (upd H p1 (.frz o1 (.tup ((ns.take j).map V.int)))) := same_upd hp1
      have t1 : Tp (upd H p1 (.frz o1 (.tup ((ns.take j).map V.int)))) p1 (ns.take j) := Tp.new ho1
      generalize upd H p1 (.frz o1 (.tup ((ns.take j).map V.int))) = H1 at s1 t1 ⊢
      have ht1 := ht.same s1
      refine ⟨.ref a, rfl, .int (j : Int), rfl, (j : Int), 1, rfl, rfl, a, _, _, _, rfl, rfl, ht1.sq, vy, .ref a, rfl, .int (j : Int), rfl, a, _, _, _, rfl, rfl, ht1.sq, vx, by show 2 ≤ sizeLine; decide, fun p2 o2 hp2 ho2 => ?_⟩
      have e2 : [V.int ns[j + 1], V.int ns[j]] = [ns[j + 1], ns[j]].map V.int := rfl
      rw [e2]
      have s2 : Same H1 (upd H1 p2 (.frz o2 (.tup ([ns[j + 1], ns[j]].map V.int)))) := same_upd hp2
      have t2 : Tp (upd H1 p2 (.frz o2 (.tup ([ns[j + 1], ns[j]].map V.int)))) p2 [ns[j + 1], ns[j]] := Tp.new ho2
      generalize upd H1 p2 (.frz o2 (.tup ([ns[j + 1], ns[j]].map V.int))) = H2 at s2 t2 ⊢
      have t12 := t1.same s2
      have s02 := s1.trans s2
      have hperm : Rank n (ns.take j ++ ([ns[j + 1], ns[j]] ++ ns.drop (j + 2))) := (perm_swap gx gy).trans hrk
      have esw : swp ns j = ns.take j ++ ([ns[j + 1], ns[j]] ++ ns.drop (j + 2)) := by
        unfold swp
        rw [getD_of j1, getD_of j2]
      have lt : (ns.take j).length = j := by
        rw [List.length_take]
        omega
      have ld : (ns.drop (j + 2)).length = n - (j + 2) := by rw [List.length_drop, hl]
      have step : ∀ (H3 : Hp) (t3 : Addr), Same H H3 → Tp H3 t3 (ns.take j ++ [ns[j + 1], ns[j]]) → tSl (rSlF K) (tVar 0) (tPart (tOp (rI0 fun i j => .int (i + j)) (tVar 1) (tC (.int 2)))) tNoPart [some (.ref a), some (.int (j : Int))] H3 (fun y H4 => rCatF K (.ref t3) y H4 Q) := by
        intro H3 t3 s3 tp3
        refine ⟨.ref a, rfl, .int (j : Int), rfl, (j : Int), 2, rfl, rfl, _, rfl, a, _, rfl, (ht.same s3).sq, fun hw => ?_, fun _ p4 o4 hp4 ho4 => ?_⟩
        · have h2 := hw.1
          rw [show ((j : Int) + 2) = ((j + 2 : Nat) : Int) by omega, HT.sIx_nat, hlm] at h2
          omega
        · rw [show ((j : Int) + 2) = ((j + 2 : Nat) : Int) by omega, cut_from, ← List.map_drop]
          have s4 : Same H3 (upd H3 p4 (.frz o4 (.tup ((ns.drop (j + 2)).map V.int)))) := same_upd hp4
          have t4 : Tp (upd H3 p4 (.frz o4 (.tup ((ns.drop (j + 2)).map V.int)))) p4 (ns.drop (j + 2)) := Tp.new ho4
          generalize upd H3 p4 (.frz o4 (.tup ((ns.drop (j + 2)).map V.int))) = H4 at s4 t4 ⊢
          have tp4 := tp3.same s4
          refine ⟨t3, p4, _, _, rfl, rfl, tp4.sq, t4.sq, ?_, fun z => ?_, fun _ z => ?_, fun _ _ p5 o5 hp5 ho5 => ?_⟩
          · rw [List.length_map, List.length_map, List.length_append, lt, ld]
            exact Nat.le_of_lt (small1000 (by show j + 2 + (n - (j + 2)) ≤ 1000; omega))
          · rw [List.map_append] at z
            exact absurd (List.append_eq_nil_iff.mp z).2 (by intro w; cases w)
          · have e0 : ns.drop (j + 2) = [] := List.map_eq_nil_iff.mp z
            rw [e0, List.append_nil] at hperm esw
            exact q H4 t3 (s3.trans s4) (esw ▸ hperm) (esw ▸ tp4)
          · rw [← List.map_append]
            rw [← List.append_assoc] at hperm esw
            exact q _ p5 ((s3.trans s4).trans (same_upd hp5)) (esw ▸ hperm) (esw ▸ Tp.new ho5)
      refine ⟨p1, p2, _, _, rfl, rfl, t12.sq, t2.sq, ?_, fun z => step H2 p2 s02 ?_, fun _ z => ?_, fun _ _ p3 o3 hp3 ho3 => ?_⟩
      · rw [List.length_map, List.length_map, lt]
        exact Nat.le_of_lt (small1000 (by show j + 2 ≤ 1000; omega))
      · have e0 : ns.take j = [] := List.map_eq_nil_iff.mp z
        rw [e0]
        exact t2
      · cases z
      · rw [← List.map_append]
        exact step _ p3 (s02.trans (same_upd hp3)) (Tp.new ho3)
end
end TR
namespace TR
open PySem PySem.Spec PyProof.Rows L2
theorem scLPairs : FnScope ["_law_dishes", "_law_found", "_law_a", "_law_b"] ["_law_dishes"] (defScope sLPairs) := ⟨rfl, rfl, rfl, by decide +kernel, rfl, by decide +kernel, by decide +kernel⟩
section
variable {P : Program} {w : World} {K : PySem.W.Frag} {mg : Str → Option Value} {base : Heap}
/-! ### _law_pairs -/
theorem ok_lpairs {f : Addr} {fd : FuncData} {k : Nat} (F : Fun K "_law_pairs" "_law_pairs" sLPairs f fd) (mr : mg "range" = none) : FnOk P w K mg base CX0 (k + 1) f fd ["_law_dishes"] spPairs := by
  refine F.ok scLPairs (fun vs H Q E h => ?_) (fun cdv A outer s H vs Q E hr h => ?_)
  · obtain ⟨n, rfl, _⟩ := h
    rfl
  · obtain ⟨n, rfl, hn, q⟩ := h
    refine ⟨_, pss_cons (ps_set (i := 1) scLPairs.nd rfl (.inl rfl) (pe_lst pa_nil))
      (pss_cons (ps_for PassesOwn.never rfl (pi_range1 (by rfl) mr (pa_cons (pv 0) pa_nil)) (pg_name (i := 2) scLPairs.nd rfl (.inr rfl))
        (pss_one (ps_expr (pe_bm PySem.F.plainAttrs_list PySem.F.slot_list_extend PySem.F.type_list_extend mt_extend (pv 1) (pa_cons
          (pe_lc (own := [("_law_b", 3)]) (g := gName 3) (tt := tYes) (by rfl) scLPairs.nd (pi_range2 (by rfl) mr (pa_cons (pe_op op_add (pv 2) pe_int) (pa_cons (pv 0) pa_nil)))
            (blkOk_by (own := [("_law_b", 3)]) (N := ["_law_dishes", "_law_found", "_law_a", "_law_b"]) (sc := defScope sLPairs) (by decide +kernel)) (fun _ _ _ _ _ => pg_name (i := 3) scLPairs.nd rfl (Or.inl rfl)) (fun _ _ _ _ _ => pts_nil)
            (fun _ _ _ _ _ => pe_tup (pa_cons (pv 2) (pa_cons (pv 3) pa_nil)))) pa_nil)))))
      (pss_one (ps_ret (pv 1)))), ?_⟩
    refine ⟨Nat.zero_le _, fun o ho => ⟨.int (n : Int), rfl, n, rfl, by omega, by omega, for_range (n := n) (lo := 0) (fun i σ H1 => (∃ y2 y3, σ = [some (.int (n : Int)), some (.ref o), y2, y3]) ∧ Same H H1 ∧ ∃ xs, H1 o = some (.lst xs) ∧ Prs H1 xs ((List.range i).flatMap (prow n))) ⟨⟨none, none, rfl⟩, same_upd ho, [], upd_same, .nil⟩ (fun i σ H1 hi h => ?_) (fun σ H1 h => ?_)⟩⟩
    · obtain ⟨⟨y2, y3, rfl⟩, sm, xs, hx, hp⟩ := h
      refine ⟨.ref o, rfl, .inl ⟨rfl, _, sqL hx⟩, .int (0 + (i : Int)), rfl, _, _, rfl, rfl, .int (n : Int), rfl, _, _, rfl, ⟨by omega, by omega, by omega, by omega⟩, fun D hD => ?_⟩
      have nDo : o ≠ D := ne_of_none hx hD
      refine walk_in (n := ((n : Int) - (0 + (i : Int) + 1)).toNat) (lo := 0 + (i : Int) + 1) (fun j H2 => Same H1 H2 ∧ ∃ ys, H2 D = some (.lst ys) ∧ Prs H2 ys ((List.range j).map fun t : Nat => ((i : Int), ((i : Int) + 1 + (t : Int))))) ⟨same_upd hD, [], upd_same, .nil⟩ (fun j H2 hj h => ?_) (fun H2 h => ?_)
      · obtain ⟨sm2, ys, hd2, hp2⟩ := h
        refine ⟨rfl, .int (0 + (i : Int)), rfl, .int (0 + (i : Int) + 1 + (j : Int)), rfl, by show 2 ≤ sizeLine; decide, fun t ht => ?_⟩
        have nDt : D ≠ t := ne_of_none hd2 ht
        have hl : ys.length < sizeLine := by
          have l1 := hp2.len
          rw [List.length_map, List.length_range] at l1
          exact small1000 (by omega)
        refine ⟨ys, by rw [upd_ne nDt]; exact hd2, hl, same_upd2 (same_upd2 sm2 (sm2.free ht)) hD, ys ++ [.ref t], upd_same, ?_⟩
        rw [map_succ]
        refine Prs.append ((hp2.same (same_upd ht)).upd_lst (by rw [upd_ne nDt]; exact hd2)) (.cons (.inl ?_) .nil)
        rw [upd_ne nDt.symm, upd_same]
        simp
      · obtain ⟨sm2, ys, hd2, hp2⟩ := h
        have hx2 := sm2 _ _ hx
        refine ⟨o, D, xs, ys, rfl, rfl, hx2, hd2, ?_, ⟨some (.int (0 + (i : Int))), _, rfl⟩, same_upd2 (sm.trans sm2) ho, xs ++ ys, upd_same, ?_⟩
        · have l1 := hp2.len
          have l2 := hp.len
          have l3 := flat_len n i
          rw [List.length_map, List.length_range] at l1
          have l4 : i * n ≤ 8 * 8 := Nat.mul_le_mul (by omega) hn
          exact Nat.le_of_lt (small1000 (by omega))
        · rw [flat_succ]
          refine ((hp.same sm2).upd_lst hx2).append ?_
          unfold prow
          rw [show n - (i + 1) = ((n : Int) - (0 + (i : Int) + 1)).toNat by omega]
          exact hp2.upd_lst hx2
    · obtain ⟨⟨y2, y3, rfl⟩, sm, xs, hx, hp⟩ := h
      exact ⟨.ref o, rfl, q H1 o xs sm ho hx hp⟩
end
end TR
namespace TR
open PySem PySem.Spec PyProof.Rows L2
theorem scUnlike : FnScope ["_law_one_here", "_law_other", "_law_found", "_law_a", "_law_b", "_law_first"] ["_law_one_here", "_law_other"] (defScope sUnlike) := ⟨rfl, rfl, rfl, by decide +kernel, rfl, by decide +kernel, by decide +kernel⟩
section
variable {P : Program} {w : World} {K : PySem.W.Frag} {mg : Str → Option Value} {base : Heap}
theorem pref_int (ns : List Int) (x y : Int) : decide (((ns.idxOf x : Nat) : Int) < ((ns.idxOf y : Nat) : Int)) = pref ns x y := by
  unfold pref
  by_cases h : ns.idxOf x < ns.idxOf y
  · rw [decide_eq_true h, decide_eq_true (by omega)]
  · rw [decide_eq_false h, decide_eq_false (by omega)]
/-! ### _law_unlike -/
def spUnlike : Sp := fun vs H Q _ => ∃ (a b : Addr) (n : Nat) (ns ms : List Int), vs = [.ref a, .ref b] ∧ Tp H a ns ∧ Tp H b ms ∧ Rank n ns ∧ Rank n ms ∧ n ≤ 8 ∧
  ∀ H' t xs, Same H H' → H t = none → H' t = some (.lst xs) → Prs H' xs (diffs n ns ms) → Q (.ref t) H'
theorem ok_unlike {f fL : Addr} {fd fdL : FuncData} {k : Nat} (F : Fun K "_law_unlike" "_law_unlike" sUnlike f fd) (FL : Fun K "_law_pairs" "_law_pairs" sLPairs fL fdL) (bL : Binds K fdL ["_law_dishes"] []) (gL : mg "_law_pairs" = some (.ref fL)) (GL : FnOk P w K mg base CX0 (k + 1) fL fdL ["_law_dishes"] spPairs)
    (mlen : mg "len" = none) : FnOk P w K mg base CX0 (k + 2) f fd ["_law_one_here", "_law_other"] spUnlike := by
  refine F.ok scUnlike (fun vs H Q E h => ?_) (fun cdv A outer s H vs Q E hr h => ?_)
  · obtain ⟨a, b, n, ns, ms, rfl, _⟩ := h
    rfl
  · obtain ⟨a, b, n, ns, ms, rfl, ha, hb, hna, hnb, hn, q⟩ := h
    refine ⟨_, pss_cons (ps_set (i := 2) scUnlike.nd rfl (.inl rfl) (pe_lst pa_nil))
      (pss_cons (ps_for PassesOwn.never rfl (pi_list (pe_call GL hr (by rfl) gL FL.kp bL .nil pass0 (pa_cons (pe_callB call_len_seq (by rfl) mlen PySem.boot_len (pa_cons (pv 0) pa_nil)) pa_nil)))
          (pg_tup (by rfl) (pgs_cons (pg_name (i := 3) scUnlike.nd rfl (.inl rfl)) (pgs_cons (pg_name (i := 4) scUnlike.nd rfl (.inl rfl)) pgs_nil)))
        (pss_cons (ps_set (i := 5) scUnlike.nd rfl (.inl rfl) (pe_cmpR op_lt (pe_bmT PySem.F.slot_tuple_index PySem.F.type_tuple_index mt_tupIdx (pv 0) (pa_cons (pv 3) pa_nil)) (pe_bmT PySem.F.slot_tuple_index PySem.F.type_tuple_index mt_tupIdx (pv 0) (pa_cons (pv 4) pa_nil)) (nomark _)))
        (pss_one (ps_if (pt_cmpR op_ne (pv 5) (pe_cmpR op_lt (pe_bmT PySem.F.slot_tuple_index PySem.F.type_tuple_index mt_tupIdx (pv 1) (pa_cons (pv 3) pa_nil)) (pe_bmT PySem.F.slot_tuple_index PySem.F.type_tuple_index mt_tupIdx (pv 1) (pa_cons (pv 4) pa_nil)) (nomark _)) (nomark _))
          (pss_one (ps_expr (pe_bm PySem.F.plainAttrs_list PySem.F.slot_list_append PySem.F.type_list_append mt_append (pv 2) (pa_cons (pe_tup (pa_cons (pv 3) (pa_cons (pv 4) pa_nil))) pa_nil)))) pss_nil))))
      (pss_one (ps_ret (pv 2)))), ?_⟩
    have el : (ns.map V.int).length = n := by
      rw [List.length_map]
      exact hna.len
    refine ⟨Nat.zero_le _, fun o ho => ?_⟩
    have s1 : Same H (upd H o (.lst [])) := same_upd ho
    have ho1 : upd H o (.lst []) o = some (.lst []) := upd_same
    generalize upd H o (.lst []) = H1 at s1 ho1 ⊢
    refine ⟨.ref a, rfl, a, _, rfl, .inr (ha.same s1).sq, n, by rw [el]; rfl, hn, fun H2 l xs sm hl hl2 hp => ?_⟩
    refine ⟨l, rfl, ⟨_, sqL hl2⟩, for_list (K := K) (a := l) (xs := xs) (fun i σ H3 => (∃ y3 y4 y5, σ = [some (.ref a), some (.ref b), some (.ref o), y3, y4, y5]) ∧ Same H H3 ∧ H3 l = some (.lst xs) ∧ Prs H3 xs (pairs n) ∧ ∃ ys, H3 o = some (.lst ys) ∧ Prs H3 ys (((pairs n).take i).filter fun p => !agr ns ms p)) ⟨⟨none, none, none, rfl⟩, s1.trans sm, hl2, hp, [], sm _ _ ho1, .nil⟩
      (fun i σ H3 _ h => sqL h.2.2.1) (fun i x σ H3 hx h => ?_) (fun σ H3 h => ?_)⟩
    · obtain ⟨⟨y3, y4, y5, rfl⟩, s3, hl3, hp3, ys, ho3, hq3⟩ := h
      obtain ⟨r, u, v, rfl, hg, hr2⟩ := hp3.get hx
      have hm : (u, v) ∈ pairs n := List.mem_of_getElem? hg
      obtain ⟨b0, b1, b2⟩ := mem_pairs hm
      dsimp only at b0 b1 b2
      have x1 := hna.mem b0 (show u < (n : Int) by omega)
      have y1 := hna.mem (show 0 ≤ v by omega) b2
      have x2 := hnb.mem b0 (show u < (n : Int) by omega)
      have y2 := hnb.mem (show 0 ≤ v by omega) b2
      have ha3 := ha.same s3
      have hb3 := hb.same s3
      obtain ⟨oa, da, ea⟩ := id ha3
      obtain ⟨ob, db, eb⟩ := id hb3
      refine ⟨r, _, rfl, (.inl hr2), rfl, .int u, _, rfl, .int v, _, rfl, rfl, ?_⟩
      refine ⟨.ref a, rfl, ⟨a, oa, _, rfl, da, ea⟩, .int u, rfl, a, ns, u, ns.idxOf u, rfl, rfl, ha3.sq, at_idx x1, fun m hm => idx_first hm,
        .ref a, rfl, ⟨a, oa, _, rfl, da, ea⟩, .int v, rfl, a, ns, v, ns.idxOf v, rfl, rfl, ha3.sq, at_idx y1, fun m hm => idx_first hm, _, _, rfl, rfl, ?_⟩
      refine ⟨_, rfl, .ref b, rfl, ⟨b, ob, _, rfl, db, eb⟩, .int u, rfl, b, ms, u, ms.idxOf u, rfl, rfl, hb3.sq, at_idx x2, fun m hm => idx_first hm,
        .ref b, rfl, ⟨b, ob, _, rfl, db, eb⟩, .int v, rfl, b, ms, v, ms.idxOf v, rfl, rfl, hb3.sq, at_idx y2, fun m hm => idx_first hm, _, _, rfl, rfl, rfl, _, rfl, ?_⟩
      have ft := filter_take (fun p => !agr ns ms p) hg
      have ec : (!decide (V.bl (decide (((ns.idxOf u : Nat) : Int) < ((ns.idxOf v : Nat) : Int))) = V.bl (decide (((ms.idxOf u : Nat) : Int) < ((ms.idxOf v : Nat) : Int))))) = !agr ns ms (u, v) := by
        rw [pref_int, pref_int]
        unfold agr
        show _ = !(pref ns u v == pref ms u v)
        cases pref ns u v <;> cases pref ms u v <;> rfl
      show if (!decide (V.bl (decide (((ns.idxOf u : Nat) : Int) < ((ns.idxOf v : Nat) : Int))) = V.bl (decide (((ms.idxOf u : Nat) : Int) < ((ms.idxOf v : Nat) : Int))))) = true then _ else _
      rw [ec]
      cases e : agr ns ms (u, v) with
      | true =>
        refine iteF ?_
        refine ⟨⟨_, _, _, rfl⟩, s3, hl3, hp3, ys, ho3, ?_⟩
        rw [ft]
        simp only [e, Bool.not_true, Bool.false_eq_true, if_false, List.append_nil]
        exact hq3
      | false =>
        refine iteT ?_
        refine ⟨.ref o, rfl, .inl ⟨rfl, _, sqL ho3⟩, .int u, rfl, .int v, rfl, by show 2 ≤ sizeLine; decide, fun t ht => ?_⟩
        have not_ : o ≠ t := ne_of_none ho3 ht
        have nlo : l ≠ o := fun z => by
          rw [z] at hl
          rw [hl] at ho1
          cases ho1
        have ho4 : upd H3 t (.tup [.int u, .int v]) o = some (.lst ys) := by
          rw [upd_ne not_]
          exact ho3
        refine ⟨o, ys, _, rfl, rfl, ho4, ?_, ⟨_, _, _, rfl⟩, ?_, ?_, ?_, ys ++ [.ref t], upd_same, ?_⟩
        · have l1 := hq3.len
          have l2 := List.length_filter_le (fun p => !agr ns ms p) ((pairs n).take i)
          have l3 := pairs_len n
          rw [List.length_take] at l2
          have l4 : n * n ≤ 8 * 8 := Nat.mul_le_mul hn hn
          exact small1000 (by omega)
        · exact same_upd2 (s3.trans (same_upd ht)) ho
        · rw [upd_ne nlo]
          exact (same_upd ht) _ _ hl3
        · exact (hp3.same (same_upd ht)).upd_lst ho4
        · rw [ft]
          simp only [e, Bool.not_false, if_true]
          refine ((hq3.same (same_upd ht)).upd_lst ho4).append (.cons (.inl ?_) .nil)
          rw [upd_ne not_.symm, upd_same]
    · obtain ⟨⟨y3, y4, y5, rfl⟩, s3, hl3, hp3, ys, ho3, hq3⟩ := h
      have e : (pairs n).take xs.length = pairs n := List.take_of_length_le (by rw [hp.len]; exact Nat.le_refl _)
      rw [e] at hq3
      exact ⟨.ref o, rfl, q H3 o ys s3 ho ho3 hq3⟩
end
end TR
namespace TR
open PySem PySem.Spec PyProof.Rows L2
theorem scOne : FnScope ["_law_deck_here", "_law_some"] ["_law_deck_here", "_law_some"] (defScope sOne) := ⟨rfl, rfl, rfl, by decide +kernel, rfl, by decide +kernel, by decide +kernel⟩
section
variable {P : Program} {w : World} {K : PySem.W.Frag} {mg : Str → Option Value} {base : Heap}
def spOne : Sp := fun vs H Q _ => ∃ (d p q l : Addr) (c : Nat) (xs : List V), vs = [.ref d, .ref l] ∧ Deck H d p q c ∧ c ≤ 1000000 ∧ H l = some (.lst xs) ∧ l ≠ d ∧ l ≠ p ∧ xs ≠ [] ∧ xs.length < 1000000 ∧
  ∀ H' x, x ∈ xs → Deck H' d p q (c + 1) → Keep d p H H' → Q x H'
theorem ok_one {f fN : Addr} {fd fdN : FuncData} {k : Nat} (F : Fun K "_law_one" "_law_one" sOne f fd) (kN : PySem.W.keepIn K (.ref fN) = true) (bN : Binds K fdN ["_law_deck_here", "_law_many"] []) (gN : mg "_law_next" = some (.ref fN))
    (GN : FnOk P w K mg base CX0 (k + 1) fN fdN ["_law_deck_here", "_law_many"] spNext) (mlen : mg "len" = none) : FnOk P w K mg base CX0 (k + 2) f fd ["_law_deck_here", "_law_some"] spOne := by
  refine F.ok scOne (fun vs H Q E h => ?_) (fun cdv A outer s H vs Q E hr h => ?_)
  · obtain ⟨d, p, q, l, c, xs, rfl, _⟩ := h
    rfl
  · obtain ⟨d, p, q, l, c, xs, rfl, D0, hc, hl, nld, nlp, hne, hlen, qq⟩ := h
    refine ⟨_, pss_one (ps_ret (pe_ix ix_list (pv 1) (pe_call GN hr (by rfl) gN kN bN .nil pass0 (pa_cons (pv 0) (pa_cons (pe_callB call_len_seq (by rfl) mlen PySem.boot_len (pa_cons (pv 1) pa_nil)) pa_nil))) (fun _ _ => rfl))), ?_⟩
    have h0 : 0 < xs.length := List.length_pos_iff.mpr hne
    refine ⟨.ref l, rfl, .ref d, rfl, .ref l, rfl, l, xs, rfl, .inl (sqL hl), d, p, q, c, _, rfl, D0, hc, by omega, by omega, fun H1 r r0 r1 D1 k1 => ?_⟩
    obtain ⟨j, rfl⟩ := Int.eq_ofNat_of_zero_le r0
    have hj : j < xs.length := by omega
    exact ⟨l, xs, _, xs[j], rfl, rfl, sqL (k1 _ _ hl nld nlp), atI_nat (List.getElem?_eq_getElem hj), qq H1 _ (List.getElem_mem hj) D1 k1⟩
end
end TR
namespace TR
open PySem PySem.Spec PyProof.Rows L2
section
variable {P : Program} {w : World} {K : PySem.W.Frag} {mg : Str → Option Value} {base : Heap}
def spLaw (K : PySem.W.Frag) : Sp := fun vs H Q _ => ∃ (a : Addr) (ns : List Int), vs = [.ref a] ∧ SqL K H a (ns.map V.int) ∧ ns.length ≤ 63 ∧ ∀ H', Q (.bl true) H'
end
end TR
namespace TR
open PySem PySem.Spec PyProof.Rows L2
theorem scSwap : FnScope ["ranking", "at"] ["ranking", "at"] (defScope sSwap) := ⟨rfl, rfl, rfl, by decide +kernel, rfl, by decide +kernel, by decide +kernel⟩
section
variable {P : Program} {w : World} {K : PySem.W.Frag} {mg : Str → Option Value} {base : Heap}
/-! ### swap -/
theorem ok_swap {f : Addr} {fd : FuncData} {k : Nat} (F : Fun K "swap" "swap" sSwap f fd) : FnOk P w K mg base CX0 (k + 1) f fd ["ranking", "at"] spExch := by
  refine F.ok scSwap (fun vs H Q E h => ?_) (fun cdv A outer s H vs Q E hr h => ?_)
  · obtain ⟨a, ns, n, j, rfl, _⟩ := h
    rfl
  · obtain ⟨a, ns, n, j, rfl, ht, hrk, hj, hn, q⟩ := h
    refine ⟨_, pss_one (ps_ret (pe_op op_catF (pe_op op_catF (pe_slice sl_tupF (pv 0) po_none (po_some (pv 1))) (pe_tupF (pa_cons (pe_ix ix_tup (pv 0) (pe_op op_add (pv 1) pe_int) (fun _ _ => rfl)) (pa_cons (pe_ix ix_tup (pv 0) (pv 1) (fun _ _ => rfl)) pa_nil))))
      (pe_slice sl_tupF (pv 0) (po_some (pe_op op_add (pv 1) pe_int)) po_none))), ?_⟩
    have hl : ns.length = n := hrk.len
    have hlm : (ns.map V.int).length = n := by rw [List.length_map]; exact hl
    have j1 : j < ns.length := by omega
    have j2 : j + 1 < ns.length := by omega
    have gx : ns[j]? = some ns[j] := List.getElem?_eq_getElem j1
    have gy : ns[j + 1]? = some ns[j + 1] := List.getElem?_eq_getElem j2
    have vx : atI (ns.map V.int) (j : Int) = some (.int ns[j]) := atI_nat (by rw [List.getElem?_map, gx]; rfl)
    have vy : atI (ns.map V.int) ((j : Int) + 1) = some (.int ns[j + 1]) := by
      have e : ((j : Int) + 1) = ((j + 1 : Nat) : Int) := by omega
      rw [e]
      exact atI_nat (by rw [List.getElem?_map, gy]; rfl)
    refine ⟨.ref a, rfl, .int (j : Int), rfl, (j : Int), rfl, a, _, rfl, ht.sq, fun hw => ?_, fun _ p1 o1 hp1 ho1 => ?_⟩
    · have h2 := hw.2
      rw [HT.sIx_nat, hlm] at h2
      omega
    · rw [cut_to (by rw [hlm]; omega), ← List.map_take] at *
      have s1 : Same H (upd H p1 (.frz o1 (.tup ((ns.take j).map V.int)))) := same_upd hp1
      have t1 : Tp (upd H p1 (.frz o1 (.tup ((ns.take j).map V.int)))) p1 (ns.take j) := Tp.new ho1
      generalize upd H p1 (.frz o1 (.tup ((ns.take j).map V.int))) = H1 at s1 t1 ⊢
      have ht1 := ht.same s1
      refine ⟨.ref a, rfl, .int (j : Int), rfl, (j : Int), 1, rfl, rfl, a, _, _, _, rfl, rfl, ht1.sq, vy, .ref a, rfl, .int (j : Int), rfl, a, _, _, _, rfl, rfl, ht1.sq, vx, by show 2 ≤ sizeLine; decide, fun p2 o2 hp2 ho2 => ?_⟩
      have e2 : [V.int ns[j + 1], V.int ns[j]] = [ns[j + 1], ns[j]].map V.int := rfl
      rw [e2]
      have s2 : Same H1 (upd H1 p2 (.frz o2 (.tup ([ns[j + 1], ns[j]].map V.int)))) := same_upd hp2
      have t2 : Tp (upd H1 p2 (.frz o2 (.tup ([ns[j + 1], ns[j]].map V.int)))) p2 [ns[j + 1], ns[j]] := Tp.new ho2
      generalize upd H1 p2 (.frz o2 (.tup ([ns[j + 1], ns[j]].map V.int))) = H2 at s2 t2 ⊢
      have t12 := t1.same s2
      have s02 := s1.trans s2
      have hperm : Rank n (ns.take j ++ ([ns[j + 1], ns[j]] ++ ns.drop (j + 2))) := (perm_swap gx gy).trans hrk
      have esw : swp ns j = ns.take j ++ ([ns[j + 1], ns[j]] ++ ns.drop (j + 2)) := by
        unfold swp
        rw [getD_of j1, getD_of j2]
      have lt : (ns.take j).length = j := by
        rw [List.length_take]
        omega
      have ld : (ns.drop (j + 2)).length = n - (j + 2) := by rw [List.length_drop, hl]
      have step : ∀ (H3 : Hp) (t3 : Addr), Same H H3 → Tp H3 t3 (ns.take j ++ [ns[j + 1], ns[j]]) → tSl (rSlF K) (tVar 0) (tPart (tOp (rI0 fun i j => .int (i + j)) (tVar 1) (tC (.int 2)))) tNoPart [some (.ref a), some (.int (j : Int))] H3 (fun y H4 => rCatF K (.ref t3) y H4 Q) := by
        intro H3 t3 s3 tp3
        refine ⟨.ref a, rfl, .int (j : Int), rfl, (j : Int), 2, rfl, rfl, _, rfl, a, _, rfl, (ht.same s3).sq, fun hw => ?_, fun _ p4 o4 hp4 ho4 => ?_⟩
        · have h2 := hw.1
          rw [show ((j : Int) + 2) = ((j + 2 : Nat) : Int) by omega, HT.sIx_nat, hlm] at h2
          omega
        · rw [show ((j : Int) + 2) = ((j + 2 : Nat) : Int) by omega, cut_from, ← List.map_drop]
          have s4 : Same H3 (upd H3 p4 (.frz o4 (.tup ((ns.drop (j + 2)).map V.int)))) := same_upd hp4
          have t4 : Tp (upd H3 p4 (.frz o4 (.tup ((ns.drop (j + 2)).map V.int)))) p4 (ns.drop (j + 2)) := Tp.new ho4
          generalize upd H3 p4 (.frz o4 (.tup ((ns.drop (j + 2)).map V.int))) = H4 at s4 t4 ⊢
          have tp4 := tp3.same s4
          refine ⟨t3, p4, _, _, rfl, rfl, tp4.sq, t4.sq, ?_, fun z => ?_, fun _ z => ?_, fun _ _ p5 o5 hp5 ho5 => ?_⟩
          · rw [List.length_map, List.length_map, List.length_append, lt, ld]
            exact Nat.le_of_lt (small1000 (by show j + 2 + (n - (j + 2)) ≤ 1000; omega))
          · rw [List.map_append] at z
            exact absurd (List.append_eq_nil_iff.mp z).2 (by intro w; cases w)
          · have e0 : ns.drop (j + 2) = [] := List.map_eq_nil_iff.mp z
            rw [e0, List.append_nil] at hperm esw
            exact q H4 t3 (s3.trans s4) (esw ▸ hperm) (esw ▸ tp4)
          · rw [← List.map_append]
            rw [← List.append_assoc] at hperm esw
            exact q _ p5 ((s3.trans s4).trans (same_upd hp5)) (esw ▸ hperm) (esw ▸ Tp.new ho5)
      refine ⟨p1, p2, _, _, rfl, rfl, t12.sq, t2.sq, ?_, fun z => step H2 p2 s02 ?_, fun _ z => ?_, fun _ _ p3 o3 hp3 ho3 => ?_⟩
      · rw [List.length_map, List.length_map, lt]
        exact Nat.le_of_lt (small1000 (by show j + 2 ≤ 1000; omega))
      · have e0 : ns.take j = [] := List.map_eq_nil_iff.mp z
        rw [e0]
        exact t2
      · cases z
      · rw [← List.map_append]
        exact step _ p3 (s02.trans (same_upd hp3)) (Tp.new ho3)
end
end TR
namespace TR
open PySem PySem.Spec PyProof.Rows L2
theorem scWrong : FnScope ["ranking", "other", "at"] ["ranking", "other"] (defScope sWrong) := ⟨rfl, rfl, rfl, by decide +kernel, rfl, by decide +kernel, by decide +kernel⟩
section
variable {P : Program} {w : World} {K : PySem.W.Frag} {mg : Str → Option Value} {base : Heap}
/-! ### wrong places -/
def spWrong : Sp := fun vs H Q _ => ∃ (a b : Addr) (n : Nat) (ns ms : List Int), vs = [.ref a, .ref b] ∧ Tp H a ns ∧ Tp H b ms ∧ Rank n ns ∧ Rank n ms ∧ 1 ≤ n ∧ n ≤ 8 ∧
  ∀ H' l, Same H H' → H l = none → H' l = some (.lst ((wrongs ns ms).map V.int)) → Q (.ref l) H'
theorem wrong_turn {ns ms : List Int} (i : Nat) : ((List.range (i + 1)).filter fun k => pref ms (ns.getD (k + 1) 0) (ns.getD k 0)) = ((List.range i).filter fun k => pref ms (ns.getD (k + 1) 0) (ns.getD k 0)) ++ (if pref ms (ns.getD (i + 1) 0) (ns.getD i 0) = true then [i] else []) := by
  rw [List.range_succ, List.filter_append]
  congr 1
  cases e : pref ms (ns.getD (i + 1) 0) (ns.getD i 0) with
  | true => rw [if_pos rfl]; exact List.filter_cons_of_pos (p := fun k => pref ms (ns.getD (k + 1) 0) (ns.getD k 0)) e
  | false => rw [if_neg Bool.false_ne_true]; exact List.filter_cons_of_neg (p := fun k => pref ms (ns.getD (k + 1) 0) (ns.getD k 0)) (by rw [e]; exact Bool.false_ne_true)
theorem ok_Wrong {f f_prefers : Addr} {fd d_prefers : FuncData} {m : Nat} (F : Fun K "wrong_places" "wrong_places" sWrong f fd)
    (k_prefers : PySem.W.keepIn K (.ref f_prefers) = true) (b_prefers : Binds K d_prefers ["ranking", "one", "other"] []) (g_prefers : mg "prefers" = some (.ref f_prefers)) (G_prefers : FnOk P w K mg base CX0 m f_prefers d_prefers ["ranking", "one", "other"] spPref)
    (m_range : mg "range" = none) (m_len : mg "len" = none) : FnOk P w K mg base CX0 (m + 1) f fd ["ranking", "other"] spWrong := by
  refine F.ok scWrong (fun vs H Q E h => ?_) (fun cdv A outer s H vs Q E hr h => ?_)
  · obtain ⟨a, b, n, ns, ms, rfl, _⟩ := h
    rfl
  · obtain ⟨a, b, n, ns, ms, rfl, ha, hb, hna, hnb, hn1, hn, q⟩ := h
    refine ⟨_, 
      (pss_one (ps_ret (pe_lc (own := [("at", 2)]) (g := gName 2)  (by rfl) scWrong.nd (pi_range1 (by rfl) m_range (pa_cons (pe_op op_sub (pe_callB call_len_seq (by rfl) m_len PySem.boot_len (pa_cons (pv 0) pa_nil)) pe_int) pa_nil)) (blkOk_by (own := [("at", 2)]) (N := ["ranking", "other", "at"]) (sc := defScope sWrong) (by decide +kernel)) (fun _ _ _ _ _ => (pg_name (i := 2) scWrong.nd rfl (Or.inl rfl))) (fun _ _ _ _ _ => (pts_one (pt_val (pe_call G_prefers hr (by rfl) g_prefers k_prefers b_prefers .nil pass0 (pa_cons (pv 1) (pa_cons (pe_ix (r := rIxT K) ix_tup (pv 0) (pe_op op_add (pv 2) pe_int) (fun _ _ => rfl)) (pa_cons (pe_ix (r := rIxT K) ix_tup (pv 0) (pv 2) (fun _ _ => rfl)) pa_nil))))))) (fun _ _ _ _ _ => (pv 2))))), ?_⟩
    have el : (ns.map V.int).length = n := by
      rw [List.length_map]
      exact hna.len
    have ln := hna.len
    refine ⟨.ref a, rfl, a, _, rfl, .inr ha.sq, _, _, rfl, rfl, _, rfl, by omega, by omega, fun D hD => ?_⟩
    refine walk_in (n := (((ns.map V.int).length : Int) - 1).toNat) (lo := 0) (fun i H1 => Same H H1 ∧ H1 D = some (.lst ((((List.range i).filter fun k => pref ms (ns.getD (k + 1) 0) (ns.getD k 0)).map fun k : Nat => (k : Int)).map V.int))) ⟨same_upd hD, upd_same⟩ (fun i H1 hi h => ?_) (fun H1 h => ?_)
    · obtain ⟨s1, e1⟩ := h
      have hi2 : i + 1 < n := by omega
      have v1 : atI (ns.map V.int) (0 + (i : Int) + 1) = some (.int (ns.getD (i + 1) 0)) := by
        rw [show (0 + (i : Int) + 1) = ((i + 1 : Nat) : Int) by omega, getD_of (by omega)]
        exact atI_nat (by rw [List.getElem?_map, List.getElem?_eq_getElem (by omega)]; rfl)
      have v0 : atI (ns.map V.int) (0 + (i : Int)) = some (.int (ns.getD i 0)) := by
        rw [show (0 + (i : Int)) = (i : Int) by omega, getD_of (by omega)]
        exact atI_nat (by rw [List.getElem?_map, List.getElem?_eq_getElem (by omega)]; rfl)
      have mM : ∀ k, k < n → ns.getD k 0 ∈ ms := fun k hk => by
        rw [getD_of (by omega)]
        have bd := hna.bnd (List.getElem_mem (show k < ns.length by omega))
        exact hnb.mem bd.1 bd.2
      refine ⟨rfl, .ref b, rfl, .ref a, rfl, .int (0 + (i : Int)), rfl, _, 1, rfl, rfl, a, _, _, _, rfl, rfl, (ha.same s1).sq, v1, .ref a, rfl, .int (0 + (i : Int)), rfl, a, _, _, _, rfl, rfl, (ha.same s1).sq, v0, b, ms, _, _, rfl, hb.same s1, mM _ hi2, mM _ (by omega), _, rfl, ?_⟩
      cases e : pref ms (ns.getD (i + 1) 0) (ns.getD i 0) with
      | true =>
        refine iteT ⟨.int (0 + (i : Int)), rfl, _, e1, ?_, same_upd2 s1 hD, ?_⟩
        · rw [List.length_map, List.length_map]
          have := List.length_filter_le (fun k => pref ms (ns.getD (k + 1) 0) (ns.getD k 0)) (List.range i)
          rw [List.length_range] at this
          exact small1000 (by omega)
        · rw [upd_same, wrong_turn, if_pos e, List.map_append, List.map_append, show (0 + (i : Int)) = (i : Int) by omega]
          rfl
      | false =>
        refine iteF ⟨s1, ?_⟩
        rw [wrong_turn, if_neg (by rw [e]; exact Bool.false_ne_true), List.append_nil]
        exact e1
    · obtain ⟨s1, e1⟩ := h
      refine q H1 D s1 hD ?_
      rw [e1, show (((ns.map V.int).length : Int) - 1).toNat = ns.length - 1 by rw [List.length_map]; omega]
      rfl
end
end TR
namespace TR
open PySem PySem.Spec PyProof.Rows L2
theorem scUseful : FnScope ["_law_row", "_law_target", "_law_k"] ["_law_row", "_law_target"] (defScope sUseful) := ⟨rfl, rfl, rfl, by decide +kernel, rfl, by decide +kernel, by decide +kernel⟩
section
variable {P : Program} {w : World} {K : PySem.W.Frag} {mg : Str → Option Value} {base : Heap}
theorem ok_Useful {f  : Addr} {fd  : FuncData} {m : Nat} (F : Fun K "_law_useful" "_law_useful" sUseful f fd)
    (m_range : mg "range" = none) (m_len : mg "len" = none) : FnOk P w K mg base CX0 (m + 1) f fd ["_law_row", "_law_target"] spWrong := by
  refine F.ok scUseful (fun vs H Q E h => ?_) (fun cdv A outer s H vs Q E hr h => ?_)
  · obtain ⟨a, b, n, ns, ms, rfl, _⟩ := h
    rfl
  · obtain ⟨a, b, n, ns, ms, rfl, ha, hb, hna, hnb, hn1, hn, q⟩ := h
    refine ⟨_, 
      (pss_one (ps_ret (pe_lc (own := [("_law_k", 2)]) (g := gName 2)  (by rfl) scUseful.nd (pi_range1 (by rfl) m_range (pa_cons (pe_op op_sub (pe_callB call_len_seq (by rfl) m_len PySem.boot_len (pa_cons (pv 0) pa_nil)) pe_int) pa_nil)) (blkOk_by (own := [("_law_k", 2)]) (N := ["_law_row", "_law_target", "_law_k"]) (sc := defScope sUseful) (by decide +kernel)) (fun _ _ _ _ _ => (pg_name (i := 2) scUseful.nd rfl (Or.inl rfl))) (fun _ _ _ _ _ => (pts_one (pt_cmpR op_lt (pe_bmT (r := rTupIdx K) PySem.F.slot_tuple_index PySem.F.type_tuple_index mt_tupIdx (pv 1) (pa_cons (pe_ix (r := rIxT K) ix_tup (pv 0) (pe_op op_add (pv 2) pe_int) (fun _ _ => rfl)) pa_nil)) (pe_bmT (r := rTupIdx K) PySem.F.slot_tuple_index PySem.F.type_tuple_index mt_tupIdx (pv 1) (pa_cons (pe_ix (r := rIxT K) ix_tup (pv 0) (pv 2) (fun _ _ => rfl)) pa_nil)) (nomark _)))) (fun _ _ _ _ _ => (pv 2))))), ?_⟩
    have el : (ns.map V.int).length = n := by
      rw [List.length_map]
      exact hna.len
    have ln := hna.len
    refine ⟨.ref a, rfl, a, _, rfl, .inr ha.sq, _, _, rfl, rfl, _, rfl, by omega, by omega, fun D hD => ?_⟩
    refine walk_in (n := (((ns.map V.int).length : Int) - 1).toNat) (lo := 0) (fun i H1 => Same H H1 ∧ H1 D = some (.lst ((((List.range i).filter fun k => pref ms (ns.getD (k + 1) 0) (ns.getD k 0)).map fun k : Nat => (k : Int)).map V.int))) ⟨same_upd hD, upd_same⟩ (fun i H1 hi h => ?_) (fun H1 h => ?_)
    · obtain ⟨s1, e1⟩ := h
      have hi2 : i + 1 < n := by omega
      have v1 : atI (ns.map V.int) (0 + (i : Int) + 1) = some (.int (ns.getD (i + 1) 0)) := by
        rw [show (0 + (i : Int) + 1) = ((i + 1 : Nat) : Int) by omega, getD_of (by omega)]
        exact atI_nat (by rw [List.getElem?_map, List.getElem?_eq_getElem (by omega)]; rfl)
      have v0 : atI (ns.map V.int) (0 + (i : Int)) = some (.int (ns.getD i 0)) := by
        rw [show (0 + (i : Int)) = (i : Int) by omega, getD_of (by omega)]
        exact atI_nat (by rw [List.getElem?_map, List.getElem?_eq_getElem (by omega)]; rfl)
      have mM : ∀ k, k < n → ns.getD k 0 ∈ ms := fun k hk => by
        rw [getD_of (by omega)]
        have bd := hna.bnd (List.getElem_mem (show k < ns.length by omega))
        exact hnb.mem bd.1 bd.2
      have hb1 := hb.same s1
      obtain ⟨o, hd, he⟩ := id hb1
      refine ⟨rfl, .ref b, rfl, ⟨b, o, _, rfl, hd, he⟩, .ref a, rfl, .int (0 + (i : Int)), rfl, _, 1, rfl, rfl, a, _, _, _, rfl, rfl, (ha.same s1).sq, v1, b, ms, _, ms.idxOf (ns.getD (i + 1) 0), rfl, rfl, hb1.sq, at_idx (mM _ hi2), fun m hm => idx_first hm,
        .ref b, rfl, ⟨b, o, _, rfl, hd, he⟩, .ref a, rfl, .int (0 + (i : Int)), rfl, a, _, _, _, rfl, rfl, (ha.same s1).sq, v0, b, ms, _, ms.idxOf (ns.getD i 0), rfl, rfl, hb1.sq, at_idx (mM _ (by omega)), fun m hm => idx_first hm, _, _, rfl, rfl, _, rfl, ?_⟩
      have ed : decide (((ms.idxOf (ns.getD (i + 1) 0) : Nat) : Int) < ((ms.idxOf (ns.getD i 0) : Nat) : Int)) = pref ms (ns.getD (i + 1) 0) (ns.getD i 0) := by
        unfold pref
        by_cases h : ms.idxOf (ns.getD (i + 1) 0) < ms.idxOf (ns.getD i 0)
        · rw [decide_eq_true h, decide_eq_true (by omega)]
        · rw [decide_eq_false h, decide_eq_false (by omega)]
      show if (decide (((ms.idxOf (ns.getD (i + 1) 0) : Nat) : Int) < ((ms.idxOf (ns.getD i 0) : Nat) : Int))) = true then _ else _
      rw [ed]
      cases e : pref ms (ns.getD (i + 1) 0) (ns.getD i 0) with
      | true =>
        refine iteT ⟨.int (0 + (i : Int)), rfl, _, e1, ?_, same_upd2 s1 hD, ?_⟩
        · rw [List.length_map, List.length_map]
          have := List.length_filter_le (fun k => pref ms (ns.getD (k + 1) 0) (ns.getD k 0)) (List.range i)
          rw [List.length_range] at this
          exact small1000 (by omega)
        · rw [upd_same, wrong_turn, if_pos e, List.map_append, List.map_append, show (0 + (i : Int)) = (i : Int) by omega]
          rfl
      | false =>
        refine iteF ⟨s1, ?_⟩
        rw [wrong_turn, if_neg (by rw [e]; exact Bool.false_ne_true), List.append_nil]
        exact e1
    · obtain ⟨s1, e1⟩ := h
      refine q H1 D s1 hD ?_
      rw [e1, show (((ns.map V.int).length : Int) - 1).toNat = ns.length - 1 by rw [List.length_map]; omega]
      rfl
end
end TR
namespace TR
open PySem PySem.Spec PyProof.Rows L2
theorem scSwPath : FnScope ["one", "other", "path", "places"] ["one", "other"] (defScope sSwPath) := ⟨rfl, rfl, rfl, by decide +kernel, rfl, by decide +kernel, by decide +kernel⟩
section
variable {P : Program} {w : World} {K : PySem.W.Frag} {mg : Str → Option Value} {base : Heap}
def spPath (K : PySem.W.Frag) : Sp := fun vs H Q _ => ∃ (a b : Addr) (n : Nat) (ns ms : List Int), vs = [.ref a, .ref b] ∧ Tp H a ns ∧ Tp H b ms ∧ Rank n ns ∧ Rank n ms ∧ 1 ≤ n ∧ n ≤ 8 ∧
  ∀ H' t xs rows, Same H H' → TF H' t xs → Rts H' xs rows → Pth ns ms rows → rows.length ≤ 29 → (∀ r ∈ rows, Rank n r) → Q (.ref t) H'
theorem rows_rank {n : Nat} {ns ms : List Int} (r : Rank n ns) (j : Nat) : ∀ x ∈ (List.range j).map (itr ms ns), Rank n x := fun x hx => by
  obtain ⟨i, _, rfl⟩ := List.mem_map.mp hx
  exact itr_rank r i
theorem ok_SwPath {f f_wrong_places f_swap : Addr} {fd d_wrong_places d_swap : FuncData} {m : Nat} (F : Fun K "swap_path" "swap_path" sSwPath f fd)
    (k_wrong_places : PySem.W.keepIn K (.ref f_wrong_places) = true) (b_wrong_places : Binds K d_wrong_places ["ranking", "other"] []) (g_wrong_places : mg "wrong_places" = some (.ref f_wrong_places)) (G_wrong_places : FnOk P w K mg base CX0 m f_wrong_places d_wrong_places ["ranking", "other"] spWrong)
    (k_swap : PySem.W.keepIn K (.ref f_swap) = true) (b_swap : Binds K d_swap ["ranking", "at"] []) (g_swap : mg "swap" = some (.ref f_swap)) (G_swap : FnOk P w K mg base CX0 m f_swap d_swap ["ranking", "at"] spExch)
    (m_tuple : mg "tuple" = none) : FnOk P w K mg base CX0 (m + 1) f fd ["one", "other"] (spPath K) := by
  refine F.ok scSwPath (fun vs H Q E h => ?_) (fun cdv A outer s H vs Q E hr h => ?_)
  · obtain ⟨a, b, n, ns, ms, rfl, _⟩ := h
    rfl
  · obtain ⟨a, b, n, ns, ms, rfl, ha, hb, hna, hnb, hn1, hn, q⟩ := h
    refine ⟨_, 
      (pss_cons (ps_set (i := 2) scSwPath.nd rfl (.inl rfl) (pe_lst (pa_cons (pv 0) pa_nil))) 
      (pss_cons (ps_set (i := 3) scSwPath.nd rfl (.inl rfl) (pe_call G_wrong_places hr (by rfl) g_wrong_places k_wrong_places b_wrong_places .nil pass0 (pa_cons (pv 0) (pa_cons (pv 1) pa_nil)))) 
      (pss_cons (ps_while PassesOwn.never (pt_truth (pv 3) (fun _ => rfl)) 
        (pss_cons (ps_expr (pe_bm PySem.F.plainAttrs_list PySem.F.slot_list_append PySem.F.type_list_append mt_append (pv 2) (pa_cons (pe_call G_swap hr (by rfl) g_swap k_swap b_swap .nil pass0 (pa_cons (pe_ix (r := rIxL K) ix_list (pv 2) (pe_un un_neg pe_int) (fun _ _ => rfl)) (pa_cons (pe_ix (r := rIxL K) ix_list (pv 3) pe_int (fun _ _ => rfl)) pa_nil))) pa_nil))) 
        (pss_one (ps_set (i := 3) scSwPath.nd rfl (.inl rfl) (pe_call G_wrong_places hr (by rfl) g_wrong_places k_wrong_places b_wrong_places .nil pass0 (pa_cons (pe_ix (r := rIxL K) ix_list (pv 2) (pe_un un_neg pe_int) (fun _ _ => rfl)) (pa_cons (pv 1) pa_nil))))))) 
      (pss_one (ps_ret (pe_callTy call_tupleF (by rfl) m_tuple (by decide +kernel) (pa_cons (pv 2) pa_nil))))))), ?_⟩
    refine ⟨.ref a, rfl, by show 1 ≤ sizeLine; decide, fun g hg => ?_⟩
    have s1 : Same H (upd H g (.lst [.ref a])) := same_upd hg
    have eg1 : upd H g (.lst [.ref a]) g = some (.lst [.ref a]) := upd_same
    generalize upd H g (.lst [.ref a]) = H1 at s1 eg1 ⊢
    refine ⟨.ref a, rfl, .ref b, rfl, a, b, n, ns, ms, rfl, ha.same s1, hb.same s1, hna, hnb, hn1, hn, fun H2 l s2 hl el => ?_⟩
    have d0 := dist_le28 ms hna hn
    refine ⟨fun m σ H3 => ∃ j l xs, σ = [some (.ref a), some (.ref b), some (.ref g), some (.ref l)] ∧ H3 g = some (.lst xs) ∧ Rts H3 xs ((List.range (j + 1)).map (itr ms ns)) ∧ H3 l = some (.lst ((wrongs (itr ms ns j) ms).map V.int)) ∧ dist (itr ms ns j) ms = m ∧ j + m ≤ 28 ∧ (∀ i, i < j → itr ms ns i ≠ ms) ∧ Same H H3,
      ⟨dist ns ms, 0, l, [.ref a], rfl, s2 _ _ eg1, .cons ((ha.same s1).same s2) .nil, el, rfl, by omega, fun i hi => by omega, s1.trans s2⟩, fun m σ H3 hW => ?_⟩
    obtain ⟨j, l, xs, rfl, eg, hR, hl3, hd, hj, hne, s3⟩ := hW
    have hrk := itr_rank (ms := ms) hna j
    refine ⟨.ref l, rfl, !((wrongs (itr ms ns j) ms).map V.int).isEmpty, .inl ⟨_, sqL hl3, rfl⟩, ?_⟩
    have hl' := hl3
    unfold wrongs at hl' ⊢
    cases ew : wrongN (itr ms ns j) ms with
    | nil =>
      refine iteF ?_
      have em := wrong_nil hrk hnb ew
      refine ⟨.ref g, rfl, g, _, rfl, sqL eg, fun t o ht ho => q _ t xs _ (s3.trans (same_upd ht)) (TF.new ho) (hR.same (same_upd ht)) ⟨j, rfl, em, hne⟩ ?_ (rows_rank hna _)⟩
      rw [List.length_map, List.length_range]
      omega
    | cons k tl =>
      refine iteT ?_
      rw [ew] at hl'
      have hk := (mem_wrongN (ns := itr ms ns j) (ms := ms) (k := k)).mp (by rw [ew]; exact List.mem_cons_self)
      have hk2 : k + 1 < n := by have := hrk.len; omega
      have ed := dist_swap (ms := ms) (k := k) hrk (by rw [ew]; exact List.mem_cons_self)
      have ei := itr_succ ew
      rw [← ei] at ed
      refine ⟨_, fun σ' H' hN => ⟨dist (itr ms ns (j + 1)) ms, by omega, hN⟩, ?_⟩
      rw [map_succ] at hR
      obtain ⟨ys, t, rfl, hR2, ht⟩ := hR.snoc
      have hxl := hR2.len
      rw [List.length_map, List.length_range] at hxl
      refine ⟨.ref g, rfl, .inl ⟨rfl, _, sqL eg⟩, .ref g, rfl, 1, rfl, g, _, -1, _, rfl, rfl, sqL eg, atI_last _ _, .ref l, rfl, l, _, 0, .int (k : Int), rfl, rfl, sqL hl', atI_nat (j := 0) rfl, t, _, n, k, rfl, ht, hrk, hk2, hn, fun H4 u s4 hru tu => ?_⟩
      refine ⟨g, _, _, rfl, rfl, s4 _ _ eg, ?_, ?_⟩
      · rw [List.length_append]
        exact small1000 (by show ys.length + 1 ≤ 1000; omega)
      have eg4 := s4 _ _ eg
      have tu5 : Tp (upd H4 g (.lst (ys ++ [.ref t] ++ [.ref u]))) u (swp (itr ms ns j) k) := tu.updl eg4
      have R5 : Rts (upd H4 g (.lst (ys ++ [.ref t] ++ [.ref u]))) (ys ++ [.ref t] ++ [.ref u]) ((List.range (j + 1 + 1)).map (itr ms ns)) := by
        rw [map_succ, map_succ, ei]
        exact ((((hR2.append (.cons ht .nil)).same s4).upd_lst eg4).append (.cons tu5 .nil))
      have s5 : Same H (upd H4 g (.lst (ys ++ [.ref t] ++ [.ref u]))) := same_upd2 (s3.trans s4) hg
      have eg5 : upd H4 g (.lst (ys ++ [.ref t] ++ [.ref u])) g = some (.lst (ys ++ [.ref t] ++ [.ref u])) := upd_same
      generalize upd H4 g (.lst (ys ++ [.ref t] ++ [.ref u])) = H5 at tu5 R5 s5 eg5 ⊢
      refine ⟨.ref g, rfl, 1, rfl, g, _, -1, _, rfl, rfl, sqL eg5, atI_last _ _, .ref b, rfl, u, b, n, _, ms, rfl, tu5, hb.same s5, hru, hnb, hn1, hn, fun H6 l6 s6 hl6 el6 => ?_⟩
      refine ⟨j + 1, l6, _, rfl, s6 _ _ eg5, R5.same s6, by rw [ei]; exact el6, rfl, by omega, fun i hi => ?_, s5.trans s6⟩
      by_cases e : i = j
      · subst e
        exact wrong_ne hnb ew
      · exact hne i (by omega)
end
end TR
namespace TR
open PySem PySem.Spec PyProof.Rows L2
theorem scTwo : FnScope ["_law_deck_here", "_law_dishes", "_law_one_here", "_law_way", "_law_other", "_law_turn"] ["_law_deck_here", "_law_dishes"] (defScope sTwo) := ⟨rfl, rfl, rfl, by decide +kernel, rfl, by decide +kernel, by decide +kernel⟩
section
variable {P : Program} {w : World} {K : PySem.W.Frag} {mg : Str → Option Value} {base : Heap}
def spTwo : Sp := fun vs H Q _ => ∃ (d p q : Addr) (c n : Nat), vs = [.ref d, .int (n : Int)] ∧ Deck H d p q c ∧ c ≤ 900000 ∧ 1 ≤ n ∧ n ≤ 8 ∧
  ∀ H' l a b ns ms, Rank n ns → Rank n ms → Deck H' d p q (c + 50) → Keep d p H H' → H' l = some (.lst [.ref a, .ref b]) → Tp H' a ns → Tp H' b ms → Q (.ref l) H'
theorem ok_Two {f f__law_next f__law_list f__law_exchanged : Addr} {fd d__law_next d__law_list d__law_exchanged : FuncData} {m : Nat} (F : Fun K "_law_two" "_law_two" sTwo f fd)
    (k__law_next : PySem.W.keepIn K (.ref f__law_next) = true) (b__law_next : Binds K d__law_next ["_law_deck_here", "_law_many"] []) (g__law_next : mg "_law_next" = some (.ref f__law_next)) (G__law_next : FnOk P w K mg base CX0 m f__law_next d__law_next ["_law_deck_here", "_law_many"] spNext)
    (k__law_list : PySem.W.keepIn K (.ref f__law_list) = true) (b__law_list : Binds K d__law_list ["_law_deck_here", "_law_dishes"] []) (g__law_list : mg "_law_list" = some (.ref f__law_list)) (G__law_list : FnOk P w K mg base CX0 m f__law_list d__law_list ["_law_deck_here", "_law_dishes"] spList)
    (k__law_exchanged : PySem.W.keepIn K (.ref f__law_exchanged) = true) (b__law_exchanged : Binds K d__law_exchanged ["_law_row", "_law_k"] []) (g__law_exchanged : mg "_law_exchanged" = some (.ref f__law_exchanged)) (G__law_exchanged : FnOk P w K mg base CX0 m f__law_exchanged d__law_exchanged ["_law_row", "_law_k"] spExch)
    (m_range : mg "range" = none) : FnOk P w K mg base CX0 (m + 1) f fd ["_law_deck_here", "_law_dishes"] spTwo := by
  refine F.ok scTwo (fun vs H Q E h => ?_) (fun cdv A outer s H vs Q E hr h => ?_)
  · obtain ⟨d, p, q, c, n, rfl, _⟩ := h
    rfl
  · obtain ⟨d, p, q, c, n, rfl, D0, hc, hn1, hn, qq⟩ := h
    refine ⟨_, 
      (pss_cons (ps_par (i := 2) (j := 3) (by rfl) scTwo.nd rfl rfl (by decide) rfl rfl (pa_cons (pe_call G__law_list hr (by rfl) g__law_list k__law_list b__law_list .nil pass0 (pa_cons (pv 0) (pa_cons (pv 1) pa_nil))) (pa_cons (pe_call G__law_next hr (by rfl) g__law_next k__law_next b__law_next .nil pass0 (pa_cons (pv 0) (pa_cons pe_int pa_nil))) pa_nil)) (by rfl)) 
      (pss_cons (ps_if (pt_cmpR op_eq (pv 3) pe_int (nomark _)) 
        (pss_one (ps_ret (pe_lst (pa_cons (pv 2) (pa_cons (pe_call G__law_list hr (by rfl) g__law_list k__law_list b__law_list .nil pass0 (pa_cons (pv 0) (pa_cons (pv 1) pa_nil))) pa_nil))))) pss_nil) 
      (pss_cons (ps_if (pt_cmpR op_eq (pv 3) pe_int (nomark _)) 
        (pss_one (ps_ret (pe_lst (pa_cons (pv 2) (pa_cons (pe_ix (r := rIxL K) ix_list (pe_lst (pa_cons (pv 2) (pa_cons (pe_revT (pv 2)) pa_nil))) (pe_call G__law_next hr (by rfl) g__law_next k__law_next b__law_next .nil pass0 (pa_cons (pv 0) (pa_cons pe_int pa_nil))) (fun _ _ => rfl)) pa_nil))))) pss_nil) 
      (pss_cons (ps_set (i := 4) scTwo.nd rfl (.inl rfl) (pv 2)) 
      (pss_cons (ps_for PassesOwn.never rfl (pi_range1 (by rfl) m_range (pa_cons (pe_call G__law_next hr (by rfl) g__law_next k__law_next b__law_next .nil pass0 (pa_cons (pv 0) (pa_cons (pe_op op_mul pe_int (pv 1)) pa_nil))) pa_nil)) (pg_name (i := 5) scTwo.nd rfl (.inl rfl)) 
        (pss_one (ps_if (pt_cmpR op_gt (pv 1) pe_int (nomark _)) 
          (pss_one (ps_set (i := 4) scTwo.nd rfl (.inl rfl) (pe_call G__law_exchanged hr (by rfl) g__law_exchanged k__law_exchanged b__law_exchanged .nil pass0 (pa_cons (pv 4) (pa_cons (pe_call G__law_next hr (by rfl) g__law_next k__law_next b__law_next .nil pass0 (pa_cons (pv 0) (pa_cons (pe_op op_sub (pv 1) pe_int) pa_nil))) pa_nil))))) pss_nil))) 
      (pss_one (ps_ret (pe_lst (pa_cons (pv 2) (pa_cons (pv 4) pa_nil)))))))))), ?_⟩
    refine ⟨.ref d, rfl, .int (n : Int), rfl, d, p, q, c, n, rfl, D0, by omega, hn, fun H1 a ns hns D1 k1 t1 => ?_⟩
    refine ⟨.ref d, rfl, d, p, q, c + n, 4, rfl, D1, by omega, by decide, by decide, fun H2 r r0 r1 D2 k2 => ⟨.ref a, .int r, rfl, ?_⟩⟩
    have t2 := t1.keep D1 k2
    have k02 := k1.trans k2
    refine ⟨.int r, rfl, rfl, _, rfl, ite2 (fun _ => ?_) (fun _ => ?_)⟩
    · refine ⟨.ref a, rfl, .ref d, rfl, .int (n : Int), rfl, d, p, q, c + n + 1, n, rfl, D2, by omega, hn, fun H3 b ms hms D3 k3 t3 => ?_⟩
      refine ⟨by show 2 ≤ sizeLine; decide, fun l hl => qq _ l a b ns ms hns hms ?_ (k02.trans (k3.trans (Same.keep (same_upd hl)))) upd_same ((t2.keep D2 k3).same (same_upd hl)) (t3.same (same_upd hl))⟩
      exact (D3.same (same_upd hl)).mono (by omega)
    · refine ⟨.int r, rfl, rfl, _, rfl, ite2 (fun _ => ?_) (fun _ => ?_)⟩
      · refine ⟨.ref a, rfl, .ref a, rfl, .ref a, rfl, a, _, rfl, t2.sq, fun b o hb ho => ?_⟩
        rw [← List.map_reverse]
        have s3 : Same H2 (upd H2 b (.frz o (.tup (ns.reverse.map V.int)))) := same_upd hb
        have t3 : Tp (upd H2 b (.frz o (.tup (ns.reverse.map V.int)))) b ns.reverse := Tp.new ho
        generalize upd H2 b (.frz o (.tup (ns.reverse.map V.int))) = H3 at s3 t3 ⊢
        refine ⟨by show 2 ≤ sizeLine; decide, fun g hg => ?_⟩
        have s4 : Same H3 (upd H3 g (.lst [.ref a, .ref b])) := same_upd hg
        have e4 : upd H3 g (.lst [.ref a, .ref b]) g = some (.lst [.ref a, .ref b]) := upd_same
        generalize upd H3 g (.lst [.ref a, .ref b]) = H4 at s4 e4 ⊢
        have D4 := D2.same (s3.trans s4)
        refine ⟨.ref d, rfl, d, p, q, c + n + 1, 2, rfl, D4, by omega, by decide, by decide, fun H5 z z0 z1 D5 k5 => ?_⟩
        have ngd : g ≠ d := (D2.same s3).ned hg
        have ngp : g ≠ p := (D2.same s3).nep hg
        have e5 := k5 _ _ e4 ngd ngp
        have ta := (t2.same (s3.trans s4)).keep D4 k5
        have tb := (t3.same s4).keep D4 k5
        have k05 : Keep d p H H5 := k02.trans ((Same.keep (s3.trans s4)).trans k5)
        obtain ⟨x, ms, hx, hat, hms, tx⟩ : ∃ x ms, (x = a ∨ x = b) ∧ atI [V.ref a, V.ref b] z = some (.ref x) ∧ Rank n ms ∧ Tp H5 x ms := by
          have hz : z = 0 ∨ z = 1 := by omega
          rcases hz with rfl | rfl
          · exact ⟨a, ns, .inl rfl, atI_nat (j := 0) rfl, hns, ta⟩
          · exact ⟨b, ns.reverse, .inr rfl, atI_nat (j := 1) rfl, hns.rev, tb⟩
        refine ⟨g, _, z, .ref x, rfl, rfl, sqL e5, hat, by show 2 ≤ sizeLine; decide, fun l hl => qq _ l a x ns ms hns hms ?_ (k05.trans (Same.keep (same_upd hl))) upd_same (ta.same (same_upd hl)) (tx.same (same_upd hl))⟩
        exact (D5.same (same_upd hl)).mono (by omega)
      · refine ⟨.ref a, rfl, .ref d, rfl, .int (n : Int), rfl, 2, _, rfl, rfl, .inl ⟨by decide, by decide⟩, d, p, q, c + n + 1, _, rfl, D2, by omega, by omega, by omega, fun H3 z z0 z1 D3 k3 => ?_⟩
        have t3 := t2.keep D2 k3
        have k03 := k02.trans k3
        obtain ⟨m, rfl⟩ := Int.eq_ofNat_of_zero_le z0
        refine ⟨_, rfl, by omega, by omega, for_range (n := m) (lo := 0) (fun i σ H4 => (∃ b ms y5, σ = [some (.ref d), some (.int (n : Int)), some (.ref a), some (.int r), some (.ref b), y5] ∧ Rank n ms ∧ Tp H4 b ms) ∧ Tp H4 a ns ∧ Deck H4 d p q (c + n + 2 + i) ∧ Keep d p H H4) ⟨⟨a, ns, none, rfl, hns, t3⟩, t3, D3, k03⟩ (fun i σ H4 hi h => ?_) (fun σ H4 h => ?_)⟩
        · obtain ⟨⟨b, ms, y5, rfl, hms, tb⟩, ta, D4, k4⟩ := h
          refine ⟨.int (n : Int), rfl, _, _, rfl, rfl, _, rfl, ite2 (fun hgt => ?_) (fun _ => ?_)⟩
          · have hn2 : (n : Int) > 1 := of_decide_eq_true hgt
            refine ⟨.ref b, rfl, .ref d, rfl, .int (n : Int), rfl, _, _, rfl, rfl, d, p, q, c + n + 2 + i, _, rfl, D4, by omega, by omega, by omega, fun H5 k k0 kk D5 k5 => ?_⟩
            obtain ⟨j, rfl⟩ := Int.eq_ofNat_of_zero_le k0
            refine ⟨b, ms, n, j, rfl, tb.keep D4 k5, hms, by omega, hn, fun H6 u s6 hru tu => ⟨⟨u, _, _, rfl, hru, tu⟩, (ta.keep D4 k5).same s6, (D5.same s6).mono (by omega), k4.trans (k5.trans (Same.keep s6))⟩⟩
          · exact ⟨⟨b, ms, _, rfl, hms, tb⟩, ta, D4.mono (by omega), k4⟩
        · obtain ⟨⟨b, ms, y5, rfl, hms, tb⟩, ta, D4, k4⟩ := h
          refine ⟨.ref a, rfl, .ref b, rfl, by show 2 ≤ sizeLine; decide, fun l hl => qq _ l a b ns ms hns hms ?_ (k4.trans (Same.keep (same_upd hl))) upd_same (ta.same (same_upd hl)) (tb.same (same_upd hl))⟩
          exact (D4.same (same_upd hl)).mono (by omega)
end
end TR
namespace TR
open PySem PySem.Spec PyProof.Rows L2
theorem scWhole : FnScope ["value"] ["value"] (defScope sWhole) := ⟨rfl, rfl, rfl, by decide +kernel, rfl, by decide +kernel, by decide +kernel⟩
section
variable {P : Program} {w : World} {K : PySem.W.Frag} {mg : Str → Option Value} {base : Heap}
def spWhole : Sp := fun vs H Q _ => ∃ (x : V) (d : PyData) (ban : List Addr), vs = [x] ∧ Rp H ban d x ∧ Q (.bl (whole d)) H
theorem ok_whole {f : Addr} {fd : FuncData} {k : Nat} (F : Fun K "is_whole" "is_whole" sWhole f fd) (misi : mg "isinstance" = none) (mi : mg "int" = none) (mb : mg "bool" = none) : FnOk P w K mg base CX0 (k + 1) f fd ["value"] spWhole := by
  refine F.ok scWhole (fun vs H Q E h => ?_) (fun cdv A outer s H vs Q E hr h => ?_)
  · obtain ⟨x, d, ban, rfl, _⟩ := h
    rfl
  · obtain ⟨x, d, ban, rfl, hp, q⟩ := h
    refine ⟨_, pss_one (ps_ret (pe_and (pe_callB call_isi (by rfl) misi (by decide +kernel) (pa_cons (pv 0) (pa_cons (pe_bltn (v := .ty "int") (by rfl) mi (by decide +kernel) rfl) pa_nil))) (pe_one (pe_not (pe_callB call_isi (by rfl) misi (by decide +kernel) (pa_cons (pv 0) (pa_cons (pe_bltn (v := .ty "bool") (by rfl) mb (by decide +kernel) rfl) pa_nil))))))), ?_⟩
    obtain ⟨k1, k2, k3⟩ := kitD (K := K) d
    rw [← whole_ty] at q
    refine ⟨x, rfl, x, .ty "int", _, _, _, rfl, .ty _, tyRp hp, k2, _, rfl, ?_⟩
    cases e : decide (tyD d = "int" ∨ tyD d = "bool") with
    | true =>
      rw [e] at q
      exact iteT ⟨x, rfl, x, .ty "bool", _, _, _, rfl, .ty _, tyRp hp, k3, _, rfl, q⟩
    | false =>
      rw [e] at q
      exact iteF q
end
end TR
namespace TR
open PySem PySem.Spec PyProof.Rows L2
theorem scIsOrder : FnScope ["size", "value", "part"] ["size", "value"] (defScope sIsOrder) := ⟨rfl, rfl, rfl, by decide +kernel, rfl, by decide +kernel, by decide +kernel⟩
section
variable {P : Program} {w : World} {K : PySem.W.Frag} {mg : Str → Option Value} {base : Heap}
def spIsOrd : Sp := fun vs H Q _ => ∃ (x : V) (d : PyData) (ban : List Addr) (n : Nat), vs = [.int (n : Int), x] ∧ Rp H ban d x ∧ n ≤ 100 ∧ (∀ ds, d = .tuple ds → ds.length ≤ 100) ∧ ∀ H' b, Same H H' → (b = true ↔ IsRk n d) → Q (.bl b) H'
theorem ok_IsOrder {f f_is_whole : Addr} {fd d_is_whole : FuncData} {m : Nat} (F : Fun K "is_order" "is_order" sIsOrder f fd)
    (k_is_whole : PySem.W.keepIn K (.ref f_is_whole) = true) (b_is_whole : Binds K d_is_whole ["value"] []) (g_is_whole : mg "is_whole" = some (.ref f_is_whole)) (G_is_whole : FnOk P w K mg base CX0 m f_is_whole d_is_whole ["value"] spWhole)
    (m_all : mg "all" = none) (m_isinstance : mg "isinstance" = none) (m_tuple : mg "tuple" = none) (m_sorted : mg "sorted" = none) (m_list : mg "list" = none) (m_range : mg "range" = none) : FnOk P w K mg base CX0 (m + 1) f fd ["size", "value"] spIsOrd := by
  refine F.ok scIsOrder (fun vs H Q E h => ?_) (fun cdv A outer s H vs Q E hr h => ?_)
  · obtain ⟨x, d, ban, n, rfl, _⟩ := h
    rfl
  · obtain ⟨x, d, ban, n, rfl, hp, hn, hlen, q⟩ := h
    refine ⟨_, 
      (pss_cons (ps_if (PW.pt (pw_or (pt_not (pt_val (pe_callB call_isi (by rfl) m_isinstance (by decide +kernel) (pa_cons (pv 1) (pa_cons (pe_bltn (v := .ty "tuple") (by rfl) m_tuple (by decide +kernel) rfl) pa_nil))))) (pw_or1 (pt_not (pt_val (pe_callB (cr_all (by rfl)) (by rfl) m_all (by decide +kernel) (pa_cons (pe_lc (own := [("part", 2)]) (g := gName 2) (tt := tYes) (by rfl) scIsOrder.nd (pi_tup (pv 1)) (blkOk_by (own := [("part", 2)]) (N := ["size", "value", "part"]) (sc := defScope sIsOrder) (by decide +kernel)) (fun _ _ _ _ _ => (pg_name (i := 2) scIsOrder.nd rfl (Or.inl rfl))) (fun _ _ _ _ _ => pts_nil) (fun _ _ _ _ _ => (pe_call G_is_whole hr (by rfl) g_is_whole k_is_whole b_is_whole .nil pass0 (pa_cons (pv 2) pa_nil)))) pa_nil))))))) 
        (pss_one (ps_ret pe_bl)) pss_nil) 
      (pss_one (ps_ret (pe_cmpR (op_eqD hr.units) (pe_callB (r := rSortedTI K) cr_sortedTI (by rfl) m_sorted (by decide +kernel) (pa_cons (pv 1) pa_nil)) (pe_listRg (by rfl) (by rfl) m_list (prg_1 (by rfl) m_range (pv 0))) (nomark _))))), ?_⟩
    obtain ⟨k1, k2, k3⟩ := kitD (K := K) d
    refine ⟨x, rfl, x, .ty "tuple", _, _, _, rfl, .ty _, tyRp hp, k1, _, rfl, ?_⟩
    by_cases ht : tyD d = "tuple"
    · rw [decide_eq_true ht]
      refine iteF ?_
      obtain ⟨ds, rfl⟩ := ty_tuple ht
      obtain ⟨a, xs, rfl, ha', hx⟩ := hp
      have ha := ha'.rd
      have hdl := hlen ds rfl
      have sq : ∀ {H1 : Hp}, Same H H1 → SqT K H1 a xs := fun s1 => .inl (rd_same s1 ha)
      refine ⟨.ref a, rfl, a, rfl, ⟨_, sq (Same.refl _)⟩, fun D hD => lc_tup (K := K) (a := a) (xs := xs) (fun i H1 => Same H H1 ∧ H1 D = some (.lst (((ds.take i).map whole).map V.bl))) ⟨same_upd hD, upd_same⟩ (fun i H1 _ h => sq h.1) (fun i y H1 hy h => ?_) (fun H1 h => ?_)⟩
      · obtain ⟨s1, e1⟩ := h
        obtain ⟨e, he, hre⟩ := hx.get hy
        have hi : i < ds.length := (List.getElem?_eq_some_iff.mp he).1
        refine ⟨rfl, y, rfl, y, e, ban, rfl, hre.same s1, _, e1, ?_, same_upd2 s1 hD, ?_⟩
        · rw [List.length_map, List.length_map, List.length_take]
          exact small1000 (by omega)
        · rw [upd_same, List.take_add_one, he, List.map_append, List.map_append]
          rfl
      · obtain ⟨s1, e1⟩ := h
        rw [List.take_of_length_le (by rw [hx.len]; exact Nat.le_refl _)] at e1
        refine ⟨D, _, rfl, sqL e1, _, rfl, ?_⟩
        have ea : (ds.map whole).all id = ds.all whole := by
          rw [List.all_map]
          rfl
        rw [ea]
        cases hw : ds.all whole with
        | false =>
          exact iteT (q H1 false s1 (ff_iff (not_isRk_whole hw)))
        | true =>
          refine iteF ?_
          obtain ⟨ns, rfl⟩ := whole_all ds hw
          have ex := hx.int_vals
          subst ex
          refine ⟨.ref a, rfl, a, ns, rfl, sq s1, fun ms p1 hperm hsort hp1 => ?_⟩
          refine ⟨.int (n : Int), rfl, n, rfl, RgOk.of_le (by omega) (by omega) (by omega) (by omega), fun p2 hp2 => ?_⟩
          rw [rgV_rng]
          refine ⟨_, _, .lst (sqL ((same_upd hp2) _ _ upd_same)) (dpAll_ints ms), .lst (sqL upd_same) (dpAll_ints (rng n)), shaped_ints ms, shaped_ints (rng n), ?_⟩
          rw [eqv_lstX]
          refine q _ _ (s1.trans ((same_upd hp1).trans (same_upd hp2))) ?_
          rw [decide_eq_true_eq, sorted_rank hperm hsort, isRk_tuple]
    · rw [decide_eq_false ht]
      exact iteT (q H false (Same.refl _) (ff_iff (not_isRk_ty ht)))
end
end TR
namespace TR
open PySem PySem.Spec PyProof.Rows L2
theorem scIsRk : FnScope ["dishes", "value"] ["dishes", "value"] (defScope sIsRk) := ⟨rfl, rfl, rfl, by decide +kernel, rfl, by decide +kernel, by decide +kernel⟩
section
variable {P : Program} {w : World} {K : PySem.W.Frag} {mg : Str → Option Value} {base : Heap}
def spIsRk : Sp := fun vs H Q _ => ∃ (x : V) (d : PyData) (ban : List Addr) (n : Nat), vs = [.int (n : Int), x] ∧ Rp H ban d x ∧ 1 ≤ n ∧ n ≤ 8 ∧ (∀ ds, d = .tuple ds → ds.length ≤ 100) ∧ ∀ H' b, Same H H' → (b = true ↔ IsRk n d) → Q (.bl b) H'
theorem ok_IsRk {f f_is_order : Addr} {fd d_is_order : FuncData} {m : Nat} {t_MAX_DISHES : Tok} (F : Fun K "is_ranking" "is_ranking" sIsRk f fd)
    (k_is_order : PySem.W.keepIn K (.ref f_is_order) = true) (b_is_order : Binds K d_is_order ["size", "value"] []) (g_is_order : mg "is_order" = some (.ref f_is_order)) (G_is_order : FnOk P w K mg base CX0 m f_is_order d_is_order ["size", "value"] spIsOrd)
    (gc_MAX_DISHES : mg "MAX_DISHES" = some (.int 8 t_MAX_DISHES)) : FnOk P w K mg base CX0 (m + 1) f fd ["dishes", "value"] spIsRk := by
  refine F.ok scIsRk (fun vs H Q E h => ?_) (fun cdv A outer s H vs Q E hr h => ?_)
  · obtain ⟨x, d, ban, n, rfl, _⟩ := h
    rfl
  · obtain ⟨x, d, ban, n, rfl, hp, hn1, hn, hlen, q⟩ := h
    refine ⟨_, 
      (pss_one (ps_ret (pe_and (pe_chain op_le op_le pe_int (pv 0) (pe_glob (v := .int 8) (by rfl) gc_MAX_DISHES ⟨_, rfl⟩)) (pe_one (pe_call G_is_order hr (by rfl) g_is_order k_is_order b_is_order .nil pass0 (pa_cons (pv 0) (pa_cons (pv 1) pa_nil))))))), ?_⟩
    have c1 : decide ((1 : Int) ≤ (n : Int)) = true := decide_eq_true (by omega)
    have c2 : decide ((n : Int) ≤ 8) = true := decide_eq_true (by omega)
    refine ⟨.int (n : Int), rfl, 1, _, rfl, rfl, _, rfl, ?_⟩
    show if decide ((1 : Int) ≤ (n : Int)) = true then _ else _
    rw [c1]
    refine iteT ⟨_, _, rfl, rfl, _, rfl, ?_⟩
    show if decide ((n : Int) ≤ 8) = true then _ else _
    rw [c2]
    exact iteT ⟨.int (n : Int), rfl, x, rfl, x, d, ban, n, rfl, hp, by omega, hlen, q⟩
end
end TR
namespace TR
open PySem PySem.Spec PyProof.Rows L2
theorem scLWhole : FnScope ["_law_thing"] ["_law_thing"] (defScope sLWhole) := ⟨rfl, rfl, rfl, by decide +kernel, rfl, by decide +kernel, by decide +kernel⟩
section
variable {P : Program} {w : World} {K : PySem.W.Frag} {mg : Str → Option Value} {base : Heap}
theorem ok_lwhole {f : Addr} {fd : FuncData} {k : Nat} (F : Fun K "_law_whole" "_law_whole" sLWhole f fd) (misi : mg "isinstance" = none) (mi : mg "int" = none) (mb : mg "bool" = none) : FnOk P w K mg base CX0 (k + 1) f fd ["_law_thing"] spWhole := by
  refine F.ok scLWhole (fun vs H Q E h => ?_) (fun cdv A outer s H vs Q E hr h => ?_)
  · obtain ⟨x, d, ban, rfl, _⟩ := h
    rfl
  · obtain ⟨x, d, ban, rfl, hp, q⟩ := h
    refine ⟨_, pss_one (ps_ret (pe_and (pe_callB call_isi (by rfl) misi (by decide +kernel) (pa_cons (pv 0) (pa_cons (pe_bltn (v := .ty "int") (by rfl) mi (by decide +kernel) rfl) pa_nil))) (pe_one (pe_not (pe_callB call_isi (by rfl) misi (by decide +kernel) (pa_cons (pv 0) (pa_cons (pe_bltn (v := .ty "bool") (by rfl) mb (by decide +kernel) rfl) pa_nil))))))), ?_⟩
    obtain ⟨k1, k2, k3⟩ := kitD (K := K) d
    rw [← whole_ty] at q
    refine ⟨x, rfl, x, .ty "int", _, _, _, rfl, .ty _, tyRp hp, k2, _, rfl, ?_⟩
    cases e : decide (tyD d = "int" ∨ tyD d = "bool") with
    | true =>
      rw [e] at q
      exact iteT ⟨x, rfl, x, .ty "bool", _, _, _, rfl, .ty _, tyRp hp, k3, _, rfl, q⟩
    | false =>
      rw [e] at q
      exact iteF q
end
end TR
namespace TR
open PySem PySem.Spec PyProof.Rows L2
theorem scIsList : FnScope ["_law_dishes", "_law_thing", "_law_one_here"] ["_law_dishes", "_law_thing"] (defScope sIsList) := ⟨rfl, rfl, rfl, by decide +kernel, rfl, by decide +kernel, by decide +kernel⟩
theorem filter_nil_all : ∀ ds : List PyData, (ds.filter fun d => !whole d).isEmpty = ds.all whole
  | [] => rfl
  | d :: r => by
    rw [List.filter_cons, List.all_cons]
    cases whole d with
    | true => exact filter_nil_all r
    | false => rfl
section
variable {P : Program} {w : World} {K : PySem.W.Frag} {mg : Str → Option Value} {base : Heap}
theorem ok_islist {f fW : Addr} {fd dW : FuncData} {k : Nat} (F : Fun K "_law_is_list" "_law_is_list" sIsList f fd) (kW : PySem.W.keepIn K (.ref fW) = true) (bW : Binds K dW ["_law_thing"] []) (gW : mg "_law_whole" = some (.ref fW)) (GW : FnOk P w K mg base CX0 (k + 1) fW dW ["_law_thing"] spWhole)
    (misi : mg "isinstance" = none) (mt : mg "tuple" = none) (mlen : mg "len" = none) (mso : mg "sorted" = none) (ml : mg "list" = none) (mr : mg "range" = none) : FnOk P w K mg base CX0 (k + 2) f fd ["_law_dishes", "_law_thing"] spIsRk := by
  refine F.ok scIsList (fun vs H Q E h => ?_) (fun cdv A outer s H vs Q E hr h => ?_)
  · obtain ⟨x, d, ban, n, rfl, _⟩ := h
    rfl
  · obtain ⟨x, d, ban, n, rfl, hp, hn1, hn, hlen, q⟩ := h
    refine ⟨_, pss_cons (ps_if (PW.pt (pw_or (pt_not (pt_val (pe_callB call_isi (by rfl) misi (by decide +kernel) (pa_cons (pv 1) (pa_cons (pe_bltn (v := .ty "tuple") (by rfl) mt (by decide +kernel) rfl) pa_nil)))))
          (pw_or1 (pt_cmpR op_ne (pe_callB call_len_seq (by rfl) mlen PySem.boot_len (pa_cons (pv 1) pa_nil)) (pv 0) (nomark _))))) (pss_one (ps_ret pe_bl)) pss_nil)
      (pss_one (ps_ret (pe_and (pe_cmpR (op_eqL0 hr.units0) (pe_lc (own := [("_law_one_here", 2)]) (g := gName 2) (by rfl) scIsList.nd (pi_tup (pv 1))
            (blkOk_by (own := [("_law_one_here", 2)]) (N := ["_law_dishes", "_law_thing", "_law_one_here"]) (sc := defScope sIsList) (by decide +kernel)) (fun _ _ _ _ _ => pg_name (i := 2) scIsList.nd rfl (Or.inl rfl))
            (fun _ _ _ _ _ => pts_one (pt_not (pt_val (pe_call GW hr (by rfl) gW kW bW .nil pass0 (pa_cons (pv 2) pa_nil))))) (fun _ _ _ _ _ => pv 2)) (pe_lst pa_nil) (nomark _))
        (pe_one (pe_cmpR (op_eqD hr.units) (pe_callB cr_sortedTI (by rfl) mso (by decide +kernel) (pa_cons (pv 1) pa_nil)) (pe_listRg (by rfl) (by rfl) ml (prg_1 (by rfl) mr (pv 0))) (nomark _)))))), ?_⟩
    obtain ⟨k1, k2, k3⟩ := kitD (K := K) d
    refine ⟨x, rfl, x, .ty "tuple", _, _, _, rfl, .ty _, tyRp hp, k1, _, rfl, ?_⟩
    by_cases ht : tyD d = "tuple"
    · rw [decide_eq_true ht]
      refine iteF ?_
      obtain ⟨ds, rfl⟩ := ty_tuple ht
      obtain ⟨a, xs, rfl, ha', hx⟩ := hp
      have ha := ha'.rd
      have hdl := hlen ds rfl
      have sq : ∀ {H1 : Hp}, Same H H1 → SqT K H1 a xs := fun s1 => .inl (rd_same s1 ha)
      refine ⟨.ref a, rfl, a, xs, rfl, .inr (sq (Same.refl _)), .int (n : Int), rfl, rfl, _, rfl, ?_⟩
      by_cases hl : ds.length = n
      · refine iteNS (by rw [hx.len, hl]) ?_
        refine ⟨.ref a, rfl, a, rfl, ⟨_, sq (Same.refl _)⟩, fun D hD => lc_tup (K := K) (a := a) (xs := xs) (fun i H1 => Same H H1 ∧ ∃ zs : List V, H1 D = some (.lst zs) ∧ zs.length = ((ds.take i).filter fun d => !whole d).length) ⟨same_upd hD, [], upd_same, rfl⟩ (fun i H1 _ h => sq h.1) (fun i y H1 hy h => ?_) (fun H1 h => ?_)⟩
        · obtain ⟨s1, zs, e1, l1⟩ := h
          obtain ⟨e, he, hre⟩ := hx.get hy
          have hi : i < ds.length := (List.getElem?_eq_some_iff.mp he).1
          have ft := filter_take (fun d => !whole d) he
          refine ⟨rfl, y, rfl, y, e, ban, rfl, hre.same s1, _, rfl, ?_⟩
          cases ew : whole e with
          | true =>
            refine iteF ⟨s1, zs, e1, ?_⟩
            rw [ft]
            simp only [ew, Bool.not_true, Bool.false_eq_true, if_false, List.append_nil]
            exact l1
          | false =>
            refine iteT ⟨y, rfl, zs, e1, ?_, same_upd2 s1 hD, zs ++ [y], upd_same, ?_⟩
            · have := List.length_filter_le (fun d => !whole d) (ds.take i)
              rw [List.length_take] at this
              exact small1000 (by omega)
            · rw [ft]
              simp only [ew, Bool.not_false, if_true]
              rw [List.length_append, List.length_append, l1]
              rfl
        · obtain ⟨s1, zs, e1, l1⟩ := h
          rw [List.take_of_length_le (by rw [hx.len]; exact Nat.le_refl _)] at l1
          refine ⟨Nat.zero_le _, fun z hz => ⟨D, z, zs, rfl, rfl, sqL ((same_upd hz) _ _ e1), sqL upd_same, _, rfl, ?_⟩⟩
          have s2 : Same H (upd H1 z (.lst [])) := s1.trans (same_upd hz)
          have ez : zs.isEmpty = ds.all whole := by
            rw [← filter_nil_all, Bool.eq_iff_iff, List.isEmpty_iff, List.isEmpty_iff, ← List.length_eq_zero_iff, ← List.length_eq_zero_iff, l1]
          rw [ez]
          cases hw : ds.all whole with
          | false => exact iteF (q _ false s2 (ff_iff (not_isRk_whole hw)))
          | true =>
            refine iteT ?_
            obtain ⟨ns, rfl⟩ := whole_all ds hw
            have ex := hx.int_vals
            subst ex
            refine ⟨.ref a, rfl, a, ns, rfl, sq s2, fun ms p1 hperm hsort hp1 => ?_⟩
            refine ⟨.int (n : Int), rfl, n, rfl, RgOk.of_le (by omega) (by omega) (by omega) (by omega), fun p2 hp2 => ?_⟩
            rw [rgV_rng]
            refine ⟨_, _, .lst (sqL ((same_upd hp2) _ _ upd_same)) (dpAll_ints ms), .lst (sqL upd_same) (dpAll_ints (rng n)), shaped_ints ms, shaped_ints (rng n), ?_⟩
            rw [eqv_lstX]
            refine q _ _ (s2.trans ((same_upd hp1).trans (same_upd hp2))) ?_
            rw [decide_eq_true_eq, sorted_rank hperm hsort, isRk_tuple]
      · have en : (!decide (V.int ((xs.length : Nat) : Int) = V.int (n : Int))) = true := by
          rw [decide_eq_false]
          · rfl
          · intro h
            have := V.int.inj h
            rw [hx.len] at this
            omega
        show if (!decide (V.int ((xs.length : Nat) : Int) = V.int (n : Int))) = true then _ else _
        rw [en]
        refine iteT (q H false (Same.refl _) (ff_iff fun ⟨ns, e, r⟩ => ?_))
        injection e with e
        rw [e, List.length_map] at hl
        exact absurd r.len hl
    · rw [decide_eq_false ht]
      exact iteT (q H false (Same.refl _) (ff_iff (not_isRk_ty ht)))
end
end TR
namespace TR
open PySem PySem.Spec PyProof.Rows L2
section
variable {P : Program} {w : World} {K : PySem.W.Frag} {mg : Str → Option Value} {base : Heap}
/-- a def's promise where no repr is under way -/
def RunG (P : Program) (w : World) (K : PySem.W.Frag) (mg : Str → Option Value) (base : Heap) (k : Nat) (f : Addr) (fd : FuncData) (ps : List Str) (sp : Sp) : Prop :=
  ∀ (A : Around) (outer : List Env) (s : Shared) (H : Hp) (args : Args) (us : List Value) (vs : List V) (Q : VK) (E : XK), A.guards = some [] → Room k A → Env0 P w K mg base A outer s H → BindsTo s fd args (ps.zip us) → Vals vs us → sp vs H Q E → codeAny (model P w) A (.call (.ref f) args) (CR CX0 outer P w H s Q E) s
theorem okG {x qual : Str} {st : Stmt} {f : Addr} {fd : FuncData} {N ps : List Str} {k : Nat} {sp : Sp} (F : Fun K x qual st f fd) (S : FnScope N ps (defScope st)) (len : ∀ vs H Q E, sp vs H Q E → vs.length = ps.length)
    (hbody : ∀ (cdv : Value) (A : Around) (outer : List Env) (s : Shared) (H : Hp) (vs : List V) (Q : VK) (E : XK), A.guards = some [] → Room k (A.deeper (envOfC qual (defScope st) s.heap.objs.size f cdv)) → sp vs H Q E →
      ∃ t, PSs (cxOf CX0 P w K mg base N qual (defScope st) f cdv A outer s H E).nox (defBody st) t ∧ t { nx := fun _ H' => Q .non H', rt := Q } (start N vs) H) : RunG P w K mg base (k + 1) f fd ps sp := by
  obtain ⟨oc, od, kV, doc, pm, an, cdv, ct, osl, rfl, lk, hcd⟩ := F.ex
  intro A outer s H args us vs Q E hgd hr e0 hb r hsp
  have hl := len _ _ _ _ hsp; have KX : K.In s.heap := e0.mod.kin.keeps fun b o e => (e0.bs b o e).1
  have lim : s.heap.NoLimit := e0.mod.nolimit.keeps fun b o e => (e0.bs b o e).1
  have kinds : ∀ y ∈ ps.zip us, (defScope st).names.lookup y.1 = some .local ∨ ((defScope st).names.lookup y.1 = some .cell ∧ ((cellsFrom (s.heap.objs.size + 1) (defScope st).names []).lookup y.1).isSome = true) := fun ⟨n, v⟩ hy => by
    rcases S.par n (List.of_mem_zip hy).1 with q | q; exact .inl q; exact .inr ⟨q, PySem.W.cellsFrom_some _ _ _ (.inl q)⟩
  refine codeAny_call_function hr.depth (KX _ _ lk) rfl S.co S.gen rfl (PySem.W.codeRec_of KX hcd) (hb _ _ _ _ (wpAny_newFunctionEnv_cells S.kind kinds fun env he s1 x => ?_))
  subst he; refine ⟨lim.keeps x.toInCall.keep, codeAny_func ?_⟩
  obtain ⟨t, ht, hq⟩ := hbody cdv A outer s H vs Q E hgd (hr.deeper _) hsp
  have I : Inv (cxOf CX0 P w K mg base N qual (defScope st) f cdv A outer s H E) [] (start N vs) H s1 := inv_start S hr.hd e0 hl r x
  refine wpAny_mono (ht.nox.run [] s1 (start N vs) H _ I hq) (fun fl s' hs => ?_) fun e s' hs => hs
  have fin : ∀ {σ' : L2.St} {H' : Hp} {v : V} {u : Value}, Inv (cxOf CX0 P w K mg base N qual (defScope st) f cdv A outer s H E) [] σ' H' s' → RelV v u → Q v H' → CE outer P w H s Q u s' := fun {σ' H' v u} J rv q => ⟨v, H', J.os, J.bare, J.base, J.hok, rv, q⟩
  cases fl with
  | ret u => obtain ⟨v, σ', H', J, rv, q⟩ := hs; exact fin J rv q
  | next => obtain ⟨σ', H', J, q⟩ := hs; exact fin (v := V.non) (u := Value.none) J rfl q
  | brk => obtain ⟨_, _, _, q⟩ := hs; exact False.elim q
  | cont => obtain ⟨_, _, _, q⟩ := hs; exact False.elim q
end
theorem law_callG {P : Program} {w : World} {K : PySem.W.Frag} {mg mb : Str → Option Value} {k : Nat} {fa a : Addr} {fd : FuncData} {x : Str} {sp : Sp} {s₁ : Shared} {vs : List Value} {ns : List Int} (KX : K.In s₁.heap) (hns : s₁.heap.Ns mainGlobals mg) (hb : s₁.heap.Ns builtinsNs mb) (hbb : ∀ x : Str, x ≠ "__name__" → mb x = bootBuiltins x)
    (hlim : s₁.heap.NoLimit) (hg : s₁.gens = #[]) (ha : s₁.heap.get? a = some { cls := .type "list", data := .seq vs.toArray }) (hi : IntsAre vs ns) (hl : ns.length ≤ sizeLine) (hr : Room k callerA) (F : ∀ base : Heap, K.In base → base.Ns mainGlobals mg → RunG P w K mg base k fa fd [x] sp)
    (hbind : ∀ (s : Shared) (u : Value), BindsTo s fd ⟨[u], []⟩ [(x, u)]) (hsp : ∀ H : Hp, Only H → SqL K H a (ns.map V.int) → sp [.ref a] H (fun v _ => v = .bl true) fun _ _ _ => False) :
    codeAny (model P w) callerA (.call (.ref fa) ⟨[.ref a], []⟩) (fun r s' => r = .ok (.ret (.bool true)) ∧ OldK s₁.heap s'.heap ∧ s'.os = s₁.os ∧ AllBare s'.gens) s₁ := by
  have rv := vals_ints hi; have lenV := hi.length
  have core : ∀ H : Hp, Only H → SqL K H a (ns.map V.int) → HOk P w H s₁.heap → (∀ b, H b ≠ none → b = a) → (H a ≠ none → K.lookup a = none) → codeAny (model P w) callerA (.call (.ref fa) ⟨[.ref a], []⟩) (fun r s' => r = .ok (.ret (.bool true)) ∧ OldK s₁.heap s'.heap ∧ s'.os = s₁.os ∧ AllBare s'.gens) s₁ := by
    intro H hO hS hok hA hK
    have b1 : ∀ {b : Addr} {o : Obj}, s₁.heap.get? b = some o → H b = none → (hidT s₁.heap H).get? b = some o := fun e n => hidT_get e n
    have n1 : ∀ {b : Addr} {o : Obj} {es : Array DictEntry} {ep : Nat}, s₁.heap.get? b = some o → o.data = .dict es ep → H b = none := fun {b o es ep} e d => by
      cases q : H b with
      | none => rfl
      | some u => have e' : b = a := hA b (by rw [q]; simp)
                  subst e'; rw [ha] at e; cases e; cases (show Data.seq vs.toArray _ = Data.dict es ep from d)
    have n2 : ∀ {b : Addr} {m : Str → Option Value}, s₁.heap.Ns b m → (hidT s₁.heap H).Ns b m := fun {b m} ⟨o, es, ep, e, d, r⟩ => ⟨o, es, ep, b1 e (n1 e d), d, r⟩
    have hKb : K.In (hidT s₁.heap H) := fun b o e => b1 (KX b o e) (by
      cases q : H b with
      | none => rfl
      | some u => have e' : b = a := hA b (by rw [q]; simp)
                  subst e'; rw [hK (by rw [q]; simp)] at e; cases e)
    have hM : Mod K mg (hidT s₁.heap H) := ⟨hKb, n2 hns, ⟨mb, n2 hb, hbb⟩, let ⟨mc, h1, h2⟩ := hlim; ⟨mc, n2 h1, h2⟩⟩
    have e0 : Env0 P w K mg (hidT s₁.heap H) callerA [] s₁ H := ⟨rfl, hM, fun b o e => of_hidT e, Nat.le_of_eq (hidT_size _ _), trivial, fun b hb => absurd (show b ∈ ([] : List Addr) from hb) (by simp), hok, .of_eq hg⟩
    refine codeAny_mono (F _ hKb (n2 hns) callerA [] s₁ H ⟨[.ref a], []⟩ [.ref a] [.ref a] _ _ rfl hr e0 (hbind s₁ (.ref a)) (.cons rfl .nil) (hsp H hO hS)) fun r s' h => ?_
    cases r with
    | error e => exact (show False from h).elim
    | ok fl =>
      cases fl with
      | next => exact False.elim h
      | brk => exact False.elim h
      | cont => exact False.elim h
      | ret u =>
        obtain ⟨v, H', os, bare, un, hok', r', q⟩ := h
        subst q; obtain rfl : u = Value.bool true := r'
        refine ⟨rfl, OldK.of_keep fun b o e => ?_, os, bare⟩
        cases q : H b with
        | none => exact un.keep b o e q (by intro z; exact absurd (show b ∈ ([] : List Addr) from z) (by simp)) (by simp)
        | some u =>
          rcases hO b with z | ⟨ob, xs, z⟩
          · rw [q] at z; cases z
          · obtain ⟨e1, _⟩ := hok b _ z; obtain ⟨e2, _⟩ := hok' b _ (un.frzs b ob _ z)
            rw [e] at e1; cases e1; exact e2
  cases hk : K.lookup a with
  | some o =>
    have e := KX a o hk; rw [ha] at e; cases e
    exact core (fun _ => none) (fun _ => .inl rfl) (.inr ⟨_, vs.toArray, _, hk, rfl, rfl, rfl, by rw [List.size_toArray, lenV]; exact hl, by simpa using rv⟩) (fun b u z => by cases (show (none : Option HO) = some u from z)) (fun b z => absurd rfl z) fun z => absurd rfl z
  | none =>
    refine core (fun b => if b = a then some (.frz { cls := .type "list", data := .seq vs.toArray } (.lst (ns.map V.int))) else none) (fun b => ?_) (.inl (.inr ⟨{ cls := .type "list", data := .seq vs.toArray }, if_pos rfl⟩)) (fun b u z => ?_) (fun b z => ?_) fun _ => hk
    · by_cases e : b = a
      · exact .inr ⟨_, _, if_pos e⟩
      · exact .inl (if_neg e)
    · by_cases e : b = a
      · cases (if_pos e).symm.trans z; subst e
        exact ⟨ha, by rw [List.length_map]; exact hl, vs, _, rv, ha⟩
      · cases (if_neg e).symm.trans z
    · by_cases e : b = a
      · exact e
      · exact absurd (if_neg e) z
theorem walk_ofG {l : PySem.W.OpenLaw} {n k : Nat} {q : Program} {loose : List Str} {XP : (Str → Option Value) → Heap → Prop} {YP : World → Heap → Prop} {d : DefRec} {K : Params → PySem.W.Frag} {sp : World → Sp} {x : Str} (hn : l.most = some n) (hn2 : n ≤ sizeLine) (hdf : d.params.defaults = []) (hr : Room k callerA) (hY : ∀ (w : World) (h : Heap), YP w h → (K w.params).In h)
    (F : ∀ (w : World) (mg : Str → Option Value) (fa : Addr) (h : Heap), (K w.params).In h → h.Ns mainGlobals mg → mg d.name = some (.ref fa) → ∃ fd : FuncData, (∀ (s : Shared) (u : Value), BindsTo s fd ⟨[u], []⟩ [(x, u)]) ∧ ∀ base : Heap, (K w.params).In base → base.Ns mainGlobals mg → RunG l.prog w (K w.params) mg base k fa fd [x] (sp w))
    (hsp : ∀ (w : World) (H : Hp) (a : Addr) (ns : List Int), ns.length ≤ n → Only H → SqL (K w.params) H a (ns.map V.int) → sp w [.ref a] H (fun v _ => v = .bl true) fun _ _ _ => False) : PySem.W.WalkO q loose XP YP l.row.toRowW d [] (fun f vs => PySem.call f vs) := by
  refine Att.attach_call hn hdf fun w s₀ s₁ mg mb fa o pm cd doc a vs ns G Y ho hd hcd hmg hobj hints hlen hg => ?_
  have KX := hY w _ Y; obtain ⟨fd, hb, hF⟩ := F w mg fa _ KX G.T.g hmg
  exact law_callG KX G.T.g G.T.b G.T.builtins G.T.nolimit hg hobj hints (Nat.le_trans hlen hn2) hr hF hb (fun H hO hS => hsp w H a ns hlen hO hS)
end TR
namespace TR
open PySem PySem.Spec PyProof.Rows L2
theorem scOdd : FnScope ["_law_deck_here", "_law_some"] ["_law_deck_here"] (defScope sOdd) := ⟨rfl, rfl, rfl, by decide +kernel, rfl, by decide +kernel, by decide +kernel⟩
def oddD : List PyData := [.none, .bool true, .bool false, .int 0, .int 1, .int (-1), .int 2, .int 8, .int 16, .int (10 ^ 12), .int (10 ^ 12 + 1), .int (10 ^ 59), .str "", .str "0", .str "triple", .tuple [], .tuple [.int 0], .tuple [.int 0, .int 1], .list [], .dict [], .list [.int 0], .tuple [.bool true], .tuple [.tuple []]]
theorem odd_wf : ∀ d ∈ oddD, Wf 2 2 d := by
  unfold oddD
  refine List.forall_mem_cons.mpr ⟨.inl trivial, List.forall_mem_cons.mpr ⟨.inl trivial, List.forall_mem_cons.mpr ⟨.inl trivial, List.forall_mem_cons.mpr ⟨.inl (by show _ ≤ 10 ^ 59 + 2; decide +kernel), List.forall_mem_cons.mpr ⟨.inl (by show _ ≤ 10 ^ 59 + 2; decide +kernel), List.forall_mem_cons.mpr ⟨.inl (by show _ ≤ 10 ^ 59 + 2; decide +kernel), List.forall_mem_cons.mpr ⟨.inl (by show _ ≤ 10 ^ 59 + 2; decide +kernel), List.forall_mem_cons.mpr ⟨.inl (by show _ ≤ 10 ^ 59 + 2; decide +kernel), List.forall_mem_cons.mpr ⟨.inl (by show _ ≤ 10 ^ 59 + 2; decide +kernel), List.forall_mem_cons.mpr ⟨.inl (by show _ ≤ 10 ^ 59 + 2; decide +kernel), List.forall_mem_cons.mpr ⟨.inl (by show _ ≤ 10 ^ 59 + 2; decide +kernel), List.forall_mem_cons.mpr ⟨.inl (by show _ ≤ 10 ^ 59 + 2; decide +kernel), List.forall_mem_cons.mpr ⟨.inl ⟨by decide +kernel, by decide +kernel⟩, List.forall_mem_cons.mpr ⟨.inl ⟨by decide +kernel, by decide +kernel⟩, List.forall_mem_cons.mpr ⟨.inl ⟨by decide +kernel, by decide +kernel⟩, List.forall_mem_cons.mpr ⟨.inr (.inr ⟨_, .inr rfl, by decide, by simp⟩), List.forall_mem_cons.mpr ⟨.inr (.inr ⟨_, .inr rfl, by decide, by intro e he; rw [List.mem_singleton] at he; subst he; exact .inl (by show _ ≤ 10 ^ 59 + 2; decide +kernel)⟩), List.forall_mem_cons.mpr ⟨.inr (.inr ⟨_, .inr rfl, by decide, by intro e he; simp only [List.mem_cons, List.not_mem_nil, or_false] at he; rcases he with rfl | rfl <;> exact .inl (by show _ ≤ 10 ^ 59 + 2; decide +kernel)⟩), List.forall_mem_cons.mpr ⟨.inr (.inr ⟨_, .inl rfl, by decide, by simp⟩), List.forall_mem_cons.mpr ⟨.inr (.inl rfl), List.forall_mem_cons.mpr ⟨.inr (.inr ⟨_, .inl rfl, by decide, by intro e he; rw [List.mem_singleton] at he; subst he; exact .inl (by show _ ≤ 10 ^ 59 + 2; decide +kernel)⟩), List.forall_mem_cons.mpr ⟨.inr (.inr ⟨_, .inr rfl, by decide, by intro e he; rw [List.mem_singleton] at he; subst he; exact .inl trivial⟩), List.forall_mem_cons.mpr ⟨.inr (.inr ⟨_, .inr rfl, by decide, by intro e he; rw [List.mem_singleton] at he; subst he; exact .inr (.inr ⟨[], .inr rfl, by decide, by simp⟩)⟩), (fun _ h => absurd h (by simp))⟩⟩⟩⟩⟩⟩⟩⟩⟩⟩⟩⟩⟩⟩⟩⟩⟩⟩⟩⟩⟩⟩⟩
/-- objects that stand -/
def Alive (B : List Addr) (H : Hp) : Prop := ∀ b ∈ B, ∃ o, H b = some o
theorem Alive.nil {H : Hp} : Alive [] H := fun b h => absurd h (by simp)
theorem Alive.same {B : List Addr} {H H' : Hp} (a : Alive B H) (s : Same H H') : Alive B H' := fun b hb => by
  obtain ⟨o, e⟩ := a b hb
  exact ⟨o, s _ _ e⟩
theorem Alive.keep {B : List Addr} {H H' : Hp} {d p q : Addr} {n : Nat} (a : Alive B H) (k : Keep d p H H') (D : Deck H' d p q n) : Alive B H' := fun b hb => by
  obtain ⟨o, e⟩ := a b hb
  by_cases h1 : b = d
  · obtain ⟨x, y, c, g⟩ := D.hd
    exact ⟨_, h1 ▸ g⟩
  · by_cases h2 : b = p
    · obtain ⟨x, g⟩ := D.hp
      exact ⟨_, h2 ▸ g⟩
    · exact ⟨o, k _ _ e h1 h2⟩
theorem Alive.fresh {B : List Addr} {H : Hp} {l : Addr} (a : Alive B H) (h : H l = none) : l ∉ B := fun hb => by
  obtain ⟨o, e⟩ := a l hb
  rw [h] at e
  cases e
theorem RpAll.keep {H H' : Hp} {ban : List Addr} {ds : List PyData} {xs : List V} {k p q : Addr} {n : Nat} (h : RpAll H ban ds xs) (D : Deck H k p q n) (s : Keep k p H H') (b1 : k ∈ ban) (b2 : p ∈ ban) : RpAll H' ban ds xs := by
  obtain ⟨x, y, c, e1⟩ := D.hd
  obtain ⟨zs, e2⟩ := D.hp
  refine RpAll.mv (fun a xs hn e => s _ _ e (fun z => hn (z ▸ b1)) (fun z => hn (z ▸ b2))) (fun a xs e => e.keep D s) (fun a e => s _ _ e (ne_of e e1 (by intro z; cases z)) (ne_of e e2 (by intro z; cases z))) ds xs h
section
variable {P : Program} {w : World} {K : PySem.W.Frag} {mg : Str → Option Value} {base : Heap}
def spOdd : Sp := fun vs H Q _ => ∃ (d p q : Addr) (c : Nat) (B : List Addr), vs = [.ref d] ∧ Deck H d p q c ∧ c ≤ 1000000 ∧ Alive B H ∧ ∀ H' x dd, Deck H' d p q (c + 1) → Keep d p H H' → Rp H' (d :: p :: sysModules :: B) dd x → Wf 2 2 dd → Q x H'
theorem ok_odd {f fN : Addr} {fd dN : FuncData} {k : Nat} (F : Fun K "_law_odd" "_law_odd" sOdd f fd) (kN : PySem.W.keepIn K (.ref fN) = true) (bN : Binds K dN ["_law_deck_here", "_law_many"] []) (gN : mg "_law_next" = some (.ref fN)) (GN : FnOk P w K mg base CX0 (k + 1) fN dN ["_law_deck_here", "_law_many"] spNext) :
    FnOk P w K mg base CX0 (k + 2) f fd ["_law_deck_here"] spOdd := by
  refine F.ok scOdd (fun vs H Q E h => ?_) (fun cdv A outer s H vs Q E hr h => ?_)
  · obtain ⟨d, p, q, c, B, rfl, _⟩ := h
    rfl
  · obtain ⟨d, p, q, c, B, rfl, D0, hc, hB, qq⟩ := h
    refine ⟨_, pss_cons (ps_set (i := 1) scOdd.nd rfl (.inl rfl) (pe_lstN (pa_cons (pe_non) (pa_cons (pe_bl) (pa_cons (pe_bl) (pa_cons (pe_int) (pa_cons (pe_int) (pa_cons (pe_un un_neg pe_int) (pa_cons (pe_int) (pa_cons (pe_int) (pa_cons (pe_int) (pa_cons (pe_op op_pow pe_int pe_int) (pa_cons (pe_op op_add (pe_op op_pow pe_int pe_int) pe_int) (pa_cons (pe_op op_pow pe_int pe_int) (pa_cons (pe_str) (pa_cons (pe_str) (pa_cons (pe_str) (pa_cons (pe_tupN pa_nil) (pa_cons (pe_tupN (pa_cons pe_int pa_nil)) pa_nil)))))))))))))))))))
      (pss_one (ps_ret (pe_ix ix_list (pe_op op_catN (pv 1) (pe_lstN (pa_cons (pe_tupN (pa_cons pe_int (pa_cons pe_int pa_nil))) (pa_cons (pe_lstN pa_nil) (pa_cons (pe_dnewN) (pa_cons (pe_lstN (pa_cons pe_int pa_nil)) (pa_cons (pe_tupN (pa_cons pe_bl pa_nil)) (pa_cons (pe_tupN (pa_cons (pe_tupN pa_nil) pa_nil)) pa_nil)))))))) (pe_call GN hr (by rfl) gN kN bN .nil pass0 (pa_cons (pv 0) (pa_cons pe_int pa_nil))) (fun _ _ => rfl)))), ?_⟩
    refine ⟨1, rfl, 10, 12, rfl, rfl, ⟨by decide, by decide, by decide⟩, 10, 12, rfl, rfl, ⟨by decide, by decide, by decide⟩, _, 1, rfl, rfl, 10, 59, rfl, rfl, ⟨by decide, by decide, by decide⟩, Nat.zero_le _, fun t1 H1 _ s1 e1 => ⟨by show 1 ≤ sizeLine; decide, fun t2 H2 _ s2 e2 => ⟨by show 17 ≤ sizeLine; decide, fun l0 H3 hl0 _ s3 e3 => ?_⟩⟩⟩
    refine ⟨.ref l0, rfl, by show 2 ≤ sizeLine; decide, fun t3 H4 _ s4 e4 => ⟨Nat.zero_le _, fun l1 H5 hl1 n1 s5 e5 => fun d1 H6 _ s6 e6 => ⟨by show 1 ≤ sizeLine; decide, fun l2 H7 hl2 n2 s7 e7 => ⟨by show 1 ≤ sizeLine; decide, fun t4 H8 _ s8 e8 => ⟨Nat.zero_le _, fun t5 H9 _ s9 e9 => ⟨by show 1 ≤ sizeLine; decide, fun t6 Ha _ sa ea => ⟨by show 6 ≤ sizeLine; decide, fun l3 Hb _ _ sb eb => ?_⟩⟩⟩⟩⟩⟩⟩
    have s9b := sa.trans sb
    have s8b := s9.trans s9b
    have s7b := s8.trans s8b
    have s6b := s7.trans s7b
    have s5b := s6.trans s6b
    have s4b := s5.trans s5b
    have s3b := s4.trans s4b
    have s2b := s3.trans s3b
    have s1b := s2.trans s2b
    have s0b := s1.trans s1b
    refine ⟨l0, l3, _, _, rfl, rfl, s3b _ _ e3, eb, by show 23 ≤ sizeLine; decide, fun l4 Hc hl4 sc ec => ?_⟩
    have D4 := D0.same (s1.trans (s2.trans (s3.trans s4)))
    have D6 := D4.same (s5.trans s6)
    have Db := D0.same s0b
    have b1 : l1 ∉ (d :: p :: sysModules :: B) := by
      simp only [List.mem_cons, not_or]
      exact ⟨D4.ned hl1, D4.nep hl1, n1, (hB.same (s1.trans (s2.trans (s3.trans s4)))).fresh hl1⟩
    have b2 : l2 ∉ (d :: p :: sysModules :: B) := by
      simp only [List.mem_cons, not_or]
      exact ⟨D6.ned hl2, D6.nep hl2, n2, (hB.same (s1.trans (s2.trans (s3.trans (s4.trans (s5.trans s6)))))).fresh hl2⟩
    have Dc := Db.same sc
    have all : RpAll Hc (d :: p :: sysModules :: B) oddD _ := ⟨.non, _, rfl, rfl, .bl true, _, rfl, rfl, .bl false, _, rfl, rfl, .int 0, _, rfl, rfl, .int 1, _, rfl, rfl, .int (-1), _, rfl, rfl, .int 2, _, rfl, rfl, .int 8, _, rfl, rfl, .int 16, _, rfl, rfl, .int (10 ^ 12), _, rfl, rfl, .int (10 ^ 12 + 1), _, rfl, rfl, .int (10 ^ 59), _, rfl, rfl, .str "", _, rfl, rfl, .str "0", _, rfl, rfl, .str "triple", _, rfl, rfl,
      .ref t1, _, rfl, ⟨t1, [], rfl, e1.same (s1b.trans sc), rfl⟩, .ref t2, _, rfl, ⟨t2, [.int 0], rfl, e2.same (s2b.trans sc), .int 0, [], rfl, rfl, rfl⟩, .ref t3, _, rfl, ⟨t3, [.int 0, .int 1], rfl, e4.same (s4b.trans sc), .int 0, _, rfl, rfl, .int 1, [], rfl, rfl, rfl⟩,
      .ref l1, _, rfl, ⟨l1, [], rfl, sc _ _ (s5b _ _ e5), b1, rfl⟩, .ref d1, _, rfl, ⟨rfl, d1, rfl, sc _ _ (s6b _ _ e6)⟩, .ref l2, _, rfl, ⟨l2, [.int 0], rfl, sc _ _ (s7b _ _ e7), b2, .int 0, [], rfl, rfl, rfl⟩, .ref t4, _, rfl, ⟨t4, [.bl true], rfl, e8.same (s8b.trans sc), .bl true, [], rfl, rfl, rfl⟩,
      .ref t6, [], rfl, ⟨t6, [.ref t5], rfl, ea.same (sb.trans sc), .ref t5, [], rfl, ⟨t5, [], rfl, e9.same (s9b.trans sc), rfl⟩, rfl⟩, rfl⟩
    refine ⟨.ref d, rfl, d, p, q, c, 23, rfl, Dc, by omega, by decide, by decide, fun Hd r r0 r1 Dd kd => ?_⟩
    obtain ⟨j, rfl⟩ := Int.eq_ofNat_of_zero_le r0
    have nld : l4 ≠ d := Db.ned hl4
    have nlp : l4 ≠ p := Db.nep hl4
    have ed := kd _ _ ec nld nlp
    have alld := all.keep Dc kd (by simp) (by simp)
    have el := alld.len
    have hj : j < oddD.length := by
      have : oddD.length = 23 := by decide
      omega
    rw [← el] at hj
    have gx := List.getElem?_eq_getElem hj
    obtain ⟨dd, hg, hrp⟩ := alld.get gx
    exact ⟨l4, _, (j : Int), _, rfl, rfl, sqL ed, atI_nat gx, qq Hd _ dd Dd ((Same.keep (s0b.trans sc)).trans kd) hrp (odd_wf dd (List.mem_of_getElem? hg))⟩
end
end TR
namespace TR
open PySem PySem.Spec PyProof.Rows L2
theorem scBent : FnScope ["_law_deck_here", "_law_thing", "_law_deep", "_law_spot"] ["_law_deck_here", "_law_thing", "_law_deep"] (defScope sBent) := ⟨rfl, rfl, rfl, by decide +kernel, rfl, by decide +kernel, by decide +kernel⟩
theorem RpAll.cut {H : Hp} {ban : List Addr} {ds : List PyData} {xs : List V} (h : RpAll H ban ds xs) (lo hi : Option Int) : RpAll H ban ((ds.drop (HT.sIx xs.length 0 lo)).take (HT.sIx xs.length xs.length hi - HT.sIx xs.length 0 lo)) (cutV xs lo hi) := (h.drop _).take _
theorem Wf.kids {L D : Nat} {ds : List PyData} (h : Wf L D (.tuple ds)) : 1 ≤ D ∧ ds.length ≤ L ∧ ∀ e ∈ ds, Wf L (D - 1) e := by
  cases D with
  | zero => exact (show False from h).elim
  | succ D =>
    rcases h with h | h | ⟨es, e, l, c⟩
    · exact (show False from h).elim
    · cases h
    · rcases e with e | e
      · cases e
      · injection e with e
        subst e
        exact ⟨by omega, l, c⟩
theorem Wf.tup {L D : Nat} {ds : List PyData} (l : ds.length ≤ L) (c : ∀ e ∈ ds, Wf L D e) : Wf L (D + 1) (.tuple ds) := .inr (.inr ⟨ds, .inr rfl, l, c⟩)
theorem Wf.lst {L D : Nat} {ds : List PyData} (l : ds.length ≤ L) (c : ∀ e ∈ ds, Wf L D e) : Wf L (D + 1) (.list ds) := .inr (.inr ⟨ds, .inl rfl, l, c⟩)
theorem Wf.leaf {L D : Nat} {d : PyData} (h : leafOk L d) : Wf L D d := by
  cases D with
  | zero => exact h
  | succ D => exact .inl h
theorem Wf.leaf_of {L D : Nat} {d : PyData} (h : Wf L D d) (t : tyD d = "int") : leafOk L d := by
  cases D with
  | zero => exact h
  | succ D =>
    rcases h with h | h | ⟨es, e, l, c⟩
    · exact h
    · subst h
      simp [tyD] at t
    · rcases e with e | e <;> subst e <;> simp [tyD] at t
theorem text_ok {L : Nat} {i : Int} (h : L ≤ 41) (g : i.natAbs ≤ 10 ^ 59 + L) : leafOk L (.str (Str.ofString (toString i))) := by
  refine ⟨?_, fun c hc => ?_⟩
  · have := int_text_length_le10 (k := 60) (by decide) (small_int h g)
    rw [PySem.ofString_length]
    omega
  · rw [signs_ofString] at hc
    obtain ⟨ch, _, rfl⟩ := List.mem_map.mp hc
    have := ch.valid
    have h2 : ch.toNat < 1114112 := by
      rcases this with h | h
      · exact Nat.lt_trans (show ch.val.toNat < 55296 from h) (by decide)
      · exact h.2
    exact Nat.lt_trans h2 (by decide)
theorem sIx_last (n : Nat) : HT.sIx n 0 (some (-1)) = n - 1 := by
  show (if (-1 : Int) < 0 then ((-1 : Int) + (n : Int)).toNat else min (-1 : Int).toNat n) = n - 1
  rw [if_pos (by decide)]
  omega
section
variable {P : Program} {w : World} {K : PySem.W.Frag} {mg : Str → Option Value} {base : Heap}
def spBent : Nat → Sp
  | 0 => fun _ _ _ _ => False
  | m + 1 => fun vs H Q _ => ∃ (d p q : Addr) (c : Nat) (x : V) (dd : PyData) (L D : Nat) (B : List Addr), vs = [.ref d, x, .int (m : Int)] ∧ Deck H d p q c ∧ c + 10 * (m + 1) ≤ 900000 ∧ Alive B H ∧ Rp H (d :: p :: sysModules :: B) dd x ∧ Wf L D dd ∧ 2 ≤ L ∧ L ≤ 40 ∧
      ∀ H' y ee, Deck H' d p q (c + 10 * (m + 1)) → Keep d p H H' → Rp H' (d :: p :: sysModules :: B) ee y → Wf (L + 1) (max D (m + 2)) ee → sz ee ≤ 2 * sz dd + 20 → Q y H'
theorem ok_bent {f fN fO : Addr} {fd dN dO : FuncData} (F : Fun K "_law_bent" "_law_bent" sBent f fd) (bB : Binds K fd ["_law_deck_here", "_law_thing", "_law_deep"] []) (gB : mg "_law_bent" = some (.ref f))
    (kN : PySem.W.keepIn K (.ref fN) = true) (bN : Binds K dN ["_law_deck_here", "_law_many"] []) (gN : mg "_law_next" = some (.ref fN)) (GN : ∀ k, FnOk P w K mg base CX0 (k + 1) fN dN ["_law_deck_here", "_law_many"] spNext)
    (kO : PySem.W.keepIn K (.ref fO) = true) (bO : Binds K dO ["_law_deck_here"] []) (gO : mg "_law_odd" = some (.ref fO)) (GO : ∀ k, FnOk P w K mg base CX0 (k + 2) fO dO ["_law_deck_here"] spOdd)
    (misi : mg "isinstance" = none) (mt : mg "tuple" = none) (mlen : mg "len" = none) (ml : mg "list" = none) (mi : mg "int" = none) (ms : mg "str" = none) : ∀ m, FnOk P w K mg base CX0 (m + 2) f fd ["_law_deck_here", "_law_thing", "_law_deep"] (spBent m)
  | 0 => ⟨fun vs H Q E h => (show False from h).elim, fun A outer s H args us vs Q E hr he hb hv h => (show False from h).elim⟩
  | m + 1 => by
    have GB := ok_bent F bB gB kN bN gN GN kO bO gO GO misi mt mlen ml mi ms m
    refine F.ok scBent (fun vs H Q E h => ?_) (fun cdv A outer s H vs Q E hr h => ?_)
    · obtain ⟨d, p, q, c, x, dd, L, D, B, rfl, _⟩ := h
      rfl
    · obtain ⟨d, p, q, c, x, dd, L, D, B, rfl, D0, hc, hB, hp, hw, hL2, hL, qq⟩ := h
      have GN' := GN (m + 1)
      have GO' := GO m
      obtain ⟨k1, k2, k3⟩ := kitD (K := K) dd
      have rest : ∃ t, PSs (cxOf CX0 P w K mg base ["_law_deck_here", "_law_thing", "_law_deep", "_law_spot"] "_law_bent" (defScope sBent) f cdv A outer s H E).nox ((defBody sBent).drop 1) t ∧
          ∀ H1, Deck H1 d p q (c + 1) → Keep d p H H1 → Rp H1 (d :: p :: sysModules :: B) dd x → t { nx := fun _ H' => Q .non H', rt := Q } [some (.ref d), some x, some (.int (m : Int)), none] H1 := by
        refine ⟨_, pss_cons (ps_if (pt_val (pe_callB call_isi (by rfl) misi (by decide +kernel) (pa_cons (pv 1) (pa_cons (pe_bltn (v := .ty "tuple") (by rfl) mt (by decide +kernel) rfl) pa_nil))))
            (pss_one (ps_ret (pe_ix ix_list (pe_lstN (pa_cons (pe_slice sl_tupN (pv 1) (po_some pe_int) po_none) (pa_cons (pe_op op_catTN (pv 1) (pe_slice sl_tupN (pv 1) (po_some (pe_un un_neg pe_int)) po_none)) (pa_cons (pe_revN (pv 1) (fun σ H Q Q' m h => let ⟨v, e, g⟩ := h; ⟨v, e, m _ _ g⟩)) (pa_cons (pe_callTy call_listN (by rfl) ml (by decide +kernel) (pa_cons (pv 1) pa_nil)) (pa_cons (pe_call GO' hr (by rfl) gO kO bO .nil pass0 (pa_cons (pv 0) pa_nil)) pa_nil))))))
              (pe_call GN' hr (by rfl) gN kN bN .nil pass0 (pa_cons (pv 0) (pa_cons pe_int pa_nil))) (fun _ _ => rfl)))) pss_nil)
          (pss_cons (ps_if (pt_val (pe_callB call_isi (by rfl) misi (by decide +kernel) (pa_cons (pv 1) (pa_cons (pe_bltn (v := .ty "int") (by rfl) mi (by decide +kernel) rfl) pa_nil))))
            (pss_one (ps_ret (pe_ix ix_list (pe_lstN (pa_cons (pe_op (OpR.either op_add op_add_bi) (pv 1) pe_int) (pa_cons (pe_op (OpR.either op_sub op_sub_bi) (pv 1) pe_int) (pa_cons (pe_callTy call_str_ib (by rfl) ms (by decide +kernel) (pa_cons (pv 1) pa_nil)) (pa_cons (pe_cmpR (op_eqD hr.units) (pv 1) pe_int (nomark _)) (pa_cons pe_int (pa_cons (pe_call GO' hr (by rfl) gO kO bO .nil pass0 (pa_cons (pv 0) pa_nil)) pa_nil)))))))
              (pe_call GN' hr (by rfl) gN kN bN .nil pass0 (pa_cons (pv 0) (pa_cons pe_int pa_nil))) (fun _ _ => rfl)))) pss_nil)
          (pss_one (ps_ret (pe_call GO' hr (by rfl) gO kO bO .nil pass0 (pa_cons (pv 0) pa_nil))))), fun H1 D1 kp1 hp1 => ?_⟩
        have finish : ∀ (ds : List PyData) (xs : List V) (H2 : Hp) (l : Addr) (n : Int), (n : Int) = (xs.length : Int) → 0 < n → n < 1000 → Deck H2 d p q (c + 2) → Keep d p H H2 → RpAll H2 (d :: p :: sysModules :: B) ds xs → H2 l = some (.lst xs) → l ≠ d → l ≠ p → (∀ e ∈ ds, Wf (L + 1) (max D (m + 2)) e ∧ sz e ≤ 2 * sz dd + 20) →
            spNext [.ref d, .int n] H2 (fun y H3 => rIxL K (.ref l) y H3 Q) E0 := by
          intro ds xs H2 l n en h0 h1 D2 kp2 hall hl nld nlp hwf
          refine ⟨d, p, q, c + 2, n, rfl, D2, by omega, h0, by omega, fun H3 r r0 r1 D3 kp3 => ?_⟩
          obtain ⟨j, rfl⟩ := Int.eq_ofNat_of_zero_le r0
          have hj : j < xs.length := by omega
          have all3 := hall.keep D2 kp3 (by simp) (by simp)
          obtain ⟨e, he, hre⟩ := all3.get (List.getElem?_eq_getElem hj)
          exact ⟨l, xs, (j : Int), _, rfl, rfl, sqL (kp3 _ _ hl nld nlp), atI_nat (List.getElem?_eq_getElem hj), qq H3 _ e (D3.mono (by omega)) (kp2.trans kp3) hre (hwf e (List.mem_of_getElem? he)).1 (hwf e (List.mem_of_getElem? he)).2⟩
        refine ⟨x, rfl, x, .ty "tuple", _, _, _, rfl, .ty _, tyRp hp1, k1, _, rfl, ?_⟩
        by_cases ht : tyD dd = "tuple"
        · rw [decide_eq_true ht]
          refine iteT ?_
          obtain ⟨ds, rfl⟩ := ty_tuple ht
          obtain ⟨a, xs, rfl, ha, hx⟩ := hp1
          obtain ⟨hD, hdl, hkids⟩ := hw.kids
          have xl : xs.length ≤ 40 := by
            rw [hx.len]
            omega
          have kid : ∀ e ∈ ds, Wf (L + 1) (max D (m + 2) - 1) e := fun e he => (hkids e he).mono (by omega) (by omega)
          have e1m : max D (m + 2) = (max D (m + 2) - 1) + 1 := by omega
          refine ⟨.ref a, rfl, 1, rfl, a, xs, rfl, ha, fun v1 H2 s2 h2 => ?_⟩
          have ha2 := tf_same s2 ha
          refine ⟨.ref a, rfl, .ref a, rfl, 1, rfl, -1, rfl, a, xs, rfl, ha2, fun v2 H3 s3 h3 => ?_⟩
          have ha3 := tf_same s3 ha2
          have ltail : (cutV xs (some (-1)) none).length ≤ 1 := by
            unfold cutV
            rw [sIx_last, HT.sIx_none, List.length_take]
            omega
          refine ⟨a, v2, xs, _, rfl, rfl, ha3, h3, ?_, fun v3 H4 s4 h4 => ?_⟩
          · exact Nat.le_of_lt (small1000 (by omega))
          have ha4 := tf_same s4 ha3
          refine ⟨.ref a, rfl, a, xs, rfl, ha4, fun v4 H5 s5 h5 => ?_⟩
          have ha5 := tf_same s5 ha4
          refine ⟨.ref a, rfl, a, xs, rfl, ha5.rd, fun v5 H6 hv5 nv5 s6 h6 => ?_⟩
          have s16 : Same H1 H6 := s2.trans (s3.trans (s4.trans (s5.trans s6)))
          have D5 := D1.same (s2.trans (s3.trans (s4.trans s5)))
          have D6 := D5.same s6
          refine ⟨.ref d, rfl, d, p, q, c + 1, B, rfl, D6, by omega, (hB.keep kp1 D1).same s16, fun H7 v6 d6 D7 kp7 hp6 hw6 => ?_⟩
          have b5 : v5 ∉ (d :: p :: sysModules :: B) := by
            simp only [List.mem_cons, not_or]
            exact ⟨D5.ned hv5, D5.nep hv5, nv5, ((hB.keep kp1 D1).same (s2.trans (s3.trans (s4.trans s5)))).fresh hv5⟩
          have hx6 := hx.same s16
          refine ⟨by show 5 ≤ sizeLine; decide, fun l H8 hl nl s8 e8 => ?_⟩
          have c1 : RpAll H6 (d :: p :: sysModules :: B) ((ds.drop (HT.sIx xs.length 0 (some 1))).take (HT.sIx xs.length xs.length none - HT.sIx xs.length 0 (some 1))) (cutV xs (some 1) none) := hx6.cut _ _
          have c2 : RpAll H6 (d :: p :: sysModules :: B) ((ds.drop (HT.sIx xs.length 0 (some (-1)))).take (HT.sIx xs.length xs.length none - HT.sIx xs.length 0 (some (-1)))) (cutV xs (some (-1)) none) := hx6.cut _ _
          have lc2 := c2.len
          have r1 : Rp H6 (d :: p :: sysModules :: B) (.tuple _) (.ref v1) := ⟨v1, _, rfl, tf_same (s3.trans (s4.trans (s5.trans s6))) h2, c1⟩
          have r2 : Rp H6 (d :: p :: sysModules :: B) (.tuple _) (.ref v3) := ⟨v3, _, rfl, tf_same (s5.trans s6) h4, hx6.app c2⟩
          have r3 : Rp H6 (d :: p :: sysModules :: B) (.tuple ds.reverse) (.ref v4) := ⟨v4, _, rfl, tf_same s6 h5, hx6.rev⟩
          have r4 : Rp H6 (d :: p :: sysModules :: B) (.list ds) (.ref v5) := ⟨v5, _, rfl, h6, b5, hx6⟩
          have kk : ∀ {ee : PyData} {vv : V}, Rp H6 (d :: p :: sysModules :: B) ee vv → Rp H8 (d :: p :: sysModules :: B) ee vv := fun h => (h.keep D6 kp7 (by simp) (by simp)).same s8
          refine ⟨.ref d, rfl, finish [.tuple _, .tuple _, .tuple _, .list _, d6] _ H8 l 5 rfl (by decide) (by decide) (D7.same s8) ((kp1.trans (Same.keep s16)).trans (kp7.trans (Same.keep s8))) ⟨_, _, rfl, kk r1, _, _, rfl, kk r2, _, _, rfl, kk r3, _, _, rfl, kk r4, _, _, rfl, hp6.same s8, rfl⟩ e8 (D7.ned hl) (D7.nep hl) ?_⟩
          have z6 : sz d6 ≤ 2 * (1 + szAll ds) + 20 := by
            have : sz d6 ≤ 7 := hw6.sz
            omega
          refine List.forall_mem_cons.mpr ⟨?_, List.forall_mem_cons.mpr ⟨?_, List.forall_mem_cons.mpr ⟨?_, List.forall_mem_cons.mpr ⟨?_, List.forall_mem_cons.mpr ⟨⟨hw6.mono (by omega) (by omega), z6⟩, fun _ h => absurd h (by simp)⟩⟩⟩⟩⟩
          · refine ⟨?_, by show 1 + szAll ((ds.drop _).take _) ≤ 2 * (1 + szAll ds) + 20; have := szAll_cut ds (HT.sIx xs.length 0 (some 1)) (HT.sIx xs.length xs.length none - HT.sIx xs.length 0 (some 1)); omega⟩
            rw [e1m]
            refine Wf.tup ?_ fun e he => kid e (List.mem_of_mem_drop (List.mem_of_mem_take he))
            rw [List.length_take, List.length_drop]
            omega
          · refine ⟨?_, by show 1 + szAll (ds ++ (ds.drop _).take _) ≤ 2 * (1 + szAll ds) + 20; rw [szAll_app]; have := szAll_cut ds (HT.sIx xs.length 0 (some (-1))) (HT.sIx xs.length xs.length none - HT.sIx xs.length 0 (some (-1))); omega⟩
            rw [e1m]
            refine Wf.tup ?_ fun e he => ?_
            · rw [List.length_append]
              omega
            · rcases List.mem_append.mp he with he | he
              · exact kid e he
              · exact kid e (List.mem_of_mem_drop (List.mem_of_mem_take he))
          · refine ⟨?_, by show 1 + szAll ds.reverse ≤ 2 * (1 + szAll ds) + 20; rw [szAll_rev]; omega⟩
            rw [e1m]
            refine Wf.tup ?_ fun e he => kid e (List.mem_reverse.mp he)
            rw [List.length_reverse]
            omega
          · refine ⟨?_, by show 1 + szAll ds ≤ 2 * (1 + szAll ds) + 20; omega⟩
            rw [e1m]
            exact Wf.lst (by omega) kid
        · rw [decide_eq_false ht]
          refine iteF ?_
          refine ⟨x, rfl, x, .ty "int", _, _, _, rfl, .ty _, tyRp hp1, k2, _, rfl, ?_⟩
          by_cases hib : tyD dd = "int" ∨ tyD dd = "bool"
          · rw [decide_eq_true hib]
            refine iteT ?_
            have fin2 : ∀ (i : Int) (z : Str) (b2 : Bool) (H6 : Hp) (v6 : V) (d6 : PyData), i.natAbs ≤ 10 ^ 59 + L → leafOk (L + 1) (.str z) → Deck H6 d p q (c + 2) → Keep d p H H6 → Rp H6 (d :: p :: sysModules :: B) d6 v6 → Wf 2 2 d6 →
                ∀ l H8, H6 l = none → l ≠ sysModules → Same H6 H8 → H8 l = some (.lst [.int (i + 1), .int (i - 1), .str z, .bl b2, .int 0, v6]) → spNext [.ref d, .int 6] H8 (fun y H3 => rIxL K (.ref l) y H3 Q) E0 := by
              intro i z b2 H6 v6 d6 hi hz D6 kp6 hp6 hw6 l H8 hl nl s8 e8
              refine finish [.int (i + 1), .int (i - 1), .str z, .bool b2, .int 0, d6] _ H8 l 6 rfl (by decide) (by decide) (D6.same s8) (kp6.trans (Same.keep s8)) ⟨_, _, rfl, rfl, _, _, rfl, rfl, _, _, rfl, rfl, _, _, rfl, rfl, _, _, rfl, rfl, _, _, rfl, hp6.same s8, rfl⟩ e8 (D6.ned hl) (D6.nep hl) ?_
              have z1 : 1 ≤ 2 * sz dd + 20 := by omega
              have z6 : sz d6 ≤ 2 * sz dd + 20 := by
                have : sz d6 ≤ 7 := hw6.sz
                omega
              refine List.forall_mem_cons.mpr ⟨⟨Wf.leaf (show (i + 1).natAbs ≤ 10 ^ 59 + (L + 1) by omega), z1⟩, List.forall_mem_cons.mpr ⟨⟨Wf.leaf (show (i - 1).natAbs ≤ 10 ^ 59 + (L + 1) by omega), z1⟩, List.forall_mem_cons.mpr ⟨⟨Wf.leaf hz, z1⟩, List.forall_mem_cons.mpr ⟨⟨Wf.leaf trivial, z1⟩, List.forall_mem_cons.mpr ⟨⟨Wf.leaf (show (0 : Int).natAbs ≤ 10 ^ 59 + (L + 1) from Nat.zero_le _), z1⟩, List.forall_mem_cons.mpr ⟨⟨hw6.mono (by omega) (by omega), z6⟩, fun _ h => absurd h (by simp)⟩⟩⟩⟩⟩⟩
            cases dd with
            | int i =>
              cases (show x = V.int i from hp1)
              have hi : i.natAbs ≤ 10 ^ 59 + L := hw.leaf_of rfl
              refine ⟨.int i, rfl, .inl ⟨i, 1, rfl, rfl, .int i, rfl, .inl ⟨i, 1, rfl, rfl, .int i, rfl, .inl ⟨i, rfl, small_log (small_int (by omega) hi), .int i, rfl, _, _, .int i, .int 1, rfl, rfl, ?_⟩⟩⟩⟩
              refine ⟨.ref d, rfl, d, p, q, c + 1, B, rfl, D1, by omega, hB.keep kp1 D1, fun H7 v6 d6 D7 kp7 hp6 hw6 => ⟨by show 6 ≤ sizeLine; decide, ?_⟩⟩
              exact fun l H8 hl nl s8 e8 => ⟨.ref d, rfl, fin2 i _ _ H7 v6 d6 hi (leafOk.mono (Nat.le_succ L) (text_ok (by omega) hi)) D7 (kp1.trans kp7) hp6 hw6 l H8 hl nl s8 e8⟩
            | bool b =>
              cases (show x = V.bl b from hp1)
              have hb : (if b = true then (1 : Int) else 0).natAbs ≤ 10 ^ 59 + L := by
                cases b
                · exact Nat.zero_le _
                · show 1 ≤ 10 ^ 59 + L
                  exact Nat.le_trans (by decide : 1 ≤ 10 ^ 59) (Nat.le_add_right _ _)
              refine ⟨.bl b, rfl, .inr ⟨b, 1, rfl, rfl, .bl b, rfl, .inr ⟨b, 1, rfl, rfl, .bl b, rfl, .inr ⟨b, rfl, .bl b, rfl, _, _, .bl b, .int 1, rfl, rfl, ?_⟩⟩⟩⟩
              refine ⟨.ref d, rfl, d, p, q, c + 1, B, rfl, D1, by omega, hB.keep kp1 D1, fun H7 v6 d6 D7 kp7 hp6 hw6 => ⟨by show 6 ≤ sizeLine; decide, ?_⟩⟩
              exact fun l H8 hl nl s8 e8 => ⟨.ref d, rfl, fin2 _ _ _ H7 v6 d6 hb (by cases b <;> exact ⟨by decide +kernel, by decide +kernel⟩) D7 (kp1.trans kp7) hp6 hw6 l H8 hl nl s8 e8⟩
            | none => simp [tyD] at hib
            | str z => simp [tyD] at hib
            | list z => simp [tyD] at hib
            | tuple z => simp [tyD] at hib
            | dict z => simp [tyD] at hib
          · rw [decide_eq_false hib]
            refine iteF ?_
            refine ⟨.ref d, rfl, d, p, q, c + 1, B, rfl, D1, by omega, hB.keep kp1 D1, fun H7 v6 d6 D7 kp7 hp6 hw6 => ?_⟩
            exact qq H7 v6 d6 (D7.mono (by omega)) (kp1.trans kp7) hp6 (hw6.mono (by omega) (by omega)) (by have : sz d6 ≤ 7 := hw6.sz; omega)
      obtain ⟨t2, ht2, q2⟩ := rest
      refine ⟨_, pss_cons (ps_if (PW.pt (pw_and (pt_val (pe_callB call_isi (by rfl) misi (by decide +kernel) (pa_cons (pv 1) (pa_cons (pe_bltn (v := .ty "tuple") (by rfl) mt (by decide +kernel) rfl) pa_nil))))
          (pw_and (pt_cmpR (op_neT0 hr.units0) (pv 1) (pe_tupN pa_nil) (nomark _)) (pw_and (pt_cmpR op_gt (pv 2) pe_int (nomark _)) (pw_and1 (pt_cmpR op_gt (pe_call GN' hr (by rfl) gN kN bN .nil pass0 (pa_cons (pv 0) (pa_cons pe_int pa_nil))) pe_int (nomark _)))))))
        (pss_cons (ps_set (i := 3) scBent.nd rfl (.inl rfl) (pe_call GN' hr (by rfl) gN kN bN .nil pass0 (pa_cons (pv 0) (pa_cons (pe_callB call_len_seq (by rfl) mlen PySem.boot_len (pa_cons (pv 1) pa_nil)) pa_nil))))
          (pss_one (ps_ret (pe_op op_catTN (pe_op op_catTN (pe_slice sl_tupN (pv 1) po_none (po_some (pv 3))) (pe_tupN (pa_cons (pe_call GB hr (by rfl) gB F.kp bB .nil pass0 (pa_cons (pv 0) (pa_cons (pe_ix ix_tup (pv 1) (pv 3) (fun _ _ => rfl)) (pa_cons (pe_op op_sub (pv 2) pe_int) pa_nil)))) pa_nil)))
            (pe_slice sl_tupN (pv 1) (po_some (pe_op op_add (pv 3) pe_int)) po_none))))) pss_nil) ht2, ?_⟩
      have early : ∀ H1, Same H H1 → t2 { nx := fun _ H' => Q .non H', rt := Q } [some (.ref d), some x, some (.int (m : Int)), none] H1 := fun H1 s1 => q2 H1 ((D0.same s1).mono (by omega)) (Same.keep s1) (hp.same s1)
      refine ⟨x, rfl, x, .ty "tuple", _, _, _, rfl, .ty _, tyRp hp, k1, _, rfl, ?_⟩
      by_cases ht : tyD dd = "tuple"
      · rw [decide_eq_true ht]
        refine iteT ?_
        obtain ⟨ds, rfl⟩ := ty_tuple ht
        obtain ⟨a, xs, ex, ha, hx⟩ := id hp
        subst ex
        obtain ⟨hD, hdl, hkids⟩ := hw.kids
        refine ⟨.ref a, rfl, Nat.zero_le _, fun e He _ se ee => ⟨a, e, xs, rfl, rfl, .inl (tf_same se ha).rd, .inl ee.rd, _, rfl, ?_⟩⟩
        cases xs with
        | nil => exact iteF (iteF (early He se))
        | cons x0 xr =>
          refine iteT ?_
          refine ⟨.int (m : Int), rfl, _, _, rfl, rfl, _, rfl, ?_⟩
          cases m with
          | zero => exact iteF (iteF (early He se))
          | succ m =>
            have c1 : decide (((m + 1 : Nat) : Int) > 0) = true := decide_eq_true (by omega)
            show if decide (((m + 1 : Nat) : Int) > 0) = true then _ else _
            rw [c1]
            refine iteT ?_
            refine ⟨.ref d, rfl, d, p, q, c, 4, rfl, D0.same se, by omega, by decide, by decide, fun H1 r r0 r1 D1 kp1 => ?_⟩
            have De := D0.same se
            have hp1 : Rp H1 (d :: p :: sysModules :: B) (.tuple ds) (.ref a) := (hp.same se).keep De kp1 (by simp) (by simp)
            have kpe : Keep d p H H1 := (Same.keep se).trans kp1
            refine ⟨_, _, rfl, rfl, _, rfl, ite2 (fun _ => ?_) (fun _ => q2 H1 D1 kpe hp1)⟩
            obtain ⟨a', xs', ex, ha1, hx1⟩ := hp1
            cases ex
            have exs : xs' = x0 :: xr := by
              obtain ⟨o1, _, u1⟩ := ha1
              obtain ⟨o2, _, u2⟩ := (tf_same se ha).keep De kp1
              rw [u1] at u2
              cases u2
              rfl
            subst exs
            have hxl := hx.len
            have xl : (x0 :: xr).length ≤ 40 := by
              rw [hxl]
              omega
            generalize hxs : x0 :: xr = xs at *
            have hpos : 0 < xs.length := by
              rw [← hxs]
              exact Nat.succ_pos _
            refine ⟨.ref d, rfl, .ref a, rfl, a, xs, rfl, .inr (.inl ha1.rd), d, p, q, c + 1, _, rfl, D1, by omega, by omega, by omega, fun H2 r r0 r1 D2 kp2 => ?_⟩
            obtain ⟨j, rfl⟩ := Int.eq_ofNat_of_zero_le r0
            have hj : j < xs.length := by omega
            have hp2 : Rp H2 (d :: p :: sysModules :: B) (.tuple ds) (.ref a) := Rp.keep (show Rp H1 (d :: p :: sysModules :: B) (.tuple ds) (.ref a) from ⟨a, xs, rfl, ha1, hx1⟩) D1 kp2 (by simp) (by simp)
            have rdk : ∀ {Hx Hy : Hp} {cc : Nat} {b : Addr} {ys : List V}, Deck Hx d p q cc → Keep d p Hx Hy → TF Hx b ys → TF Hy b ys := fun Dx kx e => e.keep Dx kx
            have ha2 := rdk D1 kp2 ha1
            have hx2 := RpAll.keep hx1 D1 kp2 (by simp) (by simp)
            refine ⟨.ref a, rfl, .int (j : Int), rfl, _, rfl, a, xs, rfl, ha2, fun v1 H3 s3 h3 => ?_⟩
            have hx3 := hx2.same s3
            have ha3 := tf_same s3 ha2
            have D3 := D2.same s3
            obtain ⟨dj, hdj, hrj⟩ := hx3.get (List.getElem?_eq_getElem hj)
            have mj : dj ∈ ds := List.mem_of_getElem? hdj
            have ev : ((m + 1 : Nat) : Int) - 1 = (m : Int) := by omega
            refine ⟨.ref d, rfl, .ref a, rfl, .int (j : Int), rfl, a, xs, _, _, rfl, rfl, .inl ha3.rd, atI_nat (List.getElem?_eq_getElem hj), .int ((m + 1 : Nat) : Int), rfl, _, 1, rfl, rfl, ?_⟩
            refine ⟨d, p, q, c + 1 + 1, xs[j], dj, L, D - 1, B, ?_, D3, by omega, ((hB.keep kpe D1).keep kp2 D2).same s3, hrj, hkids dj mj, hL2, hL, fun H4 y ee D4 kp4 hpy hwy hzy => ?_⟩
            · show [V.ref d, xs[j], V.int (((m + 1 : Nat) : Int) - 1)] = _
              rw [ev]
            have h4 := rdk D3 kp4 h3
            have ha4 := rdk D3 kp4 ha3
            have hx4 := RpAll.keep hx3 D3 kp4 (by simp) (by simp)
            refine ⟨by show 1 ≤ sizeLine; decide, fun u H5 _ s5 e5 => ?_⟩
            have e2 : cutV xs none (some (j : Int)) = xs.take j := by
              unfold cutV
              rw [HT.sIx_none, HT.sIx_nat, Nat.min_eq_left (by omega)]
              rfl
            rw [e2] at h4
            refine ⟨v1, u, xs.take j, [y], rfl, rfl, tf_same s5 h4, e5, ?_, fun u2 H6 s6 h6 => ?_⟩
            · rw [List.length_take]
              exact Nat.le_of_lt (small1000 (by show min j xs.length + 1 ≤ 1000; omega))
            have s46 := s5.trans s6
            refine ⟨.ref a, rfl, .int (j : Int), rfl, _, 1, rfl, rfl, _, rfl, a, xs, rfl, tf_same s46 ha4, fun u3 H7 s7 h7 => ?_⟩
            have e3 : cutV xs (some ((j : Int) + 1)) none = xs.drop (j + 1) := by
              unfold cutV
              rw [show ((j : Int) + 1) = ((j + 1 : Nat) : Int) by omega, HT.sIx_none, HT.sIx_nat, Nat.min_eq_left (by omega)]
              exact List.take_of_length_le (by rw [List.length_drop]; exact Nat.le_refl _)
            have h7' : TF H7 u3 (xs.drop (j + 1)) := by
              rw [← e3]
              exact h7
            refine ⟨u2, u3, _, _, rfl, rfl, tf_same s7 h6, h7', ?_, fun u4 H8 s8 h8 => ?_⟩
            · rw [List.length_append, List.length_take, List.length_drop]
              exact Nat.le_of_lt (small1000 (by show min j xs.length + 1 + (xs.length - (j + 1)) ≤ 1000; omega))
            have s48 := s46.trans (s7.trans s8)
            have hx8 := hx4.same s48
            refine qq H8 (.ref u4) (.tuple ((ds.take j ++ [ee]) ++ ds.drop (j + 1))) ((D4.same s48).mono (by omega)) ((kpe.trans kp2).trans ((Same.keep s3).trans (kp4.trans (Same.keep s48)))) ⟨u4, _, rfl, h8, RpAll.app (RpAll.app (hx8.take j) ⟨y, [], rfl, hpy.same s48, rfl⟩) (hx8.drop (j + 1))⟩ ?_ ?_
            rotate_left
            · have h1 := szAll_take ds j
              have h2 : szAll (ds.drop j) = sz dj + szAll (ds.drop (j + 1)) := by
                have hjd : j < ds.length := (List.getElem?_eq_some_iff.mp hdj).1
                rw [List.drop_eq_getElem_cons hjd, (List.getElem?_eq_some_iff.mp hdj).2]
                rfl
              show 1 + szAll ((ds.take j ++ [ee]) ++ ds.drop (j + 1)) ≤ 2 * (1 + szAll ds) + 20
              rw [szAll_app, szAll_app]
              show 1 + (szAll (ds.take j) + (sz ee + 0) + szAll (ds.drop (j + 1))) ≤ _
              omega
            have em : max D (m + 1 + 2) = (max D (m + 1 + 2) - 1) + 1 := by omega
            rw [em]
            refine Wf.tup ?_ fun z hz => ?_
            · rw [List.length_append, List.length_append, List.length_take, List.length_drop]
              show min j ds.length + 1 + (ds.length - (j + 1)) ≤ L + 1
              omega
            · rcases List.mem_append.mp hz with hz | hz
              · rcases List.mem_append.mp hz with hz | hz
                · exact (hkids z (List.mem_of_mem_take hz)).mono (by omega) (by omega)
                · rw [List.mem_singleton] at hz
                  subst hz
                  exact hwy.mono (Nat.le_refl _) (by omega)
              · exact (hkids z (List.mem_of_mem_drop hz)).mono (by omega) (by omega)
      · rw [decide_eq_false ht]
        exact iteF (iteF (early H (Same.refl _)))
end
end TR
namespace TR
open PySem PySem.Spec PyProof.Rows L2
theorem shapedT_ints (xs : List Int) : SeqAt.shaped (.tuple (xs.map PyData.int)) = true := by
  show (PyData.canLayAll0 (xs.map PyData.int) && decide (PyData.depthAll (xs.map PyData.int) + 1 ≤ 64)) = true
  rw [can_ints, dep_ints]
  rfl
theorem eqvAll_intsL : ∀ xs ys : List Int, PyData.eqvAll (xs.map PyData.int) (ys.map PyData.int) = decide (xs = ys)
  | [], [] => rfl
  | [], y :: ys => rfl
  | x :: xs, [] => rfl
  | x :: xs, y :: ys => by
    show ((x == y) && PyData.eqvAll (xs.map PyData.int) (ys.map PyData.int)) = decide (x :: xs = y :: ys)
    rw [eqvAll_intsL xs ys]
    by_cases h : x = y
    · subst h
      by_cases g : xs = ys
      · subst g; simp
      · simp [g]
    · simp [h]
theorem eqvT_ints (xs ys : List Int) : PyData.eqv (.tuple (xs.map PyData.int)) (.tuple (ys.map PyData.int)) = decide (xs = ys) := eqvAll_intsL xs ys
end TR
namespace TR
open PySem PySem.Spec PyProof.Rows L2
/-- len(xs), the written part named -/
def rLenK (K : PySem.W.Frag) : List V → Hp → VK → Prop := fun xs H Q => ∃ p ys, xs = [V.ref p] ∧ (SqL K H p ys ∨ SqT K H p ys) ∧ Q (V.int (ys.length : Int)) H
end TR
namespace TR
open PySem PySem.Spec PyProof.Rows L2
theorem scDrawn : FnScope ["_law_deck_here", "_law_one_here", "_law_other", "_law_found"] ["_law_deck_here", "_law_one_here", "_law_other"] (defScope sDrawn) := ⟨rfl, rfl, rfl, by decide +kernel, rfl, by decide +kernel, by decide +kernel⟩
theorem Rts.keep {H H' : Hp} {vs : List V} {ps : List (List Int)} {d p q : Addr} {n : Nat} (h : Rts H vs ps) (D : Deck H d p q n) (s : Keep d p H H') : Rts H' vs ps := by
  induction h with
  | nil => exact .nil
  | cons e _ ih => exact .cons (e.keep D s) ih
def Wd (d p q a b g : Addr) (c n : Nat) (ms : List Int) (H : Hp) (m : Nat) (σ : L2.St) (H3 : Hp) : Prop :=
  ∃ xs rows cur, σ = [some (.ref d), some (.ref a), some (.ref b), some (.ref g)] ∧ H3 g = some (.lst xs) ∧ Rts H3 xs (rows ++ [cur]) ∧ (∀ r ∈ rows, Rank n r) ∧ Rank n cur ∧ dist cur ms = m ∧ rows.length + m ≤ 28 ∧ Deck H3 d p q (c + rows.length) ∧ Keep d p H H3 ∧ Tp H3 b ms
section
variable {P : Program} {w : World} {K : PySem.W.Frag} {mg : Str → Option Value} {base : Heap}
def spDrawn : Sp := fun vs H Q _ => ∃ (d p q a b : Addr) (c n : Nat) (ns ms : List Int), vs = [.ref d, .ref a, .ref b] ∧ Deck H d p q c ∧ c ≤ 800000 ∧ Tp H a ns ∧ Tp H b ms ∧ Rank n ns ∧ Rank n ms ∧ 1 ≤ n ∧ n ≤ 8 ∧
  ∀ H' t xs rows, Deck H' d p q (c + 30) → Keep d p H H' → TF H' t xs → Rts H' xs rows → (∀ r ∈ rows, Rank n r) → 1 ≤ rows.length → rows.length ≤ 29 → Q (.ref t) H'
theorem ok_Drawn {f f__law_exchanged f__law_one f__law_useful : Addr} {fd d__law_exchanged d__law_one d__law_useful : FuncData} {m : Nat} (F : Fun K "_law_drawn_path" "_law_drawn_path" sDrawn f fd)
    (k__law_exchanged : PySem.W.keepIn K (.ref f__law_exchanged) = true) (b__law_exchanged : Binds K d__law_exchanged ["_law_row", "_law_k"] []) (g__law_exchanged : mg "_law_exchanged" = some (.ref f__law_exchanged)) (G__law_exchanged : FnOk P w K mg base CX0 m f__law_exchanged d__law_exchanged ["_law_row", "_law_k"] spExch)
    (k__law_one : PySem.W.keepIn K (.ref f__law_one) = true) (b__law_one : Binds K d__law_one ["_law_deck_here", "_law_some"] []) (g__law_one : mg "_law_one" = some (.ref f__law_one)) (G__law_one : FnOk P w K mg base CX0 m f__law_one d__law_one ["_law_deck_here", "_law_some"] spOne)
    (k__law_useful : PySem.W.keepIn K (.ref f__law_useful) = true) (b__law_useful : Binds K d__law_useful ["_law_row", "_law_target"] []) (g__law_useful : mg "_law_useful" = some (.ref f__law_useful)) (G__law_useful : FnOk P w K mg base CX0 m f__law_useful d__law_useful ["_law_row", "_law_target"] spWrong)
    (m_tuple : mg "tuple" = none) : FnOk P w K mg base CX0 (m + 1) f fd ["_law_deck_here", "_law_one_here", "_law_other"] spDrawn := by
  refine F.ok scDrawn (fun vs H Q E h => ?_) (fun cdv A outer s H vs Q E hr h => ?_)
  · obtain ⟨d, p, q, a, b, c, n, ns, ms, rfl, _⟩ := h
    rfl
  · obtain ⟨d, p, q, a, b, c, n, ns, ms, rfl, D0, hc, ha, hb, hna, hnb, hn1, hn, qq⟩ := h
    refine ⟨_, 
      (pss_cons (ps_set (i := 3) scDrawn.nd rfl (.inl rfl) (pe_lst (pa_cons (pv 1) pa_nil))) 
      (pss_cons (ps_while PassesOwn.never (pt_cmpR (op_neD hr.units) (pe_ix (r := rIxL K) ix_list (pv 3) (pe_un un_neg pe_int) (fun _ _ => rfl)) (pv 2) (nomark _)) 
        (pss_one (ps_expr (pe_bm PySem.F.plainAttrs_list PySem.F.slot_list_append PySem.F.type_list_append mt_append (pv 3) (pa_cons (pe_call G__law_exchanged hr (by rfl) g__law_exchanged k__law_exchanged b__law_exchanged .nil pass0 (pa_cons (pe_ix (r := rIxL K) ix_list (pv 3) (pe_un un_neg pe_int) (fun _ _ => rfl)) (pa_cons (pe_call G__law_one hr (by rfl) g__law_one k__law_one b__law_one .nil pass0 (pa_cons (pv 0) (pa_cons (pe_call G__law_useful hr (by rfl) g__law_useful k__law_useful b__law_useful .nil pass0 (pa_cons (pe_ix (r := rIxL K) ix_list (pv 3) (pe_un un_neg pe_int) (fun _ _ => rfl)) (pa_cons (pv 2) pa_nil))) pa_nil))) pa_nil))) pa_nil))))) 
      (pss_one (ps_ret (pe_callTy call_tupleF (by rfl) m_tuple (by decide +kernel) (pa_cons (pv 3) pa_nil)))))), ?_⟩
    refine ⟨.ref a, rfl, by show 1 ≤ sizeLine; decide, fun g hg => ?_⟩
    have ngd : g ≠ d := D0.ned hg
    have ngp : g ≠ p := D0.nep hg
    have ngq : g ≠ q := D0.neq hg
    have d0 := dist_le28 ms hna hn
    refine ⟨Wd d p q a b g c n ms H, ⟨dist ns ms, [.ref a], [], ns, rfl, upd_same, .cons (ha.same (same_upd hg)) .nil, (fun r hr => by cases hr), hna, rfl, by show 0 + _ ≤ 28; omega, D0.same (same_upd hg), Same.keep (same_upd hg), hb.same (same_upd hg)⟩, fun m σ H3 hW => ?_⟩
    obtain ⟨xs, rows, cur, rfl, eg, hR, hrs, hrk, hd, hm, D3, k3, hb3⟩ := hW
    obtain ⟨ys, t, rfl, hR2, ht⟩ := hR.snoc
    have hyl := hR2.len
    refine ⟨.ref g, rfl, 1, rfl, g, _, -1, _, rfl, rfl, sqL eg, atI_last _ _, .ref b, rfl, _, _, .tup ht.sq (dpAll_ints _), .tup hb3.sq (dpAll_ints _), shapedT_ints _, shapedT_ints _, _, rfl, ?_⟩
    rw [eqvT_ints]
    by_cases em : cur = ms
    · rw [decide_eq_true em]
      refine iteF ⟨.ref g, rfl, g, _, rfl, sqL eg, fun u o hu ho => qq _ u _ _ ((D3.same (same_upd hu)).mono (by omega)) (k3.trans (Same.keep (same_upd hu))) (TF.new ho) (hR.same (same_upd hu)) (fun r hr => ?_) ?_ ?_⟩
      · rcases List.mem_append.mp hr with hr | hr
        · exact hrs r hr
        · rw [List.mem_singleton] at hr
          rw [hr]
          exact hrk
      · rw [List.length_append]
        show 1 ≤ rows.length + 1
        omega
      · rw [List.length_append]
        show rows.length + 1 ≤ 29
        omega
    · rw [decide_eq_false em]
      refine iteT ⟨fun σ' H' => ∃ m', m' < m ∧ Wd d p q a b g c n ms H m' σ' H', fun σ' H' h => h, ?_⟩
      refine ⟨.ref g, rfl, .inl ⟨rfl, _, sqL eg⟩, .ref g, rfl, 1, rfl, g, _, -1, _, rfl, rfl, sqL eg, atI_last _ _, .ref d, rfl, .ref g, rfl, 1, rfl, g, _, -1, _, rfl, rfl, sqL eg, atI_last _ _, .ref b, rfl, t, b, n, cur, ms, rfl, ht, hb3, hrk, hnb, hn1, hn, fun H4 l s4 hl el => ?_⟩
      have D4 := D3.same s4
      have wne : wrongN cur ms ≠ [] := fun e => em (wrong_nil hrk hnb e)
      have wlen : (wrongs cur ms).length ≤ 8 := by
        unfold wrongs wrongN
        rw [List.length_map]
        have := List.length_filter_le (fun k => pref ms (cur.getD (k + 1) 0) (cur.getD k 0)) (List.range (cur.length - 1))
        rw [List.length_range] at this
        have := hrk.len
        omega
      refine ⟨d, p, q, l, c + rows.length, _, rfl, D4, by omega, el, D3.ned hl, D3.nep hl, ?_, by rw [List.length_map]; omega, fun H5 x hx D5 k5 => ?_⟩
      · unfold wrongs
        simpa using wne
      · obtain ⟨z, hz, rfl⟩ := List.mem_map.mp hx
        obtain ⟨k, hk, rfl⟩ := List.mem_map.mp hz
        have hk1 := mem_wrongN.mp hk
        have hk2 : k + 1 < n := by have := hrk.len; omega
        have ed := dist_swap (ms := ms) hrk hk
        have ht5 := (ht.same s4).keep D4 k5
        refine ⟨t, cur, n, k, rfl, ht5, hrk, hk2, hn, fun H6 u s6 hru tu => ?_⟩
        have eg6 := s6 _ _ (k5 _ _ (s4 _ _ eg) ngd ngp)
        refine ⟨g, _, _, rfl, rfl, eg6, ?_, dist (swp cur k) ms, by omega, _, rows ++ [cur], swp cur k, rfl, upd_same, ?_, fun r hr => ?_, hru, rfl, ?_, ?_, ?_, ?_⟩
        · rw [List.length_append]
          exact small1000 (by show ys.length + 1 ≤ 1000; omega)
        · exact ((((hR2.append (.cons ht .nil)).same s4).keep D4 k5).same s6 |>.upd_lst eg6).append (.cons (tu.updl eg6) .nil)
        · rcases List.mem_append.mp hr with hr | hr
          · exact hrs r hr
          · rw [List.mem_singleton] at hr
            rw [hr]
            exact hrk
        · rw [List.length_append]
          show rows.length + 1 + dist (swp cur k) ms ≤ 28
          omega
        · rw [List.length_append]
          exact ((D5.same s6).upd ngd ngp ngq).mono (by show c + rows.length + 1 ≤ c + (rows.length + 1); omega)
        · exact keep_fresh (k3.trans ((Same.keep s4).trans (k5.trans (Same.keep s6)))) hg
        · exact (((hb3.same s4).keep D4 k5).same s6).updl eg6
end
end TR
namespace TR
open PySem PySem.Spec PyProof.Rows L2
theorem scDetour : FnScope ["_law_deck_here", "_law_path", "_law_at", "_law_row"] ["_law_deck_here", "_law_path"] (defScope sDetour) := ⟨rfl, rfl, rfl, by decide +kernel, rfl, by decide +kernel, by decide +kernel⟩
theorem Rts.take {H : Hp} {vs : List V} {ps : List (List Int)} (h : Rts H vs ps) : ∀ k, Rts H (vs.take k) (ps.take k) := by
  induction h with
  | nil => intro k; rw [List.take_nil, List.take_nil]; exact .nil
  | cons e _ ih =>
    intro k
    cases k with
    | zero => exact .nil
    | succ k => exact .cons e (ih k)
theorem Rts.drop {H : Hp} {vs : List V} {ps : List (List Int)} (h : Rts H vs ps) : ∀ k, Rts H (vs.drop k) (ps.drop k) := by
  induction h with
  | nil => intro k; rw [List.drop_nil, List.drop_nil]; exact .nil
  | cons e g ih =>
    intro k
    cases k with
    | zero => exact .cons e g
    | succ k => exact ih k
theorem Rts.rev {H : Hp} {vs : List V} {ps : List (List Int)} (h : Rts H vs ps) : Rts H vs.reverse ps.reverse := by
  induction h with
  | nil => exact .nil
  | cons e g ih =>
    rw [List.reverse_cons, List.reverse_cons]
    exact ih.append (.cons e .nil)
theorem cut_last {xs : List V} : cutV xs (some (-1)) none = xs.drop (xs.length - 1) := by
  unfold cutV
  rw [sIx_last, HT.sIx_none]
  exact List.take_of_length_le (by rw [List.length_drop]; omega)
section
variable {P : Program} {w : World} {K : PySem.W.Frag} {mg : Str → Option Value} {base : Heap}
def spDetour : Sp := fun vs H Q _ => ∃ (d p q t : Addr) (c n : Nat) (xs : List V) (rows : List (List Int)), vs = [.ref d, .ref t] ∧ Deck H d p q c ∧ c ≤ 800000 ∧ TF H t xs ∧ Rts H xs rows ∧ (∀ r ∈ rows, Rank n r) ∧ 1 ≤ rows.length ∧ rows.length ≤ 29 ∧ n ≤ 8 ∧ 1 ≤ n ∧
  ∀ H' u ys rows', Deck H' d p q (c + 2) → Keep d p H H' → TF H' u ys → Rts H' ys rows' → (∀ r ∈ rows', Rank n r) → rows'.length ≤ 31 → Q (.ref u) H'
theorem ok_Detour {f f__law_next f__law_exchanged : Addr} {fd d__law_next d__law_exchanged : FuncData} {m : Nat} (F : Fun K "_law_detour" "_law_detour" sDetour f fd)
    (k__law_next : PySem.W.keepIn K (.ref f__law_next) = true) (b__law_next : Binds K d__law_next ["_law_deck_here", "_law_many"] []) (g__law_next : mg "_law_next" = some (.ref f__law_next)) (G__law_next : FnOk P w K mg base CX0 m f__law_next d__law_next ["_law_deck_here", "_law_many"] spNext)
    (k__law_exchanged : PySem.W.keepIn K (.ref f__law_exchanged) = true) (b__law_exchanged : Binds K d__law_exchanged ["_law_row", "_law_k"] []) (g__law_exchanged : mg "_law_exchanged" = some (.ref f__law_exchanged)) (G__law_exchanged : FnOk P w K mg base CX0 m f__law_exchanged d__law_exchanged ["_law_row", "_law_k"] spExch)
    (m_len : mg "len" = none) : FnOk P w K mg base CX0 (m + 1) f fd ["_law_deck_here", "_law_path"] spDetour := by
  refine F.ok scDetour (fun vs H Q E h => ?_) (fun cdv A outer s H vs Q E hr h => ?_)
  · obtain ⟨d, p, q, t, c, n, xs, rows, rfl, _⟩ := h
    rfl
  · obtain ⟨d, p, q, t, c, n, xs, rows, rfl, D0, hc, ht, hR, hrs, h1, h29, hn, hn1, qq⟩ := h
    refine ⟨_, 
      (pss_cons (ps_set (i := 2) scDetour.nd rfl (.inl rfl) (pe_call G__law_next hr (by rfl) g__law_next k__law_next b__law_next .nil pass0 (pa_cons (pv 0) (pa_cons (pe_callB call_len_seq (by rfl) m_len PySem.boot_len (pa_cons (pv 1) pa_nil)) pa_nil)))) 
      (pss_cons (ps_set (i := 3) scDetour.nd rfl (.inl rfl) (pe_ix (r := rIxT K) ix_tup (pv 1) (pv 2) (fun _ _ => rfl))) 
      (pss_cons (ps_if (pt_cmpR op_lt (pe_callB call_len_seq (by rfl) m_len PySem.boot_len (pa_cons (pv 3) pa_nil)) pe_int (nomark _)) 
        (pss_one (ps_ret (pe_op op_catTN (pv 1) (pe_slice sl_tupN (pv 1) (po_some (pe_un un_neg pe_int)) po_none)))) pss_nil) 
      (pss_cons (ps_set (i := 3) scDetour.nd rfl (.inl rfl) (pe_call G__law_exchanged hr (by rfl) g__law_exchanged k__law_exchanged b__law_exchanged .nil pass0 (pa_cons (pv 3) (pa_cons (pe_call G__law_next hr (by rfl) g__law_next k__law_next b__law_next .nil pass0 (pa_cons (pv 0) (pa_cons (pe_op op_sub (pe_callB call_len_seq (by rfl) m_len PySem.boot_len (pa_cons (pv 3) pa_nil)) pe_int) pa_nil))) pa_nil)))) 
      (pss_one (ps_ret (pe_op op_catTN (pe_op op_catTN (pe_slice sl_tupN (pv 1) po_none (po_some (pe_op op_add (pv 2) pe_int))) (pe_tupN (pa_cons (pv 3) pa_nil))) (pe_slice sl_tupN (pv 1) (po_some (pv 2)) po_none)))))))), ?_⟩
    have hxl := hR.len
    refine ⟨.ref d, rfl, .ref t, rfl, t, xs, rfl, .inr (.inl ht.rd), d, p, q, c, _, rfl, D0, by omega, by omega, by omega, fun H1 z z0 z1 D1 k1 => ?_⟩
    obtain ⟨j, rfl⟩ := Int.eq_ofNat_of_zero_le z0
    have hj : j < xs.length := by omega
    have ht1 := ht.keep D0 k1
    have hR1 := hR.keep D0 k1
    obtain ⟨b, r, ex, hg, hb⟩ := hR1.get (List.getElem?_eq_getElem hj)
    have hrk := hrs r (List.mem_of_getElem? hg)
    have atj : atI xs (j : Int) = some (.ref b) := by
      rw [← ex]
      exact atI_nat (List.getElem?_eq_getElem hj)
    refine ⟨.ref t, rfl, .int (j : Int), rfl, t, xs, _, _, rfl, rfl, .inl ht1.rd, atj, ?_⟩
    have hlr : (r.map V.int).length = n := by rw [List.length_map]; exact hrk.len
    refine ⟨.ref b, rfl, b, _, rfl, .inr hb.sq, _, _, rfl, rfl, _, rfl, ite2 (fun _ => ?_) (fun hge => ?_)⟩
    · refine ⟨.ref t, rfl, .ref t, rfl, 1, rfl, -1, rfl, t, xs, rfl, ht1, fun u H2 s2 hu => ?_⟩
      rw [cut_last] at hu
      refine ⟨t, u, xs, _, rfl, rfl, ht1.same s2, hu, ?_, fun v H3 s3 hv => qq H3 v _ (rows ++ rows.drop (xs.length - 1)) ((D1.same (s2.trans s3)).mono (by omega)) (k1.trans (Same.keep (s2.trans s3))) hv (((hR1.same (s2.trans s3)).append ((hR1.same (s2.trans s3)).drop _))) (fun y hy => ?_) ?_⟩
      · rw [List.length_drop]
        exact Nat.le_of_lt (small1000 (by omega))
      · rcases List.mem_append.mp hy with hy | hy
        · exact hrs y hy
        · exact hrs y (List.mem_of_mem_drop hy)
      · rw [List.length_append, List.length_drop]
        omega
    · have hlt : ¬ (((r.map V.int).length : Int) < 2) := fun z => by rw [decide_eq_true z] at hge; exact hge rfl
      refine ⟨.ref b, rfl, .ref d, rfl, .ref b, rfl, b, _, rfl, .inr hb.sq, _, _, rfl, rfl, d, p, q, c + 1, _, rfl, D1, by omega, by omega, by omega, fun H2 y y0 y1 D2 k2 => ?_⟩
      obtain ⟨k, rfl⟩ := Int.eq_ofNat_of_zero_le y0
      have ht2 := ht1.keep D1 k2
      have hR2 := hR1.keep D1 k2
      refine ⟨b, r, n, k, rfl, hb.keep D1 k2, hrk, by omega, hn, fun H3 u s3 hru tu => ?_⟩
      have ht3 := ht2.same s3
      refine ⟨.ref t, rfl, .int (j : Int), rfl, _, 1, rfl, rfl, _, rfl, t, xs, rfl, ht3, fun v1 H4 s4 hv1 => ?_⟩
      rw [show ((j : Int) + 1) = ((j + 1 : Nat) : Int) by omega, cut_to (by omega)] at hv1
      refine ⟨.ref u, rfl, by show 1 ≤ sizeLine; decide, fun v2 H5 _ s5 hv2 => ?_⟩
      refine ⟨v1, v2, _, _, rfl, rfl, hv1.same s5, hv2, ?_, fun v3 H6 s6 hv3 => ?_⟩
      · rw [List.length_take]
        exact Nat.le_of_lt (small1000 (by show min (j + 1) xs.length + 1 ≤ 1000; omega))
      have s36 : Same H3 H6 := s4.trans (s5.trans s6)
      refine ⟨.ref t, rfl, .int (j : Int), rfl, _, rfl, t, xs, rfl, ht3.same s36, fun v4 H7 s7 hv4 => ?_⟩
      rw [cut_from] at hv4
      refine ⟨v3, v4, _, _, rfl, rfl, hv3.same s7, hv4, ?_, fun v5 H8 s8 hv5 => ?_⟩
      · rw [List.length_append, List.length_take, List.length_drop]
        exact Nat.le_of_lt (small1000 (by show min (j + 1) xs.length + 1 + (xs.length - j) ≤ 1000; omega))
      have s38 : Same H3 H8 := s36.trans (s7.trans s8)
      have R8 := (hR2.same s3).same s38
      refine qq H8 v5 _ (rows.take (j + 1) ++ [swp r k] ++ rows.drop j) ((D2.same (s3.trans s38)).mono (by omega)) (k1.trans (k2.trans (Same.keep (s3.trans s38)))) hv5 (((R8.take (j + 1)).append (.cons (tu.same s38) .nil)).append (R8.drop j)) (fun y hy => ?_) ?_
      · rcases List.mem_append.mp hy with hy | hy
        · rcases List.mem_append.mp hy with hy | hy
          · exact hrs y (List.mem_of_mem_take hy)
          · rw [List.mem_singleton] at hy
            rw [hy]
            exact hru
        · exact hrs y (List.mem_of_mem_drop hy)
      · rw [List.length_append, List.length_append, List.length_take, List.length_drop]
        show min (j + 1) rows.length + 1 + (rows.length - j) ≤ 31
        omega
end
end TR
namespace TR
open PySem PySem.Spec PyProof.Rows L2
theorem scTwist : FnScope ["_law_deck_here", "_law_path", "_law_at", "_law_row", "_law_dish"] ["_law_deck_here", "_law_path"] (defScope sTwist) := ⟨rfl, rfl, rfl, by decide +kernel, rfl, by decide +kernel, by decide +kernel⟩
def rSlX : V → Option Int → Option Int → Hp → VK → Prop := fun x lo hi H Q => ∃ a xs, x = .ref a ∧ TF H a xs ∧ ∀ p H', Same H H' → TF H' p (cutV xs lo hi) → Q (.ref p) H'
def rCatX : R2 := fun x y H Q => ∃ a b xs ys, x = .ref a ∧ y = .ref b ∧ TF H a xs ∧ TF H b ys ∧ xs.length + ys.length ≤ sizeLine ∧ ∀ p H', Same H H' → TF H' p (xs ++ ys) → Q (.ref p) H'
theorem int_ne' {a b : Int} (h : a ≠ b) : ¬ (V.int a = V.int b) := fun e => h (V.int.inj e)
def rkD (r : List Int) : PyData := .tuple (r.map PyData.int)
theorem Rts.rp {H : Hp} {ban : List Addr} {vs : List V} {ps : List (List Int)} (h : Rts H vs ps) : RpAll H ban (ps.map rkD) vs := by
  induction h with
  | nil => rfl
  | cons e _ ih => exact ⟨_, _, rfl, ⟨_, _, rfl, e, RpAll.ints _⟩, ih⟩
def bl1 (x : Int) : PyData := if x = 1 then .bool true else .int x
theorem bl1_flat {H H' : Hp} {ban ban' : List Addr} {z : Int} {y : V} (h : Rp H ban (bl1 z) y) : Rp H' ban' (bl1 z) y := by
  unfold bl1 at *
  split at h <;> rename_i hz <;> simp only [hz, if_true, if_false] at * <;> exact h
theorem bl1_flats {H H' : Hp} {ban ban' : List Addr} : ∀ (zs : List Int) (yy : List V), RpAll H ban (zs.map bl1) yy → RpAll H' ban' (zs.map bl1) yy
  | [], _, h => h
  | z :: zr, _, h => by
    obtain ⟨v, r, rfl, g1, g2⟩ := h
    exact ⟨v, r, rfl, bl1_flat g1, bl1_flats zr r g2⟩
theorem wf_rkD {n L : Nat} {r : List Int} (h : Rank n r) (hn : n ≤ 8) (hL : 8 ≤ L) : Wf L 1 (rkD r) ∧ sz (rkD r) ≤ 9 := by
  constructor
  · refine Wf.tup (D := 0) (by rw [List.length_map, h.len]; omega) fun e he => ?_
    obtain ⟨i, hi, rfl⟩ := List.mem_map.mp he
    obtain ⟨b0, b1⟩ := h.bnd hi
    show i.natAbs ≤ 10 ^ 59 + L
    omega
  · show 1 + szAll (r.map PyData.int) ≤ 9
    rw [szAll_ints, h.len]
    omega
theorem wf_bl1 {n L : Nat} {r : List Int} (h : Rank n r) (hn : n ≤ 8) (hL : 8 ≤ L) : Wf L 1 (.tuple (r.map bl1)) ∧ sz (.tuple (r.map bl1)) ≤ 9 := by
  constructor
  · refine Wf.tup (D := 0) (by rw [List.length_map, h.len]; omega) fun e he => ?_
    obtain ⟨i, hi, rfl⟩ := List.mem_map.mp he
    obtain ⟨b0, b1⟩ := h.bnd hi
    unfold bl1
    split
    · exact trivial
    · show i.natAbs ≤ 10 ^ 59 + L
      omega
  · show 1 + szAll (r.map bl1) ≤ 9
    have := szAll_le (B := 1) (r.map bl1) fun e he => by
      obtain ⟨i, hi, rfl⟩ := List.mem_map.mp he
      unfold bl1
      split <;> exact Nat.le_refl _
    rw [List.length_map, h.len] at this
    omega
section
variable {P : Program} {w : World} {K : PySem.W.Frag} {mg : Str → Option Value} {base : Heap}
def spTwist : Sp := fun vs H Q _ => ∃ (d p q t : Addr) (c n : Nat) (xs : List V) (rows : List (List Int)), vs = [.ref d, .ref t] ∧ Deck H d p q c ∧ c ≤ 800000 ∧ TF H t xs ∧ Rts H xs rows ∧ (∀ r ∈ rows, Rank n r) ∧ 1 ≤ rows.length ∧ rows.length ≤ 29 ∧ n ≤ 8 ∧ 1 ≤ n ∧
  ∀ H' u e, Deck H' d p q (c + 2) → Keep d p H H' → Rp H' [d, p, sysModules] e (.ref u) → Wf 31 2 e → sz e ≤ 300 → Q (.ref u) H'
theorem ok_Twist {f f__law_next : Addr} {fd d__law_next : FuncData} {m : Nat} (F : Fun K "_law_twisted" "_law_twisted" sTwist f fd)
    (k__law_next : PySem.W.keepIn K (.ref f__law_next) = true) (b__law_next : Binds K d__law_next ["_law_deck_here", "_law_many"] []) (g__law_next : mg "_law_next" = some (.ref f__law_next)) (G__law_next : FnOk P w K mg base CX0 m f__law_next d__law_next ["_law_deck_here", "_law_many"] spNext)
    (m_len : mg "len" = none) (m_tuple : mg "tuple" = none) : FnOk P w K mg base CX0 (m + 1) f fd ["_law_deck_here", "_law_path"] spTwist := by
  refine F.ok scTwist (fun vs H Q E h => ?_) (fun cdv A outer s H vs Q E hr h => ?_)
  · obtain ⟨d, p, q, t, c, n, xs, rows, rfl, _⟩ := h
    rfl
  · obtain ⟨d, p, q, t, c, n, xs, rows, rfl, D0, hc, ht, hR, hrs, h1, h29, hn, hn1, qq⟩ := h
    refine ⟨_, 
      (pss_cons (ps_set (i := 2) scTwist.nd rfl (.inl rfl) (pe_call G__law_next hr (by rfl) g__law_next k__law_next b__law_next .nil pass0 (pa_cons (pv 0) (pa_cons (pe_callB call_len_seq (by rfl) m_len PySem.boot_len (pa_cons (pv 1) pa_nil)) pa_nil)))) 
      (pss_cons (ps_set (i := 3) scTwist.nd rfl (.inl rfl) (pe_revT (pe_ix (r := rIxT K) ix_tup (pv 1) (pv 2) (fun _ _ => rfl)))) 
      (pss_cons (ps_if (pt_cmpR op_eq (pe_call G__law_next hr (by rfl) g__law_next k__law_next b__law_next .nil pass0 (pa_cons (pv 0) (pa_cons pe_int pa_nil))) pe_int (nomark _)) 
        (pss_one (ps_set (i := 3) scTwist.nd rfl (.inl rfl) (pe_callTy call_tupleF (by rfl) m_tuple (by decide +kernel) (pa_cons (pe_lc (own := [("_law_dish", 4)]) (g := gName 4) (tt := tYes) (by rfl) scTwist.nd (pi_tup (pe_ix (r := rIxT K) ix_tup (pv 1) (pv 2) (fun _ _ => rfl))) (blkOk_by (own := [("_law_dish", 4)]) (N := ["_law_deck_here", "_law_path", "_law_at", "_law_row", "_law_dish"]) (sc := defScope sTwist) (by decide +kernel)) (fun _ _ _ _ _ => (pg_name (i := 4) scTwist.nd rfl (Or.inl rfl))) (fun _ _ _ _ _ => pts_nil) (fun _ _ _ _ _ => (pe_ifExp (pt_cmpR op_eq (pv 4) pe_int (nomark _)) pe_bl (pv 4)))) pa_nil)))) pss_nil) 
      (pss_one (ps_ret (pe_op op_catTN (pe_op op_catTN (pe_slice sl_tupN (pv 1) po_none (po_some (pv 2))) (pe_tupN (pa_cons (pv 3) pa_nil))) (pe_slice sl_tupN (pv 1) (po_some (pe_op op_add (pv 2) pe_int)) po_none))))))), ?_⟩
    have hxl := hR.len
    refine ⟨.ref d, rfl, .ref t, rfl, t, xs, rfl, .inr (.inl ht.rd), d, p, q, c, _, rfl, D0, by omega, by omega, by omega, fun H1 z z0 z1 D1 k1 => ?_⟩
    obtain ⟨j, rfl⟩ := Int.eq_ofNat_of_zero_le z0
    have hj : j < xs.length := by omega
    have ht1 := ht.keep D0 k1
    have hR1 := hR.keep D0 k1
    obtain ⟨b, r, ex, hg, hb⟩ := hR1.get (List.getElem?_eq_getElem hj)
    have hrk := hrs r (List.mem_of_getElem? hg)
    have hrl := hrk.len
    have atj : atI xs (j : Int) = some (.ref b) := by
      rw [← ex]
      exact atI_nat (List.getElem?_eq_getElem hj)
    refine ⟨.ref t, rfl, .int (j : Int), rfl, t, xs, _, _, rfl, rfl, .inl ht1.rd, atj, b, _, rfl, hb.sq, fun u1 o1 hu1 ho1 => ?_⟩
    rw [← List.map_reverse]
    have s2 : Same H1 (upd H1 u1 (.frz o1 (.tup (r.reverse.map V.int)))) := same_upd hu1
    have t2 : Tp (upd H1 u1 (.frz o1 (.tup (r.reverse.map V.int)))) u1 r.reverse := Tp.new ho1
    generalize upd H1 u1 (.frz o1 (.tup (r.reverse.map V.int))) = H2 at s2 t2 ⊢
    have D2 := D1.same s2
    have fin : ∀ (H3 : Hp) (w : Addr) (ee : PyData), Deck H3 d p q (c + 2) → Keep d p H2 H3 → Rp H3 [d, p, sysModules] ee (.ref w) → Wf 31 1 ee → sz ee ≤ 9 →
        tSl rSlX (tVar 1) tNoPart (tPart (tVar 2)) [some (.ref d), some (.ref t), some (.int (j : Int)), some (.ref w), none] H3 (fun x1 H4 => tTupN (tCons (tVar 3) tNil) [some (.ref d), some (.ref t), some (.int (j : Int)), some (.ref w), none] H4 fun x2 H5 => rCatX x1 x2 H5 fun x3 H6 => tSl rSlX (tVar 1) (tPart (tOp (rI0 fun i j => .int (i + j)) (tVar 2) (tC (.int 1)))) tNoPart [some (.ref d), some (.ref t), some (.int (j : Int)), some (.ref w), none] H6 fun x4 H7 => rCatX x3 x4 H7 Q) := by
      intro H3 w ee D3 k3 hw hwf hsz
      have ht3 := (ht1.same s2).keep D2 k3
      have hR3 := (hR1.same s2).keep D2 k3
      refine ⟨.ref t, rfl, .int (j : Int), rfl, _, rfl, t, xs, rfl, ht3, fun v1 H4 s4 hv1 => ?_⟩
      rw [cut_to (by omega)] at hv1
      refine ⟨.ref w, rfl, by show 1 ≤ sizeLine; decide, fun v2 H5 _ s5 hv2 => ?_⟩
      refine ⟨v1, v2, _, _, rfl, rfl, hv1.same s5, hv2, ?_, fun v3 H6 s6 hv3 => ?_⟩
      · rw [List.length_take]
        exact Nat.le_of_lt (small1000 (by show min j xs.length + 1 ≤ 1000; omega))
      have s36 : Same H3 H6 := s4.trans (s5.trans s6)
      refine ⟨.ref t, rfl, .int (j : Int), rfl, _, 1, rfl, rfl, _, rfl, t, xs, rfl, ht3.same s36, fun v4 H7 s7 hv4 => ?_⟩
      rw [show ((j : Int) + 1) = ((j + 1 : Nat) : Int) by omega, cut_from] at hv4
      refine ⟨v3, v4, _, _, rfl, rfl, hv3.same s7, hv4, ?_, fun v5 H8 s8 hv5 => ?_⟩
      · rw [List.length_append, List.length_take, List.length_drop]
        exact Nat.le_of_lt (small1000 (by show min j xs.length + 1 + (xs.length - (j + 1)) ≤ 1000; omega))
      have s38 : Same H3 H8 := s36.trans (s7.trans s8)
      have R8 : RpAll H8 [d, p, sysModules] (rows.map rkD) xs := (hR3.same s38).rp
      have hkid : ∀ e ∈ rows.map rkD, Wf 31 1 e ∧ sz e ≤ 9 := fun e he => by
        obtain ⟨x, hx, rfl⟩ := List.mem_map.mp he
        exact wf_rkD (hrs x hx) hn (by decide)
      have hall : ∀ e ∈ (rows.map rkD).take j ++ [ee] ++ (rows.map rkD).drop (j + 1), Wf 31 1 e ∧ sz e ≤ 9 := fun e he => by
        rcases List.mem_append.mp he with he | he
        · rcases List.mem_append.mp he with he | he
          · exact hkid e (List.mem_of_mem_take he)
          · rw [List.mem_singleton] at he
            rw [he]
            exact ⟨hwf, hsz⟩
        · exact hkid e (List.mem_of_mem_drop he)
      have hln : ((rows.map rkD).take j ++ [ee] ++ (rows.map rkD).drop (j + 1)).length ≤ 30 := by
        rw [List.length_append, List.length_append, List.length_take, List.length_drop, List.length_map]
        show min j rows.length + 1 + (rows.length - (j + 1)) ≤ 30
        omega
      refine qq H8 v5 (.tuple ((rows.map rkD).take j ++ [ee] ++ (rows.map rkD).drop (j + 1))) (D3.same s38) (k1.trans ((Same.keep s2).trans (k3.trans (Same.keep s38)))) ⟨v5, _, rfl, hv5, RpAll.app (RpAll.app (R8.take j) ⟨.ref w, [], rfl, hw.same s38, rfl⟩) (R8.drop (j + 1))⟩ (Wf.tup (D := 1) (by omega) fun e he => (hall e he).1) ?_
      show 1 + szAll _ ≤ 300
      have h9 := szAll_le (B := 9) _ fun e he => (hall e he).2
      have h10 : ((rows.map rkD).take j ++ [ee] ++ (rows.map rkD).drop (j + 1)).length * 9 ≤ 30 * 9 := Nat.mul_le_mul_right _ hln
      omega
    refine ⟨.ref d, rfl, d, p, q, c + 1, 2, rfl, D2, by omega, by decide, by decide, fun H3 y y0 y1 D3 k3 => ⟨rfl, _, rfl, ite2 (fun _ => ?_) (fun _ => ?_)⟩⟩
    · have ht3 := (ht1.same s2).keep D2 k3
      have hb3 := (hb.same s2).keep D2 k3
      refine ⟨.ref t, rfl, .int (j : Int), rfl, t, xs, _, _, rfl, rfl, .inl ht3.rd, atj, b, rfl, ⟨_, hb3.sq⟩, fun E hE => lc_tup (K := K) (a := b) (xs := r.map V.int) (fun i H4 => Same H3 H4 ∧ ∃ zs, H4 E = some (.lst zs) ∧ RpAll H4 [d, p, sysModules] ((r.take i).map bl1) zs) ⟨same_upd hE, [], upd_same, rfl⟩ (fun i H4 _ h => (hb3.same h.1).sq) (fun i x H4 hx h => ?_) (fun H4 h => ?_)⟩
      · obtain ⟨s4, zs, eE, hall⟩ := h
        rw [List.getElem?_map] at hx
        obtain ⟨z, hz, rfl⟩ := Option.map_eq_some_iff.mp hx
        have hi : i < r.length := (List.getElem?_eq_some_iff.mp hz).1
        have hzl := hall.len
        rw [List.length_map, List.length_take] at hzl
        have next : ∀ y, Rp H4 [d, p, sysModules] (bl1 z) y → ∃ acc, H4 E = some (.lst acc) ∧ acc.length < sizeLine ∧ Same H3 (upd H4 E (.lst (acc ++ [y]))) ∧ ∃ zs, upd H4 E (.lst (acc ++ [y])) E = some (.lst zs) ∧ RpAll (upd H4 E (.lst (acc ++ [y]))) [d, p, sysModules] ((r.take (i + 1)).map bl1) zs := by
          intro y hy
          refine ⟨zs, eE, small1000 (by omega), same_upd2 s4 hE, zs ++ [y], upd_same, ?_⟩
          rw [List.take_add_one, hz, List.map_append]
          exact RpAll.app (bl1_flats _ _ hall) ⟨y, [], rfl, bl1_flat hy, rfl⟩
        refine ⟨rfl, .int z, rfl, rfl, _, rfl, ?_⟩
        by_cases h1 : z = 1
        · rw [decide_eq_true (show V.int z = V.int 1 by rw [h1])]
          refine iteT (next _ ?_)
          unfold bl1
          rw [if_pos h1]
          rfl
        · rw [decide_eq_false (int_ne' h1)]
          refine iteF ⟨.int z, rfl, next _ ?_⟩
          unfold bl1
          rw [if_neg h1]
          rfl
      · obtain ⟨s4, zs, eE, hall⟩ := h
        rw [List.length_map, List.take_length] at hall
        refine ⟨E, zs, rfl, sqL eE, fun w o hw ho => ?_⟩
        obtain ⟨wA, zA⟩ := wf_bl1 hrk hn (L := 31) (by decide)
        exact fin _ w (.tuple (r.map bl1)) (D3.same (s4.trans (same_upd hw))) (k3.trans (Same.keep (s4.trans (same_upd hw)))) ⟨w, zs, rfl, TF.new ho, hall.same (same_upd hw)⟩ wA zA
    · obtain ⟨wA, zA⟩ := wf_rkD hrk.rev hn (L := 31) (by decide)
      exact fin H3 u1 (rkD r.reverse) D3 k3 ⟨u1, _, rfl, t2.keep D2 k3, RpAll.ints _⟩ wA zA
end
end TR
namespace TR
open PySem PySem.Spec PyProof.Rows L2
theorem scIsPath : FnScope ["one", "other", "value", "at", "ranking"] ["one", "other", "value"] (defScope sIsPath) := ⟨rfl, rfl, rfl, by decide +kernel, rfl, by decide +kernel, by decide +kernel⟩
theorem iteND' {c A B : Prop} [Decidable c] (hc : ¬ c) (h : A) : if (!decide c) = true then A else B := by
  rw [decide_eq_false hc]
  exact iteT h
/-! ### paths as data -/
structure PathR (n : Nat) (ns ms : List Int) (rows : List (List Int)) : Prop where
  len : rows.length = (diffs n ns ms).length + 1
  rk : ∀ r ∈ rows, Rank n r
  hd : rows.head? = some ns
  lst : rows.getLast? = some ms
  step : ∀ i, i + 1 < rows.length → (diffs n (rows.getD i []) (rows.getD (i + 1) [])).length = 1
def IsPathD (n : Nat) (ns ms : List Int) (d : PyData) : Prop := ∃ rows, d = .tuple (rows.map rkD) ∧ PathR n ns ms rows
theorem rkD_inj {r s : List Int} (h : rkD r = rkD s) : r = s := by
  injection h with h
  exact ints_inj h
theorem rkDs_inj : ∀ {r s : List (List Int)}, r.map rkD = s.map rkD → r = s
  | [], [], _ => rfl
  | [], _ :: _, h => by cases h
  | _ :: _, [], h => by cases h
  | x :: r, y :: s, h => by
    rw [List.map_cons, List.map_cons] at h
    injection h with h1 h2
    rw [rkD_inj h1, rkDs_inj h2]
theorem rows_of {n : Nat} : ∀ ds : List PyData, (∀ e ∈ ds, IsRk n e) → ∃ rows : List (List Int), ds = rows.map rkD ∧ ∀ r ∈ rows, Rank n r
  | [], _ => ⟨[], rfl, fun r h => by cases h⟩
  | d :: r, h => by
    obtain ⟨rows, rfl, hr⟩ := rows_of r fun e he => h e (List.mem_cons_of_mem _ he)
    obtain ⟨ns, rfl, hn⟩ := h d List.mem_cons_self
    refine ⟨ns :: rows, rfl, fun x hx => ?_⟩
    rcases List.mem_cons.mp hx with rfl | hx
    · exact hn
    · exact hr x hx
theorem rp_rts {H : Hp} {ban : List Addr} : ∀ {rows : List (List Int)} {xs : List V}, RpAll H ban (rows.map rkD) xs → Rts H xs rows
  | [], _, h => by rw [show _ = [] from h]; exact .nil
  | r :: rows, _, h => by
    obtain ⟨v, t, rfl, ⟨a, ys, rfl, ha, hy⟩, h2⟩ := h
    have e := hy.int_vals
    subst e
    exact .cons ha (rp_rts h2)
theorem path_tuple {n : Nat} {ns ms : List Int} {rows : List (List Int)} : IsPathD n ns ms (.tuple (rows.map rkD)) ↔ PathR n ns ms rows := by
  constructor
  · rintro ⟨r, e, h⟩
    injection e with e
    rw [rkDs_inj e]
    exact h
  · exact fun h => ⟨rows, rfl, h⟩
theorem Rts.head {H : Hp} {xs : List V} {rows : List (List Int)} (h : Rts H xs rows) (h1 : 1 ≤ rows.length) : ∃ b r, rows.head? = some r ∧ atI xs 0 = some (.ref b) ∧ Tp H b r := by
  cases h with
  | nil => simp at h1
  | cons e _ => exact ⟨_, _, rfl, atI_nat (j := 0) rfl, e⟩
theorem Rts.last {H : Hp} {xs : List V} {rows : List (List Int)} (h : Rts H xs rows) (h1 : 1 ≤ rows.length) : ∃ b r, rows.getLast? = some r ∧ atI xs (-1) = some (.ref b) ∧ Tp H b r := by
  have hne : rows ≠ [] := fun e => by rw [e] at h1; simp at h1
  have e := List.dropLast_concat_getLast hne
  rw [← e] at h
  obtain ⟨ws, t, rfl, _, ht⟩ := h.snoc
  exact ⟨t, _, List.getLast?_eq_some_getLast hne, atI_last _ _, ht⟩
theorem Rts.at {H : Hp} {xs : List V} {rows : List (List Int)} (h : Rts H xs rows) {i : Nat} (hi : i < rows.length) : ∃ b, atI xs (i : Int) = some (.ref b) ∧ Tp H b (rows.getD i []) := by
  have hl := h.len
  obtain ⟨b, r, ex, hg, hb⟩ := h.get (List.getElem?_eq_getElem (show i < xs.length by omega))
  refine ⟨b, by rw [← ex]; exact atI_nat (List.getElem?_eq_getElem _), ?_⟩
  rw [List.getD_eq_getElem?_getD, hg]
  exact hb
theorem getD_mem {rows : List (List Int)} {i : Nat} (hi : i < rows.length) : rows.getD i [] ∈ rows := by
  rw [List.getD_eq_getElem?_getD, List.getElem?_eq_getElem hi]
  exact List.getElem_mem hi
section
variable {P : Program} {w : World} {K : PySem.W.Frag} {mg : Str → Option Value} {base : Heap}
def spIsPath : Sp := fun vs H Q _ => ∃ (a b : Addr) (x : V) (d : PyData) (ban : List Addr) (n L D : Nat) (ns ms : List Int), vs = [.ref a, .ref b, x] ∧ Tp H a ns ∧ Tp H b ms ∧ Rank n ns ∧ Rank n ms ∧ 1 ≤ n ∧ n ≤ 8 ∧ Rp H ban d x ∧ Wf L D d ∧ L ≤ 41 ∧ ∀ H' b, Same H H' → (b = true ↔ IsPathD n ns ms d) → Q (.bl b) H'
theorem ok_IsPath {f f_distance f_is_ranking : Addr} {fd d_distance d_is_ranking : FuncData} {m : Nat} (F : Fun K "is_shortest_path" "is_shortest_path" sIsPath f fd)
    (k_distance : PySem.W.keepIn K (.ref f_distance) = true) (b_distance : Binds K d_distance ["one", "other"] []) (g_distance : mg "distance" = some (.ref f_distance)) (G_distance : FnOk P w K mg base CX0 m f_distance d_distance ["one", "other"] spDist)
    (k_is_ranking : PySem.W.keepIn K (.ref f_is_ranking) = true) (b_is_ranking : Binds K d_is_ranking ["dishes", "value"] []) (g_is_ranking : mg "is_ranking" = some (.ref f_is_ranking)) (G_is_ranking : FnOk P w K mg base CX0 m f_is_ranking d_is_ranking ["dishes", "value"] spIsRk)
    (m_len : mg "len" = none) (m_isinstance : mg "isinstance" = none) (m_tuple : mg "tuple" = none) (m_all : mg "all" = none) (m_range : mg "range" = none) : FnOk P w K mg base CX0 (m + 1) f fd ["one", "other", "value"] spIsPath := by
  refine F.ok scIsPath (fun vs H Q E h => ?_) (fun cdv A outer s H vs Q E hr h => ?_)
  · obtain ⟨a, b, x, d, ban, n, L, D, ns, ms, rfl, _⟩ := h
    rfl
  · obtain ⟨a, b, x, d, ban, n, L, D, ns, ms, rfl, ha, hb, hna, hnb, hn1, hn, hp, hw, hL, q⟩ := h
    refine ⟨_, 
      (pss_cons (ps_if (PW.pt (pw_or (pt_not (pt_val (pe_callB call_isi (by rfl) m_isinstance (by decide +kernel) (pa_cons (pv 2) (pa_cons (pe_bltn (v := .ty "tuple") (by rfl) m_tuple (by decide +kernel) rfl) pa_nil))))) (pw_or1 (pt_cmpR op_ne (pe_callB call_len_seq (by rfl) m_len PySem.boot_len (pa_cons (pv 2) pa_nil)) (pe_op op_add (pe_call G_distance hr (by rfl) g_distance k_distance b_distance .nil pass0 (pa_cons (pv 0) (pa_cons (pv 1) pa_nil))) pe_int) (nomark _))))) 
        (pss_one (ps_ret pe_bl)) pss_nil) 
      (pss_cons (ps_if (pt_not (pt_val (pe_callB (cr_all (by rfl)) (by rfl) m_all (by decide +kernel) (pa_cons (pe_lc (own := [("ranking", 4)]) (g := gName 4) (tt := tYes) (by rfl) scIsPath.nd (pi_tup (pv 2)) (blkOk_by (own := [("ranking", 4)]) (N := ["one", "other", "value", "at", "ranking"]) (sc := defScope sIsPath) (by decide +kernel)) (fun _ _ _ _ _ => (pg_name (i := 4) scIsPath.nd rfl (Or.inl rfl))) (fun _ _ _ _ _ => pts_nil) (fun _ _ _ _ _ => (pe_call G_is_ranking hr (by rfl) g_is_ranking k_is_ranking b_is_ranking .nil pass0 (pa_cons (pe_callB (r := rLenK K) call_len_seq (by rfl) m_len PySem.boot_len (pa_cons (pv 0) pa_nil)) (pa_cons (pv 4) pa_nil))))) pa_nil)))) 
        (pss_one (ps_ret pe_bl)) pss_nil) 
      (pss_cons (ps_if (PW.pt (pw_or (pt_cmpR (op_neD hr.units) (pe_ix (r := rIxT K) ix_tup (pv 2) pe_int (fun _ _ => rfl)) (pv 0) (nomark _)) (pw_or1 (pt_cmpR (op_neD hr.units) (pe_ix (r := rIxT K) ix_tup (pv 2) (pe_un un_neg pe_int) (fun _ _ => rfl)) (pv 1) (nomark _))))) 
        (pss_one (ps_ret pe_bl)) pss_nil) 
      (pss_one (ps_ret (pe_callB (cr_all (by rfl)) (by rfl) m_all (by decide +kernel) (pa_cons (pe_lc (own := [("at", 3)]) (g := gName 3) (tt := tYes) (by rfl) scIsPath.nd (pi_range2 (by rfl) m_range (pa_cons pe_int (pa_cons (pe_callB call_len_seq (by rfl) m_len PySem.boot_len (pa_cons (pv 2) pa_nil)) pa_nil))) (blkOk_by (own := [("at", 3)]) (N := ["one", "other", "value", "at", "ranking"]) (sc := defScope sIsPath) (by decide +kernel)) (fun _ _ _ _ _ => (pg_name (i := 3) scIsPath.nd rfl (Or.inl rfl))) (fun _ _ _ _ _ => pts_nil) (fun _ _ _ _ _ => (pe_cmpR op_eq (pe_call G_distance hr (by rfl) g_distance k_distance b_distance .nil pass0 (pa_cons (pe_ix (r := rIxT K) ix_tup (pv 2) (pe_op op_sub (pv 3) pe_int) (fun _ _ => rfl)) (pa_cons (pe_ix (r := rIxT K) ix_tup (pv 2) (pv 3) (fun _ _ => rfl)) pa_nil))) pe_int (nomark _)))) pa_nil))))))), ?_⟩
    obtain ⟨k1, k2, k3⟩ := kitD (K := K) d
    refine ⟨x, rfl, x, .ty "tuple", _, _, _, rfl, .ty _, tyRp hp, k1, _, rfl, ?_⟩
    by_cases ht : tyD d = "tuple"
    · rw [decide_eq_true ht]
      refine iteF ?_
      obtain ⟨ds, rfl⟩ := ty_tuple ht
      obtain ⟨v, xs, rfl, hv, hx⟩ := hp
      have hxl := hx.len
      obtain ⟨_, hdl, kids⟩ := hw.kids
      have el : (ns.map V.int).length = n := by
        rw [List.length_map]
        exact hna.len
      refine ⟨.ref v, rfl, v, xs, rfl, .inr (.inl hv.rd), .ref a, rfl, .ref b, rfl, a, b, n, ns, ms, rfl, ha, hb, hna, hnb, hn, fun H1 s1 => ⟨_, 1, rfl, rfl, rfl, _, rfl, ?_⟩⟩
      by_cases hl : ds.length = (diffs n ns ms).length + 1
      · refine iteNS (by show V.int _ = V.int (((diffs n ns ms).length : Int) + 1); rw [hxl, hl]; rfl) ?_
        have hv1 := hv.same s1
        have hx1 := hx.same s1
        refine ⟨.ref v, rfl, v, rfl, ⟨_, .inl hv1.rd⟩, fun E hE => lc_tup (K := K) (a := v) (xs := xs) (fun i H2 => Same H1 H2 ∧ ∃ bs : List Bool, H2 E = some (.lst (bs.map V.bl)) ∧ bs.length = i ∧ ((∀ b ∈ bs, b = true) ↔ ∀ e ∈ ds.take i, IsRk n e)) ⟨same_upd hE, [], upd_same, rfl, by simp⟩ (fun i H2 _ h => .inl (hv1.same h.1).rd) (fun i y H2 hy1 h => ?_) (fun H2 h => ?_)⟩
        · obtain ⟨s2, bs, eE, hbl, hiff⟩ := h
          obtain ⟨e, he, hre⟩ := hx1.get hy1
          have hi : i < ds.length := (List.getElem?_eq_some_iff.mp he).1
          have we := kids e (List.mem_of_getElem? he)
          refine ⟨rfl, .ref a, rfl, a, _, rfl, .inr (ha.same (s1.trans s2)).sq, y, rfl, y, e, ban, n, by rw [el]; rfl, hre.same s2, hn1, hn, fun gs ge => by rw [ge] at we; have := we.kids.2.1; omega, fun H3 c s3 hc => ⟨_, s3 _ _ eE, ?_, same_upd2 (s2.trans s3) hE, bs ++ [c], ?_, ?_, ?_⟩⟩
          · rw [List.length_map]
            exact small1000 (by omega)
          · rw [upd_same, List.map_append]
            rfl
          · rw [List.length_append, hbl]
            rfl
          · rw [List.take_add_one, he]
            constructor
            · intro h z hz
              rcases List.mem_append.mp hz with hz | hz
              · exact hiff.mp (fun c hc => h c (List.mem_append_left _ hc)) z hz
              · have hz : z = e := by simpa using hz
                subst hz
                exact hc.mp (h c (by simp))
            · intro h c' hc'
              rcases List.mem_append.mp hc' with hc' | hc'
              · exact hiff.mpr (fun z hz => h z (List.mem_append_left _ hz)) c' hc'
              · rw [List.mem_singleton] at hc'
                subst hc'
                exact hc.mpr (h e (by simp))
        · obtain ⟨s2, bs, eE, hbl, hiff⟩ := h
          rw [hxl, List.take_length] at hiff
          have s02 := s1.trans s2
          refine ⟨E, bs, rfl, sqL eE, _, rfl, ?_⟩
          cases hall : bs.all id with
          | false =>
            refine iteT (q H2 false s02 (ff_iff ?_))
            rintro ⟨rows, e, hp⟩
            injection e with e
            subst e
            have : bs.all id = true := List.all_eq_true.mpr fun c hc => hiff.mpr (fun z hz => by
              obtain ⟨r, hr, rfl⟩ := List.mem_map.mp hz
              exact ⟨r, rfl, hp.rk r hr⟩) c hc
            rw [hall] at this
            cases this
          | true =>
            refine iteF ?_
            obtain ⟨rows, rfl, hrs⟩ := rows_of ds (hiff.mp fun c hc => List.all_eq_true.mp hall c hc)
            rw [List.length_map] at hl hxl hdl
            have R2 : Rts H2 xs rows := (rp_rts hx1).same s2
            have hv2 := hv1.same s2
            obtain ⟨b0, r0, hh0, at0, tb0⟩ := R2.head (by omega)
            refine ⟨.ref v, rfl, v, xs, 0, _, rfl, rfl, .inl hv2.rd, at0, .ref a, rfl, _, _, .tup tb0.sq (dpAll_ints _), .tup (ha.same s02).sq (dpAll_ints _), shapedT_ints _, shapedT_ints _, _, rfl, ?_⟩
            rw [eqvT_ints]
            by_cases e0 : r0 = ns
            · rw [decide_eq_true e0]
              refine iteF ?_
              obtain ⟨b1, r1, hh1, at1, tb1⟩ := R2.last (by omega)
              refine ⟨.ref v, rfl, 1, rfl, v, xs, -1, _, rfl, rfl, .inl hv2.rd, at1, .ref b, rfl, _, _, .tup tb1.sq (dpAll_ints _), .tup (hb.same s02).sq (dpAll_ints _), shapedT_ints _, shapedT_ints _, _, rfl, ?_⟩
              rw [eqvT_ints]
              by_cases e1 : r1 = ms
              · rw [decide_eq_true e1]
                refine iteF ?_
                refine ⟨.ref v, rfl, v, xs, rfl, .inr (.inl hv2.rd), 1, _, rfl, ⟨by omega, by omega, by omega, by omega⟩, fun G hG => ?_⟩
                refine walk_in (n := ((xs.length : Int) - 1).toNat) (lo := 1) (fun i H3 => Same H2 H3 ∧ H3 G = some (.lst (((List.range i).map fun k => decide ((diffs n (rows.getD k []) (rows.getD (k + 1) [])).length = 1)).map V.bl))) ⟨same_upd hG, upd_same⟩ (fun i H3 hi h => ?_) (fun H3 h => ?_)
                · obtain ⟨s3, eG⟩ := h
                  have hv3 := hv2.same s3
                  obtain ⟨u0, av0, tu0⟩ := (R2.same s3).at (i := i) (by omega)
                  obtain ⟨u1, av1, tu1⟩ := (R2.same s3).at (i := i + 1) (by omega)
                  have v0 : atI xs (1 + (i : Int) - 1) = some (.ref u0) := by
                    rw [show (1 + (i : Int) - 1) = (i : Int) by omega]
                    exact av0
                  have v1 : atI xs (1 + (i : Int)) = some (.ref u1) := by
                    rw [show (1 + (i : Int)) = ((i + 1 : Nat) : Int) by omega]
                    exact av1
                  refine ⟨rfl, .ref v, rfl, .int (1 + (i : Int)), rfl, _, 1, rfl, rfl, v, xs, _, _, rfl, rfl, .inl hv3.rd, v0, .ref v, rfl, .int (1 + (i : Int)), rfl, v, xs, _, _, rfl, rfl, .inl hv3.rd, v1, u0, u1, n, _, _, rfl, tu0, tu1, hrs _ (getD_mem (by omega)), hrs _ (getD_mem (by omega)), hn, fun H4 s4 => ⟨rfl, _, s4 _ _ eG, ?_, same_upd2 (s3.trans s4) hG, ?_⟩⟩
                  · rw [List.length_map, List.length_map, List.length_range]
                    exact small1000 (by omega)
                  · have ed : decide (V.int ((diffs n (rows.getD i []) (rows.getD (i + 1) [])).length : Int) = V.int 1) = decide ((diffs n (rows.getD i []) (rows.getD (i + 1) [])).length = 1) := by
                      by_cases c : (diffs n (rows.getD i []) (rows.getD (i + 1) [])).length = 1
                      · rw [decide_eq_true c, decide_eq_true (by rw [c]; rfl)]
                      · rw [decide_eq_false c, decide_eq_false (int_ne' (by omega))]
                    rw [upd_same, map_succ, List.map_append, ed]
                    rfl
                · obtain ⟨s3, eG⟩ := h
                  refine ⟨G, _, rfl, sqL eG, q H3 _ (s02.trans s3) ?_⟩
                  rw [path_tuple, List.all_map, List.all_eq_true]
                  constructor
                  · intro h
                    exact ⟨hl, hrs, by rw [hh0, e0], by rw [hh1, e1], fun i hi => of_decide_eq_true (h i (List.mem_range.mpr (by omega)))⟩
                  · intro hp i hi
                    have := List.mem_range.mp hi
                    exact decide_eq_true (hp.step i (by omega))
              · rw [decide_eq_false e1]
                refine iteT (q H2 false s02 (ff_iff ?_))
                rw [path_tuple]
                intro hp
                have := hp.lst
                rw [hh1] at this
                exact e1 (Option.some.inj this)
            · rw [decide_eq_false e0]
              refine iteT (q H2 false s02 (ff_iff ?_))
              rw [path_tuple]
              intro hp
              have := hp.hd
              rw [hh0] at this
              exact e0 (Option.some.inj this)
      · refine iteND' (int_ne' (show ((xs.length : Nat) : Int) ≠ ((diffs n ns ms).length : Int) + 1 by omega)) (q H1 false s1 (ff_iff ?_))
        rintro ⟨rows, e, hp⟩
        injection e with e
        rw [e, List.length_map] at hl
        exact hl hp.len
    · rw [decide_eq_false ht]
      refine iteT (q H false (Same.refl _) (ff_iff ?_))
      rintro ⟨rows, rfl, _⟩
      exact ht rfl
end
end TR
namespace TR
open PySem PySem.Spec PyProof.Rows L2
theorem scLIsPath : FnScope ["_law_one_here", "_law_other", "_law_thing", "_law_row", "_law_k"] ["_law_one_here", "_law_other", "_law_thing"] (defScope sLIsPath) := ⟨rfl, rfl, rfl, by decide +kernel, rfl, by decide +kernel, by decide +kernel⟩
section
variable {P : Program} {w : World} {K : PySem.W.Frag} {mg : Str → Option Value} {base : Heap}
theorem ok_LIsPath {f f__law_unlike f__law_is_list : Addr} {fd d__law_unlike d__law_is_list : FuncData} {m : Nat} (F : Fun K "_law_is_path" "_law_is_path" sLIsPath f fd)
    (k__law_unlike : PySem.W.keepIn K (.ref f__law_unlike) = true) (b__law_unlike : Binds K d__law_unlike ["_law_one_here", "_law_other"] []) (g__law_unlike : mg "_law_unlike" = some (.ref f__law_unlike)) (G__law_unlike : FnOk P w K mg base CX0 m f__law_unlike d__law_unlike ["_law_one_here", "_law_other"] spUnlike)
    (k__law_is_list : PySem.W.keepIn K (.ref f__law_is_list) = true) (b__law_is_list : Binds K d__law_is_list ["_law_dishes", "_law_thing"] []) (g__law_is_list : mg "_law_is_list" = some (.ref f__law_is_list)) (G__law_is_list : FnOk P w K mg base CX0 m f__law_is_list d__law_is_list ["_law_dishes", "_law_thing"] spIsRk)
    (m_len : mg "len" = none) (m_isinstance : mg "isinstance" = none) (m_tuple : mg "tuple" = none) (m_range : mg "range" = none) : FnOk P w K mg base CX0 (m + 1) f fd ["_law_one_here", "_law_other", "_law_thing"] spIsPath := by
  refine F.ok scLIsPath (fun vs H Q E h => ?_) (fun cdv A outer s H vs Q E hr h => ?_)
  · obtain ⟨a, b, x, d, ban, n, L, D, ns, ms, rfl, _⟩ := h
    rfl
  · obtain ⟨a, b, x, d, ban, n, L, D, ns, ms, rfl, ha, hb, hna, hnb, hn1, hn, hp, hw, hL, q⟩ := h
    refine ⟨_, 
      (pss_cons (ps_if (PW.pt (pw_or (pt_not (pt_val (pe_callB call_isi (by rfl) m_isinstance (by decide +kernel) (pa_cons (pv 2) (pa_cons (pe_bltn (v := .ty "tuple") (by rfl) m_tuple (by decide +kernel) rfl) pa_nil))))) (pw_or1 (pt_cmpR op_ne (pe_callB call_len_seq (by rfl) m_len PySem.boot_len (pa_cons (pv 2) pa_nil)) (pe_op op_add (pe_callB call_len_seq (by rfl) m_len PySem.boot_len (pa_cons (pe_call G__law_unlike hr (by rfl) g__law_unlike k__law_unlike b__law_unlike .nil pass0 (pa_cons (pv 0) (pa_cons (pv 1) pa_nil))) pa_nil)) pe_int) (nomark _))))) 
        (pss_one (ps_ret pe_bl)) pss_nil) 
      (pss_cons (ps_if (pt_cmpR (op_neL0 hr.units0) (pe_lc (own := [("_law_row", 3)]) (g := gName 3)  (by rfl) scLIsPath.nd (pi_tup (pv 2)) (blkOk_by (own := [("_law_row", 3)]) (N := ["_law_one_here", "_law_other", "_law_thing", "_law_row", "_law_k"]) (sc := defScope sLIsPath) (by decide +kernel)) (fun _ _ _ _ _ => (pg_name (i := 3) scLIsPath.nd rfl (Or.inl rfl))) (fun _ _ _ _ _ => (pts_one (pt_not (pt_val (pe_call G__law_is_list hr (by rfl) g__law_is_list k__law_is_list b__law_is_list .nil pass0 (pa_cons (pe_callB (r := rLenK K) call_len_seq (by rfl) m_len PySem.boot_len (pa_cons (pv 0) pa_nil)) (pa_cons (pv 3) pa_nil))))))) (fun _ _ _ _ _ => (pv 3))) (pe_lst pa_nil) (nomark _)) 
        (pss_one (ps_ret pe_bl)) pss_nil) 
      (pss_cons (ps_if (PW.pt (pw_or (pt_cmpR (op_neD hr.units) (pe_ix (r := rIxT K) ix_tup (pv 2) pe_int (fun _ _ => rfl)) (pv 0) (nomark _)) (pw_or1 (pt_cmpR (op_neD hr.units) (pe_ix (r := rIxT K) ix_tup (pv 2) (pe_un un_neg pe_int) (fun _ _ => rfl)) (pv 1) (nomark _))))) 
        (pss_one (ps_ret pe_bl)) pss_nil) 
      (pss_one (ps_ret (pe_cmpR (op_eqL0 hr.units0) (pe_lc (own := [("_law_k", 4)]) (g := gName 4)  (by rfl) scLIsPath.nd (pi_range2 (by rfl) m_range (pa_cons pe_int (pa_cons (pe_callB call_len_seq (by rfl) m_len PySem.boot_len (pa_cons (pv 2) pa_nil)) pa_nil))) (blkOk_by (own := [("_law_k", 4)]) (N := ["_law_one_here", "_law_other", "_law_thing", "_law_row", "_law_k"]) (sc := defScope sLIsPath) (by decide +kernel)) (fun _ _ _ _ _ => (pg_name (i := 4) scLIsPath.nd rfl (Or.inl rfl))) (fun _ _ _ _ _ => (pts_one (pt_cmpR op_ne (pe_callB (r := rLenK K) call_len_seq (by rfl) m_len PySem.boot_len (pa_cons (pe_call G__law_unlike hr (by rfl) g__law_unlike k__law_unlike b__law_unlike .nil pass0 (pa_cons (pe_ix (r := rIxT K) ix_tup (pv 2) (pe_op op_sub (pv 4) pe_int) (fun _ _ => rfl)) (pa_cons (pe_ix (r := rIxT K) ix_tup (pv 2) (pv 4) (fun _ _ => rfl)) pa_nil))) pa_nil)) pe_int (nomark _)))) (fun _ _ _ _ _ => (pv 4))) (pe_lst pa_nil) (nomark _))))))), ?_⟩
    obtain ⟨k1, k2, k3⟩ := kitD (K := K) d
    refine ⟨x, rfl, x, .ty "tuple", _, _, _, rfl, .ty _, tyRp hp, k1, _, rfl, ?_⟩
    by_cases ht : tyD d = "tuple"
    · rw [decide_eq_true ht]
      refine iteF ?_
      obtain ⟨ds, rfl⟩ := ty_tuple ht
      obtain ⟨v, xs, rfl, hv, hx⟩ := hp
      have hxl := hx.len
      obtain ⟨_, hdl, kids⟩ := hw.kids
      have el : (ns.map V.int).length = n := by
        rw [List.length_map]
        exact hna.len
      refine ⟨.ref v, rfl, v, xs, rfl, .inr (.inl hv.rd), .ref a, rfl, .ref b, rfl, a, b, n, ns, ms, rfl, ha, hb, hna, hnb, hn, fun H1 tu us s1 _ eu hpu => ⟨tu, us, rfl, .inl (sqL eu), _, 1, rfl, rfl, rfl, _, rfl, ?_⟩⟩
      have hul := hpu.len
      by_cases hl : ds.length = (diffs n ns ms).length + 1
      · refine iteNS (by show V.int _ = V.int ((us.length : Int) + 1); rw [hxl, hl, hul]; rfl) ?_
        have hv1 := hv.same s1
        have hx1 := hx.same s1
        refine ⟨.ref v, rfl, v, rfl, ⟨_, .inl hv1.rd⟩, fun E hE => lc_tup (K := K) (a := v) (xs := xs) (fun i H2 => Same H1 H2 ∧ ∃ zs : List V, H2 E = some (.lst zs) ∧ zs.length ≤ i ∧ (zs = [] ↔ ∀ e ∈ ds.take i, IsRk n e)) ⟨same_upd hE, [], upd_same, Nat.le_refl _, by simp⟩ (fun i H2 _ h => .inl (hv1.same h.1).rd) (fun i y H2 hy1 h => ?_) (fun H2 h => ?_)⟩
        · obtain ⟨s2, zs, eE, hbl, hiff⟩ := h
          obtain ⟨e, he, hre⟩ := hx1.get hy1
          have hi : i < ds.length := (List.getElem?_eq_some_iff.mp he).1
          have we := kids e (List.mem_of_getElem? he)
          refine ⟨rfl, .ref a, rfl, a, _, rfl, .inr (ha.same (s1.trans s2)).sq, y, rfl, y, e, ban, n, by rw [el]; rfl, hre.same s2, hn1, hn, fun gs ge => by rw [ge] at we; have := we.kids.2.1; omega, fun H3 c s3 hc => ⟨_, rfl, ?_⟩⟩
          cases c with
          | true =>
            refine iteF ⟨s2.trans s3, zs, s3 _ _ eE, by omega, ?_⟩
            rw [List.take_add_one, he, hiff]
            constructor
            · intro h z hz
              rcases List.mem_append.mp hz with hz | hz
              · exact h z hz
              · have hz : z = e := by simpa using hz
                subst hz
                exact hc.mp rfl
            · exact fun h z hz => h z (List.mem_append_left _ hz)
          | false =>
            refine iteT ⟨y, rfl, zs, s3 _ _ eE, small1000 (by omega), same_upd2 (s2.trans s3) hE, zs ++ [y], upd_same, ?_, ?_⟩
            · rw [List.length_append]
              show zs.length + 1 ≤ i + 1
              omega
            · rw [List.take_add_one, he]
              constructor
              · intro h
                simp at h
              · intro h
                exact absurd (hc.mpr (h e (by simp))) Bool.false_ne_true
        · obtain ⟨s2, zs, eE, hbl, hiff⟩ := h
          rw [hxl, List.take_length] at hiff
          refine ⟨Nat.zero_le _, fun z0 hz0 => ?_⟩
          have sz0 : Same H2 (upd H2 z0 (.lst [])) := same_upd hz0
          refine ⟨E, z0, zs, rfl, rfl, sqL (sz0 _ _ eE), sqL upd_same, _, rfl, ?_⟩
          replace s2 : Same H1 (upd H2 z0 (.lst [])) := s2.trans sz0
          generalize upd H2 z0 (.lst []) = H2' at s2 ⊢
          clear sz0 eE
          rename_i H2old
          have s02 := s1.trans s2
          cases hz : zs with
          | cons z1 zr =>
            refine iteT (q _ false s02 (ff_iff ?_))
            rintro ⟨rows, e, hp⟩
            injection e with e
            subst e
            have := hiff.mpr (fun z hz => by
              obtain ⟨r, hr, rfl⟩ := List.mem_map.mp hz
              exact ⟨r, rfl, hp.rk r hr⟩)
            rw [hz] at this
            cases this
          | nil =>
            refine iteF ?_
            obtain ⟨rows, rfl, hrs⟩ := rows_of ds (hiff.mp hz)
            rw [List.length_map] at hl hxl hdl
            have R2 : Rts H2' xs rows := (rp_rts hx1).same s2
            have hv2 := hv1.same s2
            obtain ⟨b0, r0, hh0, at0, tb0⟩ := R2.head (by omega)
            refine ⟨.ref v, rfl, v, xs, 0, _, rfl, rfl, .inl hv2.rd, at0, .ref a, rfl, _, _, .tup tb0.sq (dpAll_ints _), .tup (ha.same s02).sq (dpAll_ints _), shapedT_ints _, shapedT_ints _, _, rfl, ?_⟩
            rw [eqvT_ints]
            by_cases e0 : r0 = ns
            · rw [decide_eq_true e0]
              refine iteF ?_
              obtain ⟨b1, r1, hh1, at1, tb1⟩ := R2.last (by omega)
              refine ⟨.ref v, rfl, 1, rfl, v, xs, -1, _, rfl, rfl, .inl hv2.rd, at1, .ref b, rfl, _, _, .tup tb1.sq (dpAll_ints _), .tup (hb.same s02).sq (dpAll_ints _), shapedT_ints _, shapedT_ints _, _, rfl, ?_⟩
              rw [eqvT_ints]
              by_cases e1 : r1 = ms
              · rw [decide_eq_true e1]
                refine iteF ?_
                refine ⟨.ref v, rfl, v, xs, rfl, .inr (.inl hv2.rd), 1, _, rfl, ⟨by omega, by omega, by omega, by omega⟩, fun G hG => ?_⟩
                refine walk_in (n := ((xs.length : Int) - 1).toNat) (lo := 1) (fun i H3 => Same H2' H3 ∧ ∃ zs : List V, H3 G = some (.lst zs) ∧ zs.length ≤ i ∧ (zs = [] ↔ ∀ k, k < i → (diffs n (rows.getD k []) (rows.getD (k + 1) [])).length = 1)) ⟨same_upd hG, [], upd_same, Nat.le_refl _, ⟨fun _ k hk => absurd hk (by omega), fun _ => rfl⟩⟩ (fun i H3 hi h => ?_) (fun H3 h => ?_)
                · obtain ⟨s3, ws, eG, hwl, hwi⟩ := h
                  have hv3 := hv2.same s3
                  obtain ⟨u0, av0, tu0⟩ := (R2.same s3).at (i := i) (by omega)
                  obtain ⟨u1, av1, tu1⟩ := (R2.same s3).at (i := i + 1) (by omega)
                  have v0 : atI xs (1 + (i : Int) - 1) = some (.ref u0) := by
                    rw [show (1 + (i : Int) - 1) = (i : Int) by omega]
                    exact av0
                  have v1 : atI xs (1 + (i : Int)) = some (.ref u1) := by
                    rw [show (1 + (i : Int)) = ((i + 1 : Nat) : Int) by omega]
                    exact av1
                  refine ⟨rfl, .ref v, rfl, .int (1 + (i : Int)), rfl, _, 1, rfl, rfl, v, xs, _, _, rfl, rfl, .inl hv3.rd, v0, .ref v, rfl, .int (1 + (i : Int)), rfl, v, xs, _, _, rfl, rfl, .inl hv3.rd, v1, u0, u1, n, _, _, rfl, tu0, tu1, hrs _ (getD_mem (by omega)), hrs _ (getD_mem (by omega)), hn, fun H4 tl ls s4 _ el4 hpl => ⟨tl, ls, rfl, .inl (sqL el4), rfl, _, rfl, ?_⟩⟩
                  have hll := hpl.len
                  by_cases c : (diffs n (rows.getD i []) (rows.getD (i + 1) [])).length = 1
                  · refine iteNS (by rw [hll, c]; rfl) ⟨s3.trans s4, ws, s4 _ _ eG, by omega, ?_⟩
                    rw [hwi]
                    constructor
                    · intro h k hk
                      by_cases e : k = i
                      · subst e; exact c
                      · exact h k (by omega)
                    · exact fun h k hk => h k (by omega)
                  · refine iteND' (int_ne' (by rw [hll]; omega)) ⟨_, rfl, ws, s4 _ _ eG, small1000 (by omega), same_upd2 (s3.trans s4) hG, _, upd_same, ?_, ?_⟩
                    · rw [List.length_append]
                      show ws.length + 1 ≤ i + 1
                      omega
                    · constructor
                      · intro h
                        simp at h
                      · intro h
                        exact absurd (h i (by omega)) c
                · obtain ⟨s3, ws, eG, hwl, hwi⟩ := h
                  refine ⟨Nat.zero_le _, fun z0 hz0 => ⟨G, z0, ws, rfl, rfl, sqL ((same_upd hz0) _ _ eG), sqL upd_same, q _ _ (s02.trans (s3.trans (same_upd hz0))) ?_⟩⟩
                  rw [path_tuple, List.isEmpty_iff, hwi]
                  constructor
                  · intro h
                    exact ⟨hl, hrs, by rw [hh0, e0], by rw [hh1, e1], fun i hi => h i (by omega)⟩
                  · intro hp i hi
                    exact hp.step i (by omega)
              · rw [decide_eq_false e1]
                refine iteT (q H2' false s02 (ff_iff ?_))
                rw [path_tuple]
                intro hp
                have := hp.lst
                rw [hh1] at this
                exact e1 (Option.some.inj this)
            · rw [decide_eq_false e0]
              refine iteT (q H2' false s02 (ff_iff ?_))
              rw [path_tuple]
              intro hp
              have := hp.hd
              rw [hh0] at this
              exact e0 (Option.some.inj this)
      · refine iteND' (int_ne' (show ((xs.length : Nat) : Int) ≠ (us.length : Int) + 1 by omega)) (q H1 false s1 (ff_iff ?_))
        rintro ⟨rows, e, hp⟩
        injection e with e
        rw [e, List.length_map] at hl
        exact hl hp.len
    · rw [decide_eq_false ht]
      refine iteT (q H false (Same.refl _) (ff_iff ?_))
      rintro ⟨rows, rfl, _⟩
      exact ht rfl
end
end TR
namespace TR
open PySem PySem.Spec PyProof.Rows L2
theorem scValues : FnScope ["_law_deck_here", "_law_one_here", "_law_other", "_law_path", "_law_at", "_law_some"] ["_law_deck_here", "_law_one_here", "_law_other"] (defScope sValues) := ⟨rfl, rfl, rfl, by decide +kernel, rfl, by decide +kernel, by decide +kernel⟩
theorem keep_free {H H1 : Hp} {d p q g : Addr} {n : Nat} (k : Keep d p H H1) (D : Deck H1 d p q n) (h : H1 g = none) : H g = none := by
  cases e : H g with
  | none => rfl
  | some o =>
    have := k g o e (D.ned h) (D.nep h)
    rw [h] at this
    cases this
theorem wf_rows {n L : Nat} {rows : List (List Int)} (h : ∀ r ∈ rows, Rank n r) (hn : n ≤ 8) (hl : rows.length ≤ L) (hL : 8 ≤ L) : Wf L 2 (.tuple (rows.map rkD)) ∧ Wf L 2 (.list (rows.map rkD)) ∧ szAll (rows.map rkD) ≤ rows.length * 9 := by
  have key : ∀ e ∈ rows.map rkD, Wf L 1 e ∧ sz e ≤ 9 := fun e he => by
    obtain ⟨x, hx, rfl⟩ := List.mem_map.mp he
    exact wf_rkD (h x hx) hn hL
  refine ⟨Wf.tup (by rw [List.length_map]; exact hl) fun e he => (key e he).1, Wf.lst (by rw [List.length_map]; exact hl) fun e he => (key e he).1, ?_⟩
  have := szAll_le (B := 9) (rows.map rkD) fun e he => (key e he).2
  rw [List.length_map] at this
  exact this
theorem wf_rows' {n : Nat} {rows : List (List Int)} (h : ∀ r ∈ rows, Rank n r) (hn : n ≤ 8) (hl : rows.length ≤ 41) : Wf 41 6 (.tuple (rows.map rkD)) ∧ sz (.tuple (rows.map rkD)) ≤ 1000 := by
  obtain ⟨a, _, c⟩ := wf_rows h hn hl (by decide)
  refine ⟨a.mono (by decide) (by decide), ?_⟩
  show 1 + szAll (rows.map rkD) ≤ 1000
  omega
theorem RpAll.updV {H : Hp} {ban : List Addr} {ds : List PyData} {xs us ys : List V} {D : Addr} (h : RpAll H ban ds xs) (hD : D ∈ ban) (e : H D = some (.lst us)) : RpAll (upd H D (.lst ys)) ban ds xs :=
  RpAll.mv (fun a zs hn g => by rw [upd_ne (show a ≠ D from fun z => hn (by rw [z]; exact hD))]; exact g) (fun a zs g => g.updl e) (fun a g => by rw [upd_ne (ne_of g e (by intro z; cases z))]; exact g) ds xs h
mutual
theorem Rp.lessV {H : Hp} {ban ban' : List Addr} (s : ∀ b, b ∈ ban' → b ∈ ban) : ∀ (d : PyData) (v : V), Rp H ban d v → Rp H ban' d v
  | .none, _, h => h
  | .bool _, _, h => h
  | .int _, _, h => h
  | .str _, _, h => h
  | .list ds, _, h => by
    obtain ⟨a, xs, e, h1, h2, h3⟩ := h
    exact ⟨a, xs, e, h1, fun z => h2 (s a z), RpAll.lessV s ds xs h3⟩
  | .tuple ds, _, h => by
    obtain ⟨a, xs, e, h1, h3⟩ := h
    exact ⟨a, xs, e, h1, RpAll.lessV s ds xs h3⟩
  | .dict kvs, _, h => h
theorem RpAll.lessV {H : Hp} {ban ban' : List Addr} (s : ∀ b, b ∈ ban' → b ∈ ban) : ∀ (ds : List PyData) (xs : List V), RpAll H ban ds xs → RpAll H ban' ds xs
  | [], _, h => h
  | d :: ds, _, h => by
    obtain ⟨v, r, e, h1, h2⟩ := h
    exact ⟨v, r, e, Rp.lessV s d v h1, RpAll.lessV s ds r h2⟩
end
section
variable {P : Program} {w : World} {K : PySem.W.Frag} {mg : Str → Option Value} {base : Heap}
def spValues : Sp := fun vs H Q _ => ∃ (d p q a b : Addr) (c n : Nat) (ns ms : List Int), vs = [.ref d, .ref a, .ref b] ∧ Deck H d p q c ∧ c ≤ 700000 ∧ Tp H a ns ∧ Tp H b ms ∧ Rank n ns ∧ Rank n ms ∧ 1 ≤ n ∧ n ≤ 8 ∧
  ∀ H' l xs es, Deck H' d p q (c + 300) → Keep d p H H' → H' l = some (.lst xs) → RpAll H' [d, p, sysModules] es xs → (∀ e ∈ es, Wf 41 6 e ∧ sz e ≤ 1000) → Q (.ref l) H'
theorem ok_Values {f f__law_drawn_path f__law_next f__law_detour f_swap_path f__law_list f__law_bent f__law_odd f__law_twisted : Addr} {fd d__law_drawn_path d__law_next d__law_detour d_swap_path d__law_list d__law_bent d__law_odd d__law_twisted : FuncData} (F : Fun K "_law_values" "_law_values" sValues f fd)
    (k__law_drawn_path : PySem.W.keepIn K (.ref f__law_drawn_path) = true) (b__law_drawn_path : Binds K d__law_drawn_path ["_law_deck_here", "_law_one_here", "_law_other"] []) (g__law_drawn_path : mg "_law_drawn_path" = some (.ref f__law_drawn_path)) (G__law_drawn_path : FnOk P w K mg base CX0 6 f__law_drawn_path d__law_drawn_path ["_law_deck_here", "_law_one_here", "_law_other"] spDrawn)
    (k__law_next : PySem.W.keepIn K (.ref f__law_next) = true) (b__law_next : Binds K d__law_next ["_law_deck_here", "_law_many"] []) (g__law_next : mg "_law_next" = some (.ref f__law_next)) (G__law_next : FnOk P w K mg base CX0 6 f__law_next d__law_next ["_law_deck_here", "_law_many"] spNext)
    (k__law_detour : PySem.W.keepIn K (.ref f__law_detour) = true) (b__law_detour : Binds K d__law_detour ["_law_deck_here", "_law_path"] []) (g__law_detour : mg "_law_detour" = some (.ref f__law_detour)) (G__law_detour : FnOk P w K mg base CX0 6 f__law_detour d__law_detour ["_law_deck_here", "_law_path"] spDetour)
    (k_swap_path : PySem.W.keepIn K (.ref f_swap_path) = true) (b_swap_path : Binds K d_swap_path ["one", "other"] []) (g_swap_path : mg "swap_path" = some (.ref f_swap_path)) (G_swap_path : FnOk P w K mg base CX0 6 f_swap_path d_swap_path ["one", "other"] (spPath K))
    (k__law_list : PySem.W.keepIn K (.ref f__law_list) = true) (b__law_list : Binds K d__law_list ["_law_deck_here", "_law_dishes"] []) (g__law_list : mg "_law_list" = some (.ref f__law_list)) (G__law_list : FnOk P w K mg base CX0 6 f__law_list d__law_list ["_law_deck_here", "_law_dishes"] spList)
    (k__law_bent : PySem.W.keepIn K (.ref f__law_bent) = true) (b__law_bent : Binds K d__law_bent ["_law_deck_here", "_law_thing", "_law_deep"] []) (g__law_bent : mg "_law_bent" = some (.ref f__law_bent)) (G__law_bent : FnOk P w K mg base CX0 6 f__law_bent d__law_bent ["_law_deck_here", "_law_thing", "_law_deep"] (spBent 4))
    (k__law_odd : PySem.W.keepIn K (.ref f__law_odd) = true) (b__law_odd : Binds K d__law_odd ["_law_deck_here"] []) (g__law_odd : mg "_law_odd" = some (.ref f__law_odd)) (G__law_odd : FnOk P w K mg base CX0 6 f__law_odd d__law_odd ["_law_deck_here"] spOdd)
    (k__law_twisted : PySem.W.keepIn K (.ref f__law_twisted) = true) (b__law_twisted : Binds K d__law_twisted ["_law_deck_here", "_law_path"] []) (g__law_twisted : mg "_law_twisted" = some (.ref f__law_twisted)) (G__law_twisted : FnOk P w K mg base CX0 6 f__law_twisted d__law_twisted ["_law_deck_here", "_law_path"] spTwist)
    (m_len : mg "len" = none) (m_list : mg "list" = none) : FnOk P w K mg base CX0 7 f fd ["_law_deck_here", "_law_one_here", "_law_other"] spValues := by
  refine F.ok scValues (fun vs H Q E h => ?_) (fun cdv A outer s H vs Q E hr h => ?_)
  · obtain ⟨d, p, q, a, b, c, n, ns, ms, rfl, _⟩ := h
    rfl
  · obtain ⟨d, p, q, a, b, c, n, ns, ms, rfl, D0, hc, ha, hb, hna, hnb, hn1, hn, qq⟩ := h
    refine ⟨_, 
      (pss_cons (ps_set (i := 3) scValues.nd rfl (.inl rfl) (pe_call G__law_drawn_path hr (by rfl) g__law_drawn_path k__law_drawn_path b__law_drawn_path .nil pass0 (pa_cons (pv 0) (pa_cons (pv 1) (pa_cons (pv 2) pa_nil))))) 
      (pss_cons (ps_set (i := 4) scValues.nd rfl (.inl rfl) (pe_call G__law_next hr (by rfl) g__law_next k__law_next b__law_next .nil pass0 (pa_cons (pv 0) (pa_cons (pe_callB call_len_seq (by rfl) m_len PySem.boot_len (pa_cons (pv 3) pa_nil)) pa_nil)))) 
      (pss_cons (ps_set (i := 5) scValues.nd rfl (.inl rfl) (pe_lstN (pa_cons (pe_call G_swap_path hr (by rfl) g_swap_path k_swap_path b_swap_path .nil pass0 (pa_cons (pv 1) (pa_cons (pv 2) pa_nil))) (pa_cons (pv 3) (pa_cons (pe_revT (pv 3)) (pa_cons (pe_call G__law_detour hr (by rfl) g__law_detour k__law_detour b__law_detour .nil pass0 (pa_cons (pv 0) (pa_cons (pv 3) pa_nil))) pa_nil)))))) 
      (pss_cons (ps_set (i := 5) scValues.nd rfl (.inl rfl) (pe_op op_catN (pv 5) (pe_lstN (pa_cons (pe_op op_catTN (pe_slice sl_tupN (pv 3) po_none (po_some (pv 4))) (pe_slice sl_tupN (pv 3) (po_some (pe_op op_add (pv 4) pe_int)) po_none)) (pa_cons (pe_op op_catTN (pe_slice sl_tupN (pv 3) po_none (po_some (pe_op op_add (pv 4) pe_int))) (pe_slice sl_tupN (pv 3) (po_some (pv 4)) po_none)) (pa_cons (pe_callTy call_listN (by rfl) m_list (by decide +kernel) (pa_cons (pv 3) pa_nil)) pa_nil)))))) 
      (pss_cons (ps_expr (pe_bm PySem.F.plainAttrs_list PySem.F.slot_list_append PySem.F.type_list_append mt_append (pv 5) (pa_cons (pe_call G__law_drawn_path hr (by rfl) g__law_drawn_path k__law_drawn_path b__law_drawn_path .nil pass0 (pa_cons (pv 0) (pa_cons (pv 1) (pa_cons (pe_call G__law_list hr (by rfl) g__law_list k__law_list b__law_list .nil pass0 (pa_cons (pv 0) (pa_cons (pe_callB call_len_seq (by rfl) m_len PySem.boot_len (pa_cons (pv 1) pa_nil)) pa_nil))) pa_nil)))) pa_nil))) 
      (pss_cons (ps_set (i := 5) scValues.nd rfl (.inl rfl) (pe_op op_catN (pv 5) (pe_lstN (pa_cons (pe_call G__law_bent hr (by rfl) g__law_bent k__law_bent b__law_bent .nil pass0 (pa_cons (pv 0) (pa_cons (pv 3) (pa_cons pe_int pa_nil)))) (pa_cons (pe_call G__law_bent hr (by rfl) g__law_bent k__law_bent b__law_bent .nil pass0 (pa_cons (pv 0) (pa_cons (pv 3) (pa_cons pe_int pa_nil)))) pa_nil))))) 
      (pss_one (ps_ret (pe_op op_catN (pv 5) (pe_lstN (pa_cons (pe_call G__law_twisted hr (by rfl) g__law_twisted k__law_twisted b__law_twisted .nil pass0 (pa_cons (pv 0) (pa_cons (pv 3) pa_nil))) (pa_cons (pe_tupN (pa_cons (pv 1) (pa_cons (pv 2) pa_nil))) (pa_cons (pe_call G__law_odd hr (by rfl) g__law_odd k__law_odd b__law_odd .nil pass0 (pa_cons (pv 0) pa_nil)) (pa_cons (pe_tupN pa_nil) pa_nil)))))))))))))), ?_⟩
    refine ⟨.ref d, rfl, .ref a, rfl, .ref b, rfl, d, p, q, a, b, c, n, ns, ms, rfl, D0, by omega, ha, hb, hna, hnb, hn1, hn, fun H1 t xs rows D1 k1 tf R hrs h1 h29 => ?_⟩
    have hxl := R.len
    refine ⟨.ref d, rfl, .ref t, rfl, t, xs, rfl, .inr (.inl tf.rd), d, p, q, c + 30, _, rfl, D1, by omega, by omega, by omega, fun H2 z z0 z1 D2 k2 => ?_⟩
    obtain ⟨j, rfl⟩ := Int.eq_ofNat_of_zero_le z0
    have hj : j < xs.length := by omega
    have tf2 := tf.keep D1 k2
    have R2 := R.keep D1 k2
    have ha2 := (ha.keep D0 k1).keep D1 k2
    have hb2 := (hb.keep D0 k1).keep D1 k2
    refine ⟨.ref a, rfl, .ref b, rfl, a, b, n, ns, ms, rfl, ha2, hb2, hna, hnb, hn1, hn, fun H3 u1 us1 rows1 s3 tu1 Ru1 _ hl1 hrk1 => ?_⟩
    have tf3 := tf2.same s3
    refine ⟨.ref t, rfl, .ref t, rfl, t, xs, rfl, .inl tf3.rd, fun u2 o2 hu2 ho2 => ?_⟩
    have s4 : Same H3 (upd H3 u2 (.frz o2 (.tup xs.reverse))) := same_upd hu2
    have tu2 : TF (upd H3 u2 (.frz o2 (.tup xs.reverse))) u2 xs.reverse := TF.new ho2
    generalize upd H3 u2 (.frz o2 (.tup xs.reverse)) = H4 at s4 tu2 ⊢
    have s24 := s3.trans s4
    have D4 := D2.same s24
    refine ⟨.ref d, rfl, .ref t, rfl, d, p, q, t, c + 31, n, xs, rows, rfl, D4, by omega, tf2.same s24, R2.same s24, hrs, h1, h29, hn, hn1, fun H5 u3 ys3 rows3 D5 k5 tu3 Ru3 hrs3 hl3 => ⟨by show 4 ≤ sizeLine; decide, fun L1 H6 hL1 nL1 s6 e6 => ?_⟩⟩
    have tf6 := ((tf2.same s24).keep D4 k5).same s6
    have R6 := ((R2.same s24).keep D4 k5).same s6
    -- three more
    refine ⟨.ref L1, rfl, .ref t, rfl, .int (j : Int), rfl, _, rfl, t, xs, rfl, tf6, fun v1 H7 s7 hv1 => ?_⟩
    rw [cut_to (by omega)] at hv1
    refine ⟨.ref t, rfl, .int (j : Int), rfl, _, 1, rfl, rfl, _, rfl, t, xs, rfl, tf6.same s7, fun v2 H8 s8 hv2 => ?_⟩
    rw [show ((j : Int) + 1) = ((j + 1 : Nat) : Int) by omega, cut_from] at hv2
    refine ⟨v1, v2, _, _, rfl, rfl, hv1.same s8, hv2, ?_, fun v3 H9 s9 hv3 => ?_⟩
    · rw [List.length_take, List.length_drop]
      exact Nat.le_of_lt (small1000 (by omega))
    have s69 := s7.trans (s8.trans s9)
    refine ⟨.ref t, rfl, .int (j : Int), rfl, _, 1, rfl, rfl, _, rfl, t, xs, rfl, tf6.same s69, fun v4 Ha sa hv4 => ?_⟩
    rw [show ((j : Int) + 1) = ((j + 1 : Nat) : Int) by omega, cut_to (by omega)] at hv4
    refine ⟨.ref t, rfl, .int (j : Int), rfl, _, rfl, t, xs, rfl, (tf6.same s69).same sa, fun v5 Hb sb hv5 => ?_⟩
    rw [cut_from] at hv5
    refine ⟨v4, v5, _, _, rfl, rfl, hv4.same sb, hv5, ?_, fun v6 Hc sc hv6 => ?_⟩
    · rw [List.length_take, List.length_drop]
      exact Nat.le_of_lt (small1000 (by omega))
    have s6c := s69.trans (sa.trans (sb.trans sc))
    refine ⟨.ref t, rfl, t, xs, rfl, (tf6.same s6c).rd, fun l1 Hd hl1' nl1 sd ed => ⟨by show 3 ≤ sizeLine; decide, fun L2 He hL2 nL2 se ee => ?_⟩⟩
    have s6e := s6c.trans (sd.trans se)
    refine ⟨L1, L2, _, _, rfl, rfl, s6e _ _ e6, ee, by show 7 ≤ sizeLine; decide, fun L3 Hf hL3 sf ef => ?_⟩
    have s6f := s6e.trans sf
    have Df := D5.same (s6.trans s6f)
    have b1 : l1 ∉ [d, p, sysModules, L3] := by
      simp only [List.mem_cons, List.not_mem_nil, or_false, not_or]
      exact ⟨(D5.same (s6.trans s6c)).ned hl1', (D5.same (s6.trans s6c)).nep hl1', nl1, ne_of_none (se _ _ ed) hL3⟩
    have k4f : Keep d p H4 Hf := k5.trans (Same.keep (s6.trans s6f))
    have tff := tf6.same s6f
    have Rf := R6.same s6f
    have all7 : RpAll Hf [d, p, sysModules, L3] [.tuple (rows1.map rkD), .tuple (rows.map rkD), .tuple (rows.reverse.map rkD), .tuple (rows3.map rkD), .tuple ((rows.take j ++ rows.drop (j + 1)).map rkD), .tuple ((rows.take (j + 1) ++ rows.drop j).map rkD), .list (rows.map rkD)] _ :=
      ⟨_, _, rfl, ⟨u1, _, rfl, (tu1.same s4).keep D4 k4f, ((Ru1.same s4).keep D4 k4f).rp⟩,
        _, _, rfl, ⟨t, _, rfl, tff, Rf.rp⟩,
        _, _, rfl, ⟨u2, _, rfl, tu2.keep D4 k4f, Rf.rev.rp⟩,
        _, _, rfl, ⟨u3, _, rfl, tu3.same (s6.trans s6f), (Ru3.same (s6.trans s6f)).rp⟩,
        _, _, rfl, ⟨v3, _, rfl, hv3.same (sa.trans (sb.trans (sc.trans (sd.trans (se.trans sf))))), ((Rf.take j).append (Rf.drop (j + 1))).rp⟩,
        _, _, rfl, ⟨v6, _, rfl, hv6.same (sd.trans (se.trans sf)), ((Rf.take (j + 1)).append (Rf.drop j)).rp⟩,
        _, _, rfl, ⟨l1, _, rfl, (se.trans sf) _ _ ed, b1, Rf.rp⟩, rfl⟩
    have sub : ∀ {X Y : List (List Int)}, (∀ r ∈ X, Rank n r) → (∀ r ∈ Y, Rank n r) → ∀ r ∈ X ++ Y, Rank n r := fun hx hy r hr => by
      rcases List.mem_append.mp hr with hr | hr
      · exact hx r hr
      · exact hy r hr
    have hlt : ∀ k, (∀ r ∈ rows.take k, Rank n r) := fun k r hr => hrs r (List.mem_of_mem_take hr)
    have hld : ∀ k, (∀ r ∈ rows.drop k, Rank n r) := fun k r hr => hrs r (List.mem_of_mem_drop hr)
    obtain ⟨wP, wPl, zP⟩ := wf_rows hrs hn (show rows.length ≤ 29 by omega) (by decide)
    have wf7 : ∀ e ∈ [PyData.tuple (rows1.map rkD), .tuple (rows.map rkD), .tuple (rows.reverse.map rkD), .tuple (rows3.map rkD), .tuple ((rows.take j ++ rows.drop (j + 1)).map rkD), .tuple ((rows.take (j + 1) ++ rows.drop j).map rkD), .list (rows.map rkD)], Wf 41 6 e ∧ sz e ≤ 1000 := by
      refine List.forall_mem_cons.mpr ⟨wf_rows' hrk1 hn (by omega), List.forall_mem_cons.mpr ⟨wf_rows' hrs hn (by omega), List.forall_mem_cons.mpr ⟨wf_rows' (fun r hr => hrs r (List.mem_reverse.mp hr)) hn (by rw [List.length_reverse]; omega), List.forall_mem_cons.mpr ⟨wf_rows' hrs3 hn (by omega), List.forall_mem_cons.mpr ⟨wf_rows' (sub (hlt j) (hld (j + 1))) hn (by rw [List.length_append, List.length_take, List.length_drop]; omega), List.forall_mem_cons.mpr ⟨wf_rows' (sub (hlt (j + 1)) (hld j)) hn (by rw [List.length_append, List.length_take, List.length_drop]; omega), List.forall_mem_cons.mpr ⟨⟨wPl.mono (by decide) (by decide), by show 1 + szAll (rows.map rkD) ≤ 1000; omega⟩, fun _ h => absurd h (by simp)⟩⟩⟩⟩⟩⟩⟩
    generalize hds : [PyData.tuple (rows1.map rkD), .tuple (rows.map rkD), .tuple (rows.reverse.map rkD), .tuple (rows3.map rkD), .tuple ((rows.take j ++ rows.drop (j + 1)).map rkD), .tuple ((rows.take (j + 1) ++ rows.drop j).map rkD), .list (rows.map rkD)] = ds7 at all7 wf7
    generalize hvs : [V.ref u1, .ref t, .ref u2, .ref u3] ++ [V.ref v3, .ref v6, .ref l1] = vs7 at ef
    replace all7 : RpAll Hf [d, p, sysModules, L3] ds7 vs7 := by
      rw [← hvs]
      exact all7
    have len7 : vs7.length = 7 := by rw [← hvs]; rfl
    have nL3d : L3 ≠ d := (D5.same (s6.trans s6e)).ned hL3
    have nL3p : L3 ≠ p := (D5.same (s6.trans s6e)).nep hL3
    have nL3q : L3 ≠ q := (D5.same (s6.trans s6e)).neq hL3
    have k0f : Keep d p H Hf := k1.trans (k2.trans ((Same.keep s24).trans k4f))
    have haf := ((ha2.same s24).keep D4 k4f)
    have hbf := ((hb2.same s24).keep D4 k4f)
    have elN : (ns.map V.int).length = n := by rw [List.length_map]; exact hna.len
    have hL30 : H L3 = none := by
      exact keep_free (k1.trans (k2.trans ((Same.keep s24).trans (k5.trans (Same.keep (s6.trans s6e)))))) (D5.same (s6.trans s6e)) hL3
    -- one more, by append
    refine ⟨.ref L3, rfl, .inl ⟨rfl, _, sqL ef⟩, .ref d, rfl, .ref a, rfl, .ref d, rfl, .ref a, rfl, a, _, rfl, .inr haf.sq, d, p, q, c + 33, n, by rw [elN]; rfl, Df, by omega, hn, fun Hg b2 ms2 hms2 Dg kg tb2 => ?_⟩
    refine ⟨d, p, q, a, b2, c + 33 + n, n, ns, ms2, rfl, Dg, by omega, haf.keep Df kg, tb2, hna, hms2, hn1, hn, fun Hh t2 xs2 rows2 Dh kh tft2 Rt2 hrs2 h12 h292 => ?_⟩
    have efh := kh _ _ (kg _ _ ef nL3d nL3p) nL3d nL3p
    refine ⟨L3, _, _, rfl, rfl, efh, by rw [len7]; exact small1000 (by decide), ?_⟩
    have all8 : RpAll (upd Hh L3 (.lst (vs7 ++ [.ref t2]))) [d, p, sysModules, L3] (ds7 ++ [.tuple (rows2.map rkD)]) (vs7 ++ [.ref t2]) :=
      (((all7.keep Df kg (by simp) (by simp)).keep Dg kh (by simp) (by simp)).updV (by simp) efh).app ⟨.ref t2, [], rfl, ⟨t2, _, rfl, tft2.updl efh, (Rt2.upd_lst efh).rp⟩, rfl⟩
    have tfh : TF (upd Hh L3 (.lst (vs7 ++ [.ref t2]))) t xs := ((tff.keep Df kg).keep Dg kh).updl efh
    have Rh : Rts (upd Hh L3 (.lst (vs7 ++ [.ref t2]))) xs rows := ((Rf.keep Df kg).keep Dg kh).upd_lst efh
    have hah : Tp (upd Hh L3 (.lst (vs7 ++ [.ref t2]))) a ns := ((haf.keep Df kg).keep Dg kh).updl efh
    have hbh : Tp (upd Hh L3 (.lst (vs7 ++ [.ref t2]))) b ms := ((hbf.keep Df kg).keep Dg kh).updl efh
    have Dh' : Deck (upd Hh L3 (.lst (vs7 ++ [.ref t2]))) d p q (c + 71) := Deck.mono (k := c + 71) (Dh.upd nL3d nL3p nL3q) (by omega)
    have kh' : Keep d p H (upd Hh L3 (.lst (vs7 ++ [.ref t2]))) := keep_fresh (k0f.trans (kg.trans kh)) hL30
    have eh' : upd Hh L3 (.lst (vs7 ++ [.ref t2])) L3 = some (.lst (vs7 ++ [.ref t2])) := upd_same
    generalize upd Hh L3 (.lst (vs7 ++ [.ref t2])) = Hi at all8 tfh Rh hah hbh Dh' kh' eh' ⊢
    -- two bent ones
    have zP2 : sz (.tuple (rows.map rkD)) ≤ 262 := by
      show 1 + szAll (rows.map rkD) ≤ 262
      omega
    refine ⟨.ref L3, rfl, .ref d, rfl, .ref t, rfl, d, p, q, c + 71, .ref t, .tuple (rows.map rkD), 29, 2, [], rfl, Dh', (by show c + 71 + 10 * (3 + 1) ≤ 900000; omega), Alive.nil, ⟨t, xs, rfl, tfh, Rh.rp⟩, wP, by decide, by decide, fun Hj y1 e1 Dj kj hp1 hw1 hz1 => ?_⟩
    have tfj := tfh.keep Dh' kj
    have Rj := Rh.keep Dh' kj
    refine ⟨.ref d, rfl, .ref t, rfl, d, p, q, c + 111, .ref t, .tuple (rows.map rkD), 29, 2, [], rfl, Dj, (by show c + 111 + 10 * (3 + 1) ≤ 900000; omega), Alive.nil, ⟨t, xs, rfl, tfj, Rj.rp⟩, wP, by decide, by decide, fun Hk y2 e2 Dk kk hp2 hw2 hz2 => ⟨by show 2 ≤ sizeLine; decide, fun L4 Hl hL4 nL4 sl el => ?_⟩⟩
    have kik : Keep d p Hi Hk := kj.trans kk
    have eL3 := sl _ _ (kik _ _ eh' nL3d nL3p)
    refine ⟨L3, L4, _, _, rfl, rfl, eL3, el, by rw [List.length_append, len7]; show 10 ≤ sizeLine; decide, fun L5 Hm hL5 sm em => ?_⟩
    have skm := sl.trans sm
    have Dm := Dk.same skm
    have nL5d : L5 ≠ d := (Dk.same sl).ned hL5
    have nL5p : L5 ≠ p := (Dk.same sl).nep hL5
    have tfm := (tfj.keep Dj kk).same skm
    have Rm := (Rj.keep Dj kk).same skm
    -- the last four
    refine ⟨.ref L5, rfl, .ref d, rfl, .ref t, rfl, d, p, q, t, c + 151, n, xs, rows, rfl, Dm, by omega, tfm, Rm, hrs, h1, h29, hn, hn1, fun Hn u4 e4 Dn kn hp4 hw4 hz4 => ?_⟩
    have han := ((hah.keep Dh' kik).same skm).keep Dm kn
    have hbn := ((hbh.keep Dh' kik).same skm).keep Dm kn
    refine ⟨.ref a, rfl, .ref b, rfl, by show 2 ≤ sizeLine; decide, fun p1 Ho _ so tp1 => ?_⟩
    have Do := Dn.same so
    refine ⟨.ref d, rfl, d, p, q, c + 153, [], rfl, Do, by omega, Alive.nil, fun Hp xo eo Dp kp hpo hwo => ⟨Nat.zero_le _, fun p2 Hq _ sq tp2 => ⟨by show 4 ≤ sizeLine; decide, fun L6 Hr hL6 nL6 sr er => ?_⟩⟩⟩
    have em' := (sq.trans sr) _ _ (kp _ _ (so _ _ (kn _ _ em nL5d nL5p)) nL5d nL5p)
    refine ⟨L5, L6, _, _, rfl, rfl, em', er, by rw [List.length_append, List.length_append, len7]; show 14 ≤ sizeLine; decide, fun L7 Hs hL7 ss es => ?_⟩
    have sqs := sq.trans (sr.trans ss)
    have knp : Keep d p Hm Hp := kn.trans ((Same.keep so).trans kp)
    refine qq Hs L7 _ (((ds7 ++ [.tuple (rows2.map rkD)]) ++ [e1, e2]) ++ [e4, .tuple [rkD ns, rkD ms], eo, .tuple []]) ((Dp.same sqs).mono (by omega)) (kh'.trans (kik.trans ((Same.keep skm).trans (knp.trans (Same.keep sqs))))) es ?_ ?_
    · have g8 := (((((all8.lessV (ban' := [d, p, sysModules]) (fun x hx => by
          simp only [List.mem_cons, List.not_mem_nil, or_false] at hx ⊢
          rcases hx with h | h | h
          · exact .inl h
          · exact .inr (.inl h)
          · exact .inr (.inr (.inl h)))).keep Dh' kik (by simp) (by simp)).same skm).keep Dm knp (by simp) (by simp)).same sqs)
      have g1 := (((hp1.keep Dj kk (by simp) (by simp)).same skm).keep Dm knp (by simp) (by simp)).same sqs
      have g2 := ((hp2.same skm).keep Dm knp (by simp) (by simp)).same sqs
      have g4 := ((hp4.same so).keep Do kp (by simp) (by simp)).same sqs
      have hao := ((han.same so).keep Do kp).same sqs
      have hbo := ((hbn.same so).keep Do kp).same sqs
      exact RpAll.app (RpAll.app g8 (es := [e1, e2]) (ys := [y1, y2]) ⟨y1, [y2], rfl, g1, y2, [], rfl, g2, rfl⟩) (es := [e4, .tuple [rkD ns, rkD ms], eo, .tuple []]) (ys := [.ref u4, .ref p1, xo, .ref p2]) ⟨_, _, rfl, g4, _, _, rfl, ⟨p1, _, rfl, (tp1.keep Do kp).same sqs, _, _, rfl, ⟨a, _, rfl, hao, RpAll.ints _⟩, _, _, rfl, ⟨b, _, rfl, hbo, RpAll.ints _⟩, rfl⟩, _, _, rfl, hpo.same sqs, _, _, rfl, ⟨p2, [], rfl, tp2.same (sr.trans ss), rfl⟩, rfl⟩
    · intro e he
      have hb1 : sz eo ≤ 7 := hwo.sz
      obtain ⟨wn, zn⟩ := wf_rkD hna hn (L := 41) (by decide)
      obtain ⟨wm, zm⟩ := wf_rkD hnb hn (L := 41) (by decide)
      rcases List.mem_append.mp he with he | he
      · rcases List.mem_append.mp he with he | he
        · rcases List.mem_append.mp he with he | he
          · exact wf7 e he
          · rw [List.mem_singleton] at he
            rw [he]
            exact wf_rows' hrs2 hn (by omega)
        · simp only [List.mem_cons, List.not_mem_nil, or_false] at he
          rcases he with rfl | rfl
          · exact ⟨hw1.mono (by decide) (by decide), by omega⟩
          · exact ⟨hw2.mono (by decide) (by decide), by omega⟩
      · simp only [List.mem_cons, List.not_mem_nil, or_false] at he
        rcases he with rfl | rfl | rfl | rfl
        · exact ⟨hw4.mono (by decide) (by decide), by omega⟩
        · refine ⟨Wf.mono (L := 41) (D := 2) (Nat.le_refl _) (by decide) (Wf.tup (D := 1) (by show 2 ≤ 41; decide) fun x hx => ?_), by show 1 + (sz (rkD ns) + (sz (rkD ms) + 0)) ≤ 1000; omega⟩
          simp only [List.mem_cons, List.not_mem_nil, or_false] at hx
          rcases hx with rfl | rfl
          · exact wn
          · exact wm
        · exact ⟨hwo.mono (by decide) (by decide), by omega⟩
        · exact ⟨Wf.mono (L := 41) (D := 1) (Nat.le_refl _) (by decide) (Wf.tup (D := 0) (by decide) (by simp)), by decide⟩
end
end TR
namespace TR
open PySem PySem.Spec PyProof.Rows L2
theorem scLaw : FnScope ["_law_script", "_law_deck_here", "_law_turn", "_law_one_here", "_law_other", "_law_value", "_law_kept", "_law_found", "_law_due"] ["_law_script"] (defScope sLaw) := ⟨rfl, rfl, rfl, by decide +kernel, rfl, by decide +kernel, by decide +kernel⟩
section
variable {P : Program} {w : World} {K : PySem.W.Frag} {mg : Str → Option Value} {base : Heap}
theorem ok_Law {f f__law_deck f__law_two f__law_next f__law_values f__law_is_path f_is_shortest_path f__law_same : Addr} {fd d__law_deck d__law_two d__law_next d__law_values d__law_is_path d_is_shortest_path d__law_same : FuncData} (F : Fun K "law" "law" sLaw f fd)
    (k__law_deck : PySem.W.keepIn K (.ref f__law_deck) = true) (b__law_deck : Binds K d__law_deck ["_law_script"] []) (g__law_deck : mg "_law_deck" = some (.ref f__law_deck)) (G__law_deck : FnOk P w K mg base CX0 7 f__law_deck d__law_deck ["_law_script"] (spDeck K))
    (k__law_two : PySem.W.keepIn K (.ref f__law_two) = true) (b__law_two : Binds K d__law_two ["_law_deck_here", "_law_dishes"] []) (g__law_two : mg "_law_two" = some (.ref f__law_two)) (G__law_two : FnOk P w K mg base CX0 7 f__law_two d__law_two ["_law_deck_here", "_law_dishes"] spTwo)
    (k__law_next : PySem.W.keepIn K (.ref f__law_next) = true) (b__law_next : Binds K d__law_next ["_law_deck_here", "_law_many"] []) (g__law_next : mg "_law_next" = some (.ref f__law_next)) (G__law_next : FnOk P w K mg base CX0 7 f__law_next d__law_next ["_law_deck_here", "_law_many"] spNext)
    (k__law_values : PySem.W.keepIn K (.ref f__law_values) = true) (b__law_values : Binds K d__law_values ["_law_deck_here", "_law_one_here", "_law_other"] []) (g__law_values : mg "_law_values" = some (.ref f__law_values)) (G__law_values : FnOk P w K mg base CX0 7 f__law_values d__law_values ["_law_deck_here", "_law_one_here", "_law_other"] spValues)
    (k__law_is_path : PySem.W.keepIn K (.ref f__law_is_path) = true) (b__law_is_path : Binds K d__law_is_path ["_law_one_here", "_law_other", "_law_thing"] []) (g__law_is_path : mg "_law_is_path" = some (.ref f__law_is_path)) (G__law_is_path : FnOk P w K mg base CX0 7 f__law_is_path d__law_is_path ["_law_one_here", "_law_other", "_law_thing"] spIsPath)
    (k_is_shortest_path : PySem.W.keepIn K (.ref f_is_shortest_path) = true) (b_is_shortest_path : Binds K d_is_shortest_path ["one", "other", "value"] []) (g_is_shortest_path : mg "is_shortest_path" = some (.ref f_is_shortest_path)) (G_is_shortest_path : FnOk P w K mg base CX0 7 f_is_shortest_path d_is_shortest_path ["one", "other", "value"] spIsPath)
    (k__law_same : PySem.W.keepIn K (.ref f__law_same) = true) (b__law_same : Binds K d__law_same ["_law_found", "_law_due"] []) (g__law_same : mg "_law_same" = some (.ref f__law_same)) (G__law_same : FnOk P w K mg base CX0 7 f__law_same d__law_same ["_law_found", "_law_due"] (spSame K 7))
    (m_range : mg "range" = none) (m_repr : mg "repr" = none) : RunG P w K mg base 8 f fd ["_law_script"] (spLaw K) := by
  refine okG F scLaw (fun vs H Q E h => ?_) (fun cdv A outer s H vs Q E hg hr h => ?_)
  · obtain ⟨a, ns, rfl, _⟩ := h
    rfl
  · obtain ⟨a, ns, rfl, hS, hlen, qq⟩ := h
    refine ⟨_, 
      (pss_cons (ps_set (i := 1) scLaw.nd rfl (.inl rfl) (pe_call G__law_deck hr (by rfl) g__law_deck k__law_deck b__law_deck .nil pass0 (pa_cons (pv 0) pa_nil))) 
      (pss_cons (ps_for PassesOwn.never rfl (pi_range1 (by rfl) m_range (pa_cons pe_int pa_nil)) (pg_name (i := 2) scLaw.nd rfl (.inl rfl)) 
        (pss_cons (ps_asg (pe_call G__law_two hr (by rfl) g__law_two k__law_two b__law_two .nil pass0 (pa_cons (pv 1) (pa_cons (pe_op op_add pe_int (pe_call G__law_next hr (by rfl) g__law_next k__law_next b__law_next .nil pass0 (pa_cons (pv 1) (pa_cons pe_int pa_nil)))) pa_nil))) (pg_unl (by rfl) (pgs_cons (pg_name (i := 3) scLaw.nd rfl (.inl rfl)) (pgs_cons (pg_name (i := 4) scLaw.nd rfl (.inl rfl)) pgs_nil)))) 
        (pss_one (ps_for PassesOwn.never rfl (pi_list (pe_call G__law_values hr (by rfl) g__law_values k__law_values b__law_values .nil pass0 (pa_cons (pv 1) (pa_cons (pv 3) (pa_cons (pv 4) pa_nil))))) (pg_name (i := 5) scLaw.nd rfl (.inl rfl)) 
          (pss_cons (ps_set (i := 6) scLaw.nd rfl (.inl rfl) (pe_callB (call_reprD hg hr.units) (by rfl) m_repr (by decide +kernel) (pa_cons (pv 5) pa_nil))) 
          (pss_cons (ps_par (i := 7) (j := 8) (by rfl) scLaw.nd rfl rfl (by decide) rfl rfl (pa_cons (pe_call G_is_shortest_path hr (by rfl) g_is_shortest_path k_is_shortest_path b_is_shortest_path .nil pass0 (pa_cons (pv 3) (pa_cons (pv 4) (pa_cons (pv 5) pa_nil)))) (pa_cons (pe_call G__law_is_path hr (by rfl) g__law_is_path k__law_is_path b__law_is_path .nil pass0 (pa_cons (pv 3) (pa_cons (pv 4) (pa_cons (pv 5) pa_nil)))) pa_nil)) (by rfl)) 
          (pss_one (ps_if (PW.pt (pw_or (pt_not (pt_val (pe_call G__law_same hr (by rfl) g__law_same k__law_same b__law_same .nil pass0 (pa_cons (pv 7) (pa_cons (pv 8) pa_nil))))) (pw_or1 (pt_cmpR op_ne (pe_callB (call_reprD hg hr.units) (by rfl) m_repr (by decide +kernel) (pa_cons (pv 5) pa_nil)) (pv 6) (nomark _))))) 
            (pss_one (ps_ret pe_bl)) pss_nil)))))))) 
      (pss_one (ps_ret pe_bl)))), ?_⟩
    refine ⟨.ref a, rfl, a, ns, rfl, hS, hlen, fun H1 d p q s1 D1 => ?_⟩
    refine ⟨4, rfl, by decide, by decide, for_range (n := 4) (lo := 0) (fun i σ H2 => (∃ y2 y3 y4 y5 y6 y7 y8, σ = [some (.ref a), some (.ref d), y2, y3, y4, y5, y6, y7, y8]) ∧ Deck H2 d p q (360 * i)) ⟨⟨none, none, none, none, none, none, none, rfl⟩, D1⟩ (fun i σ H2 hi h => ?_) (fun σ H2 h => qq H2)⟩
    obtain ⟨⟨y2, y3, y4, y5, y6, y7, y8, rfl⟩, D2⟩ := h
    refine ⟨.ref d, rfl, .ref d, rfl, d, p, q, 360 * i, 8, rfl, D2, by omega, by decide, by decide, fun H3 r r0 r1 D3 k3 => ?_⟩
    obtain ⟨j, rfl⟩ := Int.eq_ofNat_of_zero_le r0
    refine ⟨1, (j : Int), rfl, rfl, d, p, q, 360 * i + 1, 1 + j, by show [V.ref d, V.int (1 + (j : Int))] = [V.ref d, V.int ((1 + j : Nat) : Int)]; rw [show ((1 + j : Nat) : Int) = 1 + (j : Int) by omega], D3, by omega, by omega, by omega, fun H4 l u v ms os hms hos D4 k4 el tu tv => ?_⟩
    have hn : 1 + j ≤ 8 := by omega
    have hn1 : 1 ≤ 1 + j := by omega
    generalize 1 + j = n at hms hos hn hn1
    refine ⟨l, _, rfl, sqL el, rfl, .ref u, _, rfl, .ref v, _, rfl, rfl, ?_⟩
    refine ⟨.ref d, rfl, .ref u, rfl, .ref v, rfl, d, p, q, u, v, 360 * i + 51, n, ms, os, rfl, D4, by omega, tu, tv, hms, hos, hn1, hn, fun H5 L xs es D5 k5 eL all wf => ?_⟩
    have tu5 := tu.keep D4 k5
    have tv5 := tv.keep D4 k5
    refine ⟨L, rfl, ⟨_, sqL eL⟩, for_list (K := K) (a := L) (xs := xs) (fun m σ Ha => (∃ y2 y5 y6 y7 y8, σ = [some (.ref a), some (.ref d), y2, some (.ref u), some (.ref v), y5, y6, y7, y8]) ∧ Same H5 Ha) ⟨⟨_, _, _, _, _, rfl⟩, Same.refl _⟩ (fun m σ Ha _ h => h.2.seq (sqL eL)) (fun m x σ Ha hx h => ?_) (fun σ Ha h => ?_)⟩
    · obtain ⟨⟨y2, y5, y6, y7, y8, rfl⟩, sA⟩ := h
      obtain ⟨e, he, hre⟩ := all.get hx
      obtain ⟨hw, hz⟩ := wf e (List.mem_of_getElem? he)
      obtain ⟨q1, q2, q3⟩ := hw.shownS (by decide)
      have q4 := shown_fits q1 hz (by decide)
      have rpA := hre.same sA
      refine ⟨x, rfl, x, e, _, rfl, by simp, rpA, q2, by omega, q4, ?_⟩
      refine ⟨.ref u, rfl, .ref v, rfl, x, rfl, u, v, x, e, _, n, 41, 6, ms, os, rfl, tu5.same sA, tv5.same sA, hms, hos, hn1, hn, rpA, hw, by decide, fun Hb b1 sB hb1 => ?_⟩
      refine ⟨.ref u, rfl, .ref v, rfl, x, rfl, u, v, x, e, _, n, 41, 6, ms, os, rfl, (tu5.same sA).same sB, (tv5.same sA).same sB, hms, hos, hn1, hn, rpA.same sB, hw, by decide, fun Hc b2 sC hb2 => ⟨.bl b1, .bl b2, rfl, ?_⟩⟩
      have eb : b1 = b2 := by
        rw [Bool.eq_iff_iff, hb1, hb2]
      refine ⟨.bl b1, rfl, .bl b2, rfl, _, _, rfl, alk_bl (m := 6) eb, fun Hd sD => ⟨_, rfl, iteF ?_⟩⟩
      have sAD := sB.trans (sC.trans sD)
      refine ⟨x, rfl, x, e, _, rfl, by simp, rpA.same sAD, q2, by omega, q4, _, rfl, rfl, _, rfl, ?_⟩
      exact iteNS rfl ⟨⟨_, _, _, _, _, rfl⟩, sA.trans sAD⟩
    · obtain ⟨⟨y2, y5, y6, y7, y8, rfl⟩, sA⟩ := h
      exact ⟨⟨_, _, _, _, _, _, _, rfl⟩, (D5.same sA).mono (by omega)⟩
end
end TR
namespace TR
open PySem PySem.Spec PyProof.Rows L2
set_option maxHeartbeats 0 in
theorem all_mk {l : PySem.W.OpenLaw} {w : World} {K : PySem.W.Frag} {h : Heap} {mg : Str → Option Value} {fa f0 f1 f2 f3 f4 f5 f6 f7 f8 f9 f10 f11 f12 f13 f14 f15 f16 f17 f18 f19 f20 f21 f22 f23 f24 f25 f26 f27 f28 f29 f30 f31 f32 : Addr} (X : K.In h) (G : h.Ns mainGlobals mg) (hfa : mg "law" = some (.ref fa))
    {od0 an0 od1 an1 od2 an2 od3 an3 od4 an4 od5 an5 od6 an6 od7 an7 od8 an8 od9 an9 od10 an10 od11 an11 od12 an12 od13 an13 od14 an14 od15 an15 od16 an16 od17 an17 od18 an18 od19 an19 od20 an20 od21 an21 od22 an22 od23 an23 od24 an24 od25 an25 od26 an26 od27 an27 od28 an28 od29 an29 od30 an30 od31 an31 od32 an32 : Option Addr} {sl0 sl1 sl2 sl3 sl4 sl5 sl6 sl7 sl8 sl9 sl10 sl11 sl12 sl13 sl14 sl15 sl16 sl17 sl18 sl19 sl20 sl21 sl22 sl23 sl24 sl25 sl26 sl27 sl28 sl29 sl30 sl31 sl32 : Array (Option Value)} {oc0 kV0 dc0 pm0 cd0 ct0 oc1 kV1 dc1 pm1 cd1 ct1 oc2 kV2 dc2 pm2 cd2 ct2 oc3 kV3 dc3 pm3 cd3 ct3 oc4 kV4 dc4 pm4 cd4 ct4 oc5 kV5 dc5 pm5 cd5 ct5 oc6 kV6 dc6 pm6 cd6 ct6 oc7 kV7 dc7 pm7 cd7 ct7 oc8 kV8 dc8 pm8 cd8 ct8 oc9 kV9 dc9 pm9 cd9 ct9 oc10 kV10 dc10 pm10 cd10 ct10 oc11 kV11 dc11 pm11 cd11 ct11 oc12 kV12 dc12 pm12 cd12 ct12 oc13 kV13 dc13 pm13 cd13 ct13 oc14 kV14 dc14 pm14 cd14 ct14 oc15 kV15 dc15 pm15 cd15 ct15 oc16 kV16 dc16 pm16 cd16 ct16 oc17 kV17 dc17 pm17 cd17 ct17 oc18 kV18 dc18 pm18 cd18 ct18 oc19 kV19 dc19 pm19 cd19 ct19 oc20 kV20 dc20 pm20 cd20 ct20 oc21 kV21 dc21 pm21 cd21 ct21 oc22 kV22 dc22 pm22 cd22 ct22 oc23 kV23 dc23 pm23 cd23 ct23 oc24 kV24 dc24 pm24 cd24 ct24 oc25 kV25 dc25 pm25 cd25 ct25 oc26 kV26 dc26 pm26 cd26 ct26 oc27 kV27 dc27 pm27 cd27 ct27 oc28 kV28 dc28 pm28 cd28 ct28 oc29 kV29 dc29 pm29 cd29 ct29 oc30 kV30 dc30 pm30 cd30 ct30 oc31 kV31 dc31 pm31 cd31 ct31 oc32 kV32 dc32 pm32 cd32 ct32 : Value}
    (a0 : PySem.W.nsIn K mainGlobals "is_whole" = some (some (.ref f0))) (l0 : K.lookup f0 = some ⟨oc0, od0, .func (PySem.W.fnOf "is_whole" "is_whole" (defArgs sWhole) (defBody sWhole) (defScope sWhole) .none kV0 dc0 pm0 an0 cd0 ct0), sl0⟩) (c0 : PySem.W.codeIn K cd0 "is_whole" = true) (k0 : PySem.W.keepIn K (.ref f0) = true)
    (a1 : PySem.W.nsIn K mainGlobals "is_order" = some (some (.ref f1))) (l1 : K.lookup f1 = some ⟨oc1, od1, .func (PySem.W.fnOf "is_order" "is_order" (defArgs sIsOrder) (defBody sIsOrder) (defScope sIsOrder) .none kV1 dc1 pm1 an1 cd1 ct1), sl1⟩) (c1 : PySem.W.codeIn K cd1 "is_order" = true) (k1 : PySem.W.keepIn K (.ref f1) = true)
    (a2 : PySem.W.nsIn K mainGlobals "ascending_tuples" = some (some (.ref f2))) (l2 : K.lookup f2 = some ⟨oc2, od2, .func (PySem.W.fnOf "ascending_tuples" "ascending_tuples" (defArgs sAtup) (defBody sAtup) (defScope sAtup) .none kV2 dc2 pm2 an2 cd2 ct2), sl2⟩) (c2 : PySem.W.codeIn K cd2 "ascending_tuples" = true) (k2 : PySem.W.keepIn K (.ref f2) = true)
    (a3 : PySem.W.nsIn K mainGlobals "is_ranking" = some (some (.ref f3))) (l3 : K.lookup f3 = some ⟨oc3, od3, .func (PySem.W.fnOf "is_ranking" "is_ranking" (defArgs sIsRk) (defBody sIsRk) (defScope sIsRk) .none kV3 dc3 pm3 an3 cd3 ct3), sl3⟩) (c3 : PySem.W.codeIn K cd3 "is_ranking" = true) (k3 : PySem.W.keepIn K (.ref f3) = true)
    (a4 : PySem.W.nsIn K mainGlobals "all_pairs" = some (some (.ref f4))) (l4 : K.lookup f4 = some ⟨oc4, od4, .func (PySem.W.fnOf "all_pairs" "all_pairs" (defArgs sPairs) (defBody sPairs) (defScope sPairs) .none kV4 dc4 pm4 an4 cd4 ct4), sl4⟩) (c4 : PySem.W.codeIn K cd4 "all_pairs" = true) (k4 : PySem.W.keepIn K (.ref f4) = true)
    (a5 : PySem.W.nsIn K mainGlobals "prefers" = some (some (.ref f5))) (l5 : K.lookup f5 = some ⟨oc5, od5, .func (PySem.W.fnOf "prefers" "prefers" (defArgs sPref) (defBody sPref) (defScope sPref) .none kV5 dc5 pm5 an5 cd5 ct5), sl5⟩) (c5 : PySem.W.codeIn K cd5 "prefers" = true) (k5 : PySem.W.keepIn K (.ref f5) = true)
    (a6 : PySem.W.nsIn K mainGlobals "agree" = some (some (.ref f6))) (l6 : K.lookup f6 = some ⟨oc6, od6, .func (PySem.W.fnOf "agree" "agree" (defArgs sAgree) (defBody sAgree) (defScope sAgree) .none kV6 dc6 pm6 an6 cd6 ct6), sl6⟩) (c6 : PySem.W.codeIn K cd6 "agree" = true) (k6 : PySem.W.keepIn K (.ref f6) = true)
    (a7 : PySem.W.nsIn K mainGlobals "differences" = some (some (.ref f7))) (l7 : K.lookup f7 = some ⟨oc7, od7, .func (PySem.W.fnOf "differences" "differences" (defArgs sDiffs) (defBody sDiffs) (defScope sDiffs) .none kV7 dc7 pm7 an7 cd7 ct7), sl7⟩) (c7 : PySem.W.codeIn K cd7 "differences" = true) (k7 : PySem.W.keepIn K (.ref f7) = true)
    (a8 : PySem.W.nsIn K mainGlobals "distance" = some (some (.ref f8))) (l8 : K.lookup f8 = some ⟨oc8, od8, .func (PySem.W.fnOf "distance" "distance" (defArgs sDist) (defBody sDist) (defScope sDist) .none kV8 dc8 pm8 an8 cd8 ct8), sl8⟩) (c8 : PySem.W.codeIn K cd8 "distance" = true) (k8 : PySem.W.keepIn K (.ref f8) = true)
    (a9 : PySem.W.nsIn K mainGlobals "swap" = some (some (.ref f9))) (l9 : K.lookup f9 = some ⟨oc9, od9, .func (PySem.W.fnOf "swap" "swap" (defArgs sSwap) (defBody sSwap) (defScope sSwap) .none kV9 dc9 pm9 an9 cd9 ct9), sl9⟩) (c9 : PySem.W.codeIn K cd9 "swap" = true) (k9 : PySem.W.keepIn K (.ref f9) = true)
    (a10 : PySem.W.nsIn K mainGlobals "wrong_places" = some (some (.ref f10))) (l10 : K.lookup f10 = some ⟨oc10, od10, .func (PySem.W.fnOf "wrong_places" "wrong_places" (defArgs sWrong) (defBody sWrong) (defScope sWrong) .none kV10 dc10 pm10 an10 cd10 ct10), sl10⟩) (c10 : PySem.W.codeIn K cd10 "wrong_places" = true) (k10 : PySem.W.keepIn K (.ref f10) = true)
    (a11 : PySem.W.nsIn K mainGlobals "swap_path" = some (some (.ref f11))) (l11 : K.lookup f11 = some ⟨oc11, od11, .func (PySem.W.fnOf "swap_path" "swap_path" (defArgs sSwPath) (defBody sSwPath) (defScope sSwPath) .none kV11 dc11 pm11 an11 cd11 ct11), sl11⟩) (c11 : PySem.W.codeIn K cd11 "swap_path" = true) (k11 : PySem.W.keepIn K (.ref f11) = true)
    (a12 : PySem.W.nsIn K mainGlobals "is_shortest_path" = some (some (.ref f12))) (l12 : K.lookup f12 = some ⟨oc12, od12, .func (PySem.W.fnOf "is_shortest_path" "is_shortest_path" (defArgs sIsPath) (defBody sIsPath) (defScope sIsPath) .none kV12 dc12 pm12 an12 cd12 ct12), sl12⟩) (c12 : PySem.W.codeIn K cd12 "is_shortest_path" = true) (k12 : PySem.W.keepIn K (.ref f12) = true)
    (a13 : PySem.W.nsIn K mainGlobals "_law_deck" = some (some (.ref f13))) (l13 : K.lookup f13 = some ⟨oc13, od13, .func (PySem.W.fnOf "_law_deck" "_law_deck" (defArgs sDeck) (defBody sDeck) (defScope sDeck) .none kV13 dc13 pm13 an13 cd13 ct13), sl13⟩) (c13 : PySem.W.codeIn K cd13 "_law_deck" = true) (k13 : PySem.W.keepIn K (.ref f13) = true)
    (a14 : PySem.W.nsIn K mainGlobals "_law_next" = some (some (.ref f14))) (l14 : K.lookup f14 = some ⟨oc14, od14, .func (PySem.W.fnOf "_law_next" "_law_next" (defArgs sNext) (defBody sNext) (defScope sNext) .none kV14 dc14 pm14 an14 cd14 ct14), sl14⟩) (c14 : PySem.W.codeIn K cd14 "_law_next" = true) (k14 : PySem.W.keepIn K (.ref f14) = true)
    (a15 : PySem.W.nsIn K mainGlobals "_law_one" = some (some (.ref f15))) (l15 : K.lookup f15 = some ⟨oc15, od15, .func (PySem.W.fnOf "_law_one" "_law_one" (defArgs sOne) (defBody sOne) (defScope sOne) .none kV15 dc15 pm15 an15 cd15 ct15), sl15⟩) (c15 : PySem.W.codeIn K cd15 "_law_one" = true) (k15 : PySem.W.keepIn K (.ref f15) = true)
    (a16 : PySem.W.nsIn K mainGlobals "_law_whole" = some (some (.ref f16))) (l16 : K.lookup f16 = some ⟨oc16, od16, .func (PySem.W.fnOf "_law_whole" "_law_whole" (defArgs sLWhole) (defBody sLWhole) (defScope sLWhole) .none kV16 dc16 pm16 an16 cd16 ct16), sl16⟩) (c16 : PySem.W.codeIn K cd16 "_law_whole" = true) (k16 : PySem.W.keepIn K (.ref f16) = true)
    (a17 : PySem.W.nsIn K mainGlobals "_law_same" = some (some (.ref f17))) (l17 : K.lookup f17 = some ⟨oc17, od17, .func (PySem.W.fnOf "_law_same" "_law_same" (defArgs sSame) (defBody sSame) (defScope sSame) .none kV17 dc17 pm17 an17 cd17 ct17), sl17⟩) (c17 : PySem.W.codeIn K cd17 "_law_same" = true) (k17 : PySem.W.keepIn K (.ref f17) = true)
    (a18 : PySem.W.nsIn K mainGlobals "_law_odd" = some (some (.ref f18))) (l18 : K.lookup f18 = some ⟨oc18, od18, .func (PySem.W.fnOf "_law_odd" "_law_odd" (defArgs sOdd) (defBody sOdd) (defScope sOdd) .none kV18 dc18 pm18 an18 cd18 ct18), sl18⟩) (c18 : PySem.W.codeIn K cd18 "_law_odd" = true) (k18 : PySem.W.keepIn K (.ref f18) = true)
    (a19 : PySem.W.nsIn K mainGlobals "_law_bent" = some (some (.ref f19))) (l19 : K.lookup f19 = some ⟨oc19, od19, .func (PySem.W.fnOf "_law_bent" "_law_bent" (defArgs sBent) (defBody sBent) (defScope sBent) .none kV19 dc19 pm19 an19 cd19 ct19), sl19⟩) (c19 : PySem.W.codeIn K cd19 "_law_bent" = true) (k19 : PySem.W.keepIn K (.ref f19) = true)
    (a20 : PySem.W.nsIn K mainGlobals "_law_list" = some (some (.ref f20))) (l20 : K.lookup f20 = some ⟨oc20, od20, .func (PySem.W.fnOf "_law_list" "_law_list" (defArgs sList) (defBody sList) (defScope sList) .none kV20 dc20 pm20 an20 cd20 ct20), sl20⟩) (c20 : PySem.W.codeIn K cd20 "_law_list" = true) (k20 : PySem.W.keepIn K (.ref f20) = true)
    (a21 : PySem.W.nsIn K mainGlobals "_law_exchanged" = some (some (.ref f21))) (l21 : K.lookup f21 = some ⟨oc21, od21, .func (PySem.W.fnOf "_law_exchanged" "_law_exchanged" (defArgs sExch) (defBody sExch) (defScope sExch) .none kV21 dc21 pm21 an21 cd21 ct21), sl21⟩) (c21 : PySem.W.codeIn K cd21 "_law_exchanged" = true) (k21 : PySem.W.keepIn K (.ref f21) = true)
    (a22 : PySem.W.nsIn K mainGlobals "_law_pairs" = some (some (.ref f22))) (l22 : K.lookup f22 = some ⟨oc22, od22, .func (PySem.W.fnOf "_law_pairs" "_law_pairs" (defArgs sLPairs) (defBody sLPairs) (defScope sLPairs) .none kV22 dc22 pm22 an22 cd22 ct22), sl22⟩) (c22 : PySem.W.codeIn K cd22 "_law_pairs" = true) (k22 : PySem.W.keepIn K (.ref f22) = true)
    (a23 : PySem.W.nsIn K mainGlobals "_law_unlike" = some (some (.ref f23))) (l23 : K.lookup f23 = some ⟨oc23, od23, .func (PySem.W.fnOf "_law_unlike" "_law_unlike" (defArgs sUnlike) (defBody sUnlike) (defScope sUnlike) .none kV23 dc23 pm23 an23 cd23 ct23), sl23⟩) (c23 : PySem.W.codeIn K cd23 "_law_unlike" = true) (k23 : PySem.W.keepIn K (.ref f23) = true)
    (a24 : PySem.W.nsIn K mainGlobals "_law_is_list" = some (some (.ref f24))) (l24 : K.lookup f24 = some ⟨oc24, od24, .func (PySem.W.fnOf "_law_is_list" "_law_is_list" (defArgs sIsList) (defBody sIsList) (defScope sIsList) .none kV24 dc24 pm24 an24 cd24 ct24), sl24⟩) (c24 : PySem.W.codeIn K cd24 "_law_is_list" = true) (k24 : PySem.W.keepIn K (.ref f24) = true)
    (a25 : PySem.W.nsIn K mainGlobals "_law_two" = some (some (.ref f25))) (l25 : K.lookup f25 = some ⟨oc25, od25, .func (PySem.W.fnOf "_law_two" "_law_two" (defArgs sTwo) (defBody sTwo) (defScope sTwo) .none kV25 dc25 pm25 an25 cd25 ct25), sl25⟩) (c25 : PySem.W.codeIn K cd25 "_law_two" = true) (k25 : PySem.W.keepIn K (.ref f25) = true)
    (a26 : PySem.W.nsIn K mainGlobals "_law_useful" = some (some (.ref f26))) (l26 : K.lookup f26 = some ⟨oc26, od26, .func (PySem.W.fnOf "_law_useful" "_law_useful" (defArgs sUseful) (defBody sUseful) (defScope sUseful) .none kV26 dc26 pm26 an26 cd26 ct26), sl26⟩) (c26 : PySem.W.codeIn K cd26 "_law_useful" = true) (k26 : PySem.W.keepIn K (.ref f26) = true)
    (a27 : PySem.W.nsIn K mainGlobals "_law_drawn_path" = some (some (.ref f27))) (l27 : K.lookup f27 = some ⟨oc27, od27, .func (PySem.W.fnOf "_law_drawn_path" "_law_drawn_path" (defArgs sDrawn) (defBody sDrawn) (defScope sDrawn) .none kV27 dc27 pm27 an27 cd27 ct27), sl27⟩) (c27 : PySem.W.codeIn K cd27 "_law_drawn_path" = true) (k27 : PySem.W.keepIn K (.ref f27) = true)
    (a28 : PySem.W.nsIn K mainGlobals "_law_is_path" = some (some (.ref f28))) (l28 : K.lookup f28 = some ⟨oc28, od28, .func (PySem.W.fnOf "_law_is_path" "_law_is_path" (defArgs sLIsPath) (defBody sLIsPath) (defScope sLIsPath) .none kV28 dc28 pm28 an28 cd28 ct28), sl28⟩) (c28 : PySem.W.codeIn K cd28 "_law_is_path" = true) (k28 : PySem.W.keepIn K (.ref f28) = true)
    (a29 : PySem.W.nsIn K mainGlobals "_law_detour" = some (some (.ref f29))) (l29 : K.lookup f29 = some ⟨oc29, od29, .func (PySem.W.fnOf "_law_detour" "_law_detour" (defArgs sDetour) (defBody sDetour) (defScope sDetour) .none kV29 dc29 pm29 an29 cd29 ct29), sl29⟩) (c29 : PySem.W.codeIn K cd29 "_law_detour" = true) (k29 : PySem.W.keepIn K (.ref f29) = true)
    (a30 : PySem.W.nsIn K mainGlobals "_law_twisted" = some (some (.ref f30))) (l30 : K.lookup f30 = some ⟨oc30, od30, .func (PySem.W.fnOf "_law_twisted" "_law_twisted" (defArgs sTwist) (defBody sTwist) (defScope sTwist) .none kV30 dc30 pm30 an30 cd30 ct30), sl30⟩) (c30 : PySem.W.codeIn K cd30 "_law_twisted" = true) (k30 : PySem.W.keepIn K (.ref f30) = true)
    (a31 : PySem.W.nsIn K mainGlobals "_law_values" = some (some (.ref f31))) (l31 : K.lookup f31 = some ⟨oc31, od31, .func (PySem.W.fnOf "_law_values" "_law_values" (defArgs sValues) (defBody sValues) (defScope sValues) .none kV31 dc31 pm31 an31 cd31 ct31), sl31⟩) (c31 : PySem.W.codeIn K cd31 "_law_values" = true) (k31 : PySem.W.keepIn K (.ref f31) = true)
    (a32 : PySem.W.nsIn K mainGlobals "law" = some (some (.ref f32))) (l32 : K.lookup f32 = some ⟨oc32, od32, .func (PySem.W.fnOf "law" "law" (defArgs sLaw) (defBody sLaw) (defScope sLaw) .none kV32 dc32 pm32 an32 cd32 ct32), sl32⟩) (c32 : PySem.W.codeIn K cd32 "law" = true) (k32 : PySem.W.keepIn K (.ref f32) = true)
    {tc0 : Tok} (zc0 : PySem.W.nsIn K mainGlobals "MAX_DISHES" = some (some (.int 8 tc0)))
    (z0 : PySem.W.nsIn K mainGlobals "abs" = some none) (z1 : PySem.W.nsIn K mainGlobals "len" = some none) (z2 : PySem.W.nsIn K mainGlobals "range" = some none) (z3 : PySem.W.nsIn K mainGlobals "list" = some none) (z4 : PySem.W.nsIn K mainGlobals "tuple" = some none) (z5 : PySem.W.nsIn K mainGlobals "int" = some none) (z6 : PySem.W.nsIn K mainGlobals "isinstance" = some none) (z7 : PySem.W.nsIn K mainGlobals "dict" = some none) (z8 : PySem.W.nsIn K mainGlobals "str" = some none) (z9 : PySem.W.nsIn K mainGlobals "bool" = some none) (z10 : PySem.W.nsIn K mainGlobals "all" = some none) (z11 : PySem.W.nsIn K mainGlobals "sorted" = some none) (z12 : PySem.W.nsIn K mainGlobals "repr" = some none) :
    ∃ fd : FuncData, (∀ (s : Shared) (v : Value), BindsTo s fd ⟨[v], []⟩ [("_law_script", v)]) ∧ ∀ base : Heap, K.In base → base.Ns mainGlobals mg → RunG l.prog w K mg base 8 fa fd ["_law_script"] (spLaw K) := by
  have e := hfa.symm.trans (PySem.W.mg_of X G a32)
  cases e
  have F0 := fun_mk (st := sWhole) l0 c0 k0
  have F1 := fun_mk (st := sIsOrder) l1 c1 k1
  have F2 := fun_mk (st := sAtup) l2 c2 k2
  have F3 := fun_mk (st := sIsRk) l3 c3 k3
  have F4 := fun_mk (st := sPairs) l4 c4 k4
  have F5 := fun_mk (st := sPref) l5 c5 k5
  have F6 := fun_mk (st := sAgree) l6 c6 k6
  have F7 := fun_mk (st := sDiffs) l7 c7 k7
  have F8 := fun_mk (st := sDist) l8 c8 k8
  have F9 := fun_mk (st := sSwap) l9 c9 k9
  have F10 := fun_mk (st := sWrong) l10 c10 k10
  have F11 := fun_mk (st := sSwPath) l11 c11 k11
  have F12 := fun_mk (st := sIsPath) l12 c12 k12
  have F13 := fun_mk (st := sDeck) l13 c13 k13
  have F14 := fun_mk (st := sNext) l14 c14 k14
  have F15 := fun_mk (st := sOne) l15 c15 k15
  have F16 := fun_mk (st := sLWhole) l16 c16 k16
  have F17 := fun_mk (st := sSame) l17 c17 k17
  have F18 := fun_mk (st := sOdd) l18 c18 k18
  have F19 := fun_mk (st := sBent) l19 c19 k19
  have F20 := fun_mk (st := sList) l20 c20 k20
  have F21 := fun_mk (st := sExch) l21 c21 k21
  have F22 := fun_mk (st := sLPairs) l22 c22 k22
  have F23 := fun_mk (st := sUnlike) l23 c23 k23
  have F24 := fun_mk (st := sIsList) l24 c24 k24
  have F25 := fun_mk (st := sTwo) l25 c25 k25
  have F26 := fun_mk (st := sUseful) l26 c26 k26
  have F27 := fun_mk (st := sDrawn) l27 c27 k27
  have F28 := fun_mk (st := sLIsPath) l28 c28 k28
  have F29 := fun_mk (st := sDetour) l29 c29 k29
  have F30 := fun_mk (st := sTwist) l30 c30 k30
  have F31 := fun_mk (st := sValues) l31 c31 k31
  have F32 := fun_mk (st := sLaw) l32 c32 k32
  have b0 := F0.binds (ps := ["value"]) fun _ _ _ _ _ _ us hl => match us, hl with | [_], _ => rfl
  have b1 := F1.binds (ps := ["size", "value"]) fun _ _ _ _ _ _ us hl => match us, hl with | [_, _], _ => rfl
  have b2 := F2.binds (ps := ["size", "length"]) fun _ _ _ _ _ _ us hl => match us, hl with | [_, _], _ => rfl
  have b3 := F3.binds (ps := ["dishes", "value"]) fun _ _ _ _ _ _ us hl => match us, hl with | [_, _], _ => rfl
  have b4 := F4.binds (ps := ["dishes"]) fun _ _ _ _ _ _ us hl => match us, hl with | [_], _ => rfl
  have b5 := F5.binds (ps := ["ranking", "one", "other"]) fun _ _ _ _ _ _ us hl => match us, hl with | [_, _, _], _ => rfl
  have b6 := F6.binds (ps := ["one", "other", "pair"]) fun _ _ _ _ _ _ us hl => match us, hl with | [_, _, _], _ => rfl
  have b7 := F7.binds (ps := ["one", "other"]) fun _ _ _ _ _ _ us hl => match us, hl with | [_, _], _ => rfl
  have b8 := F8.binds (ps := ["one", "other"]) fun _ _ _ _ _ _ us hl => match us, hl with | [_, _], _ => rfl
  have b9 := F9.binds (ps := ["ranking", "at"]) fun _ _ _ _ _ _ us hl => match us, hl with | [_, _], _ => rfl
  have b10 := F10.binds (ps := ["ranking", "other"]) fun _ _ _ _ _ _ us hl => match us, hl with | [_, _], _ => rfl
  have b11 := F11.binds (ps := ["one", "other"]) fun _ _ _ _ _ _ us hl => match us, hl with | [_, _], _ => rfl
  have b12 := F12.binds (ps := ["one", "other", "value"]) fun _ _ _ _ _ _ us hl => match us, hl with | [_, _, _], _ => rfl
  have b13 := F13.binds (ps := ["_law_script"]) fun _ _ _ _ _ _ us hl => match us, hl with | [_], _ => rfl
  have b14 := F14.binds (ps := ["_law_deck_here", "_law_many"]) fun _ _ _ _ _ _ us hl => match us, hl with | [_, _], _ => rfl
  have b15 := F15.binds (ps := ["_law_deck_here", "_law_some"]) fun _ _ _ _ _ _ us hl => match us, hl with | [_, _], _ => rfl
  have b16 := F16.binds (ps := ["_law_thing"]) fun _ _ _ _ _ _ us hl => match us, hl with | [_], _ => rfl
  have b17 := F17.binds (ps := ["_law_found", "_law_due"]) fun _ _ _ _ _ _ us hl => match us, hl with | [_, _], _ => rfl
  have b18 := F18.binds (ps := ["_law_deck_here"]) fun _ _ _ _ _ _ us hl => match us, hl with | [_], _ => rfl
  have b19 := F19.binds (ps := ["_law_deck_here", "_law_thing", "_law_deep"]) fun _ _ _ _ _ _ us hl => match us, hl with | [_, _, _], _ => rfl
  have b20 := F20.binds (ps := ["_law_deck_here", "_law_dishes"]) fun _ _ _ _ _ _ us hl => match us, hl with | [_, _], _ => rfl
  have b21 := F21.binds (ps := ["_law_row", "_law_k"]) fun _ _ _ _ _ _ us hl => match us, hl with | [_, _], _ => rfl
  have b22 := F22.binds (ps := ["_law_dishes"]) fun _ _ _ _ _ _ us hl => match us, hl with | [_], _ => rfl
  have b23 := F23.binds (ps := ["_law_one_here", "_law_other"]) fun _ _ _ _ _ _ us hl => match us, hl with | [_, _], _ => rfl
  have b24 := F24.binds (ps := ["_law_dishes", "_law_thing"]) fun _ _ _ _ _ _ us hl => match us, hl with | [_, _], _ => rfl
  have b25 := F25.binds (ps := ["_law_deck_here", "_law_dishes"]) fun _ _ _ _ _ _ us hl => match us, hl with | [_, _], _ => rfl
  have b26 := F26.binds (ps := ["_law_row", "_law_target"]) fun _ _ _ _ _ _ us hl => match us, hl with | [_, _], _ => rfl
  have b27 := F27.binds (ps := ["_law_deck_here", "_law_one_here", "_law_other"]) fun _ _ _ _ _ _ us hl => match us, hl with | [_, _, _], _ => rfl
  have b28 := F28.binds (ps := ["_law_one_here", "_law_other", "_law_thing"]) fun _ _ _ _ _ _ us hl => match us, hl with | [_, _, _], _ => rfl
  have b29 := F29.binds (ps := ["_law_deck_here", "_law_path"]) fun _ _ _ _ _ _ us hl => match us, hl with | [_, _], _ => rfl
  have b30 := F30.binds (ps := ["_law_deck_here", "_law_path"]) fun _ _ _ _ _ _ us hl => match us, hl with | [_, _], _ => rfl
  have b31 := F31.binds (ps := ["_law_deck_here", "_law_one_here", "_law_other"]) fun _ _ _ _ _ _ us hl => match us, hl with | [_, _, _], _ => rfl
  have g0 := PySem.W.mg_of X G a0
  have g1 := PySem.W.mg_of X G a1
  have g2 := PySem.W.mg_of X G a2
  have g3 := PySem.W.mg_of X G a3
  have g4 := PySem.W.mg_of X G a4
  have g5 := PySem.W.mg_of X G a5
  have g6 := PySem.W.mg_of X G a6
  have g7 := PySem.W.mg_of X G a7
  have g8 := PySem.W.mg_of X G a8
  have g9 := PySem.W.mg_of X G a9
  have g10 := PySem.W.mg_of X G a10
  have g11 := PySem.W.mg_of X G a11
  have g12 := PySem.W.mg_of X G a12
  have g13 := PySem.W.mg_of X G a13
  have g14 := PySem.W.mg_of X G a14
  have g15 := PySem.W.mg_of X G a15
  have g16 := PySem.W.mg_of X G a16
  have g17 := PySem.W.mg_of X G a17
  have g18 := PySem.W.mg_of X G a18
  have g19 := PySem.W.mg_of X G a19
  have g20 := PySem.W.mg_of X G a20
  have g21 := PySem.W.mg_of X G a21
  have g22 := PySem.W.mg_of X G a22
  have g23 := PySem.W.mg_of X G a23
  have g24 := PySem.W.mg_of X G a24
  have g25 := PySem.W.mg_of X G a25
  have g26 := PySem.W.mg_of X G a26
  have g27 := PySem.W.mg_of X G a27
  have g28 := PySem.W.mg_of X G a28
  have g29 := PySem.W.mg_of X G a29
  have g30 := PySem.W.mg_of X G a30
  have g31 := PySem.W.mg_of X G a31
  have g32 := PySem.W.mg_of X G a32
  have m_abs := PySem.W.mg_none_of X G z0
  have m_len := PySem.W.mg_none_of X G z1
  have m_range := PySem.W.mg_none_of X G z2
  have m_list := PySem.W.mg_none_of X G z3
  have m_tuple := PySem.W.mg_none_of X G z4
  have m_int := PySem.W.mg_none_of X G z5
  have m_isinstance := PySem.W.mg_none_of X G z6
  have m_dict := PySem.W.mg_none_of X G z7
  have m_str := PySem.W.mg_none_of X G z8
  have m_bool := PySem.W.mg_none_of X G z9
  have m_all := PySem.W.mg_none_of X G z10
  have m_sorted := PySem.W.mg_none_of X G z11
  have m_repr := PySem.W.mg_none_of X G z12
  refine ⟨PySem.W.fnOf "law" "law" (defArgs sLaw) (defBody sLaw) (defScope sLaw) .none kV32 dc32 pm32 an32 cd32 ct32, fun s v => .of_eq rfl, fun base _ _ => ?_⟩
  have GG__law_deck_7 : FnOk l.prog w K mg base CX0 7 f13 _ _ (spDeck K) := ok_deck F13 m_abs m_len
  have GG__law_next_6 : FnOk l.prog w K mg base CX0 6 f14 _ _ spNext := ok_next F14 m_len
  have GG__law_next_5 : FnOk l.prog w K mg base CX0 5 f14 _ _ spNext := ok_next F14 m_len
  have GG__law_list_6 : FnOk l.prog w K mg base CX0 6 f20 _ _ spList := ok_list F20 F14 b14 g14 GG__law_next_5 m_range m_list m_len m_tuple
  have GG__law_exchanged_6 : FnOk l.prog w K mg base CX0 6 f21 _ _ spExch := ok_exch F21
  have GG__law_two_7 : FnOk l.prog w K mg base CX0 7 f25 _ _ spTwo := ok_Two F25 k14 b14 g14 GG__law_next_6 k20 b20 g20 GG__law_list_6 k21 b21 g21 GG__law_exchanged_6 m_range
  have GG__law_next_7 : FnOk l.prog w K mg base CX0 7 f14 _ _ spNext := ok_next F14 m_len
  have GG__law_exchanged_5 : FnOk l.prog w K mg base CX0 5 f21 _ _ spExch := ok_exch F21
  have GG__law_next_4 : FnOk l.prog w K mg base CX0 4 f14 _ _ spNext := ok_next F14 m_len
  have GG__law_one_5 : FnOk l.prog w K mg base CX0 5 f15 _ _ spOne := ok_one F15 k14 b14 g14 GG__law_next_4 m_len
  have GG__law_useful_5 : FnOk l.prog w K mg base CX0 5 f26 _ _ spWrong := ok_Useful F26 m_range m_len
  have GG__law_drawn_path_6 : FnOk l.prog w K mg base CX0 6 f27 _ _ spDrawn := ok_Drawn F27 k21 b21 g21 GG__law_exchanged_5 k15 b15 g15 GG__law_one_5 k26 b26 g26 GG__law_useful_5 m_tuple
  have GG__law_detour_6 : FnOk l.prog w K mg base CX0 6 f29 _ _ spDetour := ok_Detour F29 k14 b14 g14 GG__law_next_5 k21 b21 g21 GG__law_exchanged_5 m_len
  have GG_prefers_4 : FnOk l.prog w K mg base CX0 4 f5 _ _ spPref := ok_pref F5
  have GG_wrong_places_5 : FnOk l.prog w K mg base CX0 5 f10 _ _ spWrong := ok_Wrong F10 k5 b5 g5 GG_prefers_4 m_range m_len
  have GG_swap_5 : FnOk l.prog w K mg base CX0 5 f9 _ _ spExch := ok_swap F9
  have GG_swap_path_6 : FnOk l.prog w K mg base CX0 6 f11 _ _ (spPath K) := ok_SwPath F11 k10 b10 g10 GG_wrong_places_5 k9 b9 g9 GG_swap_5 m_tuple
  have GG__law_bent_6 : FnOk l.prog w K mg base CX0 6 f19 _ _ (spBent 4) := ok_bent F19 b19 g19 k14 b14 g14 (fun k => ok_next F14 m_len) k18 b18 g18 (fun k => ok_odd F18 k14 b14 g14 (ok_next F14 m_len)) m_isinstance m_tuple m_len m_list m_int m_str 4
  have GG__law_odd_6 : FnOk l.prog w K mg base CX0 6 f18 _ _ spOdd := ok_odd F18 k14 b14 g14 GG__law_next_5
  have GG__law_twisted_6 : FnOk l.prog w K mg base CX0 6 f30 _ _ spTwist := ok_Twist F30 k14 b14 g14 GG__law_next_5 m_len m_tuple
  have GG__law_values_7 : FnOk l.prog w K mg base CX0 7 f31 _ _ spValues := ok_Values F31 k27 b27 g27 GG__law_drawn_path_6 k14 b14 g14 GG__law_next_6 k29 b29 g29 GG__law_detour_6 k11 b11 g11 GG_swap_path_6 k20 b20 g20 GG__law_list_6 k19 b19 g19 GG__law_bent_6 k18 b18 g18 GG__law_odd_6 k30 b30 g30 GG__law_twisted_6 m_len m_list
  have GG__law_pairs_5 : FnOk l.prog w K mg base CX0 5 f22 _ _ spPairs := ok_lpairs F22 m_range
  have GG__law_unlike_6 : FnOk l.prog w K mg base CX0 6 f23 _ _ spUnlike := ok_unlike F23 F22 b22 g22 GG__law_pairs_5 m_len
  have GG__law_whole_5 : FnOk l.prog w K mg base CX0 5 f16 _ _ spWhole := ok_lwhole F16 m_isinstance m_int m_bool
  have GG__law_is_list_6 : FnOk l.prog w K mg base CX0 6 f24 _ _ spIsRk := ok_islist F24 k16 b16 g16 GG__law_whole_5 m_isinstance m_tuple m_len m_sorted m_list m_range
  have GG__law_is_path_7 : FnOk l.prog w K mg base CX0 7 f28 _ _ spIsPath := ok_LIsPath F28 k23 b23 g23 GG__law_unlike_6 k24 b24 g24 GG__law_is_list_6 m_len m_isinstance m_tuple m_range
  have GG_agree_4 : FnOk l.prog w K mg base CX0 4 f6 _ _ spAgree := ok_agree F6 F5 b5 g5
  have GG_ascending_tuples_3 : FnOk l.prog w K mg base CX0 3 f2 _ _ spAtup := ok_Atup F2 m_range
  have GG_all_pairs_4 : FnOk l.prog w K mg base CX0 4 f4 _ _ spPairs := ok_Pairs F4 k2 b2 g2 GG_ascending_tuples_3
  have GG_differences_5 : FnOk l.prog w K mg base CX0 5 f7 _ _ spDiffs := ok_diffs F7 F6 b6 g6 F4 b4 g4 GG_agree_4 GG_all_pairs_4 m_len m_tuple
  have GG_distance_6 : FnOk l.prog w K mg base CX0 6 f8 _ _ spDist := ok_dist F8 F7 b7 g7 GG_differences_5 m_len
  have GG_is_whole_4 : FnOk l.prog w K mg base CX0 4 f0 _ _ spWhole := ok_whole F0 m_isinstance m_int m_bool
  have GG_is_order_5 : FnOk l.prog w K mg base CX0 5 f1 _ _ spIsOrd := ok_IsOrder F1 k0 b0 g0 GG_is_whole_4 m_all m_isinstance m_tuple m_sorted m_list m_range
  have GG_is_ranking_6 : FnOk l.prog w K mg base CX0 6 f3 _ _ spIsRk := ok_IsRk F3 k1 b1 g1 GG_is_order_5 (PySem.W.mg_of X G zc0)
  have GG_is_shortest_path_7 : FnOk l.prog w K mg base CX0 7 f12 _ _ spIsPath := ok_IsPath F12 k8 b8 g8 GG_distance_6 k3 b3 g3 GG_is_ranking_6 m_len m_isinstance m_tuple m_all m_range
  have GG__law_same_7 : FnOk l.prog w K mg base CX0 7 f17 _ _ (spSame K 7) := ok_same F17 b17 g17 m_isinstance m_tuple m_list m_len m_range m_dict m_str m_int m_bool 7
  exact ok_Law F32 k13 b13 g13 GG__law_deck_7 k25 b25 g25 GG__law_two_7 k14 b14 g14 GG__law_next_7 k31 b31 g31 GG__law_values_7 k28 b28 g28 GG__law_is_path_7 k12 b12 g12 GG_is_shortest_path_7 k17 b17 g17 GG__law_same_7 m_range m_repr

end TR
open PySem PySem.W PyProof.Rows
set_option maxHeartbeats 0 in
theorem PySem.Challenge.cw_tasterow_k37_paths_checked_holds : PySem.Challenge.rw_tasterow_k37_paths_checked.Holds := by
  w_on; o_law; k_head; (case hw => w_witness2)
  k_fill
  refine TR.walk_ofG (l := PySem.Challenge.rw_tasterow_k37_paths_checked) (n := 63) (k := 8) (x := "_law_script") (sp := fun w => TR.spLaw _) rfl (by decide) rfl ⟨rfl, by decide, by decide⟩ (fun w h Y => PySem.W.kIn_of Y) ?F (fun _ _ a ns hl _ hS => ⟨a, ns, rfl, hS, hl, fun _ => rfl⟩)
  case F =>
    intro w mg fa h KX G hmg
    refine' TR.all_mk KX G hmg ?a0 ?l0 ?c0 ?k0 ?a1 ?l1 ?c1 ?k1 ?a2 ?l2 ?c2 ?k2 ?a3 ?l3 ?c3 ?k3 ?a4 ?l4 ?c4 ?k4 ?a5 ?l5 ?c5 ?k5 ?a6 ?l6 ?c6 ?k6 ?a7 ?l7 ?c7 ?k7 ?a8 ?l8 ?c8 ?k8 ?a9 ?l9 ?c9 ?k9 ?a10 ?l10 ?c10 ?k10 ?a11 ?l11 ?c11 ?k11 ?a12 ?l12 ?c12 ?k12 ?a13 ?l13 ?c13 ?k13 ?a14 ?l14 ?c14 ?k14 ?a15 ?l15 ?c15 ?k15 ?a16 ?l16 ?c16 ?k16 ?a17 ?l17 ?c17 ?k17 ?a18 ?l18 ?c18 ?k18 ?a19 ?l19 ?c19 ?k19 ?a20 ?l20 ?c20 ?k20 ?a21 ?l21 ?c21 ?k21 ?a22 ?l22 ?c22 ?k22 ?a23 ?l23 ?c23 ?k23 ?a24 ?l24 ?c24 ?k24 ?a25 ?l25 ?c25 ?k25 ?a26 ?l26 ?c26 ?k26 ?a27 ?l27 ?c27 ?k27 ?a28 ?l28 ?c28 ?k28 ?a29 ?l29 ?c29 ?k29 ?a30 ?l30 ?c30 ?k30 ?a31 ?l31 ?c31 ?k31 ?a32 ?l32 ?c32 ?k32 ?zc0 ?z0 ?z1 ?z2 ?z3 ?z4 ?z5 ?z6 ?z7 ?z8 ?z9 ?z10 ?z11 ?z12
    (case a0 => k_is); (case l0 => k_is); (case c0 => k_is); (case k0 => k_is); (case a1 => k_is); (case l1 => k_is); (case c1 => k_is); (case k1 => k_is); (case a2 => k_is); (case l2 => k_is); (case c2 => k_is); (case k2 => k_is); (case a3 => k_is); (case l3 => k_is); (case c3 => k_is); (case k3 => k_is); (case a4 => k_is); (case l4 => k_is); (case c4 => k_is); (case k4 => k_is); (case a5 => k_is); (case l5 => k_is); (case c5 => k_is); (case k5 => k_is); (case a6 => k_is); (case l6 => k_is); (case c6 => k_is); (case k6 => k_is); (case a7 => k_is); (case l7 => k_is); (case c7 => k_is); (case k7 => k_is); (case a8 => k_is); (case l8 => k_is); (case c8 => k_is); (case k8 => k_is); (case a9 => k_is); (case l9 => k_is); (case c9 => k_is); (case k9 => k_is); (case a10 => k_is); (case l10 => k_is); (case c10 => k_is); (case k10 => k_is); (case a11 => k_is); (case l11 => k_is); (case c11 => k_is); (case k11 => k_is); (case a12 => k_is); (case l12 => k_is); (case c12 => k_is); (case k12 => k_is); (case a13 => k_is); (case l13 => k_is); (case c13 => k_is); (case k13 => k_is); (case a14 => k_is); (case l14 => k_is); (case c14 => k_is); (case k14 => k_is); (case a15 => k_is); (case l15 => k_is); (case c15 => k_is); (case k15 => k_is); (case a16 => k_is); (case l16 => k_is); (case c16 => k_is); (case k16 => k_is); (case a17 => k_is); (case l17 => k_is); (case c17 => k_is); (case k17 => k_is); (case a18 => k_is); (case l18 => k_is); (case c18 => k_is); (case k18 => k_is); (case a19 => k_is); (case l19 => k_is); (case c19 => k_is); (case k19 => k_is); (case a20 => k_is); (case l20 => k_is); (case c20 => k_is); (case k20 => k_is); (case a21 => k_is); (case l21 => k_is); (case c21 => k_is); (case k21 => k_is); (case a22 => k_is); (case l22 => k_is); (case c22 => k_is); (case k22 => k_is); (case a23 => k_is); (case l23 => k_is); (case c23 => k_is); (case k23 => k_is); (case a24 => k_is); (case l24 => k_is); (case c24 => k_is); (case k24 => k_is); (case a25 => k_is); (case l25 => k_is); (case c25 => k_is); (case k25 => k_is); (case a26 => k_is); (case l26 => k_is); (case c26 => k_is); (case k26 => k_is); (case a27 => k_is); (case l27 => k_is); (case c27 => k_is); (case k27 => k_is); (case a28 => k_is); (case l28 => k_is); (case c28 => k_is); (case k28 => k_is); (case a29 => k_is); (case l29 => k_is); (case c29 => k_is); (case k29 => k_is); (case a30 => k_is); (case l30 => k_is); (case c30 => k_is); (case k30 => k_is); (case a31 => k_is); (case l31 => k_is); (case c31 => k_is); (case k31 => k_is); (case a32 => k_is); (case l32 => k_is); (case c32 => k_is); (case k32 => k_is); (case zc0 => k_is); (case z0 => k_is); (case z1 => k_is); (case z2 => k_is); (case z3 => k_is); (case z4 => k_is); (case z5 => k_is); (case z6 => k_is); (case z7 => k_is); (case z8 => k_is); (case z9 => k_is); (case z10 => k_is); (case z11 => k_is); (case z12 => k_is)
