import PyProof.Rows.All
import Wide.All
import OpenK.AllK
import Wide.FinOn
import PySem.Challenge.RW_tasterow_k28_menus_and_choices
import HandS.ForMost
import HandS.Conv
import HandS.Strs
import HandS.TupAny
import HandS.Style
import HandS.IsInst
import HandS.EndBits
import HandS.Walk
import HandS.SortInts
import HandS.SortOrd
import HandS.Deep
import HandS.Wide
import HandS.ForExc
import HandS.ExcIs
import HandS.ExcValue
import HandS.HotCalls
import HandS.NoneIn
import HandS.SetFor
import HandS.TupMul
import KE.GoesEnum
import KE.KExcIs
import KE.RegKIsAll
import KE.DataMinMax
import KE.SortData
import PyProof.Claim2Refuses
set_option Elab.async false
set_option linter.all false
set_option maxRecDepth 100000
namespace TR
open PySem PySem.Spec PyProof.Rows L2
/-! ### heaps -/
theorem same_upd {H : Hp} {p : Addr} {o : HO} (h : H p = none) : Same H (upd H p o) := fun b x e => by
  rw [upd_ne (ne_of_none e h)]
  exact e
theorem same_upd2 {H H1 : Hp} {p : Addr} {o : HO} (s : Same H H1) (h : H p = none) : Same H (upd H1 p o) := fun b x e => by
  rw [upd_ne (ne_of_none e h)]
  exact s b x e
theorem same_seqT {K : PySem.W.Frag} {H H' : Hp} {a : Addr} {xs : List V} (e : Same H H') (h : SqT K H a xs) : SqT K H' a xs := by
  rcases h with (h | ⟨o, h⟩) | h
  · exact .inl (.inl (e _ _ h))
  · exact .inl (.inr ⟨o, e _ _ h⟩)
  · exact .inr h
theorem sqL {K : PySem.W.Frag} {H : Hp} {a : Addr} {xs : List V} (h : H a = some (.lst xs)) : SqL K H a xs := .inl (.inl h)
theorem sqT {K : PySem.W.Frag} {H : Hp} {a : Addr} {xs : List V} (h : H a = some (.tup xs)) : SqT K H a xs := .inl (.inl h)
/-- all but the deck's two changing lists is as it was -/
def Keep (d p : Addr) (H H' : Hp) : Prop := ∀ b o, H b = some o → b ≠ d → b ≠ p → H' b = some o
theorem Keep.refl (d p : Addr) (H : Hp) : Keep d p H H := fun _ _ h _ _ => h
theorem Keep.trans {d p : Addr} {H H1 H2 : Hp} (a : Keep d p H H1) (b : Keep d p H1 H2) : Keep d p H H2 := fun c o h n m => b c o (a c o h n m) n m
theorem Same.keep {d p : Addr} {H H1 : Hp} (a : Same H H1) : Keep d p H H1 := fun c o h _ _ => a c o h
theorem keep_upd {d p x : Addr} {H H1 : Hp} {o : HO} (a : Keep d p H H1) (h : x = d ∨ x = p) : Keep d p H (upd H1 x o) := fun c u e n m => by
  rw [upd_ne (by rintro rfl; rcases h with h | h; exact n h; exact m h)]
  exact a c u e n m
/-! ### data -/
theorem dpAll_ints {K : PySem.W.Frag} {H : Hp} : ∀ xs : List Int, DpAll K H (xs.map V.int) (xs.map PyData.int)
  | [] => .nil
  | x :: r => .cons (.int x) (dpAll_ints r)
theorem can_ints : ∀ xs : List Int, PyData.canLayAll0 (xs.map PyData.int) = true
  | [] => rfl
  | x :: r => by
    show (true && PyData.canLayAll0 (r.map PyData.int)) = true
    rw [can_ints r]
    rfl
theorem dep_ints : ∀ xs : List Int, PyData.depthAll (xs.map PyData.int) = 0
  | [] => rfl
  | x :: r => by
    show max 0 (PyData.depthAll (r.map PyData.int)) = 0
    rw [dep_ints r]
    rfl
theorem shaped_ints (xs : List Int) : SeqAt.shaped (.list (xs.map PyData.int)) = true := by
  show (PyData.canLayAll0 (xs.map PyData.int) && decide (PyData.depthAll (xs.map PyData.int) + 1 ≤ 64)) = true
  rw [can_ints, dep_ints]
  rfl
theorem eqv_nil (xs : List Int) : PyData.eqv (.list (xs.map PyData.int)) (.list []) = xs.isEmpty := by
  cases xs with
  | nil => rfl
  | cons x r => rfl
/-! ### the deck -/
structure DeckL (H : Hp) (d p q : Addr) (n : Nat) (m : Nat) : Prop where
  ex : ∃ (xs cs : List Int) (c : Int), H d = some (.lst [.ref p, .ref q, .int c]) ∧ H p = some (.lst (xs.map V.int)) ∧ H q = some (.lst (cs.map V.int)) ∧
    0 ≤ c ∧ c ≤ (n : Int) ∧ cs ≠ [] ∧ xs.length = m
  dp : d ≠ p
  dq : d ≠ q
  pq : p ≠ q
def Deck (H : Hp) (d p q : Addr) (n : Nat) : Prop := ∃ m, DeckL H d p q n m
theorem DeckL.same {H H' : Hp} {d p q : Addr} {n m : Nat} (D : DeckL H d p q n m) (s : Same H H') : DeckL H' d p q n m := by
  obtain ⟨xs, cs, c, h1, h2, h3, h4⟩ := D.ex
  exact ⟨⟨xs, cs, c, s _ _ h1, s _ _ h2, s _ _ h3, h4⟩, D.dp, D.dq, D.pq⟩
theorem Deck.same {H H' : Hp} {d p q : Addr} {n : Nat} (D : Deck H d p q n) (s : Same H H') : Deck H' d p q n := by
  obtain ⟨m, D⟩ := D
  exact ⟨m, D.same s⟩
theorem Deck.mono {H : Hp} {d p q : Addr} {n k : Nat} (D : Deck H d p q n) (h : n ≤ k) : Deck H d p q k := by
  obtain ⟨m, ⟨xs, cs, c, h1, h2, h3, h4, h5, h6⟩, a, b, e⟩ := D
  exact ⟨m, ⟨xs, cs, c, h1, h2, h3, h4, by omega, h6⟩, a, b, e⟩
theorem Deck.hd {H : Hp} {d p q : Addr} {n : Nat} (D : Deck H d p q n) : ∃ a b c, H d = some (.lst [.ref a, .ref b, .int c]) := by
  obtain ⟨m, ⟨xs, cs, c, h1, _⟩, _⟩ := D
  exact ⟨_, _, _, h1⟩
theorem Deck.hp {H : Hp} {d p q : Addr} {n : Nat} (D : Deck H d p q n) : ∃ xs : List Int, H p = some (.lst (xs.map V.int)) := by
  obtain ⟨m, ⟨xs, cs, c, h1, h2, _⟩, _⟩ := D
  exact ⟨_, h2⟩
theorem Deck.ned {H : Hp} {d p q : Addr} {n : Nat} (D : Deck H d p q n) {b : Addr} (h : H b = none) : b ≠ d := by
  obtain ⟨x, y, c, e⟩ := D.hd
  exact (ne_of_none e h).symm
theorem Deck.nep {H : Hp} {d p q : Addr} {n : Nat} (D : Deck H d p q n) {b : Addr} (h : H b = none) : b ≠ p := by
  obtain ⟨x, e⟩ := D.hp
  exact (ne_of_none e h).symm
theorem Deck.tned {H : Hp} {d p q : Addr} {n : Nat} (D : Deck H d p q n) {b : Addr} {xs : List V} (h : H b = some (.tup xs)) : b ≠ d := by
  obtain ⟨x, y, c, e⟩ := D.hd
  exact ne_of h e (by intro z; cases z)
theorem Deck.tnep {H : Hp} {d p q : Addr} {n : Nat} (D : Deck H d p q n) {b : Addr} {xs : List V} (h : H b = some (.tup xs)) : b ≠ p := by
  obtain ⟨x, e⟩ := D.hp
  exact ne_of h e (by intro z; cases z)
/-- a tuple that stands as the very object, without a dict of its own -/
def TF (H : Hp) (a : Addr) (xs : List V) : Prop := ∃ o : Obj, o.dict = none ∧ H a = some (.frz o (.tup xs))
theorem TF.rd {H : Hp} {a : Addr} {xs : List V} (h : TF H a xs) : Rd H a (.tup xs) := by
  obtain ⟨o, _, e⟩ := h
  exact .inr ⟨o, e⟩
theorem TF.same {H H' : Hp} {a : Addr} {xs : List V} (h : TF H a xs) (s : Same H H') : TF H' a xs := by
  obtain ⟨o, d, e⟩ := h
  exact ⟨o, d, s _ _ e⟩
theorem TF.keep {H H' : Hp} {a d p q : Addr} {n : Nat} {xs : List V} (h : TF H a xs) (D : Deck H d p q n) (s : Keep d p H H') : TF H' a xs := by
  obtain ⟨x, y, c, e1⟩ := D.hd
  obtain ⟨zs, e2⟩ := D.hp
  obtain ⟨o, hd, e⟩ := h
  exact ⟨o, hd, s _ _ e (ne_of e e1 (by intro z; cases z)) (ne_of e e2 (by intro z; cases z))⟩
theorem TF.updl {H : Hp} {a D : Addr} {us xs ys : List V} (h : TF H a us) (e : H D = some (.lst xs)) : TF (upd H D (.lst ys)) a us := by
  obtain ⟨o, hd, g⟩ := h
  exact ⟨o, hd, by rw [upd_ne (ne_of g e (by intro z; cases z))]; exact g⟩
theorem TF.new {H : Hp} {a : Addr} {xs : List V} {o : Obj} (h : o.dict = none) : TF (upd H a (.frz o (.tup xs))) a xs := ⟨o, h, upd_same⟩
theorem tf_same {H H' : Hp} {a : Addr} {xs : List V} (s : Same H H') (h : TF H a xs) : TF H' a xs := h.same s
end TR
namespace TR
/-! ### rankings as lists of ints -/
def rng (n : Nat) : List Int := (List.range n).map fun i : Nat => (i : Int)
def Rank (n : Nat) (ns : List Int) : Prop := ns.Perm (rng n)
theorem rng_len (n : Nat) : (rng n).length = n := by
  unfold rng; rw [List.length_map, List.length_range]
theorem mem_rng {n : Nat} {x : Int} : x ∈ rng n ↔ 0 ≤ x ∧ x < (n : Int) := by
  unfold rng
  rw [List.mem_map]
  constructor
  · rintro ⟨i, hi, rfl⟩
    have := List.mem_range.mp hi
    omega
  · rintro ⟨h0, h1⟩
    exact ⟨x.toNat, List.mem_range.mpr (by omega), by omega⟩
theorem rng_nodup (n : Nat) : (rng n).Nodup := by
  unfold rng List.Nodup
  rw [List.pairwise_map]
  exact List.nodup_range.imp (by intro a b h e; exact h (by omega))
theorem Rank.len {n : Nat} {ns : List Int} (h : Rank n ns) : ns.length = n := (List.Perm.length_eq h).trans (rng_len n)
theorem Rank.mem {n : Nat} {ns : List Int} (h : Rank n ns) {x : Int} (h0 : 0 ≤ x) (h1 : x < (n : Int)) : x ∈ ns := (List.Perm.mem_iff h).mpr (mem_rng.mpr ⟨h0, h1⟩)
theorem Rank.bnd {n : Nat} {ns : List Int} (h : Rank n ns) {x : Int} (m : x ∈ ns) : 0 ≤ x ∧ x < (n : Int) := mem_rng.mp ((List.Perm.mem_iff h).mp m)
theorem Rank.nodup {n : Nat} {ns : List Int} (h : Rank n ns) : ns.Nodup := (List.Perm.nodup_iff h).mpr (rng_nodup n)
theorem Rank.rev {n : Nat} {ns : List Int} (h : Rank n ns) : Rank n ns.reverse := (List.reverse_perm ns).trans h
/-! ### preference -/
def pref (ns : List Int) (a b : Int) : Bool := decide (ns.idxOf a < ns.idxOf b)
theorem idx_at {ns : List Int} (nd : ns.Nodup) {i : Nat} {x : Int} (h : ns[i]? = some x) : ns.idxOf x = i := by
  obtain ⟨hi, e⟩ := List.getElem?_eq_some_iff.mp h
  have m : x ∈ ns := e ▸ List.getElem_mem hi
  have hl : ns.idxOf x < ns.length := List.idxOf_lt_length_of_mem m
  have e2 : ns[ns.idxOf x] = x := List.getElem_idxOf hl
  exact (List.getElem_inj nd).mp (e2.trans e.symm)
theorem at_idx {ns : List Int} {x : Int} (m : x ∈ ns) : ns[ns.idxOf x]? = some x := by
  have hl : ns.idxOf x < ns.length := List.idxOf_lt_length_of_mem m
  rw [List.getElem?_eq_getElem hl, List.getElem_idxOf hl]
theorem idx_first {ns : List Int} {x : Int} {m : Nat} (h : m < ns.idxOf x) : ns[m]? ≠ some x := by
  intro e
  obtain ⟨hi, e2⟩ := List.getElem?_eq_some_iff.mp e
  have := List.not_of_lt_findIdx (p := (· == x)) (xs := ns) h
  rw [e2] at this
  simp at this
theorem idx_rev {ns : List Int} (nd : ns.Nodup) {x : Int} (m : x ∈ ns) : ns.reverse.idxOf x = ns.length - 1 - ns.idxOf x := by
  have hl : ns.idxOf x < ns.length := List.idxOf_lt_length_of_mem m
  refine idx_at ((List.Perm.nodup_iff (List.reverse_perm ns)).mpr nd) ?_
  rw [List.getElem?_reverse (by omega)]
  rw [show ns.length - 1 - (ns.length - 1 - ns.idxOf x) = ns.idxOf x by omega]
  exact at_idx m
theorem idx_inj {ns : List Int} {x y : Int} (m : x ∈ ns) (e : ns.idxOf x = ns.idxOf y) : x = y ∨ y ∉ ns := by
  by_cases h : y ∈ ns
  · left
    have a := at_idx m
    have b := at_idx h
    rw [e, b] at a
    exact (Option.some.inj a).symm
  · exact .inr h
theorem pref_rev {ns : List Int} (nd : ns.Nodup) {a b : Int} (ma : a ∈ ns) (mb : b ∈ ns) (ne : a ≠ b) : pref ns.reverse a b = !pref ns a b := by
  unfold pref
  have la : ns.idxOf a < ns.length := List.idxOf_lt_length_of_mem ma
  have lb : ns.idxOf b < ns.length := List.idxOf_lt_length_of_mem mb
  have hne : ns.idxOf a ≠ ns.idxOf b := fun e => by
    rcases idx_inj ma e with h | h
    · exact ne h
    · exact h mb
  rw [idx_rev nd ma, idx_rev nd mb]
  by_cases h : ns.idxOf a < ns.idxOf b
  · rw [decide_eq_true h, decide_eq_false (by omega)]
    rfl
  · rw [decide_eq_false h, decide_eq_true (by omega)]
    rfl
/-! ### pairs and differences -/
def prow (n a : Nat) : List (Int × Int) := (List.range (n - (a + 1))).map fun j : Nat => ((a : Int), ((a : Int) + 1 + (j : Int)))
def pairs (n : Nat) : List (Int × Int) := (List.range n).flatMap (prow n)
theorem mem_pairs {n : Nat} {p : Int × Int} (h : p ∈ pairs n) : 0 ≤ p.1 ∧ p.1 < p.2 ∧ p.2 < (n : Int) := by
  unfold pairs prow at h
  obtain ⟨a, ha, hp⟩ := List.mem_flatMap.mp h
  obtain ⟨j, hj, rfl⟩ := List.mem_map.mp hp
  have h1 := List.mem_range.mp ha
  have h2 := List.mem_range.mp hj
  dsimp only
  omega
theorem flat_succ {β : Type} (f : Nat → List β) (i : Nat) : (List.range (i + 1)).flatMap f = (List.range i).flatMap f ++ f i := by
  rw [List.range_succ, List.flatMap_append]
  simp
theorem map_succ {β : Type} (f : Nat → β) (i : Nat) : (List.range (i + 1)).map f = (List.range i).map f ++ [f i] := by
  rw [List.range_succ, List.map_append]
  rfl
def agr (one other : List Int) (p : Int × Int) : Bool := pref one p.1 p.2 == pref other p.1 p.2
def diffs (n : Nat) (one other : List Int) : List (Int × Int) := (pairs n).filter fun p => !agr one other p
def betw (n : Nat) (one other third : List Int) : Bool := ((pairs n).filter (agr one other)).all (agr one third)
theorem agr_symm (one other : List Int) (p : Int × Int) : agr one other p = agr other one p := by
  unfold agr
  cases pref one p.1 p.2 <;> cases pref other p.1 p.2 <;> rfl
theorem diffs_symm (n : Nat) (one other : List Int) : diffs n one other = diffs n other one := by
  unfold diffs
  congr 1
  funext p
  rw [agr_symm]
theorem diffs_rev {n : Nat} {ns : List Int} (h : Rank n ns) : diffs n ns ns.reverse = pairs n := by
  unfold diffs
  rw [List.filter_eq_self]
  intro p hp
  obtain ⟨h0, h1, h2⟩ := mem_pairs hp
  unfold agr
  rw [pref_rev h.nodup (h.mem h0 (by omega)) (h.mem (by omega) h2) (by omega)]
  cases pref ns p.1 p.2 <;> rfl
theorem filter_take {α : Type} (f : α → Bool) {l : List α} {i : Nat} {x : α} (h : l[i]? = some x) : (l.take (i + 1)).filter f = (l.take i).filter f ++ if f x = true then [x] else [] := by
  rw [List.take_add_one, h, List.filter_append]
  show _ ++ ([x].filter f) = _
  cases e : f x <;> simp [e]
theorem diffs_sub {n : Nat} {one other : List Int} {p : Int × Int} (h : p ∈ diffs n one other) : p ∈ pairs n := (List.mem_filter.mp h).1
theorem prow_len (n a : Nat) : (prow n a).length = n - (a + 1) := by
  unfold prow; rw [List.length_map, List.length_range]
theorem flat_len (n : Nat) : ∀ i : Nat, ((List.range i).flatMap (prow n)).length ≤ i * n
  | 0 => by simp
  | i + 1 => by
    have ih := flat_len n i
    rw [flat_succ, List.length_append, prow_len, Nat.succ_mul]
    omega
theorem pairs_len (n : Nat) : (pairs n).length ≤ n * n := flat_len n n
/-! ### exchanging neighbours, drawing -/
theorem perm_swap {ns : List Int} {k : Nat} {x y : Int} (hx : ns[k]? = some x) (hy : ns[k + 1]? = some y) : (ns.take k ++ ([y, x] ++ ns.drop (k + 2))).Perm ns := by
  have e : ns = ns.take k ++ (x :: y :: ns.drop (k + 2)) := by
    have h1 : k < ns.length := (List.getElem?_eq_some_iff.mp hx).1
    have h2 : k + 1 < ns.length := (List.getElem?_eq_some_iff.mp hy).1
    have a1 : ns.drop k = x :: ns.drop (k + 1) := by
      rw [List.drop_eq_getElem_cons h1, (List.getElem?_eq_some_iff.mp hx).2]
    have a2 : ns.drop (k + 1) = y :: ns.drop (k + 2) := by
      rw [List.drop_eq_getElem_cons h2, (List.getElem?_eq_some_iff.mp hy).2]
    rw [← a2, ← a1, List.take_append_drop]
  refine List.Perm.trans ?_ (List.Perm.of_eq e.symm)
  exact List.Perm.append_left _ (List.Perm.swap x y _)
theorem perm_erase {l : List Int} {j : Nat} {z : Int} (h : l[j]? = some z) : (z :: l.eraseIdx j).Perm l := by
  obtain ⟨hj, e⟩ := List.getElem?_eq_some_iff.mp h
  have e1 : l = l.take j ++ z :: l.drop (j + 1) := by
    rw [← e, ← List.drop_eq_getElem_cons hj, List.take_append_drop]
  have e2 : l.eraseIdx j = l.take j ++ l.drop (j + 1) := List.eraseIdx_eq_take_drop_succ l j
  rw [e2]
  refine List.Perm.trans ?_ (List.Perm.of_eq e1.symm)
  exact (List.perm_middle).symm
end TR
namespace TR
/-! ### swaps of neighbours, the way from one ranking to another -/
def swp (ns : List Int) (k : Nat) : List Int := ns.take k ++ ([ns.getD (k + 1) 0, ns.getD k 0] ++ ns.drop (k + 2))
def wrongN (ns ms : List Int) : List Nat := (List.range (ns.length - 1)).filter fun k => pref ms (ns.getD (k + 1) 0) (ns.getD k 0)
def wrongs (ns ms : List Int) : List Int := (wrongN ns ms).map fun k : Nat => (k : Int)
theorem getD_of {ns : List Int} {k : Nat} (h : k < ns.length) : ns.getD k 0 = ns[k] := by
  rw [List.getD_eq_getElem?_getD, List.getElem?_eq_getElem h]
  rfl
theorem swp_split {ns : List Int} {k : Nat} (h : k + 1 < ns.length) : ns = ns.take k ++ (ns.getD k 0 :: ns.getD (k + 1) 0 :: ns.drop (k + 2)) := by
  rw [getD_of h, getD_of (by omega)]
  have a1 : ns.drop k = ns[k] :: ns.drop (k + 1) := List.drop_eq_getElem_cons (by omega)
  have a2 : ns.drop (k + 1) = ns[k + 1] :: ns.drop (k + 2) := List.drop_eq_getElem_cons h
  rw [← a2, ← a1, List.take_append_drop]
theorem swp_rank {n : Nat} {ns : List Int} {k : Nat} (r : Rank n ns) (h : k + 1 < n) : Rank n (swp ns k) := by
  have hl := r.len
  refine List.Perm.trans ?_ r
  refine List.Perm.trans ?_ (List.Perm.of_eq (swp_split (ns := ns) (k := k) (by omega)).symm)
  exact List.Perm.append_left _ (List.Perm.swap _ _ _)
theorem mem_wrongN {ns ms : List Int} {k : Nat} : k ∈ wrongN ns ms ↔ k + 1 < ns.length ∧ pref ms (ns.getD (k + 1) 0) (ns.getD k 0) = true := by
  unfold wrongN
  rw [List.mem_filter, List.mem_range]
  constructor
  · rintro ⟨a, b⟩
    exact ⟨by omega, b⟩
  · rintro ⟨a, b⟩
    exact ⟨by omega, b⟩
/-! ### inversions -/
def invN : List Nat → Nat
  | [] => 0
  | x :: r => r.countP (fun y => decide (y < x)) + invN r
theorem invN_swap {x y : Nat} (h : x < y) (t : List Nat) : ∀ p : List Nat, invN (p ++ x :: y :: t) + 1 = invN (p ++ y :: x :: t)
  | [] => by
    show List.countP _ (y :: t) + (List.countP _ t + invN t) + 1 = List.countP _ (x :: t) + (List.countP _ t + invN t)
    rw [List.countP_cons_of_neg (by simp; omega), List.countP_cons_of_pos (by simp; omega)]
    omega
  | a :: p => by
    show List.countP _ (p ++ x :: y :: t) + invN (p ++ x :: y :: t) + 1 = List.countP _ (p ++ y :: x :: t) + invN (p ++ y :: x :: t)
    have ih := invN_swap h t p
    have e : List.countP (fun z => decide (z < a)) (p ++ x :: y :: t) = List.countP (fun z => decide (z < a)) (p ++ y :: x :: t) := List.Perm.countP_eq _ (List.Perm.append_left _ (List.Perm.swap _ _ _))
    rw [e]
    omega
theorem invN_le : ∀ l : List Nat, invN l ≤ l.length * l.length
  | [] => Nat.le_refl _
  | x :: r => by
    have ih := invN_le r
    have h : r.countP (fun y => decide (y < x)) ≤ r.length := List.countP_le_length
    show List.countP _ r + invN r ≤ (r.length + 1) * (r.length + 1)
    rw [Nat.succ_mul, Nat.mul_succ]
    omega
theorem invN_le2 : ∀ l : List Nat, 2 * invN l + l.length ≤ l.length * l.length
  | [] => Nat.le_refl _
  | x :: r => by
    have ih := invN_le2 r
    have h : r.countP (fun y => decide (y < x)) ≤ r.length := List.countP_le_length
    have e : (r.length + 1) * (r.length + 1) = r.length * r.length + 2 * r.length + 1 := by
      rw [Nat.add_mul, Nat.mul_add, Nat.one_mul, Nat.mul_one]
      omega
    show 2 * (List.countP _ r + invN r) + (r.length + 1) ≤ (r.length + 1) * (r.length + 1)
    rw [e]
    omega
def dist (ns ms : List Int) : Nat := invN (ns.map ms.idxOf)
theorem dist_swap {n : Nat} {ns ms : List Int} {k : Nat} (r : Rank n ns) (h : k ∈ wrongN ns ms) : dist (swp ns k) ms + 1 = dist ns ms := by
  obtain ⟨h1, h2⟩ := mem_wrongN.mp h
  have e := swp_split h1
  have h3 : ms.idxOf (ns.getD (k + 1) 0) < ms.idxOf (ns.getD k 0) := of_decide_eq_true h2
  have e2 : dist ns ms = invN ((ns.take k).map ms.idxOf ++ (ms.idxOf (ns.getD k 0) :: ms.idxOf (ns.getD (k + 1) 0) :: (ns.drop (k + 2)).map ms.idxOf)) := by
    have g := congrArg (fun l : List Int => invN (l.map ms.idxOf)) e
    rw [List.map_append] at g
    exact g
  have e3 : dist (swp ns k) ms = invN ((ns.take k).map ms.idxOf ++ (ms.idxOf (ns.getD (k + 1) 0) :: ms.idxOf (ns.getD k 0) :: (ns.drop (k + 2)).map ms.idxOf)) := by
    unfold dist swp
    rw [List.map_append]
    rfl
  rw [e2, e3]
  exact invN_swap h3 _ _
theorem dist_le {n : Nat} {ns : List Int} (ms : List Int) (r : Rank n ns) : dist ns ms ≤ n * n := by
  have h := invN_le (ns.map ms.idxOf)
  rw [List.length_map, r.len] at h
  exact h
theorem dist_le28 {n : Nat} {ns : List Int} (ms : List Int) (r : Rank n ns) (hn : n ≤ 8) : dist ns ms ≤ 28 := by
  have h := invN_le2 (ns.map ms.idxOf)
  rw [List.length_map, r.len] at h
  have h2 : 2 * dist ns ms + n ≤ n * n := h
  match n, hn with
  | 0, _ => omega
  | 1, _ => omega
  | 2, _ => omega
  | 3, _ => omega
  | 4, _ => omega
  | 5, _ => omega
  | 6, _ => omega
  | 7, _ => omega
  | 8, _ => omega
/-! ### no wrong place: the end -/
theorem wrong_nil {n : Nat} {ns ms : List Int} (r : Rank n ns) (s : Rank n ms) (h : wrongN ns ms = []) : ns = ms := by
  have ln := r.len
  have lm := s.len
  have memM : ∀ k, k < n → ns.getD k 0 ∈ ms := fun k hk => by
    rw [getD_of (by omega)]
    have b := r.bnd (List.getElem_mem (show k < ns.length by omega))
    exact s.mem b.1 b.2
  have up : ∀ k, k + 1 < n → ms.idxOf (ns.getD k 0) < ms.idxOf (ns.getD (k + 1) 0) := fun k hk => by
    have hn : ¬ ms.idxOf (ns.getD (k + 1) 0) < ms.idxOf (ns.getD k 0) := fun hlt => by
      have : k ∈ wrongN ns ms := mem_wrongN.mpr ⟨by omega, decide_eq_true hlt⟩
      rw [h] at this
      cases this
    have hne : ms.idxOf (ns.getD k 0) ≠ ms.idxOf (ns.getD (k + 1) 0) := fun e => by
      rcases idx_inj (memM k (by omega)) e with e2 | e2
      · rw [getD_of (by omega), getD_of (by omega)] at e2
        have := (List.getElem_inj r.nodup).mp e2
        omega
      · exact e2 (memM (k + 1) hk)
    omega
  have lo : ∀ k, k < n → k ≤ ms.idxOf (ns.getD k 0) := fun k => by
    induction k with
    | zero => intro _; exact Nat.zero_le _
    | succ k ih =>
      intro hk
      have := ih (by omega)
      have := up k hk
      omega
  have bd : ∀ k, k < n → ms.idxOf (ns.getD k 0) < n := fun k hk => by
    have := List.idxOf_lt_length_of_mem (memM k hk)
    omega
  have hi : ∀ d k, k + d + 1 = n → ms.idxOf (ns.getD k 0) ≤ k := fun d => by
    induction d with
    | zero =>
      intro k hk
      have := bd k (by omega)
      omega
    | succ d ih =>
      intro k hk
      have := ih (k + 1) (by omega)
      have := up k (by omega)
      omega
  refine List.ext_getElem (by omega) fun k h1 h2 => ?_
  have e : ms.idxOf (ns.getD k 0) = k := by
    have a := lo k (by omega)
    have b := hi (n - 1 - k) k (by omega)
    omega
  have g := at_idx (memM k (by omega))
  rw [e, List.getElem?_eq_getElem h2, getD_of h1] at g
  exact (Option.some.inj g).symm
theorem wrong_self {n : Nat} {ms : List Int} (s : Rank n ms) : wrongN ms ms = [] := by
  refine List.filter_eq_nil_iff.mpr fun k hk => ?_
  have hk' := List.mem_range.mp hk
  rw [getD_of (by omega), getD_of (by omega)]
  have e1 := idx_at s.nodup (List.getElem?_eq_getElem (show k < ms.length by omega))
  have e2 := idx_at s.nodup (List.getElem?_eq_getElem (show k + 1 < ms.length by omega))
  unfold pref
  rw [e1, e2]
  simp
/-! ### the way -/
def stp (ms r : List Int) : List Int := match wrongN r ms with
  | [] => r
  | k :: _ => swp r k
def itr (ms ns : List Int) : Nat → List Int
  | 0 => ns
  | j + 1 => stp ms (itr ms ns j)
def Pth (ns ms : List Int) (rows : List (List Int)) : Prop := ∃ j, rows = (List.range (j + 1)).map (itr ms ns) ∧ itr ms ns j = ms ∧ ∀ i, i < j → itr ms ns i ≠ ms
theorem Pth.uniq {ns ms : List Int} {r s : List (List Int)} (a : Pth ns ms r) (b : Pth ns ms s) : r = s := by
  obtain ⟨i, e1, e2, e3⟩ := a
  obtain ⟨j, f1, f2, f3⟩ := b
  have : i = j := by
    rcases Nat.lt_trichotomy i j with h | h | h
    · exact absurd e2 (f3 i h)
    · exact h
    · exact absurd f2 (e3 j h)
  subst this
  rw [e1, f1]
theorem itr_rank {n : Nat} {ns ms : List Int} (r : Rank n ns) : ∀ j, Rank n (itr ms ns j)
  | 0 => r
  | j + 1 => by
    have ih := itr_rank (ms := ms) r j
    show Rank n (stp ms (itr ms ns j))
    unfold stp
    cases e : wrongN (itr ms ns j) ms with
    | nil => exact ih
    | cons k t =>
      have := (mem_wrongN (ns := itr ms ns j) (ms := ms) (k := k)).mp (by rw [e]; exact List.mem_cons_self)
      exact swp_rank ih (by have := ih.len; omega)
theorem itr_succ {ms ns : List Int} {j k : Nat} {t : List Nat} (e : wrongN (itr ms ns j) ms = k :: t) : itr ms ns (j + 1) = swp (itr ms ns j) k := by
  show stp ms (itr ms ns j) = _
  unfold stp
  rw [e]
theorem wrong_ne {n : Nat} {ns ms : List Int} {k : Nat} {t : List Nat} (s : Rank n ms) (e : wrongN ns ms = k :: t) : ns ≠ ms := fun h => by
  subst h
  rw [wrong_self s] at e
  cases e
end TR
namespace TR
/-! ### least, ascending, costs -/
def mn : List Int → Int
  | [] => 0
  | [x] => x
  | x :: y :: r => min x (mn (y :: r))
theorem mn_mem : ∀ {l : List Int}, l ≠ [] → mn l ∈ l
  | [], h => absurd rfl h
  | [x], _ => List.mem_singleton.mpr rfl
  | x :: y :: r, _ => by
    have ih := mn_mem (l := y :: r) (by simp)
    show min x (mn (y :: r)) ∈ _
    by_cases h : x ≤ mn (y :: r)
    · rw [Int.min_eq_left h]; exact List.mem_cons_self
    · rw [Int.min_eq_right (by omega)]; exact List.mem_cons_of_mem _ ih
theorem mn_le : ∀ {l : List Int} {z : Int}, z ∈ l → mn l ≤ z
  | [x], z, h => by
    rw [List.mem_singleton] at h
    subst h
    exact Int.le_refl _
  | x :: y :: r, z, h => by
    show min x (mn (y :: r)) ≤ z
    rcases List.mem_cons.mp h with rfl | h
    · omega
    · have := mn_le h
      omega
theorem mn_uniq {l : List Int} {m : Int} (h : m ∈ l) (g : ∀ y, y ∈ l → m ≤ y) : m = mn l := by
  have h1 := mn_le h
  have h2 := g _ (mn_mem (List.ne_nil_of_mem h))
  omega
def cpos (rk ms : List Int) : Int := mn (ms.map fun d => ((rk.idxOf d : Nat) : Int))
def cst (ts : List (List Int × Int)) (ms : List Int) : Int := (ts.map fun t => t.2 * cpos t.1 ms).sum
def Asc (lo hi : Int) (ns : List Int) : Prop := (∀ x ∈ ns, lo ≤ x ∧ x ≤ hi) ∧ ns.Pairwise (· < ·)
def IsMn (n : Nat) (ms : List Int) : Prop := ms ≠ [] ∧ Asc 0 ((n : Int) - 1) ms
theorem adj_pw : ∀ {ns : List Int}, (∀ i, i + 1 < ns.length → ns.getD i 0 < ns.getD (i + 1) 0) → ns.Pairwise (· < ·)
  | [], _ => .nil
  | [x], _ => List.pairwise_singleton _ _
  | x :: y :: r, h => by
    have ih : (y :: r).Pairwise (· < ·) := adj_pw fun i hi => h (i + 1) (by rw [List.length_cons]; omega)
    refine List.pairwise_cons.mpr ⟨fun z hz => ?_, ih⟩
    have h0 : x < y := h 0 (by simp)
    rcases List.mem_cons.mp hz with rfl | hz
    · exact h0
    · have := List.rel_of_pairwise_cons ih hz
      omega
theorem pw_adj {ns : List Int} (h : ns.Pairwise (· < ·)) (i : Nat) (hi : i + 1 < ns.length) : ns.getD i 0 < ns.getD (i + 1) 0 := by
  have e : ∀ k (hk : k < ns.length), ns.getD k 0 = ns[k] := fun k hk => by
    rw [List.getD_eq_getElem?_getD, List.getElem?_eq_getElem hk]
    rfl
  rw [e i (by omega), e (i + 1) hi]
  exact List.pairwise_iff_getElem.mp h i (i + 1) (by omega) hi (by omega)
theorem cpos_ge {rk ms : List Int} : 0 ≤ cpos rk ms := by
  unfold cpos
  cases ms with
  | nil => exact Int.le_refl _
  | cons x r =>
    have := mn_mem (l := (x :: r).map fun d => ((rk.idxOf d : Nat) : Int)) (by simp)
    obtain ⟨d, _, e⟩ := List.mem_map.mp this
    rw [← e]
    exact Int.natCast_nonneg _
theorem cpos_lt {n : Nat} {rk ms : List Int} (r : Rank n rk) (h : IsMn n ms) : cpos rk ms < (n : Int) := by
  have := mn_mem (l := ms.map fun d => ((rk.idxOf d : Nat) : Int)) (by simpa using h.1)
  obtain ⟨d, hd, e⟩ := List.mem_map.mp this
  have b := h.2.1 d hd
  have := List.idxOf_lt_length_of_mem (r.mem b.1 (by omega))
  rw [r.len] at this
  unfold cpos
  rw [← e]
  omega
theorem cpos_mono {rk ms os : List Int} (h : ms ≠ []) (s : ∀ x ∈ ms, x ∈ os) : cpos rk os ≤ cpos rk ms := by
  have := mn_mem (l := ms.map fun d => ((rk.idxOf d : Nat) : Int)) (by simpa using h)
  obtain ⟨d, hd, e⟩ := List.mem_map.mp this
  show mn _ ≤ mn _
  rw [← e]
  exact mn_le (List.mem_map.mpr ⟨d, s d hd, rfl⟩)
theorem cpos_full {n : Nat} {rk : List Int} (r : Rank n rk) (h1 : 1 ≤ n) : cpos rk (rng n) = 0 := by
  have hl := r.len
  have h0 : 0 < rk.length := by omega
  have b := r.bnd (List.getElem_mem h0)
  have e : rk.idxOf rk[0] = 0 := by
    cases rk with
    | nil => simp at h0
    | cons x t => simp
  have m : ((rk.idxOf rk[0] : Nat) : Int) ∈ (rng n).map fun d => ((rk.idxOf d : Nat) : Int) := List.mem_map.mpr ⟨rk[0], mem_rng.mpr b, rfl⟩
  have h2 := mn_le m
  have h3 : 0 ≤ cpos rk (rng n) := cpos_ge
  unfold cpos at h3 ⊢
  rw [e] at h2
  omega
theorem cst_full {n : Nat} (h1 : 1 ≤ n) : ∀ {ts : List (List Int × Int)}, (∀ t ∈ ts, Rank n t.1) → cst ts (rng n) = 0
  | [], _ => rfl
  | t :: r, h => by
    have ih := cst_full h1 (ts := r) fun x hx => h x (List.mem_cons_of_mem _ hx)
    show t.2 * cpos t.1 (rng n) + cst r (rng n) = 0
    rw [ih, cpos_full (h t List.mem_cons_self) h1, Int.mul_zero]
    rfl
theorem cst_mono {ms os : List Int} (h : ms ≠ []) (s : ∀ x ∈ ms, x ∈ os) : ∀ {ts : List (List Int × Int)}, (∀ t ∈ ts, 0 ≤ t.2) → cst ts os ≤ cst ts ms
  | [], _ => Int.le_refl _
  | t :: r, g => by
    have ih := cst_mono h s (ts := r) fun x hx => g x (List.mem_cons_of_mem _ hx)
    have h1 := Int.mul_le_mul_of_nonneg_left (cpos_mono (rk := t.1) h s) (g t List.mem_cons_self)
    show t.2 * cpos t.1 os + cst r os ≤ t.2 * cpos t.1 ms + cst r ms
    omega
def times (ts : List (List Int × Int)) (f : Int) : List (List Int × Int) := ts.map fun t => (t.1, (1 + t.2 % 1000) * f)
theorem cst_times (f : Int) (ms : List Int) : ∀ ts : List (List Int × Int), cst (times ts f) ms = f * cst (times ts 1) ms
  | [] => by
    show (0 : Int) = f * 0
    rw [Int.mul_zero]
  | t :: r => by
    have ih := cst_times f ms r
    show (1 + t.2 % 1000) * f * cpos t.1 ms + cst (times r f) ms = f * ((1 + t.2 % 1000) * 1 * cpos t.1 ms + cst (times r 1) ms)
    rw [ih, Int.mul_one, Int.mul_add, Int.mul_comm (1 + t.2 % 1000) f, Int.mul_assoc]
theorem cst_app (ts ss : List (List Int × Int)) (ms : List Int) : cst (ts ++ ss) ms = cst ts ms + cst ss ms := by
  unfold cst
  rw [List.map_append, List.sum_append]
theorem cst_halved {ts : List (List Int × Int)} {k : Nat} {r : List Int} {v : Int} (ms : List Int) (h : ts[k]? = some (r, v)) : cst (ts.take k ++ ([(r, v / 2), (r, v - v / 2)] ++ ts.drop (k + 1))) ms = cst ts ms := by
  have hk : k < ts.length := (List.getElem?_eq_some_iff.mp h).1
  have e : ts.drop k = (r, v) :: ts.drop (k + 1) := by
    rw [List.drop_eq_getElem_cons hk, (List.getElem?_eq_some_iff.mp h).2]
  have e2 : cst ts ms = cst (ts.take k) ms + cst ((r, v) :: ts.drop (k + 1)) ms := by
    rw [← e, ← cst_app, List.take_append_drop]
  rw [cst_app, e2]
  show _ + (v / 2 * cpos r ms + ((v - v / 2) * cpos r ms + cst (ts.drop (k + 1)) ms)) = _ + (v * cpos r ms + cst (ts.drop (k + 1)) ms)
  have e3 : v * cpos r ms = v / 2 * cpos r ms + (v - v / 2) * cpos r ms := by
    rw [← Int.add_mul]
    congr 1
    omega
  rw [e3]
  omega
end TR
namespace TR
open PySem PySem.Spec PyProof.Rows L2
theorem flat_ints (ys : List Int) : (ys.map V.int).all flatV = true := by
  rw [List.all_map]; exact List.all_eq_true.mpr fun _ _ => rfl
def rTupIdx (K : PySem.W.Frag) : V → List V → Hp → VK → Prop := fun x xs H Q => ∃ p, ∃ ys : List Int, ∃ z j, x = .ref p ∧ xs = [.int z] ∧ SqT K H p (ys.map V.int) ∧ ys[j]? = some z ∧ (∀ m, m < j → ys[m]? ≠ some z) ∧ Q (.int (j : Nat)) H
section
variable {X : Cx}
/-- t.index(k), t a tuple of ints: the first place -/
theorem mt_tupIdx : MtR X "tuple.index" (fun x xs H Q => ∃ p, ∃ ys : List Int, ∃ z j, x = .ref p ∧ xs = [.int z] ∧ SqT X.K H p (ys.map V.int) ∧ ys[j]? = some z ∧ (∀ m, m < j → ys[m]? ≠ some z) ∧ Q (.int (j : Nat)) H) := by
  intro pins s σ H x xs v us Q I rx rs h
  obtain ⟨p, ys, z, j, rfl, rfl, hS, hy, hno, q⟩ := h
  cases rx
  obtain ⟨u, rfl, t, rfl⟩ := vals1 rs
  obtain ⟨its, r, pl, hz⟩ := I.tuple hS
  obtain ⟨⟨c1, dd, dt, sl⟩, ho, hc, n, hd⟩ := pl
  simp only at hc hd; subst hc; subst hd
  have hl : its.toArray.size = ys.length := by
    rw [List.size_toArray, ← r.length]; exact List.length_map _
  have hj : j < its.toArray.size := hl.symm ▸ (List.getElem?_eq_some_iff.mp hy).1
  have pick : ∀ (m : Nat) (hm : m < its.toArray.size), ∃ y t', ys[m]? = some y ∧ its.toArray[m] = Value.int y t' := fun m hm => by
    have hm2 : m < ys.length := hl ▸ hm
    obtain ⟨w, hw, t', hw'⟩ := r.get (i := m) (x := .int ys[m]) (by simp [hm2])
    refine ⟨ys[m], t', List.getElem?_eq_getElem hm2, ?_⟩
    have e := (List.getElem?_eq_some_iff.mp hw).2
    rw [← hw', ← e]; simp
  refine call_meets PySem.F.slot_tuple_index ⟨_, ho, rfl⟩ PySem.F.entry_tuple_index (PySem.F.args_tuple_index_2 _ _) (TI.tuple_indexAt p its.toArray n dd sl (.int z t) (eqU (.int z)) j hj ?_ ?_)
    ⟨ho, fun w hw => mem_eqAt (x := .int z) ⟨t, rfl⟩ rfl r (flat_ints ys) w (by simpa using hw), ⟨.int (j : Nat), H, I.tok _, ⟨_, rfl⟩, q⟩⟩
  · obtain ⟨y, t', h1, h2⟩ := pick j hj
    rw [hy] at h1; cases h1; rw [h2]
    show (z == z) = true; exact beq_self_eq_true z
  · intro m hm hmj
    obtain ⟨y, t', h1, h2⟩ := pick m hm
    rw [h2]; show (y == z) = false
    exact beq_eq_false_iff_ne.mpr fun e => hno m hmj (e ▸ h1)
end
section
variable {prog : Program} {w : World} {A : Around} {E : Value → Shared → Prop} {s : Shared}
theorem places_back (n : Nat) : Builtin.Slice.slicePlaces ((n : Int) - 1) (-1) (-1) = n := by
  unfold Builtin.Slice.slicePlaces
  rw [if_neg (show ¬ ((-1 : Int) > 0) by decide)]
  by_cases h : (n : Int) - 1 > -1
  · rw [if_pos h, show (- -1 : Int) = 1 by decide, Int.ediv_one]; omega
  · rw [if_neg h]; omega
theorem applied_back {sl : Addr} {vs : Value} {n : Nat} {Q : Int × Int × Nat → Shared → Prop} (hs : s.heap.IsSliceOf sl .none .none vs) (ps : IsPart vs (some (-1))) (h : Q ((n : Int) - 1, -1, n) s) :
    wpAny (model prog w) A (Builtin.Slice.sliceApplied (.ref sl) (pure (n : Int))) Q E s := by
  obtain ⟨os, hos, hcs, hds⟩ := id hs
  unfold Builtin.Slice.sliceApplied Builtin.Slice.sliceFields
  refine wpAny_bind (wpAny_bind (wpAny_field hos hds (x := .none) rfl (wpAny_bind (wpAny_field hos hds (x := .none) rfl (wpAny_bind (wpAny_field hos hds (x := vs) rfl (wpAny_pure ?_)))))))
  refine wpAny_bind (HT.slicePart_ ps ?_)
  show wpAny _ _ (if ((-1 : Int) == 0) = true then _ else _) _ _ s
  rw [if_neg (show ¬ (((-1 : Int) == 0) = true) by decide)]
  refine wpAny_bind (HT.slicePart_ .none (wpAny_bind (HT.slicePart_ .none (wpAny_bind (wpAny_pure ?_)))))
  show wpAny _ _ (pure ((n : Int) - 1, (-1 : Int), Builtin.Slice.slicePlaces ((n : Int) - 1) (-1) (-1))) _ _ s
  rw [places_back]; exact wpAny_pure h
theorem pick_back (xs : Array Value) : ((List.range xs.size).filterMap fun (k : Nat) => xs[((xs.size : Int) - 1 + (k : Int) * -1).toNat]?).toArray = xs.toList.reverse.toArray := by
  have e : ((List.range xs.size).filterMap fun (k : Nat) => xs[((xs.size : Int) - 1 + (k : Int) * -1).toNat]?) = ((List.range xs.size).map fun k => xs.size - 1 - k).filterMap (xs[·]?) := by
    rw [List.filterMap_map]
    refine congrArg (fun g => (List.range xs.size).filterMap g) (funext fun k => ?_)
    show xs[((xs.size : Int) - 1 + (k : Int) * -1).toNat]? = xs[xs.size - 1 - k]?
    rw [show ((xs.size : Int) - 1 + (k : Int) * -1).toNat = xs.size - 1 - k by omega]
  rw [e, PySem.W.krv_range, List.filterMap_reverse, PySem.W.krv_all]
theorem getItem_back {t sl : Addr} {items : Array Value} {vs : Value} {Q : Value → Shared → Prop} (ht : IsTup s.heap t items) (hs : s.heap.IsSliceOf sl .none .none vs) (ps : IsPart vs (some (-1)))
    (h : Q (.ref s.heap.objs.size) { s with heap := s.heap.push { cls := .type "tuple", data := .seq items.toList.reverse.toArray } }) (hsz : items.size ≤ sizeLine) : wpAny (model prog w) A (getItem (.ref t) (.ref sl)) Q E s := by
  have hok : sizeOk (.seq items.toList.reverse.toArray) := by
    show items.toList.reverse.toArray.size ≤ sizeLine
    rw [List.size_toArray, List.length_reverse]; exact hsz
  obtain ⟨os, hos, hcs, hds⟩ := id hs
  have hTs : s.TypeIs (.ref sl) "slice" := ⟨os, hos, hcs⟩
  unfold getItem
  try with_reducible refine wpAny_holding ?_
  first | refine wpAny_bind (wpAny_pure ?_) | skip
  refine wpAny_bind (wpAny_sequenceKey ht.typeIs (by decide) ?_)
  refine wpAny_bind (wpAny_callSpecial?_slot (name := Str.ofString "__getitem__") ht.typeIs PyProof.Rows.slot_tuple_getitem (wpAny_call_entry PyProof.Rows.slot_tuple_getitem ht.typeIs entry_tuple_getitem ?_ (args_tuple_getitem _ _)))
  show wpAny _ _ (Builtin.Tuple.tupleItemsOf (.ref t) >>= _) _ _ s
  refine wpAny_bind (PyProof.Rows.tupleItemsOf_ ht (wpAny_bind (wpAny_typeOf hTs ?_)))
  rw [if_pos (by decide)]
  refine wpAny_bind (applied_back hs ps ?_)
  have hno : ¬ ((((items.size : Int) - 1 == 0) && (-1 : Int) == 1 && items.size == items.size) = true) := by
    rw [show ((-1 : Int) == 1) = false by decide, Bool.and_false, Bool.false_and]; exact Bool.false_ne_true
  show wpAny _ _ (if (((items.size : Int) - 1 == 0) && (-1 : Int) == 1 && items.size == items.size) = true then _ else _) _ _ s
  rw [if_neg hno, pick_back]
  first
    | exact wpAny_bind (m := Builtin.Tuple.tupleExact _) (wpAny_newObj_type (wpAny_pure ⟨_, rfl, wpAny_pure h⟩) hok)
    | exact wpAny_bind (wpAny_bind (m := Builtin.Tuple.tupleExact _) (wpAny_newObj_type (wpAny_pure ⟨_, rfl, wpAny_pure h⟩) hok))
    | exact wpAny_bind (wpAny_bind (m := Builtin.Tuple.tupleExact _) (wpAny_newObj_type (wpAny_pure (wpAny_pure ⟨_, rfl, wpAny_pure h⟩)) hok))
end
section
variable {X : Cx}
/-- t[::-1], t a tuple: always a new one -/
def tRevT (K : PySem.W.Frag) (te : TE) : TE := fun σ H Q => te σ H fun x H1 => ∃ a xs, x = .ref a ∧ SqT K H1 a xs ∧ ∀ p o, H1 p = none → o.dict = none → Q (.ref p) (upd H1 p (.frz o (.tup xs.reverse)))
theorem pe_revT {e : Expr} {te : TE} {k : Nat} {p1 p2 p3 pos : Pos} (he : PE X e te) : PE X (.Subscript e (.Slice none none (some (.UnaryOp .USub (.Constant (.int 1) k p1) p2)) p3) pos) (tRevT X.K te) := by
  refine ⟨fun pins s σ H Q I h => Subscript_ (thn (he.run pins s σ H _ I h) fun v s1 ⟨x, H1, I1, r1, a, xs, ex, hx, q⟩ => ?_)⟩
  subst ex; cases r1
  have hst : PO X (some (.UnaryOp .USub (.Constant (.int 1) k p1) p2)) (tPart (tUn (rU fun i => .int (-i)) (tC (.int 1)))) := po_some (pe_un un_neg pe_int)
  refine wpAny_Slice (thn (po_none.run pins s1 σ H1 (fun o G => o = none ∧ G = H1) I1 ⟨rfl, rfl⟩) fun vl s2 ⟨l, H2, I2, pl, el, e2⟩ => ?_)
  subst el e2
  refine thn (po_none.run pins s2 σ H2 (fun o G => o = none ∧ G = H2) I2 ⟨rfl, rfl⟩) fun vu s3 ⟨u, H3, I3, pu, eu, e3⟩ => ?_
  subst eu e3
  refine thn (hst.run pins s3 σ H3 (fun o G => o = some (-1) ∧ G = H3) I3 ⟨1, rfl, -1, rfl, rfl, rfl⟩) fun vs s4 ⟨o, H4, I4, ps, eo, e4⟩ => ?_
  subst eo e4
  cases pl; cases pu
  have I5 : Inv X pins σ H4 { s4 with heap := s4.heap.push { cls := .type "slice", data := .fields #[.none, .none, vs] } } := I4.kept (t' := s4.toks) fun b ob q => Heap.get?_push_of_some _ q
  obtain ⟨its, r, ht, hz⟩ := I5.tuple hx
  have hlen := r.length
  show wpAny (model X.prog X.w) X.A (subscriptTail e (.Slice none none (some (.UnaryOp .USub (.Constant (.int 1) k p1) p2)) p3) (.ref a) (.ref s4.heap.objs.size)) (EP X pins σ Q) X.xe { s4 with heap := s4.heap.push { cls := .type "slice", data := .fields #[.none, .none, vs] } }
  refine tail_any (ops := [.ref a, .ref s4.heap.objs.size]) ht.typeIs (PyProof.Rows.slot_tuple_getitem.lookup) ?_ (by with_unfolding_all rfl)
  refine getItem_back ht (Heap.IsSliceOf.new _ .none .none vs) ps ?_ (by rw [List.size_toArray]; omega)
  refine ⟨.ref _, _, I5.laid (t' := s4.toks) (o := .frz { cls := .type "tuple", data := .seq its.toArray.toList.reverse.toArray } (.tup xs.reverse)) (fun b ob q => Heap.get?_push_of_some _ q) (Nat.le_refl _) ?_, rfl, q _ _ (I5.hok.fresh (Nat.le_refl _)) rfl⟩
  exact ⟨Heap.get?_push_size _ rfl, by rw [List.length_reverse]; exact hz, _, r.reverse, IsTup.new _ _⟩
/-- tuple(a list): the new tuple, as the very object -/
theorem call_tupleF : CallR X (.type "tuple") (fun xs H Q => ∃ p ys, xs = [.ref p] ∧ SqL X.K H p ys ∧ ∀ l o, H l = none → o.dict = none → Q (.ref l) (upd H l (.frz o (.tup ys)))) := by
  intro pins s σ H xs us Q I r ⟨p, ys, ex, hS, q⟩
  subst ex
  obtain ⟨u, rfl, rx⟩ := vals1 r
  cases rx
  obtain ⟨its, r', pl, hz⟩ := I.list hS
  have hlen := r'.length
  refine call_tuple_list pl.isList (fun h' kp => ?_) (by simp only [List.size_toArray] <;> omega)
  have I1 : Inv X pins σ H { s with heap := h' } := I.kept (t' := s.toks) kp
  exact ⟨.ref h'.objs.size, _, I1.laid (t' := s.toks) (o := .frz { cls := .type "tuple", data := .seq its.toArray } (.tup ys)) (fun b o e => Heap.get?_push_of_some _ e) (Nat.le_refl _) ⟨Heap.get?_push_size _ rfl, hz, its, r', IsTup.new _ _⟩, rfl, q _ _ (I1.hok.fresh (Nat.le_refl _)) rfl⟩
/-- (a, b, ..): the same -/
def tTupF (t : TA) : TE := fun σ H Q => t σ H fun xs H1 => xs.length ≤ sizeLine ∧ ∀ p o, H1 p = none → o.dict = none → Q (.ref p) (upd H1 p (.frz o (.tup xs)))
theorem pe_tupF {es : List Expr} {t : TA} {pos : Pos} {x1} (h : PA X es t) : PE X (.Tuple es x1 pos) (tTupF t) := by
  refine ⟨fun pins s σ H Q I hq => wpAny_Tuple_spliced (thn (h.run pos pins s σ H _ I hq) fun us s1 ⟨xs, H1, I1, r, z, q⟩ => ⟨by rw [← r.length]; exact z, ?_⟩)⟩
  exact ⟨.ref s1.heap.objs.size, _, I1.laid (t' := s1.toks) (o := .frz { cls := .type "tuple", data := .seq us.toArray } (.tup xs)) (fun b u e => Heap.get?_push_of_some _ e) (Nat.le_refl _) ⟨Heap.get?_push_size _ rfl, z, us, r, IsTup.new _ _⟩, rfl, q _ _ (I1.hok.fresh (Nat.le_refl _)) rfl⟩
/-- t + u -/
def rCatF (K : PySem.W.Frag) : R2 := fun x y H Q => ∃ a b xs ys, x = .ref a ∧ y = .ref b ∧ SqT K H a xs ∧ SqT K H b ys ∧ xs.length + ys.length ≤ sizeLine ∧
  (xs = [] → Q (.ref b) H) ∧ (xs ≠ [] → ys = [] → Q (.ref a) H) ∧ (xs ≠ [] → ys ≠ [] → ∀ p o, H p = none → o.dict = none → Q (.ref p) (upd H p (.frz o (.tup (xs ++ ys)))))
theorem op_catF : OpR X (binaryOp .Add) (rCatF X.K) := by
  intro pins s σ H x y v u Q I rx ry ⟨a, b, xs, ys, ex, ey, ha, hb, hz, q0, q1, q2⟩
  subst ex ey; cases rx; cases ry
  obtain ⟨its, r1, p1, _⟩ := I.tuple ha
  obtain ⟨its2, r2, p2, _⟩ := I.tuple hb
  by_cases hx : xs = []
  · subst hx; cases r1
    exact cat_tup0 p1 p2 ⟨.ref b, H, I, rfl, q0 rfl⟩
  · refine HT.cat_tup p1 p2 (fun z => hx (r1.nil_iff.mp z)) (fun z => ⟨.ref a, H, I, rfl, q1 hx (r2.nil_iff.mp z)⟩) (fun z => ?_) (by rw [← r1.length, ← r2.length]; exact hz)
    exact ⟨.ref s.heap.objs.size, _, I.laid (t' := s.toks) (o := .frz { cls := .type "tuple", data := .seq (its ++ its2).toArray } (.tup (xs ++ ys))) (fun b ob q => Heap.get?_push_of_some _ q) (Nat.le_refl _)
      ⟨Heap.get?_push_size _ rfl, by rw [List.length_append]; exact hz, _, r1.append r2, IsTup.new _ _⟩, rfl, q2 hx (fun w => z (r2.nil_iff.mpr w)) _ _ (I.hok.fresh (Nat.le_refl _)) rfl⟩
/-- t[lo:hi] -/
def rSlF (K : PySem.W.Frag) : V → Option Int → Option Int → Hp → VK → Prop := fun x lo hi H Q => ∃ a xs, x = .ref a ∧ SqT K H a xs ∧
  (HT.sIx xs.length 0 lo = 0 ∧ HT.sIx xs.length xs.length hi = xs.length → Q (.ref a) H) ∧
  (¬ (HT.sIx xs.length 0 lo = 0 ∧ HT.sIx xs.length xs.length hi = xs.length) → ∀ p o, H p = none → o.dict = none → Q (.ref p) (upd H p (.frz o (.tup (cutV xs lo hi)))))
theorem sl_tupF : SlR X (rSlF X.K) := by
  intro pins s σ H x v vl vu lo hi sl Q I rx hs pl pu ⟨a, xs, ex, hx, q1, q2⟩
  subst ex; cases rx
  obtain ⟨its, r, ht, hz⟩ := I.tuple hx
  have hlen : its.toArray.size = xs.length := List.size_toArray.trans r.length.symm
  refine ⟨"tuple", _, PyProof.Rows.slot_tuple_getitem.lookup, ht.typeIs, ?_⟩
  by_cases hw : HT.sIx xs.length 0 lo = 0 ∧ HT.sIx xs.length xs.length hi = xs.length
  · exact getItem_tuple_whole ht hs pl pu (by rw [hlen]; exact hw) ⟨.ref a, H, I, rfl, q1 hw⟩
  · refine HT.getItem_tuple_cut ht hs pl pu (by rw [hlen]; exact hw) ?_ (by rw [hlen]; exact hz)
    rw [hlen]
    exact ⟨.ref s.heap.objs.size, _, I.laid (t' := s.toks) (o := .frz { cls := .type "tuple", data := .seq ((its.toArray.toList.drop (HT.sIx xs.length 0 lo)).take (HT.sIx xs.length xs.length hi - HT.sIx xs.length 0 lo)).toArray } (.tup (cutV xs lo hi))) (fun b ob q => Heap.get?_push_of_some _ q) (Nat.le_refl _)
      ⟨Heap.get?_push_size _ rfl, Nat.le_trans (cutV_length xs lo hi) hz, _, (r.drop (HT.sIx xs.length 0 lo)).take (HT.sIx xs.length xs.length hi - HT.sIx xs.length 0 lo), IsTup.new _ _⟩, rfl, q2 hw _ _ (I.hok.fresh (Nat.le_refl _)) rfl⟩
/-- t.m(e, ..), t a tuple that stands as the very object, without a dict of its own -/
def tBMT (r : V → List V → Hp → VK → Prop) (to : TE) (t : TA) : TE := fun σ H Q => to σ H fun x H1 => (∃ p ob ys, x = .ref p ∧ ob.dict = none ∧ H1 p = some (.frz ob (.tup ys))) ∧ t σ H1 fun xs H2 => r x xs H2 Q
theorem pe_bmT {o e : Expr} {es : List Expr} {to : TE} {t : TA} {name : Str} {apos cpos : Pos} {id : String} {r : V → List V → Hp → VK → Prop} (slot : Slot "tuple" name id) (hty : typeOf (.builtin id) = pure (.type "method_descriptor")) (hm : MtR X id r) (ho : PE X o to) (ha : PA X (e :: es) t)
    (hbase : attributeBase o name X.env (eval o X.env) = eval o X.env := by rfl)
    (hfew : ((backTo cpos (starEach (e :: es) X.env)).all (fun x => !x.1) && (backToKw cpos (keywordEach [] X.env)).all (fun x => x.1.isSome) && decide ((e :: es).length + ([] : List Keyword).length + (if ([] : List Keyword).isEmpty then 0 else 1) < 30)) = true := by rfl)
    (hline : (apos.endLine == cpos.line) = true := by rfl) (hs : starEach (e :: es) X.env = (false, eval e X.env) :: starEach es X.env := by rfl) (hplain : (backTo cpos (starEach es X.env)).any (·.1) = false := by rfl) :
    PE X (.Call (.Attribute o name apos) (e :: es) [] cpos) (tBMT r to t) := by
  refine ⟨fun pins s σ H Q I h => wpAny_Call_method_late hbase hfew hline rfl (thn (ho.run pins s σ H _ I h) fun v s1 ⟨x, H1, I1, r1, ⟨p, ob, ys, ex, hd, hp⟩, q1⟩ => ?_)⟩
  subst ex
  cases (show v = Value.ref p from r1)
  obtain ⟨g, z, its, rv, o', g', c', _⟩ := (show ObjOk X.prog X.w H1 s1.heap p (.frz ob (.tup ys)) from I1.hok p _ hp)
  refine ⟨"tuple", id, PySem.F.plainAttrs_tuple, slot, hty, ⟨o', g', c'⟩, fun a e => by cases e; exact ⟨ob, g, hd⟩, ?_⟩
  have hA := ha.run cpos pins s1 σ H1 _ I1 q1
  rw [hs] at hA ⊢
  refine Calls.callWith_builtin (by show (false || (backTo cpos (starEach es X.env)).any (·.1)) = false; rw [hplain] <;> rfl) (Calls.evalArgs_plain (thn hA fun us s2 ⟨vs, H2, I2, r2, q2⟩ => ?_))
  exact hm pins s2 σ H2 (.ref p) vs (.ref p) us Q I2 rfl r2 q2
end
end TR
namespace TR
open PySem PySem.Spec PyProof.Rows L2
section
variable {prog : Program} {w : World} {A : Around} {E : Value → Shared → Prop} {s : Shared}
/-- what a tuple is collected into -/
theorem collect_tup {t : Addr} {vs : List Value} {Q : List Value → Shared → Prop} (ht : IsTup s.heap t vs.toArray) (h : Q vs { s with heap := (s.heap.push (seqObj "list" #[] 0)).update s.heap.objs.size (Obj.mapSeq (· ++ vs.toArray)) }) (hsz : vs.length ≤ sizeLine) : wpAny (model prog w) A (collect (.ref t)) Q E s := by
  obtain ⟨o, ho, hc, n, hd⟩ := id ht
  have ho2 : (s.heap.push (seqObj "list" #[] 0)).get? t = some o := Heap.get?_push_of_some _ ho
  unfold collect; refine wpAny_bind (wpAny_runValue (codeAny_builtin entry_proto_collect' ?_))
  show wpAny _ _ (do again (.builtin "list.__iadd__" ⟨[← newList [], .ref t], []⟩)) _ _ s
  refine wpAny_bind (wpAny_newList (wpAny_pure ⟨Code.quiet_builtin _ (by decide +kernel), codeAny_builtin entry_list_iadd' ?_⟩) (Nat.zero_le _))
  show wpAny _ _ (Builtin.List.listExtendWith (.ref s.heap.objs.size) (.ref t) (.ref s.heap.objs.size)) _ _ { s with heap := s.heap.push (seqObj "list" #[] 0) }
  unfold Builtin.List.listExtendWith; refine wpAny_bind (wpAny_typeOf (T := "tuple") ⟨o, ho2, hc⟩ ?_)
  have hy : (Value.type "tuple" == Value.type "tuple") = true := rfl
  rw [if_pos (by rw [hy]; simp)]; refine wpAny_bind (listItems_at ho2 hd ?_)
  refine wpAny_bind (listItems_at (xs := #[]) (n := 0) (Heap.get?_push_size _ rfl) rfl ?_); rw [if_neg (by simp)]
  refine wpAny_bind (listUpdate_at (xs := #[]) (n := 0) (Heap.get?_push_size _ rfl) rfl (wpAny_pure ?_) (Nat.zero_le _) (by show (#[] ++ vs.toArray).size ≤ sizeLine + 1; simp only [Array.size_append, List.size_toArray, List.length_nil]; omega))
  show wpAny (model prog w) A (load s.heap.objs.size >>= fun ob => match ob.data with | .seq xs _ => pure xs.toList | _ => unsupported "internal:collect") Q E { s with heap := (s.heap.push (seqObj "list" #[] 0)).update s.heap.objs.size (Obj.mapSeq (· ++ vs.toArray)) }
  refine wpAny_bind (wpAny_load (get?_update_seq (Heap.get?_push_size _ rfl) _) ?_)
  show wpAny _ _ (pure ((#[] : Array Value) ++ vs.toArray).toList) Q E _; rw [show ((#[] : Array Value) ++ vs.toArray).toList = vs by simp]; exact wpAny_pure h
/-- sorted of a tuple -/
theorem sorted_tupO {t : Addr} {vs : List Value} {ltv : Value → Value → Bool} {Q : Value → Shared → Prop} (O : SrtO.Swo ltv) (ht : IsTup s.heap t vs.toArray) (hz : vs.length ≤ sizeLine)
    (hS : 2 ≤ vs.length → ∀ (g : Heap) (a : Addr), g.get? a = some (seqObj "list" vs.toArray 0) → (∀ b o, s.heap.get? b = some o → b ≠ a ∧ g.get? b = some o) → SrtO.SortableO prog w A.in1.in1 { s with heap := g } a vs ltv)
    (h : ∀ out : List Value, SrtO.Srtd ltv out → SrtO.Stb ltv out vs → Q (.ref (s.heap.objs.size + 1)) { s with heap := sortedAll s.heap vs out.toArray }) : wpAny (model prog w) A (call (.builtin "sorted") [.ref t]) Q E s := by
  refine Calls.call_function_entry kind_sorted plain_sorted entry_sorted (args_sorted1 _) ?_
  unfold Builtin.«sorted»; refine wpAny_bind (m := checkCount "sorted" 1 1 _) (wpAny_pure (wpAny_bind (collect_tup ht (wpAny_bind (wpAny_newList ?_ hz)) hz)))
  have hn : ((s.heap.push (seqObj "list" #[] 0)).update s.heap.objs.size (Obj.mapSeq (· ++ vs.toArray))).objs.size = s.heap.objs.size + 1 := by rw [Heap.size_update]; simp [Heap.push]
  have hL : (((s.heap.push (seqObj "list" #[] 0)).update s.heap.objs.size (Obj.mapSeq (· ++ vs.toArray))).push (seqObj "list" vs.toArray 0)).get? (s.heap.objs.size + 1) = some (seqObj "list" vs.toArray 0) := hn ▸ Heap.get?_push_size _ rfl
  have kp : ∀ b o, s.heap.get? b = some o → b ≠ s.heap.objs.size + 1 ∧ (((s.heap.push (seqObj "list" #[] 0)).update s.heap.objs.size (Obj.mapSeq (· ++ vs.toArray))).push (seqObj "list" vs.toArray 0)).get? b = some o := fun b o q =>
    ⟨Nat.ne_of_lt (Nat.lt_succ_of_lt (Heap.lt_size q)), Heap.get?_push_of_some _ (by rw [Heap.get?_update_ne _ _ _ _ (Nat.ne_of_lt (Heap.lt_size q))]; exact Heap.get?_push_of_some _ q)⟩
  show wpAny _ _ _ _ _ { s with heap := ((s.heap.push (seqObj "list" #[] 0)).update s.heap.objs.size (Obj.mapSeq (· ++ vs.toArray))).push (seqObj "list" vs.toArray 0) }; rw [hn]
  refine wpAny_bind (wpAny_holding (wpAny_call_entry slot_list_sort ⟨_, hL, rfl⟩ entry_list_sort (SrtO.list_sort_ord O hL hz (fun h2 => hS h2 _ _ hL kp) fun out a b => ⟨_, rfl, wpAny_pure ⟨_, rfl, h out a b⟩⟩) (args_list_sort _)))
end
section
variable {X : Cx}
/-- sorted(t), t a tuple of ints -/
def rSortedTI (K : PySem.W.Frag) : List V → Hp → VK → Prop := fun vs H Q => ∃ (a : Addr) (ns : List Int), vs = [V.ref a] ∧ SqT K H a (ns.map V.int) ∧ ∀ (ms : List Int) (p : Addr), ms.Perm ns → ms.Pairwise (· ≤ ·) → H p = none → Q (.ref p) (upd H p (.lst (ms.map V.int)))
theorem cr_sortedTI : CallR X (.builtin "sorted") (rSortedTI X.K) := by
  intro pins s σ H vs us Q I r ⟨a, ns, ev, hs, q⟩
  subst ev
  obtain ⟨its, rv, ht, hz⟩ := I.tuple hs
  rw [Vals.ref1 r]; have hi := rv.ints
  refine sorted_tupO SrtO.swo_int ht (by rw [← rv.length]; exact hz) (fun h2 g a' _ _ => SrtO.ints_sortable hi h2) fun out h1 h2 => ?_
  obtain ⟨k1, k2, k3⟩ := SrtO.ints_out hi h1 h2; obtain ⟨ep, he⟩ := PyProof.Rows.sortedAll_at s.heap its out.toArray
  have hl : ((out.map SrtO.iv).map V.int).length ≤ sizeLine := by rw [List.length_map, k2.length_eq]; rw [List.length_map] at hz; exact hz
  exact ⟨.ref _, upd H (s.heap.objs.size + 1) (.lst ((out.map SrtO.iv).map V.int)), I.laid (t' := s.toks) (fun _ _ => PyProof.Rows.sortedAll_old) (Nat.le_succ _) ⟨hl, out, ep, vals_of_ints k1, he⟩, rfl, q _ _ k2 k3 (I.hok.fresh (Nat.le_succ _))⟩
end
end TR
namespace TR
open PySem PySem.Spec PyProof.Rows L2
/-! ### values of any kind, as data; ban: where no list of them stands -/
mutual
def Rp (H : Hp) (ban : List Addr) : PyData → V → Prop
  | .none, v => v = .non
  | .bool b, v => v = .bl b
  | .int i, v => v = .int i
  | .str x, v => v = .str x
  | .list ds, v => ∃ a xs, v = .ref a ∧ H a = some (.lst xs) ∧ a ∉ ban ∧ RpAll H ban ds xs
  | .tuple ds, v => ∃ a xs, v = .ref a ∧ TF H a xs ∧ RpAll H ban ds xs
  | .dict kvs, v => kvs = [] ∧ ∃ a, v = .ref a ∧ H a = some (.dK [])
def RpAll (H : Hp) (ban : List Addr) : List PyData → List V → Prop
  | [], xs => xs = []
  | d :: ds, xs => ∃ v r, xs = v :: r ∧ Rp H ban d v ∧ RpAll H ban ds r
end
mutual
theorem Rp.mv {H H' : Hp} {ban : List Addr} (mL : ∀ a xs, a ∉ ban → H a = some (.lst xs) → H' a = some (.lst xs)) (mT : ∀ a xs, TF H a xs → TF H' a xs) (mD : ∀ a, H a = some (.dK []) → H' a = some (.dK [])) : ∀ (d : PyData) (v : V), Rp H ban d v → Rp H' ban d v
  | .none, _, h => h
  | .bool _, _, h => h
  | .int _, _, h => h
  | .str _, _, h => h
  | .list ds, _, h => by
    obtain ⟨a, xs, e, h1, h2, h3⟩ := h
    exact ⟨a, xs, e, mL a xs h2 h1, h2, RpAll.mv mL mT mD ds xs h3⟩
  | .tuple ds, _, h => by
    obtain ⟨a, xs, e, h1, h3⟩ := h
    exact ⟨a, xs, e, mT a xs h1, RpAll.mv mL mT mD ds xs h3⟩
  | .dict kvs, _, h => by
    obtain ⟨e0, a, e, h1⟩ := h
    exact ⟨e0, a, e, mD a h1⟩
theorem RpAll.mv {H H' : Hp} {ban : List Addr} (mL : ∀ a xs, a ∉ ban → H a = some (.lst xs) → H' a = some (.lst xs)) (mT : ∀ a xs, TF H a xs → TF H' a xs) (mD : ∀ a, H a = some (.dK []) → H' a = some (.dK [])) : ∀ (ds : List PyData) (xs : List V), RpAll H ban ds xs → RpAll H' ban ds xs
  | [], _, h => h
  | d :: ds, _, h => by
    obtain ⟨v, r, e, h1, h2⟩ := h
    exact ⟨v, r, e, Rp.mv mL mT mD d v h1, RpAll.mv mL mT mD ds r h2⟩
end
theorem rd_same {H H' : Hp} {a : Addr} {u : HO} (s : Same H H') (h : Rd H a u) : Rd H' a u := by
  rcases h with h | ⟨o, h⟩
  · exact .inl (s _ _ h)
  · exact .inr ⟨o, s _ _ h⟩
theorem Rp.same {H H' : Hp} {ban : List Addr} {d : PyData} {v : V} (h : Rp H ban d v) (s : Same H H') : Rp H' ban d v := Rp.mv (fun a xs _ e => s _ _ e) (fun a xs e => tf_same s e) (fun a e => s _ _ e) d v h
theorem RpAll.same {H H' : Hp} {ban : List Addr} {ds : List PyData} {xs : List V} (h : RpAll H ban ds xs) (s : Same H H') : RpAll H' ban ds xs := RpAll.mv (fun a xs _ e => s _ _ e) (fun a xs e => tf_same s e) (fun a e => s _ _ e) ds xs h
theorem Rp.keep {H H' : Hp} {ban : List Addr} {d : PyData} {v : V} {k p q : Addr} {n : Nat} (h : Rp H ban d v) (D : Deck H k p q n) (s : Keep k p H H') (b1 : k ∈ ban) (b2 : p ∈ ban) : Rp H' ban d v := by
  obtain ⟨x, y, c, e1⟩ := D.hd
  obtain ⟨zs, e2⟩ := D.hp
  refine Rp.mv (fun a xs hn e => s _ _ e (fun z => hn (z ▸ b1)) (fun z => hn (z ▸ b2))) (fun a xs e => e.keep D s) (fun a e => s _ _ e (ne_of e e1 (by intro z; cases z)) (ne_of e e2 (by intro z; cases z))) d v h
theorem RpAll.len {H : Hp} {ban : List Addr} : ∀ {ds : List PyData} {xs : List V}, RpAll H ban ds xs → xs.length = ds.length
  | [], _, h => by rw [show _ = [] from h]; rfl
  | d :: ds, _, h => by
    obtain ⟨v, r, rfl, _, h2⟩ := h
    rw [List.length_cons, List.length_cons, RpAll.len h2]
theorem RpAll.get {H : Hp} {ban : List Addr} : ∀ {ds : List PyData} {xs : List V}, RpAll H ban ds xs → ∀ {i : Nat} {x : V}, xs[i]? = some x → ∃ d, ds[i]? = some d ∧ Rp H ban d x
  | [], _, h, i, x, e => by rw [show _ = [] from h] at e; simp at e
  | d :: ds, _, h, i, x, e => by
    obtain ⟨v, r, rfl, h1, h2⟩ := h
    cases i with
    | zero =>
      cases (Option.some.inj e)
      exact ⟨d, rfl, h1⟩
    | succ i => exact RpAll.get h2 e
theorem RpAll.app {H : Hp} {ban : List Addr} : ∀ {ds es : List PyData} {xs ys : List V}, RpAll H ban ds xs → RpAll H ban es ys → RpAll H ban (ds ++ es) (xs ++ ys)
  | [], _, _, _, h, g => by rw [show _ = [] from h]; exact g
  | d :: ds, _, _, _, h, g => by
    obtain ⟨v, r, rfl, h1, h2⟩ := h
    exact ⟨v, _, rfl, h1, RpAll.app h2 g⟩
theorem RpAll.take {H : Hp} {ban : List Addr} : ∀ {ds : List PyData} {xs : List V} (k : Nat), RpAll H ban ds xs → RpAll H ban (ds.take k) (xs.take k)
  | _, _, 0, _ => rfl
  | [], _, k + 1, h => by rw [show _ = [] from h]; rfl
  | d :: ds, _, k + 1, h => by
    obtain ⟨v, r, rfl, h1, h2⟩ := h
    exact ⟨v, _, rfl, h1, RpAll.take k h2⟩
theorem RpAll.drop {H : Hp} {ban : List Addr} : ∀ {ds : List PyData} {xs : List V} (k : Nat), RpAll H ban ds xs → RpAll H ban (ds.drop k) (xs.drop k)
  | _, _, 0, h => h
  | [], _, k + 1, h => by rw [show _ = [] from h]; rfl
  | d :: ds, _, k + 1, h => by
    obtain ⟨v, r, rfl, h1, h2⟩ := h
    exact RpAll.drop k h2
theorem RpAll.rev {H : Hp} {ban : List Addr} : ∀ {ds : List PyData} {xs : List V}, RpAll H ban ds xs → RpAll H ban ds.reverse xs.reverse
  | [], _, h => by rw [show _ = [] from h]; rfl
  | d :: ds, _, h => by
    obtain ⟨v, r, rfl, h1, h2⟩ := h
    rw [List.reverse_cons, List.reverse_cons]
    exact RpAll.app (RpAll.rev h2) ⟨v, [], rfl, h1, rfl⟩
theorem RpAll.ints {H : Hp} {ban : List Addr} : ∀ ns : List Int, RpAll H ban (ns.map PyData.int) (ns.map V.int)
  | [] => rfl
  | n :: r => ⟨_, _, rfl, rfl, RpAll.ints r⟩
/-! ### what is small enough to be shown -/
def leafOk (L : Nat) : PyData → Prop
  | .none => True
  | .bool _ => True
  | .int i => i.natAbs ≤ 10 ^ 59 + L
  | .str x => x.length ≤ 69 ∧ ∀ c ∈ x.cps.toList, c < 16 ^ 8
  | _ => False
def Wf (L : Nat) : Nat → PyData → Prop
  | 0, d => leafOk L d
  | D + 1, d => leafOk L d ∨ d = .dict [] ∨ ∃ ds, (d = .list ds ∨ d = .tuple ds) ∧ ds.length ≤ L ∧ ∀ e ∈ ds, Wf L D e
theorem leafOk.mono {L L' : Nat} (h : L ≤ L') : ∀ {d : PyData}, leafOk L d → leafOk L' d
  | .none, _ => trivial
  | .bool _, _ => trivial
  | .int i, g => Nat.le_trans g (Nat.add_le_add_left h _)
  | .str _, g => g
theorem Wf.mono {L L' : Nat} (h : L ≤ L') : ∀ {D D' : Nat} {d : PyData}, D ≤ D' → Wf L D d → Wf L' D' d
  | 0, 0, _, _, g => leafOk.mono h g
  | 0, _ + 1, _, _, g => .inl (leafOk.mono h g)
  | _ + 1, 0, _, k, _ => absurd k (by omega)
  | D + 1, D' + 1, _, k, g => by
    rcases g with g | g | ⟨ds, e, l, c⟩
    · exact .inl (leafOk.mono h g)
    · exact .inr (.inl g)
    · exact .inr (.inr ⟨ds, e, Nat.le_trans l h, fun x hx => Wf.mono h (by omega) (c x hx)⟩)
def bnd : Nat → Nat
  | 0 => 700
  | D + 1 => 3 + 11 * (bnd D + 2)
theorem bnd_ge : ∀ D, 700 ≤ bnd D
  | 0 => Nat.le_refl _
  | D + 1 => by
    have := bnd_ge D
    show 700 ≤ 3 + 11 * (bnd D + 2)
    omega
theorem small_int {L : Nat} (h : L ≤ 41) {i : Int} (g : i.natAbs ≤ 10 ^ 59 + L) : i.natAbs < 10 ^ 60 := by
  have e : (10 : Nat) ^ 60 = 10 * 10 ^ 59 := by decide
  have e2 : (41 : Nat) < 10 ^ 59 := by decide
  omega
theorem small_log {i : Int} (g : i.natAbs < 10 ^ 60) : i.natAbs.log2 < 1920 := by
  by_cases h : i.natAbs = 0
  · rw [h]; decide
  · refine (Nat.log2_lt h).mpr (Nat.lt_trans g (by decide +kernel))
theorem leaf_shown {L : Nat} (h : L ≤ 41) : ∀ {d : PyData}, leafOk L d → d.shown.length ≤ 700 ∧ d.showable = true ∧ d.depth = 0
  | .none, _ => ⟨by decide +kernel, rfl, rfl⟩
  | .bool b, _ => ⟨by cases b <;> decide +kernel, rfl, rfl⟩
  | .int i, g => by
    have g2 := small_int h g
    refine ⟨?_, decide_eq_true (small_log g2), rfl⟩
    show (Str.ofString (toString i)).length ≤ 700
    have := int_text_length_le10 (k := 60) (by decide) g2
    rw [PySem.ofString_length]
    omega
  | .str x, g => by
    refine ⟨?_, rfl, rfl⟩
    show (reprText x).length ≤ 700
    have := StrLaws.reprText_len x g.2
    have := g.1
    omega
theorem piled_le {B : Nat} : ∀ ts : List Str, (∀ t ∈ ts, t.length ≤ B) → piled ts ≤ ts.length * (B + 2)
  | [], _ => Nat.zero_le _
  | t :: r, h => by
    have := piled_le r fun x hx => h x (List.mem_cons_of_mem _ hx)
    have := h t (List.mem_cons_self ..)
    rw [piled_cons, List.length_cons, Nat.succ_mul]
    omega
theorem text_le : ∀ (ts : List Str) (k : Nat) (acc : Str), (textFrom k acc ts).length ≤ acc.length + piled ts
  | [], _, _ => Nat.le_refl _
  | t :: r, k, acc => by
    have := text_le r (k + 1) (acc ++ (if k > 0 then ", " else "" : String) ++ t)
    rw [Str.length_append, Str.length_append] at this
    have e : ((if k > 0 then ", " else "" : String) : Str).length ≤ 2 := by
      split <;> decide +kernel
    rw [piled_cons]
    show (textFrom (k + 1) (acc ++ (if k > 0 then ", " else "" : String) ++ t) r).length ≤ _
    omega
theorem list_le (ts : List Str) : (listText ts).length ≤ 2 + piled ts := by
  have := text_le ts 0 "["
  unfold listText
  rw [Str.length_append]
  have e1 : ("[" : Str).length = 1 := by decide +kernel
  have e2 : ("]" : Str).length = 1 := by decide +kernel
  omega
theorem tup_le (ts : List Str) : (tupleText ts).length ≤ 3 + piled ts := by
  unfold tupleText
  rw [Str.length_append, Str.length_append]
  have e1 : ("(" : Str).length = 1 := by decide +kernel
  have e2 : ((if (ts.length == 1) = true then ",)" else ")" : String) : Str).length ≤ 2 := by
    split <;> decide +kernel
  have e3 : (Str.join ", " ts).length ≤ piled ts := by
    cases ts with
    | nil => decide +kernel
    | cons t r =>
      have := join_length_add (t :: r) (by simp)
      omega
  omega
theorem shownAll_len : ∀ ds : List PyData, (PyData.shownAll ds).length = ds.length
  | [] => rfl
  | d :: r => by
    show (PyData.shownAll r).length + 1 = r.length + 1
    rw [shownAll_len r]
theorem shownAll_mem : ∀ (ds : List PyData) (t : Str), t ∈ PyData.shownAll ds → ∃ d ∈ ds, t = d.shown
  | [], _, h => by cases h
  | d :: r, t, h => by
    rcases List.mem_cons.mp h with e | h
    · exact ⟨d, List.mem_cons_self .., e⟩
    · obtain ⟨x, hx, e⟩ := shownAll_mem r t h
      exact ⟨x, List.mem_cons_of_mem _ hx, e⟩
theorem showAll : ∀ ds : List PyData, (∀ d ∈ ds, d.showable = true) → PyData.showableAll ds = true
  | [], _ => rfl
  | d :: r, h => by
    show (d.showable && PyData.showableAll r) = true
    rw [h d (List.mem_cons_self ..), showAll r fun x hx => h x (List.mem_cons_of_mem _ hx)]
    rfl
theorem depAll {D : Nat} : ∀ ds : List PyData, (∀ d ∈ ds, d.depth ≤ D) → PyData.depthAll ds ≤ D
  | [], _ => Nat.zero_le _
  | d :: r, h => by
    show max d.depth (PyData.depthAll r) ≤ D
    exact Nat.max_le.mpr ⟨h d (List.mem_cons_self ..), depAll r fun x hx => h x (List.mem_cons_of_mem _ hx)⟩
theorem Wf.shown {L : Nat} (h : L ≤ 11) : ∀ {D : Nat} {d : PyData}, Wf L D d → d.shown.length ≤ bnd D ∧ d.showable = true ∧ d.depth ≤ D
  | 0, _, g => by
    obtain ⟨a, b, c⟩ := leaf_shown (by omega) g
    exact ⟨a, b, by omega⟩
  | D + 1, d, g => by
    have hb : 700 ≤ bnd (D + 1) := bnd_ge (D + 1)
    rcases g with g | rfl | ⟨ds, e, l, c⟩
    · obtain ⟨a, b, c⟩ := leaf_shown (by omega) g
      exact ⟨Nat.le_trans a hb, b, by omega⟩
    · exact ⟨Nat.le_trans (by decide +kernel) hb, rfl, by show 0 + 1 ≤ D + 1; omega⟩
    · have ih := fun x hx => Wf.shown h (c x hx)
      have p1 : piled (PyData.shownAll ds) ≤ 11 * (bnd D + 2) := by
        refine Nat.le_trans (piled_le (B := bnd D) _ fun t ht => ?_) ?_
        · obtain ⟨x, hx, rfl⟩ := shownAll_mem ds t ht
          exact (ih x hx).1
        · rw [shownAll_len]
          exact Nat.mul_le_mul_right _ (by omega)
      have p2 := showAll ds fun x hx => (ih x hx).2.1
      have p3 := depAll ds fun x hx => (ih x hx).2.2
      rcases e with rfl | rfl
      · refine ⟨?_, p2, ?_⟩
        · show (listText (PyData.shownAll ds)).length ≤ 3 + 11 * (bnd D + 2)
          have := list_le (PyData.shownAll ds)
          omega
        · show PyData.depthAll ds + 1 ≤ D + 1
          omega
      · refine ⟨?_, p2, ?_⟩
        · show (tupleText (PyData.shownAll ds)).length ≤ 3 + 11 * (bnd D + 2)
          have := tup_le (PyData.shownAll ds)
          omega
        · show PyData.depthAll ds + 1 ≤ D + 1
          omega
theorem bnd_small {D : Nat} (h : D ≤ 4) : bnd D ≤ sizeLine := by
  have e : bnd 4 ≤ sizeLine := by decide +kernel
  have m : ∀ a b, a ≤ b → bnd a ≤ bnd b := by
    intro a b hab
    induction hab with
    | refl => exact Nat.le_refl _
    | step _ ih =>
      refine Nat.le_trans ih ?_
      show bnd _ ≤ 3 + 11 * (bnd _ + 2)
      omega
  exact Nat.le_trans (m D 4 h) e
/-! ### how many parts, and how long shown -/
mutual
def sz : PyData → Nat
  | .none => 1
  | .bool _ => 1
  | .int _ => 1
  | .str _ => 1
  | .list ds => 1 + szAll ds
  | .tuple ds => 1 + szAll ds
  | .dict _ => 1
def szAll : List PyData → Nat
  | [] => 0
  | d :: r => sz d + szAll r
end
theorem szAll_app : ∀ ds es : List PyData, szAll (ds ++ es) = szAll ds + szAll es
  | [], es => by show szAll es = 0 + szAll es; omega
  | d :: r, es => by
    show sz d + szAll (r ++ es) = sz d + szAll r + szAll es
    rw [szAll_app r es]
    omega
theorem szAll_take (ds : List PyData) (k : Nat) : szAll (ds.take k) + szAll (ds.drop k) = szAll ds := by
  rw [← szAll_app, List.take_append_drop]
theorem szAll_cut (ds : List PyData) (a b : Nat) : szAll ((ds.drop a).take b) ≤ szAll ds := by
  have h1 := szAll_take ds a
  have h2 := szAll_take (ds.drop a) b
  omega
theorem szAll_rev : ∀ ds : List PyData, szAll ds.reverse = szAll ds
  | [] => rfl
  | d :: r => by
    rw [List.reverse_cons, szAll_app, szAll_rev r]
    show szAll r + (sz d + 0) = sz d + szAll r
    omega
theorem szAll_mem : ∀ {ds : List PyData} {d : PyData}, d ∈ ds → sz d ≤ szAll ds
  | e :: r, d, h => by
    show sz d ≤ sz e + szAll r
    rcases List.mem_cons.mp h with rfl | h
    · omega
    · have := szAll_mem h
      omega
theorem szAll_ints : ∀ ns : List Int, szAll (ns.map PyData.int) = ns.length
  | [] => rfl
  | n :: r => by
    show 1 + szAll (r.map PyData.int) = r.length + 1
    rw [szAll_ints r]
    omega
theorem szAll_le {B : Nat} : ∀ ds : List PyData, (∀ d ∈ ds, sz d ≤ B) → szAll ds ≤ ds.length * B
  | [], _ => Nat.zero_le _
  | d :: r, h => by
    have h1 := h d (List.mem_cons_self ..)
    have h2 := szAll_le r fun x hx => h x (List.mem_cons_of_mem _ hx)
    show sz d + szAll r ≤ (r.length + 1) * B
    rw [Nat.succ_mul]
    omega
def zb (L : Nat) : Nat → Nat
  | 0 => 1
  | D + 1 => 1 + L * zb L D
theorem leaf_sz {L : Nat} : ∀ {d : PyData}, leafOk L d → sz d = 1
  | .none, _ => rfl
  | .bool _, _ => rfl
  | .int _, _ => rfl
  | .str _, _ => rfl
theorem Wf.sz {L : Nat} : ∀ {D : Nat} {d : PyData}, Wf L D d → sz d ≤ zb L D
  | 0, _, g => Nat.le_of_eq (leaf_sz g)
  | D + 1, d, g => by
    have h1 : 1 ≤ zb L (D + 1) := by show 1 ≤ 1 + L * zb L D; omega
    rcases g with g | rfl | ⟨ds, e, l, c⟩
    · rw [leaf_sz g]; exact h1
    · exact h1
    · have h2 := szAll_le ds fun x hx => Wf.sz (c x hx)
      have h3 : ds.length * zb L D ≤ L * zb L D := Nat.mul_le_mul_right _ l
      rcases e with rfl | rfl
      · show 1 + szAll ds ≤ 1 + L * zb L D
        omega
      · show 1 + szAll ds ≤ 1 + L * zb L D
        omega
theorem piled_sz : ∀ ds : List PyData, (∀ d ∈ ds, d.shown.length + 5 ≤ 710 * TR.sz d) → piled (PyData.shownAll ds) ≤ 710 * szAll ds
  | [], _ => Nat.zero_le _
  | d :: r, h => by
    have h1 := h d (List.mem_cons_self ..)
    have h2 := piled_sz r fun x hx => h x (List.mem_cons_of_mem _ hx)
    show piled (d.shown :: PyData.shownAll r) ≤ 710 * (TR.sz d + szAll r)
    rw [piled_cons]
    omega
theorem Wf.shownS {L : Nat} (h : L ≤ 41) : ∀ {D : Nat} {d : PyData}, Wf L D d → d.shown.length + 5 ≤ 710 * TR.sz d ∧ d.showable = true ∧ d.depth ≤ D
  | 0, _, g => by
    obtain ⟨a, b, c⟩ := leaf_shown h g
    rw [leaf_sz g]
    exact ⟨by omega, b, by omega⟩
  | D + 1, d, g => by
    rcases g with g | rfl | ⟨ds, e, l, c⟩
    · obtain ⟨a, b, c⟩ := leaf_shown h g
      rw [leaf_sz g]
      exact ⟨by omega, b, by omega⟩
    · exact ⟨(by decide +kernel : _ + 5 ≤ 710 * 1), rfl, by show 0 + 1 ≤ D + 1; omega⟩
    · have ih := fun x hx => Wf.shownS h (c x hx)
      have p1 := piled_sz ds fun x hx => (ih x hx).1
      have p2 := showAll ds fun x hx => (ih x hx).2.1
      have p3 := depAll ds fun x hx => (ih x hx).2.2
      rcases e with rfl | rfl
      · refine ⟨?_, p2, ?_⟩
        · show (listText (PyData.shownAll ds)).length + 5 ≤ 710 * (1 + szAll ds)
          have := list_le (PyData.shownAll ds)
          omega
        · show PyData.depthAll ds + 1 ≤ D + 1
          omega
      · refine ⟨?_, p2, ?_⟩
        · show (tupleText (PyData.shownAll ds)).length + 5 ≤ 710 * (1 + szAll ds)
          have := tup_le (PyData.shownAll ds)
          omega
        · show PyData.depthAll ds + 1 ≤ D + 1
          omega
theorem shown_fits {d : PyData} {S : Nat} (h : d.shown.length + 5 ≤ 710 * TR.sz d) (g : TR.sz d ≤ S) (k : S ≤ 20000) : d.shown.length ≤ sizeLine := by
  rw [sizeLine_eq]
  omega
end TR
namespace TR
open PySem PySem.Spec PyProof.Rows L2
section
variable {X : Cx} {pins : List (Addr × Obj)} {σ : L2.St} {H : Hp} {s : Shared}
mutual
theorem Rp.reads {ban : List Addr} (hb : sysModules ∈ ban) (I : Inv X pins σ H s) : ∀ (d : PyData) (v : V) (u : Value), Rp H ban d v → RelV v u → ∃ as, Reads s.heap u d as ∧ sysModules ∉ as
  | .none, _, _, h, r => by cases (show _ = V.non from h); cases r; exact ⟨_, .none, by simp⟩
  | .bool b, _, _, h, r => by cases (show _ = V.bl b from h); cases r; exact ⟨_, .bool b, by simp⟩
  | .int i, _, _, h, r => by cases (show _ = V.int i from h); obtain ⟨t, rfl⟩ := r; exact ⟨_, .int i t, by simp⟩
  | .str x, _, _, h, r => by cases (show _ = V.str x from h); obtain ⟨t, rfl⟩ := r; exact ⟨_, .str x t, by simp⟩
  | .list ds, _, _, h, r => by
    obtain ⟨a, xs, rfl, h1, h2, h3⟩ := h
    cases r
    obtain ⟨z, its, n, rv, e⟩ := (show ObjOk X.prog X.w H s.heap a (.lst xs) from I.hok a _ h1)
    obtain ⟨as, g, m⟩ := RpAll.reads hb I ds xs its h3 rv
    exact ⟨a :: as, .list e rfl rfl (by simpa using g), by simp only [List.mem_cons, not_or]; exact ⟨fun e => h2 (e ▸ hb), m⟩⟩
  | .tuple ds, _, _, h, r => by
    obtain ⟨a, xs, rfl, h1, h3⟩ := h
    cases r
    obtain ⟨z, its, rv, o, e, c, n, hd⟩ := h1.rd.ok I.hok
    obtain ⟨as, g, m⟩ := RpAll.reads hb I ds xs its h3 rv
    exact ⟨as, .tuple e c hd (by simpa using g), m⟩
  | .dict kvs, _, _, h, r => by
    obtain ⟨rfl, a, rfl, h1⟩ := h
    cases r
    obtain ⟨z, hs, vs, kv, o, es, ep, e, ex, hd, _, ps, _⟩ := dk_of I.hok h1
    cases kv
    have hes : es = #[] := by
      cases es with
      | mk l =>
        cases (show Pairs _ l [] from ps)
        rfl
    subst hes
    refine ⟨[a], .dict (as := []) (bs := []) e ex.1 hd .nil .nil, fun m => ?_⟩
    have e2 : sysModules = a := List.mem_singleton.mp m
    rw [e2] at hs
    exact absurd hs (by simp)
theorem RpAll.reads {ban : List Addr} (hb : sysModules ∈ ban) (I : Inv X pins σ H s) : ∀ (ds : List PyData) (xs : List V) (us : List Value), RpAll H ban ds xs → Vals xs us → ∃ as, ReadsAll s.heap us ds as ∧ sysModules ∉ as
  | [], _, _, h, r => by cases (show _ = [] from h); cases r; exact ⟨_, .nil, by simp⟩
  | d :: ds, _, _, h, r => by
    obtain ⟨v, t, rfl, h1, h2⟩ := h
    cases r with
    | cons r1 r2 =>
      obtain ⟨as, q1, m1⟩ := Rp.reads hb I d _ _ h1 r1
      obtain ⟨bs, q2, m2⟩ := RpAll.reads hb I ds _ _ h2 r2
      exact ⟨as ++ bs, .cons q1 q2, by simp only [List.mem_append, not_or]; exact ⟨m1, m2⟩⟩
end
end
section
variable {X : Cx}
/-- repr(x), x of any kind -/
theorem call_reprD (hg : X.A.guards = some []) (hu : X.A.units + 64 < cLine) : CallR X (.builtin "repr") (fun xs H Q => ∃ x d ban, xs = [x] ∧ sysModules ∈ ban ∧ Rp H ban d x ∧ d.showable = true ∧ d.depth ≤ 50 ∧ d.shown.length ≤ sizeLine ∧ Q (.str d.shown) H) := by
  intro pins s σ H xs us Q I r ⟨x, d, ban, ex, hb, hp, hs, hd, hz, q⟩
  subst ex
  obtain ⟨u, rfl, rx⟩ := vals1 r
  obtain ⟨as, rd, m⟩ := Rp.reads hb I d x u hp rx
  have fin : ∀ (h' : Heap) (t : Tok) (tk : Nat), (∀ b o, s.heap.get? b = some o → h'.get? b = some o) → EP X pins σ Q (.str d.shown t) { s with heap := h', toks := tk } := fun h' t tk kp => ⟨.str d.shown, H, I.kept (t' := tk) kp, ⟨t, rfl⟩, q⟩
  have here : ∀ (t : Tok) (tk : Nat), EP X pins σ Q (.str d.shown t) { s with toks := tk } := fun t tk => fin s.heap t tk fun _ _ e => e
  cases rd with
  | none => exact PySem.P.repr_of_none (here _ _)
  | bool b => exact PySem.P.repr_of_bool (here _ _)
  | int i t => exact PySem.P.repr_of_int (of_decide_eq_true hs) (here _ _)
  | str z t => exact PySem.P.repr_of_str (here _ _) hz
  | list h1 h2 h3 h4 => exact repr_of_reads' (.list h1 h2 h3 h4) hs (fun _ => m) hg (by omega) (fun _ _ e => e) (fun h' u tk kp => fin h' u tk kp) hz
  | tuple h1 h2 h3 h4 => exact repr_of_reads' (.tuple h1 h2 h3 h4) hs (fun _ => m) hg (by omega) (fun _ _ e => e) (fun h' u tk kp => fin h' u tk kp) hz
  | dict h1 h2 h3 h4 h5 => exact repr_of_reads' (.dict h1 h2 h3 h4 h5) hs (fun _ => m) hg (by omega) (fun _ _ e => e) (fun h' u tk kp => fin h' u tk kp) hz
/-- xs == [] -/
theorem op_eqL0 (hu : X.A.units < cLine) : OpR X (compareOp .Eq) (fun x y H Q => ∃ a b xs, x = .ref a ∧ y = .ref b ∧ SqL X.K H a xs ∧ SqL X.K H b [] ∧ Q (.bl xs.isEmpty) H) := by
  intro pins s σ H x y v u Q I rx ry ⟨a, b, xs, ex, ey, ha, hb, q⟩
  subst ex ey; cases rx; cases ry
  obtain ⟨its, r1, p1, _⟩ := I.list ha
  obtain ⟨its2, r2, p2, _⟩ := I.list hb
  cases r2
  cases r1 with
  | nil => exact SeqAt.RcAt.lists (e := fun _ => true) p1.isList p2.isList rfl hu (fun j j1 _ => absurd j1 (by simp)) _ _ _ _ ⟨.bl true, H, I, rfl, q⟩
  | cons _ _ => exact SeqAt.RcAt.lists_lengths p1.isList p2.isList (by simp) hu _ _ _ _ ⟨.bl false, H, I, rfl, q⟩
/-- xs != [] -/
theorem op_neL0 (hu : X.A.units < cLine) : OpR X (compareOp .NotEq) (fun x y H Q => ∃ a b xs, x = .ref a ∧ y = .ref b ∧ SqL X.K H a xs ∧ SqL X.K H b [] ∧ Q (.bl (!xs.isEmpty)) H) := by
  intro pins s σ H x y v u Q I rx ry ⟨a, b, xs, ex, ey, ha, hb, q⟩
  subst ex ey; cases rx; cases ry
  obtain ⟨its, r1, p1, _⟩ := I.list ha
  obtain ⟨its2, r2, p2, _⟩ := I.list hb
  cases r2
  cases r1 with
  | nil => exact SeqAt.RcNeAt.lists (e := fun _ => true) p1.isList p2.isList rfl hu (fun j j1 _ => absurd j1 (by simp)) _ _ _ _ ⟨.bl false, H, I, rfl, q⟩
  | cons _ _ => exact SeqAt.RcNeAt.lists_lengths p1.isList p2.isList (by simp) hu _ _ _ _ ⟨.bl true, H, I, rfl, q⟩
/-- t != () -/
theorem op_neT0 (hu : X.A.units < cLine) : OpR X (compareOp .NotEq) (fun x y H Q => ∃ a b xs, x = .ref a ∧ y = .ref b ∧ SqT X.K H a xs ∧ SqT X.K H b [] ∧ Q (.bl (!xs.isEmpty)) H) := by
  intro pins s σ H x y v u Q I rx ry ⟨a, b, xs, ex, ey, ha, hb, q⟩
  subst ex ey; cases rx; cases ry
  obtain ⟨its, r1, p1, _⟩ := I.tuple ha
  obtain ⟨its2, r2, p2, _⟩ := I.tuple hb
  cases r2
  have h := SeqAt.RcNeAt.tuples (A := X.A) (s := s) (e := fun _ => true) p1 p2 hu (fun j _ j2 => absurd j2 (by simp))
  cases r1 with
  | nil => exact h _ _ _ _ ⟨.bl false, H, I, rfl, q⟩
  | cons _ _ => exact h _ _ _ _ ⟨.bl true, H, I, rfl, q⟩
/-- b + i, b - i, b a bool -/
theorem op_add_bi : OpR X (binaryOp .Add) (fun x y H Q => ∃ k i, x = .bl k ∧ y = .int i ∧ Q (.int ((if k = true then (1 : Int) else 0) + i)) H) := by
  intro pins s σ H x y v u Q I rx ry ⟨k, i, ex, ey, q⟩
  subst ex ey; cases rx; obtain ⟨t, rfl⟩ := ry
  exact PySem.IntBool.add_bool_int ⟨.int _, H, I.tok _, ⟨_, rfl⟩, q⟩
theorem op_sub_bi : OpR X (binaryOp .Sub) (fun x y H Q => ∃ k i, x = .bl k ∧ y = .int i ∧ Q (.int ((if k = true then (1 : Int) else 0) - i)) H) := by
  intro pins s σ H x y v u Q I rx ry ⟨k, i, ex, ey, q⟩
  subst ex ey; cases rx; obtain ⟨t, rfl⟩ := ry
  exact PySem.IntBool.sub_bool_int ⟨.int _, H, I.tok _, ⟨_, rfl⟩, q⟩
/-- two rules for one operator: by what stands there -/
theorem OpR.either {f : Value → Value → Sem Value} {r1 r2 : R2} (h1 : OpR X f r1) (h2 : OpR X f r2) : OpR X f (fun x y H Q => r1 x y H Q ∨ r2 x y H Q) := by
  intro pins s σ H x y v u Q I rx ry h
  rcases h with h | h
  · exact h1 pins s σ H x y v u Q I rx ry h
  · exact h2 pins s σ H x y v u Q I rx ry h
/-- str(i), str(b) -/
theorem call_str_ib : CallR X (.type "str") (fun xs H Q => (∃ i, xs = [.int i] ∧ i.natAbs.log2 < 1920 ∧ Q (.str (toString i)) H) ∨ ∃ k : Bool, xs = [.bl k] ∧ Q (.str (if k then "True" else "False")) H) := by
  intro pins s σ H xs us Q I r h
  rcases h with h | ⟨k, ex, q⟩
  · exact call_str_int pins s σ H xs us Q I r h
  · subst ex
    obtain ⟨u, rfl, rx⟩ := vals1 r
    cases rx
    exact PySem.P.str_of_bool ⟨.str _, H, I.tok _, ⟨_, rfl⟩, q⟩
/-- [..]: a new list never stands where the modules' table stands -/
def tLstM (t : TA) : TE := fun σ H Q => t σ H fun xs H1 => xs.length ≤ sizeLine ∧ ∀ p, H1 p = none → p ≠ sysModules → Q (.ref p) (upd H1 p (.lst xs))
theorem pe_lstM {es : List Expr} {t : TA} {pos : Pos} (h : PA X es t) : PE X (.List es pos) (tLstM t) := by
  refine ⟨fun pins s σ H Q I hq => wpAny_List_spliced (thn (h.run pos pins s σ H _ I hq) fun us s1 ⟨xs, H1, I1, r, z, q⟩ => ⟨by rw [← r.length]; exact z, ?_⟩)⟩
  exact ⟨.ref s1.heap.objs.size, _, I1.laid (t' := s1.toks) (o := .lst xs) (fun b u e => Heap.get?_push_of_some _ e) (Nat.le_refl _) ⟨z, us, 0, r, Heap.get?_push_size _ rfl⟩, rfl, q _ (I1.hok.fresh (Nat.le_refl _)) (Nat.ne_of_gt I1.big)⟩
/-- list(t), t a tuple -/
theorem call_listM : CallR X (.type "list") (fun xs H Q => ∃ p ys, xs = [.ref p] ∧ SqT X.K H p ys ∧ ∀ l, H l = none → l ≠ sysModules → Q (.ref l) (upd H l (.lst ys))) := by
  intro pins s σ H xs us Q I r ⟨p, ys, ex, hq, q⟩
  subst ex
  obtain ⟨u, rfl, rx⟩ := vals1 r
  cases rx
  obtain ⟨its, r', pl, hz⟩ := I.tuple hq
  have hlen := r'.length
  obtain ⟨o, ho, hc, n, hd⟩ := pl
  refine call_list_seq p (.inr rfl) ho hc hd (fun h' c' kp e => ?_) (by simp only [List.size_toArray] <;> omega)
  exact ⟨.ref s.heap.objs.size, _, I.laid (t' := s.toks) (o := .lst ys) kp (Nat.le_refl _) ⟨hz, its, c', r', e⟩, rfl, q _ (I.hok.fresh (Nat.le_refl _)) (Nat.ne_of_gt I.big)⟩
end
/-! ### the type of a value -/
def tyD : PyData → String
  | .none => "NoneType"
  | .bool _ => "bool"
  | .int _ => "int"
  | .str _ => "str"
  | .list _ => "list"
  | .tuple _ => "tuple"
  | .dict _ => "dict"
theorem tyRp {K : PySem.W.Frag} {H : Hp} {ban : List Addr} : ∀ {d : PyData} {v : V}, Rp H ban d v → TyX K H v (.type (tyD d))
  | .none, _, h => by rw [show _ = V.non from h]; exact .base .non
  | .bool b, _, h => by rw [show _ = V.bl b from h]; exact .base (.bl b)
  | .int i, _, h => by rw [show _ = V.int i from h]; exact .base (.int i)
  | .str x, _, h => by rw [show _ = V.str x from h]; exact .base (.str x)
  | .list ds, _, h => by
    obtain ⟨a, xs, rfl, h1, _⟩ := h
    exact .base (.lst h1)
  | .tuple ds, _, h => by
    obtain ⟨a, xs, rfl, ⟨o, _, h1⟩, _⟩ := h
    exact .fTuple h1
  | .dict kvs, _, h => by
    obtain ⟨_, a, rfl, h1⟩ := h
    exact .base (.dK h1)
theorem kit7 : ∀ t ∈ ["NoneType", "bool", "int", "str", "list", "tuple", "dict"], kitB t "tuple" = some (decide (t = "tuple")) ∧ kitB t "int" = some (decide (t = "int" ∨ t = "bool")) ∧ kitB t "bool" = some (decide (t = "bool")) := by decide +kernel
theorem tyD_mem (d : PyData) : tyD d ∈ ["NoneType", "bool", "int", "str", "list", "tuple", "dict"] := by cases d <;> simp [tyD]
theorem kitD {K : PySem.W.Frag} (d : PyData) : PySem.W.kitOne K (.type (tyD d)) (.type "tuple") = some (decide (tyD d = "tuple")) ∧ PySem.W.kitOne K (.type (tyD d)) (.type "int") = some (decide (tyD d = "int" ∨ tyD d = "bool")) ∧ PySem.W.kitOne K (.type (tyD d)) (.type "bool") = some (decide (tyD d = "bool")) := by
  obtain ⟨a, b, c⟩ := kit7 (tyD d) (tyD_mem d)
  exact ⟨kit_ty a, kit_ty b, kit_ty c⟩
end TR
namespace TR
open PySem PySem.Spec PyProof.Rows L2
/-! ### what a ranking is, of data -/
def whole (d : PyData) : Bool := decide (tyD d = "int")
theorem whole_int {d : PyData} (h : whole d = true) : ∃ i, d = .int i := by
  cases d <;> first | exact ⟨_, rfl⟩ | (exfalso; simp [whole, tyD] at h)
theorem whole_ty (d : PyData) : (if decide (tyD d = "int" ∨ tyD d = "bool") = true then !decide (tyD d = "bool") else false) = whole d := by
  cases d <;> first | rfl | simp [whole, tyD]
theorem ff_iff {p : Prop} (h : ¬ p) : (false = true) ↔ p := ⟨fun z => Bool.noConfusion z, fun z => absurd z h⟩
def IsRk (n : Nat) (d : PyData) : Prop := ∃ ns : List Int, d = .tuple (ns.map PyData.int) ∧ Rank n ns
theorem whole_all : ∀ ds : List PyData, ds.all whole = true → ∃ ns : List Int, ds = ns.map PyData.int
  | [], _ => ⟨[], rfl⟩
  | d :: r, h => by
    rw [List.all_cons, Bool.and_eq_true] at h
    obtain ⟨i, rfl⟩ := whole_int h.1
    obtain ⟨ns, rfl⟩ := whole_all r h.2
    exact ⟨i :: ns, rfl⟩
theorem ints_whole : ∀ ns : List Int, (ns.map PyData.int).all whole = true
  | [] => rfl
  | n :: r => by
    rw [List.map_cons, List.all_cons, ints_whole r]
    rfl
theorem ints_inj : ∀ {ns ms : List Int}, ns.map PyData.int = ms.map PyData.int → ns = ms
  | [], [], _ => rfl
  | [], _ :: _, h => by cases h
  | _ :: _, [], h => by cases h
  | x :: r, y :: t, h => by
    rw [List.map_cons, List.map_cons] at h
    injection h with h1 h2
    injection h1 with h1
    rw [h1, ints_inj h2]
theorem rng_le : ∀ n : Nat, (rng n).Pairwise (· ≤ ·) := fun n => by
  unfold rng
  rw [List.pairwise_map]
  exact (List.pairwise_lt_range (n := n)).imp (by intro a b h; omega)
theorem sorted_rank {n : Nat} {ns ms : List Int} (hp : ms.Perm ns) (hs : ms.Pairwise (· ≤ ·)) : ms = rng n ↔ Rank n ns := by
  constructor
  · rintro rfl
    exact List.Perm.symm hp
  · intro h
    exact List.Perm.eq_of_pairwise (le := (· ≤ ·)) (fun a b _ _ h1 h2 => Int.le_antisymm h1 h2) hs (rng_le n) (List.Perm.trans hp h)
theorem not_isRk_ty {n : Nat} {d : PyData} (h : tyD d ≠ "tuple") : ¬ IsRk n d := by
  rintro ⟨ns, rfl, _⟩
  exact h rfl
theorem not_isRk_whole {n : Nat} {ds : List PyData} (h : ds.all whole = false) : ¬ IsRk n (.tuple ds) := by
  rintro ⟨ns, e, _⟩
  injection e with e
  rw [e, ints_whole] at h
  cases h
theorem isRk_tuple {n : Nat} {ns : List Int} : IsRk n (.tuple (ns.map PyData.int)) ↔ Rank n ns := by
  constructor
  · rintro ⟨ms, e, r⟩
    injection e with e
    rw [ints_inj e]
    exact r
  · exact fun r => ⟨ns, rfl, r⟩
theorem ty_tuple {d : PyData} (h : tyD d = "tuple") : ∃ ds, d = .tuple ds := by
  cases d <;> first | exact ⟨_, rfl⟩ | (exfalso; simp [tyD] at h)
theorem RpAll.int_vals {H : Hp} {ban : List Addr} : ∀ {ns : List Int} {xs : List V}, RpAll H ban (ns.map PyData.int) xs → xs = ns.map V.int
  | [], _, h => h
  | n :: r, _, h => by
    obtain ⟨v, t, rfl, h1, h2⟩ := h
    rw [show v = V.int n from h1, RpAll.int_vals h2]
    rfl
theorem eqvAll_intsX : ∀ xs ys : List Int, PyData.eqvAll (xs.map PyData.int) (ys.map PyData.int) = decide (xs = ys)
  | [], [] => rfl
  | [], _ :: _ => rfl
  | _ :: _, [] => rfl
  | x :: r, y :: t => by
    show ((x == y) && PyData.eqvAll (r.map PyData.int) (t.map PyData.int)) = decide (x :: r = y :: t)
    rw [eqvAll_intsX r t, Bool.eq_iff_iff]
    simp
theorem eqv_lstX (xs ys : List Int) : PyData.eqv (.list (xs.map PyData.int)) (.list (ys.map PyData.int)) = decide (xs = ys) := eqvAll_intsX xs ys
end TR
namespace TR
open PySem PySem.Spec PyProof.Rows L2
section
variable {X : Cx}
/-! ### new objects, told by what holds behind them -/
def tTupN (t : TA) : TE := fun σ H Q => t σ H fun xs H1 => xs.length ≤ sizeLine ∧ ∀ p H', H1 p = none → Same H1 H' → TF H' p xs → Q (.ref p) H'
theorem pe_tupN {es : List Expr} {t : TA} {pos : Pos} {x1} (h : PA X es t) : PE X (.Tuple es x1 pos) (tTupN t) := by
  refine ⟨fun pins s σ H Q I hq => wpAny_Tuple_spliced (thn (h.run pos pins s σ H _ I hq) fun us s1 ⟨xs, H1, I1, r, z, q⟩ => ⟨by rw [← r.length]; exact z, ?_⟩)⟩
  have hf : H1 s1.heap.objs.size = none := I1.hok.fresh (Nat.le_refl _)
  exact ⟨.ref s1.heap.objs.size, _, I1.laid (t' := s1.toks) (o := .frz { cls := .type "tuple", data := .seq us.toArray } (.tup xs)) (fun b u e => Heap.get?_push_of_some _ e) (Nat.le_refl _) ⟨Heap.get?_push_size _ rfl, z, us, r, IsTup.new _ _⟩, rfl, q _ _ hf (same_upd hf) (TF.new rfl)⟩
def tLstN (t : TA) : TE := fun σ H Q => t σ H fun xs H1 => xs.length ≤ sizeLine ∧ ∀ p H', H1 p = none → p ≠ sysModules → Same H1 H' → H' p = some (.lst xs) → Q (.ref p) H'
theorem pe_lstN {es : List Expr} {t : TA} {pos : Pos} (h : PA X es t) : PE X (.List es pos) (tLstN t) := by
  refine ⟨fun pins s σ H Q I hq => wpAny_List_spliced (thn (h.run pos pins s σ H _ I hq) fun us s1 ⟨xs, H1, I1, r, z, q⟩ => ⟨by rw [← r.length]; exact z, ?_⟩)⟩
  have hf : H1 s1.heap.objs.size = none := I1.hok.fresh (Nat.le_refl _)
  exact ⟨.ref s1.heap.objs.size, _, I1.laid (t' := s1.toks) (o := .lst xs) (fun b u e => Heap.get?_push_of_some _ e) (Nat.le_refl _) ⟨z, us, 0, r, Heap.get?_push_size _ rfl⟩, rfl, q _ _ hf (Nat.ne_of_gt I1.big) (same_upd hf) upd_same⟩
def tDNewN : TE := fun _ H Q => ∀ p H', H p = none → Same H H' → H' p = some (.dK []) → Q (.ref p) H'
theorem pe_dnewN {pos : Pos} : PE X (.Dict [] [] pos) tDNewN := by
  refine ⟨fun pins s σ H Q I h => (pe_dnewK (pos := pos)).run pins s σ H Q I ?_⟩
  exact fun p hp => h p _ hp (same_upd hp) upd_same
/-- xs + ys, lists -/
theorem op_catN : OpR X (binaryOp .Add) (fun x y H Q => ∃ a b xs ys, x = .ref a ∧ y = .ref b ∧ H a = some (.lst xs) ∧ H b = some (.lst ys) ∧ xs.length + ys.length ≤ sizeLine ∧ ∀ p H', H p = none → Same H H' → H' p = some (.lst (xs ++ ys)) → Q (.ref p) H') := by
  intro pins s σ H x y v u Q I rx ry ⟨a, b, xs, ys, ex, ey, ha, hb, hz, q⟩
  exact op_cat pins s σ H x y v u Q I rx ry ⟨a, b, xs, ys, ex, ey, ha, hb, hz, fun p hp => q p _ hp (same_upd hp) upd_same⟩
/-- t + u, tuples: some tuple of both -/
theorem op_catTN : OpR X (binaryOp .Add) (fun x y H Q => ∃ a b xs ys, x = .ref a ∧ y = .ref b ∧ TF H a xs ∧ TF H b ys ∧ xs.length + ys.length ≤ sizeLine ∧ ∀ p H', Same H H' → TF H' p (xs ++ ys) → Q (.ref p) H') := by
  intro pins s σ H x y v u Q I rx ry ⟨a, b, xs, ys, ex, ey, ha, hb, hz, q⟩
  refine op_catF pins s σ H x y v u Q I rx ry ⟨a, b, xs, ys, ex, ey, .inl ha.rd, .inl hb.rd, hz, fun e => ?_, fun _ e => ?_, fun _ _ p o hp ho => q p _ (same_upd hp) (TF.new ho)⟩
  · subst e; exact q b H (Same.refl _) hb
  · subst e; exact q a H (Same.refl _) (by rw [List.append_nil]; exact ha)
theorem cut_whole {xs : List V} {lo hi : Option Int} (h : HT.sIx xs.length 0 lo = 0 ∧ HT.sIx xs.length xs.length hi = xs.length) : cutV xs lo hi = xs := by
  unfold cutV
  rw [h.1, h.2]
  exact List.take_of_length_le (by simp)
/-- t[lo:hi]: some tuple of the part -/
theorem sl_tupN : SlR X (fun x lo hi H Q => ∃ a xs, x = .ref a ∧ TF H a xs ∧ ∀ p H', Same H H' → TF H' p (cutV xs lo hi) → Q (.ref p) H') := by
  intro pins s σ H x v vl vu lo hi sl Q I rx hs pl pu ⟨a, xs, ex, hx, q⟩
  refine sl_tupF pins s σ H x v vl vu lo hi sl Q I rx hs pl pu ⟨a, xs, ex, .inl hx.rd, fun hw => ?_, fun _ p o hp ho => q p _ (same_upd hp) (TF.new ho)⟩
  exact q a H (Same.refl _) (by rw [cut_whole hw]; exact hx)
/-- t[::-1] -/
def tRevN (te : TE) : TE := fun σ H Q => te σ H fun x H1 => ∃ a xs, x = .ref a ∧ TF H1 a xs ∧ ∀ p H', Same H1 H' → TF H' p xs.reverse → Q (.ref p) H'
theorem pe_revN {e : Expr} {te : TE} {k : Nat} {p1 p2 p3 pos : Pos} (he : PE X e te) (mono : ∀ σ H (Q Q' : VK), (∀ x H', Q x H' → Q' x H') → te σ H Q → te σ H Q') : PE X (.Subscript e (.Slice none none (some (.UnaryOp .USub (.Constant (.int 1) k p1) p2)) p3) pos) (tRevN te) := by
  refine ⟨fun pins s σ H Q I h => (pe_revT he).run pins s σ H Q I (mono σ H _ _ (fun x H1 hq => ?_) h)⟩
  obtain ⟨a, xs, ex, hx, q⟩ := hq
  exact ⟨a, xs, ex, .inl hx.rd, fun p o hp ho => q p _ (same_upd hp) (TF.new ho)⟩
/-- tuple(range(..)) -/
def tTupRgN (te : L2.St → Hp → (Int → Int → Hp → Prop) → Prop) : TE := fun σ H Q => te σ H fun a b H1 => RgOk a b ∧ ∀ p H', H1 p = none → Same H1 H' → TF H' p (rgV a b) → Q (.ref p) H'
theorem pe_tupRgN {e : Expr} {te : L2.St → Hp → (Int → Int → Hp → Prop) → Prop} {p pos : Pos} (hc : X.calm = true) (hg : Gl X "tuple") (hm : X.mg "tuple" = none) (he : PRg X e te) (na : starEach [e] X.env = (false, eval e X.env) :: starEach [] X.env := by rfl) : PE X (.Call (.Name "tuple" p) [e] [] pos) (tTupRgN te) := by
  refine ⟨fun pins s σ H Q I h => ?_⟩
  refine Call_ (ld_blt I hg hm boot_tuple (PyProof.Rows.callWith_type1 (args_cons (thn (he pins s σ H _ I h) fun x s1 ⟨r, a, b, t, u, v, H1, ex, hr, I1, ok, q⟩ => args_nil ?_) na) na))
  subst ex
  obtain ⟨b1, b2, b3, b4, b5⟩ := ok
  refine call_tuple_range (n := (b - a).toNat) (I1.ok.hd hc) hr (small_one b1 b2 b3 b4) (rangeSize_nat a b) b5 fun h' tk acc hk hi => ?_
  have I2 : Inv X pins σ H1 { s1 with heap := h', toks := tk } := I1.kept hk
  have hf : H1 h'.objs.size = none := I2.hok.fresh (Nat.le_refl _)
  refine ⟨.ref h'.objs.size, upd H1 h'.objs.size (.frz { cls := .type "tuple", data := .seq acc } (.tup (rgV a b))), I2.laid (t' := tk) (fun c o e => Heap.get?_push_of_some _ e) (Nat.le_refl _) (show ObjOk X.prog X.w _ _ _ (.frz { cls := .type "tuple", data := .seq acc } (.tup (rgV a b))) from ⟨Heap.get?_push_size _ rfl, ?_, acc.toList, vals_rg hi, ?_⟩), rfl, q _ _ hf (same_upd hf) (TF.new rfl)⟩
  · rw [rgV_length, sizeLine_eq]; omega
  · rw [Array.toArray_toList]; exact IsTup.new _ _
/-- list(t) -/
theorem call_listN : CallR X (.type "list") (fun xs H Q => ∃ a ys, xs = [.ref a] ∧ Rd H a (.tup ys) ∧ ∀ p H', H p = none → p ≠ sysModules → Same H H' → H' p = some (.lst ys) → Q (.ref p) H') := by
  intro pins s σ H xs us Q I r ⟨a, ys, ex, hx, q⟩
  exact call_listM pins s σ H xs us Q I r ⟨a, ys, ex, .inl hx, fun p hp n => q p _ hp n (same_upd hp) upd_same⟩
end
end TR
namespace TR
open PySem PySem.Spec PyProof.Rows L2
section
variable {X : Cx}
/-- set(t), t a tuple of ints -/
theorem cr_setTI (hc : X.calm = true) : CallR X (.type "set") (fun xs H Q => ∃ (p : Addr) (ns : List Int), xs = [.ref p] ∧ SqT X.K H p (ns.map V.int) ∧ ns.length < 60 ∧ ∀ l c, H l = none → c ≤ ns.length → Q (.ref l) (upd H l (SetO X.w l (fun j => decide (j ∈ ns)) c))) := by
  intro pins s σ H xs us Q I r ⟨p, ns, ex, hS, hz, q⟩
  subst ex
  rw [Vals.ref1 r]
  obtain ⟨its, rv, pl, _⟩ := I.tuple hS
  have pl : s.heap.IsTuple p its.toArray := pl
  refine call_set_tupI ns (I.ok.hd hc) pl (by simpa using rv.ints) (Nat.lt_of_lt_of_le (show ns.length + 1 < 64 by omega) (by decide)) fun h' tk c R hcn hk => ?_
  exact ⟨.ref s.heap.objs.size, _, I.laid (t' := tk) hk (Nat.le_refl _) (setO_new R), rfl, q _ c (I.hok.fresh (Nat.le_refl _)) hcn⟩
end
end TR
namespace PySem
open Sem (wp)
set_option maxHeartbeats 1000000 in
theorem meets_enum_new1 {v : Value} {o : Obj} {H : Heap → Prop} (B : Begins v o H) :
    Meets (Builtin.«enumerate.__new__» ⟨[.type "enumerate", v], []⟩) (fun _ R s => H s.heap ∧
      R (.ok (.ret (.ref (s.heap.push o).objs.size))) { s with heap := (s.heap.push o).push { cls := .type "enumerate", data := .fields #[.none, .bool false, .ref s.heap.objs.size, rawInt 0, .none, .none] } }) :=
  .of_wp fun prog w A R s h => by
    obtain ⟨hp, g, d, tk, os⟩ := s; obtain ⟨h1, h⟩ := h
    have hsub := sub_enumerate
    have q1 : ∀ {A' : Around} {E : Value → Shared → Prop} {Q : Value → Shared → Prop}, Q (.ref hp.objs.size) ⟨hp.push o, g, d, tk, os⟩ → wpAny (model prog w) A' (pyIter v) Q E ⟨hp, g, d, tk, os⟩ :=
      fun q => B.iter prog w _ _ ⟨hp, g, d, tk, os⟩ _ h1 q
    wp_walk using q1
    refine wpAny_stack_any fun st => wpAny_pure ?_
    split
    · rename_i c _ _ _ _ _
      cases (c == Value.type "enumerate")
      · wp_walk using q1
        exact ⟨_, rfl, h⟩
      · wp_walk using q1
        exact ⟨_, rfl, h⟩
    · wp_walk using q1
      exact ⟨_, rfl, h⟩
section
variable {prog : Program} {w : World} {A : Around} {E : Value → Shared → Prop} {s : Shared}
theorem call_enum1 {v : Value} {o : Obj} {H : Heap → Prop} {Q : Value → Shared → Prop} (B : Begins v o H) (h1 : H s.heap)
    (h : ∀ h', IsEnum h' (s.heap.objs.size + 1) s.heap.objs.size 0 .none → h'.get? s.heap.objs.size = some o → h'.objs.size = s.heap.objs.size + 2 →
      (∀ b o, s.heap.get? b = some o → h'.get? b = some o) → Q (.ref (s.heap.objs.size + 1)) { s with heap := h' }) :
    wpAny (model prog w) A (call (.type "enumerate") [v]) Q E s := by
  refine callType_new F.called_enumerate (by decide) (F.typeCall_enumerate_1 _) (F.newCall_enumerate_1 _) (fun obj => F.args_object_init_2 obj _) F.entry_enumerate_new
    (meets_enum_new1 B) ⟨h1, ?_⟩
  have hz : (s.heap.push o).objs.size = s.heap.objs.size + 1 := Heap.size_push ..
  show _ ∧ _
  rw [hz]
  have he : IsEnum ((s.heap.push o).push { cls := .type "enumerate", data := .fields #[.none, .bool false, .ref s.heap.objs.size, rawInt 0, .none, .none] }) (s.heap.objs.size + 1) s.heap.objs.size 0 .none := by
    have := Heap.get?_push_size (s.heap.push o) (o := { cls := .type "enumerate", data := .fields #[.none, .bool false, .ref s.heap.objs.size, rawInt 0, .none, .none] }) rfl
    rw [hz] at this; exact this
  refine ⟨⟨_, he, rfl⟩, h _ he (Heap.get?_push_of_some _ (Heap.get?_push_size _ B.free)) (by rw [Heap.size_push, hz]) fun b o x => Heap.get?_push_of_some _ (Heap.get?_push_of_some _ x)⟩
end
end PySem
namespace TR
open PySem PySem.Spec PyProof.Rows L2
/-! ### enumerate(tuple) -/
/-- the tuple at a, each item in a new pair -/
def IteT (K : PySem.W.Frag) (a : Addr) : It :=
  ⟨fun i H => ∃ (xs : List V) (x : V), SqT K H a xs ∧ xs[i]? = some x, fun i H v H' => ∃ T x, v = .ref T ∧ H T = none ∧ H' = upd H T (.tup [.int (i : Nat), x]) ∧ ∀ xs, SqT K H a xs → xs[i]? = some x, fun i H => ∃ xs : List V, SqT K H a xs ∧ xs.length = i⟩
theorem tupIter_ne {h : Heap} {it a : Addr} {i : Nat} {items : Array Value} (hit : h.IsTupleIter it a i) (ht : h.IsTuple a items) : a ≠ it := by
  rintro rfl
  obtain ⟨o, ho, _, hd⟩ := hit
  obtain ⟨o', ho', _, n, hd'⟩ := ht
  rw [ho] at ho'; cases ho'
  rw [hd] at hd'; cases hd'
theorem enum_ne {h : Heap} {e it a : Addr} {c : Int} {old : Value} {items : Array Value} (he : IsEnum h e it c old) (ht : h.IsTuple a items) : e ≠ a := by
  rintro rfl
  obtain ⟨o', ho', _, n, hd'⟩ := ht
  have he' : h.get? e = some _ := he
  rw [he'] at ho'; cases ho'
  cases hd'
theorem turn_enumT {P : Program} {w : World} {K : PySem.W.Frag} {elts : List Expr} {kk : Nat} {tpos : Pos} (a e it : Addr) :
    Turn P w K (.Tuple elts kk tpos) (IteT K a) [e, it] e (fun i h => (∃ old, IsEnum h e it ((i : Nat) : Int) old) ∧ h.IsTupleIter it a i ∧ e ≠ it) where
  mem := by simp
  obj := fun i h st b hb => by
    obtain ⟨⟨old, he⟩, ⟨o, ho, hc, hd⟩, _⟩ := st
    have e' : b = e ∨ b = it := by simpa using hb
    rcases e' with z | z
    · rw [z]; exact ⟨_, he, fun v q => nomatch q⟩
    · rw [z]; exact ⟨o, ho, fun v q => by rw [hd] at q; cases q⟩
  keep := fun i h h' st k => let ⟨⟨old, he⟩, hi, hne⟩ := st; ⟨⟨old, k e (by simp) _ he⟩, hi.at fun o q => k it (by simp) o q, hne⟩
  item := by
    intro X hP hw hK hc i pins s σ H E I hf st hg
    subst hP hw hK
    obtain ⟨⟨old, he⟩, hit, hne⟩ := st
    obtain ⟨xs, x, hq, hx⟩ := hg
    obtain ⟨its, rv, p, hz⟩ := I.tuple hq
    have p : s.heap.IsTuple a its.toArray := p
    obtain ⟨u, hu, ru⟩ := rv.get hx
    have hel : e < s.heap.objs.size := Heap.lt_size he
    have hil : it < s.heap.objs.size := by obtain ⟨_, q, _⟩ := id hit; exact Heap.lt_size q
    have hil2 : i < its.toArray.size := by
      rw [List.size_toArray]; exact (List.getElem?_eq_some_iff.mp hu).1
    refine wpAny_pyNext_enum_itemD (Draws.tuple (A := X.A.in1) (I.ok.hd hc) it a (tupIter_ne hit p) its.toArray) he ⟨hit, p⟩ hil2 hne (by
      intro m
      rcases List.mem_cons.mp m with z | m
      · exact hne z
      · exact enum_ne he p (List.mem_singleton.mp m)) fun u' h' tk hPu ho hst' hT hsz hk => ?_
    obtain ⟨hit', _⟩ := hst'
    have eu : u' = u := by
      have h2 : its.toArray[i]? = some u := by simpa using hu
      rw [h2] at hPu
      exact (Option.some.inj hPu).symm
    subst eu
    refine ⟨_, rfl, wpAny_letOwnedTupleGo_enum (s := { s with heap := h', toks := tk + 1 }) ho fun h'' he' sb => ?_⟩
    have hT2 : h''.get? s.heap.objs.size = some { cls := .type "tuple", data := .seq #[.int i tk, u'] } := (sb.2 _ (Nat.ne_of_gt hel)).trans hT
    have new : ObjOk X.prog X.w (upd H s.heap.objs.size (.tup [.int (i : Nat), x])) h'' s.heap.objs.size (.tup [.int (i : Nat), x]) :=
      ⟨by show 2 ≤ sizeLine; decide, [.int i tk, u'], .cons ⟨_, rfl⟩ (.cons ru .nil), ⟨_, hT2, rfl, _, rfl⟩⟩
    have I1 : Inv X pins σ (upd H s.heap.objs.size (.tup [.int (i : Nat), x])) { s with heap := h'', toks := tk + 1 } :=
      I.turnedNew (ch := [e, it]) (fun b ob hb q => (sb.2 b (fun z => hb (by simp [z]))).trans (hk b ob (fun z => hb (by simp [z])) (fun z => hb (by simp [z])) q)) hf (Nat.le_refl _) new
    refine ⟨.ref s.heap.objs.size, _, I1, rfl, ⟨_, x, rfl, I.hok.fresh (Nat.le_refl _), rfl, fun ys hy => by rw [I.tuple_inj hy hq]; exact hx⟩, ⟨⟨u', ?_⟩, hit'.at fun o q => (sb.2 it (Ne.symm hne)).trans q, hne⟩, fun b hb => ?_⟩
    · have e1 : ((i + 1 : Nat) : Int) = (i : Int) + 1 := by omega
      rw [e1]; exact he'
    · have hb' : b < s.heap.objs.size := by
        have e' : b = e ∨ b = it := by simpa using hb
        rcases e' with z | z
        · rw [z]; exact hel
        · rw [z]; exact hil
      rw [upd_ne (Nat.ne_of_lt hb')]
      exact (hf b hb).1
  done := by
    intro X hP hw hK hc i pins s σ H E I hf st hg
    subst hP hw hK
    obtain ⟨⟨old, he⟩, hit, hne⟩ := st
    obtain ⟨xs, hq, hx⟩ := hg
    obtain ⟨its, rv, p, hz⟩ := I.tuple hq
    have p : s.heap.IsTuple a its.toArray := p
    obtain ⟨f0, f1, f2, f3, f4, f5⟩ := hf it (by simp)
    have hl := rv.length
    have hi : i = its.toArray.size := by rw [List.size_toArray]; omega
    subst hi
    exact wpAny_pyNext_enum_endD (Draws.tuple (A := X.A.in1) (I.ok.hd hc) it a (tupIter_ne hit p) its.toArray) he ⟨hit, p⟩ fun h' eb => ⟨rfl, I.turned (t' := s.toks) (fun b o hb q => eb b o hb q) f0 f1 f3 f4 f5⟩
  self := fun A i s Q E st h => let ⟨⟨_, he⟩, _⟩ := st; wpAny_pyIter_enum he h
def iEnumT (K : PySem.W.Frag) (ta : TA) : TI := fun σ H R => ta σ H fun vs H1 => ∃ a xs, vs = [.ref a] ∧ SqT K H1 a xs ∧ R (IteT K a) H1
theorem pi_enumT {X : Cx} {e : Expr} {ta : TA} {p pos tpos : Pos} {elts : List Expr} {kk : Nat} (hg : Gl X "enumerate") (hm : X.mg "enumerate" = none) (ha : PA X [e] ta) (hs : starEach [e] X.env = [(false, eval e X.env)] := by rfl) :
    PI X (.Tuple elts kk tpos) (.Call (.Name "enumerate" p) [e] [] pos) (iEnumT X.K ta) := by
  refine ⟨fun pins s σ H R I h => ?_⟩
  refine Call_ (ld_blt I hg hm boot_enumerate (PyProof.Rows.callWith_type1 (thn (ha.run pos pins s σ H _ I h) fun us s1 ⟨vs, H1, I1, r1, q1⟩ => ?_) hs rfl))
  obtain ⟨a, xs, ex, hq, q⟩ := q1
  subst ex
  cases r1 with
  | cons r rr =>
    cases rr
    cases r
    obtain ⟨its, rv, p', hz⟩ := I1.tuple hq
    refine call_enum1 (begins_tuple a its.toArray) p' fun h' he hit hsz hk => wpAny_pyIter_enum he ?_
    have I2 : Inv X pins σ H1 { s1 with heap := h' } := I1.kept (t' := s1.toks) hk
    refine ⟨s1.heap.objs.size + 1, [s1.heap.objs.size + 1, s1.heap.objs.size], _, _, H1, rfl, I2, turn_enumT a (s1.heap.objs.size + 1) s1.heap.objs.size, ⟨⟨.none, he⟩, ⟨_, hit, rfl, rfl⟩, Nat.succ_ne_self _⟩, fun b hb => ?_, q⟩
    have e' : b = s1.heap.objs.size + 1 ∨ b = s1.heap.objs.size := by simpa using hb
    have hle : s1.heap.objs.size ≤ b := by
      rcases e' with z | z
      · rw [z]; exact Nat.le_add_right _ _
      · rw [z]; exact Nat.le_refl _
    exact I1.fpOk hle (I1.hok.fresh hle)
theorem enum_walk {K : PySem.W.Frag} {a : Addr} {xs : List V} : Walk (IteT K a) xs.length (fun H => SqT K H a xs) (YPair (fun i => some (.int ((i : Nat) : Int))) (fun i => xs[i]?)) :=
  ⟨fun i H hi h => ⟨xs, xs[i], h, List.getElem?_eq_getElem hi⟩, fun H h => ⟨xs, h, rfl⟩, fun i H v H' hi h y => by
    obtain ⟨T, x, e1, e2, e3, e4⟩ := y
    exact ⟨T, _, x, e1, e2, e3, rfl, e4 xs h⟩⟩
end TR
namespace TR
open PySem PySem.Spec PyProof.Rows L2
/-! ### own exceptions as values -/
/-- an exception of the class at C, its dict d, at a -/
def ExF (C : Addr) (d : Option Addr) (a : Addr) : HO := .ext fun h => ∃ (oe : Obj) (vs : Array Value), h.get? a = some oe ∧ Zc (.ref C) d oe ∧ oe.data = .fields vs
theorem exF_ok {P : Program} {w : World} {H : Hp} {h : Heap} {a C : Addr} {d : Option Addr} {oe : Obj} {vs : Array Value} (e : h.get? a = some oe) (z : Zc (.ref C) d oe) (hd : oe.data = .fields vs) : ObjOk P w H h a (ExF C d a) :=
  ⟨⟨oe, vs, e, z, hd⟩, ⟨oe, e⟩, fun _ _ ⟨o, v, q, r⟩ k => ⟨o, v, k o q, r⟩⟩
/-- what the making of an exception with one field leaves -/
structure Made (fn : Str) (h h' : Heap) (e C d : Addr) (v : Value) : Prop where
  keep : ∀ b o, h.get? b = some o → h'.get? b = some o
  new : h.objs.size ≤ e
  obj : ∃ oe vs, h'.get? e = some oe ∧ oe.cls = .ref C ∧ oe.dict = some d ∧ oe.data = .fields vs
  dbig : h.objs.size ≤ d
  dne : d ≠ e
  ns : h'.Ns1 d (fun y => if y = fn then some v else none)
/-- a class whose __init__ stores its one argument in the field fn -/
structure MkF (K : PySem.W.Frag) (mg : Str → Option Value) (cn fn : Str) (C : Addr) : Prop where
  gC : mg cn = some (.ref C)
  kC : PySem.W.keepIn K (.ref C) = true
  no : PySem.W.findIn K (.ref C) fn = some none
  made : ∀ (prog : Program) (w : World) (A : Around) (R : Result → Shared → Prop) (s : Shared) (v : Value), K.In s.heap → s.heap.NoLimit → A.depth + 1 < recursionLimit →
    (∀ h' tk e d, Made fn s.heap h' e C d v → R (.ok (.ret (.ref e))) { s with heap := h', toks := tk }) → codeAny (model prog w) A (.call (.ref C) ⟨[v], []⟩) R s
theorem relO_fld {v : V} {v' : Value} (r : RelV v v') (fn f : Str) : RelO (List.lookup f [(fn, v)]) (if f = fn then some v' else none) := by
  by_cases hw : f = fn
  · subst hw
    rw [if_pos rfl]
    have q : List.lookup f [(f, v)] = some v := by simp [List.lookup]
    rw [q]
    exact r
  · rw [if_neg hw]
    have qw : (f == fn) = false := by simpa using hw
    have q2 : List.lookup f [(fn, v)] = none := by simp [List.lookup, qw]
    rw [q2]
    trivial
section
variable {X : Cx}
/-- C(e) -/
def tMkF (C : Addr) (fn : Str) (ta : TA) : TE := fun σ H Q => ta σ H fun vs H1 => ∃ v, vs = [v] ∧ ∀ e d H', Same H1 H' → H' e = some (ExF C (some d) e) → H' d = some (.xd [(fn, v)]) → Q (.ref e) H'
theorem pe_mkF {cn fn : Str} {C : Addr} {a : Expr} {ta : TA} {p pos : Pos} {k : Nat} (T : MkF X.K X.mg cn fn C) (hr : Room k X.A) (ha : PA X [a] ta) (hg : Gl X cn := by rfl) (hdb : (cn == ("__debug__" : Str)) = false := by decide)
    (he : starEach (a :: []) X.env = (false, eval a X.env) :: starEach [] X.env := by rfl) (hpl : (backTo pos (starEach [] X.env)).any (·.1) = false := by rfl) :
    PE X (.Call (.Name cn p) [a] [] pos) (tMkF C fn ta) := by
  refine ⟨fun pins s σ H Q I h => ?_⟩
  refine wpAny_Call_Name_kw (ld_glob I hg T.gC ?_ hdb)
  refine PySem.W.callWith_K (h₀ := X.base) I.ok.mod.kin T.kC (thn (ha.run pos pins s σ H _ I h) fun us s1 hh => ?_) he hpl
  obtain ⟨vs, H1, I1, r1, v, ev, q1⟩ := hh
  subst ev
  refine ⟨I1.kIn, ?_⟩
  cases r1 with
  | cons rv rn =>
    rename_i v' us'
    cases rn
    show wpAny _ _ (call (.ref C) [v']) _ _ _
    have hlim := I1.nolimit
    obtain ⟨hp, g, dr, tk, os⟩ := s1
    refine wpAny_call (T.made _ _ _ _ _ _ I1.kIn hlim (by have := hr.dp; omega) fun h' tk' e d M => ?_)
    show EP X pins σ Q (.ref e) ⟨h', g, dr, tk', os⟩
    obtain ⟨oe, fv, hoe, hc, hd, hdat⟩ := M.obj
    have hns := M.ns
    obtain ⟨G', g1, g2⟩ := restrict h' fun b => decide (b ≠ e)
    have gk : ∀ b, b ≠ e → G'.get? b = h'.get? b := fun b hb => g1 b (decide_eq_true hb)
    have ge : G'.get? e = none := g2 e (by simp)
    have old : ∀ b o, hp.get? b = some o → G'.get? b = some o := fun b o q => (gk b (Nat.ne_of_lt (Nat.lt_of_lt_of_le (Heap.lt_size q) M.new))).trans (M.keep b o q)
    have ob : ObjOk X.prog X.w (upd H1 d (.xd [(fn, v)])) G' d (.xd [(fn, v)]) :=
      ⟨_, hns.at (fun o q => (gk d M.dne).trans q), fun f => relO_fld rv fn f⟩
    have J : Inv X pins σ (upd H1 d (.xd [(fn, v)])) ⟨G', g, dr, tk', os⟩ := I1.laid (t' := tk') old M.dbig ob
    have nd : H1 d = none := I1.hok.fresh M.dbig
    have ne : upd H1 d (.xd [(fn, v)]) e = none := by
      rw [upd_ne (Ne.symm M.dne)]
      exact I1.hok.fresh M.new
    have J2 : Inv X pins σ (upd (upd H1 d (.xd [(fn, v)])) e (ExF C (some d) e)) ⟨h', g, dr, tk', os⟩ := J.laidN (t' := tk') (fun b o q => by
      by_cases hb : b = e
      · have q' : G'.get? b = some o := q
        rw [hb, ge] at q'; cases q'
      · exact (gk b hb).symm.trans q) ge ne (exF_ok hoe ⟨hc, hd⟩ hdat)
    exact ⟨.ref e, _, J2, rfl, q1 e d _ ((same_upd nd).trans (same_upd ne)) upd_same (by rw [upd_ne M.dne]; exact upd_same)⟩
/-- C() -/
def tMk0 (C : Addr) : TE := fun _ H Q => ∀ e H', Same H H' → H' e = some (ExF C none e) → Q (.ref e) H'
theorem pe_mk0 {C : Addr} {bmB : List Value} {B newId initId : String} {x : Str} {p pos : Pos} (F : ExcBaseFacts B newId initId bmB) (q : PySem.W.excIn X.K C bmB newId = true) (gC : X.mg x = some (.ref C)) (kC : PySem.W.keepIn X.K (.ref C) = true) (hg : Gl X x) (hdb : (x == ("__debug__" : Str)) = false := by decide) :
    PE X (.Call (.Name x p) [] [] pos) (tMk0 C) := by
  refine ⟨fun pins s σ H Q I h => ?_⟩
  refine wpAny_Call_Name_kw (ld_glob I hg gC ?_ hdb)
  refine PySem.W.callWith_K0 I.kIn kC ?_
  show wpAny _ _ (call (.ref C) []) _ _ _
  obtain ⟨bm, N, nm, qn, bs, hdct, sn, sub, ab, col, dd, k0, k1, k2, k3, k5, mN, hC, hN, hni, T⟩ := exc_obj I.kIn q
  refine wpAny_call_exc_subT F T hC hN hni (fun h' a hm => ?_) (Nat.zero_le _)
  have hn : H a = none := I.hok.gone hm.new
  obtain ⟨t, ht, _, _⟩ := hm.there
  exact ⟨.ref a, upd H a (ExF C none a), I.laidN hm.keeps hm.new hn (exF_ok ht ⟨rfl, rfl⟩ rfl), rfl, h a _ (same_upd hn) upd_same⟩
/-- where an exception's dict stands -/
def XdAt (H : Hp) : Option Addr → Prop
  | none => True
  | some dd => ∃ fs, H dd = some (.xd fs)
theorem XdAt.same {H H' : Hp} (s : Same H H') : ∀ {d : Option Addr}, XdAt H d → XdAt H' d
  | none, _ => trivial
  | some _, ⟨fs, h⟩ => ⟨fs, s _ _ h⟩
theorem exF_inst {pins : List (Addr × Obj)} {σ : L2.St} {H : Hp} {s : Shared} {a C : Addr} {d : Option Addr} (I : Inv X pins σ H s) (h : H a = some (ExF C d a)) (hd : XdAt H d) : ∃ oe od, PySem.W.InstAt s.heap a oe C od ∧ (d = none → od = none) ∧ (∀ dd, d = some dd → od.isSome = true) := by
  obtain ⟨⟨oe, vs, hget, hz, hv⟩, _⟩ := (show ObjOk X.prog X.w H s.heap a (ExF C d a) from I.hok a _ h)
  cases d with
  | none => exact ⟨oe, none, ⟨hget, hz.1, by unfold PySem.W.notCls; rw [hv] <;> rfl, by rw [hz.2]; trivial⟩, fun _ => rfl, fun _ z => by cases z⟩
  | some dd =>
    obtain ⟨fs, hx⟩ := hd
    obtain ⟨mA, hns, _⟩ := (show ObjOk X.prog X.w H s.heap dd (.xd fs) from I.hok dd _ hx)
    obtain ⟨od, ho, _⟩ := lookIn_ns hns
    exact ⟨oe, some od, ⟨hget, hz.1, by unfold PySem.W.notCls; rw [hv] <;> rfl, by rw [hz.2]; exact ho⟩, (fun z => by cases z), fun _ _ => rfl⟩
/-- isinstance(e, c), e an exception held as a value -/
def rIsF (K : PySem.W.Frag) : List V → Hp → VK → Prop := fun xs H Q => ∃ (a C : Addr) (d : Option Addr) (c : V) (cv : Value) (b : Bool), xs = [.ref a, c] ∧ H a = some (ExF C d a) ∧ XdAt H d ∧ ExcC K C ∧ ClsV c cv ∧ PySem.W.kitOne K (.ref C) cv = some b ∧ Q (.bl b) H
theorem call_isF : CallR X (.builtin "isinstance") (rIsF X.K) := by
  intro pins s σ H xs us Q I r ⟨a, D, d, c, cv, b, ex, ha, hd, C, hc, e, q⟩
  subst ex
  cases r with
  | cons rx rr =>
    cases rr with
    | cons rt rr =>
      cases rr; cases rx
      have ec := hc.eq rt
      subst ec
      obtain ⟨oe, od, J, h0, h1⟩ := exF_inst I ha hd
      cases d with
      | none =>
        cases h0 rfl
        exact PySem.W.kia_one (PySem.W.handS_kitx_exc C.hg C.hk C.hs C.hd C.ha C.hn C.ht C.hm) I.kIn J e (fun z => nomatch z) fun tk => ⟨.bl b, H, I.kept (t' := tk) fun _ _ z => z, rfl, q⟩
      | some dd =>
        obtain ⟨od', rfl⟩ := Option.isSome_iff_exists.mp (h1 dd rfl)
        obtain ⟨cd, hcd, _⟩ := PySem.W.any_some C.hd
        exact PySem.W.kia_one (PySem.W.kitx_exc (by rw [hcd]; rfl) C.hg C.hk C.hs C.ha C.hn C.ht C.hm) I.kIn J e (fun z => nomatch z) fun tk => ⟨.bl b, H, I.kept (t' := tk) fun _ _ z => z, rfl, q⟩
/-- e.f, e an exception held as a value -/
def tFldF (K : PySem.W.Frag) (n : Str) (te : TE) : TE := fun σ H Q => te σ H fun x H1 => ∃ (a C dd : Addr) (v : V), x = .ref a ∧ H1 a = some (ExF C (some dd) a) ∧ H1 dd = some (.xd [(n, v)]) ∧ ExcC K C ∧ PySem.W.findIn K (.ref C) n = some none ∧ Q v H1
theorem pe_fldF {e : Expr} {te : TE} {pos : Pos} {n : Str} (he : PE X e te) (hb : attributeBase e n X.env (eval e X.env) = eval e X.env := by rfl) : PE X (.Attribute e n pos) (tFldF X.K n te) := by
  refine ⟨fun pins s σ H Q I h => ?_⟩
  refine attr_of hb (thn (he.run pins s σ H _ I h) fun u s1 hh => ?_)
  obtain ⟨x, H1, I1, rx, a, C, dd, v, ex, ha, hx, T, no, q⟩ := hh
  subst ex
  obtain rfl : u = Value.ref a := rx
  obtain ⟨⟨oe, vs, hget, hz, hv⟩, _⟩ := (show ObjOk X.prog X.w H1 s1.heap a (ExF C (some dd) a) from I1.hok a _ ha)
  obtain ⟨mA, hns, hr⟩ := (show ObjOk X.prog X.w H1 s1.heap dd (.xd [(n, v)]) from I1.hok dd _ hx)
  obtain ⟨od, ho, hl⟩ := lookIn_ns hns
  have l : List.lookup n [(n, v)] = some v := by simp [List.lookup]
  obtain ⟨u, hu, ru⟩ := RelO.some_of (v := v) (o := mA n) (by rw [← l]; exact hr n)
  have J : PySem.W.InstAt s1.heap a oe C (some od) := ⟨hget, hz.1, by unfold PySem.W.notCls; rw [hv] <;> rfl, by rw [hz.2]; exact ho⟩
  exact HandSPX.exc_get I1.kIn J T.hg T.hk T.hs (PySem.W.findObj_own T.hd no rfl (by rw [hl, hu])) (handed_of ru) ⟨v, H1, I1.tok _, ru, q⟩
end
end TR
namespace TR
open PySem PySem.Spec PyProof.Rows L2
/-! ### a def that is handed the exception which the caller's suite holds -/
abbrev SpE := Value → Option Addr → Addr → Sp
structure FnE (P : Program) (w : World) (K : PySem.W.Frag) (mg : Str → Option Value) (base : Heap) (k : Nat) (f : Addr) (fd : FuncData) (ps : List Str) (sp : SpE) : Prop where
  len : ∀ c d a vs H Q E, sp c d a vs H Q E → vs.length = ps.length
  run : ∀ (A : Around) (l : List Env) (s : Shared) (H : Hp) (args : Args) (us : List Value) (vs : List V) (Q : VK) (p : Addr × Obj) (cls : Value) (d : Option Addr), L2H.RoomH k A → L2H.PinOk l H s p → Zc cls d p.2 → (∃ v, p.2.data = .fields v) →
    Env0 P w K mg base A l s H → BindsTo s fd args (ps.zip us) → Vals vs us → sp cls d p.1 vs H Q E0 → codeAny (model P w) A (.call (.ref f) args) (CR CX0 l P w H s Q E0) s
section
variable {P : Program} {w : World} {K : PySem.W.Frag} {mg : Str → Option Value} {base : Heap}
theorem okE {x q : Str} {st : Stmt} {f : Addr} {fd : FuncData} {N ps : List Str} {k : Nat} {sp : SpE} (F : Fun K x q st f fd) (S : FnScope N ps (defScope st)) (len : ∀ c d a vs H Q E, sp c d a vs H Q E → vs.length = ps.length)
    (body : ∀ (cdv : Value) (A : Around) (l : List Env) (s : Shared) (H : Hp) (vs : List V) (Q : VK) (p : Addr × Obj) (cls : Value) (d : Option Addr), L2H.RoomH k (A.deeper (envOfC q (defScope st) s.heap.objs.size f cdv)) → Zc cls d p.2 → (∃ v, p.2.data = .fields v) → sp cls d p.1 vs H Q E0 →
      ∃ t, PSs (L2H.cxH CX0 P w K mg base N q (defScope st) f cdv A l s H E0 p) (defBody st) t ∧ t { nx := fun _ H' => Q .non H', rt := Q } (L2.start N vs) H) : FnE P w K mg base (k + 1) f fd ps sp := by
  obtain ⟨oc, od, kV, doc, pm, an, cdv, ct, osl, rfl, lk, hcd⟩ := F.ex
  refine ⟨len, fun A l s H args us vs Q p cls d room pin hz hf en bt r hs => ?_⟩
  have n := len _ _ _ _ _ _ _ hs
  have kin : K.In s.heap := en.mod.kin.keeps fun b o e => (en.bs b o e).1
  have nol : s.heap.NoLimit := en.mod.nolimit.keeps fun b o e => (en.bs b o e).1
  have kinds : ∀ y ∈ ps.zip us, (defScope st).names.lookup y.1 = some .local ∨ ((defScope st).names.lookup y.1 = some .cell ∧ ((cellsFrom (s.heap.objs.size + 1) (defScope st).names []).lookup y.1).isSome = true) := by
    rintro ⟨y, v⟩ hy
    cases S.par y (List.of_mem_zip hy).1 with
    | inl z => exact .inl z
    | inr z => exact .inr ⟨z, PySem.W.cellsFrom_some _ _ _ (.inl z)⟩
  refine codeAny_call_function room.depth (kin _ _ lk) rfl S.co S.gen rfl (PySem.W.codeRec_of kin hcd) (bt _ _ _ _ ?_)
  refine wpAny_newFunctionEnv_cells S.kind kinds fun env eq s1 ic => ?_
  subst eq
  refine ⟨nol.keeps ic.toInCall.keep, codeAny_func ?_⟩
  obtain ⟨t, ht, hq⟩ := body cdv A l s H vs Q p cls d (room.deeper _) hz hf hs
  have J : Inv (L2H.cxH CX0 P w K mg base N q (defScope st) f cdv A l s H E0 p) [] (L2.start N vs) H s1 := L2H.inv_startH S pin en n r ic
  refine wpAny_mono (ht.run [] s1 _ H _ J hq) (fun fl s2 h2 => ?_) fun e s2 h2 => h2
  cases fl with
  | ret u =>
    obtain ⟨v, σ', H', I, rv, z⟩ := h2
    exact ⟨v, H', I.os, I.bare, I.base, I.hok, rv, z⟩
  | next =>
    obtain ⟨σ', H', I, z⟩ := h2
    exact ⟨V.non, H', I.os, I.bare, I.base, I.hok, rfl, z⟩
  | brk => exact h2.elim fun _ h => h.elim fun _ h => h.2.elim
  | cont => exact h2.elim fun _ h => h.elim fun _ h => h.2.elim
end
/-! ### in the body of such a def, and in the suite -/
section
variable {X : Cx}
theorem pin_inst {pins : List (Addr × Obj)} {σ : L2.St} {H : Hp} {s : Shared} {p : Addr × Obj} {C : Addr} {d : Option Addr} (I : Inv X pins σ H s) (hp : p ∈ X.pn) (hz : Zc (.ref C) d p.2) (hf : ∃ vs, p.2.data = .fields vs) (hd : XdAt H d) :
    ∃ od, PySem.W.InstAt s.heap p.1 p.2 C od ∧ (d = none → od = none) ∧ (∀ dd, d = some dd → od.isSome = true) := by
  obtain ⟨g, _⟩ := I.pin p (List.mem_append_left _ hp)
  obtain ⟨vs, hv⟩ := hf
  cases d with
  | none => exact ⟨none, ⟨g, hz.1, by unfold PySem.W.notCls; rw [hv] <;> rfl, by rw [hz.2]; trivial⟩, fun _ => rfl, fun _ z => by cases z⟩
  | some dd =>
    obtain ⟨fs, hx⟩ := hd
    obtain ⟨mA, hns, _⟩ := (show ObjOk X.prog X.w H s.heap dd (.xd fs) from I.hok dd _ hx)
    obtain ⟨od, ho, _⟩ := lookIn_ns hns
    exact ⟨some od, ⟨g, hz.1, by unfold PySem.W.notCls; rw [hv] <;> rfl, by rw [hz.2]; exact ho⟩, (fun z => by cases z), fun _ _ => rfl⟩
/-- isinstance(e, c), e the exception that is pinned -/
def rIsP (K : PySem.W.Frag) (p : Addr × Obj) : List V → Hp → VK → Prop := fun xs H Q => ∃ (C : Addr) (d : Option Addr) (c : V) (cv : Value) (b : Bool), xs = [.ref p.1, c] ∧ Zc (.ref C) d p.2 ∧ (∃ vs, p.2.data = .fields vs) ∧ XdAt H d ∧ ExcC K C ∧ ClsV c cv ∧ PySem.W.kitOne K (.ref C) cv = some b ∧ Q (.bl b) H
theorem call_isP {p : Addr × Obj} (hp : p ∈ X.pn) : CallR X (.builtin "isinstance") (rIsP X.K p) := by
  intro pins s σ H xs us Q I r ⟨D, d, c, cv, b, ex, hz, hf, hd, C, hc, e, q⟩
  subst ex
  cases r with
  | cons rx rr =>
    cases rr with
    | cons rt rr =>
      cases rr; cases rx
      have ec := hc.eq rt
      subst ec
      obtain ⟨od, J, h0, h1⟩ := pin_inst I hp hz hf hd
      cases d with
      | none =>
        cases h0 rfl
        exact PySem.W.kia_one (PySem.W.handS_kitx_exc C.hg C.hk C.hs C.hd C.ha C.hn C.ht C.hm) I.kIn J e (fun z => nomatch z) fun tk => ⟨.bl b, H, I.kept (t' := tk) fun _ _ z => z, rfl, q⟩
      | some dd =>
        obtain ⟨od', rfl⟩ := Option.isSome_iff_exists.mp (h1 dd rfl)
        obtain ⟨cd, hcd, _⟩ := PySem.W.any_some C.hd
        exact PySem.W.kia_one (PySem.W.kitx_exc (by rw [hcd]; rfl) C.hg C.hk C.hs C.ha C.hn C.ht C.hm) I.kIn J e (fun z => nomatch z) fun tk => ⟨.bl b, H, I.kept (t' := tk) fun _ _ z => z, rfl, q⟩
/-- isinstance(e, (c, ..)), e the exception that is pinned -/
def rIsPT (K : PySem.W.Frag) (p : Addr × Obj) : List V → Hp → VK → Prop := fun xs H Q => ∃ (C : Addr) (d : Option Addr) (tp : Addr) (cs : List V) (us : List Value) (b : Bool), xs = [.ref p.1, .ref tp] ∧ Zc (.ref C) d p.2 ∧ (∃ vs, p.2.data = .fields vs) ∧ XdAt H d ∧ ExcC K C ∧ H tp = some (.tup cs) ∧ Paired ClsV cs us ∧ PySem.W.kitAny K (.ref C) us = some b ∧ Q (.bl b) H
theorem call_isPT {p : Addr × Obj} (hp : p ∈ X.pn) : CallR X (.builtin "isinstance") (rIsPT X.K p) := by
  intro pins s σ H xs us Q I r ⟨D, d, tp, cs, vs, b, ex, hz, hf, hd, C, htp, hpr, e, q⟩
  subst ex
  cases r with
  | cons rx rr =>
    cases rr with
    | cons rt rr =>
      cases rr; cases rx; cases rt
      obtain ⟨od, J, h0, h1⟩ := pin_inst I hp hz hf hd
      obtain ⟨z, its, rv, ⟨oc, odd, odt, osl⟩, ho, hc, n, hdt⟩ := (show ObjOk X.prog X.w H s.heap tp (.tup cs) from I.hok tp _ htp)
      dsimp only at hc hdt; subst hc hdt
      have ev := ClsV.all hpr rv
      subst ev
      cases d with
      | none =>
        cases h0 rfl
        exact PySem.W.kia_tup (PySem.W.handS_kitx_exc C.hg C.hk C.hs C.hd C.ha C.hn C.ht C.hm) I.kIn J ho e (fun z => nomatch z) fun tk => ⟨.bl b, H, I.kept (t' := tk) fun _ _ z => z, rfl, q⟩
      | some dd =>
        obtain ⟨od', rfl⟩ := Option.isSome_iff_exists.mp (h1 dd rfl)
        obtain ⟨cd, hcd, _⟩ := PySem.W.any_some C.hd
        exact PySem.W.kia_tup (PySem.W.kitx_exc (by rw [hcd]; rfl) C.hg C.hk C.hs C.ha C.hn C.ht C.hm) I.kIn J ho e (fun z => nomatch z) fun tk => ⟨.bl b, H, I.kept (t' := tk) fun _ _ z => z, rfl, q⟩
/-- e.f, e the exception that is pinned -/
def tFldP (K : PySem.W.Frag) (p : Addr × Obj) (n : Str) (te : TE) : TE := fun σ H Q => te σ H fun x H1 => ∃ (C dd : Addr) (v : V), x = .ref p.1 ∧ Zc (.ref C) (some dd) p.2 ∧ (∃ vs, p.2.data = .fields vs) ∧ H1 dd = some (.xd [(n, v)]) ∧ ExcC K C ∧ PySem.W.findIn K (.ref C) n = some none ∧ Q v H1
theorem pe_fldP {p : Addr × Obj} {e : Expr} {te : TE} {pos : Pos} {n : Str} (hp : p ∈ X.pn) (he : PE X e te) (hb : attributeBase e n X.env (eval e X.env) = eval e X.env := by rfl) : PE X (.Attribute e n pos) (tFldP X.K p n te) := by
  refine ⟨fun pins s σ H Q I h => ?_⟩
  refine attr_of hb (thn (he.run pins s σ H _ I h) fun u s1 hh => ?_)
  obtain ⟨x, H1, I1, rx, C, dd, v, ex, hz, ⟨vs, hv⟩, hx, T, no, q⟩ := hh
  subst ex
  obtain rfl : u = Value.ref p.1 := rx
  obtain ⟨hget, _⟩ := I1.pin p (List.mem_append_left _ hp)
  obtain ⟨mA, hns, hr⟩ := (show ObjOk X.prog X.w H1 s1.heap dd (.xd [(n, v)]) from I1.hok dd _ hx)
  obtain ⟨od, ho, hl⟩ := lookIn_ns hns
  have l : List.lookup n [(n, v)] = some v := by simp [List.lookup]
  obtain ⟨u, hu, ru⟩ := RelO.some_of (v := v) (o := mA n) (by rw [← l]; exact hr n)
  have J : PySem.W.InstAt s1.heap p.1 p.2 C (some od) := ⟨hget, hz.1, by unfold PySem.W.notCls; rw [hv] <;> rfl, by rw [hz.2]; exact ho⟩
  exact HandSPX.exc_get I1.kIn J T.hg T.hk T.hs (PySem.W.findObj_own T.hd no rfl (by rw [hl, hu])) (handed_of ru) ⟨v, H1, I1.tok _, ru, q⟩
/-- f(e, ..) where e is the exception that is pinned -/
def tCallE (sp : SpE) (cls : Value) (d : Option Addr) (a : Addr) (t : TA) : TE := fun σ H Q => t σ H fun vs H1 => sp cls d a vs H1 Q E0
theorem pe_callE {k : Nat} {f : Addr} {fd : FuncData} {ps : List Str} {sp : SpE} {x : Str} {q pos : Pos} {e : Expr} {es : List Expr} {t : TA} {a : Addr} {oe : Obj} {cls : Value} {d : Option Addr} (F : FnE X.prog X.w X.K X.mg X.base k f fd ps sp) (hr : L2H.RoomH k X.A) (hp : (a, oe) ∈ X.pn) (hz : Zc cls d oe) (hf : ∃ vs, oe.data = .fields vs)
    (hg : Gl X x) (hm : X.mg x = some (.ref f)) (hk : PySem.W.keepIn X.K (.ref f) = true) (hb : Binds X.K fd ps []) (ha : PA X (e :: es) t)
    (hdb : (x == ("__debug__" : Str)) = false := by decide) (he : starEach (e :: es) X.env = (false, eval e X.env) :: starEach es X.env := by rfl) (hpl : (backTo pos (starEach es X.env)).any (·.1) = false := by rfl) :
    PE X (.Call (.Name x q) (e :: es) [] pos) (tCallE sp cls d a t) := by
  refine ⟨fun pins s σ H Q I h => ?_⟩
  refine wpAny_Call_Name_kw (ld_glob I hg hm ?_ hdb)
  refine PySem.W.callWith_K (h₀ := X.base) I.ok.mod.kin hk (thn (ha.run pos pins s σ H _ I h) fun us s1 hh => ?_) he hpl
  obtain ⟨vs, H1, I1, r, z⟩ := hh
  refine ⟨I1.kIn, ?_⟩
  have n : us.length = ps.length := by rw [← r.length]; exact F.len _ _ _ _ _ _ _ z
  have b := hb s1 us I1.kIn (by rw [List.append_nil]; exact n)
  rw [List.append_nil] at b
  have P1 := I1.pin (a, oe) (List.mem_append_left _ hp)
  have pin : L2H.PinOk X.stack H1 s1 (a, oe) := ⟨P1.1, P1.2.1, fun m => (List.mem_cons.mp (I1.stkSub a m)).elim P1.2.2.1 P1.2.2.2.1, P1.2.2.2.2⟩
  refine wpAny_call (codeAny_mono (F.run X.A X.stack s1 H1 ⟨us, []⟩ us vs Q (a, oe) cls d hr pin hz hf I1.env0 b r z) fun r s' hq => ?_)
  cases r with
  | error e => exact False.elim hq
  | ok fl =>
    cases fl with
    | ret u => exact I1.after hq
    | next => exact False.elim hq
    | brk => exact False.elim hq
    | cont => exact False.elim hq
/-- raise C() -/
theorem pmk_0 {C : Addr} {bmB : List Value} {B newId initId : String} {x : Str} {p pos : Pos} (F : ExcBaseFacts B newId initId bmB) (q : PySem.W.excIn X.K C bmB newId = true) (gC : X.mg x = some (.ref C)) (kC : PySem.W.keepIn X.K (.ref C) = true) (r : Raises X (.ref C)) (hg : Gl X x) (hdb : (x == ("__debug__" : Str)) = false := by decide) :
    PMk X (.Call (.Name x p) [] [] pos) (fun _ H Q => Q (.ref C) none H) := by
  intro pins s σ H Q I h
  refine wpAny_Call_Name_kw (ld_glob I hg gC ?_ hdb)
  refine PySem.W.callWith_K0 I.kIn kC ?_
  show wpAny _ _ (call (.ref C) []) _ _ _
  obtain ⟨bm, N, nm, qn, bs, hdct, sn, sub, ab, col, dd, k0, k1, k2, k3, k5, mN, hC, hN, hni, T⟩ := exc_obj I.kIn q
  exact wpAny_call_exc_subT F T hC hN hni (fun h' a hm => mk_of I hm r h (I.hok.gone hm.new)) (Nat.zero_le _)
end
theorem roomH_suite {k : Nat} {A : Around} {u : Option Value} (r : Room k A) : L2H.RoomH k (A.mark u) := ⟨r.dp, r.un⟩
end TR
namespace TR
open PySem PySem.Spec PyProof.Rows L2
/-- a class without __init__ of its own, which is raised -/
structure Mk0 (K : PySem.W.Frag) (mg : Str → Option Value) (cn : Str) (C : Addr) : Prop where
  g : mg cn = some (.ref C)
  k : PySem.W.keepIn K (.ref C) = true
  q : PySem.W.excIn K C [.type "ValueError", .type "Exception", .type "BaseException", .type "object"] "ValueError.__new__" = true
  b : PySem.W.subIn K (.ref C) (.type "BaseException") = some true
  t : PySem.W.typeIn K (.ref C) = some (.type "type")
end TR
namespace TR
open PySem PySem.Spec PyProof.Rows L2
def topS (i : Nat) : Stmt := PySem.Challenge.pw_tasterow_k28_menus_and_choices.main.body.getD i (.Pass ⟨0, 0, 0, 0⟩)
abbrev sWhole : Stmt := topS 13
abbrev sWithin : Stmt := topS 14
abbrev sAsc : Stmt := topS 15
abbrev sMenuOf : Stmt := topS 17
abbrev sIsMenu : Stmt := topS 19
abbrev sChosen : Stmt := topS 20
abbrev sChoices : Stmt := topS 21
abbrev sCost28 : Stmt := topS 22
abbrev sDeck : Stmt := topS 24
abbrev sNext : Stmt := topS 25
abbrev sOne : Stmt := topS 26
abbrev sLWhole : Stmt := topS 27
abbrev sSame : Stmt := topS 28
abbrev sOdd : Stmt := topS 29
abbrev sBent : Stmt := topS 30
abbrev sPeople : Stmt := topS 31
abbrev sList : Stmt := topS 32
abbrev sExch : Stmt := topS 33
abbrev sRoad : Stmt := topS 34
abbrev sSeated : Stmt := topS 35
abbrev sAny : Stmt := topS 36
abbrev sTable : Stmt := topS 37
abbrev sRaised : Stmt := topS 38
abbrev sMenu : Stmt := topS 39
abbrev sLIsMenu : Stmt := topS 40
abbrev sLBest : Stmt := topS 41
abbrev sLCost : Stmt := topS 42
abbrev sMenuVal : Stmt := topS 43
abbrev sAnswer28 : Stmt := topS 44
abbrev sRight28 : Stmt := topS 45
abbrev sLaw : Stmt := topS 46
end TR
namespace TR
open PySem PySem.Spec PyProof.Rows L2
theorem scRaised : FnScope ["_law_error", "_law_found"] ["_law_error"] (defScope sRaised) := ⟨rfl, rfl, rfl, by decide +kernel, rfl, by decide +kernel, by decide +kernel⟩
/-- what is known of the class number i of those that _law_raised asks for -/
structure RsC (K : PySem.W.Frag) (cs : Nat → Addr) (i : Nat) : Prop where
  ec : ExcC K (cs i)
  kit : ∀ j, j < 10 → PySem.W.kitOne K (.ref (cs i)) (.ref (cs j)) = some (decide (i = j))
  kv : PySem.W.kitOne K (.ref (cs i)) (.type "ValueError") = some true
structure RsG (mg : Str → Option Value) (cs : Nat → Addr) : Prop where
  g0 : mg "NoMenu" = some (.ref (cs 0))
  g1 : mg "NotSeatable" = some (.ref (cs 1))
  g2 : mg "NoSeating" = some (.ref (cs 2))
  g3 : mg "NoCuts" = some (.ref (cs 3))
  g4 : mg "NoSize" = some (.ref (cs 4))
  g5 : mg "NoDish" = some (.ref (cs 5))
  g6 : mg "NoRanking" = some (.ref (cs 6))
  g7 : mg "NoTaster" = some (.ref (cs 7))
  g8 : mg "NoSpan" = some (.ref (cs 8))
  g9 : mg "NoPlaces" = some (.ref (cs 9))
/-- an exception without a field, named n -/
def spRs0 (C : Addr) (n : Str) : SpE := fun cls d a vs H Q _ => vs = [.ref a] ∧ cls = .ref C ∧ d = none ∧ ∀ H' l, Same H H' → H l = none → l ≠ sysModules → H' l = some (.lst [.str n]) → Q (.ref l) H'
/-- an exception with the field fn, which is v -/
def spRs1 (C : Addr) (n fn : Str) : SpE := fun cls d a vs H Q _ => ∃ (dd : Addr) (v : V), vs = [.ref a] ∧ cls = .ref C ∧ d = some dd ∧ H dd = some (.xd [(fn, v)]) ∧ ∀ H' l, Same H H' → H l = none → l ≠ sysModules → H' l = some (.lst [.str n, v]) → Q (.ref l) H'
end TR
namespace TR
open PySem PySem.Spec PyProof.Rows L2
section
variable {P : Program} {w : World} {K : PySem.W.Frag} {mg : Str → Option Value} {base : Heap} {cs : Nat → Addr}
theorem ok_raised0 {f : Addr} {fd : FuncData} {k : Nat} (F : Fun K "_law_raised" "_law_raised" sRaised f fd) (G : RsG mg cs) (U : RsC K cs 0) (misi : mg "isinstance" = none) (mlen : mg "len" = none) (mve : mg "ValueError" = none) : FnE P w K mg base (k + 1) f fd ["_law_error"] (spRs0 (cs 0) "NoMenu") := by
  refine okE F scRaised (fun c d a vs H Q E h => ?_) (fun cdv A l s H vs Q p cls d hr hz hf h => ?_)
  · obtain ⟨rfl, _⟩ := h
    rfl
  · obtain ⟨rfl, rfl, rfl, q⟩ := h
    have hp : p ∈ [p] := List.mem_cons_self
    refine ⟨_, 
      (pss_cons (ps_set (i := 1) scRaised.nd rfl (.inl rfl) (pe_lstN pa_nil))
      (pss_cons (ps_if (pt_val (pe_callB (call_isP hp) (by rfl) misi (by decide +kernel) (pa_cons (pv 0) (pa_cons (pe_glob (v := .ref (cs 0)) (by rfl) G.g0 rfl) pa_nil)))) (pss_one (ps_expr (pe_bm PySem.F.plainAttrs_list PySem.F.slot_list_append PySem.F.type_list_append mt_append (pv 1) (pa_cons (pe_lstN (pa_cons pe_str pa_nil)) pa_nil)))) pss_nil)
      (pss_cons (ps_if (pt_val (pe_callB (call_isP hp) (by rfl) misi (by decide +kernel) (pa_cons (pv 0) (pa_cons (pe_glob (v := .ref (cs 1)) (by rfl) G.g1 rfl) pa_nil)))) (pss_one (ps_expr (pe_bm PySem.F.plainAttrs_list PySem.F.slot_list_append PySem.F.type_list_append mt_append (pv 1) (pa_cons (pe_lstN (pa_cons pe_str (pa_cons (pe_fldP hp (pv 0)) pa_nil))) pa_nil)))) pss_nil)
      (pss_cons (ps_if (pt_val (pe_callB (call_isP hp) (by rfl) misi (by decide +kernel) (pa_cons (pv 0) (pa_cons (pe_glob (v := .ref (cs 2)) (by rfl) G.g2 rfl) pa_nil)))) (pss_one (ps_expr (pe_bm PySem.F.plainAttrs_list PySem.F.slot_list_append PySem.F.type_list_append mt_append (pv 1) (pa_cons (pe_lstN (pa_cons pe_str pa_nil)) pa_nil)))) pss_nil)
      (pss_cons (ps_if (pt_val (pe_callB (call_isP hp) (by rfl) misi (by decide +kernel) (pa_cons (pv 0) (pa_cons (pe_glob (v := .ref (cs 3)) (by rfl) G.g3 rfl) pa_nil)))) (pss_one (ps_expr (pe_bm PySem.F.plainAttrs_list PySem.F.slot_list_append PySem.F.type_list_append mt_append (pv 1) (pa_cons (pe_lstN (pa_cons pe_str pa_nil)) pa_nil)))) pss_nil)
      (pss_cons (ps_if (pt_val (pe_callB (call_isP hp) (by rfl) misi (by decide +kernel) (pa_cons (pv 0) (pa_cons (pe_glob (v := .ref (cs 4)) (by rfl) G.g4 rfl) pa_nil)))) (pss_one (ps_expr (pe_bm PySem.F.plainAttrs_list PySem.F.slot_list_append PySem.F.type_list_append mt_append (pv 1) (pa_cons (pe_lstN (pa_cons pe_str (pa_cons (pe_fldP hp (pv 0)) pa_nil))) pa_nil)))) pss_nil)
      (pss_cons (ps_if (pt_val (pe_callB (call_isP hp) (by rfl) misi (by decide +kernel) (pa_cons (pv 0) (pa_cons (pe_glob (v := .ref (cs 5)) (by rfl) G.g5 rfl) pa_nil)))) (pss_one (ps_expr (pe_bm PySem.F.plainAttrs_list PySem.F.slot_list_append PySem.F.type_list_append mt_append (pv 1) (pa_cons (pe_lstN (pa_cons pe_str (pa_cons (pe_fldP hp (pv 0)) pa_nil))) pa_nil)))) pss_nil)
      (pss_cons (ps_if (pt_val (pe_callB (call_isP hp) (by rfl) misi (by decide +kernel) (pa_cons (pv 0) (pa_cons (pe_glob (v := .ref (cs 6)) (by rfl) G.g6 rfl) pa_nil)))) (pss_one (ps_expr (pe_bm PySem.F.plainAttrs_list PySem.F.slot_list_append PySem.F.type_list_append mt_append (pv 1) (pa_cons (pe_lstN (pa_cons pe_str (pa_cons (pe_fldP hp (pv 0)) pa_nil))) pa_nil)))) pss_nil)
      (pss_cons (ps_if (pt_val (pe_callB (call_isP hp) (by rfl) misi (by decide +kernel) (pa_cons (pv 0) (pa_cons (pe_glob (v := .ref (cs 7)) (by rfl) G.g7 rfl) pa_nil)))) (pss_one (ps_expr (pe_bm PySem.F.plainAttrs_list PySem.F.slot_list_append PySem.F.type_list_append mt_append (pv 1) (pa_cons (pe_lstN (pa_cons pe_str (pa_cons (pe_fldP hp (pv 0)) pa_nil))) pa_nil)))) pss_nil)
      (pss_cons (ps_if (pt_val (pe_callB (call_isP hp) (by rfl) misi (by decide +kernel) (pa_cons (pv 0) (pa_cons (pe_glob (v := .ref (cs 8)) (by rfl) G.g8 rfl) pa_nil)))) (pss_one (ps_expr (pe_bm PySem.F.plainAttrs_list PySem.F.slot_list_append PySem.F.type_list_append mt_append (pv 1) (pa_cons (pe_lstN (pa_cons pe_str pa_nil)) pa_nil)))) pss_nil)
      (pss_cons (ps_if (pt_val (pe_callB (call_isP hp) (by rfl) misi (by decide +kernel) (pa_cons (pv 0) (pa_cons (pe_glob (v := .ref (cs 9)) (by rfl) G.g9 rfl) pa_nil)))) (pss_one (ps_expr (pe_bm PySem.F.plainAttrs_list PySem.F.slot_list_append PySem.F.type_list_append mt_append (pv 1) (pa_cons (pe_lstN (pa_cons pe_str pa_nil)) pa_nil)))) pss_nil)
      (pss_one (ps_ret (pe_ifExp (PW.pt (pw_and (pt_cmpR op_eq (pe_callB call_len_seq (by rfl) mlen PySem.boot_len (pa_cons (pv 1) pa_nil)) pe_int (nomark _)) (pw_and1 (pt_val (pe_callB (call_isP hp) (by rfl) misi (by decide +kernel) (pa_cons (pv 0) (pa_cons (pe_bltn (v := .ty "ValueError") (by rfl) mve (by decide +kernel) rfl) pa_nil))))))) (pe_ix (r := rIxL K) ix_list (pv 1) pe_int (fun _ _ => rfl)) (pe_lstN (pa_cons pe_str pa_nil)))))))))))))))), ?_⟩
    refine ⟨by show 0 ≤ sizeLine; decide, fun g H1 hg ng s1 e1 => ?_⟩
    refine ⟨.ref p.1, rfl, cs 0, _, .ref (cs 0), _, true, rfl, hz, hf, trivial, U.ec, .own _, U.kit 0 (by decide), _, rfl, iteT ?_⟩
    refine ⟨.ref g, rfl, .inl ⟨rfl, _, sqL e1⟩, by show 1 ≤ sizeLine; decide, fun l H2 hl nl s2 e2 => ?_⟩
    have e1 := s2 _ _ e1
    refine ⟨g, _, _, rfl, rfl, e1, by show 0 < sizeLine; decide, ?_⟩
    have ngl : l ≠ g := fun z => by rw [z] at e2; rw [e1] at e2; cases e2
    have e2 : upd H2 g (.lst ([] ++ [.ref l])) l = _ := (upd_ne ngl).trans e2
    have S := same_upd2 (s1.trans s2) hg (p := g) (o := .lst ([] ++ [.ref l]))
    have e1 : upd H2 g (.lst ([] ++ [.ref l])) g = some (.lst [.ref l]) := upd_same
    generalize upd H2 g (.lst ([] ++ [.ref l])) = H3 at e1 e2 S ⊢
    refine ⟨.ref p.1, rfl, cs 0, _, .ref (cs 1), _, false, rfl, hz, hf, trivial, U.ec, .own _, U.kit 1 (by decide), _, rfl, iteF ?_⟩
    refine ⟨.ref p.1, rfl, cs 0, _, .ref (cs 2), _, false, rfl, hz, hf, trivial, U.ec, .own _, U.kit 2 (by decide), _, rfl, iteF ?_⟩
    refine ⟨.ref p.1, rfl, cs 0, _, .ref (cs 3), _, false, rfl, hz, hf, trivial, U.ec, .own _, U.kit 3 (by decide), _, rfl, iteF ?_⟩
    refine ⟨.ref p.1, rfl, cs 0, _, .ref (cs 4), _, false, rfl, hz, hf, trivial, U.ec, .own _, U.kit 4 (by decide), _, rfl, iteF ?_⟩
    refine ⟨.ref p.1, rfl, cs 0, _, .ref (cs 5), _, false, rfl, hz, hf, trivial, U.ec, .own _, U.kit 5 (by decide), _, rfl, iteF ?_⟩
    refine ⟨.ref p.1, rfl, cs 0, _, .ref (cs 6), _, false, rfl, hz, hf, trivial, U.ec, .own _, U.kit 6 (by decide), _, rfl, iteF ?_⟩
    refine ⟨.ref p.1, rfl, cs 0, _, .ref (cs 7), _, false, rfl, hz, hf, trivial, U.ec, .own _, U.kit 7 (by decide), _, rfl, iteF ?_⟩
    refine ⟨.ref p.1, rfl, cs 0, _, .ref (cs 8), _, false, rfl, hz, hf, trivial, U.ec, .own _, U.kit 8 (by decide), _, rfl, iteF ?_⟩
    refine ⟨.ref p.1, rfl, cs 0, _, .ref (cs 9), _, false, rfl, hz, hf, trivial, U.ec, .own _, U.kit 9 (by decide), _, rfl, iteF ?_⟩
    refine ⟨.ref g, rfl, g, _, rfl, .inl (sqL e1), rfl, _, rfl, iteT ?_⟩
    refine ⟨.ref p.1, rfl, cs 0, _, .ty "ValueError", _, true, rfl, hz, hf, trivial, U.ec, .ty _, U.kv, _, rfl, iteT ?_⟩
    exact ⟨.ref g, rfl, g, _, 0, .ref l, rfl, rfl, sqL e1, rfl, q H3 l S (s1.free hl) nl e2⟩
end
end TR
namespace TR
open PySem PySem.Spec PyProof.Rows L2
theorem scDeck : FnScope ["_law_script", "_law_cells", "_law_cell"] ["_law_script"] (defScope sDeck) := ⟨rfl, rfl, rfl, by decide +kernel, rfl, by decide +kernel, by decide +kernel⟩
section
variable {P : Program} {w : World} {K : PySem.W.Frag} {mg : Str → Option Value} {base : Heap}
def spDeck (K : PySem.W.Frag) : Sp := fun vs H Q _ => ∃ (a : Addr) (ns : List Int), vs = [.ref a] ∧ SqL K H a (ns.map V.int) ∧ ns.length ≤ 63 ∧
  ∀ H' d p q, Same H H' → Deck H' d p q 0 → Q (.ref d) H'
theorem ok_deck {f : Addr} {fd : FuncData} {k : Nat} (F : Fun K "_law_deck" "_law_deck" sDeck f fd) (mabs : mg "abs" = none) (mlen : mg "len" = none) : FnOk P w K mg base CX0 (k + 1) f fd ["_law_script"] (spDeck K) := by
  refine F.ok scDeck (fun vs H Q E h => ?_) (fun cdv A outer s H vs Q E hr h => ?_)
  · obtain ⟨a, ns, rfl, _⟩ := h
    rfl
  · obtain ⟨a, ns, rfl, hS, hlen, q⟩ := h
    refine ⟨_, pss_cons (ps_setLc (i := 1) (own := [("_law_cell", 2)]) (g := gName 2) (tt := tYes) (by rfl) scDeck.nd rfl rfl (sw_true rfl rfl rfl (by decide +kernel)) (pi_list (pv 0))
        (blkOk_by (own := [("_law_cell", 2)]) (N := ["_law_script", "_law_cells", "_law_cell"]) (sc := defScope sDeck) (by decide +kernel)) (fun _ _ _ _ _ => pg_name (i := 2) scDeck.nd rfl (Or.inl rfl)) (fun _ _ _ _ _ => pts_nil)
        (fun _ _ _ _ _ => pe_callB call_abs (by rfl) mabs (by decide +kernel) (pa_cons (pv 2) pa_nil)))
      (pss_one (ps_ret (pe_lst (pa_cons
        (pe_lc (own := [("_law_cell", 2)]) (g := gName 2) (by rfl) scDeck.nd (pi_list (pv 1))
          (blkOk_by (own := [("_law_cell", 2)]) (N := ["_law_script", "_law_cells", "_law_cell"]) (sc := defScope sDeck) (by decide +kernel)) (fun _ _ _ _ _ => pg_name (i := 2) scDeck.nd rfl (Or.inl rfl))
          (fun _ _ _ _ _ => pts_one (pt_cmpR op_ge (pv 2) (pe_op op_pow pe_int pe_int) (nomark _)))
          (fun _ _ _ _ _ => pv 2))
        (pa_cons (pe_op op_cat (pv 1) (pe_lst (pa_cons (pe_op op_add (pe_callB call_len_seq (by rfl) mlen PySem.boot_len (pa_cons (pv 1) pa_nil)) pe_int) pa_nil)))
        (pa_cons pe_int pa_nil)))))), ?_⟩
    refine ⟨.ref a, rfl, a, rfl, ⟨_, hS⟩, fun D hD => lc_list (K := K) (a := a) (xs := ns.map V.int) (fun i H1 => Same H H1 ∧ ∃ zs : List Int, zs.length ≤ i ∧ H1 D = some (.lst (zs.map V.int))) ⟨same_upd hD, [], Nat.zero_le _, upd_same⟩ (fun i H1 _ h => h.1.seq hS) (fun i x H1 hx h => ?_) (fun H1 h => ?_)⟩
    · obtain ⟨sm, zs, hz, hd⟩ := h
      obtain ⟨z, hz1, rfl⟩ : ∃ z, ns[i]? = some z ∧ x = .int z := by
        rw [List.getElem?_map] at hx
        cases e : ns[i]? with
        | none => rw [e] at hx; cases hx
        | some z => rw [e] at hx; exact ⟨z, rfl, (Option.some.inj hx).symm⟩
      have hi : i < ns.length := (List.getElem?_eq_some_iff.mp hz1).1
      refine ⟨rfl, .int z, rfl, z, rfl, _, hd, ?_, same_upd2 sm hD, zs ++ [if z < 0 then -z else z], ?_, ?_⟩
      · rw [List.length_map]
        exact small1000 (by omega)
      · rw [List.length_append]
        show zs.length + 1 ≤ i + 1
        omega
      · rw [upd_same, List.map_append]
        rfl
    · obtain ⟨sm, zs, hz, hd⟩ := h
      rw [List.length_map] at hz
      refine ⟨.ref D, rfl, D, rfl, ⟨_, sqL hd⟩, fun p hp => lc_list (K := K) (a := D) (xs := zs.map V.int) (fun i H2 => Same H1 H2 ∧ ∃ ys : List Int, ys.length ≤ i ∧ H2 p = some (.lst (ys.map V.int))) ⟨same_upd hp, [], Nat.zero_le _, upd_same⟩ (fun i H2 _ h => h.1.seq (sqL hd)) (fun i x H2 hx h => ?_) (fun H2 h => ?_)⟩
      · obtain ⟨sm2, ys, hy, hd2⟩ := h
        obtain ⟨z, hz1, rfl⟩ : ∃ z, zs[i]? = some z ∧ x = .int z := by
          rw [List.getElem?_map] at hx
          cases e : zs[i]? with
          | none => rw [e] at hx; cases hx
          | some z => rw [e] at hx; exact ⟨z, rfl, (Option.some.inj hx).symm⟩
        have hi : i < zs.length := (List.getElem?_eq_some_iff.mp hz1).1
        refine ⟨rfl, .int z, rfl, 10, 18, rfl, rfl, ⟨by decide, by decide, by decide⟩, _, _, rfl, rfl, _, rfl, ite2 (fun _ => ?_) (fun _ => ?_)⟩
        · refine ⟨.int z, rfl, _, hd2, ?_, same_upd2 sm2 hp, ys ++ [z], ?_, ?_⟩
          · rw [List.length_map]
            exact small1000 (by omega)
          · rw [List.length_append]
            show ys.length + 1 ≤ i + 1
            omega
          · rw [upd_same, List.map_append]
            rfl
        · exact ⟨sm2, ys, by omega, hd2⟩
      · obtain ⟨sm2, ys, hy, hd2⟩ := h
        have hD2 : H2 D = some (.lst (zs.map V.int)) := sm2 _ _ hd
        rw [List.length_map] at hy
        refine ⟨.ref D, rfl, .ref D, rfl, D, _, rfl, .inl (sqL hD2), _, _, rfl, rfl, by show 1 ≤ sizeLine; decide, fun t ht => ?_⟩
        have nDt : D ≠ t := ne_of_none hD2 ht
        refine ⟨D, t, _, _, rfl, rfl, (by rw [upd_ne nDt]; exact hD2), upd_same, ?_, fun q' hq' => ?_⟩
        · rw [List.length_map]
          show zs.length + 1 ≤ sizeLine
          exact Nat.le_of_lt (small1000 (by omega))
        · have e : zs.map V.int ++ [V.int (((zs.map V.int).length : Int) + 5)] = (zs ++ [((zs.map V.int).length : Int) + 5]).map V.int := by
            rw [List.map_append]
            rfl
          refine ⟨by show 3 ≤ sizeLine; decide, fun d hd' => q _ d p q' ?_ ⟨ys.length, ⟨⟨ys, zs ++ [((zs.map V.int).length : Int) + 5], 0, upd_same, ?_, ?_, Int.le_refl _, Int.le_refl _, by simp, rfl⟩, ?_, ?_, ?_⟩⟩⟩
          · exact (sm.trans sm2).trans ((same_upd ht).trans ((same_upd hq').trans (same_upd hd')))
          · exact ((same_upd ht).trans ((same_upd hq').trans (same_upd hd'))) _ _ hd2
          · rw [← e]
            exact (same_upd hd') _ _ upd_same
          · exact (ne_of_none (((same_upd ht).trans (same_upd hq')) _ _ hd2) hd').symm
          · exact (ne_of_none (upd_same (H := upd H2 t _)) hd').symm
          · exact ne_of_none ((same_upd ht) _ _ hd2) hq'
end
end TR
namespace TR
open PySem PySem.Spec PyProof.Rows L2
theorem scNext : FnScope ["_law_deck_here", "_law_many", "_law_rest", "_law_cell", "_law_mixed"] ["_law_deck_here", "_law_many"] (defScope sNext) := ⟨rfl, rfl, rfl, by decide +kernel, rfl, by decide +kernel, by decide +kernel⟩
theorem ixN_zero {n : Nat} (h : 0 < n) : ixN n 0 = some 0 := by
  unfold ixN
  rw [if_pos (Int.le_refl _), if_pos (by omega)]
  rfl
section
variable {P : Program} {w : World} {K : PySem.W.Frag} {mg : Str → Option Value} {base : Heap}
def spNext : Sp := fun vs H Q _ => ∃ (d p q : Addr) (n : Nat) (m : Int), vs = [.ref d, .int m] ∧ Deck H d p q n ∧ n ≤ 1000000 ∧ 0 < m ∧ m ≤ 1000000000000 ∧
  ∀ H' r, 0 ≤ r → r < m → Deck H' d p q (n + 1) → Keep d p H H' → Q (.int r) H'
theorem ok_next {f : Addr} {fd : FuncData} {k : Nat} (F : Fun K "_law_next" "_law_next" sNext f fd) (mlen : mg "len" = none) : FnOk P w K mg base CX0 (k + 1) f fd ["_law_deck_here", "_law_many"] spNext := by
  refine F.ok scNext (fun vs H Q E h => ?_) (fun cdv A outer s H vs Q E hr h => ?_)
  · obtain ⟨d, p, q, n, m, rfl, _⟩ := h
    rfl
  · obtain ⟨d, p, q, n, m, rfl, ⟨l0, D0⟩, hn, hm0, hm1, qq⟩ := h
    refine ⟨_, pss_cons (ps_while PassesOwn.never (pt_cmpR (op_neD hr.units) (pe_ix ix_list (pv 0) pe_int (fun _ _ => rfl)) (pe_lst pa_nil) (nomark _))
        (pss_cons (ps_set (i := 2) scNext.nd rfl (.inl rfl) (pe_ix ix_list (pe_ix ix_list (pv 0) pe_int (fun _ _ => rfl)) pe_int (fun _ _ => rfl)))
        (pss_cons (ps_if (pt_cmpR op_gt (pv 2) pe_int (nomark _))
          (pss_cons (ps_asg (pe_op op_fdivW (pv 2) (pv 1)) (pg_sub (pe_ix ix_list (pv 0) pe_int (fun _ _ => rfl)) pe_int set_list))
          (pss_one (ps_ret (pe_op op_mod (pv 2) (pv 1))))) pss_nil)
        (pss_one (ps_expr (pe_bm PySem.F.plainAttrs_list PySem.F.slot_list_pop PySem.F.type_list_pop mt_popAt (pe_ix ix_list (pv 0) pe_int (fun _ _ => rfl)) (pa_cons pe_int pa_nil)))))))
      (pss_cons (ps_asg (pe_op op_add (pe_ix ix_list (pv 0) pe_int (fun _ _ => rfl)) pe_int) (pg_sub (pv 0) pe_int set_list))
      (pss_cons (ps_set (i := 3) scNext.nd rfl (.inl rfl) (pe_op op_mod (pe_ix ix_list (pe_ix ix_list (pv 0) pe_int (fun _ _ => rfl)) (pe_op op_mod (pe_ix ix_list (pv 0) pe_int (fun _ _ => rfl)) (pe_callB call_len_seq (by rfl) mlen PySem.boot_len (pa_cons (pe_ix ix_list (pv 0) pe_int (fun _ _ => rfl)) pa_nil))) (fun _ _ => rfl)) pe_int))
      (pss_cons (ps_set (i := 4) scNext.nd rfl (.inl rfl) (pe_op op_add (pe_op op_add (pe_op op_mul (pv 3) (pe_op op_add pe_int (pe_op op_mul pe_int (pe_ix ix_list (pv 0) pe_int (fun _ _ => rfl))))) (pe_op op_mul (pe_op op_mul pe_int (pe_ix ix_list (pv 0) pe_int (fun _ _ => rfl))) (pe_ix ix_list (pv 0) pe_int (fun _ _ => rfl)))) pe_int))
      (pss_cons (ps_set (i := 4) scNext.nd rfl (.inl rfl) (pe_op op_mod (pv 4) pe_int))
      (pss_one (ps_ret (pe_op op_mod (pe_op op_fdiv (pe_op op_mod (pe_op op_mul (pv 4) (pv 4)) pe_int) pe_int) (pv 1)))))))), ?_⟩
    refine ⟨fun l σ H1 => ∃ y2, σ = [some (.ref d), some (.int m), y2, none, none] ∧ DeckL H1 d p q n l ∧ Keep d p H H1, ⟨l0, none, rfl, D0, Keep.refl _ _ _⟩, fun l σ H1 hW => ?_⟩
    obtain ⟨y2, rfl, ⟨⟨xs, cs, c, h1, h2, h3, h4, h5, h6, h7⟩, ndp, ndq, npq⟩, kp⟩ := hW
    refine ⟨.ref d, rfl, d, _, 0, .ref p, rfl, rfl, sqL h1, rfl, Nat.zero_le _, fun e he => ?_⟩
    have hp1 : upd H1 e (.lst []) p = some (.lst (xs.map V.int)) := by
      rw [upd_ne (ne_of_none h2 he)]
      exact h2
    have hd1 : upd H1 e (.lst []) d = some (.lst [.ref p, .ref q, .int c]) := by
      rw [upd_ne (ne_of_none h1 he)]
      exact h1
    have hq1 : upd H1 e (.lst []) q = some (.lst (cs.map V.int)) := by
      rw [upd_ne (ne_of_none h3 he)]
      exact h3
    have kp1 : Keep d p H (upd H1 e (.lst [])) := kp.trans (Same.keep (same_upd he))
    refine ⟨_, _, .lst (sqL hp1) (dpAll_ints xs), .lst (sqL upd_same) .nil, shaped_ints xs, rfl, _, rfl, ?_⟩
    rw [eqv_nil]
    cases xs with
    | cons x r =>
      refine iteT ?_
      refine ⟨fun σ H2 => ∃ y2, σ = [some (.ref d), some (.int m), y2, none, none] ∧ DeckL H2 d p q n r.length ∧ Keep d p H H2, fun σ' H' hN => ⟨r.length, by rw [← h7]; exact Nat.lt_succ_self _, hN⟩, ?_⟩
      refine ⟨.ref d, rfl, d, _, 0, .ref p, rfl, rfl, sqL hd1, rfl, p, _, 0, .int x, rfl, rfl, sqL hp1, atI_nat (j := 0) rfl, ?_⟩
      refine ⟨.int x, rfl, x, 0, rfl, rfl, _, rfl, ite2 (fun hx => ?_) (fun hx => ?_)⟩
      · refine ⟨.int x, rfl, .int m, rfl, x, m, rfl, rfl, wide_div (b := 41) hm0 (by show m.natAbs < 2199023255552; omega) (by decide) (by decide), .ref d, rfl, d, _, 0, .ref p, rfl, rfl, sqL hd1, rfl, p, _, 0, 0, rfl, rfl, hp1, ixN_zero (by simp), ?_⟩
        refine ⟨.int x, rfl, .int m, rfl, x, m, rfl, rfl, hm0, qq _ _ (Int.emod_nonneg _ (by omega)) (Int.emod_lt_of_pos _ hm0) ?_ (keep_upd kp1 (.inr rfl))⟩
        refine ⟨r.length + 1, ⟨⟨(x / m) :: r, cs, c, ?_, upd_same, ?_, h4, by omega, h6, rfl⟩, ndp, ndq, npq⟩⟩
        · rw [upd_ne ndp]
          exact hd1
        · rw [upd_ne npq.symm]
          exact hq1
      · refine ⟨.ref d, rfl, d, _, 0, .ref p, rfl, rfl, sqL hd1, rfl, .inl ⟨rfl, _, sqL hp1⟩, p, _, 0, 0, .int x, rfl, rfl, hp1, by decide, by decide, ?_, rfl, ?_⟩
        · show seqIndex? 0 ((V.int x :: r.map V.int).length) = some 0
          unfold seqIndex?
          simp
        · refine ⟨some (.int x), rfl, ⟨⟨r, cs, c, ?_, upd_same, ?_, h4, h5, h6, rfl⟩, ndp, ndq, npq⟩, keep_upd kp1 (.inr rfl)⟩
          · rw [upd_ne ndp]
            exact hd1
          · rw [upd_ne npq.symm]
            exact hq1
    | nil =>
      refine iteF ?_
      refine ⟨.ref d, rfl, d, _, 2, .int c, rfl, rfl, sqL hd1, rfl, c, 1, rfl, rfl, .ref d, rfl, d, _, 2, 2, rfl, rfl, hd1, rfl, ?_⟩
      have kp2 : Keep d p H (upd (upd H1 e (.lst [])) d (.lst [.ref p, .ref q, .int (c + 1)])) := keep_upd kp1 (.inl rfl)
      have hq2 : upd (upd H1 e (.lst [])) d (.lst [.ref p, .ref q, .int (c + 1)]) q = some (.lst (cs.map V.int)) := by
        rw [upd_ne ndq.symm]
        exact hq1
      have hp2 : upd (upd H1 e (.lst [])) d (.lst [.ref p, .ref q, .int (c + 1)]) p = some (.lst (([] : List Int).map V.int)) := by
        rw [upd_ne ndp.symm]
        exact hp1
      have hd2 : upd (upd H1 e (.lst [])) d (.lst [.ref p, .ref q, .int (c + 1)]) d = some (.lst [.ref p, .ref q, .int (c + 1)]) := upd_same
      have hcl : 0 < (cs.map V.int).length := by
        rw [List.length_map]
        exact List.length_pos_iff.mpr h6
      have hcl' : (0 : Int) < ((cs.map V.int).length : Int) := by omega
      have b0 : 0 ≤ (c + 1) % ((cs.map V.int).length : Int) := Int.emod_nonneg _ (by omega)
      have b1 : (c + 1) % ((cs.map V.int).length : Int) < ((cs.map V.int).length : Int) := Int.emod_lt_of_pos _ hcl'
      obtain ⟨j, hj⟩ := Int.eq_ofNat_of_zero_le b0
      have hjl : j < cs.length := by
        rw [List.length_map] at b1 hj
        omega
      have ga : (cs.map V.int)[j]? = some (.int cs[j]) := by
        rw [List.getElem?_map, List.getElem?_eq_getElem hjl]
        rfl
      have gb : atI (cs.map V.int) ((c + 1) % ((cs.map V.int).length : Int)) = some (.int cs[j]) := by
        rw [hj]
        exact atI_nat ga
      refine ⟨.ref d, rfl, d, _, 1, .ref q, rfl, rfl, sqL hd2, rfl, .ref d, rfl, d, _, 2, .int (c + 1), rfl, rfl, sqL hd2, rfl, .ref d, rfl, d, _, 1, .ref q, rfl, rfl, sqL hd2, rfl, q, _, rfl, .inl (sqL hq2), _, _, rfl, rfl, hcl', q, _, _, _, rfl, rfl, sqL hq2, gb, _, _, rfl, rfl, by show (0 : Int) < 2147483647; decide, ?_⟩
      have e1 : (0 : Int) ≤ cs[j] % 2147483647 := Int.emod_nonneg _ (by decide)
      have e2 : cs[j] % 2147483647 < 2147483647 := Int.emod_lt_of_pos _ (by decide)
      refine ⟨.int (cs[j] % 2147483647), rfl, .ref d, rfl, d, _, 2, .int (c + 1), rfl, rfl, sqL hd2, rfl, 48271, _, rfl, rfl, .inl ⟨by decide, by decide⟩, _, _, rfl, rfl, cs[j] % 2147483647, _, rfl, rfl, .inl ⟨by show -(2 : Int) ^ 64 < cs[j] % 2147483647; omega, by show cs[j] % 2147483647 < (2 : Int) ^ 64; omega⟩,
        .ref d, rfl, d, _, 2, .int (c + 1), rfl, rfl, sqL hd2, rfl, 30011, _, rfl, rfl, .inl ⟨by decide, by decide⟩, .ref d, rfl, d, _, 2, .int (c + 1), rfl, rfl, sqL hd2, rfl, _, _, rfl, rfl, .inr ⟨by show -(2 : Int) ^ 64 < c + 1; omega, by show c + 1 < (2 : Int) ^ 64; omega⟩, _, _, rfl, rfl, _, _, rfl, rfl, ?_⟩
      refine ⟨_, rfl, _, _, rfl, rfl, by show (0 : Int) < 2147483629; decide, ?_⟩
      have e3 : (0 : Int) ≤ (cs[j] % 2147483647 * (69621 + 48271 * (c + 1)) + 30011 * (c + 1) * (c + 1) + 47) % 2147483629 := Int.emod_nonneg _ (by decide)
      have e4 : (cs[j] % 2147483647 * (69621 + 48271 * (c + 1)) + 30011 * (c + 1) * (c + 1) + 47) % 2147483629 < 2147483629 := Int.emod_lt_of_pos _ (by decide)
      refine ⟨.int ((cs[j] % 2147483647 * (69621 + 48271 * (c + 1)) + 30011 * (c + 1) * (c + 1) + 47) % 2147483629), rfl, .int ((cs[j] % 2147483647 * (69621 + 48271 * (c + 1)) + 30011 * (c + 1) * (c + 1) + 47) % 2147483629), rfl, _, _, rfl, rfl, .inl ⟨by show -(2 : Int) ^ 64 < (cs[j] % 2147483647 * (69621 + 48271 * (c + 1)) + 30011 * (c + 1) * (c + 1) + 47) % 2147483629; omega, by show (cs[j] % 2147483647 * (69621 + 48271 * (c + 1)) + 30011 * (c + 1) * (c + 1) + 47) % 2147483629 < (2 : Int) ^ 64; omega⟩, _, _, rfl, rfl, by show (0 : Int) < 2147483587; decide, _, _, rfl, rfl, ⟨by decide, by decide⟩, .int m, rfl, _, m, rfl, rfl, hm0, ?_⟩
      exact qq _ _ (Int.emod_nonneg _ (by omega)) (Int.emod_lt_of_pos _ hm0) ⟨0, ⟨[], cs, c + 1, hd2, hp2, hq2, by omega, by omega, h6, rfl⟩, ndp, ndq, npq⟩ kp2
end
end TR
namespace TR
open PySem PySem.Spec PyProof.Rows L2
/-! ### rankings in the heap -/
def Tp (H : Hp) (a : Addr) (ns : List Int) : Prop := ∃ o : Obj, o.dict = none ∧ H a = some (.frz o (.tup (ns.map V.int)))
theorem Tp.sq {K : PySem.W.Frag} {H : Hp} {a : Addr} {ns : List Int} (t : Tp H a ns) : SqT K H a (ns.map V.int) := by
  obtain ⟨o, _, h⟩ := t
  exact .inl (.inr ⟨o, h⟩)
theorem Tp.same {H H' : Hp} {a : Addr} {ns : List Int} (t : Tp H a ns) (s : Same H H') : Tp H' a ns := by
  obtain ⟨o, d, h⟩ := t
  exact ⟨o, d, s _ _ h⟩
theorem Tp.keep {H H' : Hp} {a d p q : Addr} {n : Nat} {ns : List Int} (t : Tp H a ns) (D : Deck H d p q n) (s : Keep d p H H') : Tp H' a ns := by
  obtain ⟨o, hd, h⟩ := t
  obtain ⟨x, y, c, e1⟩ := D.hd
  obtain ⟨xs, e2⟩ := D.hp
  exact ⟨o, hd, s _ _ h (ne_of h e1 (by intro z; cases z)) (ne_of h e2 (by intro z; cases z))⟩
theorem Tp.new {H : Hp} {a : Addr} {ns : List Int} {o : Obj} (h : o.dict = none) : Tp (upd H a (.frz o (.tup (ns.map V.int)))) a ns := ⟨o, h, upd_same⟩
/-! ### tuples, written or made -/
theorem rdT_same {H H' : Hp} {a : Addr} {u : HO} (h : Rd H a u) (s : Same H H') : Rd H' a u := by
  rcases h with h | ⟨o, h⟩
  · exact .inl (s _ _ h)
  · exact .inr ⟨o, s _ _ h⟩
theorem rdT_keep {H H' : Hp} {a d p q : Addr} {n : Nat} {xs : List V} (h : Rd H a (.tup xs)) (D : Deck H d p q n) (s : Keep d p H H') : Rd H' a (.tup xs) := by
  obtain ⟨x, y, c, e1⟩ := D.hd
  obtain ⟨zs, e2⟩ := D.hp
  rcases h with h | ⟨o, h⟩
  · exact .inl (s _ _ h (ne_of h e1 (by intro z; cases z)) (ne_of h e2 (by intro z; cases z)))
  · exact .inr ⟨o, s _ _ h (ne_of h e1 (by intro z; cases z)) (ne_of h e2 (by intro z; cases z))⟩
theorem rdT_updl {H : Hp} {a D : Addr} {us xs ys : List V} (h : Rd H a (.tup us)) (e : H D = some (.lst xs)) : Rd (upd H D (.lst ys)) a (.tup us) := by
  rcases h with h | ⟨o, h⟩
  · exact .inl (by rw [upd_ne (ne_of h e (by intro z; cases z))]; exact h)
  · exact .inr ⟨o, by rw [upd_ne (ne_of h e (by intro z; cases z))]; exact h⟩
/-! ### lists of pairs -/
inductive Prs (H : Hp) : List V → List (Int × Int) → Prop
  | nil : Prs H [] []
  | cons {q : Addr} {a b : Int} {vs : List V} {ps : List (Int × Int)} : Rd H q (.tup [.int a, .int b]) → Prs H vs ps → Prs H (.ref q :: vs) ((a, b) :: ps)
theorem Prs.same {H H' : Hp} {vs : List V} {ps : List (Int × Int)} (h : Prs H vs ps) (s : Same H H') : Prs H' vs ps := by
  induction h with
  | nil => exact .nil
  | cons e _ ih => exact .cons (rdT_same e s) ih
theorem Prs.upd_lst {H : Hp} {vs : List V} {ps : List (Int × Int)} {D : Addr} {xs ys : List V} (h : Prs H vs ps) (e : H D = some (.lst xs)) : Prs (upd H D (.lst ys)) vs ps := by
  induction h with
  | nil => exact .nil
  | cons e2 _ ih => exact .cons (rdT_updl e2 e) ih
theorem Prs.append {H : Hp} {vs ws : List V} {ps qs : List (Int × Int)} (h : Prs H vs ps) (g : Prs H ws qs) : Prs H (vs ++ ws) (ps ++ qs) := by
  induction h with
  | nil => exact g
  | cons e _ ih => exact .cons e ih
theorem Prs.len {H : Hp} {vs : List V} {ps : List (Int × Int)} (h : Prs H vs ps) : vs.length = ps.length := by
  induction h with
  | nil => rfl
  | cons _ _ ih => rw [List.length_cons, List.length_cons, ih]
theorem Prs.get {H : Hp} {vs : List V} {ps : List (Int × Int)} (h : Prs H vs ps) : ∀ {i : Nat} {x : V}, vs[i]? = some x → ∃ q a b, x = .ref q ∧ ps[i]? = some (a, b) ∧ Rd H q (.tup [.int a, .int b]) := by
  induction h with
  | nil => intro i x e; simp at e
  | cons e _ ih =>
    intro i x g
    cases i with
    | zero => exact ⟨_, _, _, (Option.some.inj g).symm, rfl, e⟩
    | succ i => exact ih g
def pd (p : Int × Int) : PyData := .tuple [.int p.1, .int p.2]
theorem Prs.dp {K : PySem.W.Frag} {H : Hp} {vs : List V} {ps : List (Int × Int)} (h : Prs H vs ps) : DpAll K H vs (ps.map pd) := by
  induction h with
  | nil => exact .nil
  | cons e _ ih => exact .cons (.tup (.inl e) (.cons (.int _) (.cons (.int _) .nil))) ih
/-- a walk over a range inside a comprehension, by a word over heaps -/
theorem walk_in {n : Nat} {lo : Int} {H4 : Hp} {Nx : Hp → Prop} {B : V → Hp → (Hp → Prop) → Prop} (Pv : Nat → Hp → Prop) (h0 : Pv 0 H4) (hs : ∀ j H, j < n → Pv j H → B (.int (lo + (j : Int))) H (Pv (j + 1))) (hd : ∀ H, Pv n H → Nx H) :
    ∃ W : Nat → Nat → Hp → Prop, (∃ m, W 0 m H4) ∧ ∀ j k H, W j k H → ((Itr lo n).stop j H ∧ Nx H) ∨ ((Itr lo n).go j H ∧ ∃ N : Hp → Prop, (∀ H', N H' → ∃ k', k' < k ∧ W (j + 1) k' H') ∧ ∀ x H', (Itr lo n).yld j H x H' → B x H' N) := by
  refine ⟨fun j k H => k = n - j ∧ j ≤ n ∧ Pv j H, ⟨n, by simp, Nat.zero_le _, h0⟩, ?_⟩
  rintro j k H ⟨rfl, hj, p⟩
  by_cases hlt : j < n
  · refine .inr ⟨hlt, Pv (j + 1), fun H' p' => ⟨n - (j + 1), by omega, rfl, hlt, p'⟩, fun x H' y => ?_⟩
    obtain ⟨e, e2⟩ := y
    subst e e2
    exact hs j _ hlt p
  · have e : j = n := by omega
    subst e
    exact .inl ⟨Nat.le_refl _, hd H p⟩
end TR
namespace TR
open PySem PySem.Spec PyProof.Rows L2
theorem scList : FnScope ["_law_deck_here", "_law_dishes", "_law_left", "_law_found"] ["_law_deck_here", "_law_dishes"] (defScope sList) := ⟨rfl, rfl, rfl, by decide +kernel, rfl, by decide +kernel, by decide +kernel⟩
theorem keep_fresh {d p x : Addr} {H H1 : Hp} {o : HO} (a : Keep d p H H1) (h : H x = none) : Keep d p H (upd H1 x o) := fun c u e n m => by
  rw [upd_ne (ne_of_none e h)]
  exact a c u e n m
theorem Deck.upd {H : Hp} {d p q x : Addr} {n : Nat} {o : HO} (D : Deck H d p q n) (h1 : x ≠ d) (h2 : x ≠ p) (h3 : x ≠ q) : Deck (upd H x o) d p q n := by
  obtain ⟨m, ⟨xs, cs, c, e1, e2, e3, e4⟩, a, b, e⟩ := D
  exact ⟨m, ⟨xs, cs, c, by rw [upd_ne h1.symm]; exact e1, by rw [upd_ne h2.symm]; exact e2, by rw [upd_ne h3.symm]; exact e3, e4⟩, a, b, e⟩
theorem Deck.hq {H : Hp} {d p q : Addr} {n : Nat} (D : Deck H d p q n) : ∃ xs : List Int, H q = some (.lst (xs.map V.int)) := by
  obtain ⟨m, ⟨xs, cs, c, h1, h2, h3, _⟩, _⟩ := D
  exact ⟨_, h3⟩
theorem Deck.neq {H : Hp} {d p q : Addr} {n : Nat} (D : Deck H d p q n) {b : Addr} (h : H b = none) : b ≠ q := by
  obtain ⟨x, e⟩ := D.hq
  exact (ne_of_none e h).symm
theorem rgV_rng (n : Nat) : rgV 0 (n : Int) = (rng n).map V.int := by
  unfold rgV rng
  rw [List.map_map, show ((n : Int) - 0).toNat = n by omega]
  refine congrArg (fun g => (List.range n).map g) (funext fun i => ?_)
  show V.int (0 + (i : Int)) = V.int (i : Int)
  rw [Int.zero_add]
theorem erase_map {α β : Type} (f : α → β) : ∀ (l : List α) (j : Nat), (l.map f).eraseIdx j = (l.eraseIdx j).map f
  | [], _ => rfl
  | _ :: _, 0 => rfl
  | x :: r, j + 1 => by
    show f x :: (r.map f).eraseIdx j = f x :: (r.eraseIdx j).map f
    rw [erase_map f r j]
theorem seq_nat {j n : Nat} (h : j < n) : seqIndex? (j : Int) n = some j := by
  unfold seqIndex?
  rw [if_neg (show ¬ ((j : Int) < 0) by omega)]
  simp [h]
section
variable {P : Program} {w : World} {K : PySem.W.Frag} {mg : Str → Option Value} {base : Heap}
/-! ### _law_list -/
def spList : Sp := fun vs H Q _ => ∃ (d p q : Addr) (c n : Nat), vs = [.ref d, .int (n : Int)] ∧ Deck H d p q c ∧ c + n ≤ 1000000 ∧ n ≤ 8 ∧
  ∀ H' t ns, Rank n ns → Deck H' d p q (c + n) → Keep d p H H' → Tp H' t ns → Q (.ref t) H'
theorem ok_list {f fN : Addr} {fd fdN : FuncData} {k : Nat} (F : Fun K "_law_list" "_law_list" sList f fd) (FN : Fun K "_law_next" "_law_next" sNext fN fdN) (bN : Binds K fdN ["_law_deck_here", "_law_many"] []) (gN : mg "_law_next" = some (.ref fN))
    (GN : FnOk P w K mg base CX0 (k + 1) fN fdN ["_law_deck_here", "_law_many"] spNext) (mr : mg "range" = none) (ml : mg "list" = none) (mlen : mg "len" = none) (mt : mg "tuple" = none) : FnOk P w K mg base CX0 (k + 2) f fd ["_law_deck_here", "_law_dishes"] spList := by
  refine F.ok scList (fun vs H Q E h => ?_) (fun cdv A outer s H vs Q E hr h => ?_)
  · obtain ⟨d, p, q, c, n, rfl, _⟩ := h
    rfl
  · obtain ⟨d, p, q, c, n, rfl, D0, hc, hn, qq⟩ := h
    refine ⟨_, pss_cons (ps_par (i := 2) (j := 3) (by rfl) scList.nd rfl rfl (by decide) rfl rfl (pa_cons (pe_listRg (by rfl) (by rfl) ml (prg_1 (by rfl) mr (pv 1))) (pa_cons (pe_lst pa_nil) pa_nil)) (by rfl))
      (pss_cons (ps_while PassesOwn.never (pt_cmpR (op_neD hr.units) (pv 2) (pe_lst pa_nil) (nomark _))
        (pss_one (ps_expr (pe_bm PySem.F.plainAttrs_list PySem.F.slot_list_append PySem.F.type_list_append mt_append (pv 3) (pa_cons
          (pe_bm PySem.F.plainAttrs_list PySem.F.slot_list_pop PySem.F.type_list_pop mt_popAt (pv 2) (pa_cons
            (pe_call GN hr (by rfl) gN FN.kp bN .nil pass0 (pa_cons (pv 0) (pa_cons (pe_callB call_len_seq (by rfl) mlen PySem.boot_len (pa_cons (pv 2) pa_nil)) pa_nil))) pa_nil)) pa_nil)))))
      (pss_one (ps_ret (pe_callTy call_tupleF (by rfl) mt (by decide +kernel) (pa_cons (pv 3) pa_nil))))), ?_⟩
    refine ⟨.int (n : Int), rfl, n, rfl, RgOk.of_le (by omega) (by omega) (by omega) (by omega), fun l hl => ⟨Nat.zero_le _, fun g hg => ⟨.ref l, .ref g, rfl, ?_⟩⟩⟩
    rw [rgV_rng] at hg ⊢
    have hg0 : H g = none := (same_upd hl).free hg
    have nlg : l ≠ g := ne_of_none (upd_same (H := H)) hg
    refine ⟨fun m σ H1 => σ = [some (.ref d), some (.int (n : Int)), some (.ref l), some (.ref g)] ∧ ∃ left found : List Int, H1 l = some (.lst (left.map V.int)) ∧ H1 g = some (.lst (found.map V.int)) ∧ left.length = m ∧ m ≤ n ∧ (left ++ found).Perm (rng n) ∧ Deck H1 d p q (c + (n - m)) ∧ Keep d p H H1,
      ⟨n, rfl, rng n, [], ?_, upd_same, rng_len n, Nat.le_refl _, by rw [List.append_nil], ?_, ?_⟩, fun m σ H1 hW => ?_⟩
    · rw [upd_ne nlg, upd_same]
    · rw [Nat.sub_self]
      exact (D0.same (same_upd hl)).same (same_upd hg)
    · exact Same.keep ((same_upd hl).trans (same_upd hg))
    · obtain ⟨rfl, left, found, h1, h2, h3, h4, h5, D1, kp⟩ := hW
      refine ⟨.ref l, rfl, Nat.zero_le _, fun e he => ?_⟩
      have sE : Same H1 (upd H1 e (.lst [])) := same_upd he
      refine ⟨_, _, .lst (sqL (sE _ _ h1)) (dpAll_ints left), .lst (sqL upd_same) .nil, shaped_ints left, rfl, _, rfl, ?_⟩
      rw [eqv_nil]
      have kp1 : Keep d p H (upd H1 e (.lst [])) := kp.trans (Same.keep sE)
      have D2 := D1.same sE
      have h1' := sE _ _ h1
      have h2' := sE _ _ h2
      generalize upd H1 e (.lst []) = H2 at h1' h2' D2 kp1 ⊢
      cases left with
      | cons x r =>
        refine iteT ?_
        refine ⟨fun σ H' => σ = [some (.ref d), some (.int (n : Int)), some (.ref l), some (.ref g)] ∧ ∃ left found : List Int, H' l = some (.lst (left.map V.int)) ∧ H' g = some (.lst (found.map V.int)) ∧ left.length = r.length ∧ r.length ≤ n ∧ (left ++ found).Perm (rng n) ∧ Deck H' d p q (c + (n - r.length)) ∧ Keep d p H H',
          fun σ' H' hN => ⟨r.length, by rw [← h3]; exact Nat.lt_succ_self _, hN⟩, ?_⟩
        rw [List.length_cons] at h3
        refine ⟨.ref g, rfl, .inl ⟨rfl, _, sqL h2'⟩, .ref l, rfl, .inl ⟨rfl, _, sqL h1'⟩, .ref d, rfl, .ref l, rfl, l, _, rfl, .inl (sqL h1'), d, p, q, c + (n - m), _, rfl, D2, by omega, ?_, ?_, fun H3 z z0 z1 D3 kp3 => ?_⟩
        · rw [List.length_map, List.length_cons]
          omega
        · rw [List.length_map, List.length_cons]
          omega
        · rw [List.length_map] at z1
          have nld : l ≠ d := D0.ned hl
          have nlp : l ≠ p := D0.nep hl
          have nlq : l ≠ q := D0.neq hl
          have ngd : g ≠ d := D0.ned hg0
          have ngp : g ≠ p := D0.nep hg0
          have ngq : g ≠ q := D0.neq hg0
          have h1'' := kp3 _ _ h1' nld nlp
          have h2'' := kp3 _ _ h2' ngd ngp
          obtain ⟨j, rfl⟩ := Int.eq_ofNat_of_zero_le z0
          have hj : j < (x :: r).length := by omega
          have gj : (x :: r)[j]? = some (x :: r)[j] := List.getElem?_eq_getElem hj
          have hlen : (x :: r).length ≤ n := by
            rw [List.length_cons]
            omega
          refine ⟨l, _, (j : Int), j, .int (x :: r)[j], rfl, rfl, h1'', by omega, by omega, seq_nat (by rw [List.length_map]; exact hj), by rw [List.getElem?_map, gj]; rfl, ?_⟩
          have fl : found.length ≤ n := by
            have e := h5.length_eq
            rw [List.length_append, rng_len] at e
            omega
          refine ⟨g, _, _, rfl, rfl, by rw [upd_ne nlg.symm]; exact h2'', by rw [List.length_map]; exact small1000 (by omega), ?_⟩
          refine ⟨rfl, (x :: r).eraseIdx j, found ++ [(x :: r)[j]], ?_, ?_, ?_, by omega, ?_, ?_, ?_⟩
          · rw [upd_ne nlg, upd_same, erase_map]
          · rw [upd_same, List.map_append]
            rfl
          · rw [List.length_eraseIdx_of_lt hj]
            rfl
          · refine List.Perm.trans ?_ h5
            refine List.Perm.trans ?_ ((perm_erase gj).append_right found)
            refine List.Perm.trans (l₂ := (((x :: r).eraseIdx j) ++ ([(x :: r)[j]] ++ found))) (List.Perm.append_left _ List.perm_append_comm) ?_
            rw [← List.append_assoc]
            exact List.Perm.append_right _ (List.perm_append_comm)
          · refine Deck.mono ((D3.upd nld nlp nlq).upd ngd ngp ngq) ?_
            omega
          · exact keep_fresh (keep_fresh (kp1.trans kp3) hl) hg0
      | nil =>
        refine iteF ?_
        refine ⟨.ref g, rfl, g, _, rfl, sqL h2', fun t o ht ho => qq _ t found h5 ?_ ?_ (Tp.new ho)⟩
        · exact (D2.same (same_upd ht)).mono (by omega)
        · exact kp1.trans (Same.keep (same_upd ht))
end
end TR
namespace TR
open PySem PySem.Spec PyProof.Rows L2
theorem scExch : FnScope ["_law_row", "_law_k"] ["_law_row", "_law_k"] (defScope sExch) := ⟨rfl, rfl, rfl, by decide +kernel, rfl, by decide +kernel, by decide +kernel⟩
theorem cut_to {xs : List V} {k : Nat} (h : k ≤ xs.length) : cutV xs none (some (k : Int)) = xs.take k := by
  unfold cutV
  rw [HT.sIx_none, HT.sIx_nat, Nat.min_eq_left h]
  rfl
theorem cut_from {xs : List V} {k : Nat} : cutV xs (some (k : Int)) none = xs.drop k := by
  unfold cutV
  rw [HT.sIx_none, HT.sIx_nat]
  by_cases h : k ≤ xs.length
  · rw [Nat.min_eq_left h]
    exact List.take_of_length_le (by rw [List.length_drop]; exact Nat.le_refl _)
  · rw [Nat.min_eq_right (by omega), List.drop_of_length_le (Nat.le_refl _), List.drop_of_length_le (by omega), List.take_nil]
section
variable {P : Program} {w : World} {K : PySem.W.Frag} {mg : Str → Option Value} {base : Heap}
/-! ### _law_exchanged -/
def spExch : Sp := fun vs H Q _ => ∃ (a : Addr) (ns : List Int) (n k : Nat), vs = [.ref a, .int (k : Int)] ∧ Tp H a ns ∧ Rank n ns ∧ k + 1 < n ∧ n ≤ 8 ∧
  ∀ H' t, Same H H' → Rank n (swp ns k) → Tp H' t (swp ns k) → Q (.ref t) H'
theorem ok_exch {f : Addr} {fd : FuncData} {k : Nat} (F : Fun K "_law_exchanged" "_law_exchanged" sExch f fd) : FnOk P w K mg base CX0 (k + 1) f fd ["_law_row", "_law_k"] spExch := by
  refine F.ok scExch (fun vs H Q E h => ?_) (fun cdv A outer s H vs Q E hr h => ?_)
  · obtain ⟨a, ns, n, j, rfl, _⟩ := h
    rfl
  · obtain ⟨a, ns, n, j, rfl, ht, hrk, hj, hn, q⟩ := h
    refine ⟨_, pss_one (ps_ret (pe_op op_catF (pe_op op_catF (pe_slice sl_tupF (pv 0) po_none (po_some (pv 1))) (pe_tupF (pa_cons (pe_ix ix_tup (pv 0) (pe_op op_add (pv 1) pe_int) (fun _ _ => rfl)) (pa_cons (pe_ix ix_tup (pv 0) (pv 1) (fun _ _ => rfl)) pa_nil))))
      (pe_slice sl_tupF (pv 0) (po_some (pe_op op_add (pv 1) pe_int)) po_none))), ?_⟩
    have hl : ns.length = n := hrk.len
    have hlm : (ns.map V.int).length = n := by rw [List.length_map]; exact hl
    have j1 : j < ns.length := by omega
    have j2 : j + 1 < ns.length := by omega
    have gx : ns[j]? = some ns[j] := List.getElem?_eq_getElem j1
    have gy : ns[j + 1]? = some ns[j + 1] := List.getElem?_eq_getElem j2
    have vx : atI (ns.map V.int) (j : Int) = some (.int ns[j]) := atI_nat (by rw [List.getElem?_map, gx]; rfl)
    have vy : atI (ns.map V.int) ((j : Int) + 1) = some (.int ns[j + 1]) := by
      have e : ((j : Int) + 1) = ((j + 1 : Nat) : Int) := by omega
      rw [e]
      exact atI_nat (by rw [List.getElem?_map, gy]; rfl)
    refine ⟨.ref a, rfl, .int (j : Int), rfl, (j : Int), rfl, a, _, rfl, ht.sq, fun hw => ?_, fun _ p1 o1 hp1 ho1 => ?_⟩
    · have h2 := hw.2
      rw [HT.sIx_nat, hlm] at h2
      omega
    · rw [cut_to (by rw [hlm]; omega), ← List.map_take] at *
      have s1 : Same H (upd H p1 (.frz o1 (.tup ((ns.take j).map V.int)))) := same_upd hp1
      have t1 : Tp (upd H p1 (.frz o1 (.tup ((ns.take j).map V.int)))) p1 (ns.take j) := Tp.new ho1
      generalize upd H p1 (.frz o1 (.tup ((ns.take j).map V.int))) = H1 at s1 t1 ⊢
      have ht1 := ht.same s1
      refine ⟨.ref a, rfl, .int (j : Int), rfl, (j : Int), 1, rfl, rfl, a, _, _, _, rfl, rfl, ht1.sq, vy, .ref a, rfl, .int (j : Int), rfl, a, _, _, _, rfl, rfl, ht1.sq, vx, by show 2 ≤ sizeLine; decide, fun p2 o2 hp2 ho2 => ?_⟩
      have e2 : [V.int ns[j + 1], V.int ns[j]] = [ns[j + 1], ns[j]].map V.int := rfl
      rw [e2]
      have s2 : Same H1 (upd H1 p2 (.frz o2 (.tup ([ns[j + 1], ns[j]].map V.int)))) := same_upd hp2
      have t2 : Tp (upd H1 p2 (.frz o2 (.tup ([ns[j + 1], ns[j]].map V.int)))) p2 [ns[j + 1], ns[j]] := Tp.new ho2
      generalize upd H1 p2 (.frz o2 (.tup ([ns[j + 1], ns[j]].map V.int))) = H2 at s2 t2 ⊢
      have t12 := t1.same s2
      have s02 := s1.trans s2
      have hperm : Rank n (ns.take j ++ ([ns[j + 1], ns[j]] ++ ns.drop (j + 2))) := (perm_swap gx gy).trans hrk
      have esw : swp ns j = ns.take j ++ ([ns[j + 1], ns[j]] ++ ns.drop (j + 2)) := by
        unfold swp
        rw [getD_of j1, getD_of j2]
      have lt : (ns.take j).length = j := by
        rw [List.length_take]
        omega
      have ld : (ns.drop (j + 2)).length = n - (j + 2) := by rw [List.length_drop, hl]
      have step : ∀ (H3 : Hp) (t3 : Addr), Same H H3 → Tp H3 t3 (ns.take j ++ [ns[j + 1], ns[j]]) → tSl (rSlF K) (tVar 0) (tPart (tOp (rI0 fun i j => .int (i + j)) (tVar 1) (tC (.int 2)))) tNoPart [some (.ref a), some (.int (j : Int))] H3 (fun y H4 => rCatF K (.ref t3) y H4 Q) := by
        intro H3 t3 s3 tp3
        refine ⟨.ref a, rfl, .int (j : Int), rfl, (j : Int), 2, rfl, rfl, _, rfl, a, _, rfl, (ht.same s3).sq, fun hw => ?_, fun _ p4 o4 hp4 ho4 => ?_⟩
        · have h2 := hw.1
          rw [show ((j : Int) + 2) = ((j + 2 : Nat) : Int) by omega, HT.sIx_nat, hlm] at h2
          omega
        · rw [show ((j : Int) + 2) = ((j + 2 : Nat) : Int) by omega, cut_from, ← List.map_drop]
          have s4 : Same H3 (upd H3 p4 (.frz o4 (.tup ((ns.drop (j + 2)).map V.int)))) := same_upd hp4
          have t4 : Tp (upd H3 p4 (.frz o4 (.tup ((ns.drop (j + 2)).map V.int)))) p4 (ns.drop (j + 2)) := Tp.new ho4
          generalize upd H3 p4 (.frz o4 (.tup ((ns.drop (j + 2)).map V.int))) = H4 at s4 t4 ⊢
          have tp4 := tp3.same s4
          refine ⟨t3, p4, _, _, rfl, rfl, tp4.sq, t4.sq, ?_, fun z => ?_, fun _ z => ?_, fun _ _ p5 o5 hp5 ho5 => ?_⟩
          · rw [List.length_map, List.length_map, List.length_append, lt, ld]
            exact Nat.le_of_lt (small1000 (by show j + 2 + (n - (j + 2)) ≤ 1000; omega))
          · rw [List.map_append] at z
            exact absurd (List.append_eq_nil_iff.mp z).2 (by intro w; cases w)
          · have e0 : ns.drop (j + 2) = [] := List.map_eq_nil_iff.mp z
            rw [e0, List.append_nil] at hperm esw
            exact q H4 t3 (s3.trans s4) (esw ▸ hperm) (esw ▸ tp4)
          · rw [← List.map_append]
            rw [← List.append_assoc] at hperm esw
            exact q _ p5 ((s3.trans s4).trans (same_upd hp5)) (esw ▸ hperm) (esw ▸ Tp.new ho5)
      refine ⟨p1, p2, _, _, rfl, rfl, t12.sq, t2.sq, ?_, fun z => step H2 p2 s02 ?_, fun _ z => ?_, fun _ _ p3 o3 hp3 ho3 => ?_⟩
      · rw [List.length_map, List.length_map, lt]
        exact Nat.le_of_lt (small1000 (by show j + 2 ≤ 1000; omega))
      · have e0 : ns.take j = [] := List.map_eq_nil_iff.mp z
        rw [e0]
        exact t2
      · cases z
      · rw [← List.map_append]
        exact step _ p3 (s02.trans (same_upd hp3)) (Tp.new ho3)
end
end TR
namespace TR
open PySem PySem.Spec PyProof.Rows L2
theorem scSame : FnScope ["_law_found", "_law_due", "_law_k"] ["_law_found", "_law_due"] (defScope sSame) := ⟨rfl, rfl, rfl, by decide +kernel, rfl, by decide +kernel, by decide +kernel⟩
/-! ### the same data, at two places -/
def flatX : V → Bool
  | .non => true
  | .bl _ => true
  | .int _ => true
  | .str _ => true
  | _ => false
def Alk (K : PySem.W.Frag) (H : Hp) : Nat → V → V → Prop
  | 0, _, _ => False
  | m + 1, x, y => (flatX x = true ∧ x = y) ∨ ∃ (a b : Addr) (xs ys : List V), x = .ref a ∧ y = .ref b ∧ ((SqL K H a xs ∧ SqL K H b ys) ∨ (SqT K H a xs ∧ SqT K H b ys)) ∧ xs.length = ys.length ∧ xs.length ≤ 1000 ∧
      ∀ (i : Nat) (u v : V), xs[i]? = some u → ys[i]? = some v → Alk K H m u v
theorem Alk.same {K : PySem.W.Frag} {H H' : Hp} (s : Same H H') : ∀ {m : Nat} {x y : V}, Alk K H m x y → Alk K H' m x y
  | 0, _, _, h => h.elim
  | m + 1, x, y, h => by
    rcases h with h | ⟨a, b, xs, ys, ex, ey, hq, h1, h2, h3⟩
    · exact .inl h
    · refine .inr ⟨a, b, xs, ys, ex, ey, ?_, h1, h2, fun i u v hu hv => Alk.same s (h3 i u v hu hv)⟩
      rcases hq with ⟨p, q⟩ | ⟨p, q⟩
      · exact .inl ⟨s.seq p, s.seq q⟩
      · exact .inr ⟨same_seqT s p, same_seqT s q⟩
theorem tyL {K : PySem.W.Frag} {H : Hp} {a : Addr} {xs : List V} (h : SqL K H a xs) : TyX K H (.ref a) (.type "list") := by
  rcases h with (h | ⟨o, h⟩) | ⟨o, its, n, hk, hc, _⟩
  · exact .base (.lst h)
  · exact .base (.frz h)
  · exact .kList hk hc
theorem tyT {K : PySem.W.Frag} {H : Hp} {a : Addr} {xs : List V} (h : SqT K H a xs) : TyX K H (.ref a) (.type "tuple") := by
  rcases h with (h | ⟨o, h⟩) | ⟨o, its, n, hk, hc, _⟩
  · exact .base (.tup h)
  · exact .fTuple h
  · exact .kTuple hk hc
theorem kit_two {K : PySem.W.Frag} {t a b : String} {r1 r2 : Bool} (h1 : kitB t a = some r1) (h2 : kitB t b = some r2) : PySem.W.kitAny K (.type t) [Value.type a, Value.type b] = some (r1 || r2) := by
  unfold PySem.W.kitAny
  rw [kit_ty h1]
  cases r1 with
  | true => rfl
  | false =>
    show PySem.W.kitAny K (.type t) [Value.type b] = some r2
    unfold PySem.W.kitAny
    rw [kit_ty h2]
    cases r2 <;> rfl
def tyF : V → Value
  | .non => .type "NoneType"
  | .bl _ => .type "bool"
  | .int _ => .type "int"
  | _ => .type "str"
theorem tyFlat {K : PySem.W.Frag} {H : Hp} {x : V} (h : flatX x = true) : TyX K H x (tyF x) := by
  cases x with
  | non => exact .base .non
  | bl b => exact .base (.bl b)
  | int i => exact .base (.int i)
  | str z => exact .base (.str z)
  | _ => exact absurd (show false = true from h) Bool.false_ne_true
section
variable {P : Program} {w : World} {K : PySem.W.Frag} {mg : Str → Option Value} {base : Heap}
def spSame (K : PySem.W.Frag) (m : Nat) : Sp := fun vs H Q _ => ∃ x y, vs = [x, y] ∧ Alk K H m x y ∧ ∀ H', Same H H' → Q (.bl true) H'
theorem ok_same {f : Addr} {fd : FuncData} (F : Fun K "_law_same" "_law_same" sSame f fd) (bS : Binds K fd ["_law_found", "_law_due"] []) (gS : mg "_law_same" = some (.ref f))
    (misi : mg "isinstance" = none) (mt : mg "tuple" = none) (ml : mg "list" = none) (mlen : mg "len" = none) (mr : mg "range" = none) (md : mg "dict" = none) (ms : mg "str" = none) (mi : mg "int" = none) (mb : mg "bool" = none) :
    ∀ m, FnOk P w K mg base CX0 m f fd ["_law_found", "_law_due"] (spSame K m)
  | 0 => ⟨fun vs H Q E h => by obtain ⟨x, y, rfl, _⟩ := h; rfl, fun A outer s H args us vs Q E hr he hb hv h => by obtain ⟨x, y, _, h, _⟩ := h; exact h.elim⟩
  | m + 1 => by
    have GS := ok_same F bS gS misi mt ml mlen mr md ms mi mb m
    refine F.ok scSame (fun vs H Q E h => ?_) (fun cdv A outer s H vs Q E hr h => ?_)
    · obtain ⟨x, y, rfl, _⟩ := h
      rfl
    · obtain ⟨x, y, rfl, hal, q⟩ := h
      refine ⟨_, pss_cons (ps_if (pt_val (pe_callB call_isiT (by rfl) misi (by decide +kernel) (pa_cons (pv 1) (pa_cons (pe_tup (pa_cons (pe_bltn (v := .ty "tuple") (by rfl) mt (by decide +kernel) rfl) (pa_cons (pe_bltn (v := .ty "list") (by rfl) ml (by decide +kernel) rfl) pa_nil))) pa_nil))))
          (pss_cons (ps_if (pt_cmpR op_ne (pe_callB call_isi (by rfl) misi (by decide +kernel) (pa_cons (pv 0) (pa_cons (pe_bltn (v := .ty "tuple") (by rfl) mt (by decide +kernel) rfl) pa_nil))) (pe_callB call_isi (by rfl) misi (by decide +kernel) (pa_cons (pv 1) (pa_cons (pe_bltn (v := .ty "tuple") (by rfl) mt (by decide +kernel) rfl) pa_nil))) (nomark _)) (pss_one (ps_ret pe_bl)) pss_nil)
          (pss_cons (ps_if (pt_cmpR op_ne (pe_callB call_isi (by rfl) misi (by decide +kernel) (pa_cons (pv 0) (pa_cons (pe_bltn (v := .ty "list") (by rfl) ml (by decide +kernel) rfl) pa_nil))) (pe_callB call_isi (by rfl) misi (by decide +kernel) (pa_cons (pv 1) (pa_cons (pe_bltn (v := .ty "list") (by rfl) ml (by decide +kernel) rfl) pa_nil))) (nomark _)) (pss_one (ps_ret pe_bl)) pss_nil)
          (pss_cons (ps_if (pt_cmpR op_ne (pe_callB call_len_seq (by rfl) mlen PySem.boot_len (pa_cons (pv 0) pa_nil)) (pe_callB call_len_seq (by rfl) mlen PySem.boot_len (pa_cons (pv 1) pa_nil)) (nomark _)) (pss_one (ps_ret pe_bl)) pss_nil)
          (pss_one (ps_ret (pe_cmpR (op_eqD hr.units) (pe_lc (own := [("_law_k", 2)]) (g := gName 2) (by rfl) scSame.nd (pi_range1 (by rfl) mr (pa_cons (pe_callB call_len_seq (by rfl) mlen PySem.boot_len (pa_cons (pv 1) pa_nil)) pa_nil))
              (blkOk_by (own := [("_law_k", 2)]) (N := ["_law_found", "_law_due", "_law_k"]) (sc := defScope sSame) (by decide +kernel)) (fun _ _ _ _ _ => pg_name (i := 2) scSame.nd rfl (Or.inl rfl))
              (fun _ _ _ _ _ => pts_one (pt_not (pt_val (pe_call GS hr (by rfl) gS F.kp bS .nil pass0 (pa_cons (pe_ix (r := rIx K) ix_seq (pv 0) (pv 2) (fun _ _ => rfl)) (pa_cons (pe_ix (r := rIx K) ix_seq (pv 1) (pv 2) (fun _ _ => rfl)) pa_nil))))))
              (fun _ _ _ _ _ => pv 2)) (pe_lst pa_nil) (nomark _))))))) pss_nil)
        (pss_cons (ps_if (pt_val (pe_callB call_isi (by rfl) misi (by decide +kernel) (pa_cons (pv 1) (pa_cons (pe_bltn (v := .ty "dict") (by rfl) md (by decide +kernel) rfl) pa_nil)))) (pss_one (ps_ret (pe_and (pe_callB call_isi (by rfl) misi (by decide +kernel) (pa_cons (pv 0) (pa_cons (pe_bltn (v := .ty "dict") (by rfl) md (by decide +kernel) rfl) pa_nil))) (pe_one (pe_cmpR op_eq (pv 0) (pv 1) (nomark _)))))) pss_nil)
        (pss_cons (ps_if (pt_cmpR op_isN (pv 1) pe_non (nomark _)) (pss_one (ps_ret (pe_cmpR op_isN (pv 0) pe_non (nomark _)))) pss_nil)
        (pss_cons (ps_if (pt_val (pe_callB call_isi (by rfl) misi (by decide +kernel) (pa_cons (pv 1) (pa_cons (pe_bltn (v := .ty "str") (by rfl) ms (by decide +kernel) rfl) pa_nil)))) (pss_one (ps_ret (pe_and (pe_callB call_isi (by rfl) misi (by decide +kernel) (pa_cons (pv 0) (pa_cons (pe_bltn (v := .ty "str") (by rfl) ms (by decide +kernel) rfl) pa_nil))) (pe_one (pe_cmpR op_eq (pv 0) (pv 1) (nomark _)))))) pss_nil)
        (pss_one (ps_ret (pe_and (pe_callB call_isi (by rfl) misi (by decide +kernel) (pa_cons (pv 0) (pa_cons (pe_bltn (v := .ty "int") (by rfl) mi (by decide +kernel) rfl) pa_nil)))
          (pe_and (pe_cmpR op_eq (pe_callB call_isi (by rfl) misi (by decide +kernel) (pa_cons (pv 0) (pa_cons (pe_bltn (v := .ty "bool") (by rfl) mb (by decide +kernel) rfl) pa_nil))) (pe_callB call_isi (by rfl) misi (by decide +kernel) (pa_cons (pv 1) (pa_cons (pe_bltn (v := .ty "bool") (by rfl) mb (by decide +kernel) rfl) pa_nil))) (nomark _)) (pe_one (pe_cmpR op_eq (pv 0) (pv 1) (nomark _)))))))))), ?_⟩
      refine ⟨y, rfl, by show 2 ≤ sizeLine; decide, fun tp htp => ?_⟩
      have s1 : Same H (upd H tp (.tup [.ty "tuple", .ty "list"])) := same_upd htp
      have e1 : upd H tp (.tup [.ty "tuple", .ty "list"]) tp = some (.tup [.ty "tuple", .ty "list"]) := upd_same
      have hal1 : Alk K (upd H tp (.tup [.ty "tuple", .ty "list"])) (m + 1) x y := Alk.same s1 hal
      generalize upd H tp (.tup [.ty "tuple", .ty "list"]) = H1 at s1 e1 hal1 ⊢
      have pc : Paired ClsV [V.ty "tuple", V.ty "list"] [Value.type "tuple", Value.type "list"] := .cons (.ty _) (.cons (.ty _) .nil)
      rcases hal1 with ⟨hf, rfl⟩ | ⟨a, b, xs, ys, rfl, rfl, hq, hl, hz, hit⟩
      · have ty : TyX K H1 x (tyF x) := tyFlat hf
        cases x with
        | non =>
          refine ⟨_, tp, _, _, _, false, rfl, e1, pc, ty, kit_two (r1 := false) (r2 := false) (by decide +kernel) (by decide +kernel), _, rfl, iteF ?_⟩
          refine ⟨.non, rfl, .non, .ty "dict", _, _, false, rfl, .ty _, ty, kit_ty (by decide +kernel), _, rfl, iteF ?_⟩
          exact ⟨.non, rfl, rfl, _, rfl, iteT ⟨.non, rfl, rfl, q H1 s1⟩⟩
        | bl c =>
          refine ⟨_, tp, _, _, _, false, rfl, e1, pc, ty, kit_two (r1 := false) (r2 := false) (by decide +kernel) (by decide +kernel), _, rfl, iteF ?_⟩
          refine ⟨.bl c, rfl, .bl c, .ty "dict", _, _, false, rfl, .ty _, ty, kit_ty (by decide +kernel), _, rfl, iteF ?_⟩
          refine ⟨.bl c, rfl, rfl, _, rfl, iteF ?_⟩
          refine ⟨.bl c, rfl, .bl c, .ty "str", _, _, false, rfl, .ty _, ty, kit_ty (by decide +kernel), _, rfl, iteF ?_⟩
          refine ⟨.bl c, rfl, .bl c, .ty "int", _, _, true, rfl, .ty _, ty, kit_ty (by decide +kernel), _, rfl, iteT ?_⟩
          refine ⟨.bl c, rfl, .bl c, .ty "bool", _, _, true, rfl, .ty _, ty, kit_ty (by decide +kernel), .bl c, rfl, .bl c, .ty "bool", _, _, true, rfl, .ty _, ty, kit_ty (by decide +kernel), rfl, _, rfl, ?_⟩
          refine iteT ⟨.bl c, rfl, .bl c, rfl, rfl, ?_⟩
          rw [decide_eq_true rfl]
          exact q H1 s1
        | int c =>
          refine ⟨_, tp, _, _, _, false, rfl, e1, pc, ty, kit_two (r1 := false) (r2 := false) (by decide +kernel) (by decide +kernel), _, rfl, iteF ?_⟩
          refine ⟨.int c, rfl, .int c, .ty "dict", _, _, false, rfl, .ty _, ty, kit_ty (by decide +kernel), _, rfl, iteF ?_⟩
          refine ⟨.int c, rfl, rfl, _, rfl, iteF ?_⟩
          refine ⟨.int c, rfl, .int c, .ty "str", _, _, false, rfl, .ty _, ty, kit_ty (by decide +kernel), _, rfl, iteF ?_⟩
          refine ⟨.int c, rfl, .int c, .ty "int", _, _, true, rfl, .ty _, ty, kit_ty (by decide +kernel), _, rfl, iteT ?_⟩
          refine ⟨.int c, rfl, .int c, .ty "bool", _, _, false, rfl, .ty _, ty, kit_ty (by decide +kernel), .int c, rfl, .int c, .ty "bool", _, _, false, rfl, .ty _, ty, kit_ty (by decide +kernel), rfl, _, rfl, ?_⟩
          refine iteT ⟨.int c, rfl, .int c, rfl, rfl, ?_⟩
          rw [decide_eq_true rfl]
          exact q H1 s1
        | str c =>
          refine ⟨_, tp, _, _, _, false, rfl, e1, pc, ty, kit_two (r1 := false) (r2 := false) (by decide +kernel) (by decide +kernel), _, rfl, iteF ?_⟩
          refine ⟨.str c, rfl, .str c, .ty "dict", _, _, false, rfl, .ty _, ty, kit_ty (by decide +kernel), _, rfl, iteF ?_⟩
          refine ⟨.str c, rfl, rfl, _, rfl, iteF ?_⟩
          refine ⟨.str c, rfl, .str c, .ty "str", _, _, true, rfl, .ty _, ty, kit_ty (by decide +kernel), _, rfl, iteT ?_⟩
          refine ⟨.str c, rfl, .str c, .ty "str", _, _, true, rfl, .ty _, ty, kit_ty (by decide +kernel), _, rfl, iteT ⟨.str c, rfl, .str c, rfl, rfl, ?_⟩⟩
          rw [decide_eq_true rfl]
          exact q H1 s1
        | _ => exact absurd (show false = true from hf) Bool.false_ne_true
      · obtain ⟨t, ta, tb, k1, k2, k3, hlq⟩ : ∃ t : String, TyX K H1 (.ref a) (.type t) ∧ TyX K H1 (.ref b) (.type t) ∧ PySem.W.kitAny K (.type t) [Value.type "tuple", Value.type "list"] = some true ∧ (∃ c, PySem.W.kitOne K (.type t) (.type "tuple") = some c) ∧ (∃ c, PySem.W.kitOne K (.type t) (.type "list") = some c) ∧
            ((SqL K H1 a xs ∨ SqT K H1 a xs) ∧ (SqL K H1 b ys ∨ SqT K H1 b ys)) := by
          rcases hq with ⟨p, r⟩ | ⟨p, r⟩
          · exact ⟨"list", tyL p, tyL r, kit_two (r1 := false) (r2 := true) (by decide +kernel) (by decide +kernel), ⟨false, kit_ty (by decide +kernel)⟩, ⟨true, kit_ty (by decide +kernel)⟩, .inl p, .inl r⟩
          · exact ⟨"tuple", tyT p, tyT r, kit_two (r1 := true) (r2 := false) (by decide +kernel) (by decide +kernel), ⟨true, kit_ty (by decide +kernel)⟩, ⟨false, kit_ty (by decide +kernel)⟩, .inr p, .inr r⟩
        obtain ⟨c2, k2⟩ := k2
        obtain ⟨c3, k3⟩ := k3
        refine ⟨_, tp, _, _, _, true, rfl, e1, pc, tb, k1, _, rfl, iteT ?_⟩
        refine ⟨.ref a, rfl, .ref a, .ty "tuple", _, _, c2, rfl, .ty _, ta, k2, .ref b, rfl, .ref b, .ty "tuple", _, _, c2, rfl, .ty _, tb, k2, rfl, _, rfl, iteNS rfl ?_⟩
        refine ⟨.ref a, rfl, .ref a, .ty "list", _, _, c3, rfl, .ty _, ta, k3, .ref b, rfl, .ref b, .ty "list", _, _, c3, rfl, .ty _, tb, k3, rfl, _, rfl, iteNS rfl ?_⟩
        refine ⟨.ref a, rfl, a, xs, rfl, hlq.1, .ref b, rfl, b, ys, rfl, hlq.2, rfl, _, rfl, iteNS (by rw [hl]) ?_⟩
        refine ⟨.ref b, rfl, b, ys, rfl, hlq.2, _, rfl, by omega, by omega, fun D hD => walk_in (n := ys.length) (lo := 0) (fun i H2 => Same H1 H2 ∧ H2 D = some (.lst [])) ⟨same_upd hD, upd_same⟩ (fun i H2 hi h => ?_) (fun H2 h => ?_)⟩
        · obtain ⟨s2, hd2⟩ := h
          have gx : xs[i]? = some (xs[i]'(by omega)) := List.getElem?_eq_getElem _
          have gy : ys[i]? = some ys[i] := List.getElem?_eq_getElem _
          have ax : atI xs (0 + (i : Int)) = some (xs[i]'(by omega)) := by
            rw [Int.zero_add]
            exact atI_nat gx
          have ay : atI ys (0 + (i : Int)) = some ys[i] := by
            rw [Int.zero_add]
            exact atI_nat gy
          have ix : ∀ {c : Addr} {zs : List V} {z : V} {R : V → Hp → Prop}, (SqL K H1 c zs ∨ SqT K H1 c zs) → atI zs (0 + (i : Int)) = some z → R z H2 → rIx K (.ref c) (.int (0 + (i : Int))) H2 R := by
            intro c zs z R hc hz hR
            rcases hc with hc | hc
            · exact .inl ⟨c, zs, _, z, rfl, rfl, s2.seq hc, hz, hR⟩
            · exact .inr (.inl ⟨c, zs, _, z, rfl, rfl, same_seqT s2 hc, hz, hR⟩)
          refine ⟨rfl, .ref a, rfl, .int (0 + (i : Int)), rfl, ix hlq.1 ax ⟨.ref b, rfl, .int (0 + (i : Int)), rfl, ix hlq.2 ay ⟨_, _, rfl, Alk.same s2 (hit i _ _ gx gy), fun H3 s3 => ⟨_, rfl, iteF ⟨s2.trans s3, s3 _ _ hd2⟩⟩⟩⟩⟩
        · obtain ⟨s2, hd2⟩ := h
          refine ⟨Nat.zero_le _, fun e he => ?_⟩
          refine ⟨.list [], .list [], .lst (sqL ((same_upd he) _ _ hd2)) .nil, .lst (sqL upd_same) .nil, rfl, rfl, ?_⟩
          exact q _ ((s1.trans s2).trans (same_upd he))
end
theorem alk_int {K : PySem.W.Frag} {H : Hp} {m : Nat} {i j : Int} (h : i = j) : Alk K H (m + 1) (.int i) (.int j) := .inl ⟨rfl, by rw [h]⟩
theorem alk_bl {K : PySem.W.Frag} {H : Hp} {m : Nat} {i j : Bool} (h : i = j) : Alk K H (m + 1) (.bl i) (.bl j) := .inl ⟨rfl, by rw [h]⟩
theorem alk_tp {K : PySem.W.Frag} {H : Hp} {m : Nat} {a b : Addr} {ns : List Int} (ha : Tp H a ns) (hb : Tp H b ns) (hl : ns.length ≤ 1000) : Alk K H (m + 2) (.ref a) (.ref b) := by
  refine .inr ⟨a, b, _, _, rfl, rfl, .inr ⟨ha.sq, hb.sq⟩, rfl, by rw [List.length_map]; exact hl, fun i u v hu hv => ?_⟩
  rw [hu] at hv
  cases hv
  rw [List.getElem?_map] at hu
  cases e : ns[i]? with
  | none => rw [e] at hu; cases hu
  | some z => rw [e] at hu; cases hu; exact alk_int rfl
theorem alk_prs {K : PySem.W.Frag} {H : Hp} {m : Nat} {a b : Addr} {xs ys : List V} {ps : List (Int × Int)} (hx : Prs H xs ps) (hy : Prs H ys ps) (ha : H a = some (.tup xs)) (hb : H b = some (.tup ys)) (hl : ps.length ≤ 1000) : Alk K H (m + 3) (.ref a) (.ref b) := by
  refine .inr ⟨a, b, _, _, rfl, rfl, .inr ⟨sqT ha, sqT hb⟩, hx.len.trans hy.len.symm, by rw [hx.len]; exact hl, fun i u v hu hv => ?_⟩
  obtain ⟨r, x1, x2, rfl, g1, e1⟩ := hx.get hu
  obtain ⟨t, y1, y2, rfl, g2, e2⟩ := hy.get hv
  rw [g1] at g2
  cases g2
  refine .inr ⟨r, t, _, _, rfl, rfl, .inr ⟨.inl e1, .inl e2⟩, rfl, by show 2 ≤ 1000; decide, fun j u v hu hv => ?_⟩
  rw [hu] at hv
  cases hv
  match j, hu with
  | 0, hu => cases hu; exact alk_int rfl
  | 1, hu => cases hu; exact alk_int rfl
  | j + 2, hu => simp at hu
theorem alk_two {K : PySem.W.Frag} {H : Hp} {m : Nat} {a b : Addr} {x1 x2 y1 y2 : V} (ha : H a = some (.lst [x1, x2])) (hb : H b = some (.lst [y1, y2])) (h1 : Alk K H m x1 y1) (h2 : Alk K H m x2 y2) : Alk K H (m + 1) (.ref a) (.ref b) := by
  refine .inr ⟨a, b, _, _, rfl, rfl, .inl ⟨sqL ha, sqL hb⟩, rfl, by show 2 ≤ 1000; decide, fun i u v hu hv => ?_⟩
  match i, hu, hv with
  | 0, hu, hv => cases hu; cases hv; exact h1
  | 1, hu, hv => cases hu; cases hv; exact h2
  | i + 2, hu, hv => simp at hu
end TR
namespace TR
open PySem PySem.Spec PyProof.Rows L2
/-! ### rows of rankings, each known -/
inductive Rts (H : Hp) : List V → List (List Int) → Prop
  | nil : Rts H [] []
  | cons {b : Addr} {r : List Int} {vs : List V} {rs : List (List Int)} : Tp H b r → Rts H vs rs → Rts H (.ref b :: vs) (r :: rs)
theorem Tp.updl {H : Hp} {a D : Addr} {ns : List Int} {xs ys : List V} (t : Tp H a ns) (e : H D = some (.lst xs)) : Tp (upd H D (.lst ys)) a ns := by
  obtain ⟨o, d, h⟩ := t
  exact ⟨o, d, by rw [upd_ne (ne_of h e (by intro z; cases z))]; exact h⟩
theorem Rts.same {H H' : Hp} {vs : List V} {ps : List (List Int)} (h : Rts H vs ps) (s : Same H H') : Rts H' vs ps := by
  induction h with
  | nil => exact .nil
  | cons e _ ih => exact .cons (e.same s) ih
theorem Rts.upd_lst {H : Hp} {vs : List V} {ps : List (List Int)} {D : Addr} {xs ys : List V} (h : Rts H vs ps) (e : H D = some (.lst xs)) : Rts (upd H D (.lst ys)) vs ps := by
  induction h with
  | nil => exact .nil
  | cons e2 _ ih => exact .cons (e2.updl e) ih
theorem Rts.append {H : Hp} {vs ws : List V} {ps qs : List (List Int)} (h : Rts H vs ps) (g : Rts H ws qs) : Rts H (vs ++ ws) (ps ++ qs) := by
  induction h with
  | nil => exact g
  | cons e _ ih => exact .cons e ih
theorem Rts.len {H : Hp} {vs : List V} {ps : List (List Int)} (h : Rts H vs ps) : vs.length = ps.length := by
  induction h with
  | nil => rfl
  | cons _ _ ih => rw [List.length_cons, List.length_cons, ih]
theorem Rts.get {H : Hp} {vs : List V} {ps : List (List Int)} (h : Rts H vs ps) : ∀ {i : Nat} {x : V}, vs[i]? = some x → ∃ b r, x = .ref b ∧ ps[i]? = some r ∧ Tp H b r := by
  induction h with
  | nil => intro i x e; simp at e
  | cons e _ ih =>
    intro i x g
    cases i with
    | zero => exact ⟨_, _, (Option.some.inj g).symm, rfl, e⟩
    | succ i => exact ih g
theorem Rts.snoc {H : Hp} {r : List Int} : ∀ {vs : List V} {rs : List (List Int)}, Rts H vs (rs ++ [r]) → ∃ ws t, vs = ws ++ [.ref t] ∧ Rts H ws rs ∧ Tp H t r
  | _, [], h => by
    cases h with
    | cons e g => cases g; exact ⟨[], _, rfl, .nil, e⟩
  | _, x :: rs, h => by
    cases h with
    | cons e g =>
      obtain ⟨ws, t, rfl, g2, e2⟩ := Rts.snoc g
      exact ⟨_ :: ws, t, rfl, .cons e g2, e2⟩
theorem alk_rts {K : PySem.W.Frag} {H : Hp} {m : Nat} {a b : Addr} {xs ys : List V} {ps : List (List Int)} (hx : Rts H xs ps) (hy : Rts H ys ps) (ha : SqT K H a xs) (hb : SqT K H b ys) (hl : ps.length ≤ 1000) (hr : ∀ r ∈ ps, r.length ≤ 1000) : Alk K H (m + 3) (.ref a) (.ref b) := by
  refine .inr ⟨a, b, _, _, rfl, rfl, .inr ⟨ha, hb⟩, hx.len.trans hy.len.symm, by rw [hx.len]; exact hl, fun i u v hu hv => ?_⟩
  obtain ⟨r, x1, rfl, g1, e1⟩ := hx.get hu
  obtain ⟨t, y1, rfl, g2, e2⟩ := hy.get hv
  rw [g1] at g2
  cases g2
  exact alk_tp e1 e2 (hr _ (List.mem_of_getElem? g1))
theorem walk_inL {K : PySem.W.Frag} {a : Addr} {xs : List V} {H4 : Hp} {Nx : Hp → Prop} {B : V → Hp → (Hp → Prop) → Prop} (Pv : Nat → Hp → Prop) (h0 : Pv 0 H4) (hl : ∀ i H, Pv i H → SqL K H a xs) (hs : ∀ i x H, xs[i]? = some x → Pv i H → B x H (Pv (i + 1))) (hd : ∀ H, Pv xs.length H → Nx H) :
    ∃ W : Nat → Nat → Hp → Prop, (∃ m, W 0 m H4) ∧ ∀ i k H, W i k H → ((Itl K a).stop i H ∧ Nx H) ∨ ((Itl K a).go i H ∧ ∃ N : Hp → Prop, (∀ H', N H' → ∃ k', k' < k ∧ W (i + 1) k' H') ∧ ∀ x H', (Itl K a).yld i H x H' → B x H' N) := by
  refine ⟨fun i m H => m = xs.length - i ∧ i ≤ xs.length ∧ Pv i H, ⟨xs.length, by simp, Nat.zero_le _, h0⟩, ?_⟩
  rintro i m H ⟨rfl, hi, p⟩
  have q := hl i H p
  by_cases hlt : i < xs.length
  · refine .inr ⟨⟨xs, xs[i], q, by simp [hlt]⟩, Pv (i + 1), fun H' p' => ⟨xs.length - (i + 1), by omega, rfl, hlt, p'⟩, fun x H' y => ?_⟩
    obtain ⟨e, y⟩ := y
    subst e
    exact hs i x _ (y xs q) p
  · have e : i = xs.length := by omega
    subst e
    exact .inl ⟨⟨xs, q, Nat.le_refl _⟩, hd H p⟩
end TR
namespace TR
open PySem PySem.Spec PyProof.Rows L2
/-- a value's truth, the written part named -/
def tTruth (K : PySem.W.Frag) (ta : TE) : TT := fun σ H Q => ta σ H fun x H' => ∃ k, TruV K x H' k ∧ Q k H'
theorem pt_tru {X : Cx} {a : Expr} {ta : TE} {K : PySem.W.Frag} (ha : PE X a ta) (hK : X.K = K) (he : ∀ whole, isTrue a X.env whole = (do let v ← whole; standAt a.pos; holding [v] (truthy v))) : PT X a (tTruth K ta) := by
  subst hK
  exact pt_truth ha he
end TR
namespace TR
open PySem PySem.Spec PyProof.Rows L2
/-- len(xs), the written part named -/
def rLenK (K : PySem.W.Frag) : List V → Hp → VK → Prop := fun xs H Q => ∃ p ys, xs = [V.ref p] ∧ (SqL K H p ys ∨ SqT K H p ys) ∧ Q (V.int (ys.length : Int)) H
end TR
namespace TR
open PySem PySem.Spec PyProof.Rows L2
theorem scOne : FnScope ["_law_deck_here", "_law_some"] ["_law_deck_here", "_law_some"] (defScope sOne) := ⟨rfl, rfl, rfl, by decide +kernel, rfl, by decide +kernel, by decide +kernel⟩
section
variable {P : Program} {w : World} {K : PySem.W.Frag} {mg : Str → Option Value} {base : Heap}
def spOne : Sp := fun vs H Q _ => ∃ (d p q l : Addr) (c : Nat) (xs : List V), vs = [.ref d, .ref l] ∧ Deck H d p q c ∧ c ≤ 1000000 ∧ H l = some (.lst xs) ∧ l ≠ d ∧ l ≠ p ∧ xs ≠ [] ∧ xs.length < 1000000 ∧
  ∀ H' x, x ∈ xs → Deck H' d p q (c + 1) → Keep d p H H' → Q x H'
theorem ok_one {f fN : Addr} {fd fdN : FuncData} {k : Nat} (F : Fun K "_law_one" "_law_one" sOne f fd) (kN : PySem.W.keepIn K (.ref fN) = true) (bN : Binds K fdN ["_law_deck_here", "_law_many"] []) (gN : mg "_law_next" = some (.ref fN))
    (GN : FnOk P w K mg base CX0 (k + 1) fN fdN ["_law_deck_here", "_law_many"] spNext) (mlen : mg "len" = none) : FnOk P w K mg base CX0 (k + 2) f fd ["_law_deck_here", "_law_some"] spOne := by
  refine F.ok scOne (fun vs H Q E h => ?_) (fun cdv A outer s H vs Q E hr h => ?_)
  · obtain ⟨d, p, q, l, c, xs, rfl, _⟩ := h
    rfl
  · obtain ⟨d, p, q, l, c, xs, rfl, D0, hc, hl, nld, nlp, hne, hlen, qq⟩ := h
    refine ⟨_, pss_one (ps_ret (pe_ix ix_list (pv 1) (pe_call GN hr (by rfl) gN kN bN .nil pass0 (pa_cons (pv 0) (pa_cons (pe_callB call_len_seq (by rfl) mlen PySem.boot_len (pa_cons (pv 1) pa_nil)) pa_nil))) (fun _ _ => rfl))), ?_⟩
    have h0 : 0 < xs.length := List.length_pos_iff.mpr hne
    refine ⟨.ref l, rfl, .ref d, rfl, .ref l, rfl, l, xs, rfl, .inl (sqL hl), d, p, q, c, _, rfl, D0, hc, by omega, by omega, fun H1 r r0 r1 D1 k1 => ?_⟩
    obtain ⟨j, rfl⟩ := Int.eq_ofNat_of_zero_le r0
    have hj : j < xs.length := by omega
    exact ⟨l, xs, _, xs[j], rfl, rfl, sqL (k1 _ _ hl nld nlp), atI_nat (List.getElem?_eq_getElem hj), qq H1 _ (List.getElem_mem hj) D1 k1⟩
end
end TR
namespace TR
open PySem PySem.Spec PyProof.Rows L2
theorem scRoad : FnScope ["_law_deck_here", "_law_dishes", "_law_steps", "_law_found", "_law_done", "_law_turn", "_law_row", "_law_k", "_law_pairs", "_law_some"] ["_law_deck_here", "_law_dishes", "_law_steps"] (defScope sRoad) := ⟨rfl, rfl, rfl, by decide +kernel, rfl, by decide +kernel, by decide +kernel⟩
theorem units65 {k : Nat} {A : Around} (r : Room k A) : A.units + 65 < cLine := by
  have := r.un
  omega
/-! ### rows of rankings -/
def Rws (n : Nat) (H : Hp) (xs : List V) : Prop := ∀ x ∈ xs, ∃ b ms, x = .ref b ∧ Tp H b ms ∧ Rank n ms
theorem Rws.same {n : Nat} {H H' : Hp} {xs : List V} (h : Rws n H xs) (s : Same H H') : Rws n H' xs := fun x hx => by
  obtain ⟨b, ms, e, t, r⟩ := h x hx
  exact ⟨b, ms, e, t.same s, r⟩
theorem Rws.keep {n c : Nat} {H H' : Hp} {xs : List V} {d p q : Addr} (h : Rws n H xs) (D : Deck H d p q c) (s : Keep d p H H') : Rws n H' xs := fun x hx => by
  obtain ⟨b, ms, e, t, r⟩ := h x hx
  exact ⟨b, ms, e, t.keep D s, r⟩
theorem Tp.upd_lst {H : Hp} {a D : Addr} {ns : List Int} {xs ys : List V} (t : Tp H a ns) (e : H D = some (.lst xs)) : Tp (upd H D (.lst ys)) a ns := by
  obtain ⟨o, d, h⟩ := t
  exact ⟨o, d, by rw [upd_ne (ne_of h e (by intro z; cases z))]; exact h⟩
theorem Rws.upd_lst {n : Nat} {H : Hp} {D : Addr} {xs us ys : List V} (h : Rws n H xs) (e : H D = some (.lst us)) : Rws n (upd H D (.lst ys)) xs := fun x hx => by
  obtain ⟨b, ms, e1, t, r⟩ := h x hx
  exact ⟨b, ms, e1, t.upd_lst e, r⟩
theorem Rws.app {n : Nat} {H : Hp} {xs : List V} {b : Addr} {ms : List Int} (h : Rws n H xs) (t : Tp H b ms) (r : Rank n ms) : Rws n H (xs ++ [.ref b]) := fun x hx => by
  rcases List.mem_append.mp hx with hx | hx
  · exact h x hx
  · rw [List.mem_singleton] at hx
    exact ⟨b, ms, hx, t, r⟩
theorem Prs.keep {H H' : Hp} {vs : List V} {ps : List (Int × Int)} {d p q : Addr} {n : Nat} (h : Prs H vs ps) (D : Deck H d p q n) (s : Keep d p H H') : Prs H' vs ps := by
  induction h with
  | nil => exact .nil
  | cons e _ ih => exact .cons (rdT_keep e D s) ih
theorem Keep.free {H H1 : Hp} {d p q g : Addr} {n : Nat} (k : Keep d p H H1) (D : Deck H1 d p q n) (h : H1 g = none) : H g = none := by
  cases e : H g with
  | none => rfl
  | some o =>
    have := k g o e (D.ned h) (D.nep h)
    rw [h] at this
    cases this
theorem last_of {xs : List V} (h : xs ≠ []) : ∃ x ∈ xs, atI xs (-1) = some x := by
  refine ⟨xs.getLast h, List.getLast_mem h, ?_⟩
  have e := atI_last xs.dropLast (xs.getLast h)
  rw [List.dropLast_concat_getLast] at e
  exact e
/-! ### pairs as data -/
theorem can_prs : ∀ ps : List (Int × Int), PyData.canLayAll0 (ps.map pd) = true
  | [] => rfl
  | p :: r => by
    show (PyData.canLay0 (pd p) && PyData.canLayAll0 (r.map pd)) = true
    rw [can_prs r]
    rfl
theorem dep_prs : ∀ ps : List (Int × Int), PyData.depthAll (ps.map pd) ≤ 1
  | [] => Nat.zero_le _
  | p :: r => by
    show max (PyData.depth (pd p)) (PyData.depthAll (r.map pd)) ≤ 1
    exact Nat.max_le.mpr ⟨by show 1 ≤ 1; decide, dep_prs r⟩
theorem shaped_prs (ps : List (Int × Int)) : SeqAt.shaped (.list (ps.map pd)) = true := by
  show (PyData.canLayAll0 (ps.map pd) && decide (PyData.depthAll (ps.map pd) + 1 ≤ 64)) = true
  have h := dep_prs ps
  rw [can_prs, decide_eq_true (by omega)]
  rfl
theorem any_prs (qs : List (Int × Int)) (p : Int × Int) : ((qs.map pd).any fun z => PyData.eqv z (pd p)) = qs.contains p := by
  induction qs with
  | nil => rfl
  | cons x r ih =>
    rw [List.map_cons, List.any_cons, ih, List.contains_cons]
    congr 1
    show ((x.1 == p.1) && ((x.2 == p.2) && true)) = (p == x)
    rw [Bool.and_true, Bool.beq_comm (a := p)]
    rfl
section
variable {P : Program} {w : World} {K : PySem.W.Frag} {mg : Str → Option Value} {base : Heap}
/-! ### _law_road -/
def spRoad : Sp := fun vs H Q _ => ∃ (d p q : Addr) (c n st : Nat), vs = [.ref d, .int (n : Int), .int (st : Int)] ∧ Deck H d p q c ∧ c ≤ 900000 ∧ 1 ≤ n ∧ n ≤ 8 ∧ st ≤ 100 ∧
  ∀ H' l xs, H l = none → H' l = some (.lst xs) → Rws n H' xs → xs ≠ [] → xs.length ≤ st + 1 → Deck H' d p q (c + n + st) → Keep d p H H' → Q (.ref l) H'
theorem ok_road {f fL fO fE : Addr} {fd dL dO dE : FuncData} {k : Nat} (F : Fun K "_law_road" "_law_road" sRoad f fd)
    (kL : PySem.W.keepIn K (.ref fL) = true) (bL : Binds K dL ["_law_deck_here", "_law_dishes"] []) (gL : mg "_law_list" = some (.ref fL)) (GL : FnOk P w K mg base CX0 (k + 1) fL dL ["_law_deck_here", "_law_dishes"] spList)
    (kO : PySem.W.keepIn K (.ref fO) = true) (bO : Binds K dO ["_law_deck_here", "_law_some"] []) (gO : mg "_law_one" = some (.ref fO)) (GO : FnOk P w K mg base CX0 (k + 1) fO dO ["_law_deck_here", "_law_some"] spOne)
    (kE : PySem.W.keepIn K (.ref fE) = true) (bE : Binds K dE ["_law_row", "_law_k"] []) (gE : mg "_law_exchanged" = some (.ref fE)) (GE : FnOk P w K mg base CX0 (k + 1) fE dE ["_law_row", "_law_k"] spExch)
    (mr : mg "range" = none) (mt : mg "tuple" = none) (mso : mg "sorted" = none) : FnOk P w K mg base CX0 (k + 2) f fd ["_law_deck_here", "_law_dishes", "_law_steps"] spRoad := by
  refine F.ok scRoad (fun vs H Q E h => ?_) (fun cdv A outer s H vs Q E hr h => ?_)
  · obtain ⟨d, p, q, c, n, st, rfl, _⟩ := h
    rfl
  · obtain ⟨d, p, q, c, n, st, rfl, D0, hc, hn1, hn, hst, qq⟩ := h
    refine ⟨_, pss_cons (ps_set (i := 3) scRoad.nd rfl (.inl rfl) (pe_lst (pa_cons (pe_call GL hr (by rfl) gL kL bL .nil pass0 (pa_cons (pv 0) (pa_cons (pv 1) pa_nil))) pa_nil)))
      (pss_cons (ps_set (i := 4) scRoad.nd rfl (.inr rfl) (pe_lst pa_nil))
      (pss_cons (ps_for PassesOwn.never rfl (pi_range1 (by rfl) mr (pa_cons (pv 2) pa_nil)) (pg_name (i := 5) scRoad.nd rfl (.inl rfl))
        (pss_cons (ps_set (i := 6) scRoad.nd rfl (.inr rfl) (pe_ix ix_list (pv 3) (pe_un un_neg pe_int) (fun _ _ => rfl)))
        (pss_cons (ps_set (i := 8) scRoad.nd rfl (.inr rfl) (pe_lc (own := [("_law_k", 7)]) (g := gName 7) (tt := tYes) (by rfl) scRoad.nd (pi_range1 (by rfl) mr (pa_cons (pe_op op_sub (pv 1) pe_int) pa_nil))
            (blkOk_by (own := [("_law_k", 7)]) (N := ["_law_deck_here", "_law_dishes", "_law_steps", "_law_found", "_law_done", "_law_turn", "_law_row", "_law_k", "_law_pairs", "_law_some"]) (sc := defScope sRoad) (by decide +kernel)) (fun _ _ _ _ _ => pg_name (i := 7) scRoad.nd rfl (Or.inl rfl))
            (fun _ _ _ _ _ => pts_nil)
            (fun _ _ _ _ _ => pe_callTy (r := fun xs H Q => ∃ p ys, xs = [V.ref p] ∧ ((SqL K H p ys ∧ ∀ l, H l = none → Q (.ref l) (upd H l (.tup ys))) ∨ (SqT K H p ys ∧ Q (.ref p) H))) call_tuple_of (by rfl) mt (by decide +kernel) (pa_cons (pe_callB (r := rSortedTI K) cr_sortedTI (by rfl) mso (by decide +kernel) (pa_cons (pe_slice (r := rSlF K) sl_tupF (pv 6) (po_some (pv 7)) (po_some (pe_op op_add (pv 7) pe_int))) pa_nil)) pa_nil))))
        (pss_cons (ps_setLc (i := 9) (own := [("_law_k", 7)]) (g := gName 7) (by rfl) scRoad.nd rfl rfl (sw_true rfl rfl rfl (by decide +kernel)) (pi_range1 (by rfl) mr (pa_cons (pe_op op_sub (pv 1) pe_int) pa_nil))
            (blkOk_by (own := [("_law_k", 7)]) (N := ["_law_deck_here", "_law_dishes", "_law_steps", "_law_found", "_law_done", "_law_turn", "_law_row", "_law_k", "_law_pairs", "_law_some"]) (sc := defScope sRoad) (by decide +kernel)) (fun _ _ _ _ _ => pg_name (i := 7) scRoad.nd rfl (Or.inl rfl))
            (fun _ _ _ _ _ => pts_one (pt_cmpR (r := rNotInD K) (op_notInD (units65 hr)) (pe_ix (r := rIxL K) ix_list (pv 8) (pv 7) (fun _ _ => rfl)) (pv 4) (by rfl)))
            (fun _ _ _ _ _ => pv 7))
        (pss_one (ps_if (pt_cmpR (op_neD hr.units) (pv 9) (pe_lst pa_nil) (nomark _))
          (pss_cons (ps_set (i := 7) scRoad.nd rfl (.inl rfl) (pe_call GO hr (by rfl) gO kO bO .nil pass0 (pa_cons (pv 0) (pa_cons (pv 9) pa_nil))))
          (pss_cons (ps_expr (pe_bm PySem.F.plainAttrs_list PySem.F.slot_list_append PySem.F.type_list_append mt_append (pv 4) (pa_cons (pe_ix ix_list (pv 8) (pv 7) (fun _ _ => rfl)) pa_nil)))
          (pss_one (ps_expr (pe_bm PySem.F.plainAttrs_list PySem.F.slot_list_append PySem.F.type_list_append mt_append (pv 3) (pa_cons (pe_call GE hr (by rfl) gE kE bE .nil pass0 (pa_cons (pv 6) (pa_cons (pv 7) pa_nil))) pa_nil)))))) pss_nil))))))
      (pss_one (ps_ret (pv 3))))), ?_⟩
    refine ⟨.ref d, rfl, .int (n : Int), rfl, d, p, q, c, n, rfl, D0, by omega, hn, fun H1 t ns hrk D1 k1 t1 => ⟨by show 1 ≤ sizeLine; decide, fun g hg => ?_⟩⟩
    have hg0 : H g = none := k1.free D1 hg
    have s2 : Same H1 (upd H1 g (.lst [.ref t])) := same_upd hg
    have eg : upd H1 g (.lst [.ref t]) g = some (.lst [.ref t]) := upd_same
    have D2 := D1.same s2
    have k2 : Keep d p H (upd H1 g (.lst [.ref t])) := k1.trans (Same.keep s2)
    have r2 : Rws n (upd H1 g (.lst [.ref t])) [.ref t] := fun x hx => ⟨t, ns, List.mem_singleton.mp hx, t1.same s2, hrk⟩
    generalize upd H1 g (.lst [.ref t]) = H2 at s2 eg D2 k2 r2 ⊢
    refine ⟨Nat.zero_le _, fun e he => ?_⟩
    have he0 : H e = none := k2.free D2 he
    have nge : g ≠ e := ne_of_none eg he
    have s3 : Same H2 (upd H2 e (.lst [])) := same_upd he
    have ee : upd H2 e (.lst []) e = some (.lst []) := upd_same
    have k3 : Keep d p H (upd H2 e (.lst [])) := k2.trans (Same.keep s3)
    have D3 := D2.same s3
    have r3 := r2.same s3
    have eg3 := s3 _ _ eg
    generalize upd H2 e (.lst []) = H3 at s3 ee D3 k3 r3 eg3 ⊢
    have ngd : g ≠ d := D0.ned hg0
    have ngp : g ≠ p := D0.nep hg0
    have ngq : g ≠ q := D0.neq hg0
    have ned : e ≠ d := D0.ned he0
    have nep : e ≠ p := D0.nep he0
    have neq : e ≠ q := D0.neq he0
    refine ⟨.int (st : Int), rfl, st, rfl, by omega, by omega, for_range (n := st) (lo := 0) (fun i σ H4 => (∃ y5 y6 y7 y8 y9, σ = [some (.ref d), some (.int (n : Int)), some (.int (st : Int)), some (.ref g), some (.ref e), y5, y6, y7, y8, y9]) ∧ (∃ xs, H4 g = some (.lst xs) ∧ Rws n H4 xs ∧ xs ≠ [] ∧ xs.length ≤ i + 1) ∧ (∃ ys ps, H4 e = some (.lst ys) ∧ Prs H4 ys ps ∧ ys.length ≤ i) ∧ Deck H4 d p q (c + n + i) ∧ Keep d p H H4)
      ⟨⟨none, none, none, none, none, rfl⟩, ⟨[.ref t], eg3, r3, by simp, Nat.le_refl _⟩, ⟨[], [], ee, .nil, Nat.le_refl _⟩, D3, k3⟩ (fun i σ H4 hi h => ?_) (fun σ H4 h => ?_)⟩
    · obtain ⟨⟨y5, y6, y7, y8, y9, rfl⟩, ⟨xs, eg4, r4, hx0, hxl⟩, ⟨ys, ps, ee4, p4, hyl⟩, D4, k4⟩ := h
      obtain ⟨x, hx, hxa⟩ := last_of hx0
      obtain ⟨b, ms, rfl, tb, hrb⟩ := r4 x hx
      have ml : (ms.map V.int).length = n := by
        rw [List.length_map]
        exact hrb.len
      refine ⟨.ref g, rfl, 1, rfl, g, xs, -1, _, rfl, rfl, sqL eg4, hxa, ?_⟩
      refine ⟨.int (n : Int), rfl, _, _, rfl, rfl, _, rfl, by omega, by omega, fun W hW => walk_in (n := ((n : Int) - 1).toNat) (lo := 0) (fun j H5 => Same H4 H5 ∧ ∃ zs qs, H5 W = some (.lst zs) ∧ Prs H5 zs qs ∧ zs.length = j) ⟨same_upd hW, [], [], upd_same, .nil, rfl⟩ (fun j H5 hj h => ?_) (fun H5 h => ?_)⟩
      · obtain ⟨s5, zs, qs, eW, pW, lW⟩ := h
        have tb5 := tb.same s5
        have step : ∀ (H6 : Hp) (u : Addr), Same H5 H6 → SqT K H6 u (((ms.drop j).take 2).map V.int) → tThen (fun _ H Q => Q (.ref u) H) (fun x H Q => rSortedTI K [x] H fun y H7 => (fun xs H Q => ∃ p ys, xs = [V.ref p] ∧ ((SqL K H p ys ∧ ∀ l, H l = none → Q (.ref l) (upd H l (.tup ys))) ∨ (SqT K H p ys ∧ Q (.ref p) H))) [y] H7 Q) [] H6 (fun y H7 => ∃ acc, H7 W = some (.lst acc) ∧ acc.length < sizeLine ∧ (Same H4 (upd H7 W (.lst (acc ++ [y]))) ∧ ∃ zs qs, upd H7 W (.lst (acc ++ [y])) W = some (.lst zs) ∧ Prs (upd H7 W (.lst (acc ++ [y]))) zs qs ∧ zs.length = j + 1)) := by
          intro H6 u s6 hu
          refine ⟨u, _, rfl, hu, fun os l1 hperm _ hl1 => ?_⟩
          obtain ⟨u1, u2, rfl⟩ : ∃ u1 u2, os = [u1, u2] := by
            have e1 := hperm.length_eq
            have e2 : ((ms.drop j).take 2).length = 2 := by
              rw [List.length_take, List.length_drop, hrb.len]
              omega
            rw [e2] at e1
            match os, e1 with
            | [u1, u2], _ => exact ⟨u1, u2, rfl⟩
          refine ⟨l1, _, rfl, .inl ⟨sqL upd_same, fun l2 hl2 => ?_⟩⟩
          have s7 : Same H6 (upd (upd H6 l1 (.lst ([u1, u2].map V.int))) l2 (.tup ([u1, u2].map V.int))) := (same_upd hl1).trans (same_upd hl2)
          have e7 : upd (upd H6 l1 (.lst ([u1, u2].map V.int))) l2 (.tup ([u1, u2].map V.int)) l2 = some (.tup [.int u1, .int u2]) := upd_same
          have s47 := s5.trans (s6.trans s7)
          have s57 := s6.trans s7
          generalize upd (upd H6 l1 (.lst ([u1, u2].map V.int))) l2 (.tup ([u1, u2].map V.int)) = H7 at s7 e7 s47 s57 ⊢
          have eW7 := s57 _ _ eW
          refine ⟨zs, eW7, small1000 (by omega), same_upd2 s47 hW, zs ++ [.ref l2], qs ++ [(u1, u2)], upd_same, ?_, ?_⟩
          · exact ((pW.same s57).upd_lst eW7).append (.cons (rdT_updl (.inl e7) eW7) .nil)
          · rw [List.length_append, lW]
            rfl
        have ecut : cutV (ms.map V.int) (some (0 + (j : Int))) (some (0 + (j : Int) + 2)) = ((ms.drop j).take 2).map V.int := by
          unfold cutV
          rw [show (0 + (j : Int)) = (j : Int) by omega, show ((j : Int) + 2) = ((j + 2 : Nat) : Int) by omega, HT.sIx_nat, HT.sIx_nat, ml, Nat.min_eq_left (by omega), Nat.min_eq_left (by omega), List.map_take, List.map_drop]
          rw [show j + 2 - j = 2 by omega]
        refine ⟨rfl, .ref b, rfl, .int (0 + (j : Int)), rfl, _, rfl, .int (0 + (j : Int)), rfl, _, 2, rfl, rfl, _, rfl, b, _, rfl, tb5.sq, fun hw => step H5 b (Same.refl _) ?_, fun _ u o hu ho => step _ u (same_upd hu) ?_⟩
        · have ewhole : ((ms.drop j).take 2).map V.int = ms.map V.int := by
            rw [← ecut]
            unfold cutV
            rw [hw.1, hw.2]
            show ((ms.map V.int).take ((ms.map V.int).length - 0)) = _
            exact List.take_of_length_le (by omega)
          rw [ewhole]
          exact tb5.sq
        · rw [ecut]
          exact .inl (.inr ⟨o, upd_same⟩)
      · obtain ⟨s5, zs, qs, eW, pW, lW⟩ := h
        have ee5 := s5 _ _ ee4
        have p5 := p4.same s5
        refine ⟨.int (n : Int), rfl, _, _, rfl, rfl, _, rfl, by omega, by omega, fun S hS => walk_in (n := ((n : Int) - 1).toNat) (lo := 0) (fun j H6 => Same H5 H6 ∧ ∃ ks : List Int, H6 S = some (.lst (ks.map V.int)) ∧ ks.length ≤ j ∧ ∀ z ∈ ks, 0 ≤ z ∧ z < (j : Int)) ⟨same_upd hS, [], upd_same, Nat.le_refl _, fun _ hz => by cases hz⟩ (fun j H6 hj h => ?_) (fun H6 h => ?_)⟩
        · obtain ⟨s6, ks, eS, lS, bS⟩ := h
          have hjz : j < zs.length := by omega
          have gz : zs[j]? = some zs[j] := List.getElem?_eq_getElem hjz
          obtain ⟨r, v1, v2, er, hg2, hr2⟩ := pW.get gz
          have az : atI zs (0 + (j : Int)) = some (.ref r) := by
            rw [show (0 + (j : Int)) = (j : Int) by omega, ← er]
            exact atI_nat gz
          refine ⟨rfl, .ref W, rfl, .int (0 + (j : Int)), rfl, W, zs, _, _, rfl, rfl, sqL (s6 _ _ eW), az, .ref e, rfl, pd (v1, v2), ps.map pd, .tup (.inl (rdT_same hr2 s6)) (.cons (.int _) (.cons (.int _) .nil)), .lst (sqL (s6 _ _ ee5)) (p5.same s6).dp, rfl, shaped_prs ps, _, rfl, ?_⟩
          refine ite2 (fun _ => ?_) (fun _ => ?_)
          · refine ⟨.int (0 + (j : Int)), rfl, _, eS, by rw [List.length_map]; exact small1000 (by omega), same_upd2 s6 hS, ks ++ [0 + (j : Int)], ?_, ?_, ?_⟩
            · rw [upd_same, List.map_append]
              rfl
            · rw [List.length_append]
              show ks.length + 1 ≤ j + 1
              omega
            · intro z hz
              rcases List.mem_append.mp hz with hz | hz
              · have := bS z hz
                omega
              · rw [List.mem_singleton] at hz
                omega
          · exact ⟨s6, ks, eS, by omega, fun z hz => by have := bS z hz; omega⟩
        · obtain ⟨s6, ks, eS, lS, bS⟩ := h
          have s46 := s5.trans s6
          refine ⟨.ref S, rfl, Nat.zero_le _, fun z hz => ?_⟩
          have s7 : Same H6 (upd H6 z (.lst [])) := same_upd hz
          refine ⟨_, _, .lst (sqL (s7 _ _ eS)) (dpAll_ints ks), .lst (sqL upd_same) .nil, shaped_ints ks, rfl, _, rfl, ?_⟩
          rw [eqv_nil]
          have s47 := s46.trans s7
          have s57 := s6.trans s7
          have eS7 := s7 _ _ eS
          generalize upd H6 z (.lst []) = H7 at s7 s47 s57 eS7 ⊢
          have D7 := D4.same s47
          have k7 : Keep d p H H7 := k4.trans (Same.keep s47)
          have nSd : S ≠ d := (D4.same s5).ned hS
          have nSp : S ≠ p := (D4.same s5).nep hS
          cases ks with
          | nil =>
            refine iteF ?_
            exact ⟨⟨_, _, _, _, _, rfl⟩, ⟨xs, s47 _ _ eg4, r4.same s47, hx0, by omega⟩, ⟨ys, ps, s47 _ _ ee4, p4.same s47, by omega⟩, D7.mono (by omega), k7⟩
          | cons k0 kr =>
            refine iteT ?_
            refine ⟨.ref d, rfl, .ref S, rfl, d, p, q, S, c + n + i, _, rfl, D7, by omega, eS7, nSd, nSp, by simp, ?_, fun H8 v hv D8 k8 => ?_⟩
            · rw [List.length_map]
              omega
            · obtain ⟨kk, hkk, rfl⟩ := List.mem_map.mp hv
              have bk := bS kk hkk
              obtain ⟨j, rfl⟩ := Int.eq_ofNat_of_zero_le bk.1
              have hjz : j < zs.length := by omega
              have gz : zs[j]? = some zs[j] := List.getElem?_eq_getElem hjz
              have pW8 := (pW.same s57).keep D7 k8
              obtain ⟨r, v1, v2, er, hg2, hr2⟩ := pW8.get gz
              have nWd : W ≠ d := D4.ned hW
              have nWp : W ≠ p := D4.nep hW
              have eW8 := k8 _ _ (s57 _ _ eW) nWd nWp
              have ee8 := k8 _ _ (s47 _ _ ee4) ned nep
              have eg8 := k8 _ _ (s47 _ _ eg4) ngd ngp
              have tb8 := (tb.same s47).keep D7 k8
              have r8 := (r4.same s47).keep D7 k8
              have p8 := (p4.same s47).keep D7 k8
              have az : atI zs (j : Int) = some (.ref r) := by
                rw [← er]
                exact atI_nat gz
              refine ⟨.ref e, rfl, .inl ⟨rfl, _, sqL ee8⟩, .ref W, rfl, .int (j : Int), rfl, W, zs, _, _, rfl, rfl, sqL eW8, az, e, ys, _, rfl, rfl, ee8, small1000 (by omega), ?_⟩
              have eg9 : upd H8 e (.lst (ys ++ [.ref r])) g = some (.lst xs) := by
                rw [upd_ne nge]
                exact eg8
              have ee9 : upd H8 e (.lst (ys ++ [.ref r])) e = some (.lst (ys ++ [.ref r])) := upd_same
              have tb9 : Tp (upd H8 e (.lst (ys ++ [.ref r]))) b ms := tb8.upd_lst ee8
              have r9 : Rws n (upd H8 e (.lst (ys ++ [.ref r]))) xs := r8.upd_lst ee8
              have p9 : Prs (upd H8 e (.lst (ys ++ [.ref r]))) (ys ++ [.ref r]) (ps ++ [(v1, v2)]) := (p8.upd_lst ee8).append (.cons (rdT_updl hr2 ee8) .nil)
              have D9 : Deck (upd H8 e (.lst (ys ++ [.ref r]))) d p q (c + n + i + 1) := D8.upd ned nep neq
              have k9 : Keep d p H (upd H8 e (.lst (ys ++ [.ref r]))) := keep_fresh (k7.trans k8) he0
              generalize upd H8 e (.lst (ys ++ [.ref r])) = H9 at eg9 ee9 tb9 r9 p9 D9 k9 ⊢
              refine ⟨.ref g, rfl, .inl ⟨rfl, _, sqL eg9⟩, .ref b, rfl, .int (j : Int), rfl, b, ms, n, j, rfl, tb9, hrb, by omega, hn, fun Ha u sa hru tu => ?_⟩
              have ega := sa _ _ eg9
              refine ⟨g, xs, _, rfl, rfl, ega, small1000 (by omega), ⟨_, _, _, _, _, rfl⟩, ⟨xs ++ [.ref u], upd_same, ?_, by simp, ?_⟩, ⟨ys ++ [.ref r], ps ++ [(v1, v2)], ?_, (p9.same sa).upd_lst ega, ?_⟩, ?_, ?_⟩
              · exact ((r9.same sa).upd_lst ega).app (tu.upd_lst ega) hru
              · rw [List.length_append]
                show xs.length + 1 ≤ i + 1 + 1
                omega
              · rw [upd_ne nge.symm]
                exact sa _ _ ee9
              · rw [List.length_append]
                show ys.length + 1 ≤ i + 1
                omega
              · exact (D9.same sa).upd ngd ngp ngq
              · exact keep_fresh (k9.trans (Same.keep sa)) hg0
    · obtain ⟨⟨y5, y6, y7, y8, y9, rfl⟩, ⟨xs, eg4, r4, hx0, hxl⟩, _, D4, k4⟩ := h
      exact ⟨.ref g, rfl, qq H4 g xs hg0 eg4 r4 hx0 hxl D4 k4⟩
end
end TR
namespace TR
open PySem PySem.Spec PyProof.Rows L2
section
variable {P : Program} {w : World} {K : PySem.W.Frag} {mg : Str → Option Value} {base : Heap}
def spLaw (K : PySem.W.Frag) : Sp := fun vs H Q _ => ∃ (a : Addr) (ns : List Int), vs = [.ref a] ∧ SqL K H a (ns.map V.int) ∧ ns.length ≤ 63 ∧ ∀ H', Q (.bl true) H'
end
end TR
namespace TR
open PySem PySem.Spec PyProof.Rows L2
/-! ### tables in the heap -/
theorem Tp.rd {H : Hp} {a : Addr} {ns : List Int} (t : Tp H a ns) : Rd H a (.tup (ns.map V.int)) := by
  obtain ⟨o, _, h⟩ := t
  exact .inr ⟨o, h⟩
theorem tp_updl {H : Hp} {a D : Addr} {ns : List Int} {xs ys : List V} (t : Tp H a ns) (e : H D = some (.lst xs)) : Tp (upd H D (.lst ys)) a ns := by
  obtain ⟨o, d, h⟩ := t
  exact ⟨o, d, by rw [upd_ne (ne_of h e (by intro z; cases z))]; exact h⟩
abbrev Tas := List (List Int × Int)
inductive Tst (H : Hp) : List V → Tas → Prop
  | nil : Tst H [] []
  | cons {t r : Addr} {rk : List Int} {w : Int} {vs : List V} {ts : Tas} : TF H t [.ref r, .int w] → Tp H r rk → Tst H vs ts → Tst H (.ref t :: vs) ((rk, w) :: ts)
theorem Tst.same {H H' : Hp} {vs : List V} {ts : Tas} (h : Tst H vs ts) (s : Same H H') : Tst H' vs ts := by
  induction h with
  | nil => exact .nil
  | cons e f _ ih => exact .cons (e.same s) (f.same s) ih
theorem Tst.keep {H H' : Hp} {vs : List V} {ts : Tas} {d p q : Addr} {n : Nat} (h : Tst H vs ts) (D : Deck H d p q n) (s : Keep d p H H') : Tst H' vs ts := by
  induction h with
  | nil => exact .nil
  | cons e f _ ih => exact .cons (e.keep D s) (f.keep D s) ih
theorem Tst.updl {H : Hp} {vs : List V} {ts : Tas} {D : Addr} {xs ys : List V} (h : Tst H vs ts) (e : H D = some (.lst xs)) : Tst (upd H D (.lst ys)) vs ts := by
  induction h with
  | nil => exact .nil
  | cons e1 f _ ih => exact .cons (e1.updl e) (tp_updl f e) ih
theorem Tst.app {H : Hp} {vs us : List V} {ts ss : Tas} (h : Tst H vs ts) (g : Tst H us ss) : Tst H (vs ++ us) (ts ++ ss) := by
  induction h with
  | nil => exact g
  | cons e f _ ih => exact .cons e f ih
theorem Tst.len {H : Hp} {vs : List V} {ts : Tas} (h : Tst H vs ts) : vs.length = ts.length := by
  induction h with
  | nil => rfl
  | cons _ _ _ ih => rw [List.length_cons, List.length_cons, ih]
theorem Tst.get {H : Hp} {vs : List V} {ts : Tas} (h : Tst H vs ts) : ∀ {i : Nat} {x : V}, vs[i]? = some x → ∃ t r rk w, x = .ref t ∧ ts[i]? = some (rk, w) ∧ Rd H t (.tup [.ref r, .int w]) ∧ Tp H r rk := by
  induction h with
  | nil => intro i x e; simp at e
  | cons e f _ ih =>
    intro i x g
    cases i with
    | zero => exact ⟨_, _, _, _, (Option.some.inj g).symm, rfl, e.rd, f⟩
    | succ i => exact ih g
def Tab (H : Hp) (a : Addr) (n : Nat) (ts : Tas) : Prop := ∃ b xs, TF H a [.int (n : Int), .ref b] ∧ TF H b xs ∧ Tst H xs ts
theorem Tab.out {H : Hp} {a : Addr} {n : Nat} {ts : Tas} (h : Tab H a n ts) : ∃ b xs, Rd H a (.tup [.int (n : Int), .ref b]) ∧ Rd H b (.tup xs) ∧ Tst H xs ts := by
  obtain ⟨b, xs, h1, h2, h3⟩ := h
  exact ⟨b, xs, h1.rd, h2.rd, h3⟩
theorem Tab.same {H H' : Hp} {a : Addr} {n : Nat} {ts : Tas} (h : Tab H a n ts) (s : Same H H') : Tab H' a n ts := by
  obtain ⟨b, xs, h1, h2, h3⟩ := h
  exact ⟨b, xs, h1.same s, h2.same s, h3.same s⟩
theorem Tab.keep {H H' : Hp} {a d p q : Addr} {n m : Nat} {ts : Tas} (h : Tab H a n ts) (D : Deck H d p q m) (s : Keep d p H H') : Tab H' a n ts := by
  obtain ⟨b, xs, h1, h2, h3⟩ := h
  exact ⟨b, xs, h1.keep D s, h2.keep D s, h3.keep D s⟩
structure WfT (D M n : Nat) (ts : Tas) : Prop where
  n1 : 1 ≤ n
  nD : n ≤ D
  l1 : 1 ≤ ts.length
  lM : ts.length ≤ M
  all : ∀ t ∈ ts, Rank n t.1 ∧ 1 ≤ t.2 ∧ t.2 ≤ 1000000000000
end TR
namespace TR
open PySem PySem.Spec PyProof.Rows L2
theorem scPeople : FnScope ["_law_deck_here"] ["_law_deck_here"] (defScope sPeople) := ⟨rfl, rfl, rfl, by decide +kernel, rfl, by decide +kernel, by decide +kernel⟩
section
variable {P : Program} {w : World} {K : PySem.W.Frag} {mg : Str → Option Value} {base : Heap}
def spPeople : Sp := fun vs H Q _ => ∃ (d p q : Addr) (c : Nat), vs = [.ref d] ∧ Deck H d p q c ∧ c ≤ 990000 ∧
  ∀ H' w, 1 ≤ w → w ≤ 1000000000000 → Deck H' d p q (c + 3) → Keep d p H H' → Q (.int w) H'
theorem ok_People {f f__law_next : Addr} {fd d__law_next : FuncData} {m : Nat} (F : Fun K "_law_people" "_law_people" sPeople f fd)
    (k__law_next : PySem.W.keepIn K (.ref f__law_next) = true) (b__law_next : Binds K d__law_next ["_law_deck_here", "_law_many"] []) (g__law_next : mg "_law_next" = some (.ref f__law_next)) (G__law_next : FnOk P w K mg base CX0 m f__law_next d__law_next ["_law_deck_here", "_law_many"] spNext)
     : FnOk P w K mg base CX0 (m + 1) f fd ["_law_deck_here"] spPeople := by
  refine F.ok scPeople (fun vs H Q E h => ?_) (fun cdv A outer s H vs Q E hr h => ?_)
  · obtain ⟨d, p, q, c, rfl, _⟩ := h
    rfl
  · obtain ⟨d, p, q, c, rfl, D0, hc, qq⟩ := h
    refine ⟨_, 
      (pss_one (ps_ret (pe_ix (r := rIxL K) ix_list (pe_lst (pa_cons pe_int (pa_cons pe_int (pa_cons (pe_op op_add pe_int (pe_call G__law_next hr (by rfl) g__law_next k__law_next b__law_next .nil pass0 (pa_cons (pv 0) (pa_cons pe_int pa_nil)))) (pa_cons (pe_op op_add pe_int (pe_call G__law_next hr (by rfl) g__law_next k__law_next b__law_next .nil pass0 (pa_cons (pv 0) (pa_cons (pe_op op_pow pe_int pe_int) pa_nil)))) (pa_cons (pe_op op_pow pe_int pe_int) pa_nil)))))) (pe_call G__law_next hr (by rfl) g__law_next k__law_next b__law_next .nil pass0 (pa_cons (pv 0) (pa_cons pe_int pa_nil))) (fun _ _ => rfl)))), ?_⟩
    refine ⟨.ref d, rfl, d, p, q, c, 5, rfl, D0, by omega, by decide, by decide, fun H1 r r0 r1 D1 k1 => ⟨1, r, rfl, rfl, ?_⟩⟩
    refine ⟨.ref d, rfl, 10, 12, rfl, rfl, ⟨by decide, by decide, by decide⟩, d, p, q, c + 1, 1000000000000, rfl, D1, by omega, by decide, by decide, fun H2 z z0 z1 D2 k2 => ⟨1, z, rfl, rfl, ?_⟩⟩
    refine ⟨10, 12, rfl, rfl, ⟨by decide, by decide, by decide⟩, by show 5 ≤ sizeLine; decide, fun l hl => ?_⟩
    have s3 : Same H2 (upd H2 l (.lst [.int 1, .int 1, .int (1 + r), .int (1 + z), .int 1000000000000])) := same_upd hl
    have e3 : upd H2 l (.lst [.int 1, .int 1, .int (1 + r), .int (1 + z), .int 1000000000000]) l = some (.lst [.int 1, .int 1, .int (1 + r), .int (1 + z), .int 1000000000000]) := upd_same
    have D3 := D2.same s3
    refine ⟨.ref d, rfl, d, p, q, c + 2, 5, rfl, D3, by omega, by decide, by decide, fun H4 k k0 kk D4 k4 => ?_⟩
    have nld : l ≠ d := D2.ned hl
    have nlp : l ≠ p := D2.nep hl
    have e4 := k4 _ _ e3 nld nlp
    have kp : Keep d p H H4 := k1.trans (k2.trans ((Same.keep s3).trans k4))
    have hk : k = 0 ∨ k = 1 ∨ k = 2 ∨ k = 3 ∨ k = 4 := by omega
    rcases hk with rfl | rfl | rfl | rfl | rfl
    · exact ⟨l, _, _, _, rfl, rfl, sqL e4, atI_nat (j := 0) rfl, qq H4 _ (by omega) (by omega) D4 kp⟩
    · exact ⟨l, _, _, _, rfl, rfl, sqL e4, atI_nat (j := 1) rfl, qq H4 _ (by omega) (by omega) D4 kp⟩
    · exact ⟨l, _, _, _, rfl, rfl, sqL e4, atI_nat (j := 2) rfl, qq H4 _ (by omega) (by omega) D4 kp⟩
    · exact ⟨l, _, _, _, rfl, rfl, sqL e4, atI_nat (j := 3) rfl, qq H4 _ (by omega) (by omega) D4 kp⟩
    · exact ⟨l, _, _, _, rfl, rfl, sqL e4, atI_nat (j := 4) rfl, qq H4 _ (by omega) (by omega) D4 kp⟩
end
end TR
namespace TR
open PySem PySem.Spec PyProof.Rows L2
theorem scSeated : FnScope ["_law_deck_here", "_law_dishes", "_law_many", "_law_road_here", "_law_k"] ["_law_deck_here", "_law_dishes", "_law_many"] (defScope sSeated) := ⟨rfl, rfl, rfl, by decide +kernel, rfl, by decide +kernel, by decide +kernel⟩
section
variable {P : Program} {w : World} {K : PySem.W.Frag} {mg : Str → Option Value} {base : Heap}
def spSeated : Sp := fun vs H Q _ => ∃ (d p q : Addr) (c n m : Nat), vs = [.ref d, .int (n : Int), .int (m : Int)] ∧ Deck H d p q c ∧ c ≤ 890000 ∧ 1 ≤ n ∧ n ≤ 8 ∧ 1 ≤ m ∧ m ≤ 16 ∧
  ∀ H' a ts, Tab H' a n ts → ts.length = m → (∀ t ∈ ts, Rank n t.1 ∧ 1 ≤ t.2 ∧ t.2 ≤ 1000000000000) → Deck H' d p q (c + 240) → Keep d p H H' → Q (.ref a) H'
theorem ok_Seated {f f__law_road f__law_next f__law_people f__law_one : Addr} {fd d__law_road d__law_next d__law_people d__law_one : FuncData} {m : Nat} (F : Fun K "_law_seated" "_law_seated" sSeated f fd)
    (k__law_road : PySem.W.keepIn K (.ref f__law_road) = true) (b__law_road : Binds K d__law_road ["_law_deck_here", "_law_dishes", "_law_steps"] []) (g__law_road : mg "_law_road" = some (.ref f__law_road)) (G__law_road : FnOk P w K mg base CX0 m f__law_road d__law_road ["_law_deck_here", "_law_dishes", "_law_steps"] spRoad)
    (k__law_next : PySem.W.keepIn K (.ref f__law_next) = true) (b__law_next : Binds K d__law_next ["_law_deck_here", "_law_many"] []) (g__law_next : mg "_law_next" = some (.ref f__law_next)) (G__law_next : FnOk P w K mg base CX0 m f__law_next d__law_next ["_law_deck_here", "_law_many"] spNext)
    (k__law_people : PySem.W.keepIn K (.ref f__law_people) = true) (b__law_people : Binds K d__law_people ["_law_deck_here"] []) (g__law_people : mg "_law_people" = some (.ref f__law_people)) (G__law_people : FnOk P w K mg base CX0 m f__law_people d__law_people ["_law_deck_here"] spPeople)
    (k__law_one : PySem.W.keepIn K (.ref f__law_one) = true) (b__law_one : Binds K d__law_one ["_law_deck_here", "_law_some"] []) (g__law_one : mg "_law_one" = some (.ref f__law_one)) (G__law_one : FnOk P w K mg base CX0 m f__law_one d__law_one ["_law_deck_here", "_law_some"] spOne)
    (m_tuple : mg "tuple" = none) (m_range : mg "range" = none) : FnOk P w K mg base CX0 (m + 1) f fd ["_law_deck_here", "_law_dishes", "_law_many"] spSeated := by
  refine F.ok scSeated (fun vs H Q E h => ?_) (fun cdv A outer s H vs Q E hr h => ?_)
  · obtain ⟨d, p, q, c, n, m, rfl, _⟩ := h
    rfl
  · obtain ⟨d, p, q, c, n, m, rfl, D0, hc, hn1, hn, hm1, hm, qq⟩ := h
    refine ⟨_, 
      (pss_cons (ps_set (i := 3) scSeated.nd rfl (.inr rfl) (pe_call G__law_road hr (by rfl) g__law_road k__law_road b__law_road .nil pass0 (pa_cons (pv 0) (pa_cons (pv 1) (pa_cons (pe_ix (r := rIxL K) ix_list (pe_lst (pa_cons pe_int (pa_cons pe_int (pa_cons pe_int pa_nil)))) (pe_call G__law_next hr (by rfl) g__law_next k__law_next b__law_next .nil pass0 (pa_cons (pv 0) (pa_cons pe_int pa_nil))) (fun _ _ => rfl)) pa_nil))))) 
      (pss_one (ps_ret (pe_tupN (pa_cons (pv 1) (pa_cons (pe_callTy call_tupleF (by rfl) m_tuple (by decide +kernel) (pa_cons (pe_lc (own := [("_law_k", 4)]) (g := gName 4) (tt := tYes) (by rfl) scSeated.nd (pi_range1 (by rfl) m_range (pa_cons (pv 2) pa_nil)) (blkOk_by (own := [("_law_k", 4)]) (N := ["_law_deck_here", "_law_dishes", "_law_many", "_law_road_here", "_law_k"]) (sc := defScope sSeated) (by decide +kernel)) (fun _ _ _ _ _ => (pg_name (i := 4) scSeated.nd rfl (Or.inl rfl))) (fun _ _ _ _ _ => pts_nil) (fun _ _ _ _ _ => (pe_tupN (pa_cons (pe_call G__law_one hr (by rfl) g__law_one k__law_one b__law_one .nil pass0 (pa_cons (pv 0) (pa_cons (pv 3) pa_nil))) (pa_cons (pe_call G__law_people hr (by rfl) g__law_people k__law_people b__law_people .nil pass0 (pa_cons (pv 0) pa_nil)) pa_nil))))) pa_nil)) pa_nil)))))), ?_⟩
    refine ⟨.ref d, rfl, .int (n : Int), rfl, by show 3 ≤ sizeLine; decide, fun l hl => ?_⟩
    have s1 : Same H (upd H l (.lst [.int 2, .int 5, .int 28])) := same_upd hl
    have e1 : upd H l (.lst [.int 2, .int 5, .int 28]) l = some (.lst [.int 2, .int 5, .int 28]) := upd_same
    have D1 := D0.same s1
    refine ⟨.ref d, rfl, d, p, q, c, 3, rfl, D1, by omega, by decide, by decide, fun H2 r r0 r1 D2 k2 => ?_⟩
    have e2 := k2 _ _ e1 (D0.ned hl) (D0.nep hl)
    obtain ⟨st, hst, hat⟩ : ∃ st : Nat, st ≤ 28 ∧ atI [V.int 2, V.int 5, V.int 28] r = some (.int (st : Int)) := by
      have hr3 : r = 0 ∨ r = 1 ∨ r = 2 := by omega
      rcases hr3 with rfl | rfl | rfl
      · exact ⟨2, by decide, atI_nat (j := 0) rfl⟩
      · exact ⟨5, by decide, atI_nat (j := 1) rfl⟩
      · exact ⟨28, by decide, atI_nat (j := 2) rfl⟩
    have k02 : Keep d p H H2 := (Same.keep s1).trans k2
    refine ⟨l, _, r, _, rfl, rfl, sqL e2, hat, d, p, q, c + 1, n, st, rfl, D2, by omega, hn1, hn, by omega, fun H3 g xs hg eg Rg hne hlen D3 k3 => ?_⟩
    have k03 := k02.trans k3
    have hg0 : H g = none := k02.free D2 hg
    have ngd : g ≠ d := D0.ned hg0
    have ngp : g ≠ p := D0.nep hg0
    have ngq : g ≠ q := D0.neq hg0
    refine ⟨.int (n : Int), rfl, .int (m : Int), rfl, m, rfl, by omega, by omega, fun L hL => walk_in (n := m) (lo := 0) (fun i H4 => Deck H4 d p q (c + 1 + n + st + 4 * i) ∧ Keep d p H H4 ∧ H4 g = some (.lst xs) ∧ Rws n H4 xs ∧ ∃ zs ts, H4 L = some (.lst zs) ∧ Tst H4 zs ts ∧ ts.length = i ∧ ∀ t ∈ ts, Rank n t.1 ∧ 1 ≤ t.2 ∧ t.2 ≤ 1000000000000) ⟨D3.same (same_upd hL), k03.trans (Same.keep (same_upd hL)), (same_upd hL) _ _ eg, Rg.same (same_upd hL), [], [], upd_same, .nil, rfl, fun t ht => by cases ht⟩ (fun i H4 hi h => ?_) (fun H4 h => ?_)⟩
    · obtain ⟨D4, k4, eg4, R4, zs, ts, eL, T4, hl4, ha4⟩ := h
      have hL0 : H L = none := k03.free D3 hL
      have nLd : L ≠ d := D0.ned hL0
      have nLp : L ≠ p := D0.nep hL0
      have nLq : L ≠ q := D0.neq hL0
      have nLg : L ≠ g := (ne_of_none eg hL).symm
      refine ⟨rfl, .ref d, rfl, .ref g, rfl, d, p, q, g, c + 1 + n + st + 4 * i, xs, rfl, D4, by omega, eg4, ngd, ngp, hne, by omega, fun H5 x hx D5 k5 => ?_⟩
      obtain ⟨b, ms, rfl, tb, hrb⟩ := R4 x hx
      refine ⟨.ref d, rfl, d, p, q, c + 1 + n + st + 4 * i + 1, rfl, D5, by omega, fun H6 w w1 w2 D6 k6 => ⟨by show 2 ≤ sizeLine; decide, fun t H7 ht s7 e7 => ?_⟩⟩
      have tb6 := (tb.keep D4 k5).keep D5 k6
      have eL6 := k6 _ _ (k5 _ _ eL nLd nLp) nLd nLp
      have eg6 := k6 _ _ (k5 _ _ eg4 ngd ngp) ngd ngp
      have T6 := (T4.keep D4 k5).keep D5 k6
      have R6 := (R4.keep D4 k5).keep D5 k6
      have k46 : Keep d p H H6 := k4.trans (k5.trans k6)
      have k7 : Keep d p H H7 := k46.trans (Same.keep s7)
      have D7 := D6.same s7
      have eL7 := s7 _ _ eL6
      have eg7 := s7 _ _ eg6
      have T7 := T6.same s7
      have R7 := R6.same s7
      have tb7 := tb6.same s7
      have hzl := T7.len
      refine ⟨zs, eL7, small1000 (by omega), (D7.upd nLd nLp nLq).mono (by omega), keep_fresh k7 hL0, ?_, R7.upd_lst eL7, zs ++ [.ref t], ts ++ [(ms, w)], upd_same, (T7.updl eL7).app (.cons (e7.updl eL7) (tp_updl tb7 eL7) .nil), ?_, ?_⟩
      · rw [upd_ne nLg.symm]
        exact eg7
      · rw [List.length_append, hl4]
        rfl
      · intro t' ht'
        rcases List.mem_append.mp ht' with h | h
        · exact ha4 t' h
        · rw [List.mem_singleton] at h
          subst h
          exact ⟨hrb, w1, w2⟩
    · obtain ⟨D4, k4, eg4, R4, zs, ts, eL, T4, hl4, ha4⟩ := h
      refine ⟨L, zs, rfl, sqL eL, fun u o hu ho => ⟨by show 2 ≤ sizeLine; decide, fun a Hz ha sz ez => ?_⟩⟩
      have s5 := same_upd (H := H4) (o := .frz o (.tup zs)) hu
      refine qq _ a ts ⟨u, zs, ez, (TF.new ho).same sz, (T4.same s5).same sz⟩ hl4 ha4 (((D4.same s5).same sz).mono (by omega)) ((k4.trans (Same.keep s5)).trans (Same.keep sz))
end
end TR
namespace TR
open PySem PySem.Spec PyProof.Rows L2
theorem scAny : FnScope ["_law_deck_here", "_law_dishes", "_law_many", "_law_found", "_law_row", "_law_way"] ["_law_deck_here", "_law_dishes", "_law_many"] (defScope sAny) := ⟨rfl, rfl, rfl, by decide +kernel, rfl, by decide +kernel, by decide +kernel⟩
section
variable {P : Program} {w : World} {K : PySem.W.Frag} {mg : Str → Option Value} {base : Heap}
theorem ok_Any {f f__law_list f__law_next f__law_one f__law_exchanged f__law_people : Addr} {fd d__law_list d__law_next d__law_one d__law_exchanged d__law_people : FuncData} {m : Nat} (F : Fun K "_law_any" "_law_any" sAny f fd)
    (k__law_list : PySem.W.keepIn K (.ref f__law_list) = true) (b__law_list : Binds K d__law_list ["_law_deck_here", "_law_dishes"] []) (g__law_list : mg "_law_list" = some (.ref f__law_list)) (G__law_list : FnOk P w K mg base CX0 m f__law_list d__law_list ["_law_deck_here", "_law_dishes"] spList)
    (k__law_next : PySem.W.keepIn K (.ref f__law_next) = true) (b__law_next : Binds K d__law_next ["_law_deck_here", "_law_many"] []) (g__law_next : mg "_law_next" = some (.ref f__law_next)) (G__law_next : FnOk P w K mg base CX0 m f__law_next d__law_next ["_law_deck_here", "_law_many"] spNext)
    (k__law_one : PySem.W.keepIn K (.ref f__law_one) = true) (b__law_one : Binds K d__law_one ["_law_deck_here", "_law_some"] []) (g__law_one : mg "_law_one" = some (.ref f__law_one)) (G__law_one : FnOk P w K mg base CX0 m f__law_one d__law_one ["_law_deck_here", "_law_some"] spOne)
    (k__law_exchanged : PySem.W.keepIn K (.ref f__law_exchanged) = true) (b__law_exchanged : Binds K d__law_exchanged ["_law_row", "_law_k"] []) (g__law_exchanged : mg "_law_exchanged" = some (.ref f__law_exchanged)) (G__law_exchanged : FnOk P w K mg base CX0 m f__law_exchanged d__law_exchanged ["_law_row", "_law_k"] spExch)
    (k__law_people : PySem.W.keepIn K (.ref f__law_people) = true) (b__law_people : Binds K d__law_people ["_law_deck_here"] []) (g__law_people : mg "_law_people" = some (.ref f__law_people)) (G__law_people : FnOk P w K mg base CX0 m f__law_people d__law_people ["_law_deck_here"] spPeople)
    (m_len : mg "len" = none) (m_tuple : mg "tuple" = none) : FnOk P w K mg base CX0 (m + 1) f fd ["_law_deck_here", "_law_dishes", "_law_many"] spSeated := by
  refine F.ok scAny (fun vs H Q E h => ?_) (fun cdv A outer s H vs Q E hr h => ?_)
  · obtain ⟨d, p, q, c, n, m, rfl, _⟩ := h
    rfl
  · obtain ⟨d, p, q, c, n, m, rfl, D0, hc, hn1, hn, hm1, hm, qq⟩ := h
    refine ⟨_, 
      (pss_cons (ps_set (i := 3) scAny.nd rfl (.inl rfl) (pe_lst (pa_cons (pe_call G__law_list hr (by rfl) g__law_list k__law_list b__law_list .nil pass0 (pa_cons (pv 0) (pa_cons (pv 1) pa_nil))) pa_nil))) 
      (pss_cons (ps_while PassesOwn.never (pt_cmpR op_lt (pe_callB call_len_seq (by rfl) m_len PySem.boot_len (pa_cons (pv 3) pa_nil)) (pv 2) (nomark _)) 
        (pss_cons (ps_par (i := 4) (j := 5) (by rfl) scAny.nd rfl rfl (by decide) rfl rfl (pa_cons (pe_call G__law_one hr (by rfl) g__law_one k__law_one b__law_one .nil pass0 (pa_cons (pv 0) (pa_cons (pv 3) pa_nil))) (pa_cons (pe_call G__law_next hr (by rfl) g__law_next k__law_next b__law_next .nil pass0 (pa_cons (pv 0) (pa_cons pe_int pa_nil))) pa_nil)) (by rfl)) 
        (pss_cons (ps_if (pt_cmpR op_eq (pv 5) pe_int (nomark _)) 
          (pss_one (ps_set (i := 4) scAny.nd rfl (.inl rfl) (pe_call G__law_list hr (by rfl) g__law_list k__law_list b__law_list .nil pass0 (pa_cons (pv 0) (pa_cons (pv 1) pa_nil))))) 
          (pss_one (ps_if (PW.pt (pw_and (pt_cmpR op_lt (pv 5) pe_int (nomark _)) (pw_and1 (pt_cmpR op_gt (pv 1) pe_int (nomark _))))) 
            (pss_one (ps_set (i := 4) scAny.nd rfl (.inl rfl) (pe_call G__law_exchanged hr (by rfl) g__law_exchanged k__law_exchanged b__law_exchanged .nil pass0 (pa_cons (pv 4) (pa_cons (pe_call G__law_next hr (by rfl) g__law_next k__law_next b__law_next .nil pass0 (pa_cons (pv 0) (pa_cons (pe_op op_sub (pv 1) pe_int) pa_nil))) pa_nil))))) pss_nil))) 
        (pss_one (ps_expr (pe_bm PySem.F.plainAttrs_list PySem.F.slot_list_append PySem.F.type_list_append mt_append (pv 3) (pa_cons (pv 4) pa_nil))))))) 
      (pss_one (ps_ret (pe_tupN (pa_cons (pv 1) (pa_cons (pe_callTy call_tupleF (by rfl) m_tuple (by decide +kernel) (pa_cons (pe_lc (own := [("_law_row", 4)]) (g := gName 4) (tt := tYes) (by rfl) scAny.nd (pi_list (pv 3)) (blkOk_by (own := [("_law_row", 4)]) (N := ["_law_deck_here", "_law_dishes", "_law_many", "_law_found", "_law_row", "_law_way"]) (sc := defScope sAny) (by decide +kernel)) (fun _ _ _ _ _ => (pg_name (i := 4) scAny.nd rfl (Or.inl rfl))) (fun _ _ _ _ _ => pts_nil) (fun _ _ _ _ _ => (pe_tupN (pa_cons (pv 4) (pa_cons (pe_call G__law_people hr (by rfl) g__law_people k__law_people b__law_people .nil pass0 (pa_cons (pv 0) pa_nil)) pa_nil))))) pa_nil)) pa_nil))))))), ?_⟩
    refine ⟨.ref d, rfl, .int (n : Int), rfl, d, p, q, c, n, rfl, D0, by omega, hn, fun H1 a1 r1 hr1 D1 k1 t1 => ⟨by show 1 ≤ sizeLine; decide, fun g hg => ?_⟩⟩
    have hg0 : H g = none := k1.free D1 hg
    have ngd : g ≠ d := D0.ned hg0
    have ngp : g ≠ p := D0.nep hg0
    have ngq : g ≠ q := D0.neq hg0
    refine ⟨fun j σ H3 => ∃ xs y4 y5, σ = [some (.ref d), some (.int (n : Int)), some (.int (m : Int)), some (.ref g), y4, y5] ∧ H3 g = some (.lst xs) ∧ Rws n H3 xs ∧ xs ≠ [] ∧ xs.length + j = m ∧ Deck H3 d p q (c + 11 * xs.length) ∧ Keep d p H H3,
      ⟨m - 1, [.ref a1], none, none, rfl, upd_same, fun x hx => ⟨a1, r1, List.mem_singleton.mp hx, t1.same (same_upd hg), hr1⟩, by simp, by show 1 + (m - 1) = m; omega, (D1.same (same_upd hg)).mono (by show c + n ≤ c + 11 * 1; omega), k1.trans (Same.keep (same_upd hg))⟩, fun j σ H3 hW => ?_⟩
    obtain ⟨xs, y4, y5, rfl, eg, Rg, hne, hj, D3, k3⟩ := hW
    refine ⟨.ref g, rfl, g, xs, rfl, .inl (sqL eg), .int (m : Int), rfl, _, _, rfl, rfl, _, rfl, ?_⟩
    by_cases hlt : (xs.length : Int) < (m : Int)
    · rw [decide_eq_true hlt]
      refine iteT ?_
      refine ⟨_, fun σ' H' hN => ⟨j - 1, by omega, hN⟩, ?_⟩
      refine ⟨.ref d, rfl, .ref g, rfl, d, p, q, g, c + 11 * xs.length, xs, rfl, D3, by omega, eg, ngd, ngp, hne, by omega, fun H4 x hx D4 k4 => ?_⟩
      obtain ⟨b, ms, rfl, tb, hrb⟩ := Rg x hx
      refine ⟨.ref d, rfl, d, p, q, c + 11 * xs.length + 1, 4, rfl, D4, by omega, by decide, by decide, fun H5 r r0 rr D5 k5 => ⟨.ref b, .int r, rfl, ?_⟩⟩
      have tb5 := (tb.keep D3 k4).keep D4 k5
      have R5 := (Rg.keep D3 k4).keep D4 k5
      have eg5 := k5 _ _ (k4 _ _ eg ngd ngp) ngd ngp
      have k05 : Keep d p H H5 := k3.trans (k4.trans k5)
      have step : ∀ (H6 : Hp) (u : Addr) (os : List Int), Rank n os → Tp H6 u os → Deck H6 d p q (c + 11 * xs.length + 11) → Keep d p H5 H6 → H6 g = some (.lst xs) ∧ xs.length < sizeLine ∧
          (∃ xs' y4 y5, [some (V.ref d), some (.int (n : Int)), some (.int (m : Int)), some (.ref g), some (.ref u), some (.int r)] = [some (V.ref d), some (.int (n : Int)), some (.int (m : Int)), some (.ref g), y4, y5] ∧ upd H6 g (.lst (xs ++ [.ref u])) g = some (.lst xs') ∧ Rws n (upd H6 g (.lst (xs ++ [.ref u]))) xs' ∧ xs' ≠ [] ∧ xs'.length + (j - 1) = m ∧ Deck (upd H6 g (.lst (xs ++ [.ref u]))) d p q (c + 11 * xs'.length) ∧ Keep d p H (upd H6 g (.lst (xs ++ [.ref u])))) := by
        intro H6 u os hos tu D6 k6
        have eg6 := k6 _ _ eg5 ngd ngp
        refine ⟨eg6, small1000 (by omega), xs ++ [.ref u], _, _, rfl, upd_same, ((R5.keep D5 k6).upd_lst eg6).app (tu.upd_lst eg6) hos, by simp, ?_, ?_, keep_fresh (k05.trans k6) hg0⟩
        · rw [List.length_append]
          show xs.length + 1 + (j - 1) = m
          omega
        · rw [List.length_append]
          exact (D6.upd ngd ngp ngq).mono (by show _ ≤ c + 11 * (xs.length + 1); omega)
      refine ⟨.int r, rfl, rfl, _, rfl, ite2 (fun _ => ?_) (fun _ => ?_)⟩
      · refine ⟨.ref d, rfl, .int (n : Int), rfl, d, p, q, c + 11 * xs.length + 1 + 1, n, rfl, D5, by omega, hn, fun H6 u os hos D6 k6 tu => ?_⟩
        obtain ⟨z1, z2, z3⟩ := step H6 u os hos tu (D6.mono (by omega)) k6
        exact ⟨.ref g, rfl, .inl ⟨rfl, _, sqL z1⟩, .ref u, rfl, g, xs, _, rfl, rfl, z1, z2, z3⟩
      · refine ⟨.int r, rfl, _, _, rfl, rfl, _, rfl, ?_⟩
        have same : ∀ (H6 : Hp), H6 = H5 → _ := fun H6 e => step H6 b ms hrb (e ▸ tb5) (e ▸ D5.mono (by omega)) (e ▸ Keep.refl _ _ _)
        obtain ⟨z1, z2, z3⟩ := same H5 rfl
        refine ite2 (fun _ => ?_) (fun _ => ?_)
        · refine ⟨.int (n : Int), rfl, _, _, rfl, rfl, _, rfl, ite2 (fun hgt => ?_) (fun _ => ?_)⟩
          · have hn2 : (n : Int) > 1 := of_decide_eq_true hgt
            refine ⟨.ref b, rfl, .ref d, rfl, .int (n : Int), rfl, _, _, rfl, rfl, d, p, q, c + 11 * xs.length + 1 + 1, _, rfl, D5, by omega, by omega, by omega, fun H6 z z0 zz D6 k6 => ?_⟩
            obtain ⟨i, rfl⟩ := Int.eq_ofNat_of_zero_le z0
            refine ⟨b, ms, n, i, rfl, tb5.keep D5 k6, hrb, by omega, hn, fun H7 u s7 hru tu => ?_⟩
            obtain ⟨z1, z2, z3⟩ := step H7 u _ hru tu ((D6.same s7).mono (by omega)) (k6.trans (Same.keep s7))
            exact ⟨.ref g, rfl, .inl ⟨rfl, _, sqL z1⟩, .ref u, rfl, g, xs, _, rfl, rfl, z1, z2, z3⟩
          · exact ⟨.ref g, rfl, .inl ⟨rfl, _, sqL z1⟩, .ref b, rfl, g, xs, _, rfl, rfl, z1, z2, z3⟩
        · exact ⟨.ref g, rfl, .inl ⟨rfl, _, sqL z1⟩, .ref b, rfl, g, xs, _, rfl, rfl, z1, z2, z3⟩
    · rw [decide_eq_false hlt]
      refine iteF ?_
      refine ⟨.int (n : Int), rfl, .ref g, rfl, g, rfl, ⟨_, sqL eg⟩, fun L hL => lc_list (K := K) (a := g) (xs := xs) (fun i H4 => Deck H4 d p q (c + 11 * xs.length + 3 * i) ∧ Keep d p H H4 ∧ H4 g = some (.lst xs) ∧ Rws n H4 xs ∧ ∃ zs ts, H4 L = some (.lst zs) ∧ Tst H4 zs ts ∧ ts.length = i ∧ ∀ t ∈ ts, Rank n t.1 ∧ 1 ≤ t.2 ∧ t.2 ≤ 1000000000000) ⟨D3.same (same_upd hL), k3.trans (Same.keep (same_upd hL)), (same_upd hL) _ _ eg, Rg.same (same_upd hL), [], [], upd_same, .nil, rfl, fun t ht => by cases ht⟩ (fun i H4 _ h => sqL h.2.2.1) (fun i x H4 hx h => ?_) (fun H4 h => ?_)⟩
      · obtain ⟨D4, k4, eg4, R4, zs, ts, eL, T4, hl4, ha4⟩ := h
        have hi : i < xs.length := (List.getElem?_eq_some_iff.mp hx).1
        have hL0 : H L = none := k3.free D3 hL
        have nLd : L ≠ d := D0.ned hL0
        have nLp : L ≠ p := D0.nep hL0
        have nLq : L ≠ q := D0.neq hL0
        have nLg : L ≠ g := (ne_of_none eg hL).symm
        obtain ⟨b, ms, rfl, tb, hrb⟩ := R4 x (List.mem_of_getElem? hx)
        refine ⟨rfl, .ref b, rfl, .ref d, rfl, d, p, q, c + 11 * xs.length + 3 * i, rfl, D4, by omega, fun H6 w w1 w2 D6 k6 => ⟨by show 2 ≤ sizeLine; decide, fun t H7 ht s7 e7 => ?_⟩⟩
        have tb6 := tb.keep D4 k6
        have eL6 := k6 _ _ eL nLd nLp
        have eg6 := k6 _ _ eg4 ngd ngp
        have T6 := T4.keep D4 k6
        have R6 := R4.keep D4 k6
        have k7 : Keep d p H H7 := (k4.trans k6).trans (Same.keep s7)
        have D7 := D6.same s7
        have eL7 := s7 _ _ eL6
        have eg7 := s7 _ _ eg6
        have T7 := T6.same s7
        have R7 := R6.same s7
        have tb7 := tb6.same s7
        have hzl := T7.len
        refine ⟨zs, eL7, small1000 (by omega), (D7.upd nLd nLp nLq).mono (by omega), keep_fresh k7 hL0, ?_, R7.upd_lst eL7, zs ++ [.ref t], ts ++ [(ms, w)], upd_same, (T7.updl eL7).app (.cons (e7.updl eL7) (tp_updl tb7 eL7) .nil), ?_, ?_⟩
        · rw [upd_ne nLg.symm]
          exact eg7
        · rw [List.length_append, hl4]
          rfl
        · intro t' ht'
          rcases List.mem_append.mp ht' with h | h
          · exact ha4 t' h
          · rw [List.mem_singleton] at h
            subst h
            exact ⟨hrb, w1, w2⟩
      · obtain ⟨D4, k4, eg4, R4, zs, ts, eL, T4, hl4, ha4⟩ := h
        refine ⟨L, zs, rfl, sqL eL, fun u o hu ho => ⟨by show 2 ≤ sizeLine; decide, fun a Hz ha sz ez => ?_⟩⟩
        have s5 := same_upd (H := H4) (o := .frz o (.tup zs)) hu
        refine qq _ a ts ⟨u, zs, ez, (TF.new ho).same sz, (T4.same s5).same sz⟩ (by omega) ha4 (((D4.same s5).same sz).mono (by omega)) ((k4.trans (Same.keep s5)).trans (Same.keep sz))
end
end TR
namespace TR
open PySem PySem.Spec PyProof.Rows L2
theorem scTable : FnScope ["_law_deck_here", "_law_dishes", "_law_many"] ["_law_deck_here", "_law_dishes", "_law_many"] (defScope sTable) := ⟨rfl, rfl, rfl, by decide +kernel, rfl, by decide +kernel, by decide +kernel⟩
section
variable {P : Program} {w : World} {K : PySem.W.Frag} {mg : Str → Option Value} {base : Heap}
def spTable : Sp := fun vs H Q _ => ∃ (d p q : Addr) (c D M : Nat), vs = [.ref d, .int (D : Int), .int (M : Int)] ∧ Deck H d p q c ∧ c ≤ 880000 ∧ 1 ≤ D ∧ D ≤ 8 ∧ 1 ≤ M ∧ M ≤ 16 ∧
  ∀ H' a n ts, Tab H' a n ts → WfT D M n ts → Deck H' d p q (c + 250) → Keep d p H H' → Q (.ref a) H'
theorem ok_Table {f f__law_next f__law_seated f__law_any : Addr} {fd d__law_next d__law_seated d__law_any : FuncData} {m : Nat} (F : Fun K "_law_table" "_law_table" sTable f fd)
    (k__law_next : PySem.W.keepIn K (.ref f__law_next) = true) (b__law_next : Binds K d__law_next ["_law_deck_here", "_law_many"] []) (g__law_next : mg "_law_next" = some (.ref f__law_next)) (G__law_next : FnOk P w K mg base CX0 m f__law_next d__law_next ["_law_deck_here", "_law_many"] spNext)
    (k__law_seated : PySem.W.keepIn K (.ref f__law_seated) = true) (b__law_seated : Binds K d__law_seated ["_law_deck_here", "_law_dishes", "_law_many"] []) (g__law_seated : mg "_law_seated" = some (.ref f__law_seated)) (G__law_seated : FnOk P w K mg base CX0 m f__law_seated d__law_seated ["_law_deck_here", "_law_dishes", "_law_many"] spSeated)
    (k__law_any : PySem.W.keepIn K (.ref f__law_any) = true) (b__law_any : Binds K d__law_any ["_law_deck_here", "_law_dishes", "_law_many"] []) (g__law_any : mg "_law_any" = some (.ref f__law_any)) (G__law_any : FnOk P w K mg base CX0 m f__law_any d__law_any ["_law_deck_here", "_law_dishes", "_law_many"] spSeated)
     : FnOk P w K mg base CX0 (m + 1) f fd ["_law_deck_here", "_law_dishes", "_law_many"] spTable := by
  refine F.ok scTable (fun vs H Q E h => ?_) (fun cdv A outer s H vs Q E hr h => ?_)
  · obtain ⟨d, p, q, c, D, M, rfl, _⟩ := h
    rfl
  · obtain ⟨d, p, q, c, D, M, rfl, D0, hc, hD1, hD, hM1, hM, qq⟩ := h
    refine ⟨_, 
      (pss_cons (ps_par (i := 1) (j := 2) (by rfl) scTable.nd rfl rfl (by decide) rfl rfl (pa_cons (pe_op op_add pe_int (pe_call G__law_next hr (by rfl) g__law_next k__law_next b__law_next .nil pass0 (pa_cons (pv 0) (pa_cons (pv 1) pa_nil)))) (pa_cons (pe_op op_add pe_int (pe_call G__law_next hr (by rfl) g__law_next k__law_next b__law_next .nil pass0 (pa_cons (pv 0) (pa_cons (pv 2) pa_nil)))) pa_nil)) (by rfl)) 
      (pss_cons (ps_if (pt_cmpR op_lt (pe_call G__law_next hr (by rfl) g__law_next k__law_next b__law_next .nil pass0 (pa_cons (pv 0) (pa_cons pe_int pa_nil))) pe_int (nomark _)) 
        (pss_one (ps_ret (pe_call G__law_seated hr (by rfl) g__law_seated k__law_seated b__law_seated .nil pass0 (pa_cons (pv 0) (pa_cons (pv 1) (pa_cons (pv 2) pa_nil)))))) pss_nil) 
      (pss_one (ps_ret (pe_call G__law_any hr (by rfl) g__law_any k__law_any b__law_any .nil pass0 (pa_cons (pv 0) (pa_cons (pv 1) (pa_cons (pv 2) pa_nil)))))))), ?_⟩
    refine ⟨.ref d, rfl, .int (D : Int), rfl, d, p, q, c, _, rfl, D0, by omega, by omega, by omega, fun H1 r r0 r1 D1 k1 => ⟨1, r, rfl, rfl, ?_⟩⟩
    refine ⟨.ref d, rfl, .int (M : Int), rfl, d, p, q, c + 1, _, rfl, D1, by omega, by omega, by omega, fun H2 z z0 z1 D2 k2 => ⟨1, z, rfl, rfl, .int (1 + r), .int (1 + z), rfl, ?_⟩⟩
    obtain ⟨n, hn⟩ : ∃ n : Nat, 1 + r = (n : Int) := ⟨(1 + r).toNat, by omega⟩
    obtain ⟨m, hm⟩ : ∃ m : Nat, 1 + z = (m : Int) := ⟨(1 + z).toNat, by omega⟩
    rw [hn, hm]
    refine ⟨.ref d, rfl, d, p, q, c + 2, 5, rfl, D2, by omega, by decide, by decide, fun H3 y y0 y1 D3 k3 => ?_⟩
    have kp : Keep d p H H3 := k1.trans (k2.trans k3)
    refine ⟨_, _, rfl, rfl, _, rfl, ite2 (fun _ => ?_) (fun _ => ?_)⟩
    · exact ⟨.ref d, rfl, .int (n : Int), rfl, .int (m : Int), rfl, d, p, q, c + 3, n, m, rfl, D3, by omega, by omega, by omega, by omega, by omega, fun H4 a ts tab hl hall D4 k4 => qq H4 a n ts tab ⟨by omega, by omega, by omega, by omega, hall⟩ (D4.mono (by omega)) (kp.trans k4)⟩
    · exact ⟨.ref d, rfl, .int (n : Int), rfl, .int (m : Int), rfl, d, p, q, c + 3, n, m, rfl, D3, by omega, by omega, by omega, by omega, by omega, fun H4 a ts tab hl hall D4 k4 => qq H4 a n ts tab ⟨by omega, by omega, by omega, by omega, hall⟩ (D4.mono (by omega)) (kp.trans k4)⟩
end
end TR
namespace TR
open PySem PySem.Spec PyProof.Rows L2
theorem scWhole : FnScope ["value"] ["value"] (defScope sWhole) := ⟨rfl, rfl, rfl, by decide +kernel, rfl, by decide +kernel, by decide +kernel⟩
section
variable {P : Program} {w : World} {K : PySem.W.Frag} {mg : Str → Option Value} {base : Heap}
def spWhole : Sp := fun vs H Q _ => ∃ (x : V) (d : PyData) (ban : List Addr), vs = [x] ∧ Rp H ban d x ∧ Q (.bl (whole d)) H
theorem ok_whole {f : Addr} {fd : FuncData} {k : Nat} (F : Fun K "is_whole" "is_whole" sWhole f fd) (misi : mg "isinstance" = none) (mi : mg "int" = none) (mb : mg "bool" = none) : FnOk P w K mg base CX0 (k + 1) f fd ["value"] spWhole := by
  refine F.ok scWhole (fun vs H Q E h => ?_) (fun cdv A outer s H vs Q E hr h => ?_)
  · obtain ⟨x, d, ban, rfl, _⟩ := h
    rfl
  · obtain ⟨x, d, ban, rfl, hp, q⟩ := h
    refine ⟨_, pss_one (ps_ret (pe_and (pe_callB call_isi (by rfl) misi (by decide +kernel) (pa_cons (pv 0) (pa_cons (pe_bltn (v := .ty "int") (by rfl) mi (by decide +kernel) rfl) pa_nil))) (pe_one (pe_not (pe_callB call_isi (by rfl) misi (by decide +kernel) (pa_cons (pv 0) (pa_cons (pe_bltn (v := .ty "bool") (by rfl) mb (by decide +kernel) rfl) pa_nil))))))), ?_⟩
    obtain ⟨k1, k2, k3⟩ := kitD (K := K) d
    rw [← whole_ty] at q
    refine ⟨x, rfl, x, .ty "int", _, _, _, rfl, .ty _, tyRp hp, k2, _, rfl, ?_⟩
    cases e : decide (tyD d = "int" ∨ tyD d = "bool") with
    | true =>
      rw [e] at q
      exact iteT ⟨x, rfl, x, .ty "bool", _, _, _, rfl, .ty _, tyRp hp, k3, _, rfl, q⟩
    | false =>
      rw [e] at q
      exact iteF q
end
end TR
namespace TR
open PySem PySem.Spec PyProof.Rows L2
theorem scWithin : FnScope ["value", "low", "high"] ["value", "low", "high"] (defScope sWithin) := ⟨rfl, rfl, rfl, by decide +kernel, rfl, by decide +kernel, by decide +kernel⟩
section
variable {P : Program} {w : World} {K : PySem.W.Frag} {mg : Str → Option Value} {base : Heap}
/-! ### is_within -/
def spWithin : Sp := fun vs H Q _ => ∃ (x : V) (d : PyData) (ban : List Addr) (lo hi : Int), vs = [x, .int lo, .int hi] ∧ Rp H ban d x ∧ (∀ i, d = .int i → Q (.bl (decide (lo ≤ i ∧ i ≤ hi))) H) ∧ (whole d = false → Q (.bl false) H)
theorem ok_within {f fW : Addr} {fd dW : FuncData} {k : Nat} (F : Fun K "is_within" "is_within" sWithin f fd) (kW : PySem.W.keepIn K (.ref fW) = true) (bW : Binds K dW ["value"] []) (gW : mg "is_whole" = some (.ref fW)) (GW : FnOk P w K mg base CX0 (k + 1) fW dW ["value"] spWhole) :
    FnOk P w K mg base CX0 (k + 2) f fd ["value", "low", "high"] spWithin := by
  refine F.ok scWithin (fun vs H Q E h => ?_) (fun cdv A outer s H vs Q E hr h => ?_)
  · obtain ⟨x, d, ban, lo, hi, rfl, _⟩ := h
    rfl
  · obtain ⟨x, d, ban, lo, hi, rfl, hp, q1, q2⟩ := h
    refine ⟨_, pss_one (ps_ret (pe_and (pe_call GW hr (by rfl) gW kW bW .nil pass0 (pa_cons (pv 0) pa_nil)) (pe_one (pe_chain op_le op_le (pv 1) (pv 0) (pv 2))))), ?_⟩
    refine ⟨x, rfl, x, d, ban, rfl, hp, _, rfl, ?_⟩
    cases e : whole d with
    | false => exact iteF (q2 e)
    | true =>
      obtain ⟨i, rfl⟩ := whole_int e
      obtain rfl : x = .int i := hp
      refine iteT ?_
      have q := q1 i rfl
      refine ⟨_, rfl, _, rfl, _, _, rfl, rfl, _, rfl, ?_⟩
      show if decide (lo ≤ i) = true then _ else _
      by_cases c : lo ≤ i
      · rw [decide_eq_true c]
        refine iteT ⟨_, rfl, _, _, rfl, rfl, ?_⟩
        show Q (.bl (decide (i ≤ hi))) H
        rw [decide_eq_decide.mpr (show (i ≤ hi) ↔ (lo ≤ i ∧ i ≤ hi) by omega)]
        exact q
      · rw [decide_eq_false c]
        rw [decide_eq_false (by omega)] at q
        exact iteF q
end
end TR
namespace TR
open PySem PySem.Spec PyProof.Rows L2
theorem scAsc : FnScope ["value", "low", "high", "at", "part"] ["value", "low", "high"] (defScope sAsc) := ⟨rfl, rfl, rfl, by decide +kernel, rfl, by decide +kernel, by decide +kernel⟩
def winB (lo hi : Int) : PyData → Bool
  | .int i => decide (lo ≤ i ∧ i ≤ hi)
  | _ => false
theorem winB_false {lo hi : Int} {d : PyData} (h : whole d = false) : winB lo hi d = false := by
  cases d <;> first | rfl | (exfalso; simp [whole, tyD] at h)
def IsAsc (lo hi : Int) (d : PyData) : Prop := ∃ ns : List Int, d = .tuple (ns.map PyData.int) ∧ Asc lo hi ns
theorem win_all {lo hi : Int} : ∀ ds : List PyData, ds.all (winB lo hi) = true → ∃ ns : List Int, ds = ns.map PyData.int ∧ ∀ x ∈ ns, lo ≤ x ∧ x ≤ hi
  | [], _ => ⟨[], rfl, fun x hx => by cases hx⟩
  | d :: r, h => by
    rw [List.all_cons, Bool.and_eq_true] at h
    obtain ⟨ns, rfl, hb⟩ := win_all r h.2
    cases d with
    | int i =>
      refine ⟨i :: ns, rfl, fun x hx => ?_⟩
      rcases List.mem_cons.mp hx with rfl | hx
      · exact of_decide_eq_true h.1
      · exact hb x hx
    | _ => exact absurd h.1 Bool.false_ne_true
theorem all_win {lo hi : Int} {ns : List Int} (h : ∀ x ∈ ns, lo ≤ x ∧ x ≤ hi) : (ns.map PyData.int).all (winB lo hi) = true := by
  rw [List.all_map, List.all_eq_true]
  exact fun x hx => decide_eq_true (h x hx)
theorem int_at {ns : List Int} {j : Nat} (h : j < ns.length) : atI (ns.map V.int) (j : Int) = some (.int (ns.getD j 0)) := by
  rw [getD_of h]
  exact atI_nat (by rw [List.getElem?_map, List.getElem?_eq_getElem h]; rfl)
section
variable {P : Program} {w : World} {K : PySem.W.Frag} {mg : Str → Option Value} {base : Heap}
def spAsc : Sp := fun vs H Q _ => ∃ (x : V) (d : PyData) (ban : List Addr) (lo hi : Int), vs = [x, .int lo, .int hi] ∧ Rp H ban d x ∧ (∀ ds, d = .tuple ds → ds.length ≤ 100) ∧ ∀ H' b, Same H H' → (b = true ↔ IsAsc lo hi d) → Q (.bl b) H'
theorem ok_Asc {f f_is_within : Addr} {fd d_is_within : FuncData} {m : Nat} (F : Fun K "is_ascending" "is_ascending" sAsc f fd)
    (k_is_within : PySem.W.keepIn K (.ref f_is_within) = true) (b_is_within : Binds K d_is_within ["value", "low", "high"] []) (g_is_within : mg "is_within" = some (.ref f_is_within)) (G_is_within : FnOk P w K mg base CX0 m f_is_within d_is_within ["value", "low", "high"] spWithin)
    (m_all : mg "all" = none) (m_isinstance : mg "isinstance" = none) (m_tuple : mg "tuple" = none) (m_range : mg "range" = none) (m_len : mg "len" = none) : FnOk P w K mg base CX0 (m + 1) f fd ["value", "low", "high"] spAsc := by
  refine F.ok scAsc (fun vs H Q E h => ?_) (fun cdv A outer s H vs Q E hr h => ?_)
  · obtain ⟨x, d, ban, lo, hi, rfl, _⟩ := h
    rfl
  · obtain ⟨x, d, ban, lo, hi, rfl, hp, hlen, q⟩ := h
    refine ⟨_, 
      (pss_cons (ps_if (PW.pt (pw_or (pt_not (pt_val (pe_callB call_isi (by rfl) m_isinstance (by decide +kernel) (pa_cons (pv 0) (pa_cons (pe_bltn (v := .ty "tuple") (by rfl) m_tuple (by decide +kernel) rfl) pa_nil))))) (pw_or1 (pt_not (pt_val (pe_callB (cr_all (by rfl)) (by rfl) m_all (by decide +kernel) (pa_cons (pe_lc (own := [("part", 4)]) (g := gName 4) (tt := tYes) (by rfl) scAsc.nd (pi_tup (pv 0)) (blkOk_by (own := [("part", 4)]) (N := ["value", "low", "high", "at", "part"]) (sc := defScope sAsc) (by decide +kernel)) (fun _ _ _ _ _ => (pg_name (i := 4) scAsc.nd rfl (Or.inl rfl))) (fun _ _ _ _ _ => pts_nil) (fun _ _ _ _ _ => (pe_call G_is_within hr (by rfl) g_is_within k_is_within b_is_within .nil pass0 (pa_cons (pv 4) (pa_cons (pv 1) (pa_cons (pv 2) pa_nil)))))) pa_nil))))))) 
        (pss_one (ps_ret pe_bl)) pss_nil) 
      (pss_one (ps_ret (pe_callB (cr_all (by rfl)) (by rfl) m_all (by decide +kernel) (pa_cons (pe_lc (own := [("at", 3)]) (g := gName 3) (tt := tYes) (by rfl) scAsc.nd (pi_range2 (by rfl) m_range (pa_cons pe_int (pa_cons (pe_callB call_len_seq (by rfl) m_len PySem.boot_len (pa_cons (pv 0) pa_nil)) pa_nil))) (blkOk_by (own := [("at", 3)]) (N := ["value", "low", "high", "at", "part"]) (sc := defScope sAsc) (by decide +kernel)) (fun _ _ _ _ _ => (pg_name (i := 3) scAsc.nd rfl (Or.inl rfl))) (fun _ _ _ _ _ => pts_nil) (fun _ _ _ _ _ => (pe_cmpR op_lt (pe_ix (r := rIxT K) ix_tup (pv 0) (pe_op op_sub (pv 3) pe_int) (fun _ _ => rfl)) (pe_ix (r := rIxT K) ix_tup (pv 0) (pv 3) (fun _ _ => rfl)) (nomark _)))) pa_nil))))), ?_⟩
    obtain ⟨k1, k2, k3⟩ := kitD (K := K) d
    refine ⟨x, rfl, x, .ty "tuple", _, _, _, rfl, .ty _, tyRp hp, k1, _, rfl, ?_⟩
    by_cases ht : tyD d = "tuple"
    · rw [decide_eq_true ht]
      refine iteF ?_
      obtain ⟨ds, rfl⟩ := ty_tuple ht
      obtain ⟨a, xs, rfl, ha', hx⟩ := hp
      have ha := ha'.rd
      have hdl := hlen ds rfl
      have sq : ∀ {H1 : Hp}, Same H H1 → SqT K H1 a xs := fun s1 => .inl (rd_same s1 ha)
      refine ⟨.ref a, rfl, a, rfl, ⟨_, sq (Same.refl _)⟩, fun D hD => lc_tup (K := K) (a := a) (xs := xs) (fun i H1 => Same H H1 ∧ H1 D = some (.lst (((ds.take i).map (winB lo hi)).map V.bl))) ⟨same_upd hD, upd_same⟩ (fun i H1 _ h => sq h.1) (fun i y H1 hy h => ?_) (fun H1 h => ?_)⟩
      · obtain ⟨s1, e1⟩ := h
        obtain ⟨e, he, hre⟩ := hx.get hy
        have hi' : i < ds.length := (List.getElem?_eq_some_iff.mp he).1
        have fin : ∀ b, b = winB lo hi e → ∃ acc, H1 D = some (.lst acc) ∧ acc.length < sizeLine ∧ Same H (upd H1 D (.lst (acc ++ [.bl b]))) ∧ upd H1 D (.lst (acc ++ [.bl b])) D = some (.lst (((ds.take (i + 1)).map (winB lo hi)).map V.bl)) := by
          rintro b rfl
          refine ⟨_, e1, ?_, same_upd2 s1 hD, ?_⟩
          · rw [List.length_map, List.length_map, List.length_take]
            exact small1000 (by omega)
          · rw [upd_same, List.take_add_one, he, List.map_append, List.map_append]
            rfl
        exact ⟨rfl, y, rfl, .int lo, rfl, .int hi, rfl, y, e, ban, lo, hi, rfl, hre.same s1, fun j hd => fin _ (by rw [hd]; rfl), fun hw => fin _ (winB_false hw).symm⟩
      · obtain ⟨s1, e1⟩ := h
        rw [List.take_of_length_le (by rw [hx.len]; exact Nat.le_refl _)] at e1
        refine ⟨D, _, rfl, sqL e1, _, rfl, ?_⟩
        have ea : (ds.map (winB lo hi)).all id = ds.all (winB lo hi) := by
          rw [List.all_map]
          rfl
        rw [ea]
        cases hw : ds.all (winB lo hi) with
        | false =>
          refine iteT (q H1 false s1 (ff_iff ?_))
          rintro ⟨ns, e, hb, _⟩
          injection e with e
          rw [e, all_win hb] at hw
          cases hw
        | true =>
          refine iteF ?_
          obtain ⟨ns, rfl, hb⟩ := win_all ds hw
          have ex := hx.int_vals
          subst ex
          rw [List.length_map] at hdl
          refine ⟨.ref a, rfl, a, _, rfl, .inr (sq s1), 1, _, rfl, ⟨by omega, by omega, by omega, by rw [List.length_map]; omega⟩, fun D2 hD2 => ?_⟩
          refine walk_in (n := (((ns.map V.int).length : Int) - 1).toNat) (lo := 1) (fun i H2 => Same H1 H2 ∧ H2 D2 = some (.lst (((List.range i).map fun k => decide (ns.getD k 0 < ns.getD (k + 1) 0)).map V.bl))) ⟨same_upd hD2, upd_same⟩ (fun i H2 hi2 h => ?_) (fun H2 h => ?_)
          · obtain ⟨s2, e2⟩ := h
            rw [List.length_map] at hi2
            have v0 : atI (ns.map V.int) (1 + (i : Int) - 1) = some (.int (ns.getD i 0)) := by
              rw [show (1 + (i : Int) - 1) = (i : Int) by omega]
              exact int_at (by omega)
            have v1 : atI (ns.map V.int) (1 + (i : Int)) = some (.int (ns.getD (i + 1) 0)) := by
              rw [show (1 + (i : Int)) = ((i + 1 : Nat) : Int) by omega]
              exact int_at (by omega)
            have q12 := sq (s1.trans s2)
            refine ⟨rfl, .ref a, rfl, .int (1 + (i : Int)), rfl, _, 1, rfl, rfl, a, _, _, _, rfl, rfl, q12, v0, .ref a, rfl, .int (1 + (i : Int)), rfl, a, _, _, _, rfl, rfl, q12, v1, _, _, rfl, rfl, _, e2, ?_, same_upd2 s2 hD2, ?_⟩
            · rw [List.length_map, List.length_map, List.length_range]
              exact small1000 (by omega)
            · rw [upd_same, map_succ, List.map_append]
              rfl
          · obtain ⟨s2, e2⟩ := h
            refine ⟨D2, _, rfl, sqL e2, q H2 _ (s1.trans s2) ?_⟩
            rw [List.length_map, List.all_map, List.all_eq_true]
            constructor
            · intro h
              refine ⟨ns, rfl, hb, adj_pw fun i hi2 => of_decide_eq_true (h i (List.mem_range.mpr (by omega)))⟩
            · rintro ⟨ms, e, _, hpw⟩ i hi2
              injection e with e
              have em := ints_inj e
              subst em
              have := List.mem_range.mp hi2
              exact decide_eq_true (pw_adj hpw i (by omega))
    · rw [decide_eq_false ht]
      refine iteT (q H false (Same.refl _) (ff_iff ?_))
      rintro ⟨ns, rfl, _⟩
      exact ht rfl
end
end TR
namespace TR
open PySem PySem.Spec PyProof.Rows L2
theorem scMenuOf : FnScope ["dishes", "value"] ["dishes", "value"] (defScope sMenuOf) := ⟨rfl, rfl, rfl, by decide +kernel, rfl, by decide +kernel, by decide +kernel⟩
def IsMenuD (n : Nat) (d : PyData) : Prop := ∃ ms : List Int, d = .tuple (ms.map PyData.int) ∧ IsMn n ms
section
variable {P : Program} {w : World} {K : PySem.W.Frag} {mg : Str → Option Value} {base : Heap}
def spMenuOf : Sp := fun vs H Q _ => ∃ (x : V) (d : PyData) (ban : List Addr) (n : Nat), vs = [.int (n : Int), x] ∧ Rp H ban d x ∧ (∀ ds, d = .tuple ds → ds.length ≤ 100) ∧ ∀ H' b, Same H H' → (b = true ↔ IsMenuD n d) → Q (.bl b) H'
theorem ok_MenuOf {f f_is_ascending : Addr} {fd d_is_ascending : FuncData} {m : Nat} (F : Fun K "is_menu_of" "is_menu_of" sMenuOf f fd)
    (k_is_ascending : PySem.W.keepIn K (.ref f_is_ascending) = true) (b_is_ascending : Binds K d_is_ascending ["value", "low", "high"] []) (g_is_ascending : mg "is_ascending" = some (.ref f_is_ascending)) (G_is_ascending : FnOk P w K mg base CX0 m f_is_ascending d_is_ascending ["value", "low", "high"] spAsc)
    (m_len : mg "len" = none) : FnOk P w K mg base CX0 (m + 1) f fd ["dishes", "value"] spMenuOf := by
  refine F.ok scMenuOf (fun vs H Q E h => ?_) (fun cdv A outer s H vs Q E hr h => ?_)
  · obtain ⟨x, d, ban, n, rfl, _⟩ := h
    rfl
  · obtain ⟨x, d, ban, n, rfl, hp, hlen, q⟩ := h
    refine ⟨_, 
      (pss_one (ps_ret (pe_and (pe_call G_is_ascending hr (by rfl) g_is_ascending k_is_ascending b_is_ascending .nil pass0 (pa_cons (pv 1) (pa_cons pe_int (pa_cons (pe_op op_sub (pv 0) pe_int) pa_nil)))) (pe_one (pe_cmpR op_gt (pe_callB call_len_seq (by rfl) m_len PySem.boot_len (pa_cons (pv 1) pa_nil)) pe_int (nomark _)))))), ?_⟩
    refine ⟨x, rfl, .int (n : Int), rfl, _, 1, rfl, rfl, x, d, ban, 0, (n : Int) - 1, rfl, hp, hlen, fun H1 b s1 hb => ⟨_, rfl, ?_⟩⟩
    cases b with
    | false =>
      refine iteF (q H1 false s1 (ff_iff ?_))
      rintro ⟨ms, e, h⟩
      exact Bool.false_ne_true (hb.mpr ⟨ms, e, h.2⟩)
    | true =>
      obtain ⟨ms, rfl, ha⟩ := hb.mp rfl
      obtain ⟨a, xs, rfl, hr1', hx⟩ := hp
      have hr1 := hr1'.rd
      have ex := hx.int_vals
      subst ex
      refine iteT ⟨.ref a, rfl, a, _, rfl, .inr (.inl (rd_same s1 hr1)), _, _, rfl, rfl, q H1 _ s1 ?_⟩
      rw [decide_eq_true_eq, List.length_map]
      constructor
      · intro h
        refine ⟨ms, rfl, fun e => ?_, ha⟩
        rw [e] at h
        exact absurd h (by decide)
      · rintro ⟨os, e, h⟩
        injection e with e
        have em := ints_inj e
        subst em
        have := List.length_pos_iff.mpr h.1
        show (0 : Int) < _
        omega
end
end TR
namespace TR
open PySem PySem.Spec PyProof.Rows L2
theorem scIsMenu : FnScope ["table", "value"] ["table", "value"] (defScope sIsMenu) := ⟨rfl, rfl, rfl, by decide +kernel, rfl, by decide +kernel, by decide +kernel⟩
section
variable {P : Program} {w : World} {K : PySem.W.Frag} {mg : Str → Option Value} {base : Heap}
def spIsMenu : Sp := fun vs H Q _ => ∃ (t : Addr) (n : Nat) (ts : Tas) (x : V) (d : PyData) (ban : List Addr), vs = [.ref t, x] ∧ Tab H t n ts ∧ Rp H ban d x ∧ (∀ ds, d = .tuple ds → ds.length ≤ 100) ∧ ∀ H' b, Same H H' → (b = true ↔ IsMenuD n d) → Q (.bl b) H'
theorem ok_IsMenu {f f_is_menu_of : Addr} {fd d_is_menu_of : FuncData} {m : Nat} (F : Fun K "is_menu" "is_menu" sIsMenu f fd)
    (k_is_menu_of : PySem.W.keepIn K (.ref f_is_menu_of) = true) (b_is_menu_of : Binds K d_is_menu_of ["dishes", "value"] []) (g_is_menu_of : mg "is_menu_of" = some (.ref f_is_menu_of)) (G_is_menu_of : FnOk P w K mg base CX0 m f_is_menu_of d_is_menu_of ["dishes", "value"] spMenuOf)
     : FnOk P w K mg base CX0 (m + 1) f fd ["table", "value"] spIsMenu := by
  refine F.ok scIsMenu (fun vs H Q E h => ?_) (fun cdv A outer s H vs Q E hr h => ?_)
  · obtain ⟨t, n, ts, x, d, ban, rfl, _⟩ := h
    rfl
  · obtain ⟨t, n, ts, x, d, ban, rfl, tab, hp, hlen, q⟩ := h
    refine ⟨_, 
      (pss_one (ps_ret (pe_call G_is_menu_of hr (by rfl) g_is_menu_of k_is_menu_of b_is_menu_of .nil pass0 (pa_cons (pe_ix (r := rIxT K) ix_tup (pv 0) pe_int (fun _ _ => rfl)) (pa_cons (pv 1) pa_nil))))), ?_⟩
    obtain ⟨b, xs, h1, h2, h3⟩ := tab.out
    exact ⟨.ref t, rfl, t, _, 0, .int (n : Int), rfl, rfl, .inl h1, atI_nat (j := 0) rfl, x, rfl, x, d, ban, n, rfl, hp, hlen, q⟩
end
end TR
namespace TR
open PySem PySem.Spec PyProof.Rows L2
theorem scChosen : FnScope ["ranking", "menu", "dish"] ["ranking", "menu"] (defScope sChosen) := ⟨rfl, rfl, rfl, by decide +kernel, rfl, by decide +kernel, by decide +kernel⟩
section
variable {P : Program} {w : World} {K : PySem.W.Frag} {mg : Str → Option Value} {base : Heap}
def spChosen : Sp := fun vs H Q _ => ∃ (a b : Addr) (rk ms : List Int), vs = [.ref a, .ref b] ∧ Tp H a rk ∧ Rd H b (.tup (ms.map V.int)) ∧ ms ≠ [] ∧ ms.length ≤ 100 ∧ (∀ x ∈ ms, x ∈ rk) ∧ ∀ H', Same H H' → Q (.int (cpos rk ms)) H'
theorem ok_Chosen {f  : Addr} {fd  : FuncData} {m : Nat} (F : Fun K "chosen_position" "chosen_position" sChosen f fd)
    (m_min : mg "min" = none) : FnOk P w K mg base CX0 (m + 1) f fd ["ranking", "menu"] spChosen := by
  refine F.ok scChosen (fun vs H Q E h => ?_) (fun cdv A outer s H vs Q E hr h => ?_)
  · obtain ⟨a, b, rk, ms, rfl, _⟩ := h
    rfl
  · obtain ⟨a, b, rk, ms, rfl, ha, hb, hne, hlen, hin, q⟩ := h
    refine ⟨_, 
      (pss_one (ps_ret (pe_callB (r := rMin K) (cr_min (by rfl)) (by rfl) m_min (by decide +kernel) (pa_cons (pe_lc (own := [("dish", 2)]) (g := gName 2) (tt := tYes) (by rfl) scChosen.nd (pi_tup (pv 1)) (blkOk_by (own := [("dish", 2)]) (N := ["ranking", "menu", "dish"]) (sc := defScope sChosen) (by decide +kernel)) (fun _ _ _ _ _ => (pg_name (i := 2) scChosen.nd rfl (Or.inl rfl))) (fun _ _ _ _ _ => pts_nil) (fun _ _ _ _ _ => (pe_bmT (r := rTupIdx K) PySem.F.slot_tuple_index PySem.F.type_tuple_index mt_tupIdx (pv 0) (pa_cons (pv 2) pa_nil)))) pa_nil)))), ?_⟩
    refine ⟨.ref b, rfl, b, rfl, ⟨_, .inl hb⟩, fun D hD => lc_tup (K := K) (a := b) (xs := ms.map V.int) (fun i H1 => Same H H1 ∧ H1 D = some (.lst (((ms.take i).map fun d => ((rk.idxOf d : Nat) : Int)).map V.int))) ⟨same_upd hD, upd_same⟩ (fun i H1 _ h => .inl (rdT_same hb h.1)) (fun i x H1 hx h => ?_) (fun H1 h => ?_)⟩
    · obtain ⟨s1, e1⟩ := h
      rw [List.getElem?_map] at hx
      obtain ⟨z, hz, rfl⟩ := Option.map_eq_some_iff.mp hx
      have hi : i < ms.length := (List.getElem?_eq_some_iff.mp hz).1
      have ha1 := ha.same s1
      obtain ⟨o, hd, he⟩ := id ha1
      have hm := hin z (List.mem_of_getElem? hz)
      refine ⟨rfl, .ref a, rfl, ⟨a, o, _, rfl, hd, he⟩, .int z, rfl, a, rk, z, rk.idxOf z, rfl, rfl, ha1.sq, at_idx hm, fun m hm => idx_first hm, _, e1, ?_, same_upd2 s1 hD, ?_⟩
      · rw [List.length_map, List.length_map, List.length_take]
        exact small1000 (by omega)
      · rw [upd_same, List.take_add_one, hz, List.map_append, List.map_append]
        rfl
    · obtain ⟨s1, e1⟩ := h
      rw [List.length_map, List.take_length] at e1
      refine ⟨D, _, rfl, sqL e1, ?_, fun m h1 h2 => ?_⟩
      · rw [List.length_map]
        exact List.length_pos_iff.mpr hne
      · rw [mn_uniq h1 h2]
        exact q H1 s1
end
end TR
namespace TR
open PySem PySem.Spec PyProof.Rows L2
theorem scCost28 : FnScope ["table", "menu", "ranking", "weight"] ["table", "menu"] (defScope sCost28) := ⟨rfl, rfl, rfl, by decide +kernel, rfl, by decide +kernel, by decide +kernel⟩
section
variable {P : Program} {w : World} {K : PySem.W.Frag} {mg : Str → Option Value} {base : Heap}
def spCost : Sp := fun vs H Q _ => ∃ (t b : Addr) (n : Nat) (ts : Tas) (ms : List Int), vs = [.ref t, .ref b] ∧ Tab H t n ts ∧ n ≤ 8 ∧ ts.length ≤ 100 ∧ (∀ t ∈ ts, Rank n t.1) ∧ Tp H b ms ∧ IsMn n ms ∧ ms.length ≤ 100 ∧ ∀ H', Same H H' → Q (.int (cst ts ms)) H'
def spCostX (C : Addr) : Sp := fun vs H Q E => ∃ (t : Addr) (x : V) (n : Nat) (ts : Tas) (d : PyData) (ban : List Addr), vs = [.ref t, x] ∧ Tab H t n ts ∧ n ≤ 8 ∧ ts.length ≤ 100 ∧ (∀ t ∈ ts, Rank n t.1) ∧ Rp H ban d x ∧ (∀ ds, d = .tuple ds → ds.length ≤ 100) ∧
  (∀ ms : List Int, d = .tuple (ms.map PyData.int) → IsMn n ms → ∀ H', Same H H' → Q (.int (cst ts ms)) H') ∧ (¬ IsMenuD n d → ∀ H', Same H H' → E (.ref C) none H')
theorem menu_in {n : Nat} {rk ms : List Int} (r : Rank n rk) (h : IsMn n ms) : ∀ x ∈ ms, x ∈ rk := fun x hx => by
  have b := h.2.1 x hx
  exact r.mem b.1 (by omega)
theorem ok_Cost28 {c_NoMenu : Addr} {f f_is_menu f_chosen_position : Addr} {fd d_is_menu d_chosen_position : FuncData} {m : Nat} (F : Fun K "cost" "cost" sCost28 f fd)
    (k_is_menu : PySem.W.keepIn K (.ref f_is_menu) = true) (b_is_menu : Binds K d_is_menu ["table", "value"] []) (g_is_menu : mg "is_menu" = some (.ref f_is_menu)) (G_is_menu : FnOk P w K mg base CX0 m f_is_menu d_is_menu ["table", "value"] spIsMenu)
    (k_chosen_position : PySem.W.keepIn K (.ref f_chosen_position) = true) (b_chosen_position : Binds K d_chosen_position ["ranking", "menu"] []) (g_chosen_position : mg "chosen_position" = some (.ref f_chosen_position)) (G_chosen_position : FnOk P w K mg base CX0 m f_chosen_position d_chosen_position ["ranking", "menu"] spChosen)
    (T_NoMenu : Mk0 K mg "NoMenu" c_NoMenu) (m_sum : mg "sum" = none) : FnOk P w K mg base (L2.CX P w) (m + 1) f fd ["table", "menu"] (spCostX c_NoMenu) := by
  refine F.okX scCost28 (fun vs H Q E h => ?_) (fun cdv A outer s H vs Q E hr h => ?_)
  · obtain ⟨t, x, n, ts, d, ban, rfl, _⟩ := h
    rfl
  · obtain ⟨t, x, n, ts, d, ban, rfl, tab, hn, hlt, hrk, hp, hlen, q1, q2⟩ := h
    refine ⟨_, 
      (pss_cons (ps_if (pt_not (pt_val (pe_call G_is_menu hr (by rfl) g_is_menu k_is_menu b_is_menu .nil pass0 (pa_cons (pv 0) (pa_cons (pv 1) pa_nil))))) 
        (pss_one (ps_raise (W := fun cls d _ H => E cls d H) rfl (takes_of rfl rfl rfl rfl) (pmk_0 PySem.F.excBase_ValueError T_NoMenu.q T_NoMenu.g T_NoMenu.k (raises_own T_NoMenu.b T_NoMenu.t) (by rfl)))) pss_nil) (PSs.nox 
      (pss_one (ps_ret (pe_callB (r := rSum K) (cr_sum (by rfl)) (by rfl) m_sum (by decide +kernel) (pa_cons (pe_lc (own := [("ranking", 2), ("weight", 3)]) (g := gTup K 2 (gCons (gName 2) (gCons (gName 3) gNil))) (tt := tYes) (by rfl) scCost28.nd (pi_tup (pe_ix (r := rIxT K) ix_tup (pv 0) pe_int (fun _ _ => rfl))) (blkOk_by (own := [("ranking", 2), ("weight", 3)]) (N := ["table", "menu", "ranking", "weight"]) (sc := defScope sCost28) (by decide +kernel)) (fun _ _ _ _ _ => (pg_tup (by rfl) (pgs_cons (pg_name (i := 2) scCost28.nd rfl (Or.inl rfl)) (pgs_cons (pg_name (i := 3) scCost28.nd rfl (Or.inl rfl)) pgs_nil)))) (fun _ _ _ _ _ => pts_nil) (fun _ _ _ _ _ => (pe_op op_mul (pv 3) (pe_call G_chosen_position hr (by rfl) g_chosen_position k_chosen_position b_chosen_position .nil pass0 (pa_cons (pv 2) (pa_cons (pv 1) pa_nil)))))) pa_nil)))))), ?_⟩
    refine ⟨.ref t, rfl, x, rfl, t, n, ts, x, d, ban, rfl, tab, hp, hlen, fun H1 c s1 hc => ⟨_, rfl, ?_⟩⟩
    cases c with
    | false => exact iteT (q2 (fun z => Bool.false_ne_true (hc.mpr z)) H1 s1)
    | true =>
      obtain ⟨ms, rfl, hm⟩ := hc.mp rfl
      obtain ⟨b, xs0, rfl, hb', hx0⟩ := hp
      have ex := hx0.int_vals
      subst ex
      have hb : Tp H b ms := hb'
      have hlm : ms.length ≤ 100 := by have := hlen _ rfl; rw [List.length_map] at this; exact this
      replace q1 := q1 ms rfl hm
      refine iteF ?_
      obtain ⟨u, xs, h1, h2, h3⟩ := (tab.same s1).out
      refine ⟨.ref t, rfl, t, _, 1, .ref u, rfl, rfl, .inl h1, atI_nat (j := 1) rfl, u, rfl, ⟨_, .inl h2⟩, fun D hD => lc_tup (K := K) (a := u) (xs := xs) (fun i H2 => Same H1 H2 ∧ H2 D = some (.lst (((ts.take i).map fun t => t.2 * cpos t.1 ms).map V.int))) ⟨same_upd hD, upd_same⟩ (fun i H2 _ h => .inl (rdT_same h2 h.1)) (fun i x H2 hx h => ?_) (fun H2 h => ?_)⟩
      · obtain ⟨s2, e2⟩ := h
        obtain ⟨tt, r, rk, w, rfl, hg, hr1, hr2⟩ := (h3.same s2).get hx
        have hi : i < ts.length := (List.getElem?_eq_some_iff.mp hg).1
        have rrk := hrk _ (List.mem_of_getElem? hg)
        dsimp only at rrk
        have c1 := cpos_ge (rk := rk) (ms := ms)
        have c2 := cpos_lt rrk hm
        refine ⟨tt, _, rfl, .inl hr1, rfl, .ref r, _, rfl, .int w, _, rfl, rfl, rfl, .int w, rfl, .ref r, rfl, .ref b, rfl, r, b, rk, ms, rfl, hr2, (hb.same (s1.trans s2)).rd, hm.1, hlm, menu_in rrk hm, fun H3 s3 => ?_⟩
        refine ⟨w, _, rfl, rfl, .inr ⟨by show -(2 : Int) ^ 64 < _; omega, by show _ < (2 : Int) ^ 64; omega⟩, _, s3 _ _ e2, ?_, same_upd2 (s2.trans s3) hD, ?_⟩
        · rw [List.length_map, List.length_map, List.length_take]
          exact small1000 (by omega)
        · rw [upd_same, List.take_add_one, hg, List.map_append, List.map_append]
          rfl
      · obtain ⟨s2, e2⟩ := h
        rw [h3.len, List.take_length] at e2
        exact ⟨D, _, rfl, sqL e2, q1 H2 (s1.trans s2)⟩
end
end TR
namespace TR
open PySem PySem.Spec PyProof.Rows L2
theorem scChoices : FnScope ["table", "menu", "ranking", "weight"] ["table", "menu"] (defScope sChoices) := ⟨rfl, rfl, rfl, by decide +kernel, rfl, by decide +kernel, by decide +kernel⟩
section
variable {P : Program} {w : World} {K : PySem.W.Frag} {mg : Str → Option Value} {base : Heap}
/-- the dish that a taster chooses -/
def chs (rk ms : List Int) : Int := rk.getD (cpos rk ms).toNat 0
def spChoices (C : Addr) : Sp := fun vs H Q E => ∃ (t : Addr) (x : V) (n : Nat) (ts : Tas) (d : PyData) (ban : List Addr), vs = [.ref t, x] ∧ Tab H t n ts ∧ n ≤ 8 ∧ ts.length ≤ 100 ∧ (∀ t ∈ ts, Rank n t.1) ∧ Rp H ban d x ∧ (∀ ds, d = .tuple ds → ds.length ≤ 100) ∧
  (∀ ms : List Int, d = .tuple (ms.map PyData.int) → IsMn n ms → ∀ H' b, Same H H' → Tp H' b (ts.map fun t => chs t.1 ms) → Q (.ref b) H') ∧ (¬ IsMenuD n d → ∀ H', Same H H' → E (.ref C) none H')
theorem ok_Choices {c_NoMenu : Addr} {f f_is_menu f_chosen_position : Addr} {fd d_is_menu d_chosen_position : FuncData} {m : Nat} (F : Fun K "choices" "choices" sChoices f fd)
    (k_is_menu : PySem.W.keepIn K (.ref f_is_menu) = true) (b_is_menu : Binds K d_is_menu ["table", "value"] []) (g_is_menu : mg "is_menu" = some (.ref f_is_menu)) (G_is_menu : FnOk P w K mg base CX0 m f_is_menu d_is_menu ["table", "value"] spIsMenu)
    (k_chosen_position : PySem.W.keepIn K (.ref f_chosen_position) = true) (b_chosen_position : Binds K d_chosen_position ["ranking", "menu"] []) (g_chosen_position : mg "chosen_position" = some (.ref f_chosen_position)) (G_chosen_position : FnOk P w K mg base CX0 m f_chosen_position d_chosen_position ["ranking", "menu"] spChosen)
    (T_NoMenu : Mk0 K mg "NoMenu" c_NoMenu) (m_tuple : mg "tuple" = none) : FnOk P w K mg base (L2.CX P w) (m + 1) f fd ["table", "menu"] (spChoices c_NoMenu) := by
  refine F.okX scChoices (fun vs H Q E h => ?_) (fun cdv A outer s H vs Q E hr h => ?_)
  · obtain ⟨t, x, n, ts, d, ban, rfl, _⟩ := h
    rfl
  · obtain ⟨t, x, n, ts, d, ban, rfl, tab, hn, hlt, hrk, hp, hlen, q1, q2⟩ := h
    refine ⟨_, 
      (pss_cons (ps_if (pt_not (pt_val (pe_call G_is_menu hr (by rfl) g_is_menu k_is_menu b_is_menu .nil pass0 (pa_cons (pv 0) (pa_cons (pv 1) pa_nil))))) 
        (pss_one (ps_raise (W := fun cls d _ H => E cls d H) rfl (takes_of rfl rfl rfl rfl) (pmk_0 PySem.F.excBase_ValueError T_NoMenu.q T_NoMenu.g T_NoMenu.k (raises_own T_NoMenu.b T_NoMenu.t) (by rfl)))) pss_nil) (PSs.nox 
      (pss_one (ps_ret (pe_callTy call_tupleF (by rfl) m_tuple (by decide +kernel) (pa_cons (pe_lc (own := [("ranking", 2), ("weight", 3)]) (g := gTup K 2 (gCons (gName 2) (gCons (gName 3) gNil))) (tt := tYes) (by rfl) scChoices.nd (pi_tup (pe_ix (r := rIxT K) ix_tup (pv 0) pe_int (fun _ _ => rfl))) (blkOk_by (own := [("ranking", 2), ("weight", 3)]) (N := ["table", "menu", "ranking", "weight"]) (sc := defScope sChoices) (by decide +kernel)) (fun _ _ _ _ _ => (pg_tup (by rfl) (pgs_cons (pg_name (i := 2) scChoices.nd rfl (Or.inl rfl)) (pgs_cons (pg_name (i := 3) scChoices.nd rfl (Or.inl rfl)) pgs_nil)))) (fun _ _ _ _ _ => pts_nil) (fun _ _ _ _ _ => (pe_ix (r := rIxT K) ix_tup (pv 2) (pe_call G_chosen_position hr (by rfl) g_chosen_position k_chosen_position b_chosen_position .nil pass0 (pa_cons (pv 2) (pa_cons (pv 1) pa_nil))) (fun _ _ => rfl)))) pa_nil)))))), ?_⟩
    refine ⟨.ref t, rfl, x, rfl, t, n, ts, x, d, ban, rfl, tab, hp, hlen, fun H1 c s1 hc => ⟨_, rfl, ?_⟩⟩
    cases c with
    | false => exact iteT (q2 (fun z => Bool.false_ne_true (hc.mpr z)) H1 s1)
    | true =>
      obtain ⟨ms, rfl, hm⟩ := hc.mp rfl
      obtain ⟨b, xs0, rfl, hb', hx0⟩ := hp
      have ex := hx0.int_vals
      subst ex
      have hb : Tp H b ms := hb'
      have hlm : ms.length ≤ 100 := by have := hlen _ rfl; rw [List.length_map] at this; exact this
      replace q1 := q1 ms rfl hm
      refine iteF ?_
      obtain ⟨u, xs, h1, h2, h3⟩ := (tab.same s1).out
      refine ⟨.ref t, rfl, t, _, 1, .ref u, rfl, rfl, .inl h1, atI_nat (j := 1) rfl, u, rfl, ⟨_, .inl h2⟩, fun D hD => lc_tup (K := K) (a := u) (xs := xs) (fun i H2 => Same H1 H2 ∧ H2 D = some (.lst (((ts.take i).map fun t => chs t.1 ms).map V.int))) ⟨same_upd hD, upd_same⟩ (fun i H2 _ h => .inl (rdT_same h2 h.1)) (fun i x H2 hx h => ?_) (fun H2 h => ?_)⟩
      · obtain ⟨s2, e2⟩ := h
        obtain ⟨tt, r, rk, w, rfl, hg, hr1, hr2⟩ := (h3.same s2).get hx
        have hi : i < ts.length := (List.getElem?_eq_some_iff.mp hg).1
        have rrk := hrk _ (List.mem_of_getElem? hg)
        dsimp only at rrk
        have c1 := cpos_ge (rk := rk) (ms := ms)
        have c2 := cpos_lt rrk hm
        have hcl : (cpos rk ms).toNat < rk.length := by have := rrk.len; omega
        have hat : atI (rk.map V.int) (cpos rk ms) = some (.int (chs rk ms)) := by
          obtain ⟨k, hk⟩ := Int.eq_ofNat_of_zero_le c1
          rw [hk]
          refine atI_nat (j := k) ?_
          have hk2 : (cpos rk ms).toNat = k := by omega
          unfold chs
          rw [hk2] at hcl ⊢
          rw [List.getElem?_map, List.getElem?_eq_getElem hcl, List.getD_eq_getElem?_getD, List.getElem?_eq_getElem hcl]
          rfl
        refine ⟨tt, _, rfl, .inl hr1, rfl, .ref r, _, rfl, .int w, _, rfl, rfl, rfl, .ref r, rfl, .ref r, rfl, .ref b, rfl, r, b, rk, ms, rfl, hr2, (hb.same (s1.trans s2)).rd, hm.1, hlm, menu_in rrk hm, fun H3 s3 => ?_⟩
        refine ⟨r, _, _, _, rfl, rfl, (hr2.same s3).sq, hat, _, s3 _ _ e2, ?_, same_upd2 (s2.trans s3) hD, ?_⟩
        · rw [List.length_map, List.length_map, List.length_take]
          exact small1000 (by omega)
        · rw [upd_same, List.take_add_one, hg, List.map_append, List.map_append]
          rfl
      · obtain ⟨s2, e2⟩ := h
        rw [h3.len, List.take_length] at e2
        exact ⟨D, _, rfl, sqL e2, fun p o hp ho => q1 _ p (s1.trans (s2.trans (same_upd hp))) (Tp.new ho)⟩
end
end TR
namespace TR
open PySem PySem.Spec PyProof.Rows L2
theorem scMenu : FnScope ["_law_deck_here", "_law_dishes", "_law_found", "_law_dish"] ["_law_deck_here", "_law_dishes"] (defScope sMenu) := ⟨rfl, rfl, rfl, by decide +kernel, rfl, by decide +kernel, by decide +kernel⟩
section
variable {P : Program} {w : World} {K : PySem.W.Frag} {mg : Str → Option Value} {base : Heap}
def spMenu : Sp := fun vs H Q _ => ∃ (d p q : Addr) (c n : Nat), vs = [.ref d, .int (n : Int)] ∧ Deck H d p q c ∧ c ≤ 900000 ∧ 1 ≤ n ∧ n ≤ 8 ∧
  ∀ H' a ms, Tp H' a ms → IsMn n ms → ms.length ≤ 8 → Deck H' d p q (c + 9) → Keep d p H H' → Q (.ref a) H'
theorem ok_Menu {f f__law_next : Addr} {fd d__law_next : FuncData} {m : Nat} (F : Fun K "_law_menu" "_law_menu" sMenu f fd)
    (k__law_next : PySem.W.keepIn K (.ref f__law_next) = true) (b__law_next : Binds K d__law_next ["_law_deck_here", "_law_many"] []) (g__law_next : mg "_law_next" = some (.ref f__law_next)) (G__law_next : FnOk P w K mg base CX0 m f__law_next d__law_next ["_law_deck_here", "_law_many"] spNext)
    (m_range : mg "range" = none) (m_tuple : mg "tuple" = none) : FnOk P w K mg base CX0 (m + 1) f fd ["_law_deck_here", "_law_dishes"] spMenu := by
  refine F.ok scMenu (fun vs H Q E h => ?_) (fun cdv A outer s H vs Q E hr h => ?_)
  · obtain ⟨d, p, q, c, n, rfl, _⟩ := h
    rfl
  · obtain ⟨d, p, q, c, n, rfl, D0, hc, hn1, hn, qq⟩ := h
    refine ⟨_, 
      (pss_cons (ps_setLc (i := 2) (own := [("_law_dish", 3)]) (g := gName 3)  (by rfl) scMenu.nd rfl rfl (sw_true rfl rfl rfl (by decide +kernel)) (pi_range1 (by rfl) m_range (pa_cons (pv 1) pa_nil)) (blkOk_by (own := [("_law_dish", 3)]) (N := ["_law_deck_here", "_law_dishes", "_law_found", "_law_dish"]) (sc := defScope sMenu) (by decide +kernel)) (fun _ _ _ _ _ => (pg_name (i := 3) scMenu.nd rfl (Or.inl rfl))) (fun _ _ _ _ _ => (pts_one (pt_cmpR op_eq (pe_call G__law_next hr (by rfl) g__law_next k__law_next b__law_next .nil pass0 (pa_cons (pv 0) (pa_cons pe_int pa_nil))) pe_int (nomark _)))) (fun _ _ _ _ _ => (pv 3))) 
      (pss_one (ps_ret (pe_ifExp (pt_cmpR (op_neD hr.units) (pv 2) (pe_lst pa_nil) (nomark _)) (pe_callTy call_tupleF (by rfl) m_tuple (by decide +kernel) (pa_cons (pv 2) pa_nil)) (pe_tupF (pa_cons (pe_call G__law_next hr (by rfl) g__law_next k__law_next b__law_next .nil pass0 (pa_cons (pv 0) (pa_cons (pv 1) pa_nil))) pa_nil)))))), ?_⟩
    refine ⟨.int (n : Int), rfl, n, rfl, by omega, by omega, fun L hL => walk_in (n := n) (lo := 0) (fun i H1 => Deck H1 d p q (c + i) ∧ Keep d p H H1 ∧ ∃ ks : List Int, H1 L = some (.lst (ks.map V.int)) ∧ ks.length ≤ i ∧ (∀ z ∈ ks, 0 ≤ z ∧ z < (i : Int)) ∧ ks.Pairwise (· < ·)) ⟨D0.same (same_upd hL), Same.keep (same_upd hL), [], upd_same, Nat.le_refl _, (fun z hz => by cases hz), List.Pairwise.nil⟩ (fun i H1 hi h => ?_) (fun H1 h => ?_)⟩
    · obtain ⟨D1, k1, ks, eL, hl, hb, hpw⟩ := h
      refine ⟨rfl, .ref d, rfl, d, p, q, c + i, 2, rfl, D1, by omega, by decide, by decide, fun H2 r r0 r1 D2 k2 => ⟨rfl, _, rfl, ite2 (fun _ => ?_) (fun _ => ?_)⟩⟩
      · have nLd : L ≠ d := D0.ned hL
        have nLp : L ≠ p := D0.nep hL
        have nLq : L ≠ q := D0.neq hL
        have eL2 := k2 _ _ eL nLd nLp
        refine ⟨.int (0 + (i : Int)), rfl, _, eL2, by rw [List.length_map]; exact small1000 (by omega), (D2.upd nLd nLp nLq).mono (by omega), keep_fresh (k1.trans k2) hL, ks ++ [0 + (i : Int)], ?_, ?_, ?_, ?_⟩
        · rw [upd_same, List.map_append]
          rfl
        · rw [List.length_append]
          show ks.length + 1 ≤ i + 1
          omega
        · intro z hz
          rcases List.mem_append.mp hz with hz | hz
          · have := hb z hz
            omega
          · rw [List.mem_singleton] at hz
            omega
        · refine List.pairwise_append.mpr ⟨hpw, List.pairwise_singleton _ _, fun x hx y hy => ?_⟩
          rw [List.mem_singleton] at hy
          have := hb x hx
          omega
      · exact ⟨D2.mono (by omega), k1.trans k2, ks, k2 _ _ eL (D0.ned hL) (D0.nep hL), by omega, fun z hz => by have := hb z hz; omega, hpw⟩
    · obtain ⟨D1, k1, ks, eL, hl, hb, hpw⟩ := h
      refine ⟨.ref L, rfl, Nat.zero_le _, fun e he => ?_⟩
      have sE : Same H1 (upd H1 e (.lst [])) := same_upd he
      refine ⟨_, _, .lst (sqL (sE _ _ eL)) (dpAll_ints ks), .lst (sqL upd_same) .nil, shaped_ints ks, rfl, _, rfl, ?_⟩
      rw [eqv_nil]
      have D2 := D1.same sE
      have k2 : Keep d p H (upd H1 e (.lst [])) := k1.trans (Same.keep sE)
      have eL2 := sE _ _ eL
      generalize upd H1 e (.lst []) = H2 at D2 k2 eL2 ⊢
      cases ks with
      | nil =>
        refine iteF ?_
        refine ⟨.ref d, rfl, .int (n : Int), rfl, d, p, q, c + n, (n : Int), rfl, D2, by omega, by omega, by omega, fun H3 r r0 r1 D3 k3 => ⟨by show 1 ≤ sizeLine; decide, fun t o ht ho => qq _ t [r] (Tp.new (ns := [r]) ho) ⟨by simp, fun x hx => ?_, List.pairwise_singleton _ _⟩ (by show 1 ≤ 8; decide) ((D3.same (same_upd ht)).mono (by omega)) (k2.trans (k3.trans (Same.keep (same_upd ht))))⟩⟩
        rw [List.mem_singleton] at hx
        omega
      | cons k0 kr =>
        refine iteT ?_
        refine ⟨.ref L, rfl, L, _, rfl, sqL eL2, fun t o ht ho => qq _ t (k0 :: kr) (Tp.new ho) ⟨by simp, fun x hx => ?_, hpw⟩ (by omega) ((D2.same (same_upd ht)).mono (by omega)) (k2.trans (Same.keep (same_upd ht)))⟩
        have := hb x hx
        omega
end
end TR
namespace TR
open PySem PySem.Spec PyProof.Rows L2
theorem scLCost : FnScope ["_law_table_here", "_law_menu_here", "_law_found", "_law_ranking", "_law_weight", "_law_dish"] ["_law_table_here", "_law_menu_here"] (defScope sLCost) := ⟨rfl, rfl, rfl, by decide +kernel, rfl, by decide +kernel, by decide +kernel⟩
section
variable {P : Program} {w : World} {K : PySem.W.Frag} {mg : Str → Option Value} {base : Heap}
theorem ok_LCost {f  : Addr} {fd  : FuncData} {m : Nat} (F : Fun K "_law_cost" "_law_cost" sLCost f fd)
    (m_min : mg "min" = none) : FnOk P w K mg base CX0 (m + 1) f fd ["_law_table_here", "_law_menu_here"] spCost := by
  refine F.ok scLCost (fun vs H Q E h => ?_) (fun cdv A outer s H vs Q E hr h => ?_)
  · obtain ⟨t, b, n, ts, ms, rfl, _⟩ := h
    rfl
  · obtain ⟨t, b, n, ts, ms, rfl, tab, hn, hlt, hrk, hb, hm, hlm, q⟩ := h
    refine ⟨_, 
      (pss_cons (ps_set (i := 2) scLCost.nd rfl (.inl rfl) pe_int) 
      (pss_cons (ps_for PassesOwn.never rfl (pi_tup (pe_ix (r := rIxT K) ix_tup (pv 0) pe_int (fun _ _ => rfl))) (pg_tup (by rfl) (pgs_cons (pg_name (i := 3) scLCost.nd rfl (.inr rfl)) (pgs_cons (pg_name (i := 4) scLCost.nd rfl (.inl rfl)) pgs_nil))) 
        (pss_one (ps_set (i := 2) scLCost.nd rfl (.inl rfl) (pe_op op_add (pv 2) (pe_op op_mul (pv 4) (pe_callB (r := rMin K) (cr_min (by rfl)) (by rfl) m_min (by decide +kernel) (pa_cons (pe_lc (own := [("_law_dish", 5)]) (g := gName 5) (tt := tYes) (by rfl) scLCost.nd (pi_tup (pv 1)) (blkOk_by (own := [("_law_dish", 5)]) (N := ["_law_table_here", "_law_menu_here", "_law_found", "_law_ranking", "_law_weight", "_law_dish"]) (sc := defScope sLCost) (by decide +kernel)) (fun _ _ _ _ _ => (pg_name (i := 5) scLCost.nd rfl (Or.inl rfl))) (fun _ _ _ _ _ => pts_nil) (fun _ _ _ _ _ => (pe_bmT (r := rTupIdx K) PySem.F.slot_tuple_index PySem.F.type_tuple_index mt_tupIdx (pv 3) (pa_cons (pv 5) pa_nil)))) pa_nil))))))) 
      (pss_one (ps_ret (pv 2))))), ?_⟩
    obtain ⟨u, xs, h1, h2, h3⟩ := tab.out
    refine ⟨.ref t, rfl, t, _, 1, .ref u, rfl, rfl, .inl h1, atI_nat (j := 1) rfl, u, rfl, ⟨_, .inl h2⟩, for_tup (K := K) (a := u) (xs := xs) (fun i σ H1 => (∃ y3 y4 y5, σ = [some (.ref t), some (.ref b), some (.int (cst (ts.take i) ms)), y3, y4, y5]) ∧ Same H H1) ⟨⟨none, none, none, rfl⟩, Same.refl _⟩ (fun i σ H1 _ h => .inl (rdT_same h2 h.2)) (fun i x σ H1 hx h => ?_) (fun σ H1 h => ?_)⟩
    · obtain ⟨⟨y3, y4, y5, rfl⟩, s1⟩ := h
      obtain ⟨tt, r, rk, w, rfl, hg, hr1, hr2⟩ := (h3.same s1).get hx
      have hi : i < ts.length := (List.getElem?_eq_some_iff.mp hg).1
      have rrk := hrk _ (List.mem_of_getElem? hg)
      dsimp only at rrk
      have c1 := cpos_ge (rk := rk) (ms := ms)
      have c2 := cpos_lt rrk hm
      refine ⟨tt, _, rfl, .inl hr1, rfl, .ref r, _, rfl, .int w, _, rfl, rfl, .int (cst (ts.take i) ms), rfl, .int w, rfl, .ref b, rfl, b, rfl, ⟨_, .inl ((hb.same s1).rd)⟩, fun D hD => lc_tup (K := K) (a := b) (xs := ms.map V.int) (fun i H2 => Same H1 H2 ∧ H2 D = some (.lst (((ms.take i).map fun d => ((rk.idxOf d : Nat) : Int)).map V.int))) ⟨same_upd hD, upd_same⟩ (fun i H2 _ h => .inl ((hb.same (s1.trans h.1)).rd)) (fun j x H2 hx h => ?_) (fun H2 h => ?_)⟩
      · obtain ⟨s2, e2⟩ := h
        rw [List.getElem?_map] at hx
        obtain ⟨z, hz, rfl⟩ := Option.map_eq_some_iff.mp hx
        have hj : j < ms.length := (List.getElem?_eq_some_iff.mp hz).1
        have ha1 := hr2.same s2
        obtain ⟨o, hd, he⟩ := id ha1
        have hmm := menu_in rrk hm z (List.mem_of_getElem? hz)
        refine ⟨rfl, .ref r, rfl, ⟨r, o, _, rfl, hd, he⟩, .int z, rfl, r, rk, z, rk.idxOf z, rfl, rfl, ha1.sq, at_idx hmm, fun m hm => idx_first hm, _, e2, ?_, same_upd2 s2 hD, ?_⟩
        · rw [List.length_map, List.length_map, List.length_take]
          exact small1000 (by omega)
        · rw [upd_same, List.take_add_one, hz, List.map_append, List.map_append]
          rfl
      · obtain ⟨s2, e2⟩ := h
        rw [List.length_map, List.take_length] at e2
        refine ⟨D, _, rfl, sqL e2, ?_, fun m g1 g2 => ?_⟩
        · rw [List.length_map]
          exact List.length_pos_iff.mpr hm.1
        · have em : m = cpos rk ms := mn_uniq g1 g2
          subst em
          have e : cst (ts.take (i + 1)) ms = cst (ts.take i) ms + w * cpos rk ms := by
            rw [List.take_add_one, hg]
            show cst (ts.take i ++ [(rk, w)]) ms = _
            rw [cst_app]
            show _ + (w * cpos rk ms + 0) = _
            rw [Int.add_zero]
          refine ⟨w, _, rfl, rfl, .inr ⟨by show -(2 : Int) ^ 64 < _; omega, by show _ < (2 : Int) ^ 64; omega⟩, _, _, rfl, rfl, ⟨some (.ref r), some (.int w), y5, ?_⟩, s1.trans s2⟩
          rw [e]
          rfl
    · obtain ⟨⟨y3, y4, y5, rfl⟩, s1⟩ := h
      rw [h3.len, List.take_length]
      exact ⟨_, rfl, q H1 s1⟩
end
end TR
namespace TR
open PySem PySem.Spec PyProof.Rows L2
theorem scLWhole : FnScope ["_law_thing"] ["_law_thing"] (defScope sLWhole) := ⟨rfl, rfl, rfl, by decide +kernel, rfl, by decide +kernel, by decide +kernel⟩
section
variable {P : Program} {w : World} {K : PySem.W.Frag} {mg : Str → Option Value} {base : Heap}
theorem ok_lwhole {f : Addr} {fd : FuncData} {k : Nat} (F : Fun K "_law_whole" "_law_whole" sLWhole f fd) (misi : mg "isinstance" = none) (mi : mg "int" = none) (mb : mg "bool" = none) : FnOk P w K mg base CX0 (k + 1) f fd ["_law_thing"] spWhole := by
  refine F.ok scLWhole (fun vs H Q E h => ?_) (fun cdv A outer s H vs Q E hr h => ?_)
  · obtain ⟨x, d, ban, rfl, _⟩ := h
    rfl
  · obtain ⟨x, d, ban, rfl, hp, q⟩ := h
    refine ⟨_, pss_one (ps_ret (pe_and (pe_callB call_isi (by rfl) misi (by decide +kernel) (pa_cons (pv 0) (pa_cons (pe_bltn (v := .ty "int") (by rfl) mi (by decide +kernel) rfl) pa_nil))) (pe_one (pe_not (pe_callB call_isi (by rfl) misi (by decide +kernel) (pa_cons (pv 0) (pa_cons (pe_bltn (v := .ty "bool") (by rfl) mb (by decide +kernel) rfl) pa_nil))))))), ?_⟩
    obtain ⟨k1, k2, k3⟩ := kitD (K := K) d
    rw [← whole_ty] at q
    refine ⟨x, rfl, x, .ty "int", _, _, _, rfl, .ty _, tyRp hp, k2, _, rfl, ?_⟩
    cases e : decide (tyD d = "int" ∨ tyD d = "bool") with
    | true =>
      rw [e] at q
      exact iteT ⟨x, rfl, x, .ty "bool", _, _, _, rfl, .ty _, tyRp hp, k3, _, rfl, q⟩
    | false =>
      rw [e] at q
      exact iteF q
end
end TR
namespace TR
open PySem PySem.Spec PyProof.Rows L2
theorem scLIsMenu : FnScope ["_law_dishes", "_law_value", "_law_dish"] ["_law_dishes", "_law_value"] (defScope sLIsMenu) := ⟨rfl, rfl, rfl, by decide +kernel, rfl, by decide +kernel, by decide +kernel⟩
def okDish (n : Nat) : PyData → Bool
  | .int i => decide (0 ≤ i ∧ i < (n : Int))
  | _ => false
theorem okDish_all {n : Nat} : ∀ {ds : List PyData}, (∀ e ∈ ds, okDish n e = true) → ∃ ms : List Int, ds = ms.map PyData.int ∧ ∀ x ∈ ms, 0 ≤ x ∧ x < (n : Int)
  | [], _ => ⟨[], rfl, fun x hx => by cases hx⟩
  | e :: ds, h => by
    obtain ⟨ms, rfl, hm⟩ := okDish_all (ds := ds) fun e he => h e (List.mem_cons_of_mem _ he)
    have h1 := h e List.mem_cons_self
    cases e with
    | int i =>
      refine ⟨i :: ms, rfl, fun x hx => ?_⟩
      rcases List.mem_cons.mp hx with rfl | hx
      · exact of_decide_eq_true h1
      · exact hm x hx
    | _ => cases h1
theorem menu_ok {n : Nat} {ds : List PyData} (h : IsMenuD n (.tuple ds)) : ds ≠ [] ∧ ∀ e ∈ ds, okDish n e = true := by
  obtain ⟨ms, e, hm⟩ := h
  injection e with e
  subst e
  refine ⟨fun z => hm.1 (List.map_eq_nil_iff.mp z), fun e he => ?_⟩
  obtain ⟨x, hx, rfl⟩ := List.mem_map.mp he
  have := hm.2.1 x hx
  exact decide_eq_true (by omega)
theorem pw_set_eq {ms ns : List Int} (hp : ns.Pairwise (· < ·)) (hm : ∀ k, k ∈ ns ↔ k ∈ ms) : ms = ns ↔ ms.Pairwise (· < ·) := by
  constructor
  · rintro rfl
    exact hp
  · intro hq
    have d1 : ms.Nodup := List.Pairwise.imp (fun {a b} h => by omega) hq
    have d2 : ns.Nodup := List.Pairwise.imp (fun {a b} h => by omega) hp
    have pe : ms.Perm ns := (List.perm_ext_iff_of_nodup d1 d2).mpr fun k => (hm k).symm
    exact List.Perm.eq_of_pairwise (le := fun a b => a < b) (fun a b _ _ h1 h2 => by omega) hq hp pe
section
variable {X : Cx}
/-- t == () -/
theorem op_eqT0 (hu : X.A.units < cLine) : OpR X (compareOp .Eq) (fun x y H Q => ∃ a b xs, x = .ref a ∧ y = .ref b ∧ SqT X.K H a xs ∧ SqT X.K H b [] ∧ Q (.bl xs.isEmpty) H) := by
  intro pins s σ H x y v u Q I rx ry ⟨a, b, xs, ex, ey, ha, hb, q⟩
  subst ex ey; cases rx; cases ry
  obtain ⟨its, r1, p1, _⟩ := I.tuple ha
  obtain ⟨its2, r2, p2, _⟩ := I.tuple hb
  cases r2
  have h := SeqAt.RcAt.tuples (A := X.A) (s := s) (e := fun _ => true) p1 p2 hu (fun j _ j2 => absurd j2 (by simp))
  cases r1 with
  | nil => exact h _ _ _ _ ⟨.bl true, H, I, rfl, q⟩
  | cons _ _ => exact h _ _ _ _ ⟨.bl false, H, I, rfl, q⟩
end
def spLIsMenu : Sp := fun vs H Q _ => ∃ (x : V) (d : PyData) (ban : List Addr) (n : Nat), vs = [.int (n : Int), x] ∧ Rp H ban d x ∧ (∀ ds, d = .tuple ds → ds.length ≤ 50) ∧ ∀ H' b, Same H H' → (b = true ↔ IsMenuD n d) → Q (.bl b) H'
section
variable {P : Program} {w : World} {K : PySem.W.Frag} {mg : Str → Option Value} {base : Heap}
theorem ok_LIsMenu {f f__law_whole : Addr} {fd d__law_whole : FuncData} {m : Nat} (F : Fun K "_law_is_menu" "_law_is_menu" sLIsMenu f fd)
    (k__law_whole : PySem.W.keepIn K (.ref f__law_whole) = true) (b__law_whole : Binds K d__law_whole ["_law_thing"] []) (g__law_whole : mg "_law_whole" = some (.ref f__law_whole)) (G__law_whole : FnOk P w K mg base CX0 m f__law_whole d__law_whole ["_law_thing"] spWhole)
    (m_isinstance : mg "isinstance" = none) (m_tuple : mg "tuple" = none) (m_list : mg "list" = none) (m_sorted : mg "sorted" = none) (m_set : mg "set" = none) : FnOk P w K mg base CX0 (m + 1) f fd ["_law_dishes", "_law_value"] spLIsMenu := by
  refine F.ok scLIsMenu (fun vs H Q E h => ?_) (fun cdv A outer s H vs Q E hr h => ?_)
  · obtain ⟨x, d, ban, n, rfl, _⟩ := h
    rfl
  · obtain ⟨x, d, ban, n, rfl, hp, hlen, q⟩ := h
    refine ⟨_, 
      (pss_cons (ps_if (PW.pt (pw_or (pt_not (pt_val (pe_callB call_isi (by rfl) m_isinstance (by decide +kernel) (pa_cons (pv 1) (pa_cons (pe_bltn (v := .ty "tuple") (by rfl) m_tuple (by decide +kernel) rfl) pa_nil))))) (pw_or1 (pt_cmpR (op_eqT0 hr.units0) (pv 1) (pe_tupF pa_nil) (nomark _))))) 
        (pss_one (ps_ret pe_bl)) pss_nil) 
      (pss_cons (ps_if (pt_cmpR (op_neL0 hr.units0) (pe_lc (own := [("_law_dish", 2)]) (g := gName 2)  (by rfl) scLIsMenu.nd (pi_tup (pv 1)) (blkOk_by (own := [("_law_dish", 2)]) (N := ["_law_dishes", "_law_value", "_law_dish"]) (sc := defScope sLIsMenu) (by decide +kernel)) (fun _ _ _ _ _ => (pg_name (i := 2) scLIsMenu.nd rfl (Or.inl rfl))) (fun _ _ _ _ _ => (pts_one (PW.pt (pw_or (pt_not (pt_val (pe_call G__law_whole hr (by rfl) g__law_whole k__law_whole b__law_whole .nil pass0 (pa_cons (pv 2) pa_nil)))) (pw_or1 (pt_not (pt_chain op_le op_lt pe_int (pv 2) (pv 0)))))))) (fun _ _ _ _ _ => (pv 2))) (pe_lst pa_nil) (nomark _)) 
        (pss_one (ps_ret pe_bl)) pss_nil) 
      (pss_one (ps_ret (pe_cmpR (op_eqD hr.units) (pe_callTy call_listN (by rfl) m_list (by decide +kernel) (pa_cons (pv 1) pa_nil)) (pe_callB (r := rSortedSet w) (cr_sortedSet (by rfl)) (by rfl) m_sorted (by decide +kernel) (pa_cons (pe_callTy (cr_setTI (by rfl)) (by rfl) m_set (by decide +kernel) (pa_cons (pv 1) pa_nil)) pa_nil)) (nomark _)))))), ?_⟩
    obtain ⟨k1, k2, k3⟩ := kitD (K := K) d
    refine ⟨x, rfl, x, .ty "tuple", _, _, _, rfl, .ty _, tyRp hp, k1, _, rfl, ?_⟩
    by_cases ht : tyD d = "tuple"
    · rw [decide_eq_true ht]
      refine iteF ?_
      obtain ⟨ds, rfl⟩ := ty_tuple ht
      obtain ⟨a, xs, rfl, ha, hx⟩ := hp
      have hdl := hlen ds rfl
      have sq : ∀ {H1 : Hp}, Same H H1 → SqT K H1 a xs := fun s1 => .inl (rd_same s1 ha.rd)
      refine ⟨.ref a, rfl, Nat.zero_le _, fun p0 o0 hp0 ho0 => ?_⟩
      have s0 : Same H (upd H p0 (.frz o0 (.tup []))) := same_upd hp0
      refine ⟨a, p0, xs, rfl, rfl, sq s0, .inl (TF.new ho0).rd, _, rfl, ?_⟩
      have exs : xs.isEmpty = ds.isEmpty := by
        have := hx.len
        cases xs <;> cases ds <;> simp at this ⊢
      rw [exs]
      cases eds : ds.isEmpty with
      | true => exact iteT (q _ false s0 (ff_iff fun h => (menu_ok h).1 (List.isEmpty_iff.mp eds)))
      | false =>
        refine iteF ?_
        generalize upd H p0 (.frz o0 (.tup [])) = H0 at s0
        refine ⟨.ref a, rfl, a, rfl, ⟨_, sq s0⟩, fun D hD => lc_tup (K := K) (a := a) (xs := xs) (fun i H1 => Same H H1 ∧ ∃ zs : List V, H1 D = some (.lst zs) ∧ zs.length = ((ds.take i).filter fun e => !okDish n e).length) ⟨s0.trans (same_upd hD), [], upd_same, rfl⟩ (fun i H1 _ h => sq h.1) (fun i y H1 hy h => ?_) (fun H1 h => ?_)⟩
        · obtain ⟨s1, zs, e1, l1⟩ := h
          obtain ⟨e, he, hre⟩ := hx.get hy
          have ft := filter_take (fun e => !okDish n e) he
          have hzl : zs.length ≤ 100 := by
            have := List.length_filter_le (fun e => !okDish n e) (ds.take i)
            rw [List.length_take] at this
            omega
          have yes : okDish n e = false → ∃ acc, H1 D = some (.lst acc) ∧ acc.length < sizeLine ∧ Same H (upd H1 D (.lst (acc ++ [y]))) ∧ ∃ zs' : List V, upd H1 D (.lst (acc ++ [y])) D = some (.lst zs') ∧ zs'.length = ((ds.take (i + 1)).filter fun e => !okDish n e).length := fun ho => by
            refine ⟨zs, e1, small1000 (by omega), same_upd2 s1 (s0.free hD), zs ++ [y], upd_same, ?_⟩
            rw [ft]
            simp only [ho, Bool.not_false, if_true]
            rw [List.length_append, List.length_append, l1]
            rfl
          have no : okDish n e = true → Same H H1 ∧ ∃ zs : List V, H1 D = some (.lst zs) ∧ zs.length = ((ds.take (i + 1)).filter fun e => !okDish n e).length := fun ho => by
            refine ⟨s1, zs, e1, ?_⟩
            rw [ft]
            simp only [ho, Bool.not_true, Bool.false_eq_true, if_false, List.append_nil]
            exact l1
          refine ⟨rfl, y, rfl, y, e, ban, rfl, hre.same s1, _, rfl, ?_⟩
          cases ew : whole e with
          | false =>
            refine iteT (iteT ⟨y, rfl, yes ?_⟩)
            cases e with
            | int i => simp [whole, tyD] at ew
            | _ => rfl
          | true =>
            obtain ⟨ii, rfl⟩ := whole_int ew
            obtain rfl : y = .int ii := hre
            refine iteF ⟨_, rfl, _, _, rfl, rfl, _, rfl, ?_⟩
            show if decide ((0 : Int) ≤ ii) = true then _ else _
            by_cases c1 : (0 : Int) ≤ ii
            · rw [decide_eq_true c1]
              refine iteT ⟨_, rfl, _, _, rfl, rfl, _, rfl, ?_⟩
              show if (!decide (ii < (n : Int))) = true then _ else _
              by_cases c2 : ii < (n : Int)
              · rw [decide_eq_true c2]
                exact iteF (no (decide_eq_true ⟨c1, c2⟩))
              · rw [decide_eq_false c2]
                exact iteT ⟨_, rfl, yes (decide_eq_false fun z => c2 z.2)⟩
            · rw [decide_eq_false c1]
              exact iteF ⟨_, rfl, iteT ⟨_, rfl, yes (decide_eq_false fun z => c1 z.1)⟩⟩
        · obtain ⟨s1, zs, e1, l1⟩ := h
          rw [List.take_of_length_le (by rw [hx.len]; exact Nat.le_refl _)] at l1
          refine ⟨Nat.zero_le _, fun z hz => ⟨D, z, zs, rfl, rfl, sqL ((same_upd hz) _ _ e1), sqL upd_same, _, rfl, ?_⟩⟩
          have s2 : Same H (upd H1 z (.lst [])) := s1.trans (same_upd hz)
          generalize upd H1 z (.lst []) = H2 at s2
          cases zs with
          | cons z0 zr =>
            refine iteT (q _ false s2 (ff_iff fun h => ?_))
            have := (menu_ok h).2
            have em : (ds.filter fun e => !okDish n e) = [] := List.filter_eq_nil_iff.mpr fun e he => by rw [this e he]; simp
            rw [em] at l1
            cases l1
          | nil =>
            refine iteF ?_
            have all : ∀ e ∈ ds, okDish n e = true := fun e he => by
              have z := List.filter_eq_nil_iff.mp (List.length_eq_zero_iff.mp l1.symm) e he
              simpa using z
            obtain ⟨ms, rfl, hms⟩ := okDish_all all
            have ex := hx.int_vals
            subst ex
            rw [List.length_map] at hdl
            refine ⟨.ref a, rfl, a, _, rfl, rd_same s2 ha.rd, fun la H3 hla nla s3 e3 => ?_⟩
            refine ⟨.ref a, rfl, a, ms, rfl, sq (s2.trans s3), by omega, fun lb c hlb hc => ?_⟩
            refine ⟨lb, _, c, rfl, upd_same, by omega, fun ns p hpw hmem hnl hp => ?_⟩
            have s4 := (same_upd hlb (o := SetO w lb (fun j => decide (j ∈ ms)) c)).trans (same_upd hp (o := .lst (ns.map V.int)))
            refine ⟨_, _, .lst (sqL (s4 _ _ e3)) (dpAll_ints ms), .lst (sqL upd_same) (dpAll_ints ns), shaped_ints ms, shaped_ints ns, ?_⟩
            rw [eqv_lstX]
            refine q _ _ (s2.trans (s3.trans s4)) ?_
            rw [decide_eq_true_eq, pw_set_eq hpw fun k => (hmem k).trans ⟨fun z => of_decide_eq_true z, fun z => decide_eq_true z⟩]
            constructor
            · intro hq
              exact ⟨ms, rfl, ⟨fun z => by rw [z] at eds; simp at eds, fun x hx => by have := hms x hx; omega, hq⟩⟩
            · rintro ⟨ms', e, hm'⟩
              injection e with e
              have em : ms = ms' := ints_inj e
              rw [em]
              exact hm'.2.2
    · rw [decide_eq_false ht]
      exact iteT (q H false (Same.refl _) (ff_iff (fun ⟨ms, e, _⟩ => by rw [e] at ht; exact ht rfl)))
end
end TR
namespace TR
open PySem PySem.Spec PyProof.Rows L2
theorem scLBest : FnScope ["_law_ranking", "_law_menu_here", "_law_best_here", "_law_dish"] ["_law_ranking", "_law_menu_here"] (defScope sLBest) := ⟨rfl, rfl, rfl, by decide +kernel, rfl, by decide +kernel, by decide +kernel⟩
section
variable {P : Program} {w : World} {K : PySem.W.Frag} {mg : Str → Option Value} {base : Heap}
theorem chs_of {n : Nat} {rk ms : List Int} {d : Int} (r : Rank n rk) (h : IsMn n ms) (hd : d ∈ ms) (hm : ∀ y ∈ ms, rk.idxOf d ≤ rk.idxOf y) : chs rk ms = d := by
  have e : cpos rk ms = ((rk.idxOf d : Nat) : Int) := by
    unfold cpos
    refine (mn_uniq (List.mem_map.mpr ⟨d, hd, rfl⟩) fun y hy => ?_).symm
    obtain ⟨z, hz, rfl⟩ := List.mem_map.mp hy
    have := hm z hz
    omega
  unfold chs
  have hin := menu_in r h d hd
  have hlt := List.idxOf_lt_length_of_mem hin
  rw [e, show (((rk.idxOf d : Nat) : Int)).toNat = rk.idxOf d by omega, List.getD_eq_getElem?_getD, List.getElem?_eq_getElem hlt]
  exact List.getElem_idxOf hlt
def spLBest : Sp := fun vs H Q _ => ∃ (a b : Addr) (n : Nat) (rk ms : List Int), vs = [.ref a, .ref b] ∧ Tp H a rk ∧ Tp H b ms ∧ Rank n rk ∧ n ≤ 8 ∧ IsMn n ms ∧ ms.length ≤ 100 ∧ Q (.int (chs rk ms)) H
theorem ok_LBest {f  : Addr} {fd  : FuncData} {m : Nat} (F : Fun K "_law_best" "_law_best" sLBest f fd)
     : FnOk P w K mg base CX0 (m + 1) f fd ["_law_ranking", "_law_menu_here"] spLBest := by
  refine F.ok scLBest (fun vs H Q E h => ?_) (fun cdv A outer s H vs Q E hr h => ?_)
  · obtain ⟨a, b, n, rk, ms, rfl, _⟩ := h
    rfl
  · obtain ⟨a, b, n, rk, ms, rfl, ha, hb, hr1, hn, hm, hlm, q⟩ := h
    refine ⟨_, 
      (pss_cons (ps_set (i := 2) scLBest.nd rfl (.inl rfl) (pe_ix (r := rIxT K) ix_tup (pv 1) pe_int (fun _ _ => rfl))) 
      (pss_cons (ps_for PassesOwn.never rfl (pi_tup (pv 1)) (pg_name (i := 3) scLBest.nd rfl (.inl rfl)) 
        (pss_one (ps_if (pt_cmpR op_lt (pe_bmT (r := rTupIdx K) PySem.F.slot_tuple_index PySem.F.type_tuple_index mt_tupIdx (pv 0) (pa_cons (pv 3) pa_nil)) (pe_bmT (r := rTupIdx K) PySem.F.slot_tuple_index PySem.F.type_tuple_index mt_tupIdx (pv 0) (pa_cons (pv 2) pa_nil)) (nomark _)) 
          (pss_one (ps_set (i := 2) scLBest.nd rfl (.inl rfl) (pv 3))) pss_nil))) 
      (pss_one (ps_ret (pv 2))))), ?_⟩
    obtain ⟨z0, mr, ems⟩ : ∃ z0 mr, ms = z0 :: mr := by
      cases ms with
      | nil => exact absurd rfl hm.1
      | cons z0 mr => exact ⟨z0, mr, rfl⟩
    refine ⟨.ref b, rfl, b, _, 0, .int z0, rfl, rfl, hb.sq, atI_nat (j := 0) (by rw [ems]; rfl), ?_⟩
    refine ⟨.ref b, rfl, b, rfl, ⟨_, hb.sq⟩, for_tup (K := K) (a := b) (xs := ms.map V.int) (fun i σ H1 => H1 = H ∧ ∃ (dd : Int) (y3 : Option V), σ = [some (.ref a), some (.ref b), some (.int dd), y3] ∧ dd ∈ ms ∧ ∀ y ∈ ms.take i, rk.idxOf dd ≤ rk.idxOf y) ⟨rfl, z0, none, rfl, by rw [ems]; exact List.mem_cons_self, fun y hy => by simp at hy⟩ (fun i σ H1 _ h => by rw [h.1]; exact hb.sq) (fun i x σ H1 hx h => ?_) (fun σ H1 h => ?_)⟩
    · obtain ⟨rfl, dd, y3, rfl, hdd, hmin⟩ := h
      rw [List.getElem?_map] at hx
      obtain ⟨z, hz, rfl⟩ := Option.map_eq_some_iff.mp hx
      have hzm := List.mem_of_getElem? hz
      have h1 := menu_in hr1 hm z hzm
      have h2 := menu_in hr1 hm dd hdd
      obtain ⟨o, hd, he⟩ := id ha
      refine ⟨.ref a, rfl, ⟨a, o, _, rfl, hd, he⟩, .int z, rfl, a, rk, z, rk.idxOf z, rfl, rfl, ha.sq, at_idx h1, fun m hm => idx_first hm, .ref a, rfl, ⟨a, o, _, rfl, hd, he⟩, .int dd, rfl, a, rk, dd, rk.idxOf dd, rfl, rfl, ha.sq, at_idx h2, fun m hm => idx_first hm, _, _, rfl, rfl, _, rfl, ?_⟩
      show if decide (((rk.idxOf z : Nat) : Int) < ((rk.idxOf dd : Nat) : Int)) = true then _ else _
      by_cases c : ((rk.idxOf z : Nat) : Int) < ((rk.idxOf dd : Nat) : Int)
      · rw [decide_eq_true c]
        refine iteT ⟨_, rfl, rfl, z, _, rfl, hzm, fun y hy => ?_⟩
        rw [List.take_add_one, hz] at hy
        rcases List.mem_append.mp hy with hy | hy
        · have := hmin y hy
          omega
        · obtain rfl : y = z := by simpa using hy
          exact Nat.le_refl _
      · rw [decide_eq_false c]
        refine iteF ⟨rfl, dd, _, rfl, hdd, fun y hy => ?_⟩
        rw [List.take_add_one, hz] at hy
        rcases List.mem_append.mp hy with hy | hy
        · exact hmin y hy
        · obtain rfl : y = z := by simpa using hy
          omega
    · obtain ⟨rfl, dd, y3, rfl, hdd, hmin⟩ := h
      rw [List.length_map, List.take_length] at hmin
      refine ⟨_, rfl, ?_⟩
      rw [chs_of hr1 hm hdd hmin] at q
      exact q
end
end TR
namespace TR
open PySem PySem.Spec PyProof.Rows L2
section
variable {P : Program} {w : World} {K : PySem.W.Frag} {mg : Str → Option Value} {base : Heap}
/-- a def's promise where no repr is under way -/
def RunG (P : Program) (w : World) (K : PySem.W.Frag) (mg : Str → Option Value) (base : Heap) (k : Nat) (f : Addr) (fd : FuncData) (ps : List Str) (sp : Sp) : Prop :=
  ∀ (A : Around) (outer : List Env) (s : Shared) (H : Hp) (args : Args) (us : List Value) (vs : List V) (Q : VK) (E : XK), A.guards = some [] → Room k A → Env0 P w K mg base A outer s H → BindsTo s fd args (ps.zip us) → Vals vs us → sp vs H Q E → codeAny (model P w) A (.call (.ref f) args) (CR CX0 outer P w H s Q E) s
theorem okG {x qual : Str} {st : Stmt} {f : Addr} {fd : FuncData} {N ps : List Str} {k : Nat} {sp : Sp} (F : Fun K x qual st f fd) (S : FnScope N ps (defScope st)) (len : ∀ vs H Q E, sp vs H Q E → vs.length = ps.length)
    (hbody : ∀ (cdv : Value) (A : Around) (outer : List Env) (s : Shared) (H : Hp) (vs : List V) (Q : VK) (E : XK), A.guards = some [] → Room k (A.deeper (envOfC qual (defScope st) s.heap.objs.size f cdv)) → sp vs H Q E →
      ∃ t, PSs (cxOf CX0 P w K mg base N qual (defScope st) f cdv A outer s H E).nox (defBody st) t ∧ t { nx := fun _ H' => Q .non H', rt := Q } (start N vs) H) : RunG P w K mg base (k + 1) f fd ps sp := by
  obtain ⟨oc, od, kV, doc, pm, an, cdv, ct, osl, rfl, lk, hcd⟩ := F.ex
  intro A outer s H args us vs Q E hgd hr e0 hb r hsp
  have hl := len _ _ _ _ hsp; have KX : K.In s.heap := e0.mod.kin.keeps fun b o e => (e0.bs b o e).1
  have lim : s.heap.NoLimit := e0.mod.nolimit.keeps fun b o e => (e0.bs b o e).1
  have kinds : ∀ y ∈ ps.zip us, (defScope st).names.lookup y.1 = some .local ∨ ((defScope st).names.lookup y.1 = some .cell ∧ ((cellsFrom (s.heap.objs.size + 1) (defScope st).names []).lookup y.1).isSome = true) := fun ⟨n, v⟩ hy => by
    rcases S.par n (List.of_mem_zip hy).1 with q | q; exact .inl q; exact .inr ⟨q, PySem.W.cellsFrom_some _ _ _ (.inl q)⟩
  refine codeAny_call_function hr.depth (KX _ _ lk) rfl S.co S.gen rfl (PySem.W.codeRec_of KX hcd) (hb _ _ _ _ (wpAny_newFunctionEnv_cells S.kind kinds fun env he s1 x => ?_))
  subst he; refine ⟨lim.keeps x.toInCall.keep, codeAny_func ?_⟩
  obtain ⟨t, ht, hq⟩ := hbody cdv A outer s H vs Q E hgd (hr.deeper _) hsp
  have I : Inv (cxOf CX0 P w K mg base N qual (defScope st) f cdv A outer s H E) [] (start N vs) H s1 := inv_start S hr.hd e0 hl r x
  refine wpAny_mono (ht.nox.run [] s1 (start N vs) H _ I hq) (fun fl s' hs => ?_) fun e s' hs => hs
  have fin : ∀ {σ' : L2.St} {H' : Hp} {v : V} {u : Value}, Inv (cxOf CX0 P w K mg base N qual (defScope st) f cdv A outer s H E) [] σ' H' s' → RelV v u → Q v H' → CE outer P w H s Q u s' := fun {σ' H' v u} J rv q => ⟨v, H', J.os, J.bare, J.base, J.hok, rv, q⟩
  cases fl with
  | ret u => obtain ⟨v, σ', H', J, rv, q⟩ := hs; exact fin J rv q
  | next => obtain ⟨σ', H', J, q⟩ := hs; exact fin (v := V.non) (u := Value.none) J rfl q
  | brk => obtain ⟨_, _, _, q⟩ := hs; exact False.elim q
  | cont => obtain ⟨_, _, _, q⟩ := hs; exact False.elim q
end
theorem law_callG {P : Program} {w : World} {K : PySem.W.Frag} {mg mb : Str → Option Value} {k : Nat} {fa a : Addr} {fd : FuncData} {x : Str} {sp : Sp} {s₁ : Shared} {vs : List Value} {ns : List Int} (KX : K.In s₁.heap) (hns : s₁.heap.Ns mainGlobals mg) (hb : s₁.heap.Ns builtinsNs mb) (hbb : ∀ x : Str, x ≠ "__name__" → mb x = bootBuiltins x)
    (hlim : s₁.heap.NoLimit) (hg : s₁.gens = #[]) (ha : s₁.heap.get? a = some { cls := .type "list", data := .seq vs.toArray }) (hi : IntsAre vs ns) (hl : ns.length ≤ sizeLine) (hr : Room k callerA) (F : ∀ base : Heap, K.In base → base.Ns mainGlobals mg → RunG P w K mg base k fa fd [x] sp)
    (hbind : ∀ (s : Shared) (u : Value), BindsTo s fd ⟨[u], []⟩ [(x, u)]) (hsp : ∀ H : Hp, Only H → SqL K H a (ns.map V.int) → sp [.ref a] H (fun v _ => v = .bl true) fun _ _ _ => False) :
    codeAny (model P w) callerA (.call (.ref fa) ⟨[.ref a], []⟩) (fun r s' => r = .ok (.ret (.bool true)) ∧ OldK s₁.heap s'.heap ∧ s'.os = s₁.os ∧ AllBare s'.gens) s₁ := by
  have rv := vals_ints hi; have lenV := hi.length
  have core : ∀ H : Hp, Only H → SqL K H a (ns.map V.int) → HOk P w H s₁.heap → (∀ b, H b ≠ none → b = a) → (H a ≠ none → K.lookup a = none) → codeAny (model P w) callerA (.call (.ref fa) ⟨[.ref a], []⟩) (fun r s' => r = .ok (.ret (.bool true)) ∧ OldK s₁.heap s'.heap ∧ s'.os = s₁.os ∧ AllBare s'.gens) s₁ := by
    intro H hO hS hok hA hK
    have b1 : ∀ {b : Addr} {o : Obj}, s₁.heap.get? b = some o → H b = none → (hidT s₁.heap H).get? b = some o := fun e n => hidT_get e n
    have n1 : ∀ {b : Addr} {o : Obj} {es : Array DictEntry} {ep : Nat}, s₁.heap.get? b = some o → o.data = .dict es ep → H b = none := fun {b o es ep} e d => by
      cases q : H b with
      | none => rfl
      | some u => have e' : b = a := hA b (by rw [q]; simp)
                  subst e'; rw [ha] at e; cases e; cases (show Data.seq vs.toArray _ = Data.dict es ep from d)
    have n2 : ∀ {b : Addr} {m : Str → Option Value}, s₁.heap.Ns b m → (hidT s₁.heap H).Ns b m := fun {b m} ⟨o, es, ep, e, d, r⟩ => ⟨o, es, ep, b1 e (n1 e d), d, r⟩
    have hKb : K.In (hidT s₁.heap H) := fun b o e => b1 (KX b o e) (by
      cases q : H b with
      | none => rfl
      | some u => have e' : b = a := hA b (by rw [q]; simp)
                  subst e'; rw [hK (by rw [q]; simp)] at e; cases e)
    have hM : Mod K mg (hidT s₁.heap H) := ⟨hKb, n2 hns, ⟨mb, n2 hb, hbb⟩, let ⟨mc, h1, h2⟩ := hlim; ⟨mc, n2 h1, h2⟩⟩
    have e0 : Env0 P w K mg (hidT s₁.heap H) callerA [] s₁ H := ⟨rfl, hM, fun b o e => of_hidT e, Nat.le_of_eq (hidT_size _ _), trivial, fun b hb => absurd (show b ∈ ([] : List Addr) from hb) (by simp), hok, .of_eq hg⟩
    refine codeAny_mono (F _ hKb (n2 hns) callerA [] s₁ H ⟨[.ref a], []⟩ [.ref a] [.ref a] _ _ rfl hr e0 (hbind s₁ (.ref a)) (.cons rfl .nil) (hsp H hO hS)) fun r s' h => ?_
    cases r with
    | error e => exact (show False from h).elim
    | ok fl =>
      cases fl with
      | next => exact False.elim h
      | brk => exact False.elim h
      | cont => exact False.elim h
      | ret u =>
        obtain ⟨v, H', os, bare, un, hok', r', q⟩ := h
        subst q; obtain rfl : u = Value.bool true := r'
        refine ⟨rfl, OldK.of_keep fun b o e => ?_, os, bare⟩
        cases q : H b with
        | none => exact un.keep b o e q (by intro z; exact absurd (show b ∈ ([] : List Addr) from z) (by simp)) (by simp)
        | some u =>
          rcases hO b with z | ⟨ob, xs, z⟩
          · rw [q] at z; cases z
          · obtain ⟨e1, _⟩ := hok b _ z; obtain ⟨e2, _⟩ := hok' b _ (un.frzs b ob _ z)
            rw [e] at e1; cases e1; exact e2
  cases hk : K.lookup a with
  | some o =>
    have e := KX a o hk; rw [ha] at e; cases e
    exact core (fun _ => none) (fun _ => .inl rfl) (.inr ⟨_, vs.toArray, _, hk, rfl, rfl, rfl, by rw [List.size_toArray, lenV]; exact hl, by simpa using rv⟩) (fun b u z => by cases (show (none : Option HO) = some u from z)) (fun b z => absurd rfl z) fun z => absurd rfl z
  | none =>
    refine core (fun b => if b = a then some (.frz { cls := .type "list", data := .seq vs.toArray } (.lst (ns.map V.int))) else none) (fun b => ?_) (.inl (.inr ⟨{ cls := .type "list", data := .seq vs.toArray }, if_pos rfl⟩)) (fun b u z => ?_) (fun b z => ?_) fun _ => hk
    · by_cases e : b = a
      · exact .inr ⟨_, _, if_pos e⟩
      · exact .inl (if_neg e)
    · by_cases e : b = a
      · cases (if_pos e).symm.trans z; subst e
        exact ⟨ha, by rw [List.length_map]; exact hl, vs, _, rv, ha⟩
      · cases (if_neg e).symm.trans z
    · by_cases e : b = a
      · exact e
      · exact absurd (if_neg e) z
theorem walk_ofG {l : PySem.W.OpenLaw} {n k : Nat} {q : Program} {loose : List Str} {XP : (Str → Option Value) → Heap → Prop} {YP : World → Heap → Prop} {d : DefRec} {K : Params → PySem.W.Frag} {sp : World → Sp} {x : Str} (hn : l.most = some n) (hn2 : n ≤ sizeLine) (hdf : d.params.defaults = []) (hr : Room k callerA) (hY : ∀ (w : World) (h : Heap), YP w h → (K w.params).In h)
    (F : ∀ (w : World) (mg : Str → Option Value) (fa : Addr) (h : Heap), (K w.params).In h → h.Ns mainGlobals mg → mg d.name = some (.ref fa) → ∃ fd : FuncData, (∀ (s : Shared) (u : Value), BindsTo s fd ⟨[u], []⟩ [(x, u)]) ∧ ∀ base : Heap, (K w.params).In base → base.Ns mainGlobals mg → RunG l.prog w (K w.params) mg base k fa fd [x] (sp w))
    (hsp : ∀ (w : World) (H : Hp) (a : Addr) (ns : List Int), ns.length ≤ n → Only H → SqL (K w.params) H a (ns.map V.int) → sp w [.ref a] H (fun v _ => v = .bl true) fun _ _ _ => False) : PySem.W.WalkO q loose XP YP l.row.toRowW d [] (fun f vs => PySem.call f vs) := by
  refine Att.attach_call hn hdf fun w s₀ s₁ mg mb fa o pm cd doc a vs ns G Y ho hd hcd hmg hobj hints hlen hg => ?_
  have KX := hY w _ Y; obtain ⟨fd, hb, hF⟩ := F w mg fa _ KX G.T.g hmg
  exact law_callG KX G.T.g G.T.b G.T.builtins G.T.nolimit hg hobj hints (Nat.le_trans hlen hn2) hr hF hb (fun H hO hS => hsp w H a ns hlen hO hS)
end TR
namespace TR
open PySem PySem.Spec PyProof.Rows L2
theorem Wf.tup {L D : Nat} {ds : List PyData} (l : ds.length ≤ L) (c : ∀ e ∈ ds, Wf L D e) : Wf L (D + 1) (.tuple ds) := .inr (.inr ⟨ds, .inr rfl, l, c⟩)
theorem Wf.lst {L D : Nat} {ds : List PyData} (l : ds.length ≤ L) (c : ∀ e ∈ ds, Wf L D e) : Wf L (D + 1) (.list ds) := .inr (.inr ⟨ds, .inl rfl, l, c⟩)
theorem Wf.leaf {L D : Nat} {d : PyData} (h : leafOk L d) : Wf L D d := by
  cases D with
  | zero => exact h
  | succ D => exact .inl h
end TR
namespace TR
open PySem PySem.Spec PyProof.Rows L2
theorem scOdd : FnScope ["_law_deck_here", "_law_some"] ["_law_deck_here"] (defScope sOdd) := ⟨rfl, rfl, rfl, by decide +kernel, rfl, by decide +kernel, by decide +kernel⟩
def oddD : List PyData := [.none, .bool true, .bool false, .int 0, .int 1, .int (-1), .int 2, .int 8, .int 16, .int (10 ^ 12), .int (10 ^ 12 + 1), .int (10 ^ 59), .str "", .str "0", .str "triple", .tuple [], .tuple [.int 0], .tuple [.int 0, .int 1], .list [], .dict [], .list [.int 0], .tuple [.bool true], .tuple [.tuple []]]
theorem odd_wf : ∀ d ∈ oddD, Wf 2 2 d := by
  unfold oddD
  refine List.forall_mem_cons.mpr ⟨.inl trivial, List.forall_mem_cons.mpr ⟨.inl trivial, List.forall_mem_cons.mpr ⟨.inl trivial, List.forall_mem_cons.mpr ⟨.inl (by show _ ≤ 10 ^ 59 + 2; decide +kernel), List.forall_mem_cons.mpr ⟨.inl (by show _ ≤ 10 ^ 59 + 2; decide +kernel), List.forall_mem_cons.mpr ⟨.inl (by show _ ≤ 10 ^ 59 + 2; decide +kernel), List.forall_mem_cons.mpr ⟨.inl (by show _ ≤ 10 ^ 59 + 2; decide +kernel), List.forall_mem_cons.mpr ⟨.inl (by show _ ≤ 10 ^ 59 + 2; decide +kernel), List.forall_mem_cons.mpr ⟨.inl (by show _ ≤ 10 ^ 59 + 2; decide +kernel), List.forall_mem_cons.mpr ⟨.inl (by show _ ≤ 10 ^ 59 + 2; decide +kernel), List.forall_mem_cons.mpr ⟨.inl (by show _ ≤ 10 ^ 59 + 2; decide +kernel), List.forall_mem_cons.mpr ⟨.inl (by show _ ≤ 10 ^ 59 + 2; decide +kernel), List.forall_mem_cons.mpr ⟨.inl ⟨by decide +kernel, by decide +kernel⟩, List.forall_mem_cons.mpr ⟨.inl ⟨by decide +kernel, by decide +kernel⟩, List.forall_mem_cons.mpr ⟨.inl ⟨by decide +kernel, by decide +kernel⟩, List.forall_mem_cons.mpr ⟨.inr (.inr ⟨_, .inr rfl, by decide, by simp⟩), List.forall_mem_cons.mpr ⟨.inr (.inr ⟨_, .inr rfl, by decide, by intro e he; rw [List.mem_singleton] at he; subst he; exact .inl (by show _ ≤ 10 ^ 59 + 2; decide +kernel)⟩), List.forall_mem_cons.mpr ⟨.inr (.inr ⟨_, .inr rfl, by decide, by intro e he; simp only [List.mem_cons, List.not_mem_nil, or_false] at he; rcases he with rfl | rfl <;> exact .inl (by show _ ≤ 10 ^ 59 + 2; decide +kernel)⟩), List.forall_mem_cons.mpr ⟨.inr (.inr ⟨_, .inl rfl, by decide, by simp⟩), List.forall_mem_cons.mpr ⟨.inr (.inl rfl), List.forall_mem_cons.mpr ⟨.inr (.inr ⟨_, .inl rfl, by decide, by intro e he; rw [List.mem_singleton] at he; subst he; exact .inl (by show _ ≤ 10 ^ 59 + 2; decide +kernel)⟩), List.forall_mem_cons.mpr ⟨.inr (.inr ⟨_, .inr rfl, by decide, by intro e he; rw [List.mem_singleton] at he; subst he; exact .inl trivial⟩), List.forall_mem_cons.mpr ⟨.inr (.inr ⟨_, .inr rfl, by decide, by intro e he; rw [List.mem_singleton] at he; subst he; exact .inr (.inr ⟨[], .inr rfl, by decide, by simp⟩)⟩), (fun _ h => absurd h (by simp))⟩⟩⟩⟩⟩⟩⟩⟩⟩⟩⟩⟩⟩⟩⟩⟩⟩⟩⟩⟩⟩⟩⟩
/-- objects that stand -/
def Alive (B : List Addr) (H : Hp) : Prop := ∀ b ∈ B, ∃ o, H b = some o
theorem Alive.nil {H : Hp} : Alive [] H := fun b h => absurd h (by simp)
theorem Alive.same {B : List Addr} {H H' : Hp} (a : Alive B H) (s : Same H H') : Alive B H' := fun b hb => by
  obtain ⟨o, e⟩ := a b hb
  exact ⟨o, s _ _ e⟩
theorem Alive.keep {B : List Addr} {H H' : Hp} {d p q : Addr} {n : Nat} (a : Alive B H) (k : Keep d p H H') (D : Deck H' d p q n) : Alive B H' := fun b hb => by
  obtain ⟨o, e⟩ := a b hb
  by_cases h1 : b = d
  · obtain ⟨x, y, c, g⟩ := D.hd
    exact ⟨_, h1 ▸ g⟩
  · by_cases h2 : b = p
    · obtain ⟨x, g⟩ := D.hp
      exact ⟨_, h2 ▸ g⟩
    · exact ⟨o, k _ _ e h1 h2⟩
theorem Alive.fresh {B : List Addr} {H : Hp} {l : Addr} (a : Alive B H) (h : H l = none) : l ∉ B := fun hb => by
  obtain ⟨o, e⟩ := a l hb
  rw [h] at e
  cases e
theorem RpAll.keep {H H' : Hp} {ban : List Addr} {ds : List PyData} {xs : List V} {k p q : Addr} {n : Nat} (h : RpAll H ban ds xs) (D : Deck H k p q n) (s : Keep k p H H') (b1 : k ∈ ban) (b2 : p ∈ ban) : RpAll H' ban ds xs := by
  obtain ⟨x, y, c, e1⟩ := D.hd
  obtain ⟨zs, e2⟩ := D.hp
  refine RpAll.mv (fun a xs hn e => s _ _ e (fun z => hn (z ▸ b1)) (fun z => hn (z ▸ b2))) (fun a xs e => e.keep D s) (fun a e => s _ _ e (ne_of e e1 (by intro z; cases z)) (ne_of e e2 (by intro z; cases z))) ds xs h
section
variable {P : Program} {w : World} {K : PySem.W.Frag} {mg : Str → Option Value} {base : Heap}
def spOdd : Sp := fun vs H Q _ => ∃ (d p q : Addr) (c : Nat) (B : List Addr), vs = [.ref d] ∧ Deck H d p q c ∧ c ≤ 1000000 ∧ Alive B H ∧ ∀ H' x dd, Deck H' d p q (c + 1) → Keep d p H H' → Rp H' (d :: p :: sysModules :: B) dd x → Wf 2 2 dd → Q x H'
theorem ok_odd {f fN : Addr} {fd dN : FuncData} {k : Nat} (F : Fun K "_law_odd" "_law_odd" sOdd f fd) (kN : PySem.W.keepIn K (.ref fN) = true) (bN : Binds K dN ["_law_deck_here", "_law_many"] []) (gN : mg "_law_next" = some (.ref fN)) (GN : FnOk P w K mg base CX0 (k + 1) fN dN ["_law_deck_here", "_law_many"] spNext) :
    FnOk P w K mg base CX0 (k + 2) f fd ["_law_deck_here"] spOdd := by
  refine F.ok scOdd (fun vs H Q E h => ?_) (fun cdv A outer s H vs Q E hr h => ?_)
  · obtain ⟨d, p, q, c, B, rfl, _⟩ := h
    rfl
  · obtain ⟨d, p, q, c, B, rfl, D0, hc, hB, qq⟩ := h
    refine ⟨_, pss_cons (ps_set (i := 1) scOdd.nd rfl (.inl rfl) (pe_lstN (pa_cons (pe_non) (pa_cons (pe_bl) (pa_cons (pe_bl) (pa_cons (pe_int) (pa_cons (pe_int) (pa_cons (pe_un un_neg pe_int) (pa_cons (pe_int) (pa_cons (pe_int) (pa_cons (pe_int) (pa_cons (pe_op op_pow pe_int pe_int) (pa_cons (pe_op op_add (pe_op op_pow pe_int pe_int) pe_int) (pa_cons (pe_op op_pow pe_int pe_int) (pa_cons (pe_str) (pa_cons (pe_str) (pa_cons (pe_str) (pa_cons (pe_tupN pa_nil) (pa_cons (pe_tupN (pa_cons pe_int pa_nil)) pa_nil)))))))))))))))))))
      (pss_one (ps_ret (pe_ix ix_list (pe_op op_catN (pv 1) (pe_lstN (pa_cons (pe_tupN (pa_cons pe_int (pa_cons pe_int pa_nil))) (pa_cons (pe_lstN pa_nil) (pa_cons (pe_dnewN) (pa_cons (pe_lstN (pa_cons pe_int pa_nil)) (pa_cons (pe_tupN (pa_cons pe_bl pa_nil)) (pa_cons (pe_tupN (pa_cons (pe_tupN pa_nil) pa_nil)) pa_nil)))))))) (pe_call GN hr (by rfl) gN kN bN .nil pass0 (pa_cons (pv 0) (pa_cons pe_int pa_nil))) (fun _ _ => rfl)))), ?_⟩
    refine ⟨1, rfl, 10, 12, rfl, rfl, ⟨by decide, by decide, by decide⟩, 10, 12, rfl, rfl, ⟨by decide, by decide, by decide⟩, _, 1, rfl, rfl, 10, 59, rfl, rfl, ⟨by decide, by decide, by decide⟩, Nat.zero_le _, fun t1 H1 _ s1 e1 => ⟨by show 1 ≤ sizeLine; decide, fun t2 H2 _ s2 e2 => ⟨by show 17 ≤ sizeLine; decide, fun l0 H3 hl0 _ s3 e3 => ?_⟩⟩⟩
    refine ⟨.ref l0, rfl, by show 2 ≤ sizeLine; decide, fun t3 H4 _ s4 e4 => ⟨Nat.zero_le _, fun l1 H5 hl1 n1 s5 e5 => fun d1 H6 _ s6 e6 => ⟨by show 1 ≤ sizeLine; decide, fun l2 H7 hl2 n2 s7 e7 => ⟨by show 1 ≤ sizeLine; decide, fun t4 H8 _ s8 e8 => ⟨Nat.zero_le _, fun t5 H9 _ s9 e9 => ⟨by show 1 ≤ sizeLine; decide, fun t6 Ha _ sa ea => ⟨by show 6 ≤ sizeLine; decide, fun l3 Hb _ _ sb eb => ?_⟩⟩⟩⟩⟩⟩⟩
    have s9b := sa.trans sb
    have s8b := s9.trans s9b
    have s7b := s8.trans s8b
    have s6b := s7.trans s7b
    have s5b := s6.trans s6b
    have s4b := s5.trans s5b
    have s3b := s4.trans s4b
    have s2b := s3.trans s3b
    have s1b := s2.trans s2b
    have s0b := s1.trans s1b
    refine ⟨l0, l3, _, _, rfl, rfl, s3b _ _ e3, eb, by show 23 ≤ sizeLine; decide, fun l4 Hc hl4 sc ec => ?_⟩
    have D4 := D0.same (s1.trans (s2.trans (s3.trans s4)))
    have D6 := D4.same (s5.trans s6)
    have Db := D0.same s0b
    have b1 : l1 ∉ (d :: p :: sysModules :: B) := by
      simp only [List.mem_cons, not_or]
      exact ⟨D4.ned hl1, D4.nep hl1, n1, (hB.same (s1.trans (s2.trans (s3.trans s4)))).fresh hl1⟩
    have b2 : l2 ∉ (d :: p :: sysModules :: B) := by
      simp only [List.mem_cons, not_or]
      exact ⟨D6.ned hl2, D6.nep hl2, n2, (hB.same (s1.trans (s2.trans (s3.trans (s4.trans (s5.trans s6)))))).fresh hl2⟩
    have Dc := Db.same sc
    have all : RpAll Hc (d :: p :: sysModules :: B) oddD _ := ⟨.non, _, rfl, rfl, .bl true, _, rfl, rfl, .bl false, _, rfl, rfl, .int 0, _, rfl, rfl, .int 1, _, rfl, rfl, .int (-1), _, rfl, rfl, .int 2, _, rfl, rfl, .int 8, _, rfl, rfl, .int 16, _, rfl, rfl, .int (10 ^ 12), _, rfl, rfl, .int (10 ^ 12 + 1), _, rfl, rfl, .int (10 ^ 59), _, rfl, rfl, .str "", _, rfl, rfl, .str "0", _, rfl, rfl, .str "triple", _, rfl, rfl,
      .ref t1, _, rfl, ⟨t1, [], rfl, e1.same (s1b.trans sc), rfl⟩, .ref t2, _, rfl, ⟨t2, [.int 0], rfl, e2.same (s2b.trans sc), .int 0, [], rfl, rfl, rfl⟩, .ref t3, _, rfl, ⟨t3, [.int 0, .int 1], rfl, e4.same (s4b.trans sc), .int 0, _, rfl, rfl, .int 1, [], rfl, rfl, rfl⟩,
      .ref l1, _, rfl, ⟨l1, [], rfl, sc _ _ (s5b _ _ e5), b1, rfl⟩, .ref d1, _, rfl, ⟨rfl, d1, rfl, sc _ _ (s6b _ _ e6)⟩, .ref l2, _, rfl, ⟨l2, [.int 0], rfl, sc _ _ (s7b _ _ e7), b2, .int 0, [], rfl, rfl, rfl⟩, .ref t4, _, rfl, ⟨t4, [.bl true], rfl, e8.same (s8b.trans sc), .bl true, [], rfl, rfl, rfl⟩,
      .ref t6, [], rfl, ⟨t6, [.ref t5], rfl, ea.same (sb.trans sc), .ref t5, [], rfl, ⟨t5, [], rfl, e9.same (s9b.trans sc), rfl⟩, rfl⟩, rfl⟩
    refine ⟨.ref d, rfl, d, p, q, c, 23, rfl, Dc, by omega, by decide, by decide, fun Hd r r0 r1 Dd kd => ?_⟩
    obtain ⟨j, rfl⟩ := Int.eq_ofNat_of_zero_le r0
    have nld : l4 ≠ d := Db.ned hl4
    have nlp : l4 ≠ p := Db.nep hl4
    have ed := kd _ _ ec nld nlp
    have alld := all.keep Dc kd (by simp) (by simp)
    have el := alld.len
    have hj : j < oddD.length := by
      have : oddD.length = 23 := by decide
      omega
    rw [← el] at hj
    have gx := List.getElem?_eq_getElem hj
    obtain ⟨dd, hg, hrp⟩ := alld.get gx
    exact ⟨l4, _, (j : Int), _, rfl, rfl, sqL ed, atI_nat gx, qq Hd _ dd Dd ((Same.keep (s0b.trans sc)).trans kd) hrp (odd_wf dd (List.mem_of_getElem? hg))⟩
end
end TR
namespace TR
open PySem PySem.Spec PyProof.Rows L2
theorem scBent : FnScope ["_law_deck_here", "_law_thing", "_law_deep", "_law_spot"] ["_law_deck_here", "_law_thing", "_law_deep"] (defScope sBent) := ⟨rfl, rfl, rfl, by decide +kernel, rfl, by decide +kernel, by decide +kernel⟩
theorem RpAll.cut {H : Hp} {ban : List Addr} {ds : List PyData} {xs : List V} (h : RpAll H ban ds xs) (lo hi : Option Int) : RpAll H ban ((ds.drop (HT.sIx xs.length 0 lo)).take (HT.sIx xs.length xs.length hi - HT.sIx xs.length 0 lo)) (cutV xs lo hi) := (h.drop _).take _
theorem Wf.kids {L D : Nat} {ds : List PyData} (h : Wf L D (.tuple ds)) : 1 ≤ D ∧ ds.length ≤ L ∧ ∀ e ∈ ds, Wf L (D - 1) e := by
  cases D with
  | zero => exact (show False from h).elim
  | succ D =>
    rcases h with h | h | ⟨es, e, l, c⟩
    · exact (show False from h).elim
    · cases h
    · rcases e with e | e
      · cases e
      · injection e with e
        subst e
        exact ⟨by omega, l, c⟩
theorem Wf.leaf_of {L D : Nat} {d : PyData} (h : Wf L D d) (t : tyD d = "int") : leafOk L d := by
  cases D with
  | zero => exact h
  | succ D =>
    rcases h with h | h | ⟨es, e, l, c⟩
    · exact h
    · subst h
      simp [tyD] at t
    · rcases e with e | e <;> subst e <;> simp [tyD] at t
theorem text_ok {L : Nat} {i : Int} (h : L ≤ 41) (g : i.natAbs ≤ 10 ^ 59 + L) : leafOk L (.str (Str.ofString (toString i))) := by
  refine ⟨?_, fun c hc => ?_⟩
  · have := int_text_length_le10 (k := 60) (by decide) (small_int h g)
    rw [PySem.ofString_length]
    omega
  · rw [signs_ofString] at hc
    obtain ⟨ch, _, rfl⟩ := List.mem_map.mp hc
    have := ch.valid
    have h2 : ch.toNat < 1114112 := by
      rcases this with h | h
      · exact Nat.lt_trans (show ch.val.toNat < 55296 from h) (by decide)
      · exact h.2
    exact Nat.lt_trans h2 (by decide)
theorem sIx_last (n : Nat) : HT.sIx n 0 (some (-1)) = n - 1 := by
  show (if (-1 : Int) < 0 then ((-1 : Int) + (n : Int)).toNat else min (-1 : Int).toNat n) = n - 1
  rw [if_pos (by decide)]
  omega
section
variable {P : Program} {w : World} {K : PySem.W.Frag} {mg : Str → Option Value} {base : Heap}
def spBent : Nat → Sp
  | 0 => fun _ _ _ _ => False
  | m + 1 => fun vs H Q _ => ∃ (d p q : Addr) (c : Nat) (x : V) (dd : PyData) (L D : Nat) (B : List Addr), vs = [.ref d, x, .int (m : Int)] ∧ Deck H d p q c ∧ c + 10 * (m + 1) ≤ 900000 ∧ Alive B H ∧ Rp H (d :: p :: sysModules :: B) dd x ∧ Wf L D dd ∧ 2 ≤ L ∧ L ≤ 40 ∧
      ∀ H' y ee, Deck H' d p q (c + 10 * (m + 1)) → Keep d p H H' → Rp H' (d :: p :: sysModules :: B) ee y → Wf (L + 1) (max D (m + 2)) ee → sz ee ≤ 2 * sz dd + 20 → Q y H'
theorem ok_bent {f fN fO : Addr} {fd dN dO : FuncData} (F : Fun K "_law_bent" "_law_bent" sBent f fd) (bB : Binds K fd ["_law_deck_here", "_law_thing", "_law_deep"] []) (gB : mg "_law_bent" = some (.ref f))
    (kN : PySem.W.keepIn K (.ref fN) = true) (bN : Binds K dN ["_law_deck_here", "_law_many"] []) (gN : mg "_law_next" = some (.ref fN)) (GN : ∀ k, FnOk P w K mg base CX0 (k + 1) fN dN ["_law_deck_here", "_law_many"] spNext)
    (kO : PySem.W.keepIn K (.ref fO) = true) (bO : Binds K dO ["_law_deck_here"] []) (gO : mg "_law_odd" = some (.ref fO)) (GO : ∀ k, FnOk P w K mg base CX0 (k + 2) fO dO ["_law_deck_here"] spOdd)
    (misi : mg "isinstance" = none) (mt : mg "tuple" = none) (mlen : mg "len" = none) (ml : mg "list" = none) (mi : mg "int" = none) (ms : mg "str" = none) : ∀ m, FnOk P w K mg base CX0 (m + 2) f fd ["_law_deck_here", "_law_thing", "_law_deep"] (spBent m)
  | 0 => ⟨fun vs H Q E h => (show False from h).elim, fun A outer s H args us vs Q E hr he hb hv h => (show False from h).elim⟩
  | m + 1 => by
    have GB := ok_bent F bB gB kN bN gN GN kO bO gO GO misi mt mlen ml mi ms m
    refine F.ok scBent (fun vs H Q E h => ?_) (fun cdv A outer s H vs Q E hr h => ?_)
    · obtain ⟨d, p, q, c, x, dd, L, D, B, rfl, _⟩ := h
      rfl
    · obtain ⟨d, p, q, c, x, dd, L, D, B, rfl, D0, hc, hB, hp, hw, hL2, hL, qq⟩ := h
      have GN' := GN (m + 1)
      have GO' := GO m
      obtain ⟨k1, k2, k3⟩ := kitD (K := K) dd
      have rest : ∃ t, PSs (cxOf CX0 P w K mg base ["_law_deck_here", "_law_thing", "_law_deep", "_law_spot"] "_law_bent" (defScope sBent) f cdv A outer s H E).nox ((defBody sBent).drop 1) t ∧
          ∀ H1, Deck H1 d p q (c + 1) → Keep d p H H1 → Rp H1 (d :: p :: sysModules :: B) dd x → t { nx := fun _ H' => Q .non H', rt := Q } [some (.ref d), some x, some (.int (m : Int)), none] H1 := by
        refine ⟨_, pss_cons (ps_if (pt_val (pe_callB call_isi (by rfl) misi (by decide +kernel) (pa_cons (pv 1) (pa_cons (pe_bltn (v := .ty "tuple") (by rfl) mt (by decide +kernel) rfl) pa_nil))))
            (pss_one (ps_ret (pe_ix ix_list (pe_lstN (pa_cons (pe_slice sl_tupN (pv 1) (po_some pe_int) po_none) (pa_cons (pe_op op_catTN (pv 1) (pe_slice sl_tupN (pv 1) (po_some (pe_un un_neg pe_int)) po_none)) (pa_cons (pe_revN (pv 1) (fun σ H Q Q' m h => let ⟨v, e, g⟩ := h; ⟨v, e, m _ _ g⟩)) (pa_cons (pe_callTy call_listN (by rfl) ml (by decide +kernel) (pa_cons (pv 1) pa_nil)) (pa_cons (pe_call GO' hr (by rfl) gO kO bO .nil pass0 (pa_cons (pv 0) pa_nil)) pa_nil))))))
              (pe_call GN' hr (by rfl) gN kN bN .nil pass0 (pa_cons (pv 0) (pa_cons pe_int pa_nil))) (fun _ _ => rfl)))) pss_nil)
          (pss_cons (ps_if (pt_val (pe_callB call_isi (by rfl) misi (by decide +kernel) (pa_cons (pv 1) (pa_cons (pe_bltn (v := .ty "int") (by rfl) mi (by decide +kernel) rfl) pa_nil))))
            (pss_one (ps_ret (pe_ix ix_list (pe_lstN (pa_cons (pe_op (OpR.either op_add op_add_bi) (pv 1) pe_int) (pa_cons (pe_op (OpR.either op_sub op_sub_bi) (pv 1) pe_int) (pa_cons (pe_callTy call_str_ib (by rfl) ms (by decide +kernel) (pa_cons (pv 1) pa_nil)) (pa_cons (pe_cmpR (op_eqD hr.units) (pv 1) pe_int (nomark _)) (pa_cons pe_int (pa_cons (pe_call GO' hr (by rfl) gO kO bO .nil pass0 (pa_cons (pv 0) pa_nil)) pa_nil)))))))
              (pe_call GN' hr (by rfl) gN kN bN .nil pass0 (pa_cons (pv 0) (pa_cons pe_int pa_nil))) (fun _ _ => rfl)))) pss_nil)
          (pss_one (ps_ret (pe_call GO' hr (by rfl) gO kO bO .nil pass0 (pa_cons (pv 0) pa_nil))))), fun H1 D1 kp1 hp1 => ?_⟩
        have finish : ∀ (ds : List PyData) (xs : List V) (H2 : Hp) (l : Addr) (n : Int), (n : Int) = (xs.length : Int) → 0 < n → n < 1000 → Deck H2 d p q (c + 2) → Keep d p H H2 → RpAll H2 (d :: p :: sysModules :: B) ds xs → H2 l = some (.lst xs) → l ≠ d → l ≠ p → (∀ e ∈ ds, Wf (L + 1) (max D (m + 2)) e ∧ sz e ≤ 2 * sz dd + 20) →
            spNext [.ref d, .int n] H2 (fun y H3 => rIxL K (.ref l) y H3 Q) E0 := by
          intro ds xs H2 l n en h0 h1 D2 kp2 hall hl nld nlp hwf
          refine ⟨d, p, q, c + 2, n, rfl, D2, by omega, h0, by omega, fun H3 r r0 r1 D3 kp3 => ?_⟩
          obtain ⟨j, rfl⟩ := Int.eq_ofNat_of_zero_le r0
          have hj : j < xs.length := by omega
          have all3 := hall.keep D2 kp3 (by simp) (by simp)
          obtain ⟨e, he, hre⟩ := all3.get (List.getElem?_eq_getElem hj)
          exact ⟨l, xs, (j : Int), _, rfl, rfl, sqL (kp3 _ _ hl nld nlp), atI_nat (List.getElem?_eq_getElem hj), qq H3 _ e (D3.mono (by omega)) (kp2.trans kp3) hre (hwf e (List.mem_of_getElem? he)).1 (hwf e (List.mem_of_getElem? he)).2⟩
        refine ⟨x, rfl, x, .ty "tuple", _, _, _, rfl, .ty _, tyRp hp1, k1, _, rfl, ?_⟩
        by_cases ht : tyD dd = "tuple"
        · rw [decide_eq_true ht]
          refine iteT ?_
          obtain ⟨ds, rfl⟩ := ty_tuple ht
          obtain ⟨a, xs, rfl, ha, hx⟩ := hp1
          obtain ⟨hD, hdl, hkids⟩ := hw.kids
          have xl : xs.length ≤ 40 := by
            rw [hx.len]
            omega
          have kid : ∀ e ∈ ds, Wf (L + 1) (max D (m + 2) - 1) e := fun e he => (hkids e he).mono (by omega) (by omega)
          have e1m : max D (m + 2) = (max D (m + 2) - 1) + 1 := by omega
          refine ⟨.ref a, rfl, 1, rfl, a, xs, rfl, ha, fun v1 H2 s2 h2 => ?_⟩
          have ha2 := tf_same s2 ha
          refine ⟨.ref a, rfl, .ref a, rfl, 1, rfl, -1, rfl, a, xs, rfl, ha2, fun v2 H3 s3 h3 => ?_⟩
          have ha3 := tf_same s3 ha2
          have ltail : (cutV xs (some (-1)) none).length ≤ 1 := by
            unfold cutV
            rw [sIx_last, HT.sIx_none, List.length_take]
            omega
          refine ⟨a, v2, xs, _, rfl, rfl, ha3, h3, ?_, fun v3 H4 s4 h4 => ?_⟩
          · exact Nat.le_of_lt (small1000 (by omega))
          have ha4 := tf_same s4 ha3
          refine ⟨.ref a, rfl, a, xs, rfl, ha4, fun v4 H5 s5 h5 => ?_⟩
          have ha5 := tf_same s5 ha4
          refine ⟨.ref a, rfl, a, xs, rfl, ha5.rd, fun v5 H6 hv5 nv5 s6 h6 => ?_⟩
          have s16 : Same H1 H6 := s2.trans (s3.trans (s4.trans (s5.trans s6)))
          have D5 := D1.same (s2.trans (s3.trans (s4.trans s5)))
          have D6 := D5.same s6
          refine ⟨.ref d, rfl, d, p, q, c + 1, B, rfl, D6, by omega, (hB.keep kp1 D1).same s16, fun H7 v6 d6 D7 kp7 hp6 hw6 => ?_⟩
          have b5 : v5 ∉ (d :: p :: sysModules :: B) := by
            simp only [List.mem_cons, not_or]
            exact ⟨D5.ned hv5, D5.nep hv5, nv5, ((hB.keep kp1 D1).same (s2.trans (s3.trans (s4.trans s5)))).fresh hv5⟩
          have hx6 := hx.same s16
          refine ⟨by show 5 ≤ sizeLine; decide, fun l H8 hl nl s8 e8 => ?_⟩
          have c1 : RpAll H6 (d :: p :: sysModules :: B) ((ds.drop (HT.sIx xs.length 0 (some 1))).take (HT.sIx xs.length xs.length none - HT.sIx xs.length 0 (some 1))) (cutV xs (some 1) none) := hx6.cut _ _
          have c2 : RpAll H6 (d :: p :: sysModules :: B) ((ds.drop (HT.sIx xs.length 0 (some (-1)))).take (HT.sIx xs.length xs.length none - HT.sIx xs.length 0 (some (-1)))) (cutV xs (some (-1)) none) := hx6.cut _ _
          have lc2 := c2.len
          have r1 : Rp H6 (d :: p :: sysModules :: B) (.tuple _) (.ref v1) := ⟨v1, _, rfl, tf_same (s3.trans (s4.trans (s5.trans s6))) h2, c1⟩
          have r2 : Rp H6 (d :: p :: sysModules :: B) (.tuple _) (.ref v3) := ⟨v3, _, rfl, tf_same (s5.trans s6) h4, hx6.app c2⟩
          have r3 : Rp H6 (d :: p :: sysModules :: B) (.tuple ds.reverse) (.ref v4) := ⟨v4, _, rfl, tf_same s6 h5, hx6.rev⟩
          have r4 : Rp H6 (d :: p :: sysModules :: B) (.list ds) (.ref v5) := ⟨v5, _, rfl, h6, b5, hx6⟩
          have kk : ∀ {ee : PyData} {vv : V}, Rp H6 (d :: p :: sysModules :: B) ee vv → Rp H8 (d :: p :: sysModules :: B) ee vv := fun h => (h.keep D6 kp7 (by simp) (by simp)).same s8
          refine ⟨.ref d, rfl, finish [.tuple _, .tuple _, .tuple _, .list _, d6] _ H8 l 5 rfl (by decide) (by decide) (D7.same s8) ((kp1.trans (Same.keep s16)).trans (kp7.trans (Same.keep s8))) ⟨_, _, rfl, kk r1, _, _, rfl, kk r2, _, _, rfl, kk r3, _, _, rfl, kk r4, _, _, rfl, hp6.same s8, rfl⟩ e8 (D7.ned hl) (D7.nep hl) ?_⟩
          have z6 : sz d6 ≤ 2 * (1 + szAll ds) + 20 := by
            have : sz d6 ≤ 7 := hw6.sz
            omega
          refine List.forall_mem_cons.mpr ⟨?_, List.forall_mem_cons.mpr ⟨?_, List.forall_mem_cons.mpr ⟨?_, List.forall_mem_cons.mpr ⟨?_, List.forall_mem_cons.mpr ⟨⟨hw6.mono (by omega) (by omega), z6⟩, fun _ h => absurd h (by simp)⟩⟩⟩⟩⟩
          · refine ⟨?_, by show 1 + szAll ((ds.drop _).take _) ≤ 2 * (1 + szAll ds) + 20; have := szAll_cut ds (HT.sIx xs.length 0 (some 1)) (HT.sIx xs.length xs.length none - HT.sIx xs.length 0 (some 1)); omega⟩
            rw [e1m]
            refine Wf.tup ?_ fun e he => kid e (List.mem_of_mem_drop (List.mem_of_mem_take he))
            rw [List.length_take, List.length_drop]
            omega
          · refine ⟨?_, by show 1 + szAll (ds ++ (ds.drop _).take _) ≤ 2 * (1 + szAll ds) + 20; rw [szAll_app]; have := szAll_cut ds (HT.sIx xs.length 0 (some (-1))) (HT.sIx xs.length xs.length none - HT.sIx xs.length 0 (some (-1))); omega⟩
            rw [e1m]
            refine Wf.tup ?_ fun e he => ?_
            · rw [List.length_append]
              omega
            · rcases List.mem_append.mp he with he | he
              · exact kid e he
              · exact kid e (List.mem_of_mem_drop (List.mem_of_mem_take he))
          · refine ⟨?_, by show 1 + szAll ds.reverse ≤ 2 * (1 + szAll ds) + 20; rw [szAll_rev]; omega⟩
            rw [e1m]
            refine Wf.tup ?_ fun e he => kid e (List.mem_reverse.mp he)
            rw [List.length_reverse]
            omega
          · refine ⟨?_, by show 1 + szAll ds ≤ 2 * (1 + szAll ds) + 20; omega⟩
            rw [e1m]
            exact Wf.lst (by omega) kid
        · rw [decide_eq_false ht]
          refine iteF ?_
          refine ⟨x, rfl, x, .ty "int", _, _, _, rfl, .ty _, tyRp hp1, k2, _, rfl, ?_⟩
          by_cases hib : tyD dd = "int" ∨ tyD dd = "bool"
          · rw [decide_eq_true hib]
            refine iteT ?_
            have fin2 : ∀ (i : Int) (z : Str) (b2 : Bool) (H6 : Hp) (v6 : V) (d6 : PyData), i.natAbs ≤ 10 ^ 59 + L → leafOk (L + 1) (.str z) → Deck H6 d p q (c + 2) → Keep d p H H6 → Rp H6 (d :: p :: sysModules :: B) d6 v6 → Wf 2 2 d6 →
                ∀ l H8, H6 l = none → l ≠ sysModules → Same H6 H8 → H8 l = some (.lst [.int (i + 1), .int (i - 1), .str z, .bl b2, .int 0, v6]) → spNext [.ref d, .int 6] H8 (fun y H3 => rIxL K (.ref l) y H3 Q) E0 := by
              intro i z b2 H6 v6 d6 hi hz D6 kp6 hp6 hw6 l H8 hl nl s8 e8
              refine finish [.int (i + 1), .int (i - 1), .str z, .bool b2, .int 0, d6] _ H8 l 6 rfl (by decide) (by decide) (D6.same s8) (kp6.trans (Same.keep s8)) ⟨_, _, rfl, rfl, _, _, rfl, rfl, _, _, rfl, rfl, _, _, rfl, rfl, _, _, rfl, rfl, _, _, rfl, hp6.same s8, rfl⟩ e8 (D6.ned hl) (D6.nep hl) ?_
              have z1 : 1 ≤ 2 * sz dd + 20 := by omega
              have z6 : sz d6 ≤ 2 * sz dd + 20 := by
                have : sz d6 ≤ 7 := hw6.sz
                omega
              refine List.forall_mem_cons.mpr ⟨⟨Wf.leaf (show (i + 1).natAbs ≤ 10 ^ 59 + (L + 1) by omega), z1⟩, List.forall_mem_cons.mpr ⟨⟨Wf.leaf (show (i - 1).natAbs ≤ 10 ^ 59 + (L + 1) by omega), z1⟩, List.forall_mem_cons.mpr ⟨⟨Wf.leaf hz, z1⟩, List.forall_mem_cons.mpr ⟨⟨Wf.leaf trivial, z1⟩, List.forall_mem_cons.mpr ⟨⟨Wf.leaf (show (0 : Int).natAbs ≤ 10 ^ 59 + (L + 1) from Nat.zero_le _), z1⟩, List.forall_mem_cons.mpr ⟨⟨hw6.mono (by omega) (by omega), z6⟩, fun _ h => absurd h (by simp)⟩⟩⟩⟩⟩⟩
            cases dd with
            | int i =>
              cases (show x = V.int i from hp1)
              have hi : i.natAbs ≤ 10 ^ 59 + L := hw.leaf_of rfl
              refine ⟨.int i, rfl, .inl ⟨i, 1, rfl, rfl, .int i, rfl, .inl ⟨i, 1, rfl, rfl, .int i, rfl, .inl ⟨i, rfl, small_log (small_int (by omega) hi), .int i, rfl, _, _, .int i, .int 1, rfl, rfl, ?_⟩⟩⟩⟩
              refine ⟨.ref d, rfl, d, p, q, c + 1, B, rfl, D1, by omega, hB.keep kp1 D1, fun H7 v6 d6 D7 kp7 hp6 hw6 => ⟨by show 6 ≤ sizeLine; decide, ?_⟩⟩
              exact fun l H8 hl nl s8 e8 => ⟨.ref d, rfl, fin2 i _ _ H7 v6 d6 hi (leafOk.mono (Nat.le_succ L) (text_ok (by omega) hi)) D7 (kp1.trans kp7) hp6 hw6 l H8 hl nl s8 e8⟩
            | bool b =>
              cases (show x = V.bl b from hp1)
              have hb : (if b = true then (1 : Int) else 0).natAbs ≤ 10 ^ 59 + L := by
                cases b
                · exact Nat.zero_le _
                · show 1 ≤ 10 ^ 59 + L
                  exact Nat.le_trans (by decide : 1 ≤ 10 ^ 59) (Nat.le_add_right _ _)
              refine ⟨.bl b, rfl, .inr ⟨b, 1, rfl, rfl, .bl b, rfl, .inr ⟨b, 1, rfl, rfl, .bl b, rfl, .inr ⟨b, rfl, .bl b, rfl, _, _, .bl b, .int 1, rfl, rfl, ?_⟩⟩⟩⟩
              refine ⟨.ref d, rfl, d, p, q, c + 1, B, rfl, D1, by omega, hB.keep kp1 D1, fun H7 v6 d6 D7 kp7 hp6 hw6 => ⟨by show 6 ≤ sizeLine; decide, ?_⟩⟩
              exact fun l H8 hl nl s8 e8 => ⟨.ref d, rfl, fin2 _ _ _ H7 v6 d6 hb (by cases b <;> exact ⟨by decide +kernel, by decide +kernel⟩) D7 (kp1.trans kp7) hp6 hw6 l H8 hl nl s8 e8⟩
            | none => simp [tyD] at hib
            | str z => simp [tyD] at hib
            | list z => simp [tyD] at hib
            | tuple z => simp [tyD] at hib
            | dict z => simp [tyD] at hib
          · rw [decide_eq_false hib]
            refine iteF ?_
            refine ⟨.ref d, rfl, d, p, q, c + 1, B, rfl, D1, by omega, hB.keep kp1 D1, fun H7 v6 d6 D7 kp7 hp6 hw6 => ?_⟩
            exact qq H7 v6 d6 (D7.mono (by omega)) (kp1.trans kp7) hp6 (hw6.mono (by omega) (by omega)) (by have : sz d6 ≤ 7 := hw6.sz; omega)
      obtain ⟨t2, ht2, q2⟩ := rest
      refine ⟨_, pss_cons (ps_if (PW.pt (pw_and (pt_val (pe_callB call_isi (by rfl) misi (by decide +kernel) (pa_cons (pv 1) (pa_cons (pe_bltn (v := .ty "tuple") (by rfl) mt (by decide +kernel) rfl) pa_nil))))
          (pw_and (pt_cmpR (op_neT0 hr.units0) (pv 1) (pe_tupN pa_nil) (nomark _)) (pw_and (pt_cmpR op_gt (pv 2) pe_int (nomark _)) (pw_and1 (pt_cmpR op_gt (pe_call GN' hr (by rfl) gN kN bN .nil pass0 (pa_cons (pv 0) (pa_cons pe_int pa_nil))) pe_int (nomark _)))))))
        (pss_cons (ps_set (i := 3) scBent.nd rfl (.inl rfl) (pe_call GN' hr (by rfl) gN kN bN .nil pass0 (pa_cons (pv 0) (pa_cons (pe_callB call_len_seq (by rfl) mlen PySem.boot_len (pa_cons (pv 1) pa_nil)) pa_nil))))
          (pss_one (ps_ret (pe_op op_catTN (pe_op op_catTN (pe_slice sl_tupN (pv 1) po_none (po_some (pv 3))) (pe_tupN (pa_cons (pe_call GB hr (by rfl) gB F.kp bB .nil pass0 (pa_cons (pv 0) (pa_cons (pe_ix ix_tup (pv 1) (pv 3) (fun _ _ => rfl)) (pa_cons (pe_op op_sub (pv 2) pe_int) pa_nil)))) pa_nil)))
            (pe_slice sl_tupN (pv 1) (po_some (pe_op op_add (pv 3) pe_int)) po_none))))) pss_nil) ht2, ?_⟩
      have early : ∀ H1, Same H H1 → t2 { nx := fun _ H' => Q .non H', rt := Q } [some (.ref d), some x, some (.int (m : Int)), none] H1 := fun H1 s1 => q2 H1 ((D0.same s1).mono (by omega)) (Same.keep s1) (hp.same s1)
      refine ⟨x, rfl, x, .ty "tuple", _, _, _, rfl, .ty _, tyRp hp, k1, _, rfl, ?_⟩
      by_cases ht : tyD dd = "tuple"
      · rw [decide_eq_true ht]
        refine iteT ?_
        obtain ⟨ds, rfl⟩ := ty_tuple ht
        obtain ⟨a, xs, ex, ha, hx⟩ := id hp
        subst ex
        obtain ⟨hD, hdl, hkids⟩ := hw.kids
        refine ⟨.ref a, rfl, Nat.zero_le _, fun e He _ se ee => ⟨a, e, xs, rfl, rfl, .inl (tf_same se ha).rd, .inl ee.rd, _, rfl, ?_⟩⟩
        cases xs with
        | nil => exact iteF (iteF (early He se))
        | cons x0 xr =>
          refine iteT ?_
          refine ⟨.int (m : Int), rfl, _, _, rfl, rfl, _, rfl, ?_⟩
          cases m with
          | zero => exact iteF (iteF (early He se))
          | succ m =>
            have c1 : decide (((m + 1 : Nat) : Int) > 0) = true := decide_eq_true (by omega)
            show if decide (((m + 1 : Nat) : Int) > 0) = true then _ else _
            rw [c1]
            refine iteT ?_
            refine ⟨.ref d, rfl, d, p, q, c, 4, rfl, D0.same se, by omega, by decide, by decide, fun H1 r r0 r1 D1 kp1 => ?_⟩
            have De := D0.same se
            have hp1 : Rp H1 (d :: p :: sysModules :: B) (.tuple ds) (.ref a) := (hp.same se).keep De kp1 (by simp) (by simp)
            have kpe : Keep d p H H1 := (Same.keep se).trans kp1
            refine ⟨_, _, rfl, rfl, _, rfl, ite2 (fun _ => ?_) (fun _ => q2 H1 D1 kpe hp1)⟩
            obtain ⟨a', xs', ex, ha1, hx1⟩ := hp1
            cases ex
            have exs : xs' = x0 :: xr := by
              obtain ⟨o1, _, u1⟩ := ha1
              obtain ⟨o2, _, u2⟩ := (tf_same se ha).keep De kp1
              rw [u1] at u2
              cases u2
              rfl
            subst exs
            have hxl := hx.len
            have xl : (x0 :: xr).length ≤ 40 := by
              rw [hxl]
              omega
            generalize hxs : x0 :: xr = xs at *
            have hpos : 0 < xs.length := by
              rw [← hxs]
              exact Nat.succ_pos _
            refine ⟨.ref d, rfl, .ref a, rfl, a, xs, rfl, .inr (.inl ha1.rd), d, p, q, c + 1, _, rfl, D1, by omega, by omega, by omega, fun H2 r r0 r1 D2 kp2 => ?_⟩
            obtain ⟨j, rfl⟩ := Int.eq_ofNat_of_zero_le r0
            have hj : j < xs.length := by omega
            have hp2 : Rp H2 (d :: p :: sysModules :: B) (.tuple ds) (.ref a) := Rp.keep (show Rp H1 (d :: p :: sysModules :: B) (.tuple ds) (.ref a) from ⟨a, xs, rfl, ha1, hx1⟩) D1 kp2 (by simp) (by simp)
            have rdk : ∀ {Hx Hy : Hp} {cc : Nat} {b : Addr} {ys : List V}, Deck Hx d p q cc → Keep d p Hx Hy → TF Hx b ys → TF Hy b ys := fun Dx kx e => e.keep Dx kx
            have ha2 := rdk D1 kp2 ha1
            have hx2 := RpAll.keep hx1 D1 kp2 (by simp) (by simp)
            refine ⟨.ref a, rfl, .int (j : Int), rfl, _, rfl, a, xs, rfl, ha2, fun v1 H3 s3 h3 => ?_⟩
            have hx3 := hx2.same s3
            have ha3 := tf_same s3 ha2
            have D3 := D2.same s3
            obtain ⟨dj, hdj, hrj⟩ := hx3.get (List.getElem?_eq_getElem hj)
            have mj : dj ∈ ds := List.mem_of_getElem? hdj
            have ev : ((m + 1 : Nat) : Int) - 1 = (m : Int) := by omega
            refine ⟨.ref d, rfl, .ref a, rfl, .int (j : Int), rfl, a, xs, _, _, rfl, rfl, .inl ha3.rd, atI_nat (List.getElem?_eq_getElem hj), .int ((m + 1 : Nat) : Int), rfl, _, 1, rfl, rfl, ?_⟩
            refine ⟨d, p, q, c + 1 + 1, xs[j], dj, L, D - 1, B, ?_, D3, by omega, ((hB.keep kpe D1).keep kp2 D2).same s3, hrj, hkids dj mj, hL2, hL, fun H4 y ee D4 kp4 hpy hwy hzy => ?_⟩
            · show [V.ref d, xs[j], V.int (((m + 1 : Nat) : Int) - 1)] = _
              rw [ev]
            have h4 := rdk D3 kp4 h3
            have ha4 := rdk D3 kp4 ha3
            have hx4 := RpAll.keep hx3 D3 kp4 (by simp) (by simp)
            refine ⟨by show 1 ≤ sizeLine; decide, fun u H5 _ s5 e5 => ?_⟩
            have e2 : cutV xs none (some (j : Int)) = xs.take j := by
              unfold cutV
              rw [HT.sIx_none, HT.sIx_nat, Nat.min_eq_left (by omega)]
              rfl
            rw [e2] at h4
            refine ⟨v1, u, xs.take j, [y], rfl, rfl, tf_same s5 h4, e5, ?_, fun u2 H6 s6 h6 => ?_⟩
            · rw [List.length_take]
              exact Nat.le_of_lt (small1000 (by show min j xs.length + 1 ≤ 1000; omega))
            have s46 := s5.trans s6
            refine ⟨.ref a, rfl, .int (j : Int), rfl, _, 1, rfl, rfl, _, rfl, a, xs, rfl, tf_same s46 ha4, fun u3 H7 s7 h7 => ?_⟩
            have e3 : cutV xs (some ((j : Int) + 1)) none = xs.drop (j + 1) := by
              unfold cutV
              rw [show ((j : Int) + 1) = ((j + 1 : Nat) : Int) by omega, HT.sIx_none, HT.sIx_nat, Nat.min_eq_left (by omega)]
              exact List.take_of_length_le (by rw [List.length_drop]; exact Nat.le_refl _)
            have h7' : TF H7 u3 (xs.drop (j + 1)) := by
              rw [← e3]
              exact h7
            refine ⟨u2, u3, _, _, rfl, rfl, tf_same s7 h6, h7', ?_, fun u4 H8 s8 h8 => ?_⟩
            · rw [List.length_append, List.length_take, List.length_drop]
              exact Nat.le_of_lt (small1000 (by show min j xs.length + 1 + (xs.length - (j + 1)) ≤ 1000; omega))
            have s48 := s46.trans (s7.trans s8)
            have hx8 := hx4.same s48
            refine qq H8 (.ref u4) (.tuple ((ds.take j ++ [ee]) ++ ds.drop (j + 1))) ((D4.same s48).mono (by omega)) ((kpe.trans kp2).trans ((Same.keep s3).trans (kp4.trans (Same.keep s48)))) ⟨u4, _, rfl, h8, RpAll.app (RpAll.app (hx8.take j) ⟨y, [], rfl, hpy.same s48, rfl⟩) (hx8.drop (j + 1))⟩ ?_ ?_
            rotate_left
            · have h1 := szAll_take ds j
              have h2 : szAll (ds.drop j) = sz dj + szAll (ds.drop (j + 1)) := by
                have hjd : j < ds.length := (List.getElem?_eq_some_iff.mp hdj).1
                rw [List.drop_eq_getElem_cons hjd, (List.getElem?_eq_some_iff.mp hdj).2]
                rfl
              show 1 + szAll ((ds.take j ++ [ee]) ++ ds.drop (j + 1)) ≤ 2 * (1 + szAll ds) + 20
              rw [szAll_app, szAll_app]
              show 1 + (szAll (ds.take j) + (sz ee + 0) + szAll (ds.drop (j + 1))) ≤ _
              omega
            have em : max D (m + 1 + 2) = (max D (m + 1 + 2) - 1) + 1 := by omega
            rw [em]
            refine Wf.tup ?_ fun z hz => ?_
            · rw [List.length_append, List.length_append, List.length_take, List.length_drop]
              show min j ds.length + 1 + (ds.length - (j + 1)) ≤ L + 1
              omega
            · rcases List.mem_append.mp hz with hz | hz
              · rcases List.mem_append.mp hz with hz | hz
                · exact (hkids z (List.mem_of_mem_take hz)).mono (by omega) (by omega)
                · rw [List.mem_singleton] at hz
                  subst hz
                  exact hwy.mono (Nat.le_refl _) (by omega)
              · exact (hkids z (List.mem_of_mem_drop hz)).mono (by omega) (by omega)
      · rw [decide_eq_false ht]
        exact iteF (iteF (early H (Same.refl _)))
end
end TR
namespace TR
open PySem PySem.Spec PyProof.Rows L2
/-! ### tables as data -/
theorem iteND {c A B : Prop} [Decidable c] (hc : ¬ c) (h : A) : if (!decide c) = true then A else B := by
  rw [decide_eq_false hc]
  exact iteT h
def tasD (t : List Int × Int) : PyData := .tuple [.tuple (t.1.map PyData.int), .int t.2]
def tabD (n : Nat) (ts : Tas) : PyData := .tuple [.int (n : Int), .tuple (ts.map tasD)]
def IsWtD (d : PyData) : Prop := ∃ i : Int, d = .int i ∧ 1 ≤ i ∧ i ≤ 1000000000000
def IsTasD (n : Nat) (d : PyData) : Prop := ∃ e1 e2, d = .tuple [e1, e2] ∧ IsRk n e1 ∧ IsWtD e2
def IsTabD (d : PyData) : Prop := ∃ (n : Nat) (ds : List PyData), d = .tuple [.int (n : Int), .tuple ds] ∧ 1 ≤ n ∧ n ≤ 8 ∧ 1 ≤ ds.length ∧ ds.length ≤ 16 ∧ ∀ e ∈ ds, IsTasD n e
theorem two_of {α : Type} {l : List α} (h : l.length = 2) : ∃ a b, l = [a, b] := by
  match l, h with
  | [a, b], _ => exact ⟨a, b, rfl⟩
theorem not_tas_ty {n : Nat} {d : PyData} (h : tyD d ≠ "tuple") : ¬ IsTasD n d := by
  rintro ⟨e1, e2, rfl, _⟩
  exact h rfl
theorem not_tab_ty {d : PyData} (h : tyD d ≠ "tuple") : ¬ IsTabD d := by
  rintro ⟨n, ds, rfl, _⟩
  exact h rfl
theorem int_ne {a b : Int} (h : a ≠ b) : ¬ (V.int a = V.int b) := fun e => h (V.int.inj e)
end TR
namespace TR
open PySem PySem.Spec PyProof.Rows L2
theorem Tst.rp {H : Hp} {ban : List Addr} {vs : List V} {ts : Tas} (h : Tst H vs ts) : RpAll H ban (ts.map tasD) vs := by
  induction h with
  | nil => rfl
  | cons e f _ ih =>
    exact ⟨_, _, rfl, ⟨_, _, rfl, e, _, _, rfl, ⟨_, _, rfl, f, RpAll.ints _⟩, _, _, rfl, rfl, rfl⟩, ih⟩
theorem Tab.rp {H : Hp} {ban : List Addr} {t : Addr} {n : Nat} {ts : Tas} (h : Tab H t n ts) : Rp H ban (tabD n ts) (.ref t) := by
  obtain ⟨b, xs, h1, h2, h3⟩ := h
  exact ⟨t, _, rfl, h1, _, _, rfl, rfl, _, _, rfl, ⟨b, xs, rfl, h2, h3.rp⟩, rfl⟩
theorem wf_rk {n : Nat} {rk : List Int} (r : Rank n rk) (hn : n ≤ 8) : Wf 16 1 (.tuple (rk.map PyData.int)) ∧ sz (.tuple (rk.map PyData.int)) ≤ 9 := by
  constructor
  · refine Wf.tup (D := 0) (by rw [List.length_map, r.len]; omega) fun e he => ?_
    obtain ⟨i, hi, rfl⟩ := List.mem_map.mp he
    obtain ⟨b0, b1⟩ := r.bnd hi
    show i.natAbs ≤ 10 ^ 59 + 16
    omega
  · show 1 + szAll (rk.map PyData.int) ≤ 9
    rw [szAll_ints, r.len]
    omega
theorem wf_two {e : PyData} {w : Int} {L D : Nat} (h : Wf L D e) (hL : 2 ≤ L) (hw : w.natAbs ≤ 10 ^ 59) : Wf L (D + 1) (.tuple [e, .int w]) := by
  refine Wf.tup hL fun x hx => ?_
  simp only [List.mem_cons, List.not_mem_nil, or_false] at hx
  rcases hx with rfl | rfl
  · exact h
  · exact Wf.leaf (show w.natAbs ≤ 10 ^ 59 + L by omega)
theorem wf_one {e : PyData} {L D : Nat} (h : Wf L D e) (hL : 1 ≤ L) : Wf L (D + 1) (.tuple [e]) := by
  refine Wf.tup hL fun x hx => ?_
  rw [List.mem_singleton] at hx
  rw [hx]
  exact h
theorem wf_pair {e : PyData} {w : Int} {L D : Nat} (h : Wf L D e) (hL : 2 ≤ L) (hw : w.natAbs ≤ 10 ^ 59) : Wf L (D + 1) (.tuple [.int w, e]) := by
  refine Wf.tup hL fun x hx => ?_
  simp only [List.mem_cons, List.not_mem_nil, or_false] at hx
  rcases hx with rfl | rfl
  · exact Wf.leaf (show w.natAbs ≤ 10 ^ 59 + L by omega)
  · exact h
theorem big59 {i : Int} (h : i.natAbs ≤ 1000000000001) : i.natAbs ≤ 10 ^ 59 := Nat.le_trans h (by decide)
theorem wf_tas {n : Nat} {t : List Int × Int} (r : Rank n t.1) (hn : n ≤ 8) (h1 : 1 ≤ t.2) (h2 : t.2 ≤ 1000000000000) : Wf 16 2 (tasD t) ∧ sz (tasD t) ≤ 11 := by
  obtain ⟨a, b⟩ := wf_rk r hn
  refine ⟨wf_two a (by decide) (big59 (by omega)), ?_⟩
  show 1 + (sz (.tuple (t.1.map PyData.int)) + (1 + 0)) ≤ 11
  omega
theorem wf_tast {n M : Nat} {ts : Tas} (wf : WfT 8 M n ts) : (∀ e ∈ ts.map tasD, Wf 16 2 e) ∧ szAll (ts.map tasD) ≤ ts.length * 11 := by
  have key : ∀ e ∈ ts.map tasD, Wf 16 2 e ∧ sz e ≤ 11 := fun e he => by
    obtain ⟨t, ht, rfl⟩ := List.mem_map.mp he
    obtain ⟨r, w1, w2⟩ := wf.all t ht
    exact wf_tas r wf.nD w1 w2
  refine ⟨fun e he => (key e he).1, ?_⟩
  have := szAll_le (ts.map tasD) fun e he => (key e he).2
  rw [List.length_map] at this
  exact this
theorem wf_tab {n : Nat} {ts : Tas} (wf : WfT 8 16 n ts) : Wf 16 4 (tabD n ts) ∧ sz (tabD n ts) ≤ 179 := by
  obtain ⟨a, b⟩ := wf_tast wf
  have h1 := wf.lM
  have h2 := wf.nD
  refine ⟨wf_pair (Wf.tup (by rw [List.length_map]; exact h1) a) (by decide) (big59 (by omega)), ?_⟩
  show 1 + (1 + ((1 + szAll (ts.map tasD)) + 0)) ≤ 179
  have : ts.length * 11 ≤ 16 * 11 := Nat.mul_le_mul_right _ h1
  omega
end TR
namespace TR
open PySem PySem.Spec PyProof.Rows L2
section
variable {X : Cx}
/-- f(..) of a def that shows by repr -/
theorem pe_callG {k : Nat} {f : Addr} {fd : FuncData} {ps : List Str} {sp : Sp} {x : Str} {q pos : Pos} {e : Expr} {es : List Expr} {t : TA} (F : RunG X.prog X.w X.K X.mg X.base k f fd ps sp) (len : ∀ vs H Q E, sp vs H Q E → vs.length = ps.length) (hgd : X.A.guards = some []) (hr : Room k X.A)
    (hg : Gl X x) (hm : X.mg x = some (.ref f)) (hk : PySem.W.keepIn X.K (.ref f) = true) (hb : Binds X.K fd ps []) (ha : PA X (e :: es) t)
    (hdb : (x == ("__debug__" : Str)) = false := by decide) (he : starEach (e :: es) X.env = (false, eval e X.env) :: starEach es X.env := by rfl) (hpl : (backTo pos (starEach es X.env)).any (·.1) = false := by rfl) :
    PE X (.Call (.Name x q) (e :: es) [] pos) (fun σ H Q => t σ H fun vs H1 => sp vs H1 Q E0) := by
  refine ⟨fun pins s σ H Q I h => ?_⟩
  refine wpAny_Call_Name_kw (ld_glob I hg hm ?_ hdb)
  refine PySem.W.callWith_K (h₀ := X.base) I.ok.mod.kin hk (thn (ha.run pos pins s σ H _ I h) fun us s1 hh => ?_) he hpl
  obtain ⟨vs, H1, I1, r, z⟩ := hh
  refine ⟨I1.kIn, ?_⟩
  have n : us.length = ps.length := by rw [← r.length]; exact len _ _ _ _ z
  have b := hb s1 us I1.kIn (by rw [List.append_nil]; exact n)
  rw [List.append_nil] at b
  refine wpAny_call (codeAny_mono (F X.A X.stack s1 H1 ⟨us, []⟩ us vs Q E0 hgd hr I1.env0 b r z) fun r s' hq => ?_)
  cases r with
  | error e => exact False.elim hq
  | ok fl =>
    cases fl with
    | ret u => exact I1.after hq
    | next => exact False.elim hq
    | brk => exact False.elim hq
    | cont => exact False.elim hq
end
end TR
namespace TR
open PySem PySem.Spec PyProof.Rows L2
theorem scMenuVal : FnScope ["_law_deck_here", "_law_table_here", "_law_menu_here", "_law_way", "_law_some"] ["_law_deck_here", "_law_table_here"] (defScope sMenuVal) := ⟨rfl, rfl, rfl, by decide +kernel, rfl, by decide +kernel, by decide +kernel⟩
section
variable {P : Program} {w : World} {K : PySem.W.Frag} {mg : Str → Option Value} {base : Heap}
def spMenuVal : Sp := fun vs H Q _ => ∃ (d p q t : Addr) (c n : Nat) (ts : Tas) (B : List Addr), vs = [.ref d, .ref t] ∧ Deck H d p q c ∧ c ≤ 800000 ∧ Alive B H ∧ Tab H t n ts ∧ 1 ≤ n ∧ n ≤ 8 ∧
  ∀ H' x e, Deck H' d p q (c + 50) → Keep d p H H' → Rp H' (d :: p :: sysModules :: B) e x → Wf 17 4 e → sz e ≤ 100 → Q x H'
theorem wf_ints {ms : List Int} {L : Nat} (hl : ms.length ≤ L) (hb : ∀ x ∈ ms, x.natAbs ≤ 100) : Wf L 1 (.tuple (ms.map PyData.int)) ∧ Wf L 1 (.list (ms.map PyData.int)) := by
  have k : ∀ e ∈ ms.map PyData.int, Wf L 0 e := fun e he => by
    obtain ⟨x, hx, rfl⟩ := List.mem_map.mp he
    have := hb x hx
    exact Wf.leaf (show x.natAbs ≤ 10 ^ 59 + L by omega)
  exact ⟨Wf.tup (by rw [List.length_map]; exact hl) k, Wf.lst (by rw [List.length_map]; exact hl) k⟩
theorem cut_ints (ms : List Int) : ∃ tl : List Int, cutV (ms.map V.int) (some (-1)) none = tl.map V.int ∧ tl.length ≤ ms.length ∧ ∀ x ∈ tl, x ∈ ms := by
  refine ⟨(ms.drop (HT.sIx (ms.map V.int).length 0 (some (-1)))).take (HT.sIx (ms.map V.int).length (ms.map V.int).length none - HT.sIx (ms.map V.int).length 0 (some (-1))), ?_, ?_, fun x hx => List.mem_of_mem_drop (List.mem_of_mem_take hx)⟩
  · unfold cutV
    rw [List.map_take, List.map_drop]
  · rw [List.length_take, List.length_drop]
    omega
theorem ok_MenuVal {f f__law_menu f__law_next f__law_bent f__law_one f__law_odd : Addr} {fd d__law_menu d__law_next d__law_bent d__law_one d__law_odd : FuncData} (F : Fun K "_law_menu_value" "_law_menu_value" sMenuVal f fd)
    (k__law_menu : PySem.W.keepIn K (.ref f__law_menu) = true) (b__law_menu : Binds K d__law_menu ["_law_deck_here", "_law_dishes"] []) (g__law_menu : mg "_law_menu" = some (.ref f__law_menu)) (G__law_menu : FnOk P w K mg base CX0 8 f__law_menu d__law_menu ["_law_deck_here", "_law_dishes"] spMenu)
    (k__law_next : PySem.W.keepIn K (.ref f__law_next) = true) (b__law_next : Binds K d__law_next ["_law_deck_here", "_law_many"] []) (g__law_next : mg "_law_next" = some (.ref f__law_next)) (G__law_next : FnOk P w K mg base CX0 8 f__law_next d__law_next ["_law_deck_here", "_law_many"] spNext)
    (k__law_bent : PySem.W.keepIn K (.ref f__law_bent) = true) (b__law_bent : Binds K d__law_bent ["_law_deck_here", "_law_thing", "_law_deep"] []) (g__law_bent : mg "_law_bent" = some (.ref f__law_bent)) (G__law_bent : FnOk P w K mg base CX0 8 f__law_bent d__law_bent ["_law_deck_here", "_law_thing", "_law_deep"] (spBent 3))
    (k__law_one : PySem.W.keepIn K (.ref f__law_one) = true) (b__law_one : Binds K d__law_one ["_law_deck_here", "_law_some"] []) (g__law_one : mg "_law_one" = some (.ref f__law_one)) (G__law_one : FnOk P w K mg base CX0 8 f__law_one d__law_one ["_law_deck_here", "_law_some"] spOne)
    (k__law_odd : PySem.W.keepIn K (.ref f__law_odd) = true) (b__law_odd : Binds K d__law_odd ["_law_deck_here"] []) (g__law_odd : mg "_law_odd" = some (.ref f__law_odd)) (G__law_odd : FnOk P w K mg base CX0 8 f__law_odd d__law_odd ["_law_deck_here"] spOdd)
    (m_list : mg "list" = none) : FnOk P w K mg base CX0 9 f fd ["_law_deck_here", "_law_table_here"] spMenuVal := by
  refine F.ok scMenuVal (fun vs H Q E h => ?_) (fun cdv A outer s H vs Q E hr h => ?_)
  · obtain ⟨d, p, q, t, c, n, ts, B, rfl, _⟩ := h
    rfl
  · obtain ⟨d, p, q, t, c, n, ts, B, rfl, D0, hc, hB, tab, hn1, hn, qq⟩ := h
    refine ⟨_, 
      (pss_cons (ps_set (i := 2) scMenuVal.nd rfl (.inl rfl) (pe_call G__law_menu hr (by rfl) g__law_menu k__law_menu b__law_menu .nil pass0 (pa_cons (pv 0) (pa_cons (pe_ix (r := rIxT K) ix_tup (pv 1) pe_int (fun _ _ => rfl)) pa_nil)))) 
      (pss_cons (ps_set (i := 3) scMenuVal.nd rfl (.inl rfl) (pe_call G__law_next hr (by rfl) g__law_next k__law_next b__law_next .nil pass0 (pa_cons (pv 0) (pa_cons pe_int pa_nil)))) 
      (pss_cons (ps_if (pt_cmpR op_eq (pv 3) pe_int (nomark _)) 
        (pss_one (ps_ret (pe_call G__law_bent hr (by rfl) g__law_bent k__law_bent b__law_bent .nil pass0 (pa_cons (pv 0) (pa_cons (pv 2) (pa_cons pe_int pa_nil)))))) pss_nil) 
      (pss_cons (ps_if (pt_cmpR op_eq (pv 3) pe_int (nomark _)) 
        (pss_cons (ps_set (i := 4) scMenuVal.nd rfl (.inl rfl) (pe_lstN (pa_cons (pe_revT (pv 2)) (pa_cons (pe_op op_catTN (pv 2) (pe_slice sl_tupN (pv 2) (po_some (pe_un un_neg pe_int)) po_none)) (pa_cons (pe_op op_catTN (pv 2) (pe_tupN (pa_cons (pe_ix (r := rIxT K) ix_tup (pv 1) pe_int (fun _ _ => rfl)) pa_nil))) (pa_cons (pe_op op_catTN (pe_tupN (pa_cons (pe_un un_neg pe_int) pa_nil)) (pv 2)) (pa_cons (pe_callTy call_listN (by rfl) m_list (by decide +kernel) (pa_cons (pv 2) pa_nil)) pa_nil))))))) 
        (pss_one (ps_ret (pe_call G__law_one hr (by rfl) g__law_one k__law_one b__law_one .nil pass0 (pa_cons (pv 0) (pa_cons (pe_op op_catN (pv 4) (pe_lstN (pa_cons (pe_call G__law_odd hr (by rfl) g__law_odd k__law_odd b__law_odd .nil pass0 (pa_cons (pv 0) pa_nil)) pa_nil))) pa_nil)))))) pss_nil) 
      (pss_one (ps_ret (pv 2))))))), ?_⟩
    obtain ⟨u0, _, g0, _, _⟩ := tab.out
    refine ⟨.ref d, rfl, .ref t, rfl, t, _, 0, .int (n : Int), rfl, rfl, .inl g0, atI_nat (j := 0) rfl, d, p, q, c, n, rfl, D0, by omega, hn1, hn, fun H1 m ms tm hm hml D1 k1 => ?_⟩
    have tab1 := tab.keep D0 k1
    refine ⟨.ref d, rfl, d, p, q, c + 9, 4, rfl, D1, by omega, by decide, by decide, fun H2 r r0 r1 D2 k2 => ?_⟩
    have tab2 := tab1.keep D1 k2
    have tm2 := tm.keep D1 k2
    have k02 := k1.trans k2
    have hB2 := (hB.keep k1 D1).keep k2 D2
    have bms : ∀ x ∈ ms, x.natAbs ≤ 100 := fun x hx => by have := hm.2.1 x hx; omega
    have rpm : Rp H2 (d :: p :: sysModules :: B) (.tuple (ms.map PyData.int)) (.ref m) := ⟨m, _, rfl, tm2, RpAll.ints ms⟩
    have szm : szAll (ms.map PyData.int) ≤ 8 := by rw [szAll_ints]; exact hml
    refine ⟨_, rfl, rfl, _, rfl, ?_⟩
    by_cases e0 : r = 0
    · rw [decide_eq_true (by rw [e0])]
      refine iteT ?_
      refine ⟨.ref d, rfl, .ref m, rfl, d, p, q, c + 10, .ref m, .tuple (ms.map PyData.int), 16, 1, B, rfl, D2, by show c + 10 + 10 * 3 ≤ 900000; omega, hB2, rpm, (wf_ints (by omega) bms).1, by decide, by decide, fun H3 y ee D3 k3 hpy hwy hzy => ?_⟩
      refine qq H3 y ee (D3.mono (by show c + 10 + 10 * 3 ≤ c + 50; omega)) (k02.trans k3) hpy (hwy.mono (by decide) (by decide)) ?_
      have : sz (.tuple (ms.map PyData.int)) = 1 + szAll (ms.map PyData.int) := rfl
      omega
    · rw [decide_eq_false (fun z => e0 (V.int.inj z))]
      refine iteF ⟨_, rfl, rfl, _, rfl, ?_⟩
      by_cases e1 : r = 1
      · rw [decide_eq_true (by rw [e1])]
        refine iteT ?_
        refine ⟨.ref m, rfl, m, _, rfl, tm2.sq, fun p1 o1 hp1 ho1 => ?_⟩
        have s3 : Same H2 (upd H2 p1 (.frz o1 (.tup (ms.map V.int).reverse))) := same_upd hp1
        have t3 : TF (upd H2 p1 (.frz o1 (.tup (ms.map V.int).reverse))) p1 (ms.map V.int).reverse := TF.new ho1
        generalize upd H2 p1 (.frz o1 (.tup (ms.map V.int).reverse)) = H3 at s3 t3
        have tm3 : TF H3 m (ms.map V.int) := tm2.same s3
        refine ⟨.ref m, rfl, .ref m, rfl, 1, rfl, _, rfl, m, _, rfl, tm3, fun p2 H4 s4 t4 => ?_⟩
        obtain ⟨tl, etl, ltl, mtl⟩ := cut_ints ms
        have t4 : TF H4 p2 (tl.map V.int) := by rw [← etl]; exact t4
        have tm4 := tm3.same s4
        refine ⟨m, p2, _, _, rfl, rfl, tm4, t4, ?_, fun p3 H5 s5 t5 => ?_⟩
        · rw [List.length_map, List.length_map]
          exact Nat.le_of_lt (small1000 (by omega))
        have tm5 := tm4.same s5
        obtain ⟨u5, _, g5, _, _⟩ := (tab2.same (s3.trans (s4.trans s5))).out
        refine ⟨.ref m, rfl, .ref t, rfl, t, _, 0, .int (n : Int), rfl, rfl, .inl g5, atI_nat (j := 0) rfl, by show 1 ≤ sizeLine; decide, fun p4 H6 _ s6 t6 => ?_⟩
        have tm6 := tm5.same s6
        refine ⟨m, p4, _, _, rfl, rfl, tm6, t6, ?_, fun p5 H7 s7 t7 => ?_⟩
        · rw [List.length_map]
          exact Nat.le_of_lt (small1000 (by show ms.length + 1 ≤ 1000; omega))
        refine ⟨1, rfl, by show 1 ≤ sizeLine; decide, fun p6 H8 _ s8 t8 => ?_⟩
        have tm8 := tm6.same (s7.trans s8)
        refine ⟨.ref m, rfl, p6, m, _, _, rfl, rfl, t8, tm8, ?_, fun p7 H9 s9 t9 => ?_⟩
        · rw [List.length_map]
          exact Nat.le_of_lt (small1000 (by show 1 + ms.length ≤ 1000; omega))
        have tm9 := tm8.same s9
        refine ⟨.ref m, rfl, m, _, rfl, tm9.rd, fun l1 Ha hl1 nl1 sa ea => ?_⟩
        refine ⟨by show 5 ≤ sizeLine; decide, fun L1 Hb hL1 nL1 sb eb => ?_⟩
        have s29 : Same H2 H9 := s3.trans (s4.trans (s5.trans (s6.trans (s7.trans (s8.trans s9)))))
        have Da := D2.same (s29.trans sa)
        have Db := Da.same sb
        refine ⟨.ref d, rfl, .ref L1, rfl, .ref d, rfl, d, p, q, c + 10, B, rfl, Db, by omega, (hB2.same (s29.trans sa)).same sb, fun Hc xo od Dc kc rpo wfo => ?_⟩
        have nL1d := Da.ned hL1
        have nL1p := Da.nep hL1
        refine ⟨by show 1 ≤ sizeLine; decide, fun L2 Hd _ _ sd ed => ?_⟩
        refine ⟨L1, L2, _, _, rfl, rfl, sd _ _ (kc _ _ eb nL1d nL1p), ed, by show 6 ≤ sizeLine; decide, fun L3 He hL3 se eL => ?_⟩
        have Dd := Dc.same sd
        have De := Dd.same se
        have banl : l1 ∉ (d :: p :: sysModules :: B) := by
          simp only [List.mem_cons, not_or]
          exact ⟨(D2.same s29).ned hl1, (D2.same s29).nep hl1, nl1, (hB2.same s29).fresh hl1⟩
        have hRb : RpAll Hb (d :: p :: sysModules :: B) [.tuple (ms.reverse.map PyData.int), .tuple ((ms ++ tl).map PyData.int), .tuple ((ms ++ [(n : Int)]).map PyData.int), .tuple (((-1 : Int) :: ms).map PyData.int), .list (ms.map PyData.int)] [.ref p1, .ref p3, .ref p5, .ref p7, .ref l1] := by
          refine ⟨_, _, rfl, ⟨p1, _, rfl, t3.same (s4.trans (s5.trans (s6.trans (s7.trans (s8.trans (s9.trans (sa.trans sb))))))), ?_⟩, _, _, rfl, ⟨p3, _, rfl, t5.same (s6.trans (s7.trans (s8.trans (s9.trans (sa.trans sb))))), ?_⟩, _, _, rfl, ⟨p5, _, rfl, t7.same (s8.trans (s9.trans (sa.trans sb))), ?_⟩, _, _, rfl, ⟨p7, _, rfl, t9.same (sa.trans sb), ?_⟩, _, _, rfl, ⟨l1, _, rfl, sb _ _ ea, banl, RpAll.ints ms⟩, rfl⟩
          · rw [← List.map_reverse]
            exact RpAll.ints _
          · rw [← List.map_append]
            exact RpAll.ints _
          · have := RpAll.ints (H := Hb) (ban := (d :: p :: sysModules :: B)) (ms ++ [(n : Int)])
            rw [List.map_append (f := V.int)] at this
            exact this
          · exact RpAll.ints ((-1 : Int) :: ms)
        have hRe : RpAll He (d :: p :: sysModules :: B) ([.tuple (ms.reverse.map PyData.int), .tuple ((ms ++ tl).map PyData.int), .tuple ((ms ++ [(n : Int)]).map PyData.int), .tuple (((-1 : Int) :: ms).map PyData.int), .list (ms.map PyData.int)] ++ [od]) ([.ref p1, .ref p3, .ref p5, .ref p7, .ref l1] ++ [xo]) :=
          (RpAll.app (es := [od]) (ys := [xo]) (RpAll.keep hRb Db kc (by simp) (by simp)) ⟨xo, [], rfl, rpo, rfl⟩).same (sd.trans se)
        refine ⟨d, p, q, L3, c + 11, _, rfl, De, by omega, eL, Dd.ned hL3, Dd.nep hL3, by simp, by show 6 < 1000000; decide, fun Hf x hx Df kf => ?_⟩
        obtain ⟨i, hi⟩ := List.mem_iff_getElem?.mp hx
        obtain ⟨e, he, hre⟩ := hRe.get hi
        have hk : Keep d p H Hf := k02.trans ((Same.keep ((s29.trans sa).trans sb)).trans (kc.trans ((Same.keep (sd.trans se)).trans kf)))
        have hem := List.mem_of_getElem? he
        have wz : Wf 17 4 e ∧ sz e ≤ 100 := by
          have one : ∀ ks : List Int, ks.length ≤ 17 → (∀ x ∈ ks, x.natAbs ≤ 100) → Wf 17 4 (.tuple (ks.map PyData.int)) ∧ sz (.tuple (ks.map PyData.int)) ≤ 100 := fun ks h1 h2 => by
            refine ⟨(wf_ints h1 h2).1.mono (Nat.le_refl _) (by decide), ?_⟩
            show 1 + szAll (ks.map PyData.int) ≤ 100
            rw [szAll_ints]
            omega
          rcases List.mem_append.mp hem with hem | hem
          · simp only [List.mem_cons, List.not_mem_nil, or_false] at hem
            rcases hem with rfl | rfl | rfl | rfl | rfl
            · exact one _ (by rw [List.length_reverse]; omega) fun x hx => bms x (List.mem_reverse.mp hx)
            · refine one _ (by rw [List.length_append]; omega) fun x hx => ?_
              rcases List.mem_append.mp hx with hx | hx
              · exact bms x hx
              · exact bms x (mtl x hx)
            · refine one _ (by rw [List.length_append]; show ms.length + 1 ≤ 17; omega) fun x hx => ?_
              rcases List.mem_append.mp hx with hx | hx
              · exact bms x hx
              · obtain rfl : x = (n : Int) := by simpa using hx
                omega
            · refine one _ (by show ms.length + 1 ≤ 17; omega) fun x hx => ?_
              rcases List.mem_cons.mp hx with rfl | hx
              · decide
              · exact bms x hx
            · refine ⟨(wf_ints (by omega) bms).2.mono (Nat.le_refl _) (by decide), ?_⟩
              show 1 + szAll (ms.map PyData.int) ≤ 100
              omega
          · rw [List.mem_singleton] at hem
            subst hem
            exact ⟨wfo.mono (by decide) (by decide), Nat.le_trans wfo.sz (by decide)⟩
        exact qq Hf x e (Df.mono (by omega)) hk (hre.keep De kf (by simp) (by simp)) wz.1 wz.2
      · rw [decide_eq_false (fun z => e1 (V.int.inj z))]
        refine iteF ⟨_, rfl, qq H2 _ _ (D2.mono (by omega)) k02 rpm ((wf_ints (by omega) bms).1.mono (Nat.le_refl _) (by decide)) ?_⟩
        show 1 + szAll (ms.map PyData.int) ≤ 100
        omega
end
end TR
namespace TR
open PySem PySem.Spec PyProof.Rows L2
theorem scAnswer28 : FnScope ["_law_door", "_law_table_here", "_law_value", "_law_found", "_law_error"] ["_law_door", "_law_table_here", "_law_value"] (defScope sAnswer28) := ⟨rfl, rfl, rfl, by decide +kernel, rfl, by decide +kernel, by decide +kernel⟩
section
variable {P : Program} {w : World} {K : PySem.W.Frag} {mg : Str → Option Value} {base : Heap}
def spAns28 : Sp := fun vs H Q _ => ∃ (k : Int) (t : Addr) (x : V) (n : Nat) (ts : Tas) (d : PyData) (ban : List Addr), vs = [.int k, .ref t, x] ∧ Tab H t n ts ∧ n ≤ 8 ∧ ts.length ≤ 100 ∧ (∀ t ∈ ts, Rank n t.1) ∧ Rp H ban d x ∧ (∀ ds, d = .tuple ds → ds.length ≤ 100) ∧
  (∀ ms : List Int, d = .tuple (ms.map PyData.int) → IsMn n ms → k = 0 → ∀ H' l b, Same H H' → H' l = some (.lst [.str "returned", .ref b]) → Tp H' b (ts.map fun t => chs t.1 ms) → Q (.ref l) H') ∧
  (∀ ms : List Int, d = .tuple (ms.map PyData.int) → IsMn n ms → k ≠ 0 → ∀ H' l, Same H H' → H' l = some (.lst [.str "returned", .int (cst ts ms)]) → Q (.ref l) H') ∧
  (¬ IsMenuD n d → ∀ H' l, Same H H' → H' l = some (.lst [.str "NoMenu"]) → Q (.ref l) H')
theorem ok_Answer28 {c_NoMenu : Addr} {c_TasteError : Addr} {f f_choices f_cost f__law_raised : Addr} {fd d_choices d_cost d__law_raised : FuncData} {m : Nat} (F : Fun K "_law_answer" "_law_answer" sAnswer28 f fd)
    (k_choices : PySem.W.keepIn K (.ref f_choices) = true) (b_choices : Binds K d_choices ["table", "menu"] []) (g_choices : mg "choices" = some (.ref f_choices)) (G_choices : FnOk P w K mg base (L2.CX P w) m f_choices d_choices ["table", "menu"] (spChoices c_NoMenu))
    (k_cost : PySem.W.keepIn K (.ref f_cost) = true) (b_cost : Binds K d_cost ["table", "menu"] []) (g_cost : mg "cost" = some (.ref f_cost)) (G_cost : FnOk P w K mg base (L2.CX P w) m f_cost d_cost ["table", "menu"] (spCostX c_NoMenu))
    (k__law_raised : PySem.W.keepIn K (.ref f__law_raised) = true) (b__law_raised : Binds K d__law_raised ["_law_error"] []) (g__law_raised : mg "_law_raised" = some (.ref f__law_raised)) (G__law_raised : FnE P w K mg base m f__law_raised d__law_raised ["_law_error"] (spRs0 c_NoMenu "NoMenu"))
    (gB : mg "TasteError" = some (.ref c_TasteError)) (te : PySem.W.exmOne K (.ref c_NoMenu) (.ref c_TasteError) = some true) : FnOk P w K mg base CX0 (m + 1) f fd ["_law_door", "_law_table_here", "_law_value"] spAns28 := by
  refine F.ok scAnswer28 (fun vs H Q E h => ?_) (fun cdv A outer s H vs Q E hr h => ?_)
  · obtain ⟨k, t, x, n, ts, d, ban, rfl, _⟩ := h
    rfl
  · obtain ⟨k, t, x, n, ts, d, ban, rfl, tab, hn, hlt, hrk, hp, hlen, q1, q2, q3⟩ := h
    refine ⟨_, 
      (pss_cons (ps_set (i := 3) scAnswer28.nd rfl (.inl rfl) pe_non) 
      (pss_cons (ps_try_as (i := 4) (Wout := fun _ _ _ _ => False) rfl rfl scAnswer28.nd rfl rfl ⟨rfl, by decide, Or.inl gB⟩ takes0 (fun W pn xe tk _ => 
          (pss_one (ps_set (i := 3) scAnswer28.nd rfl (.inl rfl) (pe_lstN (pa_cons pe_str (pa_cons (pe_ifExp (pt_cmpR op_eq (pv 0) pe_int (nomark _)) (pe_callS (E := WE W) G_choices hr rfl g_choices k_choices b_choices (fun σ => passAt tk σ) (by exact (pa_cons (pv 1) (pa_cons (pv 2) pa_nil)))) (pe_callS (E := WE W) G_cost hr rfl g_cost k_cost b_cost (fun σ => passAt tk σ) (by exact (pa_cons (pv 1) (pa_cons (pv 2) pa_nil))))) pa_nil)))))) (fun a oe cls d pn hz hf => 
          (pss_one (ps_set (i := 3) scAnswer28.nd rfl (.inl rfl) (pe_callE (a := a) (oe := oe) G__law_raised (roomH_suite hr) List.mem_cons_self hz hf rfl g__law_raised k__law_raised b__law_raised (by exact (pa_cons (pv 4) pa_nil))))))) 
      (pss_one (ps_ret (pv 3))))), ?_⟩
    refine ⟨_, rfl, rfl, _, rfl, ?_⟩
    have bad : ∀ (W : Prop), W → W := fun _ h => h
    by_cases c : k = 0
    · rw [decide_eq_true (by rw [c])]
      refine iteT ⟨.ref t, rfl, x, rfl, t, x, n, ts, d, ban, rfl, tab, hn, hlt, hrk, hp, hlen, fun ms hd hm H1 b s1 tb => ⟨by show 2 ≤ sizeLine; decide, fun l H2 hl nl s2 e2 => ⟨.ref l, rfl, q1 ms hd hm c H2 l b (s1.trans s2) e2 (tb.same s2)⟩⟩, fun hno H1 s1 => ?_⟩
      refine ⟨true, te, fun _ a0 ha0 => ?_, fun z => Bool.noConfusion z⟩
      exact ⟨.ref a0, rfl, rfl, rfl, rfl, fun H2 l s2 hl nl e2 => ⟨.ref l, rfl, q3 hno H2 l (s1.trans s2) e2⟩⟩
    · rw [decide_eq_false (fun z => c (V.int.inj z))]
      refine iteF ⟨.ref t, rfl, x, rfl, t, x, n, ts, d, ban, rfl, tab, hn, hlt, hrk, hp, hlen, fun ms hd hm H1 s1 => ⟨by show 2 ≤ sizeLine; decide, fun l H2 hl nl s2 e2 => ⟨.ref l, rfl, q2 ms hd hm c H2 l (s1.trans s2) e2⟩⟩, fun hno H1 s1 => ?_⟩
      refine ⟨true, te, fun _ a0 ha0 => ?_, fun z => Bool.noConfusion z⟩
      exact ⟨.ref a0, rfl, rfl, rfl, rfl, fun H2 l s2 hl nl e2 => ⟨.ref l, rfl, q3 hno H2 l (s1.trans s2) e2⟩⟩
end
end TR
namespace TR
open PySem PySem.Spec PyProof.Rows L2
theorem scRight28 : FnScope ["_law_table_here", "_law_value", "_law_kept", "_law_known", "_law_due", "_law_chosen", "_law_ranking", "_law_weight", "_law_door"] ["_law_table_here", "_law_value"] (defScope sRight28) := ⟨rfl, rfl, rfl, by decide +kernel, rfl, by decide +kernel, by decide +kernel⟩
section
variable {P : Program} {w : World} {K : PySem.W.Frag} {mg : Str → Option Value} {base : Heap}
theorem alk_one {K : PySem.W.Frag} {H : Hp} {a b : Addr} {x y : V} (ha : H a = some (.lst [x])) (hb : H b = some (.lst [y])) (h : Alk K H m x y) : Alk K H (m + 1) (.ref a) (.ref b) := by
  refine .inr ⟨a, b, _, _, rfl, rfl, .inl ⟨sqL ha, sqL hb⟩, rfl, by show 1 ≤ 1000; decide, fun i u v hu hv => ?_⟩
  match i, hu, hv with
  | 0, hu, hv => cases hu; cases hv; exact h
  | i + 1, hu, hv => simp at hu
def spRight28 : Sp := fun vs H Q _ => ∃ (t : Addr) (x : V) (n : Nat) (ts : Tas) (e : PyData) (ban : List Addr), vs = [.ref t, x] ∧ Tab H t n ts ∧ WfT 8 16 n ts ∧ Rp H ban e x ∧ sysModules ∈ ban ∧ Wf 17 4 e ∧ sz e ≤ 100 ∧ ∀ H', Same H H' → Q (.bl true) H'
theorem len_right28 : ∀ vs H Q E, spRight28 vs H Q E → vs.length = ["_law_table_here", "_law_value"].length := fun vs H Q E h => by
  obtain ⟨t, x, n, ts, e, ban, rfl, _⟩ := h
  rfl
theorem tup_len {L D : Nat} {ds : List PyData} (h : Wf L D (.tuple ds)) : ds.length ≤ L := by
  cases D with
  | zero => exact h.elim
  | succ D =>
    rcases h with h | h | ⟨es, e, hl, _⟩
    · exact h.elim
    · cases h
    · rcases e with e | e
      · cases e
      · injection e with e
        subst e
        exact hl
theorem ok_Right28 {f f__law_is_menu f__law_same f_is_menu f__law_best f__law_cost f__law_answer : Addr} {fd d__law_is_menu d__law_same d_is_menu d__law_best d__law_cost d__law_answer : FuncData} (F : Fun K "_law_right" "_law_right" sRight28 f fd)
    (k__law_is_menu : PySem.W.keepIn K (.ref f__law_is_menu) = true) (b__law_is_menu : Binds K d__law_is_menu ["_law_dishes", "_law_value"] []) (g__law_is_menu : mg "_law_is_menu" = some (.ref f__law_is_menu)) (G__law_is_menu : FnOk P w K mg base CX0 8 f__law_is_menu d__law_is_menu ["_law_dishes", "_law_value"] spLIsMenu)
    (k__law_same : PySem.W.keepIn K (.ref f__law_same) = true) (b__law_same : Binds K d__law_same ["_law_found", "_law_due"] []) (g__law_same : mg "_law_same" = some (.ref f__law_same)) (G__law_same : FnOk P w K mg base CX0 8 f__law_same d__law_same ["_law_found", "_law_due"] (spSame K 8))
    (k_is_menu : PySem.W.keepIn K (.ref f_is_menu) = true) (b_is_menu : Binds K d_is_menu ["table", "value"] []) (g_is_menu : mg "is_menu" = some (.ref f_is_menu)) (G_is_menu : FnOk P w K mg base CX0 8 f_is_menu d_is_menu ["table", "value"] spIsMenu)
    (k__law_best : PySem.W.keepIn K (.ref f__law_best) = true) (b__law_best : Binds K d__law_best ["_law_ranking", "_law_menu_here"] []) (g__law_best : mg "_law_best" = some (.ref f__law_best)) (G__law_best : FnOk P w K mg base CX0 8 f__law_best d__law_best ["_law_ranking", "_law_menu_here"] spLBest)
    (k__law_cost : PySem.W.keepIn K (.ref f__law_cost) = true) (b__law_cost : Binds K d__law_cost ["_law_table_here", "_law_menu_here"] []) (g__law_cost : mg "_law_cost" = some (.ref f__law_cost)) (G__law_cost : FnOk P w K mg base CX0 8 f__law_cost d__law_cost ["_law_table_here", "_law_menu_here"] spCost)
    (k__law_answer : PySem.W.keepIn K (.ref f__law_answer) = true) (b__law_answer : Binds K d__law_answer ["_law_door", "_law_table_here", "_law_value"] []) (g__law_answer : mg "_law_answer" = some (.ref f__law_answer)) (G__law_answer : FnOk P w K mg base CX0 8 f__law_answer d__law_answer ["_law_door", "_law_table_here", "_law_value"] spAns28)
    (m_repr : mg "repr" = none) (m_tuple : mg "tuple" = none) : RunG P w K mg base 9 f fd ["_law_table_here", "_law_value"] spRight28 := by
  refine okG F scRight28 (fun vs H Q E h => ?_) (fun cdv A outer s H vs Q E hg hr h => ?_)
  · obtain ⟨t, x, n, ts, e, ban, rfl, _⟩ := h
    rfl
  · obtain ⟨t, x, n, ts, e, ban, rfl, tab, wf, rp, hsys, we, ze, q⟩ := h
    refine ⟨_, 
      (pss_cons (ps_set (i := 2) scRight28.nd rfl (.inl rfl) (pe_callB (call_reprD hg hr.units) (by rfl) m_repr (by decide +kernel) (pa_cons (pe_tupN (pa_cons (pv 0) (pa_cons (pv 1) pa_nil))) pa_nil))) 
      (pss_cons (ps_set (i := 3) scRight28.nd rfl (.inl rfl) (pe_call G__law_is_menu hr (by rfl) g__law_is_menu k__law_is_menu b__law_is_menu .nil pass0 (pa_cons (pe_ix (r := rIxT K) ix_tup (pv 0) pe_int (fun _ _ => rfl)) (pa_cons (pv 1) pa_nil)))) 
      (pss_cons (ps_if (pt_not (pt_val (pe_call G__law_same hr (by rfl) g__law_same k__law_same b__law_same .nil pass0 (pa_cons (pe_call G_is_menu hr (by rfl) g_is_menu k_is_menu b_is_menu .nil pass0 (pa_cons (pv 0) (pa_cons (pv 1) pa_nil))) (pa_cons (pv 3) pa_nil))))) 
        (pss_one (ps_ret pe_bl)) pss_nil) 
      (pss_cons (ps_set (i := 4) scRight28.nd rfl (.inl rfl) (pe_lstN (pa_cons (pe_lstN (pa_cons pe_str pa_nil)) (pa_cons (pe_lstN (pa_cons pe_str pa_nil)) pa_nil)))) 
      (pss_cons (ps_if (pt_val (pv 3)) 
        (pss_cons (ps_set (i := 5) scRight28.nd rfl (.inl rfl) (pe_callTy call_tupleF (by rfl) m_tuple (by decide +kernel) (pa_cons (pe_lc (own := [("_law_ranking", 6), ("_law_weight", 7)]) (g := gTup K 2 (gCons (gName 6) (gCons (gName 7) gNil))) (tt := tYes) (by rfl) scRight28.nd (pi_tup (pe_ix (r := rIxT K) ix_tup (pv 0) pe_int (fun _ _ => rfl))) (blkOk_by (own := [("_law_ranking", 6), ("_law_weight", 7)]) (N := ["_law_table_here", "_law_value", "_law_kept", "_law_known", "_law_due", "_law_chosen", "_law_ranking", "_law_weight", "_law_door"]) (sc := defScope sRight28) (by decide +kernel)) (fun _ _ _ _ _ => (pg_tup (by rfl) (pgs_cons (pg_name (i := 6) scRight28.nd rfl (Or.inl rfl)) (pgs_cons (pg_name (i := 7) scRight28.nd rfl (Or.inl rfl)) pgs_nil)))) (fun _ _ _ _ _ => pts_nil) (fun _ _ _ _ _ => (pe_call G__law_best hr (by rfl) g__law_best k__law_best b__law_best .nil pass0 (pa_cons (pv 6) (pa_cons (pv 1) pa_nil))))) pa_nil))) 
        (pss_one (ps_set (i := 4) scRight28.nd rfl (.inl rfl) (pe_lstN (pa_cons (pe_lstN (pa_cons pe_str (pa_cons (pv 5) pa_nil))) (pa_cons (pe_lstN (pa_cons pe_str (pa_cons (pe_call G__law_cost hr (by rfl) g__law_cost k__law_cost b__law_cost .nil pass0 (pa_cons (pv 0) (pa_cons (pv 1) pa_nil))) pa_nil))) pa_nil)))))) pss_nil) 
      (pss_cons (ps_if (pt_not (pt_val (pe_call G__law_same hr (by rfl) g__law_same k__law_same b__law_same .nil pass0 (pa_cons (pe_lc (own := [("_law_door", 8)]) (g := gName 8) (tt := tYes) (by rfl) scRight28.nd (pi_tup (pe_tupN (pa_cons pe_int (pa_cons pe_int pa_nil)))) (blkOk_by (own := [("_law_door", 8)]) (N := ["_law_table_here", "_law_value", "_law_kept", "_law_known", "_law_due", "_law_chosen", "_law_ranking", "_law_weight", "_law_door"]) (sc := defScope sRight28) (by decide +kernel)) (fun _ _ _ _ _ => (pg_name (i := 8) scRight28.nd rfl (Or.inl rfl))) (fun _ _ _ _ _ => pts_nil) (fun _ _ _ _ _ => (pe_call G__law_answer hr (by rfl) g__law_answer k__law_answer b__law_answer .nil pass0 (pa_cons (pv 8) (pa_cons (pv 0) (pa_cons (pv 1) pa_nil)))))) (pa_cons (pv 4) pa_nil))))) 
        (pss_one (ps_ret pe_bl)) pss_nil) 
      (pss_one (ps_ret (pe_cmpR op_eq (pe_callB (call_reprD hg hr.units) (by rfl) m_repr (by decide +kernel) (pa_cons (pe_tupN (pa_cons (pv 0) (pa_cons (pv 1) pa_nil))) pa_nil)) (pv 2) (nomark _)))))))))), ?_⟩
    have hn := wf.nD
    have hlt : ts.length ≤ 100 := by have := wf.lM; omega
    have hrk : ∀ t ∈ ts, Rank n t.1 := fun t ht => (wf.all t ht).1
    have hl50 : ∀ ds, e = .tuple ds → ds.length ≤ 50 := fun ds h => by subst h; have := tup_len we; omega
    have hl100 : ∀ ds, e = .tuple ds → ds.length ≤ 100 := fun ds h => by have := hl50 ds h; omega
    obtain ⟨wA, zA⟩ := wf_tab wf
    have wB : Wf 17 5 (.tuple [tabD n ts, e]) := Wf.tup (by show 2 ≤ 17; decide) fun y hy => by
      simp only [List.mem_cons, List.not_mem_nil, or_false] at hy
      rcases hy with rfl | rfl
      · exact wA.mono (by decide) (Nat.le_refl _)
      · exact we
    obtain ⟨v1, v2, v3⟩ := wB.shownS (by decide)
    have v4 := shown_fits (S := 1000) v1 (by show 1 + (sz (tabD n ts) + (sz e + 0)) ≤ 1000; omega) (by decide)
    refine ⟨.ref t, rfl, x, rfl, by show 2 ≤ sizeLine; decide, fun p1 H1 _ s1 t1 => ?_⟩
    refine ⟨.ref p1, .tuple [tabD n ts, e], ban, rfl, hsys, ⟨p1, _, rfl, t1, _, _, rfl, (tab.same s1).rp, _, _, rfl, rp.same s1, rfl⟩, v2, by omega, v4, ?_⟩
    obtain ⟨u1, _, g1, _, _⟩ := (tab.same s1).out
    refine ⟨.ref t, rfl, t, _, 0, .int (n : Int), rfl, rfl, .inl g1, atI_nat (j := 0) rfl, x, rfl, x, e, ban, n, rfl, rp.same s1, hl50, fun H2 b s2 hb => ?_⟩
    have s02 := s1.trans s2
    refine ⟨.ref t, rfl, x, rfl, t, n, ts, x, e, ban, rfl, tab.same s02, rp.same s02, hl100, fun H3 b2 s3 hb2 => ?_⟩
    have eb : b2 = b := by rw [Bool.eq_iff_iff, hb, hb2]
    refine ⟨.bl b, rfl, _, _, rfl, alk_bl (m := 7) eb, fun H4 s4 => ⟨_, rfl, iteF ?_⟩⟩
    refine ⟨by show 1 ≤ sizeLine; decide, fun l1 H5 _ _ s5 e5 => ⟨by show 1 ≤ sizeLine; decide, fun l2 H6 _ _ s6 e6 => ⟨by show 2 ≤ sizeLine; decide, fun l3 H7 _ _ s7 e7 => ?_⟩⟩⟩
    have s07 : Same H H7 := s02.trans (s3.trans (s4.trans (s5.trans (s6.trans s7))))
    have fin : ∀ Hz, Same H Hz → ∃ p9 : V, True := fun _ _ => ⟨.non, trivial⟩
    refine ⟨_, rfl, _, rfl, ?_⟩
    cases hbb : b with
    | false =>
      have hno : ¬ IsMenuD n e := fun h => by rw [hb.mpr h] at hbb; cases hbb
      refine iteF ?_
      refine ⟨by show 2 ≤ sizeLine; decide, fun pt H8 _ s8 t8 => ⟨pt, rfl, ⟨_, .inl t8.rd⟩, fun D hD => lc_tup (K := K) (a := pt) (xs := [.int 0, .int 1]) (fun i H9 => Same H8 H9 ∧ ∃ ys, H9 D = some (.lst ys) ∧ ys.length = i ∧ ∀ y ∈ ys, ∃ l, y = .ref l ∧ H9 l = some (.lst [.str "NoMenu"])) ⟨same_upd hD, [], upd_same, rfl, fun y hy => by cases hy⟩ (fun i H2 _ h => .inl (rd_same h.1 t8.rd)) (fun i y H9 hy h => ?_) (fun H9 h => ?_)⟩⟩
      · obtain ⟨s9, ys, eD, hyl, hall⟩ := h
        obtain ⟨k, rfl⟩ : ∃ k : Int, y = .int k := by
          match i, hy with
          | 0, hy => exact ⟨0, (Option.some.inj hy).symm⟩
          | 1, hy => exact ⟨1, (Option.some.inj hy).symm⟩
          | i + 2, hy => simp at hy
        have hi : i < 2 := (List.getElem?_eq_some_iff.mp hy).1
        have s09 := s07.trans (s8.trans s9)
        refine ⟨rfl, _, rfl, .ref t, rfl, x, rfl, k, t, x, n, ts, e, ban, rfl, tab.same s09, hn, hlt, hrk, rp.same s09, hl100, fun ms hd hm => absurd ⟨ms, hd, hm⟩ hno, fun ms hd hm => absurd ⟨ms, hd, hm⟩ hno, fun _ Ha l sa ea => ?_⟩
        have eDa := sa _ _ eD
        have nD : ∀ l, Ha l = some (.lst [.str "NoMenu"]) → l ≠ D := fun l hl z => by
          subst z
          rw [eDa] at hl
          cases ys with
          | nil => cases hl
          | cons y0 yr =>
            obtain ⟨l0, rfl, _⟩ := hall y0 List.mem_cons_self
            cases hl
        refine ⟨ys, eDa, small1000 (by omega), same_upd2 (s9.trans sa) hD, ys ++ [.ref l], upd_same, by rw [List.length_append, hyl]; rfl, fun y hy => ?_⟩
        rcases List.mem_append.mp hy with hy | hy
        · obtain ⟨l0, rfl, h0⟩ := hall y hy
          have h0 := sa _ _ h0
          exact ⟨l0, rfl, by rw [upd_ne (nD l0 h0)]; exact h0⟩
        · obtain rfl : y = .ref l := by simpa using hy
          exact ⟨l, rfl, by rw [upd_ne (nD l ea)]; exact ea⟩
      · obtain ⟨s9, ys, eD, hyl, hall⟩ := h
        obtain ⟨y1, y2, rfl⟩ := two_of hyl
        obtain ⟨m1, rfl, h1⟩ := hall y1 (by simp)
        obtain ⟨m2, rfl, h2⟩ := hall y2 (by simp)
        have s79 := s8.trans s9
        refine ⟨_, rfl, _, _, rfl, alk_two (m := 7) eD (s79 _ _ e7) (alk_one (m := 6) h1 (s79 _ _ (s7 _ _ (s6 _ _ e5))) (.inl ⟨rfl, rfl⟩)) (alk_one (m := 6) h2 (s79 _ _ (s7 _ _ e6)) (.inl ⟨rfl, rfl⟩)), fun Ha sa => ⟨_, rfl, iteF ?_⟩⟩
        have s0a := s07.trans (s79.trans sa)
        refine ⟨.ref t, rfl, x, rfl, by show 2 ≤ sizeLine; decide, fun p9 Hb _ sb tb => ?_⟩
        refine ⟨.ref p9, .tuple [tabD n ts, e], ban, rfl, hsys, ⟨p9, _, rfl, tb, _, _, rfl, (tab.same (s0a.trans sb)).rp, _, _, rfl, rp.same (s0a.trans sb), rfl⟩, v2, by omega, v4, _, rfl, rfl, ?_⟩
        rw [decide_eq_true rfl]
        exact q Hb (s0a.trans sb)
    | true =>
      obtain ⟨ms, rfl, hm⟩ := hb.mp hbb
      have hlm : ms.length ≤ 50 := by have := hl50 _ rfl; rw [List.length_map] at this; exact this
      obtain ⟨a, xs0, rfl, ha', hx0⟩ := id rp
      have ex := hx0.int_vals
      subst ex
      have ha : Tp H a ms := ha'
      refine iteT ?_
      obtain ⟨u, xs, h1, h2, h3⟩ := (tab.same s07).out
      refine ⟨.ref t, rfl, t, _, 1, .ref u, rfl, rfl, .inl h1, atI_nat (j := 1) rfl, u, rfl, ⟨_, .inl h2⟩, fun G hG => lc_tup (K := K) (a := u) (xs := xs) (fun i H8 => Same H7 H8 ∧ H8 G = some (.lst (((ts.take i).map fun t => chs t.1 ms).map V.int))) ⟨same_upd hG, upd_same⟩ (fun i H2 _ h => .inl (rdT_same h2 h.1)) (fun i x H8 hx h => ?_) (fun H8 h => ?_)⟩
      · obtain ⟨s8, e8⟩ := h
        obtain ⟨tt, r, rk, w, rfl, hg, hr1, hr2⟩ := (h3.same s8).get hx
        have hi : i < ts.length := (List.getElem?_eq_some_iff.mp hg).1
        have rrk := hrk _ (List.mem_of_getElem? hg)
        dsimp only at rrk
        refine ⟨tt, _, rfl, .inl hr1, rfl, .ref r, _, rfl, .int w, _, rfl, rfl, rfl, .ref r, rfl, .ref a, rfl, r, a, n, rk, ms, rfl, hr2, ha.same (s07.trans s8), rrk, hn, hm, by omega, _, e8, ?_, same_upd2 s8 hG, ?_⟩
        · rw [List.length_map, List.length_map, List.length_take]
          exact small1000 (by omega)
        · rw [upd_same, List.take_add_one, hg, List.map_append, List.map_append]
          rfl
      · obtain ⟨s8, e8⟩ := h
        rw [h3.len, List.take_length] at e8
        refine ⟨G, _, rfl, sqL e8, fun pc oc hpc hoc => ?_⟩
        have s9 : Same H8 (upd H8 pc (.frz oc (.tup ((ts.map fun t => chs t.1 ms).map V.int)))) := same_upd hpc
        have tc : Tp (upd H8 pc (.frz oc (.tup ((ts.map fun t => chs t.1 ms).map V.int)))) pc (ts.map fun t => chs t.1 ms) := Tp.new hoc
        generalize upd H8 pc (.frz oc (.tup ((ts.map fun t => chs t.1 ms).map V.int))) = H9 at s9 tc
        refine ⟨.ref pc, rfl, by show 2 ≤ sizeLine; decide, fun la Ha _ _ sa ea => ?_⟩
        have s0a : Same H Ha := s07.trans (s8.trans (s9.trans sa))
        refine ⟨.ref t, rfl, .ref a, rfl, t, a, n, ts, ms, rfl, tab.same s0a, hn, hlt, hrk, ha.same s0a, hm, by omega, fun Hb sb => ⟨by show 2 ≤ sizeLine; decide, fun lb Hc _ _ sc ec => ⟨by show 2 ≤ sizeLine; decide, fun lc Hd _ _ sd ed => ?_⟩⟩⟩
        have sad := sb.trans (sc.trans sd)
        have s0d := s0a.trans sad
        have tcd := tc.same (sa.trans sad)
        have ead := sad _ _ ea
        have ecd := sd _ _ ec
        refine ⟨by show 2 ≤ sizeLine; decide, fun pt He _ se te' => ⟨pt, rfl, ⟨_, .inl te'.rd⟩, fun D hD => lc_tup (K := K) (a := pt) (xs := [.int 0, .int 1]) (fun i Hf => Same He Hf ∧ ∃ ys, Hf D = some (.lst ys) ∧ ys.length = i ∧ (∀ y, ys[0]? = some y → ∃ l b, y = .ref l ∧ Hf l = some (.lst [.str "returned", .ref b]) ∧ Tp Hf b (ts.map fun t => chs t.1 ms)) ∧ (∀ y, ys[1]? = some y → ∃ l, y = .ref l ∧ Hf l = some (.lst [.str "returned", .int (cst ts ms)]))) ⟨same_upd hD, [], upd_same, rfl, (fun y hy => by simp at hy), fun y hy => by simp at hy⟩ (fun i H2 _ h => .inl (rd_same h.1 te'.rd)) (fun i y Hf hy h => ?_) (fun Hf h => ?_)⟩⟩
        · obtain ⟨sf, ys, eD, hyl, hy0, hy1⟩ := h
          have s0f := s0d.trans (se.trans sf)
          have hi : i < 2 := (List.getElem?_eq_some_iff.mp hy).1
          match i, hi, hy, hyl with
          | 0, _, hy, hyl =>
            cases hy
            have ey := List.length_eq_zero_iff.mp hyl
            subst ey
            refine ⟨rfl, _, rfl, .ref t, rfl, _, rfl, 0, t, .ref a, n, ts, .tuple (ms.map PyData.int), ban, rfl, tab.same s0f, hn, hlt, hrk, rp.same s0f, hl100, fun ms' hd hm' _ Hg l b sg el tb => ?_, fun ms' hd hm' hk => absurd rfl hk, fun hno => absurd ⟨ms, rfl, hm⟩ hno⟩
            injection hd with hd
            have em := ints_inj hd
            subst em
            have eDg := sg _ _ eD
            have nl : l ≠ D := fun z => by subst z; rw [eDg] at el; cases el
            refine ⟨[], eDg, by show 0 < sizeLine; decide, same_upd2 (sf.trans sg) hD, [.ref l], upd_same, rfl, fun y hy => ?_, fun y hy => by simp at hy⟩
            cases hy
            exact ⟨l, b, rfl, by rw [upd_ne nl]; exact el, tb.updl eDg⟩
          | 1, _, hy, hyl =>
            cases hy
            match ys, hyl with
            | [y0], _ =>
              obtain ⟨l0, b0, rfl, g0, tb0⟩ := hy0 y0 rfl
              refine ⟨rfl, _, rfl, .ref t, rfl, _, rfl, 1, t, .ref a, n, ts, .tuple (ms.map PyData.int), ban, rfl, tab.same s0f, hn, hlt, hrk, rp.same s0f, hl100, fun ms' hd hm' hk => absurd hk (by decide), fun ms' hd hm' _ Hg l sg el => ?_, fun hno => absurd ⟨ms, rfl, hm⟩ hno⟩
              injection hd with hd
              have em := ints_inj hd
              subst em
              have eDg := sg _ _ eD
              have g0 := sg _ _ g0
              have nl : l ≠ D := fun z => by subst z; rw [eDg] at el; cases el
              have nl0 : l0 ≠ D := fun z => by subst z; rw [eDg] at g0; cases g0
              refine ⟨[.ref l0], eDg, by show 1 < sizeLine; decide, same_upd2 (sf.trans sg) hD, [.ref l0, .ref l], upd_same, rfl, fun y hy => ?_, fun y hy => ?_⟩
              · cases hy
                exact ⟨l0, b0, rfl, by rw [upd_ne nl0]; exact g0, (tb0.same sg).updl eDg⟩
              · cases hy
                exact ⟨l, rfl, by rw [upd_ne nl]; exact el⟩
          | i + 2, hi, _, _ => omega
        · obtain ⟨sf, ys, eD, hyl, hy0, hy1⟩ := h
          obtain ⟨y1, y2, rfl⟩ := two_of hyl
          obtain ⟨m1, b1, rfl, g1, tb1⟩ := hy0 y1 rfl
          obtain ⟨m2, rfl, g2⟩ := hy1 y2 rfl
          have sdf := se.trans sf
          refine ⟨_, rfl, _, _, rfl, alk_two (m := 7) eD (sdf _ _ ed) (alk_two (m := 6) g1 (sdf _ _ ead) (.inl ⟨rfl, rfl⟩) (alk_tp (m := 4) tb1 (tcd.same sdf) (by rw [List.length_map]; omega))) (alk_two (m := 6) g2 (sdf _ _ ecd) (.inl ⟨rfl, rfl⟩) (.inl ⟨rfl, rfl⟩)), fun Hg sg => ⟨_, rfl, iteF ?_⟩⟩
          have s0g := s0d.trans (sdf.trans sg)
          refine ⟨.ref t, rfl, _, rfl, by show 2 ≤ sizeLine; decide, fun p9 Hh _ sh th => ?_⟩
          refine ⟨.ref p9, .tuple [tabD n ts, .tuple (ms.map PyData.int)], ban, rfl, hsys, ⟨p9, _, rfl, th, _, _, rfl, (tab.same (s0g.trans sh)).rp, _, _, rfl, rp.same (s0g.trans sh), rfl⟩, v2, by omega, v4, _, rfl, rfl, ?_⟩
          rw [decide_eq_true rfl]
          exact q Hh (s0g.trans sh)
end
end TR
namespace TR
open PySem PySem.Spec PyProof.Rows L2
theorem scLaw : FnScope ["_law_script", "_law_deck_here", "_law_turn", "_law_table_here", "_law_some", "_law_k", "_law_value"] ["_law_script"] (defScope sLaw) := ⟨rfl, rfl, rfl, by decide +kernel, rfl, by decide +kernel, by decide +kernel⟩
section
variable {P : Program} {w : World} {K : PySem.W.Frag} {mg : Str → Option Value} {base : Heap}
theorem ok_Law {f f__law_deck f__law_table f__law_menu_value f__law_odd f__law_right : Addr} {fd d__law_deck d__law_table d__law_menu_value d__law_odd d__law_right : FuncData} (F : Fun K "law" "law" sLaw f fd)
    (k__law_deck : PySem.W.keepIn K (.ref f__law_deck) = true) (b__law_deck : Binds K d__law_deck ["_law_script"] []) (g__law_deck : mg "_law_deck" = some (.ref f__law_deck)) (G__law_deck : FnOk P w K mg base CX0 9 f__law_deck d__law_deck ["_law_script"] (spDeck K))
    (k__law_table : PySem.W.keepIn K (.ref f__law_table) = true) (b__law_table : Binds K d__law_table ["_law_deck_here", "_law_dishes", "_law_many"] []) (g__law_table : mg "_law_table" = some (.ref f__law_table)) (G__law_table : FnOk P w K mg base CX0 9 f__law_table d__law_table ["_law_deck_here", "_law_dishes", "_law_many"] spTable)
    (k__law_menu_value : PySem.W.keepIn K (.ref f__law_menu_value) = true) (b__law_menu_value : Binds K d__law_menu_value ["_law_deck_here", "_law_table_here"] []) (g__law_menu_value : mg "_law_menu_value" = some (.ref f__law_menu_value)) (G__law_menu_value : FnOk P w K mg base CX0 9 f__law_menu_value d__law_menu_value ["_law_deck_here", "_law_table_here"] spMenuVal)
    (k__law_odd : PySem.W.keepIn K (.ref f__law_odd) = true) (b__law_odd : Binds K d__law_odd ["_law_deck_here"] []) (g__law_odd : mg "_law_odd" = some (.ref f__law_odd)) (G__law_odd : FnOk P w K mg base CX0 9 f__law_odd d__law_odd ["_law_deck_here"] spOdd)
    (k__law_right : PySem.W.keepIn K (.ref f__law_right) = true) (b__law_right : Binds K d__law_right ["_law_table_here", "_law_value"] []) (g__law_right : mg "_law_right" = some (.ref f__law_right)) (G__law_right : RunG P w K mg base 9 f__law_right d__law_right ["_law_table_here", "_law_value"] spRight28)
    (m_range : mg "range" = none) (m_tuple : mg "tuple" = none) : RunG P w K mg base 10 f fd ["_law_script"] (spLaw K) := by
  refine okG F scLaw (fun vs H Q E h => ?_) (fun cdv A outer s H vs Q E hg hr h => ?_)
  · obtain ⟨a, ns, rfl, _⟩ := h
    rfl
  · obtain ⟨a, ns, rfl, hS, hlen, qq⟩ := h
    refine ⟨_, 
      (pss_cons (ps_set (i := 1) scLaw.nd rfl (.inr rfl) (pe_call G__law_deck hr (by rfl) g__law_deck k__law_deck b__law_deck .nil pass0 (pa_cons (pv 0) pa_nil))) 
      (pss_cons (ps_for PassesOwn.never rfl (pi_range1 (by rfl) m_range (pa_cons pe_int pa_nil)) (pg_name (i := 2) scLaw.nd rfl (.inl rfl)) 
        (pss_cons (ps_set (i := 3) scLaw.nd rfl (.inr rfl) (pe_call G__law_table hr (by rfl) g__law_table k__law_table b__law_table .nil pass0 (pa_cons (pv 1) (pa_cons pe_int (pa_cons pe_int pa_nil))))) 
        (pss_cons (ps_set (i := 4) scLaw.nd rfl (.inl rfl) (pe_op op_catN (pe_lc (own := [("_law_k", 5)]) (g := gName 5) (tt := tYes) (by rfl) scLaw.nd (pi_range1 (by rfl) m_range (pa_cons pe_int pa_nil)) (blkOk_by (own := [("_law_k", 5)]) (N := ["_law_script", "_law_deck_here", "_law_turn", "_law_table_here", "_law_some", "_law_k", "_law_value"]) (sc := defScope sLaw) (by decide +kernel)) (fun _ _ _ _ _ => (pg_name (i := 5) scLaw.nd rfl (Or.inl rfl))) (fun _ _ _ _ _ => pts_nil) (fun _ _ _ _ _ => (pe_call G__law_menu_value hr (by rfl) g__law_menu_value k__law_menu_value b__law_menu_value .nil pass0 (pa_cons (pv 1) (pa_cons (pv 3) pa_nil))))) (pe_lstN (pa_cons (pe_call G__law_odd hr (by rfl) g__law_odd k__law_odd b__law_odd .nil pass0 (pa_cons (pv 1) pa_nil)) (pa_cons (pe_tupRgN (by rfl) (by rfl) m_tuple (prg_1 (by rfl) m_range (pe_ix (r := rIxT K) ix_tup (pv 3) pe_int (fun _ _ => rfl)))) pa_nil))))) 
        (pss_one (ps_if (pt_cmpR (op_neL0 hr.units0) (pe_lc (own := [("_law_value", 6)]) (g := gName 6)  (by rfl) scLaw.nd (pi_list (pv 4)) (blkOk_by (own := [("_law_value", 6)]) (N := ["_law_script", "_law_deck_here", "_law_turn", "_law_table_here", "_law_some", "_law_k", "_law_value"]) (sc := defScope sLaw) (by decide +kernel)) (fun _ _ _ _ _ => (pg_name (i := 6) scLaw.nd rfl (Or.inl rfl))) (fun _ _ _ _ _ => (pts_one (pt_not (pt_val (pe_callG G__law_right len_right28 hg hr (by rfl) g__law_right k__law_right b__law_right (pa_cons (pv 3) (pa_cons (pv 6) pa_nil))))))) (fun _ _ _ _ _ => (pv 6))) (pe_lstN pa_nil) (nomark _)) 
          (pss_one (ps_ret pe_bl)) pss_nil))))) 
      (pss_one (ps_ret pe_bl)))), ?_⟩
    refine ⟨.ref a, rfl, a, ns, rfl, hS, hlen, fun H1 d p q s1 D1 => ?_⟩
    refine ⟨4, rfl, by decide, by decide, for_range (n := 4) (lo := 0) (fun i σ H2 => (∃ y2 y3 y4 y5 y6, σ = [some (.ref a), some (.ref d), y2, y3, y4, y5, y6]) ∧ Deck H2 d p q (700 * i)) ⟨⟨none, none, none, none, none, rfl⟩, D1⟩ (fun i σ H2 hi h => ?_) (fun σ H2 h => qq H2)⟩
    obtain ⟨⟨y2, y3, y4, y5, y6, rfl⟩, D2⟩ := h
    refine ⟨.ref d, rfl, d, p, q, 700 * i, 8, 16, rfl, D2, by omega, by decide, by decide, by decide, by decide, fun H3 t n ts tab wf D3 k3 => ?_⟩
    have hn1 := wf.n1
    have hn := wf.nD
    refine ⟨8, rfl, by decide, by decide, fun L hL => walk_in (n := 8) (lo := 0) (fun j H4 => Deck H4 d p q (700 * i + 250 + 50 * j) ∧ Keep d p H3 H4 ∧ ∃ ds vs, H4 L = some (.lst vs) ∧ RpAll H4 (d :: p :: sysModules :: [L]) ds vs ∧ ds.length = j ∧ ∀ e ∈ ds, Wf 17 4 e ∧ sz e ≤ 100) ⟨D3.same (same_upd hL), Same.keep (same_upd hL), [], [], upd_same, rfl, rfl, fun e he => by cases he⟩ (fun j H4 hj h => ?_) (fun H4 h => ?_)⟩
    · obtain ⟨D4, k4, ds, vs, eL, hR, hdl, hW⟩ := h
      have nLd : L ≠ d := D3.ned hL
      have nLp : L ≠ p := D3.nep hL
      have nLq : L ≠ q := D3.neq hL
      have al4 : Alive [L] H4 := fun b hb => by rw [List.mem_singleton.mp hb, eL]; exact ⟨_, rfl⟩
      refine ⟨rfl, .ref d, rfl, .ref t, rfl, d, p, q, t, 700 * i + 250 + 50 * j, n, ts, [L], rfl, D4, by omega, al4, tab.keep D3 k4, hn1, hn, fun H5 x e D5 k5 rpx wx zx => ?_⟩
      have eL5 := k5 _ _ eL nLd nLp
      have hR5 := RpAll.keep hR D4 k5 (by simp) (by simp)
      have hvl := hR.len
      refine ⟨vs, eL5, small1000 (by omega), (D5.upd nLd nLp nLq).mono (by omega), keep_fresh (k4.trans k5) hL, ds ++ [e], vs ++ [x], upd_same, ?_, by rw [List.length_append, hdl]; rfl, fun e' he' => ?_⟩
      · refine RpAll.mv (H := H5) (fun a xs hn e => ?_) (fun a xs e => e.updl eL5) (fun a e => ?_) _ _ (RpAll.app (es := [e]) (ys := [x]) hR5 ⟨x, [], rfl, rpx, rfl⟩)
        · rw [upd_ne (fun z => hn (by rw [z]; simp))]
          exact e
        · rw [upd_ne (ne_of e eL5 (by intro z; cases z))]
          exact e
      · rcases List.mem_append.mp he' with h | h
        · exact hW e' h
        · rw [List.mem_singleton] at h
          subst h
          exact ⟨wx, zx⟩
    · obtain ⟨D4, k4, ds, vs, eL, hR, hdl, hW⟩ := h
      have nLd : L ≠ d := D3.ned hL
      have nLp : L ≠ p := D3.nep hL
      have al4 : Alive [L] H4 := fun b hb => by rw [List.mem_singleton.mp hb, eL]; exact ⟨_, rfl⟩
      refine ⟨.ref d, rfl, d, p, q, 700 * i + 250 + 50 * 8, [L], rfl, D4, by omega, al4, fun H5 xo od D5 k5 rpo wfo => ?_⟩
      have eL5 := k5 _ _ eL nLd nLp
      have tab5 := (tab.keep D3 k4).keep D4 k5
      have hR5 := RpAll.keep hR D4 k5 (by simp) (by simp)
      have hvl := hR.len
      obtain ⟨u5, _, g5, _, _⟩ := tab5.out
      refine ⟨.ref t, rfl, t, _, 0, .int (n : Int), rfl, rfl, .inl g5, atI_nat (j := 0) rfl, n, rfl, RgOk.of_le (by omega) (by omega) (by omega) (by omega), fun pr H6 hpr s6 t6 => ?_⟩
      rw [rgV_rng] at t6
      refine ⟨by show 2 ≤ sizeLine; decide, fun L2 H7 _ _ s7 e7 => ?_⟩
      refine ⟨L, L2, _, _, rfl, rfl, (s6.trans s7) _ _ eL5, e7, ?_, fun L3 H8 hL3 s8 e8 => ?_⟩
      · show vs.length + 2 ≤ sizeLine
        exact Nat.le_of_lt (small1000 (by omega))
      have s58 := s6.trans (s7.trans s8)
      have hR8 : RpAll H8 (d :: p :: sysModules :: [L]) (ds ++ [od, .tuple ((rng n).map PyData.int)]) (vs ++ [xo, .ref pr]) :=
        RpAll.app (es := [od, .tuple ((rng n).map PyData.int)]) (ys := [xo, .ref pr]) (hR5.same s58) ⟨xo, _, rfl, rpo.same s58, .ref pr, [], rfl, ⟨pr, _, rfl, t6.same (s7.trans s8), RpAll.ints _⟩, rfl⟩
      have hW8 : ∀ e ∈ ds ++ [od, .tuple ((rng n).map PyData.int)], Wf 17 4 e ∧ sz e ≤ 100 := fun e he => by
        rcases List.mem_append.mp he with h | h
        · exact hW e h
        · simp only [List.mem_cons, List.not_mem_nil, or_false] at h
          rcases h with rfl | rfl
          · exact ⟨wfo.mono (by decide) (by decide), Nat.le_trans wfo.sz (by decide)⟩
          · refine ⟨(wf_ints (by rw [rng_len]; omega) fun x hx => ?_).1.mono (Nat.le_refl _) (by decide), ?_⟩
            · have := mem_rng.mp hx
              omega
            · show 1 + szAll ((rng n).map PyData.int) ≤ 100
              rw [szAll_ints, rng_len]
              omega
      have tab8 := tab5.same s58
      generalize ds ++ [od, .tuple ((rng n).map PyData.int)] = es at hR8 hW8
      generalize vs ++ [xo, .ref pr] = ws at hR8 e8
      refine ⟨.ref L3, rfl, L3, rfl, ⟨_, sqL e8⟩, fun G hG => lc_list (K := K) (a := L3) (xs := ws) (fun i Hx => Same H8 Hx ∧ Hx G = some (.lst [])) ⟨same_upd hG, upd_same⟩ (fun i H2 _ h => h.1.seq (sqL e8)) (fun k y Hx hy h => ?_) (fun Hx h => ?_)⟩
      · obtain ⟨sx, eG⟩ := h
        obtain ⟨e, he, hre⟩ := hR8.get hy
        obtain ⟨we, ze⟩ := hW8 e (List.mem_of_getElem? he)
        exact ⟨rfl, .ref t, rfl, y, rfl, t, y, n, ts, e, _, rfl, tab8.same sx, wf, hre.same sx, by simp, we, ze, fun Hy sy => ⟨_, rfl, iteF ⟨sx.trans sy, sy _ _ eG⟩⟩⟩
      · obtain ⟨sx, eG⟩ := h
        refine ⟨by show 0 ≤ sizeLine; decide, fun z Hz _ _ sz' ez => ⟨G, z, [], rfl, rfl, sqL (sz' _ _ eG), sqL ez, _, rfl, iteF ?_⟩⟩
        exact ⟨⟨_, _, _, _, _, rfl⟩, (D5.same (s58.trans (sx.trans sz'))).mono (by omega)⟩
end
end TR
namespace TR
open PySem PySem.Spec PyProof.Rows L2
set_option maxHeartbeats 0 in
theorem all_mk {l : PySem.W.OpenLaw} {w : World} {K : PySem.W.Frag} {h : Heap} {mg : Str → Option Value} {fa f0 f1 f2 f3 f4 f5 f6 f7 f8 f9 f10 f11 f12 f13 f14 f15 f16 f17 f18 f19 f20 f21 f22 f23 f24 f25 f26 f27 f28 f29 f30 : Addr} (X : K.In h) (G : h.Ns mainGlobals mg) (hfa : mg "law" = some (.ref fa))
    {od0 an0 od1 an1 od2 an2 od3 an3 od4 an4 od5 an5 od6 an6 od7 an7 od8 an8 od9 an9 od10 an10 od11 an11 od12 an12 od13 an13 od14 an14 od15 an15 od16 an16 od17 an17 od18 an18 od19 an19 od20 an20 od21 an21 od22 an22 od23 an23 od24 an24 od25 an25 od26 an26 od27 an27 od28 an28 od29 an29 od30 an30 : Option Addr} {sl0 sl1 sl2 sl3 sl4 sl5 sl6 sl7 sl8 sl9 sl10 sl11 sl12 sl13 sl14 sl15 sl16 sl17 sl18 sl19 sl20 sl21 sl22 sl23 sl24 sl25 sl26 sl27 sl28 sl29 sl30 : Array (Option Value)} {oc0 kV0 dc0 pm0 cd0 ct0 oc1 kV1 dc1 pm1 cd1 ct1 oc2 kV2 dc2 pm2 cd2 ct2 oc3 kV3 dc3 pm3 cd3 ct3 oc4 kV4 dc4 pm4 cd4 ct4 oc5 kV5 dc5 pm5 cd5 ct5 oc6 kV6 dc6 pm6 cd6 ct6 oc7 kV7 dc7 pm7 cd7 ct7 oc8 kV8 dc8 pm8 cd8 ct8 oc9 kV9 dc9 pm9 cd9 ct9 oc10 kV10 dc10 pm10 cd10 ct10 oc11 kV11 dc11 pm11 cd11 ct11 oc12 kV12 dc12 pm12 cd12 ct12 oc13 kV13 dc13 pm13 cd13 ct13 oc14 kV14 dc14 pm14 cd14 ct14 oc15 kV15 dc15 pm15 cd15 ct15 oc16 kV16 dc16 pm16 cd16 ct16 oc17 kV17 dc17 pm17 cd17 ct17 oc18 kV18 dc18 pm18 cd18 ct18 oc19 kV19 dc19 pm19 cd19 ct19 oc20 kV20 dc20 pm20 cd20 ct20 oc21 kV21 dc21 pm21 cd21 ct21 oc22 kV22 dc22 pm22 cd22 ct22 oc23 kV23 dc23 pm23 cd23 ct23 oc24 kV24 dc24 pm24 cd24 ct24 oc25 kV25 dc25 pm25 cd25 ct25 oc26 kV26 dc26 pm26 cd26 ct26 oc27 kV27 dc27 pm27 cd27 ct27 oc28 kV28 dc28 pm28 cd28 ct28 oc29 kV29 dc29 pm29 cd29 ct29 oc30 kV30 dc30 pm30 cd30 ct30 : Value}
    (a0 : PySem.W.nsIn K mainGlobals "is_whole" = some (some (.ref f0))) (l0 : K.lookup f0 = some ⟨oc0, od0, .func (PySem.W.fnOf "is_whole" "is_whole" (defArgs sWhole) (defBody sWhole) (defScope sWhole) .none kV0 dc0 pm0 an0 cd0 ct0), sl0⟩) (c0 : PySem.W.codeIn K cd0 "is_whole" = true) (k0 : PySem.W.keepIn K (.ref f0) = true)
    (a1 : PySem.W.nsIn K mainGlobals "is_within" = some (some (.ref f1))) (l1 : K.lookup f1 = some ⟨oc1, od1, .func (PySem.W.fnOf "is_within" "is_within" (defArgs sWithin) (defBody sWithin) (defScope sWithin) .none kV1 dc1 pm1 an1 cd1 ct1), sl1⟩) (c1 : PySem.W.codeIn K cd1 "is_within" = true) (k1 : PySem.W.keepIn K (.ref f1) = true)
    (a2 : PySem.W.nsIn K mainGlobals "is_ascending" = some (some (.ref f2))) (l2 : K.lookup f2 = some ⟨oc2, od2, .func (PySem.W.fnOf "is_ascending" "is_ascending" (defArgs sAsc) (defBody sAsc) (defScope sAsc) .none kV2 dc2 pm2 an2 cd2 ct2), sl2⟩) (c2 : PySem.W.codeIn K cd2 "is_ascending" = true) (k2 : PySem.W.keepIn K (.ref f2) = true)
    (a3 : PySem.W.nsIn K mainGlobals "is_menu_of" = some (some (.ref f3))) (l3 : K.lookup f3 = some ⟨oc3, od3, .func (PySem.W.fnOf "is_menu_of" "is_menu_of" (defArgs sMenuOf) (defBody sMenuOf) (defScope sMenuOf) .none kV3 dc3 pm3 an3 cd3 ct3), sl3⟩) (c3 : PySem.W.codeIn K cd3 "is_menu_of" = true) (k3 : PySem.W.keepIn K (.ref f3) = true)
    (a4 : PySem.W.nsIn K mainGlobals "is_menu" = some (some (.ref f4))) (l4 : K.lookup f4 = some ⟨oc4, od4, .func (PySem.W.fnOf "is_menu" "is_menu" (defArgs sIsMenu) (defBody sIsMenu) (defScope sIsMenu) .none kV4 dc4 pm4 an4 cd4 ct4), sl4⟩) (c4 : PySem.W.codeIn K cd4 "is_menu" = true) (k4 : PySem.W.keepIn K (.ref f4) = true)
    (a5 : PySem.W.nsIn K mainGlobals "chosen_position" = some (some (.ref f5))) (l5 : K.lookup f5 = some ⟨oc5, od5, .func (PySem.W.fnOf "chosen_position" "chosen_position" (defArgs sChosen) (defBody sChosen) (defScope sChosen) .none kV5 dc5 pm5 an5 cd5 ct5), sl5⟩) (c5 : PySem.W.codeIn K cd5 "chosen_position" = true) (k5 : PySem.W.keepIn K (.ref f5) = true)
    (a6 : PySem.W.nsIn K mainGlobals "choices" = some (some (.ref f6))) (l6 : K.lookup f6 = some ⟨oc6, od6, .func (PySem.W.fnOf "choices" "choices" (defArgs sChoices) (defBody sChoices) (defScope sChoices) .none kV6 dc6 pm6 an6 cd6 ct6), sl6⟩) (c6 : PySem.W.codeIn K cd6 "choices" = true) (k6 : PySem.W.keepIn K (.ref f6) = true)
    (a7 : PySem.W.nsIn K mainGlobals "cost" = some (some (.ref f7))) (l7 : K.lookup f7 = some ⟨oc7, od7, .func (PySem.W.fnOf "cost" "cost" (defArgs sCost28) (defBody sCost28) (defScope sCost28) .none kV7 dc7 pm7 an7 cd7 ct7), sl7⟩) (c7 : PySem.W.codeIn K cd7 "cost" = true) (k7 : PySem.W.keepIn K (.ref f7) = true)
    (a8 : PySem.W.nsIn K mainGlobals "_law_deck" = some (some (.ref f8))) (l8 : K.lookup f8 = some ⟨oc8, od8, .func (PySem.W.fnOf "_law_deck" "_law_deck" (defArgs sDeck) (defBody sDeck) (defScope sDeck) .none kV8 dc8 pm8 an8 cd8 ct8), sl8⟩) (c8 : PySem.W.codeIn K cd8 "_law_deck" = true) (k8 : PySem.W.keepIn K (.ref f8) = true)
    (a9 : PySem.W.nsIn K mainGlobals "_law_next" = some (some (.ref f9))) (l9 : K.lookup f9 = some ⟨oc9, od9, .func (PySem.W.fnOf "_law_next" "_law_next" (defArgs sNext) (defBody sNext) (defScope sNext) .none kV9 dc9 pm9 an9 cd9 ct9), sl9⟩) (c9 : PySem.W.codeIn K cd9 "_law_next" = true) (k9 : PySem.W.keepIn K (.ref f9) = true)
    (a10 : PySem.W.nsIn K mainGlobals "_law_one" = some (some (.ref f10))) (l10 : K.lookup f10 = some ⟨oc10, od10, .func (PySem.W.fnOf "_law_one" "_law_one" (defArgs sOne) (defBody sOne) (defScope sOne) .none kV10 dc10 pm10 an10 cd10 ct10), sl10⟩) (c10 : PySem.W.codeIn K cd10 "_law_one" = true) (k10 : PySem.W.keepIn K (.ref f10) = true)
    (a11 : PySem.W.nsIn K mainGlobals "_law_whole" = some (some (.ref f11))) (l11 : K.lookup f11 = some ⟨oc11, od11, .func (PySem.W.fnOf "_law_whole" "_law_whole" (defArgs sLWhole) (defBody sLWhole) (defScope sLWhole) .none kV11 dc11 pm11 an11 cd11 ct11), sl11⟩) (c11 : PySem.W.codeIn K cd11 "_law_whole" = true) (k11 : PySem.W.keepIn K (.ref f11) = true)
    (a12 : PySem.W.nsIn K mainGlobals "_law_same" = some (some (.ref f12))) (l12 : K.lookup f12 = some ⟨oc12, od12, .func (PySem.W.fnOf "_law_same" "_law_same" (defArgs sSame) (defBody sSame) (defScope sSame) .none kV12 dc12 pm12 an12 cd12 ct12), sl12⟩) (c12 : PySem.W.codeIn K cd12 "_law_same" = true) (k12 : PySem.W.keepIn K (.ref f12) = true)
    (a13 : PySem.W.nsIn K mainGlobals "_law_odd" = some (some (.ref f13))) (l13 : K.lookup f13 = some ⟨oc13, od13, .func (PySem.W.fnOf "_law_odd" "_law_odd" (defArgs sOdd) (defBody sOdd) (defScope sOdd) .none kV13 dc13 pm13 an13 cd13 ct13), sl13⟩) (c13 : PySem.W.codeIn K cd13 "_law_odd" = true) (k13 : PySem.W.keepIn K (.ref f13) = true)
    (a14 : PySem.W.nsIn K mainGlobals "_law_bent" = some (some (.ref f14))) (l14 : K.lookup f14 = some ⟨oc14, od14, .func (PySem.W.fnOf "_law_bent" "_law_bent" (defArgs sBent) (defBody sBent) (defScope sBent) .none kV14 dc14 pm14 an14 cd14 ct14), sl14⟩) (c14 : PySem.W.codeIn K cd14 "_law_bent" = true) (k14 : PySem.W.keepIn K (.ref f14) = true)
    (a15 : PySem.W.nsIn K mainGlobals "_law_people" = some (some (.ref f15))) (l15 : K.lookup f15 = some ⟨oc15, od15, .func (PySem.W.fnOf "_law_people" "_law_people" (defArgs sPeople) (defBody sPeople) (defScope sPeople) .none kV15 dc15 pm15 an15 cd15 ct15), sl15⟩) (c15 : PySem.W.codeIn K cd15 "_law_people" = true) (k15 : PySem.W.keepIn K (.ref f15) = true)
    (a16 : PySem.W.nsIn K mainGlobals "_law_list" = some (some (.ref f16))) (l16 : K.lookup f16 = some ⟨oc16, od16, .func (PySem.W.fnOf "_law_list" "_law_list" (defArgs sList) (defBody sList) (defScope sList) .none kV16 dc16 pm16 an16 cd16 ct16), sl16⟩) (c16 : PySem.W.codeIn K cd16 "_law_list" = true) (k16 : PySem.W.keepIn K (.ref f16) = true)
    (a17 : PySem.W.nsIn K mainGlobals "_law_exchanged" = some (some (.ref f17))) (l17 : K.lookup f17 = some ⟨oc17, od17, .func (PySem.W.fnOf "_law_exchanged" "_law_exchanged" (defArgs sExch) (defBody sExch) (defScope sExch) .none kV17 dc17 pm17 an17 cd17 ct17), sl17⟩) (c17 : PySem.W.codeIn K cd17 "_law_exchanged" = true) (k17 : PySem.W.keepIn K (.ref f17) = true)
    (a18 : PySem.W.nsIn K mainGlobals "_law_road" = some (some (.ref f18))) (l18 : K.lookup f18 = some ⟨oc18, od18, .func (PySem.W.fnOf "_law_road" "_law_road" (defArgs sRoad) (defBody sRoad) (defScope sRoad) .none kV18 dc18 pm18 an18 cd18 ct18), sl18⟩) (c18 : PySem.W.codeIn K cd18 "_law_road" = true) (k18 : PySem.W.keepIn K (.ref f18) = true)
    (a19 : PySem.W.nsIn K mainGlobals "_law_seated" = some (some (.ref f19))) (l19 : K.lookup f19 = some ⟨oc19, od19, .func (PySem.W.fnOf "_law_seated" "_law_seated" (defArgs sSeated) (defBody sSeated) (defScope sSeated) .none kV19 dc19 pm19 an19 cd19 ct19), sl19⟩) (c19 : PySem.W.codeIn K cd19 "_law_seated" = true) (k19 : PySem.W.keepIn K (.ref f19) = true)
    (a20 : PySem.W.nsIn K mainGlobals "_law_any" = some (some (.ref f20))) (l20 : K.lookup f20 = some ⟨oc20, od20, .func (PySem.W.fnOf "_law_any" "_law_any" (defArgs sAny) (defBody sAny) (defScope sAny) .none kV20 dc20 pm20 an20 cd20 ct20), sl20⟩) (c20 : PySem.W.codeIn K cd20 "_law_any" = true) (k20 : PySem.W.keepIn K (.ref f20) = true)
    (a21 : PySem.W.nsIn K mainGlobals "_law_table" = some (some (.ref f21))) (l21 : K.lookup f21 = some ⟨oc21, od21, .func (PySem.W.fnOf "_law_table" "_law_table" (defArgs sTable) (defBody sTable) (defScope sTable) .none kV21 dc21 pm21 an21 cd21 ct21), sl21⟩) (c21 : PySem.W.codeIn K cd21 "_law_table" = true) (k21 : PySem.W.keepIn K (.ref f21) = true)
    (a22 : PySem.W.nsIn K mainGlobals "_law_menu" = some (some (.ref f22))) (l22 : K.lookup f22 = some ⟨oc22, od22, .func (PySem.W.fnOf "_law_menu" "_law_menu" (defArgs sMenu) (defBody sMenu) (defScope sMenu) .none kV22 dc22 pm22 an22 cd22 ct22), sl22⟩) (c22 : PySem.W.codeIn K cd22 "_law_menu" = true) (k22 : PySem.W.keepIn K (.ref f22) = true)
    (a23 : PySem.W.nsIn K mainGlobals "_law_is_menu" = some (some (.ref f23))) (l23 : K.lookup f23 = some ⟨oc23, od23, .func (PySem.W.fnOf "_law_is_menu" "_law_is_menu" (defArgs sLIsMenu) (defBody sLIsMenu) (defScope sLIsMenu) .none kV23 dc23 pm23 an23 cd23 ct23), sl23⟩) (c23 : PySem.W.codeIn K cd23 "_law_is_menu" = true) (k23 : PySem.W.keepIn K (.ref f23) = true)
    (a24 : PySem.W.nsIn K mainGlobals "_law_raised" = some (some (.ref f24))) (l24 : K.lookup f24 = some ⟨oc24, od24, .func (PySem.W.fnOf "_law_raised" "_law_raised" (defArgs sRaised) (defBody sRaised) (defScope sRaised) .none kV24 dc24 pm24 an24 cd24 ct24), sl24⟩) (c24 : PySem.W.codeIn K cd24 "_law_raised" = true) (k24 : PySem.W.keepIn K (.ref f24) = true)
    (a25 : PySem.W.nsIn K mainGlobals "_law_best" = some (some (.ref f25))) (l25 : K.lookup f25 = some ⟨oc25, od25, .func (PySem.W.fnOf "_law_best" "_law_best" (defArgs sLBest) (defBody sLBest) (defScope sLBest) .none kV25 dc25 pm25 an25 cd25 ct25), sl25⟩) (c25 : PySem.W.codeIn K cd25 "_law_best" = true) (k25 : PySem.W.keepIn K (.ref f25) = true)
    (a26 : PySem.W.nsIn K mainGlobals "_law_menu_value" = some (some (.ref f26))) (l26 : K.lookup f26 = some ⟨oc26, od26, .func (PySem.W.fnOf "_law_menu_value" "_law_menu_value" (defArgs sMenuVal) (defBody sMenuVal) (defScope sMenuVal) .none kV26 dc26 pm26 an26 cd26 ct26), sl26⟩) (c26 : PySem.W.codeIn K cd26 "_law_menu_value" = true) (k26 : PySem.W.keepIn K (.ref f26) = true)
    (a27 : PySem.W.nsIn K mainGlobals "_law_cost" = some (some (.ref f27))) (l27 : K.lookup f27 = some ⟨oc27, od27, .func (PySem.W.fnOf "_law_cost" "_law_cost" (defArgs sLCost) (defBody sLCost) (defScope sLCost) .none kV27 dc27 pm27 an27 cd27 ct27), sl27⟩) (c27 : PySem.W.codeIn K cd27 "_law_cost" = true) (k27 : PySem.W.keepIn K (.ref f27) = true)
    (a28 : PySem.W.nsIn K mainGlobals "_law_answer" = some (some (.ref f28))) (l28 : K.lookup f28 = some ⟨oc28, od28, .func (PySem.W.fnOf "_law_answer" "_law_answer" (defArgs sAnswer28) (defBody sAnswer28) (defScope sAnswer28) .none kV28 dc28 pm28 an28 cd28 ct28), sl28⟩) (c28 : PySem.W.codeIn K cd28 "_law_answer" = true) (k28 : PySem.W.keepIn K (.ref f28) = true)
    (a29 : PySem.W.nsIn K mainGlobals "_law_right" = some (some (.ref f29))) (l29 : K.lookup f29 = some ⟨oc29, od29, .func (PySem.W.fnOf "_law_right" "_law_right" (defArgs sRight28) (defBody sRight28) (defScope sRight28) .none kV29 dc29 pm29 an29 cd29 ct29), sl29⟩) (c29 : PySem.W.codeIn K cd29 "_law_right" = true) (k29 : PySem.W.keepIn K (.ref f29) = true)
    (a30 : PySem.W.nsIn K mainGlobals "law" = some (some (.ref f30))) (l30 : K.lookup f30 = some ⟨oc30, od30, .func (PySem.W.fnOf "law" "law" (defArgs sLaw) (defBody sLaw) (defScope sLaw) .none kV30 dc30 pm30 an30 cd30 ct30), sl30⟩) (c30 : PySem.W.codeIn K cd30 "law" = true) (k30 : PySem.W.keepIn K (.ref f30) = true)
    {c_TasteError c_NoMenu c_NotSeatable c_NoSeating c_NoCuts c_NoSize c_NoDish c_NoRanking c_NoTaster c_NoSpan c_NoPlaces  : Addr}
    (eB : PySem.W.nsIn K mainGlobals "TasteError" = some (some (.ref c_TasteError)))
    (eBs : PySem.W.subIn K (.ref c_TasteError) (.type "BaseException") = some true)
    (eBd : PySem.W.hasDictIn K c_TasteError = true)
    (eBt : PySem.W.typeIn K (.ref c_TasteError) = some (.type "type"))
    (ehn : PySem.W.specialIn K (.builtin "object.__class__") "__get__" = some (some (.builtin "getset_descriptor.__get__")))
    (eht : PySem.W.takesIn K (.builtin "object.__class__") = some true)
    (n_NoMenu : PySem.W.nsIn K mainGlobals "NoMenu" = some (some (.ref c_NoMenu)))
    (n_NotSeatable : PySem.W.nsIn K mainGlobals "NotSeatable" = some (some (.ref c_NotSeatable)))
    (n_NoSeating : PySem.W.nsIn K mainGlobals "NoSeating" = some (some (.ref c_NoSeating)))
    (n_NoCuts : PySem.W.nsIn K mainGlobals "NoCuts" = some (some (.ref c_NoCuts)))
    (n_NoSize : PySem.W.nsIn K mainGlobals "NoSize" = some (some (.ref c_NoSize)))
    (n_NoDish : PySem.W.nsIn K mainGlobals "NoDish" = some (some (.ref c_NoDish)))
    (n_NoRanking : PySem.W.nsIn K mainGlobals "NoRanking" = some (some (.ref c_NoRanking)))
    (n_NoTaster : PySem.W.nsIn K mainGlobals "NoTaster" = some (some (.ref c_NoTaster)))
    (n_NoSpan : PySem.W.nsIn K mainGlobals "NoSpan" = some (some (.ref c_NoSpan)))
    (n_NoPlaces : PySem.W.nsIn K mainGlobals "NoPlaces" = some (some (.ref c_NoPlaces)))
    (ga_NoMenu : PySem.W.findIn K (.ref c_NoMenu) "__getattribute__" = some (some (.builtin "BaseException.__getattribute__")))
    (gg_NoMenu : PySem.W.findIn K (.ref c_NoMenu) "__getattr__" = some none)
    (ex_NoMenu : PySem.W.subIn K (.ref c_NoMenu) (.type "BaseException") = some true)
    (hd_NoMenu : PySem.W.hasDictIn K c_NoMenu = true)
    (ha_NoMenu : PySem.W.findIn K (.ref c_NoMenu) "__class__" = some (some (.builtin "object.__class__")))
    (hm_NoMenu : PySem.W.mroIn K c_NoMenu (.type "object") = some true)
    (kp_NoMenu : PySem.W.keepIn K (.ref c_NoMenu) = true)
    (ty_NoMenu : PySem.W.typeIn K (.ref c_NoMenu) = some (.type "type"))
    (sb_NoMenu : PySem.W.subIn K (.ref c_NoMenu) (.ref c_TasteError) = some true)
    (xq_NoMenu : PySem.W.excIn K c_NoMenu [.type "ValueError", .type "Exception", .type "BaseException", .type "object"] "ValueError.__new__" = true)
    (kt_0_0 : PySem.W.kitOne K (.ref c_NoMenu) (.ref c_NoMenu) = some true)
    (kt_0_1 : PySem.W.kitOne K (.ref c_NoMenu) (.ref c_NotSeatable) = some false)
    (kt_0_2 : PySem.W.kitOne K (.ref c_NoMenu) (.ref c_NoSeating) = some false)
    (kt_0_3 : PySem.W.kitOne K (.ref c_NoMenu) (.ref c_NoCuts) = some false)
    (kt_0_4 : PySem.W.kitOne K (.ref c_NoMenu) (.ref c_NoSize) = some false)
    (kt_0_5 : PySem.W.kitOne K (.ref c_NoMenu) (.ref c_NoDish) = some false)
    (kt_0_6 : PySem.W.kitOne K (.ref c_NoMenu) (.ref c_NoRanking) = some false)
    (kt_0_7 : PySem.W.kitOne K (.ref c_NoMenu) (.ref c_NoTaster) = some false)
    (kt_0_8 : PySem.W.kitOne K (.ref c_NoMenu) (.ref c_NoSpan) = some false)
    (kt_0_9 : PySem.W.kitOne K (.ref c_NoMenu) (.ref c_NoPlaces) = some false)
    (kv_0 : PySem.W.kitOne K (.ref c_NoMenu) (.type "ValueError") = some true)
    (z0 : PySem.W.nsIn K mainGlobals "abs" = some none) (z1 : PySem.W.nsIn K mainGlobals "len" = some none) (z2 : PySem.W.nsIn K mainGlobals "range" = some none) (z3 : PySem.W.nsIn K mainGlobals "list" = some none) (z4 : PySem.W.nsIn K mainGlobals "tuple" = some none) (z5 : PySem.W.nsIn K mainGlobals "int" = some none) (z6 : PySem.W.nsIn K mainGlobals "isinstance" = some none) (z7 : PySem.W.nsIn K mainGlobals "dict" = some none) (z8 : PySem.W.nsIn K mainGlobals "str" = some none) (z9 : PySem.W.nsIn K mainGlobals "bool" = some none) (z10 : PySem.W.nsIn K mainGlobals "all" = some none) (z11 : PySem.W.nsIn K mainGlobals "sorted" = some none) (z12 : PySem.W.nsIn K mainGlobals "repr" = some none) (z13 : PySem.W.nsIn K mainGlobals "sum" = some none) (z14 : PySem.W.nsIn K mainGlobals "min" = some none) (z15 : PySem.W.nsIn K mainGlobals "enumerate" = some none) (z16 : PySem.W.nsIn K mainGlobals "set" = some none) (z17 : PySem.W.nsIn K mainGlobals "ValueError" = some none) :
    ∃ fd : FuncData, (∀ (s : Shared) (v : Value), BindsTo s fd ⟨[v], []⟩ [("_law_script", v)]) ∧ ∀ base : Heap, K.In base → base.Ns mainGlobals mg → RunG l.prog w K mg base 10 fa fd ["_law_script"] (spLaw K) := by
  have e := hfa.symm.trans (PySem.W.mg_of X G a30)
  cases e
  have F0 := fun_mk (st := sWhole) l0 c0 k0
  have F1 := fun_mk (st := sWithin) l1 c1 k1
  have F2 := fun_mk (st := sAsc) l2 c2 k2
  have F3 := fun_mk (st := sMenuOf) l3 c3 k3
  have F4 := fun_mk (st := sIsMenu) l4 c4 k4
  have F5 := fun_mk (st := sChosen) l5 c5 k5
  have F6 := fun_mk (st := sChoices) l6 c6 k6
  have F7 := fun_mk (st := sCost28) l7 c7 k7
  have F8 := fun_mk (st := sDeck) l8 c8 k8
  have F9 := fun_mk (st := sNext) l9 c9 k9
  have F10 := fun_mk (st := sOne) l10 c10 k10
  have F11 := fun_mk (st := sLWhole) l11 c11 k11
  have F12 := fun_mk (st := sSame) l12 c12 k12
  have F13 := fun_mk (st := sOdd) l13 c13 k13
  have F14 := fun_mk (st := sBent) l14 c14 k14
  have F15 := fun_mk (st := sPeople) l15 c15 k15
  have F16 := fun_mk (st := sList) l16 c16 k16
  have F17 := fun_mk (st := sExch) l17 c17 k17
  have F18 := fun_mk (st := sRoad) l18 c18 k18
  have F19 := fun_mk (st := sSeated) l19 c19 k19
  have F20 := fun_mk (st := sAny) l20 c20 k20
  have F21 := fun_mk (st := sTable) l21 c21 k21
  have F22 := fun_mk (st := sMenu) l22 c22 k22
  have F23 := fun_mk (st := sLIsMenu) l23 c23 k23
  have F24 := fun_mk (st := sRaised) l24 c24 k24
  have F25 := fun_mk (st := sLBest) l25 c25 k25
  have F26 := fun_mk (st := sMenuVal) l26 c26 k26
  have F27 := fun_mk (st := sLCost) l27 c27 k27
  have F28 := fun_mk (st := sAnswer28) l28 c28 k28
  have F29 := fun_mk (st := sRight28) l29 c29 k29
  have F30 := fun_mk (st := sLaw) l30 c30 k30
  have b0 := F0.binds (ps := ["value"]) fun _ _ _ _ _ _ us hl => match us, hl with | [_], _ => rfl
  have b1 := F1.binds (ps := ["value", "low", "high"]) fun _ _ _ _ _ _ us hl => match us, hl with | [_, _, _], _ => rfl
  have b2 := F2.binds (ps := ["value", "low", "high"]) fun _ _ _ _ _ _ us hl => match us, hl with | [_, _, _], _ => rfl
  have b3 := F3.binds (ps := ["dishes", "value"]) fun _ _ _ _ _ _ us hl => match us, hl with | [_, _], _ => rfl
  have b4 := F4.binds (ps := ["table", "value"]) fun _ _ _ _ _ _ us hl => match us, hl with | [_, _], _ => rfl
  have b5 := F5.binds (ps := ["ranking", "menu"]) fun _ _ _ _ _ _ us hl => match us, hl with | [_, _], _ => rfl
  have b6 := F6.binds (ps := ["table", "menu"]) fun _ _ _ _ _ _ us hl => match us, hl with | [_, _], _ => rfl
  have b7 := F7.binds (ps := ["table", "menu"]) fun _ _ _ _ _ _ us hl => match us, hl with | [_, _], _ => rfl
  have b8 := F8.binds (ps := ["_law_script"]) fun _ _ _ _ _ _ us hl => match us, hl with | [_], _ => rfl
  have b9 := F9.binds (ps := ["_law_deck_here", "_law_many"]) fun _ _ _ _ _ _ us hl => match us, hl with | [_, _], _ => rfl
  have b10 := F10.binds (ps := ["_law_deck_here", "_law_some"]) fun _ _ _ _ _ _ us hl => match us, hl with | [_, _], _ => rfl
  have b11 := F11.binds (ps := ["_law_thing"]) fun _ _ _ _ _ _ us hl => match us, hl with | [_], _ => rfl
  have b12 := F12.binds (ps := ["_law_found", "_law_due"]) fun _ _ _ _ _ _ us hl => match us, hl with | [_, _], _ => rfl
  have b13 := F13.binds (ps := ["_law_deck_here"]) fun _ _ _ _ _ _ us hl => match us, hl with | [_], _ => rfl
  have b14 := F14.binds (ps := ["_law_deck_here", "_law_thing", "_law_deep"]) fun _ _ _ _ _ _ us hl => match us, hl with | [_, _, _], _ => rfl
  have b15 := F15.binds (ps := ["_law_deck_here"]) fun _ _ _ _ _ _ us hl => match us, hl with | [_], _ => rfl
  have b16 := F16.binds (ps := ["_law_deck_here", "_law_dishes"]) fun _ _ _ _ _ _ us hl => match us, hl with | [_, _], _ => rfl
  have b17 := F17.binds (ps := ["_law_row", "_law_k"]) fun _ _ _ _ _ _ us hl => match us, hl with | [_, _], _ => rfl
  have b18 := F18.binds (ps := ["_law_deck_here", "_law_dishes", "_law_steps"]) fun _ _ _ _ _ _ us hl => match us, hl with | [_, _, _], _ => rfl
  have b19 := F19.binds (ps := ["_law_deck_here", "_law_dishes", "_law_many"]) fun _ _ _ _ _ _ us hl => match us, hl with | [_, _, _], _ => rfl
  have b20 := F20.binds (ps := ["_law_deck_here", "_law_dishes", "_law_many"]) fun _ _ _ _ _ _ us hl => match us, hl with | [_, _, _], _ => rfl
  have b21 := F21.binds (ps := ["_law_deck_here", "_law_dishes", "_law_many"]) fun _ _ _ _ _ _ us hl => match us, hl with | [_, _, _], _ => rfl
  have b22 := F22.binds (ps := ["_law_deck_here", "_law_dishes"]) fun _ _ _ _ _ _ us hl => match us, hl with | [_, _], _ => rfl
  have b23 := F23.binds (ps := ["_law_dishes", "_law_value"]) fun _ _ _ _ _ _ us hl => match us, hl with | [_, _], _ => rfl
  have b24 := F24.binds (ps := ["_law_error"]) fun _ _ _ _ _ _ us hl => match us, hl with | [_], _ => rfl
  have b25 := F25.binds (ps := ["_law_ranking", "_law_menu_here"]) fun _ _ _ _ _ _ us hl => match us, hl with | [_, _], _ => rfl
  have b26 := F26.binds (ps := ["_law_deck_here", "_law_table_here"]) fun _ _ _ _ _ _ us hl => match us, hl with | [_, _], _ => rfl
  have b27 := F27.binds (ps := ["_law_table_here", "_law_menu_here"]) fun _ _ _ _ _ _ us hl => match us, hl with | [_, _], _ => rfl
  have b28 := F28.binds (ps := ["_law_door", "_law_table_here", "_law_value"]) fun _ _ _ _ _ _ us hl => match us, hl with | [_, _, _], _ => rfl
  have b29 := F29.binds (ps := ["_law_table_here", "_law_value"]) fun _ _ _ _ _ _ us hl => match us, hl with | [_, _], _ => rfl
  have g0 := PySem.W.mg_of X G a0
  have g1 := PySem.W.mg_of X G a1
  have g2 := PySem.W.mg_of X G a2
  have g3 := PySem.W.mg_of X G a3
  have g4 := PySem.W.mg_of X G a4
  have g5 := PySem.W.mg_of X G a5
  have g6 := PySem.W.mg_of X G a6
  have g7 := PySem.W.mg_of X G a7
  have g8 := PySem.W.mg_of X G a8
  have g9 := PySem.W.mg_of X G a9
  have g10 := PySem.W.mg_of X G a10
  have g11 := PySem.W.mg_of X G a11
  have g12 := PySem.W.mg_of X G a12
  have g13 := PySem.W.mg_of X G a13
  have g14 := PySem.W.mg_of X G a14
  have g15 := PySem.W.mg_of X G a15
  have g16 := PySem.W.mg_of X G a16
  have g17 := PySem.W.mg_of X G a17
  have g18 := PySem.W.mg_of X G a18
  have g19 := PySem.W.mg_of X G a19
  have g20 := PySem.W.mg_of X G a20
  have g21 := PySem.W.mg_of X G a21
  have g22 := PySem.W.mg_of X G a22
  have g23 := PySem.W.mg_of X G a23
  have g24 := PySem.W.mg_of X G a24
  have g25 := PySem.W.mg_of X G a25
  have g26 := PySem.W.mg_of X G a26
  have g27 := PySem.W.mg_of X G a27
  have g28 := PySem.W.mg_of X G a28
  have g29 := PySem.W.mg_of X G a29
  have g30 := PySem.W.mg_of X G a30
  have m_abs := PySem.W.mg_none_of X G z0
  have m_len := PySem.W.mg_none_of X G z1
  have m_range := PySem.W.mg_none_of X G z2
  have m_list := PySem.W.mg_none_of X G z3
  have m_tuple := PySem.W.mg_none_of X G z4
  have m_int := PySem.W.mg_none_of X G z5
  have m_isinstance := PySem.W.mg_none_of X G z6
  have m_dict := PySem.W.mg_none_of X G z7
  have m_str := PySem.W.mg_none_of X G z8
  have m_bool := PySem.W.mg_none_of X G z9
  have m_all := PySem.W.mg_none_of X G z10
  have m_sorted := PySem.W.mg_none_of X G z11
  have m_repr := PySem.W.mg_none_of X G z12
  have m_sum := PySem.W.mg_none_of X G z13
  have m_min := PySem.W.mg_none_of X G z14
  have m_enumerate := PySem.W.mg_none_of X G z15
  have m_set := PySem.W.mg_none_of X G z16
  have m_ValueError := PySem.W.mg_none_of X G z17
  let cs : Nat → Addr := fun i => [c_NoMenu, c_NotSeatable, c_NoSeating, c_NoCuts, c_NoSize, c_NoDish, c_NoRanking, c_NoTaster, c_NoSpan, c_NoPlaces].getD i 0
  have RG : RsG mg cs := ⟨PySem.W.mg_of X G n_NoMenu, PySem.W.mg_of X G n_NotSeatable, PySem.W.mg_of X G n_NoSeating, PySem.W.mg_of X G n_NoCuts, PySem.W.mg_of X G n_NoSize, PySem.W.mg_of X G n_NoDish, PySem.W.mg_of X G n_NoRanking, PySem.W.mg_of X G n_NoTaster, PySem.W.mg_of X G n_NoSpan, PySem.W.mg_of X G n_NoPlaces⟩
  have gB : mg "TasteError" = some (.ref c_TasteError) := PySem.W.mg_of X G eB
  have gC_NoMenu : mg "NoMenu" = some (.ref c_NoMenu) := PySem.W.mg_of X G n_NoMenu
  have gC_NotSeatable : mg "NotSeatable" = some (.ref c_NotSeatable) := PySem.W.mg_of X G n_NotSeatable
  have gC_NoSeating : mg "NoSeating" = some (.ref c_NoSeating) := PySem.W.mg_of X G n_NoSeating
  have gC_NoCuts : mg "NoCuts" = some (.ref c_NoCuts) := PySem.W.mg_of X G n_NoCuts
  have gC_NoSize : mg "NoSize" = some (.ref c_NoSize) := PySem.W.mg_of X G n_NoSize
  have gC_NoDish : mg "NoDish" = some (.ref c_NoDish) := PySem.W.mg_of X G n_NoDish
  have gC_NoRanking : mg "NoRanking" = some (.ref c_NoRanking) := PySem.W.mg_of X G n_NoRanking
  have gC_NoTaster : mg "NoTaster" = some (.ref c_NoTaster) := PySem.W.mg_of X G n_NoTaster
  have gC_NoSpan : mg "NoSpan" = some (.ref c_NoSpan) := PySem.W.mg_of X G n_NoSpan
  have gC_NoPlaces : mg "NoPlaces" = some (.ref c_NoPlaces) := PySem.W.mg_of X G n_NoPlaces
  have te_NoMenu : PySem.W.exmOne K (.ref c_NoMenu) (.ref c_TasteError) = some true := PySem.W.exm_ref eBs eBd eBt sb_NoMenu
  have ec_NoMenu : ExcC K c_NoMenu := ⟨ga_NoMenu, gg_NoMenu, ex_NoMenu, hd_NoMenu, ha_NoMenu, ehn, eht, hm_NoMenu⟩
  have RC0 : RsC K cs 0 := ⟨ec_NoMenu, fun j hj => match j, hj with
    | 0, _ => kt_0_0
    | 1, _ => kt_0_1
    | 2, _ => kt_0_2
    | 3, _ => kt_0_3
    | 4, _ => kt_0_4
    | 5, _ => kt_0_5
    | 6, _ => kt_0_6
    | 7, _ => kt_0_7
    | 8, _ => kt_0_8
    | 9, _ => kt_0_9
    | n + 10, h => absurd h (by omega), kv_0⟩
  have T_NoMenu : Mk0 K mg "NoMenu" c_NoMenu := ⟨gC_NoMenu, kp_NoMenu, xq_NoMenu, ex_NoMenu, ty_NoMenu⟩
  refine ⟨PySem.W.fnOf "law" "law" (defArgs sLaw) (defBody sLaw) (defScope sLaw) .none kV30 dc30 pm30 an30 cd30 ct30, fun s v => .of_eq rfl, fun base _ _ => ?_⟩
  have GG__law_deck_9 : FnOk l.prog w K mg base CX0 9 f8 _ _ (spDeck K) := ok_deck F8 m_abs m_len
  have GG__law_next_8 : FnOk l.prog w K mg base CX0 8 f9 _ _ spNext := ok_next F9 m_len
  have GG__law_next_5 : FnOk l.prog w K mg base CX0 5 f9 _ _ spNext := ok_next F9 m_len
  have GG__law_list_6 : FnOk l.prog w K mg base CX0 6 f16 _ _ spList := ok_list F16 F9 b9 g9 GG__law_next_5 m_range m_list m_len m_tuple
  have GG__law_one_6 : FnOk l.prog w K mg base CX0 6 f10 _ _ spOne := ok_one F10 k9 b9 g9 GG__law_next_5 m_len
  have GG__law_exchanged_6 : FnOk l.prog w K mg base CX0 6 f17 _ _ spExch := ok_exch F17
  have GG__law_road_7 : FnOk l.prog w K mg base CX0 7 f18 _ _ spRoad := ok_road F18 k16 b16 g16 GG__law_list_6 k10 b10 g10 GG__law_one_6 k17 b17 g17 GG__law_exchanged_6 m_range m_tuple m_sorted
  have GG__law_next_7 : FnOk l.prog w K mg base CX0 7 f9 _ _ spNext := ok_next F9 m_len
  have GG__law_next_6 : FnOk l.prog w K mg base CX0 6 f9 _ _ spNext := ok_next F9 m_len
  have GG__law_people_7 : FnOk l.prog w K mg base CX0 7 f15 _ _ spPeople := ok_People F15 k9 b9 g9 GG__law_next_6
  have GG__law_one_7 : FnOk l.prog w K mg base CX0 7 f10 _ _ spOne := ok_one F10 k9 b9 g9 GG__law_next_6 m_len
  have GG__law_seated_8 : FnOk l.prog w K mg base CX0 8 f19 _ _ spSeated := ok_Seated F19 k18 b18 g18 GG__law_road_7 k9 b9 g9 GG__law_next_7 k15 b15 g15 GG__law_people_7 k10 b10 g10 GG__law_one_7 m_tuple m_range
  have GG__law_list_7 : FnOk l.prog w K mg base CX0 7 f16 _ _ spList := ok_list F16 F9 b9 g9 GG__law_next_6 m_range m_list m_len m_tuple
  have GG__law_exchanged_7 : FnOk l.prog w K mg base CX0 7 f17 _ _ spExch := ok_exch F17
  have GG__law_any_8 : FnOk l.prog w K mg base CX0 8 f20 _ _ spSeated := ok_Any F20 k16 b16 g16 GG__law_list_7 k9 b9 g9 GG__law_next_7 k10 b10 g10 GG__law_one_7 k17 b17 g17 GG__law_exchanged_7 k15 b15 g15 GG__law_people_7 m_len m_tuple
  have GG__law_table_9 : FnOk l.prog w K mg base CX0 9 f21 _ _ spTable := ok_Table F21 k9 b9 g9 GG__law_next_8 k19 b19 g19 GG__law_seated_8 k20 b20 g20 GG__law_any_8
  have GG__law_menu_8 : FnOk l.prog w K mg base CX0 8 f22 _ _ spMenu := ok_Menu F22 k9 b9 g9 GG__law_next_7 m_range m_tuple
  have GG__law_bent_8 : FnOk l.prog w K mg base CX0 8 f14 _ _ (spBent 3) := FnOk.mono (j := 5) (ok_bent F14 b14 g14 k9 b9 g9 (fun k => ok_next F9 m_len) k13 b13 g13 (fun k => ok_odd F13 k9 b9 g9 (ok_next F9 m_len)) m_isinstance m_tuple m_len m_list m_int m_str 3) (by decide)
  have GG__law_one_8 : FnOk l.prog w K mg base CX0 8 f10 _ _ spOne := ok_one F10 k9 b9 g9 GG__law_next_7 m_len
  have GG__law_odd_8 : FnOk l.prog w K mg base CX0 8 f13 _ _ spOdd := ok_odd F13 k9 b9 g9 GG__law_next_7
  have GG__law_menu_value_9 : FnOk l.prog w K mg base CX0 9 f26 _ _ spMenuVal := ok_MenuVal F26 k22 b22 g22 GG__law_menu_8 k9 b9 g9 GG__law_next_8 k14 b14 g14 GG__law_bent_8 k10 b10 g10 GG__law_one_8 k13 b13 g13 GG__law_odd_8 m_list
  have GG__law_odd_9 : FnOk l.prog w K mg base CX0 9 f13 _ _ spOdd := ok_odd F13 k9 b9 g9 GG__law_next_8
  have GG__law_whole_7 : FnOk l.prog w K mg base CX0 7 f11 _ _ spWhole := ok_lwhole F11 m_isinstance m_int m_bool
  have GG__law_is_menu_8 : FnOk l.prog w K mg base CX0 8 f23 _ _ spLIsMenu := ok_LIsMenu F23 k11 b11 g11 GG__law_whole_7 m_isinstance m_tuple m_list m_sorted m_set
  have GG__law_same_8 : FnOk l.prog w K mg base CX0 8 f12 _ _ (spSame K 8) := ok_same F12 b12 g12 m_isinstance m_tuple m_list m_len m_range m_dict m_str m_int m_bool 8
  have GG_is_whole_4 : FnOk l.prog w K mg base CX0 4 f0 _ _ spWhole := ok_whole F0 m_isinstance m_int m_bool
  have GG_is_within_5 : FnOk l.prog w K mg base CX0 5 f1 _ _ spWithin := ok_within F1 k0 b0 g0 GG_is_whole_4
  have GG_is_ascending_6 : FnOk l.prog w K mg base CX0 6 f2 _ _ spAsc := ok_Asc F2 k1 b1 g1 GG_is_within_5 m_all m_isinstance m_tuple m_range m_len
  have GG_is_menu_of_7 : FnOk l.prog w K mg base CX0 7 f3 _ _ spMenuOf := ok_MenuOf F3 k2 b2 g2 GG_is_ascending_6 m_len
  have GG_is_menu_8 : FnOk l.prog w K mg base CX0 8 f4 _ _ spIsMenu := ok_IsMenu F4 k3 b3 g3 GG_is_menu_of_7
  have GG__law_best_8 : FnOk l.prog w K mg base CX0 8 f25 _ _ spLBest := ok_LBest F25
  have GG__law_cost_8 : FnOk l.prog w K mg base CX0 8 f27 _ _ spCost := ok_LCost F27 m_min
  have GG_is_whole_2 : FnOk l.prog w K mg base CX0 2 f0 _ _ spWhole := ok_whole F0 m_isinstance m_int m_bool
  have GG_is_within_3 : FnOk l.prog w K mg base CX0 3 f1 _ _ spWithin := ok_within F1 k0 b0 g0 GG_is_whole_2
  have GG_is_ascending_4 : FnOk l.prog w K mg base CX0 4 f2 _ _ spAsc := ok_Asc F2 k1 b1 g1 GG_is_within_3 m_all m_isinstance m_tuple m_range m_len
  have GG_is_menu_of_5 : FnOk l.prog w K mg base CX0 5 f3 _ _ spMenuOf := ok_MenuOf F3 k2 b2 g2 GG_is_ascending_4 m_len
  have GG_is_menu_6 : FnOk l.prog w K mg base CX0 6 f4 _ _ spIsMenu := ok_IsMenu F4 k3 b3 g3 GG_is_menu_of_5
  have GG_chosen_position_6 : FnOk l.prog w K mg base CX0 6 f5 _ _ spChosen := ok_Chosen F5 m_min
  have GG_choices_7 : FnOk l.prog w K mg base (L2.CX l.prog w) 7 f6 _ _ (spChoices c_NoMenu) := ok_Choices F6 k4 b4 g4 GG_is_menu_6 k5 b5 g5 GG_chosen_position_6 T_NoMenu m_tuple
  have GG_cost_7 : FnOk l.prog w K mg base (L2.CX l.prog w) 7 f7 _ _ (spCostX c_NoMenu) := ok_Cost28 F7 k4 b4 g4 GG_is_menu_6 k5 b5 g5 GG_chosen_position_6 T_NoMenu m_sum
  have GG__law_raised_7 : FnE l.prog w K mg base 7 f24 _ _ (spRs0 c_NoMenu "NoMenu") := ok_raised0 (cs := cs) F24 RG RC0 m_isinstance m_len m_ValueError
  have GG__law_answer_8 : FnOk l.prog w K mg base CX0 8 f28 _ _ spAns28 := ok_Answer28 F28 k6 b6 g6 GG_choices_7 k7 b7 g7 GG_cost_7 k24 b24 g24 GG__law_raised_7 gB te_NoMenu
  have GG__law_right_9 : RunG l.prog w K mg base 9 f29 _ _ spRight28 := ok_Right28 F29 k23 b23 g23 GG__law_is_menu_8 k12 b12 g12 GG__law_same_8 k4 b4 g4 GG_is_menu_8 k25 b25 g25 GG__law_best_8 k27 b27 g27 GG__law_cost_8 k28 b28 g28 GG__law_answer_8 m_repr m_tuple
  exact ok_Law F30 k8 b8 g8 GG__law_deck_9 k21 b21 g21 GG__law_table_9 k26 b26 g26 GG__law_menu_value_9 k13 b13 g13 GG__law_odd_9 k29 b29 g29 GG__law_right_9 m_range m_tuple

end TR
open PySem PySem.W PyProof.Rows
set_option maxHeartbeats 0 in
theorem PySem.Challenge.cw_tasterow_k28_menus_and_choices_holds : PySem.Challenge.rw_tasterow_k28_menus_and_choices.Holds := by
  w_on; o_law; k_head; (case hw => w_witness2)
  k_fill
  refine TR.walk_ofG (l := PySem.Challenge.rw_tasterow_k28_menus_and_choices) (n := 63) (k := 10) (x := "_law_script") (sp := fun w => TR.spLaw _) rfl (by decide) rfl ⟨rfl, by decide, by decide⟩ (fun w h Y => PySem.W.kIn_of Y) ?F (fun _ _ a ns hl _ hS => ⟨a, ns, rfl, hS, hl, fun _ => rfl⟩)
  case F =>
    intro w mg fa h KX G hmg
    refine' TR.all_mk KX G hmg ?a0 ?l0 ?c0 ?k0 ?a1 ?l1 ?c1 ?k1 ?a2 ?l2 ?c2 ?k2 ?a3 ?l3 ?c3 ?k3 ?a4 ?l4 ?c4 ?k4 ?a5 ?l5 ?c5 ?k5 ?a6 ?l6 ?c6 ?k6 ?a7 ?l7 ?c7 ?k7 ?a8 ?l8 ?c8 ?k8 ?a9 ?l9 ?c9 ?k9 ?a10 ?l10 ?c10 ?k10 ?a11 ?l11 ?c11 ?k11 ?a12 ?l12 ?c12 ?k12 ?a13 ?l13 ?c13 ?k13 ?a14 ?l14 ?c14 ?k14 ?a15 ?l15 ?c15 ?k15 ?a16 ?l16 ?c16 ?k16 ?a17 ?l17 ?c17 ?k17 ?a18 ?l18 ?c18 ?k18 ?a19 ?l19 ?c19 ?k19 ?a20 ?l20 ?c20 ?k20 ?a21 ?l21 ?c21 ?k21 ?a22 ?l22 ?c22 ?k22 ?a23 ?l23 ?c23 ?k23 ?a24 ?l24 ?c24 ?k24 ?a25 ?l25 ?c25 ?k25 ?a26 ?l26 ?c26 ?k26 ?a27 ?l27 ?c27 ?k27 ?a28 ?l28 ?c28 ?k28 ?a29 ?l29 ?c29 ?k29 ?a30 ?l30 ?c30 ?k30 ?eB ?eBs ?eBd ?eBt ?ehn ?eht ?n_NoMenu ?n_NotSeatable ?n_NoSeating ?n_NoCuts ?n_NoSize ?n_NoDish ?n_NoRanking ?n_NoTaster ?n_NoSpan ?n_NoPlaces ?ga_NoMenu ?gg_NoMenu ?ex_NoMenu ?hd_NoMenu ?ha_NoMenu ?hm_NoMenu ?kp_NoMenu ?ty_NoMenu ?sb_NoMenu ?xq_NoMenu ?kt_0_0 ?kt_0_1 ?kt_0_2 ?kt_0_3 ?kt_0_4 ?kt_0_5 ?kt_0_6 ?kt_0_7 ?kt_0_8 ?kt_0_9 ?kv_0 ?z0 ?z1 ?z2 ?z3 ?z4 ?z5 ?z6 ?z7 ?z8 ?z9 ?z10 ?z11 ?z12 ?z13 ?z14 ?z15 ?z16 ?z17
    (case a0 => k_is); (case l0 => k_is); (case c0 => k_is); (case k0 => k_is); (case a1 => k_is); (case l1 => k_is); (case c1 => k_is); (case k1 => k_is); (case a2 => k_is); (case l2 => k_is); (case c2 => k_is); (case k2 => k_is); (case a3 => k_is); (case l3 => k_is); (case c3 => k_is); (case k3 => k_is); (case a4 => k_is); (case l4 => k_is); (case c4 => k_is); (case k4 => k_is); (case a5 => k_is); (case l5 => k_is); (case c5 => k_is); (case k5 => k_is); (case a6 => k_is); (case l6 => k_is); (case c6 => k_is); (case k6 => k_is); (case a7 => k_is); (case l7 => k_is); (case c7 => k_is); (case k7 => k_is); (case a8 => k_is); (case l8 => k_is); (case c8 => k_is); (case k8 => k_is); (case a9 => k_is); (case l9 => k_is); (case c9 => k_is); (case k9 => k_is); (case a10 => k_is); (case l10 => k_is); (case c10 => k_is); (case k10 => k_is); (case a11 => k_is); (case l11 => k_is); (case c11 => k_is); (case k11 => k_is); (case a12 => k_is); (case l12 => k_is); (case c12 => k_is); (case k12 => k_is); (case a13 => k_is); (case l13 => k_is); (case c13 => k_is); (case k13 => k_is); (case a14 => k_is); (case l14 => k_is); (case c14 => k_is); (case k14 => k_is); (case a15 => k_is); (case l15 => k_is); (case c15 => k_is); (case k15 => k_is); (case a16 => k_is); (case l16 => k_is); (case c16 => k_is); (case k16 => k_is); (case a17 => k_is); (case l17 => k_is); (case c17 => k_is); (case k17 => k_is); (case a18 => k_is); (case l18 => k_is); (case c18 => k_is); (case k18 => k_is); (case a19 => k_is); (case l19 => k_is); (case c19 => k_is); (case k19 => k_is); (case a20 => k_is); (case l20 => k_is); (case c20 => k_is); (case k20 => k_is); (case a21 => k_is); (case l21 => k_is); (case c21 => k_is); (case k21 => k_is); (case a22 => k_is); (case l22 => k_is); (case c22 => k_is); (case k22 => k_is); (case a23 => k_is); (case l23 => k_is); (case c23 => k_is); (case k23 => k_is); (case a24 => k_is); (case l24 => k_is); (case c24 => k_is); (case k24 => k_is); (case a25 => k_is); (case l25 => k_is); (case c25 => k_is); (case k25 => k_is); (case a26 => k_is); (case l26 => k_is); (case c26 => k_is); (case k26 => k_is); (case a27 => k_is); (case l27 => k_is); (case c27 => k_is); (case k27 => k_is); (case a28 => k_is); (case l28 => k_is); (case c28 => k_is); (case k28 => k_is); (case a29 => k_is); (case l29 => k_is); (case c29 => k_is); (case k29 => k_is); (case a30 => k_is); (case l30 => k_is); (case c30 => k_is); (case k30 => k_is); (case eB => k_is); (case eBs => k_is); (case eBd => k_is); (case eBt => k_is); (case ehn => k_is); (case eht => k_is); (case n_NoMenu => k_is); (case n_NotSeatable => k_is); (case n_NoSeating => k_is); (case n_NoCuts => k_is); (case n_NoSize => k_is); (case n_NoDish => k_is); (case n_NoRanking => k_is); (case n_NoTaster => k_is); (case n_NoSpan => k_is); (case n_NoPlaces => k_is); (case ga_NoMenu => k_is); (case gg_NoMenu => k_is); (case ex_NoMenu => k_is); (case hd_NoMenu => k_is); (case ha_NoMenu => k_is); (case hm_NoMenu => k_is); (case kp_NoMenu => k_is); (case ty_NoMenu => k_is); (case sb_NoMenu => k_is); (case xq_NoMenu => kernel_rfl); (case kt_0_0 => kit_is); (case kt_0_1 => kit_is); (case kt_0_2 => kit_is); (case kt_0_3 => kit_is); (case kt_0_4 => kit_is); (case kt_0_5 => kit_is); (case kt_0_6 => kit_is); (case kt_0_7 => kit_is); (case kt_0_8 => kit_is); (case kt_0_9 => kit_is); (case kv_0 => kit_is); (case z0 => k_is); (case z1 => k_is); (case z2 => k_is); (case z3 => k_is); (case z4 => k_is); (case z5 => k_is); (case z6 => k_is); (case z7 => k_is); (case z8 => k_is); (case z9 => k_is); (case z10 => k_is); (case z11 => k_is); (case z12 => k_is); (case z13 => k_is); (case z14 => k_is); (case z15 => k_is); (case z16 => k_is); (case z17 => k_is)
