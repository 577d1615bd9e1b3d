import PyProof.Rows.All
import Wide.All
import OpenK.AllK
import Wide.FinOn
import PySem.Challenge.RW_tasterow_k03_rankings_numbered
import HandS.ForMost
import HandS.Conv
import HandS.Strs
import HandS.TupAny
import HandS.Style
import HandS.IsInst
import HandS.EndBits
import HandS.Walk
import HandS.SortInts
import HandS.SortOrd
import HandS.Deep
import HandS.ForExc
import HandS.ExcIs
import KE.GoesEnum
import KE.KExcIs
import KE.RegKIsAll
set_option Elab.async false
set_option linter.all false
set_option maxRecDepth 100000
namespace TR
open PySem PySem.Spec PyProof.Rows L2
/-! ### heaps -/
theorem same_upd {H : Hp} {p : Addr} {o : HO} (h : H p = none) : Same H (upd H p o) := fun b x e => by
  rw [upd_ne (ne_of_none e h)]
  exact e
theorem same_upd2 {H H1 : Hp} {p : Addr} {o : HO} (s : Same H H1) (h : H p = none) : Same H (upd H1 p o) := fun b x e => by
  rw [upd_ne (ne_of_none e h)]
  exact s b x e
theorem same_seqT {K : PySem.W.Frag} {H H' : Hp} {a : Addr} {xs : List V} (e : Same H H') (h : SqT K H a xs) : SqT K H' a xs := by
  rcases h with (h | ⟨o, h⟩) | h
  · exact .inl (.inl (e _ _ h))
  · exact .inl (.inr ⟨o, e _ _ h⟩)
  · exact .inr h
theorem sqL {K : PySem.W.Frag} {H : Hp} {a : Addr} {xs : List V} (h : H a = some (.lst xs)) : SqL K H a xs := .inl (.inl h)
theorem sqT {K : PySem.W.Frag} {H : Hp} {a : Addr} {xs : List V} (h : H a = some (.tup xs)) : SqT K H a xs := .inl (.inl h)
/-- all but the deck's two changing lists is as it was -/
def Keep (d p : Addr) (H H' : Hp) : Prop := ∀ b o, H b = some o → b ≠ d → b ≠ p → H' b = some o
theorem Keep.refl (d p : Addr) (H : Hp) : Keep d p H H := fun _ _ h _ _ => h
theorem Keep.trans {d p : Addr} {H H1 H2 : Hp} (a : Keep d p H H1) (b : Keep d p H1 H2) : Keep d p H H2 := fun c o h n m => b c o (a c o h n m) n m
theorem Same.keep {d p : Addr} {H H1 : Hp} (a : Same H H1) : Keep d p H H1 := fun c o h _ _ => a c o h
theorem keep_upd {d p x : Addr} {H H1 : Hp} {o : HO} (a : Keep d p H H1) (h : x = d ∨ x = p) : Keep d p H (upd H1 x o) := fun c u e n m => by
  rw [upd_ne (by rintro rfl; rcases h with h | h; exact n h; exact m h)]
  exact a c u e n m
/-! ### data -/
theorem dpAll_ints {K : PySem.W.Frag} {H : Hp} : ∀ xs : List Int, DpAll K H (xs.map V.int) (xs.map PyData.int)
  | [] => .nil
  | x :: r => .cons (.int x) (dpAll_ints r)
theorem can_ints : ∀ xs : List Int, PyData.canLayAll0 (xs.map PyData.int) = true
  | [] => rfl
  | x :: r => by
    show (true && PyData.canLayAll0 (r.map PyData.int)) = true
    rw [can_ints r]
    rfl
theorem dep_ints : ∀ xs : List Int, PyData.depthAll (xs.map PyData.int) = 0
  | [] => rfl
  | x :: r => by
    show max 0 (PyData.depthAll (r.map PyData.int)) = 0
    rw [dep_ints r]
    rfl
theorem shaped_ints (xs : List Int) : SeqAt.shaped (.list (xs.map PyData.int)) = true := by
  show (PyData.canLayAll0 (xs.map PyData.int) && decide (PyData.depthAll (xs.map PyData.int) + 1 ≤ 64)) = true
  rw [can_ints, dep_ints]
  rfl
theorem eqv_nil (xs : List Int) : PyData.eqv (.list (xs.map PyData.int)) (.list []) = xs.isEmpty := by
  cases xs with
  | nil => rfl
  | cons x r => rfl
/-! ### the deck -/
structure DeckL (H : Hp) (d p q : Addr) (n : Nat) (m : Nat) : Prop where
  ex : ∃ (xs cs : List Int) (c : Int), H d = some (.lst [.ref p, .ref q, .int c]) ∧ H p = some (.lst (xs.map V.int)) ∧ H q = some (.lst (cs.map V.int)) ∧
    0 ≤ c ∧ c ≤ (n : Int) ∧ cs ≠ [] ∧ xs.length = m
  dp : d ≠ p
  dq : d ≠ q
  pq : p ≠ q
def Deck (H : Hp) (d p q : Addr) (n : Nat) : Prop := ∃ m, DeckL H d p q n m
theorem DeckL.same {H H' : Hp} {d p q : Addr} {n m : Nat} (D : DeckL H d p q n m) (s : Same H H') : DeckL H' d p q n m := by
  obtain ⟨xs, cs, c, h1, h2, h3, h4⟩ := D.ex
  exact ⟨⟨xs, cs, c, s _ _ h1, s _ _ h2, s _ _ h3, h4⟩, D.dp, D.dq, D.pq⟩
theorem Deck.same {H H' : Hp} {d p q : Addr} {n : Nat} (D : Deck H d p q n) (s : Same H H') : Deck H' d p q n := by
  obtain ⟨m, D⟩ := D
  exact ⟨m, D.same s⟩
theorem Deck.mono {H : Hp} {d p q : Addr} {n k : Nat} (D : Deck H d p q n) (h : n ≤ k) : Deck H d p q k := by
  obtain ⟨m, ⟨xs, cs, c, h1, h2, h3, h4, h5, h6⟩, a, b, e⟩ := D
  exact ⟨m, ⟨xs, cs, c, h1, h2, h3, h4, by omega, h6⟩, a, b, e⟩
theorem Deck.hd {H : Hp} {d p q : Addr} {n : Nat} (D : Deck H d p q n) : ∃ a b c, H d = some (.lst [.ref a, .ref b, .int c]) := by
  obtain ⟨m, ⟨xs, cs, c, h1, _⟩, _⟩ := D
  exact ⟨_, _, _, h1⟩
theorem Deck.hp {H : Hp} {d p q : Addr} {n : Nat} (D : Deck H d p q n) : ∃ xs : List Int, H p = some (.lst (xs.map V.int)) := by
  obtain ⟨m, ⟨xs, cs, c, h1, h2, _⟩, _⟩ := D
  exact ⟨_, h2⟩
theorem Deck.ned {H : Hp} {d p q : Addr} {n : Nat} (D : Deck H d p q n) {b : Addr} (h : H b = none) : b ≠ d := by
  obtain ⟨x, y, c, e⟩ := D.hd
  exact (ne_of_none e h).symm
theorem Deck.nep {H : Hp} {d p q : Addr} {n : Nat} (D : Deck H d p q n) {b : Addr} (h : H b = none) : b ≠ p := by
  obtain ⟨x, e⟩ := D.hp
  exact (ne_of_none e h).symm
theorem Deck.tned {H : Hp} {d p q : Addr} {n : Nat} (D : Deck H d p q n) {b : Addr} {xs : List V} (h : H b = some (.tup xs)) : b ≠ d := by
  obtain ⟨x, y, c, e⟩ := D.hd
  exact ne_of h e (by intro z; cases z)
theorem Deck.tnep {H : Hp} {d p q : Addr} {n : Nat} (D : Deck H d p q n) {b : Addr} {xs : List V} (h : H b = some (.tup xs)) : b ≠ p := by
  obtain ⟨x, e⟩ := D.hp
  exact ne_of h e (by intro z; cases z)
end TR
namespace TR
/-! ### rankings as lists of ints -/
def rng (n : Nat) : List Int := (List.range n).map fun i : Nat => (i : Int)
def Rank (n : Nat) (ns : List Int) : Prop := ns.Perm (rng n)
theorem rng_len (n : Nat) : (rng n).length = n := by
  unfold rng; rw [List.length_map, List.length_range]
theorem mem_rng {n : Nat} {x : Int} : x ∈ rng n ↔ 0 ≤ x ∧ x < (n : Int) := by
  unfold rng
  rw [List.mem_map]
  constructor
  · rintro ⟨i, hi, rfl⟩
    have := List.mem_range.mp hi
    omega
  · rintro ⟨h0, h1⟩
    exact ⟨x.toNat, List.mem_range.mpr (by omega), by omega⟩
theorem rng_nodup (n : Nat) : (rng n).Nodup := by
  unfold rng List.Nodup
  rw [List.pairwise_map]
  exact List.nodup_range.imp (by intro a b h e; exact h (by omega))
theorem Rank.len {n : Nat} {ns : List Int} (h : Rank n ns) : ns.length = n := (List.Perm.length_eq h).trans (rng_len n)
theorem Rank.mem {n : Nat} {ns : List Int} (h : Rank n ns) {x : Int} (h0 : 0 ≤ x) (h1 : x < (n : Int)) : x ∈ ns := (List.Perm.mem_iff h).mpr (mem_rng.mpr ⟨h0, h1⟩)
theorem Rank.bnd {n : Nat} {ns : List Int} (h : Rank n ns) {x : Int} (m : x ∈ ns) : 0 ≤ x ∧ x < (n : Int) := mem_rng.mp ((List.Perm.mem_iff h).mp m)
theorem Rank.nodup {n : Nat} {ns : List Int} (h : Rank n ns) : ns.Nodup := (List.Perm.nodup_iff h).mpr (rng_nodup n)
theorem Rank.rev {n : Nat} {ns : List Int} (h : Rank n ns) : Rank n ns.reverse := (List.reverse_perm ns).trans h
/-! ### preference -/
def pref (ns : List Int) (a b : Int) : Bool := decide (ns.idxOf a < ns.idxOf b)
theorem idx_at {ns : List Int} (nd : ns.Nodup) {i : Nat} {x : Int} (h : ns[i]? = some x) : ns.idxOf x = i := by
  obtain ⟨hi, e⟩ := List.getElem?_eq_some_iff.mp h
  have m : x ∈ ns := e ▸ List.getElem_mem hi
  have hl : ns.idxOf x < ns.length := List.idxOf_lt_length_of_mem m
  have e2 : ns[ns.idxOf x] = x := List.getElem_idxOf hl
  exact (List.getElem_inj nd).mp (e2.trans e.symm)
theorem at_idx {ns : List Int} {x : Int} (m : x ∈ ns) : ns[ns.idxOf x]? = some x := by
  have hl : ns.idxOf x < ns.length := List.idxOf_lt_length_of_mem m
  rw [List.getElem?_eq_getElem hl, List.getElem_idxOf hl]
theorem idx_first {ns : List Int} {x : Int} {m : Nat} (h : m < ns.idxOf x) : ns[m]? ≠ some x := by
  intro e
  obtain ⟨hi, e2⟩ := List.getElem?_eq_some_iff.mp e
  have := List.not_of_lt_findIdx (p := (· == x)) (xs := ns) h
  rw [e2] at this
  simp at this
theorem idx_rev {ns : List Int} (nd : ns.Nodup) {x : Int} (m : x ∈ ns) : ns.reverse.idxOf x = ns.length - 1 - ns.idxOf x := by
  have hl : ns.idxOf x < ns.length := List.idxOf_lt_length_of_mem m
  refine idx_at ((List.Perm.nodup_iff (List.reverse_perm ns)).mpr nd) ?_
  rw [List.getElem?_reverse (by omega)]
  rw [show ns.length - 1 - (ns.length - 1 - ns.idxOf x) = ns.idxOf x by omega]
  exact at_idx m
theorem idx_inj {ns : List Int} {x y : Int} (m : x ∈ ns) (e : ns.idxOf x = ns.idxOf y) : x = y ∨ y ∉ ns := by
  by_cases h : y ∈ ns
  · left
    have a := at_idx m
    have b := at_idx h
    rw [e, b] at a
    exact (Option.some.inj a).symm
  · exact .inr h
theorem pref_rev {ns : List Int} (nd : ns.Nodup) {a b : Int} (ma : a ∈ ns) (mb : b ∈ ns) (ne : a ≠ b) : pref ns.reverse a b = !pref ns a b := by
  unfold pref
  have la : ns.idxOf a < ns.length := List.idxOf_lt_length_of_mem ma
  have lb : ns.idxOf b < ns.length := List.idxOf_lt_length_of_mem mb
  have hne : ns.idxOf a ≠ ns.idxOf b := fun e => by
    rcases idx_inj ma e with h | h
    · exact ne h
    · exact h mb
  rw [idx_rev nd ma, idx_rev nd mb]
  by_cases h : ns.idxOf a < ns.idxOf b
  · rw [decide_eq_true h, decide_eq_false (by omega)]
    rfl
  · rw [decide_eq_false h, decide_eq_true (by omega)]
    rfl
/-! ### pairs and differences -/
def prow (n a : Nat) : List (Int × Int) := (List.range (n - (a + 1))).map fun j : Nat => ((a : Int), ((a : Int) + 1 + (j : Int)))
def pairs (n : Nat) : List (Int × Int) := (List.range n).flatMap (prow n)
theorem mem_pairs {n : Nat} {p : Int × Int} (h : p ∈ pairs n) : 0 ≤ p.1 ∧ p.1 < p.2 ∧ p.2 < (n : Int) := by
  unfold pairs prow at h
  obtain ⟨a, ha, hp⟩ := List.mem_flatMap.mp h
  obtain ⟨j, hj, rfl⟩ := List.mem_map.mp hp
  have h1 := List.mem_range.mp ha
  have h2 := List.mem_range.mp hj
  dsimp only
  omega
theorem flat_succ {β : Type} (f : Nat → List β) (i : Nat) : (List.range (i + 1)).flatMap f = (List.range i).flatMap f ++ f i := by
  rw [List.range_succ, List.flatMap_append]
  simp
theorem map_succ {β : Type} (f : Nat → β) (i : Nat) : (List.range (i + 1)).map f = (List.range i).map f ++ [f i] := by
  rw [List.range_succ, List.map_append]
  rfl
def agr (one other : List Int) (p : Int × Int) : Bool := pref one p.1 p.2 == pref other p.1 p.2
def diffs (n : Nat) (one other : List Int) : List (Int × Int) := (pairs n).filter fun p => !agr one other p
def betw (n : Nat) (one other third : List Int) : Bool := ((pairs n).filter (agr one other)).all (agr one third)
theorem agr_symm (one other : List Int) (p : Int × Int) : agr one other p = agr other one p := by
  unfold agr
  cases pref one p.1 p.2 <;> cases pref other p.1 p.2 <;> rfl
theorem diffs_symm (n : Nat) (one other : List Int) : diffs n one other = diffs n other one := by
  unfold diffs
  congr 1
  funext p
  rw [agr_symm]
theorem diffs_rev {n : Nat} {ns : List Int} (h : Rank n ns) : diffs n ns ns.reverse = pairs n := by
  unfold diffs
  rw [List.filter_eq_self]
  intro p hp
  obtain ⟨h0, h1, h2⟩ := mem_pairs hp
  unfold agr
  rw [pref_rev h.nodup (h.mem h0 (by omega)) (h.mem (by omega) h2) (by omega)]
  cases pref ns p.1 p.2 <;> rfl
theorem filter_take {α : Type} (f : α → Bool) {l : List α} {i : Nat} {x : α} (h : l[i]? = some x) : (l.take (i + 1)).filter f = (l.take i).filter f ++ if f x = true then [x] else [] := by
  rw [List.take_add_one, h, List.filter_append]
  show _ ++ ([x].filter f) = _
  cases e : f x <;> simp [e]
theorem diffs_sub {n : Nat} {one other : List Int} {p : Int × Int} (h : p ∈ diffs n one other) : p ∈ pairs n := (List.mem_filter.mp h).1
theorem prow_len (n a : Nat) : (prow n a).length = n - (a + 1) := by
  unfold prow; rw [List.length_map, List.length_range]
theorem flat_len (n : Nat) : ∀ i : Nat, ((List.range i).flatMap (prow n)).length ≤ i * n
  | 0 => by simp
  | i + 1 => by
    have ih := flat_len n i
    rw [flat_succ, List.length_append, prow_len, Nat.succ_mul]
    omega
theorem pairs_len (n : Nat) : (pairs n).length ≤ n * n := flat_len n n
/-! ### exchanging neighbours, drawing -/
theorem perm_swap {ns : List Int} {k : Nat} {x y : Int} (hx : ns[k]? = some x) (hy : ns[k + 1]? = some y) : (ns.take k ++ ([y, x] ++ ns.drop (k + 2))).Perm ns := by
  have e : ns = ns.take k ++ (x :: y :: ns.drop (k + 2)) := by
    have h1 : k < ns.length := (List.getElem?_eq_some_iff.mp hx).1
    have h2 : k + 1 < ns.length := (List.getElem?_eq_some_iff.mp hy).1
    have a1 : ns.drop k = x :: ns.drop (k + 1) := by
      rw [List.drop_eq_getElem_cons h1, (List.getElem?_eq_some_iff.mp hx).2]
    have a2 : ns.drop (k + 1) = y :: ns.drop (k + 2) := by
      rw [List.drop_eq_getElem_cons h2, (List.getElem?_eq_some_iff.mp hy).2]
    rw [← a2, ← a1, List.take_append_drop]
  refine List.Perm.trans ?_ (List.Perm.of_eq e.symm)
  exact List.Perm.append_left _ (List.Perm.swap x y _)
theorem perm_erase {l : List Int} {j : Nat} {z : Int} (h : l[j]? = some z) : (z :: l.eraseIdx j).Perm l := by
  obtain ⟨hj, e⟩ := List.getElem?_eq_some_iff.mp h
  have e1 : l = l.take j ++ z :: l.drop (j + 1) := by
    rw [← e, ← List.drop_eq_getElem_cons hj, List.take_append_drop]
  have e2 : l.eraseIdx j = l.take j ++ l.drop (j + 1) := List.eraseIdx_eq_take_drop_succ l j
  rw [e2]
  refine List.Perm.trans ?_ (List.Perm.of_eq e1.symm)
  exact (List.perm_middle).symm
end TR
namespace TR
open L2
/-! ### the number of a ranking -/
def fct : Nat → Nat
  | 0 => 1
  | n + 1 => (n + 1) * fct n
theorem fct_pos : ∀ n, 0 < fct n
  | 0 => Nat.one_pos
  | n + 1 => Nat.mul_pos (Nat.succ_pos n) (fct_pos n)
def smal (d : Int) (l : List Int) : Nat := (l.filter fun x => decide (x < d)).length
theorem smal_le (d : Int) (l : List Int) : smal d l ≤ l.length := List.length_filter_le _ _
theorem smal_cons (d x : Int) (l : List Int) : smal d (x :: l) = (if x < d then 1 else 0) + smal d l := by
  unfold smal
  rw [List.filter_cons]
  by_cases h : x < d
  · rw [if_pos (decide_eq_true h), if_pos h, List.length_cons]
    omega
  · rw [if_neg (by simpa using h), if_neg h]
    omega
theorem smal_self (d : Int) (l : List Int) : smal d (d :: l) = smal d l := by
  rw [smal_cons, if_neg (Int.lt_irrefl d)]
  omega
theorem smal_perm {d : Int} {l m : List Int} (h : l.Perm m) : smal d l = smal d m := (h.filter _).length_eq
theorem smal_mono {x y : Int} (h : x < y) : ∀ l : List Int, smal x l ≤ smal y l
  | [] => Nat.le_refl _
  | z :: t => by
    have := smal_mono h t
    rw [smal_cons, smal_cons]
    by_cases h1 : z < x
    · rw [if_pos h1, if_pos (by omega)]
      omega
    · rw [if_neg h1]
      omega
theorem smal_lt {x y : Int} (h : x < y) : ∀ l : List Int, x ∈ l → smal x l + 1 ≤ smal y l
  | z :: t, m => by
    rw [smal_cons, smal_cons]
    rcases List.mem_cons.mp m with e | m
    · have := smal_mono h t
      rw [if_neg (by omega), if_pos (by omega)]
      omega
    · have := smal_lt h t m
      by_cases h1 : z < x
      · rw [if_pos h1, if_pos (by omega)]
        omega
      · rw [if_neg h1]
        omega
def idxR : List Int → Nat
  | [] => 0
  | d :: r => smal d r * fct r.length + idxR r
theorem idx_lt : ∀ l : List Int, idxR l < fct l.length
  | [] => Nat.one_pos
  | d :: r => by
    have h1 := idx_lt r
    have h2 := Nat.mul_le_mul_right (fct r.length) (smal_le d r)
    show smal d r * fct r.length + idxR r < (r.length + 1) * fct r.length
    rw [Nat.succ_mul]
    omega
/-! ### and back -/
def atR : Nat → List Int → Nat → List Int
  | 0, _, _ => []
  | k + 1, left, rest => left.getD (rest / fct k) 0 :: atR k (left.eraseIdx (rest / fct k)) (rest % fct k)
theorem sorted_at {d : Int} : ∀ {l : List Int}, l.Pairwise (· < ·) → d ∈ l → l[smal d l]? = some d
  | x :: t, hp, m => by
    have h1 := List.pairwise_cons.mp hp
    rw [smal_cons]
    rcases List.mem_cons.mp m with e | m
    · subst e
      rw [if_neg (Int.lt_irrefl d)]
      have : smal d t = 0 := by
        unfold smal
        rw [List.length_eq_zero_iff, List.filter_eq_nil_iff]
        intro z hz
        have := h1.1 z hz
        simp only [decide_eq_true_eq]
        omega
      rw [this]
      rfl
    · rw [if_pos (h1.1 d m), Nat.add_comm, List.getElem?_cons_succ]
      exact sorted_at h1.2 m
theorem at_idxR : ∀ (ns left : List Int), left.Pairwise (· < ·) → ns.Perm left → atR ns.length left (idxR ns) = ns
  | [], _, _, _ => rfl
  | d :: r, left, hs, hp => by
    have hl := idx_lt r
    have e1 : idxR (d :: r) / fct r.length = smal d r := by
      show (smal d r * fct r.length + idxR r) / fct r.length = _
      rw [Nat.add_comm, Nat.mul_comm, Nat.add_mul_div_left _ _ (fct_pos _), Nat.div_eq_of_lt hl, Nat.zero_add]
    have e2 : idxR (d :: r) % fct r.length = idxR r := by
      show (smal d r * fct r.length + idxR r) % fct r.length = _
      rw [Nat.add_comm, Nat.mul_comm, Nat.add_mul_mod_self_left, Nat.mod_eq_of_lt hl]
    have e3 : smal d r = smal d left := by rw [← smal_self d r]; exact smal_perm hp
    have m : d ∈ left := hp.mem_iff.mp (List.mem_cons_self ..)
    have g := sorted_at hs m
    show left.getD (idxR (d :: r) / fct r.length) 0 :: atR r.length (left.eraseIdx (idxR (d :: r) / fct r.length)) (idxR (d :: r) % fct r.length) = d :: r
    rw [e1, e2, e3, List.getD_eq_getElem?_getD, g]
    have hp2 : r.Perm (left.eraseIdx (smal d left)) := (List.Perm.cons_inv ((perm_erase g).trans hp.symm)).symm
    rw [at_idxR r _ (hs.sublist (List.eraseIdx_sublist ..)) hp2]
    rfl
theorem rng_sorted (n : Nat) : (rng n).Pairwise (· < ·) := by
  unfold rng
  rw [List.pairwise_map]
  exact List.pairwise_lt_range.imp (by intro a b h; omega)
theorem Rank.at {n : Nat} {ns : List Int} (h : Rank n ns) : atR n (rng n) (idxR ns) = ns := by
  have := at_idxR ns (rng n) (rng_sorted n) h
  rw [h.len] at this
  exact this
/-! ### the order -/
theorem idx_lex : ∀ {a b : List Int}, a.Perm b → HT.lexLt a b = decide (idxR a < idxR b)
  | [], [], _ => rfl
  | [], y :: s, h => absurd h.length_eq (by simp)
  | x :: r, [], h => absurd h.length_eq (by simp)
  | x :: r, y :: s, h => by
    have hl : r.length = s.length := by have := h.length_eq; simpa using this
    have e1 : smal x r = smal x (y :: s) := by rw [← smal_self x r]; exact smal_perm h
    have h1 := idx_lt r
    have h2 := idx_lt s
    rcases Int.lt_trichotomy x y with c | c | c
    · have e2 : smal x r + 1 ≤ smal y s := by
        rw [e1, ← smal_self y s]
        exact smal_lt c _ (h.mem_iff.mp (List.mem_cons_self ..))
      have m := Nat.mul_le_mul_right (fct s.length) e2
      rw [Nat.succ_mul] at m
      have : idxR (x :: r) < idxR (y :: s) := by
        show smal x r * fct r.length + idxR r < smal y s * fct s.length + idxR s
        rw [hl] at h1 ⊢
        omega
      rw [decide_eq_true this]
      rw [HT.lexLt_cons, if_neg (by omega), decide_eq_true c]
    · subst c
      have hp := List.Perm.cons_inv h
      have ih := idx_lex hp
      have e2 : smal x r = smal x s := smal_perm hp
      have : (idxR (x :: r) < idxR (x :: s)) ↔ idxR r < idxR s := by
        show smal x r * fct r.length + idxR r < smal x s * fct s.length + idxR s ↔ _
        rw [hl, e2]
        omega
      rw [decide_eq_decide.mpr this]
      rw [HT.lexLt_cons, if_pos rfl, ih]
    · have e2 : smal y s + 1 ≤ smal x r := by
        rw [e1, ← smal_self y s]
        exact smal_lt c _ (List.mem_cons_self ..)
      have m := Nat.mul_le_mul_right (fct s.length) e2
      rw [Nat.succ_mul] at m
      have : ¬ idxR (x :: r) < idxR (y :: s) := by
        show ¬ smal x r * fct r.length + idxR r < smal y s * fct s.length + idxR s
        rw [hl]
        omega
      rw [decide_eq_false this]
      rw [HT.lexLt_cons, if_neg (by omega), decide_eq_false (by omega)]
/-! ### all rankings of few dishes -/
def allS (n : Nat) (rows : List (List Int)) : List (List Int) := rows.flatMap fun row => ((rng n).filter fun d => !row.contains d).map fun d => row ++ [d]
def allT (n : Nat) : Nat → List (List Int)
  | 0 => [[]]
  | k + 1 => allS n (allT n k)
theorem all_few : ∀ n, n < 6 → ((allT n n).map idxR = List.range (fct n) ∧ ∀ r ∈ allT n n, r.isPerm (rng n) = true) := by decide +kernel
theorem all_len : ∀ n, n < 6 → ∀ k, k < 6 → (allT n k).length ≤ 400 ∧ ∀ r ∈ allT n k, r.length = k := by decide +kernel
theorem all_at {n i : Nat} {r : List Int} (h : n < 6) (g : (allT n n)[i]? = some r) : idxR r = i ∧ Rank n r ∧ i < fct n := by
  obtain ⟨a, b⟩ := all_few n h
  have e : ((allT n n).map idxR)[i]? = some (idxR r) := by rw [List.getElem?_map, g]; rfl
  rw [a] at e
  have hi := (List.getElem?_eq_some_iff.mp e).1
  rw [List.length_range] at hi
  rw [List.getElem?_range hi] at e
  exact ⟨(Option.some.inj e).symm, List.isPerm_iff.mp (b r (List.mem_of_getElem? g)), hi⟩
theorem all_count {n : Nat} (h : n < 6) : (allT n n).length = fct n := by
  have := congrArg List.length (all_few n h).1
  rwa [List.length_map, List.length_range] at this
end TR
namespace TR
open PySem PySem.Spec PyProof.Rows L2
theorem flat_ints (ys : List Int) : (ys.map V.int).all flatV = true := by
  rw [List.all_map]; exact List.all_eq_true.mpr fun _ _ => rfl
section
variable {X : Cx}
/-- t.index(k), t a tuple of ints: the first place -/
theorem mt_tupIdx : MtR X "tuple.index" (fun x xs H Q => ∃ p, ∃ ys : List Int, ∃ z j, x = .ref p ∧ xs = [.int z] ∧ SqT X.K H p (ys.map V.int) ∧ ys[j]? = some z ∧ (∀ m, m < j → ys[m]? ≠ some z) ∧ Q (.int (j : Nat)) H) := by
  intro pins s σ H x xs v us Q I rx rs h
  obtain ⟨p, ys, z, j, rfl, rfl, hS, hy, hno, q⟩ := h
  cases rx
  obtain ⟨u, rfl, t, rfl⟩ := vals1 rs
  obtain ⟨its, r, pl, hz⟩ := I.tuple hS
  obtain ⟨⟨c1, dd, dt, sl⟩, ho, hc, n, hd⟩ := pl
  simp only at hc hd; subst hc; subst hd
  have hl : its.toArray.size = ys.length := by
    rw [List.size_toArray, ← r.length]; exact List.length_map _
  have hj : j < its.toArray.size := hl.symm ▸ (List.getElem?_eq_some_iff.mp hy).1
  have pick : ∀ (m : Nat) (hm : m < its.toArray.size), ∃ y t', ys[m]? = some y ∧ its.toArray[m] = Value.int y t' := fun m hm => by
    have hm2 : m < ys.length := hl ▸ hm
    obtain ⟨w, hw, t', hw'⟩ := r.get (i := m) (x := .int ys[m]) (by simp [hm2])
    refine ⟨ys[m], t', List.getElem?_eq_getElem hm2, ?_⟩
    have e := (List.getElem?_eq_some_iff.mp hw).2
    rw [← hw', ← e]; simp
  refine call_meets PySem.F.slot_tuple_index ⟨_, ho, rfl⟩ PySem.F.entry_tuple_index (PySem.F.args_tuple_index_2 _ _) (TI.tuple_indexAt p its.toArray n dd sl (.int z t) (eqU (.int z)) j hj ?_ ?_)
    ⟨ho, fun w hw => mem_eqAt (x := .int z) ⟨t, rfl⟩ rfl r (flat_ints ys) w (by simpa using hw), ⟨.int (j : Nat), H, I.tok _, ⟨_, rfl⟩, q⟩⟩
  · obtain ⟨y, t', h1, h2⟩ := pick j hj
    rw [hy] at h1; cases h1; rw [h2]
    show (z == z) = true; exact beq_self_eq_true z
  · intro m hm hmj
    obtain ⟨y, t', h1, h2⟩ := pick m hm
    rw [h2]; show (y == z) = false
    exact beq_eq_false_iff_ne.mpr fun e => hno m hmj (e ▸ h1)
end
section
variable {prog : Program} {w : World} {A : Around} {E : Value → Shared → Prop} {s : Shared}
theorem places_back (n : Nat) : Builtin.Slice.slicePlaces ((n : Int) - 1) (-1) (-1) = n := by
  unfold Builtin.Slice.slicePlaces
  rw [if_neg (show ¬ ((-1 : Int) > 0) by decide)]
  by_cases h : (n : Int) - 1 > -1
  · rw [if_pos h, show (- -1 : Int) = 1 by decide, Int.ediv_one]; omega
  · rw [if_neg h]; omega
theorem applied_back {sl : Addr} {vs : Value} {n : Nat} {Q : Int × Int × Nat → Shared → Prop} (hs : s.heap.IsSliceOf sl .none .none vs) (ps : IsPart vs (some (-1))) (h : Q ((n : Int) - 1, -1, n) s) :
    wpAny (model prog w) A (Builtin.Slice.sliceApplied (.ref sl) (pure (n : Int))) Q E s := by
  obtain ⟨os, hos, hcs, hds⟩ := id hs
  unfold Builtin.Slice.sliceApplied Builtin.Slice.sliceFields
  refine wpAny_bind (wpAny_bind (wpAny_field hos hds (x := .none) rfl (wpAny_bind (wpAny_field hos hds (x := .none) rfl (wpAny_bind (wpAny_field hos hds (x := vs) rfl (wpAny_pure ?_)))))))
  refine wpAny_bind (HT.slicePart_ ps ?_)
  show wpAny _ _ (if ((-1 : Int) == 0) = true then _ else _) _ _ s
  rw [if_neg (show ¬ (((-1 : Int) == 0) = true) by decide)]
  refine wpAny_bind (HT.slicePart_ .none (wpAny_bind (HT.slicePart_ .none (wpAny_bind (wpAny_pure ?_)))))
  show wpAny _ _ (pure ((n : Int) - 1, (-1 : Int), Builtin.Slice.slicePlaces ((n : Int) - 1) (-1) (-1))) _ _ s
  rw [places_back]; exact wpAny_pure h
theorem pick_back (xs : Array Value) : ((List.range xs.size).filterMap fun (k : Nat) => xs[((xs.size : Int) - 1 + (k : Int) * -1).toNat]?).toArray = xs.toList.reverse.toArray := by
  have e : ((List.range xs.size).filterMap fun (k : Nat) => xs[((xs.size : Int) - 1 + (k : Int) * -1).toNat]?) = ((List.range xs.size).map fun k => xs.size - 1 - k).filterMap (xs[·]?) := by
    rw [List.filterMap_map]
    refine congrArg (fun g => (List.range xs.size).filterMap g) (funext fun k => ?_)
    show xs[((xs.size : Int) - 1 + (k : Int) * -1).toNat]? = xs[xs.size - 1 - k]?
    rw [show ((xs.size : Int) - 1 + (k : Int) * -1).toNat = xs.size - 1 - k by omega]
  rw [e, PySem.W.krv_range, List.filterMap_reverse, PySem.W.krv_all]
theorem getItem_back {t sl : Addr} {items : Array Value} {vs : Value} {Q : Value → Shared → Prop} (ht : IsTup s.heap t items) (hs : s.heap.IsSliceOf sl .none .none vs) (ps : IsPart vs (some (-1)))
    (h : Q (.ref s.heap.objs.size) { s with heap := s.heap.push { cls := .type "tuple", data := .seq items.toList.reverse.toArray } }) (hsz : items.size ≤ sizeLine) : wpAny (model prog w) A (getItem (.ref t) (.ref sl)) Q E s := by
  have hok : sizeOk (.seq items.toList.reverse.toArray) := by
    show items.toList.reverse.toArray.size ≤ sizeLine
    rw [List.size_toArray, List.length_reverse]; exact hsz
  obtain ⟨os, hos, hcs, hds⟩ := id hs
  have hTs : s.TypeIs (.ref sl) "slice" := ⟨os, hos, hcs⟩
  unfold getItem
  try with_reducible refine wpAny_holding ?_
  first | refine wpAny_bind (wpAny_pure ?_) | skip
  refine wpAny_bind (wpAny_sequenceKey ht.typeIs (by decide) ?_)
  refine wpAny_bind (wpAny_callSpecial?_slot (name := Str.ofString "__getitem__") ht.typeIs PyProof.Rows.slot_tuple_getitem (wpAny_call_entry PyProof.Rows.slot_tuple_getitem ht.typeIs entry_tuple_getitem ?_ (args_tuple_getitem _ _)))
  show wpAny _ _ (Builtin.Tuple.tupleItemsOf (.ref t) >>= _) _ _ s
  refine wpAny_bind (PyProof.Rows.tupleItemsOf_ ht (wpAny_bind (wpAny_typeOf hTs ?_)))
  rw [if_pos (by decide)]
  refine wpAny_bind (applied_back hs ps ?_)
  have hno : ¬ ((((items.size : Int) - 1 == 0) && (-1 : Int) == 1 && items.size == items.size) = true) := by
    rw [show ((-1 : Int) == 1) = false by decide, Bool.and_false, Bool.false_and]; exact Bool.false_ne_true
  show wpAny _ _ (if (((items.size : Int) - 1 == 0) && (-1 : Int) == 1 && items.size == items.size) = true then _ else _) _ _ s
  rw [if_neg hno, pick_back]
  first
    | exact wpAny_bind (m := Builtin.Tuple.tupleExact _) (wpAny_newObj_type (wpAny_pure ⟨_, rfl, wpAny_pure h⟩) hok)
    | exact wpAny_bind (wpAny_bind (m := Builtin.Tuple.tupleExact _) (wpAny_newObj_type (wpAny_pure ⟨_, rfl, wpAny_pure h⟩) hok))
    | exact wpAny_bind (wpAny_bind (m := Builtin.Tuple.tupleExact _) (wpAny_newObj_type (wpAny_pure (wpAny_pure ⟨_, rfl, wpAny_pure h⟩)) hok))
end
section
variable {X : Cx}
/-- t[::-1], t a tuple: always a new one -/
def tRevT (K : PySem.W.Frag) (te : TE) : TE := fun σ H Q => te σ H fun x H1 => ∃ a xs, x = .ref a ∧ SqT K H1 a xs ∧ ∀ p o, H1 p = none → o.dict = none → Q (.ref p) (upd H1 p (.frz o (.tup xs.reverse)))
theorem pe_revT {e : Expr} {te : TE} {k : Nat} {p1 p2 p3 pos : Pos} (he : PE X e te) : PE X (.Subscript e (.Slice none none (some (.UnaryOp .USub (.Constant (.int 1) k p1) p2)) p3) pos) (tRevT X.K te) := by
  refine ⟨fun pins s σ H Q I h => Subscript_ (thn (he.run pins s σ H _ I h) fun v s1 ⟨x, H1, I1, r1, a, xs, ex, hx, q⟩ => ?_)⟩
  subst ex; cases r1
  have hst : PO X (some (.UnaryOp .USub (.Constant (.int 1) k p1) p2)) (tPart (tUn (rU fun i => .int (-i)) (tC (.int 1)))) := po_some (pe_un un_neg pe_int)
  refine wpAny_Slice (thn (po_none.run pins s1 σ H1 (fun o G => o = none ∧ G = H1) I1 ⟨rfl, rfl⟩) fun vl s2 ⟨l, H2, I2, pl, el, e2⟩ => ?_)
  subst el e2
  refine thn (po_none.run pins s2 σ H2 (fun o G => o = none ∧ G = H2) I2 ⟨rfl, rfl⟩) fun vu s3 ⟨u, H3, I3, pu, eu, e3⟩ => ?_
  subst eu e3
  refine thn (hst.run pins s3 σ H3 (fun o G => o = some (-1) ∧ G = H3) I3 ⟨1, rfl, -1, rfl, rfl, rfl⟩) fun vs s4 ⟨o, H4, I4, ps, eo, e4⟩ => ?_
  subst eo e4
  cases pl; cases pu
  have I5 : Inv X pins σ H4 { s4 with heap := s4.heap.push { cls := .type "slice", data := .fields #[.none, .none, vs] } } := I4.kept (t' := s4.toks) fun b ob q => Heap.get?_push_of_some _ q
  obtain ⟨its, r, ht, hz⟩ := I5.tuple hx
  have hlen := r.length
  show wpAny (model X.prog X.w) X.A (subscriptTail e (.Slice none none (some (.UnaryOp .USub (.Constant (.int 1) k p1) p2)) p3) (.ref a) (.ref s4.heap.objs.size)) (EP X pins σ Q) X.xe { s4 with heap := s4.heap.push { cls := .type "slice", data := .fields #[.none, .none, vs] } }
  refine tail_any (ops := [.ref a, .ref s4.heap.objs.size]) ht.typeIs (PyProof.Rows.slot_tuple_getitem.lookup) ?_ (by with_unfolding_all rfl)
  refine getItem_back ht (Heap.IsSliceOf.new _ .none .none vs) ps ?_ (by rw [List.size_toArray]; omega)
  refine ⟨.ref _, _, I5.laid (t' := s4.toks) (o := .frz { cls := .type "tuple", data := .seq its.toArray.toList.reverse.toArray } (.tup xs.reverse)) (fun b ob q => Heap.get?_push_of_some _ q) (Nat.le_refl _) ?_, rfl, q _ _ (I5.hok.fresh (Nat.le_refl _)) rfl⟩
  exact ⟨Heap.get?_push_size _ rfl, by rw [List.length_reverse]; exact hz, _, r.reverse, IsTup.new _ _⟩
/-- tuple(a list): the new tuple, as the very object -/
theorem call_tupleF : CallR X (.type "tuple") (fun xs H Q => ∃ p ys, xs = [.ref p] ∧ SqL X.K H p ys ∧ ∀ l o, H l = none → o.dict = none → Q (.ref l) (upd H l (.frz o (.tup ys)))) := by
  intro pins s σ H xs us Q I r ⟨p, ys, ex, hS, q⟩
  subst ex
  obtain ⟨u, rfl, rx⟩ := vals1 r
  cases rx
  obtain ⟨its, r', pl, hz⟩ := I.list hS
  have hlen := r'.length
  refine call_tuple_list pl.isList (fun h' kp => ?_) (by simp only [List.size_toArray] <;> omega)
  have I1 : Inv X pins σ H { s with heap := h' } := I.kept (t' := s.toks) kp
  exact ⟨.ref h'.objs.size, _, I1.laid (t' := s.toks) (o := .frz { cls := .type "tuple", data := .seq its.toArray } (.tup ys)) (fun b o e => Heap.get?_push_of_some _ e) (Nat.le_refl _) ⟨Heap.get?_push_size _ rfl, hz, its, r', IsTup.new _ _⟩, rfl, q _ _ (I1.hok.fresh (Nat.le_refl _)) rfl⟩
/-- (a, b, ..): the same -/
def tTupF (t : TA) : TE := fun σ H Q => t σ H fun xs H1 => xs.length ≤ sizeLine ∧ ∀ p o, H1 p = none → o.dict = none → Q (.ref p) (upd H1 p (.frz o (.tup xs)))
theorem pe_tupF {es : List Expr} {t : TA} {pos : Pos} {x1} (h : PA X es t) : PE X (.Tuple es x1 pos) (tTupF t) := by
  refine ⟨fun pins s σ H Q I hq => wpAny_Tuple_spliced (thn (h.run pos pins s σ H _ I hq) fun us s1 ⟨xs, H1, I1, r, z, q⟩ => ⟨by rw [← r.length]; exact z, ?_⟩)⟩
  exact ⟨.ref s1.heap.objs.size, _, I1.laid (t' := s1.toks) (o := .frz { cls := .type "tuple", data := .seq us.toArray } (.tup xs)) (fun b u e => Heap.get?_push_of_some _ e) (Nat.le_refl _) ⟨Heap.get?_push_size _ rfl, z, us, r, IsTup.new _ _⟩, rfl, q _ _ (I1.hok.fresh (Nat.le_refl _)) rfl⟩
/-- t + u -/
def rCatF (K : PySem.W.Frag) : R2 := fun x y H Q => ∃ a b xs ys, x = .ref a ∧ y = .ref b ∧ SqT K H a xs ∧ SqT K H b ys ∧ xs.length + ys.length ≤ sizeLine ∧
  (xs = [] → Q (.ref b) H) ∧ (xs ≠ [] → ys = [] → Q (.ref a) H) ∧ (xs ≠ [] → ys ≠ [] → ∀ p o, H p = none → o.dict = none → Q (.ref p) (upd H p (.frz o (.tup (xs ++ ys)))))
theorem op_catF : OpR X (binaryOp .Add) (rCatF X.K) := by
  intro pins s σ H x y v u Q I rx ry ⟨a, b, xs, ys, ex, ey, ha, hb, hz, q0, q1, q2⟩
  subst ex ey; cases rx; cases ry
  obtain ⟨its, r1, p1, _⟩ := I.tuple ha
  obtain ⟨its2, r2, p2, _⟩ := I.tuple hb
  by_cases hx : xs = []
  · subst hx; cases r1
    exact cat_tup0 p1 p2 ⟨.ref b, H, I, rfl, q0 rfl⟩
  · refine HT.cat_tup p1 p2 (fun z => hx (r1.nil_iff.mp z)) (fun z => ⟨.ref a, H, I, rfl, q1 hx (r2.nil_iff.mp z)⟩) (fun z => ?_) (by rw [← r1.length, ← r2.length]; exact hz)
    exact ⟨.ref s.heap.objs.size, _, I.laid (t' := s.toks) (o := .frz { cls := .type "tuple", data := .seq (its ++ its2).toArray } (.tup (xs ++ ys))) (fun b ob q => Heap.get?_push_of_some _ q) (Nat.le_refl _)
      ⟨Heap.get?_push_size _ rfl, by rw [List.length_append]; exact hz, _, r1.append r2, IsTup.new _ _⟩, rfl, q2 hx (fun w => z (r2.nil_iff.mpr w)) _ _ (I.hok.fresh (Nat.le_refl _)) rfl⟩
/-- t[lo:hi] -/
def rSlF (K : PySem.W.Frag) : V → Option Int → Option Int → Hp → VK → Prop := fun x lo hi H Q => ∃ a xs, x = .ref a ∧ SqT K H a xs ∧
  (HT.sIx xs.length 0 lo = 0 ∧ HT.sIx xs.length xs.length hi = xs.length → Q (.ref a) H) ∧
  (¬ (HT.sIx xs.length 0 lo = 0 ∧ HT.sIx xs.length xs.length hi = xs.length) → ∀ p o, H p = none → o.dict = none → Q (.ref p) (upd H p (.frz o (.tup (cutV xs lo hi)))))
theorem sl_tupF : SlR X (rSlF X.K) := by
  intro pins s σ H x v vl vu lo hi sl Q I rx hs pl pu ⟨a, xs, ex, hx, q1, q2⟩
  subst ex; cases rx
  obtain ⟨its, r, ht, hz⟩ := I.tuple hx
  have hlen : its.toArray.size = xs.length := List.size_toArray.trans r.length.symm
  refine ⟨"tuple", _, PyProof.Rows.slot_tuple_getitem.lookup, ht.typeIs, ?_⟩
  by_cases hw : HT.sIx xs.length 0 lo = 0 ∧ HT.sIx xs.length xs.length hi = xs.length
  · exact getItem_tuple_whole ht hs pl pu (by rw [hlen]; exact hw) ⟨.ref a, H, I, rfl, q1 hw⟩
  · refine HT.getItem_tuple_cut ht hs pl pu (by rw [hlen]; exact hw) ?_ (by rw [hlen]; exact hz)
    rw [hlen]
    exact ⟨.ref s.heap.objs.size, _, I.laid (t' := s.toks) (o := .frz { cls := .type "tuple", data := .seq ((its.toArray.toList.drop (HT.sIx xs.length 0 lo)).take (HT.sIx xs.length xs.length hi - HT.sIx xs.length 0 lo)).toArray } (.tup (cutV xs lo hi))) (fun b ob q => Heap.get?_push_of_some _ q) (Nat.le_refl _)
      ⟨Heap.get?_push_size _ rfl, Nat.le_trans (cutV_length xs lo hi) hz, _, (r.drop (HT.sIx xs.length 0 lo)).take (HT.sIx xs.length xs.length hi - HT.sIx xs.length 0 lo), IsTup.new _ _⟩, rfl, q2 hw _ _ (I.hok.fresh (Nat.le_refl _)) rfl⟩
/-- t.m(e, ..), t a tuple that stands as the very object, without a dict of its own -/
def tBMT (r : V → List V → Hp → VK → Prop) (to : TE) (t : TA) : TE := fun σ H Q => to σ H fun x H1 => (∃ p ob ys, x = .ref p ∧ ob.dict = none ∧ H1 p = some (.frz ob (.tup ys))) ∧ t σ H1 fun xs H2 => r x xs H2 Q
theorem pe_bmT {o e : Expr} {es : List Expr} {to : TE} {t : TA} {name : Str} {apos cpos : Pos} {id : String} {r : V → List V → Hp → VK → Prop} (slot : Slot "tuple" name id) (hty : typeOf (.builtin id) = pure (.type "method_descriptor")) (hm : MtR X id r) (ho : PE X o to) (ha : PA X (e :: es) t)
    (hbase : attributeBase o name X.env (eval o X.env) = eval o X.env := by rfl)
    (hfew : ((backTo cpos (starEach (e :: es) X.env)).all (fun x => !x.1) && (backToKw cpos (keywordEach [] X.env)).all (fun x => x.1.isSome) && decide ((e :: es).length + ([] : List Keyword).length + (if ([] : List Keyword).isEmpty then 0 else 1) < 30)) = true := by rfl)
    (hline : (apos.endLine == cpos.line) = true := by rfl) (hs : starEach (e :: es) X.env = (false, eval e X.env) :: starEach es X.env := by rfl) (hplain : (backTo cpos (starEach es X.env)).any (·.1) = false := by rfl) :
    PE X (.Call (.Attribute o name apos) (e :: es) [] cpos) (tBMT r to t) := by
  refine ⟨fun pins s σ H Q I h => wpAny_Call_method_late hbase hfew hline rfl (thn (ho.run pins s σ H _ I h) fun v s1 ⟨x, H1, I1, r1, ⟨p, ob, ys, ex, hd, hp⟩, q1⟩ => ?_)⟩
  subst ex
  cases (show v = Value.ref p from r1)
  obtain ⟨g, z, its, rv, o', g', c', _⟩ := (show ObjOk X.prog X.w H1 s1.heap p (.frz ob (.tup ys)) from I1.hok p _ hp)
  refine ⟨"tuple", id, PySem.F.plainAttrs_tuple, slot, hty, ⟨o', g', c'⟩, fun a e => by cases e; exact ⟨ob, g, hd⟩, ?_⟩
  have hA := ha.run cpos pins s1 σ H1 _ I1 q1
  rw [hs] at hA ⊢
  refine Calls.callWith_builtin (by show (false || (backTo cpos (starEach es X.env)).any (·.1)) = false; rw [hplain] <;> rfl) (Calls.evalArgs_plain (thn hA fun us s2 ⟨vs, H2, I2, r2, q2⟩ => ?_))
  exact hm pins s2 σ H2 (.ref p) vs (.ref p) us Q I2 rfl r2 q2
end
end TR
namespace TR
open PySem PySem.Spec PyProof.Rows L2
section
variable {prog : Program} {w : World} {A : Around} {E : Value → Shared → Prop} {s : Shared}
/-- what a tuple is collected into -/
theorem collect_tup {t : Addr} {vs : List Value} {Q : List Value → Shared → Prop} (ht : IsTup s.heap t vs.toArray) (h : Q vs { s with heap := (s.heap.push (seqObj "list" #[] 0)).update s.heap.objs.size (Obj.mapSeq (· ++ vs.toArray)) }) (hsz : vs.length ≤ sizeLine) : wpAny (model prog w) A (collect (.ref t)) Q E s := by
  obtain ⟨o, ho, hc, n, hd⟩ := id ht
  have ho2 : (s.heap.push (seqObj "list" #[] 0)).get? t = some o := Heap.get?_push_of_some _ ho
  unfold collect; refine wpAny_bind (wpAny_runValue (codeAny_builtin entry_proto_collect' ?_))
  show wpAny _ _ (do again (.builtin "list.__iadd__" ⟨[← newList [], .ref t], []⟩)) _ _ s
  refine wpAny_bind (wpAny_newList (wpAny_pure ⟨Code.quiet_builtin _ (by decide +kernel), codeAny_builtin entry_list_iadd' ?_⟩) (Nat.zero_le _))
  show wpAny _ _ (Builtin.List.listExtendWith (.ref s.heap.objs.size) (.ref t) (.ref s.heap.objs.size)) _ _ { s with heap := s.heap.push (seqObj "list" #[] 0) }
  unfold Builtin.List.listExtendWith; refine wpAny_bind (wpAny_typeOf (T := "tuple") ⟨o, ho2, hc⟩ ?_)
  have hy : (Value.type "tuple" == Value.type "tuple") = true := rfl
  rw [if_pos (by rw [hy]; simp)]; refine wpAny_bind (listItems_at ho2 hd ?_)
  refine wpAny_bind (listItems_at (xs := #[]) (n := 0) (Heap.get?_push_size _ rfl) rfl ?_); rw [if_neg (by simp)]
  refine wpAny_bind (listUpdate_at (xs := #[]) (n := 0) (Heap.get?_push_size _ rfl) rfl (wpAny_pure ?_) (Nat.zero_le _) (by show (#[] ++ vs.toArray).size ≤ sizeLine + 1; simp only [Array.size_append, List.size_toArray, List.length_nil]; omega))
  show wpAny (model prog w) A (load s.heap.objs.size >>= fun ob => match ob.data with | .seq xs _ => pure xs.toList | _ => unsupported "internal:collect") Q E { s with heap := (s.heap.push (seqObj "list" #[] 0)).update s.heap.objs.size (Obj.mapSeq (· ++ vs.toArray)) }
  refine wpAny_bind (wpAny_load (get?_update_seq (Heap.get?_push_size _ rfl) _) ?_)
  show wpAny _ _ (pure ((#[] : Array Value) ++ vs.toArray).toList) Q E _; rw [show ((#[] : Array Value) ++ vs.toArray).toList = vs by simp]; exact wpAny_pure h
/-- sorted of a tuple -/
theorem sorted_tupO {t : Addr} {vs : List Value} {ltv : Value → Value → Bool} {Q : Value → Shared → Prop} (O : SrtO.Swo ltv) (ht : IsTup s.heap t vs.toArray) (hz : vs.length ≤ sizeLine)
    (hS : 2 ≤ vs.length → ∀ (g : Heap) (a : Addr), g.get? a = some (seqObj "list" vs.toArray 0) → (∀ b o, s.heap.get? b = some o → b ≠ a ∧ g.get? b = some o) → SrtO.SortableO prog w A.in1.in1 { s with heap := g } a vs ltv)
    (h : ∀ out : List Value, SrtO.Srtd ltv out → SrtO.Stb ltv out vs → Q (.ref (s.heap.objs.size + 1)) { s with heap := sortedAll s.heap vs out.toArray }) : wpAny (model prog w) A (call (.builtin "sorted") [.ref t]) Q E s := by
  refine Calls.call_function_entry kind_sorted plain_sorted entry_sorted (args_sorted1 _) ?_
  unfold Builtin.«sorted»; refine wpAny_bind (m := checkCount "sorted" 1 1 _) (wpAny_pure (wpAny_bind (collect_tup ht (wpAny_bind (wpAny_newList ?_ hz)) hz)))
  have hn : ((s.heap.push (seqObj "list" #[] 0)).update s.heap.objs.size (Obj.mapSeq (· ++ vs.toArray))).objs.size = s.heap.objs.size + 1 := by rw [Heap.size_update]; simp [Heap.push]
  have hL : (((s.heap.push (seqObj "list" #[] 0)).update s.heap.objs.size (Obj.mapSeq (· ++ vs.toArray))).push (seqObj "list" vs.toArray 0)).get? (s.heap.objs.size + 1) = some (seqObj "list" vs.toArray 0) := hn ▸ Heap.get?_push_size _ rfl
  have kp : ∀ b o, s.heap.get? b = some o → b ≠ s.heap.objs.size + 1 ∧ (((s.heap.push (seqObj "list" #[] 0)).update s.heap.objs.size (Obj.mapSeq (· ++ vs.toArray))).push (seqObj "list" vs.toArray 0)).get? b = some o := fun b o q =>
    ⟨Nat.ne_of_lt (Nat.lt_succ_of_lt (Heap.lt_size q)), Heap.get?_push_of_some _ (by rw [Heap.get?_update_ne _ _ _ _ (Nat.ne_of_lt (Heap.lt_size q))]; exact Heap.get?_push_of_some _ q)⟩
  show wpAny _ _ _ _ _ { s with heap := ((s.heap.push (seqObj "list" #[] 0)).update s.heap.objs.size (Obj.mapSeq (· ++ vs.toArray))).push (seqObj "list" vs.toArray 0) }; rw [hn]
  refine wpAny_bind (wpAny_holding (wpAny_call_entry slot_list_sort ⟨_, hL, rfl⟩ entry_list_sort (SrtO.list_sort_ord O hL hz (fun h2 => hS h2 _ _ hL kp) fun out a b => ⟨_, rfl, wpAny_pure ⟨_, rfl, h out a b⟩⟩) (args_list_sort _)))
end
section
variable {X : Cx}
/-- sorted(t), t a tuple of ints -/
def rSortedTI (K : PySem.W.Frag) : List V → Hp → VK → Prop := fun vs H Q => ∃ (a : Addr) (ns : List Int), vs = [V.ref a] ∧ SqT K H a (ns.map V.int) ∧ ∀ (ms : List Int) (p : Addr), ms.Perm ns → ms.Pairwise (· ≤ ·) → H p = none → Q (.ref p) (upd H p (.lst (ms.map V.int)))
theorem cr_sortedTI : CallR X (.builtin "sorted") (rSortedTI X.K) := by
  intro pins s σ H vs us Q I r ⟨a, ns, ev, hs, q⟩
  subst ev
  obtain ⟨its, rv, ht, hz⟩ := I.tuple hs
  rw [Vals.ref1 r]; have hi := rv.ints
  refine sorted_tupO SrtO.swo_int ht (by rw [← rv.length]; exact hz) (fun h2 g a' _ _ => SrtO.ints_sortable hi h2) fun out h1 h2 => ?_
  obtain ⟨k1, k2, k3⟩ := SrtO.ints_out hi h1 h2; obtain ⟨ep, he⟩ := PyProof.Rows.sortedAll_at s.heap its out.toArray
  have hl : ((out.map SrtO.iv).map V.int).length ≤ sizeLine := by rw [List.length_map, k2.length_eq]; rw [List.length_map] at hz; exact hz
  exact ⟨.ref _, upd H (s.heap.objs.size + 1) (.lst ((out.map SrtO.iv).map V.int)), I.laid (t' := s.toks) (fun _ _ => PyProof.Rows.sortedAll_old) (Nat.le_succ _) ⟨hl, out, ep, vals_of_ints k1, he⟩, rfl, q _ _ k2 k3 (I.hok.fresh (Nat.le_succ _))⟩
end
end TR
namespace TR
open PySem PySem.Spec PyProof.Rows L2
/-! ### values of any kind, as data; ban: where no list of them stands -/
mutual
def Rp (H : Hp) (ban : List Addr) : PyData → V → Prop
  | .none, v => v = .non
  | .bool b, v => v = .bl b
  | .int i, v => v = .int i
  | .str x, v => v = .str x
  | .list ds, v => ∃ a xs, v = .ref a ∧ H a = some (.lst xs) ∧ a ∉ ban ∧ RpAll H ban ds xs
  | .tuple ds, v => ∃ a xs, v = .ref a ∧ Rd H a (.tup xs) ∧ RpAll H ban ds xs
  | .dict kvs, v => kvs = [] ∧ ∃ a, v = .ref a ∧ H a = some (.dK [])
def RpAll (H : Hp) (ban : List Addr) : List PyData → List V → Prop
  | [], xs => xs = []
  | d :: ds, xs => ∃ v r, xs = v :: r ∧ Rp H ban d v ∧ RpAll H ban ds r
end
mutual
theorem Rp.mv {H H' : Hp} {ban : List Addr} (mL : ∀ a xs, a ∉ ban → H a = some (.lst xs) → H' a = some (.lst xs)) (mT : ∀ a xs, Rd H a (.tup xs) → Rd H' a (.tup xs)) (mD : ∀ a, H a = some (.dK []) → H' a = some (.dK [])) : ∀ (d : PyData) (v : V), Rp H ban d v → Rp H' ban d v
  | .none, _, h => h
  | .bool _, _, h => h
  | .int _, _, h => h
  | .str _, _, h => h
  | .list ds, _, h => by
    obtain ⟨a, xs, e, h1, h2, h3⟩ := h
    exact ⟨a, xs, e, mL a xs h2 h1, h2, RpAll.mv mL mT mD ds xs h3⟩
  | .tuple ds, _, h => by
    obtain ⟨a, xs, e, h1, h3⟩ := h
    exact ⟨a, xs, e, mT a xs h1, RpAll.mv mL mT mD ds xs h3⟩
  | .dict kvs, _, h => by
    obtain ⟨e0, a, e, h1⟩ := h
    exact ⟨e0, a, e, mD a h1⟩
theorem RpAll.mv {H H' : Hp} {ban : List Addr} (mL : ∀ a xs, a ∉ ban → H a = some (.lst xs) → H' a = some (.lst xs)) (mT : ∀ a xs, Rd H a (.tup xs) → Rd H' a (.tup xs)) (mD : ∀ a, H a = some (.dK []) → H' a = some (.dK [])) : ∀ (ds : List PyData) (xs : List V), RpAll H ban ds xs → RpAll H' ban ds xs
  | [], _, h => h
  | d :: ds, _, h => by
    obtain ⟨v, r, e, h1, h2⟩ := h
    exact ⟨v, r, e, Rp.mv mL mT mD d v h1, RpAll.mv mL mT mD ds r h2⟩
end
theorem rd_same {H H' : Hp} {a : Addr} {u : HO} (s : Same H H') (h : Rd H a u) : Rd H' a u := by
  rcases h with h | ⟨o, h⟩
  · exact .inl (s _ _ h)
  · exact .inr ⟨o, s _ _ h⟩
theorem Rp.same {H H' : Hp} {ban : List Addr} {d : PyData} {v : V} (h : Rp H ban d v) (s : Same H H') : Rp H' ban d v := Rp.mv (fun a xs _ e => s _ _ e) (fun a xs e => rd_same s e) (fun a e => s _ _ e) d v h
theorem RpAll.same {H H' : Hp} {ban : List Addr} {ds : List PyData} {xs : List V} (h : RpAll H ban ds xs) (s : Same H H') : RpAll H' ban ds xs := RpAll.mv (fun a xs _ e => s _ _ e) (fun a xs e => rd_same s e) (fun a e => s _ _ e) ds xs h
theorem Rp.keep {H H' : Hp} {ban : List Addr} {d : PyData} {v : V} {k p q : Addr} {n : Nat} (h : Rp H ban d v) (D : Deck H k p q n) (s : Keep k p H H') (b1 : k ∈ ban) (b2 : p ∈ ban) : Rp H' ban d v := by
  obtain ⟨x, y, c, e1⟩ := D.hd
  obtain ⟨zs, e2⟩ := D.hp
  refine Rp.mv (fun a xs hn e => s _ _ e (fun z => hn (z ▸ b1)) (fun z => hn (z ▸ b2))) (fun a xs e => ?_) (fun a e => s _ _ e (ne_of e e1 (by intro z; cases z)) (ne_of e e2 (by intro z; cases z))) d v h
  rcases e with e | ⟨o, e⟩
  · exact .inl (s _ _ e (ne_of e e1 (by intro z; cases z)) (ne_of e e2 (by intro z; cases z)))
  · exact .inr ⟨o, s _ _ e (ne_of e e1 (by intro z; cases z)) (ne_of e e2 (by intro z; cases z))⟩
theorem RpAll.len {H : Hp} {ban : List Addr} : ∀ {ds : List PyData} {xs : List V}, RpAll H ban ds xs → xs.length = ds.length
  | [], _, h => by rw [show _ = [] from h]; rfl
  | d :: ds, _, h => by
    obtain ⟨v, r, rfl, _, h2⟩ := h
    rw [List.length_cons, List.length_cons, RpAll.len h2]
theorem RpAll.get {H : Hp} {ban : List Addr} : ∀ {ds : List PyData} {xs : List V}, RpAll H ban ds xs → ∀ {i : Nat} {x : V}, xs[i]? = some x → ∃ d, ds[i]? = some d ∧ Rp H ban d x
  | [], _, h, i, x, e => by rw [show _ = [] from h] at e; simp at e
  | d :: ds, _, h, i, x, e => by
    obtain ⟨v, r, rfl, h1, h2⟩ := h
    cases i with
    | zero =>
      cases (Option.some.inj e)
      exact ⟨d, rfl, h1⟩
    | succ i => exact RpAll.get h2 e
theorem RpAll.app {H : Hp} {ban : List Addr} : ∀ {ds es : List PyData} {xs ys : List V}, RpAll H ban ds xs → RpAll H ban es ys → RpAll H ban (ds ++ es) (xs ++ ys)
  | [], _, _, _, h, g => by rw [show _ = [] from h]; exact g
  | d :: ds, _, _, _, h, g => by
    obtain ⟨v, r, rfl, h1, h2⟩ := h
    exact ⟨v, _, rfl, h1, RpAll.app h2 g⟩
theorem RpAll.take {H : Hp} {ban : List Addr} : ∀ {ds : List PyData} {xs : List V} (k : Nat), RpAll H ban ds xs → RpAll H ban (ds.take k) (xs.take k)
  | _, _, 0, _ => rfl
  | [], _, k + 1, h => by rw [show _ = [] from h]; rfl
  | d :: ds, _, k + 1, h => by
    obtain ⟨v, r, rfl, h1, h2⟩ := h
    exact ⟨v, _, rfl, h1, RpAll.take k h2⟩
theorem RpAll.drop {H : Hp} {ban : List Addr} : ∀ {ds : List PyData} {xs : List V} (k : Nat), RpAll H ban ds xs → RpAll H ban (ds.drop k) (xs.drop k)
  | _, _, 0, h => h
  | [], _, k + 1, h => by rw [show _ = [] from h]; rfl
  | d :: ds, _, k + 1, h => by
    obtain ⟨v, r, rfl, h1, h2⟩ := h
    exact RpAll.drop k h2
theorem RpAll.rev {H : Hp} {ban : List Addr} : ∀ {ds : List PyData} {xs : List V}, RpAll H ban ds xs → RpAll H ban ds.reverse xs.reverse
  | [], _, h => by rw [show _ = [] from h]; rfl
  | d :: ds, _, h => by
    obtain ⟨v, r, rfl, h1, h2⟩ := h
    rw [List.reverse_cons, List.reverse_cons]
    exact RpAll.app (RpAll.rev h2) ⟨v, [], rfl, h1, rfl⟩
theorem RpAll.ints {H : Hp} {ban : List Addr} : ∀ ns : List Int, RpAll H ban (ns.map PyData.int) (ns.map V.int)
  | [] => rfl
  | n :: r => ⟨_, _, rfl, rfl, RpAll.ints r⟩
/-! ### what is small enough to be shown -/
def leafOk (L : Nat) : PyData → Prop
  | .none => True
  | .bool _ => True
  | .int i => i.natAbs ≤ 10 ^ 59 + L
  | .str x => x.length ≤ 69 ∧ ∀ c ∈ x.cps.toList, c < 16 ^ 8
  | _ => False
def Wf (L : Nat) : Nat → PyData → Prop
  | 0, d => leafOk L d
  | D + 1, d => leafOk L d ∨ d = .dict [] ∨ ∃ ds, (d = .list ds ∨ d = .tuple ds) ∧ ds.length ≤ L ∧ ∀ e ∈ ds, Wf L D e
theorem leafOk.mono {L L' : Nat} (h : L ≤ L') : ∀ {d : PyData}, leafOk L d → leafOk L' d
  | .none, _ => trivial
  | .bool _, _ => trivial
  | .int i, g => Nat.le_trans g (Nat.add_le_add_left h _)
  | .str _, g => g
theorem Wf.mono {L L' : Nat} (h : L ≤ L') : ∀ {D D' : Nat} {d : PyData}, D ≤ D' → Wf L D d → Wf L' D' d
  | 0, 0, _, _, g => leafOk.mono h g
  | 0, _ + 1, _, _, g => .inl (leafOk.mono h g)
  | _ + 1, 0, _, k, _ => absurd k (by omega)
  | D + 1, D' + 1, _, k, g => by
    rcases g with g | g | ⟨ds, e, l, c⟩
    · exact .inl (leafOk.mono h g)
    · exact .inr (.inl g)
    · exact .inr (.inr ⟨ds, e, Nat.le_trans l h, fun x hx => Wf.mono h (by omega) (c x hx)⟩)
def bnd : Nat → Nat
  | 0 => 700
  | D + 1 => 3 + 11 * (bnd D + 2)
theorem bnd_ge : ∀ D, 700 ≤ bnd D
  | 0 => Nat.le_refl _
  | D + 1 => by
    have := bnd_ge D
    show 700 ≤ 3 + 11 * (bnd D + 2)
    omega
theorem small_int {L : Nat} (h : L ≤ 11) {i : Int} (g : i.natAbs ≤ 10 ^ 59 + L) : i.natAbs < 10 ^ 60 := by
  have e : (10 : Nat) ^ 60 = 10 * 10 ^ 59 := by decide
  have e2 : (11 : Nat) < 10 ^ 59 := by decide
  omega
theorem small_log {i : Int} (g : i.natAbs < 10 ^ 60) : i.natAbs.log2 < 1920 := by
  by_cases h : i.natAbs = 0
  · rw [h]; decide
  · refine (Nat.log2_lt h).mpr (Nat.lt_trans g (by decide +kernel))
theorem leaf_shown {L : Nat} (h : L ≤ 11) : ∀ {d : PyData}, leafOk L d → d.shown.length ≤ 700 ∧ d.showable = true ∧ d.depth = 0
  | .none, _ => ⟨by decide +kernel, rfl, rfl⟩
  | .bool b, _ => ⟨by cases b <;> decide +kernel, rfl, rfl⟩
  | .int i, g => by
    have g2 := small_int h g
    refine ⟨?_, decide_eq_true (small_log g2), rfl⟩
    show (Str.ofString (toString i)).length ≤ 700
    have := int_text_length_le10 (k := 60) (by decide) g2
    rw [PySem.ofString_length]
    omega
  | .str x, g => by
    refine ⟨?_, rfl, rfl⟩
    show (reprText x).length ≤ 700
    have := StrLaws.reprText_len x g.2
    have := g.1
    omega
theorem piled_le {B : Nat} : ∀ ts : List Str, (∀ t ∈ ts, t.length ≤ B) → piled ts ≤ ts.length * (B + 2)
  | [], _ => Nat.zero_le _
  | t :: r, h => by
    have := piled_le r fun x hx => h x (List.mem_cons_of_mem _ hx)
    have := h t (List.mem_cons_self ..)
    rw [piled_cons, List.length_cons, Nat.succ_mul]
    omega
theorem text_le : ∀ (ts : List Str) (k : Nat) (acc : Str), (textFrom k acc ts).length ≤ acc.length + piled ts
  | [], _, _ => Nat.le_refl _
  | t :: r, k, acc => by
    have := text_le r (k + 1) (acc ++ (if k > 0 then ", " else "" : String) ++ t)
    rw [Str.length_append, Str.length_append] at this
    have e : ((if k > 0 then ", " else "" : String) : Str).length ≤ 2 := by
      split <;> decide +kernel
    rw [piled_cons]
    show (textFrom (k + 1) (acc ++ (if k > 0 then ", " else "" : String) ++ t) r).length ≤ _
    omega
theorem list_le (ts : List Str) : (listText ts).length ≤ 2 + piled ts := by
  have := text_le ts 0 "["
  unfold listText
  rw [Str.length_append]
  have e1 : ("[" : Str).length = 1 := by decide +kernel
  have e2 : ("]" : Str).length = 1 := by decide +kernel
  omega
theorem tup_le (ts : List Str) : (tupleText ts).length ≤ 3 + piled ts := by
  unfold tupleText
  rw [Str.length_append, Str.length_append]
  have e1 : ("(" : Str).length = 1 := by decide +kernel
  have e2 : ((if (ts.length == 1) = true then ",)" else ")" : String) : Str).length ≤ 2 := by
    split <;> decide +kernel
  have e3 : (Str.join ", " ts).length ≤ piled ts := by
    cases ts with
    | nil => decide +kernel
    | cons t r =>
      have := join_length_add (t :: r) (by simp)
      omega
  omega
theorem shownAll_len : ∀ ds : List PyData, (PyData.shownAll ds).length = ds.length
  | [] => rfl
  | d :: r => by
    show (PyData.shownAll r).length + 1 = r.length + 1
    rw [shownAll_len r]
theorem shownAll_mem : ∀ (ds : List PyData) (t : Str), t ∈ PyData.shownAll ds → ∃ d ∈ ds, t = d.shown
  | [], _, h => by cases h
  | d :: r, t, h => by
    rcases List.mem_cons.mp h with e | h
    · exact ⟨d, List.mem_cons_self .., e⟩
    · obtain ⟨x, hx, e⟩ := shownAll_mem r t h
      exact ⟨x, List.mem_cons_of_mem _ hx, e⟩
theorem showAll : ∀ ds : List PyData, (∀ d ∈ ds, d.showable = true) → PyData.showableAll ds = true
  | [], _ => rfl
  | d :: r, h => by
    show (d.showable && PyData.showableAll r) = true
    rw [h d (List.mem_cons_self ..), showAll r fun x hx => h x (List.mem_cons_of_mem _ hx)]
    rfl
theorem depAll {D : Nat} : ∀ ds : List PyData, (∀ d ∈ ds, d.depth ≤ D) → PyData.depthAll ds ≤ D
  | [], _ => Nat.zero_le _
  | d :: r, h => by
    show max d.depth (PyData.depthAll r) ≤ D
    exact Nat.max_le.mpr ⟨h d (List.mem_cons_self ..), depAll r fun x hx => h x (List.mem_cons_of_mem _ hx)⟩
theorem Wf.shown {L : Nat} (h : L ≤ 11) : ∀ {D : Nat} {d : PyData}, Wf L D d → d.shown.length ≤ bnd D ∧ d.showable = true ∧ d.depth ≤ D
  | 0, _, g => by
    obtain ⟨a, b, c⟩ := leaf_shown h g
    exact ⟨a, b, by omega⟩
  | D + 1, d, g => by
    have hb : 700 ≤ bnd (D + 1) := bnd_ge (D + 1)
    rcases g with g | rfl | ⟨ds, e, l, c⟩
    · obtain ⟨a, b, c⟩ := leaf_shown h g
      exact ⟨Nat.le_trans a hb, b, by omega⟩
    · exact ⟨Nat.le_trans (by decide +kernel) hb, rfl, by show 0 + 1 ≤ D + 1; omega⟩
    · have ih := fun x hx => Wf.shown h (c x hx)
      have p1 : piled (PyData.shownAll ds) ≤ 11 * (bnd D + 2) := by
        refine Nat.le_trans (piled_le (B := bnd D) _ fun t ht => ?_) ?_
        · obtain ⟨x, hx, rfl⟩ := shownAll_mem ds t ht
          exact (ih x hx).1
        · rw [shownAll_len]
          exact Nat.mul_le_mul_right _ (by omega)
      have p2 := showAll ds fun x hx => (ih x hx).2.1
      have p3 := depAll ds fun x hx => (ih x hx).2.2
      rcases e with rfl | rfl
      · refine ⟨?_, p2, ?_⟩
        · show (listText (PyData.shownAll ds)).length ≤ 3 + 11 * (bnd D + 2)
          have := list_le (PyData.shownAll ds)
          omega
        · show PyData.depthAll ds + 1 ≤ D + 1
          omega
      · refine ⟨?_, p2, ?_⟩
        · show (tupleText (PyData.shownAll ds)).length ≤ 3 + 11 * (bnd D + 2)
          have := tup_le (PyData.shownAll ds)
          omega
        · show PyData.depthAll ds + 1 ≤ D + 1
          omega
theorem bnd_small {D : Nat} (h : D ≤ 4) : bnd D ≤ sizeLine := by
  have e : bnd 4 ≤ sizeLine := by decide +kernel
  have m : ∀ a b, a ≤ b → bnd a ≤ bnd b := by
    intro a b hab
    induction hab with
    | refl => exact Nat.le_refl _
    | step _ ih =>
      refine Nat.le_trans ih ?_
      show bnd _ ≤ 3 + 11 * (bnd _ + 2)
      omega
  exact Nat.le_trans (m D 4 h) e
end TR
namespace TR
open PySem PySem.Spec PyProof.Rows L2
section
variable {X : Cx} {pins : List (Addr × Obj)} {σ : L2.St} {H : Hp} {s : Shared}
mutual
theorem Rp.reads {ban : List Addr} (hb : sysModules ∈ ban) (I : Inv X pins σ H s) : ∀ (d : PyData) (v : V) (u : Value), Rp H ban d v → RelV v u → ∃ as, Reads s.heap u d as ∧ sysModules ∉ as
  | .none, _, _, h, r => by cases (show _ = V.non from h); cases r; exact ⟨_, .none, by simp⟩
  | .bool b, _, _, h, r => by cases (show _ = V.bl b from h); cases r; exact ⟨_, .bool b, by simp⟩
  | .int i, _, _, h, r => by cases (show _ = V.int i from h); obtain ⟨t, rfl⟩ := r; exact ⟨_, .int i t, by simp⟩
  | .str x, _, _, h, r => by cases (show _ = V.str x from h); obtain ⟨t, rfl⟩ := r; exact ⟨_, .str x t, by simp⟩
  | .list ds, _, _, h, r => by
    obtain ⟨a, xs, rfl, h1, h2, h3⟩ := h
    cases r
    obtain ⟨z, its, n, rv, e⟩ := (show ObjOk X.prog X.w H s.heap a (.lst xs) from I.hok a _ h1)
    obtain ⟨as, g, m⟩ := RpAll.reads hb I ds xs its h3 rv
    exact ⟨a :: as, .list e rfl rfl (by simpa using g), by simp only [List.mem_cons, not_or]; exact ⟨fun e => h2 (e ▸ hb), m⟩⟩
  | .tuple ds, _, _, h, r => by
    obtain ⟨a, xs, rfl, h1, h3⟩ := h
    cases r
    obtain ⟨z, its, rv, o, e, c, n, hd⟩ := h1.ok I.hok
    obtain ⟨as, g, m⟩ := RpAll.reads hb I ds xs its h3 rv
    exact ⟨as, .tuple e c hd (by simpa using g), m⟩
  | .dict kvs, _, _, h, r => by
    obtain ⟨rfl, a, rfl, h1⟩ := h
    cases r
    obtain ⟨z, hs, vs, kv, o, es, ep, e, ex, hd, _, ps, _⟩ := dk_of I.hok h1
    cases kv
    have hes : es = #[] := by
      cases es with
      | mk l =>
        cases (show Pairs _ l [] from ps)
        rfl
    subst hes
    refine ⟨[a], .dict (as := []) (bs := []) e ex.1 hd .nil .nil, fun m => ?_⟩
    have e2 : sysModules = a := List.mem_singleton.mp m
    rw [e2] at hs
    exact absurd hs (by simp)
theorem RpAll.reads {ban : List Addr} (hb : sysModules ∈ ban) (I : Inv X pins σ H s) : ∀ (ds : List PyData) (xs : List V) (us : List Value), RpAll H ban ds xs → Vals xs us → ∃ as, ReadsAll s.heap us ds as ∧ sysModules ∉ as
  | [], _, _, h, r => by cases (show _ = [] from h); cases r; exact ⟨_, .nil, by simp⟩
  | d :: ds, _, _, h, r => by
    obtain ⟨v, t, rfl, h1, h2⟩ := h
    cases r with
    | cons r1 r2 =>
      obtain ⟨as, q1, m1⟩ := Rp.reads hb I d _ _ h1 r1
      obtain ⟨bs, q2, m2⟩ := RpAll.reads hb I ds _ _ h2 r2
      exact ⟨as ++ bs, .cons q1 q2, by simp only [List.mem_append, not_or]; exact ⟨m1, m2⟩⟩
end
end
section
variable {X : Cx}
/-- repr(x), x of any kind -/
theorem call_reprD (hg : X.A.guards = some []) (hu : X.A.units + 64 < cLine) : CallR X (.builtin "repr") (fun xs H Q => ∃ x d ban, xs = [x] ∧ sysModules ∈ ban ∧ Rp H ban d x ∧ d.showable = true ∧ d.depth ≤ 50 ∧ d.shown.length ≤ sizeLine ∧ Q (.str d.shown) H) := by
  intro pins s σ H xs us Q I r ⟨x, d, ban, ex, hb, hp, hs, hd, hz, q⟩
  subst ex
  obtain ⟨u, rfl, rx⟩ := vals1 r
  obtain ⟨as, rd, m⟩ := Rp.reads hb I d x u hp rx
  have fin : ∀ (h' : Heap) (t : Tok) (tk : Nat), (∀ b o, s.heap.get? b = some o → h'.get? b = some o) → EP X pins σ Q (.str d.shown t) { s with heap := h', toks := tk } := fun h' t tk kp => ⟨.str d.shown, H, I.kept (t' := tk) kp, ⟨t, rfl⟩, q⟩
  have here : ∀ (t : Tok) (tk : Nat), EP X pins σ Q (.str d.shown t) { s with toks := tk } := fun t tk => fin s.heap t tk fun _ _ e => e
  cases rd with
  | none => exact PySem.P.repr_of_none (here _ _)
  | bool b => exact PySem.P.repr_of_bool (here _ _)
  | int i t => exact PySem.P.repr_of_int (of_decide_eq_true hs) (here _ _)
  | str z t => exact PySem.P.repr_of_str (here _ _) hz
  | list h1 h2 h3 h4 => exact repr_of_reads' (.list h1 h2 h3 h4) hs (fun _ => m) hg (by omega) (fun _ _ e => e) (fun h' u tk kp => fin h' u tk kp) hz
  | tuple h1 h2 h3 h4 => exact repr_of_reads' (.tuple h1 h2 h3 h4) hs (fun _ => m) hg (by omega) (fun _ _ e => e) (fun h' u tk kp => fin h' u tk kp) hz
  | dict h1 h2 h3 h4 h5 => exact repr_of_reads' (.dict h1 h2 h3 h4 h5) hs (fun _ => m) hg (by omega) (fun _ _ e => e) (fun h' u tk kp => fin h' u tk kp) hz
/-- xs == [] -/
theorem op_eqL0 (hu : X.A.units < cLine) : OpR X (compareOp .Eq) (fun x y H Q => ∃ a b xs, x = .ref a ∧ y = .ref b ∧ SqL X.K H a xs ∧ SqL X.K H b [] ∧ Q (.bl xs.isEmpty) H) := by
  intro pins s σ H x y v u Q I rx ry ⟨a, b, xs, ex, ey, ha, hb, q⟩
  subst ex ey; cases rx; cases ry
  obtain ⟨its, r1, p1, _⟩ := I.list ha
  obtain ⟨its2, r2, p2, _⟩ := I.list hb
  cases r2
  cases r1 with
  | nil => exact SeqAt.RcAt.lists (e := fun _ => true) p1.isList p2.isList rfl hu (fun j j1 _ => absurd j1 (by simp)) _ _ _ _ ⟨.bl true, H, I, rfl, q⟩
  | cons _ _ => exact SeqAt.RcAt.lists_lengths p1.isList p2.isList (by simp) hu _ _ _ _ ⟨.bl false, H, I, rfl, q⟩
/-- t != () -/
theorem op_neT0 (hu : X.A.units < cLine) : OpR X (compareOp .NotEq) (fun x y H Q => ∃ a b xs, x = .ref a ∧ y = .ref b ∧ SqT X.K H a xs ∧ SqT X.K H b [] ∧ Q (.bl (!xs.isEmpty)) H) := by
  intro pins s σ H x y v u Q I rx ry ⟨a, b, xs, ex, ey, ha, hb, q⟩
  subst ex ey; cases rx; cases ry
  obtain ⟨its, r1, p1, _⟩ := I.tuple ha
  obtain ⟨its2, r2, p2, _⟩ := I.tuple hb
  cases r2
  have h := SeqAt.RcNeAt.tuples (A := X.A) (s := s) (e := fun _ => true) p1 p2 hu (fun j _ j2 => absurd j2 (by simp))
  cases r1 with
  | nil => exact h _ _ _ _ ⟨.bl false, H, I, rfl, q⟩
  | cons _ _ => exact h _ _ _ _ ⟨.bl true, H, I, rfl, q⟩
/-- b + i, b - i, b a bool -/
theorem op_add_bi : OpR X (binaryOp .Add) (fun x y H Q => ∃ k i, x = .bl k ∧ y = .int i ∧ Q (.int ((if k = true then (1 : Int) else 0) + i)) H) := by
  intro pins s σ H x y v u Q I rx ry ⟨k, i, ex, ey, q⟩
  subst ex ey; cases rx; obtain ⟨t, rfl⟩ := ry
  exact PySem.IntBool.add_bool_int ⟨.int _, H, I.tok _, ⟨_, rfl⟩, q⟩
theorem op_sub_bi : OpR X (binaryOp .Sub) (fun x y H Q => ∃ k i, x = .bl k ∧ y = .int i ∧ Q (.int ((if k = true then (1 : Int) else 0) - i)) H) := by
  intro pins s σ H x y v u Q I rx ry ⟨k, i, ex, ey, q⟩
  subst ex ey; cases rx; obtain ⟨t, rfl⟩ := ry
  exact PySem.IntBool.sub_bool_int ⟨.int _, H, I.tok _, ⟨_, rfl⟩, q⟩
/-- two rules for one operator: by what stands there -/
theorem OpR.either {f : Value → Value → Sem Value} {r1 r2 : R2} (h1 : OpR X f r1) (h2 : OpR X f r2) : OpR X f (fun x y H Q => r1 x y H Q ∨ r2 x y H Q) := by
  intro pins s σ H x y v u Q I rx ry h
  rcases h with h | h
  · exact h1 pins s σ H x y v u Q I rx ry h
  · exact h2 pins s σ H x y v u Q I rx ry h
/-- str(i), str(b) -/
theorem call_str_ib : CallR X (.type "str") (fun xs H Q => (∃ i, xs = [.int i] ∧ i.natAbs.log2 < 1920 ∧ Q (.str (toString i)) H) ∨ ∃ k : Bool, xs = [.bl k] ∧ Q (.str (if k then "True" else "False")) H) := by
  intro pins s σ H xs us Q I r h
  rcases h with h | ⟨k, ex, q⟩
  · exact call_str_int pins s σ H xs us Q I r h
  · subst ex
    obtain ⟨u, rfl, rx⟩ := vals1 r
    cases rx
    exact PySem.P.str_of_bool ⟨.str _, H, I.tok _, ⟨_, rfl⟩, q⟩
/-- [..]: a new list never stands where the modules' table stands -/
def tLstM (t : TA) : TE := fun σ H Q => t σ H fun xs H1 => xs.length ≤ sizeLine ∧ ∀ p, H1 p = none → p ≠ sysModules → Q (.ref p) (upd H1 p (.lst xs))
theorem pe_lstM {es : List Expr} {t : TA} {pos : Pos} (h : PA X es t) : PE X (.List es pos) (tLstM t) := by
  refine ⟨fun pins s σ H Q I hq => wpAny_List_spliced (thn (h.run pos pins s σ H _ I hq) fun us s1 ⟨xs, H1, I1, r, z, q⟩ => ⟨by rw [← r.length]; exact z, ?_⟩)⟩
  exact ⟨.ref s1.heap.objs.size, _, I1.laid (t' := s1.toks) (o := .lst xs) (fun b u e => Heap.get?_push_of_some _ e) (Nat.le_refl _) ⟨z, us, 0, r, Heap.get?_push_size _ rfl⟩, rfl, q _ (I1.hok.fresh (Nat.le_refl _)) (Nat.ne_of_gt I1.big)⟩
/-- list(t), t a tuple -/
theorem call_listM : CallR X (.type "list") (fun xs H Q => ∃ p ys, xs = [.ref p] ∧ SqT X.K H p ys ∧ ∀ l, H l = none → l ≠ sysModules → Q (.ref l) (upd H l (.lst ys))) := by
  intro pins s σ H xs us Q I r ⟨p, ys, ex, hq, q⟩
  subst ex
  obtain ⟨u, rfl, rx⟩ := vals1 r
  cases rx
  obtain ⟨its, r', pl, hz⟩ := I.tuple hq
  have hlen := r'.length
  obtain ⟨o, ho, hc, n, hd⟩ := pl
  refine call_list_seq p (.inr rfl) ho hc hd (fun h' c' kp e => ?_) (by simp only [List.size_toArray] <;> omega)
  exact ⟨.ref s.heap.objs.size, _, I.laid (t' := s.toks) (o := .lst ys) kp (Nat.le_refl _) ⟨hz, its, c', r', e⟩, rfl, q _ (I.hok.fresh (Nat.le_refl _)) (Nat.ne_of_gt I.big)⟩
end
/-! ### the type of a value -/
def tyD : PyData → String
  | .none => "NoneType"
  | .bool _ => "bool"
  | .int _ => "int"
  | .str _ => "str"
  | .list _ => "list"
  | .tuple _ => "tuple"
  | .dict _ => "dict"
theorem tyRp {K : PySem.W.Frag} {H : Hp} {ban : List Addr} : ∀ {d : PyData} {v : V}, Rp H ban d v → TyX K H v (.type (tyD d))
  | .none, _, h => by rw [show _ = V.non from h]; exact .base .non
  | .bool b, _, h => by rw [show _ = V.bl b from h]; exact .base (.bl b)
  | .int i, _, h => by rw [show _ = V.int i from h]; exact .base (.int i)
  | .str x, _, h => by rw [show _ = V.str x from h]; exact .base (.str x)
  | .list ds, _, h => by
    obtain ⟨a, xs, rfl, h1, _⟩ := h
    exact .base (.lst h1)
  | .tuple ds, _, h => by
    obtain ⟨a, xs, rfl, h1, _⟩ := h
    rcases h1 with h1 | ⟨o, h1⟩
    · exact .base (.tup h1)
    · exact .fTuple h1
  | .dict kvs, _, h => by
    obtain ⟨_, a, rfl, h1⟩ := h
    exact .base (.dK h1)
theorem kit7 : ∀ t ∈ ["NoneType", "bool", "int", "str", "list", "tuple", "dict"], kitB t "tuple" = some (decide (t = "tuple")) ∧ kitB t "int" = some (decide (t = "int" ∨ t = "bool")) ∧ kitB t "bool" = some (decide (t = "bool")) := by decide +kernel
theorem tyD_mem (d : PyData) : tyD d ∈ ["NoneType", "bool", "int", "str", "list", "tuple", "dict"] := by cases d <;> simp [tyD]
theorem kitD {K : PySem.W.Frag} (d : PyData) : PySem.W.kitOne K (.type (tyD d)) (.type "tuple") = some (decide (tyD d = "tuple")) ∧ PySem.W.kitOne K (.type (tyD d)) (.type "int") = some (decide (tyD d = "int" ∨ tyD d = "bool")) ∧ PySem.W.kitOne K (.type (tyD d)) (.type "bool") = some (decide (tyD d = "bool")) := by
  obtain ⟨a, b, c⟩ := kit7 (tyD d) (tyD_mem d)
  exact ⟨kit_ty a, kit_ty b, kit_ty c⟩
end TR
namespace TR
open PySem PySem.Spec PyProof.Rows L2
/-! ### what a ranking is, of data -/
def whole (d : PyData) : Bool := decide (tyD d = "int")
theorem whole_int {d : PyData} (h : whole d = true) : ∃ i, d = .int i := by
  cases d <;> first | exact ⟨_, rfl⟩ | (exfalso; simp [whole, tyD] at h)
theorem whole_ty (d : PyData) : (if decide (tyD d = "int" ∨ tyD d = "bool") = true then !decide (tyD d = "bool") else false) = whole d := by
  cases d <;> first | rfl | simp [whole, tyD]
theorem ff_iff {p : Prop} (h : ¬ p) : (false = true) ↔ p := ⟨fun z => Bool.noConfusion z, fun z => absurd z h⟩
def IsRk (n : Nat) (d : PyData) : Prop := ∃ ns : List Int, d = .tuple (ns.map PyData.int) ∧ Rank n ns
theorem whole_all : ∀ ds : List PyData, ds.all whole = true → ∃ ns : List Int, ds = ns.map PyData.int
  | [], _ => ⟨[], rfl⟩
  | d :: r, h => by
    rw [List.all_cons, Bool.and_eq_true] at h
    obtain ⟨i, rfl⟩ := whole_int h.1
    obtain ⟨ns, rfl⟩ := whole_all r h.2
    exact ⟨i :: ns, rfl⟩
theorem ints_whole : ∀ ns : List Int, (ns.map PyData.int).all whole = true
  | [] => rfl
  | n :: r => by
    rw [List.map_cons, List.all_cons, ints_whole r]
    rfl
theorem ints_inj : ∀ {ns ms : List Int}, ns.map PyData.int = ms.map PyData.int → ns = ms
  | [], [], _ => rfl
  | [], _ :: _, h => by cases h
  | _ :: _, [], h => by cases h
  | x :: r, y :: t, h => by
    rw [List.map_cons, List.map_cons] at h
    injection h with h1 h2
    injection h1 with h1
    rw [h1, ints_inj h2]
theorem rng_le : ∀ n : Nat, (rng n).Pairwise (· ≤ ·) := fun n => by
  unfold rng
  rw [List.pairwise_map]
  exact (List.pairwise_lt_range (n := n)).imp (by intro a b h; omega)
theorem sorted_rank {n : Nat} {ns ms : List Int} (hp : ms.Perm ns) (hs : ms.Pairwise (· ≤ ·)) : ms = rng n ↔ Rank n ns := by
  constructor
  · rintro rfl
    exact List.Perm.symm hp
  · intro h
    exact List.Perm.eq_of_pairwise (le := (· ≤ ·)) (fun a b _ _ h1 h2 => Int.le_antisymm h1 h2) hs (rng_le n) (List.Perm.trans hp h)
theorem not_isRk_ty {n : Nat} {d : PyData} (h : tyD d ≠ "tuple") : ¬ IsRk n d := by
  rintro ⟨ns, rfl, _⟩
  exact h rfl
theorem not_isRk_whole {n : Nat} {ds : List PyData} (h : ds.all whole = false) : ¬ IsRk n (.tuple ds) := by
  rintro ⟨ns, e, _⟩
  injection e with e
  rw [e, ints_whole] at h
  cases h
theorem isRk_tuple {n : Nat} {ns : List Int} : IsRk n (.tuple (ns.map PyData.int)) ↔ Rank n ns := by
  constructor
  · rintro ⟨ms, e, r⟩
    injection e with e
    rw [ints_inj e]
    exact r
  · exact fun r => ⟨ns, rfl, r⟩
theorem ty_tuple {d : PyData} (h : tyD d = "tuple") : ∃ ds, d = .tuple ds := by
  cases d <;> first | exact ⟨_, rfl⟩ | (exfalso; simp [tyD] at h)
theorem RpAll.int_vals {H : Hp} {ban : List Addr} : ∀ {ns : List Int} {xs : List V}, RpAll H ban (ns.map PyData.int) xs → xs = ns.map V.int
  | [], _, h => h
  | n :: r, _, h => by
    obtain ⟨v, t, rfl, h1, h2⟩ := h
    rw [show v = V.int n from h1, RpAll.int_vals h2]
    rfl
theorem eqvAll_intsX : ∀ xs ys : List Int, PyData.eqvAll (xs.map PyData.int) (ys.map PyData.int) = decide (xs = ys)
  | [], [] => rfl
  | [], _ :: _ => rfl
  | _ :: _, [] => rfl
  | x :: r, y :: t => by
    show ((x == y) && PyData.eqvAll (r.map PyData.int) (t.map PyData.int)) = decide (x :: r = y :: t)
    rw [eqvAll_intsX r t, Bool.eq_iff_iff]
    simp
theorem eqv_lstX (xs ys : List Int) : PyData.eqv (.list (xs.map PyData.int)) (.list (ys.map PyData.int)) = decide (xs = ys) := eqvAll_intsX xs ys
end TR
namespace TR
open PySem PySem.Spec PyProof.Rows L2
section
variable {X : Cx}
/-! ### new objects, told by what holds behind them -/
def tTupN (t : TA) : TE := fun σ H Q => t σ H fun xs H1 => xs.length ≤ sizeLine ∧ ∀ p H', H1 p = none → Same H1 H' → H' p = some (.tup xs) → Q (.ref p) H'
theorem pe_tupN {es : List Expr} {t : TA} {pos : Pos} {x1} (h : PA X es t) : PE X (.Tuple es x1 pos) (tTupN t) := by
  refine ⟨fun pins s σ H Q I hq => wpAny_Tuple_spliced (thn (h.run pos pins s σ H _ I hq) fun us s1 ⟨xs, H1, I1, r, z, q⟩ => ⟨by rw [← r.length]; exact z, ?_⟩)⟩
  have hf : H1 s1.heap.objs.size = none := I1.hok.fresh (Nat.le_refl _)
  exact ⟨.ref s1.heap.objs.size, _, I1.laid (t' := s1.toks) (o := .tup xs) (fun b u e => Heap.get?_push_of_some _ e) (Nat.le_refl _) ⟨z, us, r, IsTup.new _ _⟩, rfl, q _ _ hf (same_upd hf) upd_same⟩
def tLstN (t : TA) : TE := fun σ H Q => t σ H fun xs H1 => xs.length ≤ sizeLine ∧ ∀ p H', H1 p = none → p ≠ sysModules → Same H1 H' → H' p = some (.lst xs) → Q (.ref p) H'
theorem pe_lstN {es : List Expr} {t : TA} {pos : Pos} (h : PA X es t) : PE X (.List es pos) (tLstN t) := by
  refine ⟨fun pins s σ H Q I hq => wpAny_List_spliced (thn (h.run pos pins s σ H _ I hq) fun us s1 ⟨xs, H1, I1, r, z, q⟩ => ⟨by rw [← r.length]; exact z, ?_⟩)⟩
  have hf : H1 s1.heap.objs.size = none := I1.hok.fresh (Nat.le_refl _)
  exact ⟨.ref s1.heap.objs.size, _, I1.laid (t' := s1.toks) (o := .lst xs) (fun b u e => Heap.get?_push_of_some _ e) (Nat.le_refl _) ⟨z, us, 0, r, Heap.get?_push_size _ rfl⟩, rfl, q _ _ hf (Nat.ne_of_gt I1.big) (same_upd hf) upd_same⟩
def tDNewN : TE := fun _ H Q => ∀ p H', H p = none → Same H H' → H' p = some (.dK []) → Q (.ref p) H'
theorem pe_dnewN {pos : Pos} : PE X (.Dict [] [] pos) tDNewN := by
  refine ⟨fun pins s σ H Q I h => (pe_dnewK (pos := pos)).run pins s σ H Q I ?_⟩
  exact fun p hp => h p _ hp (same_upd hp) upd_same
/-- xs + ys, lists -/
theorem op_catN : OpR X (binaryOp .Add) (fun x y H Q => ∃ a b xs ys, x = .ref a ∧ y = .ref b ∧ H a = some (.lst xs) ∧ H b = some (.lst ys) ∧ xs.length + ys.length ≤ sizeLine ∧ ∀ p H', H p = none → Same H H' → H' p = some (.lst (xs ++ ys)) → Q (.ref p) H') := by
  intro pins s σ H x y v u Q I rx ry ⟨a, b, xs, ys, ex, ey, ha, hb, hz, q⟩
  exact op_cat pins s σ H x y v u Q I rx ry ⟨a, b, xs, ys, ex, ey, ha, hb, hz, fun p hp => q p _ hp (same_upd hp) upd_same⟩
/-- t + u, tuples: some tuple of both -/
theorem op_catTN : OpR X (binaryOp .Add) (fun x y H Q => ∃ a b xs ys, x = .ref a ∧ y = .ref b ∧ Rd H a (.tup xs) ∧ Rd H b (.tup ys) ∧ xs.length + ys.length ≤ sizeLine ∧ ∀ p H', Same H H' → Rd H' p (.tup (xs ++ ys)) → Q (.ref p) H') := by
  intro pins s σ H x y v u Q I rx ry ⟨a, b, xs, ys, ex, ey, ha, hb, hz, q⟩
  refine op_catA pins s σ H x y v u Q I rx ry ⟨a, b, xs, ys, ex, ey, .inl ha, .inl hb, hz, fun e => ?_, fun _ e => ?_, fun _ _ p hp => q p _ (same_upd hp) (.inl upd_same)⟩
  · subst e; exact q b H (Same.refl _) hb
  · subst e; exact q a H (Same.refl _) (by rw [List.append_nil]; exact ha)
theorem cut_whole {xs : List V} {lo hi : Option Int} (h : HT.sIx xs.length 0 lo = 0 ∧ HT.sIx xs.length xs.length hi = xs.length) : cutV xs lo hi = xs := by
  unfold cutV
  rw [h.1, h.2]
  exact List.take_of_length_le (by simp)
/-- t[lo:hi]: some tuple of the part -/
theorem sl_tupN : SlR X (fun x lo hi H Q => ∃ a xs, x = .ref a ∧ Rd H a (.tup xs) ∧ ∀ p H', Same H H' → Rd H' p (.tup (cutV xs lo hi)) → Q (.ref p) H') := by
  intro pins s σ H x v vl vu lo hi sl Q I rx hs pl pu ⟨a, xs, ex, hx, q⟩
  refine sl_tupA pins s σ H x v vl vu lo hi sl Q I rx hs pl pu ⟨a, xs, ex, .inl hx, fun hw => ?_, fun _ p hp => q p _ (same_upd hp) (.inl upd_same)⟩
  exact q a H (Same.refl _) (by rw [cut_whole hw]; exact hx)
/-- t[::-1] -/
def tRevN (te : TE) : TE := fun σ H Q => te σ H fun x H1 => ∃ a xs, x = .ref a ∧ Rd H1 a (.tup xs) ∧ ∀ p H', Same H1 H' → Rd H' p (.tup xs.reverse) → Q (.ref p) H'
theorem pe_revN {e : Expr} {te : TE} {k : Nat} {p1 p2 p3 pos : Pos} (he : PE X e te) (mono : ∀ σ H (Q Q' : VK), (∀ x H', Q x H' → Q' x H') → te σ H Q → te σ H Q') : PE X (.Subscript e (.Slice none none (some (.UnaryOp .USub (.Constant (.int 1) k p1) p2)) p3) pos) (tRevN te) := by
  refine ⟨fun pins s σ H Q I h => (pe_revT he).run pins s σ H Q I (mono σ H _ _ (fun x H1 hq => ?_) h)⟩
  obtain ⟨a, xs, ex, hx, q⟩ := hq
  exact ⟨a, xs, ex, .inl hx, fun p o hp _ => q p _ (same_upd hp) (.inr ⟨o, upd_same⟩)⟩
/-- list(t) -/
theorem call_listN : CallR X (.type "list") (fun xs H Q => ∃ a ys, xs = [.ref a] ∧ Rd H a (.tup ys) ∧ ∀ p H', H p = none → p ≠ sysModules → Same H H' → H' p = some (.lst ys) → Q (.ref p) H') := by
  intro pins s σ H xs us Q I r ⟨a, ys, ex, hx, q⟩
  exact call_listM pins s σ H xs us Q I r ⟨a, ys, ex, .inl hx, fun p hp n => q p _ hp n (same_upd hp) upd_same⟩
end
end TR
namespace PySem
namespace NiX
open PySem.W PySem.Calls PyProof.Rows PySem.HandSPX
/-! ### the text of __init__ -/
def iA (p1 p2 : Pos) : Arguments := { posonlyargs := [], args := [{ arg := "self", annotation := none, pos := p1 }, { arg := "index", annotation := none, pos := p2 }], vararg := none, kwonlyargs := [], kw_defaults := [], kwarg := none, defaults := [] }
def iB (q1 q2 q3 q4 : Pos) : List Stmt := [.Assign [.Attribute (.Name "self" q1) "index" q2] (.Name "index" q3) q4]
def iS : Scope := { kind := .function, names := [(PySem.Str.ofString "self", .local), (PySem.Str.ofString "index", .local)], isGenerator := false, isCoroutine := false, more := [] }
/-- what the written part says of Low, at C, and of its __init__, at fI -/
structure NiTxt (K : Frag) (mg : Str → Option Value) (C fI : Addr) : Prop where
  gC : mg "NoIndex" = some (.ref C)
  cls : ∃ nm q N bs bm sn sub ab col dd k0 k1 k2 k3 k5, K.lookup C = some (excClassObj nm q C N bs bm true sn sub ab col dd k0 k1 k2 k3 k5 "ValueError.__new__") ∧ refsVE bm = true
  sa : findIn K (.ref C) "__setattr__" = some (some (.builtin "object.__setattr__"))
  ga : findIn K (.ref C) "__getattribute__" = some (some (.builtin "BaseException.__getattribute__"))
  gg : findIn K (.ref C) "__getattr__" = some none
  noN : findIn K (.ref C) "index" = some none
  iC : findIn K (.ref C) "__init__" = some (some (.ref fI))
  tC : typeIn K (.ref fI) = some (.type "function")
  kC : keepIn K (.ref C) = true
  exC : subIn K (.ref C) (.type "BaseException") = some true
  tyC : typeIn K (.ref C) = some (.type "type")
  hdC : hasDictIn K C = true
  te : exmOne K (.ref C) (.ref C) = some true
  fn : ∃ (oc : Value) (od : Option Addr) (doc pm : Value) (an : Option Addr) (cdv ct : Value) (osl : Array (Option Value)) (p1 p2 q1 q2 q3 q4 : Pos),
    K.lookup fI = some ⟨oc, od, .func (fnOf "__init__" "NoIndex.__init__" (iA p1 p2) (iB q1 q2 q3 q4) iS .none .none doc pm an cdv ct), osl⟩ ∧ codeIn K cdv "NoIndex.__init__" = true
theorem one_size (v : Value) : [v].length ≤ sizeLine := by
  rw [sizeLine_eq]
  exact (by decide : 1 ≤ 16777216)
theorem kept_but {K : Frag} {h h' : Heap} {x : Addr} (X : K.In h) (hx : K.lookup x = none) (k : ∀ b o, b ≠ x → h.get? b = some o → h'.get? b = some o) : K.In h' := fun a o e =>
  k a o (fun z => by rw [z, hx] at e; cases e) (X a o e)
theorem ldC {M : Model} {s : Shared} {name : Str} {scope : Scope} {L a : Addr} {cd : Value} {m : Str → Option Value} {x : Str} {pos : Pos} {v : Value} {Q : Value → Shared → Prop} {A : Around} {E : Value → Shared → Prop} (hn : s.heap.Ns L m) (hv : m x = some v) (h : Q v s)
    (hk : scope.kind = .function := by rfl) (hl : (envOfC name scope L a cd).kindOf x = some .local := by rfl) (hd : (x == ("__debug__" : Str)) = false := by decide) :
    wpAny M A (eval (.Name x pos) (envOfC name scope L a cd)) Q E s := wpAny_Name (wpAny_loadName_local hk hl hn hv h) hd
/-- what __init__ leaves of a fresh exception at x -/
structure InitEnd (h h' : Heap) (x C dx t1 : Addr) (v : Value) : Prop where
  keep : ∀ b o, b ≠ x → h.get? b = some o → h'.get? b = some o
  obj : h'.get? x = some { cls := .ref C, dict := some dx, data := .fields #[.ref t1, .none, .none, .none, .bool false, .none] }
  dbig : h.objs.size ≤ dx
  dne : dx ≠ x
  ns : h'.Ns1 dx (fun y => if y = "index" then some v else none)
/-- a made Low -/
structure OwnMade (h h' : Heap) (e C d : Addr) (v : Value) : Prop where
  keep : ∀ b o, h.get? b = some o → h'.get? b = some o
  new : h.objs.size ≤ e
  obj : ∃ oe vs, h'.get? e = some oe ∧ oe.cls = .ref C ∧ oe.dict = some d ∧ oe.data = .fields vs ∧ vs[1]? = some .none
  dbig : h.objs.size ≤ d
  dne : d ≠ e
  ns : h'.Ns1 d (fun y => if y = "index" then some v else none)
section
variable {prog : Program} {w : World} {A : Around} {E : Value → Shared → Prop} {R : Result → Shared → Prop} {s : Shared} {K : Frag} {mg : Str → Option Value} {C fI : Addr}
theorem ni_init (T : NiTxt K mg C fI) {x t0 : Addr} {v : Value} (X : K.In s.heap) (hlim : s.heap.NoLimit) (hx : s.heap.get? x = some (excO C t0)) (hnx : K.lookup x = none) (hroom : A.depth < recursionLimit)
    (hq : ∀ h' tk dx, InitEnd s.heap h' x C dx t0 v → R (.ok (.ret .none)) { s with heap := h', toks := tk }) :
    codeAny (model prog w) A (.call (.ref fI) ⟨[.ref x, v], []⟩) R s := by
  obtain ⟨oc, od, doc, pm, an, cdv, ct, osl, p1, p2, q1, q2, q3, q4, ho, hcd⟩ := T.fn
  obtain ⟨nm, q, N, bs, bm, sn, sub, ab, col, dd, k0, k1, k2, k3, k5, hC, hbm⟩ := T.cls
  have hcl : clsIn K C = some { name := nm, bases := bs, mro := .ref C :: bm, ns := N, qualname := q, hasDict := true, slotNames := sn, subclasses := sub, abstract := ab, collection := col, hasDel := false } := by unfold clsIn; rw [hC] <;> rfl
  refine Att.call_fn (binds := [("self", .ref x), ("index", v)]) X hlim ho hcd hroom (BindsTo.of_eq (by first | rfl | with_unfolding_all rfl)) (by first | rfl | decide | with_unfolding_all rfl) (fun s₁ IC => ?_) rfl rfl rfl
  obtain ⟨h₁, tk₁, rfl⟩ := IC.toInCall.same
  have k : ∀ b o, s.heap.get? b = some o → h₁.get? b = some o := IC.toInCall.keep
  have hn := IC.toInCall.ns
  have hxL : s.heap.objs.size ≠ x := Nat.ne_of_gt (Heap.lt_size hx)
  have X₁ : K.In h₁ := X.keeps k
  have hx₁ := k _ _ hx
  -- self.by = by
  show wpAny _ _ (execs _ _) _ _ _
  refine wpAny_execs_cons (plainObj_wpAny_Assign_Attribute ?_)
  refine ldC (v := v) hn (by first | rfl | with_unfolding_all rfl | kernel_rfl) (ldC (v := .ref x) hn (by first | rfl | with_unfolding_all rfl | kernel_rfl) ?_)
  refine set_plain X₁ (ox := excO C t0) (od := none) ⟨hx₁, rfl, rfl, trivial⟩ T.sa ?_
  refine exc_osa X₁ hx₁ hcl (show refsVE (.ref C :: bm) = true from hbm) rfl T.noN (fun h₃ tk₃ dx k₃ dn dne hx₃ hn₃ => ?_)
  show wpAny _ _ (execs _ _) _ _ _
  have z : s.heap.objs.size < h₁.objs.size := hn.lt
  exact wpAny_execs_nil (hq h₃ tk₃ dx ⟨fun b o hb e => k₃ b o hb (k b o e), hx₃, Nat.le_of_lt (Nat.lt_of_lt_of_le z dn), dne, hn₃⟩)
theorem ni_made (T : NiTxt K mg C fI) {v : Value} (X : K.In s.heap) (hlim : s.heap.NoLimit) (hroom : A.depth + 1 < recursionLimit)
    (hq : ∀ h' tk e d, OwnMade s.heap h' e C d v → R (.ok (.ret (.ref e))) { s with heap := h', toks := tk }) :
    codeAny (model prog w) A (.call (.ref C) ⟨[v], []⟩) R s := by
  obtain ⟨nm, q, N, bs, bm, sn, sub, ab, col, dd, k0, k1, k2, k3, k5, hC, hbm⟩ := T.cls
  obtain ⟨hp, g, dr, tk, os⟩ := s
  have k : ∀ b o, hp.get? b = some o → ((hp.push (kdv_tup [v])).push (excO C hp.objs.size)).get? b = some o := fun b o e => Heap.get?_push_of_some _ (Heap.get?_push_of_some _ e)
  have hget : ((hp.push (kdv_tup [v])).push (excO C hp.objs.size)).get? (hp.objs.size + 1) = some (excO C hp.objs.size) := by heap_get
  have hnx : K.lookup (hp.objs.size + 1) = none := by
    cases e : K.lookup (hp.objs.size + 1) with
    | none => rfl
    | some o =>
      have z : hp.get? (hp.objs.size + 1) = some o := X _ _ e
      exact absurd (Nat.lt_of_succ_lt (Heap.lt_size z)) (Nat.lt_irrefl _)
  refine call_own F.excBase_ValueError (fun X => refsVE_contains X bm hbm) (X _ _ hC) (looks_findIn X T.iC) (fun self => bind_fn X self T.tC) (one_size v) ?_
  refine ni_init (s := ⟨(hp.push (kdv_tup [v])).push (excO C hp.objs.size), g, dr, tk, os⟩) T (X.keeps k) (hlim.keeps k) hget hnx ?_ fun h' tk' dx ⟨k', hx, dn, dne, hns⟩ => ?_
  · show A.depth + 1 < recursionLimit
    exact hroom
  · have old : ∀ b o, hp.get? b = some o → h'.get? b = some o := fun b o e => k' b o (Nat.ne_of_lt (Nat.lt_succ_of_lt (Heap.lt_size e))) (k b o e)
    have z : hp.objs.size + 1 + 1 ≤ dx := by
      first
        | (simpa only [Heap.size_push] using dn)
        | exact dn
        | (have q := dn; rw [Heap.size_push, Heap.size_push] at q; exact q)
    exact ⟨rfl, hq h' tk' (hp.objs.size + 1) dx ⟨old, Nat.le_succ _, ⟨_, _, hx, rfl, rfl, rfl, rfl⟩, Nat.le_trans (Nat.le_trans (Nat.le_succ _) (Nat.le_succ _)) z, dne, hns⟩⟩
end
end NiX
end PySem
namespace L2
open PySem PySem.Spec PyProof.Rows
theorem relO_ni {v : V} {v' : Value} (r : RelV v v') (f : Str) : RelO (List.lookup f [(("index" : Str), v)]) (if f = "index" then some v' else none) := by
  by_cases hw : f = "index"
  · subst hw
    rw [if_pos rfl]
    have q : List.lookup ("index" : Str) [(("index" : Str), v)] = some v := by simp [List.lookup]
    rw [q]
    exact r
  · rw [if_neg hw]
    have qw : (f == ("index" : Str)) = false := by simpa using hw
    have q2 : List.lookup f [(("index" : Str), v)] = none := by simp [List.lookup, qw]
    rw [q2]
    trivial
section
variable {X : Cx} {C fI : Addr}
/-- Low(e) -/
def tMkNi (C : Addr) (ta : TA) : St → Hp → XK → Prop := fun σ H Q => ta σ H fun vs H1 => ∃ v, vs = [v] ∧ ∀ d, H1 d = none → Q (.ref C) (some d) (upd H1 d (.xd [(("index" : Str), v)]))
theorem pmk_ni {a : Expr} {ta : TA} {p pos : Pos} {k : Nat} (T : PySem.NiX.NiTxt X.K X.mg C fI) (hr : Room k X.A) (ha : PA X [a] ta) (hg : Gl X "NoIndex" := by rfl)
    (he : starEach (a :: []) X.env = (false, eval a X.env) :: starEach [] X.env := by rfl) (hpl : (backTo pos (starEach [] X.env)).any (·.1) = false := by rfl) :
    PMk X (.Call (.Name "NoIndex" p) [a] [] pos) (tMkNi C ta) := by
  intro pins s σ H Q I h
  refine wpAny_Call_Name_kw (ld_glob I hg T.gC ?_)
  refine PySem.W.callWith_K (h₀ := X.base) I.ok.mod.kin T.kC (thn (ha.run pos pins s σ H _ I h) fun us s1 hh => ?_) he hpl
  obtain ⟨vs, H1, I1, r1, v, ev, q1⟩ := hh
  subst ev
  refine ⟨I1.kIn, ?_⟩
  cases r1 with
  | cons rv rn =>
    rename_i v' us'
    cases rn
    show wpAny _ _ (call (.ref C) [v']) _ _ _
    have hlim := I1.nolimit
    obtain ⟨hp, g, dr, tk, os⟩ := s1
    refine wpAny_call (PySem.NiX.ni_made T I1.kIn hlim (by have := hr.dp; omega) fun h' tk' e d M => ?_)
    show MkP X pins σ Q (.ref e) ⟨h', g, dr, tk', os⟩
    obtain ⟨oe, fv, hoe, hc, hd, hdat, h1⟩ := M.obj
    have hns := M.ns
    obtain ⟨G', g1, g2⟩ := restrict h' fun b => decide (b ≠ e)
    have gk : ∀ b, b ≠ e → G'.get? b = h'.get? b := fun b hb => g1 b (decide_eq_true hb)
    have ge : G'.get? e = none := g2 e (by simp)
    have old : ∀ b o, hp.get? b = some o → G'.get? b = some o := fun b o q => (gk b (Nat.ne_of_lt (Nat.lt_of_lt_of_le (Heap.lt_size q) M.new))).trans (M.keep b o q)
    have ob : ObjOk X.prog X.w (upd H1 d (.xd [(("index" : Str), v)])) G' d (.xd [(("index" : Str), v)]) :=
      ⟨_, hns.at (fun o q => (gk d M.dne).trans q), fun f => relO_ni rv f⟩
    have J : Inv X pins σ (upd H1 d (.xd [(("index" : Str), v)])) ⟨G', g, dr, tk', os⟩ := I1.laid (t' := tk') old M.dbig ob
    refine ⟨e, oe, fv, ⟨G', g, dr, tk', os⟩, _, .ref C, some d, rfl, J, fun b o q => ?_, ge, hoe, ⟨hc, hd⟩, hdat, h1, ?_, rfl, I1.bare, raises_own T.exC T.tyC, q1 d (I1.hok.fresh M.dbig)⟩
    · by_cases hb : b = e
      · have q' : G'.get? b = some o := q
        rw [hb, ge] at q'; cases q'
      · exact (gk b hb).symm.trans q
    · rw [upd_ne (Ne.symm M.dne)]
      exact I1.hok.fresh M.new
/-- raise Low(e) -/
def tRaiseNi (C : Addr) (W : WX) (ta : TA) : TS := fun _ σ H => tMkNi C ta σ H fun cls d H' => W cls d σ H'
theorem ps_raiseNi {a : Expr} {ta : TA} {W : WX} {p pos pos2 : Pos} {k : Nat} (hc : X.calm = true) (T : PySem.NiX.NiTxt X.K X.mg C fI) (hr : Room k X.A) (tk : Takes X W) (ha : PA X [a] ta) (hg : Gl X "NoIndex" := by rfl)
    (he : starEach (a :: []) X.env = (false, eval a X.env) :: starEach [] X.env := by rfl) (hpl : (backTo pos (starEach [] X.env)).any (·.1) = false := by rfl) :
    PS X (.Raise (some (.Call (.Name "NoIndex" p) [a] [] pos)) none pos2) (tRaiseNi C W ta) := ps_raise hc tk (pmk_ni T hr ha hg he hpl)
/-- low.by, low the exception that the suite holds (at a; its class cls, its dict d) -/
def tByNi (C : Addr) (a : Addr) (cls : Value) (d : Option Addr) (te : TE) : TE := fun σ H Q => te σ H fun x H1 => x = .ref a ∧ cls = .ref C ∧ ∃ (dd : Addr) (v : V), d = some dd ∧ H1 dd = some (.xd [(("index" : Str), v)]) ∧ Q v H1
theorem pe_byNi {a : Addr} {oe : Obj} {cls : Value} {d : Option Addr} {pn : List (Addr × Obj)} {e : Expr} {te : TE} {pos : Pos} (T : PySem.NiX.NiTxt X.K X.mg C fI) (hz : Zc cls d oe) (hf : ∃ vs, oe.data = .fields vs) (he : PE (X.suite a ((a, oe) :: pn)) e te)
    (hb : attributeBase e "index" X.env (eval e X.env) = eval e X.env := by rfl) :
    PE (X.suite a ((a, oe) :: pn)) (.Attribute e "index" pos) (tByNi C a cls d te) := by
  refine ⟨fun pins s σ H Q I h => ?_⟩
  refine attr_of hb (thn (he.run pins s σ H _ I h) fun u s1 hh => ?_)
  obtain ⟨x, H1, I1, rx, ex, ec, dd, v, ed, ea, q⟩ := hh
  subst ex
  obtain rfl : u = Value.ref a := rx
  subst ec
  subst ed
  obtain ⟨ha, _⟩ := I1.pin (a, oe) (List.mem_append_left _ List.mem_cons_self)
  obtain ⟨vs, hd⟩ := hf
  have hx : ObjOk X.prog X.w H1 s1.heap dd (.xd [(("index" : Str), v)]) := I1.hok dd _ ea
  obtain ⟨mA, hns, hr⟩ := hx
  obtain ⟨od, ho, hl⟩ := lookIn_ns hns
  have l : List.lookup ("index" : Str) [(("index" : Str), v)] = some v := by simp [List.lookup]
  obtain ⟨u, hu, ru⟩ := RelO.some_of (v := v) (o := mA "index") (by rw [← l]; exact hr "index")
  have J : PySem.W.InstAt s1.heap a oe C (some od) := ⟨ha, hz.1, by unfold PySem.W.notCls; rw [hd] <;> rfl, by rw [hz.2]; exact ho⟩
  exact HandSPX.exc_get I1.kIn J T.ga T.gg T.exC (PySem.W.findObj_own T.hdC T.noN rfl (by rw [hl, hu])) (handed_of ru) ⟨v, H1, I1.tok _, ru, q⟩
end
end L2

namespace TR
open PySem PySem.Spec PyProof.Rows L2
/-- isinstance(e, c), e the exception that the suite holds, which has its dict -/
def rIsX (K : PySem.W.Frag) (D a : Addr) (d : Option Addr) : List V → Hp → VK → Prop := fun xs H Q => ∃ (dd : Addr) (fs : List (Str × V)) (c : V) (cv : Value) (b : Bool), d = some dd ∧ H dd = some (.xd fs) ∧ xs = [.ref a, c] ∧ ClsV c cv ∧ PySem.W.kitOne K (.ref D) cv = some b ∧ Q (.bl b) H
def rIsXT (K : PySem.W.Frag) (D a : Addr) (d : Option Addr) : List V → Hp → VK → Prop := fun xs H Q => ∃ (dd : Addr) (fs : List (Str × V)) (tp : Addr) (cs : List V) (us : List Value) (b : Bool), d = some dd ∧ H dd = some (.xd fs) ∧ xs = [.ref a, .ref tp] ∧ H tp = some (.tup cs) ∧ Paired ClsV cs us ∧ PySem.W.kitAny K (.ref D) us = some b ∧ Q (.bl b) H
section
variable {X : Cx} {a D : Addr} {oe : Obj} {pn : List (Addr × Obj)} {d : Option Addr}
theorem inst_of {pins : List (Addr × Obj)} {σ : L2.St} {H : Hp} {s : Shared} {dd : Addr} {fs : List (Str × V)} (hz : Zc (.ref D) d oe) (hf : ∃ vs, oe.data = .fields vs) (I : Inv (X.suite a ((a, oe) :: pn)) pins σ H s) (hd : d = some dd) (hx : H dd = some (.xd fs)) : ∃ od, PySem.W.InstAt s.heap a oe D (some od) := by
  obtain ⟨hget, _⟩ := I.pin (a, oe) (List.mem_append_left _ List.mem_cons_self)
  obtain ⟨vs, hv⟩ := hf
  obtain ⟨mA, hns, _⟩ := (show ObjOk X.prog X.w H s.heap dd (.xd fs) from I.hok dd _ hx)
  obtain ⟨od, ho, _⟩ := lookIn_ns hns
  exact ⟨od, hget, hz.1, by unfold PySem.W.notCls; rw [hv] <;> rfl, by rw [hz.2, hd]; exact ho⟩
theorem call_isX (C : ExcC X.K D) (hz : Zc (.ref D) d oe) (hf : ∃ vs, oe.data = .fields vs) : CallR (X.suite a ((a, oe) :: pn)) (.builtin "isinstance") (rIsX X.K D a d) := by
  intro pins s σ H xs us Q I r ⟨dd, fs, c, cv, b, hd, hx, ex, hc, e, q⟩
  subst ex
  cases r with
  | cons rx rr =>
    cases rr with
    | cons rt rr =>
      cases rr; cases rx
      have ec := hc.eq rt
      subst ec
      obtain ⟨od, J⟩ := inst_of hz hf I hd hx
      obtain ⟨cd, hcd, _⟩ := PySem.W.any_some C.hd
      exact PySem.W.kia_one (PySem.W.kitx_exc (by rw [hcd]; rfl) C.hg C.hk C.hs C.ha C.hn C.ht C.hm) I.kIn J e (fun z => nomatch z) fun tk => ⟨.bl b, H, I.kept (t' := tk) fun _ _ z => z, rfl, q⟩
theorem call_isXT (C : ExcC X.K D) (hz : Zc (.ref D) d oe) (hf : ∃ vs, oe.data = .fields vs) : CallR (X.suite a ((a, oe) :: pn)) (.builtin "isinstance") (rIsXT X.K D a d) := by
  intro pins s σ H xs us Q I r ⟨dd, fs, tp, cs, vs, b, hd, hx, ex, htp, hp, e, q⟩
  subst ex
  cases r with
  | cons rx rr =>
    cases rr with
    | cons rt rr =>
      cases rr; cases rx; cases rt
      obtain ⟨od, J⟩ := inst_of hz hf I hd hx
      obtain ⟨cd, hcd, _⟩ := PySem.W.any_some C.hd
      obtain ⟨z, its, rv, ⟨oc, odd, odt, osl⟩, ho, hc, n, hdt⟩ := (show ObjOk X.prog X.w H s.heap tp (.tup cs) from I.hok tp _ htp)
      dsimp only at hc hdt; subst hc hdt
      have ev := ClsV.all hp rv
      subst ev
      exact PySem.W.kia_tup (PySem.W.kitx_exc (by rw [hcd]; rfl) C.hg C.hk C.hs C.ha C.hn C.ht C.hm) I.kIn J ho e (fun z => nomatch z) fun tk => ⟨.bl b, H, I.kept (t' := tk) fun _ _ z => z, rfl, q⟩
end
end TR
namespace PySem
open Sem (wp)
set_option maxHeartbeats 1000000 in
theorem meets_enum_new1 {v : Value} {o : Obj} {H : Heap → Prop} (B : Begins v o H) :
    Meets (Builtin.«enumerate.__new__» ⟨[.type "enumerate", v], []⟩) (fun _ R s => H s.heap ∧
      R (.ok (.ret (.ref (s.heap.push o).objs.size))) { s with heap := (s.heap.push o).push { cls := .type "enumerate", data := .fields #[.none, .bool false, .ref s.heap.objs.size, rawInt 0, .none, .none] } }) :=
  .of_wp fun prog w A R s h => by
    obtain ⟨hp, g, d, tk, os⟩ := s; obtain ⟨h1, h⟩ := h
    have hsub := sub_enumerate
    have q1 : ∀ {A' : Around} {E : Value → Shared → Prop} {Q : Value → Shared → Prop}, Q (.ref hp.objs.size) ⟨hp.push o, g, d, tk, os⟩ → wpAny (model prog w) A' (pyIter v) Q E ⟨hp, g, d, tk, os⟩ :=
      fun q => B.iter prog w _ _ ⟨hp, g, d, tk, os⟩ _ h1 q
    wp_walk using q1
    refine wpAny_stack_any fun st => wpAny_pure ?_
    split
    · rename_i c _ _ _ _ _
      cases (c == Value.type "enumerate")
      · wp_walk using q1
        exact ⟨_, rfl, h⟩
      · wp_walk using q1
        exact ⟨_, rfl, h⟩
    · wp_walk using q1
      exact ⟨_, rfl, h⟩
section
variable {prog : Program} {w : World} {A : Around} {E : Value → Shared → Prop} {s : Shared}
theorem call_enum1 {v : Value} {o : Obj} {H : Heap → Prop} {Q : Value → Shared → Prop} (B : Begins v o H) (h1 : H s.heap)
    (h : ∀ h', IsEnum h' (s.heap.objs.size + 1) s.heap.objs.size 0 .none → h'.get? s.heap.objs.size = some o → h'.objs.size = s.heap.objs.size + 2 →
      (∀ b o, s.heap.get? b = some o → h'.get? b = some o) → Q (.ref (s.heap.objs.size + 1)) { s with heap := h' }) :
    wpAny (model prog w) A (call (.type "enumerate") [v]) Q E s := by
  refine callType_new F.called_enumerate (by decide) (F.typeCall_enumerate_1 _) (F.newCall_enumerate_1 _) (fun obj => F.args_object_init_2 obj _) F.entry_enumerate_new
    (meets_enum_new1 B) ⟨h1, ?_⟩
  have hz : (s.heap.push o).objs.size = s.heap.objs.size + 1 := Heap.size_push ..
  show _ ∧ _
  rw [hz]
  have he : IsEnum ((s.heap.push o).push { cls := .type "enumerate", data := .fields #[.none, .bool false, .ref s.heap.objs.size, rawInt 0, .none, .none] }) (s.heap.objs.size + 1) s.heap.objs.size 0 .none := by
    have := Heap.get?_push_size (s.heap.push o) (o := { cls := .type "enumerate", data := .fields #[.none, .bool false, .ref s.heap.objs.size, rawInt 0, .none, .none] }) rfl
    rw [hz] at this; exact this
  refine ⟨⟨_, he, rfl⟩, h _ he (Heap.get?_push_of_some _ (Heap.get?_push_size _ B.free)) (by rw [Heap.size_push, hz]) fun b o x => Heap.get?_push_of_some _ (Heap.get?_push_of_some _ x)⟩
end
end PySem
namespace TR
open PySem PySem.Spec PyProof.Rows L2
/-! ### enumerate(tuple) -/
/-- the tuple at a, each item in a new pair -/
def IteT (K : PySem.W.Frag) (a : Addr) : It :=
  ⟨fun i H => ∃ (xs : List V) (x : V), SqT K H a xs ∧ xs[i]? = some x, fun i H v H' => ∃ T x, v = .ref T ∧ H T = none ∧ H' = upd H T (.tup [.int (i : Nat), x]) ∧ ∀ xs, SqT K H a xs → xs[i]? = some x, fun i H => ∃ xs : List V, SqT K H a xs ∧ xs.length = i⟩
theorem tupIter_ne {h : Heap} {it a : Addr} {i : Nat} {items : Array Value} (hit : h.IsTupleIter it a i) (ht : h.IsTuple a items) : a ≠ it := by
  rintro rfl
  obtain ⟨o, ho, _, hd⟩ := hit
  obtain ⟨o', ho', _, n, hd'⟩ := ht
  rw [ho] at ho'; cases ho'
  rw [hd] at hd'; cases hd'
theorem enum_ne {h : Heap} {e it a : Addr} {c : Int} {old : Value} {items : Array Value} (he : IsEnum h e it c old) (ht : h.IsTuple a items) : e ≠ a := by
  rintro rfl
  obtain ⟨o', ho', _, n, hd'⟩ := ht
  have he' : h.get? e = some _ := he
  rw [he'] at ho'; cases ho'
  cases hd'
theorem turn_enumT {P : Program} {w : World} {K : PySem.W.Frag} {elts : List Expr} {kk : Nat} {tpos : Pos} (a e it : Addr) :
    Turn P w K (.Tuple elts kk tpos) (IteT K a) [e, it] e (fun i h => (∃ old, IsEnum h e it ((i : Nat) : Int) old) ∧ h.IsTupleIter it a i ∧ e ≠ it) where
  mem := by simp
  obj := fun i h st b hb => by
    obtain ⟨⟨old, he⟩, ⟨o, ho, hc, hd⟩, _⟩ := st
    have e' : b = e ∨ b = it := by simpa using hb
    rcases e' with z | z
    · rw [z]; exact ⟨_, he, fun v q => nomatch q⟩
    · rw [z]; exact ⟨o, ho, fun v q => by rw [hd] at q; cases q⟩
  keep := fun i h h' st k => let ⟨⟨old, he⟩, hi, hne⟩ := st; ⟨⟨old, k e (by simp) _ he⟩, hi.at fun o q => k it (by simp) o q, hne⟩
  item := by
    intro X hP hw hK hc i pins s σ H E I hf st hg
    subst hP hw hK
    obtain ⟨⟨old, he⟩, hit, hne⟩ := st
    obtain ⟨xs, x, hq, hx⟩ := hg
    obtain ⟨its, rv, p, hz⟩ := I.tuple hq
    have p : s.heap.IsTuple a its.toArray := p
    obtain ⟨u, hu, ru⟩ := rv.get hx
    have hel : e < s.heap.objs.size := Heap.lt_size he
    have hil : it < s.heap.objs.size := by obtain ⟨_, q, _⟩ := id hit; exact Heap.lt_size q
    have hil2 : i < its.toArray.size := by
      rw [List.size_toArray]; exact (List.getElem?_eq_some_iff.mp hu).1
    refine wpAny_pyNext_enum_itemD (Draws.tuple (A := X.A.in1) (I.ok.hd hc) it a (tupIter_ne hit p) its.toArray) he ⟨hit, p⟩ hil2 hne (by
      intro m
      rcases List.mem_cons.mp m with z | m
      · exact hne z
      · exact enum_ne he p (List.mem_singleton.mp m)) fun u' h' tk hPu ho hst' hT hsz hk => ?_
    obtain ⟨hit', _⟩ := hst'
    have eu : u' = u := by
      have h2 : its.toArray[i]? = some u := by simpa using hu
      rw [h2] at hPu
      exact (Option.some.inj hPu).symm
    subst eu
    refine ⟨_, rfl, wpAny_letOwnedTupleGo_enum (s := { s with heap := h', toks := tk + 1 }) ho fun h'' he' sb => ?_⟩
    have hT2 : h''.get? s.heap.objs.size = some { cls := .type "tuple", data := .seq #[.int i tk, u'] } := (sb.2 _ (Nat.ne_of_gt hel)).trans hT
    have new : ObjOk X.prog X.w (upd H s.heap.objs.size (.tup [.int (i : Nat), x])) h'' s.heap.objs.size (.tup [.int (i : Nat), x]) :=
      ⟨by show 2 ≤ sizeLine; decide, [.int i tk, u'], .cons ⟨_, rfl⟩ (.cons ru .nil), ⟨_, hT2, rfl, _, rfl⟩⟩
    have I1 : Inv X pins σ (upd H s.heap.objs.size (.tup [.int (i : Nat), x])) { s with heap := h'', toks := tk + 1 } :=
      I.turnedNew (ch := [e, it]) (fun b ob hb q => (sb.2 b (fun z => hb (by simp [z]))).trans (hk b ob (fun z => hb (by simp [z])) (fun z => hb (by simp [z])) q)) hf (Nat.le_refl _) new
    refine ⟨.ref s.heap.objs.size, _, I1, rfl, ⟨_, x, rfl, I.hok.fresh (Nat.le_refl _), rfl, fun ys hy => by rw [I.tuple_inj hy hq]; exact hx⟩, ⟨⟨u', ?_⟩, hit'.at fun o q => (sb.2 it (Ne.symm hne)).trans q, hne⟩, fun b hb => ?_⟩
    · have e1 : ((i + 1 : Nat) : Int) = (i : Int) + 1 := by omega
      rw [e1]; exact he'
    · have hb' : b < s.heap.objs.size := by
        have e' : b = e ∨ b = it := by simpa using hb
        rcases e' with z | z
        · rw [z]; exact hel
        · rw [z]; exact hil
      rw [upd_ne (Nat.ne_of_lt hb')]
      exact (hf b hb).1
  done := by
    intro X hP hw hK hc i pins s σ H E I hf st hg
    subst hP hw hK
    obtain ⟨⟨old, he⟩, hit, hne⟩ := st
    obtain ⟨xs, hq, hx⟩ := hg
    obtain ⟨its, rv, p, hz⟩ := I.tuple hq
    have p : s.heap.IsTuple a its.toArray := p
    obtain ⟨f0, f1, f2, f3, f4, f5⟩ := hf it (by simp)
    have hl := rv.length
    have hi : i = its.toArray.size := by rw [List.size_toArray]; omega
    subst hi
    exact wpAny_pyNext_enum_endD (Draws.tuple (A := X.A.in1) (I.ok.hd hc) it a (tupIter_ne hit p) its.toArray) he ⟨hit, p⟩ fun h' eb => ⟨rfl, I.turned (t' := s.toks) (fun b o hb q => eb b o hb q) f0 f1 f3 f4 f5⟩
  self := fun A i s Q E st h => let ⟨⟨_, he⟩, _⟩ := st; wpAny_pyIter_enum he h
def iEnumT (K : PySem.W.Frag) (ta : TA) : TI := fun σ H R => ta σ H fun vs H1 => ∃ a xs, vs = [.ref a] ∧ SqT K H1 a xs ∧ R (IteT K a) H1
theorem pi_enumT {X : Cx} {e : Expr} {ta : TA} {p pos tpos : Pos} {elts : List Expr} {kk : Nat} (hg : Gl X "enumerate") (hm : X.mg "enumerate" = none) (ha : PA X [e] ta) (hs : starEach [e] X.env = [(false, eval e X.env)] := by rfl) :
    PI X (.Tuple elts kk tpos) (.Call (.Name "enumerate" p) [e] [] pos) (iEnumT X.K ta) := by
  refine ⟨fun pins s σ H R I h => ?_⟩
  refine Call_ (ld_blt I hg hm boot_enumerate (PyProof.Rows.callWith_type1 (thn (ha.run pos pins s σ H _ I h) fun us s1 ⟨vs, H1, I1, r1, q1⟩ => ?_) hs rfl))
  obtain ⟨a, xs, ex, hq, q⟩ := q1
  subst ex
  cases r1 with
  | cons r rr =>
    cases rr
    cases r
    obtain ⟨its, rv, p', hz⟩ := I1.tuple hq
    refine call_enum1 (begins_tuple a its.toArray) p' fun h' he hit hsz hk => wpAny_pyIter_enum he ?_
    have I2 : Inv X pins σ H1 { s1 with heap := h' } := I1.kept (t' := s1.toks) hk
    refine ⟨s1.heap.objs.size + 1, [s1.heap.objs.size + 1, s1.heap.objs.size], _, _, H1, rfl, I2, turn_enumT a (s1.heap.objs.size + 1) s1.heap.objs.size, ⟨⟨.none, he⟩, ⟨_, hit, rfl, rfl⟩, Nat.succ_ne_self _⟩, fun b hb => ?_, q⟩
    have e' : b = s1.heap.objs.size + 1 ∨ b = s1.heap.objs.size := by simpa using hb
    have hle : s1.heap.objs.size ≤ b := by
      rcases e' with z | z
      · rw [z]; exact Nat.le_add_right _ _
      · rw [z]; exact Nat.le_refl _
    exact I1.fpOk hle (I1.hok.fresh hle)
end TR
namespace TR
open PySem PySem.Spec PyProof.Rows L2
def topS (i : Nat) : Stmt := PySem.Challenge.pw_tasterow_k03_rankings_numbered.main.body.getD i (.Pass ⟨0, 0, 0, 0⟩)
abbrev sWhole : Stmt := topS 6
abbrev sWithin : Stmt := topS 7
abbrev sCount : Stmt := topS 9
abbrev sRkIdx : Stmt := topS 10
abbrev sRkAt : Stmt := topS 11
abbrev sDeck : Stmt := topS 13
abbrev sNext : Stmt := topS 14
abbrev sOne : Stmt := topS 15
abbrev sSame : Stmt := topS 16
abbrev sLWhole : Stmt := topS 17
abbrev sOdd : Stmt := topS 18
abbrev sList : Stmt := topS 19
abbrev sAll : Stmt := topS 20
abbrev sRaised : Stmt := topS 21
abbrev sLaw : Stmt := topS 22
end TR
namespace TR
open PySem PySem.Spec PyProof.Rows L2
theorem scDeck : FnScope ["_law_script", "_law_cells", "_law_cell"] ["_law_script"] (defScope sDeck) := ⟨rfl, rfl, rfl, by decide +kernel, rfl, by decide +kernel, by decide +kernel⟩
section
variable {P : Program} {w : World} {K : PySem.W.Frag} {mg : Str → Option Value} {base : Heap}
def spDeck (K : PySem.W.Frag) : Sp := fun vs H Q _ => ∃ (a : Addr) (ns : List Int), vs = [.ref a] ∧ SqL K H a (ns.map V.int) ∧ ns.length ≤ 63 ∧
  ∀ H' d p q, Same H H' → Deck H' d p q 0 → Q (.ref d) H'
theorem ok_deck {f : Addr} {fd : FuncData} {k : Nat} (F : Fun K "_law_deck" "_law_deck" sDeck f fd) (mabs : mg "abs" = none) (mlen : mg "len" = none) : FnOk P w K mg base CX0 (k + 1) f fd ["_law_script"] (spDeck K) := by
  refine F.ok scDeck (fun vs H Q E h => ?_) (fun cdv A outer s H vs Q E hr h => ?_)
  · obtain ⟨a, ns, rfl, _⟩ := h
    rfl
  · obtain ⟨a, ns, rfl, hS, hlen, q⟩ := h
    refine ⟨_, pss_cons (ps_setLc (i := 1) (own := [("_law_cell", 2)]) (g := gName 2) (tt := tYes) (by rfl) scDeck.nd rfl rfl (sw_true rfl rfl rfl (by decide +kernel)) (pi_list (pv 0))
        (blkOk_by (own := [("_law_cell", 2)]) (N := ["_law_script", "_law_cells", "_law_cell"]) (sc := defScope sDeck) (by decide +kernel)) (fun _ _ _ _ _ => pg_name (i := 2) scDeck.nd rfl (Or.inl rfl)) (fun _ _ _ _ _ => pts_nil)
        (fun _ _ _ _ _ => pe_callB call_abs (by rfl) mabs (by decide +kernel) (pa_cons (pv 2) pa_nil)))
      (pss_one (ps_ret (pe_lst (pa_cons
        (pe_lc (own := [("_law_cell", 2)]) (g := gName 2) (by rfl) scDeck.nd (pi_list (pv 1))
          (blkOk_by (own := [("_law_cell", 2)]) (N := ["_law_script", "_law_cells", "_law_cell"]) (sc := defScope sDeck) (by decide +kernel)) (fun _ _ _ _ _ => pg_name (i := 2) scDeck.nd rfl (Or.inl rfl))
          (fun _ _ _ _ _ => pts_one (pt_cmpR op_ge (pv 2) (pe_op op_pow pe_int pe_int) (nomark _)))
          (fun _ _ _ _ _ => pv 2))
        (pa_cons (pe_op op_cat (pv 1) (pe_lst (pa_cons (pe_op op_add (pe_callB call_len_seq (by rfl) mlen PySem.boot_len (pa_cons (pv 1) pa_nil)) pe_int) pa_nil)))
        (pa_cons pe_int pa_nil)))))), ?_⟩
    refine ⟨.ref a, rfl, a, rfl, ⟨_, hS⟩, fun D hD => lc_list (K := K) (a := a) (xs := ns.map V.int) (fun i H1 => Same H H1 ∧ ∃ zs : List Int, zs.length ≤ i ∧ H1 D = some (.lst (zs.map V.int))) ⟨same_upd hD, [], Nat.zero_le _, upd_same⟩ (fun i H1 _ h => h.1.seq hS) (fun i x H1 hx h => ?_) (fun H1 h => ?_)⟩
    · obtain ⟨sm, zs, hz, hd⟩ := h
      obtain ⟨z, hz1, rfl⟩ : ∃ z, ns[i]? = some z ∧ x = .int z := by
        rw [List.getElem?_map] at hx
        cases e : ns[i]? with
        | none => rw [e] at hx; cases hx
        | some z => rw [e] at hx; exact ⟨z, rfl, (Option.some.inj hx).symm⟩
      have hi : i < ns.length := (List.getElem?_eq_some_iff.mp hz1).1
      refine ⟨rfl, .int z, rfl, z, rfl, _, hd, ?_, same_upd2 sm hD, zs ++ [if z < 0 then -z else z], ?_, ?_⟩
      · rw [List.length_map]
        exact small1000 (by omega)
      · rw [List.length_append]
        show zs.length + 1 ≤ i + 1
        omega
      · rw [upd_same, List.map_append]
        rfl
    · obtain ⟨sm, zs, hz, hd⟩ := h
      rw [List.length_map] at hz
      refine ⟨.ref D, rfl, D, rfl, ⟨_, sqL hd⟩, fun p hp => lc_list (K := K) (a := D) (xs := zs.map V.int) (fun i H2 => Same H1 H2 ∧ ∃ ys : List Int, ys.length ≤ i ∧ H2 p = some (.lst (ys.map V.int))) ⟨same_upd hp, [], Nat.zero_le _, upd_same⟩ (fun i H2 _ h => h.1.seq (sqL hd)) (fun i x H2 hx h => ?_) (fun H2 h => ?_)⟩
      · obtain ⟨sm2, ys, hy, hd2⟩ := h
        obtain ⟨z, hz1, rfl⟩ : ∃ z, zs[i]? = some z ∧ x = .int z := by
          rw [List.getElem?_map] at hx
          cases e : zs[i]? with
          | none => rw [e] at hx; cases hx
          | some z => rw [e] at hx; exact ⟨z, rfl, (Option.some.inj hx).symm⟩
        have hi : i < zs.length := (List.getElem?_eq_some_iff.mp hz1).1
        refine ⟨rfl, .int z, rfl, 10, 18, rfl, rfl, ⟨by decide, by decide, by decide⟩, _, _, rfl, rfl, _, rfl, ite2 (fun _ => ?_) (fun _ => ?_)⟩
        · refine ⟨.int z, rfl, _, hd2, ?_, same_upd2 sm2 hp, ys ++ [z], ?_, ?_⟩
          · rw [List.length_map]
            exact small1000 (by omega)
          · rw [List.length_append]
            show ys.length + 1 ≤ i + 1
            omega
          · rw [upd_same, List.map_append]
            rfl
        · exact ⟨sm2, ys, by omega, hd2⟩
      · obtain ⟨sm2, ys, hy, hd2⟩ := h
        have hD2 : H2 D = some (.lst (zs.map V.int)) := sm2 _ _ hd
        rw [List.length_map] at hy
        refine ⟨.ref D, rfl, .ref D, rfl, D, _, rfl, .inl (sqL hD2), _, _, rfl, rfl, by show 1 ≤ sizeLine; decide, fun t ht => ?_⟩
        have nDt : D ≠ t := ne_of_none hD2 ht
        refine ⟨D, t, _, _, rfl, rfl, (by rw [upd_ne nDt]; exact hD2), upd_same, ?_, fun q' hq' => ?_⟩
        · rw [List.length_map]
          show zs.length + 1 ≤ sizeLine
          exact Nat.le_of_lt (small1000 (by omega))
        · have e : zs.map V.int ++ [V.int (((zs.map V.int).length : Int) + 5)] = (zs ++ [((zs.map V.int).length : Int) + 5]).map V.int := by
            rw [List.map_append]
            rfl
          refine ⟨by show 3 ≤ sizeLine; decide, fun d hd' => q _ d p q' ?_ ⟨ys.length, ⟨⟨ys, zs ++ [((zs.map V.int).length : Int) + 5], 0, upd_same, ?_, ?_, Int.le_refl _, Int.le_refl _, by simp, rfl⟩, ?_, ?_, ?_⟩⟩⟩
          · exact (sm.trans sm2).trans ((same_upd ht).trans ((same_upd hq').trans (same_upd hd')))
          · exact ((same_upd ht).trans ((same_upd hq').trans (same_upd hd'))) _ _ hd2
          · rw [← e]
            exact (same_upd hd') _ _ upd_same
          · exact (ne_of_none (((same_upd ht).trans (same_upd hq')) _ _ hd2) hd').symm
          · exact (ne_of_none (upd_same (H := upd H2 t _)) hd').symm
          · exact ne_of_none ((same_upd ht) _ _ hd2) hq'
end
end TR
namespace TR
open PySem PySem.Spec PyProof.Rows L2
theorem scNext : FnScope ["_law_deck_here", "_law_many", "_law_rest", "_law_cell", "_law_mixed"] ["_law_deck_here", "_law_many"] (defScope sNext) := ⟨rfl, rfl, rfl, by decide +kernel, rfl, by decide +kernel, by decide +kernel⟩
theorem ixN_zero {n : Nat} (h : 0 < n) : ixN n 0 = some 0 := by
  unfold ixN
  rw [if_pos (Int.le_refl _), if_pos (by omega)]
  rfl
section
variable {P : Program} {w : World} {K : PySem.W.Frag} {mg : Str → Option Value} {base : Heap}
def spNext : Sp := fun vs H Q _ => ∃ (d p q : Addr) (n : Nat) (m : Int), vs = [.ref d, .int m] ∧ Deck H d p q n ∧ n ≤ 1000000 ∧ 0 < m ∧ m < 1000000 ∧
  ∀ H' r, 0 ≤ r → r < m → Deck H' d p q (n + 1) → Keep d p H H' → Q (.int r) H'
theorem ok_next {f : Addr} {fd : FuncData} {k : Nat} (F : Fun K "_law_next" "_law_next" sNext f fd) (mlen : mg "len" = none) : FnOk P w K mg base CX0 (k + 1) f fd ["_law_deck_here", "_law_many"] spNext := by
  refine F.ok scNext (fun vs H Q E h => ?_) (fun cdv A outer s H vs Q E hr h => ?_)
  · obtain ⟨d, p, q, n, m, rfl, _⟩ := h
    rfl
  · obtain ⟨d, p, q, n, m, rfl, ⟨l0, D0⟩, hn, hm0, hm1, qq⟩ := h
    refine ⟨_, pss_cons (ps_while PassesOwn.never (pt_cmpR (op_neD hr.units) (pe_ix ix_list (pv 0) pe_int (fun _ _ => rfl)) (pe_lst pa_nil) (nomark _))
        (pss_cons (ps_set (i := 2) scNext.nd rfl (.inl rfl) (pe_ix ix_list (pe_ix ix_list (pv 0) pe_int (fun _ _ => rfl)) pe_int (fun _ _ => rfl)))
        (pss_cons (ps_if (pt_cmpR op_gt (pv 2) pe_int (nomark _))
          (pss_cons (ps_asg (pe_op op_fdiv (pv 2) (pv 1)) (pg_sub (pe_ix ix_list (pv 0) pe_int (fun _ _ => rfl)) pe_int set_list))
          (pss_one (ps_ret (pe_op op_mod (pv 2) (pv 1))))) pss_nil)
        (pss_one (ps_expr (pe_bm PySem.F.plainAttrs_list PySem.F.slot_list_pop PySem.F.type_list_pop mt_popAt (pe_ix ix_list (pv 0) pe_int (fun _ _ => rfl)) (pa_cons pe_int pa_nil)))))))
      (pss_cons (ps_asg (pe_op op_add (pe_ix ix_list (pv 0) pe_int (fun _ _ => rfl)) pe_int) (pg_sub (pv 0) pe_int set_list))
      (pss_cons (ps_set (i := 3) scNext.nd rfl (.inl rfl) (pe_op op_mod (pe_ix ix_list (pe_ix ix_list (pv 0) pe_int (fun _ _ => rfl)) (pe_op op_mod (pe_ix ix_list (pv 0) pe_int (fun _ _ => rfl)) (pe_callB call_len_seq (by rfl) mlen PySem.boot_len (pa_cons (pe_ix ix_list (pv 0) pe_int (fun _ _ => rfl)) pa_nil))) (fun _ _ => rfl)) pe_int))
      (pss_cons (ps_set (i := 4) scNext.nd rfl (.inl rfl) (pe_op op_add (pe_op op_add (pe_op op_mul (pv 3) (pe_op op_add pe_int (pe_op op_mul pe_int (pe_ix ix_list (pv 0) pe_int (fun _ _ => rfl))))) (pe_op op_mul (pe_op op_mul pe_int (pe_ix ix_list (pv 0) pe_int (fun _ _ => rfl))) (pe_ix ix_list (pv 0) pe_int (fun _ _ => rfl)))) pe_int))
      (pss_cons (ps_set (i := 4) scNext.nd rfl (.inl rfl) (pe_op op_mod (pv 4) pe_int))
      (pss_one (ps_ret (pe_op op_mod (pe_op op_fdiv (pe_op op_mod (pe_op op_mul (pv 4) (pv 4)) pe_int) pe_int) (pv 1)))))))), ?_⟩
    refine ⟨fun l σ H1 => ∃ y2, σ = [some (.ref d), some (.int m), y2, none, none] ∧ DeckL H1 d p q n l ∧ Keep d p H H1, ⟨l0, none, rfl, D0, Keep.refl _ _ _⟩, fun l σ H1 hW => ?_⟩
    obtain ⟨y2, rfl, ⟨⟨xs, cs, c, h1, h2, h3, h4, h5, h6, h7⟩, ndp, ndq, npq⟩, kp⟩ := hW
    refine ⟨.ref d, rfl, d, _, 0, .ref p, rfl, rfl, sqL h1, rfl, Nat.zero_le _, fun e he => ?_⟩
    have hp1 : upd H1 e (.lst []) p = some (.lst (xs.map V.int)) := by
      rw [upd_ne (ne_of_none h2 he)]
      exact h2
    have hd1 : upd H1 e (.lst []) d = some (.lst [.ref p, .ref q, .int c]) := by
      rw [upd_ne (ne_of_none h1 he)]
      exact h1
    have hq1 : upd H1 e (.lst []) q = some (.lst (cs.map V.int)) := by
      rw [upd_ne (ne_of_none h3 he)]
      exact h3
    have kp1 : Keep d p H (upd H1 e (.lst [])) := kp.trans (Same.keep (same_upd he))
    refine ⟨_, _, .lst (sqL hp1) (dpAll_ints xs), .lst (sqL upd_same) .nil, shaped_ints xs, rfl, _, rfl, ?_⟩
    rw [eqv_nil]
    cases xs with
    | cons x r =>
      refine iteT ?_
      refine ⟨fun σ H2 => ∃ y2, σ = [some (.ref d), some (.int m), y2, none, none] ∧ DeckL H2 d p q n r.length ∧ Keep d p H H2, fun σ' H' hN => ⟨r.length, by rw [← h7]; exact Nat.lt_succ_self _, hN⟩, ?_⟩
      refine ⟨.ref d, rfl, d, _, 0, .ref p, rfl, rfl, sqL hd1, rfl, p, _, 0, .int x, rfl, rfl, sqL hp1, atI_nat (j := 0) rfl, ?_⟩
      refine ⟨.int x, rfl, x, 0, rfl, rfl, _, rfl, ite2 (fun hx => ?_) (fun hx => ?_)⟩
      · refine ⟨.int x, rfl, .int m, rfl, x, m, rfl, rfl, ⟨hm0, by show m < 1073741824; omega⟩, .ref d, rfl, d, _, 0, .ref p, rfl, rfl, sqL hd1, rfl, p, _, 0, 0, rfl, rfl, hp1, ixN_zero (by simp), ?_⟩
        refine ⟨.int x, rfl, .int m, rfl, x, m, rfl, rfl, hm0, qq _ _ (Int.emod_nonneg _ (by omega)) (Int.emod_lt_of_pos _ hm0) ?_ (keep_upd kp1 (.inr rfl))⟩
        refine ⟨r.length + 1, ⟨⟨(x / m) :: r, cs, c, ?_, upd_same, ?_, h4, by omega, h6, rfl⟩, ndp, ndq, npq⟩⟩
        · rw [upd_ne ndp]
          exact hd1
        · rw [upd_ne npq.symm]
          exact hq1
      · refine ⟨.ref d, rfl, d, _, 0, .ref p, rfl, rfl, sqL hd1, rfl, .inl ⟨rfl, _, sqL hp1⟩, p, _, 0, 0, .int x, rfl, rfl, hp1, by decide, by decide, ?_, rfl, ?_⟩
        · show seqIndex? 0 ((V.int x :: r.map V.int).length) = some 0
          unfold seqIndex?
          simp
        · refine ⟨some (.int x), rfl, ⟨⟨r, cs, c, ?_, upd_same, ?_, h4, h5, h6, rfl⟩, ndp, ndq, npq⟩, keep_upd kp1 (.inr rfl)⟩
          · rw [upd_ne ndp]
            exact hd1
          · rw [upd_ne npq.symm]
            exact hq1
    | nil =>
      refine iteF ?_
      refine ⟨.ref d, rfl, d, _, 2, .int c, rfl, rfl, sqL hd1, rfl, c, 1, rfl, rfl, .ref d, rfl, d, _, 2, 2, rfl, rfl, hd1, rfl, ?_⟩
      have kp2 : Keep d p H (upd (upd H1 e (.lst [])) d (.lst [.ref p, .ref q, .int (c + 1)])) := keep_upd kp1 (.inl rfl)
      have hq2 : upd (upd H1 e (.lst [])) d (.lst [.ref p, .ref q, .int (c + 1)]) q = some (.lst (cs.map V.int)) := by
        rw [upd_ne ndq.symm]
        exact hq1
      have hp2 : upd (upd H1 e (.lst [])) d (.lst [.ref p, .ref q, .int (c + 1)]) p = some (.lst (([] : List Int).map V.int)) := by
        rw [upd_ne ndp.symm]
        exact hp1
      have hd2 : upd (upd H1 e (.lst [])) d (.lst [.ref p, .ref q, .int (c + 1)]) d = some (.lst [.ref p, .ref q, .int (c + 1)]) := upd_same
      have hcl : 0 < (cs.map V.int).length := by
        rw [List.length_map]
        exact List.length_pos_iff.mpr h6
      have hcl' : (0 : Int) < ((cs.map V.int).length : Int) := by omega
      have b0 : 0 ≤ (c + 1) % ((cs.map V.int).length : Int) := Int.emod_nonneg _ (by omega)
      have b1 : (c + 1) % ((cs.map V.int).length : Int) < ((cs.map V.int).length : Int) := Int.emod_lt_of_pos _ hcl'
      obtain ⟨j, hj⟩ := Int.eq_ofNat_of_zero_le b0
      have hjl : j < cs.length := by
        rw [List.length_map] at b1 hj
        omega
      have ga : (cs.map V.int)[j]? = some (.int cs[j]) := by
        rw [List.getElem?_map, List.getElem?_eq_getElem hjl]
        rfl
      have gb : atI (cs.map V.int) ((c + 1) % ((cs.map V.int).length : Int)) = some (.int cs[j]) := by
        rw [hj]
        exact atI_nat ga
      refine ⟨.ref d, rfl, d, _, 1, .ref q, rfl, rfl, sqL hd2, rfl, .ref d, rfl, d, _, 2, .int (c + 1), rfl, rfl, sqL hd2, rfl, .ref d, rfl, d, _, 1, .ref q, rfl, rfl, sqL hd2, rfl, q, _, rfl, .inl (sqL hq2), _, _, rfl, rfl, hcl', q, _, _, _, rfl, rfl, sqL hq2, gb, _, _, rfl, rfl, by show (0 : Int) < 2147483647; decide, ?_⟩
      have e1 : (0 : Int) ≤ cs[j] % 2147483647 := Int.emod_nonneg _ (by decide)
      have e2 : cs[j] % 2147483647 < 2147483647 := Int.emod_lt_of_pos _ (by decide)
      refine ⟨.int (cs[j] % 2147483647), rfl, .ref d, rfl, d, _, 2, .int (c + 1), rfl, rfl, sqL hd2, rfl, 48271, _, rfl, rfl, .inl ⟨by decide, by decide⟩, _, _, rfl, rfl, cs[j] % 2147483647, _, rfl, rfl, .inl ⟨by show -(2 : Int) ^ 64 < cs[j] % 2147483647; omega, by show cs[j] % 2147483647 < (2 : Int) ^ 64; omega⟩,
        .ref d, rfl, d, _, 2, .int (c + 1), rfl, rfl, sqL hd2, rfl, 30011, _, rfl, rfl, .inl ⟨by decide, by decide⟩, .ref d, rfl, d, _, 2, .int (c + 1), rfl, rfl, sqL hd2, rfl, _, _, rfl, rfl, .inr ⟨by show -(2 : Int) ^ 64 < c + 1; omega, by show c + 1 < (2 : Int) ^ 64; omega⟩, _, _, rfl, rfl, _, _, rfl, rfl, ?_⟩
      refine ⟨_, rfl, _, _, rfl, rfl, by show (0 : Int) < 2147483629; decide, ?_⟩
      have e3 : (0 : Int) ≤ (cs[j] % 2147483647 * (69621 + 48271 * (c + 1)) + 30011 * (c + 1) * (c + 1) + 47) % 2147483629 := Int.emod_nonneg _ (by decide)
      have e4 : (cs[j] % 2147483647 * (69621 + 48271 * (c + 1)) + 30011 * (c + 1) * (c + 1) + 47) % 2147483629 < 2147483629 := Int.emod_lt_of_pos _ (by decide)
      refine ⟨.int ((cs[j] % 2147483647 * (69621 + 48271 * (c + 1)) + 30011 * (c + 1) * (c + 1) + 47) % 2147483629), rfl, .int ((cs[j] % 2147483647 * (69621 + 48271 * (c + 1)) + 30011 * (c + 1) * (c + 1) + 47) % 2147483629), rfl, _, _, rfl, rfl, .inl ⟨by show -(2 : Int) ^ 64 < (cs[j] % 2147483647 * (69621 + 48271 * (c + 1)) + 30011 * (c + 1) * (c + 1) + 47) % 2147483629; omega, by show (cs[j] % 2147483647 * (69621 + 48271 * (c + 1)) + 30011 * (c + 1) * (c + 1) + 47) % 2147483629 < (2 : Int) ^ 64; omega⟩, _, _, rfl, rfl, by show (0 : Int) < 2147483587; decide, _, _, rfl, rfl, ⟨by decide, by decide⟩, .int m, rfl, _, m, rfl, rfl, hm0, ?_⟩
      exact qq _ _ (Int.emod_nonneg _ (by omega)) (Int.emod_lt_of_pos _ hm0) ⟨0, ⟨[], cs, c + 1, hd2, hp2, hq2, by omega, by omega, h6, rfl⟩, ndp, ndq, npq⟩ kp2
end
end TR
namespace TR
open PySem PySem.Spec PyProof.Rows L2
/-! ### rankings in the heap -/
def Tp (H : Hp) (a : Addr) (ns : List Int) : Prop := ∃ o : Obj, o.dict = none ∧ H a = some (.frz o (.tup (ns.map V.int)))
theorem Tp.sq {K : PySem.W.Frag} {H : Hp} {a : Addr} {ns : List Int} (t : Tp H a ns) : SqT K H a (ns.map V.int) := by
  obtain ⟨o, _, h⟩ := t
  exact .inl (.inr ⟨o, h⟩)
theorem Tp.same {H H' : Hp} {a : Addr} {ns : List Int} (t : Tp H a ns) (s : Same H H') : Tp H' a ns := by
  obtain ⟨o, d, h⟩ := t
  exact ⟨o, d, s _ _ h⟩
theorem Tp.keep {H H' : Hp} {a d p q : Addr} {n : Nat} {ns : List Int} (t : Tp H a ns) (D : Deck H d p q n) (s : Keep d p H H') : Tp H' a ns := by
  obtain ⟨o, hd, h⟩ := t
  obtain ⟨x, y, c, e1⟩ := D.hd
  obtain ⟨xs, e2⟩ := D.hp
  exact ⟨o, hd, s _ _ h (ne_of h e1 (by intro z; cases z)) (ne_of h e2 (by intro z; cases z))⟩
theorem Tp.new {H : Hp} {a : Addr} {ns : List Int} {o : Obj} (h : o.dict = none) : Tp (upd H a (.frz o (.tup (ns.map V.int)))) a ns := ⟨o, h, upd_same⟩
/-! ### lists of pairs -/
inductive Prs (H : Hp) : List V → List (Int × Int) → Prop
  | nil : Prs H [] []
  | cons {q : Addr} {a b : Int} {vs : List V} {ps : List (Int × Int)} : H q = some (.tup [.int a, .int b]) → Prs H vs ps → Prs H (.ref q :: vs) ((a, b) :: ps)
theorem Prs.same {H H' : Hp} {vs : List V} {ps : List (Int × Int)} (h : Prs H vs ps) (s : Same H H') : Prs H' vs ps := by
  induction h with
  | nil => exact .nil
  | cons e _ ih => exact .cons (s _ _ e) ih
theorem Prs.upd_lst {H : Hp} {vs : List V} {ps : List (Int × Int)} {D : Addr} {xs ys : List V} (h : Prs H vs ps) (e : H D = some (.lst xs)) : Prs (upd H D (.lst ys)) vs ps := by
  induction h with
  | nil => exact .nil
  | cons e2 _ ih => exact .cons (by rw [upd_ne (ne_of e2 e (by intro z; cases z))]; exact e2) ih
theorem Prs.append {H : Hp} {vs ws : List V} {ps qs : List (Int × Int)} (h : Prs H vs ps) (g : Prs H ws qs) : Prs H (vs ++ ws) (ps ++ qs) := by
  induction h with
  | nil => exact g
  | cons e _ ih => exact .cons e ih
theorem Prs.len {H : Hp} {vs : List V} {ps : List (Int × Int)} (h : Prs H vs ps) : vs.length = ps.length := by
  induction h with
  | nil => rfl
  | cons _ _ ih => rw [List.length_cons, List.length_cons, ih]
theorem Prs.get {H : Hp} {vs : List V} {ps : List (Int × Int)} (h : Prs H vs ps) : ∀ {i : Nat} {x : V}, vs[i]? = some x → ∃ q a b, x = .ref q ∧ ps[i]? = some (a, b) ∧ H q = some (.tup [.int a, .int b]) := by
  induction h with
  | nil => intro i x e; simp at e
  | cons e _ ih =>
    intro i x g
    cases i with
    | zero => exact ⟨_, _, _, (Option.some.inj g).symm, rfl, e⟩
    | succ i => exact ih g
def pd (p : Int × Int) : PyData := .tuple [.int p.1, .int p.2]
theorem Prs.dp {K : PySem.W.Frag} {H : Hp} {vs : List V} {ps : List (Int × Int)} (h : Prs H vs ps) : DpAll K H vs (ps.map pd) := by
  induction h with
  | nil => exact .nil
  | cons e _ ih => exact .cons (.tup (sqT e) (.cons (.int _) (.cons (.int _) .nil))) ih
/-- a walk over a range inside a comprehension, by a word over heaps -/
theorem walk_in {n : Nat} {lo : Int} {H4 : Hp} {Nx : Hp → Prop} {B : V → Hp → (Hp → Prop) → Prop} (Pv : Nat → Hp → Prop) (h0 : Pv 0 H4) (hs : ∀ j H, j < n → Pv j H → B (.int (lo + (j : Int))) H (Pv (j + 1))) (hd : ∀ H, Pv n H → Nx H) :
    ∃ W : Nat → Nat → Hp → Prop, (∃ m, W 0 m H4) ∧ ∀ j k H, W j k H → ((Itr lo n).stop j H ∧ Nx H) ∨ ((Itr lo n).go j H ∧ ∃ N : Hp → Prop, (∀ H', N H' → ∃ k', k' < k ∧ W (j + 1) k' H') ∧ ∀ x H', (Itr lo n).yld j H x H' → B x H' N) := by
  refine ⟨fun j k H => k = n - j ∧ j ≤ n ∧ Pv j H, ⟨n, by simp, Nat.zero_le _, h0⟩, ?_⟩
  rintro j k H ⟨rfl, hj, p⟩
  by_cases hlt : j < n
  · refine .inr ⟨hlt, Pv (j + 1), fun H' p' => ⟨n - (j + 1), by omega, rfl, hlt, p'⟩, fun x H' y => ?_⟩
    obtain ⟨e, e2⟩ := y
    subst e e2
    exact hs j _ hlt p
  · have e : j = n := by omega
    subst e
    exact .inl ⟨Nat.le_refl _, hd H p⟩
end TR
namespace TR
open PySem PySem.Spec PyProof.Rows L2
theorem scList : FnScope ["_law_deck_here", "_law_dishes", "_law_left", "_law_found"] ["_law_deck_here", "_law_dishes"] (defScope sList) := ⟨rfl, rfl, rfl, by decide +kernel, rfl, by decide +kernel, by decide +kernel⟩
theorem keep_fresh {d p x : Addr} {H H1 : Hp} {o : HO} (a : Keep d p H H1) (h : H x = none) : Keep d p H (upd H1 x o) := fun c u e n m => by
  rw [upd_ne (ne_of_none e h)]
  exact a c u e n m
theorem Deck.upd {H : Hp} {d p q x : Addr} {n : Nat} {o : HO} (D : Deck H d p q n) (h1 : x ≠ d) (h2 : x ≠ p) (h3 : x ≠ q) : Deck (upd H x o) d p q n := by
  obtain ⟨m, ⟨xs, cs, c, e1, e2, e3, e4⟩, a, b, e⟩ := D
  exact ⟨m, ⟨xs, cs, c, by rw [upd_ne h1.symm]; exact e1, by rw [upd_ne h2.symm]; exact e2, by rw [upd_ne h3.symm]; exact e3, e4⟩, a, b, e⟩
theorem Deck.hq {H : Hp} {d p q : Addr} {n : Nat} (D : Deck H d p q n) : ∃ xs : List Int, H q = some (.lst (xs.map V.int)) := by
  obtain ⟨m, ⟨xs, cs, c, h1, h2, h3, _⟩, _⟩ := D
  exact ⟨_, h3⟩
theorem Deck.neq {H : Hp} {d p q : Addr} {n : Nat} (D : Deck H d p q n) {b : Addr} (h : H b = none) : b ≠ q := by
  obtain ⟨x, e⟩ := D.hq
  exact (ne_of_none e h).symm
theorem rgV_rng (n : Nat) : rgV 0 (n : Int) = (rng n).map V.int := by
  unfold rgV rng
  rw [List.map_map, show ((n : Int) - 0).toNat = n by omega]
  refine congrArg (fun g => (List.range n).map g) (funext fun i => ?_)
  show V.int (0 + (i : Int)) = V.int (i : Int)
  rw [Int.zero_add]
theorem erase_map {α β : Type} (f : α → β) : ∀ (l : List α) (j : Nat), (l.map f).eraseIdx j = (l.eraseIdx j).map f
  | [], _ => rfl
  | _ :: _, 0 => rfl
  | x :: r, j + 1 => by
    show f x :: (r.map f).eraseIdx j = f x :: (r.eraseIdx j).map f
    rw [erase_map f r j]
theorem seq_nat {j n : Nat} (h : j < n) : seqIndex? (j : Int) n = some j := by
  unfold seqIndex?
  rw [if_neg (show ¬ ((j : Int) < 0) by omega)]
  simp [h]
section
variable {P : Program} {w : World} {K : PySem.W.Frag} {mg : Str → Option Value} {base : Heap}
/-! ### _law_list -/
def spList : Sp := fun vs H Q _ => ∃ (d p q : Addr) (c n : Nat), vs = [.ref d, .int (n : Int)] ∧ Deck H d p q c ∧ c + n ≤ 1000000 ∧ n ≤ 8 ∧
  ∀ H' t ns, Rank n ns → Deck H' d p q (c + n) → Keep d p H H' → Tp H' t ns → Q (.ref t) H'
theorem ok_list {f fN : Addr} {fd fdN : FuncData} {k : Nat} (F : Fun K "_law_list" "_law_list" sList f fd) (FN : Fun K "_law_next" "_law_next" sNext fN fdN) (bN : Binds K fdN ["_law_deck_here", "_law_many"] []) (gN : mg "_law_next" = some (.ref fN))
    (GN : FnOk P w K mg base CX0 (k + 1) fN fdN ["_law_deck_here", "_law_many"] spNext) (mr : mg "range" = none) (ml : mg "list" = none) (mlen : mg "len" = none) (mt : mg "tuple" = none) : FnOk P w K mg base CX0 (k + 2) f fd ["_law_deck_here", "_law_dishes"] spList := by
  refine F.ok scList (fun vs H Q E h => ?_) (fun cdv A outer s H vs Q E hr h => ?_)
  · obtain ⟨d, p, q, c, n, rfl, _⟩ := h
    rfl
  · obtain ⟨d, p, q, c, n, rfl, D0, hc, hn, qq⟩ := h
    refine ⟨_, pss_cons (ps_par (i := 2) (j := 3) (by rfl) scList.nd rfl rfl (by decide) rfl rfl (pa_cons (pe_listRg (by rfl) (by rfl) ml (prg_1 (by rfl) mr (pv 1))) (pa_cons (pe_lst pa_nil) pa_nil)) (by rfl))
      (pss_cons (ps_while PassesOwn.never (pt_cmpR (op_neD hr.units) (pv 2) (pe_lst pa_nil) (nomark _))
        (pss_one (ps_expr (pe_bm PySem.F.plainAttrs_list PySem.F.slot_list_append PySem.F.type_list_append mt_append (pv 3) (pa_cons
          (pe_bm PySem.F.plainAttrs_list PySem.F.slot_list_pop PySem.F.type_list_pop mt_popAt (pv 2) (pa_cons
            (pe_call GN hr (by rfl) gN FN.kp bN .nil pass0 (pa_cons (pv 0) (pa_cons (pe_callB call_len_seq (by rfl) mlen PySem.boot_len (pa_cons (pv 2) pa_nil)) pa_nil))) pa_nil)) pa_nil)))))
      (pss_one (ps_ret (pe_callTy call_tupleF (by rfl) mt (by decide +kernel) (pa_cons (pv 3) pa_nil))))), ?_⟩
    refine ⟨.int (n : Int), rfl, n, rfl, RgOk.of_le (by omega) (by omega) (by omega) (by omega), fun l hl => ⟨Nat.zero_le _, fun g hg => ⟨.ref l, .ref g, rfl, ?_⟩⟩⟩
    rw [rgV_rng] at hg ⊢
    have hg0 : H g = none := (same_upd hl).free hg
    have nlg : l ≠ g := ne_of_none (upd_same (H := H)) hg
    refine ⟨fun m σ H1 => σ = [some (.ref d), some (.int (n : Int)), some (.ref l), some (.ref g)] ∧ ∃ left found : List Int, H1 l = some (.lst (left.map V.int)) ∧ H1 g = some (.lst (found.map V.int)) ∧ left.length = m ∧ m ≤ n ∧ (left ++ found).Perm (rng n) ∧ Deck H1 d p q (c + (n - m)) ∧ Keep d p H H1,
      ⟨n, rfl, rng n, [], ?_, upd_same, rng_len n, Nat.le_refl _, by rw [List.append_nil], ?_, ?_⟩, fun m σ H1 hW => ?_⟩
    · rw [upd_ne nlg, upd_same]
    · rw [Nat.sub_self]
      exact (D0.same (same_upd hl)).same (same_upd hg)
    · exact Same.keep ((same_upd hl).trans (same_upd hg))
    · obtain ⟨rfl, left, found, h1, h2, h3, h4, h5, D1, kp⟩ := hW
      refine ⟨.ref l, rfl, Nat.zero_le _, fun e he => ?_⟩
      have sE : Same H1 (upd H1 e (.lst [])) := same_upd he
      refine ⟨_, _, .lst (sqL (sE _ _ h1)) (dpAll_ints left), .lst (sqL upd_same) .nil, shaped_ints left, rfl, _, rfl, ?_⟩
      rw [eqv_nil]
      have kp1 : Keep d p H (upd H1 e (.lst [])) := kp.trans (Same.keep sE)
      have D2 := D1.same sE
      have h1' := sE _ _ h1
      have h2' := sE _ _ h2
      generalize upd H1 e (.lst []) = H2 at h1' h2' D2 kp1 ⊢
      cases left with
      | cons x r =>
        refine iteT ?_
        refine ⟨fun σ H' => σ = [some (.ref d), some (.int (n : Int)), some (.ref l), some (.ref g)] ∧ ∃ left found : List Int, H' l = some (.lst (left.map V.int)) ∧ H' g = some (.lst (found.map V.int)) ∧ left.length = r.length ∧ r.length ≤ n ∧ (left ++ found).Perm (rng n) ∧ Deck H' d p q (c + (n - r.length)) ∧ Keep d p H H',
          fun σ' H' hN => ⟨r.length, by rw [← h3]; exact Nat.lt_succ_self _, hN⟩, ?_⟩
        rw [List.length_cons] at h3
        refine ⟨.ref g, rfl, .inl ⟨rfl, _, sqL h2'⟩, .ref l, rfl, .inl ⟨rfl, _, sqL h1'⟩, .ref d, rfl, .ref l, rfl, l, _, rfl, .inl (sqL h1'), d, p, q, c + (n - m), _, rfl, D2, by omega, ?_, ?_, fun H3 z z0 z1 D3 kp3 => ?_⟩
        · rw [List.length_map, List.length_cons]
          omega
        · rw [List.length_map, List.length_cons]
          omega
        · rw [List.length_map] at z1
          have nld : l ≠ d := D0.ned hl
          have nlp : l ≠ p := D0.nep hl
          have nlq : l ≠ q := D0.neq hl
          have ngd : g ≠ d := D0.ned hg0
          have ngp : g ≠ p := D0.nep hg0
          have ngq : g ≠ q := D0.neq hg0
          have h1'' := kp3 _ _ h1' nld nlp
          have h2'' := kp3 _ _ h2' ngd ngp
          obtain ⟨j, rfl⟩ := Int.eq_ofNat_of_zero_le z0
          have hj : j < (x :: r).length := by omega
          have gj : (x :: r)[j]? = some (x :: r)[j] := List.getElem?_eq_getElem hj
          have hlen : (x :: r).length ≤ n := by
            rw [List.length_cons]
            omega
          refine ⟨l, _, (j : Int), j, .int (x :: r)[j], rfl, rfl, h1'', by omega, by omega, seq_nat (by rw [List.length_map]; exact hj), by rw [List.getElem?_map, gj]; rfl, ?_⟩
          have fl : found.length ≤ n := by
            have e := h5.length_eq
            rw [List.length_append, rng_len] at e
            omega
          refine ⟨g, _, _, rfl, rfl, by rw [upd_ne nlg.symm]; exact h2'', by rw [List.length_map]; exact small1000 (by omega), ?_⟩
          refine ⟨rfl, (x :: r).eraseIdx j, found ++ [(x :: r)[j]], ?_, ?_, ?_, by omega, ?_, ?_, ?_⟩
          · rw [upd_ne nlg, upd_same, erase_map]
          · rw [upd_same, List.map_append]
            rfl
          · rw [List.length_eraseIdx_of_lt hj]
            rfl
          · refine List.Perm.trans ?_ h5
            refine List.Perm.trans ?_ ((perm_erase gj).append_right found)
            refine List.Perm.trans (l₂ := (((x :: r).eraseIdx j) ++ ([(x :: r)[j]] ++ found))) (List.Perm.append_left _ List.perm_append_comm) ?_
            rw [← List.append_assoc]
            exact List.Perm.append_right _ (List.perm_append_comm)
          · refine Deck.mono ((D3.upd nld nlp nlq).upd ngd ngp ngq) ?_
            omega
          · exact keep_fresh (keep_fresh (kp1.trans kp3) hl) hg0
      | nil =>
        refine iteF ?_
        refine ⟨.ref g, rfl, g, _, rfl, sqL h2', fun t o ht ho => qq _ t found h5 ?_ ?_ (Tp.new ho)⟩
        · exact (D2.same (same_upd ht)).mono (by omega)
        · exact kp1.trans (Same.keep (same_upd ht))
end
end TR
namespace TR
open PySem PySem.Spec PyProof.Rows L2
theorem scSame : FnScope ["_law_found", "_law_due", "_law_k"] ["_law_found", "_law_due"] (defScope sSame) := ⟨rfl, rfl, rfl, by decide +kernel, rfl, by decide +kernel, by decide +kernel⟩
/-! ### the same data, at two places -/
def flatX : V → Bool
  | .non => true
  | .bl _ => true
  | .int _ => true
  | .str _ => true
  | _ => false
def Alk (K : PySem.W.Frag) (H : Hp) : Nat → V → V → Prop
  | 0, _, _ => False
  | m + 1, x, y => (flatX x = true ∧ x = y) ∨ ∃ (a b : Addr) (xs ys : List V), x = .ref a ∧ y = .ref b ∧ ((SqL K H a xs ∧ SqL K H b ys) ∨ (SqT K H a xs ∧ SqT K H b ys)) ∧ xs.length = ys.length ∧ xs.length ≤ 1000 ∧
      ∀ (i : Nat) (u v : V), xs[i]? = some u → ys[i]? = some v → Alk K H m u v
theorem Alk.same {K : PySem.W.Frag} {H H' : Hp} (s : Same H H') : ∀ {m : Nat} {x y : V}, Alk K H m x y → Alk K H' m x y
  | 0, _, _, h => h.elim
  | m + 1, x, y, h => by
    rcases h with h | ⟨a, b, xs, ys, ex, ey, hq, h1, h2, h3⟩
    · exact .inl h
    · refine .inr ⟨a, b, xs, ys, ex, ey, ?_, h1, h2, fun i u v hu hv => Alk.same s (h3 i u v hu hv)⟩
      rcases hq with ⟨p, q⟩ | ⟨p, q⟩
      · exact .inl ⟨s.seq p, s.seq q⟩
      · exact .inr ⟨same_seqT s p, same_seqT s q⟩
theorem tyL {K : PySem.W.Frag} {H : Hp} {a : Addr} {xs : List V} (h : SqL K H a xs) : TyX K H (.ref a) (.type "list") := by
  rcases h with (h | ⟨o, h⟩) | ⟨o, its, n, hk, hc, _⟩
  · exact .base (.lst h)
  · exact .base (.frz h)
  · exact .kList hk hc
theorem tyT {K : PySem.W.Frag} {H : Hp} {a : Addr} {xs : List V} (h : SqT K H a xs) : TyX K H (.ref a) (.type "tuple") := by
  rcases h with (h | ⟨o, h⟩) | ⟨o, its, n, hk, hc, _⟩
  · exact .base (.tup h)
  · exact .fTuple h
  · exact .kTuple hk hc
theorem kit_two {K : PySem.W.Frag} {t a b : String} {r1 r2 : Bool} (h1 : kitB t a = some r1) (h2 : kitB t b = some r2) : PySem.W.kitAny K (.type t) [Value.type a, Value.type b] = some (r1 || r2) := by
  unfold PySem.W.kitAny
  rw [kit_ty h1]
  cases r1 with
  | true => rfl
  | false =>
    show PySem.W.kitAny K (.type t) [Value.type b] = some r2
    unfold PySem.W.kitAny
    rw [kit_ty h2]
    cases r2 <;> rfl
def tyF : V → Value
  | .non => .type "NoneType"
  | .bl _ => .type "bool"
  | .int _ => .type "int"
  | _ => .type "str"
theorem tyFlat {K : PySem.W.Frag} {H : Hp} {x : V} (h : flatX x = true) : TyX K H x (tyF x) := by
  cases x with
  | non => exact .base .non
  | bl b => exact .base (.bl b)
  | int i => exact .base (.int i)
  | str z => exact .base (.str z)
  | _ => exact absurd (show false = true from h) Bool.false_ne_true
section
variable {P : Program} {w : World} {K : PySem.W.Frag} {mg : Str → Option Value} {base : Heap}
def spSame (K : PySem.W.Frag) (m : Nat) : Sp := fun vs H Q _ => ∃ x y, vs = [x, y] ∧ Alk K H m x y ∧ ∀ H', Same H H' → Q (.bl true) H'
theorem ok_same {f : Addr} {fd : FuncData} (F : Fun K "_law_same" "_law_same" sSame f fd) (bS : Binds K fd ["_law_found", "_law_due"] []) (gS : mg "_law_same" = some (.ref f))
    (misi : mg "isinstance" = none) (mt : mg "tuple" = none) (ml : mg "list" = none) (mlen : mg "len" = none) (mr : mg "range" = none) (md : mg "dict" = none) (ms : mg "str" = none) (mi : mg "int" = none) (mb : mg "bool" = none) :
    ∀ m, FnOk P w K mg base CX0 m f fd ["_law_found", "_law_due"] (spSame K m)
  | 0 => ⟨fun vs H Q E h => by obtain ⟨x, y, rfl, _⟩ := h; rfl, fun A outer s H args us vs Q E hr he hb hv h => by obtain ⟨x, y, _, h, _⟩ := h; exact h.elim⟩
  | m + 1 => by
    have GS := ok_same F bS gS misi mt ml mlen mr md ms mi mb m
    refine F.ok scSame (fun vs H Q E h => ?_) (fun cdv A outer s H vs Q E hr h => ?_)
    · obtain ⟨x, y, rfl, _⟩ := h
      rfl
    · obtain ⟨x, y, rfl, hal, q⟩ := h
      refine ⟨_, pss_cons (ps_if (pt_val (pe_callB call_isiT (by rfl) misi (by decide +kernel) (pa_cons (pv 1) (pa_cons (pe_tup (pa_cons (pe_bltn (v := .ty "tuple") (by rfl) mt (by decide +kernel) rfl) (pa_cons (pe_bltn (v := .ty "list") (by rfl) ml (by decide +kernel) rfl) pa_nil))) pa_nil))))
          (pss_cons (ps_if (pt_cmpR op_ne (pe_callB call_isi (by rfl) misi (by decide +kernel) (pa_cons (pv 0) (pa_cons (pe_bltn (v := .ty "tuple") (by rfl) mt (by decide +kernel) rfl) pa_nil))) (pe_callB call_isi (by rfl) misi (by decide +kernel) (pa_cons (pv 1) (pa_cons (pe_bltn (v := .ty "tuple") (by rfl) mt (by decide +kernel) rfl) pa_nil))) (nomark _)) (pss_one (ps_ret pe_bl)) pss_nil)
          (pss_cons (ps_if (pt_cmpR op_ne (pe_callB call_isi (by rfl) misi (by decide +kernel) (pa_cons (pv 0) (pa_cons (pe_bltn (v := .ty "list") (by rfl) ml (by decide +kernel) rfl) pa_nil))) (pe_callB call_isi (by rfl) misi (by decide +kernel) (pa_cons (pv 1) (pa_cons (pe_bltn (v := .ty "list") (by rfl) ml (by decide +kernel) rfl) pa_nil))) (nomark _)) (pss_one (ps_ret pe_bl)) pss_nil)
          (pss_cons (ps_if (pt_cmpR op_ne (pe_callB call_len_seq (by rfl) mlen PySem.boot_len (pa_cons (pv 0) pa_nil)) (pe_callB call_len_seq (by rfl) mlen PySem.boot_len (pa_cons (pv 1) pa_nil)) (nomark _)) (pss_one (ps_ret pe_bl)) pss_nil)
          (pss_one (ps_ret (pe_cmpR (op_eqD hr.units) (pe_lc (own := [("_law_k", 2)]) (g := gName 2) (by rfl) scSame.nd (pi_range1 (by rfl) mr (pa_cons (pe_callB call_len_seq (by rfl) mlen PySem.boot_len (pa_cons (pv 1) pa_nil)) pa_nil))
              (blkOk_by (own := [("_law_k", 2)]) (N := ["_law_found", "_law_due", "_law_k"]) (sc := defScope sSame) (by decide +kernel)) (fun _ _ _ _ _ => pg_name (i := 2) scSame.nd rfl (Or.inl rfl))
              (fun _ _ _ _ _ => pts_one (pt_not (pt_val (pe_call GS hr (by rfl) gS F.kp bS .nil pass0 (pa_cons (pe_ix (r := rIx K) ix_seq (pv 0) (pv 2) (fun _ _ => rfl)) (pa_cons (pe_ix (r := rIx K) ix_seq (pv 1) (pv 2) (fun _ _ => rfl)) pa_nil))))))
              (fun _ _ _ _ _ => pv 2)) (pe_lst pa_nil) (nomark _))))))) pss_nil)
        (pss_cons (ps_if (pt_val (pe_callB call_isi (by rfl) misi (by decide +kernel) (pa_cons (pv 1) (pa_cons (pe_bltn (v := .ty "dict") (by rfl) md (by decide +kernel) rfl) pa_nil)))) (pss_one (ps_ret (pe_and (pe_callB call_isi (by rfl) misi (by decide +kernel) (pa_cons (pv 0) (pa_cons (pe_bltn (v := .ty "dict") (by rfl) md (by decide +kernel) rfl) pa_nil))) (pe_one (pe_cmpR op_eq (pv 0) (pv 1) (nomark _)))))) pss_nil)
        (pss_cons (ps_if (pt_cmpR op_isN (pv 1) pe_non (nomark _)) (pss_one (ps_ret (pe_cmpR op_isN (pv 0) pe_non (nomark _)))) pss_nil)
        (pss_cons (ps_if (pt_val (pe_callB call_isi (by rfl) misi (by decide +kernel) (pa_cons (pv 1) (pa_cons (pe_bltn (v := .ty "str") (by rfl) ms (by decide +kernel) rfl) pa_nil)))) (pss_one (ps_ret (pe_and (pe_callB call_isi (by rfl) misi (by decide +kernel) (pa_cons (pv 0) (pa_cons (pe_bltn (v := .ty "str") (by rfl) ms (by decide +kernel) rfl) pa_nil))) (pe_one (pe_cmpR op_eq (pv 0) (pv 1) (nomark _)))))) pss_nil)
        (pss_one (ps_ret (pe_and (pe_callB call_isi (by rfl) misi (by decide +kernel) (pa_cons (pv 0) (pa_cons (pe_bltn (v := .ty "int") (by rfl) mi (by decide +kernel) rfl) pa_nil)))
          (pe_and (pe_cmpR op_eq (pe_callB call_isi (by rfl) misi (by decide +kernel) (pa_cons (pv 0) (pa_cons (pe_bltn (v := .ty "bool") (by rfl) mb (by decide +kernel) rfl) pa_nil))) (pe_callB call_isi (by rfl) misi (by decide +kernel) (pa_cons (pv 1) (pa_cons (pe_bltn (v := .ty "bool") (by rfl) mb (by decide +kernel) rfl) pa_nil))) (nomark _)) (pe_one (pe_cmpR op_eq (pv 0) (pv 1) (nomark _)))))))))), ?_⟩
      refine ⟨y, rfl, by show 2 ≤ sizeLine; decide, fun tp htp => ?_⟩
      have s1 : Same H (upd H tp (.tup [.ty "tuple", .ty "list"])) := same_upd htp
      have e1 : upd H tp (.tup [.ty "tuple", .ty "list"]) tp = some (.tup [.ty "tuple", .ty "list"]) := upd_same
      have hal1 : Alk K (upd H tp (.tup [.ty "tuple", .ty "list"])) (m + 1) x y := Alk.same s1 hal
      generalize upd H tp (.tup [.ty "tuple", .ty "list"]) = H1 at s1 e1 hal1 ⊢
      have pc : Paired ClsV [V.ty "tuple", V.ty "list"] [Value.type "tuple", Value.type "list"] := .cons (.ty _) (.cons (.ty _) .nil)
      rcases hal1 with ⟨hf, rfl⟩ | ⟨a, b, xs, ys, rfl, rfl, hq, hl, hz, hit⟩
      · have ty : TyX K H1 x (tyF x) := tyFlat hf
        cases x with
        | non =>
          refine ⟨_, tp, _, _, _, false, rfl, e1, pc, ty, kit_two (r1 := false) (r2 := false) (by decide +kernel) (by decide +kernel), _, rfl, iteF ?_⟩
          refine ⟨.non, rfl, .non, .ty "dict", _, _, false, rfl, .ty _, ty, kit_ty (by decide +kernel), _, rfl, iteF ?_⟩
          exact ⟨.non, rfl, rfl, _, rfl, iteT ⟨.non, rfl, rfl, q H1 s1⟩⟩
        | bl c =>
          refine ⟨_, tp, _, _, _, false, rfl, e1, pc, ty, kit_two (r1 := false) (r2 := false) (by decide +kernel) (by decide +kernel), _, rfl, iteF ?_⟩
          refine ⟨.bl c, rfl, .bl c, .ty "dict", _, _, false, rfl, .ty _, ty, kit_ty (by decide +kernel), _, rfl, iteF ?_⟩
          refine ⟨.bl c, rfl, rfl, _, rfl, iteF ?_⟩
          refine ⟨.bl c, rfl, .bl c, .ty "str", _, _, false, rfl, .ty _, ty, kit_ty (by decide +kernel), _, rfl, iteF ?_⟩
          refine ⟨.bl c, rfl, .bl c, .ty "int", _, _, true, rfl, .ty _, ty, kit_ty (by decide +kernel), _, rfl, iteT ?_⟩
          refine ⟨.bl c, rfl, .bl c, .ty "bool", _, _, true, rfl, .ty _, ty, kit_ty (by decide +kernel), .bl c, rfl, .bl c, .ty "bool", _, _, true, rfl, .ty _, ty, kit_ty (by decide +kernel), rfl, _, rfl, ?_⟩
          refine iteT ⟨.bl c, rfl, .bl c, rfl, rfl, ?_⟩
          rw [decide_eq_true rfl]
          exact q H1 s1
        | int c =>
          refine ⟨_, tp, _, _, _, false, rfl, e1, pc, ty, kit_two (r1 := false) (r2 := false) (by decide +kernel) (by decide +kernel), _, rfl, iteF ?_⟩
          refine ⟨.int c, rfl, .int c, .ty "dict", _, _, false, rfl, .ty _, ty, kit_ty (by decide +kernel), _, rfl, iteF ?_⟩
          refine ⟨.int c, rfl, rfl, _, rfl, iteF ?_⟩
          refine ⟨.int c, rfl, .int c, .ty "str", _, _, false, rfl, .ty _, ty, kit_ty (by decide +kernel), _, rfl, iteF ?_⟩
          refine ⟨.int c, rfl, .int c, .ty "int", _, _, true, rfl, .ty _, ty, kit_ty (by decide +kernel), _, rfl, iteT ?_⟩
          refine ⟨.int c, rfl, .int c, .ty "bool", _, _, false, rfl, .ty _, ty, kit_ty (by decide +kernel), .int c, rfl, .int c, .ty "bool", _, _, false, rfl, .ty _, ty, kit_ty (by decide +kernel), rfl, _, rfl, ?_⟩
          refine iteT ⟨.int c, rfl, .int c, rfl, rfl, ?_⟩
          rw [decide_eq_true rfl]
          exact q H1 s1
        | str c =>
          refine ⟨_, tp, _, _, _, false, rfl, e1, pc, ty, kit_two (r1 := false) (r2 := false) (by decide +kernel) (by decide +kernel), _, rfl, iteF ?_⟩
          refine ⟨.str c, rfl, .str c, .ty "dict", _, _, false, rfl, .ty _, ty, kit_ty (by decide +kernel), _, rfl, iteF ?_⟩
          refine ⟨.str c, rfl, rfl, _, rfl, iteF ?_⟩
          refine ⟨.str c, rfl, .str c, .ty "str", _, _, true, rfl, .ty _, ty, kit_ty (by decide +kernel), _, rfl, iteT ?_⟩
          refine ⟨.str c, rfl, .str c, .ty "str", _, _, true, rfl, .ty _, ty, kit_ty (by decide +kernel), _, rfl, iteT ⟨.str c, rfl, .str c, rfl, rfl, ?_⟩⟩
          rw [decide_eq_true rfl]
          exact q H1 s1
        | _ => exact absurd (show false = true from hf) Bool.false_ne_true
      · obtain ⟨t, ta, tb, k1, k2, k3, hlq⟩ : ∃ t : String, TyX K H1 (.ref a) (.type t) ∧ TyX K H1 (.ref b) (.type t) ∧ PySem.W.kitAny K (.type t) [Value.type "tuple", Value.type "list"] = some true ∧ (∃ c, PySem.W.kitOne K (.type t) (.type "tuple") = some c) ∧ (∃ c, PySem.W.kitOne K (.type t) (.type "list") = some c) ∧
            ((SqL K H1 a xs ∨ SqT K H1 a xs) ∧ (SqL K H1 b ys ∨ SqT K H1 b ys)) := by
          rcases hq with ⟨p, r⟩ | ⟨p, r⟩
          · exact ⟨"list", tyL p, tyL r, kit_two (r1 := false) (r2 := true) (by decide +kernel) (by decide +kernel), ⟨false, kit_ty (by decide +kernel)⟩, ⟨true, kit_ty (by decide +kernel)⟩, .inl p, .inl r⟩
          · exact ⟨"tuple", tyT p, tyT r, kit_two (r1 := true) (r2 := false) (by decide +kernel) (by decide +kernel), ⟨true, kit_ty (by decide +kernel)⟩, ⟨false, kit_ty (by decide +kernel)⟩, .inr p, .inr r⟩
        obtain ⟨c2, k2⟩ := k2
        obtain ⟨c3, k3⟩ := k3
        refine ⟨_, tp, _, _, _, true, rfl, e1, pc, tb, k1, _, rfl, iteT ?_⟩
        refine ⟨.ref a, rfl, .ref a, .ty "tuple", _, _, c2, rfl, .ty _, ta, k2, .ref b, rfl, .ref b, .ty "tuple", _, _, c2, rfl, .ty _, tb, k2, rfl, _, rfl, iteNS rfl ?_⟩
        refine ⟨.ref a, rfl, .ref a, .ty "list", _, _, c3, rfl, .ty _, ta, k3, .ref b, rfl, .ref b, .ty "list", _, _, c3, rfl, .ty _, tb, k3, rfl, _, rfl, iteNS rfl ?_⟩
        refine ⟨.ref a, rfl, a, xs, rfl, hlq.1, .ref b, rfl, b, ys, rfl, hlq.2, rfl, _, rfl, iteNS (by rw [hl]) ?_⟩
        refine ⟨.ref b, rfl, b, ys, rfl, hlq.2, _, rfl, by omega, by omega, fun D hD => walk_in (n := ys.length) (lo := 0) (fun i H2 => Same H1 H2 ∧ H2 D = some (.lst [])) ⟨same_upd hD, upd_same⟩ (fun i H2 hi h => ?_) (fun H2 h => ?_)⟩
        · obtain ⟨s2, hd2⟩ := h
          have gx : xs[i]? = some (xs[i]'(by omega)) := List.getElem?_eq_getElem _
          have gy : ys[i]? = some ys[i] := List.getElem?_eq_getElem _
          have ax : atI xs (0 + (i : Int)) = some (xs[i]'(by omega)) := by
            rw [Int.zero_add]
            exact atI_nat gx
          have ay : atI ys (0 + (i : Int)) = some ys[i] := by
            rw [Int.zero_add]
            exact atI_nat gy
          have ix : ∀ {c : Addr} {zs : List V} {z : V} {R : V → Hp → Prop}, (SqL K H1 c zs ∨ SqT K H1 c zs) → atI zs (0 + (i : Int)) = some z → R z H2 → rIx K (.ref c) (.int (0 + (i : Int))) H2 R := by
            intro c zs z R hc hz hR
            rcases hc with hc | hc
            · exact .inl ⟨c, zs, _, z, rfl, rfl, s2.seq hc, hz, hR⟩
            · exact .inr (.inl ⟨c, zs, _, z, rfl, rfl, same_seqT s2 hc, hz, hR⟩)
          refine ⟨rfl, .ref a, rfl, .int (0 + (i : Int)), rfl, ix hlq.1 ax ⟨.ref b, rfl, .int (0 + (i : Int)), rfl, ix hlq.2 ay ⟨_, _, rfl, Alk.same s2 (hit i _ _ gx gy), fun H3 s3 => ⟨_, rfl, iteF ⟨s2.trans s3, s3 _ _ hd2⟩⟩⟩⟩⟩
        · obtain ⟨s2, hd2⟩ := h
          refine ⟨Nat.zero_le _, fun e he => ?_⟩
          refine ⟨.list [], .list [], .lst (sqL ((same_upd he) _ _ hd2)) .nil, .lst (sqL upd_same) .nil, rfl, rfl, ?_⟩
          exact q _ ((s1.trans s2).trans (same_upd he))
end
theorem alk_int {K : PySem.W.Frag} {H : Hp} {m : Nat} {i j : Int} (h : i = j) : Alk K H (m + 1) (.int i) (.int j) := .inl ⟨rfl, by rw [h]⟩
theorem alk_bl {K : PySem.W.Frag} {H : Hp} {m : Nat} {i j : Bool} (h : i = j) : Alk K H (m + 1) (.bl i) (.bl j) := .inl ⟨rfl, by rw [h]⟩
theorem alk_tp {K : PySem.W.Frag} {H : Hp} {m : Nat} {a b : Addr} {ns : List Int} (ha : Tp H a ns) (hb : Tp H b ns) (hl : ns.length ≤ 1000) : Alk K H (m + 2) (.ref a) (.ref b) := by
  refine .inr ⟨a, b, _, _, rfl, rfl, .inr ⟨ha.sq, hb.sq⟩, rfl, by rw [List.length_map]; exact hl, fun i u v hu hv => ?_⟩
  rw [hu] at hv
  cases hv
  rw [List.getElem?_map] at hu
  cases e : ns[i]? with
  | none => rw [e] at hu; cases hu
  | some z => rw [e] at hu; cases hu; exact alk_int rfl
theorem alk_prs {K : PySem.W.Frag} {H : Hp} {m : Nat} {a b : Addr} {xs ys : List V} {ps : List (Int × Int)} (hx : Prs H xs ps) (hy : Prs H ys ps) (ha : H a = some (.tup xs)) (hb : H b = some (.tup ys)) (hl : ps.length ≤ 1000) : Alk K H (m + 3) (.ref a) (.ref b) := by
  refine .inr ⟨a, b, _, _, rfl, rfl, .inr ⟨sqT ha, sqT hb⟩, hx.len.trans hy.len.symm, by rw [hx.len]; exact hl, fun i u v hu hv => ?_⟩
  obtain ⟨r, x1, x2, rfl, g1, e1⟩ := hx.get hu
  obtain ⟨t, y1, y2, rfl, g2, e2⟩ := hy.get hv
  rw [g1] at g2
  cases g2
  refine .inr ⟨r, t, _, _, rfl, rfl, .inr ⟨sqT e1, sqT e2⟩, rfl, by show 2 ≤ 1000; decide, fun j u v hu hv => ?_⟩
  rw [hu] at hv
  cases hv
  match j, hu with
  | 0, hu => cases hu; exact alk_int rfl
  | 1, hu => cases hu; exact alk_int rfl
  | j + 2, hu => simp at hu
theorem alk_two {K : PySem.W.Frag} {H : Hp} {m : Nat} {a b : Addr} {x1 x2 y1 y2 : V} (ha : H a = some (.lst [x1, x2])) (hb : H b = some (.lst [y1, y2])) (h1 : Alk K H m x1 y1) (h2 : Alk K H m x2 y2) : Alk K H (m + 1) (.ref a) (.ref b) := by
  refine .inr ⟨a, b, _, _, rfl, rfl, .inl ⟨sqL ha, sqL hb⟩, rfl, by show 2 ≤ 1000; decide, fun i u v hu hv => ?_⟩
  match i, hu, hv with
  | 0, hu, hv => cases hu; cases hv; exact h1
  | 1, hu, hv => cases hu; cases hv; exact h2
  | i + 2, hu, hv => simp at hu
end TR
namespace TR
open PySem PySem.Spec PyProof.Rows L2
theorem scWhole : FnScope ["value"] ["value"] (defScope sWhole) := ⟨rfl, rfl, rfl, by decide +kernel, rfl, by decide +kernel, by decide +kernel⟩
section
variable {P : Program} {w : World} {K : PySem.W.Frag} {mg : Str → Option Value} {base : Heap}
def spWhole : Sp := fun vs H Q _ => ∃ (x : V) (d : PyData) (ban : List Addr), vs = [x] ∧ Rp H ban d x ∧ Q (.bl (whole d)) H
theorem ok_whole {f : Addr} {fd : FuncData} {k : Nat} (F : Fun K "is_whole" "is_whole" sWhole f fd) (misi : mg "isinstance" = none) (mi : mg "int" = none) (mb : mg "bool" = none) : FnOk P w K mg base CX0 (k + 1) f fd ["value"] spWhole := by
  refine F.ok scWhole (fun vs H Q E h => ?_) (fun cdv A outer s H vs Q E hr h => ?_)
  · obtain ⟨x, d, ban, rfl, _⟩ := h
    rfl
  · obtain ⟨x, d, ban, rfl, hp, q⟩ := h
    refine ⟨_, pss_one (ps_ret (pe_and (pe_callB call_isi (by rfl) misi (by decide +kernel) (pa_cons (pv 0) (pa_cons (pe_bltn (v := .ty "int") (by rfl) mi (by decide +kernel) rfl) pa_nil))) (pe_one (pe_not (pe_callB call_isi (by rfl) misi (by decide +kernel) (pa_cons (pv 0) (pa_cons (pe_bltn (v := .ty "bool") (by rfl) mb (by decide +kernel) rfl) pa_nil))))))), ?_⟩
    obtain ⟨k1, k2, k3⟩ := kitD (K := K) d
    rw [← whole_ty] at q
    refine ⟨x, rfl, x, .ty "int", _, _, _, rfl, .ty _, tyRp hp, k2, _, rfl, ?_⟩
    cases e : decide (tyD d = "int" ∨ tyD d = "bool") with
    | true =>
      rw [e] at q
      exact iteT ⟨x, rfl, x, .ty "bool", _, _, _, rfl, .ty _, tyRp hp, k3, _, rfl, q⟩
    | false =>
      rw [e] at q
      exact iteF q
end
end TR
namespace TR
open PySem PySem.Spec PyProof.Rows L2
theorem scLWhole : FnScope ["_law_thing"] ["_law_thing"] (defScope sLWhole) := ⟨rfl, rfl, rfl, by decide +kernel, rfl, by decide +kernel, by decide +kernel⟩
section
variable {P : Program} {w : World} {K : PySem.W.Frag} {mg : Str → Option Value} {base : Heap}
theorem ok_lwhole {f : Addr} {fd : FuncData} {k : Nat} (F : Fun K "_law_whole" "_law_whole" sLWhole f fd) (misi : mg "isinstance" = none) (mi : mg "int" = none) (mb : mg "bool" = none) : FnOk P w K mg base CX0 (k + 1) f fd ["_law_thing"] spWhole := by
  refine F.ok scLWhole (fun vs H Q E h => ?_) (fun cdv A outer s H vs Q E hr h => ?_)
  · obtain ⟨x, d, ban, rfl, _⟩ := h
    rfl
  · obtain ⟨x, d, ban, rfl, hp, q⟩ := h
    refine ⟨_, pss_one (ps_ret (pe_and (pe_callB call_isi (by rfl) misi (by decide +kernel) (pa_cons (pv 0) (pa_cons (pe_bltn (v := .ty "int") (by rfl) mi (by decide +kernel) rfl) pa_nil))) (pe_one (pe_not (pe_callB call_isi (by rfl) misi (by decide +kernel) (pa_cons (pv 0) (pa_cons (pe_bltn (v := .ty "bool") (by rfl) mb (by decide +kernel) rfl) pa_nil))))))), ?_⟩
    obtain ⟨k1, k2, k3⟩ := kitD (K := K) d
    rw [← whole_ty] at q
    refine ⟨x, rfl, x, .ty "int", _, _, _, rfl, .ty _, tyRp hp, k2, _, rfl, ?_⟩
    cases e : decide (tyD d = "int" ∨ tyD d = "bool") with
    | true =>
      rw [e] at q
      exact iteT ⟨x, rfl, x, .ty "bool", _, _, _, rfl, .ty _, tyRp hp, k3, _, rfl, q⟩
    | false =>
      rw [e] at q
      exact iteF q
end
end TR
namespace TR
open PySem PySem.Spec PyProof.Rows L2
section
variable {P : Program} {w : World} {K : PySem.W.Frag} {mg : Str → Option Value} {base : Heap}
/-- a def's promise where no repr is under way -/
def RunG (P : Program) (w : World) (K : PySem.W.Frag) (mg : Str → Option Value) (base : Heap) (k : Nat) (f : Addr) (fd : FuncData) (ps : List Str) (sp : Sp) : Prop :=
  ∀ (A : Around) (outer : List Env) (s : Shared) (H : Hp) (args : Args) (us : List Value) (vs : List V) (Q : VK) (E : XK), A.guards = some [] → Room k A → Env0 P w K mg base A outer s H → BindsTo s fd args (ps.zip us) → Vals vs us → sp vs H Q E → codeAny (model P w) A (.call (.ref f) args) (CR CX0 outer P w H s Q E) s
theorem okG {x qual : Str} {st : Stmt} {f : Addr} {fd : FuncData} {N ps : List Str} {k : Nat} {sp : Sp} (F : Fun K x qual st f fd) (S : FnScope N ps (defScope st)) (len : ∀ vs H Q E, sp vs H Q E → vs.length = ps.length)
    (hbody : ∀ (cdv : Value) (A : Around) (outer : List Env) (s : Shared) (H : Hp) (vs : List V) (Q : VK) (E : XK), A.guards = some [] → Room k (A.deeper (envOfC qual (defScope st) s.heap.objs.size f cdv)) → sp vs H Q E →
      ∃ t, PSs (cxOf CX0 P w K mg base N qual (defScope st) f cdv A outer s H E).nox (defBody st) t ∧ t { nx := fun _ H' => Q .non H', rt := Q } (start N vs) H) : RunG P w K mg base (k + 1) f fd ps sp := by
  obtain ⟨oc, od, kV, doc, pm, an, cdv, ct, osl, rfl, lk, hcd⟩ := F.ex
  intro A outer s H args us vs Q E hgd hr e0 hb r hsp
  have hl := len _ _ _ _ hsp; have KX : K.In s.heap := e0.mod.kin.keeps fun b o e => (e0.bs b o e).1
  have lim : s.heap.NoLimit := e0.mod.nolimit.keeps fun b o e => (e0.bs b o e).1
  have kinds : ∀ y ∈ ps.zip us, (defScope st).names.lookup y.1 = some .local ∨ ((defScope st).names.lookup y.1 = some .cell ∧ ((cellsFrom (s.heap.objs.size + 1) (defScope st).names []).lookup y.1).isSome = true) := fun ⟨n, v⟩ hy => by
    rcases S.par n (List.of_mem_zip hy).1 with q | q; exact .inl q; exact .inr ⟨q, PySem.W.cellsFrom_some _ _ _ (.inl q)⟩
  refine codeAny_call_function hr.depth (KX _ _ lk) rfl S.co S.gen rfl (PySem.W.codeRec_of KX hcd) (hb _ _ _ _ (wpAny_newFunctionEnv_cells S.kind kinds fun env he s1 x => ?_))
  subst he; refine ⟨lim.keeps x.toInCall.keep, codeAny_func ?_⟩
  obtain ⟨t, ht, hq⟩ := hbody cdv A outer s H vs Q E hgd (hr.deeper _) hsp
  have I : Inv (cxOf CX0 P w K mg base N qual (defScope st) f cdv A outer s H E) [] (start N vs) H s1 := inv_start S hr.hd e0 hl r x
  refine wpAny_mono (ht.nox.run [] s1 (start N vs) H _ I hq) (fun fl s' hs => ?_) fun e s' hs => hs
  have fin : ∀ {σ' : L2.St} {H' : Hp} {v : V} {u : Value}, Inv (cxOf CX0 P w K mg base N qual (defScope st) f cdv A outer s H E) [] σ' H' s' → RelV v u → Q v H' → CE outer P w H s Q u s' := fun {σ' H' v u} J rv q => ⟨v, H', J.os, J.bare, J.base, J.hok, rv, q⟩
  cases fl with
  | ret u => obtain ⟨v, σ', H', J, rv, q⟩ := hs; exact fin J rv q
  | next => obtain ⟨σ', H', J, q⟩ := hs; exact fin (v := V.non) (u := Value.none) J rfl q
  | brk => obtain ⟨_, _, _, q⟩ := hs; exact False.elim q
  | cont => obtain ⟨_, _, _, q⟩ := hs; exact False.elim q
end
theorem law_callG {P : Program} {w : World} {K : PySem.W.Frag} {mg mb : Str → Option Value} {k : Nat} {fa a : Addr} {fd : FuncData} {x : Str} {sp : Sp} {s₁ : Shared} {vs : List Value} {ns : List Int} (KX : K.In s₁.heap) (hns : s₁.heap.Ns mainGlobals mg) (hb : s₁.heap.Ns builtinsNs mb) (hbb : ∀ x : Str, x ≠ "__name__" → mb x = bootBuiltins x)
    (hlim : s₁.heap.NoLimit) (hg : s₁.gens = #[]) (ha : s₁.heap.get? a = some { cls := .type "list", data := .seq vs.toArray }) (hi : IntsAre vs ns) (hl : ns.length ≤ sizeLine) (hr : Room k callerA) (F : ∀ base : Heap, K.In base → base.Ns mainGlobals mg → RunG P w K mg base k fa fd [x] sp)
    (hbind : ∀ (s : Shared) (u : Value), BindsTo s fd ⟨[u], []⟩ [(x, u)]) (hsp : ∀ H : Hp, Only H → SqL K H a (ns.map V.int) → sp [.ref a] H (fun v _ => v = .bl true) fun _ _ _ => False) :
    codeAny (model P w) callerA (.call (.ref fa) ⟨[.ref a], []⟩) (fun r s' => r = .ok (.ret (.bool true)) ∧ OldK s₁.heap s'.heap ∧ s'.os = s₁.os ∧ AllBare s'.gens) s₁ := by
  have rv := vals_ints hi; have lenV := hi.length
  have core : ∀ H : Hp, Only H → SqL K H a (ns.map V.int) → HOk P w H s₁.heap → (∀ b, H b ≠ none → b = a) → (H a ≠ none → K.lookup a = none) → codeAny (model P w) callerA (.call (.ref fa) ⟨[.ref a], []⟩) (fun r s' => r = .ok (.ret (.bool true)) ∧ OldK s₁.heap s'.heap ∧ s'.os = s₁.os ∧ AllBare s'.gens) s₁ := by
    intro H hO hS hok hA hK
    have b1 : ∀ {b : Addr} {o : Obj}, s₁.heap.get? b = some o → H b = none → (hidT s₁.heap H).get? b = some o := fun e n => hidT_get e n
    have n1 : ∀ {b : Addr} {o : Obj} {es : Array DictEntry} {ep : Nat}, s₁.heap.get? b = some o → o.data = .dict es ep → H b = none := fun {b o es ep} e d => by
      cases q : H b with
      | none => rfl
      | some u => have e' : b = a := hA b (by rw [q]; simp)
                  subst e'; rw [ha] at e; cases e; cases (show Data.seq vs.toArray _ = Data.dict es ep from d)
    have n2 : ∀ {b : Addr} {m : Str → Option Value}, s₁.heap.Ns b m → (hidT s₁.heap H).Ns b m := fun {b m} ⟨o, es, ep, e, d, r⟩ => ⟨o, es, ep, b1 e (n1 e d), d, r⟩
    have hKb : K.In (hidT s₁.heap H) := fun b o e => b1 (KX b o e) (by
      cases q : H b with
      | none => rfl
      | some u => have e' : b = a := hA b (by rw [q]; simp)
                  subst e'; rw [hK (by rw [q]; simp)] at e; cases e)
    have hM : Mod K mg (hidT s₁.heap H) := ⟨hKb, n2 hns, ⟨mb, n2 hb, hbb⟩, let ⟨mc, h1, h2⟩ := hlim; ⟨mc, n2 h1, h2⟩⟩
    have e0 : Env0 P w K mg (hidT s₁.heap H) callerA [] s₁ H := ⟨rfl, hM, fun b o e => of_hidT e, Nat.le_of_eq (hidT_size _ _), trivial, fun b hb => absurd (show b ∈ ([] : List Addr) from hb) (by simp), hok, .of_eq hg⟩
    refine codeAny_mono (F _ hKb (n2 hns) callerA [] s₁ H ⟨[.ref a], []⟩ [.ref a] [.ref a] _ _ rfl hr e0 (hbind s₁ (.ref a)) (.cons rfl .nil) (hsp H hO hS)) fun r s' h => ?_
    cases r with
    | error e => exact (show False from h).elim
    | ok fl =>
      cases fl with
      | next => exact False.elim h
      | brk => exact False.elim h
      | cont => exact False.elim h
      | ret u =>
        obtain ⟨v, H', os, bare, un, hok', r', q⟩ := h
        subst q; obtain rfl : u = Value.bool true := r'
        refine ⟨rfl, OldK.of_keep fun b o e => ?_, os, bare⟩
        cases q : H b with
        | none => exact un.keep b o e q (by intro z; exact absurd (show b ∈ ([] : List Addr) from z) (by simp)) (by simp)
        | some u =>
          rcases hO b with z | ⟨ob, xs, z⟩
          · rw [q] at z; cases z
          · obtain ⟨e1, _⟩ := hok b _ z; obtain ⟨e2, _⟩ := hok' b _ (un.frzs b ob _ z)
            rw [e] at e1; cases e1; exact e2
  cases hk : K.lookup a with
  | some o =>
    have e := KX a o hk; rw [ha] at e; cases e
    exact core (fun _ => none) (fun _ => .inl rfl) (.inr ⟨_, vs.toArray, _, hk, rfl, rfl, rfl, by rw [List.size_toArray, lenV]; exact hl, by simpa using rv⟩) (fun b u z => by cases (show (none : Option HO) = some u from z)) (fun b z => absurd rfl z) fun z => absurd rfl z
  | none =>
    refine core (fun b => if b = a then some (.frz { cls := .type "list", data := .seq vs.toArray } (.lst (ns.map V.int))) else none) (fun b => ?_) (.inl (.inr ⟨{ cls := .type "list", data := .seq vs.toArray }, if_pos rfl⟩)) (fun b u z => ?_) (fun b z => ?_) fun _ => hk
    · by_cases e : b = a
      · exact .inr ⟨_, _, if_pos e⟩
      · exact .inl (if_neg e)
    · by_cases e : b = a
      · cases (if_pos e).symm.trans z; subst e
        exact ⟨ha, by rw [List.length_map]; exact hl, vs, _, rv, ha⟩
      · cases (if_neg e).symm.trans z
    · by_cases e : b = a
      · exact e
      · exact absurd (if_neg e) z
theorem walk_ofG {l : PySem.W.OpenLaw} {n k : Nat} {q : Program} {loose : List Str} {XP : (Str → Option Value) → Heap → Prop} {YP : World → Heap → Prop} {d : DefRec} {K : Params → PySem.W.Frag} {sp : World → Sp} {x : Str} (hn : l.most = some n) (hn2 : n ≤ sizeLine) (hdf : d.params.defaults = []) (hr : Room k callerA) (hY : ∀ (w : World) (h : Heap), YP w h → (K w.params).In h)
    (F : ∀ (w : World) (mg : Str → Option Value) (fa : Addr) (h : Heap), (K w.params).In h → h.Ns mainGlobals mg → mg d.name = some (.ref fa) → ∃ fd : FuncData, (∀ (s : Shared) (u : Value), BindsTo s fd ⟨[u], []⟩ [(x, u)]) ∧ ∀ base : Heap, (K w.params).In base → base.Ns mainGlobals mg → RunG l.prog w (K w.params) mg base k fa fd [x] (sp w))
    (hsp : ∀ (w : World) (H : Hp) (a : Addr) (ns : List Int), ns.length ≤ n → Only H → SqL (K w.params) H a (ns.map V.int) → sp w [.ref a] H (fun v _ => v = .bl true) fun _ _ _ => False) : PySem.W.WalkO q loose XP YP l.row.toRowW d [] (fun f vs => PySem.call f vs) := by
  refine Att.attach_call hn hdf fun w s₀ s₁ mg mb fa o pm cd doc a vs ns G Y ho hd hcd hmg hobj hints hlen hg => ?_
  have KX := hY w _ Y; obtain ⟨fd, hb, hF⟩ := F w mg fa _ KX G.T.g hmg
  exact law_callG KX G.T.g G.T.b G.T.builtins G.T.nolimit hg hobj hints (Nat.le_trans hlen hn2) hr hF hb (fun H hO hS => hsp w H a ns hlen hO hS)
end TR
namespace TR
open PySem PySem.Spec PyProof.Rows L2
theorem scOdd : FnScope ["_law_deck_here", "_law_some"] ["_law_deck_here"] (defScope sOdd) := ⟨rfl, rfl, rfl, by decide +kernel, rfl, by decide +kernel, by decide +kernel⟩
def oddD : List PyData := [.none, .bool true, .bool false, .int 0, .int 1, .int (-1), .int 2, .int 8, .int 16, .int (10 ^ 12), .int (10 ^ 12 + 1), .int (10 ^ 59), .str "", .str "0", .str "triple", .tuple [], .tuple [.int 0], .tuple [.int 0, .int 1], .list [], .dict [], .list [.int 0], .tuple [.bool true], .tuple [.tuple []]]
theorem odd_wf : ∀ d ∈ oddD, Wf 2 2 d := by
  unfold oddD
  refine List.forall_mem_cons.mpr ⟨.inl trivial, List.forall_mem_cons.mpr ⟨.inl trivial, List.forall_mem_cons.mpr ⟨.inl trivial, List.forall_mem_cons.mpr ⟨.inl (by show _ ≤ 10 ^ 59 + 2; decide +kernel), List.forall_mem_cons.mpr ⟨.inl (by show _ ≤ 10 ^ 59 + 2; decide +kernel), List.forall_mem_cons.mpr ⟨.inl (by show _ ≤ 10 ^ 59 + 2; decide +kernel), List.forall_mem_cons.mpr ⟨.inl (by show _ ≤ 10 ^ 59 + 2; decide +kernel), List.forall_mem_cons.mpr ⟨.inl (by show _ ≤ 10 ^ 59 + 2; decide +kernel), List.forall_mem_cons.mpr ⟨.inl (by show _ ≤ 10 ^ 59 + 2; decide +kernel), List.forall_mem_cons.mpr ⟨.inl (by show _ ≤ 10 ^ 59 + 2; decide +kernel), List.forall_mem_cons.mpr ⟨.inl (by show _ ≤ 10 ^ 59 + 2; decide +kernel), List.forall_mem_cons.mpr ⟨.inl (by show _ ≤ 10 ^ 59 + 2; decide +kernel), List.forall_mem_cons.mpr ⟨.inl ⟨by decide +kernel, by decide +kernel⟩, List.forall_mem_cons.mpr ⟨.inl ⟨by decide +kernel, by decide +kernel⟩, List.forall_mem_cons.mpr ⟨.inl ⟨by decide +kernel, by decide +kernel⟩, List.forall_mem_cons.mpr ⟨.inr (.inr ⟨_, .inr rfl, by decide, by simp⟩), List.forall_mem_cons.mpr ⟨.inr (.inr ⟨_, .inr rfl, by decide, by intro e he; rw [List.mem_singleton] at he; subst he; exact .inl (by show _ ≤ 10 ^ 59 + 2; decide +kernel)⟩), List.forall_mem_cons.mpr ⟨.inr (.inr ⟨_, .inr rfl, by decide, by intro e he; simp only [List.mem_cons, List.not_mem_nil, or_false] at he; rcases he with rfl | rfl <;> exact .inl (by show _ ≤ 10 ^ 59 + 2; decide +kernel)⟩), List.forall_mem_cons.mpr ⟨.inr (.inr ⟨_, .inl rfl, by decide, by simp⟩), List.forall_mem_cons.mpr ⟨.inr (.inl rfl), List.forall_mem_cons.mpr ⟨.inr (.inr ⟨_, .inl rfl, by decide, by intro e he; rw [List.mem_singleton] at he; subst he; exact .inl (by show _ ≤ 10 ^ 59 + 2; decide +kernel)⟩), List.forall_mem_cons.mpr ⟨.inr (.inr ⟨_, .inr rfl, by decide, by intro e he; rw [List.mem_singleton] at he; subst he; exact .inl trivial⟩), List.forall_mem_cons.mpr ⟨.inr (.inr ⟨_, .inr rfl, by decide, by intro e he; rw [List.mem_singleton] at he; subst he; exact .inr (.inr ⟨[], .inr rfl, by decide, by simp⟩)⟩), (fun _ h => absurd h (by simp))⟩⟩⟩⟩⟩⟩⟩⟩⟩⟩⟩⟩⟩⟩⟩⟩⟩⟩⟩⟩⟩⟩⟩
theorem RpAll.keep {H H' : Hp} {ban : List Addr} {ds : List PyData} {xs : List V} {k p q : Addr} {n : Nat} (h : RpAll H ban ds xs) (D : Deck H k p q n) (s : Keep k p H H') (b1 : k ∈ ban) (b2 : p ∈ ban) : RpAll H' ban ds xs := by
  obtain ⟨x, y, c, e1⟩ := D.hd
  obtain ⟨zs, e2⟩ := D.hp
  refine RpAll.mv (fun a xs hn e => s _ _ e (fun z => hn (z ▸ b1)) (fun z => hn (z ▸ b2))) (fun a xs e => ?_) (fun a e => s _ _ e (ne_of e e1 (by intro z; cases z)) (ne_of e e2 (by intro z; cases z))) ds xs h
  rcases e with e | ⟨o, e⟩
  · exact .inl (s _ _ e (ne_of e e1 (by intro z; cases z)) (ne_of e e2 (by intro z; cases z)))
  · exact .inr ⟨o, s _ _ e (ne_of e e1 (by intro z; cases z)) (ne_of e e2 (by intro z; cases z))⟩
section
variable {P : Program} {w : World} {K : PySem.W.Frag} {mg : Str → Option Value} {base : Heap}
def spOdd : Sp := fun vs H Q _ => ∃ (d p q : Addr) (c : Nat), vs = [.ref d] ∧ Deck H d p q c ∧ c ≤ 1000000 ∧ ∀ H' x dd, Deck H' d p q (c + 1) → Keep d p H H' → Rp H' [d, p, sysModules] dd x → Wf 2 2 dd → Q x H'
theorem ok_odd {f fN : Addr} {fd dN : FuncData} {k : Nat} (F : Fun K "_law_odd" "_law_odd" sOdd f fd) (kN : PySem.W.keepIn K (.ref fN) = true) (bN : Binds K dN ["_law_deck_here", "_law_many"] []) (gN : mg "_law_next" = some (.ref fN)) (GN : FnOk P w K mg base CX0 (k + 1) fN dN ["_law_deck_here", "_law_many"] spNext) :
    FnOk P w K mg base CX0 (k + 2) f fd ["_law_deck_here"] spOdd := by
  refine F.ok scOdd (fun vs H Q E h => ?_) (fun cdv A outer s H vs Q E hr h => ?_)
  · obtain ⟨d, p, q, c, rfl, _⟩ := h
    rfl
  · obtain ⟨d, p, q, c, rfl, D0, hc, qq⟩ := h
    refine ⟨_, pss_cons (ps_set (i := 1) scOdd.nd rfl (.inl rfl) (pe_lstN (pa_cons (pe_non) (pa_cons (pe_bl) (pa_cons (pe_bl) (pa_cons (pe_int) (pa_cons (pe_int) (pa_cons (pe_un un_neg pe_int) (pa_cons (pe_int) (pa_cons (pe_int) (pa_cons (pe_int) (pa_cons (pe_op op_pow pe_int pe_int) (pa_cons (pe_op op_add (pe_op op_pow pe_int pe_int) pe_int) (pa_cons (pe_op op_pow pe_int pe_int) (pa_cons (pe_str) (pa_cons (pe_str) (pa_cons (pe_str) (pa_cons (pe_tupN pa_nil) (pa_cons (pe_tupN (pa_cons pe_int pa_nil)) pa_nil)))))))))))))))))))
      (pss_one (ps_ret (pe_ix ix_list (pe_op op_catN (pv 1) (pe_lstN (pa_cons (pe_tupN (pa_cons pe_int (pa_cons pe_int pa_nil))) (pa_cons (pe_lstN pa_nil) (pa_cons (pe_dnewN) (pa_cons (pe_lstN (pa_cons pe_int pa_nil)) (pa_cons (pe_tupN (pa_cons pe_bl pa_nil)) (pa_cons (pe_tupN (pa_cons (pe_tupN pa_nil) pa_nil)) pa_nil)))))))) (pe_call GN hr (by rfl) gN kN bN .nil pass0 (pa_cons (pv 0) (pa_cons pe_int pa_nil))) (fun _ _ => rfl)))), ?_⟩
    refine ⟨1, rfl, 10, 12, rfl, rfl, ⟨by decide, by decide, by decide⟩, 10, 12, rfl, rfl, ⟨by decide, by decide, by decide⟩, _, 1, rfl, rfl, 10, 59, rfl, rfl, ⟨by decide, by decide, by decide⟩, Nat.zero_le _, fun t1 H1 _ s1 e1 => ⟨by show 1 ≤ sizeLine; decide, fun t2 H2 _ s2 e2 => ⟨by show 17 ≤ sizeLine; decide, fun l0 H3 hl0 _ s3 e3 => ?_⟩⟩⟩
    refine ⟨.ref l0, rfl, by show 2 ≤ sizeLine; decide, fun t3 H4 _ s4 e4 => ⟨Nat.zero_le _, fun l1 H5 hl1 n1 s5 e5 => fun d1 H6 _ s6 e6 => ⟨by show 1 ≤ sizeLine; decide, fun l2 H7 hl2 n2 s7 e7 => ⟨by show 1 ≤ sizeLine; decide, fun t4 H8 _ s8 e8 => ⟨Nat.zero_le _, fun t5 H9 _ s9 e9 => ⟨by show 1 ≤ sizeLine; decide, fun t6 Ha _ sa ea => ⟨by show 6 ≤ sizeLine; decide, fun l3 Hb _ _ sb eb => ?_⟩⟩⟩⟩⟩⟩⟩
    have s9b := sa.trans sb
    have s8b := s9.trans s9b
    have s7b := s8.trans s8b
    have s6b := s7.trans s7b
    have s5b := s6.trans s6b
    have s4b := s5.trans s5b
    have s3b := s4.trans s4b
    have s2b := s3.trans s3b
    have s1b := s2.trans s2b
    have s0b := s1.trans s1b
    refine ⟨l0, l3, _, _, rfl, rfl, s3b _ _ e3, eb, by show 23 ≤ sizeLine; decide, fun l4 Hc hl4 sc ec => ?_⟩
    have D4 := D0.same (s1.trans (s2.trans (s3.trans s4)))
    have D6 := D4.same (s5.trans s6)
    have Db := D0.same s0b
    have b1 : l1 ∉ [d, p, sysModules] := by
      simp only [List.mem_cons, List.not_mem_nil, or_false, not_or]
      exact ⟨D4.ned hl1, D4.nep hl1, n1⟩
    have b2 : l2 ∉ [d, p, sysModules] := by
      simp only [List.mem_cons, List.not_mem_nil, or_false, not_or]
      exact ⟨D6.ned hl2, D6.nep hl2, n2⟩
    have Dc := Db.same sc
    have all : RpAll Hc [d, p, sysModules] oddD _ := ⟨.non, _, rfl, rfl, .bl true, _, rfl, rfl, .bl false, _, rfl, rfl, .int 0, _, rfl, rfl, .int 1, _, rfl, rfl, .int (-1), _, rfl, rfl, .int 2, _, rfl, rfl, .int 8, _, rfl, rfl, .int 16, _, rfl, rfl, .int (10 ^ 12), _, rfl, rfl, .int (10 ^ 12 + 1), _, rfl, rfl, .int (10 ^ 59), _, rfl, rfl, .str "", _, rfl, rfl, .str "0", _, rfl, rfl, .str "triple", _, rfl, rfl,
      .ref t1, _, rfl, ⟨t1, [], rfl, .inl (sc _ _ (s1b _ _ e1)), rfl⟩, .ref t2, _, rfl, ⟨t2, [.int 0], rfl, .inl (sc _ _ (s2b _ _ e2)), .int 0, [], rfl, rfl, rfl⟩, .ref t3, _, rfl, ⟨t3, [.int 0, .int 1], rfl, .inl (sc _ _ (s4b _ _ e4)), .int 0, _, rfl, rfl, .int 1, [], rfl, rfl, rfl⟩,
      .ref l1, _, rfl, ⟨l1, [], rfl, sc _ _ (s5b _ _ e5), b1, rfl⟩, .ref d1, _, rfl, ⟨rfl, d1, rfl, sc _ _ (s6b _ _ e6)⟩, .ref l2, _, rfl, ⟨l2, [.int 0], rfl, sc _ _ (s7b _ _ e7), b2, .int 0, [], rfl, rfl, rfl⟩, .ref t4, _, rfl, ⟨t4, [.bl true], rfl, .inl (sc _ _ (s8b _ _ e8)), .bl true, [], rfl, rfl, rfl⟩,
      .ref t6, [], rfl, ⟨t6, [.ref t5], rfl, .inl (sc _ _ (sb _ _ ea)), .ref t5, [], rfl, ⟨t5, [], rfl, .inl (sc _ _ (s9b _ _ e9)), rfl⟩, rfl⟩, rfl⟩
    refine ⟨.ref d, rfl, d, p, q, c, 23, rfl, Dc, by omega, by decide, by decide, fun Hd r r0 r1 Dd kd => ?_⟩
    obtain ⟨j, rfl⟩ := Int.eq_ofNat_of_zero_le r0
    have nld : l4 ≠ d := Db.ned hl4
    have nlp : l4 ≠ p := Db.nep hl4
    have ed := kd _ _ ec nld nlp
    have alld := all.keep Dc kd (by simp) (by simp)
    have el := alld.len
    have hj : j < oddD.length := by
      have : oddD.length = 23 := by decide
      omega
    rw [← el] at hj
    have gx := List.getElem?_eq_getElem hj
    obtain ⟨dd, hg, hrp⟩ := alld.get gx
    exact ⟨l4, _, (j : Int), _, rfl, rfl, sqL ed, atI_nat gx, qq Hd _ dd Dd ((Same.keep (s0b.trans sc)).trans kd) hrp (odd_wf dd (List.mem_of_getElem? hg))⟩
end
end TR
namespace TR
open PySem PySem.Spec PyProof.Rows L2
section
variable {P : Program} {w : World} {K : PySem.W.Frag} {mg : Str → Option Value} {base : Heap}
def spLaw (K : PySem.W.Frag) : Sp := fun vs H Q _ => ∃ (a : Addr) (ns : List Int), vs = [.ref a] ∧ SqL K H a (ns.map V.int) ∧ ns.length ≤ 63 ∧ ∀ H', Q (.bl true) H'
end
end TR
namespace TR
open PySem PySem.Spec PyProof.Rows L2
theorem scCount : FnScope ["dishes", "number", "factor"] ["dishes"] (defScope sCount) := ⟨rfl, rfl, rfl, by decide +kernel, rfl, by decide +kernel, by decide +kernel⟩
theorem scWithin : FnScope ["value", "low", "high"] ["value", "low", "high"] (defScope sWithin) := ⟨rfl, rfl, rfl, by decide +kernel, rfl, by decide +kernel, by decide +kernel⟩
section
variable {P : Program} {w : World} {K : PySem.W.Frag} {mg : Str → Option Value} {base : Heap}
def spCount : Sp := fun vs H Q _ => ∃ n : Nat, vs = [.int (n : Int)] ∧ 1 ≤ n ∧ n ≤ 8 ∧ Q (.int (fct n : Nat)) H
theorem ok_count {f : Addr} {fd : FuncData} {k : Nat} (F : Fun K "count_rankings" "count_rankings" sCount f fd) (mr : mg "range" = none) : FnOk P w K mg base CX0 (k + 1) f fd ["dishes"] spCount := by
  refine F.ok scCount (fun vs H Q E h => ?_) (fun cdv A outer s H vs Q E hr h => ?_)
  · obtain ⟨n, rfl, _⟩ := h
    rfl
  · obtain ⟨n, rfl, h1, h8, q⟩ := h
    refine ⟨_, pss_cons (ps_set (i := 1) scCount.nd rfl (.inl rfl) pe_int)
      (pss_cons (ps_for PassesOwn.never rfl (pi_range2 (by rfl) mr (pa_cons pe_int (pa_cons (pe_op op_add (pv 0) pe_int) pa_nil))) (pg_name (i := 2) scCount.nd rfl (.inl rfl))
        (pss_one (ps_aug (i := 1) (ti := rI CMul fun i j => .int (i * j)) scCount.nd rfl (.inl rfl) (pv 2) iop_mul)))
      (pss_one (ps_ret (pv 1)))), ?_⟩
    refine ⟨.int (n : Int), rfl, (n : Int), 1, rfl, rfl, 2, (n : Int) + 1, rfl, ⟨by omega, by omega, by omega, by omega⟩, ?_⟩
    refine for_range (n := ((n : Int) + 1 - 2).toNat) (lo := 2) (fun j σ H1 => H1 = H ∧ ∃ y, σ = [some (.int (n : Int)), some (.int (fct (j + 1) : Nat)), y]) ⟨rfl, none, rfl⟩ (fun j σ H1 hj h => ?_) (fun σ H1 h => ?_)
    · obtain ⟨rfl, y, rfl⟩ := h
      refine ⟨_, rfl, _, rfl, _, _, rfl, rfl, .inr ⟨by show -(2 : Int) ^ 64 < 2 + (j : Int); omega, by show 2 + (j : Int) < (2 : Int) ^ 64; omega⟩, rfl, some (.int (2 + (j : Int))), ?_⟩
      have e : ((fct (j + 1) : Nat) : Int) * (2 + (j : Int)) = ((fct (j + 1 + 1) : Nat) : Int) := by
        show _ = (((j + 1 + 1) * fct (j + 1) : Nat) : Int)
        rw [Int.natCast_mul, Int.mul_comm]
        congr 1
        omega
      rw [← e]
      rfl
    · obtain ⟨rfl, y, rfl⟩ := h
      refine ⟨_, rfl, ?_⟩
      have e : ((n : Int) + 1 - 2).toNat + 1 = n := by omega
      rw [e]
      exact q
/-! ### is_within -/
def spWithin : Sp := fun vs H Q _ => ∃ (x : V) (d : PyData) (ban : List Addr) (lo hi : Int), vs = [x, .int lo, .int hi] ∧ Rp H ban d x ∧ (∀ i, d = .int i → Q (.bl (decide (lo ≤ i ∧ i ≤ hi))) H) ∧ (whole d = false → Q (.bl false) H)
theorem ok_within {f fW : Addr} {fd dW : FuncData} {k : Nat} (F : Fun K "is_within" "is_within" sWithin f fd) (kW : PySem.W.keepIn K (.ref fW) = true) (bW : Binds K dW ["value"] []) (gW : mg "is_whole" = some (.ref fW)) (GW : FnOk P w K mg base CX0 (k + 1) fW dW ["value"] spWhole) :
    FnOk P w K mg base CX0 (k + 2) f fd ["value", "low", "high"] spWithin := by
  refine F.ok scWithin (fun vs H Q E h => ?_) (fun cdv A outer s H vs Q E hr h => ?_)
  · obtain ⟨x, d, ban, lo, hi, rfl, _⟩ := h
    rfl
  · obtain ⟨x, d, ban, lo, hi, rfl, hp, q1, q2⟩ := h
    refine ⟨_, pss_one (ps_ret (pe_and (pe_call GW hr (by rfl) gW kW bW .nil pass0 (pa_cons (pv 0) pa_nil)) (pe_one (pe_chain op_le op_le (pv 1) (pv 0) (pv 2))))), ?_⟩
    refine ⟨x, rfl, x, d, ban, rfl, hp, _, rfl, ?_⟩
    cases e : whole d with
    | false => exact iteF (q2 e)
    | true =>
      obtain ⟨i, rfl⟩ := whole_int e
      obtain rfl : x = .int i := hp
      refine iteT ?_
      have q := q1 i rfl
      refine ⟨_, rfl, _, rfl, _, _, rfl, rfl, _, rfl, ?_⟩
      show if decide (lo ≤ i) = true then _ else _
      by_cases c : lo ≤ i
      · rw [decide_eq_true c]
        refine iteT ⟨_, rfl, _, _, rfl, rfl, ?_⟩
        show Q (.bl (decide (i ≤ hi))) H
        rw [decide_eq_decide.mpr (show (i ≤ hi) ↔ (lo ≤ i ∧ i ≤ hi) by omega)]
        exact q
      · rw [decide_eq_false c]
        rw [decide_eq_false (by omega)] at q
        exact iteF q
end
end TR
namespace TR
open PySem PySem.Spec PyProof.Rows L2
theorem scRkIdx : FnScope ["ranking", "index", "at", "dish", "later", "smaller", "other"] ["ranking"] (defScope sRkIdx) := ⟨rfl, rfl, rfl, by decide +kernel, rfl, by decide +kernel, by decide +kernel⟩
/-! ### tuples of ints, made or written -/
def Tq (H : Hp) (a : Addr) (ns : List Int) : Prop := Rd H a (.tup (ns.map V.int))
theorem Tq.sq {K : PySem.W.Frag} {H : Hp} {a : Addr} {ns : List Int} (t : Tq H a ns) : SqT K H a (ns.map V.int) := .inl t
theorem Tq.same {H H' : Hp} {a : Addr} {ns : List Int} (t : Tq H a ns) (s : Same H H') : Tq H' a ns := rd_same s t
theorem Tp.tq {H : Hp} {a : Addr} {ns : List Int} (t : Tp H a ns) : Tq H a ns := by
  obtain ⟨o, _, h⟩ := t
  exact .inr ⟨o, h⟩
theorem Tq.keep {H H' : Hp} {a d p q : Addr} {n : Nat} {ns : List Int} (t : Tq H a ns) (D : Deck H d p q n) (s : Keep d p H H') : Tq H' a ns := by
  obtain ⟨x, y, c, e1⟩ := D.hd
  obtain ⟨xs, e2⟩ := D.hp
  rcases t with h | ⟨o, h⟩
  · exact .inl (s _ _ h (ne_of h e1 (by intro z; cases z)) (ne_of h e2 (by intro z; cases z)))
  · exact .inr ⟨o, s _ _ h (ne_of h e1 (by intro z; cases z)) (ne_of h e2 (by intro z; cases z))⟩
theorem enum_walk {K : PySem.W.Frag} {a : Addr} {xs : List V} : Walk (IteT K a) xs.length (fun H => SqT K H a xs) (YPair (fun i => some (.int ((i : Nat) : Int))) (fun i => xs[i]?)) :=
  ⟨fun i H hi h => ⟨xs, xs[i], h, List.getElem?_eq_getElem hi⟩, fun H h => ⟨xs, h, rfl⟩, fun i H v H' hi h y => by
    obtain ⟨T, x, e1, e2, e3, e4⟩ := y
    exact ⟨T, _, x, e1, e2, e3, rfl, e4 xs h⟩⟩
theorem cut_fromN {xs : List V} {k : Nat} : cutV xs (some (k : Int)) none = xs.drop k := by
  unfold cutV
  rw [HT.sIx_none, HT.sIx_nat]
  by_cases h : k ≤ xs.length
  · rw [Nat.min_eq_left h]
    exact List.take_of_length_le (by rw [List.length_drop]; omega)
  · rw [Nat.min_eq_right (by omega), List.drop_length, List.drop_of_length_le (by omega), List.take_nil]
section
variable {P : Program} {w : World} {K : PySem.W.Frag} {mg : Str → Option Value} {base : Heap}
def spRkIdx : Sp := fun vs H Q _ => ∃ (a : Addr) (ns : List Int), vs = [.ref a] ∧ Tq H a ns ∧ ns.length ≤ 8 ∧ ∀ H', Same H H' → Q (.int (idxR ns : Nat)) H'
theorem ok_rkidx {f : Addr} {fd : FuncData} {k : Nat} (F : Fun K "ranking_index" "ranking_index" sRkIdx f fd) (me : mg "enumerate" = none) (mlen : mg "len" = none) : FnOk P w K mg base CX0 (k + 1) f fd ["ranking"] spRkIdx := by
  refine F.ok scRkIdx (fun vs H Q E h => ?_) (fun cdv A outer s H vs Q E hr h => ?_)
  · obtain ⟨a, ns, rfl, _⟩ := h
    rfl
  · obtain ⟨a, ns, rfl, ht, hl, q⟩ := h
    refine ⟨_, pss_cons (ps_set (i := 1) scRkIdx.nd rfl (.inl rfl) pe_int)
      (pss_cons (ps_for PassesOwn.never rfl (pi_enumT (by rfl) me (pa_cons (pv 0) pa_nil)) (pg_tup (by rfl) (pgs_cons (pg_name (i := 2) scRkIdx.nd rfl (.inl rfl)) (pgs_cons (pg_name (i := 3) scRkIdx.nd rfl (.inr rfl)) pgs_nil)))
        (pss_cons (ps_set (i := 4) scRkIdx.nd rfl (.inl rfl) (pe_slice sl_tupN (pv 0) (po_some (pv 2)) po_none))
        (pss_cons (ps_setLc (i := 5) (own := [("other", 6)]) (g := gName 6) (by rfl) scRkIdx.nd rfl rfl (sw_true rfl rfl rfl (by decide +kernel)) (pi_tup (pv 4))
            (blkOk_by (own := [("other", 6)]) (N := ["ranking", "index", "at", "dish", "later", "smaller", "other"]) (sc := defScope sRkIdx) (by decide +kernel)) (fun _ _ _ _ _ => pg_name (i := 6) scRkIdx.nd rfl (Or.inl rfl))
            (fun _ _ _ _ _ => pts_one (pt_cmpR op_lt (pv 6) (pv 3) (nomark _)))
            (fun _ _ _ _ _ => pv 6))
        (pss_one (ps_set (i := 1) scRkIdx.nd rfl (.inl rfl) (pe_op op_add (pe_op op_mul (pv 1) (pe_callB call_len_seq (by rfl) mlen PySem.boot_len (pa_cons (pv 4) pa_nil))) (pe_callB call_len_seq (by rfl) mlen PySem.boot_len (pa_cons (pv 5) pa_nil))))))))
      (pss_one (ps_ret (pv 1)))), ?_⟩
    refine ⟨.ref a, rfl, a, _, rfl, ht.sq, ?_⟩
    refine for_it (enum_walk (K := K) (a := a) (xs := ns.map V.int)) (fun i σ H1 => Same H H1 ∧ ∃ (acc : Nat) (y2 y3 y4 y5 y6 : Option V), σ = [some (.ref a), some (.int (acc : Int)), y2, y3, y4, y5, y6] ∧ acc * fct (ns.length - i) + idxR (ns.drop i) = idxR ns)
      ⟨Same.refl _, 0, none, none, none, none, none, rfl, by simp⟩ (fun i σ H1 _ h => (ht.same h.1).sq) (fun i x σ H1 H2 hi h y => ?_) (fun σ H1 h => ?_)
    · obtain ⟨sm, acc, y2, y3, y4, y5, y6, rfl, hacc⟩ := h
      obtain ⟨T, u, v, rfl, hT, rfl, hu, hv⟩ := y
      cases hu
      have hin : i < ns.length := by rw [List.length_map] at hi; exact hi
      replace hv : (ns.map V.int)[i]? = some v := hv
      rw [List.getElem?_map, List.getElem?_eq_getElem hin] at hv
      cases hv
      have hd : ns.drop i = ns[i] :: ns.drop (i + 1) := List.drop_eq_getElem_cons hin
      generalize hdd : ns[i] = d at hd ⊢
      have s2 : Same H (upd H1 T (.tup [.int (i : Int), .int d])) := sm.trans (same_upd hT)
      refine ⟨T, _, rfl, sqT upd_same, rfl, _, _, rfl, _, _, rfl, rfl, ?_⟩
      generalize upd H1 T (.tup [.int (i : Int), .int d]) = H2 at s2 ⊢
      refine ⟨.ref a, rfl, .int (i : Int), rfl, _, rfl, a, _, rfl, ht.same s2, fun p H3 s3 e3 => ?_⟩
      rw [cut_fromN, ← List.map_drop, hd] at e3
      have s13 := s2.trans s3
      refine ⟨.ref p, rfl, p, rfl, ⟨_, .inl e3⟩, fun D hD => lc_tup (K := K) (a := p) (xs := (d :: ns.drop (i + 1)).map V.int) (fun j H4 => Same H3 H4 ∧ H4 D = some (.lst ((((d :: ns.drop (i + 1)).take j).filter fun x => decide (x < d)).map V.int))) ⟨same_upd hD, upd_same⟩
        (fun j H4 _ h => .inl (rd_same h.1 e3)) (fun j x H4 hx h => ?_) (fun H4 h => ?_)⟩
      · obtain ⟨s4, hd4⟩ := h
        obtain ⟨z, hz, rfl⟩ : ∃ z, (d :: ns.drop (i + 1))[j]? = some z ∧ x = .int z := by
          rw [List.getElem?_map] at hx
          cases e : (d :: ns.drop (i + 1))[j]? with
          | none => rw [e] at hx; cases hx
          | some z => rw [e] at hx; exact ⟨z, rfl, (Option.some.inj hx).symm⟩
        have hft := filter_take (fun x => decide (x < d)) hz
        refine ⟨rfl, .int z, rfl, .int d, rfl, _, _, rfl, rfl, _, rfl, ?_⟩
        show if decide (z < d) = true then _ else _
        cases e : decide (z < d) with
        | true =>
          refine iteT ⟨.int z, rfl, _, hd4, ?_, same_upd2 s4 hD, ?_⟩
          · rw [List.length_map]
            have l1 := List.length_filter_le (fun x => decide (x < d)) ((d :: ns.drop (i + 1)).take j)
            have l2 : ((d :: ns.drop (i + 1)).take j).length ≤ 8 := by
              rw [List.length_take, List.length_cons, List.length_drop]
              omega
            exact small1000 (by omega)
          · rw [upd_same, hft, if_pos e, List.map_append]
            rfl
        | false =>
          refine iteF ⟨s4, ?_⟩
          rw [hft, if_neg (by rw [e]; exact Bool.false_ne_true), List.append_nil]
          exact hd4
      · obtain ⟨s4, hd4⟩ := h
        rw [List.length_map, List.take_length] at hd4
        refine ⟨.int (acc : Int), rfl, .ref p, rfl, p, _, rfl, .inr (.inl (rd_same s4 e3)), _, _, rfl, rfl, .inr ⟨?_, ?_⟩, .ref D, rfl, D, _, rfl, .inl (sqL hd4), _, _, rfl, rfl, s13.trans s4, acc * (ns.length - i) + smal d (ns.drop (i + 1)), some (.int (i : Int)), some (.int d), some (.ref p), some (.ref D), y6, ?_, ?_⟩
        · rw [List.length_map, List.length_cons, List.length_drop]
          show -(2 : Int) ^ 64 < ((ns.length - (i + 1) + 1 : Nat) : Int)
          omega
        · rw [List.length_map, List.length_cons, List.length_drop]
          show ((ns.length - (i + 1) + 1 : Nat) : Int) < (2 : Int) ^ 64
          omega
        · have e1 : ((d :: ns.drop (i + 1)).map V.int).length = ns.length - i := by
            rw [List.length_map, List.length_cons, List.length_drop]
            omega
          have e2 : (((d :: ns.drop (i + 1)).filter fun x => decide (x < d)).map V.int).length = smal d (ns.drop (i + 1)) := by
            rw [List.length_map, ← smal_self]
            rfl
          rw [e1, e2]
          rfl
        · rw [hd] at hacc
          have e1 : (ns.drop (i + 1)).length = ns.length - (i + 1) := List.length_drop
          have e2 : ns.length - i = ns.length - (i + 1) + 1 := by omega
          have hidx : idxR (d :: ns.drop (i + 1)) = smal d (ns.drop (i + 1)) * fct (ns.length - (i + 1)) + idxR (ns.drop (i + 1)) := by
            show smal d (ns.drop (i + 1)) * fct (ns.drop (i + 1)).length + idxR (ns.drop (i + 1)) = _
            rw [e1]
          rw [hidx, e2] at hacc
          rw [e2, ← hacc, Nat.add_mul, Nat.mul_assoc, Nat.add_assoc]
          rfl
    · obtain ⟨sm, acc, y2, y3, y4, y5, y6, rfl, hacc⟩ := h
      rw [List.length_map, Nat.sub_self, List.drop_length] at hacc
      refine ⟨_, rfl, ?_⟩
      have e : acc = idxR ns := by
        have : acc * 1 + 0 = idxR ns := hacc
        omega
      rw [e]
      exact q H1 sm
end
end TR
namespace TR
open PySem PySem.Spec PyProof.Rows L2
theorem scRkAt : FnScope ["dishes", "index", "size", "left", "ranking", "rest"] ["dishes", "index"] (defScope sRkAt) := ⟨rfl, rfl, rfl, by decide +kernel, rfl, by decide +kernel, by decide +kernel⟩
theorem fct_le : ∀ k, k ≤ 8 → fct k ≤ 40320 := by decide
section
variable {P : Program} {w : World} {K : PySem.W.Frag} {mg : Str → Option Value} {base : Heap}
def spRkAt (C : Addr) : Sp := fun vs H Q E => ∃ (n : Nat) (x : V) (d : PyData) (ban : List Addr), vs = [.int (n : Int), x] ∧ 1 ≤ n ∧ n ≤ 8 ∧ Rp H ban d x ∧
  (∀ i : Nat, d = .int (i : Int) → i < fct n → ∀ H' t, Same H H' → Tp H' t (atR n (rng n) i) → Q (.ref t) H') ∧
  ((∀ i : Nat, d = .int (i : Int) → ¬ i < fct n) → ∀ H' e, Same H H' → H' e = some (.xd [(("index" : Str), x)]) → E (.ref C) (some e) H')
theorem ok_rkat {f fC fW C fI : Addr} {fd dC dW : FuncData} {k : Nat} (F : Fun K "ranking_at" "ranking_at" sRkAt f fd) (T : PySem.NiX.NiTxt K mg C fI)
    (kC : PySem.W.keepIn K (.ref fC) = true) (bC : Binds K dC ["dishes"] []) (gC : mg "count_rankings" = some (.ref fC)) (GC : FnOk P w K mg base CX0 (k + 2) fC dC ["dishes"] spCount)
    (kW : PySem.W.keepIn K (.ref fW) = true) (bW : Binds K dW ["value", "low", "high"] []) (gW : mg "is_within" = some (.ref fW)) (GW : FnOk P w K mg base CX0 (k + 2) fW dW ["value", "low", "high"] spWithin)
    (mr : mg "range" = none) (ml : mg "list" = none) (mlen : mg "len" = none) (mt : mg "tuple" = none) : FnOk P w K mg base (L2.CX P w) (k + 3) f fd ["dishes", "index"] (spRkAt C) := by
  refine F.okX scRkAt (fun vs H Q E h => ?_) (fun cdv A outer s H vs Q E hr h => ?_)
  · obtain ⟨n, x, d, ban, rfl, _⟩ := h
    rfl
  · obtain ⟨n, x, d, ban, rfl, hn1, hn8, hp, q1, q2⟩ := h
    refine ⟨_, pss_cons (ps_set (i := 2) scRkAt.nd rfl (.inl rfl) (pe_call GC hr (by rfl) gC kC bC .nil pass0 (pa_cons (pv 0) pa_nil)))
      (pss_cons (ps_if (pt_not (pt_val (pe_call GW hr (by rfl) gW kW bW .nil pass0 (pa_cons (pv 1) (pa_cons pe_int (pa_cons (pe_op op_sub (pv 2) pe_int) pa_nil)))))) (pss_one (ps_raiseNi (W := fun cls d _ H => E cls d H) rfl T hr (takes_of rfl rfl rfl rfl) (pa_cons (pv 1) pa_nil))) pss_nil)
      (PSs.nox (pss_cons (ps_set (i := 3) scRkAt.nd rfl (.inl rfl) (pe_listRg (by rfl) (by rfl) ml (prg_1 (by rfl) mr (pv 0))))
      (pss_cons (ps_set (i := 4) scRkAt.nd rfl (.inl rfl) (pe_lst pa_nil))
      (pss_cons (ps_set (i := 5) scRkAt.nd rfl (.inl rfl) (pv 1))
      (pss_cons (ps_while PassesOwn.never (pt_truth (pv 3) (fun _ => rfl))
        (pss_cons (ps_aug (i := 2) (ti := rI CDiv fun i j => .int (i / j)) scRkAt.nd rfl (.inl rfl) (pe_callB call_len_seq (by rfl) mlen PySem.boot_len (pa_cons (pv 3) pa_nil)) iop_fdiv)
        (pss_cons (ps_expr (pe_bm PySem.F.plainAttrs_list PySem.F.slot_list_append PySem.F.type_list_append mt_append (pv 4) (pa_cons
          (pe_bm PySem.F.plainAttrs_list PySem.F.slot_list_pop PySem.F.type_list_pop mt_popAt (pv 3) (pa_cons (pe_op op_fdiv (pv 5) (pv 2)) pa_nil)) pa_nil)))
        (pss_one (ps_aug (i := 5) (ti := rI (fun _ j => 0 < j) fun i j => .int (i % j)) scRkAt.nd rfl (.inl rfl) (pv 2) iop_mod)))))
      (pss_one (ps_ret (pe_callTy call_tupleF (by rfl) mt (by decide +kernel) (pa_cons (pv 4) pa_nil)))))))))), ?_⟩
    refine ⟨.int (n : Int), rfl, n, rfl, hn1, hn8, ?_⟩
    have hf0 := fct_pos n
    refine ⟨x, rfl, .int (fct n : Nat), rfl, _, _, rfl, rfl, x, d, ban, 0, (fct n : Nat) - 1, rfl, hp, fun i hd => ⟨_, rfl, ?_⟩, fun hw => ⟨_, rfl, ?_⟩⟩
    · subst hd
      obtain rfl : x = .int i := hp
      by_cases c : 0 ≤ i ∧ i ≤ ((fct n : Nat) : Int) - 1
      · rw [decide_eq_true c]
        refine iteF ?_
        obtain ⟨m, rfl⟩ := Int.eq_ofNat_of_zero_le c.1
        have hm : m < fct n := by omega
        replace q1 := q1 m rfl hm
        clear q2
        refine ⟨.int (n : Int), rfl, n, rfl, RgOk.of_le (by omega) (by omega) (by omega) (by omega), fun l hl => ⟨Nat.zero_le _, fun g hg => ⟨.int (m : Int), rfl, ?_⟩⟩⟩
        rw [rgV_rng] at hg ⊢
        have hg0 : H g = none := (same_upd hl).free hg
        have nlg : l ≠ g := ne_of_none (upd_same (H := H)) hg
        refine ⟨fun k σ H1 => Same H H1 ∧ ∃ (left found : List Int) (rest : Nat), σ = [some (.int (n : Int)), some (.int (m : Int)), some (.int (fct k : Nat)), some (.ref l), some (.ref g), some (.int (rest : Int))] ∧ H1 l = some (.lst (left.map V.int)) ∧ H1 g = some (.lst (found.map V.int)) ∧ left.length = k ∧ found.length + k = n ∧ rest < fct k ∧ found ++ atR k left rest = atR n (rng n) m,
          ⟨n, (same_upd hl).trans (same_upd hg), rng n, [], m, rfl, ?_, upd_same, rng_len n, by simp, hm, rfl⟩, fun k σ H1 hW => ?_⟩
        · rw [upd_ne nlg, upd_same]
        · obtain ⟨sm, left, found, rest, rfl, h1, h2, h3, h4, h5, h6⟩ := hW
          refine ⟨.ref l, rfl, !(left.map V.int).isEmpty, .inl ⟨_, sqL h1, rfl⟩, ?_⟩
          cases left with
          | nil =>
            refine iteF ?_
            cases h3
            refine ⟨.ref g, rfl, g, _, rfl, sqL h2, fun t o ht ho => q1 _ t (sm.trans (same_upd ht)) ?_⟩
            rw [← h6, show atR ([] : List Int).length [] rest = [] from rfl, List.append_nil]
            exact Tp.new ho
          | cons y r =>
            refine iteT ?_
            subst h3
            have hf1 := fct_pos r.length
            have hf2 := fct_le r.length (by rw [List.length_cons] at h4; omega)
            refine ⟨_, fun σ' H' hN => ⟨r.length, by rw [List.length_cons]; exact Nat.lt_succ_self _, hN⟩, ?_⟩
            refine ⟨_, rfl, .ref l, rfl, l, _, rfl, .inl (sqL h1), _, _, rfl, rfl, ⟨?_, ?_⟩, ?_⟩
            · rw [List.length_map, List.length_cons]
              omega
            · rw [List.length_map, List.length_cons]
              rw [List.length_cons] at h4
              omega
            have ef : ((fct (y :: r).length : Nat) : Int) / (((y :: r).map V.int).length : Int) = ((fct r.length : Nat) : Int) := by
              rw [List.length_map]
              show (((r.length + 1) * fct r.length : Nat) : Int) / ((r.length + 1 : Nat) : Int) = _
              rw [← Int.natCast_ediv, Nat.mul_div_cancel_left _ (Nat.succ_pos _)]
            have ej : ((rest : Int) / ((fct r.length : Nat) : Int)) = ((rest / fct r.length : Nat) : Int) := rfl
            have em : ((rest : Int) % ((fct r.length : Nat) : Int)) = ((rest % fct r.length : Nat) : Int) := rfl
            have hj : rest / fct r.length < (y :: r).length := by
              rw [List.length_cons]
              refine Nat.div_lt_of_lt_mul ?_
              rw [Nat.mul_comm]
              exact h5
            have hmod : rest % fct r.length < fct r.length := Nat.mod_lt _ hf1
            have h6' : found ++ ((y :: r).getD (rest / fct r.length) 0 :: atR r.length ((y :: r).eraseIdx (rest / fct r.length)) (rest % fct r.length)) = atR n (rng n) m := h6
            generalize rest / fct r.length = j at ej hj h6'
            generalize rest % fct r.length = rest2 at em hmod h6'
            have gj : (y :: r)[j]? = some (y :: r)[j] := List.getElem?_eq_getElem hj
            rw [List.getD_eq_getElem?_getD, gj] at h6'
            show tSeq _ _ _ (List.set _ 2 (some (V.int (((fct (y :: r).length : Nat) : Int) / (((y :: r).map V.int).length : Int))))) H1
            rw [ef]
            refine ⟨.ref g, rfl, .inl ⟨rfl, _, sqL h2⟩, .ref l, rfl, .inl ⟨rfl, _, sqL h1⟩, .int (rest : Int), rfl, .int (fct r.length : Nat), rfl, _, _, rfl, rfl, ⟨by omega, by omega⟩, ?_⟩
            rw [List.length_cons] at h4
            refine ⟨l, _, _, j, .int (y :: r)[j], rfl, rfl, h1, ?_, ?_, ?_, by rw [List.getElem?_map, gj]; rfl, ?_⟩
            · rw [ej]; omega
            · rw [ej]
              rw [List.length_cons] at hj
              omega
            · rw [ej]
              exact seq_nat (by rw [List.length_map]; exact hj)
            refine ⟨g, _, _, rfl, rfl, by rw [upd_ne nlg.symm]; exact h2, by rw [List.length_map]; exact small1000 (by omega), ?_⟩
            refine ⟨.int (rest : Int), rfl, .int (fct r.length : Nat), rfl, _, _, rfl, rfl, by omega, ?_⟩
            refine ⟨same_upd2 (same_upd2 sm hl) hg0, (y :: r).eraseIdx j, found ++ [(y :: r)[j]], rest2, ?_, ?_, ?_, ?_, ?_, hmod, ?_⟩
            · rw [← em]
              rfl
            · rw [upd_ne nlg, upd_same, erase_map]
            · rw [upd_same, List.map_append]
              rfl
            · rw [List.length_eraseIdx_of_lt hj]
              rfl
            · rw [List.length_append]
              show found.length + 1 + r.length = n
              omega
            · rw [List.append_assoc]
              exact h6'
      · rw [decide_eq_false c]
        refine iteT ⟨.int i, rfl, .int i, rfl, fun e he => q2 (fun m hm hlt => ?_) _ e (same_upd he) upd_same⟩
        have : i = (m : Int) := by injection hm
        omega
    · refine iteT ⟨x, rfl, x, rfl, fun e he => q2 (fun m hm => ?_) _ e (same_upd he) upd_same⟩
      rw [hm] at hw
      simp [whole, tyD] at hw
end
end TR
namespace TR
open PySem PySem.Spec PyProof.Rows L2
theorem scAll : FnScope ["_law_dishes", "_law_found", "_law_turn", "_law_longer", "_law_row", "_law_dish"] ["_law_dishes"] (defScope sAll) := ⟨rfl, rfl, rfl, by decide +kernel, rfl, by decide +kernel, by decide +kernel⟩
/-! ### lists of rankings -/
inductive Rks (H : Hp) : List V → List (List Int) → Prop
  | nil : Rks H [] []
  | cons {a : Addr} {ns : List Int} {vs : List V} {rs : List (List Int)} : Tq H a ns → Rks H vs rs → Rks H (.ref a :: vs) (ns :: rs)
theorem Rks.same {H H' : Hp} {vs : List V} {rs : List (List Int)} (h : Rks H vs rs) (s : Same H H') : Rks H' vs rs := by
  induction h with
  | nil => exact .nil
  | cons e _ ih => exact .cons (e.same s) ih
theorem Tq.upd_lst {H : Hp} {a D : Addr} {ns : List Int} {xs ys : List V} (h : Tq H a ns) (e : H D = some (.lst xs)) : Tq (upd H D (.lst ys)) a ns := by
  rcases h with h | ⟨o, h⟩
  · exact .inl (by rw [upd_ne (ne_of h e (by intro z; cases z))]; exact h)
  · exact .inr ⟨o, by rw [upd_ne (ne_of h e (by intro z; cases z))]; exact h⟩
theorem Rks.upd_lst {H : Hp} {vs : List V} {rs : List (List Int)} {D : Addr} {xs ys : List V} (h : Rks H vs rs) (e : H D = some (.lst xs)) : Rks (upd H D (.lst ys)) vs rs := by
  induction h with
  | nil => exact .nil
  | cons t _ ih => exact .cons (t.upd_lst e) ih
theorem Rks.keep {H H' : Hp} {vs : List V} {rs : List (List Int)} {d p q : Addr} {n : Nat} (h : Rks H vs rs) (D : Deck H d p q n) (s : Keep d p H H') : Rks H' vs rs := by
  induction h with
  | nil => exact .nil
  | cons e _ ih => exact .cons (e.keep D s) ih
theorem Rks.append {H : Hp} {vs ws : List V} {ps qs : List (List Int)} (h : Rks H vs ps) (g : Rks H ws qs) : Rks H (vs ++ ws) (ps ++ qs) := by
  induction h with
  | nil => exact g
  | cons e _ ih => exact .cons e ih
theorem Rks.len {H : Hp} {vs : List V} {rs : List (List Int)} (h : Rks H vs rs) : vs.length = rs.length := by
  induction h with
  | nil => rfl
  | cons _ _ ih => rw [List.length_cons, List.length_cons, ih]
theorem Rks.get {H : Hp} {vs : List V} {rs : List (List Int)} (h : Rks H vs rs) : ∀ {i : Nat} {x : V}, vs[i]? = some x → ∃ a ns, x = .ref a ∧ rs[i]? = some ns ∧ Tq H a ns := by
  induction h with
  | nil => intro i x e; simp at e
  | cons e _ ih =>
    intro i x g
    cases i with
    | zero => exact ⟨_, _, (Option.some.inj g).symm, rfl, e⟩
    | succ i => exact ih g
def grow (n : Nat) (row : List Int) : List (List Int) := ((rng n).filter fun d => !row.contains d).map fun d => row ++ [d]
theorem grow_len (n : Nat) (row : List Int) : (grow n row).length ≤ n := by
  unfold grow
  rw [List.length_map]
  exact Nat.le_trans (List.length_filter_le _ _) (Nat.le_of_eq (rng_len n))
theorem allS_take {n : Nat} {rows : List (List Int)} {i : Nat} {row : List Int} (h : rows[i]? = some row) : allS n (rows.take (i + 1)) = allS n (rows.take i) ++ grow n row := by
  unfold allS
  rw [List.take_add_one, h, List.flatMap_append]
  show _ ++ ([row].flatMap _) = _
  rw [List.flatMap_singleton]
  rfl
theorem allS_len (n : Nat) : ∀ rows : List (List Int), (allS n rows).length ≤ rows.length * n
  | [] => Nat.zero_le _
  | r :: t => by
    have h1 := allS_len n t
    have h2 := grow_len n r
    have e : allS n (r :: t) = grow n r ++ allS n t := by
      unfold allS
      rw [List.flatMap_cons]
      rfl
    rw [e, List.length_append, List.length_cons, Nat.succ_mul]
    omega
theorem inV_ints (d : Int) : ∀ ns : List Int, inV (.int d) (ns.map V.int) = ns.contains d
  | [] => rfl
  | x :: r => by
    rw [List.map_cons, List.contains_cons]
    have ih := inV_ints d r
    unfold inV at ih ⊢
    rw [List.any_cons, ih]
    show ((x == d) || _) = ((d == x) || _)
    rw [Bool.beq_comm]
section
variable {P : Program} {w : World} {K : PySem.W.Frag} {mg : Str → Option Value} {base : Heap}
def spAll : Sp := fun vs H Q _ => ∃ n : Nat, vs = [.int (n : Int)] ∧ n < 6 ∧ ∀ H' l xs, Same H H' → H l = none → H' l = some (.lst xs) → Rks H' xs (allT n n) → Q (.ref l) H'
theorem ok_all {f : Addr} {fd : FuncData} {k : Nat} (F : Fun K "_law_all" "_law_all" sAll f fd) (mr : mg "range" = none) : FnOk P w K mg base CX0 (k + 1) f fd ["_law_dishes"] spAll := by
  refine F.ok scAll (fun vs H Q E h => ?_) (fun cdv A outer s H vs Q E hr h => ?_)
  · obtain ⟨n, rfl, _⟩ := h
    rfl
  · obtain ⟨n, rfl, hn, q⟩ := h
    refine ⟨_, pss_cons (ps_set (i := 1) scAll.nd rfl (.inl rfl) (pe_lstN (pa_cons (pe_tupN pa_nil) pa_nil)))
      (pss_cons (ps_for PassesOwn.never rfl (pi_range1 (by rfl) mr (pa_cons (pv 0) pa_nil)) (pg_name (i := 2) scAll.nd rfl (.inl rfl))
        (pss_cons (ps_set (i := 3) scAll.nd rfl (.inl rfl) (pe_lstN pa_nil))
        (pss_cons (ps_for PassesOwn.never rfl (pi_list (pv 1)) (pg_name (i := 4) scAll.nd rfl (.inr rfl))
          (pss_one (ps_expr (pe_bm PySem.F.plainAttrs_list PySem.F.slot_list_extend PySem.F.type_list_extend mt_extend (pv 3) (pa_cons
            (pe_lc (own := [("_law_dish", 5)]) (g := gName 5) (by rfl) scAll.nd (pi_range1 (by rfl) mr (pa_cons (pv 0) pa_nil))
              (blkOk_by (own := [("_law_dish", 5)]) (N := ["_law_dishes", "_law_found", "_law_turn", "_law_longer", "_law_row", "_law_dish"]) (sc := defScope sAll) (by decide +kernel)) (fun _ _ _ _ _ => pg_name (i := 5) scAll.nd rfl (Or.inl rfl))
              (fun _ _ _ _ _ => pts_one (pt_cmpR (r := rIn K true) op_notIn_seq (pv 5) (pv 4) (by rfl)))
              (fun _ _ _ _ _ => pe_op op_catTN (pv 4) (pe_tupN (pa_cons (pv 5) pa_nil)))) pa_nil)))))
        (pss_one (ps_set (i := 1) scAll.nd rfl (.inl rfl) (pv 3))))))
      (pss_one (ps_ret (pv 1)))), ?_⟩
    refine ⟨Nat.zero_le _, fun t0 H1 _ s1 e1 => ⟨by show 1 ≤ sizeLine; decide, fun l0 H2 hl0 _ s2 e2 => ?_⟩⟩
    refine ⟨.int (n : Int), rfl, n, rfl, by omega, by omega, for_range (n := n) (lo := 0) (fun i σ H3 => (∃ l y2 y3 y4 y5 xs, σ = [some (.int (n : Int)), some (.ref l), y2, y3, y4, y5] ∧ H l = none ∧ H3 l = some (.lst xs) ∧ Rks H3 xs (allT n i)) ∧ Same H H3)
      ⟨⟨l0, none, none, none, none, _, rfl, s1.free hl0, e2, .cons (.inl (s2 _ _ e1)) .nil⟩, s1.trans s2⟩ (fun i σ H3 hi h => ?_) (fun σ H3 h => ?_)⟩
    · obtain ⟨⟨l, y2, y3, y4, y5, xs, rfl, hl, e3, r3⟩, s3⟩ := h
      refine ⟨Nat.zero_le _, fun g H4 hg _ s4 e4 => ?_⟩
      have ll := all_len n hn i (by omega)
      have el4 := s4 _ _ e3
      have nlg : l ≠ g := ne_of_none e3 hg
      have hgH : H g = none := s3.free hg
      refine ⟨.ref l, rfl, l, rfl, ⟨_, sqL el4⟩, for_list (K := K) (a := l) (xs := xs) (fun j σ H5 => (∃ y2 y4 y5 zs, σ = [some (.int (n : Int)), some (.ref l), y2, some (.ref g), y4, y5] ∧ H5 g = some (.lst zs) ∧ Rks H5 zs (allS n ((allT n i).take j))) ∧ H5 l = some (.lst xs) ∧ Rks H5 xs (allT n i) ∧ Same H H5)
        ⟨⟨_, _, _, [], rfl, e4, .nil⟩, el4, r3.same s4, s3.trans s4⟩ (fun j σ H5 _ h => sqL h.2.1) (fun j x σ H5 hx h => ?_) (fun σ H5 h => ?_)⟩
      · obtain ⟨⟨y2, y4, y5, zs, rfl, e5, z5⟩, el5, r5, s5⟩ := h
        obtain ⟨a, row, rfl, hrow, t5⟩ := r5.get hx
        have hrl := ll.2 row (List.mem_of_getElem? hrow)
        refine ⟨.ref g, rfl, .inl ⟨rfl, _, sqL e5⟩, .int (n : Int), rfl, n, rfl, by omega, by omega, fun D hD => ?_⟩
        have nDg : g ≠ D := ne_of_none e5 hD
        refine walk_in (n := n) (lo := 0) (fun m H6 => Same H5 H6 ∧ ∃ ws, H6 D = some (.lst ws) ∧ Rks H6 ws ((((rng n).take m).filter fun d => !row.contains d).map fun d => row ++ [d])) ⟨same_upd hD, [], upd_same, .nil⟩ (fun m H6 hm h => ?_) (fun H6 h => ?_)
        · obtain ⟨s6, ws, e6, w6⟩ := h
          have hz : (rng n)[m]? = some (m : Int) := by
            unfold rng
            rw [List.getElem?_map, List.getElem?_range hm]
            rfl
          have hft := filter_take (fun d => !row.contains d) hz
          have t6 := t5.same s6
          refine ⟨rfl, .int (0 + (m : Int)), rfl, .ref a, rfl, a, _, rfl, .inr t6.sq, rfl, flat_ints row, _, rfl, ?_⟩
          rw [Int.zero_add, inV_ints]
          show if (!row.contains (m : Int)) = true then _ else _
          cases e : (!row.contains (m : Int)) with
          | true =>
            refine iteT ⟨.ref a, rfl, .int (m : Int), rfl, by show 1 ≤ sizeLine; decide, fun t H7 _ s7 e7 => ?_⟩
            refine ⟨a, t, _, _, rfl, rfl, rd_same s7 t6, .inl e7, ?_, fun c H8 s8 e8 => ?_⟩
            · rw [List.length_map]
              show row.length + 1 ≤ sizeLine
              exact Nat.le_of_lt (small1000 (by omega))
            · have e68 := (s7.trans s8) _ _ e6
              have tc : Tq H8 c (row ++ [(m : Int)]) := by
                show Rd H8 c (.tup ((row ++ [(m : Int)]).map V.int))
                rw [List.map_append]
                exact e8
              refine ⟨ws, e68, ?_, same_upd2 ((s6.trans s7).trans s8) hD, ws ++ [.ref c], upd_same, ?_⟩
              · have l1 := w6.len
                rw [List.length_map] at l1
                have l2 := List.length_filter_le (fun d => !row.contains d) ((rng n).take m)
                rw [List.length_take, rng_len] at l2
                exact small1000 (by omega)
              · rw [hft, if_pos e, List.map_append]
                exact ((w6.same (s7.trans s8)).upd_lst e68).append (.cons (tc.upd_lst e68) .nil)
          | false =>
            refine iteF ⟨s6, ws, e6, ?_⟩
            rw [hft, if_neg (by rw [e]; exact Bool.false_ne_true), List.append_nil]
            exact w6
        · obtain ⟨s6, ws, e6, w6⟩ := h
          rw [List.take_of_length_le (by rw [rng_len]; exact Nat.le_refl _)] at w6
          have eg6 := s6 _ _ e5
          refine ⟨g, D, zs, ws, rfl, rfl, eg6, e6, ?_, ?_⟩
          · have l1 := z5.len
            have l2 := w6.len
            have l3 := allS_len n ((allT n i).take j)
            have l4 : ((allT n i).take j).length ≤ 400 := Nat.le_trans (List.length_take_le' _ _) (by omega)
            have l5 := grow_len n row
            unfold grow at l5
            have l6 : ((allT n i).take j).length * n ≤ 400 * 5 := Nat.mul_le_mul l4 (by omega)
            refine Nat.le_trans (m := 3000) (by omega) (by decide)
          · refine ⟨⟨_, _, _, zs ++ ws, rfl, upd_same, ?_⟩, ?_, ?_, ?_⟩
            · rw [allS_take hrow]
              exact ((z5.same s6).upd_lst eg6).append (w6.upd_lst eg6)
            · rw [upd_ne nlg]
              exact s6 _ _ el5
            · exact (r5.same s6).upd_lst eg6
            · exact same_upd2 (s5.trans s6) hgH
      · obtain ⟨⟨y2, y4, y5, zs, rfl, e5, z5⟩, el5, r5, s5⟩ := h
        refine ⟨.ref g, rfl, ⟨g, _, _, _, _, zs, rfl, hgH, e5, ?_⟩, s5⟩
        rw [List.take_of_length_le (by rw [r3.len]; exact Nat.le_refl _)] at z5
        exact z5
    · obtain ⟨⟨l, y2, y3, y4, y5, xs, rfl, hl, e3, r3⟩, s3⟩ := h
      exact ⟨.ref l, rfl, q H3 l xs s3 hl e3 r3⟩
end
end TR
namespace TR
open PySem PySem.Spec PyProof.Rows L2
theorem scRaised : FnScope ["_law_dishes", "_law_thing", "_law_found", "error"] ["_law_dishes", "_law_thing"] (defScope sRaised) := ⟨rfl, rfl, rfl, by decide +kernel, rfl, by decide +kernel, by decide +kernel⟩
/-- what the classes of the errors say -/
structure ErrTxt (K : PySem.W.Frag) (mg : Str → Option Value) (C R S B : Addr) : Prop where
  ec : ExcC K C
  gR : mg "NoRanking" = some (.ref R)
  gS : mg "NotSeatable" = some (.ref S)
  gB : mg "TasteError" = some (.ref B)
  k1 : PySem.W.kitOne K (.ref C) (.ref C) = some true
  k2 : PySem.W.kitAny K (.ref C) [.ref R, .ref S] = some false
  te : PySem.W.exmOne K (.ref C) (.ref B) = some true
section
variable {X : Cx} {a D : Addr} {oe : Obj} {pn : List (Addr × Obj)} {cls : Value} {d : Option Addr}
def rIsXc (K : PySem.W.Frag) (D a : Addr) (cls : Value) (d : Option Addr) : List V → Hp → VK → Prop := fun xs H Q => cls = .ref D ∧ rIsX K D a d xs H Q
theorem call_isXc (C : ExcC X.K D) (hz : Zc cls d oe) (hf : ∃ vs, oe.data = .fields vs) : CallR (X.suite a ((a, oe) :: pn)) (.builtin "isinstance") (rIsXc X.K D a cls d) := by
  intro pins s σ H xs us Q I r ⟨e, h⟩
  subst e
  exact call_isX C hz hf pins s σ H xs us Q I r h
def rIsXTc (K : PySem.W.Frag) (D a : Addr) (cls : Value) (d : Option Addr) : List V → Hp → VK → Prop := fun xs H Q => cls = .ref D ∧ rIsXT K D a d xs H Q
theorem call_isXTc (C : ExcC X.K D) (hz : Zc cls d oe) (hf : ∃ vs, oe.data = .fields vs) : CallR (X.suite a ((a, oe) :: pn)) (.builtin "isinstance") (rIsXTc X.K D a cls d) := by
  intro pins s σ H xs us Q I r ⟨e, h⟩
  subst e
  exact call_isXT C hz hf pins s σ H xs us Q I r h
end
section
variable {P : Program} {w : World} {K : PySem.W.Frag} {mg : Str → Option Value} {base : Heap}
def spRaised : Sp := fun vs H Q _ => ∃ (n : Nat) (x : V) (d : PyData) (ban : List Addr), vs = [.int (n : Int), x] ∧ 1 ≤ n ∧ n ≤ 8 ∧ Rp H ban d x ∧ (∀ i : Nat, d = .int (i : Int) → ¬ i < fct n) ∧
  ∀ H' l, Same H H' → H l = none → l ≠ sysModules → H' l = some (.lst [.str "index", x]) → Q (.ref l) H'
theorem ok_raised {f fA C fI R S B : Addr} {fd dA : FuncData} {k : Nat} (F : Fun K "_law_raised" "_law_raised" sRaised f fd) (T : PySem.NiX.NiTxt K mg C fI) (U : ErrTxt K mg C R S B)
    (kA : PySem.W.keepIn K (.ref fA) = true) (bA : Binds K dA ["dishes", "index"] []) (gA : mg "ranking_at" = some (.ref fA)) (GA : FnOk P w K mg base (L2.CX P w) (k + 3) fA dA ["dishes", "index"] (spRkAt C))
    (misi : mg "isinstance" = none) : FnOk P w K mg base CX0 (k + 4) f fd ["_law_dishes", "_law_thing"] spRaised := by
  refine F.ok scRaised (fun vs H Q E h => ?_) (fun cdv A outer s H vs Q E hr h => ?_)
  · obtain ⟨n, x, d, ban, rfl, _⟩ := h
    rfl
  · obtain ⟨n, x, d, ban, rfl, hn1, hn8, hp, hno, q⟩ := h
    refine ⟨_, pss_cons (ps_set (i := 2) scRaised.nd rfl (.inl rfl) pe_non)
      (pss_cons (ps_try_as (i := 3) (Wout := fun _ _ _ _ => False) rfl rfl scRaised.nd rfl rfl ⟨rfl, by decide, Or.inl U.gB⟩ takes0
          (fun W pn xe tk _ => pss_one (ps_set (i := 2) scRaised.nd rfl (.inl rfl) (pe_lstN (pa_cons pe_str (pa_cons (pe_callS (E := WE W) GA hr rfl gA kA bA (fun σ => passAt tk σ) (by exact (pa_cons (pv 0) (pa_cons (pv 1) pa_nil)))) pa_nil)))))
          (fun a oe cls d pn hz hf => pss_one (ps_if (PW.pt (pw_and (pt_val (pe_callB (call_isXc U.ec hz hf) (by rfl) misi (by decide +kernel) (pa_cons (pv 3) (pa_cons (pe_glob (v := .ref C) (by rfl) T.gC rfl) pa_nil))))
              (pw_and1 (pt_not (pt_val (pe_callB (call_isXTc U.ec hz hf) (by rfl) misi (by decide +kernel) (pa_cons (pv 3) (pa_cons (pe_tupN (pa_cons (pe_glob (v := .ref R) (by rfl) U.gR rfl) (pa_cons (pe_glob (v := .ref S) (by rfl) U.gS rfl) pa_nil))) pa_nil))))))))
            (pss_one (ps_set (i := 2) scRaised.nd rfl (.inl rfl) (pe_lstN (pa_cons pe_str (pa_cons (pe_byNi T hz hf (pv 3)) pa_nil))))) pss_nil)))
      (pss_one (ps_ret (pv 2)))), ?_⟩
    refine ⟨.int (n : Int), rfl, x, rfl, n, x, d, ban, rfl, hn1, hn8, hp, fun i hd hlt => absurd hlt (hno i hd), fun _ H1 e s1 he => ?_⟩
    refine ⟨true, U.te, fun _ a0 ha0 => ?_, fun z => Bool.noConfusion z⟩
    refine ⟨.ref a0, rfl, rfl, e, _, .ref C, _, true, rfl, he, rfl, .own C, U.k1, _, rfl, iteT ?_⟩
    refine ⟨.ref a0, rfl, by show 2 ≤ sizeLine; decide, fun tp H2 htp s2 e2 => ?_⟩
    refine ⟨rfl, e, _, tp, _, _, false, rfl, s2 _ _ he, rfl, e2, .cons (.own R) (.cons (.own S) .nil), U.k2, _, rfl, iteT ?_⟩
    refine ⟨.ref a0, rfl, rfl, rfl, e, x, rfl, s2 _ _ he, by show 2 ≤ sizeLine; decide, fun l H3 hl nl s3 e3 => ?_⟩
    exact ⟨.ref l, rfl, q H3 l (s1.trans (s2.trans s3)) ((s1.trans s2).free hl) nl e3⟩
end
end TR
namespace TR
open PySem PySem.Spec PyProof.Rows L2
theorem scLaw : FnScope ["_law_script", "_law_deck_here", "_law_dishes", "_law_rows", "_law_number", "_law_row", "_law_thing", "_law_turn", "_law_one_here", "_law_other", "_law_first", "_law_second"] ["_law_script"] (defScope sLaw) := ⟨rfl, rfl, rfl, by decide +kernel, rfl, by decide +kernel, by decide +kernel⟩
theorem enum_walkL {K : PySem.W.Frag} {a : Addr} {xs : List V} : Walk (Ite K a) xs.length (fun H => SqL K H a xs) (YPair (fun i => some (.int ((i : Nat) : Int))) (fun i => xs[i]?)) :=
  ⟨fun i H hi h => ⟨xs, xs[i], h, List.getElem?_eq_getElem hi⟩, fun H h => ⟨xs, h, Nat.le_refl _⟩, fun i H v H' hi h y => by
    obtain ⟨T, x, e1, e2, e3, e4⟩ := y
    exact ⟨T, _, x, e1, e2, e3, rfl, e4 xs h⟩⟩
theorem alk_tq {K : PySem.W.Frag} {H : Hp} {m : Nat} {a b : Addr} {ns : List Int} (ha : Tq H a ns) (hb : Tq H b ns) (hl : ns.length ≤ 1000) : Alk K H (m + 2) (.ref a) (.ref b) := by
  refine .inr ⟨a, b, _, _, rfl, rfl, .inr ⟨ha.sq, hb.sq⟩, rfl, by rw [List.length_map]; exact hl, fun i u v hu hv => ?_⟩
  rw [hu] at hv
  cases hv
  rw [List.getElem?_map] at hu
  cases e : ns[i]? with
  | none => rw [e] at hu; cases hu
  | some z => rw [e] at hu; cases hu; exact alk_int rfl
theorem str_few : ∀ j, j < 9 → (((toString ((j : Nat) : Int)) : String) : Str).length ≤ 69 ∧ ∀ c ∈ (((toString ((j : Nat) : Int)) : String) : Str).cps.toList, c < 16 ^ 8 := by decide +kernel
theorem wf_index {d : PyData} (h : Wf 2 2 d) : Wf 2 3 (.list [.str "index", d]) := by
  refine .inr (.inr ⟨_, .inl rfl, by show 2 ≤ 2; decide, fun e he => ?_⟩)
  rcases List.mem_cons.mp he with rfl | he
  · exact .inl ⟨by decide +kernel, by decide +kernel⟩
  · rw [List.mem_singleton] at he
    subst he
    exact h
section
variable {P : Program} {w : World} {K : PySem.W.Frag} {mg : Str → Option Value} {base : Heap}
theorem ok_law {f fDk fN fL fO fS fI fA fAl fR fW C : Addr} {fd dDk dN dL dO dS dI dA dAl dR dW : FuncData} (F : Fun K "law" "law" sLaw f fd)
    (kDk : PySem.W.keepIn K (.ref fDk) = true) (bDk : Binds K dDk ["_law_script"] []) (gDk : mg "_law_deck" = some (.ref fDk)) (GDk : FnOk P w K mg base CX0 5 fDk dDk ["_law_script"] (spDeck K))
    (kN : PySem.W.keepIn K (.ref fN) = true) (bN : Binds K dN ["_law_deck_here", "_law_many"] []) (gN : mg "_law_next" = some (.ref fN)) (GN : FnOk P w K mg base CX0 5 fN dN ["_law_deck_here", "_law_many"] spNext)
    (kL : PySem.W.keepIn K (.ref fL) = true) (bL : Binds K dL ["_law_deck_here", "_law_dishes"] []) (gL : mg "_law_list" = some (.ref fL)) (GL : FnOk P w K mg base CX0 5 fL dL ["_law_deck_here", "_law_dishes"] spList)
    (kO : PySem.W.keepIn K (.ref fO) = true) (bO : Binds K dO ["_law_deck_here"] []) (gO : mg "_law_odd" = some (.ref fO)) (GO : FnOk P w K mg base CX0 5 fO dO ["_law_deck_here"] spOdd)
    (kS : PySem.W.keepIn K (.ref fS) = true) (bS : Binds K dS ["_law_found", "_law_due"] []) (gS : mg "_law_same" = some (.ref fS)) (GS : FnOk P w K mg base CX0 5 fS dS ["_law_found", "_law_due"] (spSame K 5))
    (kI : PySem.W.keepIn K (.ref fI) = true) (bI : Binds K dI ["ranking"] []) (gI : mg "ranking_index" = some (.ref fI)) (GI : FnOk P w K mg base CX0 5 fI dI ["ranking"] spRkIdx)
    (kA : PySem.W.keepIn K (.ref fA) = true) (bA : Binds K dA ["dishes", "index"] []) (gA : mg "ranking_at" = some (.ref fA)) (GA : FnOk P w K mg base (L2.CX P w) 5 fA dA ["dishes", "index"] (spRkAt C))
    (kAl : PySem.W.keepIn K (.ref fAl) = true) (bAl : Binds K dAl ["_law_dishes"] []) (gAl : mg "_law_all" = some (.ref fAl)) (GAl : FnOk P w K mg base CX0 5 fAl dAl ["_law_dishes"] spAll)
    (kR : PySem.W.keepIn K (.ref fR) = true) (bR : Binds K dR ["_law_dishes", "_law_thing"] []) (gR : mg "_law_raised" = some (.ref fR)) (GR : FnOk P w K mg base CX0 5 fR dR ["_law_dishes", "_law_thing"] spRaised)
    (kW : PySem.W.keepIn K (.ref fW) = true) (bW : Binds K dW ["_law_thing"] []) (gW : mg "_law_whole" = some (.ref fW)) (GW : FnOk P w K mg base CX0 5 fW dW ["_law_thing"] spWhole)
    (mr : mg "range" = none) (mlen : mg "len" = none) (ms : mg "str" = none) (mrp : mg "repr" = none) (me : mg "enumerate" = none) : RunG P w K mg base 6 f fd ["_law_script"] (spLaw K) := by
  refine okG F scLaw (fun vs H Q E h => ?_) (fun cdv A outer s H vs Q E hg hr h => ?_)
  · obtain ⟨a, ns, rfl, _⟩ := h
    rfl
  · obtain ⟨a, ns, rfl, hS, hlen, qq⟩ := h
    refine ⟨_, pss_cons (ps_set (i := 1) scLaw.nd rfl (.inl rfl) (pe_call GDk hr (by rfl) gDk kDk bDk .nil pass0 (pa_cons (pv 0) pa_nil)))
      (pss_cons (ps_set (i := 2) scLaw.nd rfl (.inl rfl) (pe_op op_add pe_int (pe_call GN hr (by rfl) gN kN bN .nil pass0 (pa_cons (pv 1) (pa_cons pe_int pa_nil)))))
      (pss_cons (ps_set (i := 3) scLaw.nd rfl (.inl rfl) (pe_call GAl hr (by rfl) gAl kAl bAl .nil pass0 (pa_cons (pv 2) pa_nil)))
      (pss_cons (ps_for PassesOwn.never rfl (pi_enum (by rfl) me (pa_cons (pv 3) pa_nil)) (pg_tup (by rfl) (pgs_cons (pg_name (i := 4) scLaw.nd rfl (.inl rfl)) (pgs_cons (pg_name (i := 5) scLaw.nd rfl (.inl rfl)) pgs_nil)))
        (pss_one (ps_if (pt_not (pt_val (pe_call GS hr (by rfl) gS kS bS .nil pass0 (pa_cons (pe_lstN (pa_cons (pe_call GI hr (by rfl) gI kI bI .nil pass0 (pa_cons (pv 5) pa_nil)) (pa_cons (pe_call GA hr (by rfl) gA kA bA .nil passL (pa_cons (pv 2) (pa_cons (pv 4) pa_nil))) pa_nil))) (pa_cons (pe_lstN (pa_cons (pv 4) (pa_cons (pv 5) pa_nil))) pa_nil))))) (pss_one (ps_ret pe_bl)) pss_nil)))
      (pss_cons (ps_for PassesOwn.never rfl (pi_list (pe_lstN (pa_cons (pe_callB call_len_seq (by rfl) mlen PySem.boot_len (pa_cons (pv 3) pa_nil)) (pa_cons (pe_un un_neg pe_int) (pa_cons (pe_call GO hr (by rfl) gO kO bO .nil pass0 (pa_cons (pv 1) pa_nil)) (pa_cons (pe_call GO hr (by rfl) gO kO bO .nil pass0 (pa_cons (pv 1) pa_nil))
            (pa_cons (pe_callTy call_str_ib (by rfl) ms (by decide +kernel) (pa_cons (pe_call GN hr (by rfl) gN kN bN .nil pass0 (pa_cons (pv 1) (pa_cons pe_int pa_nil))) pa_nil)) pa_nil))))))) (pg_name (i := 6) scLaw.nd rfl (.inl rfl))
        (pss_one (ps_if (PW.pt (pw_or (pt_not (pt_val (pe_call GW hr (by rfl) gW kW bW .nil pass0 (pa_cons (pv 6) pa_nil)))) (pw_or1 (pt_not (pt_chain op_le op_lt pe_int (pv 6) (pe_callB call_len_seq (by rfl) mlen PySem.boot_len (pa_cons (pv 3) pa_nil)))))))
          (pss_one (ps_if (pt_cmpR op_ne (pe_callB (call_reprD hg hr.units) (by rfl) mrp (by decide +kernel) (pa_cons (pe_call GR hr (by rfl) gR kR bR .nil pass0 (pa_cons (pv 2) (pa_cons (pv 6) pa_nil))) pa_nil)) (pe_callB (call_reprD hg hr.units) (by rfl) mrp (by decide +kernel) (pa_cons (pe_lstN (pa_cons pe_str (pa_cons (pv 6) pa_nil))) pa_nil)) (nomark _)) (pss_one (ps_ret pe_bl)) pss_nil)) pss_nil)))
      (pss_cons (ps_for PassesOwn.never rfl (pi_range1 (by rfl) mr (pa_cons pe_int pa_nil)) (pg_name (i := 7) scLaw.nd rfl (.inl rfl))
        (pss_cons (ps_set (i := 2) scLaw.nd rfl (.inl rfl) (pe_op op_add pe_int (pe_call GN hr (by rfl) gN kN bN .nil pass0 (pa_cons (pv 1) (pa_cons pe_int pa_nil)))))
        (pss_cons (ps_par (i := 8) (j := 9) (by rfl) scLaw.nd rfl rfl (by decide) rfl rfl (pa_cons (pe_call GL hr (by rfl) gL kL bL .nil pass0 (pa_cons (pv 1) (pa_cons (pv 2) pa_nil))) (pa_cons (pe_call GL hr (by rfl) gL kL bL .nil pass0 (pa_cons (pv 1) (pa_cons (pv 2) pa_nil))) pa_nil)) (by rfl))
        (pss_cons (ps_par (i := 10) (j := 11) (by rfl) scLaw.nd rfl rfl (by decide) rfl rfl (pa_cons (pe_call GI hr (by rfl) gI kI bI .nil pass0 (pa_cons (pv 8) pa_nil)) (pa_cons (pe_call GI hr (by rfl) gI kI bI .nil pass0 (pa_cons (pv 9) pa_nil)) pa_nil)) (by rfl))
        (pss_cons (ps_if (pt_not (pt_val (pe_call GS hr (by rfl) gS kS bS .nil pass0 (pa_cons (pe_lstN (pa_cons (pe_call GA hr (by rfl) gA kA bA .nil passL (pa_cons (pv 2) (pa_cons (pv 10) pa_nil))) (pa_cons (pe_call GA hr (by rfl) gA kA bA .nil passL (pa_cons (pv 2) (pa_cons (pv 11) pa_nil))) pa_nil))) (pa_cons (pe_lstN (pa_cons (pv 8) (pa_cons (pv 9) pa_nil))) pa_nil))))) (pss_one (ps_ret pe_bl)) pss_nil)
        (pss_one (ps_if (pt_cmpR op_ne (pe_cmpR op_lt (pv 10) (pv 11) (nomark _)) (pe_cmpR (op_ltT hr.units0) (pv 8) (pv 9) (nomark _)) (nomark _)) (pss_one (ps_ret pe_bl)) pss_nil)))))))
      (pss_one (ps_ret pe_bl))))))), ?_⟩
    refine ⟨.ref a, rfl, a, ns, rfl, hS, hlen, fun H1 d p q s1 D1 => ?_⟩
    refine ⟨.ref d, rfl, d, p, q, 0, 5, rfl, D1, by omega, by decide, by decide, fun H2 r r0 r1 D2 k2 => ?_⟩
    obtain ⟨j, rfl⟩ := Int.eq_ofNat_of_zero_le r0
    refine ⟨1, (j : Int), rfl, rfl, ?_⟩
    have en : (1 : Int) + (j : Int) = ((1 + j : Nat) : Int) := by omega
    have hn : 1 + j < 6 := by omega
    have hn1 : 1 ≤ 1 + j := by omega
    show tSeq _ _ _ (List.set _ 2 (some (V.int (1 + (j : Int))))) H2
    rw [en]
    generalize 1 + j = n at hn hn1 ⊢
    refine ⟨.int (n : Int), rfl, n, rfl, hn, fun H3 l xs s3 hl e3 r3 => ?_⟩
    have hxl : xs.length = fct n := by rw [r3.len, all_count hn]
    have D3 := D2.same s3
    refine ⟨.ref l, rfl, l, _, rfl, sqL e3, ?_⟩
    refine for_it (enum_walkL (K := K) (a := l) (xs := xs)) (fun i σ H4 => (∃ y4 y5, σ = [some (.ref a), some (.ref d), some (.int (n : Int)), some (.ref l), y4, y5, none, none, none, none, none, none]) ∧ Same H3 H4)
      ⟨⟨none, none, rfl⟩, Same.refl _⟩ (fun i σ H4 _ h => h.2.seq (sqL e3)) (fun i x σ H4 H5 hi h y => ?_) (fun σ H4 h => ?_)
    · obtain ⟨⟨y4, y5, rfl⟩, s4⟩ := h
      obtain ⟨T, u, v, rfl, hT, rfl, hu, hv⟩ := y
      cases hu
      replace hv : xs[i]? = some v := hv
      obtain ⟨ra, row, rfl, hrow, tr⟩ := r3.get hv
      obtain ⟨hidx, hrk, hif⟩ := all_at hn hrow
      have s5 : Same H3 (upd H4 T (.tup [.int (i : Int), .ref ra])) := s4.trans (same_upd hT)
      refine ⟨T, _, rfl, sqT upd_same, rfl, _, _, rfl, _, _, rfl, rfl, ?_⟩
      generalize upd H4 T (.tup [.int (i : Int), .ref ra]) = H5 at s5 ⊢
      refine ⟨.ref ra, rfl, ra, row, rfl, tr.same s5, by rw [hrk.len]; omega, fun H6 s6 => ?_⟩
      refine ⟨.int (n : Int), rfl, .int (i : Int), rfl, n, .int (i : Int), .int (i : Int), [], rfl, hn1, by omega, rfl, fun m hm _ H7 t s7 t7 => ?_, fun hbad => absurd hif (hbad i rfl)⟩
      have em : m = i := by
        injection hm with hm
        omega
      subst em
      rw [← hidx, hrk.at] at t7
      refine ⟨by show 2 ≤ sizeLine; decide, fun g1 H8 _ _ s8 e8 => ?_⟩
      refine ⟨_, rfl, _, rfl, by show 2 ≤ sizeLine; decide, fun g2 H9 _ _ s9 e9 => ?_⟩
      refine ⟨_, _, rfl, alk_two (s9 _ _ e8) e9 (alk_int (m := 3) (by rw [hidx])) (alk_tq (m := 2) ((t7.tq.same s8).same s9) (tr.same (s5.trans (s6.trans (s7.trans (s8.trans s9))))) (by rw [hrk.len]; omega)), fun Ha sa => ⟨_, rfl, iteF ?_⟩⟩
      exact ⟨⟨_, _, rfl⟩, s5.trans (s6.trans (s7.trans (s8.trans (s9.trans sa))))⟩
    · obtain ⟨⟨y4, y5, rfl⟩, s4⟩ := h
      have D4 := D3.same s4
      have el4 := s4 _ _ e3
      have nld : l ≠ d := D2.ned hl
      have nlp : l ≠ p := D2.nep hl
      refine ⟨.ref l, rfl, l, _, rfl, .inl (sqL el4), 1, rfl, .ref d, rfl, d, p, q, 0 + 1, rfl, D4, by omega, fun H5 x1 d1 D5 k5 rp1 wf1 => ?_⟩
      refine ⟨.ref d, rfl, d, p, q, 0 + 1 + 1, rfl, D5, by omega, fun H6 x2 d2 D6 k6 rp2 wf2 => ?_⟩
      refine ⟨.ref d, rfl, d, p, q, 0 + 1 + 1 + 1, 9, rfl, D6, by omega, by decide, by decide, fun H7 r r0 r1 D7 k7 => ?_⟩
      obtain ⟨j, rfl⟩ := Int.eq_ofNat_of_zero_le r0
      have hj : j < 9 := by omega
      have el7 := k7 _ _ (k6 _ _ (k5 _ _ el4 nld nlp) nld nlp) nld nlp
      have rp1' := (rp1.keep D5 k6 (by simp) (by simp)).keep D6 k7 (by simp) (by simp)
      have rp2' := rp2.keep D6 k7 (by simp) (by simp)
      refine .inl ⟨(j : Int), rfl, small_log (by rw [Int.natAbs_natCast]; exact Nat.lt_trans hj (by decide)), by show 5 ≤ sizeLine; decide, fun g H8 hg8 ng s8 e8 => ?_⟩
      have el8 := s8 _ _ el7
      have D8 := D7.same s8
      have all : RpAll H8 [d, p, sysModules] [.int (xs.length : Int), .int (-1), d1, d2, .str (((toString ((j : Nat) : Int)) : String) : Str)] _ := ⟨_, _, rfl, rfl, _, _, rfl, rfl, x1, _, rfl, rp1'.same s8, x2, _, rfl, rp2'.same s8, _, _, rfl, rfl, rfl⟩
      have hwf : ∀ dd ∈ [PyData.int (xs.length : Int), .int (-1), d1, d2, .str (((toString ((j : Nat) : Int)) : String) : Str)], Wf 2 2 dd := by
        refine List.forall_mem_cons.mpr ⟨.inl ?_, List.forall_mem_cons.mpr ⟨.inl (by show _ ≤ 10 ^ 59 + 2; decide +kernel), List.forall_mem_cons.mpr ⟨wf1, List.forall_mem_cons.mpr ⟨wf2, List.forall_mem_cons.mpr ⟨.inl (str_few j hj), fun _ h => absurd h (by simp)⟩⟩⟩⟩⟩
        show ((xs.length : Int)).natAbs ≤ 10 ^ 59 + 2
        have := fct_le n (by omega)
        omega
      generalize [PyData.int (xs.length : Int), .int (-1), d1, d2, .str (((toString ((j : Nat) : Int)) : String) : Str)] = ds at all hwf
      refine ⟨g, rfl, ⟨_, sqL e8⟩, ?_⟩
      refine for_list (K := K) (a := g) (fun i σ H9 => (∃ y4 y5 y6, σ = [some (.ref a), some (.ref d), some (.int (n : Int)), some (.ref l), y4, y5, y6, none, none, none, none, none]) ∧ Same H8 H9) ⟨⟨_, _, _, rfl⟩, Same.refl _⟩ (fun i σ H9 _ h => h.2.seq (sqL e8)) (fun i x σ H9 hx h => ?_) (fun σ H9 h => ?_)
      · obtain ⟨⟨y4, y5, y6, rfl⟩, s9⟩ := h
        obtain ⟨dd, hdd, rp⟩ := all.get hx
        have wf := hwf dd (List.mem_of_getElem? hdd)
        have rp9 := rp.same s9
        have el9 := s9 _ _ el8
        have D9 := D8.same s9
        have w3 := wf_index wf
        obtain ⟨q1, q2, q3⟩ := w3.shown (by decide)
        have q4 : (PyData.list [.str "index", dd]).shown.length ≤ sizeLine := Nat.le_trans q1 (bnd_small (by decide))
        refine ⟨x, rfl, x, dd, _, rfl, rp9, _, rfl, ?_⟩
        cases e : whole dd with
        | false =>
          refine iteT ?_
          have hno : ∀ i : Nat, dd = .int (i : Int) → ¬ i < fct n := fun i h => by
            rw [h] at e
            simp [whole, tyD] at e
          refine ⟨.int (n : Int), rfl, x, rfl, n, x, dd, _, rfl, hn1, by omega, rp9, hno, fun Ha l1 sa hl1 nl1 ea => ?_⟩
          refine ⟨.ref l1, .list [.str "index", dd], [d, p, sysModules], rfl, by simp, ⟨l1, _, rfl, ea, by simp only [List.mem_cons, List.not_mem_nil, or_false, not_or]; exact ⟨D9.ned hl1, D9.nep hl1, nl1⟩, .str "index", _, rfl, rfl, x, [], rfl, rp9.same sa, rfl⟩, q2, by omega, q4, ?_⟩
          refine ⟨x, rfl, by show 2 ≤ sizeLine; decide, fun l2 Hb hl2 nl2 sb eb => ?_⟩
          have Da := D9.same sa
          refine ⟨.ref l2, .list [.str "index", dd], [d, p, sysModules], rfl, by simp, ⟨l2, _, rfl, eb, by simp only [List.mem_cons, List.not_mem_nil, or_false, not_or]; exact ⟨Da.ned hl2, Da.nep hl2, nl2⟩, .str "index", _, rfl, rfl, x, [], rfl, (rp9.same sa).same sb, rfl⟩, q2, by omega, q4, rfl, _, rfl, ?_⟩
          exact iteNS rfl ⟨⟨_, _, _, rfl⟩, s9.trans (sa.trans sb)⟩
        | true =>
          refine iteF ?_
          obtain ⟨i0, rfl⟩ := whole_int e
          have ex : x = .int i0 := rp9
          subst ex
          refine ⟨.int i0, rfl, 0, i0, rfl, rfl, _, rfl, ?_⟩
          show if decide ((0 : Int) ≤ i0) = true then _ else _
          by_cases c : (0 : Int) ≤ i0
          · rw [decide_eq_true c]
            refine iteT ⟨.ref l, rfl, l, _, rfl, .inl (sqL el9), _, _, rfl, rfl, _, rfl, ?_⟩
            show if (!decide (i0 < (xs.length : Int))) = true then _ else _
            by_cases c2 : i0 < (xs.length : Int)
            · exact iteNS c2 ⟨⟨_, _, _, rfl⟩, s9⟩
            · rw [decide_eq_false c2]
              refine iteT ?_
              have hno : ∀ i : Nat, PyData.int i0 = .int (i : Int) → ¬ i < fct n := fun i h => by
                injection h with h
                omega
              refine ⟨.int (n : Int), rfl, (.int i0), rfl, n, (.int i0), (.int i0), _, rfl, hn1, by omega, rp9, hno, fun Ha l1 sa hl1 nl1 ea => ?_⟩
              refine ⟨.ref l1, .list [.str "index", (.int i0)], [d, p, sysModules], rfl, by simp, ⟨l1, _, rfl, ea, by simp only [List.mem_cons, List.not_mem_nil, or_false, not_or]; exact ⟨D9.ned hl1, D9.nep hl1, nl1⟩, .str "index", _, rfl, rfl, (.int i0), [], rfl, rp9.same sa, rfl⟩, q2, by omega, q4, ?_⟩
              refine ⟨(.int i0), rfl, by show 2 ≤ sizeLine; decide, fun l2 Hb hl2 nl2 sb eb => ?_⟩
              have Da := D9.same sa
              refine ⟨.ref l2, .list [.str "index", (.int i0)], [d, p, sysModules], rfl, by simp, ⟨l2, _, rfl, eb, by simp only [List.mem_cons, List.not_mem_nil, or_false, not_or]; exact ⟨Da.ned hl2, Da.nep hl2, nl2⟩, .str "index", _, rfl, rfl, (.int i0), [], rfl, (rp9.same sa).same sb, rfl⟩, q2, by omega, q4, rfl, _, rfl, ?_⟩
              exact iteNS rfl ⟨⟨_, _, _, rfl⟩, s9.trans (sa.trans sb)⟩
          · rw [decide_eq_false c]
            refine iteF ⟨_, rfl, iteT ?_⟩
            have hno : ∀ i : Nat, PyData.int i0 = .int (i : Int) → ¬ i < fct n := fun i h => by
              injection h with h
              omega
            refine ⟨.int (n : Int), rfl, (.int i0), rfl, n, (.int i0), (.int i0), _, rfl, hn1, by omega, rp9, hno, fun Ha l1 sa hl1 nl1 ea => ?_⟩
            refine ⟨.ref l1, .list [.str "index", (.int i0)], [d, p, sysModules], rfl, by simp, ⟨l1, _, rfl, ea, by simp only [List.mem_cons, List.not_mem_nil, or_false, not_or]; exact ⟨D9.ned hl1, D9.nep hl1, nl1⟩, .str "index", _, rfl, rfl, (.int i0), [], rfl, rp9.same sa, rfl⟩, q2, by omega, q4, ?_⟩
            refine ⟨(.int i0), rfl, by show 2 ≤ sizeLine; decide, fun l2 Hb hl2 nl2 sb eb => ?_⟩
            have Da := D9.same sa
            refine ⟨.ref l2, .list [.str "index", (.int i0)], [d, p, sysModules], rfl, by simp, ⟨l2, _, rfl, eb, by simp only [List.mem_cons, List.not_mem_nil, or_false, not_or]; exact ⟨Da.ned hl2, Da.nep hl2, nl2⟩, .str "index", _, rfl, rfl, (.int i0), [], rfl, (rp9.same sa).same sb, rfl⟩, q2, by omega, q4, rfl, _, rfl, ?_⟩
            exact iteNS rfl ⟨⟨_, _, _, rfl⟩, s9.trans (sa.trans sb)⟩
      · obtain ⟨⟨y4, y5, y6, rfl⟩, s9⟩ := h
        refine ⟨12, rfl, by decide, by decide, for_range (n := 12) (lo := 0) (fun i σ Ha => (∃ y2 y3 y4 y5 y6 y7 y8 y9 y10 y11, σ = [some (.ref a), some (.ref d), y2, y3, y4, y5, y6, y7, y8, y9, y10, y11]) ∧ Deck Ha d p q (4 + 17 * i)) ⟨⟨_, _, _, _, _, _, _, _, _, _, rfl⟩, D8.same s9⟩ (fun i σ Ha hi h => ?_) (fun σ Ha h => qq Ha)⟩
        obtain ⟨⟨y2, y3, y4, y5, y6, y7, y8, y9, y10, y11, rfl⟩, Da⟩ := h
        clear all hwf rp1 rp2 rp1' rp2' el4 el7 el8 r3 e3 hxl e8
        refine ⟨.ref d, rfl, d, p, q, 4 + 17 * i, 8, rfl, Da, by omega, by decide, by decide, fun Hb r r0 r1 Db kb => ?_⟩
        obtain ⟨j2, rfl⟩ := Int.eq_ofNat_of_zero_le r0
        refine ⟨1, (j2 : Int), rfl, rfl, ?_⟩
        have en : (1 : Int) + (j2 : Int) = ((1 + j2 : Nat) : Int) := by omega
        have hn' : 1 + j2 ≤ 8 := by omega
        have hn1' : 1 ≤ 1 + j2 := by omega
        show tSeq _ _ _ (List.set _ 2 (some (V.int (1 + (j2 : Int))))) Hb
        rw [en]
        generalize 1 + j2 = m at hn' hn1' ⊢
        refine ⟨.ref d, rfl, .int (m : Int), rfl, d, p, q, 4 + 17 * i + 1, m, rfl, Db, by omega, hn', fun Hc t1 r1 hr1 Dc kc u1 => ?_⟩
        refine ⟨.ref d, rfl, .int (m : Int), rfl, d, p, q, 4 + 17 * i + 1 + m, m, rfl, Dc, by omega, hn', fun Hd t2 r2 hr2 Dd kd u2 => ?_⟩
        refine ⟨_, _, rfl, ?_⟩
        have u1d := u1.keep Dc kd
        refine ⟨.ref t1, rfl, t1, r1, rfl, u1d.tq, by rw [hr1.len]; exact hn', fun He se => ?_⟩
        refine ⟨.ref t2, rfl, t2, r2, rfl, (u2.same se).tq, by rw [hr2.len]; exact hn', fun Hf sf => ?_⟩
        refine ⟨_, _, rfl, ?_⟩
        have sdf := se.trans sf
        have b1 := idx_lt r1
        have b2 := idx_lt r2
        rw [hr1.len] at b1
        rw [hr2.len] at b2
        refine ⟨.int (m : Int), rfl, .int (idxR r1 : Nat), rfl, m, .int (idxR r1 : Nat), .int (idxR r1 : Nat), [], rfl, hn1', hn', rfl, fun v hv _ Hg v1 sg w1 => ?_, fun hbad => absurd b1 (hbad _ rfl)⟩
        have ev : v = idxR r1 := by
          injection hv with hv
          omega
        subst ev
        rw [hr1.at] at w1
        refine ⟨.int (m : Int), rfl, .int (idxR r2 : Nat), rfl, m, .int (idxR r2 : Nat), .int (idxR r2 : Nat), [], rfl, hn1', hn', rfl, fun v hv _ Hh v2 sh w2 => ?_, fun hbad => absurd b2 (hbad _ rfl)⟩
        have ev : v = idxR r2 := by
          injection hv with hv
          omega
        subst ev
        rw [hr2.at] at w2
        refine ⟨by show 2 ≤ sizeLine; decide, fun g1 Hi _ _ si ei => ?_⟩
        refine ⟨_, rfl, _, rfl, by show 2 ≤ sizeLine; decide, fun g2 Hj _ _ sj ej => ?_⟩
        have sdj := sdf.trans (sg.trans (sh.trans (si.trans sj)))
        refine ⟨_, _, rfl, alk_two (sj _ _ ei) ej (alk_tq (m := 2) (w1.same (sh.trans (si.trans sj))).tq (u1d.same sdj).tq (by rw [hr1.len]; omega)) (alk_tq (m := 2) (w2.same (si.trans sj)).tq (u2.same sdj).tq (by rw [hr2.len]; omega)), fun Hk sk => ⟨_, rfl, iteF ?_⟩⟩
        have sdk := sdj.trans sk
        refine ⟨_, rfl, _, rfl, _, _, rfl, rfl, .ref t1, rfl, .ref t2, rfl, t1, t2, r1, r2, rfl, rfl, (u1d.same sdk).sq, (u2.same sdk).sq, rfl, _, rfl, ?_⟩
        refine iteNS ?_ ?_
        · rw [idx_lex (hr1.trans hr2.symm)]
          show V.bl (decide (((idxR r1 : Nat) : Int) < ((idxR r2 : Nat) : Int))) = V.bl (decide (idxR r1 < idxR r2))
          rw [decide_eq_decide.mpr (show (((idxR r1 : Nat) : Int) < ((idxR r2 : Nat) : Int)) ↔ idxR r1 < idxR r2 by omega)]
        · exact ⟨⟨_, _, _, _, _, _, _, _, _, _, rfl⟩, (Dd.same sdk).mono (by omega)⟩
end
end TR
namespace TR
open PySem PySem.Spec PyProof.Rows L2
theorem all_mk {l : PySem.W.OpenLaw} {w : World} {K : PySem.W.Frag} {h : Heap} {mg : Str → Option Value} {fa f0 f1 f2 f3 f4 f5 f6 f7 f8 f9 f10 f11 f12 f13 : Addr} (X : K.In h) (G : h.Ns mainGlobals mg) (hfa : mg "law" = some (.ref fa))
    {od0 an0 od1 an1 od2 an2 od3 an3 od4 an4 od5 an5 od6 an6 od7 an7 od8 an8 od9 an9 od10 an10 od11 an11 od12 an12 od13 an13 : Option Addr} {sl0 sl1 sl2 sl3 sl4 sl5 sl6 sl7 sl8 sl9 sl10 sl11 sl12 sl13 : Array (Option Value)} {oc0 kV0 dc0 pm0 cd0 ct0 oc1 kV1 dc1 pm1 cd1 ct1 oc2 kV2 dc2 pm2 cd2 ct2 oc3 kV3 dc3 pm3 cd3 ct3 oc4 kV4 dc4 pm4 cd4 ct4 oc5 kV5 dc5 pm5 cd5 ct5 oc6 kV6 dc6 pm6 cd6 ct6 oc7 kV7 dc7 pm7 cd7 ct7 oc8 kV8 dc8 pm8 cd8 ct8 oc9 kV9 dc9 pm9 cd9 ct9 oc10 kV10 dc10 pm10 cd10 ct10 oc11 kV11 dc11 pm11 cd11 ct11 oc12 kV12 dc12 pm12 cd12 ct12 oc13 kV13 dc13 pm13 cd13 ct13 : Value}
    (a0 : PySem.W.nsIn K mainGlobals "is_whole" = some (some (.ref f0))) (l0 : K.lookup f0 = some ⟨oc0, od0, .func (PySem.W.fnOf "is_whole" "is_whole" (defArgs sWhole) (defBody sWhole) (defScope sWhole) .none kV0 dc0 pm0 an0 cd0 ct0), sl0⟩) (c0 : PySem.W.codeIn K cd0 "is_whole" = true) (k0 : PySem.W.keepIn K (.ref f0) = true)
    (a1 : PySem.W.nsIn K mainGlobals "is_within" = some (some (.ref f1))) (l1 : K.lookup f1 = some ⟨oc1, od1, .func (PySem.W.fnOf "is_within" "is_within" (defArgs sWithin) (defBody sWithin) (defScope sWithin) .none kV1 dc1 pm1 an1 cd1 ct1), sl1⟩) (c1 : PySem.W.codeIn K cd1 "is_within" = true) (k1 : PySem.W.keepIn K (.ref f1) = true)
    (a2 : PySem.W.nsIn K mainGlobals "count_rankings" = some (some (.ref f2))) (l2 : K.lookup f2 = some ⟨oc2, od2, .func (PySem.W.fnOf "count_rankings" "count_rankings" (defArgs sCount) (defBody sCount) (defScope sCount) .none kV2 dc2 pm2 an2 cd2 ct2), sl2⟩) (c2 : PySem.W.codeIn K cd2 "count_rankings" = true) (k2 : PySem.W.keepIn K (.ref f2) = true)
    (a3 : PySem.W.nsIn K mainGlobals "ranking_index" = some (some (.ref f3))) (l3 : K.lookup f3 = some ⟨oc3, od3, .func (PySem.W.fnOf "ranking_index" "ranking_index" (defArgs sRkIdx) (defBody sRkIdx) (defScope sRkIdx) .none kV3 dc3 pm3 an3 cd3 ct3), sl3⟩) (c3 : PySem.W.codeIn K cd3 "ranking_index" = true) (k3 : PySem.W.keepIn K (.ref f3) = true)
    (a4 : PySem.W.nsIn K mainGlobals "ranking_at" = some (some (.ref f4))) (l4 : K.lookup f4 = some ⟨oc4, od4, .func (PySem.W.fnOf "ranking_at" "ranking_at" (defArgs sRkAt) (defBody sRkAt) (defScope sRkAt) .none kV4 dc4 pm4 an4 cd4 ct4), sl4⟩) (c4 : PySem.W.codeIn K cd4 "ranking_at" = true) (k4 : PySem.W.keepIn K (.ref f4) = true)
    (a5 : PySem.W.nsIn K mainGlobals "_law_deck" = some (some (.ref f5))) (l5 : K.lookup f5 = some ⟨oc5, od5, .func (PySem.W.fnOf "_law_deck" "_law_deck" (defArgs sDeck) (defBody sDeck) (defScope sDeck) .none kV5 dc5 pm5 an5 cd5 ct5), sl5⟩) (c5 : PySem.W.codeIn K cd5 "_law_deck" = true) (k5 : PySem.W.keepIn K (.ref f5) = true)
    (a6 : PySem.W.nsIn K mainGlobals "_law_next" = some (some (.ref f6))) (l6 : K.lookup f6 = some ⟨oc6, od6, .func (PySem.W.fnOf "_law_next" "_law_next" (defArgs sNext) (defBody sNext) (defScope sNext) .none kV6 dc6 pm6 an6 cd6 ct6), sl6⟩) (c6 : PySem.W.codeIn K cd6 "_law_next" = true) (k6 : PySem.W.keepIn K (.ref f6) = true)
    (a7 : PySem.W.nsIn K mainGlobals "_law_same" = some (some (.ref f7))) (l7 : K.lookup f7 = some ⟨oc7, od7, .func (PySem.W.fnOf "_law_same" "_law_same" (defArgs sSame) (defBody sSame) (defScope sSame) .none kV7 dc7 pm7 an7 cd7 ct7), sl7⟩) (c7 : PySem.W.codeIn K cd7 "_law_same" = true) (k7 : PySem.W.keepIn K (.ref f7) = true)
    (a8 : PySem.W.nsIn K mainGlobals "_law_whole" = some (some (.ref f8))) (l8 : K.lookup f8 = some ⟨oc8, od8, .func (PySem.W.fnOf "_law_whole" "_law_whole" (defArgs sLWhole) (defBody sLWhole) (defScope sLWhole) .none kV8 dc8 pm8 an8 cd8 ct8), sl8⟩) (c8 : PySem.W.codeIn K cd8 "_law_whole" = true) (k8 : PySem.W.keepIn K (.ref f8) = true)
    (a9 : PySem.W.nsIn K mainGlobals "_law_odd" = some (some (.ref f9))) (l9 : K.lookup f9 = some ⟨oc9, od9, .func (PySem.W.fnOf "_law_odd" "_law_odd" (defArgs sOdd) (defBody sOdd) (defScope sOdd) .none kV9 dc9 pm9 an9 cd9 ct9), sl9⟩) (c9 : PySem.W.codeIn K cd9 "_law_odd" = true) (k9 : PySem.W.keepIn K (.ref f9) = true)
    (a10 : PySem.W.nsIn K mainGlobals "_law_list" = some (some (.ref f10))) (l10 : K.lookup f10 = some ⟨oc10, od10, .func (PySem.W.fnOf "_law_list" "_law_list" (defArgs sList) (defBody sList) (defScope sList) .none kV10 dc10 pm10 an10 cd10 ct10), sl10⟩) (c10 : PySem.W.codeIn K cd10 "_law_list" = true) (k10 : PySem.W.keepIn K (.ref f10) = true)
    (a11 : PySem.W.nsIn K mainGlobals "_law_all" = some (some (.ref f11))) (l11 : K.lookup f11 = some ⟨oc11, od11, .func (PySem.W.fnOf "_law_all" "_law_all" (defArgs sAll) (defBody sAll) (defScope sAll) .none kV11 dc11 pm11 an11 cd11 ct11), sl11⟩) (c11 : PySem.W.codeIn K cd11 "_law_all" = true) (k11 : PySem.W.keepIn K (.ref f11) = true)
    (a12 : PySem.W.nsIn K mainGlobals "_law_raised" = some (some (.ref f12))) (l12 : K.lookup f12 = some ⟨oc12, od12, .func (PySem.W.fnOf "_law_raised" "_law_raised" (defArgs sRaised) (defBody sRaised) (defScope sRaised) .none kV12 dc12 pm12 an12 cd12 ct12), sl12⟩) (c12 : PySem.W.codeIn K cd12 "_law_raised" = true) (k12 : PySem.W.keepIn K (.ref f12) = true)
    (a13 : PySem.W.nsIn K mainGlobals "law" = some (some (.ref f13))) (l13 : K.lookup f13 = some ⟨oc13, od13, .func (PySem.W.fnOf "law" "law" (defArgs sLaw) (defBody sLaw) (defScope sLaw) .none kV13 dc13 pm13 an13 cd13 ct13), sl13⟩) (c13 : PySem.W.codeIn K cd13 "law" = true) (k13 : PySem.W.keepIn K (.ref f13) = true)
    {cC cI cR cS cB : Addr} {xnm xq : Str} {xN : Addr} {xbs : List Value} {xsn : List Str} {xsub : List Value} {xab : Bool} {xcol : Option Bool} {xdd : Option Addr} {x0 x1 x2 x3 x5 : Option Value} {xod xan : Option Addr} {xsl : Array (Option Value)} {xoc xdc xpm xcd xct : Value}
    (eC : PySem.W.nsIn K mainGlobals "NoIndex" = some (some (.ref cC)))
    (eR : PySem.W.nsIn K mainGlobals "NoRanking" = some (some (.ref cR)))
    (eS : PySem.W.nsIn K mainGlobals "NotSeatable" = some (some (.ref cS)))
    (eB : PySem.W.nsIn K mainGlobals "TasteError" = some (some (.ref cB)))
    (eL : K.lookup cC = some (excClassObj xnm xq cC xN xbs [.ref cB, .type "ValueError", .type "Exception", .type "BaseException", .type "object"] true xsn xsub xab xcol xdd x0 x1 x2 x3 x5 "ValueError.__new__"))
    (e1 : PySem.W.findIn K (.ref cC) "__setattr__" = some (some (.builtin "object.__setattr__")))
    (e2 : PySem.W.findIn K (.ref cC) "__getattribute__" = some (some (.builtin "BaseException.__getattribute__")))
    (e3 : PySem.W.findIn K (.ref cC) "__getattr__" = some none)
    (e4 : PySem.W.findIn K (.ref cC) "index" = some none)
    (e5 : PySem.W.findIn K (.ref cC) "__init__" = some (some (.ref cI)))
    (e6 : PySem.W.typeIn K (.ref cI) = some (.type "function"))
    (e7 : K.lookup cI = some ⟨xoc, xod, .func (PySem.W.fnOf "__init__" "NoIndex.__init__" (PySem.NiX.iA ⟨10, 17, 10, 21⟩ ⟨10, 23, 10, 28⟩) (PySem.NiX.iB ⟨11, 8, 11, 12⟩ ⟨11, 8, 11, 18⟩ ⟨11, 21, 11, 26⟩ ⟨11, 8, 11, 26⟩) PySem.NiX.iS .none .none xdc xpm xan xcd xct), xsl⟩) (e8 : PySem.W.codeIn K xcd "NoIndex.__init__" = true)
    (e9 : PySem.W.keepIn K (.ref cC) = true)
    (ea : PySem.W.subIn K (.ref cC) (.type "BaseException") = some true)
    (eb : PySem.W.typeIn K (.ref cC) = some (.type "type"))
    (ec : PySem.W.hasDictIn K cC = true)
    (ed : PySem.W.subIn K (.ref cC) (.ref cC) = some true)
    (ee : PySem.W.findIn K (.ref cC) "__class__" = some (some (.builtin "object.__class__")))
    (ef : PySem.W.specialIn K (.builtin "object.__class__") "__get__" = some (some (.builtin "getset_descriptor.__get__")))
    (eg : PySem.W.takesIn K (.builtin "object.__class__") = some true)
    (eh : PySem.W.mroIn K cC (.type "object") = some true)
    (ei : PySem.W.subIn K (.ref cB) (.type "BaseException") = some true)
    (ej : PySem.W.hasDictIn K cB = true)
    (ek : PySem.W.typeIn K (.ref cB) = some (.type "type"))
    (el : PySem.W.subIn K (.ref cC) (.ref cB) = some true)
    (em : PySem.W.kitOne K (.ref cC) (.ref cC) = some true)
    (en : PySem.W.kitAny K (.ref cC) [.ref cR, .ref cS] = some false)
    (z0 : PySem.W.nsIn K mainGlobals "abs" = some none) (z1 : PySem.W.nsIn K mainGlobals "len" = some none) (z2 : PySem.W.nsIn K mainGlobals "range" = some none) (z3 : PySem.W.nsIn K mainGlobals "list" = some none) (z4 : PySem.W.nsIn K mainGlobals "tuple" = some none) (z5 : PySem.W.nsIn K mainGlobals "int" = some none) (z6 : PySem.W.nsIn K mainGlobals "isinstance" = some none) (z7 : PySem.W.nsIn K mainGlobals "dict" = some none) (z8 : PySem.W.nsIn K mainGlobals "str" = some none) (z9 : PySem.W.nsIn K mainGlobals "bool" = some none) (z10 : PySem.W.nsIn K mainGlobals "repr" = some none) (z11 : PySem.W.nsIn K mainGlobals "enumerate" = some none) :
    ∃ fd : FuncData, (∀ (s : Shared) (v : Value), BindsTo s fd ⟨[v], []⟩ [("_law_script", v)]) ∧ ∀ base : Heap, K.In base → base.Ns mainGlobals mg → RunG l.prog w K mg base 6 fa fd ["_law_script"] (spLaw K) := by
  have e := hfa.symm.trans (PySem.W.mg_of X G a13)
  cases e
  have F0 := fun_mk (st := sWhole) l0 c0 k0
  have F1 := fun_mk (st := sWithin) l1 c1 k1
  have F2 := fun_mk (st := sCount) l2 c2 k2
  have F3 := fun_mk (st := sRkIdx) l3 c3 k3
  have F4 := fun_mk (st := sRkAt) l4 c4 k4
  have F5 := fun_mk (st := sDeck) l5 c5 k5
  have F6 := fun_mk (st := sNext) l6 c6 k6
  have F7 := fun_mk (st := sSame) l7 c7 k7
  have F8 := fun_mk (st := sLWhole) l8 c8 k8
  have F9 := fun_mk (st := sOdd) l9 c9 k9
  have F10 := fun_mk (st := sList) l10 c10 k10
  have F11 := fun_mk (st := sAll) l11 c11 k11
  have F12 := fun_mk (st := sRaised) l12 c12 k12
  have F13 := fun_mk (st := sLaw) l13 c13 k13
  have b0 := F0.binds (ps := ["value"]) fun _ _ _ _ _ _ us hl => match us, hl with | [_], _ => rfl
  have b1 := F1.binds (ps := ["value", "low", "high"]) fun _ _ _ _ _ _ us hl => match us, hl with | [_, _, _], _ => rfl
  have b2 := F2.binds (ps := ["dishes"]) fun _ _ _ _ _ _ us hl => match us, hl with | [_], _ => rfl
  have b3 := F3.binds (ps := ["ranking"]) fun _ _ _ _ _ _ us hl => match us, hl with | [_], _ => rfl
  have b4 := F4.binds (ps := ["dishes", "index"]) fun _ _ _ _ _ _ us hl => match us, hl with | [_, _], _ => rfl
  have b5 := F5.binds (ps := ["_law_script"]) fun _ _ _ _ _ _ us hl => match us, hl with | [_], _ => rfl
  have b6 := F6.binds (ps := ["_law_deck_here", "_law_many"]) fun _ _ _ _ _ _ us hl => match us, hl with | [_, _], _ => rfl
  have b7 := F7.binds (ps := ["_law_found", "_law_due"]) fun _ _ _ _ _ _ us hl => match us, hl with | [_, _], _ => rfl
  have b8 := F8.binds (ps := ["_law_thing"]) fun _ _ _ _ _ _ us hl => match us, hl with | [_], _ => rfl
  have b9 := F9.binds (ps := ["_law_deck_here"]) fun _ _ _ _ _ _ us hl => match us, hl with | [_], _ => rfl
  have b10 := F10.binds (ps := ["_law_deck_here", "_law_dishes"]) fun _ _ _ _ _ _ us hl => match us, hl with | [_, _], _ => rfl
  have b11 := F11.binds (ps := ["_law_dishes"]) fun _ _ _ _ _ _ us hl => match us, hl with | [_], _ => rfl
  have b12 := F12.binds (ps := ["_law_dishes", "_law_thing"]) fun _ _ _ _ _ _ us hl => match us, hl with | [_, _], _ => rfl
  have g0 := PySem.W.mg_of X G a0
  have g1 := PySem.W.mg_of X G a1
  have g2 := PySem.W.mg_of X G a2
  have g3 := PySem.W.mg_of X G a3
  have g4 := PySem.W.mg_of X G a4
  have g5 := PySem.W.mg_of X G a5
  have g6 := PySem.W.mg_of X G a6
  have g7 := PySem.W.mg_of X G a7
  have g8 := PySem.W.mg_of X G a8
  have g9 := PySem.W.mg_of X G a9
  have g10 := PySem.W.mg_of X G a10
  have g11 := PySem.W.mg_of X G a11
  have g12 := PySem.W.mg_of X G a12
  have g13 := PySem.W.mg_of X G a13
  have m_abs := PySem.W.mg_none_of X G z0
  have m_len := PySem.W.mg_none_of X G z1
  have m_range := PySem.W.mg_none_of X G z2
  have m_list := PySem.W.mg_none_of X G z3
  have m_tuple := PySem.W.mg_none_of X G z4
  have m_int := PySem.W.mg_none_of X G z5
  have m_isinstance := PySem.W.mg_none_of X G z6
  have m_dict := PySem.W.mg_none_of X G z7
  have m_str := PySem.W.mg_none_of X G z8
  have m_bool := PySem.W.mg_none_of X G z9
  have m_repr := PySem.W.mg_none_of X G z10
  have m_enumerate := PySem.W.mg_none_of X G z11
  have T : PySem.NiX.NiTxt K mg cC cI :=
    { gC := PySem.W.mg_of X G eC, cls := ⟨xnm, xq, xN, xbs, _, xsn, xsub, xab, xcol, xdd, x0, x1, x2, x3, x5, eL, by first | rfl | decide +kernel⟩, sa := e1, ga := e2, gg := e3, noN := e4, iC := e5, tC := e6, kC := e9, exC := ea, tyC := eb, hdC := ec, te := PySem.W.exm_ref ea ec eb ed,
      fn := ⟨_, _, _, _, _, _, _, _, _, _, _, _, _, _, e7, e8⟩ }
  have U : ErrTxt K mg cC cR cS cB := ⟨⟨e2, e3, ea, ec, ee, ef, eg, eh⟩, PySem.W.mg_of X G eR, PySem.W.mg_of X G eS, PySem.W.mg_of X G eB, em, en, PySem.W.exm_ref ei ej ek el⟩
  refine ⟨PySem.W.fnOf "law" "law" (defArgs sLaw) (defBody sLaw) (defScope sLaw) .none kV13 dc13 pm13 an13 cd13 ct13, fun s v => .of_eq rfl, fun base _ _ => ?_⟩
  have GN : ∀ k, FnOk l.prog w K mg base CX0 (k + 1) f6 _ _ spNext := fun k => ok_next F6 m_len
  have GA : ∀ k, FnOk l.prog w K mg base (L2.CX l.prog w) (k + 3) f4 _ _ (spRkAt cC) := fun k => ok_rkat F4 T k2 b2 g2 (ok_count F2 m_range) k1 b1 g1 (ok_within F1 k0 b0 g0 (ok_whole F0 m_isinstance m_int m_bool)) m_range m_list m_len m_tuple
  exact ok_law F13 k5 b5 g5 (ok_deck F5 m_abs m_len) k6 b6 g6 (GN 4) k10 b10 g10 (ok_list F10 F6 b6 g6 (GN 3) m_range m_list m_len m_tuple)
    k9 b9 g9 (ok_odd F9 k6 b6 g6 (GN 3)) k7 b7 g7 (ok_same F7 b7 g7 m_isinstance m_tuple m_list m_len m_range m_dict m_str m_int m_bool 5)
    k3 b3 g3 (ok_rkidx F3 m_enumerate m_len) k4 b4 g4 (GA 2) k11 b11 g11 (ok_all F11 m_range)
    k12 b12 g12 (ok_raised F12 T U k4 b4 g4 (GA 1) m_isinstance) k8 b8 g8 (ok_lwhole F8 m_isinstance m_int m_bool) m_range m_len m_str m_repr m_enumerate

end TR
open PySem PySem.W PyProof.Rows
set_option maxHeartbeats 0 in
theorem PySem.Challenge.cw_tasterow_k03_rankings_numbered_holds : PySem.Challenge.rw_tasterow_k03_rankings_numbered.Holds := by
  w_on; o_law; k_head; (case hw => w_witness2)
  k_fill
  refine TR.walk_ofG (l := PySem.Challenge.rw_tasterow_k03_rankings_numbered) (n := 63) (k := 6) (x := "_law_script") (sp := fun w => TR.spLaw _) rfl (by decide) rfl ⟨rfl, by decide, by decide⟩ (fun w h Y => PySem.W.kIn_of Y) ?F (fun _ _ a ns hl _ hS => ⟨a, ns, rfl, hS, hl, fun _ => rfl⟩)
  case F =>
    intro w mg fa h KX G hmg
    refine' TR.all_mk KX G hmg ?a0 ?l0 ?c0 ?k0 ?a1 ?l1 ?c1 ?k1 ?a2 ?l2 ?c2 ?k2 ?a3 ?l3 ?c3 ?k3 ?a4 ?l4 ?c4 ?k4 ?a5 ?l5 ?c5 ?k5 ?a6 ?l6 ?c6 ?k6 ?a7 ?l7 ?c7 ?k7 ?a8 ?l8 ?c8 ?k8 ?a9 ?l9 ?c9 ?k9 ?a10 ?l10 ?c10 ?k10 ?a11 ?l11 ?c11 ?k11 ?a12 ?l12 ?c12 ?k12 ?a13 ?l13 ?c13 ?k13 ?eC ?eR ?eS ?eB ?eL ?e1 ?e2 ?e3 ?e4 ?e5 ?e6 ?e7 ?e8 ?e9 ?ea ?eb ?ec ?ed ?ee ?ef ?eg ?eh ?ei ?ej ?ek ?el ?em ?en ?z0 ?z1 ?z2 ?z3 ?z4 ?z5 ?z6 ?z7 ?z8 ?z9 ?z10 ?z11
    (case a0 => k_is); (case l0 => k_is); (case c0 => k_is); (case k0 => k_is); (case a1 => k_is); (case l1 => k_is); (case c1 => k_is); (case k1 => k_is); (case a2 => k_is); (case l2 => k_is); (case c2 => k_is); (case k2 => k_is); (case a3 => k_is); (case l3 => k_is); (case c3 => k_is); (case k3 => k_is); (case a4 => k_is); (case l4 => k_is); (case c4 => k_is); (case k4 => k_is); (case a5 => k_is); (case l5 => k_is); (case c5 => k_is); (case k5 => k_is); (case a6 => k_is); (case l6 => k_is); (case c6 => k_is); (case k6 => k_is); (case a7 => k_is); (case l7 => k_is); (case c7 => k_is); (case k7 => k_is); (case a8 => k_is); (case l8 => k_is); (case c8 => k_is); (case k8 => k_is); (case a9 => k_is); (case l9 => k_is); (case c9 => k_is); (case k9 => k_is); (case a10 => k_is); (case l10 => k_is); (case c10 => k_is); (case k10 => k_is); (case a11 => k_is); (case l11 => k_is); (case c11 => k_is); (case k11 => k_is); (case a12 => k_is); (case l12 => k_is); (case c12 => k_is); (case k12 => k_is); (case a13 => k_is); (case l13 => k_is); (case c13 => k_is); (case k13 => k_is); (case eC => k_is); (case eR => k_is); (case eS => k_is); (case eB => k_is); (case eL => k_is); (case e1 => k_is); (case e2 => k_is); (case e3 => k_is); (case e4 => k_is); (case e5 => k_is); (case e6 => k_is); (case e7 => k_is); (case e8 => k_is); (case e9 => k_is); (case ea => k_is); (case eb => k_is); (case ec => k_is); (case ed => first | rfl | k_is); (case ee => k_is); (case ef => k_is); (case eg => k_is); (case eh => k_is); (case ei => k_is); (case ej => k_is); (case ek => k_is); (case el => k_is); (case em => kit_is); (case en => kit_is); (case z0 => k_is); (case z1 => k_is); (case z2 => k_is); (case z3 => k_is); (case z4 => k_is); (case z5 => k_is); (case z6 => k_is); (case z7 => k_is); (case z8 => k_is); (case z9 => k_is); (case z10 => k_is); (case z11 => k_is)
