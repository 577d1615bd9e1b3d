import PyProof.Rows.All
import Wide.All
import OpenK.AllK
import Wide.FinOn
import PySem.Challenge.RW_tasterow_k60_changes_of_pairs
import HandS.ForMost
import HandS.Conv
import HandS.Strs
import HandS.TupAny
import HandS.Style
import HandS.IsInst
import HandS.EndBits
import HandS.Walk
import HandS.SortInts
import HandS.SortOrd
import HandS.Deep
import HandS.Wide
import HandS.ForExc
import HandS.ExcIs
import HandS.ExcValue
import HandS.HotCalls
import HandS.NoneIn
import HandS.SetFor
import HandS.TupMul
import HandS.NamedTupSort
import HandS.SetKeys
import HandS.Flow
import HandS.Strs
import HandS.Set
import HandS.SetFor
import HandS.Zip
import HandS.TupSets
import KE.GoesEnum
import KE.KExcIs
import KE.RegKIsAll
import KE.DataMinMax
import KE.SortData
import PyProof.Claim2Refuses
import KE.DataFind
import KE.DataMinKey
set_option Elab.async false
set_option linter.all false
set_option maxRecDepth 100000
namespace TR
open PySem PySem.Spec PyProof.Rows L2
/-! ### heaps -/
theorem same_upd {H : Hp} {p : Addr} {o : HO} (h : H p = none) : Same H (upd H p o) := fun b x e => by
  rw [upd_ne (ne_of_none e h)]
  exact e
theorem same_upd2 {H H1 : Hp} {p : Addr} {o : HO} (s : Same H H1) (h : H p = none) : Same H (upd H1 p o) := fun b x e => by
  rw [upd_ne (ne_of_none e h)]
  exact s b x e
theorem same_seqT {K : PySem.W.Frag} {H H' : Hp} {a : Addr} {xs : List V} (e : Same H H') (h : SqT K H a xs) : SqT K H' a xs := by
  rcases h with (h | ⟨o, h⟩) | h
  · exact .inl (.inl (e _ _ h))
  · exact .inl (.inr ⟨o, e _ _ h⟩)
  · exact .inr h
theorem sqL {K : PySem.W.Frag} {H : Hp} {a : Addr} {xs : List V} (h : H a = some (.lst xs)) : SqL K H a xs := .inl (.inl h)
theorem sqT {K : PySem.W.Frag} {H : Hp} {a : Addr} {xs : List V} (h : H a = some (.tup xs)) : SqT K H a xs := .inl (.inl h)
/-- all but the deck's two changing lists is as it was -/
def Keep (d p : Addr) (H H' : Hp) : Prop := ∀ b o, H b = some o → b ≠ d → b ≠ p → H' b = some o
theorem Keep.refl (d p : Addr) (H : Hp) : Keep d p H H := fun _ _ h _ _ => h
theorem Keep.trans {d p : Addr} {H H1 H2 : Hp} (a : Keep d p H H1) (b : Keep d p H1 H2) : Keep d p H H2 := fun c o h n m => b c o (a c o h n m) n m
theorem Same.keep {d p : Addr} {H H1 : Hp} (a : Same H H1) : Keep d p H H1 := fun c o h _ _ => a c o h
theorem keep_upd {d p x : Addr} {H H1 : Hp} {o : HO} (a : Keep d p H H1) (h : x = d ∨ x = p) : Keep d p H (upd H1 x o) := fun c u e n m => by
  rw [upd_ne (by rintro rfl; rcases h with h | h; exact n h; exact m h)]
  exact a c u e n m
/-! ### data -/
theorem dpAll_ints {K : PySem.W.Frag} {H : Hp} : ∀ xs : List Int, DpAll K H (xs.map V.int) (xs.map PyData.int)
  | [] => .nil
  | x :: r => .cons (.int x) (dpAll_ints r)
theorem can_ints : ∀ xs : List Int, PyData.canLayAll0 (xs.map PyData.int) = true
  | [] => rfl
  | x :: r => by
    show (true && PyData.canLayAll0 (r.map PyData.int)) = true
    rw [can_ints r]
    rfl
theorem dep_ints : ∀ xs : List Int, PyData.depthAll (xs.map PyData.int) = 0
  | [] => rfl
  | x :: r => by
    show max 0 (PyData.depthAll (r.map PyData.int)) = 0
    rw [dep_ints r]
    rfl
theorem shaped_ints (xs : List Int) : SeqAt.shaped (.list (xs.map PyData.int)) = true := by
  show (PyData.canLayAll0 (xs.map PyData.int) && decide (PyData.depthAll (xs.map PyData.int) + 1 ≤ 64)) = true
  rw [can_ints, dep_ints]
  rfl
theorem eqv_nil (xs : List Int) : PyData.eqv (.list (xs.map PyData.int)) (.list []) = xs.isEmpty := by
  cases xs with
  | nil => rfl
  | cons x r => rfl
/-! ### the deck -/
structure DeckL (H : Hp) (d p q : Addr) (n : Nat) (m : Nat) : Prop where
  ex : ∃ (xs cs : List Int) (c : Int), H d = some (.lst [.ref p, .ref q, .int c]) ∧ H p = some (.lst (xs.map V.int)) ∧ H q = some (.lst (cs.map V.int)) ∧
    0 ≤ c ∧ c ≤ (n : Int) ∧ cs ≠ [] ∧ xs.length = m
  dp : d ≠ p
  dq : d ≠ q
  pq : p ≠ q
def Deck (H : Hp) (d p q : Addr) (n : Nat) : Prop := ∃ m, DeckL H d p q n m
theorem DeckL.same {H H' : Hp} {d p q : Addr} {n m : Nat} (D : DeckL H d p q n m) (s : Same H H') : DeckL H' d p q n m := by
  obtain ⟨xs, cs, c, h1, h2, h3, h4⟩ := D.ex
  exact ⟨⟨xs, cs, c, s _ _ h1, s _ _ h2, s _ _ h3, h4⟩, D.dp, D.dq, D.pq⟩
theorem Deck.same {H H' : Hp} {d p q : Addr} {n : Nat} (D : Deck H d p q n) (s : Same H H') : Deck H' d p q n := by
  obtain ⟨m, D⟩ := D
  exact ⟨m, D.same s⟩
theorem Deck.mono {H : Hp} {d p q : Addr} {n k : Nat} (D : Deck H d p q n) (h : n ≤ k) : Deck H d p q k := by
  obtain ⟨m, ⟨xs, cs, c, h1, h2, h3, h4, h5, h6⟩, a, b, e⟩ := D
  exact ⟨m, ⟨xs, cs, c, h1, h2, h3, h4, by omega, h6⟩, a, b, e⟩
theorem Deck.hd {H : Hp} {d p q : Addr} {n : Nat} (D : Deck H d p q n) : ∃ a b c, H d = some (.lst [.ref a, .ref b, .int c]) := by
  obtain ⟨m, ⟨xs, cs, c, h1, _⟩, _⟩ := D
  exact ⟨_, _, _, h1⟩
theorem Deck.hp {H : Hp} {d p q : Addr} {n : Nat} (D : Deck H d p q n) : ∃ xs : List Int, H p = some (.lst (xs.map V.int)) := by
  obtain ⟨m, ⟨xs, cs, c, h1, h2, _⟩, _⟩ := D
  exact ⟨_, h2⟩
theorem Deck.ned {H : Hp} {d p q : Addr} {n : Nat} (D : Deck H d p q n) {b : Addr} (h : H b = none) : b ≠ d := by
  obtain ⟨x, y, c, e⟩ := D.hd
  exact (ne_of_none e h).symm
theorem Deck.nep {H : Hp} {d p q : Addr} {n : Nat} (D : Deck H d p q n) {b : Addr} (h : H b = none) : b ≠ p := by
  obtain ⟨x, e⟩ := D.hp
  exact (ne_of_none e h).symm
theorem Deck.tned {H : Hp} {d p q : Addr} {n : Nat} (D : Deck H d p q n) {b : Addr} {xs : List V} (h : H b = some (.tup xs)) : b ≠ d := by
  obtain ⟨x, y, c, e⟩ := D.hd
  exact ne_of h e (by intro z; cases z)
theorem Deck.tnep {H : Hp} {d p q : Addr} {n : Nat} (D : Deck H d p q n) {b : Addr} {xs : List V} (h : H b = some (.tup xs)) : b ≠ p := by
  obtain ⟨x, e⟩ := D.hp
  exact ne_of h e (by intro z; cases z)
/-- a tuple that stands as the very object, without a dict of its own -/
def TF (H : Hp) (a : Addr) (xs : List V) : Prop := ∃ o : Obj, o.dict = none ∧ H a = some (.frz o (.tup xs))
theorem TF.rd {H : Hp} {a : Addr} {xs : List V} (h : TF H a xs) : Rd H a (.tup xs) := by
  obtain ⟨o, _, e⟩ := h
  exact .inr ⟨o, e⟩
theorem TF.same {H H' : Hp} {a : Addr} {xs : List V} (h : TF H a xs) (s : Same H H') : TF H' a xs := by
  obtain ⟨o, d, e⟩ := h
  exact ⟨o, d, s _ _ e⟩
theorem TF.keep {H H' : Hp} {a d p q : Addr} {n : Nat} {xs : List V} (h : TF H a xs) (D : Deck H d p q n) (s : Keep d p H H') : TF H' a xs := by
  obtain ⟨x, y, c, e1⟩ := D.hd
  obtain ⟨zs, e2⟩ := D.hp
  obtain ⟨o, hd, e⟩ := h
  exact ⟨o, hd, s _ _ e (ne_of e e1 (by intro z; cases z)) (ne_of e e2 (by intro z; cases z))⟩
theorem TF.updl {H : Hp} {a D : Addr} {us xs ys : List V} (h : TF H a us) (e : H D = some (.lst xs)) : TF (upd H D (.lst ys)) a us := by
  obtain ⟨o, hd, g⟩ := h
  exact ⟨o, hd, by rw [upd_ne (ne_of g e (by intro z; cases z))]; exact g⟩
theorem TF.new {H : Hp} {a : Addr} {xs : List V} {o : Obj} (h : o.dict = none) : TF (upd H a (.frz o (.tup xs))) a xs := ⟨o, h, upd_same⟩
theorem tf_same {H H' : Hp} {a : Addr} {xs : List V} (s : Same H H') (h : TF H a xs) : TF H' a xs := h.same s
end TR
namespace TR
/-! ### rankings as lists of ints -/
def rng (n : Nat) : List Int := (List.range n).map fun i : Nat => (i : Int)
def Rank (n : Nat) (ns : List Int) : Prop := ns.Perm (rng n)
theorem rng_len (n : Nat) : (rng n).length = n := by
  unfold rng; rw [List.length_map, List.length_range]
theorem mem_rng {n : Nat} {x : Int} : x ∈ rng n ↔ 0 ≤ x ∧ x < (n : Int) := by
  unfold rng
  rw [List.mem_map]
  constructor
  · rintro ⟨i, hi, rfl⟩
    have := List.mem_range.mp hi
    omega
  · rintro ⟨h0, h1⟩
    exact ⟨x.toNat, List.mem_range.mpr (by omega), by omega⟩
theorem rng_nodup (n : Nat) : (rng n).Nodup := by
  unfold rng List.Nodup
  rw [List.pairwise_map]
  exact List.nodup_range.imp (by intro a b h e; exact h (by omega))
theorem Rank.len {n : Nat} {ns : List Int} (h : Rank n ns) : ns.length = n := (List.Perm.length_eq h).trans (rng_len n)
theorem Rank.mem {n : Nat} {ns : List Int} (h : Rank n ns) {x : Int} (h0 : 0 ≤ x) (h1 : x < (n : Int)) : x ∈ ns := (List.Perm.mem_iff h).mpr (mem_rng.mpr ⟨h0, h1⟩)
theorem Rank.bnd {n : Nat} {ns : List Int} (h : Rank n ns) {x : Int} (m : x ∈ ns) : 0 ≤ x ∧ x < (n : Int) := mem_rng.mp ((List.Perm.mem_iff h).mp m)
theorem Rank.nodup {n : Nat} {ns : List Int} (h : Rank n ns) : ns.Nodup := (List.Perm.nodup_iff h).mpr (rng_nodup n)
theorem Rank.rev {n : Nat} {ns : List Int} (h : Rank n ns) : Rank n ns.reverse := (List.reverse_perm ns).trans h
/-! ### preference -/
def pref (ns : List Int) (a b : Int) : Bool := decide (ns.idxOf a < ns.idxOf b)
theorem idx_at {ns : List Int} (nd : ns.Nodup) {i : Nat} {x : Int} (h : ns[i]? = some x) : ns.idxOf x = i := by
  obtain ⟨hi, e⟩ := List.getElem?_eq_some_iff.mp h
  have m : x ∈ ns := e ▸ List.getElem_mem hi
  have hl : ns.idxOf x < ns.length := List.idxOf_lt_length_of_mem m
  have e2 : ns[ns.idxOf x] = x := List.getElem_idxOf hl
  exact (List.getElem_inj nd).mp (e2.trans e.symm)
theorem at_idx {ns : List Int} {x : Int} (m : x ∈ ns) : ns[ns.idxOf x]? = some x := by
  have hl : ns.idxOf x < ns.length := List.idxOf_lt_length_of_mem m
  rw [List.getElem?_eq_getElem hl, List.getElem_idxOf hl]
theorem idx_first {ns : List Int} {x : Int} {m : Nat} (h : m < ns.idxOf x) : ns[m]? ≠ some x := by
  intro e
  obtain ⟨hi, e2⟩ := List.getElem?_eq_some_iff.mp e
  have := List.not_of_lt_findIdx (p := (· == x)) (xs := ns) h
  rw [e2] at this
  simp at this
theorem idx_rev {ns : List Int} (nd : ns.Nodup) {x : Int} (m : x ∈ ns) : ns.reverse.idxOf x = ns.length - 1 - ns.idxOf x := by
  have hl : ns.idxOf x < ns.length := List.idxOf_lt_length_of_mem m
  refine idx_at ((List.Perm.nodup_iff (List.reverse_perm ns)).mpr nd) ?_
  rw [List.getElem?_reverse (by omega)]
  rw [show ns.length - 1 - (ns.length - 1 - ns.idxOf x) = ns.idxOf x by omega]
  exact at_idx m
theorem idx_inj {ns : List Int} {x y : Int} (m : x ∈ ns) (e : ns.idxOf x = ns.idxOf y) : x = y ∨ y ∉ ns := by
  by_cases h : y ∈ ns
  · left
    have a := at_idx m
    have b := at_idx h
    rw [e, b] at a
    exact (Option.some.inj a).symm
  · exact .inr h
theorem pref_rev {ns : List Int} (nd : ns.Nodup) {a b : Int} (ma : a ∈ ns) (mb : b ∈ ns) (ne : a ≠ b) : pref ns.reverse a b = !pref ns a b := by
  unfold pref
  have la : ns.idxOf a < ns.length := List.idxOf_lt_length_of_mem ma
  have lb : ns.idxOf b < ns.length := List.idxOf_lt_length_of_mem mb
  have hne : ns.idxOf a ≠ ns.idxOf b := fun e => by
    rcases idx_inj ma e with h | h
    · exact ne h
    · exact h mb
  rw [idx_rev nd ma, idx_rev nd mb]
  by_cases h : ns.idxOf a < ns.idxOf b
  · rw [decide_eq_true h, decide_eq_false (by omega)]
    rfl
  · rw [decide_eq_false h, decide_eq_true (by omega)]
    rfl
/-! ### pairs and differences -/
def prow (n a : Nat) : List (Int × Int) := (List.range (n - (a + 1))).map fun j : Nat => ((a : Int), ((a : Int) + 1 + (j : Int)))
def pairs (n : Nat) : List (Int × Int) := (List.range n).flatMap (prow n)
theorem mem_pairs {n : Nat} {p : Int × Int} (h : p ∈ pairs n) : 0 ≤ p.1 ∧ p.1 < p.2 ∧ p.2 < (n : Int) := by
  unfold pairs prow at h
  obtain ⟨a, ha, hp⟩ := List.mem_flatMap.mp h
  obtain ⟨j, hj, rfl⟩ := List.mem_map.mp hp
  have h1 := List.mem_range.mp ha
  have h2 := List.mem_range.mp hj
  dsimp only
  omega
theorem flat_succ {β : Type} (f : Nat → List β) (i : Nat) : (List.range (i + 1)).flatMap f = (List.range i).flatMap f ++ f i := by
  rw [List.range_succ, List.flatMap_append]
  simp
theorem map_succ {β : Type} (f : Nat → β) (i : Nat) : (List.range (i + 1)).map f = (List.range i).map f ++ [f i] := by
  rw [List.range_succ, List.map_append]
  rfl
def agr (one other : List Int) (p : Int × Int) : Bool := pref one p.1 p.2 == pref other p.1 p.2
def diffs (n : Nat) (one other : List Int) : List (Int × Int) := (pairs n).filter fun p => !agr one other p
def betw (n : Nat) (one other third : List Int) : Bool := ((pairs n).filter (agr one other)).all (agr one third)
theorem agr_symm (one other : List Int) (p : Int × Int) : agr one other p = agr other one p := by
  unfold agr
  cases pref one p.1 p.2 <;> cases pref other p.1 p.2 <;> rfl
theorem diffs_symm (n : Nat) (one other : List Int) : diffs n one other = diffs n other one := by
  unfold diffs
  congr 1
  funext p
  rw [agr_symm]
theorem diffs_rev {n : Nat} {ns : List Int} (h : Rank n ns) : diffs n ns ns.reverse = pairs n := by
  unfold diffs
  rw [List.filter_eq_self]
  intro p hp
  obtain ⟨h0, h1, h2⟩ := mem_pairs hp
  unfold agr
  rw [pref_rev h.nodup (h.mem h0 (by omega)) (h.mem (by omega) h2) (by omega)]
  cases pref ns p.1 p.2 <;> rfl
theorem filter_take {α : Type} (f : α → Bool) {l : List α} {i : Nat} {x : α} (h : l[i]? = some x) : (l.take (i + 1)).filter f = (l.take i).filter f ++ if f x = true then [x] else [] := by
  rw [List.take_add_one, h, List.filter_append]
  show _ ++ ([x].filter f) = _
  cases e : f x <;> simp [e]
theorem diffs_sub {n : Nat} {one other : List Int} {p : Int × Int} (h : p ∈ diffs n one other) : p ∈ pairs n := (List.mem_filter.mp h).1
theorem prow_len (n a : Nat) : (prow n a).length = n - (a + 1) := by
  unfold prow; rw [List.length_map, List.length_range]
theorem flat_len (n : Nat) : ∀ i : Nat, ((List.range i).flatMap (prow n)).length ≤ i * n
  | 0 => by simp
  | i + 1 => by
    have ih := flat_len n i
    rw [flat_succ, List.length_append, prow_len, Nat.succ_mul]
    omega
theorem pairs_len (n : Nat) : (pairs n).length ≤ n * n := flat_len n n
/-! ### exchanging neighbours, drawing -/
theorem perm_swap {ns : List Int} {k : Nat} {x y : Int} (hx : ns[k]? = some x) (hy : ns[k + 1]? = some y) : (ns.take k ++ ([y, x] ++ ns.drop (k + 2))).Perm ns := by
  have e : ns = ns.take k ++ (x :: y :: ns.drop (k + 2)) := by
    have h1 : k < ns.length := (List.getElem?_eq_some_iff.mp hx).1
    have h2 : k + 1 < ns.length := (List.getElem?_eq_some_iff.mp hy).1
    have a1 : ns.drop k = x :: ns.drop (k + 1) := by
      rw [List.drop_eq_getElem_cons h1, (List.getElem?_eq_some_iff.mp hx).2]
    have a2 : ns.drop (k + 1) = y :: ns.drop (k + 2) := by
      rw [List.drop_eq_getElem_cons h2, (List.getElem?_eq_some_iff.mp hy).2]
    rw [← a2, ← a1, List.take_append_drop]
  refine List.Perm.trans ?_ (List.Perm.of_eq e.symm)
  exact List.Perm.append_left _ (List.Perm.swap x y _)
theorem perm_erase {l : List Int} {j : Nat} {z : Int} (h : l[j]? = some z) : (z :: l.eraseIdx j).Perm l := by
  obtain ⟨hj, e⟩ := List.getElem?_eq_some_iff.mp h
  have e1 : l = l.take j ++ z :: l.drop (j + 1) := by
    rw [← e, ← List.drop_eq_getElem_cons hj, List.take_append_drop]
  have e2 : l.eraseIdx j = l.take j ++ l.drop (j + 1) := List.eraseIdx_eq_take_drop_succ l j
  rw [e2]
  refine List.Perm.trans ?_ (List.Perm.of_eq e1.symm)
  exact (List.perm_middle).symm
end TR
namespace TR
open PySem PySem.Spec PyProof.Rows L2
theorem flat_ints (ys : List Int) : (ys.map V.int).all flatV = true := by
  rw [List.all_map]; exact List.all_eq_true.mpr fun _ _ => rfl
def rTupIdx (K : PySem.W.Frag) : V → List V → Hp → VK → Prop := fun x xs H Q => ∃ p, ∃ ys : List Int, ∃ z j, x = .ref p ∧ xs = [.int z] ∧ SqT K H p (ys.map V.int) ∧ ys[j]? = some z ∧ (∀ m, m < j → ys[m]? ≠ some z) ∧ Q (.int (j : Nat)) H
section
variable {X : Cx}
/-- t.index(k), t a tuple of ints: the first place -/
theorem mt_tupIdx : MtR X "tuple.index" (fun x xs H Q => ∃ p, ∃ ys : List Int, ∃ z j, x = .ref p ∧ xs = [.int z] ∧ SqT X.K H p (ys.map V.int) ∧ ys[j]? = some z ∧ (∀ m, m < j → ys[m]? ≠ some z) ∧ Q (.int (j : Nat)) H) := by
  intro pins s σ H x xs v us Q I rx rs h
  obtain ⟨p, ys, z, j, rfl, rfl, hS, hy, hno, q⟩ := h
  cases rx
  obtain ⟨u, rfl, t, rfl⟩ := vals1 rs
  obtain ⟨its, r, pl, hz⟩ := I.tuple hS
  obtain ⟨⟨c1, dd, dt, sl⟩, ho, hc, n, hd⟩ := pl
  simp only at hc hd; subst hc; subst hd
  have hl : its.toArray.size = ys.length := by
    rw [List.size_toArray, ← r.length]; exact List.length_map _
  have hj : j < its.toArray.size := hl.symm ▸ (List.getElem?_eq_some_iff.mp hy).1
  have pick : ∀ (m : Nat) (hm : m < its.toArray.size), ∃ y t', ys[m]? = some y ∧ its.toArray[m] = Value.int y t' := fun m hm => by
    have hm2 : m < ys.length := hl ▸ hm
    obtain ⟨w, hw, t', hw'⟩ := r.get (i := m) (x := .int ys[m]) (by simp [hm2])
    refine ⟨ys[m], t', List.getElem?_eq_getElem hm2, ?_⟩
    have e := (List.getElem?_eq_some_iff.mp hw).2
    rw [← hw', ← e]; simp
  refine call_meets PySem.F.slot_tuple_index ⟨_, ho, rfl⟩ PySem.F.entry_tuple_index (PySem.F.args_tuple_index_2 _ _) (TI.tuple_indexAt p its.toArray n dd sl (.int z t) (eqU (.int z)) j hj ?_ ?_)
    ⟨ho, fun w hw => mem_eqAt (x := .int z) ⟨t, rfl⟩ rfl r (flat_ints ys) w (by simpa using hw), ⟨.int (j : Nat), H, I.tok _, ⟨_, rfl⟩, q⟩⟩
  · obtain ⟨y, t', h1, h2⟩ := pick j hj
    rw [hy] at h1; cases h1; rw [h2]
    show (z == z) = true; exact beq_self_eq_true z
  · intro m hm hmj
    obtain ⟨y, t', h1, h2⟩ := pick m hm
    rw [h2]; show (y == z) = false
    exact beq_eq_false_iff_ne.mpr fun e => hno m hmj (e ▸ h1)
end
section
variable {prog : Program} {w : World} {A : Around} {E : Value → Shared → Prop} {s : Shared}
theorem places_back (n : Nat) : Builtin.Slice.slicePlaces ((n : Int) - 1) (-1) (-1) = n := by
  unfold Builtin.Slice.slicePlaces
  rw [if_neg (show ¬ ((-1 : Int) > 0) by decide)]
  by_cases h : (n : Int) - 1 > -1
  · rw [if_pos h, show (- -1 : Int) = 1 by decide, Int.ediv_one]; omega
  · rw [if_neg h]; omega
theorem applied_back {sl : Addr} {vs : Value} {n : Nat} {Q : Int × Int × Nat → Shared → Prop} (hs : s.heap.IsSliceOf sl .none .none vs) (ps : IsPart vs (some (-1))) (h : Q ((n : Int) - 1, -1, n) s) :
    wpAny (model prog w) A (Builtin.Slice.sliceApplied (.ref sl) (pure (n : Int))) Q E s := by
  obtain ⟨os, hos, hcs, hds⟩ := id hs
  unfold Builtin.Slice.sliceApplied Builtin.Slice.sliceFields
  refine wpAny_bind (wpAny_bind (wpAny_field hos hds (x := .none) rfl (wpAny_bind (wpAny_field hos hds (x := .none) rfl (wpAny_bind (wpAny_field hos hds (x := vs) rfl (wpAny_pure ?_)))))))
  refine wpAny_bind (HT.slicePart_ ps ?_)
  show wpAny _ _ (if ((-1 : Int) == 0) = true then _ else _) _ _ s
  rw [if_neg (show ¬ (((-1 : Int) == 0) = true) by decide)]
  refine wpAny_bind (HT.slicePart_ .none (wpAny_bind (HT.slicePart_ .none (wpAny_bind (wpAny_pure ?_)))))
  show wpAny _ _ (pure ((n : Int) - 1, (-1 : Int), Builtin.Slice.slicePlaces ((n : Int) - 1) (-1) (-1))) _ _ s
  rw [places_back]; exact wpAny_pure h
theorem pick_back (xs : Array Value) : ((List.range xs.size).filterMap fun (k : Nat) => xs[((xs.size : Int) - 1 + (k : Int) * -1).toNat]?).toArray = xs.toList.reverse.toArray := by
  have e : ((List.range xs.size).filterMap fun (k : Nat) => xs[((xs.size : Int) - 1 + (k : Int) * -1).toNat]?) = ((List.range xs.size).map fun k => xs.size - 1 - k).filterMap (xs[·]?) := by
    rw [List.filterMap_map]
    refine congrArg (fun g => (List.range xs.size).filterMap g) (funext fun k => ?_)
    show xs[((xs.size : Int) - 1 + (k : Int) * -1).toNat]? = xs[xs.size - 1 - k]?
    rw [show ((xs.size : Int) - 1 + (k : Int) * -1).toNat = xs.size - 1 - k by omega]
  rw [e, PySem.W.krv_range, List.filterMap_reverse, PySem.W.krv_all]
theorem getItem_back {t sl : Addr} {items : Array Value} {vs : Value} {Q : Value → Shared → Prop} (ht : IsTup s.heap t items) (hs : s.heap.IsSliceOf sl .none .none vs) (ps : IsPart vs (some (-1)))
    (h : Q (.ref s.heap.objs.size) { s with heap := s.heap.push { cls := .type "tuple", data := .seq items.toList.reverse.toArray } }) (hsz : items.size ≤ sizeLine) : wpAny (model prog w) A (getItem (.ref t) (.ref sl)) Q E s := by
  have hok : sizeOk (.seq items.toList.reverse.toArray) := by
    show items.toList.reverse.toArray.size ≤ sizeLine
    rw [List.size_toArray, List.length_reverse]; exact hsz
  obtain ⟨os, hos, hcs, hds⟩ := id hs
  have hTs : s.TypeIs (.ref sl) "slice" := ⟨os, hos, hcs⟩
  unfold getItem
  try with_reducible refine wpAny_holding ?_
  first | refine wpAny_bind (wpAny_pure ?_) | skip
  refine wpAny_bind (wpAny_sequenceKey ht.typeIs (by decide) ?_)
  refine wpAny_bind (wpAny_callSpecial?_slot (name := Str.ofString "__getitem__") ht.typeIs PyProof.Rows.slot_tuple_getitem (wpAny_call_entry PyProof.Rows.slot_tuple_getitem ht.typeIs entry_tuple_getitem ?_ (args_tuple_getitem _ _)))
  show wpAny _ _ (Builtin.Tuple.tupleItemsOf (.ref t) >>= _) _ _ s
  refine wpAny_bind (PyProof.Rows.tupleItemsOf_ ht (wpAny_bind (wpAny_typeOf hTs ?_)))
  rw [if_pos (by decide)]
  refine wpAny_bind (applied_back hs ps ?_)
  have hno : ¬ ((((items.size : Int) - 1 == 0) && (-1 : Int) == 1 && items.size == items.size) = true) := by
    rw [show ((-1 : Int) == 1) = false by decide, Bool.and_false, Bool.false_and]; exact Bool.false_ne_true
  show wpAny _ _ (if (((items.size : Int) - 1 == 0) && (-1 : Int) == 1 && items.size == items.size) = true then _ else _) _ _ s
  rw [if_neg hno, pick_back]
  first
    | exact wpAny_bind (m := Builtin.Tuple.tupleExact _) (wpAny_newObj_type (wpAny_pure ⟨_, rfl, wpAny_pure h⟩) hok)
    | exact wpAny_bind (wpAny_bind (m := Builtin.Tuple.tupleExact _) (wpAny_newObj_type (wpAny_pure ⟨_, rfl, wpAny_pure h⟩) hok))
    | exact wpAny_bind (wpAny_bind (m := Builtin.Tuple.tupleExact _) (wpAny_newObj_type (wpAny_pure (wpAny_pure ⟨_, rfl, wpAny_pure h⟩)) hok))
end
section
variable {X : Cx}
/-- t[::-1], t a tuple: always a new one -/
def tRevT (K : PySem.W.Frag) (te : TE) : TE := fun σ H Q => te σ H fun x H1 => ∃ a xs, x = .ref a ∧ SqT K H1 a xs ∧ ∀ p o, H1 p = none → o.dict = none → Q (.ref p) (upd H1 p (.frz o (.tup xs.reverse)))
theorem pe_revT {e : Expr} {te : TE} {k : Nat} {p1 p2 p3 pos : Pos} (he : PE X e te) : PE X (.Subscript e (.Slice none none (some (.UnaryOp .USub (.Constant (.int 1) k p1) p2)) p3) pos) (tRevT X.K te) := by
  refine ⟨fun pins s σ H Q I h => Subscript_ (thn (he.run pins s σ H _ I h) fun v s1 ⟨x, H1, I1, r1, a, xs, ex, hx, q⟩ => ?_)⟩
  subst ex; cases r1
  have hst : PO X (some (.UnaryOp .USub (.Constant (.int 1) k p1) p2)) (tPart (tUn (rU fun i => .int (-i)) (tC (.int 1)))) := po_some (pe_un un_neg pe_int)
  refine wpAny_Slice (thn (po_none.run pins s1 σ H1 (fun o G => o = none ∧ G = H1) I1 ⟨rfl, rfl⟩) fun vl s2 ⟨l, H2, I2, pl, el, e2⟩ => ?_)
  subst el e2
  refine thn (po_none.run pins s2 σ H2 (fun o G => o = none ∧ G = H2) I2 ⟨rfl, rfl⟩) fun vu s3 ⟨u, H3, I3, pu, eu, e3⟩ => ?_
  subst eu e3
  refine thn (hst.run pins s3 σ H3 (fun o G => o = some (-1) ∧ G = H3) I3 ⟨1, rfl, -1, rfl, rfl, rfl⟩) fun vs s4 ⟨o, H4, I4, ps, eo, e4⟩ => ?_
  subst eo e4
  cases pl; cases pu
  have I5 : Inv X pins σ H4 { s4 with heap := s4.heap.push { cls := .type "slice", data := .fields #[.none, .none, vs] } } := I4.kept (t' := s4.toks) fun b ob q => Heap.get?_push_of_some _ q
  obtain ⟨its, r, ht, hz⟩ := I5.tuple hx
  have hlen := r.length
  show wpAny (model X.prog X.w) X.A (subscriptTail e (.Slice none none (some (.UnaryOp .USub (.Constant (.int 1) k p1) p2)) p3) (.ref a) (.ref s4.heap.objs.size)) (EP X pins σ Q) X.xe { s4 with heap := s4.heap.push { cls := .type "slice", data := .fields #[.none, .none, vs] } }
  refine tail_any (ops := [.ref a, .ref s4.heap.objs.size]) ht.typeIs (PyProof.Rows.slot_tuple_getitem.lookup) ?_ (by with_unfolding_all rfl)
  refine getItem_back ht (Heap.IsSliceOf.new _ .none .none vs) ps ?_ (by rw [List.size_toArray]; omega)
  refine ⟨.ref _, _, I5.laid (t' := s4.toks) (o := .frz { cls := .type "tuple", data := .seq its.toArray.toList.reverse.toArray } (.tup xs.reverse)) (fun b ob q => Heap.get?_push_of_some _ q) (Nat.le_refl _) ?_, rfl, q _ _ (I5.hok.fresh (Nat.le_refl _)) rfl⟩
  exact ⟨Heap.get?_push_size _ rfl, by rw [List.length_reverse]; exact hz, _, r.reverse, IsTup.new _ _⟩
/-- tuple(a list): the new tuple, as the very object -/
theorem call_tupleF : CallR X (.type "tuple") (fun xs H Q => ∃ p ys, xs = [.ref p] ∧ SqL X.K H p ys ∧ ∀ l o, H l = none → o.dict = none → Q (.ref l) (upd H l (.frz o (.tup ys)))) := by
  intro pins s σ H xs us Q I r ⟨p, ys, ex, hS, q⟩
  subst ex
  obtain ⟨u, rfl, rx⟩ := vals1 r
  cases rx
  obtain ⟨its, r', pl, hz⟩ := I.list hS
  have hlen := r'.length
  refine call_tuple_list pl.isList (fun h' kp => ?_) (by simp only [List.size_toArray] <;> omega)
  have I1 : Inv X pins σ H { s with heap := h' } := I.kept (t' := s.toks) kp
  exact ⟨.ref h'.objs.size, _, I1.laid (t' := s.toks) (o := .frz { cls := .type "tuple", data := .seq its.toArray } (.tup ys)) (fun b o e => Heap.get?_push_of_some _ e) (Nat.le_refl _) ⟨Heap.get?_push_size _ rfl, hz, its, r', IsTup.new _ _⟩, rfl, q _ _ (I1.hok.fresh (Nat.le_refl _)) rfl⟩
/-- (a, b, ..): the same -/
def tTupF (t : TA) : TE := fun σ H Q => t σ H fun xs H1 => xs.length ≤ sizeLine ∧ ∀ p o, H1 p = none → o.dict = none → Q (.ref p) (upd H1 p (.frz o (.tup xs)))
theorem pe_tupF {es : List Expr} {t : TA} {pos : Pos} {x1} (h : PA X es t) : PE X (.Tuple es x1 pos) (tTupF t) := by
  refine ⟨fun pins s σ H Q I hq => wpAny_Tuple_spliced (thn (h.run pos pins s σ H _ I hq) fun us s1 ⟨xs, H1, I1, r, z, q⟩ => ⟨by rw [← r.length]; exact z, ?_⟩)⟩
  exact ⟨.ref s1.heap.objs.size, _, I1.laid (t' := s1.toks) (o := .frz { cls := .type "tuple", data := .seq us.toArray } (.tup xs)) (fun b u e => Heap.get?_push_of_some _ e) (Nat.le_refl _) ⟨Heap.get?_push_size _ rfl, z, us, r, IsTup.new _ _⟩, rfl, q _ _ (I1.hok.fresh (Nat.le_refl _)) rfl⟩
/-- t + u -/
def rCatF (K : PySem.W.Frag) : R2 := fun x y H Q => ∃ a b xs ys, x = .ref a ∧ y = .ref b ∧ SqT K H a xs ∧ SqT K H b ys ∧ xs.length + ys.length ≤ sizeLine ∧
  (xs = [] → Q (.ref b) H) ∧ (xs ≠ [] → ys = [] → Q (.ref a) H) ∧ (xs ≠ [] → ys ≠ [] → ∀ p o, H p = none → o.dict = none → Q (.ref p) (upd H p (.frz o (.tup (xs ++ ys)))))
theorem op_catF : OpR X (binaryOp .Add) (rCatF X.K) := by
  intro pins s σ H x y v u Q I rx ry ⟨a, b, xs, ys, ex, ey, ha, hb, hz, q0, q1, q2⟩
  subst ex ey; cases rx; cases ry
  obtain ⟨its, r1, p1, _⟩ := I.tuple ha
  obtain ⟨its2, r2, p2, _⟩ := I.tuple hb
  by_cases hx : xs = []
  · subst hx; cases r1
    exact cat_tup0 p1 p2 ⟨.ref b, H, I, rfl, q0 rfl⟩
  · refine HT.cat_tup p1 p2 (fun z => hx (r1.nil_iff.mp z)) (fun z => ⟨.ref a, H, I, rfl, q1 hx (r2.nil_iff.mp z)⟩) (fun z => ?_) (by rw [← r1.length, ← r2.length]; exact hz)
    exact ⟨.ref s.heap.objs.size, _, I.laid (t' := s.toks) (o := .frz { cls := .type "tuple", data := .seq (its ++ its2).toArray } (.tup (xs ++ ys))) (fun b ob q => Heap.get?_push_of_some _ q) (Nat.le_refl _)
      ⟨Heap.get?_push_size _ rfl, by rw [List.length_append]; exact hz, _, r1.append r2, IsTup.new _ _⟩, rfl, q2 hx (fun w => z (r2.nil_iff.mpr w)) _ _ (I.hok.fresh (Nat.le_refl _)) rfl⟩
/-- t[lo:hi] -/
def rSlF (K : PySem.W.Frag) : V → Option Int → Option Int → Hp → VK → Prop := fun x lo hi H Q => ∃ a xs, x = .ref a ∧ SqT K H a xs ∧
  (HT.sIx xs.length 0 lo = 0 ∧ HT.sIx xs.length xs.length hi = xs.length → Q (.ref a) H) ∧
  (¬ (HT.sIx xs.length 0 lo = 0 ∧ HT.sIx xs.length xs.length hi = xs.length) → ∀ p o, H p = none → o.dict = none → Q (.ref p) (upd H p (.frz o (.tup (cutV xs lo hi)))))
theorem sl_tupF : SlR X (rSlF X.K) := by
  intro pins s σ H x v vl vu lo hi sl Q I rx hs pl pu ⟨a, xs, ex, hx, q1, q2⟩
  subst ex; cases rx
  obtain ⟨its, r, ht, hz⟩ := I.tuple hx
  have hlen : its.toArray.size = xs.length := List.size_toArray.trans r.length.symm
  refine ⟨"tuple", _, PyProof.Rows.slot_tuple_getitem.lookup, ht.typeIs, ?_⟩
  by_cases hw : HT.sIx xs.length 0 lo = 0 ∧ HT.sIx xs.length xs.length hi = xs.length
  · exact getItem_tuple_whole ht hs pl pu (by rw [hlen]; exact hw) ⟨.ref a, H, I, rfl, q1 hw⟩
  · refine HT.getItem_tuple_cut ht hs pl pu (by rw [hlen]; exact hw) ?_ (by rw [hlen]; exact hz)
    rw [hlen]
    exact ⟨.ref s.heap.objs.size, _, I.laid (t' := s.toks) (o := .frz { cls := .type "tuple", data := .seq ((its.toArray.toList.drop (HT.sIx xs.length 0 lo)).take (HT.sIx xs.length xs.length hi - HT.sIx xs.length 0 lo)).toArray } (.tup (cutV xs lo hi))) (fun b ob q => Heap.get?_push_of_some _ q) (Nat.le_refl _)
      ⟨Heap.get?_push_size _ rfl, Nat.le_trans (cutV_length xs lo hi) hz, _, (r.drop (HT.sIx xs.length 0 lo)).take (HT.sIx xs.length xs.length hi - HT.sIx xs.length 0 lo), IsTup.new _ _⟩, rfl, q2 hw _ _ (I.hok.fresh (Nat.le_refl _)) rfl⟩
/-- t.m(e, ..), t a tuple that stands as the very object, without a dict of its own -/
def tBMT (r : V → List V → Hp → VK → Prop) (to : TE) (t : TA) : TE := fun σ H Q => to σ H fun x H1 => (∃ p ob ys, x = .ref p ∧ ob.dict = none ∧ H1 p = some (.frz ob (.tup ys))) ∧ t σ H1 fun xs H2 => r x xs H2 Q
theorem pe_bmT {o e : Expr} {es : List Expr} {to : TE} {t : TA} {name : Str} {apos cpos : Pos} {id : String} {r : V → List V → Hp → VK → Prop} (slot : Slot "tuple" name id) (hty : typeOf (.builtin id) = pure (.type "method_descriptor")) (hm : MtR X id r) (ho : PE X o to) (ha : PA X (e :: es) t)
    (hbase : attributeBase o name X.env (eval o X.env) = eval o X.env := by rfl)
    (hfew : ((backTo cpos (starEach (e :: es) X.env)).all (fun x => !x.1) && (backToKw cpos (keywordEach [] X.env)).all (fun x => x.1.isSome) && decide ((e :: es).length + ([] : List Keyword).length + (if ([] : List Keyword).isEmpty then 0 else 1) < 30)) = true := by rfl)
    (hline : (apos.endLine == cpos.line) = true := by rfl) (hs : starEach (e :: es) X.env = (false, eval e X.env) :: starEach es X.env := by rfl) (hplain : (backTo cpos (starEach es X.env)).any (·.1) = false := by rfl) :
    PE X (.Call (.Attribute o name apos) (e :: es) [] cpos) (tBMT r to t) := by
  refine ⟨fun pins s σ H Q I h => wpAny_Call_method_late hbase hfew hline rfl (thn (ho.run pins s σ H _ I h) fun v s1 ⟨x, H1, I1, r1, ⟨p, ob, ys, ex, hd, hp⟩, q1⟩ => ?_)⟩
  subst ex
  cases (show v = Value.ref p from r1)
  obtain ⟨g, z, its, rv, o', g', c', _⟩ := (show ObjOk X.prog X.w H1 s1.heap p (.frz ob (.tup ys)) from I1.hok p _ hp)
  refine ⟨"tuple", id, PySem.F.plainAttrs_tuple, slot, hty, ⟨o', g', c'⟩, fun a e => by cases e; exact ⟨ob, g, hd⟩, ?_⟩
  have hA := ha.run cpos pins s1 σ H1 _ I1 q1
  rw [hs] at hA ⊢
  refine Calls.callWith_builtin (by show (false || (backTo cpos (starEach es X.env)).any (·.1)) = false; rw [hplain] <;> rfl) (Calls.evalArgs_plain (thn hA fun us s2 ⟨vs, H2, I2, r2, q2⟩ => ?_))
  exact hm pins s2 σ H2 (.ref p) vs (.ref p) us Q I2 rfl r2 q2
end
end TR
namespace TR
open PySem PySem.Spec PyProof.Rows L2
section
variable {prog : Program} {w : World} {A : Around} {E : Value → Shared → Prop} {s : Shared}
/-- what a tuple is collected into -/
theorem collect_tup {t : Addr} {vs : List Value} {Q : List Value → Shared → Prop} (ht : IsTup s.heap t vs.toArray) (h : Q vs { s with heap := (s.heap.push (seqObj "list" #[] 0)).update s.heap.objs.size (Obj.mapSeq (· ++ vs.toArray)) }) (hsz : vs.length ≤ sizeLine) : wpAny (model prog w) A (collect (.ref t)) Q E s := by
  obtain ⟨o, ho, hc, n, hd⟩ := id ht
  have ho2 : (s.heap.push (seqObj "list" #[] 0)).get? t = some o := Heap.get?_push_of_some _ ho
  unfold collect; refine wpAny_bind (wpAny_runValue (codeAny_builtin entry_proto_collect' ?_))
  show wpAny _ _ (do again (.builtin "list.__iadd__" ⟨[← newList [], .ref t], []⟩)) _ _ s
  refine wpAny_bind (wpAny_newList (wpAny_pure ⟨Code.quiet_builtin _ (by decide +kernel), codeAny_builtin entry_list_iadd' ?_⟩) (Nat.zero_le _))
  show wpAny _ _ (Builtin.List.listExtendWith (.ref s.heap.objs.size) (.ref t) (.ref s.heap.objs.size)) _ _ { s with heap := s.heap.push (seqObj "list" #[] 0) }
  unfold Builtin.List.listExtendWith; refine wpAny_bind (wpAny_typeOf (T := "tuple") ⟨o, ho2, hc⟩ ?_)
  have hy : (Value.type "tuple" == Value.type "tuple") = true := rfl
  rw [if_pos (by rw [hy]; simp)]; refine wpAny_bind (listItems_at ho2 hd ?_)
  refine wpAny_bind (listItems_at (xs := #[]) (n := 0) (Heap.get?_push_size _ rfl) rfl ?_); rw [if_neg (by simp)]
  refine wpAny_bind (listUpdate_at (xs := #[]) (n := 0) (Heap.get?_push_size _ rfl) rfl (wpAny_pure ?_) (Nat.zero_le _) (by show (#[] ++ vs.toArray).size ≤ sizeLine + 1; simp only [Array.size_append, List.size_toArray, List.length_nil]; omega))
  show wpAny (model prog w) A (load s.heap.objs.size >>= fun ob => match ob.data with | .seq xs _ => pure xs.toList | _ => unsupported "internal:collect") Q E { s with heap := (s.heap.push (seqObj "list" #[] 0)).update s.heap.objs.size (Obj.mapSeq (· ++ vs.toArray)) }
  refine wpAny_bind (wpAny_load (get?_update_seq (Heap.get?_push_size _ rfl) _) ?_)
  show wpAny _ _ (pure ((#[] : Array Value) ++ vs.toArray).toList) Q E _; rw [show ((#[] : Array Value) ++ vs.toArray).toList = vs by simp]; exact wpAny_pure h
/-- sorted of a tuple -/
theorem sorted_tupO {t : Addr} {vs : List Value} {ltv : Value → Value → Bool} {Q : Value → Shared → Prop} (O : SrtO.Swo ltv) (ht : IsTup s.heap t vs.toArray) (hz : vs.length ≤ sizeLine)
    (hS : 2 ≤ vs.length → ∀ (g : Heap) (a : Addr), g.get? a = some (seqObj "list" vs.toArray 0) → (∀ b o, s.heap.get? b = some o → b ≠ a ∧ g.get? b = some o) → SrtO.SortableO prog w A.in1.in1 { s with heap := g } a vs ltv)
    (h : ∀ out : List Value, SrtO.Srtd ltv out → SrtO.Stb ltv out vs → Q (.ref (s.heap.objs.size + 1)) { s with heap := sortedAll s.heap vs out.toArray }) : wpAny (model prog w) A (call (.builtin "sorted") [.ref t]) Q E s := by
  refine Calls.call_function_entry kind_sorted plain_sorted entry_sorted (args_sorted1 _) ?_
  unfold Builtin.«sorted»; refine wpAny_bind (m := checkCount "sorted" 1 1 _) (wpAny_pure (wpAny_bind (collect_tup ht (wpAny_bind (wpAny_newList ?_ hz)) hz)))
  have hn : ((s.heap.push (seqObj "list" #[] 0)).update s.heap.objs.size (Obj.mapSeq (· ++ vs.toArray))).objs.size = s.heap.objs.size + 1 := by rw [Heap.size_update]; simp [Heap.push]
  have hL : (((s.heap.push (seqObj "list" #[] 0)).update s.heap.objs.size (Obj.mapSeq (· ++ vs.toArray))).push (seqObj "list" vs.toArray 0)).get? (s.heap.objs.size + 1) = some (seqObj "list" vs.toArray 0) := hn ▸ Heap.get?_push_size _ rfl
  have kp : ∀ b o, s.heap.get? b = some o → b ≠ s.heap.objs.size + 1 ∧ (((s.heap.push (seqObj "list" #[] 0)).update s.heap.objs.size (Obj.mapSeq (· ++ vs.toArray))).push (seqObj "list" vs.toArray 0)).get? b = some o := fun b o q =>
    ⟨Nat.ne_of_lt (Nat.lt_succ_of_lt (Heap.lt_size q)), Heap.get?_push_of_some _ (by rw [Heap.get?_update_ne _ _ _ _ (Nat.ne_of_lt (Heap.lt_size q))]; exact Heap.get?_push_of_some _ q)⟩
  show wpAny _ _ _ _ _ { s with heap := ((s.heap.push (seqObj "list" #[] 0)).update s.heap.objs.size (Obj.mapSeq (· ++ vs.toArray))).push (seqObj "list" vs.toArray 0) }; rw [hn]
  refine wpAny_bind (wpAny_holding (wpAny_call_entry slot_list_sort ⟨_, hL, rfl⟩ entry_list_sort (SrtO.list_sort_ord O hL hz (fun h2 => hS h2 _ _ hL kp) fun out a b => ⟨_, rfl, wpAny_pure ⟨_, rfl, h out a b⟩⟩) (args_list_sort _)))
end
section
variable {X : Cx}
/-- sorted(t), t a tuple of ints -/
def rSortedTI (K : PySem.W.Frag) : List V → Hp → VK → Prop := fun vs H Q => ∃ (a : Addr) (ns : List Int), vs = [V.ref a] ∧ SqT K H a (ns.map V.int) ∧ ∀ (ms : List Int) (p : Addr), ms.Perm ns → ms.Pairwise (· ≤ ·) → H p = none → Q (.ref p) (upd H p (.lst (ms.map V.int)))
theorem cr_sortedTI : CallR X (.builtin "sorted") (rSortedTI X.K) := by
  intro pins s σ H vs us Q I r ⟨a, ns, ev, hs, q⟩
  subst ev
  obtain ⟨its, rv, ht, hz⟩ := I.tuple hs
  rw [Vals.ref1 r]; have hi := rv.ints
  refine sorted_tupO SrtO.swo_int ht (by rw [← rv.length]; exact hz) (fun h2 g a' _ _ => SrtO.ints_sortable hi h2) fun out h1 h2 => ?_
  obtain ⟨k1, k2, k3⟩ := SrtO.ints_out hi h1 h2; obtain ⟨ep, he⟩ := PyProof.Rows.sortedAll_at s.heap its out.toArray
  have hl : ((out.map SrtO.iv).map V.int).length ≤ sizeLine := by rw [List.length_map, k2.length_eq]; rw [List.length_map] at hz; exact hz
  exact ⟨.ref _, upd H (s.heap.objs.size + 1) (.lst ((out.map SrtO.iv).map V.int)), I.laid (t' := s.toks) (fun _ _ => PyProof.Rows.sortedAll_old) (Nat.le_succ _) ⟨hl, out, ep, vals_of_ints k1, he⟩, rfl, q _ _ k2 k3 (I.hok.fresh (Nat.le_succ _))⟩
end
end TR
namespace TR
open PySem PySem.Spec PyProof.Rows L2
/-! ### values of any kind, as data; ban: where no list of them stands -/
mutual
def Rp (H : Hp) (ban : List Addr) : PyData → V → Prop
  | .none, v => v = .non
  | .bool b, v => v = .bl b
  | .int i, v => v = .int i
  | .str x, v => v = .str x
  | .list ds, v => ∃ a xs, v = .ref a ∧ H a = some (.lst xs) ∧ a ∉ ban ∧ RpAll H ban ds xs
  | .tuple ds, v => ∃ a xs, v = .ref a ∧ TF H a xs ∧ RpAll H ban ds xs
  | .dict kvs, v => kvs = [] ∧ ∃ a, v = .ref a ∧ H a = some (.dK []) ∧ a ∉ ban
def RpAll (H : Hp) (ban : List Addr) : List PyData → List V → Prop
  | [], xs => xs = []
  | d :: ds, xs => ∃ v r, xs = v :: r ∧ Rp H ban d v ∧ RpAll H ban ds r
end
mutual
theorem Rp.mv {H H' : Hp} {ban : List Addr} (mL : ∀ a xs, a ∉ ban → H a = some (.lst xs) → H' a = some (.lst xs)) (mT : ∀ a xs, TF H a xs → TF H' a xs) (mD : ∀ a, a ∉ ban → H a = some (.dK []) → H' a = some (.dK [])) : ∀ (d : PyData) (v : V), Rp H ban d v → Rp H' ban d v
  | .none, _, h => h
  | .bool _, _, h => h
  | .int _, _, h => h
  | .str _, _, h => h
  | .list ds, _, h => by
    obtain ⟨a, xs, e, h1, h2, h3⟩ := h
    exact ⟨a, xs, e, mL a xs h2 h1, h2, RpAll.mv mL mT mD ds xs h3⟩
  | .tuple ds, _, h => by
    obtain ⟨a, xs, e, h1, h3⟩ := h
    exact ⟨a, xs, e, mT a xs h1, RpAll.mv mL mT mD ds xs h3⟩
  | .dict kvs, _, h => by
    obtain ⟨e0, a, e, h1, hb⟩ := h
    exact ⟨e0, a, e, mD a hb h1, hb⟩
theorem RpAll.mv {H H' : Hp} {ban : List Addr} (mL : ∀ a xs, a ∉ ban → H a = some (.lst xs) → H' a = some (.lst xs)) (mT : ∀ a xs, TF H a xs → TF H' a xs) (mD : ∀ a, a ∉ ban → H a = some (.dK []) → H' a = some (.dK [])) : ∀ (ds : List PyData) (xs : List V), RpAll H ban ds xs → RpAll H' ban ds xs
  | [], _, h => h
  | d :: ds, _, h => by
    obtain ⟨v, r, e, h1, h2⟩ := h
    exact ⟨v, r, e, Rp.mv mL mT mD d v h1, RpAll.mv mL mT mD ds r h2⟩
end
theorem rd_same {H H' : Hp} {a : Addr} {u : HO} (s : Same H H') (h : Rd H a u) : Rd H' a u := by
  rcases h with h | ⟨o, h⟩
  · exact .inl (s _ _ h)
  · exact .inr ⟨o, s _ _ h⟩
theorem Rp.same {H H' : Hp} {ban : List Addr} {d : PyData} {v : V} (h : Rp H ban d v) (s : Same H H') : Rp H' ban d v := Rp.mv (fun a xs _ e => s _ _ e) (fun a xs e => tf_same s e) (fun a _ e => s _ _ e) d v h
theorem RpAll.same {H H' : Hp} {ban : List Addr} {ds : List PyData} {xs : List V} (h : RpAll H ban ds xs) (s : Same H H') : RpAll H' ban ds xs := RpAll.mv (fun a xs _ e => s _ _ e) (fun a xs e => tf_same s e) (fun a _ e => s _ _ e) ds xs h
theorem Rp.keep {H H' : Hp} {ban : List Addr} {d : PyData} {v : V} {k p q : Addr} {n : Nat} (h : Rp H ban d v) (D : Deck H k p q n) (s : Keep k p H H') (b1 : k ∈ ban) (b2 : p ∈ ban) : Rp H' ban d v := by
  obtain ⟨x, y, c, e1⟩ := D.hd
  obtain ⟨zs, e2⟩ := D.hp
  refine Rp.mv (fun a xs hn e => s _ _ e (fun z => hn (z ▸ b1)) (fun z => hn (z ▸ b2))) (fun a xs e => e.keep D s) (fun a _ e => s _ _ e (ne_of e e1 (by intro z; cases z)) (ne_of e e2 (by intro z; cases z))) d v h
theorem RpAll.len {H : Hp} {ban : List Addr} : ∀ {ds : List PyData} {xs : List V}, RpAll H ban ds xs → xs.length = ds.length
  | [], _, h => by rw [show _ = [] from h]; rfl
  | d :: ds, _, h => by
    obtain ⟨v, r, rfl, _, h2⟩ := h
    rw [List.length_cons, List.length_cons, RpAll.len h2]
theorem RpAll.get {H : Hp} {ban : List Addr} : ∀ {ds : List PyData} {xs : List V}, RpAll H ban ds xs → ∀ {i : Nat} {x : V}, xs[i]? = some x → ∃ d, ds[i]? = some d ∧ Rp H ban d x
  | [], _, h, i, x, e => by rw [show _ = [] from h] at e; simp at e
  | d :: ds, _, h, i, x, e => by
    obtain ⟨v, r, rfl, h1, h2⟩ := h
    cases i with
    | zero =>
      cases (Option.some.inj e)
      exact ⟨d, rfl, h1⟩
    | succ i => exact RpAll.get h2 e
theorem RpAll.app {H : Hp} {ban : List Addr} : ∀ {ds es : List PyData} {xs ys : List V}, RpAll H ban ds xs → RpAll H ban es ys → RpAll H ban (ds ++ es) (xs ++ ys)
  | [], _, _, _, h, g => by rw [show _ = [] from h]; exact g
  | d :: ds, _, _, _, h, g => by
    obtain ⟨v, r, rfl, h1, h2⟩ := h
    exact ⟨v, _, rfl, h1, RpAll.app h2 g⟩
theorem RpAll.take {H : Hp} {ban : List Addr} : ∀ {ds : List PyData} {xs : List V} (k : Nat), RpAll H ban ds xs → RpAll H ban (ds.take k) (xs.take k)
  | _, _, 0, _ => rfl
  | [], _, k + 1, h => by rw [show _ = [] from h]; rfl
  | d :: ds, _, k + 1, h => by
    obtain ⟨v, r, rfl, h1, h2⟩ := h
    exact ⟨v, _, rfl, h1, RpAll.take k h2⟩
theorem RpAll.drop {H : Hp} {ban : List Addr} : ∀ {ds : List PyData} {xs : List V} (k : Nat), RpAll H ban ds xs → RpAll H ban (ds.drop k) (xs.drop k)
  | _, _, 0, h => h
  | [], _, k + 1, h => by rw [show _ = [] from h]; rfl
  | d :: ds, _, k + 1, h => by
    obtain ⟨v, r, rfl, h1, h2⟩ := h
    exact RpAll.drop k h2
theorem RpAll.rev {H : Hp} {ban : List Addr} : ∀ {ds : List PyData} {xs : List V}, RpAll H ban ds xs → RpAll H ban ds.reverse xs.reverse
  | [], _, h => by rw [show _ = [] from h]; rfl
  | d :: ds, _, h => by
    obtain ⟨v, r, rfl, h1, h2⟩ := h
    rw [List.reverse_cons, List.reverse_cons]
    exact RpAll.app (RpAll.rev h2) ⟨v, [], rfl, h1, rfl⟩
theorem RpAll.ints {H : Hp} {ban : List Addr} : ∀ ns : List Int, RpAll H ban (ns.map PyData.int) (ns.map V.int)
  | [] => rfl
  | n :: r => ⟨_, _, rfl, rfl, RpAll.ints r⟩
/-! ### what is small enough to be shown -/
def leafOk (L : Nat) : PyData → Prop
  | .none => True
  | .bool _ => True
  | .int i => i.natAbs ≤ 10 ^ 59 + L
  | .str x => x.length ≤ 69 ∧ ∀ c ∈ x.cps.toList, c < 16 ^ 8
  | _ => False
def Wf (L : Nat) : Nat → PyData → Prop
  | 0, d => leafOk L d
  | D + 1, d => leafOk L d ∨ d = .dict [] ∨ ∃ ds, (d = .list ds ∨ d = .tuple ds) ∧ ds.length ≤ L ∧ ∀ e ∈ ds, Wf L D e
theorem leafOk.mono {L L' : Nat} (h : L ≤ L') : ∀ {d : PyData}, leafOk L d → leafOk L' d
  | .none, _ => trivial
  | .bool _, _ => trivial
  | .int i, g => Nat.le_trans g (Nat.add_le_add_left h _)
  | .str _, g => g
theorem Wf.mono {L L' : Nat} (h : L ≤ L') : ∀ {D D' : Nat} {d : PyData}, D ≤ D' → Wf L D d → Wf L' D' d
  | 0, 0, _, _, g => leafOk.mono h g
  | 0, _ + 1, _, _, g => .inl (leafOk.mono h g)
  | _ + 1, 0, _, k, _ => absurd k (by omega)
  | D + 1, D' + 1, _, k, g => by
    rcases g with g | g | ⟨ds, e, l, c⟩
    · exact .inl (leafOk.mono h g)
    · exact .inr (.inl g)
    · exact .inr (.inr ⟨ds, e, Nat.le_trans l h, fun x hx => Wf.mono h (by omega) (c x hx)⟩)
def bnd : Nat → Nat
  | 0 => 700
  | D + 1 => 3 + 11 * (bnd D + 2)
theorem bnd_ge : ∀ D, 700 ≤ bnd D
  | 0 => Nat.le_refl _
  | D + 1 => by
    have := bnd_ge D
    show 700 ≤ 3 + 11 * (bnd D + 2)
    omega
theorem small_int {L : Nat} (h : L ≤ 41) {i : Int} (g : i.natAbs ≤ 10 ^ 59 + L) : i.natAbs < 10 ^ 60 := by
  have e : (10 : Nat) ^ 60 = 10 * 10 ^ 59 := by decide
  have e2 : (41 : Nat) < 10 ^ 59 := by decide
  omega
theorem small_log {i : Int} (g : i.natAbs < 10 ^ 60) : i.natAbs.log2 < 1920 := by
  by_cases h : i.natAbs = 0
  · rw [h]; decide
  · refine (Nat.log2_lt h).mpr (Nat.lt_trans g (by decide +kernel))
theorem leaf_shown {L : Nat} (h : L ≤ 41) : ∀ {d : PyData}, leafOk L d → d.shown.length ≤ 700 ∧ d.showable = true ∧ d.depth = 0
  | .none, _ => ⟨by decide +kernel, rfl, rfl⟩
  | .bool b, _ => ⟨by cases b <;> decide +kernel, rfl, rfl⟩
  | .int i, g => by
    have g2 := small_int h g
    refine ⟨?_, decide_eq_true (small_log g2), rfl⟩
    show (Str.ofString (toString i)).length ≤ 700
    have := int_text_length_le10 (k := 60) (by decide) g2
    rw [PySem.ofString_length]
    omega
  | .str x, g => by
    refine ⟨?_, rfl, rfl⟩
    show (reprText x).length ≤ 700
    have := StrLaws.reprText_len x g.2
    have := g.1
    omega
theorem piled_le {B : Nat} : ∀ ts : List Str, (∀ t ∈ ts, t.length ≤ B) → piled ts ≤ ts.length * (B + 2)
  | [], _ => Nat.zero_le _
  | t :: r, h => by
    have := piled_le r fun x hx => h x (List.mem_cons_of_mem _ hx)
    have := h t (List.mem_cons_self ..)
    rw [piled_cons, List.length_cons, Nat.succ_mul]
    omega
theorem text_le : ∀ (ts : List Str) (k : Nat) (acc : Str), (textFrom k acc ts).length ≤ acc.length + piled ts
  | [], _, _ => Nat.le_refl _
  | t :: r, k, acc => by
    have := text_le r (k + 1) (acc ++ (if k > 0 then ", " else "" : String) ++ t)
    rw [Str.length_append, Str.length_append] at this
    have e : ((if k > 0 then ", " else "" : String) : Str).length ≤ 2 := by
      split <;> decide +kernel
    rw [piled_cons]
    show (textFrom (k + 1) (acc ++ (if k > 0 then ", " else "" : String) ++ t) r).length ≤ _
    omega
theorem list_le (ts : List Str) : (listText ts).length ≤ 2 + piled ts := by
  have := text_le ts 0 "["
  unfold listText
  rw [Str.length_append]
  have e1 : ("[" : Str).length = 1 := by decide +kernel
  have e2 : ("]" : Str).length = 1 := by decide +kernel
  omega
theorem tup_le (ts : List Str) : (tupleText ts).length ≤ 3 + piled ts := by
  unfold tupleText
  rw [Str.length_append, Str.length_append]
  have e1 : ("(" : Str).length = 1 := by decide +kernel
  have e2 : ((if (ts.length == 1) = true then ",)" else ")" : String) : Str).length ≤ 2 := by
    split <;> decide +kernel
  have e3 : (Str.join ", " ts).length ≤ piled ts := by
    cases ts with
    | nil => decide +kernel
    | cons t r =>
      have := join_length_add (t :: r) (by simp)
      omega
  omega
theorem shownAll_len : ∀ ds : List PyData, (PyData.shownAll ds).length = ds.length
  | [] => rfl
  | d :: r => by
    show (PyData.shownAll r).length + 1 = r.length + 1
    rw [shownAll_len r]
theorem shownAll_mem : ∀ (ds : List PyData) (t : Str), t ∈ PyData.shownAll ds → ∃ d ∈ ds, t = d.shown
  | [], _, h => by cases h
  | d :: r, t, h => by
    rcases List.mem_cons.mp h with e | h
    · exact ⟨d, List.mem_cons_self .., e⟩
    · obtain ⟨x, hx, e⟩ := shownAll_mem r t h
      exact ⟨x, List.mem_cons_of_mem _ hx, e⟩
theorem showAll : ∀ ds : List PyData, (∀ d ∈ ds, d.showable = true) → PyData.showableAll ds = true
  | [], _ => rfl
  | d :: r, h => by
    show (d.showable && PyData.showableAll r) = true
    rw [h d (List.mem_cons_self ..), showAll r fun x hx => h x (List.mem_cons_of_mem _ hx)]
    rfl
theorem depAll {D : Nat} : ∀ ds : List PyData, (∀ d ∈ ds, d.depth ≤ D) → PyData.depthAll ds ≤ D
  | [], _ => Nat.zero_le _
  | d :: r, h => by
    show max d.depth (PyData.depthAll r) ≤ D
    exact Nat.max_le.mpr ⟨h d (List.mem_cons_self ..), depAll r fun x hx => h x (List.mem_cons_of_mem _ hx)⟩
theorem Wf.shown {L : Nat} (h : L ≤ 11) : ∀ {D : Nat} {d : PyData}, Wf L D d → d.shown.length ≤ bnd D ∧ d.showable = true ∧ d.depth ≤ D
  | 0, _, g => by
    obtain ⟨a, b, c⟩ := leaf_shown (by omega) g
    exact ⟨a, b, by omega⟩
  | D + 1, d, g => by
    have hb : 700 ≤ bnd (D + 1) := bnd_ge (D + 1)
    rcases g with g | rfl | ⟨ds, e, l, c⟩
    · obtain ⟨a, b, c⟩ := leaf_shown (by omega) g
      exact ⟨Nat.le_trans a hb, b, by omega⟩
    · exact ⟨Nat.le_trans (by decide +kernel) hb, rfl, by show 0 + 1 ≤ D + 1; omega⟩
    · have ih := fun x hx => Wf.shown h (c x hx)
      have p1 : piled (PyData.shownAll ds) ≤ 11 * (bnd D + 2) := by
        refine Nat.le_trans (piled_le (B := bnd D) _ fun t ht => ?_) ?_
        · obtain ⟨x, hx, rfl⟩ := shownAll_mem ds t ht
          exact (ih x hx).1
        · rw [shownAll_len]
          exact Nat.mul_le_mul_right _ (by omega)
      have p2 := showAll ds fun x hx => (ih x hx).2.1
      have p3 := depAll ds fun x hx => (ih x hx).2.2
      rcases e with rfl | rfl
      · refine ⟨?_, p2, ?_⟩
        · show (listText (PyData.shownAll ds)).length ≤ 3 + 11 * (bnd D + 2)
          have := list_le (PyData.shownAll ds)
          omega
        · show PyData.depthAll ds + 1 ≤ D + 1
          omega
      · refine ⟨?_, p2, ?_⟩
        · show (tupleText (PyData.shownAll ds)).length ≤ 3 + 11 * (bnd D + 2)
          have := tup_le (PyData.shownAll ds)
          omega
        · show PyData.depthAll ds + 1 ≤ D + 1
          omega
theorem bnd_small {D : Nat} (h : D ≤ 4) : bnd D ≤ sizeLine := by
  have e : bnd 4 ≤ sizeLine := by decide +kernel
  have m : ∀ a b, a ≤ b → bnd a ≤ bnd b := by
    intro a b hab
    induction hab with
    | refl => exact Nat.le_refl _
    | step _ ih =>
      refine Nat.le_trans ih ?_
      show bnd _ ≤ 3 + 11 * (bnd _ + 2)
      omega
  exact Nat.le_trans (m D 4 h) e
/-! ### how many parts, and how long shown -/
mutual
def sz : PyData → Nat
  | .none => 1
  | .bool _ => 1
  | .int _ => 1
  | .str _ => 1
  | .list ds => 1 + szAll ds
  | .tuple ds => 1 + szAll ds
  | .dict _ => 1
def szAll : List PyData → Nat
  | [] => 0
  | d :: r => sz d + szAll r
end
theorem szAll_app : ∀ ds es : List PyData, szAll (ds ++ es) = szAll ds + szAll es
  | [], es => by show szAll es = 0 + szAll es; omega
  | d :: r, es => by
    show sz d + szAll (r ++ es) = sz d + szAll r + szAll es
    rw [szAll_app r es]
    omega
theorem szAll_take (ds : List PyData) (k : Nat) : szAll (ds.take k) + szAll (ds.drop k) = szAll ds := by
  rw [← szAll_app, List.take_append_drop]
theorem szAll_cut (ds : List PyData) (a b : Nat) : szAll ((ds.drop a).take b) ≤ szAll ds := by
  have h1 := szAll_take ds a
  have h2 := szAll_take (ds.drop a) b
  omega
theorem szAll_rev : ∀ ds : List PyData, szAll ds.reverse = szAll ds
  | [] => rfl
  | d :: r => by
    rw [List.reverse_cons, szAll_app, szAll_rev r]
    show szAll r + (sz d + 0) = sz d + szAll r
    omega
theorem szAll_mem : ∀ {ds : List PyData} {d : PyData}, d ∈ ds → sz d ≤ szAll ds
  | e :: r, d, h => by
    show sz d ≤ sz e + szAll r
    rcases List.mem_cons.mp h with rfl | h
    · omega
    · have := szAll_mem h
      omega
theorem szAll_ints : ∀ ns : List Int, szAll (ns.map PyData.int) = ns.length
  | [] => rfl
  | n :: r => by
    show 1 + szAll (r.map PyData.int) = r.length + 1
    rw [szAll_ints r]
    omega
theorem szAll_le {B : Nat} : ∀ ds : List PyData, (∀ d ∈ ds, sz d ≤ B) → szAll ds ≤ ds.length * B
  | [], _ => Nat.zero_le _
  | d :: r, h => by
    have h1 := h d (List.mem_cons_self ..)
    have h2 := szAll_le r fun x hx => h x (List.mem_cons_of_mem _ hx)
    show sz d + szAll r ≤ (r.length + 1) * B
    rw [Nat.succ_mul]
    omega
def zb (L : Nat) : Nat → Nat
  | 0 => 1
  | D + 1 => 1 + L * zb L D
theorem leaf_sz {L : Nat} : ∀ {d : PyData}, leafOk L d → sz d = 1
  | .none, _ => rfl
  | .bool _, _ => rfl
  | .int _, _ => rfl
  | .str _, _ => rfl
theorem Wf.sz {L : Nat} : ∀ {D : Nat} {d : PyData}, Wf L D d → sz d ≤ zb L D
  | 0, _, g => Nat.le_of_eq (leaf_sz g)
  | D + 1, d, g => by
    have h1 : 1 ≤ zb L (D + 1) := by show 1 ≤ 1 + L * zb L D; omega
    rcases g with g | rfl | ⟨ds, e, l, c⟩
    · rw [leaf_sz g]; exact h1
    · exact h1
    · have h2 := szAll_le ds fun x hx => Wf.sz (c x hx)
      have h3 : ds.length * zb L D ≤ L * zb L D := Nat.mul_le_mul_right _ l
      rcases e with rfl | rfl
      · show 1 + szAll ds ≤ 1 + L * zb L D
        omega
      · show 1 + szAll ds ≤ 1 + L * zb L D
        omega
theorem piled_sz : ∀ ds : List PyData, (∀ d ∈ ds, d.shown.length + 5 ≤ 710 * TR.sz d) → piled (PyData.shownAll ds) ≤ 710 * szAll ds
  | [], _ => Nat.zero_le _
  | d :: r, h => by
    have h1 := h d (List.mem_cons_self ..)
    have h2 := piled_sz r fun x hx => h x (List.mem_cons_of_mem _ hx)
    show piled (d.shown :: PyData.shownAll r) ≤ 710 * (TR.sz d + szAll r)
    rw [piled_cons]
    omega
theorem Wf.shownS {L : Nat} (h : L ≤ 41) : ∀ {D : Nat} {d : PyData}, Wf L D d → d.shown.length + 5 ≤ 710 * TR.sz d ∧ d.showable = true ∧ d.depth ≤ D
  | 0, _, g => by
    obtain ⟨a, b, c⟩ := leaf_shown h g
    rw [leaf_sz g]
    exact ⟨by omega, b, by omega⟩
  | D + 1, d, g => by
    rcases g with g | rfl | ⟨ds, e, l, c⟩
    · obtain ⟨a, b, c⟩ := leaf_shown h g
      rw [leaf_sz g]
      exact ⟨by omega, b, by omega⟩
    · exact ⟨(by decide +kernel : _ + 5 ≤ 710 * 1), rfl, by show 0 + 1 ≤ D + 1; omega⟩
    · have ih := fun x hx => Wf.shownS h (c x hx)
      have p1 := piled_sz ds fun x hx => (ih x hx).1
      have p2 := showAll ds fun x hx => (ih x hx).2.1
      have p3 := depAll ds fun x hx => (ih x hx).2.2
      rcases e with rfl | rfl
      · refine ⟨?_, p2, ?_⟩
        · show (listText (PyData.shownAll ds)).length + 5 ≤ 710 * (1 + szAll ds)
          have := list_le (PyData.shownAll ds)
          omega
        · show PyData.depthAll ds + 1 ≤ D + 1
          omega
      · refine ⟨?_, p2, ?_⟩
        · show (tupleText (PyData.shownAll ds)).length + 5 ≤ 710 * (1 + szAll ds)
          have := tup_le (PyData.shownAll ds)
          omega
        · show PyData.depthAll ds + 1 ≤ D + 1
          omega
theorem shown_fits {d : PyData} {S : Nat} (h : d.shown.length + 5 ≤ 710 * TR.sz d) (g : TR.sz d ≤ S) (k : S ≤ 20000) : d.shown.length ≤ sizeLine := by
  rw [sizeLine_eq]
  omega
end TR
namespace TR
open PySem PySem.Spec PyProof.Rows L2
section
variable {X : Cx} {pins : List (Addr × Obj)} {σ : L2.St} {H : Hp} {s : Shared}
mutual
theorem Rp.reads {ban : List Addr} (hb : sysModules ∈ ban) (I : Inv X pins σ H s) : ∀ (d : PyData) (v : V) (u : Value), Rp H ban d v → RelV v u → ∃ as, Reads s.heap u d as ∧ sysModules ∉ as
  | .none, _, _, h, r => by cases (show _ = V.non from h); cases r; exact ⟨_, .none, by simp⟩
  | .bool b, _, _, h, r => by cases (show _ = V.bl b from h); cases r; exact ⟨_, .bool b, by simp⟩
  | .int i, _, _, h, r => by cases (show _ = V.int i from h); obtain ⟨t, rfl⟩ := r; exact ⟨_, .int i t, by simp⟩
  | .str x, _, _, h, r => by cases (show _ = V.str x from h); obtain ⟨t, rfl⟩ := r; exact ⟨_, .str x t, by simp⟩
  | .list ds, _, _, h, r => by
    obtain ⟨a, xs, rfl, h1, h2, h3⟩ := h
    cases r
    obtain ⟨z, its, n, rv, e⟩ := (show ObjOk X.prog X.w H s.heap a (.lst xs) from I.hok a _ h1)
    obtain ⟨as, g, m⟩ := RpAll.reads hb I ds xs its h3 rv
    exact ⟨a :: as, .list e rfl rfl (by simpa using g), by simp only [List.mem_cons, not_or]; exact ⟨fun e => h2 (e ▸ hb), m⟩⟩
  | .tuple ds, _, _, h, r => by
    obtain ⟨a, xs, rfl, h1, h3⟩ := h
    cases r
    obtain ⟨z, its, rv, o, e, c, n, hd⟩ := h1.rd.ok I.hok
    obtain ⟨as, g, m⟩ := RpAll.reads hb I ds xs its h3 rv
    exact ⟨as, .tuple e c hd (by simpa using g), m⟩
  | .dict kvs, _, _, h, r => by
    obtain ⟨rfl, a, rfl, h1, _⟩ := h
    cases r
    obtain ⟨z, hs, vs, kv, o, es, ep, e, ex, hd, _, ps, _⟩ := dk_of I.hok h1
    cases kv
    have hes : es = #[] := by
      cases es with
      | mk l =>
        cases (show Pairs _ l [] from ps)
        rfl
    subst hes
    refine ⟨[a], .dict (as := []) (bs := []) e ex.1 hd .nil .nil, fun m => ?_⟩
    have e2 : sysModules = a := List.mem_singleton.mp m
    rw [e2] at hs
    exact absurd hs (by simp)
theorem RpAll.reads {ban : List Addr} (hb : sysModules ∈ ban) (I : Inv X pins σ H s) : ∀ (ds : List PyData) (xs : List V) (us : List Value), RpAll H ban ds xs → Vals xs us → ∃ as, ReadsAll s.heap us ds as ∧ sysModules ∉ as
  | [], _, _, h, r => by cases (show _ = [] from h); cases r; exact ⟨_, .nil, by simp⟩
  | d :: ds, _, _, h, r => by
    obtain ⟨v, t, rfl, h1, h2⟩ := h
    cases r with
    | cons r1 r2 =>
      obtain ⟨as, q1, m1⟩ := Rp.reads hb I d _ _ h1 r1
      obtain ⟨bs, q2, m2⟩ := RpAll.reads hb I ds _ _ h2 r2
      exact ⟨as ++ bs, .cons q1 q2, by simp only [List.mem_append, not_or]; exact ⟨m1, m2⟩⟩
end
end
section
variable {X : Cx}
/-- repr(x), x of any kind -/
theorem call_reprD (hg : X.A.guards = some []) (hu : X.A.units + 64 < cLine) : CallR X (.builtin "repr") (fun xs H Q => ∃ x d ban, xs = [x] ∧ sysModules ∈ ban ∧ Rp H ban d x ∧ d.showable = true ∧ d.depth ≤ 50 ∧ d.shown.length ≤ sizeLine ∧ Q (.str d.shown) H) := by
  intro pins s σ H xs us Q I r ⟨x, d, ban, ex, hb, hp, hs, hd, hz, q⟩
  subst ex
  obtain ⟨u, rfl, rx⟩ := vals1 r
  obtain ⟨as, rd, m⟩ := Rp.reads hb I d x u hp rx
  have fin : ∀ (h' : Heap) (t : Tok) (tk : Nat), (∀ b o, s.heap.get? b = some o → h'.get? b = some o) → EP X pins σ Q (.str d.shown t) { s with heap := h', toks := tk } := fun h' t tk kp => ⟨.str d.shown, H, I.kept (t' := tk) kp, ⟨t, rfl⟩, q⟩
  have here : ∀ (t : Tok) (tk : Nat), EP X pins σ Q (.str d.shown t) { s with toks := tk } := fun t tk => fin s.heap t tk fun _ _ e => e
  cases rd with
  | none => exact PySem.P.repr_of_none (here _ _)
  | bool b => exact PySem.P.repr_of_bool (here _ _)
  | int i t => exact PySem.P.repr_of_int (of_decide_eq_true hs) (here _ _)
  | str z t => exact PySem.P.repr_of_str (here _ _) hz
  | list h1 h2 h3 h4 => exact repr_of_reads' (.list h1 h2 h3 h4) hs (fun _ => m) hg (by omega) (fun _ _ e => e) (fun h' u tk kp => fin h' u tk kp) hz
  | tuple h1 h2 h3 h4 => exact repr_of_reads' (.tuple h1 h2 h3 h4) hs (fun _ => m) hg (by omega) (fun _ _ e => e) (fun h' u tk kp => fin h' u tk kp) hz
  | dict h1 h2 h3 h4 h5 => exact repr_of_reads' (.dict h1 h2 h3 h4 h5) hs (fun _ => m) hg (by omega) (fun _ _ e => e) (fun h' u tk kp => fin h' u tk kp) hz
/-- xs == [] -/
theorem op_eqL0 (hu : X.A.units < cLine) : OpR X (compareOp .Eq) (fun x y H Q => ∃ a b xs, x = .ref a ∧ y = .ref b ∧ SqL X.K H a xs ∧ SqL X.K H b [] ∧ Q (.bl xs.isEmpty) H) := by
  intro pins s σ H x y v u Q I rx ry ⟨a, b, xs, ex, ey, ha, hb, q⟩
  subst ex ey; cases rx; cases ry
  obtain ⟨its, r1, p1, _⟩ := I.list ha
  obtain ⟨its2, r2, p2, _⟩ := I.list hb
  cases r2
  cases r1 with
  | nil => exact SeqAt.RcAt.lists (e := fun _ => true) p1.isList p2.isList rfl hu (fun j j1 _ => absurd j1 (by simp)) _ _ _ _ ⟨.bl true, H, I, rfl, q⟩
  | cons _ _ => exact SeqAt.RcAt.lists_lengths p1.isList p2.isList (by simp) hu _ _ _ _ ⟨.bl false, H, I, rfl, q⟩
/-- xs != [] -/
theorem op_neL0 (hu : X.A.units < cLine) : OpR X (compareOp .NotEq) (fun x y H Q => ∃ a b xs, x = .ref a ∧ y = .ref b ∧ SqL X.K H a xs ∧ SqL X.K H b [] ∧ Q (.bl (!xs.isEmpty)) H) := by
  intro pins s σ H x y v u Q I rx ry ⟨a, b, xs, ex, ey, ha, hb, q⟩
  subst ex ey; cases rx; cases ry
  obtain ⟨its, r1, p1, _⟩ := I.list ha
  obtain ⟨its2, r2, p2, _⟩ := I.list hb
  cases r2
  cases r1 with
  | nil => exact SeqAt.RcNeAt.lists (e := fun _ => true) p1.isList p2.isList rfl hu (fun j j1 _ => absurd j1 (by simp)) _ _ _ _ ⟨.bl false, H, I, rfl, q⟩
  | cons _ _ => exact SeqAt.RcNeAt.lists_lengths p1.isList p2.isList (by simp) hu _ _ _ _ ⟨.bl true, H, I, rfl, q⟩
/-- t != () -/
theorem op_neT0 (hu : X.A.units < cLine) : OpR X (compareOp .NotEq) (fun x y H Q => ∃ a b xs, x = .ref a ∧ y = .ref b ∧ SqT X.K H a xs ∧ SqT X.K H b [] ∧ Q (.bl (!xs.isEmpty)) H) := by
  intro pins s σ H x y v u Q I rx ry ⟨a, b, xs, ex, ey, ha, hb, q⟩
  subst ex ey; cases rx; cases ry
  obtain ⟨its, r1, p1, _⟩ := I.tuple ha
  obtain ⟨its2, r2, p2, _⟩ := I.tuple hb
  cases r2
  have h := SeqAt.RcNeAt.tuples (A := X.A) (s := s) (e := fun _ => true) p1 p2 hu (fun j _ j2 => absurd j2 (by simp))
  cases r1 with
  | nil => exact h _ _ _ _ ⟨.bl false, H, I, rfl, q⟩
  | cons _ _ => exact h _ _ _ _ ⟨.bl true, H, I, rfl, q⟩
/-- b + i, b - i, b a bool -/
theorem op_add_bi : OpR X (binaryOp .Add) (fun x y H Q => ∃ k i, x = .bl k ∧ y = .int i ∧ Q (.int ((if k = true then (1 : Int) else 0) + i)) H) := by
  intro pins s σ H x y v u Q I rx ry ⟨k, i, ex, ey, q⟩
  subst ex ey; cases rx; obtain ⟨t, rfl⟩ := ry
  exact PySem.IntBool.add_bool_int ⟨.int _, H, I.tok _, ⟨_, rfl⟩, q⟩
theorem op_sub_bi : OpR X (binaryOp .Sub) (fun x y H Q => ∃ k i, x = .bl k ∧ y = .int i ∧ Q (.int ((if k = true then (1 : Int) else 0) - i)) H) := by
  intro pins s σ H x y v u Q I rx ry ⟨k, i, ex, ey, q⟩
  subst ex ey; cases rx; obtain ⟨t, rfl⟩ := ry
  exact PySem.IntBool.sub_bool_int ⟨.int _, H, I.tok _, ⟨_, rfl⟩, q⟩
/-- two rules for one operator: by what stands there -/
theorem OpR.either {f : Value → Value → Sem Value} {r1 r2 : R2} (h1 : OpR X f r1) (h2 : OpR X f r2) : OpR X f (fun x y H Q => r1 x y H Q ∨ r2 x y H Q) := by
  intro pins s σ H x y v u Q I rx ry h
  rcases h with h | h
  · exact h1 pins s σ H x y v u Q I rx ry h
  · exact h2 pins s σ H x y v u Q I rx ry h
/-- str(i), str(b) -/
theorem call_str_ib : CallR X (.type "str") (fun xs H Q => (∃ i, xs = [.int i] ∧ i.natAbs.log2 < 1920 ∧ Q (.str (toString i)) H) ∨ ∃ k : Bool, xs = [.bl k] ∧ Q (.str (if k then "True" else "False")) H) := by
  intro pins s σ H xs us Q I r h
  rcases h with h | ⟨k, ex, q⟩
  · exact call_str_int pins s σ H xs us Q I r h
  · subst ex
    obtain ⟨u, rfl, rx⟩ := vals1 r
    cases rx
    exact PySem.P.str_of_bool ⟨.str _, H, I.tok _, ⟨_, rfl⟩, q⟩
/-- [..]: a new list never stands where the modules' table stands -/
def tLstM (t : TA) : TE := fun σ H Q => t σ H fun xs H1 => xs.length ≤ sizeLine ∧ ∀ p, H1 p = none → p ≠ sysModules → Q (.ref p) (upd H1 p (.lst xs))
theorem pe_lstM {es : List Expr} {t : TA} {pos : Pos} (h : PA X es t) : PE X (.List es pos) (tLstM t) := by
  refine ⟨fun pins s σ H Q I hq => wpAny_List_spliced (thn (h.run pos pins s σ H _ I hq) fun us s1 ⟨xs, H1, I1, r, z, q⟩ => ⟨by rw [← r.length]; exact z, ?_⟩)⟩
  exact ⟨.ref s1.heap.objs.size, _, I1.laid (t' := s1.toks) (o := .lst xs) (fun b u e => Heap.get?_push_of_some _ e) (Nat.le_refl _) ⟨z, us, 0, r, Heap.get?_push_size _ rfl⟩, rfl, q _ (I1.hok.fresh (Nat.le_refl _)) (Nat.ne_of_gt I1.big)⟩
/-- list(t), t a tuple -/
theorem call_listM : CallR X (.type "list") (fun xs H Q => ∃ p ys, xs = [.ref p] ∧ SqT X.K H p ys ∧ ∀ l, H l = none → l ≠ sysModules → Q (.ref l) (upd H l (.lst ys))) := by
  intro pins s σ H xs us Q I r ⟨p, ys, ex, hq, q⟩
  subst ex
  obtain ⟨u, rfl, rx⟩ := vals1 r
  cases rx
  obtain ⟨its, r', pl, hz⟩ := I.tuple hq
  have hlen := r'.length
  obtain ⟨o, ho, hc, n, hd⟩ := pl
  refine call_list_seq p (.inr rfl) ho hc hd (fun h' c' kp e => ?_) (by simp only [List.size_toArray] <;> omega)
  exact ⟨.ref s.heap.objs.size, _, I.laid (t' := s.toks) (o := .lst ys) kp (Nat.le_refl _) ⟨hz, its, c', r', e⟩, rfl, q _ (I.hok.fresh (Nat.le_refl _)) (Nat.ne_of_gt I.big)⟩
end
/-! ### the type of a value -/
def tyD : PyData → String
  | .none => "NoneType"
  | .bool _ => "bool"
  | .int _ => "int"
  | .str _ => "str"
  | .list _ => "list"
  | .tuple _ => "tuple"
  | .dict _ => "dict"
theorem tyRp {K : PySem.W.Frag} {H : Hp} {ban : List Addr} : ∀ {d : PyData} {v : V}, Rp H ban d v → TyX K H v (.type (tyD d))
  | .none, _, h => by rw [show _ = V.non from h]; exact .base .non
  | .bool b, _, h => by rw [show _ = V.bl b from h]; exact .base (.bl b)
  | .int i, _, h => by rw [show _ = V.int i from h]; exact .base (.int i)
  | .str x, _, h => by rw [show _ = V.str x from h]; exact .base (.str x)
  | .list ds, _, h => by
    obtain ⟨a, xs, rfl, h1, _⟩ := h
    exact .base (.lst h1)
  | .tuple ds, _, h => by
    obtain ⟨a, xs, rfl, ⟨o, _, h1⟩, _⟩ := h
    exact .fTuple h1
  | .dict kvs, _, h => by
    obtain ⟨_, a, rfl, h1, _⟩ := h
    exact .base (.dK h1)
theorem kit7 : ∀ t ∈ ["NoneType", "bool", "int", "str", "list", "tuple", "dict"], kitB t "tuple" = some (decide (t = "tuple")) ∧ kitB t "int" = some (decide (t = "int" ∨ t = "bool")) ∧ kitB t "bool" = some (decide (t = "bool")) := by decide +kernel
theorem tyD_mem (d : PyData) : tyD d ∈ ["NoneType", "bool", "int", "str", "list", "tuple", "dict"] := by cases d <;> simp [tyD]
theorem kitD {K : PySem.W.Frag} (d : PyData) : PySem.W.kitOne K (.type (tyD d)) (.type "tuple") = some (decide (tyD d = "tuple")) ∧ PySem.W.kitOne K (.type (tyD d)) (.type "int") = some (decide (tyD d = "int" ∨ tyD d = "bool")) ∧ PySem.W.kitOne K (.type (tyD d)) (.type "bool") = some (decide (tyD d = "bool")) := by
  obtain ⟨a, b, c⟩ := kit7 (tyD d) (tyD_mem d)
  exact ⟨kit_ty a, kit_ty b, kit_ty c⟩
end TR
namespace TR
open PySem PySem.Spec PyProof.Rows L2
section
variable {X : Cx}
/-! ### new objects, told by what holds behind them -/
def tTupN (t : TA) : TE := fun σ H Q => t σ H fun xs H1 => xs.length ≤ sizeLine ∧ ∀ p H', H1 p = none → Same H1 H' → TF H' p xs → Q (.ref p) H'
theorem pe_tupN {es : List Expr} {t : TA} {pos : Pos} {x1} (h : PA X es t) : PE X (.Tuple es x1 pos) (tTupN t) := by
  refine ⟨fun pins s σ H Q I hq => wpAny_Tuple_spliced (thn (h.run pos pins s σ H _ I hq) fun us s1 ⟨xs, H1, I1, r, z, q⟩ => ⟨by rw [← r.length]; exact z, ?_⟩)⟩
  have hf : H1 s1.heap.objs.size = none := I1.hok.fresh (Nat.le_refl _)
  exact ⟨.ref s1.heap.objs.size, _, I1.laid (t' := s1.toks) (o := .frz { cls := .type "tuple", data := .seq us.toArray } (.tup xs)) (fun b u e => Heap.get?_push_of_some _ e) (Nat.le_refl _) ⟨Heap.get?_push_size _ rfl, z, us, r, IsTup.new _ _⟩, rfl, q _ _ hf (same_upd hf) (TF.new rfl)⟩
def tLstN (t : TA) : TE := fun σ H Q => t σ H fun xs H1 => xs.length ≤ sizeLine ∧ ∀ p H', H1 p = none → p ≠ sysModules → Same H1 H' → H' p = some (.lst xs) → Q (.ref p) H'
theorem pe_lstN {es : List Expr} {t : TA} {pos : Pos} (h : PA X es t) : PE X (.List es pos) (tLstN t) := by
  refine ⟨fun pins s σ H Q I hq => wpAny_List_spliced (thn (h.run pos pins s σ H _ I hq) fun us s1 ⟨xs, H1, I1, r, z, q⟩ => ⟨by rw [← r.length]; exact z, ?_⟩)⟩
  have hf : H1 s1.heap.objs.size = none := I1.hok.fresh (Nat.le_refl _)
  exact ⟨.ref s1.heap.objs.size, _, I1.laid (t' := s1.toks) (o := .lst xs) (fun b u e => Heap.get?_push_of_some _ e) (Nat.le_refl _) ⟨z, us, 0, r, Heap.get?_push_size _ rfl⟩, rfl, q _ _ hf (Nat.ne_of_gt I1.big) (same_upd hf) upd_same⟩
def tDNewN : TE := fun _ H Q => ∀ p H', H p = none → Same H H' → H' p = some (.dK []) → Q (.ref p) H'
theorem pe_dnewN {pos : Pos} : PE X (.Dict [] [] pos) tDNewN := by
  refine ⟨fun pins s σ H Q I h => (pe_dnewK (pos := pos)).run pins s σ H Q I ?_⟩
  exact fun p hp => h p _ hp (same_upd hp) upd_same
/-- xs + ys, lists -/
theorem op_catN : OpR X (binaryOp .Add) (fun x y H Q => ∃ a b xs ys, x = .ref a ∧ y = .ref b ∧ H a = some (.lst xs) ∧ H b = some (.lst ys) ∧ xs.length + ys.length ≤ sizeLine ∧ ∀ p H', H p = none → Same H H' → H' p = some (.lst (xs ++ ys)) → Q (.ref p) H') := by
  intro pins s σ H x y v u Q I rx ry ⟨a, b, xs, ys, ex, ey, ha, hb, hz, q⟩
  exact op_cat pins s σ H x y v u Q I rx ry ⟨a, b, xs, ys, ex, ey, ha, hb, hz, fun p hp => q p _ hp (same_upd hp) upd_same⟩
/-- t + u, tuples: some tuple of both -/
theorem op_catTN : OpR X (binaryOp .Add) (fun x y H Q => ∃ a b xs ys, x = .ref a ∧ y = .ref b ∧ TF H a xs ∧ TF H b ys ∧ xs.length + ys.length ≤ sizeLine ∧ ∀ p H', Same H H' → TF H' p (xs ++ ys) → Q (.ref p) H') := by
  intro pins s σ H x y v u Q I rx ry ⟨a, b, xs, ys, ex, ey, ha, hb, hz, q⟩
  refine op_catF pins s σ H x y v u Q I rx ry ⟨a, b, xs, ys, ex, ey, .inl ha.rd, .inl hb.rd, hz, fun e => ?_, fun _ e => ?_, fun _ _ p o hp ho => q p _ (same_upd hp) (TF.new ho)⟩
  · subst e; exact q b H (Same.refl _) hb
  · subst e; exact q a H (Same.refl _) (by rw [List.append_nil]; exact ha)
theorem cut_whole {xs : List V} {lo hi : Option Int} (h : HT.sIx xs.length 0 lo = 0 ∧ HT.sIx xs.length xs.length hi = xs.length) : cutV xs lo hi = xs := by
  unfold cutV
  rw [h.1, h.2]
  exact List.take_of_length_le (by simp)
/-- t[lo:hi]: some tuple of the part -/
theorem sl_tupN : SlR X (fun x lo hi H Q => ∃ a xs, x = .ref a ∧ TF H a xs ∧ ∀ p H', Same H H' → TF H' p (cutV xs lo hi) → Q (.ref p) H') := by
  intro pins s σ H x v vl vu lo hi sl Q I rx hs pl pu ⟨a, xs, ex, hx, q⟩
  refine sl_tupF pins s σ H x v vl vu lo hi sl Q I rx hs pl pu ⟨a, xs, ex, .inl hx.rd, fun hw => ?_, fun _ p o hp ho => q p _ (same_upd hp) (TF.new ho)⟩
  exact q a H (Same.refl _) (by rw [cut_whole hw]; exact hx)
/-- t[::-1] -/
def tRevN (te : TE) : TE := fun σ H Q => te σ H fun x H1 => ∃ a xs, x = .ref a ∧ TF H1 a xs ∧ ∀ p H', Same H1 H' → TF H' p xs.reverse → Q (.ref p) H'
theorem pe_revN {e : Expr} {te : TE} {k : Nat} {p1 p2 p3 pos : Pos} (he : PE X e te) (mono : ∀ σ H (Q Q' : VK), (∀ x H', Q x H' → Q' x H') → te σ H Q → te σ H Q') : PE X (.Subscript e (.Slice none none (some (.UnaryOp .USub (.Constant (.int 1) k p1) p2)) p3) pos) (tRevN te) := by
  refine ⟨fun pins s σ H Q I h => (pe_revT he).run pins s σ H Q I (mono σ H _ _ (fun x H1 hq => ?_) h)⟩
  obtain ⟨a, xs, ex, hx, q⟩ := hq
  exact ⟨a, xs, ex, .inl hx.rd, fun p o hp ho => q p _ (same_upd hp) (TF.new ho)⟩
/-- tuple(range(..)) -/
def tTupRgN (te : L2.St → Hp → (Int → Int → Hp → Prop) → Prop) : TE := fun σ H Q => te σ H fun a b H1 => RgOk a b ∧ ∀ p H', H1 p = none → Same H1 H' → TF H' p (rgV a b) → Q (.ref p) H'
theorem pe_tupRgN {e : Expr} {te : L2.St → Hp → (Int → Int → Hp → Prop) → Prop} {p pos : Pos} (hc : X.calm = true) (hg : Gl X "tuple") (hm : X.mg "tuple" = none) (he : PRg X e te) (na : starEach [e] X.env = (false, eval e X.env) :: starEach [] X.env := by rfl) : PE X (.Call (.Name "tuple" p) [e] [] pos) (tTupRgN te) := by
  refine ⟨fun pins s σ H Q I h => ?_⟩
  refine Call_ (ld_blt I hg hm boot_tuple (PyProof.Rows.callWith_type1 (args_cons (thn (he pins s σ H _ I h) fun x s1 ⟨r, a, b, t, u, v, H1, ex, hr, I1, ok, q⟩ => args_nil ?_) na) na))
  subst ex
  obtain ⟨b1, b2, b3, b4, b5⟩ := ok
  refine call_tuple_range (n := (b - a).toNat) (I1.ok.hd hc) hr (small_one b1 b2 b3 b4) (rangeSize_nat a b) b5 fun h' tk acc hk hi => ?_
  have I2 : Inv X pins σ H1 { s1 with heap := h', toks := tk } := I1.kept hk
  have hf : H1 h'.objs.size = none := I2.hok.fresh (Nat.le_refl _)
  refine ⟨.ref h'.objs.size, upd H1 h'.objs.size (.frz { cls := .type "tuple", data := .seq acc } (.tup (rgV a b))), I2.laid (t' := tk) (fun c o e => Heap.get?_push_of_some _ e) (Nat.le_refl _) (show ObjOk X.prog X.w _ _ _ (.frz { cls := .type "tuple", data := .seq acc } (.tup (rgV a b))) from ⟨Heap.get?_push_size _ rfl, ?_, acc.toList, vals_rg hi, ?_⟩), rfl, q _ _ hf (same_upd hf) (TF.new rfl)⟩
  · rw [rgV_length, sizeLine_eq]; omega
  · rw [Array.toArray_toList]; exact IsTup.new _ _
/-- list(t) -/
theorem call_listN : CallR X (.type "list") (fun xs H Q => ∃ a ys, xs = [.ref a] ∧ Rd H a (.tup ys) ∧ ∀ p H', H p = none → p ≠ sysModules → Same H H' → H' p = some (.lst ys) → Q (.ref p) H') := by
  intro pins s σ H xs us Q I r ⟨a, ys, ex, hx, q⟩
  exact call_listM pins s σ H xs us Q I r ⟨a, ys, ex, .inl hx, fun p hp n => q p _ hp n (same_upd hp) upd_same⟩
end
end TR
namespace TR
open PySem PySem.Spec PyProof.Rows L2
section
variable {X : Cx}
/-- t * k, k from 2 to 100, t a tuple of at most 100 items: a new tuple as the very object -/
theorem op_repTF : OpR X (binaryOp .Mult) (fun x y H Q => ∃ (l : Addr) (k : Int) (xs : List V), x = .ref l ∧ y = .int k ∧ TF H l xs ∧ xs ≠ [] ∧ 2 ≤ k ∧ k ≤ 100 ∧ xs.length ≤ 100 ∧ ∀ p H', Same H H' → TF H' p (List.replicate k.toNat xs).flatten → Q (.ref p) H') := by
  intro pins s σ H x y v u Q I rx ry ⟨l, k, xs, ex, ey, hT, hne, g1, g2, hz, q⟩
  subst ex ey
  cases rx
  obtain ⟨tk, rfl⟩ := ry
  obtain ⟨its, r, ⟨⟨cls, dd, data, sl⟩, ho, hc, n, hd⟩, _⟩ := I.tuple (show SqT X.K H l xs from .inl hT.rd)
  dsimp only at hc hd
  subst hc hd
  have lenE : its.length = xs.length := r.length.symm
  have nonE : its.toArray.isEmpty = false := by
    cases its with
    | nil => exact absurd (List.eq_nil_of_length_eq_zero lenE.symm) hne
    | cons _ _ => rfl
  have sizE : its.toArray.size = xs.length := by rw [List.size_toArray, lenE]
  have prodE : ((its.toArray.size : Nat) : Int) * k ≤ 10000 := by
    rw [sizE]
    have := Int.mul_le_mul_of_nonneg_right (show ((xs.length : Nat) : Int) ≤ 100 by omega) (show 0 ≤ k by omega)
    omega
  have flatE : k.toNat * xs.length ≤ 100 * 100 := Nat.mul_le_mul (by omega) hz
  have lenF : (List.replicate k.toNat its).flatten.length ≤ sizeLine := by
    rw [PyProof.Rows.lm_len_rep_flat, lenE, sizeLine_eq]
    omega
  have b0 : (decide (k < -(2 ^ 63)) || decide (k ≥ 2 ^ 63)) = false := by simp; omega
  have b1 : (its.toArray.isEmpty || k == 1) = false := by simp [nonE]; omega
  have b2 : (decide (k ≤ 0) || its.toArray.isEmpty) = false := by simp [nonE]; omega
  have b4 : Builtin.Tuple.tupleTooMany (((its.toArray.size : Nat) : Int) * k) = false := decide_eq_false (by rw [sizeLine_eq]; omega)
  have mulE := tuple_mulW l its.toArray n dd sl k tk b0 b1 b2 (by omega) b4 (by rw [size_rep, List.size_toArray]; exact lenF)
  refine wpAny_binaryOp_repeat_ref (T := "tuple") (U := "int") (by decide) ⟨_, ho, rfl⟩ (fun s' => typeIs_int s' k tk) noFill_tuple_mul F.fills_int_mul F.slot_int_rmul repeat_tuple F.slot_int_index.lookup (call_meets F.slot_int_rmul (typeIs_int s k tk) F.entry_int_rmul (F.args_int_rmul_2 _ _) (int_rmul_tuple k tk l its.toArray n dd sl) ⟨ho, rfl, ⟨_, ho, rfl⟩, ?_⟩)
  refine call_meets F.slot_tuple_mul ⟨_, ho, rfl⟩ F.entry_tuple_mul (F.args_tuple_mul_2 _ _) mulE ⟨ho, ?_⟩
  rw [size_rep]
  have fr : H s.heap.objs.size = none := I.hok.fresh (Nat.le_refl _)
  refine ⟨.ref s.heap.objs.size, _, I.laid (t' := s.toks) (o := .frz { cls := .type "tuple", data := .seq (List.replicate k.toNat its).flatten.toArray } (.tup (List.replicate k.toNat xs).flatten)) (fun b u e => Heap.get?_push_of_some _ e) (Nat.le_refl _) ⟨Heap.get?_push_size _ rfl, ?_, _, r.rep k.toNat, IsTup.new _ _⟩, rfl, q _ _ (same_upd fr) (TF.new rfl)⟩
  rw [PyProof.Rows.lm_len_rep_flat, sizeLine_eq]
  omega
end
end TR
namespace TR
open PySem PySem.Spec PyProof.Rows L2
/-! ### the layer of data: what a slot holds, what a state is -/
structure XD where
  cls : Addr
  fld : Option (Str × PyData)
inductive AV where
  | dat (d : PyData)
  | own (ds : List PyData)
  | dct (kvs : List (PyData × PyData))
  | bor (d : PyData)
  | deck
  | exc (x : XD)
structure AS where
  sl : List (Option AV)
  n : Nat
abbrev XP := XD → AS → Prop
inductive Op where
  | val (d : PyData)
  | slot (i : Nat)
  | deck
abbrev AE := XP → AS → (PyData → AS → Prop) → Prop
abbrev AO := XP → AS → (Op → AS → Prop) → Prop
abbrev AT := XP → AS → (Bool → AS → Prop) → Prop
abbrev AA := XP → AS → (List Op → AS → Prop) → Prop
structure AEnds where
  nx : AS → Prop
  rt : PyData → Nat → Prop
  bk : AS → Prop := fun _ => False
  ct : AS → Prop := fun _ => False
abbrev AST := XP → AEnds → AS → Prop
/-! ### how it stands in the heap -/
structure Fx where
  B : List Addr
  dk0 : Option (Addr × Addr × Addr)
  H0 : Hp
  T : List (PyData × V)
  Z : List (Addr × HO)
  ex : Option (Addr × Addr × Option Addr)
  cs : List Addr
/-- what is wanted of an exception; the one that is handled -/
structure EC where
  x : L2.St → XK
  ex : Option (Addr × Addr × Option Addr)
  cs : List Addr
abbrev EC.z (Ec : EC) : EC := ⟨fun _ _ _ _ => False, Ec.ex, Ec.cs⟩
abbrev eE (E : XK) : EC := ⟨fun _ => E, none, []⟩
structure OE where
  dk : Option (Addr × Addr × Addr)
  R : List (Nat × Addr)
def OE.add (E : OE) (i : Nat) (l : Addr) : OE := ⟨E.dk, (i, l) :: E.R⟩
def dkl : Option (Addr × Addr × Addr) → List Addr
  | none => []
  | some (d, p, q) => [d, p, q]
def chg (E : OE) : List Addr := dkl E.dk ++ E.R.map (·.2)
def ban (Φ : Fx) (E : OE) : List Addr := chg E ++ (Φ.Z.map (·.1) ++ Φ.B)
def Le (E' E : OE) : Prop := E'.dk = E.dk ∧ ∀ x ∈ E'.R, x ∈ E.R
theorem Le.refl (E : OE) : Le E E := ⟨rfl, fun _ h => h⟩
theorem Le.trans {a b c : OE} (h : Le a b) (g : Le b c) : Le a c := ⟨h.1.trans g.1, fun x hx => g.2 x (h.2 x hx)⟩
theorem Le.chg {E' E : OE} (h : Le E' E) : ∀ a ∈ chg E', a ∈ TR.chg E := fun a ha => by
  unfold TR.chg at ha ⊢
  rw [h.1] at ha
  rcases List.mem_append.mp ha with h1 | h1
  · exact List.mem_append_left _ h1
  · obtain ⟨x, hx, rfl⟩ := List.mem_map.mp h1
    exact List.mem_append_right _ (List.mem_map.mpr ⟨x, h.2 x hx, rfl⟩)
theorem ban_sub {Φ : Fx} {E' E : OE} (h : ∀ a ∈ chg E', a ∈ chg E) : ∀ a ∈ ban Φ E', a ∈ TR.ban Φ E := fun a ha => by
  unfold TR.ban at ha ⊢
  rcases List.mem_append.mp ha with h2 | h2
  · exact List.mem_append_left _ (h a h2)
  · exact List.mem_append_right _ h2
theorem Le.ban {Φ : Fx} {E' E : OE} (h : Le E' E) : ∀ a ∈ ban Φ E', a ∈ TR.ban Φ E := ban_sub h.chg
def KB (E : OE) (H H' : Hp) : Prop := ∀ b o, H b = some o → b ∉ chg E → H' b = some o
theorem KB.refl (E : OE) (H : Hp) : KB E H H := fun _ _ h _ => h
theorem KB.trans {E E1 : OE} {H H1 H2 : Hp} (a : KB E H H1) (l : Le E1 E) (b : KB E1 H1 H2) : KB E H H2 := fun c o h n => b c o (a c o h n) fun m => n (l.chg c m)
theorem KB.of_same {E : OE} {H H1 : Hp} (s : Same H H1) : KB E H H1 := fun _ _ h _ => s _ _ h
/-- a list may stand where nothing else of the data may -/
def RpX (H : Hp) (bn : List Addr) (d : PyData) (v : V) : Prop := Rp H bn d v ∨ ∃ a ds xs, d = .list ds ∧ v = .ref a ∧ H a = some (.lst xs) ∧ RpAll H bn ds xs
/-- an exception: its class, its field's value -/
def XRep (H : Hp) (bn : List Addr) (x : XD) (da : Option Addr) : Prop := match x.fld with
  | none => da = none
  | some (f, d) => ∃ e v, da = some e ∧ H e = some (.xd [(f, v)]) ∧ Rp H bn d v
/-- what stands where things may change -/
def Mu : HO → Prop
  | .lst _ => True
  | .dK _ => True
  | _ => False
def keyD : PyData → Option Key
  | .int i => some (.inl i)
  | .str x => some (.inr x)
  | _ => none
/-- the entries of a dict -/
def KRel (H : Hp) (bn : List Addr) (kvs : List (PyData × PyData)) (ks : List (Key × V)) : Prop := Paired (fun p q => keyD p.1 = some q.1 ∧ Rp H bn p.2 q.2) kvs ks
def RelS (Φ : Fx) (E : OE) (H : Hp) (i : Nat) : AV → V → Prop
  | .dat d, v => Rp H (ban Φ E) d v
  | .own ds, v => ∃ a xs, v = .ref a ∧ (i, a) ∈ E.R ∧ H a = some (.lst xs) ∧ RpAll H (ban Φ E) ds xs
  | .dct kvs, v => ∃ a ks, v = .ref a ∧ (i, a) ∈ E.R ∧ H a = some (.dK ks) ∧ KRel H (ban Φ E) kvs ks
  | .bor d, v => Rp H (ban Φ E) d v ∨ ∃ a ds xs, d = .list ds ∧ v = .ref a ∧ H a = some (.lst xs) ∧ a ∈ Φ.B ∧ RpAll H (ban Φ E) ds xs
  | .deck, v => ∃ d p q, E.dk = some (d, p, q) ∧ v = .ref d
  | .exc x, v => ∃ a da, Φ.ex = some (a, x.cls, da) ∧ v = .ref a ∧ XRep H (ban Φ E) x da ∧ x.cls ∈ Φ.cs
structure Rel (Φ : Fx) (E : OE) (s : AS) (σ : L2.St) (H : Hp) : Prop where
  len : s.sl.length = σ.length
  val : ∀ i x, s.sl[i]? = some (some x) → ∃ v, σ[i]? = some (some v) ∧ RelS Φ E H i x v
  dk : ∀ d p q, E.dk = some (d, p, q) → Deck H d p q s.n ∧ ∀ a ∈ dkl E.dk, a ∉ Φ.B ∧ (a ∈ dkl Φ.dk0 ∨ Φ.H0 a = none)
  own : ∀ i a, (i, a) ∈ E.R → (∃ o, H a = some o ∧ Mu o) ∧ a ∉ Φ.B ∧ a ∉ dkl E.dk ∧ Φ.H0 a = none
  inj : ∀ i j a, (i, a) ∈ E.R → (j, a) ∈ E.R → i = j
  fr : ∀ b o, Φ.H0 b = some o → b ∉ dkl Φ.dk0 → H b = some o
  dk0 : ∀ t, Φ.dk0 = some t → E.dk = some t
  alive : ∀ b ∈ Φ.B, (∃ o, Φ.H0 b = some o) ∧ b ∉ dkl Φ.dk0
  held : ∀ x ∈ Φ.T, Rp H (ban Φ E) x.1 x.2
  zz : ∀ x ∈ Φ.Z, H x.1 = some x.2 ∧ x.1 ∉ chg E ∧ Φ.H0 x.1 = none
  znd : (Φ.Z.map (·.1)).Nodup
mutual
theorem Rp.bn {H : Hp} {b b' : List Addr} (h : ∀ a xs, H a = some (.lst xs) → a ∉ b → a ∉ b') (hd : ∀ a, H a = some (.dK []) → a ∉ b → a ∉ b') : ∀ (d : PyData) (v : V), Rp H b d v → Rp H b' d v
  | .none, _, r => r
  | .bool _, _, r => r
  | .int _, _, r => r
  | .str _, _, r => r
  | .list ds, _, r => by
    obtain ⟨a, xs, e, h1, h2, h3⟩ := r
    exact ⟨a, xs, e, h1, h a xs h1 h2, RpAll.bn h hd ds xs h3⟩
  | .tuple ds, _, r => by
    obtain ⟨a, xs, e, h1, h3⟩ := r
    exact ⟨a, xs, e, h1, RpAll.bn h hd ds xs h3⟩
  | .dict kvs, _, r => by
    obtain ⟨e0, a, e, h1, h2⟩ := r
    exact ⟨e0, a, e, h1, fun m => hd a h1 h2 m⟩
theorem RpAll.bn {H : Hp} {b b' : List Addr} (h : ∀ a xs, H a = some (.lst xs) → a ∉ b → a ∉ b') (hd : ∀ a, H a = some (.dK []) → a ∉ b → a ∉ b') : ∀ (ds : List PyData) (xs : List V), RpAll H b ds xs → RpAll H b' ds xs
  | [], _, r => r
  | d :: ds, _, r => by
    obtain ⟨v, t, e, h1, h2⟩ := r
    exact ⟨v, t, e, Rp.bn h hd d v h1, RpAll.bn h hd ds t h2⟩
end
theorem Rp.wk {H : Hp} {b b' : List Addr} (h : ∀ a ∈ b', a ∈ b) {d : PyData} {v : V} (r : Rp H b d v) : Rp H b' d v := Rp.bn (fun a _ _ n m => n (h a m)) (fun a _ n m => n (h a m)) d v r
theorem RpAll.wk {H : Hp} {b b' : List Addr} (h : ∀ a ∈ b', a ∈ b) {ds : List PyData} {xs : List V} (r : RpAll H b ds xs) : RpAll H b' ds xs := RpAll.bn (fun a _ _ n m => n (h a m)) (fun a _ n m => n (h a m)) ds xs r
theorem Rp.fresh {H : Hp} {b b' : List Addr} (h : ∀ a ∈ b', a ∈ b ∨ H a = none) {d : PyData} {v : V} (r : Rp H b d v) : Rp H b' d v := Rp.bn (fun a _ e n m => by
  rcases h a m with z | z
  · exact n z
  · rw [z] at e; cases e) (fun a e n m => by
  rcases h a m with z | z
  · exact n z
  · rw [z] at e; cases e) d v r
theorem RpAll.fresh {H : Hp} {b b' : List Addr} (h : ∀ a ∈ b', a ∈ b ∨ H a = none) {ds : List PyData} {xs : List V} (r : RpAll H b ds xs) : RpAll H b' ds xs := RpAll.bn (fun a _ e n m => by
  rcases h a m with z | z
  · exact n z
  · rw [z] at e; cases e) (fun a e n m => by
  rcases h a m with z | z
  · exact n z
  · rw [z] at e; cases e) ds xs r
theorem XRep.wk {H : Hp} {b b' : List Addr} (h : ∀ a ∈ b', a ∈ b) {x : XD} {da : Option Addr} (r : XRep H b x da) : XRep H b' x da := by
  unfold XRep at r ⊢
  split
  · next e => rw [e] at r; exact r
  · next f d e =>
    rw [e] at r
    obtain ⟨e, v, h1, h2, h3⟩ := r
    exact ⟨e, v, h1, h2, h3.wk h⟩
theorem XRep.same {H H' : Hp} {b : List Addr} {x : XD} {da : Option Addr} (r : XRep H b x da) (s : Same H H') : XRep H' b x da := by
  unfold XRep at r ⊢
  split
  · next e => rw [e] at r; exact r
  · next f d e =>
    rw [e] at r
    obtain ⟨e, v, h1, h2, h3⟩ := r
    exact ⟨e, v, h1, s _ _ h2, h3.same s⟩
theorem XRep.fresh {H : Hp} {b b' : List Addr} (h : ∀ a ∈ b', a ∈ b ∨ H a = none) {x : XD} {da : Option Addr} (r : XRep H b x da) : XRep H b' x da := by
  unfold XRep at r ⊢
  split
  · next e => rw [e] at r; exact r
  · next f d e =>
    rw [e] at r
    obtain ⟨e, v, h1, h2, h3⟩ := r
    exact ⟨e, v, h1, h2, h3.fresh h⟩
/-- lists stand where things may change -/
def LstAt (E : OE) (H : Hp) : Prop := ∀ a ∈ chg E, ∃ o, H a = some o ∧ Mu o
theorem Rel.lst {Φ : Fx} {E : OE} {s : AS} {σ : L2.St} {H : Hp} (r : Rel Φ E s σ H) : LstAt E H := fun a ha => by
  rcases List.mem_append.mp ha with h | h
  · cases e : E.dk with
    | none => rw [e] at h; cases h
    | some t =>
      obtain ⟨d, p, q⟩ := t
      rw [e] at h
      obtain ⟨D, _⟩ := r.dk d p q e
      obtain ⟨_, ⟨xs, cs, c, h1, h2, h3, _⟩, _⟩ := D
      rcases List.mem_cons.mp h with rfl | h
      · exact ⟨_, h1, trivial⟩
      · rcases List.mem_cons.mp h with rfl | h
        · exact ⟨_, h2, trivial⟩
        · rw [List.mem_singleton.mp h]; exact ⟨_, h3, trivial⟩
  · obtain ⟨⟨i, b⟩, hx, rfl⟩ := List.mem_map.mp h
    exact (r.own i b hx).1
theorem TF.kb {E : OE} {H H' : Hp} {a : Addr} {xs : List V} (h : TF H a xs) (L : LstAt E H) (k : KB E H H') : TF H' a xs := by
  obtain ⟨o, hd, e⟩ := h
  refine ⟨o, hd, k _ _ e fun m => ?_⟩
  obtain ⟨ys, e2, mu⟩ := L a m
  rw [e] at e2; cases e2; exact mu.elim
theorem Rp.kb {Φ : Fx} {E : OE} {H H' : Hp} {d : PyData} {v : V} (h : Rp H (ban Φ E) d v) (L : LstAt E H) (k : KB E H H') : Rp H' (ban Φ E) d v := by
  refine Rp.mv (fun a xs hn e => k _ _ e fun m => hn ?_) (fun a xs e => e.kb L k) (fun a hn e => k _ _ e fun m => hn ?_) d v h
  · exact List.mem_append_left _ m
  · exact List.mem_append_left _ m
theorem RpAll.kb {Φ : Fx} {E : OE} {H H' : Hp} {ds : List PyData} {xs : List V} (h : RpAll H (ban Φ E) ds xs) (L : LstAt E H) (k : KB E H H') : RpAll H' (ban Φ E) ds xs := by
  refine RpAll.mv (fun a xs hn e => k _ _ e fun m => hn ?_) (fun a xs e => e.kb L k) (fun a hn e => k _ _ e fun m => hn ?_) ds xs h
  · exact List.mem_append_left _ m
  · exact List.mem_append_left _ m
theorem XRep.kb {Φ : Fx} {E : OE} {H H' : Hp} {x : XD} {da : Option Addr} (r : XRep H (ban Φ E) x da) (L : LstAt E H) (k : KB E H H') : XRep H' (ban Φ E) x da := by
  unfold XRep at r ⊢
  split
  · next e => rw [e] at r; exact r
  · next f d e =>
    rw [e] at r
    obtain ⟨e, v, h1, h2, h3⟩ := r
    refine ⟨e, v, h1, k _ _ h2 fun m => ?_, h3.kb L k⟩
    obtain ⟨ys, e2, mu⟩ := L e m
    rw [h2] at e2; cases e2; exact mu.elim
theorem KRel.mono {H H' : Hp} {b b' : List Addr} (h : ∀ d v, Rp H b d v → Rp H' b' d v) : ∀ {kvs : List (PyData × PyData)} {ks : List (Key × V)}, KRel H b kvs ks → KRel H' b' kvs ks
  | [], _, .nil => .nil
  | _ :: _, _, .cons e t => .cons ⟨e.1, h _ _ e.2⟩ (KRel.mono h t)
theorem KRel.same {H H' : Hp} {b : List Addr} {kvs : List (PyData × PyData)} {ks : List (Key × V)} (r : KRel H b kvs ks) (s : Same H H') : KRel H' b kvs ks := r.mono fun _ _ h => h.same s
theorem KRel.wk {H : Hp} {b b' : List Addr} (h : ∀ a ∈ b', a ∈ b) {kvs : List (PyData × PyData)} {ks : List (Key × V)} (r : KRel H b kvs ks) : KRel H b' kvs ks := r.mono fun _ _ h2 => h2.wk h
theorem KRel.fresh {H : Hp} {b b' : List Addr} (h : ∀ a ∈ b', a ∈ b ∨ H a = none) {kvs : List (PyData × PyData)} {ks : List (Key × V)} (r : KRel H b kvs ks) : KRel H b' kvs ks := r.mono fun _ _ h2 => Rp.fresh h h2
theorem KRel.kb {Φ : Fx} {E : OE} {H H' : Hp} {kvs : List (PyData × PyData)} {ks : List (Key × V)} (r : KRel H (ban Φ E) kvs ks) (L : LstAt E H) (k : KB E H H') : KRel H' (ban Φ E) kvs ks := r.mono fun _ _ h => h.kb L k
/-- all that was there is there -/
theorem RelS.same {Φ : Fx} {E : OE} {H H' : Hp} {i : Nat} (s : Same H H') : ∀ {x : AV} {v : V}, RelS Φ E H i x v → RelS Φ E H' i x v
  | .dat _, _, h => Rp.same h s
  | .own _, _, h => by
    obtain ⟨a, xs, e, m, h1, h2⟩ := h
    exact ⟨a, xs, e, m, s _ _ h1, h2.same s⟩
  | .dct _, _, h => by
    obtain ⟨a, ks, e, m, h1, h2⟩ := h
    exact ⟨a, ks, e, m, s _ _ h1, h2.same s⟩
  | .bor _, _, h => by
    rcases h with h | ⟨a, ds, xs, e, e2, h1, h3, h4⟩
    · exact .inl (Rp.same h s)
    · exact .inr ⟨a, ds, xs, e, e2, s _ _ h1, h3, h4.same s⟩
  | .deck, _, h => h
  | .exc _, _, h => by
    obtain ⟨a, da, e, z, h1, h2⟩ := h
    exact ⟨a, da, e, z, h1.same s, h2⟩
theorem Rel.same {Φ : Fx} {E : OE} {s : AS} {σ : L2.St} {H H' : Hp} (r : Rel Φ E s σ H) (m : Same H H') : Rel Φ E s σ H' where
  len := r.len
  val := fun i x h => by
    obtain ⟨v, h1, h2⟩ := r.val i x h
    exact ⟨v, h1, h2.same m⟩
  dk := fun d p q h => by
    obtain ⟨h1, h2⟩ := r.dk d p q h
    exact ⟨h1.same m, h2⟩
  own := fun i a h => by
    obtain ⟨⟨xs, h1, mu⟩, h2⟩ := r.own i a h
    exact ⟨⟨xs, m _ _ h1, mu⟩, h2⟩
  inj := r.inj
  fr := fun b o h1 h2 => m _ _ (r.fr b o h1 h2)
  dk0 := r.dk0
  alive := r.alive
  held := fun x hx => (r.held x hx).same m
  zz := fun x hx => ⟨m _ _ (r.zz x hx).1, (r.zz x hx).2⟩
  znd := r.znd
/-- a new address is nowhere banned -/
theorem Rel.newban {Φ : Fx} {E : OE} {s : AS} {σ : L2.St} {H : Hp} (r : Rel Φ E s σ H) {p : Addr} (hp : H p = none) : p ∉ ban Φ E := fun m => by
  rcases List.mem_append.mp m with h | h
  · obtain ⟨xs, e, _⟩ := r.lst p h
    rw [hp] at e; cases e
  · rcases List.mem_append.mp h with h | h
    · obtain ⟨x, hx, rfl⟩ := List.mem_map.mp h
      rw [(r.zz x hx).1] at hp; cases hp
    · obtain ⟨⟨o, e⟩, h2⟩ := r.alive p h
      rw [r.fr p o e h2] at hp; cases hp
theorem Rel.alive' {Φ : Fx} {E : OE} {s : AS} {σ : L2.St} {H : Hp} (r : Rel Φ E s σ H) {b : Addr} (hb : b ∈ Φ.B) : ∃ o, H b = some o := by
  obtain ⟨⟨o, e⟩, h2⟩ := r.alive b hb
  exact ⟨o, r.fr b o e h2⟩
/-! ### operands -/
def res (s : AS) : Op → Option PyData
  | .val d => some d
  | .slot i => match s.sl[i]? with
    | some (some (.dat d)) => some d
    | some (some (.own ds)) => some (.list ds)
    | some (some (.bor d)) => some d
    | _ => none
  | .deck => none
def RpO (Φ : Fx) (E : OE) (σ : L2.St) (H : Hp) : Op → V → Prop
  | .val d, v => Rp H (ban Φ E) d v
  | .slot i, v => σ[i]? = some (some v)
  | .deck, v => ∃ d p q, E.dk = some (d, p, q) ∧ v = .ref d
theorem RpO.kb {Φ : Fx} {E E' : OE} {σ : L2.St} {H H' : Hp} (L : LstAt E H) (k : KB E H H') (l : Le E' E) : ∀ {o : Op} {v : V}, RpO Φ E σ H o v → RpO Φ E' σ H' o v
  | .val _, _, h => Rp.wk l.ban (Rp.kb h L k)
  | .slot _, _, h => h
  | .deck, _, h => by
    obtain ⟨d, p, q, e, z⟩ := h
    exact ⟨d, p, q, l.1.trans e, z⟩
theorem RpX.same {H H' : Hp} {bn : List Addr} {d : PyData} {v : V} (s : Same H H') (h : RpX H bn d v) : RpX H' bn d v := by
  rcases h with h | ⟨a, ds, xs, e, e2, h1, h3⟩
  · exact .inl (Rp.same h s)
  · exact .inr ⟨a, ds, xs, e, e2, s _ _ h1, h3.same s⟩
/-- an operand, as it stands when it is used -/
theorem Rel.res {Φ : Fx} {E : OE} {s : AS} {σ : L2.St} {H : Hp} (r : Rel Φ E s σ H) : ∀ {o : Op} {v : V} {d : PyData}, RpO Φ E σ H o v → res s o = some d → RpX H (ban Φ E) d v
  | .val _, _, _, h, e => by cases e; exact .inl h
  | .slot i, v, d, h, e => by
    simp only [TR.res] at e
    split at e
    · next x hx =>
      cases e
      obtain ⟨v', h1, h2⟩ := r.val i _ hx
      rw [show σ[i]? = some (some v) from h] at h1; cases h1
      exact .inl h2
    · next ds hx =>
      cases e
      obtain ⟨v', h1, h2⟩ := r.val i _ hx
      rw [show σ[i]? = some (some v) from h] at h1; cases h1
      obtain ⟨a, xs, e1, m, h3, h4⟩ := h2
      exact .inr ⟨a, ds, xs, rfl, e1, h3, h4⟩
    · next x hx =>
      cases e
      obtain ⟨v', h1, h2⟩ := r.val i _ hx
      rw [show σ[i]? = some (some v) from h] at h1; cases h1
      rcases h2 with h2 | ⟨a, ds, xs, e, e2, g1, g3, g4⟩
      · exact .inl h2
      · exact .inr ⟨a, ds, xs, e, e2, g1, g4⟩
    · cases e
  | .deck, _, _, _, e => by cases e
/-! ### what the readings say of the heap -/
structure RetOk (Φ : Fx) (r : PyData) (n : Nat) (v : V) (H : Hp) : Prop where
  fr : ∀ b o, Φ.H0 b = some o → b ∉ dkl Φ.dk0 → H b = some o
  dk : ∀ d p q, Φ.dk0 = some (d, p, q) → Deck H d p q n
  rp : Rp H (dkl Φ.dk0 ++ Φ.B) r v
def XSim (Φ : Fx) (xp : XP) (Ec : EC) : Prop := (Φ.ex = Ec.ex ∧ Φ.cs = Ec.cs) ∧ ∀ x E s σ H da, Rel Φ E s σ H → XRep H (ban Φ E) x da → xp x s → Ec.x σ (.ref x.cls) da H
def cE (Ec : EC) (a : AE) : TE := fun σ H Q => ∃ Φ E xp s Qa, Rel Φ E s σ H ∧ XSim Φ xp Ec ∧ a xp s Qa ∧ ∀ d E' s' v H', Le E' E → Rel Φ E' s' σ H' → KB E H H' → Rp H' (ban Φ E') d v → Qa d s' → Q v H'
def cO (Ec : EC) (a : AO) : TE := fun σ H Q => ∃ Φ E xp s Qa, Rel Φ E s σ H ∧ XSim Φ xp Ec ∧ a xp s Qa ∧ ∀ o E' s' v H', Le E' E → Rel Φ E' s' σ H' → KB E H H' → RpO Φ E' σ H' o v → Qa o s' → Q v H'
def cT (Ec : EC) (a : AT) : TT := fun σ H Q => ∃ Φ E xp s Qa, Rel Φ E s σ H ∧ XSim Φ xp Ec ∧ a xp s Qa ∧ ∀ b E' s' H', Le E' E → Rel Φ E' s' σ H' → KB E H H' → Qa b s' → Q b H'
def cA (Ec : EC) (a : AA) : TA := fun σ H Q => ∃ Φ E xp s Qa, Rel Φ E s σ H ∧ XSim Φ xp Ec ∧ a xp s Qa ∧ ∀ os E' s' vs H', Le E' E → Rel Φ E' s' σ H' → KB E H H' → Paired (RpO Φ E' σ H') os vs → Qa os s' → Q vs H'
/-- a new list, for slot i: nothing else leads to it -/
def cF (i : Nat) (Ec : EC) (a : AE) : TE := fun σ H Q => ∃ Φ E xp s Qa, Rel Φ E s σ H ∧ XSim Φ xp Ec ∧ a xp s Qa ∧ ∀ ds E' s' l xs H', Le E' E → Rel Φ E' s' σ H' → Rel Φ (E'.add i l) s' σ H' → KB E H H' → H' l = some (.lst xs) → RpAll H' (ban Φ (E'.add i l)) ds xs → l ∉ ban Φ E' → Qa (.list ds) s' → Q (.ref l) H'
structure SimD (Φ : Fx) (Da : AEnds) (D : Ends) : Prop where
  nx : ∀ E s σ H, Rel Φ E s σ H → Da.nx s → D.nx σ H
  bk : ∀ E s σ H, Rel Φ E s σ H → Da.bk s → D.bk σ H
  ct : ∀ E s σ H, Rel Φ E s σ H → Da.ct s → D.ct σ H
  rt : ∀ r n v H, RetOk Φ r n v H → Da.rt r n → D.rt v H
def cS (Ec : EC) (a : AST) : TS := fun D σ H => ∃ Φ E xp s Da, Rel Φ E s σ H ∧ XSim Φ xp Ec ∧ a xp Da s ∧ SimD Φ Da D
end TR
namespace TR
open PySem PySem.Spec PyProof.Rows L2
theorem mem_ban_add {Φ : Fx} {E : OE} {i : Nat} {l a : Addr} (h : a ∈ ban Φ (E.add i l)) : a = l ∨ a ∈ ban Φ E := by
  unfold ban chg OE.add at h
  unfold ban chg
  simp only [List.map_cons, List.mem_cons, List.mem_append] at h ⊢
  rcases h with (h | h | h) | h
  · exact .inr (.inl (.inl h))
  · exact .inl h
  · exact .inr (.inl (.inr h))
  · exact .inr (.inr h)
theorem ban_add {Φ : Fx} {E : OE} {i : Nat} {l a : Addr} (h : a ∈ ban Φ E) : a ∈ ban Φ (E.add i l) := by
  unfold ban chg at h
  unfold ban chg OE.add
  simp only [List.map_cons, List.mem_cons, List.mem_append] at h ⊢
  rcases h with (h | h) | h
  · exact .inl (.inl h)
  · exact .inl (.inr (.inr h))
  · exact .inr h
theorem ban_add_self {Φ : Fx} {E : OE} {i : Nat} {l : Addr} : l ∈ ban Φ (E.add i l) := by
  unfold ban chg OE.add
  simp
theorem Rel.noH0 {Φ : Fx} {E : OE} {s : AS} {σ : L2.St} {H : Hp} (r : Rel Φ E s σ H) {p : Addr} (hp : H p = none) : Φ.H0 p = none := by
  cases e : Φ.H0 p with
  | none => rfl
  | some o =>
    by_cases m : p ∈ dkl Φ.dk0
    · cases e0 : Φ.dk0 with
      | none => rw [e0] at m; cases m
      | some t =>
        have e1 := r.dk0 t e0
        have : p ∈ chg E := List.mem_append_left _ (by rw [e1, ← e0]; exact m)
        obtain ⟨xs, h, _⟩ := r.lst p this
        rw [hp] at h; cases h
    · rw [r.fr p o e m] at hp; cases hp
/-- a new list is made: it is banned from all that was there -/
theorem Rel.add {Φ : Fx} {E : OE} {s : AS} {σ : L2.St} {H H' : Hp} (r : Rel Φ E s σ H) (i : Nat) {p : Addr} (hp : H p = none) (m : Same H H') {o : HO} (e : H' p = some o) (mu : Mu o := by trivial) : Rel Φ (E.add i p) s σ H' := by
  have hB : p ∉ ban Φ E := r.newban hp
  have fx : ∀ a ∈ ban Φ (E.add i p), a ∈ ban Φ E ∨ H a = none := fun a ha => by
    rcases mem_ban_add ha with h | h
    · rw [h]; exact .inr hp
    · exact .inl h
  have hpE : ∀ j a, (j, a) ∈ E.R → a ≠ p := fun j a h z => by
    obtain ⟨⟨xs, h1, _⟩, _⟩ := r.own j a h
    rw [z, hp] at h1; cases h1
  have hdk : p ∉ dkl E.dk := fun z => hB (List.mem_append_left _ (List.mem_append_left _ z))
  refine ⟨r.len, fun j x h => ?_, fun d q t h => ?_, fun j a h => ?_, fun j k a h1 h2 => ?_, fun b o h1 h2 => m _ _ (r.fr b o h1 h2), r.dk0, r.alive, fun x hx => (Rp.fresh fx (r.held x hx)).same m, fun x hx => ?_, r.znd⟩
  · obtain ⟨v, h1, h2⟩ := r.val j x h
    refine ⟨v, h1, ?_⟩
    cases x with
    | dat d => exact (Rp.fresh fx (show Rp H (ban Φ E) d v from h2)).same m
    | own ds =>
      obtain ⟨a, ys, e1, m1, h3, h4⟩ := h2
      exact ⟨a, ys, e1, List.mem_cons_of_mem _ m1, m _ _ h3, (RpAll.fresh fx h4).same m⟩
    | dct kvs =>
      obtain ⟨a, ks, e1, m1, h3, h4⟩ := h2
      exact ⟨a, ks, e1, List.mem_cons_of_mem _ m1, m _ _ h3, (KRel.fresh fx h4).same m⟩
    | bor d =>
      rcases h2 with h2 | ⟨a, ds, ys, e1, e2, h3, h5, h6⟩
      · exact .inl ((Rp.fresh fx h2).same m)
      · exact .inr ⟨a, ds, ys, e1, e2, m _ _ h3, h5, (RpAll.fresh fx h6).same m⟩
    | deck => exact h2
    | exc x =>
      obtain ⟨a, da, e1, e2, h3, h4⟩ := h2
      exact ⟨a, da, e1, e2, (XRep.fresh fx h3).same m, h4⟩
  · obtain ⟨h1, h2⟩ := r.dk d q t h
    exact ⟨h1.same m, h2⟩
  · rcases List.mem_cons.mp h with h | h
    · cases h
      refine ⟨⟨o, e, mu⟩, fun z => hB (List.mem_append_right _ (List.mem_append_right _ z)), hdk, r.noH0 hp⟩
    · obtain ⟨⟨ys, h1, mu1⟩, h2⟩ := r.own j a h
      exact ⟨⟨ys, m _ _ h1, mu1⟩, h2⟩
  · rcases List.mem_cons.mp h1 with h1 | h1
    · rcases List.mem_cons.mp h2 with h2 | h2
      · cases h1; cases h2; rfl
      · cases h1; exact absurd rfl (hpE _ _ h2)
    · rcases List.mem_cons.mp h2 with h2 | h2
      · cases h2; exact absurd rfl (hpE _ _ h1)
      · exact r.inj j k a h1 h2
  · obtain ⟨z1, z2, z3⟩ := r.zz x hx
    refine ⟨m _ _ z1, fun z => ?_, z3⟩
    rcases List.mem_append.mp z with z | z
    · exact z2 (List.mem_append_left _ z)
    · rcases List.mem_cons.mp z with z | z
      · rw [z, hp] at z1; cases z1
      · exact z2 (List.mem_append_right _ z)
theorem unT {A B : Prop} (h : if true = true then A else B) : A := by
  rw [if_pos rfl] at h
  exact h
theorem unF {A B : Prop} (h : if false = true then A else B) : B := by
  rw [if_neg Bool.false_ne_true] at h
  exact h
/-! ### weaker readings -/
section
variable {X : Cx}
theorem _root_.L2.PE.sub {e : Expr} {t t' : TE} (h : PE X e t) (g : ∀ σ H Q, t' σ H Q → t σ H Q) : PE X e t' := ⟨fun pins s σ H Q I q => h.run pins s σ H Q I (g σ H Q q)⟩
theorem _root_.L2.PT.sub {e : Expr} {t t' : TT} (h : PT X e t) (g : ∀ σ H Q, t' σ H Q → t σ H Q) : PT X e t' := ⟨fun pins s σ H Q I q => h.run pins s σ H Q I (g σ H Q q)⟩
theorem _root_.L2.PW.sub {e : Expr} {t t' : TT} (h : PW X e t) (g : ∀ σ H Q, t' σ H Q → t σ H Q) : PW X e t' := ⟨fun w pins s σ H Q I q => h.run w pins s σ H Q I (g σ H Q q)⟩
theorem _root_.L2.PA.sub {es : List Expr} {t t' : TA} (h : PA X es t) (g : ∀ σ H Q, t' σ H Q → t σ H Q) : PA X es t' := ⟨fun p pins s σ H Q I q => h.run p pins s σ H Q I (g σ H Q q)⟩
theorem _root_.L2.PS.sub {e : Stmt} {t t' : TS} (h : PS X e t) (g : ∀ D σ H, t' D σ H → t D σ H) : PS X e t' := ⟨fun pins s σ H D I q => h.run pins s σ H D I (g D σ H q)⟩
theorem _root_.L2.PSs.sub {e : List Stmt} {t t' : TS} (h : PSs X e t) (g : ∀ D σ H, t' D σ H → t D σ H) : PSs X e t' := ⟨fun pins s σ H D I q => h.run pins s σ H D I (g D σ H q)⟩
theorem _root_.L2.PI.sub {tg e : Expr} {t t' : TI} (h : PI X tg e t) (g : ∀ σ H Q, t' σ H Q → t σ H Q) : PI X tg e t' := ⟨fun pins s σ H Q I q => h.run pins s σ H Q I (g σ H Q q)⟩
end
/-! ### operands at use -/
def rs (s : AS) (o : Op) (k : PyData → Prop) : Prop := match res s o with
  | some d => k d
  | none => False
theorem rs_get {s : AS} {o : Op} {k : PyData → Prop} (h : rs s o k) : ∃ d, res s o = some d ∧ k d := by
  unfold rs at h
  cases e : res s o with
  | none => rw [e] at h; exact h.elim
  | some d => rw [e] at h; exact ⟨d, rfl, h⟩
/-- where nothing stands, nothing is banned -/
def NB (H : Hp) (bn : List Addr) : Prop := ∀ p, H p = none → p ∉ bn
theorem Rel.nb {Φ : Fx} {E : OE} {s : AS} {σ : L2.St} {H : Hp} (r : Rel Φ E s σ H) : NB H (ban Φ E) := fun _ h1 => r.newban h1
section
variable {X : Cx} {Ec : EC}
/-! ### constants, names -/
def aC (d : PyData) : AE := fun _ s Q => Q d s
theorem ae_C {e : Expr} {v : V} {d : PyData} (h : PE X e (tC v)) (hd : ∀ H bn, Rp H bn d v) : PE X e (cE Ec (aC d)) := h.sub fun σ H Q ⟨Φ, E, xp, s, Qa, r, _, q, k⟩ => k d E s v H (.refl _) r (.refl _ _) (hd _ _) q
theorem ae_int {i j pos} : PE X (.Constant (.int i) j pos) (cE Ec (aC (.int i))) := ae_C pe_int fun _ _ => rfl
theorem ae_bl {b j pos} : PE X (.Constant (.bool b) j pos) (cE Ec (aC (.bool b))) := ae_C pe_bl fun _ _ => rfl
theorem ae_non {j pos} : PE X (.Constant .none j pos) (cE Ec (aC .none)) := ae_C pe_non fun _ _ => rfl
theorem ae_str {x j pos} : PE X (.Constant (.str x) j pos) (cE Ec (aC (.str x))) := ae_C pe_str fun _ _ => rfl
theorem ae_gint {x : Str} {i : Int} {t : Tok} {pos : Pos} (hg : Gl X x) (hm : X.mg x = some (.int i t)) (hd : (x == ("__debug__" : Str)) = false := by decide) : PE X (.Name x pos) (cE Ec (aC (.int i))) := ae_C (pe_glob (v := .int i) hg hm ⟨_, rfl⟩ hd) fun _ _ => rfl
def aVar (i : Nat) : AE := fun _ s Q => match s.sl[i]? with
  | some (some (.dat d)) => Q d s
  | _ => False
theorem ae_var (i : Nat) {e : Expr} (h : PE X e (tVar i)) : PE X e (cE Ec (aVar i)) := h.sub fun σ H Q ⟨Φ, E, xp, s, Qa, r, _, q, k⟩ => by
  unfold aVar at q
  split at q
  · next d hd =>
    obtain ⟨v, h1, h2⟩ := r.val i _ hd
    exact ⟨v, h1, k d E s v H (.refl _) r (.refl _ _) h2 q⟩
  · exact q.elim
/-- as an operand: whatever it holds -/
def oVar (i : Nat) : AO := fun _ s Q => match s.sl[i]? with
  | some (some (.dat d)) => Q (.val d) s
  | some (some .deck) => Q .deck s
  | some (some _) => Q (.slot i) s
  | _ => False
theorem ao_var (i : Nat) {e : Expr} (h : PE X e (tVar i)) : PE X e (cO Ec (oVar i)) := h.sub fun σ H Q ⟨Φ, E, xp, s, Qa, r, _, q, k⟩ => by
  unfold oVar at q
  split at q
  · next d hd =>
    obtain ⟨v, h1, h2⟩ := r.val i _ hd
    exact ⟨v, h1, k (.val d) E s v H (.refl _) r (.refl _ _) h2 q⟩
  · next hd =>
    obtain ⟨v, h1, h2⟩ := r.val i _ hd
    exact ⟨v, h1, k .deck E s v H (.refl _) r (.refl _ _) h2 q⟩
  · next hd =>
    obtain ⟨v, h1, h2⟩ := r.val i _ hd
    exact ⟨v, h1, k (.slot i) E s v H (.refl _) r (.refl _ _) h1 q⟩
  · exact q.elim
/-- the list is given away: it is no more changed -/
def aFrz (i : Nat) : AE := fun _ s Q => match s.sl[i]? with
  | some (some (.dat d)) => Q d s
  | some (some (.own ds)) => Q (.list ds) { s with sl := s.sl.set i (some (.dat (.list ds))) }
  | _ => False
def oV (a : AE) : AO := fun xp s Q => a xp s fun d s' => Q (.val d) s'
theorem ao_V {e : Expr} {a : AE} (h : PE X e (cE Ec a)) : PE X e (cO Ec (oV a)) := h.sub fun σ H Q ⟨Φ, E, xp, s, Qa, r, x, q, k⟩ => ⟨Φ, E, xp, s, _, r, x, q, fun d E' s' v H' l r' kb rp q' => k (.val d) E' s' v H' l r' kb rp q'⟩
/-! ### two operands, one -/
def DOp (r : R2) (f : PyData → PyData → (PyData → Prop) → Prop) : Prop := ∀ (bn : List Addr) (H : Hp) (d1 d2 : PyData) (v1 v2 : V) (Q : PyData → Prop) (Qc : VK), NB H bn → RpX H bn d1 v1 → RpX H bn d2 v2 → f d1 d2 Q → (∀ d v H', Same H H' → Rp H' bn d v → Q d → Qc v H') → r v1 v2 H Qc
def a2 (f : PyData → PyData → (PyData → Prop) → Prop) (aa ab : AO) : AE := fun xp s Q => aa xp s fun o1 s1 => ab xp s1 fun o2 s2 => rs s2 o1 fun d1 => rs s2 o2 fun d2 => f d1 d2 fun d => Q d s2
theorem a2_ok {r : R2} {f : PyData → PyData → (PyData → Prop) → Prop} (hd : DOp r f) {aa ab : AO} {σ : L2.St} {H : Hp} {Q : VK} (h : cE Ec (a2 f aa ab) σ H Q) : tOp r (cO Ec aa) (cO Ec ab) σ H Q := by
  obtain ⟨Φ, E, xp, s, Qa, r0, x0, q, k⟩ := h
  refine ⟨Φ, E, xp, s, _, r0, x0, q, fun o1 E1 s1 v1 H1 l1 r1 k1 p1 q1 => ?_⟩
  refine ⟨Φ, E1, xp, s1, _, r1, x0, q1, fun o2 E2 s2 v2 H2 l2 r2 k2 p2 q2 => ?_⟩
  obtain ⟨d1, e1, q2⟩ := rs_get q2
  obtain ⟨d2, e2, q2⟩ := rs_get q2
  have p1' := p1.kb r1.lst k2 l2
  refine hd (ban Φ E2) H2 d1 d2 v1 v2 _ Q r2.nb (r2.res p1' e1) (r2.res p2 e2) q2 fun d v H3 m rp q3 => ?_
  exact k d E2 s2 v H3 (l2.trans l1) (r2.same m) ((k1.trans l1 k2).trans (Le.refl _) (KB.of_same m)) rp q3
theorem ae_op {op : Operator} {r : R2} {f : PyData → PyData → (PyData → Prop) → Prop} {a b : Expr} {aa ab : AO} {pos : Pos} (hd : DOp r f) (ho : OpR X (binaryOp op) r) (ha : PE X a (cO Ec aa)) (hb : PE X b (cO Ec ab)) : PE X (.BinOp a op b pos) (cE Ec (a2 f aa ab)) := (pe_op ho ha hb).sub fun _ _ _ => a2_ok hd
theorem ae_cmp {op : CmpOp} {r : R2} {f : PyData → PyData → (PyData → Prop) → Prop} {a b : Expr} {aa ab : AO} {pos : Pos} (hd : DOp r f) (ho : OpR X (compareOp op) r) (ha : PE X a (cO Ec aa)) (hb : PE X b (cO Ec ab)) (hm : behindInMarks op b = false) : PE X (.Compare a [op] [b] pos) (cE Ec (a2 f aa ab)) := (pe_cmpR ho ha hb hm).sub fun _ _ _ => a2_ok hd
/-! ### tests -/
def tV (a : AE) : AT := fun xp s Q => a xp s fun d s' => match d with
  | .bool b => Q b s'
  | _ => False
theorem cmp_test {op : CmpOp} {r : R2} {f : PyData → PyData → (PyData → Prop) → Prop} {a b : Expr} {aa ab : AO} {pos : Pos} (hd : DOp r f) (ho : OpR X (compareOp op) r) (ha : PE X a (cO Ec aa)) (hb : PE X b (cO Ec ab)) (hm : behindInMarks op b = false) : PT X (.Compare a [op] [b] pos) (cT Ec (tV (a2 f aa ab))) := by
  refine (pt_cmpR ho ha hb hm).sub fun σ H Q h => ?_
  obtain ⟨Φ, E, xp, s, Qa, r0, x0, q, k⟩ := h
  refine a2_ok hd (Q := fun x H' => ∃ k, x = .bl k ∧ Q k H') ⟨Φ, E, xp, s, _, r0, x0, q, fun d E' s' v H' l r' kb rp q' => ?_⟩
  cases d with
  | bool b =>
    obtain rfl : v = .bl b := rp
    exact ⟨b, rfl, k b E' s' H' l r' kb q'⟩
  | none => exact q'.elim
  | int _ => exact q'.elim
  | str _ => exact q'.elim
  | list _ => exact q'.elim
  | tuple _ => exact q'.elim
  | dict _ => exact q'.elim
theorem at_val {e : Expr} {a : AE} (h : PE X e (cE Ec a)) (he : ∀ whole, isTrue e X.env whole = (do let v ← whole; standAt e.pos; holding [v] (truthy v)) := by intro _; rfl) : PT X e (cT Ec (tV a)) := by
  refine (pt_val h he).sub fun σ H Q h => ?_
  obtain ⟨Φ, E, xp, s, Qa, r0, x0, q, k⟩ := h
  refine ⟨Φ, E, xp, s, _, r0, x0, q, fun d E' s' v H' l r' kb rp q' => ?_⟩
  cases d with
  | bool b =>
    obtain rfl : v = .bl b := rp
    exact ⟨b, rfl, k b E' s' H' l r' kb q'⟩
  | none => exact q'.elim
  | int _ => exact q'.elim
  | str _ => exact q'.elim
  | list _ => exact q'.elim
  | tuple _ => exact q'.elim
  | dict _ => exact q'.elim
def tAndA (a b : AT) : AT := fun xp s Q => a xp s fun c s1 => if c = true then b xp s1 Q else Q false s1
def tOrA (a b : AT) : AT := fun xp s Q => a xp s fun c s1 => if c = true then Q true s1 else b xp s1 Q
def tNotA (a : AT) : AT := fun xp s Q => a xp s fun c s1 => Q (!c) s1
theorem at_not {a : Expr} {ta : AT} {pos : Pos} (h : PT X a (cT Ec ta)) : PT X (.UnaryOp .Not a pos) (cT Ec (tNotA ta)) := (pt_not h).sub fun σ H Q ⟨Φ, E, xp, s, Qa, r0, x0, q, k⟩ => ⟨Φ, E, xp, s, _, r0, x0, q, fun b E' s' H' l r' kb q' => k (!b) E' s' H' l r' kb q'⟩
theorem aw_and1 {a : Expr} {ta : AT} {pos : Pos} (h : PT X a (cT Ec ta)) : PW X (.BoolOp .And [a] pos) (cT Ec ta) := pw_and1 h
theorem aw_or1 {a : Expr} {ta : AT} {pos : Pos} (h : PT X a (cT Ec ta)) : PW X (.BoolOp .Or [a] pos) (cT Ec ta) := pw_or1 h
theorem aw_and {a b : Expr} {rest : List Expr} {ta tb : AT} {pos : Pos} (h : PT X a (cT Ec ta)) (g : PW X (.BoolOp .And (b :: rest) pos) (cT Ec tb)) : PW X (.BoolOp .And (a :: b :: rest) pos) (cT Ec (tAndA ta tb)) := by
  refine (pw_and h g).sub fun σ H Q ⟨Φ, E, xp, s, Qa, r0, x0, q, k⟩ => ⟨Φ, E, xp, s, _, r0, x0, q, fun c E' s' H' l r' kb q' => ?_⟩
  cases c with
  | true => exact iteT ⟨Φ, E', xp, s', Qa, r', x0, unT q', fun b E2 s2 H2 l2 r2 k2 q2 => k b E2 s2 H2 (l2.trans l) r2 (kb.trans l k2) q2⟩
  | false => exact iteF (k false E' s' H' l r' kb (unF q'))
theorem aw_or {a b : Expr} {rest : List Expr} {ta tb : AT} {pos : Pos} (h : PT X a (cT Ec ta)) (g : PW X (.BoolOp .Or (b :: rest) pos) (cT Ec tb)) : PW X (.BoolOp .Or (a :: b :: rest) pos) (cT Ec (tOrA ta tb)) := by
  refine (pw_or h g).sub fun σ H Q ⟨Φ, E, xp, s, Qa, r0, x0, q, k⟩ => ⟨Φ, E, xp, s, _, r0, x0, q, fun c E' s' H' l r' kb q' => ?_⟩
  cases c with
  | true => exact iteT (k true E' s' H' l r' kb (unT q'))
  | false => exact iteF ⟨Φ, E', xp, s', Qa, r', x0, unF q', fun b E2 s2 H2 l2 r2 k2 q2 => k b E2 s2 H2 (l2.trans l) r2 (kb.trans l k2) q2⟩
/-! ### and, or, not, if as values -/
def aB (d : PyData) (k : Bool → Prop) : Prop := match d with
  | .bool b => k b
  | _ => False
theorem aB_get {H : Hp} {bn : List Addr} {d : PyData} {v : V} {k : Bool → Prop} (h : aB d k) (r : Rp H bn d v) : ∃ b, v = .bl b ∧ k b := by
  cases d with
  | bool b => exact ⟨b, r, h⟩
  | none => exact h.elim
  | int _ => exact h.elim
  | str _ => exact h.elim
  | list _ => exact h.elim
  | tuple _ => exact h.elim
  | dict _ => exact h.elim
def aAnd (a b : AE) : AE := fun xp s Q => a xp s fun d s1 => aB d fun c => if c = true then b xp s1 Q else Q (.bool false) s1
def aOr (a b : AE) : AE := fun xp s Q => a xp s fun d s1 => aB d fun c => if c = true then Q (.bool true) s1 else b xp s1 Q
def aNot (a : AE) : AE := fun xp s Q => a xp s fun d s1 => aB d fun c => Q (.bool (!c)) s1
theorem ae_one {op} {a : Expr} {ta : AE} {pos : Pos} (h : PE X a (cE Ec ta)) : PE X (.BoolOp op [a] pos) (cE Ec ta) := pe_one h
theorem ae_and {a b : Expr} {rest : List Expr} {ta tb : AE} {pos : Pos} (h : PE X a (cE Ec ta)) (g : PE X (.BoolOp .And (b :: rest) pos) (cE Ec tb)) : PE X (.BoolOp .And (a :: b :: rest) pos) (cE Ec (aAnd ta tb)) := by
  refine (pe_and h g).sub fun σ H Q ⟨Φ, E, xp, s, Qa, r0, x0, q, k⟩ => ⟨Φ, E, xp, s, _, r0, x0, q, fun d E' s' v H' l r' kb rp q' => ?_⟩
  obtain ⟨c, rfl, q'⟩ := aB_get q' rp
  refine ⟨c, rfl, ?_⟩
  cases c with
  | true => exact iteT ⟨Φ, E', xp, s', Qa, r', x0, unT q', fun b E2 s2 v2 H2 l2 r2 k2 p2 q2 => k b E2 s2 v2 H2 (l2.trans l) r2 (kb.trans l k2) p2 q2⟩
  | false => exact iteF (k (.bool false) E' s' _ H' l r' kb rfl (unF q'))
theorem ae_or {a b : Expr} {rest : List Expr} {ta tb : AE} {pos : Pos} (h : PE X a (cE Ec ta)) (g : PE X (.BoolOp .Or (b :: rest) pos) (cE Ec tb)) : PE X (.BoolOp .Or (a :: b :: rest) pos) (cE Ec (aOr ta tb)) := by
  refine (pe_or h g).sub fun σ H Q ⟨Φ, E, xp, s, Qa, r0, x0, q, k⟩ => ⟨Φ, E, xp, s, _, r0, x0, q, fun d E' s' v H' l r' kb rp q' => ?_⟩
  obtain ⟨c, rfl, q'⟩ := aB_get q' rp
  refine ⟨c, rfl, ?_⟩
  cases c with
  | true => exact iteT (k (.bool true) E' s' _ H' l r' kb rfl (unT q'))
  | false => exact iteF ⟨Φ, E', xp, s', Qa, r', x0, unF q', fun b E2 s2 v2 H2 l2 r2 k2 p2 q2 => k b E2 s2 v2 H2 (l2.trans l) r2 (kb.trans l k2) p2 q2⟩
theorem ae_not {a : Expr} {ta : AE} {pos : Pos} (h : PE X a (cE Ec ta)) : PE X (.UnaryOp .Not a pos) (cE Ec (aNot ta)) := by
  refine (pe_not h).sub fun σ H Q ⟨Φ, E, xp, s, Qa, r0, x0, q, k⟩ => ⟨Φ, E, xp, s, _, r0, x0, q, fun d E' s' v H' l r' kb rp q' => ?_⟩
  obtain ⟨c, rfl, q'⟩ := aB_get q' rp
  exact ⟨c, rfl, k (.bool (!c)) E' s' _ H' l r' kb rfl q'⟩
/-- not x, by a test -/
def aNotT (t : AT) : AE := fun xp s Q => t xp s fun c s1 => Q (.bool (!c)) s1
def aIfE (t : AT) (a b : AE) : AE := fun xp s Q => t xp s fun c s1 => if c = true then a xp s1 Q else b xp s1 Q
theorem ae_if {c a b : Expr} {tc : AT} {ta tb : AE} {pos : Pos} (hc : PT X c (cT Ec tc)) (ha : PE X a (cE Ec ta)) (hb : PE X b (cE Ec tb)) : PE X (.IfExp c a b pos) (cE Ec (aIfE tc ta tb)) := by
  refine (pe_ifExp hc ha hb).sub fun σ H Q ⟨Φ, E, xp, s, Qa, r0, x0, q, k⟩ => ⟨Φ, E, xp, s, _, r0, x0, q, fun c E' s' H' l r' kb q' => ?_⟩
  cases c with
  | true => exact iteT ⟨Φ, E', xp, s', Qa, r', x0, unT q', fun b E2 s2 v2 H2 l2 r2 k2 p2 q2 => k b E2 s2 v2 H2 (l2.trans l) r2 (kb.trans l k2) p2 q2⟩
  | false => exact iteF ⟨Φ, E', xp, s', Qa, r', x0, unF q', fun b E2 s2 v2 H2 l2 r2 k2 p2 q2 => k b E2 s2 v2 H2 (l2.trans l) r2 (kb.trans l k2) p2 q2⟩
/-! ### lists of operands -/
def lNil : AA := fun _ s Q => Q [] s
def lCons (a : AO) (r : AA) : AA := fun xp s Q => a xp s fun o s1 => r xp s1 fun os s2 => Q (o :: os) s2
theorem la_nil : PA X [] (cA Ec lNil) := pa_nil.sub fun σ H Q ⟨Φ, E, xp, s, Qa, r0, x0, q, k⟩ => k [] E s [] H (.refl _) r0 (.refl _ _) .nil q
theorem la_cons {e : Expr} {es : List Expr} {a : AO} {r : AA} (ha : PE X e (cO Ec a)) (hr : PA X es (cA Ec r)) (hs : starEach (e :: es) X.env = (false, eval e X.env) :: starEach es X.env := by rfl) : PA X (e :: es) (cA Ec (lCons a r)) := by
  refine (pa_cons ha hr hs).sub fun σ H Q ⟨Φ, E, xp, s, Qa, r0, x0, q, k⟩ => ⟨Φ, E, xp, s, _, r0, x0, q, fun o E1 s1 v H1 l r1 kb rp q1 => ?_⟩
  exact ⟨Φ, E1, xp, s1, _, r1, x0, q1, fun os E2 s2 vs H2 l2 r2 k2 p2 q2 => k (o :: os) E2 s2 (v :: vs) H2 (l2.trans l) r2 (kb.trans l k2) (.cons (rp.kb r1.lst k2 l2) p2) q2⟩
/-- all are data, none a list that is still built -/
def vals : List Op → Option (List PyData)
  | [] => some []
  | .val d :: r => (vals r).map (d :: ·)
  | _ :: _ => none
def rv : List Op → (List PyData → Prop) → Prop
  | [], k => k []
  | .val d :: r, k => rv r fun ds => k (d :: ds)
  | _ :: _, _ => False
theorem rv_get : ∀ {os : List Op} {k : List PyData → Prop}, rv os k → ∃ ds, vals os = some ds ∧ k ds
  | [], k, h => ⟨[], rfl, h⟩
  | .val d :: r, k, h => by
    obtain ⟨ds, e, q⟩ := rv_get (os := r) (k := fun ds => k (d :: ds)) h
    exact ⟨d :: ds, by unfold vals; rw [e]; rfl, q⟩
  | .slot _ :: _, _, h => h.elim
  | .deck :: _, _, h => h.elim
theorem vals_rp {Φ : Fx} {E : OE} {σ : L2.St} {H : Hp} : ∀ {os : List Op} {vs : List V} {ds : List PyData}, Paired (RpO Φ E σ H) os vs → vals os = some ds → RpAll H (ban Φ E) ds vs
  | [], _, _, .nil, e => by cases e; rfl
  | .val d :: r, _, _, .cons h t, e => by
    unfold vals at e
    cases e2 : vals r with
    | none => rw [e2] at e; cases e
    | some ds =>
      rw [e2] at e; cases e
      exact ⟨_, _, rfl, h, vals_rp t e2⟩
  | .slot _ :: _, _, _, _, e => by cases e
  | .deck :: _, _, _, _, e => by cases e
theorem vals_len : ∀ {os : List Op} {ds : List PyData}, vals os = some ds → ds.length = os.length
  | [], _, e => by cases e; rfl
  | .val d :: r, _, e => by
    unfold vals at e
    cases e2 : vals r with
    | none => rw [e2] at e; cases e
    | some ds =>
      rw [e2] at e; cases e
      simp [vals_len e2]
  | .slot _ :: _, _, e => by cases e
  | .deck :: _, _, e => by cases e
def aTup (aa : AA) : AE := fun xp s Q => aa xp s fun os s1 => rv os fun ds => ds.length ≤ sizeLine ∧ Q (.tuple ds) s1
theorem ae_tup {es : List Expr} {aa : AA} {pos : Pos} {x1} (h : PA X es (cA Ec aa)) : PE X (.Tuple es x1 pos) (cE Ec (aTup aa)) := by
  refine (pe_tupN h).sub fun σ H Q ⟨Φ, E, xp, s, Qa, r0, x0, q, k⟩ => ⟨Φ, E, xp, s, _, r0, x0, q, fun os E1 s1 vs H1 l r1 kb rp q1 => ?_⟩
  obtain ⟨ds, e, hl, q1⟩ := rv_get q1
  have ra := vals_rp rp e
  refine ⟨by rw [ra.len]; exact hl, fun p H' hp m tf => ?_⟩
  exact k (.tuple ds) E1 s1 _ H' l (r1.same m) (kb.trans (Le.refl _) (KB.of_same m) : KB E H H') ⟨p, vs, rfl, tf, ra.same m⟩ q1
def aLst (aa : AA) : AE := fun xp s Q => aa xp s fun os s1 => rv os fun ds => ds.length ≤ sizeLine ∧ Q (.list ds) s1
theorem af_lst (i : Nat) {es : List Expr} {aa : AA} {pos : Pos} (h : PA X es (cA Ec aa)) : PE X (.List es pos) (cF i Ec (aLst aa)) := by
  refine (pe_lstN h).sub fun σ H Q ⟨Φ, E, xp, s, Qa, r0, x0, q, k⟩ => ⟨Φ, E, xp, s, _, r0, x0, q, fun os E1 s1 vs H1 l r1 kb rp q1 => ?_⟩
  obtain ⟨ds, e, hl, q1⟩ := rv_get q1
  have ra := vals_rp rp e
  refine ⟨by rw [ra.len]; exact hl, fun p H' hp hs m ep => ?_⟩
  refine k ds E1 s1 p vs H' l (r1.same m) (r1.add i hp m ep) (fun b o h1 h2 => m _ _ (kb b o h1 h2)) ep (RpAll.same (RpAll.fresh (fun a ha => ?_) ra) m) (r1.newban hp) q1
  rcases mem_ban_add ha with h | h
  · rw [h]; exact .inr hp
  · exact .inl h
theorem ae_F {e : Expr} {i : Nat} {a : AE} (h : PE X e (cF i Ec a)) : PE X e (cE Ec a) := h.sub fun σ H Q ⟨Φ, E, xp, s, Qa, r0, x0, q, k⟩ => ⟨Φ, E, xp, s, _, r0, x0, q, fun ds E1 s1 p xs H1 l r1 _ kb ep ra nb q1 => k (.list ds) E1 s1 _ H1 l r1 kb ⟨p, xs, rfl, ep, nb, ra.wk fun _ h => ban_add h⟩ q1⟩
theorem ae_lst {es : List Expr} {aa : AA} {pos : Pos} (h : PA X es (cA Ec aa)) : PE X (.List es pos) (cE Ec (aLst aa)) := ae_F (af_lst 0 h)
end
end TR
namespace TR
open PySem PySem.Spec PyProof.Rows L2
def AS.set (s : AS) (i : Nat) (x : AV) : AS := { s with sl := s.sl.set i (some x) }
section
variable {Φ : Fx} {E : OE} {s : AS} {σ : L2.St} {H : Hp}
theorem Rel.setX (r : Rel Φ E s σ H) (i : Nat) {x : AV} {v : V} (h : RelS Φ E H i x v) : Rel Φ E (s.set i x) (σ.set i (some v)) H := by
  refine ⟨by show (s.sl.set i (some x)).length = _; rw [List.length_set, List.length_set]; exact r.len, fun j y hy => ?_, r.dk, r.own, r.inj, r.fr, r.dk0, r.alive, r.held, r.zz, r.znd⟩
  by_cases e : i = j
  · subst e
    have hl : i < s.sl.length := by
      have := (List.getElem?_eq_some_iff.mp hy).1
      rw [show (s.set i x).sl = s.sl.set i (some x) from rfl, List.length_set] at this
      exact this
    have hy2 : (s.sl.set i (some x))[i]? = some (some y) := hy
    rw [List.getElem?_set_self hl] at hy2
    cases hy2
    exact ⟨v, List.getElem?_set_self (by rw [← r.len]; exact hl), h⟩
  · have hy2 : (s.sl.set i (some x))[j]? = some (some y) := hy
    rw [List.getElem?_set_ne e] at hy2
    obtain ⟨w, h1, h2⟩ := r.val j y hy2
    exact ⟨w, by rw [List.getElem?_set_ne e]; exact h1, h2⟩
theorem Rel.ret (r : Rel Φ E s σ H) {d : PyData} {v : V} (h : Rp H (ban Φ E) d v) : RetOk Φ d s.n v H := by
  refine ⟨r.fr, fun d p q e => (r.dk d p q (r.dk0 _ e)).1, Rp.wk (fun a ha => ?_) h⟩
  rcases List.mem_append.mp ha with z | z
  · cases e : Φ.dk0 with
    | none => rw [e] at z; cases z
    | some t =>
      refine List.mem_append_left _ (List.mem_append_left _ ?_)
      rw [r.dk0 t e, ← e]; exact z
  · exact List.mem_append_right _ (List.mem_append_right _ z)
theorem Rel.retOwn (r : Rel Φ E s σ H) {i : Nat} {ds : List PyData} {v : V} (h : RelS Φ E H i (.own ds) v) : RetOk Φ (.list ds) s.n v H := by
  obtain ⟨a, xs, rfl, m, h1, h2⟩ := h
  refine ⟨r.fr, fun d p q e => (r.dk d p q (r.dk0 _ e)).1, a, xs, rfl, h1, fun ha => ?_, RpAll.wk (fun b hb => ?_) h2⟩
  · obtain ⟨_, g1, g2, g3⟩ := r.own i a m
    rcases List.mem_append.mp ha with z | z
    · cases e : Φ.dk0 with
      | none => rw [e] at z; cases z
      | some t => rw [e, ← r.dk0 t e] at z; exact g2 z
    · exact g1 z
  · rcases List.mem_append.mp hb with z | z
    · cases e : Φ.dk0 with
      | none => rw [e] at z; cases z
      | some t =>
        refine List.mem_append_left _ (List.mem_append_left _ ?_)
        rw [r.dk0 t e, ← e]; exact z
    · exact List.mem_append_right _ (List.mem_append_right _ z)
end
section
variable {X : Cx} {Ec : EC}
/-! ### blocks -/
def sNx : AST := fun _ D s => D.nx s
def sSeq (a b : AST) : AST := fun xp D s => a xp { D with nx := b xp D } s
theorem as_nil : PSs X [] (cS Ec sNx) := pss_nil.sub fun D σ H ⟨Φ, E, xp, s, Da, r, x, q, m⟩ => m.nx E s σ H r q
theorem as_cons {st : Stmt} {rest : List Stmt} {a b : AST} (h : PS X st (cS Ec a)) (g : PSs X rest (cS Ec b)) : PSs X (st :: rest) (cS Ec (sSeq a b)) := (pss_cons h g).sub fun D σ H ⟨Φ, E, xp, s, Da, r, x, q, m⟩ => ⟨Φ, E, xp, s, _, r, x, q, fun E' s' σ' H' r' q' => ⟨Φ, E', xp, s', Da, r', x, q', m⟩, m.bk, m.ct, m.rt⟩
theorem as_one {st : Stmt} {a : AST} (h : PS X st (cS Ec a)) : PSs X [st] (cS Ec a) := pss_one h
theorem as_pass {pos : Pos} : PS X (.Pass pos) (cS Ec sNx) := ps_pass.sub fun D σ H ⟨Φ, E, xp, s, Da, r, x, q, m⟩ => m.nx E s σ H r q
def sBreak : AST := fun _ D s => D.bk s
def sCont : AST := fun _ D s => D.ct s
theorem as_break {pos : Pos} : PS X (.Break pos) (cS Ec sBreak) := ps_break.sub fun D σ H ⟨Φ, E, xp, s, Da, r, x, q, m⟩ => m.bk E s σ H r q
theorem as_continue {pos : Pos} : PS X (.Continue pos) (cS Ec sCont) := ps_continue.sub fun D σ H ⟨Φ, E, xp, s, Da, r, x, q, m⟩ => m.ct E s σ H r q
/-! ### one statement -/
def sDrop (a : AE) : AST := fun xp D s => a xp s fun _ s1 => D.nx s1
theorem as_expr {e : Expr} {a : AE} {pos : Pos} (h : PE X e (cE Ec a)) (hs : swapsWith e none pos.line X.env = pure false := by rfl) : PS X (.Expr e pos) (cS Ec (sDrop a)) := (ps_expr h hs).sub fun D σ H ⟨Φ, E, xp, s, Da, r, x, q, m⟩ => ⟨Φ, E, xp, s, _, r, x, q, fun d E' s' v H' _ r' _ _ q' => m.nx E' s' σ H' r' q'⟩
def sRet (a : AE) : AST := fun xp D s => a xp s fun d s1 => D.rt d s1.n
theorem as_ret {e : Expr} {a : AE} {pos : Pos} (h : PE X e (cE Ec a)) : PS X (.Return (some e) pos) (cS Ec (sRet a)) := (ps_ret h).sub fun D σ H ⟨Φ, E, xp, s, Da, r, x, q, m⟩ => ⟨Φ, E, xp, s, _, r, x, q, fun d E' s' v H' _ r' _ p q' => m.rt d s'.n v H' (r'.ret p) q'⟩
def sRetN : AST := fun _ D s => D.rt .none s.n
theorem as_retN {pos : Pos} : PS X (.Return none pos) (cS Ec sRetN) := ps_retN.sub fun D σ H ⟨Φ, E, xp, s, Da, r, x, q, m⟩ => m.rt .none s.n _ H (r.ret rfl) q
/-- return of a name: also of a list that was built here -/
def sRetV (i : Nat) : AST := fun _ D s => match s.sl[i]? with
  | some (some (.dat d)) => D.rt d s.n
  | some (some (.own ds)) => D.rt (.list ds) s.n
  | _ => False
theorem as_retV (i : Nat) {e : Expr} {pos : Pos} (h : PE X e (tVar i)) : PS X (.Return (some e) pos) (cS Ec (sRetV i)) := (ps_ret h).sub fun D σ H ⟨Φ, E, xp, s, Da, r, x, q, m⟩ => by
  unfold sRetV at q
  split at q
  · next d hd =>
    obtain ⟨v, h1, h2⟩ := r.val i _ hd
    exact ⟨v, h1, m.rt d s.n v H (r.ret h2) q⟩
  · next ds hd =>
    obtain ⟨v, h1, h2⟩ := r.val i _ hd
    exact ⟨v, h1, m.rt (.list ds) s.n v H (r.retOwn h2) q⟩
  · exact q.elim
def sIf (t : AT) (a b : AST) : AST := fun xp D s => t xp s fun c s1 => if c = true then a xp D s1 else b xp D s1
theorem as_if {c : Expr} {p q : List Stmt} {t : AT} {a b : AST} {pos : Pos} (hc : PT X c (cT Ec t)) (ha : PSs X p (cS Ec a)) (hb : PSs X q (cS Ec b)) : PS X (.If c p q pos) (cS Ec (sIf t a b)) := by
  refine (ps_if hc ha hb).sub fun D σ H ⟨Φ, E, xp, s, Da, r, x, q, m⟩ => ⟨Φ, E, xp, s, _, r, x, q, fun c E' s' H' _ r' _ q' => ?_⟩
  cases c with
  | true => exact iteT ⟨Φ, E', xp, s', Da, r', x, unT q', m⟩
  | false => exact iteF ⟨Φ, E', xp, s', Da, r', x, unF q', m⟩
/-! ### x = e -/
def sSet (i : Nat) (a : AE) : AST := fun xp D s => a xp s fun d s1 => D.nx (s1.set i (.dat d))
theorem as_asgT {i : Nat} {st : Stmt} {te : TE} {a : AE} (h : PS X st (tAsg te (gName i))) (g : ∀ σ H Q, cE Ec a σ H Q → te σ H Q) : PS X st (cS Ec (sSet i a)) := h.sub fun D σ H ⟨Φ, E, xp, s, Da, r, x, q, m⟩ => g _ _ _ ⟨Φ, E, xp, s, _, r, x, q, fun d E' s' v H' _ r' _ p q' => m.nx E' _ _ H' (r'.setX i (x := .dat d) p) q'⟩
/-- a new list, which will be changed -/
def sSetO (i : Nat) (a : AE) : AST := fun xp D s => a xp s fun d s1 => match d with
  | .list ds => D.nx (s1.set i (.own ds))
  | _ => False
theorem as_asgO {i : Nat} {st : Stmt} {te : TE} {a : AE} (h : PS X st (tAsg te (gName i))) (g : ∀ σ H Q, cF i Ec a σ H Q → te σ H Q) : PS X st (cS Ec (sSetO i a)) := h.sub fun D σ H ⟨Φ, E, xp, s, Da, r, x, q, m⟩ => g _ _ _ ⟨Φ, E, xp, s, _, r, x, q, fun ds E' s' l xs H' _ _ r' _ el ra _ q' => m.nx (E'.add i l) _ _ H' (r'.setX i (x := .own ds) ⟨l, xs, rfl, List.mem_cons_self, el, ra⟩) q'⟩
theorem as_set {i : Nat} {y : Str} {e : Expr} {a : AE} {pos pos' : Pos} (hN : X.N.Nodup) (hi : X.N[i]? = some y) (hx : Loc X.env.scope y) (he : PE X e (cE Ec a)) (hs : swapsWith e (some (.Name y pos')) pos.line X.env = pure false := by rfl) (hf : X.fn y = true ∨ X.env.scope.names.lookup y = some .local := by first | exact .inl rfl | exact .inr rfl | assumption) : PS X (.Assign [.Name y pos'] e pos) (cS Ec (sSet i a)) := as_asgT (ps_set hN hi hx he hs hf) fun _ _ _ h => h
theorem as_setO {i : Nat} {y : Str} {e : Expr} {a : AE} {pos pos' : Pos} (hN : X.N.Nodup) (hi : X.N[i]? = some y) (hx : Loc X.env.scope y) (he : PE X e (cF i Ec a)) (hs : swapsWith e (some (.Name y pos')) pos.line X.env = pure false := by rfl) (hf : X.fn y = true ∨ X.env.scope.names.lookup y = some .local := by first | exact .inl rfl | exact .inr rfl | assumption) : PS X (.Assign [.Name y pos'] e pos) (cS Ec (sSetO i a)) := as_asgO (ps_set hN hi hx he hs hf) fun _ _ _ h => h
/-! ### targets -/
abbrev AB := PyData → AS → (AS → Prop) → Prop
abbrev ABs := List PyData → AS → (AS → Prop) → Prop
def Off (sl : List Nat) (σ σ' : L2.St) : Prop := σ'.length = σ.length ∧ ∀ j, j ∉ sl → σ'[j]? = σ[j]?
theorem Off.trans {a b : List Nat} {σ σ1 σ2 : L2.St} (h : Off a σ σ1) (g : Off b σ1 σ2) : Off (a ++ b) σ σ2 := ⟨g.1.trans h.1, fun j hj => (g.2 j fun m => hj (List.mem_append_right _ m)).trans (h.2 j fun m => hj (List.mem_append_left _ m))⟩
/-- a pair that a walk makes is taken apart at once -/
def RpW (w : Bool) (H : Hp) (bn : List Addr) (d : PyData) (v : V) : Prop := match w with
  | false => Rp H bn d v
  | true => ∃ T xs ds, d = .tuple ds ∧ v = .ref T ∧ H T = some (.tup xs) ∧ RpAll H bn ds xs
def cG (w : Bool) (sl : List Nat) (b : AB) : TG := fun v σ H Q => ∃ Φ E s d Qa, Rel Φ E s σ H ∧ RpW w H (ban Φ E) d v ∧ b d s Qa ∧ ∀ s' σ', Rel Φ E s' σ' H → Off sl σ σ' → Qa s' → Q σ' H
def cGs (sl : List Nat) (b : ABs) : TGs := fun vs σ H Q => ∃ Φ E s ds Qa, Rel Φ E s σ H ∧ RpAll H (ban Φ E) ds vs ∧ b ds s Qa ∧ ∀ s' σ', Rel Φ E s' σ' H → Off sl σ σ' → Qa s' → Q σ' H
theorem _root_.L2.PG.sub {e : Expr} {t t' : TG} (h : PG X e t) (g : ∀ v σ H Q, t' v σ H Q → t v σ H Q) : PG X e t' := ⟨fun pins s σ H v u Q I r q => h.run pins s σ H v u Q I r (g _ _ _ _ q)⟩
theorem _root_.L2.PGs.sub {e : List Expr} {t t' : TGs} (h : PGs X e t) (g : ∀ v σ H Q, t' v σ H Q → t v σ H Q) : PGs X e t' := ⟨fun pins s σ H v u Q I r q => h.run pins s σ H v u Q I r (g _ _ _ _ q)⟩
def bNm (i : Nat) : AB := fun d s Q => Q (s.set i (.dat d))
theorem off_set {i : Nat} {σ : L2.St} {v : V} : Off [i] σ (σ.set i (some v)) := ⟨List.length_set, fun j hj => List.getElem?_set_ne fun e => hj (by rw [e]; simp)⟩
theorem ag_name {i : Nat} {e : Expr} (h : PG X e (gName i)) : PG X e (cG false [i] (bNm i)) := h.sub fun v σ H Q ⟨Φ, E, s, d, Qa, r, p, q, k⟩ => k _ _ (r.setX i (x := .dat d) p) off_set q
def bNil : ABs := fun ds s Q => ds = [] ∧ Q s
def bCons (b : AB) (c : ABs) : ABs := fun ds s Q => match ds with
  | d :: r => b d s fun s1 => c r s1 Q
  | [] => False
theorem ags_nil : PGs X [] (cGs [] bNil) := pgs_nil.sub fun v σ H Q ⟨Φ, E, s, ds, Qa, r, p, q, k⟩ => by
  obtain ⟨rfl, q⟩ := q
  exact ⟨p, k s σ r ⟨rfl, fun _ _ => rfl⟩ q⟩
theorem ags_cons {e : Expr} {es : List Expr} {a b : List Nat} {f : AB} {g : ABs} (h1 : PG X e (cG false a f)) (h2 : PGs X es (cGs b g)) (hs : (assignEach (e :: es) X.env).map (·.2) = assign e X.env :: (assignEach es X.env).map (·.2) := by rfl) : PGs X (e :: es) (cGs (a ++ b) (bCons f g)) := by
  refine (pgs_cons h1 h2 hs).sub fun v σ H Q ⟨Φ, E, s, ds, Qa, r, p, q, k⟩ => ?_
  cases ds with
  | nil => exact q.elim
  | cons d t =>
    obtain ⟨w, u, rfl, p1, p2⟩ := p
    exact ⟨w, u, rfl, Φ, E, s, d, _, r, p1, q, fun s1 σ1 r1 o1 q1 => ⟨Φ, E, s1, t, Qa, r1, p2, q1, fun s2 σ2 r2 o2 q2 => k s2 σ2 r2 (o1.trans o2) q2⟩⟩
def bTup (n : Nat) (b : ABs) : AB := fun d s Q => match d with
  | .tuple ds => ds.length = n ∧ b ds s Q
  | _ => False
theorem ag_tup {w : Bool} {es : List Expr} {k n : Nat} {a : List Nat} {b : ABs} {pos : Pos} (hc : X.calm = true) (h : PGs X es (cGs a b)) (hn : (assignEach es X.env).length = n := by rfl) (hst : (assignEach es X.env).findIdx? (·.1) = none := by rfl) : PG X (.Tuple es k pos) (cG w a (bTup n b)) := by
  refine (pg_tup hc h hn hst).sub fun v σ H Q ⟨Φ, E, s, d, Qa, r, p, q, k⟩ => ?_
  cases d with
  | tuple ds =>
    obtain ⟨hl, q⟩ := q
    cases w with
    | false =>
      obtain ⟨x, xs, rfl, tf, ra⟩ := p
      exact ⟨x, xs, rfl, .inl tf.rd, by rw [ra.len]; exact hl, Φ, E, s, ds, Qa, r, ra, q, k⟩
    | true =>
      obtain ⟨x, xs, ds', e, rfl, tf, ra⟩ := p
      cases e
      exact ⟨x, xs, rfl, SqT.of tf, by rw [ra.len]; exact hl, Φ, E, s, ds, Qa, r, ra, q, k⟩
  | none => exact q.elim
  | bool _ => exact q.elim
  | int _ => exact q.elim
  | str _ => exact q.elim
  | list _ => exact q.elim
  | dict _ => exact q.elim
def sAsg (a : AE) (b : AB) : AST := fun xp D s => a xp s fun d s1 => b d s1 D.nx
theorem as_asg {tg e : Expr} {a : AE} {sl : List Nat} {b : AB} {pos : Pos} (he : PE X e (cE Ec a)) (hg : PG X tg (cG false sl b)) (hs : swapsWithSole [tg] e pos.line X.env = pure false := by rfl) (hw : swappedStores [tg] e X.env = pure none := by rfl) (h1 : (assignEach [tg] X.env).map (·.2) = [assign tg X.env] := by rfl) : PS X (.Assign [tg] e pos) (cS Ec (sAsg a b)) := (ps_asg he hg hs hw h1).sub fun D σ H ⟨Φ, E, xp, s, Da, r, x, q, m⟩ => ⟨Φ, E, xp, s, _, r, x, q, fun d E' s' v H' _ r' _ p q' => ⟨Φ, E', s', d, Da.nx, r', p, q', fun s2 σ2 r2 _ q2 => m.nx E' s2 σ2 H' r2 q2⟩⟩
/-- a, b = e, f -/
def sPar (i j : Nat) (aa : AA) : AST := fun xp D s => aa xp s fun os s1 => rv os fun ds => match ds with
  | [d, e] => D.nx ((s1.set i (.dat d)).set j (.dat e))
  | _ => False
theorem as_par {i j : Nat} {st : Stmt} {aa : AA} (h : PS X st (tPar i j (cA Ec aa))) : PS X st (cS Ec (sPar i j aa)) := by
  refine h.sub fun D σ H ⟨Φ, E, xp, s, Da, r, x, q, m⟩ => ⟨Φ, E, xp, s, _, r, x, q, fun os E' s' vs H' _ r' _ p q' => ?_⟩
  obtain ⟨ds, e, q'⟩ := rv_get q'
  have ra := vals_rp p e
  match ds, q', ra with
  | [d, e], q', ra =>
    obtain ⟨v, t, rfl, p1, w, u, rfl, p2, rfl⟩ := ra
    exact ⟨v, w, rfl, m.nx E' _ _ H' ((r'.setX i (x := .dat d) p1).setX j (x := .dat e) p2) q'⟩
/-- x op= e -/
def sAug (f : PyData → PyData → (PyData → Prop) → Prop) (i : Nat) (ab : AO) : AST := fun xp D s => match s.sl[i]? with
  | some (some (.dat d1)) => ab xp s fun o s1 => rs s1 o fun d2 => f d1 d2 fun d => D.nx (s1.set i (.dat d))
  | _ => False
theorem as_aug {i : Nat} {st : Stmt} {r : TIp} {f : PyData → PyData → (PyData → Prop) → Prop} {ab : AO} (hd : DOp r f) (h : PS X st (tAug i (cO Ec ab) r)) : PS X st (cS Ec (sAug f i ab)) := by
  refine h.sub fun D σ H ⟨Φ, E, xp, s, Da, r, x, q, m⟩ => ?_
  unfold sAug at q
  split at q
  · next d1 hd1 =>
    obtain ⟨v1, h1, p1⟩ := r.val i _ hd1
    refine ⟨v1, h1, Φ, E, xp, s, _, r, x, q, fun o E' s' v2 H' l r' k p q' => ?_⟩
    obtain ⟨d2, e2, q'⟩ := rs_get q'
    refine hd (ban Φ E') H' d1 d2 v1 v2 _ _ r'.nb (.inl (Rp.wk l.ban (Rp.kb (show Rp H (ban Φ E) d1 v1 from p1) r.lst k))) (r'.res p e2) q' fun d v H2 m2 rp q2 => ?_
    exact m.nx E' _ _ H2 ((r'.same m2).setX i (x := .dat d) rp) q2
  · exact q.elim
/-! ### while -/
def whN (t : AT) (b : AST) (xp : XP) (D : AEnds) : Nat → AS → Prop
  | 0, _ => False
  | k + 1, s => t xp s fun c s1 => if c = true then b xp { D with nx := whN t b xp D k, ct := whN t b xp D k, bk := D.nx } s1 else D.nx s1
def sWhile (t : AT) (b : AST) : AST := fun xp D s => ∃ k, whN t b xp D k s
theorem as_while {c : Expr} {body : List Stmt} {t : AT} {b : AST} {pos : Pos} (hp : PassesOwn (model X.prog X.w) X.A X.env X.xe) (hc : PT X c (cT Ec t)) (hb : PSs X body (cS Ec b)) : PS X (.While c body [] pos) (cS Ec (sWhile t b)) := by
  refine (ps_while hp hc hb).sub fun D σ H ⟨Φ, E, xp, s, Da, r, x, ⟨k0, q⟩, m⟩ => ?_
  refine ⟨fun k σ H => ∃ E s, Rel Φ E s σ H ∧ whN t b xp Da k s, ⟨k0, E, s, r, q⟩, fun k σ H ⟨E, s, r, q⟩ => ?_⟩
  cases k with
  | zero => exact q.elim
  | succ k =>
    refine ⟨Φ, E, xp, s, _, r, x, q, fun c E' s' H' _ r' _ q' => ?_⟩
    cases c with
    | true =>
      refine iteT ⟨fun σ H => ∃ E s, Rel Φ E s σ H ∧ whN t b xp Da k s, fun σ' H' h => ⟨k, Nat.lt_succ_self _, h⟩, Φ, E', xp, s', _, r', x, unT q', ?_⟩
      exact ⟨fun E s σ H r q => ⟨E, s, r, q⟩, m.nx, fun E s σ H r q => ⟨E, s, r, q⟩, m.rt⟩
    | false => exact iteF (m.nx E' s' σ H' r' (unF q'))
/-! ### what is walked -/
inductive AIt where
  | fix (L : List PyData)
  | slt (i : Nat) (d : PyData)
def items : PyData → List PyData
  | .list L => L
  | .tuple L => L
  | _ => []
def AIt.its : AIt → List PyData
  | .fix L => L
  | .slt _ d => items d
def AIt.chk (s : AS) : AIt → Prop
  | .fix _ => True
  | .slt i d => res s (.slot i) = some d
abbrev AI := XP → AS → (AIt → AS → Prop) → Prop
def chkσ (σ σ1 : L2.St) (s : AS) : AIt → Prop
  | .fix _ => True
  | .slt i d => σ1[i]? = σ[i]? ∧ res s (.slot i) = some d
def JOk (w : Bool) (σ : L2.St) (J : It) (it : AIt) (hold : List (PyData × V)) : Prop := ∀ Φ E s σ1 H, Rel Φ E s σ1 H → (∀ x ∈ hold, Rp H (ban Φ E) x.1 x.2) → chkσ σ σ1 s it → ∀ i,
  (∀ d, it.its[i]? = some d → J.go i H ∧ ∀ x H2, J.yld i H x H2 → Same H H2 ∧ RpW w H2 (ban Φ E) d x) ∧ (it.its.length = i → J.stop i H)
def cI (w : Bool) (Ec : EC) (a : AI) : TI := fun σ H R => ∃ Φ E xp s Qa, Rel Φ E s σ H ∧ XSim Φ xp Ec ∧ a xp s Qa ∧ ∀ it E' s' J H' hold, Le E' E → Rel Φ E' s' σ H' → KB E H H' → JOk w σ J it hold → (∀ x ∈ hold, Rp H' (ban Φ E') x.1 x.2) → Qa it s' → R J H'
theorem Rel.hold {Φ : Fx} {E : OE} {s : AS} {σ : L2.St} {H : Hp} (r : Rel Φ E s σ H) {h : List (PyData × V)} (hh : ∀ x ∈ h, Rp H (ban Φ E) x.1 x.2) : Rel { Φ with T := h ++ Φ.T } E s σ H :=
  ⟨r.len, fun i x e => by
    obtain ⟨v, h1, h2⟩ := r.val i x e
    refine ⟨v, h1, ?_⟩
    cases x <;> exact h2, r.dk, r.own, r.inj, r.fr, r.dk0, r.alive, fun x hx => by
    rcases List.mem_append.mp hx with z | z
    · exact hh x z
    · exact r.held x z, r.zz, r.znd⟩
theorem Rel.unhold {Φ : Fx} {E : OE} {s : AS} {σ : L2.St} {H : Hp} {h : List (PyData × V)} (r : Rel { Φ with T := h ++ Φ.T } E s σ H) : Rel Φ E s σ H ∧ ∀ x ∈ h, Rp H (ban Φ E) x.1 x.2 :=
  ⟨⟨r.len, fun i x e => by
    obtain ⟨v, h1, h2⟩ := r.val i x e
    refine ⟨v, h1, ?_⟩
    cases x <;> exact h2, r.dk, r.own, r.inj, r.fr, r.dk0, r.alive, fun x hx => r.held x (List.mem_append_right _ hx), r.zz, r.znd⟩, fun x hx => r.held x (List.mem_append_left _ hx)⟩
/-! ### for -/
def forL (b : AB) (body : AST) (xp : XP) (D : AEnds) : List PyData → AS → Prop
  | [], s => D.nx s
  | x :: xs, s => b x s fun s1 => body xp { D with nx := forL b body xp D xs, ct := forL b body xp D xs, bk := D.nx } s1
def sFor (ai : AI) (b : AB) (body : AST) : AST := fun xp D s => ai xp s fun it s1 => match it with
  | .fix L => forL b body xp D L s1
  | .slt _ _ => False
theorem as_for {w : Bool} {tg iter : Expr} {body : List Stmt} {ai : AI} {sl : List Nat} {b : AB} {bd : AST} {pos : Pos} (hp : PassesOwn (model X.prog X.w) X.A X.env X.xe) (hc : X.calm = true) (hi : PI X tg iter (cI w Ec ai)) (hg : PG X tg (cG w sl b)) (hb : PSs X body (cS Ec bd))
    (hs : ∀ x, foldedSetIterable iter X.env x = pure x := by intro _; rfl) : PS X (.For tg iter body [] pos) (cS Ec (sFor ai b bd)) := by
  refine (ps_for hp hc hi hg hb hs).sub fun D σ H ⟨Φ, E, xp, s, Da, r, xs0, q, m⟩ => ⟨Φ, E, xp, s, _, r, xs0, q, fun it E1 s1 J H1 hold l1 r1 k1 jo hh q1 => ?_⟩
  cases it with
  | slt i L => exact q1.elim
  | fix L =>
    refine ⟨fun i mm σ H => mm = L.length - i ∧ i ≤ L.length ∧ ∃ E s, Rel { Φ with T := hold ++ Φ.T } E s σ H ∧ forL b bd xp Da (L.drop i) s, ⟨L.length, by simp, Nat.zero_le _, E1, s1, r1.hold hh, by rw [List.drop_zero]; exact q1⟩, ?_⟩
    rintro i mm σ2 H2 ⟨rfl, hi, E2, s2, r2, q2⟩
    obtain ⟨r2', hh2⟩ := r2.unhold
    obtain ⟨jgo, jst⟩ := jo Φ E2 s2 σ2 H2 r2' hh2 trivial i
    by_cases hlt : i < L.length
    · obtain ⟨go, yl⟩ := jgo L[i] (List.getElem?_eq_getElem hlt)
      rw [List.drop_eq_getElem_cons hlt] at q2
      refine .inr ⟨go, fun σ H => ∃ E s, Rel { Φ with T := hold ++ Φ.T } E s σ H ∧ forL b bd xp Da (L.drop (i + 1)) s, fun σ' H' h => ⟨L.length - (i + 1), by omega, rfl, hlt, h⟩, fun x H3 y => ?_⟩
      obtain ⟨sm, rp⟩ := yl x H3 y
      refine ⟨{ Φ with T := hold ++ Φ.T }, E2, s2, L[i], _, r2.same sm, rp, q2, fun s3 σ3 r3 _ q3 => ⟨{ Φ with T := hold ++ Φ.T }, E2, xp, s3, _, r3, ⟨xs0.1, fun y E s σ H da r xr hx => xs0.2 y E s σ H da r.unhold.1 xr hx⟩, q3, fun E s σ H r q => ⟨E, s, r, q⟩, fun E s σ H r q => m.nx E s σ H r.unhold.1 q, fun E s σ H r q => ⟨E, s, r, q⟩, fun r n v H ro q => m.rt r n v H ⟨ro.fr, ro.dk, ro.rp⟩ q⟩⟩
    · have e : i = L.length := by omega
      subst e
      rw [List.drop_length] at q2
      exact .inl ⟨jst rfl, m.nx E2 s2 σ2 H2 r2' q2⟩
end
end TR
namespace TR
open PySem PySem.Spec PyProof.Rows L2
def x0 : XP := fun _ _ => False
abbrev e00 : EC := ⟨fun _ _ _ _ => False, none, []⟩
theorem xsim0 {Φ : Fx} {Ec : EC} {xp : XP} (x : XSim Φ xp Ec) : XSim Φ x0 Ec.z := ⟨x.1, fun _ _ _ _ _ _ _ _ h => h⟩
abbrev Fx.z (Φ : Fx) (D : Addr) (xs : List V) : Fx := { Φ with Z := (D, .lst xs) :: Φ.Z }
section
variable {Φ : Fx} {E : OE} {s : AS} {σ : L2.St} {H : Hp} {D : Addr} {xs : List V}
theorem ban_z {a : Addr} (h : a ∈ ban (Φ.z D xs) E) : a = D ∨ a ∈ ban Φ E := by
  unfold ban at h ⊢
  simp only [List.map_cons, List.mem_append, List.mem_cons] at h ⊢
  rcases h with h | (h | h) | h
  · exact .inr (.inl h)
  · exact .inl h
  · exact .inr (.inr (.inl h))
  · exact .inr (.inr (.inr h))
theorem z_ban {a : Addr} (h : a ∈ ban Φ E) : a ∈ ban (Φ.z D xs) E := by
  unfold ban at h ⊢
  simp only [List.map_cons, List.mem_append, List.mem_cons] at h ⊢
  rcases h with h | h | h
  · exact .inl h
  · exact .inr (.inl (.inr h))
  · exact .inr (.inr h)
theorem z_mem : D ∈ ban (Φ.z D xs) E := by
  unfold ban
  simp
theorem RelS.map {Φ' : Fx} {E' : OE} {H' : Hp} {i : Nat} (hE : ∀ x ∈ E.R, x ∈ E'.R) (hd : E'.dk = E.dk) (hB : ∀ b ∈ Φ.B, b ∈ Φ'.B) (h1 : ∀ d v, Rp H (ban Φ E) d v → Rp H' (ban Φ' E') d v) (h2 : ∀ ds vs, RpAll H (ban Φ E) ds vs → RpAll H' (ban Φ' E') ds vs)
    (h3 : ∀ a o, (∃ j, (j, a) ∈ E.R) ∨ a ∈ Φ.B → H a = some o → H' a = some o) (hX : Φ'.ex = Φ.ex) (hCs : Φ'.cs = Φ.cs) (h4 : ∀ x da, XRep H (ban Φ E) x da → XRep H' (ban Φ' E') x da) : ∀ {x : AV} {v : V}, RelS Φ E H i x v → RelS Φ' E' H' i x v
  | .dat _, _, h => h1 _ _ h
  | .own _, _, h => by
    obtain ⟨a, ys, e, m, g1, g2⟩ := h
    exact ⟨a, ys, e, hE _ m, h3 a _ (.inl ⟨_, m⟩) g1, h2 _ _ g2⟩
  | .dct _, _, h => by
    obtain ⟨a, ks, e, m, g1, g2⟩ := h
    exact ⟨a, ks, e, hE _ m, h3 a _ (.inl ⟨_, m⟩) g1, g2.mono h1⟩
  | .bor _, _, h => by
    rcases h with h | ⟨a, ds, ys, e, e2, g1, g3, g4⟩
    · exact .inl (h1 _ _ h)
    · exact .inr ⟨a, ds, ys, e, e2, h3 a _ (.inr g3) g1, hB _ g3, h2 _ _ g4⟩
  | .deck, _, h => by
    obtain ⟨d, p, q, e, z⟩ := h
    exact ⟨d, p, q, hd.trans e, z⟩
  | .exc _, _, h => by
    obtain ⟨a, da, e, z, g1, g2⟩ := h
    exact ⟨a, da, hX ▸ e, z, h4 _ _ g1, hCs ▸ g2⟩
/-- a new list is held -/
theorem Rel.addZ {H' : Hp} (r : Rel Φ E s σ H) (hD : H D = none) (m : Same H H') (e : H' D = some (.lst xs)) : Rel (Φ.z D xs) E s σ H' := by
  have fx : ∀ a ∈ ban (Φ.z D xs) E, a ∈ ban Φ E ∨ H a = none := fun a ha => by
    rcases ban_z ha with h | h
    · rw [h]; exact .inr hD
    · exact .inl h
  have nb := r.newban hD
  refine ⟨r.len, fun i x h => ?_, fun d p q h => ?_, fun i a h => ?_, r.inj, fun b o h1 h2 => m _ _ (r.fr b o h1 h2), r.dk0, r.alive, fun x hx => (Rp.fresh fx (r.held x hx)).same m, fun x hx => ?_, ?_⟩
  · obtain ⟨v, h1, h2⟩ := r.val i x h
    exact ⟨v, h1, RelS.map (Φ := Φ) (Φ' := Φ.z D xs) (E' := E) (H' := H') (fun _ h => h) rfl (fun _ h => h) (fun d v h => (Rp.fresh fx h).same m) (fun d v h => (RpAll.fresh fx h).same m) (fun a ys _ h => m _ _ h) rfl rfl (fun x da h => (XRep.fresh fx h).same m) h2⟩
  · obtain ⟨h1, h2⟩ := r.dk d p q h
    exact ⟨h1.same m, h2⟩
  · obtain ⟨⟨ys, h1, mu⟩, h2⟩ := r.own i a h
    exact ⟨⟨ys, m _ _ h1, mu⟩, h2⟩
  · rcases List.mem_cons.mp hx with h | h
    · subst h
      exact ⟨e, fun z => nb (List.mem_append_left _ z), r.noH0 hD⟩
    · obtain ⟨z1, z2⟩ := r.zz x h
      exact ⟨m _ _ z1, z2⟩
  · refine List.nodup_cons.mpr ⟨fun z => ?_, r.znd⟩
    obtain ⟨x, hx, e2⟩ := List.mem_map.mp z
    have e3 : x.1 = D := e2
    rw [← e3, (r.zz x hx).1] at hD; cases hD
theorem Rel.subZ (r : Rel (Φ.z D xs) E s σ H) : Rel Φ E s σ H := by
  refine ⟨r.len, fun i x h => ?_, r.dk, r.own, r.inj, r.fr, r.dk0, r.alive, fun x hx => (r.held x hx).wk fun _ h => z_ban h, fun x hx => r.zz x (List.mem_cons_of_mem _ hx), (List.nodup_cons.mp r.znd).2⟩
  obtain ⟨v, h1, h2⟩ := r.val i x h
  exact ⟨v, h1, RelS.map (Φ := Φ.z D xs) (Φ' := Φ) (E' := E) (H' := H) (fun _ h => h) rfl (fun _ h => h) (fun d v h => h.wk fun _ h => z_ban h) (fun d v h => h.wk fun _ h => z_ban h) (fun a ys _ h => h) rfl rfl (fun x da h => h.wk fun _ h => z_ban h) h2⟩
theorem Mu.ne {H : Hp} {a b : Addr} {o u : HO} (h : H a = some o) (g : H b = some u) (mu : Mu u) (n : Mu o → False) : a ≠ b := fun e => by subst e; rw [h] at g; cases g; exact n mu
theorem Rp.updl {bn : List Addr} {o u : HO} (hD : D ∈ bn) (e : H D = some o) {d : PyData} {v : V} (h : Rp H bn d v) (mu : Mu o := by trivial) : Rp (upd H D u) bn d v :=
  Rp.mv (fun a zs n h => by rw [upd_ne (fun z => n (by rw [z]; exact hD))]; exact h) (fun a zs ⟨o2, hd, h⟩ => ⟨o2, hd, by rw [upd_ne (Mu.ne h e mu fun z => z)]; exact h⟩) (fun a n h => by rw [upd_ne (fun z => n (by rw [z]; exact hD))]; exact h) d v h
theorem RpAll.updl {bn : List Addr} {o u : HO} (hD : D ∈ bn) (e : H D = some o) {d : List PyData} {v : List V} (h : RpAll H bn d v) (mu : Mu o := by trivial) : RpAll (upd H D u) bn d v :=
  RpAll.mv (fun a zs n h => by rw [upd_ne (fun z => n (by rw [z]; exact hD))]; exact h) (fun a zs ⟨o2, hd, h⟩ => ⟨o2, hd, by rw [upd_ne (Mu.ne h e mu fun z => z)]; exact h⟩) (fun a n h => by rw [upd_ne (fun z => n (by rw [z]; exact hD))]; exact h) d v h
theorem XRep.updl {bn : List Addr} {o u : HO} (hD : D ∈ bn) (e : H D = some o) {x : XD} {da : Option Addr} (h : XRep H bn x da) (mu : Mu o := by trivial) : XRep (upd H D u) bn x da := by
  unfold XRep at h ⊢
  split
  · next e0 => rw [e0] at h; exact h
  · next f d e0 =>
    rw [e0] at h
    obtain ⟨g, v, h1, h2, h3⟩ := h
    exact ⟨g, v, h1, by rw [upd_ne (Mu.ne h2 e mu fun z => z)]; exact h2, h3.updl hD e mu⟩
theorem Deck.updl' {d p q : Addr} {n : Nat} {u : HO} (h : Deck H d p q n) (h1 : D ≠ d) (h2 : D ≠ p) (h3 : D ≠ q) : Deck (upd H D u) d p q n := by
  obtain ⟨m, ⟨as, cs, c, g1, g2, g3, g4⟩, a, b, e⟩ := h
  exact ⟨m, ⟨as, cs, c, by rw [upd_ne h1.symm]; exact g1, by rw [upd_ne h2.symm]; exact g2, by rw [upd_ne h3.symm]; exact g3, g4⟩, a, b, e⟩
/-- the held list grows -/
theorem Rel.updZ {ys : List V} (r : Rel (Φ.z D xs) E s σ H) : Rel (Φ.z D ys) E s σ (upd H D (.lst ys)) := by
  obtain ⟨eD, nD, hD0⟩ := r.zz (D, .lst xs) List.mem_cons_self
  have ne : ∀ a, a ∈ chg E → a ≠ D := fun a ha z => nD (z ▸ ha)
  have up : ∀ {a : Addr} {o : HO}, a ≠ D → H a = some o → upd H D (.lst ys) a = some o := fun h e => by rw [upd_ne h]; exact e
  refine ⟨r.len, fun i x h => ?_, fun d p q h => ?_, fun i a h => ?_, r.inj, fun b o h1 h2 => up (fun z => ?_) (r.fr b o h1 h2), r.dk0, r.alive, fun x hx => Rp.updl z_mem eD (r.held x hx), fun x hx => ?_, r.znd⟩
  · obtain ⟨v, h1, h2⟩ := r.val i x h
    refine ⟨v, h1, RelS.map (Φ := Φ.z D xs) (Φ' := Φ.z D ys) (E' := E) (fun _ h => h) rfl (fun _ h => h) (fun d v h => Rp.updl z_mem eD h) (fun d v h => RpAll.updl z_mem eD h) (fun a zs ha h => up (fun z => ?_) h) rfl rfl (fun x da h => XRep.updl z_mem eD h) h2⟩
    rcases ha with ⟨j, ha⟩ | ha
    · exact ne a (List.mem_append_right _ (List.mem_map.mpr ⟨_, ha, rfl⟩)) z
    · obtain ⟨⟨o, e⟩, _⟩ := r.alive a ha
      rw [z, hD0] at e; cases e
  · obtain ⟨h1, h2⟩ := r.dk d p q h
    refine ⟨h1.updl' ?_ ?_ ?_, h2⟩
    · exact (ne d (List.mem_append_left _ (by rw [h]; simp [dkl]))).symm
    · exact (ne p (List.mem_append_left _ (by rw [h]; simp [dkl]))).symm
    · exact (ne q (List.mem_append_left _ (by rw [h]; simp [dkl]))).symm
  · obtain ⟨⟨zs, h1, mu⟩, h2⟩ := r.own i a h
    exact ⟨⟨zs, up (ne a (List.mem_append_right _ (List.mem_map.mpr ⟨_, h, rfl⟩))) h1, mu⟩, h2⟩
  · rw [z, hD0] at h1; cases h1
  · rcases List.mem_cons.mp hx with h | h
    · subst h
      exact ⟨upd_same, nD, hD0⟩
    · by_cases z : x.1 = D
      · exact absurd (List.mem_map.mpr ⟨x, h, z⟩) (List.nodup_cons.mp r.znd).1
      · obtain ⟨z1, z2⟩ := r.zz x (List.mem_cons_of_mem _ h)
        exact ⟨up z z1, z2⟩
/-- the held list becomes a slot's own -/
theorem Rel.ownZ (r : Rel (Φ.z D xs) E s σ H) (j : Nat) : Rel Φ (E.add j D) s σ H := by
  obtain ⟨eD, nD, hD0⟩ := r.zz (D, .lst xs) List.mem_cons_self
  have hb : ∀ a ∈ ban Φ (E.add j D), a ∈ ban (Φ.z D xs) E := fun a ha => by
    rcases mem_ban_add ha with h | h
    · rw [h]; exact z_mem
    · exact z_ban h
  refine ⟨r.len, fun i x h => ?_, r.dk, fun i a h => ?_, fun i k a h1 h2 => ?_, r.fr, r.dk0, r.alive, fun x hx => (r.held x hx).wk hb, fun x hx => ?_, (List.nodup_cons.mp r.znd).2⟩
  · obtain ⟨v, h1, h2⟩ := r.val i x h
    exact ⟨v, h1, RelS.map (Φ := Φ.z D xs) (Φ' := Φ) (E := E) (E' := E.add j D) (H := H) (H' := H) (fun _ h => List.mem_cons_of_mem _ h) rfl (fun _ h => h) (fun d v h => h.wk hb) (fun d v h => h.wk hb) (fun a ys _ h => h) rfl rfl (fun x da h => h.wk hb) h2⟩
  · rcases List.mem_cons.mp h with h | h
    · cases h
      refine ⟨⟨_, eD, trivial⟩, fun z => ?_, fun z => nD (List.mem_append_left _ z), hD0⟩
      obtain ⟨⟨o, e⟩, _⟩ := r.alive D z
      rw [show Φ.H0 D = none from hD0] at e; cases e
    · exact r.own i a h
  · have own : ∀ i, (i, D) ∈ E.R → False := fun i h => nD (List.mem_append_right _ (List.mem_map.mpr ⟨_, h, rfl⟩))
    rcases List.mem_cons.mp h1 with h1 | h1
    · rcases List.mem_cons.mp h2 with h2 | h2
      · cases h1; cases h2; rfl
      · cases h1; exact (own _ h2).elim
    · rcases List.mem_cons.mp h2 with h2 | h2
      · cases h2; exact (own _ h1).elim
      · exact r.inj i k a h1 h2
  · obtain ⟨z1, z2, z3⟩ := r.zz x (List.mem_cons_of_mem _ hx)
    refine ⟨z1, fun z => ?_, z3⟩
    rcases List.mem_append.mp z with z | z
    · exact z2 (List.mem_append_left _ z)
    · rcases List.mem_cons.mp z with z | z
      · exact (List.nodup_cons.mp r.znd).1 (List.mem_map.mpr ⟨x, hx, z⟩)
      · exact z2 (List.mem_append_right _ z)
/-! ### slots forgotten, slots restored -/
def wl (l : List (Option AV)) : List Nat → List (Option AV)
  | [] => l
  | v :: vs => (wl l vs).set v none
def AS.wipe (s : AS) (vs : List Nat) : AS := { s with sl := wl s.sl vs }
theorem wl_len (l : List (Option AV)) : ∀ vs : List Nat, (wl l vs).length = l.length
  | [] => rfl
  | v :: vs => by unfold wl; rw [List.length_set, wl_len l vs]
theorem wl_some {l : List (Option AV)} {i : Nat} {x : AV} : ∀ {vs : List Nat}, (wl l vs)[i]? = some (some x) → l[i]? = some (some x) ∧ i ∉ vs
  | [], h => ⟨h, by simp⟩
  | v :: vs, h => by
    unfold wl at h
    by_cases hi : v = i
    · subst hi
      by_cases hv : v < (wl l vs).length
      · rw [List.getElem?_set_self hv] at h; cases h
      · rw [List.getElem?_eq_none (by simpa using hv)] at h; cases h
    · rw [List.getElem?_set_ne hi] at h
      obtain ⟨h1, h2⟩ := wl_some h
      exact ⟨h1, by simp only [List.mem_cons, not_or]; exact ⟨fun e => hi e.symm, h2⟩⟩
theorem wipe_off {σ : L2.St} {i : Nat} : ∀ {vs : List Nat}, i ∉ vs → (wipe σ vs)[i]? = σ[i]?
  | [], _ => rfl
  | v :: vs, h => by
    simp only [List.mem_cons, not_or] at h
    unfold wipe
    rw [List.getElem?_set_ne (fun e => h.1 e.symm)]
    exact wipe_off h.2
theorem Rel.wipe (r : Rel Φ E s σ H) (vs : List Nat) : Rel Φ E (s.wipe vs) (L2.wipe σ vs) H := by
  refine ⟨by rw [wipe_length, ← r.len]; exact wl_len _ _, fun i x h => ?_, r.dk, r.own, r.inj, r.fr, r.dk0, r.alive, r.held, r.zz, r.znd⟩
  obtain ⟨h1, h2⟩ := wl_some h
  obtain ⟨v, g1, g2⟩ := r.val i x h1
  exact ⟨v, by rw [wipe_off h2]; exact g1, g2⟩
def kd : Option AV → Option AV
  | some (.dat d) => some (.dat d)
  | _ => none
def bkl (l0 l4 : List (Option AV)) : List Nat → List (Option AV)
  | [] => l4
  | v :: vs => (bkl l0 l4 vs).set v (kd (l0.getD v none))
def back (vs : List Nat) (s s4 : AS) : AS := { s4 with sl := bkl s.sl s4.sl vs }
theorem bkl_len (l0 l4 : List (Option AV)) : ∀ vs : List Nat, (bkl l0 l4 vs).length = l4.length
  | [] => rfl
  | v :: vs => by unfold bkl; rw [List.length_set, bkl_len l0 l4 vs]
theorem kd_some {o : Option AV} {x : AV} (h : kd o = some x) : ∃ d, x = .dat d ∧ o = some (.dat d) := by
  unfold kd at h
  split at h
  · next d => cases h; exact ⟨d, rfl, rfl⟩
  · cases h
theorem bkl_some {l0 l4 : List (Option AV)} {i : Nat} {x : AV} : ∀ {vs : List Nat}, (bkl l0 l4 vs)[i]? = some (some x) → (i ∉ vs ∧ l4[i]? = some (some x)) ∨ ∃ d, x = .dat d ∧ l0[i]? = some (some (.dat d))
  | [], h => .inl ⟨by simp, h⟩
  | v :: vs, h => by
    unfold bkl at h
    by_cases hi : v = i
    · subst hi
      by_cases hv : v < (bkl l0 l4 vs).length
      · rw [List.getElem?_set_self hv] at h
        obtain ⟨d, e1, e2⟩ := kd_some (Option.some.inj h)
        refine .inr ⟨d, e1, ?_⟩
        rw [List.getD_eq_getElem?_getD] at e2
        cases e3 : l0[v]? with
        | none => rw [e3] at e2; cases e2
        | some o => rw [e3] at e2; rw [show o = some (.dat d) from e2]
      · rw [List.getElem?_eq_none (by simpa using hv)] at h; cases h
    · rw [List.getElem?_set_ne hi] at h
      rcases bkl_some h with ⟨h1, h2⟩ | h1
      · exact .inl ⟨by simp only [List.mem_cons, not_or]; exact ⟨fun e => hi e.symm, h1⟩, h2⟩
      · exact .inr h1
theorem Rel.back {E4 : OE} {s4 : AS} {σ2 : L2.St} {H4 : Hp} {vs : List Nat} (r : Rel Φ E s σ H) (r4 : Rel Φ E4 s4 σ2 H4) (hw : L2.wipe σ2 vs = L2.wipe σ vs) (k : KB E H H4) (l : Le E4 E) : Rel Φ E4 (TR.back vs s s4) σ H4 := by
  have hlen : σ2.length = σ.length := by rw [← wipe_length σ2 vs, hw, wipe_length]
  refine ⟨by rw [← hlen, ← r4.len]; exact bkl_len _ _ _, fun i x h => ?_, r4.dk, r4.own, r4.inj, r4.fr, r4.dk0, r4.alive, r4.held, r4.zz, r4.znd⟩
  rcases bkl_some h with ⟨h1, h2⟩ | ⟨d, rfl, h2⟩
  · obtain ⟨v, g1, g2⟩ := r4.val i x h2
    refine ⟨v, ?_, g2⟩
    rw [← wipe_off (σ := σ) h1, ← hw, wipe_off h1]
    exact g1
  · obtain ⟨v, g1, g2⟩ := r.val i _ h2
    exact ⟨v, g1, Rp.wk l.ban (Rp.kb (show Rp H (ban Φ E) d v from g2) r.lst k)⟩
end
theorem off_wipe {sl vs : List Nat} {σ σ' : L2.St} (h : Off sl σ σ') (hs : ∀ i ∈ sl, i ∈ vs) : L2.wipe σ' vs = L2.wipe σ vs := by
  refine List.ext_getElem? fun i => ?_
  by_cases hi : i ∈ vs
  · have key : ∀ (τ : L2.St) (vs : List Nat), i ∈ vs → i < τ.length → (L2.wipe τ vs)[i]? = some none := by
      intro τ vs
      induction vs with
      | nil => intro h; cases h
      | cons v vs ih =>
        intro h hl
        unfold L2.wipe
        by_cases e : v = i
        · subst e
          exact List.getElem?_set_self (by rw [wipe_length]; exact hl)
        · rw [List.getElem?_set_ne e]
          rcases List.mem_cons.mp h with z | z
          · exact absurd z.symm e
          · exact ih z hl
    by_cases hl : i < σ.length
    · rw [key _ _ hi (by rw [h.1]; exact hl), key _ _ hi hl]
    · rw [List.getElem?_eq_none (by rw [wipe_length, h.1]; omega), List.getElem?_eq_none (by rw [wipe_length]; omega)]
  · rw [wipe_off hi, wipe_off hi, h.2 i fun m => hi (hs i m)]
theorem off_refl_wipe {vs sl : List Nat} {σ σ2 : L2.St} (h : Off sl (L2.wipe σ vs) σ2) (hs : ∀ i ∈ sl, i ∈ vs) : L2.wipe σ2 vs = L2.wipe σ vs := by
  have h1 := off_wipe h hs
  rw [h1]
  refine List.ext_getElem? fun i => ?_
  by_cases hi : i ∈ vs
  · cases e : (L2.wipe (L2.wipe σ vs) vs)[i]? with
    | none =>
      have := List.getElem?_eq_none_iff.mp e
      rw [wipe_length, wipe_length] at this
      rw [List.getElem?_eq_none (by rw [wipe_length]; exact this)]
    | some o =>
      cases o with
      | some x => exact absurd hi (wipe_some e).2
      | none =>
        cases e2 : (L2.wipe σ vs)[i]? with
        | none =>
          have := List.getElem?_eq_none_iff.mp e2
          rw [wipe_length] at this
          rw [List.getElem?_eq_none (by rw [wipe_length, wipe_length]; exact this)] at e
          cases e
        | some o =>
          cases o with
          | some x => exact absurd hi (wipe_some e2).2
          | none => rfl
  · rw [wipe_off hi]
end TR
namespace TR
open PySem PySem.Spec PyProof.Rows L2
/-! ### list comprehensions -/
def lcL (it : AIt) (b : AB) (t : AT) (a : AE) (vs : List Nat) (Q : PyData → AS → Prop) : List PyData → List PyData → AS → Prop
  | [], acc, s => it.chk s ∧ Q (.list acc) s
  | x :: xs, acc, s => it.chk s ∧ b x (s.wipe vs) fun s2 => t x0 s2 fun c s3 => if c = true then a x0 s3 fun y s4 => acc.length < sizeLine ∧ lcL it b t a vs Q xs (acc ++ [y]) (back vs s s4) else lcL it b t a vs Q xs acc (back vs s s3)
def aLc (ai : AI) (b : AB) (t : AT) (a : AE) (vs : List Nat) : AE := fun xp s Q => ai xp s fun it s1 => lcL it b t a vs Q it.its [] s1
def tYesA : AT := fun _ s Q => Q true s
theorem yes_ok {σ : L2.St} {H : Hp} {Q : Bool → Hp → Prop} {Ec : EC} (h : cT Ec tYesA σ H Q) : tYes σ H Q := by
  obtain ⟨Φ, E, xp, s, Qa, r, x, q, k⟩ := h
  exact k true E s H (.refl _) r (.refl _ _) q
theorem lc_ok {w : Bool} {Ec : EC} {ai : AI} {b : AB} {t : AT} {a : AE} {vs sl : List Nat} {j : Nat} (hsl : ∀ i ∈ sl, i ∈ vs) {σ : L2.St} {H : Hp} {Q : VK} (h : cF j Ec (aLc ai b t a vs) σ H Q) : tLc (cI w Ec ai) (cG w sl b) (cT Ec.z t) (cE Ec.z a) vs σ H Q := by
  obtain ⟨Φ, E, xp, s, Qa, r, xs, q, k⟩ := h
  refine ⟨Φ, E, xp, s, _, r, xs, q, fun it E1 s1 J H1 hold l1 r1 k1 jo hh q1 => fun D hD => ?_⟩
  generalize hL : it.its = L at q1
  have sm0 : Same H1 (upd H1 D (.lst [])) := same_upd hD
  have fx : ∀ a ∈ ban (Φ.z D []) E1, a ∈ ban Φ E1 ∨ H1 a = none := fun a ha => by
    rcases ban_z ha with h | h
    · rw [h]; exact .inr hD
    · exact .inl h
  refine ⟨fun i m H => m = L.length - i ∧ i ≤ L.length ∧ ∃ E s acc av, Le E E1 ∧ Rel (Φ.z D av) E s σ H ∧ KB E1 H1 H ∧ RpAll H (ban (Φ.z D av) E) acc av ∧ (∀ x ∈ hold, Rp H (ban (Φ.z D av) E) x.1 x.2) ∧ lcL it b t a vs Qa (L.drop i) acc s,
    ⟨L.length, by simp, Nat.zero_le _, E1, s1, [], [], .refl _, r1.addZ hD sm0 upd_same, KB.of_same sm0, rfl, fun x hx => (Rp.fresh fx (hh x hx)).same sm0, by rw [List.drop_zero]; exact q1⟩, ?_⟩
  rintro i m H2 ⟨rfl, hi, E2, s2, acc, av, l2, r2, k2, ra, hh2, q2⟩
  have chk : it.chk s2 := by
    by_cases hlt : i < L.length
    · rw [List.drop_eq_getElem_cons hlt] at q2; exact q2.1
    · rw [List.drop_eq_nil_of_le (by omega)] at q2; exact q2.1
  have chk2 : chkσ σ σ s2 it := by
    cases it with
    | fix L => trivial
    | slt i L => exact ⟨rfl, chk⟩
  obtain ⟨jgo, jst⟩ := jo (Φ.z D av) E2 s2 σ H2 r2 hh2 chk2 i
  by_cases hlt : i < L.length
  · obtain ⟨go, yl⟩ := jgo L[i] (by rw [hL]; exact List.getElem?_eq_getElem hlt)
    rw [List.drop_eq_getElem_cons hlt] at q2
    refine .inr ⟨go, fun H => ∃ E s acc av, Le E E1 ∧ Rel (Φ.z D av) E s σ H ∧ KB E1 H1 H ∧ RpAll H (ban (Φ.z D av) E) acc av ∧ (∀ x ∈ hold, Rp H (ban (Φ.z D av) E) x.1 x.2) ∧ lcL it b t a vs Qa (L.drop (i + 1)) acc s, fun H' h => ⟨L.length - (i + 1), by omega, rfl, hlt, h⟩, fun x H3 y => ?_⟩
    obtain ⟨sm, rp⟩ := yl x H3 y
    have r3 := r2.same sm
    have k3 : KB E2 H2 H3 := KB.of_same sm
    refine ⟨Φ.z D av, E2, s2.wipe vs, L[i], _, r3.wipe vs, rp, q2.2, fun s4 σ4 r4 o4 q4 => ?_⟩
    have hw := off_refl_wipe o4 hsl
    refine ⟨hw, Φ.z D av, E2, x0, s4, _, r4, ⟨xs.1, fun _ _ _ _ _ _ _ _ h => h⟩, q4, fun c E5 s5 H5 l5 r5 k5 q5 => ?_⟩
    cases c with
    | false =>
      refine iteF ?_
      have kk : KB E2 H2 H5 := k3.trans (.refl _) k5
      exact ⟨E5, _, acc, av, l5.trans l2, r2.back r5 hw kk l5, k2.trans l2 kk, (ra.kb r2.lst kk).wk l5.ban, fun x hx => ((hh2 x hx).kb r2.lst kk).wk l5.ban, unF q5⟩
    | true =>
      refine iteT ⟨Φ.z D av, E5, x0, s5, _, r5, ⟨xs.1, fun _ _ _ _ _ _ _ _ h => h⟩, unT q5, fun d E6 s6 v H6 l6 r6 k6 p6 q6 => ?_⟩
      obtain ⟨hlen, q6⟩ := q6
      have kk : KB E2 H2 H6 := (k3.trans (.refl _) k5).trans l5 k6
      have ll := l6.trans l5
      have eD : H6 D = some (.lst av) := (r6.zz (D, .lst av) List.mem_cons_self).1
      refine ⟨av, eD, by rw [(RpAll.len ra)]; exact hlen, ?_⟩
      have rb := r2.back r6 hw kk ll
      have eb : ∀ (ys : List V) (E : OE), ban (Φ.z D ys) E = ban (Φ.z D av) E := fun _ _ => rfl
      refine ⟨E6, _, acc ++ [d], av ++ [v], ll.trans l2, rb.updZ, ?_, ?_, fun x hx => ?_, q6⟩
      · intro c o h1 h2
        have := k2.trans l2 kk c o h1 h2
        rw [upd_ne (ne_of_none h1 hD)]
        exact this
      · rw [eb]
        exact RpAll.updl z_mem eD (RpAll.app ((ra.kb r2.lst kk).wk ll.ban) ⟨v, [], rfl, p6, rfl⟩)
      · rw [eb]
        exact Rp.updl z_mem eD (((hh2 x hx).kb r2.lst kk).wk ll.ban)
  · have e : i = L.length := by omega
    subst e
    rw [List.drop_length] at q2
    refine .inl ⟨jst (by rw [hL]), ?_⟩
    have eD : H2 D = some (.lst av) := (r2.zz (D, .lst av) List.mem_cons_self).1
    have nD : D ∉ ban Φ E2 := fun z => by
      have hz := (r2.zz (D, .lst av) List.mem_cons_self).2.1
      rcases List.mem_append.mp z with z | z
      · exact hz z
      · rcases List.mem_append.mp z with z | z
        · exact (List.nodup_cons.mp r2.znd).1 z
        · obtain ⟨⟨o, e⟩, _⟩ := r2.alive D z
          rw [show Φ.H0 D = none from (r2.zz (D, .lst av) List.mem_cons_self).2.2] at e; cases e
    refine k acc E2 s2 D av H2 (l2.trans l1) r2.subZ (r2.ownZ j) (fun c o h1 h2 => (k1.trans l1 k2) c o h1 h2) eD (ra.wk fun a ha => ?_) nD q2.2
    rcases mem_ban_add ha with h | h
    · rw [h]; exact z_mem
    · exact z_ban h
end TR
namespace TR
open PySem PySem.Spec PyProof.Rows L2
/-! ### two clauses -/
def lcI (it : AIt) (b : AB) (t : AT) (a : AE) (vs : List Nat) (K : List PyData → AS → Prop) : List PyData → List PyData → AS → Prop
  | [], acc, s => it.chk s ∧ K acc s
  | x :: xs, acc, s => it.chk s ∧ b x (s.wipe vs) fun s2 => t x0 s2 fun c s3 => if c = true then a x0 s3 fun y s4 => acc.length < sizeLine ∧ lcI it b t a vs K xs (acc ++ [y]) (back vs s s4) else lcI it b t a vs K xs acc (back vs s s3)
def lc2L (it : AIt) (b : AB) (t : AT) (ai1 : AI) (b1 : AB) (t1 : AT) (a : AE) (vs vs1 : List Nat) (Q : PyData → AS → Prop) : List PyData → List PyData → AS → Prop
  | [], acc, s => it.chk s ∧ Q (.list acc) s
  | x :: xs, acc, s => it.chk s ∧ b x (s.wipe vs) fun s2 => t x0 s2 fun c s3 => if c = true then ai1 x0 s3 fun it1 s4 => lcI it1 b1 t1 a vs1 (fun acc' s5 => lc2L it b t ai1 b1 t1 a vs vs1 Q xs acc' (back vs s s5)) it1.its acc s4 else lc2L it b t ai1 b1 t1 a vs vs1 Q xs acc (back vs s s3)
def aLc2 (ai : AI) (b : AB) (t : AT) (ai1 : AI) (b1 : AB) (t1 : AT) (a : AE) (vs vs1 : List Nat) : AE := fun xp s Q => ai xp s fun it s1 => lc2L it b t ai1 b1 t1 a vs vs1 Q it.its [] s1
def KZ (E : OE) (D : Addr) (H H' : Hp) : Prop := ∀ b o, H b = some o → b ∉ chg E → b ≠ D → H' b = some o
theorem KZ.of {E : OE} {D : Addr} {H H' : Hp} (k : KB E H H') : KZ E D H H' := fun b o h n _ => k b o h n
theorem KZ.trans {E E1 : OE} {D : Addr} {H H1 H2 : Hp} (a : KZ E D H H1) (l : Le E1 E) (b : KZ E1 D H1 H2) : KZ E D H H2 := fun c o h n m => b c o (a c o h n m) (fun z => n (l.chg c z)) m
theorem KZ.upd {E : OE} {D : Addr} {H H' : Hp} {o : HO} (k : KZ E D H H') : KZ E D H (upd H' D o) := fun b u h n m => by
  rw [upd_ne m]
  exact k b u h n m
section
variable {Φ : Fx} {E : OE} {H H' : Hp} {D : Addr} {xs : List V}
theorem Rp.kz {d : PyData} {v : V} (h : Rp H (ban (Φ.z D xs) E) d v) (L : LstAt E H) (e : H D = some (.lst xs)) (k : KZ E D H H') : Rp H' (ban (Φ.z D xs) E) d v := by
  refine Rp.mv (fun a zs hn g => k _ _ g (fun m => hn ?_) (fun z => hn ?_)) (fun a zs g => ?_) (fun a hn g => k _ _ g (fun m => hn (List.mem_append_left _ m)) fun z => hn (by rw [z]; exact z_mem)) d v h
  · exact List.mem_append_left _ m
  · rw [z]; exact z_mem
  · obtain ⟨o, hd, g1⟩ := g
    replace g1 : H a = some (.frz o (.tup zs)) := g1
    refine ⟨o, hd, k _ _ g1 (fun m => ?_) fun z => ?_⟩
    · obtain ⟨ys, e2, mu⟩ := L a m
      rw [g1] at e2; cases e2; exact mu.elim
    · rw [z, e] at g1; cases g1
theorem Rel.backZ {s s4 : AS} {σ σ2 : L2.St} {E4 : OE} {ys : List V} {vs : List Nat} (r : Rel (Φ.z D xs) E s σ H) (r4 : Rel (Φ.z D ys) E4 s4 σ2 H') (hw : L2.wipe σ2 vs = L2.wipe σ vs) (k : KZ E D H H') (l : Le E4 E) : Rel (Φ.z D ys) E4 (TR.back vs s s4) σ H' := by
  have hlen : σ2.length = σ.length := by rw [← wipe_length σ2 vs, hw, wipe_length]
  refine ⟨by rw [← hlen, ← r4.len]; exact bkl_len _ _ _, fun i x h => ?_, r4.dk, r4.own, r4.inj, r4.fr, r4.dk0, r4.alive, r4.held, r4.zz, r4.znd⟩
  rcases bkl_some h with ⟨h1, h2⟩ | ⟨d, rfl, h2⟩
  · obtain ⟨v, g1, g2⟩ := r4.val i x h2
    refine ⟨v, ?_, g2⟩
    rw [← wipe_off (σ := σ) h1, ← hw, wipe_off h1]
    exact g1
  · obtain ⟨v, g1, g2⟩ := r.val i _ h2
    exact ⟨v, g1, Rp.wk (b := ban (Φ.z D xs) E) l.ban (Rp.kz (Φ := Φ) (xs := xs) (show Rp H (ban (Φ.z D xs) E) d v from g2) r.lst (r.zz (D, .lst xs) List.mem_cons_self).1 k)⟩
end
theorem lcI_ok {w : Bool} {Ec : EC} {b : AB} {t : AT} {a : AE} {vs sl : List Nat} (hsl : ∀ i ∈ sl, i ∈ vs) {σ : L2.St} {Φ : Fx} {D : Addr} {E1 : OE} {s1 : AS} {acc1 : List PyData} {av1 : List V} {H1 : Hp} {J : It} {it : AIt} {hold : List (PyData × V)} {K : List PyData → AS → Prop} {Nx : Hp → Prop}
    (xs0 : ∀ D xs, XSim (Φ.z D xs) x0 Ec.z) (r1 : Rel (Φ.z D av1) E1 s1 σ H1) (ra1 : RpAll H1 (ban (Φ.z D av1) E1) acc1 av1) (jo : JOk w σ J it hold) (hh1 : ∀ x ∈ hold, Rp H1 (ban (Φ.z D av1) E1) x.1 x.2) (q1 : lcI it b t a vs K it.its acc1 s1)
    (hK : ∀ E s acc av H, Le E E1 → Rel (Φ.z D av) E s σ H → KZ E1 D H1 H → RpAll H (ban (Φ.z D av) E) acc av → K acc s → Nx H) :
    ∃ W1 : Nat → Nat → Hp → Prop, (∃ m, W1 0 m H1) ∧ ∀ j k H, W1 j k H →
      (J.stop j H ∧ Nx H) ∨ (J.go j H ∧ ∃ Nx1 : Hp → Prop, (∀ H', Nx1 H' → ∃ k', k' < k ∧ W1 (j + 1) k' H') ∧ ∀ x H', J.yld j H x H' → cG w sl b x (wipe σ vs) H' fun σ3 H5 => wipe σ3 vs = wipe σ vs ∧ cT Ec.z t σ3 H5 fun b H6 =>
        if b = true then cE Ec.z a σ3 H6 fun y H7 => ∃ acc, H7 D = some (.lst acc) ∧ acc.length < sizeLine ∧ Nx1 (upd H7 D (.lst (acc ++ [y]))) else Nx1 H6) := by
  generalize hL : it.its = L at q1
  refine ⟨fun i m H => m = L.length - i ∧ i ≤ L.length ∧ ∃ E s acc av, Le E E1 ∧ Rel (Φ.z D av) E s σ H ∧ KZ E1 D H1 H ∧ RpAll H (ban (Φ.z D av) E) acc av ∧ (∀ x ∈ hold, Rp H (ban (Φ.z D av) E) x.1 x.2) ∧ lcI it b t a vs K (L.drop i) acc s,
    ⟨L.length, by simp, Nat.zero_le _, E1, s1, acc1, av1, .refl _, r1, fun _ _ h _ _ => h, ra1, hh1, by rw [List.drop_zero]; exact q1⟩, ?_⟩
  rintro i m H2 ⟨rfl, hi, E2, s2, acc, av, l2, r2, k2, ra, hh2, q2⟩
  have chk : it.chk s2 := by
    by_cases hlt : i < L.length
    · rw [List.drop_eq_getElem_cons hlt] at q2; exact q2.1
    · rw [List.drop_eq_nil_of_le (by omega)] at q2; exact q2.1
  have chk2 : chkσ σ σ s2 it := by
    cases it with
    | fix L => trivial
    | slt i L => exact ⟨rfl, chk⟩
  obtain ⟨jgo, jst⟩ := jo (Φ.z D av) E2 s2 σ H2 r2 hh2 chk2 i
  by_cases hlt : i < L.length
  · obtain ⟨go, yl⟩ := jgo L[i] (by rw [hL]; exact List.getElem?_eq_getElem hlt)
    rw [List.drop_eq_getElem_cons hlt] at q2
    refine .inr ⟨go, fun H => ∃ E s acc av, Le E E1 ∧ Rel (Φ.z D av) E s σ H ∧ KZ E1 D H1 H ∧ RpAll H (ban (Φ.z D av) E) acc av ∧ (∀ x ∈ hold, Rp H (ban (Φ.z D av) E) x.1 x.2) ∧ lcI it b t a vs K (L.drop (i + 1)) acc s, fun H' h => ⟨L.length - (i + 1), by omega, rfl, hlt, h⟩, fun x H3 y => ?_⟩
    obtain ⟨sm, rp⟩ := yl x H3 y
    have r3 := r2.same sm
    have k3 : KB E2 H2 H3 := KB.of_same sm
    refine ⟨Φ.z D av, E2, s2.wipe vs, L[i], _, r3.wipe vs, rp, q2.2, fun s4 σ4 r4 o4 q4 => ?_⟩
    have hw := off_refl_wipe o4 hsl
    refine ⟨hw, Φ.z D av, E2, x0, s4, _, r4, (xs0 _ _), q4, fun c E5 s5 H5 l5 r5 k5 q5 => ?_⟩
    cases c with
    | false =>
      refine iteF ?_
      have kk : KB E2 H2 H5 := k3.trans (.refl _) k5
      exact ⟨E5, _, acc, av, l5.trans l2, r2.back r5 hw kk l5, k2.trans l2 (.of kk), (ra.kb r2.lst kk).wk l5.ban, fun x hx => ((hh2 x hx).kb r2.lst kk).wk l5.ban, unF q5⟩
    | true =>
      refine iteT ⟨Φ.z D av, E5, x0, s5, _, r5, (xs0 _ _), unT q5, fun d E6 s6 v H6 l6 r6 k6 p6 q6 => ?_⟩
      obtain ⟨hlen, q6⟩ := q6
      have kk : KB E2 H2 H6 := (k3.trans (.refl _) k5).trans l5 k6
      have ll := l6.trans l5
      have eD : H6 D = some (.lst av) := (r6.zz (D, .lst av) List.mem_cons_self).1
      refine ⟨av, eD, by rw [(RpAll.len ra)]; exact hlen, ?_⟩
      have rb := r2.back r6 hw kk ll
      have eb : ∀ (ys : List V) (E : OE), ban (Φ.z D ys) E = ban (Φ.z D av) E := fun _ _ => rfl
      refine ⟨E6, _, acc ++ [d], av ++ [v], ll.trans l2, rb.updZ, (k2.trans l2 (.of kk)).upd, ?_, fun x hx => ?_, q6⟩
      · rw [eb]
        exact RpAll.updl z_mem eD (RpAll.app ((ra.kb r2.lst kk).wk ll.ban) ⟨v, [], rfl, p6, rfl⟩)
      · rw [eb]
        exact Rp.updl z_mem eD (((hh2 x hx).kb r2.lst kk).wk ll.ban)
  · have e : i = L.length := by omega
    subst e
    rw [List.drop_length] at q2
    exact .inl ⟨jst (by rw [hL]), hK E2 s2 acc av H2 l2 r2 k2 ra q2.2⟩
theorem lc2_ok {w w1 : Bool} {Ec : EC} {ai ai1 : AI} {b b1 : AB} {t t1 : AT} {a : AE} {vs vs1 sl sl1 : List Nat} {j : Nat} (hsl : ∀ i ∈ sl, i ∈ vs) (hsl1 : ∀ i ∈ sl1, i ∈ vs1) {σ : L2.St} {H : Hp} {Q : VK} (h : cF j Ec (aLc2 ai b t ai1 b1 t1 a vs vs1) σ H Q) : tLc2 (cI w Ec ai) (cG w sl b) (cT Ec.z t) (cI w1 Ec.z ai1) (cG w1 sl1 b1) (cT Ec.z t1) (cE Ec.z a) vs vs1 σ H Q := by
  obtain ⟨Φ, E, xp, s, Qa, r, xs, q, k⟩ := h
  have xz : ∀ D ys, XSim (Φ.z D ys) x0 Ec.z := fun D ys => ⟨xs.1, fun _ _ _ _ _ _ _ _ h => h⟩
  refine ⟨Φ, E, xp, s, _, r, xs, q, fun it E1 s1 J H1 hold l1 r1 k1 jo hh q1 => fun D hD => ?_⟩
  generalize hL : it.its = L at q1
  have sm0 : Same H1 (upd H1 D (.lst [])) := same_upd hD
  have fx : ∀ a ∈ ban (Φ.z D []) E1, a ∈ ban Φ E1 ∨ H1 a = none := fun a ha => by
    rcases ban_z ha with h | h
    · rw [h]; exact .inr hD
    · exact .inl h
  refine ⟨fun i m H => m = L.length - i ∧ i ≤ L.length ∧ ∃ E s acc av, Le E E1 ∧ Rel (Φ.z D av) E s σ H ∧ KZ E1 D H1 H ∧ RpAll H (ban (Φ.z D av) E) acc av ∧ (∀ x ∈ hold, Rp H (ban (Φ.z D av) E) x.1 x.2) ∧ lc2L it b t ai1 b1 t1 a vs vs1 Qa (L.drop i) acc s,
    ⟨L.length, by simp, Nat.zero_le _, E1, s1, [], [], .refl _, r1.addZ hD sm0 upd_same, .of (KB.of_same sm0), rfl, fun x hx => (Rp.fresh fx (hh x hx)).same sm0, by rw [List.drop_zero]; exact q1⟩, ?_⟩
  rintro i m H2 ⟨rfl, hi, E2, s2, acc, av, l2, r2, k2, ra, hh2, q2⟩
  have chk : it.chk s2 := by
    by_cases hlt : i < L.length
    · rw [List.drop_eq_getElem_cons hlt] at q2; exact q2.1
    · rw [List.drop_eq_nil_of_le (by omega)] at q2; exact q2.1
  have chk2 : chkσ σ σ s2 it := by
    cases it with
    | fix L => trivial
    | slt i L => exact ⟨rfl, chk⟩
  obtain ⟨jgo, jst⟩ := jo (Φ.z D av) E2 s2 σ H2 r2 hh2 chk2 i
  have eD2 : H2 D = some (.lst av) := (r2.zz (D, .lst av) List.mem_cons_self).1
  by_cases hlt : i < L.length
  · obtain ⟨go, yl⟩ := jgo L[i] (by rw [hL]; exact List.getElem?_eq_getElem hlt)
    rw [List.drop_eq_getElem_cons hlt] at q2
    refine .inr ⟨go, fun H => ∃ E s acc av, Le E E1 ∧ Rel (Φ.z D av) E s σ H ∧ KZ E1 D H1 H ∧ RpAll H (ban (Φ.z D av) E) acc av ∧ (∀ x ∈ hold, Rp H (ban (Φ.z D av) E) x.1 x.2) ∧ lc2L it b t ai1 b1 t1 a vs vs1 Qa (L.drop (i + 1)) acc s, fun H' h => ⟨L.length - (i + 1), by omega, rfl, hlt, h⟩, fun x H3 y => ?_⟩
    obtain ⟨sm, rp⟩ := yl x H3 y
    have r3 := r2.same sm
    have k3 : KB E2 H2 H3 := KB.of_same sm
    refine ⟨Φ.z D av, E2, s2.wipe vs, L[i], _, r3.wipe vs, rp, q2.2, fun s4 σ4 r4 o4 q4 => ?_⟩
    have hw := off_refl_wipe o4 hsl
    refine ⟨hw, Φ.z D av, E2, x0, s4, _, r4, (xz _ _), q4, fun c E5 s5 H5 l5 r5 k5 q5 => ?_⟩
    have kk : KB E2 H2 H5 := k3.trans (.refl _) k5
    cases c with
    | false =>
      refine iteF ?_
      exact ⟨E5, _, acc, av, l5.trans l2, r2.back r5 hw kk l5, k2.trans l2 (.of kk), (ra.kb r2.lst kk).wk l5.ban, fun x hx => ((hh2 x hx).kb r2.lst kk).wk l5.ban, unF q5⟩
    | true =>
      refine iteT ⟨Φ.z D av, E5, x0, s5, _, r5, (xz _ _), unT q5, fun it1 E6 s6 J1 H6 hold1 l6 r6 k6 jo1 hh6 q6 => ?_⟩
      have kk6 : KB E2 H2 H6 := kk.trans l5 k6
      have ll := l6.trans l5
      refine lcI_ok hsl1 xz r6 ((ra.kb r2.lst kk6).wk ll.ban) jo1 hh6 q6 fun E7 s7 acc7 av7 H7 l7 r7 k7 ra7 q7 => ?_
      have kz : KZ E2 D H2 H7 := (KZ.of kk6).trans ll k7
      have l27 := l7.trans ll
      have eb : ∀ (E : OE), ban (Φ.z D av7) E = ban (Φ.z D av) E := fun _ => rfl
      refine ⟨E7, _, acc7, av7, l27.trans l2, r2.backZ r7 hw kz l27, k2.trans l2 kz, ra7, fun x hx => ?_, q7⟩
      rw [eb]
      exact ((hh2 x hx).kz r2.lst eD2 kz).wk l27.ban
  · have e : i = L.length := by omega
    subst e
    rw [List.drop_length] at q2
    refine .inl ⟨jst (by rw [hL]), ?_⟩
    have nD : D ∉ ban Φ E2 := fun z => by
      have hz := (r2.zz (D, .lst av) List.mem_cons_self).2.1
      rcases List.mem_append.mp z with z | z
      · exact hz z
      · rcases List.mem_append.mp z with z | z
        · exact (List.nodup_cons.mp r2.znd).1 z
        · obtain ⟨⟨o, e⟩, _⟩ := r2.alive D z
          rw [show Φ.H0 D = none from (r2.zz (D, .lst av) List.mem_cons_self).2.2] at e; cases e
    refine k acc E2 s2 D av H2 (l2.trans l1) r2.subZ (r2.ownZ j) (fun c o h1 h2 => k2 c o (k1 c o h1 h2) (fun z => h2 (l1.chg c z)) (ne_of_none (k1 c o h1 h2) hD)) eD2 (ra.wk fun a ha => ?_) nD q2.2
    rcases mem_ban_add ha with h | h
    · rw [h]; exact z_mem
    · exact z_ban h
end TR
namespace TR
open PySem PySem.Spec PyProof.Rows L2
section
variable {Φ : Fx} {E : OE} {s : AS} {σ : L2.St} {H : Hp}
/-- a list is given away -/
theorem Rel.frz (r : Rel Φ E s σ H) {i : Nat} {ds : List PyData} (h : s.sl[i]? = some (some (.own ds))) : ∃ v E', σ[i]? = some (some v) ∧ Le E' E ∧ Rel Φ E' (s.set i (.dat (.list ds))) σ H ∧ Rp H (ban Φ E') (.list ds) v := by
  obtain ⟨v, hv, a, xs, rfl, m, ea, ra⟩ := r.val i _ h
  have le : Le ⟨E.dk, E.R.filter (fun x => decide (x.2 ≠ a))⟩ E := ⟨rfl, fun x hx => (List.mem_filter.mp hx).1⟩
  generalize hE : (⟨E.dk, E.R.filter (fun x => decide (x.2 ≠ a))⟩ : OE) = E' at le
  have hR : ∀ x, x ∈ E'.R ↔ x ∈ E.R ∧ x.2 ≠ a := fun x => by rw [← hE]; simp
  have hdk : E'.dk = E.dk := le.1
  obtain ⟨_, g1, g2, g3⟩ := r.own i a m
  have ac : a ∈ chg E := List.mem_append_right _ (List.mem_map.mpr ⟨_, m, rfl⟩)
  have nb : a ∉ ban Φ E' := fun z => by
    rcases List.mem_append.mp z with z | z
    · rcases List.mem_append.mp z with z | z
      · rw [hdk] at z; exact g2 z
      · obtain ⟨x, hx, e⟩ := List.mem_map.mp z
        exact ((hR x).mp hx).2 e
    · rcases List.mem_append.mp z with z | z
      · obtain ⟨x, hx, e⟩ := List.mem_map.mp z
        exact (r.zz x hx).2.1 (by rw [e]; exact ac)
      · exact g1 z
  have rp : Rp H (ban Φ E') (.list ds) (.ref a) := ⟨a, xs, rfl, ea, nb, ra.wk le.ban⟩
  refine ⟨.ref a, E', hv, le, ?_, rp⟩
  refine ⟨by show (s.sl.set i _).length = _; rw [List.length_set]; exact r.len, fun j x hx => ?_, fun d p q e => ?_, fun j b hb => ?_, fun j k b h1 h2 => r.inj j k b ((hR _).mp h1).1 ((hR _).mp h2).1, r.fr, fun t e => hdk.trans (r.dk0 t e), r.alive, fun x hx => (r.held x hx).wk le.ban, fun x hx => ?_, r.znd⟩
  · by_cases e : i = j
    · subst e
      have hl := (List.getElem?_eq_some_iff.mp h).1
      have hx2 : (s.sl.set i (some (.dat (.list ds))))[i]? = some (some x) := hx
      rw [List.getElem?_set_self hl] at hx2
      cases hx2
      exact ⟨_, hv, rp⟩
    · have hx2 : (s.sl.set i (some (.dat (.list ds))))[j]? = some (some x) := hx
      rw [List.getElem?_set_ne e] at hx2
      obtain ⟨w, h1, h2⟩ := r.val j x hx2
      refine ⟨w, h1, ?_⟩
      cases x with
      | dat d => exact Rp.wk le.ban (show Rp H (ban Φ E) d w from h2)
      | own es =>
        obtain ⟨b, ys, e1, m1, h3, h4⟩ := h2
        exact ⟨b, ys, e1, (hR _).mpr ⟨m1, fun z => e (r.inj i j a m (z ▸ m1))⟩, h3, h4.wk le.ban⟩
      | dct kvs =>
        obtain ⟨b, ks, e1, m1, h3, h4⟩ := h2
        exact ⟨b, ks, e1, (hR _).mpr ⟨m1, fun z => e (r.inj i j a m (z ▸ m1))⟩, h3, h4.wk le.ban⟩
      | bor d =>
        rcases h2 with h2 | ⟨b, es, ys, e1, e2, h3, h5, h6⟩
        · exact .inl (h2.wk le.ban)
        · exact .inr ⟨b, es, ys, e1, e2, h3, h5, h6.wk le.ban⟩
      | deck =>
        obtain ⟨d, p, q, e1, e2⟩ := h2
        exact ⟨d, p, q, hdk.trans e1, e2⟩
      | exc x =>
        obtain ⟨b, da, e1, e2, h3, h4⟩ := h2
        exact ⟨b, da, e1, e2, h3.wk le.ban, h4⟩
  · rw [hdk] at e
    obtain ⟨h1, h2⟩ := r.dk d p q e
    exact ⟨h1, fun b hb => h2 b (by rw [← hdk]; exact hb)⟩
  · obtain ⟨h1, h2, h3, h4⟩ := r.own j b ((hR _).mp hb).1
    exact ⟨h1, h2, by rw [hdk]; exact h3, h4⟩
  · obtain ⟨z1, z2, z3⟩ := r.zz x hx
    exact ⟨z1, fun z => z2 (le.chg _ z), z3⟩
end
section
variable {X : Cx} {Ec : EC}
theorem ae_frz (i : Nat) {e : Expr} (h : PE X e (tVar i)) : PE X e (cE Ec (aFrz i)) := h.sub fun σ H Q ⟨Φ, E, xp, s, Qa, r, _, q, k⟩ => by
  unfold aFrz at q
  split at q
  · next d hd =>
    obtain ⟨v, h1, h2⟩ := r.val i _ hd
    exact ⟨v, h1, k d E s v H (.refl _) r (.refl _ _) h2 q⟩
  · next ds hd =>
    obtain ⟨v, E', h1, l, r', p⟩ := r.frz hd
    exact ⟨v, h1, k (.list ds) E' _ v H l r' (.refl _ _) p q⟩
  · exact q.elim
/-! ### what is walked: lists, tuples -/
theorem pi_seq {tg l : Expr} {tl : TE} (hl : PE X l tl) : PI X tg l (fun σ H R => tl σ H fun x H1 => ∃ a xs, x = .ref a ∧ ((SqL X.K H1 a xs ∧ R (Itl X.K a) H1) ∨ (SqT X.K H1 a xs ∧ R (Itt X.K a) H1))) := by
  constructor
  intro pins s σ H R I0 h0
  refine thn (hl.run pins s σ H _ I0 h0) ?_
  rintro v t ⟨x, G, I, rx, a, xs, rfl, hx⟩
  cases rx
  have big : ∀ b ∈ [t.heap.objs.size], FpOk X pins G b := fun b hb => by
    rw [List.mem_singleton.mp hb]
    exact I.fpOk (Nat.le_refl _) (I.hok.fresh (Nat.le_refl _))
  rcases hx with ⟨hq, q⟩ | ⟨hq, q⟩
  · obtain ⟨its, _, pl, _⟩ := I.list hq
    exact wpAny_pyIter_list pl.isList ⟨_, [t.heap.objs.size], _, _, G, rfl, I.kept (t' := t.toks) fun b o e => Heap.get?_push_of_some _ e, turn_list a _, ⟨_, Heap.get?_push_size _ rfl, rfl, rfl⟩, big, q⟩
  · obtain ⟨its, _, pl, _⟩ := I.tuple hq
    exact wpAny_pyIter_tuple (show t.heap.IsTuple a its.toArray from pl) ⟨_, [t.heap.objs.size], _, _, G, rfl, I.kept (t' := t.toks) fun b o e => Heap.get?_push_of_some _ e, turn_tuple a _, ⟨_, Heap.get?_push_size _ rfl, rfl, rfl⟩, big, q⟩
def iSeq (ao : AO) : AI := fun xp s Q => ao xp s fun o s1 => match o with
  | .val (.list L) => Q (.fix L) s1
  | .val (.tuple L) => Q (.fix L) s1
  | .slot i => (match res s1 (.slot i) with
    | some (.list L) => Q (.slt i (.list L)) s1
    | some (.tuple L) => Q (.slt i (.tuple L)) s1
    | _ => False)
  | _ => False
theorem RpAll.at {H : Hp} {bn : List Addr} {ds : List PyData} {xs : List V} (h : RpAll H bn ds xs) {i : Nat} {d : PyData} (e : ds[i]? = some d) : ∃ x, xs[i]? = some x ∧ Rp H bn d x := by
  have hl := h.len
  have hi : i < xs.length := by rw [hl]; exact (List.getElem?_eq_some_iff.mp e).1
  obtain ⟨d', h1, h2⟩ := h.get (List.getElem?_eq_getElem hi)
  rw [e] at h1
  cases h1
  exact ⟨_, List.getElem?_eq_getElem hi, h2⟩
theorem jo_list {K : PySem.W.Frag} {bn : List Addr} {H : Hp} {L : List PyData} {a : Addr} {xs : List V} (e : H a = some (.lst xs)) (ra : RpAll H bn L xs) (i : Nat) : (∀ d, L[i]? = some d → (Itl K a).go i H ∧ ∀ x H2, (Itl K a).yld i H x H2 → Same H H2 ∧ Rp H2 bn d x) ∧ (L.length = i → (Itl K a).stop i H) := by
  refine ⟨fun d hd => ?_, fun hi => ⟨xs, sqL e, by rw [ra.len]; exact Nat.le_of_eq hi⟩⟩
  obtain ⟨x, hx, hp⟩ := ra.at hd
  refine ⟨⟨xs, x, sqL e, hx⟩, fun y H2 ⟨e2, hy⟩ => ?_⟩
  subst e2
  have := hy xs (sqL e)
  rw [hx] at this
  cases this
  exact ⟨.refl _, hp⟩
theorem jo_tup {K : PySem.W.Frag} {bn : List Addr} {H : Hp} {L : List PyData} {a : Addr} {xs : List V} (e : TF H a xs) (ra : RpAll H bn L xs) (i : Nat) : (∀ d, L[i]? = some d → (Itt K a).go i H ∧ ∀ x H2, (Itt K a).yld i H x H2 → Same H H2 ∧ Rp H2 bn d x) ∧ (L.length = i → (Itt K a).stop i H) := by
  refine ⟨fun d hd => ?_, fun hi => ⟨xs, .inl e.rd, by rw [ra.len]; exact Nat.le_of_eq hi⟩⟩
  obtain ⟨x, hx, hp⟩ := ra.at hd
  refine ⟨⟨xs, x, .inl e.rd, hx⟩, fun y H2 ⟨e2, hy⟩ => ?_⟩
  subst e2
  have := hy xs (.inl e.rd)
  rw [hx] at this
  cases this
  exact ⟨.refl _, hp⟩
theorem ai_seq {tg l : Expr} {ao : AO} (hl : PE X l (cO Ec ao)) : PI X tg l (cI false Ec (iSeq ao)) := by
  refine (pi_seq hl).sub fun σ H R ⟨Φ, E, xp, s, Qa, r, x, q, k⟩ => ⟨Φ, E, xp, s, _, r, x, q, fun o E1 s1 v H1 l1 r1 k1 p1 q1 => ?_⟩
  have lst : ∀ L, o = .val (.list L) → Qa (.fix L) s1 → ∃ a xs, v = .ref a ∧ ((SqL X.K H1 a xs ∧ R (Itl X.K a) H1) ∨ (SqT X.K H1 a xs ∧ R (Itt X.K a) H1)) := fun L e q => by
    subst e
    obtain ⟨a, xs, rfl, ea, nb, ra⟩ := (show Rp H1 (ban Φ E1) (.list L) v from p1)
    refine ⟨a, xs, rfl, .inl ⟨sqL ea, k (.fix L) E1 s1 _ H1 [(.list L, .ref a)] l1 r1 k1 (fun Φ E s σ1 H _ hh _ i => ?_) (fun x hx => ?_) q⟩⟩
    · obtain ⟨b, ys, e, eb, _, rb⟩ := hh (.list L, .ref a) List.mem_cons_self
      cases e
      exact jo_list eb rb i
    · rw [List.mem_singleton.mp hx]
      exact p1
  have tup : ∀ L, o = .val (.tuple L) → Qa (.fix L) s1 → ∃ a xs, v = .ref a ∧ ((SqL X.K H1 a xs ∧ R (Itl X.K a) H1) ∨ (SqT X.K H1 a xs ∧ R (Itt X.K a) H1)) := fun L e q => by
    subst e
    obtain ⟨a, xs, rfl, ea, ra⟩ := (show Rp H1 (ban Φ E1) (.tuple L) v from p1)
    refine ⟨a, xs, rfl, .inr ⟨.inl ea.rd, k (.fix L) E1 s1 _ H1 [(.tuple L, .ref a)] l1 r1 k1 (fun Φ E s σ1 H _ hh _ i => ?_) (fun x hx => ?_) q⟩⟩
    · obtain ⟨b, ys, e, eb, rb⟩ := hh (.tuple L, .ref a) List.mem_cons_self
      cases e
      exact jo_tup eb rb i
    · rw [List.mem_singleton.mp hx]
      exact p1
  split at q1
  · exact lst _ rfl q1
  · exact tup _ rfl q1
  · next i =>
    split at q1
    · next L hL =>
      have aux : ∀ {Φ : Fx} {E : OE} {s : AS} {σ1 : L2.St} {G : Hp}, Rel Φ E s σ1 G → σ1[i]? = some (some v) → (res s (.slot i)) = some (.list L) → ∃ a xs, v = .ref a ∧ G a = some (.lst xs) ∧ RpAll G (ban Φ E) L xs := fun r h1 h2 => by
        rcases r.res (o := .slot i) h1 h2 with ⟨a, xs, e, ea, _, ra⟩ | ⟨a, ds, xs, e0, e, ea, ra⟩
        · exact ⟨a, xs, e, ea, ra⟩
        · cases e0; exact ⟨a, xs, e, ea, ra⟩
      obtain ⟨a, xs, rfl, ea, ra⟩ := aux r1 p1 hL
      refine ⟨a, xs, rfl, .inl ⟨sqL ea, k (.slt i (.list L)) E1 s1 _ H1 [] l1 r1 k1 (fun Φ E s σ1 H rr hh ⟨c1, c2⟩ j => ?_) (fun x hx => by cases hx) q1⟩⟩
      obtain ⟨b, ys, e, eb, rb⟩ := aux rr (by rw [c1]; exact p1) c2
      cases e
      exact jo_list eb rb j
    · next L hL =>
      have aux : ∀ {Φ : Fx} {E : OE} {s : AS} {σ1 : L2.St} {G : Hp}, Rel Φ E s σ1 G → σ1[i]? = some (some v) → (res s (.slot i)) = some (.tuple L) → ∃ a xs, v = .ref a ∧ TF G a xs ∧ RpAll G (ban Φ E) L xs := fun r h1 h2 => by
        rcases r.res (o := .slot i) h1 h2 with ⟨a, xs, e, ea, ra⟩ | ⟨a, ds, xs, e0, e, ea, ra⟩
        · exact ⟨a, xs, e, ea, ra⟩
        · cases e0
      obtain ⟨a, xs, rfl, ea, ra⟩ := aux r1 p1 hL
      refine ⟨a, xs, rfl, .inr ⟨.inl ea.rd, k (.slt i (.tuple L)) E1 s1 _ H1 [] l1 r1 k1 (fun Φ E s σ1 H rr hh ⟨c1, c2⟩ j => ?_) (fun x hx => by cases hx) q1⟩⟩
      obtain ⟨b, ys, e, eb, rb⟩ := aux rr (by rw [c1]; exact p1) c2
      cases e
      exact jo_tup eb rb j
    · exact q1.elim
  · exact q1.elim
/-! ### ranges -/
def rngD (lo : Int) (n : Nat) : List PyData := (List.range n).map fun k => .int (lo + (k : Nat))
theorem jo_range {w : Bool} {σ : L2.St} (hw : w = false) (lo : Int) (n : Nat) : JOk w σ (Itr lo n) (.fix (rngD lo n)) [] := fun Φ E s σ1 H _ _ _ i => by
  subst hw
  refine ⟨fun d hd => ?_, fun hi => ?_⟩
  · have hd2 : (rngD lo n)[i]? = some d := hd
    unfold rngD at hd2
    rw [List.getElem?_map] at hd2
    obtain ⟨k, hk, rfl⟩ := Option.map_eq_some_iff.mp hd2
    obtain ⟨hl, e⟩ := List.getElem?_eq_some_iff.mp hk
    rw [List.length_range] at hl
    rw [List.getElem_range] at e
    subst e
    exact ⟨hl, fun x H2 ⟨e1, e2⟩ => by subst e1 e2; exact ⟨.refl _, rfl⟩⟩
  · have : (rngD lo n).length ≤ i := Nat.le_of_eq hi
    unfold rngD at this
    rw [List.length_map, List.length_range] at this
    exact this
def iRange1 (aa : AA) : AI := fun xp s Q => aa xp s fun os s1 => rv os fun ds => match ds with
  | [.int j] => -(2 ^ 62) ≤ j ∧ j < 2 ^ 62 ∧ Q (.fix (rngD 0 j.toNat)) s1
  | _ => False
def iRange2 (aa : AA) : AI := fun xp s Q => aa xp s fun os s1 => rv os fun ds => match ds with
  | [.int i, .int j] => (-(2 ^ 62) ≤ i ∧ i < 2 ^ 62 ∧ -(2 ^ 62) ≤ j ∧ j < 2 ^ 62) ∧ Q (.fix (rngD i (j - i).toNat)) s1
  | _ => False
theorem ai_range1 {tg a : Expr} {aa : AA} {p pos : Pos} (hg : Gl X "range") (hm : X.mg "range" = none) (ha : PA X [a] (cA Ec aa)) (hs : starEach [a] X.env = [(false, eval a X.env)] := by rfl) : PI X tg (.Call (.Name "range" p) [a] [] pos) (cI false Ec (iRange1 aa)) := by
  refine (pi_range1 hg hm ha hs).sub fun σ H R ⟨Φ, E, xp, s, Qa, r, x, q, k⟩ => ⟨Φ, E, xp, s, _, r, x, q, fun os E1 s1 vs H1 l1 r1 k1 p1 q1 => ?_⟩
  obtain ⟨ds, e, q1⟩ := rv_get q1
  have ra := vals_rp p1 e
  split at q1
  · next j =>
    obtain ⟨v, t, rfl, rfl, rfl⟩ := ra
    obtain ⟨h1, h2, q1⟩ := q1
    exact ⟨j, rfl, h1, h2, k _ E1 s1 _ H1 [] l1 r1 k1 (jo_range rfl _ _) (fun x hx => by cases hx) q1⟩
  · exact q1.elim
theorem ai_range2 {tg a b : Expr} {aa : AA} {p pos : Pos} (hg : Gl X "range") (hm : X.mg "range" = none) (ha : PA X [a, b] (cA Ec aa)) (hs : starEach [a, b] X.env = [(false, eval a X.env), (false, eval b X.env)] := by rfl) (hs2 : starEach [b] X.env = [(false, eval b X.env)] := by rfl) : PI X tg (.Call (.Name "range" p) [a, b] [] pos) (cI false Ec (iRange2 aa)) := by
  refine (pi_range2 hg hm ha hs hs2).sub fun σ H R ⟨Φ, E, xp, s, Qa, r, x, q, k⟩ => ⟨Φ, E, xp, s, _, r, x, q, fun os E1 s1 vs H1 l1 r1 k1 p1 q1 => ?_⟩
  obtain ⟨ds, e, q1⟩ := rv_get q1
  have ra := vals_rp p1 e
  split at q1
  · next i j =>
    obtain ⟨v, t, rfl, rfl, v2, t2, rfl, rfl, rfl⟩ := ra
    obtain ⟨h1, q1⟩ := q1
    exact ⟨i, j, rfl, h1, k _ E1 s1 _ H1 [] l1 r1 k1 (jo_range rfl _ _) (fun x hx => by cases hx) q1⟩
  · exact q1.elim
/-! ### comprehensions as values and in assignments -/
theorem af_lc {w : Bool} (j : Nat) {elt tg iter : Expr} {ifs : List Expr} {scope : Scope} {own : List (Str × Nat)} {pos : Pos} {ai : AI} {sl : List Nat} {b : AB} {t : AT} {a : AE} (hc : X.calm = true) (hN : X.N.Nodup) (hi : PI X tg iter (cI w Ec ai)) (ok : BlkOk X.N X.env.scope scope own)
    (hg : ∀ (s : Shared) (H : Hp) (C : Addr) (cl : List (Str × Addr)) (fp : List Addr), PG (X.blk s H scope (compEnvC scope cl C X.env) fp) tg (cG w sl b)) (ht : ∀ (s : Shared) (H : Hp) (C : Addr) (cl : List (Str × Addr)) (fp : List Addr), PTs (X.blk s H scope (compEnvC scope cl C X.env) fp) ifs (cT Ec.z t))
    (he : ∀ (s : Shared) (H : Hp) (C : Addr) (cl : List (Str × Addr)) (fp : List Addr), PE (X.blk s H scope (compEnvC scope cl C X.env) fp) elt (cE Ec.z a)) (hsl : ∀ i ∈ sl, i ∈ own.map (·.2) := by decide) (hs : ∀ x, foldedSetIterable iter X.env x = pure x := by intro _; rfl) :
    PE X (.ListComp elt [⟨tg, iter, ifs, 0⟩] scope pos) (cF j Ec (aLc ai b t a (own.map (·.2)))) := (pe_lc hc hN hi ok hg ht he hs).sub fun _ _ _ h => lc_ok hsl h
theorem af_lc2 {w w1 : Bool} (j : Nat) {elt tg iter tg1 iter1 : Expr} {ifs ifs1 : List Expr} {scope : Scope} {own : List (Str × Nat)} {vs1 : List Nat} {pos : Pos} {ai ai1 : AI} {sl sl1 : List Nat} {b b1 : AB} {t t1 : AT} {a : AE} (hc : X.calm = true) (hN : X.N.Nodup) (hi : PI X tg iter (cI w Ec ai)) (ok : BlkOk X.N X.env.scope scope own) (hv : ∀ i ∈ vs1, i ∈ own.map (·.2))
    (hg : ∀ (s : Shared) (H : Hp) (C : Addr) (cl : List (Str × Addr)) (fp : List Addr), PG (X.blk s H scope (compEnvC scope cl C X.env) fp) tg (cG w sl b)) (ht : ∀ (s : Shared) (H : Hp) (C : Addr) (cl : List (Str × Addr)) (fp : List Addr), PTs (X.blk s H scope (compEnvC scope cl C X.env) fp) ifs (cT Ec.z t))
    (hi1 : ∀ (s : Shared) (H : Hp) (C : Addr) (cl : List (Str × Addr)) (fp : List Addr), PI (X.blk s H scope (compEnvC scope cl C X.env) fp) tg1 iter1 (cI w1 Ec.z ai1))
    (hg1 : ∀ (s : Shared) (H : Hp) (C : Addr) (cl : List (Str × Addr)) (fp : List Addr), PG (X.blk s H scope (compEnvC scope cl C X.env) fp) tg1 (cG w1 sl1 b1)) (ht1 : ∀ (s : Shared) (H : Hp) (C : Addr) (cl : List (Str × Addr)) (fp : List Addr), PTs (X.blk s H scope (compEnvC scope cl C X.env) fp) ifs1 (cT Ec.z t1))
    (he : ∀ (s : Shared) (H : Hp) (C : Addr) (cl : List (Str × Addr)) (fp : List Addr), PE (X.blk s H scope (compEnvC scope cl C X.env) fp) elt (cE Ec.z a)) (hsl : ∀ i ∈ sl, i ∈ own.map (·.2) := by decide) (hsl1 : ∀ i ∈ sl1, i ∈ vs1 := by decide) (hs : ∀ x, foldedSetIterable iter X.env x = pure x := by intro _; rfl) (hs1 : ∀ env x, foldedSetIterable iter1 env x = pure x := by intro _ _; rfl) :
    PE X (.ListComp elt [⟨tg, iter, ifs, 0⟩, ⟨tg1, iter1, ifs1, 0⟩] scope pos) (cF j Ec (aLc2 ai b t ai1 b1 t1 a (own.map (·.2)) vs1)) := (pe_lc2 hc hN hi ok hv hg ht hi1 hg1 ht1 he hs hs1).sub fun _ _ _ h => lc2_ok hsl hsl1 h
theorem ts_nil : PTs X [] (cT Ec tYesA) := ⟨fun pins s σ H Q I h => pts_nil.run pins s σ H Q I (yes_ok h)⟩
theorem ts_one {c : Expr} {t : AT} (h : PT X c (cT Ec t)) : PTs X [c] (cT Ec t) := pts_one h
theorem cF_E {i : Nat} {a : AE} {σ : L2.St} {H : Hp} {Q : VK} (h : cE Ec a σ H Q) : cF i Ec a σ H Q := by
  obtain ⟨Φ, E, xp, s, Qa, r0, x0, q, k⟩ := h
  exact ⟨Φ, E, xp, s, Qa, r0, x0, q, fun ds E1 s1 p xs H1 l r1 _ kb ep ra nb q1 => k (.list ds) E1 s1 _ H1 l r1 kb ⟨p, xs, rfl, ep, nb, ra.wk fun _ h => ban_add h⟩ q1⟩
end
end TR
namespace TR
open PySem PySem.Spec PyProof.Rows L2
/-! ### defs: their parameters, their promise -/
inductive Md where
  | dat | bor | deck
  deriving DecidableEq
abbrev AF := List PyData → Nat → (PyData → Nat → Prop) → (XD → Nat → Prop) → Prop
def mkA : Md → PyData → AV
  | .dat, d => .dat d
  | .bor, d => .bor d
  | .deck, _ => .deck
def mkAs : List Md → List PyData → List (Option AV)
  | m :: ms, d :: ds => some (mkA m d) :: mkAs ms ds
  | _, _ => []
def startA (ms : List Md) (k : Nat) (ds : List PyData) (n : Nat) : AS := ⟨mkAs ms ds ++ List.replicate k none, n⟩
inductive ArgsRel (Φ : Fx) (H : Hp) : List Md → List PyData → List V → Prop
  | nil : ArgsRel Φ H [] [] []
  | cons {m : Md} {ms : List Md} {d : PyData} {ds : List PyData} {v : V} {vs : List V} (h : RelS Φ ⟨Φ.dk0, []⟩ H 0 (mkA m d) v) (t : ArgsRel Φ H ms ds vs) : ArgsRel Φ H (m :: ms) (d :: ds) (v :: vs)
structure Pre (Φ : Fx) (H : Hp) (n : Nat) : Prop where
  h0 : Φ.H0 = H
  t : Φ.T = []
  z : Φ.Z = []
  ex : Φ.ex = none
  cs : Φ.cs = []
  alive : ∀ b ∈ Φ.B, (∃ o, H b = some o) ∧ b ∉ dkl Φ.dk0
  dk : ∀ d p q, Φ.dk0 = some (d, p, q) → Deck H d p q n
structure XRet (Φ : Fx) (x : XD) (n : Nat) (da : Option Addr) (H : Hp) : Prop where
  fr : ∀ b o, Φ.H0 b = some o → b ∉ dkl Φ.dk0 → H b = some o
  dk : ∀ d p q, Φ.dk0 = some (d, p, q) → Deck H d p q n
  rp : XRep H (dkl Φ.dk0 ++ Φ.B) x da
def spA (ms : List Md) (F : AF) : Sp := fun vs H Q Ec => ∃ Φ ds n Qa xa, Pre Φ H n ∧ ArgsRel Φ H ms ds vs ∧ F ds n Qa xa ∧ (∀ r m v H', RetOk Φ r m v H' → Qa r m → Q v H') ∧ ∀ x m da H', XRet Φ x m da H' → xa x m → Ec (.ref x.cls) da H'
theorem ArgsRel.len {Φ : Fx} {H : Hp} : ∀ {ms : List Md} {ds : List PyData} {vs : List V}, ArgsRel Φ H ms ds vs → vs.length = ms.length ∧ (mkAs ms ds).length = ms.length
  | _, _, _, .nil => ⟨rfl, rfl⟩
  | _, _, _, .cons h t => by
    obtain ⟨h1, h2⟩ := t.len
    exact ⟨by simp [h1], by simp [mkAs, h2]⟩
theorem RelS.any {Φ : Fx} {t : Option (Addr × Addr × Addr)} {H : Hp} {i j : Nat} {m : Md} {d : PyData} {v : V} (h : RelS Φ ⟨t, []⟩ H i (mkA m d) v) : RelS Φ ⟨t, []⟩ H j (mkA m d) v := by
  cases m <;> exact h
theorem ArgsRel.val {Φ : Fx} {H : Hp} : ∀ {ms : List Md} {ds : List PyData} {vs : List V}, ArgsRel Φ H ms ds vs → ∀ {i : Nat} {x : AV}, (mkAs ms ds)[i]? = some (some x) → ∃ v, vs[i]? = some v ∧ RelS Φ ⟨Φ.dk0, []⟩ H i x v
  | _, _, _, .nil, i, x, h => by simp [mkAs] at h
  | _, _, _, .cons h t, i, x, e => by
    cases i with
    | zero =>
      simp [mkAs] at e
      subst e
      exact ⟨_, rfl, h⟩
    | succ i =>
      simp only [mkAs, List.getElem?_cons_succ] at e
      obtain ⟨v, h1, h2⟩ := t.val e
      refine ⟨v, h1, ?_⟩
      cases x with
      | dat _ => exact h2
      | bor _ => exact h2
      | deck => exact h2
      | own _ => obtain ⟨a, xs, _, m, _⟩ := h2; cases m
      | dct _ => obtain ⟨a, xs, _, m, _⟩ := h2; cases m
      | exc _ => exact h2
theorem start_rel {Φ : Fx} {H : Hp} {n : Nat} {N : List Str} {ms : List Md} {ds : List PyData} {vs : List V} {k : Nat} (p : Pre Φ H n) (a : ArgsRel Φ H ms ds vs) (hk : ms.length + k = N.length) : Rel Φ ⟨Φ.dk0, []⟩ (startA ms k ds n) (L2.start N vs) H := by
  obtain ⟨l1, l2⟩ := a.len
  have hl : (mkAs ms ds ++ List.replicate k none).length = (L2.start N vs).length := by
    simp [L2.start, l1, l2]; omega
  refine ⟨hl, fun i x h => ?_, fun d q r e => ⟨p.dk d q r e, fun b hb => ⟨fun z => (p.alive b z).2 hb, .inl hb⟩⟩, fun i b h => (nomatch h), fun i j b h => (nomatch h), fun b o h _ => p.h0 ▸ h, fun t e => e, fun b hb => p.h0 ▸ p.alive b hb, fun x hx => (by rw [p.t] at hx; cases hx), fun x hx => (by rw [p.z] at hx; cases hx), (by rw [p.z]; exact List.nodup_nil)⟩
  have h2 : (mkAs ms ds ++ List.replicate k none)[i]? = some (some x) := h
  by_cases hi : i < (mkAs ms ds).length
  · rw [List.getElem?_append_left hi] at h2
    obtain ⟨v, h3, h4⟩ := a.val h2
    refine ⟨v, ?_, h4⟩
    unfold L2.start
    rw [List.getElem?_append_left (by rw [List.length_map, l1, ← l2]; exact hi), List.getElem?_map, h3]
    rfl
  · rw [List.getElem?_append_right (by omega)] at h2
    obtain ⟨hlt, e⟩ := List.getElem?_eq_some_iff.mp h2
    rw [List.getElem_replicate] at e
    cases e
section
variable {P : Program} {w : World} {K : PySem.W.Frag} {mg : Str → Option Value} {base : Heap}
def fnF (ms : List Md) (k : Nat) (b : AST) : AF := fun ds n Qa xa => b (fun x s => xa x s.n) { nx := fun s => Qa .none s.n, rt := Qa } (startA ms k ds n)
theorem fn_body {ms : List Md} {k : Nat} {N : List Str} {b : AST} {vs : List V} {H : Hp} {Q : VK} {Ec : XK} (hk : ms.length + k = N.length) (h : spA ms (fnF ms k b) vs H Q Ec) : cS (eE Ec) b { nx := fun _ H' => Q .non H', rt := Q } (L2.start N vs) H := by
  obtain ⟨Φ, ds, n, Qa, xa, p, a, f, hq, hx⟩ := h
  have bn : ∀ {E : OE} {s : AS} {σ : L2.St} {G : Hp}, Rel Φ E s σ G → ∀ b ∈ dkl Φ.dk0 ++ Φ.B, b ∈ ban Φ E := fun r b hb => by
    rcases List.mem_append.mp hb with z | z
    · cases e : Φ.dk0 with
      | none => rw [e] at z; cases z
      | some t =>
        refine List.mem_append_left _ (List.mem_append_left _ ?_)
        rw [r.dk0 t e, ← e]; exact z
    · exact List.mem_append_right _ (List.mem_append_right _ z)
  refine ⟨Φ, ⟨Φ.dk0, []⟩, _, _, _, start_rel p a hk, ⟨⟨p.ex, p.cs⟩, fun x E s σ G da r xr q => ?_⟩, f, fun E s σ G r q => hq _ _ _ G (r.ret (d := .none) rfl) q, fun _ _ _ _ _ q => q.elim, fun _ _ _ _ _ q => q.elim, fun r m v G ro q => hq r m v G ro q⟩
  exact hx x s.n da G ⟨r.fr, fun d p q e => (r.dk d p q (r.dk0 _ e)).1, xr.wk (bn r)⟩ q
theorem fn_ok {ms : List Md} {nk k : Nat} {N ps : List Str} {b : AST} {x qual : Str} {st : Stmt} {f : Addr} {fd : FuncData} (F : Fun K x qual st f fd) (S : FnScope N ps (defScope st)) (hk : ms.length + nk = N.length) (hp : ms.length = ps.length)
    (hbody : ∀ (cdv : Value) (A : Around) (outer : List Env) (s : Shared) (H : Hp) (E : XK), Room k (A.deeper (envOfC qual (defScope st) s.heap.objs.size f cdv)) → PSs (cxOf CX0 P w K mg base N qual (defScope st) f cdv A outer s H E).nox (defBody st) (cS (eE E) b)) : FnOk P w K mg base CX0 (k + 1) f fd ps (spA ms (fnF ms nk b)) := by
  refine F.ok S (fun vs H Q E h => ?_) fun cdv A outer s H vs Q E hr h => ⟨_, hbody cdv A outer s H E hr, fn_body hk h⟩
  obtain ⟨Φ, ds, n, Qa, xa, _, a, _⟩ := h
  rw [a.len.1, hp]
theorem fn_okX {ms : List Md} {nk k : Nat} {N ps : List Str} {b : AST} {x qual : Str} {st : Stmt} {f : Addr} {fd : FuncData} (F : Fun K x qual st f fd) (S : FnScope N ps (defScope st)) (hk : ms.length + nk = N.length) (hp : ms.length = ps.length)
    (hbody : ∀ (cdv : Value) (A : Around) (outer : List Env) (s : Shared) (H : Hp) (E : XK), Room k (A.deeper (envOfC qual (defScope st) s.heap.objs.size f cdv)) → PSs (cxOf (L2.CX P w) P w K mg base N qual (defScope st) f cdv A outer s H E) (defBody st) (cS (eE E) b)) : FnOk P w K mg base (L2.CX P w) (k + 1) f fd ps (spA ms (fnF ms nk b)) := by
  refine F.okX S (fun vs H Q E h => ?_) fun cdv A outer s H vs Q E hr h => ⟨_, hbody cdv A outer s H E hr, fn_body hk h⟩
  obtain ⟨Φ, ds, n, Qa, xa, _, a, _⟩ := h
  rw [a.len.1, hp]
theorem fn_never {ms : List Md} {f : Addr} {fd : FuncData} {ps : List Str} {CX : CXT} {k : Nat} : FnOk P w K mg base CX k f fd ps (spA ms fun _ _ _ _ => False) := ⟨fun vs H Q E ⟨_, _, _, _, _, _, _, h, _⟩ => h.elim, fun _ _ _ _ _ _ _ _ _ _ _ _ _ ⟨_, _, _, _, _, _, _, h, _⟩ => h.elim⟩
/-- a def that may raise, where it does not -/
theorem fn_calm {ms : List Md} {F : AF} {k : Nat} {f : Addr} {fd : FuncData} {ps : List Str} (h : FnOk P w K mg base (L2.CX P w) k f fd ps (spA ms F)) : FnOk P w K mg base CX0 k f fd ps (spA ms fun ds n Qa _ => F ds n Qa fun _ _ => False) := by
  have key : ∀ vs H Q E, spA ms (fun ds n Qa _ => F ds n Qa fun _ _ => False) vs H Q E → spA ms F vs H Q E0 := fun vs H Q E ⟨Φ, ds, n, Qa, xa, h2, h3, h4, h5, _⟩ => ⟨Φ, ds, n, Qa, _, h2, h3, h4, h5, fun _ _ _ _ _ z => z⟩
  refine ⟨fun vs H Q E q => h.len vs H Q E0 (key _ _ _ _ q), fun A outer s H args us vs Q E hr he hb hv hs => ?_⟩
  refine codeAny_mono (h.run A outer s H args us vs Q E0 hr he hb hv (key _ _ _ _ hs)) fun r s' q => ?_
  cases r with
  | error e =>
    obtain ⟨_, _, _, _, _, _, _, _, _, _, _, _, z⟩ := (show L2.CX P w outer H s E0 e s' from q)
    exact z.elim
  | ok fl => cases fl <;> exact q
end
/-- where it does not raise -/
def calm (F : AF) : AF := fun ds n Qa _ => F ds n Qa fun _ _ => False
/-! ### calls -/
def resM : List Md → AS → List Op → Option (List PyData)
  | [], _, [] => some []
  | .dat :: ms, s, .val d :: os => (resM ms s os).map (d :: ·)
  | .bor :: ms, s, o :: os => match res s o with
    | some d => (resM ms s os).map (d :: ·)
    | none => none
  | .deck :: ms, s, .deck :: os => (resM ms s os).map (PyData.none :: ·)
  | _, _, _ => none
def rm : List Md → AS → List Op → (List PyData → Prop) → Prop
  | [], _, [], k => k []
  | .dat :: ms, s, .val d :: os, k => rm ms s os fun ds => k (d :: ds)
  | .bor :: ms, s, o :: os, k => rs s o fun d => rm ms s os fun ds => k (d :: ds)
  | .deck :: ms, s, .deck :: os, k => rm ms s os fun ds => k (PyData.none :: ds)
  | _, _, _, _ => False
theorem rm_get : ∀ {ms : List Md} {s : AS} {os : List Op} {k : List PyData → Prop}, rm ms s os k → ∃ ds, resM ms s os = some ds ∧ k ds
  | [], _, [], k, h => ⟨[], rfl, h⟩
  | .dat :: ms, s, .val d :: os, k, h => by
    obtain ⟨ds, e, q⟩ := rm_get (ms := ms) (s := s) (os := os) (k := fun ds => k (d :: ds)) h
    exact ⟨d :: ds, by unfold resM; rw [e]; rfl, q⟩
  | .bor :: ms, s, o :: os, k, h => by
    obtain ⟨d, e1, h⟩ := rs_get (show rs s o (fun d => rm ms s os fun ds => k (d :: ds)) from h)
    obtain ⟨ds, e, q⟩ := rm_get h
    exact ⟨d :: ds, by unfold resM; rw [e1, e]; rfl, q⟩
  | .deck :: ms, s, .deck :: os, k, h => by
    obtain ⟨ds, e, q⟩ := rm_get (ms := ms) (s := s) (os := os) (k := fun ds => k (PyData.none :: ds)) h
    exact ⟨PyData.none :: ds, by unfold resM; rw [e]; rfl, q⟩
  | [], _, _ :: _, _, h => h.elim
  | .dat :: _, _, [], _, h => h.elim
  | .dat :: _, _, .slot _ :: _, _, h => h.elim
  | .dat :: _, _, .deck :: _, _, h => h.elim
  | .bor :: _, _, [], _, h => h.elim
  | .deck :: _, _, [], _, h => h.elim
  | .deck :: _, _, .val _ :: _, _, h => h.elim
  | .deck :: _, _, .slot _ :: _, _, h => h.elim
def aCall (ms : List Md) (F : AF) (aa : AA) : AE := fun xp s Q => aa xp s fun os s1 => rm ms s1 os fun ds => F ds s1.n (fun r n => Q r { s1 with n := n }) (fun x n => xp x { s1 with n := n })
def aCall0 (ms : List Md) (F : AF) (aa : AA) : AE := fun xp s Q => aa xp s fun os s1 => rm ms s1 os fun ds => F ds 0 (fun r _ => Q r s1) (fun x _ => xp x s1)
section
variable {Φ : Fx} {E : OE} {s : AS} {σ : L2.St} {H : Hp}
theorem Rel.after {H' : Hp} {m : Nat} (r : Rel Φ E s σ H) (h : ∀ b o, H b = some o → b ∉ dkl E.dk → H' b = some o) (hd : ∀ d p q, E.dk = some (d, p, q) → Deck H' d p q m) : Rel Φ E { s with n := m } σ H' := by
  have kb : KB E H H' := fun b o e n => h b o e fun z => n (List.mem_append_left _ z)
  refine ⟨r.len, fun i x e => ?_, fun d p q e => ⟨hd d p q e, (r.dk d p q e).2⟩, fun i a m => ?_, r.inj, fun b o h1 h2 => h _ _ (r.fr b o h1 h2) fun z => ?_, r.dk0, r.alive, fun x hx => (r.held x hx).kb r.lst kb, fun x hx => ?_, r.znd⟩
  · obtain ⟨v, h1, h2⟩ := r.val i x e
    refine ⟨v, h1, ?_⟩
    cases x with
    | dat d => exact Rp.kb (show Rp H (ban Φ E) d v from h2) r.lst kb
    | own ds =>
      obtain ⟨a, xs, e1, m1, h3, h4⟩ := h2
      exact ⟨a, xs, e1, m1, h _ _ h3 (r.own i a m1).2.2.1, h4.kb r.lst kb⟩
    | dct kvs =>
      obtain ⟨a, ks, e1, m1, h3, h4⟩ := h2
      exact ⟨a, ks, e1, m1, h _ _ h3 (r.own i a m1).2.2.1, h4.kb r.lst kb⟩
    | bor d =>
      rcases h2 with h2 | ⟨a, ds, xs, e1, e2, h3, h5, h6⟩
      · exact .inl (h2.kb r.lst kb)
      · refine .inr ⟨a, ds, xs, e1, e2, h _ _ h3 fun z => ?_, h5, h6.kb r.lst kb⟩
        cases e : E.dk with
        | none => rw [e] at z; cases z
        | some t => obtain ⟨d, p, q⟩ := t; exact ((r.dk d p q e).2 a z).1 h5
    | deck => exact h2
    | exc x =>
      obtain ⟨b, da, e1, e2, h3, h4⟩ := h2
      exact ⟨b, da, e1, e2, h3.kb r.lst kb, h4⟩
  · obtain ⟨⟨xs, h1, mu⟩, h2⟩ := r.own i a m
    exact ⟨⟨xs, h _ _ h1 h2.2.1, mu⟩, h2⟩
  · cases e : E.dk with
    | none => rw [e] at z; cases z
    | some t =>
      obtain ⟨d, p, q⟩ := t
      rcases ((r.dk d p q e).2 b z).2 with y | y
      · exact h2 y
      · rw [y] at h1; cases h1
  · obtain ⟨z1, z2⟩ := r.zz x hx
    exact ⟨h _ _ z1 fun z => z2.1 (List.mem_append_left _ z), z2⟩
/-- the callee's surroundings -/
def Fx.inner (Φ : Fx) (E : OE) (H : Hp) : Fx := ⟨E.R.map (·.2) ++ (Φ.Z.map (·.1) ++ Φ.B), E.dk, H, [], [], none, []⟩
def Fx.inner0 (Φ : Fx) (E : OE) (H : Hp) : Fx := ⟨ban Φ E, none, H, [], [], none, []⟩
theorem inner_ban : ban (Φ.inner E H) ⟨(Φ.inner E H).dk0, []⟩ = ban Φ E := by
  show (dkl E.dk ++ []) ++ ([] ++ (E.R.map (·.2) ++ (Φ.Z.map (·.1) ++ Φ.B))) = (dkl E.dk ++ E.R.map (·.2)) ++ (Φ.Z.map (·.1) ++ Φ.B)
  rw [List.append_nil, List.nil_append, List.append_assoc]
theorem inner0_ban : ban (Φ.inner0 E H) ⟨(Φ.inner0 E H).dk0, []⟩ = ban Φ E := by
  show ([] ++ []) ++ ([] ++ ban Φ E) = ban Φ E
  rfl
theorem Rel.pre (r : Rel Φ E s σ H) : Pre (Φ.inner E H) H s.n := by
  refine ⟨rfl, rfl, rfl, rfl, rfl, fun b hb => ?_, fun d p q e => (r.dk d p q e).1⟩
  rcases List.mem_append.mp hb with z | z
  · obtain ⟨⟨i, a⟩, hx, rfl⟩ := List.mem_map.mp z
    obtain ⟨⟨xs, h1, _⟩, h2⟩ := r.own i a hx
    exact ⟨⟨_, h1⟩, h2.2.1⟩
  · rcases List.mem_append.mp z with z | z
    · obtain ⟨x, hx, rfl⟩ := List.mem_map.mp z
      obtain ⟨z1, z2, _⟩ := r.zz x hx
      exact ⟨⟨_, z1⟩, fun y => z2 (List.mem_append_left _ y)⟩
    · refine ⟨r.alive' z, fun y => ?_⟩
      have y2 : b ∈ dkl E.dk := y
      cases e : E.dk with
      | none => rw [e] at y2; cases y2
      | some t => obtain ⟨d, p, q⟩ := t; exact ((r.dk d p q e).2 b y2).1 z
theorem Rel.pre0 (r : Rel Φ E s σ H) : Pre (Φ.inner0 E H) H 0 := by
  refine ⟨rfl, rfl, rfl, rfl, rfl, fun b hb => ⟨?_, fun z => (nomatch z)⟩, fun d p q e => (nomatch e)⟩
  have hb2 : b ∈ ban Φ E := hb
  cases e : H b with
  | some o => exact ⟨o, rfl⟩
  | none => exact absurd hb2 (r.newban e)
theorem args_rel (r : Rel Φ E s σ H) {Φ' : Fx} (hb : ban Φ' ⟨Φ'.dk0, []⟩ = ban Φ E) (hB : ∀ a ∈ Φ.B, a ∈ Φ'.B) (hR : ∀ i a, (i, a) ∈ E.R → a ∈ Φ'.B) : ∀ {ms : List Md} {os : List Op} {vs : List V} {ds : List PyData}, (Md.deck ∈ ms → Φ'.dk0 = E.dk) → Paired (RpO Φ E σ H) os vs → resM ms s os = some ds → ArgsRel Φ' H ms ds vs
  | [], _, _, _, _, .nil, e => by cases e; exact .nil
  | [], _, _, _, _, .cons _ _, e => by cases e
  | .dat :: ms, .val d :: os, _, _, hd, .cons h t, e => by
    unfold resM at e
    cases e2 : resM ms s os with
    | none => rw [e2] at e; cases e
    | some ds =>
      rw [e2] at e; cases e
      refine .cons ?_ (args_rel r hb hB hR (fun m => hd (List.mem_cons_of_mem _ m)) t e2)
      show Rp H (ban Φ' ⟨Φ'.dk0, []⟩) d _
      rw [hb]; exact h
  | .bor :: ms, o :: os, v0 :: _, _, hd, .cons h t, e => by
    unfold resM at e
    cases e3 : res s o with
    | none => rw [e3] at e; cases e
    | some d =>
      rw [e3] at e
      cases e2 : resM ms s os with
      | none => rw [e2] at e; cases e
      | some ds =>
        rw [e2] at e; cases e
        refine .cons ?_ (args_rel r hb hB hR (fun m => hd (List.mem_cons_of_mem _ m)) t e2)
        show Rp H (ban Φ' ⟨Φ'.dk0, []⟩) d v0 ∨ ∃ a ds xs, d = .list ds ∧ v0 = .ref a ∧ H a = some (.lst xs) ∧ a ∈ Φ'.B ∧ RpAll H (ban Φ' ⟨Φ'.dk0, []⟩) ds xs
        rw [hb]
        cases o with
        | val d' => cases e3; exact .inl h
        | deck => cases e3
        | slot i =>
          simp only [TR.res] at e3
          split at e3
          · next x hx =>
            cases e3
            obtain ⟨v', h1, h2⟩ := r.val i _ hx
            rw [show σ[i]? = some (some _) from h] at h1; cases h1
            exact .inl h2
          · next ds' hx =>
            cases e3
            obtain ⟨v', h1, h2⟩ := r.val i _ hx
            rw [show σ[i]? = some (some _) from h] at h1; cases h1
            obtain ⟨a, xs, e1, m, h3, h4⟩ := h2
            exact .inr ⟨a, ds', xs, rfl, e1, h3, hR i a m, h4⟩
          · next x hx =>
            cases e3
            obtain ⟨v', h1, h2⟩ := r.val i _ hx
            rw [show σ[i]? = some (some _) from h] at h1; cases h1
            rcases h2 with h2 | ⟨a, ds', xs, e, e2, g1, g3, g4⟩
            · exact .inl h2
            · exact .inr ⟨a, ds', xs, e, e2, g1, hB _ g3, g4⟩
          · cases e3
  | .deck :: ms, .deck :: os, _, _, hd, .cons h t, e => by
    unfold resM at e
    cases e2 : resM ms s os with
    | none => rw [e2] at e; cases e
    | some ds =>
      rw [e2] at e; cases e
      refine .cons ?_ (args_rel r hb hB hR (fun m => hd (List.mem_cons_of_mem _ m)) t e2)
      obtain ⟨d, p, q, e1, e3⟩ := h
      exact ⟨d, p, q, (hd List.mem_cons_self).trans e1, e3⟩
  | .dat :: ms, .slot _ :: os, _, _, _, _, e => by cases e
  | .dat :: ms, .deck :: os, _, _, _, _, e => by cases e
  | .deck :: ms, .slot _ :: os, _, _, _, _, e => by cases e
  | .deck :: ms, .val _ :: os, _, _, _, _, e => by cases e
  | .dat :: ms, [], _, _, _, _, e => by cases e
  | .bor :: ms, [], _, _, _, _, e => by cases e
  | .deck :: ms, [], _, _, _, _, e => by cases e
end
theorem call_ok {Ec : EC} {ms : List Md} {F : AF} {aa : AA} {σ : L2.St} {H : Hp} {Q : VK} (h : cE Ec (aCall ms F aa) σ H Q) : cA Ec aa σ H fun vs H1 => spA ms F vs H1 Q (Ec.x σ) := by
  obtain ⟨Φ, E, xp, s, Qa, r, x, q, k⟩ := h
  refine ⟨Φ, E, xp, s, _, r, x, q, fun os E1 s1 vs H1 l1 r1 k1 p1 q1 => ?_⟩
  obtain ⟨ds, e, q1⟩ := rm_get q1
  have fr : ∀ {G : Hp}, (∀ b o, H1 b = some o → b ∉ dkl E1.dk → G b = some o) → KB E1 H1 G := fun h b o e n => h b o e fun z => n (List.mem_append_left _ z)
  have bq : ∀ a ∈ ban Φ E1, a ∈ dkl (Φ.inner E1 H1).dk0 ++ (Φ.inner E1 H1).B := fun a ha => by
    have ha2 : a ∈ (dkl E1.dk ++ E1.R.map (·.2)) ++ (Φ.Z.map (·.1) ++ Φ.B) := ha
    rw [List.append_assoc] at ha2
    exact ha2
  refine ⟨Φ.inner E1 H1, ds, s1.n, _, _, r1.pre, args_rel r1 inner_ban (fun a ha => List.mem_append_right _ (List.mem_append_right _ ha)) (fun i a m => List.mem_append_left _ (List.mem_map.mpr ⟨_, m, rfl⟩)) (fun _ => rfl) p1 e, q1, fun y m v G ro qy => ?_, fun y m da G ro qy => ?_⟩
  · exact k y E1 _ v G l1 (r1.after ro.fr ro.dk) (k1.trans l1 (fr ro.fr)) (Rp.wk bq ro.rp) qy
  · exact x.2 y E1 _ σ G da (r1.after ro.fr ro.dk) (ro.rp.wk bq) qy
theorem call0_ok {Ec : EC} {ms : List Md} {F : AF} {aa : AA} {σ : L2.St} {H : Hp} {Q : VK} (hm : Md.deck ∉ ms) (h : cE Ec (aCall0 ms F aa) σ H Q) : cA Ec aa σ H fun vs H1 => spA ms F vs H1 Q (Ec.x σ) := by
  obtain ⟨Φ, E, xp, s, Qa, r, x, q, k⟩ := h
  refine ⟨Φ, E, xp, s, _, r, x, q, fun os E1 s1 vs H1 l1 r1 k1 p1 q1 => ?_⟩
  obtain ⟨ds, e, q1⟩ := rm_get q1
  have sm : ∀ {G : Hp}, (∀ b o, H1 b = some o → b ∉ dkl none → G b = some o) → Same H1 G := fun h b o e => h b o e fun z => (nomatch z)
  refine ⟨Φ.inner0 E1 H1, ds, 0, _, _, r1.pre0, args_rel r1 inner0_ban (fun a ha => List.mem_append_right _ (List.mem_append_right _ ha)) (fun i a m => List.mem_append_left _ (List.mem_append_right _ (List.mem_map.mpr ⟨_, m, rfl⟩))) (fun z => absurd z hm) p1 e, q1, fun y m v G ro qy => ?_, fun y m da G ro qy => ?_⟩
  · exact k y E1 _ v G l1 (r1.same (sm ro.fr)) (k1.trans l1 (.of_same (sm ro.fr))) (Rp.wk (fun a ha => ha) ro.rp) qy
  · exact x.2 y E1 _ σ G da (r1.same (sm ro.fr)) (ro.rp.wk fun a ha => ha) qy
section
variable {X : Cx} {k : Nat} {f : Addr} {fd : FuncData} {ps : List Str} {ms : List Md} {F : AF} {x : Str} {p pos : Pos} {e : Expr} {es : List Expr} {aa : AA}
/-- a def that raises nothing: with the deck, without -/
theorem ae_call {Ec : EC} (G : FnOk X.prog X.w X.K X.mg X.base CX0 k f fd ps (spA ms F)) (hr : Room k X.A) (hg : Gl X x) (hm : X.mg x = some (.ref f)) (hk : PySem.W.keepIn X.K (.ref f) = true) (hb : Binds X.K fd ps []) (ha : PA X (e :: es) (cA Ec aa)) (hdb : (x == ("__debug__" : Str)) = false := by decide) (he : starEach (e :: es) X.env = (false, eval e X.env) :: starEach es X.env := by rfl) (hpl : (backTo pos (starEach es X.env)).any (·.1) = false := by rfl) :
    PE X (.Call (.Name x p) (e :: es) [] pos) (cE Ec (aCall ms (calm F) aa)) := by
  refine (pe_call (dvs := []) (ds := []) G hr hg hm hk hb .nil pass0 ha hdb he hpl).sub fun σ H Q h => ?_
  have key := call_ok h
  obtain ⟨Φ, E, xp, s, Qa, r, x, q, k⟩ := key
  refine ⟨Φ, E, xp, s, Qa, r, x, q, fun os E1 s1 vs H1 l1 r1 k1 p1 q1 => ?_⟩
  obtain ⟨Φ', ds, n, Qb, xa, h1, h2, h3, h4, h5⟩ := k os E1 s1 vs H1 l1 r1 k1 p1 q1
  rw [List.append_nil]
  exact ⟨Φ', ds, n, Qb, _, h1, h2, h3, h4, fun _ _ _ _ _ z => z⟩
theorem ae_call0 {Ec : EC} (G : FnOk X.prog X.w X.K X.mg X.base CX0 k f fd ps (spA ms F)) (hd : Md.deck ∉ ms) (hr : Room k X.A) (hg : Gl X x) (hm : X.mg x = some (.ref f)) (hk : PySem.W.keepIn X.K (.ref f) = true) (hb : Binds X.K fd ps []) (ha : PA X (e :: es) (cA Ec aa)) (hdb : (x == ("__debug__" : Str)) = false := by decide) (he : starEach (e :: es) X.env = (false, eval e X.env) :: starEach es X.env := by rfl) (hpl : (backTo pos (starEach es X.env)).any (·.1) = false := by rfl) :
    PE X (.Call (.Name x p) (e :: es) [] pos) (cE Ec (aCall0 ms (calm F) aa)) := by
  refine (pe_call (dvs := []) (ds := []) G hr hg hm hk hb .nil pass0 ha hdb he hpl).sub fun σ H Q h => ?_
  have key := call0_ok hd h
  obtain ⟨Φ, E, xp, s, Qa, r, x, q, k⟩ := key
  refine ⟨Φ, E, xp, s, Qa, r, x, q, fun os E1 s1 vs H1 l1 r1 k1 p1 q1 => ?_⟩
  obtain ⟨Φ', ds, n, Qb, xa, h1, h2, h3, h4, h5⟩ := k os E1 s1 vs H1 l1 r1 k1 p1 q1
  rw [List.append_nil]
  exact ⟨Φ', ds, n, Qb, _, h1, h2, h3, h4, fun _ _ _ _ _ z => z⟩
/-- a def that may raise, in a def that may raise -/
theorem ae_call0X {E : XK} (G : FnOk X.prog X.w X.K X.mg X.base (L2.CX X.prog X.w) k f fd ps (spA ms F)) (hd : Md.deck ∉ ms) (hr : Room k X.A) (hg : Gl X x) (hm : X.mg x = some (.ref f)) (hk : PySem.W.keepIn X.K (.ref f) = true) (hb : Binds X.K fd ps []) (hx : Passes (L2.CX X.prog X.w) X E) (ha : PA X (e :: es) (cA (eE E) aa)) (hdb : (x == ("__debug__" : Str)) = false := by decide) (he : starEach (e :: es) X.env = (false, eval e X.env) :: starEach es X.env := by rfl) (hpl : (backTo pos (starEach es X.env)).any (·.1) = false := by rfl) :
    PE X (.Call (.Name x p) (e :: es) [] pos) (cE (eE E) (aCall0 ms F aa)) := by
  refine (pe_call (dvs := []) (ds := []) G hr hg hm hk hb .nil hx ha hdb he hpl).sub fun σ H Q h => ?_
  have key := call0_ok hd h
  obtain ⟨Φ, E, xp, s, Qa, r, x, q, k⟩ := key
  refine ⟨Φ, E, xp, s, Qa, r, x, q, fun os E1 s1 vs H1 l1 r1 k1 p1 q1 => ?_⟩
  have z := k os E1 s1 vs H1 l1 r1 k1 p1 q1
  show spA ms F (vs ++ []) H1 Q _
  rw [List.append_nil]
  exact z
end
end TR
namespace TR
open PySem PySem.Spec PyProof.Rows L2
/-! ### what a value is, by its data -/
section
variable {H : Hp} {bn : List Addr} {v : V}
theorem RpX.int {i : Int} (h : RpX H bn (.int i) v) : v = .int i := by
  rcases h with h | ⟨_, _, _, e, _⟩
  · exact h
  · cases e
theorem RpX.bool {b : Bool} (h : RpX H bn (.bool b) v) : v = .bl b := by
  rcases h with h | ⟨_, _, _, e, _⟩
  · exact h
  · cases e
theorem RpX.str {x : Str} (h : RpX H bn (.str x) v) : v = .str x := by
  rcases h with h | ⟨_, _, _, e, _⟩
  · exact h
  · cases e
theorem RpX.non (h : RpX H bn .none v) : v = .non := by
  rcases h with h | ⟨_, _, _, e, _⟩
  · exact h
  · cases e
theorem RpX.tup {ds : List PyData} (h : RpX H bn (.tuple ds) v) : ∃ a xs, v = .ref a ∧ TF H a xs ∧ RpAll H bn ds xs := by
  rcases h with h | ⟨_, _, _, e, _⟩
  · exact h
  · cases e
theorem RpX.lst {ds : List PyData} (h : RpX H bn (.list ds) v) : ∃ a xs, v = .ref a ∧ H a = some (.lst xs) ∧ RpAll H bn ds xs := by
  rcases h with ⟨a, xs, e, h1, _, h2⟩ | ⟨a, ds', xs, e, e2, h1, h2⟩
  · exact ⟨a, xs, e, h1, h2⟩
  · cases e; exact ⟨a, xs, e2, h1, h2⟩
theorem rp_newL {H' : Hp} {ds : List PyData} {xs : List V} {p : Addr} (nb : NB H bn) (hp : H p = none) (m : Same H H') (e : H' p = some (.lst xs)) (ra : RpAll H bn ds xs) : Rp H' bn (.list ds) (.ref p) := ⟨p, xs, rfl, e, nb p hp, ra.same m⟩
end
section
variable {X : Cx} {pins : List (Addr × Obj)} {σ : L2.St} {H : Hp} {s : Shared}
mutual
theorem Rp.rds {ban : List Addr} (I : Inv X pins σ H s) : ∀ (d : PyData) (v : V) (u : Value), Rp H ban d v → RelV v u → ∃ as, Reads s.heap u d as
  | .none, _, _, h, r => by cases (show _ = V.non from h); cases r; exact ⟨_, .none⟩
  | .bool b, _, _, h, r => by cases (show _ = V.bl b from h); cases r; exact ⟨_, .bool b⟩
  | .int i, _, _, h, r => by cases (show _ = V.int i from h); obtain ⟨t, rfl⟩ := r; exact ⟨_, .int i t⟩
  | .str x, _, _, h, r => by cases (show _ = V.str x from h); obtain ⟨t, rfl⟩ := r; exact ⟨_, .str x t⟩
  | .list ds, _, _, h, r => by
    obtain ⟨a, xs, rfl, h1, _, h3⟩ := h
    cases r
    obtain ⟨z, its, n, rv, e⟩ := (show ObjOk X.prog X.w H s.heap a (.lst xs) from I.hok a _ h1)
    obtain ⟨as, g⟩ := RpAll.rds I ds xs its h3 rv
    exact ⟨a :: as, .list e rfl rfl (by simpa using g)⟩
  | .tuple ds, _, _, h, r => by
    obtain ⟨a, xs, rfl, h1, h3⟩ := h
    cases r
    obtain ⟨z, its, rv, o, e, c, n, hd⟩ := h1.rd.ok I.hok
    obtain ⟨as, g⟩ := RpAll.rds I ds xs its h3 rv
    exact ⟨as, .tuple e c hd (by simpa using g)⟩
  | .dict kvs, _, _, h, r => by
    obtain ⟨rfl, a, rfl, h1, _⟩ := h
    cases r
    obtain ⟨z, hs, vs, kv, o, es, ep, e, ex, hd, _, ps, _⟩ := dk_of I.hok h1
    cases kv
    have hes : es = #[] := by
      cases es with
      | mk l =>
        cases (show Pairs _ l [] from ps)
        rfl
    subst hes
    exact ⟨[a], .dict (as := []) (bs := []) e ex.1 hd .nil .nil⟩
theorem RpAll.rds {ban : List Addr} (I : Inv X pins σ H s) : ∀ (ds : List PyData) (xs : List V) (us : List Value), RpAll H ban ds xs → Vals xs us → ∃ as, ReadsAll s.heap us ds as
  | [], _, _, h, r => by cases (show _ = [] from h); cases r; exact ⟨_, .nil⟩
  | d :: ds, _, _, h, r => by
    obtain ⟨v, t, rfl, h1, h2⟩ := h
    cases r with
    | cons r1 r2 =>
      obtain ⟨as, q1⟩ := Rp.rds I d _ _ h1 r1
      obtain ⟨bs, q2⟩ := RpAll.rds I ds _ _ h2 r2
      exact ⟨as ++ bs, .cons q1 q2⟩
end
theorem RpX.rds {ban : List Addr} (I : Inv X pins σ H s) {d : PyData} {v : V} {u : Value} (h : RpX H ban d v) (r : RelV v u) : ∃ as, Reads s.heap u d as := by
  rcases h with h | ⟨a, ds, xs, rfl, rfl, h1, h3⟩
  · exact Rp.rds I d v u h r
  · cases r
    obtain ⟨z, its, n, rv, e⟩ := (show ObjOk X.prog X.w H s.heap a (.lst xs) from I.hok a _ h1)
    obtain ⟨as, g⟩ := RpAll.rds I ds xs its h3 rv
    exact ⟨a :: as, .list e rfl rfl (by simpa using g)⟩
end
/-! ### arithmetic and + -/
def b2n (b : Bool) : Int := if b = true then 1 else 0
def vAdd : PyData → PyData → (PyData → Prop) → Prop
  | .int a, .int b, Q => Q (.int (a + b))
  | .bool a, .int b, Q => Q (.int (b2n a + b))
  | .int a, .bool b, Q => Q (.int (a + b2i b))
  | .tuple xs, .tuple ys, Q => xs.length + ys.length ≤ sizeLine ∧ Q (.tuple (xs ++ ys))
  | .list xs, .list ys, Q => xs.length + ys.length ≤ sizeLine ∧ Q (.list (xs ++ ys))
  | .str a, .str b, Q => a.length + b.length ≤ sizeLine ∧ Q (.str (a ++ b))
  | _, _, _ => False
section
variable {X : Cx}
def rAddA : R2 := fun x y H Q => (rI0 fun i j => .int (i + j)) x y H Q ∨ (∃ k i, x = .bl k ∧ y = .int i ∧ Q (.int (b2n k + i)) H) ∨ (∃ i k, x = .int i ∧ y = .bl k ∧ Q (.int (i + b2i k)) H) ∨
  (∃ a b xs ys, x = .ref a ∧ y = .ref b ∧ TF H a xs ∧ TF H b ys ∧ xs.length + ys.length ≤ sizeLine ∧ ∀ p H', Same H H' → TF H' p (xs ++ ys) → Q (.ref p) H') ∨
  (∃ a b xs ys, x = .ref a ∧ y = .ref b ∧ H a = some (.lst xs) ∧ H b = some (.lst ys) ∧ xs.length + ys.length ≤ sizeLine ∧ ∀ p H', H p = none → Same H H' → H' p = some (.lst (xs ++ ys)) → Q (.ref p) H') ∨
  ∃ i j, x = .str i ∧ y = .str j ∧ i.length + j.length ≤ sizeLine ∧ Q (.str (i ++ j)) H
theorem op_addA : OpR X (binaryOp .Add) rAddA := op_add.or (op_add_bi.or (op_add_ib.or (op_catTN.or (op_catN.or op_add_str))))
theorem dop_add : DOp rAddA vAdd := by
  intro bn H d1 d2 v1 v2 Q Qc nb p1 p2 q k
  unfold vAdd at q
  split at q
  · rw [p1.int, p2.int]; exact .inl ⟨_, _, rfl, rfl, k (.int _) _ H (.refl _) rfl q⟩
  · rw [p1.bool, p2.int]; exact .inr (.inl ⟨_, _, rfl, rfl, k (.int _) _ H (.refl _) rfl q⟩)
  · rw [p1.int, p2.bool]; exact .inr (.inr (.inl ⟨_, _, rfl, rfl, k (.int _) _ H (.refl _) rfl q⟩))
  · obtain ⟨a, xs, rfl, t1, r1⟩ := p1.tup
    obtain ⟨b, ys, rfl, t2, r2⟩ := p2.tup
    exact .inr (.inr (.inr (.inl ⟨a, b, xs, ys, rfl, rfl, t1, t2, by rw [r1.len, r2.len]; exact q.1, fun p H' m tf => k (.tuple _) _ H' m ⟨p, _, rfl, tf, (r1.app r2).same m⟩ q.2⟩)))
  · obtain ⟨a, xs, rfl, t1, r1⟩ := p1.lst
    obtain ⟨b, ys, rfl, t2, r2⟩ := p2.lst
    exact .inr (.inr (.inr (.inr (.inl ⟨a, b, xs, ys, rfl, rfl, t1, t2, by rw [r1.len, r2.len]; exact q.1, fun p H' hp m e => k _ _ H' m (rp_newL nb hp m e (r1.app r2)) q.2⟩))))
  · rw [p1.str, p2.str]; exact .inr (.inr (.inr (.inr (.inr ⟨_, _, rfl, rfl, q.1, k (.str _) _ H (.refl _) rfl q.2⟩))))
  · exact q.elim
def vSub : PyData → PyData → (PyData → Prop) → Prop
  | .int a, .int b, Q => Q (.int (a - b))
  | .bool a, .int b, Q => Q (.int (b2n a - b))
  | _, _, _ => False
def rSubA : R2 := fun x y H Q => (rI0 fun i j => .int (i - j)) x y H Q ∨ (∃ k i, x = .bl k ∧ y = .int i ∧ Q (.int (b2n k - i)) H)
theorem op_subA : OpR X (binaryOp .Sub) rSubA := op_sub.or op_sub_bi
theorem dop_sub : DOp rSubA vSub := by
  intro bn H d1 d2 v1 v2 Q Qc nb p1 p2 q k
  unfold vSub at q
  split at q
  · rw [p1.int, p2.int]; exact .inl ⟨_, _, rfl, rfl, k (.int _) _ H (.refl _) rfl q⟩
  · rw [p1.bool, p2.int]; exact .inr ⟨_, _, rfl, rfl, k (.int _) _ H (.refl _) rfl q⟩
  · exact q.elim
/-- a pair of ints -/
def vII (C : Int → Int → Prop) (g : Int → Int → PyData) : PyData → PyData → (PyData → Prop) → Prop
  | .int a, .int b, Q => C a b ∧ Q (g a b)
  | _, _, _ => False
theorem dop_ii {C : Int → Int → Prop} {g : Int → Int → Int} : DOp (rI C fun i j => .int (g i j)) (vII C fun i j => .int (g i j)) := by
  intro bn H d1 d2 v1 v2 Q Qc nb p1 p2 q k
  unfold vII at q
  split at q
  · rw [p1.int, p2.int]; exact ⟨_, _, rfl, rfl, q.1, k (.int _) _ H (.refl _) rfl q.2⟩
  · exact q.elim
def vMod := vII (fun _ j => 0 < j) fun i j => .int (i % j)
def vDiv := vII CDivW fun i j => .int (i / j)
def vPow := vII CPow fun i j => .int (i ^ j.toNat)
theorem dop_mod : DOp (rI (fun _ j => 0 < j) fun i j => .int (i % j)) vMod := dop_ii
theorem dop_div : DOp (rI CDivW fun i j => .int (i / j)) vDiv := dop_ii
theorem dop_pow : DOp (rI CPow fun i j => .int (i ^ j.toNat)) vPow := dop_ii
def vMul : PyData → PyData → (PyData → Prop) → Prop
  | .int a, .int b, Q => CMul a b ∧ Q (.int (a * b))
  | _, _, _ => False
theorem dop_mul : DOp (rI CMul fun i j => .int (i * j)) vMul := by
  intro bn H d1 d2 v1 v2 Q Qc nb p1 p2 q k
  unfold vMul at q
  split at q
  · rw [p1.int, p2.int]; exact ⟨_, _, rfl, rfl, q.1, k (.int _) _ H (.refl _) rfl q.2⟩
  · exact q.elim
def vMulW := vII CMulW fun i j => .int (i * j)
theorem dop_mulW : DOp (rI CMulW fun i j => .int (i * j)) vMulW := dop_ii
/-! ### comparisons -/
/-- == of data of any kind -/
def vEq (d1 d2 : PyData) (Q : PyData → Prop) : Prop := SeqAt.shaped d1 = true ∧ SeqAt.shaped d2 = true ∧ Q (.bool (PyData.eqv d1 d2))
def vNe (d1 d2 : PyData) (Q : PyData → Prop) : Prop := SeqAt.shaped d1 = true ∧ SeqAt.shaped d2 = true ∧ Q (.bool (!PyData.eqv d1 d2))
def rCmpA (C : PyData → PyData → Prop) (g : PyData → PyData → Bool) : R2 := fun x y H Q => ∃ d e bn, RpX H bn d x ∧ RpX H bn e y ∧ C d e ∧ Q (.bl (g d e)) H
theorem op_eqA (hu : X.A.units + 64 < cLine) : OpR X (compareOp .Eq) (rCmpA (fun d e => SeqAt.shaped d = true ∧ SeqAt.shaped e = true) PyData.eqv) := by
  intro pins s σ H x y v u Q I rx ry ⟨d, e, bn, hd, he, ⟨sd, se⟩, q⟩
  obtain ⟨as, r1⟩ := hd.rds I rx
  obtain ⟨bs, r2⟩ := he.rds I ry
  exact SeqAt.compareEq_shaped r1 r2 sd se hu ⟨.bl _, H, I, rfl, q⟩
theorem op_neA (hu : X.A.units + 64 < cLine) : OpR X (compareOp .NotEq) (rCmpA (fun d e => SeqAt.shaped d = true ∧ SeqAt.shaped e = true) fun d e => !PyData.eqv d e) := by
  intro pins s σ H x y v u Q I rx ry ⟨d, e, bn, hd, he, ⟨sd, se⟩, q⟩
  obtain ⟨as, r1⟩ := hd.rds I rx
  obtain ⟨bs, r2⟩ := he.rds I ry
  exact SeqAt.compareNe_shaped r1 r2 sd se hu ⟨.bl _, H, I, rfl, q⟩
theorem dop_cmp {C : PyData → PyData → Prop} {g : PyData → PyData → Bool} {f : PyData → PyData → (PyData → Prop) → Prop} (hf : ∀ d e Q, f d e Q → C d e ∧ Q (.bool (g d e))) : DOp (rCmpA C g) f := by
  intro bn H d1 d2 v1 v2 Q Qc nb p1 p2 q k
  obtain ⟨c, q⟩ := hf _ _ _ q
  exact ⟨d1, d2, bn, p1, p2, c, k (.bool _) _ H (.refl _) rfl q⟩
theorem dop_eq : DOp (rCmpA (fun d e => SeqAt.shaped d = true ∧ SeqAt.shaped e = true) PyData.eqv) vEq := dop_cmp fun _ _ _ h => ⟨⟨h.1, h.2.1⟩, h.2.2⟩
theorem dop_ne : DOp (rCmpA (fun d e => SeqAt.shaped d = true ∧ SeqAt.shaped e = true) fun d e => !PyData.eqv d e) vNe := dop_cmp fun _ _ _ h => ⟨⟨h.1, h.2.1⟩, h.2.2⟩
/-- <, <=, >, >=: ints, and data that are alike -/
def AlkC (d e : PyData) : Prop := PySem.W.alike d e = true ∧ d ≠ .none ∧ d.depth ≤ 60
def vLt : PyData → PyData → (PyData → Prop) → Prop
  | .int a, .int b, Q => Q (.bool (decide (a < b)))
  | d, e, Q => AlkC d e ∧ Q (.bool (PySem.W.dataLt d e))
def vLe : PyData → PyData → (PyData → Prop) → Prop
  | .int a, .int b, Q => Q (.bool (decide (a ≤ b)))
  | d, e, Q => AlkC d e ∧ Q (.bool (!PySem.W.dataLt e d))
def vGt : PyData → PyData → (PyData → Prop) → Prop
  | .int a, .int b, Q => Q (.bool (decide (b < a)))
  | d, e, Q => AlkC d e ∧ Q (.bool (PySem.W.dataLt e d))
def vGe : PyData → PyData → (PyData → Prop) → Prop
  | .int a, .int b, Q => Q (.bool (decide (b ≤ a)))
  | d, e, Q => AlkC d e ∧ Q (.bool (!PySem.W.dataLt d e))
theorem alk_units {d e : PyData} (h : AlkC d e) (hu : X.A.units + 64 < cLine) : X.A.units + min d.depth e.depth < cLine := by
  have := h.2.2
  omega
theorem op_ltA (hu : X.A.units + 64 < cLine) : OpR X (compareOp .Lt) (fun x y H Q => (rI0 fun i j => .bl (decide (i < j))) x y H Q ∨ rCmpA AlkC PySem.W.dataLt x y H Q) := op_lt.or fun pins s σ H x y v u Q I rx ry ⟨d, e, bn, hd, he, c, q⟩ => by
  obtain ⟨as, r1⟩ := hd.rds I rx
  obtain ⟨bs, r2⟩ := he.rds I ry
  exact PySem.W.rcLt_alike d e X.A s v u as bs r1 r2 c.1 c.2.1 (alk_units c hu) _ _ _ _ ⟨.bl _, H, I, rfl, q⟩
theorem op_leA (hu : X.A.units + 64 < cLine) : OpR X (compareOp .LtE) (fun x y H Q => (rI0 fun i j => .bl (decide (i ≤ j))) x y H Q ∨ rCmpA AlkC (fun d e => !PySem.W.dataLt e d) x y H Q) := op_le.or fun pins s σ H x y v u Q I rx ry ⟨d, e, bn, hd, he, c, q⟩ => by
  obtain ⟨as, r1⟩ := hd.rds I rx
  obtain ⟨bs, r2⟩ := he.rds I ry
  exact PySem.W.rcLe_alike d e X.A s v u as bs r1 r2 c.1 c.2.1 (alk_units c hu) _ _ _ _ ⟨.bl _, H, I, rfl, q⟩
theorem op_gtA (hu : X.A.units + 64 < cLine) : OpR X (compareOp .Gt) (fun x y H Q => (rI0 fun i j => .bl (decide (j < i))) x y H Q ∨ rCmpA AlkC (fun d e => PySem.W.dataLt e d) x y H Q) := op_gt.or fun pins s σ H x y v u Q I rx ry ⟨d, e, bn, hd, he, c, q⟩ => by
  obtain ⟨as, r1⟩ := hd.rds I rx
  obtain ⟨bs, r2⟩ := he.rds I ry
  exact PySem.W.rcGt_alike d e X.A s v u as bs r1 r2 c.1 c.2.1 (alk_units c hu) _ _ _ _ ⟨.bl _, H, I, rfl, q⟩
theorem op_geA (hu : X.A.units + 64 < cLine) : OpR X (compareOp .GtE) (fun x y H Q => (rI0 fun i j => .bl (decide (j ≤ i))) x y H Q ∨ rCmpA AlkC (fun d e => !PySem.W.dataLt d e) x y H Q) := op_ge.or fun pins s σ H x y v u Q I rx ry ⟨d, e, bn, hd, he, c, q⟩ => by
  obtain ⟨as, r1⟩ := hd.rds I rx
  obtain ⟨bs, r2⟩ := he.rds I ry
  exact PySem.W.rcGe_alike d e X.A s v u as bs r1 r2 c.1 c.2.1 (alk_units c hu) _ _ _ _ ⟨.bl _, H, I, rfl, q⟩
theorem dop_ord {g : Int → Int → Bool} {h : PyData → PyData → Bool} {f : PyData → PyData → (PyData → Prop) → Prop} (hf : ∀ d e Q, f d e Q → (∃ i j, d = .int i ∧ e = .int j ∧ Q (.bool (g i j))) ∨ (AlkC d e ∧ Q (.bool (h d e)))) : DOp (fun x y H Q => (rI0 fun i j => .bl (g i j)) x y H Q ∨ rCmpA AlkC h x y H Q) f := by
  intro bn H d1 d2 v1 v2 Q Qc nb p1 p2 q k
  rcases hf _ _ _ q with ⟨i, j, rfl, rfl, z⟩ | ⟨c, z⟩
  · rw [p1.int, p2.int]; exact .inl ⟨_, _, rfl, rfl, k (.bool _) _ H (.refl _) rfl z⟩
  · exact .inr ⟨d1, d2, bn, p1, p2, c, k (.bool _) _ H (.refl _) rfl z⟩
theorem dop_lt : DOp (fun x y H Q => (rI0 fun i j => .bl (decide (i < j))) x y H Q ∨ rCmpA AlkC PySem.W.dataLt x y H Q) vLt := dop_ord (g := fun i j => decide (i < j)) fun d e Q q => by
  unfold vLt at q
  split at q
  · exact .inl ⟨_, _, rfl, rfl, q⟩
  · exact .inr q
theorem dop_le : DOp (fun x y H Q => (rI0 fun i j => .bl (decide (i ≤ j))) x y H Q ∨ rCmpA AlkC (fun d e => !PySem.W.dataLt e d) x y H Q) vLe := dop_ord (g := fun i j => decide (i ≤ j)) fun d e Q q => by
  unfold vLe at q
  split at q
  · exact .inl ⟨_, _, rfl, rfl, q⟩
  · exact .inr q
theorem dop_gt : DOp (fun x y H Q => (rI0 fun i j => .bl (decide (j < i))) x y H Q ∨ rCmpA AlkC (fun d e => PySem.W.dataLt e d) x y H Q) vGt := dop_ord (g := fun i j => decide (j < i)) fun d e Q q => by
  unfold vGt at q
  split at q
  · exact .inl ⟨_, _, rfl, rfl, q⟩
  · exact .inr q
theorem dop_ge : DOp (fun x y H Q => (rI0 fun i j => .bl (decide (j ≤ i))) x y H Q ∨ rCmpA AlkC (fun d e => !PySem.W.dataLt d e) x y H Q) vGe := dop_ord (g := fun i j => decide (j ≤ i)) fun d e Q q => by
  unfold vGe at q
  split at q
  · exact .inl ⟨_, _, rfl, rfl, q⟩
  · exact .inr q
/-- is, is not: with None, of bools -/
def isNon : PyData → Bool
  | .none => true
  | _ => false
def isD : PyData → PyData → Option Bool
  | d, .none => some (isNon d)
  | .bool a, .bool b => some (a == b)
  | .none, .bool _ => some false
  | _, _ => none
def vIs (d e : PyData) (Q : PyData → Prop) : Prop := match isD d e with
  | some b => Q (.bool b)
  | none => False
def vIsNot (d e : PyData) (Q : PyData → Prop) : Prop := match isD d e with
  | some b => Q (.bool (!b))
  | none => False
theorem is_bool {M : Model} {A : Around} {E : Value → Shared → Prop} {Q : Value → Shared → Prop} {s : Shared} {a b : Bool} (h : Q (.bool (a == b)) s) : wpAny M A (compareOp .Is (.bool a) (.bool b)) Q E s := by
  cases a <;> cases b <;> exact wpAny_pure h
theorem isnot_bool {M : Model} {A : Around} {E : Value → Shared → Prop} {Q : Value → Shared → Prop} {s : Shared} {a b : Bool} (h : Q (.bool (!(a == b))) s) : wpAny M A (compareOp .IsNot (.bool a) (.bool b)) Q E s := by
  cases a <;> cases b <;> exact wpAny_pure h
def rIsA (n : Bool) : R2 := fun x y H Q => (y = .non ∧ Q (.bl (if n = true then !decide (x = .non) else decide (x = .non))) H) ∨ (∃ a b, x = .bl a ∧ y = .bl b ∧ Q (.bl (if n = true then !(a == b) else (a == b))) H) ∨ (x = .non ∧ ∃ b, y = .bl b ∧ Q (.bl n) H)
theorem op_isA : OpR X (compareOp .Is) (rIsA false) := by
  intro pins s σ H x y v u Q I rx ry h
  rcases h with ⟨e, q⟩ | ⟨a, b, e1, e2, q⟩ | ⟨e1, b, e2, q⟩
  · exact op_isN pins s σ H x y v u Q I rx ry ⟨e, q⟩
  · subst e1 e2; cases rx; cases ry
    exact is_bool ⟨.bl _, H, I, rfl, q⟩
  · subst e1 e2; cases rx; cases ry
    cases b <;> exact wpAny_pure ⟨.bl _, H, I, rfl, q⟩
theorem op_isNotA : OpR X (compareOp .IsNot) (rIsA true) := by
  intro pins s σ H x y v u Q I rx ry h
  rcases h with ⟨e, q⟩ | ⟨a, b, e1, e2, q⟩ | ⟨e1, b, e2, q⟩
  · exact op_notN pins s σ H x y v u Q I rx ry ⟨e, q⟩
  · subst e1 e2; cases rx; cases ry
    exact isnot_bool ⟨.bl _, H, I, rfl, q⟩
  · subst e1 e2; cases rx; cases ry
    cases b <;> exact wpAny_pure ⟨.bl _, H, I, rfl, q⟩
theorem non_of {H : Hp} {bn : List Addr} {d : PyData} {v : V} (h : RpX H bn d v) : decide (v = .non) = isNon d := by
  cases d with
  | none => rw [h.non]; rfl
  | bool _ => rw [h.bool]; rfl
  | int _ => rw [h.int]; rfl
  | str _ => rw [h.str]; rfl
  | list _ => obtain ⟨a, _, e, _⟩ := h.lst; rw [e]; rfl
  | tuple _ => obtain ⟨a, _, e, _⟩ := h.tup; rw [e]; rfl
  | dict _ =>
    rcases h with ⟨_, a, e, _⟩ | ⟨_, _, _, e, _⟩
    · rw [e]; rfl
    · cases e
theorem dop_isA {n : Bool} {f : PyData → PyData → (PyData → Prop) → Prop} (hf : ∀ d e Q, f d e Q → ∃ b, isD d e = some b ∧ Q (.bool (if n = true then !b else b))) : DOp (rIsA n) f := by
  intro bn H d1 d2 v1 v2 Q Qc nb p1 p2 q k
  obtain ⟨b, e, z⟩ := hf _ _ _ q
  unfold isD at e
  split at e
  · next d1 =>
    cases e
    rw [p2.non]
    refine .inl ⟨rfl, ?_⟩
    rw [non_of p1]
    exact k (.bool _) _ H (.refl _) rfl z
  · cases e
    rw [p1.bool, p2.bool]
    exact .inr (.inl ⟨_, _, rfl, rfl, k (.bool _) _ H (.refl _) rfl z⟩)
  · cases e
    rw [p1.non, p2.bool]
    refine .inr (.inr ⟨rfl, _, rfl, k (.bool _) _ H (.refl _) rfl ?_⟩)
    cases n <;> exact z
  · cases e
theorem dop_is : DOp (rIsA false) vIs := dop_isA fun d e Q q => by
  unfold vIs at q
  split at q
  · next b h => exact ⟨b, h, q⟩
  · exact q.elim
theorem dop_isNot : DOp (rIsA true) vIsNot := dop_isA fun d e Q q => by
  unfold vIsNot at q
  split at q
  · next b h => exact ⟨b, h, q⟩
  · exact q.elim
/-- in, not in: a list or a tuple of data -/
def InC (d e : PyData) : Prop := SeqAt.shaped d = true ∧ SeqAt.shaped e = true ∧ (match e with | .list _ => True | .tuple _ => True | _ => False)
def inD (d e : PyData) : Bool := (items e).any fun y => PyData.eqv y d
def vIn : PyData → PyData → (PyData → Prop) → Prop
  | d, .list es, Q => SeqAt.shaped d = true ∧ SeqAt.shaped (.list es) = true ∧ Q (.bool (es.any fun y => PyData.eqv y d))
  | d, .tuple es, Q => SeqAt.shaped d = true ∧ SeqAt.shaped (.tuple es) = true ∧ Q (.bool (es.any fun y => PyData.eqv y d))
  | _, _, _ => False
def vNotIn : PyData → PyData → (PyData → Prop) → Prop
  | d, .list es, Q => SeqAt.shaped d = true ∧ SeqAt.shaped (.list es) = true ∧ Q (.bool (!es.any fun y => PyData.eqv y d))
  | d, .tuple es, Q => SeqAt.shaped d = true ∧ SeqAt.shaped (.tuple es) = true ∧ Q (.bool (!es.any fun y => PyData.eqv y d))
  | _, _, _ => False
theorem in_room {d : PyData} {es : List PyData} (sd : SeqAt.shaped d = true) (hu : X.A.units + 65 < cLine) : X.A.units + 1 + min (PyData.depthAll es) d.depth < cLine := by
  have h : (d.canLay0 && decide (d.depth ≤ 64)) = true := sd
  rw [Bool.and_eq_true] at h
  have := of_decide_eq_true h.2
  omega
theorem lay_of {d : PyData} (sd : SeqAt.shaped d = true) : d.canLay0 = true := by
  have h : (d.canLay0 && decide (d.depth ≤ 64)) = true := sd
  rw [Bool.and_eq_true] at h
  exact h.1
theorem op_inA (hu : X.A.units + 65 < cLine) : OpR X (compareOp .In) (rCmpA InC inD) := by
  intro pins s σ H x y v u Q I rx ry ⟨d, e, bn, hd, he, ⟨sd, se, c⟩, q⟩
  obtain ⟨as, r1⟩ := hd.rds I rx
  obtain ⟨bs, r2⟩ := he.rds I ry
  cases e with
  | list es => exact SeqAt.in_list_reads r2 r1 (lay_of se) (lay_of sd) (in_room sd hu) ⟨.bl _, H, I, rfl, q⟩
  | tuple es => exact SeqAt.in_tuple_reads r2 r1 (lay_of se) (lay_of sd) (in_room sd hu) ⟨.bl _, H, I, rfl, q⟩
  | none => exact c.elim
  | bool _ => exact c.elim
  | int _ => exact c.elim
  | str _ => exact c.elim
  | dict _ => exact c.elim
theorem op_notInA (hu : X.A.units + 65 < cLine) : OpR X (compareOp .NotIn) (rCmpA InC fun d e => !inD d e) := by
  intro pins s σ H x y v u Q I rx ry ⟨d, e, bn, hd, he, ⟨sd, se, c⟩, q⟩
  obtain ⟨as, r1⟩ := hd.rds I rx
  obtain ⟨bs, r2⟩ := he.rds I ry
  cases e with
  | list es => exact SeqAt.notIn_list_reads r2 r1 (lay_of se) (lay_of sd) (in_room sd hu) ⟨.bl _, H, I, rfl, q⟩
  | tuple es => exact SeqAt.notIn_tuple_reads r2 r1 (lay_of se) (lay_of sd) (in_room sd hu) ⟨.bl _, H, I, rfl, q⟩
  | none => exact c.elim
  | bool _ => exact c.elim
  | int _ => exact c.elim
  | str _ => exact c.elim
  | dict _ => exact c.elim
theorem dop_in : DOp (rCmpA InC inD) vIn := dop_cmp fun d e Q q => by
  unfold vIn at q
  split at q
  · exact ⟨⟨q.1, q.2.1, trivial⟩, q.2.2⟩
  · exact ⟨⟨q.1, q.2.1, trivial⟩, q.2.2⟩
  · exact q.elim
theorem dop_notIn : DOp (rCmpA InC fun d e => !inD d e) vNotIn := dop_cmp fun d e Q q => by
  unfold vNotIn at q
  split at q
  · exact ⟨⟨q.1, q.2.1, trivial⟩, q.2.2⟩
  · exact ⟨⟨q.1, q.2.1, trivial⟩, q.2.2⟩
  · exact q.elim
/-! ### x[i], x[lo:hi], x[::-1] -/
def vIx : PyData → PyData → (PyData → Prop) → Prop
  | .list ds, .int i, Q => match atI ds i with
    | some d => Q d
    | none => False
  | .tuple ds, .int i, Q => match atI ds i with
    | some d => Q d
    | none => False
  | .str z, .int i, Q => z.length ≤ sizeLine ∧ match atI z.cps.toList i with
    | some c => Q (.str ⟨#[c]⟩)
    | none => False
  | _, _, _ => False
theorem RpAll.ati {H : Hp} {bn : List Addr} {ds : List PyData} {xs : List V} (h : RpAll H bn ds xs) {i : Int} {d : PyData} (e : atI ds i = some d) : ∃ x, atI xs i = some x ∧ Rp H bn d x := by
  unfold atI at e ⊢
  rw [h.len]
  cases e2 : ixN ds.length i with
  | none => rw [e2] at e; cases e
  | some j =>
    rw [e2] at e
    obtain ⟨x, h1, h2⟩ := h.at (show ds[j]? = some d from e)
    exact ⟨x, h1, h2⟩
theorem dop_ix {K : PySem.W.Frag} : DOp (rIx K) vIx := by
  intro bn H d1 d2 v1 v2 Q Qc nb p1 p2 q k
  unfold vIx at q
  split at q
  · obtain ⟨a, xs, rfl, t1, r1⟩ := p1.lst
    rw [p2.int]
    split at q
    · next d e =>
      obtain ⟨x, e1, p⟩ := r1.ati e
      exact .inl ⟨a, xs, _, x, rfl, rfl, sqL t1, e1, k d x H (.refl _) p q⟩
    · exact q.elim
  · obtain ⟨a, xs, rfl, t1, r1⟩ := p1.tup
    rw [p2.int]
    split at q
    · next d e =>
      obtain ⟨x, e1, p⟩ := r1.ati e
      exact .inr (.inl ⟨a, xs, _, x, rfl, rfl, .inl t1.rd, e1, k d x H (.refl _) p q⟩)
    · exact q.elim
  · rw [p1.str, p2.int]
    obtain ⟨hz, q⟩ := q
    split at q
    · next c e => exact .inr (.inr ⟨_, _, c, rfl, rfl, hz, e, k (.str _) _ H (.refl _) rfl q⟩)
    · exact q.elim
  · exact q.elim
theorem ae_ix {Ec : EC} {a b : Expr} {aa ab : AO} {pos : Pos} (ha : PE X a (cO Ec aa)) (hb : PE X b (cO Ec ab)) (hs : PlainIx b) : PE X (.Subscript a b pos) (cE Ec (a2 vIx aa ab)) := (pe_ix ix_seq ha hb hs).sub fun _ _ _ => a2_ok dop_ix
/-- slices -/
abbrev APt := XP → AS → (Option Int → AS → Prop) → Prop
def cPt (Ec : EC) (a : APt) : TO := fun σ H Q => ∃ Φ E xp s Qa, Rel Φ E s σ H ∧ XSim Φ xp Ec ∧ a xp s Qa ∧ ∀ o E' s' H', Le E' E → Rel Φ E' s' σ H' → KB E H H' → Qa o s' → Q o H'
theorem _root_.L2.PO.sub {e : Option Expr} {t t' : TO} (h : PO X e t) (g : ∀ σ H Q, t' σ H Q → t σ H Q) : PO X e t' := ⟨fun pins s σ H Q I q => h.run pins s σ H Q I (g σ H Q q)⟩
def ptNone : APt := fun _ s Q => Q none s
def ptSome (a : AE) : APt := fun xp s Q => a xp s fun d s1 => match d with
  | .int i => Q (some i) s1
  | _ => False
theorem pt_none {Ec : EC} : PO X none (cPt Ec ptNone) := po_none.sub fun σ H Q ⟨Φ, E, xp, s, Qa, r, x, q, k⟩ => k none E s H (.refl _) r (.refl _ _) q
theorem pt_some {Ec : EC} {e : Expr} {a : AE} (h : PE X e (cE Ec a)) : PO X (some e) (cPt Ec (ptSome a)) := by
  refine (po_some h).sub fun σ H Q ⟨Φ, E, xp, s, Qa, r, x, q, k⟩ => ⟨Φ, E, xp, s, _, r, x, q, fun d E' s' v H' l r' kb p q' => ?_⟩
  split at q'
  · next i =>
    obtain rfl : v = .int i := p
    exact ⟨i, rfl, k _ E' s' H' l r' kb q'⟩
  · exact q'.elim
def cutD (xs : List PyData) (lo hi : Option Int) : List PyData := (xs.drop (HT.sIx xs.length 0 lo)).take (HT.sIx xs.length xs.length hi - HT.sIx xs.length 0 lo)
theorem RpAll.cut {H : Hp} {bn : List Addr} {ds : List PyData} {xs : List V} (h : RpAll H bn ds xs) (lo hi : Option Int) : RpAll H bn (cutD ds lo hi) (cutV xs lo hi) := by
  unfold cutD cutV
  rw [h.len]
  exact (h.drop _).take _
def vSl (d : PyData) (lo hi : Option Int) (Q : PyData → Prop) : Prop := match d with
  | .tuple ds => Q (.tuple (cutD ds lo hi))
  | .list ds => Q (.list (cutD ds lo hi))
  | _ => False
def aSl (ao : AO) (lo hi : APt) : AE := fun xp s Q => ao xp s fun o s1 => lo xp s1 fun l s2 => hi xp s2 fun h s3 => rs s3 o fun d => vSl d l h fun r => Q r s3
def rSlA (K : PySem.W.Frag) : V → Option Int → Option Int → Hp → VK → Prop := fun x lo hi H Q => (∃ a xs, x = .ref a ∧ TF H a xs ∧ ∀ p H', Same H H' → TF H' p (cutV xs lo hi) → Q (.ref p) H') ∨ rSlL K x lo hi H Q
theorem ae_sl {Ec : EC} {e : Expr} {lo hi : Option Expr} {ao : AO} {al ah : APt} {p2 pos : Pos} (he : PE X e (cO Ec ao)) (hl : PO X lo (cPt Ec al)) (hh : PO X hi (cPt Ec ah)) : PE X (.Subscript e (.Slice lo hi none p2) pos) (cE Ec (aSl ao al ah)) := by
  refine (pe_slice (r := rSlA X.K) (sl_tupN.or sl_list) he hl hh).sub fun σ H Q ⟨Φ, E, xp, s, Qa, r, x, q, k⟩ => ⟨Φ, E, xp, s, _, r, x, q, fun o E1 s1 v H1 l1 r1 k1 p1 q1 => ⟨Φ, E1, xp, s1, _, r1, x, q1, fun lo E2 s2 H2 l2 r2 k2 q2 => ⟨Φ, E2, xp, s2, _, r2, x, q2, fun hi E3 s3 H3 l3 r3 k3 q3 => ?_⟩⟩⟩
  obtain ⟨d, e, q3⟩ := rs_get q3
  have p3 := r3.res ((p1.kb r1.lst k2 l2).kb r2.lst k3 l3) e
  have kk : KB E H H3 := (k1.trans l1 k2).trans (l2.trans l1) k3
  have ll := l3.trans (l2.trans l1)
  unfold vSl at q3
  split at q3
  · obtain ⟨a, xs, rfl, t, ra⟩ := p3.tup
    exact .inl ⟨a, xs, rfl, t, fun p H' m tf => k (.tuple _) E3 s3 _ H' ll (r3.same m) (kk.trans (Le.refl _) (KB.of_same m)) ⟨p, _, rfl, tf, (ra.cut _ _).same m⟩ q3⟩
  · obtain ⟨a, xs, rfl, t, ra⟩ := p3.lst
    refine .inr ⟨a, xs, rfl, sqL t, fun p hp => ?_⟩
    have m : Same H3 (upd H3 p (.lst (cutV xs lo hi))) := same_upd hp
    exact k (.list _) E3 s3 _ _ ll (r3.same m) (kk.trans (Le.refl _) (KB.of_same m)) (rp_newL r3.nb hp m upd_same (ra.cut _ _)) q3
  · exact q3.elim
/-- x[::-1] -/
def vRev : PyData → (PyData → Prop) → Prop
  | .tuple ds, Q => Q (.tuple ds.reverse)
  | _, _ => False
def aRev (ao : AO) : AE := fun xp s Q => ao xp s fun o s1 => rs s1 o fun d => vRev d fun r => Q r s1
theorem ae_rev {Ec : EC} {e : Expr} {ao : AO} {k : Nat} {p1 p2 p3 pos : Pos} (he : PE X e (cO Ec ao)) : PE X (.Subscript e (.Slice none none (some (.UnaryOp .USub (.Constant (.int 1) k p1) p2)) p3) pos) (cE Ec (aRev ao)) := by
  refine (pe_revT he).sub fun σ H Q ⟨Φ, E, xp, s, Qa, r, x, q, k⟩ => ⟨Φ, E, xp, s, _, r, x, q, fun o E1 s1 v H1 l1 r1 k1 p1 q1 => ?_⟩
  obtain ⟨d, e, q1⟩ := rs_get q1
  have p3 := r1.res p1 e
  unfold vRev at q1
  split at q1
  · obtain ⟨a, xs, rfl, t, ra⟩ := p3.tup
    refine ⟨a, xs, rfl, .inl t.rd, fun p o hp ho => ?_⟩
    have m : Same H1 (upd H1 p (.frz o (.tup xs.reverse))) := same_upd hp
    exact k (.tuple _) E1 s1 _ _ l1 (r1.same m) (k1.trans l1 (KB.of_same m)) ⟨p, _, rfl, TF.new ho, ra.rev.same m⟩ q1
  · exact q1.elim
end
end TR
namespace TR
open PySem PySem.Spec PyProof.Rows L2
def rsA (s : AS) : List Op → Option (List PyData)
  | [] => some []
  | o :: os => match res s o with
    | some d => (rsA s os).map (d :: ·)
    | none => none
def rsl (s : AS) : List Op → (List PyData → Prop) → Prop
  | [], k => k []
  | o :: os, k => rs s o fun d => rsl s os fun ds => k (d :: ds)
theorem rsl_get {s : AS} : ∀ {os : List Op} {k : List PyData → Prop}, rsl s os k → ∃ ds, rsA s os = some ds ∧ k ds
  | [], k, h => ⟨[], rfl, h⟩
  | o :: os, k, h => by
    obtain ⟨d, e1, h⟩ := rs_get (show rs s o (fun d => rsl s os fun ds => k (d :: ds)) from h)
    obtain ⟨ds, e, q⟩ := rsl_get h
    exact ⟨d :: ds, by unfold rsA; rw [e1, e]; rfl, q⟩
theorem rsA_rp {Φ : Fx} {E : OE} {s : AS} {σ : L2.St} {H : Hp} (r : Rel Φ E s σ H) : ∀ {os : List Op} {vs : List V} {ds : List PyData}, Paired (RpO Φ E σ H) os vs → rsA s os = some ds → Paired (RpX H (ban Φ E)) ds vs
  | [], _, _, .nil, e => by cases e; exact .nil
  | o :: os, _, _, .cons h t, e => by
    unfold rsA at e
    cases e1 : res s o with
    | none => rw [e1] at e; cases e
    | some d =>
      rw [e1] at e
      cases e2 : rsA s os with
      | none => rw [e2] at e; cases e
      | some ds =>
        rw [e2] at e; cases e
        exact .cons (r.res h e1) (rsA_rp r t e2)
def DCall (r : List V → Hp → VK → Prop) (f : List PyData → (PyData → Prop) → Prop) : Prop := ∀ (bn : List Addr) (H : Hp) (ds : List PyData) (vs : List V) (Q : PyData → Prop) (Qc : VK), NB H bn → Paired (RpX H bn) ds vs → f ds Q → (∀ d v H', Same H H' → Rp H' bn d v → Q d → Qc v H') → r vs H Qc
def aBlt (f : List PyData → (PyData → Prop) → Prop) (aa : AA) : AE := fun xp s Q => aa xp s fun os s1 => rsl s1 os fun ds => f ds fun d => Q d s1
section
variable {X : Cx} {Ec : EC}
theorem ae_blt {r : List V → Hp → VK → Prop} {f : List PyData → (PyData → Prop) → Prop} {aa : AA} {e : Expr} (hd : DCall r f) (h : PE X e (tCB r (cA Ec aa))) : PE X e (cE Ec (aBlt f aa)) := by
  refine h.sub fun σ H Q ⟨Φ, E, xp, s, Qa, r0, x, q, k⟩ => ⟨Φ, E, xp, s, _, r0, x, q, fun os E1 s1 vs H1 l1 r1 k1 p1 q1 => ?_⟩
  obtain ⟨ds, e, q1⟩ := rsl_get q1
  exact hd (ban Φ E1) H1 ds vs _ Q r1.nb (rsA_rp r1 p1 e) q1 fun d v H2 m rp q2 => k d E1 s1 v H2 l1 (r1.same m) (k1.trans l1 (KB.of_same m)) rp q2
/-- a new list -/
def DCallF (r : List V → Hp → VK → Prop) (f : List PyData → (PyData → Prop) → Prop) : Prop := ∀ (bn : List Addr) (H : Hp) (ds : List PyData) (vs : List V) (Q : PyData → Prop) (Qc : VK), NB H bn → Paired (RpX H bn) ds vs → f ds Q → (∀ es xs p H', H p = none → Same H H' → H' p = some (.lst xs) → RpAll H bn es xs → Q (.list es) → Qc (.ref p) H') → r vs H Qc
theorem af_blt (i : Nat) {r : List V → Hp → VK → Prop} {f : List PyData → (PyData → Prop) → Prop} {aa : AA} {e : Expr} (hd : DCallF r f) (h : PE X e (tCB r (cA Ec aa))) : PE X e (cF i Ec (aBlt f aa)) := by
  refine h.sub fun σ H Q ⟨Φ, E, xp, s, Qa, r0, x, q, k⟩ => ⟨Φ, E, xp, s, _, r0, x, q, fun os E1 s1 vs H1 l1 r1 k1 p1 q1 => ?_⟩
  obtain ⟨ds, e, q1⟩ := rsl_get q1
  refine hd (ban Φ E1) H1 ds vs _ Q r1.nb (rsA_rp r1 p1 e) q1 fun es xs p H2 hp m ep ra q2 => k es E1 s1 p xs H2 l1 (r1.same m) (r1.add i hp m ep) (k1.trans l1 (KB.of_same m)) ep (RpAll.same (RpAll.fresh (fun a ha => ?_) ra) m) (r1.newban hp) q2
  rcases mem_ban_add ha with h | h
  · rw [h]; exact .inr hp
  · exact .inl h
/-! ### len, tuple, list, sum, all -/
def fLen : List PyData → (PyData → Prop) → Prop
  | [.list ds], Q => Q (.int (ds.length : Nat))
  | [.tuple ds], Q => Q (.int (ds.length : Nat))
  | [.str x], Q => x.length ≤ sizeLine ∧ Q (.int (x.length : Nat))
  | _, _ => False
theorem dc_len {K : PySem.W.Frag} : DCall (fun xs H Q => ∃ x n, xs = [x] ∧ LenV K x H n ∧ Q (.int (n : Nat)) H) fLen := by
  intro bn H ds vs Q Qc nb p q k
  unfold fLen at q
  split at q
  · cases p with | cons p t => cases t; obtain ⟨a, xs, rfl, e, ra⟩ := p.lst; exact ⟨_, _, rfl, .inl ⟨xs, sqL e, ra.len.symm⟩, k (.int _) _ H (.refl _) rfl q⟩
  · cases p with | cons p t => cases t; obtain ⟨a, xs, rfl, e, ra⟩ := p.tup; exact ⟨_, _, rfl, .inr ⟨xs, .inl e.rd, ra.len.symm⟩, k (.int _) _ H (.refl _) rfl q⟩
  · cases p with | cons p t => cases t; rw [p.str]; exact ⟨_, _, rfl, ⟨q.1, rfl⟩, k (.int _) _ H (.refl _) rfl q.2⟩
  · exact q.elim
def fTuple : List PyData → (PyData → Prop) → Prop
  | [.list ds], Q => Q (.tuple ds)
  | _, _ => False
theorem dc_tuple {K : PySem.W.Frag} : DCall (fun xs H Q => ∃ p ys, xs = [.ref p] ∧ SqL K H p ys ∧ ∀ l o, H l = none → o.dict = none → Q (.ref l) (upd H l (.frz o (.tup ys)))) fTuple := by
  intro bn H ds vs Q Qc nb p q k
  unfold fTuple at q
  split at q
  · cases p with | cons p t => cases t; obtain ⟨a, xs, rfl, e, ra⟩ := p.lst; exact ⟨a, xs, rfl, sqL e, fun l o hl ho => k (.tuple _) _ _ (same_upd hl) ⟨l, xs, rfl, TF.new ho, ra.same (same_upd hl)⟩ q⟩
  · exact q.elim
def fList : List PyData → (PyData → Prop) → Prop
  | [.tuple ds], Q => Q (.list ds)
  | _, _ => False
theorem dc_list : DCallF (fun xs H Q => ∃ a ys, xs = [.ref a] ∧ Rd H a (.tup ys) ∧ ∀ p H', H p = none → p ≠ sysModules → Same H H' → H' p = some (.lst ys) → Q (.ref p) H') fList := by
  intro bn H ds vs Q Qc nb p q k
  unfold fList at q
  split at q
  · cases p with | cons p t => cases t; obtain ⟨a, xs, rfl, e, ra⟩ := p.tup; exact ⟨a, xs, rfl, e.rd, fun l H' hl _ m el => k _ xs l H' hl m el ra q⟩
  · exact q.elim
/-- all are ints -/
def intsOf : List PyData → Option (List Int)
  | [] => some []
  | .int i :: r => (intsOf r).map (i :: ·)
  | _ :: _ => none
def boolsOf : List PyData → Option (List Bool)
  | [] => some []
  | .bool i :: r => (boolsOf r).map (i :: ·)
  | _ :: _ => none
theorem intsOf_map : ∀ {ds : List PyData} {ns : List Int}, intsOf ds = some ns → ds = ns.map .int
  | [], _, e => by cases e; rfl
  | .int i :: r, _, e => by
    unfold intsOf at e
    cases e2 : intsOf r with
    | none => rw [e2] at e; cases e
    | some ns => rw [e2] at e; cases e; rw [intsOf_map e2]; rfl
  | .none :: _, _, e => by cases e
  | .bool _ :: _, _, e => by cases e
  | .str _ :: _, _, e => by cases e
  | .list _ :: _, _, e => by cases e
  | .tuple _ :: _, _, e => by cases e
  | .dict _ :: _, _, e => by cases e
theorem boolsOf_map : ∀ {ds : List PyData} {ns : List Bool}, boolsOf ds = some ns → ds = ns.map .bool
  | [], _, e => by cases e; rfl
  | .bool i :: r, _, e => by
    unfold boolsOf at e
    cases e2 : boolsOf r with
    | none => rw [e2] at e; cases e
    | some ns => rw [e2] at e; cases e; rw [boolsOf_map e2]; rfl
  | .none :: _, _, e => by cases e
  | .int _ :: _, _, e => by cases e
  | .str _ :: _, _, e => by cases e
  | .list _ :: _, _, e => by cases e
  | .tuple _ :: _, _, e => by cases e
  | .dict _ :: _, _, e => by cases e
theorem ints_of : ∀ ns : List Int, intsOf (ns.map .int) = some ns
  | [] => rfl
  | n :: r => by show (intsOf (r.map .int)).map (n :: ·) = _; rw [ints_of r]; rfl
theorem bools_of : ∀ ns : List Bool, boolsOf (ns.map .bool) = some ns
  | [] => rfl
  | n :: r => by show (boolsOf (r.map .bool)).map (n :: ·) = _; rw [bools_of r]; rfl
theorem rpAll_ints {H : Hp} {bn : List Addr} : ∀ {ns : List Int} {xs : List V}, RpAll H bn (ns.map .int) xs → xs = ns.map V.int
  | [], _, h => h
  | n :: r, _, h => by
    obtain ⟨v, t, rfl, h1, h2⟩ := h
    rw [show v = .int n from h1, rpAll_ints h2]; rfl
theorem rpAll_bools {H : Hp} {bn : List Addr} : ∀ {ns : List Bool} {xs : List V}, RpAll H bn (ns.map .bool) xs → xs = ns.map V.bl
  | [], _, h => h
  | n :: r, _, h => by
    obtain ⟨v, t, rfl, h1, h2⟩ := h
    rw [show v = .bl n from h1, rpAll_bools h2]; rfl
def fSum : List PyData → (PyData → Prop) → Prop
  | [.list ds], Q => match intsOf ds with
    | some ns => Q (.int ns.sum)
    | none => False
  | _, _ => False
theorem dc_sum {K : PySem.W.Frag} : DCall (rSum K) fSum := by
  intro bn H ds vs Q Qc nb p q k
  unfold fSum at q
  split at q
  · split at q
    · next ns e =>
      cases p with
      | cons p t =>
        cases t
        obtain ⟨a, xs, rfl, ea, ra⟩ := p.lst
        rw [intsOf_map e] at ra
        rw [rpAll_ints ra] at ea
        exact ⟨a, ns, rfl, sqL ea, k (.int _) _ H (.refl _) rfl q⟩
    · exact q.elim
  · exact q.elim
def fAll : List PyData → (PyData → Prop) → Prop
  | [.list ds], Q => match boolsOf ds with
    | some ns => Q (.bool (ns.all id))
    | none => False
  | _, _ => False
theorem dc_all {K : PySem.W.Frag} : DCall (rAll K) fAll := by
  intro bn H ds vs Q Qc nb p q k
  unfold fAll at q
  split at q
  · split at q
    · next ns e =>
      cases p with
      | cons p t =>
        cases t
        obtain ⟨a, xs, rfl, ea, ra⟩ := p.lst
        rw [boolsOf_map e] at ra
        rw [rpAll_bools ra] at ea
        exact ⟨a, ns, rfl, sqL ea, k (.bool _) _ H (.refl _) rfl q⟩
    · exact q.elim
  · exact q.elim
/-! ### isinstance -/
def isiD (T : String) (d : PyData) : Option Bool := kitB (tyD d) T
def aIsi (T : String) (ao : AO) : AE := fun xp s Q => ao xp s fun o s1 => rs s1 o fun d => match isiD T d with
  | some b => Q (.bool b) s1
  | none => False
theorem tyRpX {K : PySem.W.Frag} {H : Hp} {bn : List Addr} {d : PyData} {v : V} (h : RpX H bn d v) : TyX K H v (.type (tyD d)) := by
  rcases h with h | ⟨a, ds, xs, rfl, rfl, h1, _⟩
  · exact tyRp h
  · exact .base (.lst h1)
theorem ae_isi {T : String} {e t : Expr} {ao : AO} {p pos : Pos} (hg : Gl X "isinstance") (hm : X.mg "isinstance" = none) (he : PE X e (cO Ec ao)) (ht : PE X t (tC (.ty T))) (hs : starEach [e, t] X.env = (false, eval e X.env) :: starEach [t] X.env := by rfl) (hs2 : starEach [t] X.env = (false, eval t X.env) :: starEach [] X.env := by rfl) (hpl : (backTo pos (starEach [t] X.env)).any (·.1) = false := by rfl) :
    PE X (.Call (.Name "isinstance" p) [e, t] [] pos) (cE Ec (aIsi T ao)) := by
  refine (pe_callB call_isi hg hm (by decide +kernel) (pa_cons he (pa_cons ht pa_nil hs2) hs) (by decide) (by decide) hs hpl).sub fun σ H Q ⟨Φ, E, xp, s, Qa, r, x, q, k⟩ => ⟨Φ, E, xp, s, _, r, x, q, fun o E1 s1 v H1 l1 r1 k1 p1 q1 => ?_⟩
  obtain ⟨d, e, q1⟩ := rs_get q1
  split at q1
  · next b hb =>
    exact ⟨v, .ty T, _, _, b, rfl, .ty T, tyRpX (r1.res p1 e), kit_ty hb, k (.bool b) E1 s1 _ H1 l1 r1 k1 rfl q1⟩
  · exact q1.elim
end
end TR
namespace TR
open PySem PySem.Spec PyProof.Rows L2
section
variable {X : Cx} {Ec : EC}
/-! ### a < b < c -/
def a3 (f g : PyData → PyData → (PyData → Prop) → Prop) (aa ab ac : AO) : AE := fun xp s Q => aa xp s fun o1 s1 => ab xp s1 fun o2 s2 => rs s2 o1 fun d1 => rs s2 o2 fun d2 => f d1 d2 fun z => aB z fun k => if k = true then ac xp s2 fun o3 s3 => rs s3 o2 fun e2 => rs s3 o3 fun e3 => g e2 e3 fun r => Q r s3 else Q (.bool false) s2
theorem a3_ok {r r' : R2} {f g : PyData → PyData → (PyData → Prop) → Prop} (hf : DOp r f) (hg : DOp r' g) {aa ab ac : AO} {σ : L2.St} {H : Hp} {Q : VK} (h : cE Ec (a3 f g aa ab ac) σ H Q) : tChain r r' (cO Ec aa) (cO Ec ab) (cO Ec ac) σ H Q := by
  obtain ⟨Φ, E, xp, s, Qa, r0, x0, q, k⟩ := h
  refine ⟨Φ, E, xp, s, _, r0, x0, q, fun o1 E1 s1 v1 H1 l1 r1 k1 p1 q1 => ⟨Φ, E1, xp, s1, _, r1, x0, q1, fun o2 E2 s2 v2 H2 l2 r2 k2 p2 q2 => ?_⟩⟩
  obtain ⟨d1, e1, q2⟩ := rs_get q2
  obtain ⟨d2, e2, q2⟩ := rs_get q2
  refine hf (ban Φ E2) H2 d1 d2 v1 v2 _ _ r2.nb (r2.res (p1.kb r1.lst k2 l2) e1) (r2.res p2 e2) q2 fun d v H3 m rp q3 => ?_
  obtain ⟨b, rfl, q3⟩ := aB_get q3 rp
  have kk : KB E H H3 := (k1.trans l1 k2).trans (Le.refl _) (KB.of_same m)
  refine ⟨b, rfl, ?_⟩
  cases b with
  | false => exact iteF (k (.bool false) E2 s2 _ H3 (l2.trans l1) (r2.same m) kk rfl (unF q3))
  | true =>
    refine iteT ⟨Φ, E2, xp, s2, _, r2.same m, x0, unT q3, fun o3 E4 s4 v4 H4 l4 r4 k4 p4 q4 => ?_⟩
    obtain ⟨e2', f2, q4⟩ := rs_get q4
    obtain ⟨e3, f3, q4⟩ := rs_get q4
    have p2' : RpO Φ E2 σ H3 o2 v2 := p2.kb r2.lst (KB.of_same m) (Le.refl _)
    refine hg (ban Φ E4) H4 e2' e3 v2 v4 _ Q r4.nb (r4.res (p2'.kb (r2.same m).lst k4 l4) f2) (r4.res p4 f3) q4 fun d v H5 m5 rp5 q5 => ?_
    exact k d E4 s4 v H5 (l4.trans (l2.trans l1)) (r4.same m5) ((kk.trans (l2.trans l1) k4).trans (Le.refl _) (KB.of_same m5)) rp5 q5
theorem ae_chain {op op' : CmpOp} {r r' : R2} {f g : PyData → PyData → (PyData → Prop) → Prop} {a b c : Expr} {aa ab ac : AO} {pos : Pos} (hf : DOp r f) (hg : DOp r' g) (ho : OpR X (compareOp op) r) (ho' : OpR X (compareOp op') r') (ha : PE X a (cO Ec aa)) (hb : PE X b (cO Ec ab)) (hc : PE X c (cO Ec ac)) (hm : lastMarks [op, op'] [b, c] = false := by with_unfolding_all rfl) : PE X (.Compare a [op, op'] [b, c] pos) (cE Ec (a3 f g aa ab ac)) := (pe_chain ho ho' ha hb hc hm).sub fun _ _ _ h => a3_ok hf hg h
theorem at_chain {op op' : CmpOp} {r r' : R2} {f g : PyData → PyData → (PyData → Prop) → Prop} {a b c : Expr} {aa ab ac : AO} {pos : Pos} (hf : DOp r f) (hg : DOp r' g) (ho : OpR X (compareOp op) r) (ho' : OpR X (compareOp op') r') (ha : PE X a (cO Ec aa)) (hb : PE X b (cO Ec ab)) (hc : PE X c (cO Ec ac)) (hm : lastMarks [op, op'] [b, c] = false := by with_unfolding_all rfl) : PT X (.Compare a [op, op'] [b, c] pos) (cT Ec (tV (a3 f g aa ab ac))) := by
  refine (pt_chain ho ho' ha hb hc hm).sub fun σ H Q ⟨Φ, E, xp, s, Qa, r0, x0, q, k⟩ => ?_
  refine a3_ok hf hg (Q := fun x H' => ∃ k, x = .bl k ∧ Q k H') ⟨Φ, E, xp, s, _, r0, x0, q, fun d E' s' v H' l r' kb rp q' => ?_⟩
  cases d with
  | bool b =>
    obtain rfl : v = .bl b := rp
    exact ⟨b, rfl, k b E' s' H' l r' kb q'⟩
  | none => exact q'.elim
  | int _ => exact q'.elim
  | str _ => exact q'.elim
  | list _ => exact q'.elim
  | tuple _ => exact q'.elim
  | dict _ => exact q'.elim
/-! ### the truth of a value -/
def truD : PyData → Option Bool
  | .none => some false
  | .bool b => some b
  | .int i => some (i != 0)
  | .list ds => some (!ds.isEmpty)
  | .tuple ds => some (!ds.isEmpty)
  | _ => none
def tTruA (ao : AO) : AT := fun xp s Q => ao xp s fun o s1 => rs s1 o fun d => match truD d with
  | some b => Q b s1
  | none => False
theorem emp_len {ds : List PyData} {xs : List V} (h : xs.length = ds.length) : (!ds.isEmpty) = !xs.isEmpty := by
  cases ds <;> cases xs <;> first | rfl | (simp at h)
theorem at_tru {a : Expr} {ao : AO} (ha : PE X a (cO Ec ao)) (he : ∀ whole, isTrue a X.env whole = (do let v ← whole; standAt a.pos; holding [v] (truthy v)) := by intro _; rfl) : PT X a (cT Ec (tTruA ao)) := by
  refine (pt_truth ha he).sub fun σ H Q ⟨Φ, E, xp, s, Qa, r, x, q, k⟩ => ⟨Φ, E, xp, s, _, r, x, q, fun o E1 s1 v H1 l1 r1 k1 p1 q1 => ?_⟩
  obtain ⟨d, e, q1⟩ := rs_get q1
  have p := r1.res p1 e
  unfold truD at q1
  split at q1
  · next b hb =>
    refine ⟨b, ?_, k b E1 s1 H1 l1 r1 k1 q1⟩
    split at hb
    · cases hb; rw [p.non]; rfl
    · cases hb; rw [p.bool]; rfl
    · cases hb; rw [p.int]; rfl
    · cases hb
      obtain ⟨a, xs, rfl, ea, ra⟩ := p.lst
      exact .inl ⟨xs, sqL ea, emp_len ra.len⟩
    · cases hb
      obtain ⟨a, xs, rfl, ea, ra⟩ := p.tup
      exact .inr (.inl ⟨xs, .inl ea.rd, emp_len ra.len⟩)
    · cases hb
  · exact q1.elim
/-! ### a list that is built -/
theorem Rel.mut {Φ : Fx} {E : OE} {s : AS} {σ : L2.St} {H : Hp} (r : Rel Φ E s σ H) {i : Nat} {a : Addr} {xs ys : List V} {es : List PyData} (hi : i < s.sl.length) (hσ : σ[i]? = some (some (.ref a))) (m : (i, a) ∈ E.R) (e : H a = some (.lst xs)) (ra : RpAll H (ban Φ E) es ys) : Rel Φ E (s.set i (.own es)) σ (upd H a (.lst ys)) ∧ KB E H (upd H a (.lst ys)) := by
  have ac : a ∈ chg E := List.mem_append_right _ (List.mem_map.mpr ⟨_, m, rfl⟩)
  have ab : a ∈ ban Φ E := List.mem_append_left _ ac
  obtain ⟨_, g1, g2, g3⟩ := r.own i a m
  have up : ∀ {b : Addr} {o : HO}, b ≠ a → H b = some o → upd H a (.lst ys) b = some o := fun h e => by rw [upd_ne h]; exact e
  have kb : KB E H (upd H a (.lst ys)) := fun b o h n => up (fun z => n (z ▸ ac)) h
  refine ⟨⟨by show (s.sl.set i _).length = _; rw [List.length_set]; exact r.len, fun j x hx => ?_, fun d p q h => ?_, fun j b h => ?_, r.inj, fun b o h1 h2 => up (fun z => ?_) (r.fr b o h1 h2), r.dk0, r.alive, fun x hx => Rp.updl ab e (r.held x hx), fun x hx => ?_, r.znd⟩, kb⟩
  · by_cases ej : i = j
    · subst ej
      have hx2 : (s.sl.set i (some (.own es)))[i]? = some (some x) := hx
      rw [List.getElem?_set_self hi] at hx2
      cases hx2
      exact ⟨_, hσ, a, ys, rfl, m, upd_same, RpAll.updl ab e ra⟩
    · have hx2 : (s.sl.set i (some (.own es)))[j]? = some (some x) := hx
      rw [List.getElem?_set_ne ej] at hx2
      obtain ⟨v, h1, h2⟩ := r.val j x hx2
      refine ⟨v, h1, ?_⟩
      cases x with
      | dat d => exact Rp.updl ab e (show Rp H (ban Φ E) d v from h2)
      | deck => exact h2
      | exc x =>
        obtain ⟨b, da, e1, e2, h3, h4⟩ := h2
        exact ⟨b, da, e1, e2, XRep.updl ab e h3, h4⟩
      | own _ =>
        obtain ⟨b, zs, e1, m1, h3, h4⟩ := h2
        exact ⟨b, zs, e1, m1, up (fun z => ej (r.inj i j a m (z ▸ m1))) h3, RpAll.updl ab e h4⟩
      | dct _ =>
        obtain ⟨b, ks, e1, m1, h3, h4⟩ := h2
        exact ⟨b, ks, e1, m1, up (fun z => ej (r.inj i j a m (z ▸ m1))) h3, h4.mono fun _ _ h => Rp.updl ab e h⟩
      | bor _ =>
        rcases h2 with h2 | ⟨b, ds, zs, e1, e2, h3, h5, h6⟩
        · exact .inl (Rp.updl ab e h2)
        · exact .inr ⟨b, ds, zs, e1, e2, up (fun z => g1 (z ▸ h5)) h3, h5, RpAll.updl ab e h6⟩
  · obtain ⟨h1, h2⟩ := r.dk d p q h
    rw [h] at g2
    simp only [dkl, List.mem_cons, List.not_mem_nil, or_false, not_or] at g2
    exact ⟨h1.updl' g2.1 g2.2.1 g2.2.2, h2⟩
  · by_cases z : b = a
    · subst z
      exact ⟨⟨_, upd_same, trivial⟩, (r.own j b h).2⟩
    · obtain ⟨⟨zs, h1, mu⟩, h2⟩ := r.own j b h
      exact ⟨⟨zs, up z h1, mu⟩, h2⟩
  · rw [z, g3] at h1; cases h1
  · obtain ⟨z1, z2, z3⟩ := r.zz x hx
    exact ⟨up (fun z => z2 (z ▸ ac)) z1, z2, z3⟩
/-- x.m(e, ..), x a list that is built here -/
def DMut (r : V → List V → Hp → VK → Prop) (f : List PyData → List PyData → (PyData → List PyData → Prop) → Prop) : Prop := ∀ (bn : List Addr) (H : Hp) (a : Addr) (xs vs : List V) (ds es : List PyData) (Q : PyData → List PyData → Prop) (Qc : VK), H a = some (.lst xs) → RpAll H bn ds xs → RpAll H bn es vs → f ds es Q →
  (∀ d v ds' ys, Rp H bn d v → RpAll H bn ds' ys → Q d ds' → Qc v (upd H a (.lst ys))) → r (.ref a) vs H Qc
def aMut (f : List PyData → List PyData → (PyData → List PyData → Prop) → Prop) (i : Nat) (aa : AA) : AE := fun xp s Q => match s.sl[i]? with
  | some (some (.own _)) => aa xp s fun os s1 => rv os fun es => (match s1.sl[i]? with
    | some (some (.own ds)) => f ds es fun d ds' => Q d (s1.set i (.own ds'))
    | _ => False)
  | _ => False
theorem mut_ok {r : V → List V → Hp → VK → Prop} {f : List PyData → List PyData → (PyData → List PyData → Prop) → Prop} (hf : DMut r f) {i : Nat} {aa : AA} {σ : L2.St} {H : Hp} {Q : VK} (h : cE Ec (aMut f i aa) σ H Q) : ∃ a xs, σ[i]? = some (some (.ref a)) ∧ H a = some (.lst xs) ∧ cA Ec aa σ H fun vs H2 => r (.ref a) vs H2 Q := by
  obtain ⟨Φ, E, xp, s, Qa, r, x, q, k⟩ := h
  unfold aMut at q
  split at q
  · next ds0 h0 =>
    obtain ⟨v, hv, b0, ys0, e0, m0, f0, ra0⟩ := r.val i _ h0
    subst e0
    refine ⟨b0, ys0, hv, f0, Φ, E, xp, s, _, r, x, q, fun os E1 s1 vs H1 l1 r1 k1 p1 q1 => ?_⟩
    obtain ⟨es, e, q1⟩ := rv_get q1
    have ra := vals_rp p1 e
    split at q1
    · next ds1 h1 =>
      obtain ⟨v, hv1, b1, ys1, e1, m1, f1, ra1⟩ := r1.val i _ h1
      rw [hv] at hv1
      cases hv1
      cases e1
      refine hf (ban Φ E1) H1 b0 ys1 vs ds1 es _ Q f1 ra1 ra q1 fun d v ds' ys rp ry q2 => ?_
      obtain ⟨r2, k2⟩ := r1.mut (i := i) (List.getElem?_eq_some_iff.mp h1).1 hv m1 f1 ry
      exact k d E1 _ v _ l1 r2 (k1.trans l1 k2) (Rp.updl (List.mem_append_left _ (List.mem_append_right _ (List.mem_map.mpr ⟨_, m1, rfl⟩))) f1 rp) q2
    · exact q1.elim
  · exact q.elim
theorem ae_mut {e : Expr} {i : Nat} {aa : AA} {r : V → List V → Hp → VK → Prop} {f : List PyData → List PyData → (PyData → List PyData → Prop) → Prop} (hf : DMut r f) (h : PE X e (tBM X.K "list" r (tVar i) (cA Ec aa))) : PE X e (cE Ec (aMut f i aa)) := by
  refine h.sub fun σ H Q h => ?_
  obtain ⟨a, xs, h1, h2, h3⟩ := mut_ok hf h
  exact ⟨.ref a, h1, .inl ⟨rfl, xs, sqL h2⟩, h3⟩
theorem ae_mut0 {e : Expr} {i : Nat} {r : V → List V → Hp → VK → Prop} {f : List PyData → List PyData → (PyData → List PyData → Prop) → Prop} (hf : DMut r f) (h : PE X e (tBM0 X.K "list" r (tVar i))) : PE X e (cE Ec (aMut f i lNil)) := by
  refine h.sub fun σ H Q h => ?_
  obtain ⟨a, xs, h1, h2, Φ, E, xp, s, Qa, r, x, q, k⟩ := mut_ok hf h
  exact ⟨.ref a, h1, .inl ⟨rfl, xs, sqL h2⟩, k [] E s [] H (.refl _) r (.refl _ _) .nil q⟩
def mApp : List PyData → List PyData → (PyData → List PyData → Prop) → Prop
  | ds, [d], Q => ds.length < sizeLine ∧ Q .none (ds ++ [d])
  | _, _, _ => False
theorem dm_app : DMut rAppend mApp := by
  intro bn H a xs vs ds es Q Qc e ra rv q k
  unfold mApp at q
  split at q
  · obtain ⟨v, t, rfl, p, rfl⟩ := rv
    exact ⟨a, xs, v, rfl, rfl, e, by rw [ra.len]; exact q.1, k .none _ _ _ rfl (RpAll.app (es := [_]) ra ⟨v, [], rfl, p, rfl⟩) q.2⟩
  · exact q.elim
def mExt : List PyData → List PyData → (PyData → List PyData → Prop) → Prop
  | ds, [.list es], Q => ds.length + es.length ≤ sizeLine ∧ Q .none (ds ++ es)
  | _, _, _ => False
theorem dm_ext : DMut rExtend mExt := by
  intro bn H a xs vs ds es Q Qc e ra rv q k
  unfold mExt at q
  split at q
  · obtain ⟨v, t, rfl, ⟨b, ys, rfl, eb, _, rb⟩, rfl⟩ := rv
    exact ⟨a, b, xs, ys, rfl, rfl, e, eb, by rw [ra.len, rb.len]; exact q.1, k .none _ _ _ rfl (RpAll.app ra rb) q.2⟩
  · exact q.elim
theorem RpAll.erase {H : Hp} {bn : List Addr} : ∀ {ds : List PyData} {xs : List V} (i : Nat), RpAll H bn ds xs → RpAll H bn (ds.eraseIdx i) (xs.eraseIdx i)
  | [], _, i, h => by rw [show _ = [] from h]; rfl
  | d :: ds, _, 0, h => by
    obtain ⟨v, r, rfl, _, h2⟩ := h
    exact h2
  | d :: ds, _, i + 1, h => by
    obtain ⟨v, r, rfl, h1, h2⟩ := h
    exact ⟨v, _, rfl, h1, RpAll.erase i h2⟩
def mPopAt : List PyData → List PyData → (PyData → List PyData → Prop) → Prop
  | ds, [.int i], Q => match ixN ds.length i with
    | some k => (match ds[k]? with
      | some d => Q d (ds.eraseIdx k)
      | none => False)
    | none => False
  | _, _, _ => False
theorem RpAll.sz {H : Hp} {bn : List Addr} {ds : List PyData} {xs : List V} (h : RpAll H bn ds xs) : xs.length = ds.length := h.len
theorem dm_popAt : DMut (fun x vs H Q => (∀ l xs, x = .ref l → H l = some (.lst xs) → xs.length < 2 ^ 62) → rPopAt x vs H Q) mPopAt := by
  intro bn H a xs vs ds es Q Qc e ra rv q k hz
  have hz := hz a xs rfl e
  unfold mPopAt at q
  split at q
  · next i =>
    obtain ⟨v, t, rfl, rfl, rfl⟩ := rv
    split at q
    · next j hj =>
      obtain ⟨h1, h2, h3, h4⟩ := ixN_seq hj
      split at q
      · next d hd =>
        obtain ⟨y, hy, py⟩ := ra.at hd
        rw [ra.len] at hz
        exact ⟨a, xs, i, j, y, rfl, rfl, e, by omega, by omega, by rw [ra.len]; exact h1, hy, k d y _ _ py (ra.erase j) q⟩
      · exact q.elim
    · exact q.elim
  · exact q.elim
theorem mt_popAtA : MtM X "list.pop" (fun x vs H Q => (∀ l xs, x = .ref l → H l = some (.lst xs) → xs.length < 2 ^ 62) → rPopAt x vs H Q) := by
  intro pins s σ H x vs v us Q I rx rv h
  refine mt_popAt pins s σ H x vs v us Q I rx rv (h fun l xs e eh => ?_)
  obtain ⟨z, _⟩ := I.lstM eh
  have : (sizeLine : Nat) < 2 ^ 62 := by rw [sizeLine_eq]; decide
  omega
def mPop : List PyData → List PyData → (PyData → List PyData → Prop) → Prop
  | ds, [], Q => match ds[ds.length - 1]? with
    | some d => Q d ds.dropLast
    | none => False
  | _, _, _ => False
theorem RpAll.dropL {H : Hp} {bn : List Addr} {ds : List PyData} {xs : List V} (h : RpAll H bn ds xs) : RpAll H bn ds.dropLast xs.dropLast := by
  rw [List.dropLast_eq_take, List.dropLast_eq_take, h.len]
  exact h.take _
theorem dm_pop : DMut rPop mPop := by
  intro bn H a xs vs ds es Q Qc e ra rv q k
  unfold mPop at q
  split at q
  · have rv' : vs = [] := rv
    subst rv'
    split at q
    · next d hd =>
      obtain ⟨y, hy, py⟩ := ra.at hd
      exact ⟨a, xs, y, rfl, rfl, e, by rw [ra.len]; exact hy, k d y _ _ py ra.dropL q⟩
    · exact q.elim
  · exact q.elim
/-! ### t.index(k) -/
def idxI (ns : List Int) (z : Int) : Option Nat := ns.findIdx? (· == z)
def vIdx : PyData → List PyData → (PyData → Prop) → Prop
  | .tuple ds, [.int z], Q => match intsOf ds with
    | some ns => (match ns.findIdx? (· == z) with
      | some j => Q (.int (j : Nat))
      | none => False)
    | none => False
  | _, _, _ => False
def aIdx (ao : AO) (aa : AA) : AE := fun xp s Q => ao xp s fun o s1 => (match o with
  | .val (.tuple _) => True
  | _ => False) ∧ aa xp s1 fun os s2 => rs s2 o fun d => rsl s2 os fun es => vIdx d es fun r => Q r s2
theorem ae_idx {e : Expr} {ao : AO} {aa : AA} (h : PE X e (tBMT (rTupIdx X.K) (cO Ec ao) (cA Ec aa))) : PE X e (cE Ec (aIdx ao aa)) := by
  refine h.sub fun σ H Q ⟨Φ, E, xp, s, Qa, r, x, q, k⟩ => ⟨Φ, E, xp, s, _, r, x, q, fun o E1 s1 v H1 l1 r1 k1 p1 q1 => ?_⟩
  obtain ⟨hv, q1⟩ := q1
  split at hv
  · next ds =>
    obtain ⟨a, xs, rfl, ⟨ob, hd, ha⟩, ra⟩ := (show Rp H1 (ban Φ E1) (.tuple ds) v from p1)
    refine ⟨⟨a, ob, xs, rfl, hd, ha⟩, Φ, E1, xp, s1, _, r1, x, q1, fun os E2 s2 vs H2 l2 r2 k2 p2 q2 => ?_⟩
    obtain ⟨d, e, q2⟩ := rs_get q2
    obtain ⟨es, e2, q2⟩ := rsl_get q2
    have p1' := r2.res (RpO.kb (o := .val (.tuple ds)) (v := .ref a) r1.lst k2 l2 p1) e
    have pe := rsA_rp r2 p2 e2
    unfold vIdx at q2
    split at q2
    · split at q2
      · next ns hns =>
        split at q2
        · next j hj =>
          obtain ⟨b, ys, eb, tb, rb⟩ := p1'.tup
          cases eb
          rw [intsOf_map hns] at rb
          cases pe with
          | cons pz t =>
            cases t
            obtain ⟨hjl, hjz, hjn⟩ := List.findIdx?_eq_some_iff_getElem.mp hj
            refine ⟨a, ns, _, j, rfl, by rw [pz.int], .inl (by rw [← rpAll_ints rb]; exact tb.rd), ?_, fun m hm hz => ?_, k (.int _) E2 s2 _ H2 (l2.trans l1) r2 (k1.trans l1 k2) rfl q2⟩
            · rw [List.getElem?_eq_getElem hjl, beq_iff_eq.mp hjz]
            · have hml : m < ns.length := by omega
              rw [List.getElem?_eq_getElem hml] at hz
              have := hjn m hm
              rw [Option.some.inj hz] at this
              simp at this
        · exact q2.elim
      · exact q2.elim
    · exact q2.elim
  · exact hv.elim
end
end TR
namespace TR
open PySem PySem.Spec PyProof.Rows L2
theorem u65 {A : Around} {k : Nat} (hr : Room k A) : A.units + 65 < cLine := by
  have := hr.un
  omega
theorem u64 {A : Around} {k : Nat} (hr : Room k A) : A.units + 64 < cLine := by
  have := hr.un
  omega
section
variable {X : Cx} {Ec : EC}
/-! ### -x -/
def aNeg (ao : AO) : AE := fun xp s Q => ao xp s fun o s1 => rs s1 o fun d => match d with
  | .int i => Q (.int (-i)) s1
  | _ => False
theorem ae_neg {e : Expr} {ao : AO} {pos : Pos} (h : PE X e (cO Ec ao)) : PE X (.UnaryOp .USub e pos) (cE Ec (aNeg ao)) := by
  refine (pe_un un_neg h).sub fun σ H Q ⟨Φ, E, xp, s, Qa, r, x, q, k⟩ => ⟨Φ, E, xp, s, _, r, x, q, fun o E1 s1 v H1 l1 r1 k1 p1 q1 => ?_⟩
  obtain ⟨d, e, q1⟩ := rs_get q1
  split at q1
  · next i =>
    rw [(r1.res p1 e).int]
    exact ⟨i, rfl, k (.int _) E1 s1 _ H1 l1 r1 k1 rfl q1⟩
  · exact q1.elim
/-! ### op= -/
def vAddI := vII (fun _ _ => True) fun i j => .int (i + j)
def vSubI := vII (fun _ _ => True) fun i j => .int (i - j)
def vDivI := vII CDiv fun i j => .int (i / j)
theorem dop_i0 {g : Int → Int → Int} : DOp (rI0 fun i j => .int (g i j)) (vII (fun _ _ => True) fun i j => .int (g i j)) := by
  intro bn H d1 d2 v1 v2 Q Qc nb p1 p2 q k
  unfold vII at q
  split at q
  · rw [p1.int, p2.int]; exact ⟨_, _, rfl, rfl, k (.int _) _ H (.refl _) rfl q.2⟩
  · exact q.elim
theorem dop_iadd : DOp (rI0 fun i j => .int (i + j)) vAddI := dop_i0
theorem dop_isub : DOp (rI0 fun i j => .int (i - j)) vSubI := dop_i0
theorem dop_idiv : DOp (rI CDiv fun i j => .int (i / j)) vDivI := dop_ii
/-! ### lists joined: a new list -/
def vCatL : PyData → PyData → (PyData → Prop) → Prop
  | .list xs, .list ys, Q => xs.length + ys.length ≤ sizeLine ∧ Q (.list (xs ++ ys))
  | _, _, _ => False
theorem af_cat (i : Nat) {a b : Expr} {aa ab : AO} {pos : Pos} (ha : PE X a (cO Ec aa)) (hb : PE X b (cO Ec ab)) : PE X (.BinOp a .Add b pos) (cF i Ec (a2 vCatL aa ab)) := by
  refine (pe_op op_catN ha hb).sub fun σ H Q ⟨Φ, E, xp, s, Qa, r0, x0, q, k⟩ => ⟨Φ, E, xp, s, _, r0, x0, q, fun o1 E1 s1 v1 H1 l1 r1 k1 p1 q1 => ⟨Φ, E1, xp, s1, _, r1, x0, q1, fun o2 E2 s2 v2 H2 l2 r2 k2 p2 q2 => ?_⟩⟩
  obtain ⟨d1, e1, q2⟩ := rs_get q2
  obtain ⟨d2, e2, q2⟩ := rs_get q2
  have g1 := r2.res (p1.kb r1.lst k2 l2) e1
  have g2 := r2.res p2 e2
  unfold vCatL at q2
  split at q2
  · obtain ⟨a, xs, rfl, t1, w1⟩ := g1.lst
    obtain ⟨b, ys, rfl, t2, w2⟩ := g2.lst
    refine ⟨a, b, xs, ys, rfl, rfl, t1, t2, by rw [w1.len, w2.len]; exact q2.1, fun p H3 hp m e => k _ E2 s2 p _ H3 (l2.trans l1) (r2.same m) (r2.add i hp m e) ((k1.trans l1 k2).trans (Le.refl _) (KB.of_same m)) e (RpAll.same (RpAll.fresh (fun a ha => ?_) (w1.app w2)) m) (r2.newban hp) q2.2⟩
    rcases mem_ban_add ha with h | h
    · rw [h]; exact .inr hp
    · exact .inl h
  · exact q2.elim
/-! ### list(range(..)), tuple(range(..)) -/
abbrev ARg := XP → AS → (Int → Int → AS → Prop) → Prop
def cRg (Ec : EC) (a : ARg) : L2.St → Hp → (Int → Int → Hp → Prop) → Prop := fun σ H Q => ∃ Φ E xp s Qa, Rel Φ E s σ H ∧ XSim Φ xp Ec ∧ a xp s Qa ∧ ∀ i j E' s' H', Le E' E → Rel Φ E' s' σ H' → KB E H H' → Qa i j s' → Q i j H'
def rg1 (a : AE) : ARg := fun xp s Q => a xp s fun d s1 => match d with
  | .int j => Q 0 j s1
  | _ => False
def rg2 (a b : AE) : ARg := fun xp s Q => a xp s fun d s1 => b xp s1 fun e s2 => match d, e with
  | .int i, .int j => Q i j s2
  | _, _ => False
theorem rg1_ok {a : AE} {σ : L2.St} {H : Hp} {Q : Int → Int → Hp → Prop} (h : cRg Ec (rg1 a) σ H Q) : tRg1 (cE Ec a) σ H Q := by
  obtain ⟨Φ, E, xp, s, Qa, r, x, q, k⟩ := h
  refine ⟨Φ, E, xp, s, _, r, x, q, fun d E1 s1 v H1 l1 r1 k1 p1 q1 => ?_⟩
  split at q1
  · next j =>
    obtain rfl : v = .int j := p1
    exact ⟨j, rfl, k 0 j E1 s1 H1 l1 r1 k1 q1⟩
  · exact q1.elim
theorem rg2_ok {a b : AE} {σ : L2.St} {H : Hp} {Q : Int → Int → Hp → Prop} (h : cRg Ec (rg2 a b) σ H Q) : tRg2 (cE Ec a) (cE Ec b) σ H Q := by
  obtain ⟨Φ, E, xp, s, Qa, r, x, q, k⟩ := h
  refine ⟨Φ, E, xp, s, _, r, x, q, fun d E1 s1 v H1 l1 r1 k1 p1 q1 => ⟨Φ, E1, xp, s1, _, r1, x, q1, fun e E2 s2 u H2 l2 r2 k2 p2 q2 => ?_⟩⟩
  split at q2
  · next i j =>
    obtain rfl : v = .int i := p1
    obtain rfl : u = .int j := p2
    exact ⟨i, j, rfl, rfl, k i j E2 s2 H2 (l2.trans l1) r2 (k1.trans l1 k2) q2⟩
  · exact q2.elim
def aTupRg (a : ARg) : AE := fun xp s Q => a xp s fun i j s1 => RgOk i j ∧ Q (.tuple (rngD i (j - i).toNat)) s1
def aListRg (a : ARg) : AE := fun xp s Q => a xp s fun i j s1 => RgOk i j ∧ Q (.list (rngD i (j - i).toNat)) s1
theorem rp_rng {H : Hp} {bn : List Addr} (i j : Int) : RpAll H bn (rngD i (j - i).toNat) (rgV i j) := by
  unfold rngD rgV
  generalize List.range (j - i).toNat = l
  induction l with
  | nil => rfl
  | cons x l ih => exact ⟨_, _, rfl, rfl, ih⟩
theorem ae_tupRg1 {e : Expr} {a : AE} {p pos : Pos} (hc : X.calm = true) (hg : Gl X "tuple") (hm : X.mg "tuple" = none) (he : PRg X e (tRg1 (cE Ec a))) (na : starEach [e] X.env = (false, eval e X.env) :: starEach [] X.env := by rfl) : PE X (.Call (.Name "tuple" p) [e] [] pos) (cE Ec (aTupRg (rg1 a))) := by
  refine (pe_tupRgN hc hg hm he na).sub fun σ H Q ⟨Φ, E, xp, s, Qa, r, x, q, k⟩ => rg1_ok ⟨Φ, E, xp, s, _, r, x, q, fun i j E1 s1 H1 l1 r1 k1 q1 => ⟨q1.1, fun p H' hp m tf => ?_⟩⟩
  exact k (.tuple _) E1 s1 _ H' l1 (r1.same m) (k1.trans l1 (KB.of_same m)) ⟨p, _, rfl, tf, rp_rng _ _⟩ q1.2
theorem ae_tupRg2 {e : Expr} {a b : AE} {p pos : Pos} (hc : X.calm = true) (hg : Gl X "tuple") (hm : X.mg "tuple" = none) (he : PRg X e (tRg2 (cE Ec a) (cE Ec b))) (na : starEach [e] X.env = (false, eval e X.env) :: starEach [] X.env := by rfl) : PE X (.Call (.Name "tuple" p) [e] [] pos) (cE Ec (aTupRg (rg2 a b))) := by
  refine (pe_tupRgN hc hg hm he na).sub fun σ H Q ⟨Φ, E, xp, s, Qa, r, x, q, k⟩ => rg2_ok ⟨Φ, E, xp, s, _, r, x, q, fun i j E1 s1 H1 l1 r1 k1 q1 => ⟨q1.1, fun p H' hp m tf => ?_⟩⟩
  exact k (.tuple _) E1 s1 _ H' l1 (r1.same m) (k1.trans l1 (KB.of_same m)) ⟨p, _, rfl, tf, rp_rng _ _⟩ q1.2
theorem listRg_ok {i : Nat} {a : ARg} {σ : L2.St} {H : Hp} {Q : VK} (h : cF i Ec (aListRg a) σ H Q) : cRg Ec a σ H fun i j H1 => RgOk i j ∧ ∀ q, H1 q = none → Q (.ref q) (upd H1 q (.lst (rgV i j))) := by
  obtain ⟨Φ, E, xp, s, Qa, r, x, q, k⟩ := h
  refine ⟨Φ, E, xp, s, _, r, x, q, fun i j E1 s1 H1 l1 r1 k1 q1 => ⟨q1.1, fun p hp => ?_⟩⟩
  have m : Same H1 (upd H1 p (.lst (rgV i j))) := same_upd hp
  exact k _ E1 s1 p _ _ l1 (r1.same m) (r1.add _ hp m upd_same) (k1.trans l1 (KB.of_same m)) upd_same (rp_rng _ _) (r1.newban hp) q1.2
theorem af_listRg1 (i : Nat) {e : Expr} {a : AE} {p pos : Pos} (hc : X.calm = true) (hg : Gl X "list") (hm : X.mg "list" = none) (he : PRg X e (tRg1 (cE Ec a))) (na : starEach [e] X.env = (false, eval e X.env) :: starEach [] X.env := by rfl) : PE X (.Call (.Name "list" p) [e] [] pos) (cF i Ec (aListRg (rg1 a))) := (pe_listRg hc hg hm he na).sub fun σ H Q h => rg1_ok (listRg_ok h)
theorem af_listRg2 (i : Nat) {e : Expr} {a b : AE} {p pos : Pos} (hc : X.calm = true) (hg : Gl X "list") (hm : X.mg "list" = none) (he : PRg X e (tRg2 (cE Ec a) (cE Ec b))) (na : starEach [e] X.env = (false, eval e X.env) :: starEach [] X.env := by rfl) : PE X (.Call (.Name "list" p) [e] [] pos) (cF i Ec (aListRg (rg2 a b))) := (pe_listRg hc hg hm he na).sub fun σ H Q h => rg2_ok (listRg_ok h)
/-! ### x = [.. for ..] on one line -/
theorem as_setLc {w : Bool} (i : Nat) {y : Str} {py : Pos} {elt tg iter : Expr} {ifs : List Expr} {scope : Scope} {own : List (Str × Nat)} {pos spos : Pos} {ai : AI} {sl : List Nat} {b : AB} {t : AT} {a : AE} (hy : X.N[i]? = some y) (hyl : X.env.scope.names.lookup y = some .local)
    (hsw : swapsWith (.ListComp elt [⟨tg, iter, ifs, 0⟩] scope pos) (some (.Name y py)) spos.line X.env = pure true) (hc : X.calm = true) (hN : X.N.Nodup) (hi : PI X tg iter (cI w Ec ai)) (ok : BlkOk X.N X.env.scope scope own)
    (hg : ∀ (s : Shared) (H : Hp) (C : Addr) (cl : List (Str × Addr)) (fp : List Addr), PG (X.blk s H scope (compEnvC scope cl C X.env) fp) tg (cG w sl b)) (ht : ∀ (s : Shared) (H : Hp) (C : Addr) (cl : List (Str × Addr)) (fp : List Addr), PTs (X.blk s H scope (compEnvC scope cl C X.env) fp) ifs (cT Ec.z t))
    (he : ∀ (s : Shared) (H : Hp) (C : Addr) (cl : List (Str × Addr)) (fp : List Addr), PE (X.blk s H scope (compEnvC scope cl C X.env) fp) elt (cE Ec.z a)) (hsl : ∀ i ∈ sl, i ∈ own.map (·.2) := by decide) (hs : ∀ x, foldedSetIterable iter X.env x = pure x := by intro _; rfl) :
    PS X (.Assign [.Name y py] (.ListComp elt [⟨tg, iter, ifs, 0⟩] scope pos) spos) (cS Ec (sSet i (aLc ai b t a (own.map (·.2))))) := as_asgT (ps_setLc hc hN hy hyl hsw hi ok hg ht he hs) fun _ _ _ h => lc_ok (j := i) hsl (cF_E h)
theorem as_setLcO {w : Bool} (i : Nat) {y : Str} {py : Pos} {elt tg iter : Expr} {ifs : List Expr} {scope : Scope} {own : List (Str × Nat)} {pos spos : Pos} {ai : AI} {sl : List Nat} {b : AB} {t : AT} {a : AE} (hy : X.N[i]? = some y) (hyl : X.env.scope.names.lookup y = some .local)
    (hsw : swapsWith (.ListComp elt [⟨tg, iter, ifs, 0⟩] scope pos) (some (.Name y py)) spos.line X.env = pure true) (hc : X.calm = true) (hN : X.N.Nodup) (hi : PI X tg iter (cI w Ec ai)) (ok : BlkOk X.N X.env.scope scope own)
    (hg : ∀ (s : Shared) (H : Hp) (C : Addr) (cl : List (Str × Addr)) (fp : List Addr), PG (X.blk s H scope (compEnvC scope cl C X.env) fp) tg (cG w sl b)) (ht : ∀ (s : Shared) (H : Hp) (C : Addr) (cl : List (Str × Addr)) (fp : List Addr), PTs (X.blk s H scope (compEnvC scope cl C X.env) fp) ifs (cT Ec.z t))
    (he : ∀ (s : Shared) (H : Hp) (C : Addr) (cl : List (Str × Addr)) (fp : List Addr), PE (X.blk s H scope (compEnvC scope cl C X.env) fp) elt (cE Ec.z a)) (hsl : ∀ i ∈ sl, i ∈ own.map (·.2) := by decide) (hs : ∀ x, foldedSetIterable iter X.env x = pure x := by intro _; rfl) :
    PS X (.Assign [.Name y py] (.ListComp elt [⟨tg, iter, ifs, 0⟩] scope pos) spos) (cS Ec (sSetO i (aLc ai b t a (own.map (·.2))))) := as_asgO (ps_setLc hc hN hy hyl hsw hi ok hg ht he hs) fun _ _ _ h => lc_ok (j := i) hsl h
theorem as_setLc2 {w w1 : Bool} (i : Nat) {y : Str} {py : Pos} {elt tg iter tg1 iter1 : Expr} {ifs ifs1 : List Expr} {scope : Scope} {own : List (Str × Nat)} {vs1 : List Nat} {pos spos : Pos} {ai ai1 : AI} {sl sl1 : List Nat} {b b1 : AB} {t t1 : AT} {a : AE} (hy : X.N[i]? = some y) (hyl : X.env.scope.names.lookup y = some .local)
    (hsw : swapsWith (.ListComp elt [⟨tg, iter, ifs, 0⟩, ⟨tg1, iter1, ifs1, 0⟩] scope pos) (some (.Name y py)) spos.line X.env = pure true) (hc : X.calm = true) (hN : X.N.Nodup) (hi : PI X tg iter (cI w Ec ai)) (ok : BlkOk X.N X.env.scope scope own) (hv : ∀ i ∈ vs1, i ∈ own.map (·.2))
    (hg : ∀ (s : Shared) (H : Hp) (C : Addr) (cl : List (Str × Addr)) (fp : List Addr), PG (X.blk s H scope (compEnvC scope cl C X.env) fp) tg (cG w sl b)) (ht : ∀ (s : Shared) (H : Hp) (C : Addr) (cl : List (Str × Addr)) (fp : List Addr), PTs (X.blk s H scope (compEnvC scope cl C X.env) fp) ifs (cT Ec.z t))
    (hi1 : ∀ (s : Shared) (H : Hp) (C : Addr) (cl : List (Str × Addr)) (fp : List Addr), PI (X.blk s H scope (compEnvC scope cl C X.env) fp) tg1 iter1 (cI w1 Ec.z ai1))
    (hg1 : ∀ (s : Shared) (H : Hp) (C : Addr) (cl : List (Str × Addr)) (fp : List Addr), PG (X.blk s H scope (compEnvC scope cl C X.env) fp) tg1 (cG w1 sl1 b1)) (ht1 : ∀ (s : Shared) (H : Hp) (C : Addr) (cl : List (Str × Addr)) (fp : List Addr), PTs (X.blk s H scope (compEnvC scope cl C X.env) fp) ifs1 (cT Ec.z t1))
    (he : ∀ (s : Shared) (H : Hp) (C : Addr) (cl : List (Str × Addr)) (fp : List Addr), PE (X.blk s H scope (compEnvC scope cl C X.env) fp) elt (cE Ec.z a)) (hsl : ∀ i ∈ sl, i ∈ own.map (·.2) := by decide) (hsl1 : ∀ i ∈ sl1, i ∈ vs1 := by decide) (hs : ∀ x, foldedSetIterable iter X.env x = pure x := by intro _; rfl) (hs1 : ∀ env x, foldedSetIterable iter1 env x = pure x := by intro _ _; rfl) :
    PS X (.Assign [.Name y py] (.ListComp elt [⟨tg, iter, ifs, 0⟩, ⟨tg1, iter1, ifs1, 0⟩] scope pos) spos) (cS Ec (sSet i (aLc2 ai b t ai1 b1 t1 a (own.map (·.2)) vs1))) := as_asgT (ps_setLc2 hc hN hy hyl hsw hi ok hv hg ht hi1 hg1 ht1 he hs hs1) fun _ _ _ h => lc2_ok (j := i) hsl hsl1 (cF_E h)
/-! ### small calls -/
def fAbs : List PyData → (PyData → Prop) → Prop
  | [.int i], Q => Q (.int (if i < 0 then -i else i))
  | _, _ => False
theorem dc_abs : DCall (fun xs H Q => ∃ i, xs = [.int i] ∧ Q (.int (if i < 0 then -i else i)) H) fAbs := by
  intro bn H ds vs Q Qc nb p q k
  unfold fAbs at q
  split at q
  · cases p with | cons p t => cases t; rw [p.int]; exact ⟨_, rfl, k (.int _) _ H (.refl _) rfl q⟩
  · exact q.elim
def fMin2 : List PyData → (PyData → Prop) → Prop
  | [.int i, .int j], Q => Q (.int (if j < i then j else i))
  | _, _ => False
theorem dc_min2 : DCall (fun xs H Q => ∃ i j, xs = [.int i, .int j] ∧ Q (.int (if j < i then j else i)) H) fMin2 := by
  intro bn H ds vs Q Qc nb p q k
  unfold fMin2 at q
  split at q
  · cases p with | cons p t => cases t with | cons p2 t => cases t; rw [p.int, p2.int]; exact ⟨_, _, rfl, k (.int _) _ H (.refl _) rfl q⟩
  · exact q.elim
def fMax2 : List PyData → (PyData → Prop) → Prop
  | [.int i, .int j], Q => Q (.int (if j > i then j else i))
  | _, _ => False
theorem dc_max2 : DCall (fun xs H Q => ∃ i j, xs = [.int i, .int j] ∧ Q (.int (if j > i then j else i)) H) fMax2 := by
  intro bn H ds vs Q Qc nb p q k
  unfold fMax2 at q
  split at q
  · cases p with | cons p t => cases t with | cons p2 t => cases t; rw [p.int, p2.int]; exact ⟨_, _, rfl, k (.int _) _ H (.refl _) rfl q⟩
  · exact q.elim
def fInt : List PyData → (PyData → Prop) → Prop
  | [.int i], Q => Q (.int i)
  | [.bool b], Q => Q (.int (if b then 1 else 0))
  | _, _ => False
theorem dc_int : DCall (fun xs H Q => (∃ i, xs = [.int i] ∧ Q (.int i) H) ∨ ∃ k, xs = [.bl k] ∧ Q (.int (if k then 1 else 0)) H) fInt := by
  intro bn H ds vs Q Qc nb p q k
  unfold fInt at q
  split at q
  · cases p with | cons p t => cases t; rw [p.int]; exact .inl ⟨_, rfl, k (.int _) _ H (.refl _) rfl q⟩
  · cases p with | cons p t => cases t; rw [p.bool]; exact .inr ⟨_, rfl, k (.int _) _ H (.refl _) rfl q⟩
  · exact q.elim
end
end TR
namespace TR
open PySem PySem.Spec PyProof.Rows L2
section
variable {Φ : Fx} {E : OE} {s : AS} {σ : L2.St} {H : Hp}
/-- a new list that a slot is to hold, held for the while -/
theorem Rel.toZ {i : Nat} {l : Addr} {xs : List V} (r : Rel Φ E s σ H) (r2 : Rel Φ (E.add i l) s σ H) (e : H l = some (.lst xs)) (nb : l ∉ ban Φ E) : Rel (Φ.z l xs) E s σ H := by
  have hb : ∀ a ∈ ban (Φ.z l xs) E, a ∈ ban Φ (E.add i l) := fun a ha => by
    rcases ban_z ha with h | h
    · rw [h]; exact ban_add_self
    · exact ban_add h
  have ho := r2.own i l List.mem_cons_self
  refine ⟨r.len, fun j x h => ?_, r.dk, r.own, r.inj, r.fr, r.dk0, r.alive, fun x hx => (r2.held x hx).wk hb, fun x hx => ?_, ?_⟩
  · obtain ⟨v, h1, h2⟩ := r.val j x h
    obtain ⟨v', h1', h2'⟩ := r2.val j x h
    rw [h1] at h1'
    cases h1'
    refine ⟨v, h1, ?_⟩
    cases x with
    | dat d => exact Rp.wk hb (show Rp H (ban Φ (E.add i l)) d v from h2')
    | own ds =>
      obtain ⟨a, ys, e1, m, g1, g2⟩ := h2
      obtain ⟨b, zs, e2, m2, g3, g4⟩ := h2'
      rw [e1] at e2
      cases e2
      exact ⟨a, zs, e1, m, g3, g4.wk hb⟩
    | dct kvs =>
      obtain ⟨a, ks, e1, m, g1, g2⟩ := h2
      obtain ⟨b, ls, e2, m2, g3, g4⟩ := h2'
      rw [e1] at e2
      cases e2
      exact ⟨a, ls, e1, m, g3, g4.wk hb⟩
    | bor d =>
      rcases h2' with h2' | ⟨a, ds, ys, e1, e2, g1, g3, g4⟩
      · exact .inl (h2'.wk hb)
      · exact .inr ⟨a, ds, ys, e1, e2, g1, g3, g4.wk hb⟩
    | deck => exact h2
    | exc x =>
      obtain ⟨b, da, e1, e2, h3, h4⟩ := h2'
      exact ⟨b, da, e1, e2, h3.wk hb, h4⟩
  · rcases List.mem_cons.mp hx with h | h
    · subst h
      exact ⟨e, fun z => nb (List.mem_append_left _ z), ho.2.2.2⟩
    · exact r.zz x h
  · refine List.nodup_cons.mpr ⟨fun z => ?_, r.znd⟩
    exact nb (List.mem_append_right _ (List.mem_append_left _ z))
end
section
variable {X : Cx} {Ec : EC}
theorem XSim.z {Φ : Fx} {xp : XP} {D : Addr} {xs : List V} (x : XSim Φ xp Ec) : XSim (Φ.z D xs) xp Ec := ⟨x.1, fun y E s σ H da r xr h => x.2 y E s σ H da r.subZ (xr.wk fun _ h => z_ban h) h⟩
/-- a, b = new list, new list -/
def sParOO (i j : Nat) (a b : AE) : AST := fun xp D s => a xp s fun d s1 => b xp s1 fun e s2 => match d, e with
  | .list ds, .list es => (intsOf ds).isSome = true ∧ D.nx ((s2.set i (.own ds)).set j (.own es))
  | _, _ => False
theorem as_parOO {i j : Nat} {st : Stmt} {a b : AE} (hij : i ≠ j) (h : PS X st (tPar i j (tCons (cF i Ec a) (tCons (cF j Ec b) tNil)))) : PS X st (cS Ec (sParOO i j a b)) := by
  refine h.sub fun D σ H ⟨Φ, E, xp, s, Da, r, x, q, m⟩ => ⟨Φ, E, xp, s, _, r, x, q, fun ds E1 s1 l xs H1 l1 r1 r1' k1 e1 ra1 nb1 q1 => ?_⟩
  have rz := r1.toZ r1' e1 nb1
  refine ⟨Φ.z l xs, E1, xp, s1, _, rz, x.z, q1, fun es E2 s2 l' ys H2 l2 r2 r2' k2 e2 ra2 nb2 q2 => ?_⟩
  refine ⟨.ref l, .ref l', rfl, ?_⟩
  have e12 : H2 l = some (.lst xs) := (r2'.zz (l, .lst xs) List.mem_cons_self).1
  have ro := r2'.ownZ i
  obtain ⟨hi, q2⟩ := q2
  obtain ⟨ns, hns⟩ := Option.isSome_iff_exists.mp hi
  have ed := intsOf_map hns
  subst ed
  have ex := rpAll_ints ra1
  subst ex
  have rd : RpAll H2 (ban Φ ((E2.add j l').add i l)) (ns.map .int) (ns.map V.int) := RpAll.ints ns
  have hb : ∀ a ∈ ban Φ ((E2.add j l').add i l), a ∈ ban (Φ.z l (ns.map V.int)) (E2.add j l') := fun a ha => by
    rcases mem_ban_add ha with h | h
    · rw [h]; exact z_mem
    · exact z_ban h
  have s1 := ro.setX i (x := .own (ns.map .int)) (v := .ref l) ⟨l, _, rfl, List.mem_cons_self, e12, rd⟩
  have s2 := s1.setX j (x := .own es) (v := .ref l') ⟨l', ys, rfl, List.mem_cons_of_mem _ List.mem_cons_self, e2, ra2.wk hb⟩
  exact m.nx _ _ _ H2 s2 q2
/-- a, b = new list, value -/
def sParOV (i j : Nat) (a b : AE) : AST := fun xp D s => a xp s fun d s1 => b xp s1 fun e s2 => match d with
  | .list ds => (intsOf ds).isSome = true ∧ D.nx ((s2.set i (.own ds)).set j (.dat e))
  | _ => False
theorem as_parOV {i j : Nat} {st : Stmt} {a b : AE} (h : PS X st (tPar i j (tCons (cF i Ec a) (tCons (cE Ec b) tNil)))) : PS X st (cS Ec (sParOV i j a b)) := by
  refine h.sub fun D σ H ⟨Φ, E, xp, s, Da, r, x, q, m⟩ => ⟨Φ, E, xp, s, _, r, x, q, fun ds E1 s1 l xs H1 l1 r1 r1' k1 e1 ra1 nb1 q1 => ?_⟩
  have rz := r1.toZ r1' e1 nb1
  refine ⟨Φ.z l xs, E1, xp, s1, _, rz, x.z, q1, fun e E2 s2 v H2 l2 r2 k2 p2 q2 => ?_⟩
  refine ⟨.ref l, v, rfl, ?_⟩
  have e12 : H2 l = some (.lst xs) := (r2.zz (l, .lst xs) List.mem_cons_self).1
  have ro := r2.ownZ i
  obtain ⟨hi, q2⟩ := q2
  obtain ⟨ns, hns⟩ := Option.isSome_iff_exists.mp hi
  have ed := intsOf_map hns
  subst ed
  have ex := rpAll_ints ra1
  subst ex
  have hb : ∀ a ∈ ban Φ (E2.add i l), a ∈ ban (Φ.z l (ns.map V.int)) E2 := fun a ha => by
    rcases mem_ban_add ha with h | h
    · rw [h]; exact z_mem
    · exact z_ban h
  have s1 := ro.setX i (x := .own (ns.map .int)) (v := .ref l) ⟨l, _, rfl, List.mem_cons_self, e12, RpAll.ints ns⟩
  exact m.nx _ _ _ H2 (s1.setX j (x := .dat e) (v := v) (p2.wk hb)) q2
/-! ### {}, isinstance(x, (T, U)) -/
def aDict0 : AE := fun _ s Q => Q (.dict []) s
theorem ae_dict0 {pos : Pos} : PE X (.Dict [] [] pos) (cE Ec aDict0) := pe_dnewN.sub fun σ H Q ⟨Φ, E, xp, s, Qa, r, x, q, k⟩ => fun p H' hp m e => k (.dict []) E s _ H' (.refl _) (r.same m) (.of_same m) ⟨rfl, p, rfl, e, r.newban hp⟩ q
theorem kit_both {K : PySem.W.Frag} {t a b : String} {r1 r2 : Bool} (h1 : kitB t a = some r1) (h2 : kitB t b = some r2) : PySem.W.kitAny K (.type t) [Value.type a, Value.type b] = some (r1 || r2) := by
  unfold PySem.W.kitAny
  rw [kit_ty h1]
  cases r1 with
  | true => rfl
  | false =>
    show PySem.W.kitAny K (.type t) [Value.type b] = some r2
    unfold PySem.W.kitAny
    rw [kit_ty h2]
    cases r2 <;> rfl
def aIsi2 (T U : String) (ao : AO) : AE := fun xp s Q => ao xp s fun o s1 => rs s1 o fun d => match isiD T d, isiD U d with
  | some b, some c => Q (.bool (b || c)) s1
  | _, _ => False
theorem ae_isi2 {T U : String} {e t : Expr} {ao : AO} {p pos : Pos} (hg : Gl X "isinstance") (hm : X.mg "isinstance" = none) (he : PE X e (cO Ec ao)) (ht : PE X t (tTup (tCons (tC (.ty T)) (tCons (tC (.ty U)) tNil)))) (hs : starEach [e, t] X.env = (false, eval e X.env) :: starEach [t] X.env := by rfl) (hs2 : starEach [t] X.env = (false, eval t X.env) :: starEach [] X.env := by rfl) (hpl : (backTo pos (starEach [t] X.env)).any (·.1) = false := by rfl) :
    PE X (.Call (.Name "isinstance" p) [e, t] [] pos) (cE Ec (aIsi2 T U ao)) := by
  refine (pe_callB call_isiT hg hm (by decide +kernel) (pa_cons he (pa_cons ht pa_nil hs2) hs) (by decide) (by decide) hs hpl).sub fun σ H Q ⟨Φ, E, xp, s, Qa, r, x, q, k⟩ => ⟨Φ, E, xp, s, _, r, x, q, fun o E1 s1 v H1 l1 r1 k1 p1 q1 => ?_⟩
  obtain ⟨d, e, q1⟩ := rs_get q1
  split at q1
  · next b c hb hc =>
    refine ⟨by show 2 ≤ sizeLine; decide, fun tp htp => ?_⟩
    have m : Same H1 (upd H1 tp (.tup [.ty T, .ty U])) := same_upd htp
    exact ⟨v, tp, _, _, _, _, rfl, upd_same, .cons (.ty T) (.cons (.ty U) .nil), tyRpX ((r1.res p1 e).same m), kit_both hb hc, k (.bool _) E1 s1 _ _ l1 (r1.same m) (k1.trans l1 (KB.of_same m)) rfl q1⟩
  · exact q1.elim
end
end TR
namespace TR
open PySem PySem.Spec PyProof.Rows L2
theorem rs_val {s : AS} {d : PyData} {k : PyData → Prop} : rs s (.val d) k = k d := rfl
theorem rs_dat {s : AS} {i : Nat} {d : PyData} {k : PyData → Prop} (h : s.sl[i]? = some (some (.dat d))) : rs s (.slot i) k = k d := by
  simp only [rs, res, h]
theorem rs_own {s : AS} {i : Nat} {d : List PyData} {k : PyData → Prop} (h : s.sl[i]? = some (some (.own d))) : rs s (.slot i) k = k (.list d) := by
  simp only [rs, res, h]
theorem rs_bor {s : AS} {i : Nat} {d : PyData} {k : PyData → Prop} (h : s.sl[i]? = some (some (.bor d))) : rs s (.slot i) k = k d := by
  simp only [rs, res, h]
section
variable {Q : PyData → Prop} {a b : Int} {xs ys : List PyData}
theorem vAdd_i : vAdd (.int a) (.int b) Q = Q (.int (a + b)) := rfl
theorem vAdd_t : vAdd (.tuple xs) (.tuple ys) Q = (xs.length + ys.length ≤ sizeLine ∧ Q (.tuple (xs ++ ys))) := rfl
theorem vAdd_l : vAdd (.list xs) (.list ys) Q = (xs.length + ys.length ≤ sizeLine ∧ Q (.list (xs ++ ys))) := rfl
theorem vCatL_l : vCatL (.list xs) (.list ys) Q = (xs.length + ys.length ≤ sizeLine ∧ Q (.list (xs ++ ys))) := rfl
theorem vSub_i : vSub (.int a) (.int b) Q = Q (.int (a - b)) := rfl
theorem vMul_i : vMul (.int a) (.int b) Q = (CMul a b ∧ Q (.int (a * b))) := rfl
theorem vMod_i : vMod (.int a) (.int b) Q = (0 < b ∧ Q (.int (a % b))) := rfl
theorem vDiv_i : vDiv (.int a) (.int b) Q = (CDivW a b ∧ Q (.int (a / b))) := rfl
theorem vAddI_i : vAddI (.int a) (.int b) Q = (True ∧ Q (.int (a + b))) := rfl
theorem vSubI_i : vSubI (.int a) (.int b) Q = (True ∧ Q (.int (a - b))) := rfl
theorem vLt_i : vLt (.int a) (.int b) Q = Q (.bool (decide (a < b))) := rfl
theorem vLe_i : vLe (.int a) (.int b) Q = Q (.bool (decide (a ≤ b))) := rfl
theorem vGt_i : vGt (.int a) (.int b) Q = Q (.bool (decide (b < a))) := rfl
theorem vGe_i : vGe (.int a) (.int b) Q = Q (.bool (decide (b ≤ a))) := rfl
theorem vIx_t : vIx (.tuple xs) (.int a) Q = (match atI xs a with | some d => Q d | none => False) := rfl
theorem vIx_l : vIx (.list xs) (.int a) Q = (match atI xs a with | some d => Q d | none => False) := rfl
theorem fLen_l : fLen [.list xs] Q = Q (.int (xs.length : Nat)) := rfl
theorem fLen_t : fLen [.tuple xs] Q = Q (.int (xs.length : Nat)) := rfl
theorem fTuple_l : fTuple [.list xs] Q = Q (.tuple xs) := rfl
theorem fList_t : fList [.tuple xs] Q = Q (.list xs) := rfl
end
theorem mApp_1 {ds : List PyData} {d : PyData} {Q : PyData → List PyData → Prop} : mApp ds [d] Q = (ds.length < sizeLine ∧ Q .none (ds ++ [d])) := rfl
theorem mExt_1 {ds es : List PyData} {Q : PyData → List PyData → Prop} : mExt ds [.list es] Q = (ds.length + es.length ≤ sizeLine ∧ Q .none (ds ++ es)) := rfl
theorem at_0 {α : Type} {a : α} {l : List α} : atI (a :: l) 0 = some a := atI_nat (j := 0) rfl
theorem at_1 {α : Type} {a b : α} {l : List α} : atI (a :: b :: l) 1 = some b := atI_nat (j := 1) rfl
theorem at_2 {α : Type} {a b c : α} {l : List α} : atI (a :: b :: c :: l) 2 = some c := atI_nat (j := 2) rfl
/-- a comprehension that draws nothing -/
theorem lc_pure {α : Type} {it : AIt} {b : AB} {t : AT} {a : AE} {vs : List Nat} {Q : PyData → AS → Prop} {s : AS} (f g : α → PyData) (p : α → Bool) (hc : it.chk s) : ∀ (l : List α) (acc : List PyData), acc.length + l.length ≤ sizeLine →
    (∀ x ∈ l, ∀ (K : PyData → AS → Prop) (K0 : AS → Prop), (∀ s2, back vs s s2 = s → p x = true → K (g x) s2) → (∀ s2, back vs s s2 = s → p x = false → K0 s2) → b (f x) (s.wipe vs) fun s2 => t x0 s2 fun c s3 => if c = true then a x0 s3 K else K0 s3) →
    Q (.list (acc ++ (l.filter p).map g)) s → lcL it b t a vs Q (l.map f) acc s
  | [], acc, _, _, q => ⟨hc, by rw [List.filter_nil, List.map_nil, List.append_nil] at q; exact q⟩
  | x :: l, acc, hl, h, q => by
    rw [List.length_cons] at hl
    refine ⟨hc, h x List.mem_cons_self _ _ (fun s2 e hp => ⟨by omega, ?_⟩) (fun s2 e hp => ?_)⟩
    · rw [e]
      refine lc_pure f g p hc l _ (by rw [List.length_append]; simp only [List.length_cons, List.length_nil]; omega) (fun y hy => h y (List.mem_cons_of_mem _ hy)) ?_
      rw [List.filter_cons_of_pos hp, List.map_cons] at q
      rw [List.append_assoc]
      exact q
    · rw [e]
      refine lc_pure f g p hc l _ (by omega) (fun y hy => h y (List.mem_cons_of_mem _ hy)) ?_
      rw [List.filter_cons_of_neg (by rw [hp]; exact Bool.false_ne_true)] at q
      exact q
/-- with a test -/
theorem lc_filter {α : Type} {it : AIt} {b : AB} {t : AT} {a : AE} {vs : List Nat} {Q : PyData → AS → Prop} {s : AS} (f g : α → PyData) (p : α → Bool) (l : List α) (hl : l.length ≤ sizeLine)
    (h : ∀ x ∈ l, ∀ (K : PyData → AS → Prop) (K0 : AS → Prop), (∀ s2, back vs s s2 = s → p x = true → K (g x) s2) → (∀ s2, back vs s s2 = s → p x = false → K0 s2) → b (f x) (s.wipe vs) fun s2 => t x0 s2 fun c s3 => if c = true then a x0 s3 K else K0 s3)
    (q : Q (.list ((l.filter p).map g)) s) (hc : it.chk s := by exact True.intro) : lcL it b t a vs Q (l.map f) [] s := lc_pure f g p hc l [] (by simpa using hl) h q
/-- without a test -/
theorem lc_map {α : Type} {it : AIt} {b : AB} {a : AE} {vs : List Nat} {Q : PyData → AS → Prop} {s : AS} (f g : α → PyData) (l : List α) (hl : l.length ≤ sizeLine)
    (h : ∀ x ∈ l, ∀ (K : PyData → AS → Prop), (∀ s2, back vs s s2 = s → K (g x) s2) → b (f x) (s.wipe vs) fun s2 => a x0 s2 K) (q : Q (.list (l.map g)) s) (hc : it.chk s := by exact True.intro) : lcL it b tYesA a vs Q (l.map f) [] s := by
  refine lc_pure f g (fun _ => true) hc l [] (by simpa using hl) (fun x hx K K0 h1 _ => h x hx K fun s2 e => h1 s2 e rfl) ?_
  rw [List.filter_eq_self.mpr fun _ _ => rfl]
  exact q
/-- by an invariant -/
theorem lc_inv {α : Type} {it : AIt} {b : AB} {t : AT} {a : AE} {vs : List Nat} {Q : PyData → AS → Prop} (f : α → PyData) (I : List α → List PyData → AS → Prop)
    (h : ∀ x l acc s, I (x :: l) acc s → it.chk s ∧ b (f x) (s.wipe vs) fun s2 => t x0 s2 fun c s3 => if c = true then a x0 s3 fun y s4 => acc.length < sizeLine ∧ I l (acc ++ [y]) (back vs s s4) else I l acc (back vs s s3))
    (h0 : ∀ acc s, I [] acc s → it.chk s ∧ Q (.list acc) s)
    (mono : ∀ x l acc s (K K' : PyData → AS → Prop) (K0 K0' : AS → Prop), I (x :: l) acc s → (∀ d s2, K d s2 → K' d s2) → (∀ s2, K0 s2 → K0' s2) → (b (f x) (s.wipe vs) fun s2 => t x0 s2 fun c s3 => if c = true then a x0 s3 K else K0 s3) → b (f x) (s.wipe vs) fun s2 => t x0 s2 fun c s3 => if c = true then a x0 s3 K' else K0' s3) : ∀ (l : List α) (acc : List PyData) (s : AS), I l acc s → lcL it b t a vs Q (l.map f) acc s
  | [], acc, s, i => h0 acc s i
  | x :: l, acc, s, i => by
    obtain ⟨hc, hs⟩ := h x l acc s i
    exact ⟨hc, mono x l acc s _ _ _ _ i (fun d s2 k => ⟨k.1, lc_inv f I h h0 mono l _ _ k.2⟩) (fun s2 k => lc_inv f I h h0 mono l _ _ k) hs⟩
/-- for, by an invariant -/
theorem for_inv {α : Type} {b : AB} {body : AST} {xp : XP} {D : AEnds} (f : α → PyData) (I : List α → AS → Prop) (h : ∀ x l s, I (x :: l) s → ∀ N : AS → Prop, (∀ s', I l s' → N s') → b (f x) s fun s1 => body xp { D with nx := N, ct := N, bk := D.nx } s1)
    (h0 : ∀ s, I [] s → D.nx s) : ∀ (l : List α) (s : AS), I l s → forL b body xp D (l.map f) s
  | [], s, i => h0 s i
  | x :: l, s, i => h x l s i _ fun s' i' => for_inv f I h h0 l s' i'
/-- while, by an invariant and a measure -/
theorem while_inv {t : AT} {b : AST} {xp : XP} {D : AEnds} (I : Nat → AS → Prop) (h : ∀ k s, I k s → ∀ N : AS → Prop, (∀ j s', j < k → I j s' → N s') → t xp s fun c s1 => if c = true then b xp { D with nx := N, ct := N, bk := D.nx } s1 else D.nx s1) {k : Nat} {s : AS} (i : I k s) : sWhile t b xp D s := by
  have key : ∀ m j s, j ≤ m → I j s → whN t b xp D (m + 1) s := by
    intro m
    induction m with
    | zero =>
      intro j s hj i
      obtain rfl : j = 0 := by omega
      exact h 0 s i _ fun j' s' hj' _ => absurd hj' (by omega)
    | succ m ih =>
      intro j s hj i
      exact h j s i _ fun j' s' hj' i' => ih j' s' (by omega) i'
  exact ⟨k + 1, key k k s (Nat.le_refl _) i⟩
end TR
namespace TR
open PySem PySem.Spec PyProof.Rows L2
/-! ### own exceptions as values -/
/-- an exception of the class at C, its dict d, at a -/
def ExF (C : Addr) (d : Option Addr) (a : Addr) : HO := .ext fun h => ∃ (oe : Obj) (vs : Array Value), h.get? a = some oe ∧ Zc (.ref C) d oe ∧ oe.data = .fields vs
theorem exF_ok {P : Program} {w : World} {H : Hp} {h : Heap} {a C : Addr} {d : Option Addr} {oe : Obj} {vs : Array Value} (e : h.get? a = some oe) (z : Zc (.ref C) d oe) (hd : oe.data = .fields vs) : ObjOk P w H h a (ExF C d a) :=
  ⟨⟨oe, vs, e, z, hd⟩, ⟨oe, e⟩, fun _ _ ⟨o, v, q, r⟩ k => ⟨o, v, k o q, r⟩⟩
/-- what the making of an exception with one field leaves -/
structure Made (fn : Str) (h h' : Heap) (e C d : Addr) (v : Value) : Prop where
  keep : ∀ b o, h.get? b = some o → h'.get? b = some o
  new : h.objs.size ≤ e
  obj : ∃ oe vs, h'.get? e = some oe ∧ oe.cls = .ref C ∧ oe.dict = some d ∧ oe.data = .fields vs
  dbig : h.objs.size ≤ d
  dne : d ≠ e
  ns : h'.Ns1 d (fun y => if y = fn then some v else none)
/-- a class whose __init__ stores its one argument in the field fn -/
structure MkF (K : PySem.W.Frag) (mg : Str → Option Value) (cn fn : Str) (C : Addr) : Prop where
  gC : mg cn = some (.ref C)
  kC : PySem.W.keepIn K (.ref C) = true
  no : PySem.W.findIn K (.ref C) fn = some none
  made : ∀ (prog : Program) (w : World) (A : Around) (R : Result → Shared → Prop) (s : Shared) (v : Value), K.In s.heap → s.heap.NoLimit → A.depth + 1 < recursionLimit →
    (∀ h' tk e d, Made fn s.heap h' e C d v → R (.ok (.ret (.ref e))) { s with heap := h', toks := tk }) → codeAny (model prog w) A (.call (.ref C) ⟨[v], []⟩) R s
theorem relO_fld {v : V} {v' : Value} (r : RelV v v') (fn f : Str) : RelO (List.lookup f [(fn, v)]) (if f = fn then some v' else none) := by
  by_cases hw : f = fn
  · subst hw
    rw [if_pos rfl]
    have q : List.lookup f [(f, v)] = some v := by simp [List.lookup]
    rw [q]
    exact r
  · rw [if_neg hw]
    have qw : (f == fn) = false := by simpa using hw
    have q2 : List.lookup f [(fn, v)] = none := by simp [List.lookup, qw]
    rw [q2]
    trivial
section
variable {X : Cx}
/-- C(e) -/
def tMkF (C : Addr) (fn : Str) (ta : TA) : TE := fun σ H Q => ta σ H fun vs H1 => ∃ v, vs = [v] ∧ ∀ e d H', Same H1 H' → H' e = some (ExF C (some d) e) → H' d = some (.xd [(fn, v)]) → Q (.ref e) H'
theorem pe_mkF {cn fn : Str} {C : Addr} {a : Expr} {ta : TA} {p pos : Pos} {k : Nat} (T : MkF X.K X.mg cn fn C) (hr : Room k X.A) (ha : PA X [a] ta) (hg : Gl X cn := by rfl) (hdb : (cn == ("__debug__" : Str)) = false := by decide)
    (he : starEach (a :: []) X.env = (false, eval a X.env) :: starEach [] X.env := by rfl) (hpl : (backTo pos (starEach [] X.env)).any (·.1) = false := by rfl) :
    PE X (.Call (.Name cn p) [a] [] pos) (tMkF C fn ta) := by
  refine ⟨fun pins s σ H Q I h => ?_⟩
  refine wpAny_Call_Name_kw (ld_glob I hg T.gC ?_ hdb)
  refine PySem.W.callWith_K (h₀ := X.base) I.ok.mod.kin T.kC (thn (ha.run pos pins s σ H _ I h) fun us s1 hh => ?_) he hpl
  obtain ⟨vs, H1, I1, r1, v, ev, q1⟩ := hh
  subst ev
  refine ⟨I1.kIn, ?_⟩
  cases r1 with
  | cons rv rn =>
    rename_i v' us'
    cases rn
    show wpAny _ _ (call (.ref C) [v']) _ _ _
    have hlim := I1.nolimit
    obtain ⟨hp, g, dr, tk, os⟩ := s1
    refine wpAny_call (T.made _ _ _ _ _ _ I1.kIn hlim (by have := hr.dp; omega) fun h' tk' e d M => ?_)
    show EP X pins σ Q (.ref e) ⟨h', g, dr, tk', os⟩
    obtain ⟨oe, fv, hoe, hc, hd, hdat⟩ := M.obj
    have hns := M.ns
    obtain ⟨G', g1, g2⟩ := restrict h' fun b => decide (b ≠ e)
    have gk : ∀ b, b ≠ e → G'.get? b = h'.get? b := fun b hb => g1 b (decide_eq_true hb)
    have ge : G'.get? e = none := g2 e (by simp)
    have old : ∀ b o, hp.get? b = some o → G'.get? b = some o := fun b o q => (gk b (Nat.ne_of_lt (Nat.lt_of_lt_of_le (Heap.lt_size q) M.new))).trans (M.keep b o q)
    have ob : ObjOk X.prog X.w (upd H1 d (.xd [(fn, v)])) G' d (.xd [(fn, v)]) :=
      ⟨_, hns.at (fun o q => (gk d M.dne).trans q), fun f => relO_fld rv fn f⟩
    have J : Inv X pins σ (upd H1 d (.xd [(fn, v)])) ⟨G', g, dr, tk', os⟩ := I1.laid (t' := tk') old M.dbig ob
    have nd : H1 d = none := I1.hok.fresh M.dbig
    have ne : upd H1 d (.xd [(fn, v)]) e = none := by
      rw [upd_ne (Ne.symm M.dne)]
      exact I1.hok.fresh M.new
    have J2 : Inv X pins σ (upd (upd H1 d (.xd [(fn, v)])) e (ExF C (some d) e)) ⟨h', g, dr, tk', os⟩ := J.laidN (t' := tk') (fun b o q => by
      by_cases hb : b = e
      · have q' : G'.get? b = some o := q
        rw [hb, ge] at q'; cases q'
      · exact (gk b hb).symm.trans q) ge ne (exF_ok hoe ⟨hc, hd⟩ hdat)
    exact ⟨.ref e, _, J2, rfl, q1 e d _ ((same_upd nd).trans (same_upd ne)) upd_same (by rw [upd_ne M.dne]; exact upd_same)⟩
/-- C() -/
def tMk0 (C : Addr) : TE := fun _ H Q => ∀ e H', Same H H' → H' e = some (ExF C none e) → Q (.ref e) H'
theorem pe_mk0 {C : Addr} {bmB : List Value} {B newId initId : String} {x : Str} {p pos : Pos} (F : ExcBaseFacts B newId initId bmB) (q : PySem.W.excIn X.K C bmB newId = true) (gC : X.mg x = some (.ref C)) (kC : PySem.W.keepIn X.K (.ref C) = true) (hg : Gl X x) (hdb : (x == ("__debug__" : Str)) = false := by decide) :
    PE X (.Call (.Name x p) [] [] pos) (tMk0 C) := by
  refine ⟨fun pins s σ H Q I h => ?_⟩
  refine wpAny_Call_Name_kw (ld_glob I hg gC ?_ hdb)
  refine PySem.W.callWith_K0 I.kIn kC ?_
  show wpAny _ _ (call (.ref C) []) _ _ _
  obtain ⟨bm, N, nm, qn, bs, hdct, sn, sub, ab, col, dd, k0, k1, k2, k3, k5, mN, hC, hN, hni, T⟩ := exc_obj I.kIn q
  refine wpAny_call_exc_subT F T hC hN hni (fun h' a hm => ?_) (Nat.zero_le _)
  have hn : H a = none := I.hok.gone hm.new
  obtain ⟨t, ht, _, _⟩ := hm.there
  exact ⟨.ref a, upd H a (ExF C none a), I.laidN hm.keeps hm.new hn (exF_ok ht ⟨rfl, rfl⟩ rfl), rfl, h a _ (same_upd hn) upd_same⟩
/-- where an exception's dict stands -/
def XdAt (H : Hp) : Option Addr → Prop
  | none => True
  | some dd => ∃ fs, H dd = some (.xd fs)
theorem XdAt.same {H H' : Hp} (s : Same H H') : ∀ {d : Option Addr}, XdAt H d → XdAt H' d
  | none, _ => trivial
  | some _, ⟨fs, h⟩ => ⟨fs, s _ _ h⟩
theorem exF_inst {pins : List (Addr × Obj)} {σ : L2.St} {H : Hp} {s : Shared} {a C : Addr} {d : Option Addr} (I : Inv X pins σ H s) (h : H a = some (ExF C d a)) (hd : XdAt H d) : ∃ oe od, PySem.W.InstAt s.heap a oe C od ∧ (d = none → od = none) ∧ (∀ dd, d = some dd → od.isSome = true) := by
  obtain ⟨⟨oe, vs, hget, hz, hv⟩, _⟩ := (show ObjOk X.prog X.w H s.heap a (ExF C d a) from I.hok a _ h)
  cases d with
  | none => exact ⟨oe, none, ⟨hget, hz.1, by unfold PySem.W.notCls; rw [hv] <;> rfl, by rw [hz.2]; trivial⟩, fun _ => rfl, fun _ z => by cases z⟩
  | some dd =>
    obtain ⟨fs, hx⟩ := hd
    obtain ⟨mA, hns, _⟩ := (show ObjOk X.prog X.w H s.heap dd (.xd fs) from I.hok dd _ hx)
    obtain ⟨od, ho, _⟩ := lookIn_ns hns
    exact ⟨oe, some od, ⟨hget, hz.1, by unfold PySem.W.notCls; rw [hv] <;> rfl, by rw [hz.2]; exact ho⟩, (fun z => by cases z), fun _ _ => rfl⟩
/-- isinstance(e, c), e an exception held as a value -/
def rIsF (K : PySem.W.Frag) : List V → Hp → VK → Prop := fun xs H Q => ∃ (a C : Addr) (d : Option Addr) (c : V) (cv : Value) (b : Bool), xs = [.ref a, c] ∧ H a = some (ExF C d a) ∧ XdAt H d ∧ ExcC K C ∧ ClsV c cv ∧ PySem.W.kitOne K (.ref C) cv = some b ∧ Q (.bl b) H
theorem call_isF : CallR X (.builtin "isinstance") (rIsF X.K) := by
  intro pins s σ H xs us Q I r ⟨a, D, d, c, cv, b, ex, ha, hd, C, hc, e, q⟩
  subst ex
  cases r with
  | cons rx rr =>
    cases rr with
    | cons rt rr =>
      cases rr; cases rx
      have ec := hc.eq rt
      subst ec
      obtain ⟨oe, od, J, h0, h1⟩ := exF_inst I ha hd
      cases d with
      | none =>
        cases h0 rfl
        exact PySem.W.kia_one (PySem.W.handS_kitx_exc C.hg C.hk C.hs C.hd C.ha C.hn C.ht C.hm) I.kIn J e (fun z => nomatch z) fun tk => ⟨.bl b, H, I.kept (t' := tk) fun _ _ z => z, rfl, q⟩
      | some dd =>
        obtain ⟨od', rfl⟩ := Option.isSome_iff_exists.mp (h1 dd rfl)
        obtain ⟨cd, hcd, _⟩ := PySem.W.any_some C.hd
        exact PySem.W.kia_one (PySem.W.kitx_exc (by rw [hcd]; rfl) C.hg C.hk C.hs C.ha C.hn C.ht C.hm) I.kIn J e (fun z => nomatch z) fun tk => ⟨.bl b, H, I.kept (t' := tk) fun _ _ z => z, rfl, q⟩
/-- e.f, e an exception held as a value -/
def tFldF (K : PySem.W.Frag) (n : Str) (te : TE) : TE := fun σ H Q => te σ H fun x H1 => ∃ (a C dd : Addr) (v : V), x = .ref a ∧ H1 a = some (ExF C (some dd) a) ∧ H1 dd = some (.xd [(n, v)]) ∧ ExcC K C ∧ PySem.W.findIn K (.ref C) n = some none ∧ Q v H1
theorem pe_fldF {e : Expr} {te : TE} {pos : Pos} {n : Str} (he : PE X e te) (hb : attributeBase e n X.env (eval e X.env) = eval e X.env := by rfl) : PE X (.Attribute e n pos) (tFldF X.K n te) := by
  refine ⟨fun pins s σ H Q I h => ?_⟩
  refine attr_of hb (thn (he.run pins s σ H _ I h) fun u s1 hh => ?_)
  obtain ⟨x, H1, I1, rx, a, C, dd, v, ex, ha, hx, T, no, q⟩ := hh
  subst ex
  obtain rfl : u = Value.ref a := rx
  obtain ⟨⟨oe, vs, hget, hz, hv⟩, _⟩ := (show ObjOk X.prog X.w H1 s1.heap a (ExF C (some dd) a) from I1.hok a _ ha)
  obtain ⟨mA, hns, hr⟩ := (show ObjOk X.prog X.w H1 s1.heap dd (.xd [(n, v)]) from I1.hok dd _ hx)
  obtain ⟨od, ho, hl⟩ := lookIn_ns hns
  have l : List.lookup n [(n, v)] = some v := by simp [List.lookup]
  obtain ⟨u, hu, ru⟩ := RelO.some_of (v := v) (o := mA n) (by rw [← l]; exact hr n)
  have J : PySem.W.InstAt s1.heap a oe C (some od) := ⟨hget, hz.1, by unfold PySem.W.notCls; rw [hv] <;> rfl, by rw [hz.2]; exact ho⟩
  exact HandSPX.exc_get I1.kIn J T.hg T.hk T.hs (PySem.W.findObj_own T.hd no rfl (by rw [hl, hu])) (handed_of ru) ⟨v, H1, I1.tok _, ru, q⟩
end
end TR
namespace TR
open PySem PySem.Spec PyProof.Rows L2
/-! ### a def that is handed the exception which the caller's suite holds -/
abbrev SpE := Value → Option Addr → Addr → Sp
structure FnE (P : Program) (w : World) (K : PySem.W.Frag) (mg : Str → Option Value) (base : Heap) (k : Nat) (f : Addr) (fd : FuncData) (ps : List Str) (sp : SpE) : Prop where
  len : ∀ c d a vs H Q E, sp c d a vs H Q E → vs.length = ps.length
  run : ∀ (A : Around) (l : List Env) (s : Shared) (H : Hp) (args : Args) (us : List Value) (vs : List V) (Q : VK) (p : Addr × Obj) (cls : Value) (d : Option Addr), L2H.RoomH k A → L2H.PinOk l H s p → Zc cls d p.2 → (∃ v, p.2.data = .fields v) →
    Env0 P w K mg base A l s H → BindsTo s fd args (ps.zip us) → Vals vs us → sp cls d p.1 vs H Q E0 → codeAny (model P w) A (.call (.ref f) args) (CR CX0 l P w H s Q E0) s
section
variable {P : Program} {w : World} {K : PySem.W.Frag} {mg : Str → Option Value} {base : Heap}
theorem okE {x q : Str} {st : Stmt} {f : Addr} {fd : FuncData} {N ps : List Str} {k : Nat} {sp : SpE} (F : Fun K x q st f fd) (S : FnScope N ps (defScope st)) (len : ∀ c d a vs H Q E, sp c d a vs H Q E → vs.length = ps.length)
    (body : ∀ (cdv : Value) (A : Around) (l : List Env) (s : Shared) (H : Hp) (vs : List V) (Q : VK) (p : Addr × Obj) (cls : Value) (d : Option Addr), L2H.RoomH k (A.deeper (envOfC q (defScope st) s.heap.objs.size f cdv)) → Zc cls d p.2 → (∃ v, p.2.data = .fields v) → sp cls d p.1 vs H Q E0 →
      ∃ t, PSs (L2H.cxH CX0 P w K mg base N q (defScope st) f cdv A l s H E0 p) (defBody st) t ∧ t { nx := fun _ H' => Q .non H', rt := Q } (L2.start N vs) H) : FnE P w K mg base (k + 1) f fd ps sp := by
  obtain ⟨oc, od, kV, doc, pm, an, cdv, ct, osl, rfl, lk, hcd⟩ := F.ex
  refine ⟨len, fun A l s H args us vs Q p cls d room pin hz hf en bt r hs => ?_⟩
  have n := len _ _ _ _ _ _ _ hs
  have kin : K.In s.heap := en.mod.kin.keeps fun b o e => (en.bs b o e).1
  have nol : s.heap.NoLimit := en.mod.nolimit.keeps fun b o e => (en.bs b o e).1
  have kinds : ∀ y ∈ ps.zip us, (defScope st).names.lookup y.1 = some .local ∨ ((defScope st).names.lookup y.1 = some .cell ∧ ((cellsFrom (s.heap.objs.size + 1) (defScope st).names []).lookup y.1).isSome = true) := by
    rintro ⟨y, v⟩ hy
    cases S.par y (List.of_mem_zip hy).1 with
    | inl z => exact .inl z
    | inr z => exact .inr ⟨z, PySem.W.cellsFrom_some _ _ _ (.inl z)⟩
  refine codeAny_call_function room.depth (kin _ _ lk) rfl S.co S.gen rfl (PySem.W.codeRec_of kin hcd) (bt _ _ _ _ ?_)
  refine wpAny_newFunctionEnv_cells S.kind kinds fun env eq s1 ic => ?_
  subst eq
  refine ⟨nol.keeps ic.toInCall.keep, codeAny_func ?_⟩
  obtain ⟨t, ht, hq⟩ := body cdv A l s H vs Q p cls d (room.deeper _) hz hf hs
  have J : Inv (L2H.cxH CX0 P w K mg base N q (defScope st) f cdv A l s H E0 p) [] (L2.start N vs) H s1 := L2H.inv_startH S pin en n r ic
  refine wpAny_mono (ht.run [] s1 _ H _ J hq) (fun fl s2 h2 => ?_) fun e s2 h2 => h2
  cases fl with
  | ret u =>
    obtain ⟨v, σ', H', I, rv, z⟩ := h2
    exact ⟨v, H', I.os, I.bare, I.base, I.hok, rv, z⟩
  | next =>
    obtain ⟨σ', H', I, z⟩ := h2
    exact ⟨V.non, H', I.os, I.bare, I.base, I.hok, rfl, z⟩
  | brk => exact h2.elim fun _ h => h.elim fun _ h => h.2.elim
  | cont => exact h2.elim fun _ h => h.elim fun _ h => h.2.elim
end
/-! ### in the body of such a def, and in the suite -/
section
variable {X : Cx}
theorem pin_inst {pins : List (Addr × Obj)} {σ : L2.St} {H : Hp} {s : Shared} {p : Addr × Obj} {C : Addr} {d : Option Addr} (I : Inv X pins σ H s) (hp : p ∈ X.pn) (hz : Zc (.ref C) d p.2) (hf : ∃ vs, p.2.data = .fields vs) (hd : XdAt H d) :
    ∃ od, PySem.W.InstAt s.heap p.1 p.2 C od ∧ (d = none → od = none) ∧ (∀ dd, d = some dd → od.isSome = true) := by
  obtain ⟨g, _⟩ := I.pin p (List.mem_append_left _ hp)
  obtain ⟨vs, hv⟩ := hf
  cases d with
  | none => exact ⟨none, ⟨g, hz.1, by unfold PySem.W.notCls; rw [hv] <;> rfl, by rw [hz.2]; trivial⟩, fun _ => rfl, fun _ z => by cases z⟩
  | some dd =>
    obtain ⟨fs, hx⟩ := hd
    obtain ⟨mA, hns, _⟩ := (show ObjOk X.prog X.w H s.heap dd (.xd fs) from I.hok dd _ hx)
    obtain ⟨od, ho, _⟩ := lookIn_ns hns
    exact ⟨some od, ⟨g, hz.1, by unfold PySem.W.notCls; rw [hv] <;> rfl, by rw [hz.2]; exact ho⟩, (fun z => by cases z), fun _ _ => rfl⟩
/-- isinstance(e, c), e the exception that is pinned -/
def rIsP (K : PySem.W.Frag) (p : Addr × Obj) : List V → Hp → VK → Prop := fun xs H Q => ∃ (C : Addr) (d : Option Addr) (c : V) (cv : Value) (b : Bool), xs = [.ref p.1, c] ∧ Zc (.ref C) d p.2 ∧ (∃ vs, p.2.data = .fields vs) ∧ XdAt H d ∧ ExcC K C ∧ ClsV c cv ∧ PySem.W.kitOne K (.ref C) cv = some b ∧ Q (.bl b) H
theorem call_isP {p : Addr × Obj} (hp : p ∈ X.pn) : CallR X (.builtin "isinstance") (rIsP X.K p) := by
  intro pins s σ H xs us Q I r ⟨D, d, c, cv, b, ex, hz, hf, hd, C, hc, e, q⟩
  subst ex
  cases r with
  | cons rx rr =>
    cases rr with
    | cons rt rr =>
      cases rr; cases rx
      have ec := hc.eq rt
      subst ec
      obtain ⟨od, J, h0, h1⟩ := pin_inst I hp hz hf hd
      cases d with
      | none =>
        cases h0 rfl
        exact PySem.W.kia_one (PySem.W.handS_kitx_exc C.hg C.hk C.hs C.hd C.ha C.hn C.ht C.hm) I.kIn J e (fun z => nomatch z) fun tk => ⟨.bl b, H, I.kept (t' := tk) fun _ _ z => z, rfl, q⟩
      | some dd =>
        obtain ⟨od', rfl⟩ := Option.isSome_iff_exists.mp (h1 dd rfl)
        obtain ⟨cd, hcd, _⟩ := PySem.W.any_some C.hd
        exact PySem.W.kia_one (PySem.W.kitx_exc (by rw [hcd]; rfl) C.hg C.hk C.hs C.ha C.hn C.ht C.hm) I.kIn J e (fun z => nomatch z) fun tk => ⟨.bl b, H, I.kept (t' := tk) fun _ _ z => z, rfl, q⟩
/-- isinstance(e, (c, ..)), e the exception that is pinned -/
def rIsPT (K : PySem.W.Frag) (p : Addr × Obj) : List V → Hp → VK → Prop := fun xs H Q => ∃ (C : Addr) (d : Option Addr) (tp : Addr) (cs : List V) (us : List Value) (b : Bool), xs = [.ref p.1, .ref tp] ∧ Zc (.ref C) d p.2 ∧ (∃ vs, p.2.data = .fields vs) ∧ XdAt H d ∧ ExcC K C ∧ H tp = some (.tup cs) ∧ Paired ClsV cs us ∧ PySem.W.kitAny K (.ref C) us = some b ∧ Q (.bl b) H
theorem call_isPT {p : Addr × Obj} (hp : p ∈ X.pn) : CallR X (.builtin "isinstance") (rIsPT X.K p) := by
  intro pins s σ H xs us Q I r ⟨D, d, tp, cs, vs, b, ex, hz, hf, hd, C, htp, hpr, e, q⟩
  subst ex
  cases r with
  | cons rx rr =>
    cases rr with
    | cons rt rr =>
      cases rr; cases rx; cases rt
      obtain ⟨od, J, h0, h1⟩ := pin_inst I hp hz hf hd
      obtain ⟨z, its, rv, ⟨oc, odd, odt, osl⟩, ho, hc, n, hdt⟩ := (show ObjOk X.prog X.w H s.heap tp (.tup cs) from I.hok tp _ htp)
      dsimp only at hc hdt; subst hc hdt
      have ev := ClsV.all hpr rv
      subst ev
      cases d with
      | none =>
        cases h0 rfl
        exact PySem.W.kia_tup (PySem.W.handS_kitx_exc C.hg C.hk C.hs C.hd C.ha C.hn C.ht C.hm) I.kIn J ho e (fun z => nomatch z) fun tk => ⟨.bl b, H, I.kept (t' := tk) fun _ _ z => z, rfl, q⟩
      | some dd =>
        obtain ⟨od', rfl⟩ := Option.isSome_iff_exists.mp (h1 dd rfl)
        obtain ⟨cd, hcd, _⟩ := PySem.W.any_some C.hd
        exact PySem.W.kia_tup (PySem.W.kitx_exc (by rw [hcd]; rfl) C.hg C.hk C.hs C.ha C.hn C.ht C.hm) I.kIn J ho e (fun z => nomatch z) fun tk => ⟨.bl b, H, I.kept (t' := tk) fun _ _ z => z, rfl, q⟩
/-- e.f, e the exception that is pinned -/
def tFldP (K : PySem.W.Frag) (p : Addr × Obj) (n : Str) (te : TE) : TE := fun σ H Q => te σ H fun x H1 => ∃ (C dd : Addr) (v : V), x = .ref p.1 ∧ Zc (.ref C) (some dd) p.2 ∧ (∃ vs, p.2.data = .fields vs) ∧ H1 dd = some (.xd [(n, v)]) ∧ ExcC K C ∧ PySem.W.findIn K (.ref C) n = some none ∧ Q v H1
theorem pe_fldP {p : Addr × Obj} {e : Expr} {te : TE} {pos : Pos} {n : Str} (hp : p ∈ X.pn) (he : PE X e te) (hb : attributeBase e n X.env (eval e X.env) = eval e X.env := by rfl) : PE X (.Attribute e n pos) (tFldP X.K p n te) := by
  refine ⟨fun pins s σ H Q I h => ?_⟩
  refine attr_of hb (thn (he.run pins s σ H _ I h) fun u s1 hh => ?_)
  obtain ⟨x, H1, I1, rx, C, dd, v, ex, hz, ⟨vs, hv⟩, hx, T, no, q⟩ := hh
  subst ex
  obtain rfl : u = Value.ref p.1 := rx
  obtain ⟨hget, _⟩ := I1.pin p (List.mem_append_left _ hp)
  obtain ⟨mA, hns, hr⟩ := (show ObjOk X.prog X.w H1 s1.heap dd (.xd [(n, v)]) from I1.hok dd _ hx)
  obtain ⟨od, ho, hl⟩ := lookIn_ns hns
  have l : List.lookup n [(n, v)] = some v := by simp [List.lookup]
  obtain ⟨u, hu, ru⟩ := RelO.some_of (v := v) (o := mA n) (by rw [← l]; exact hr n)
  have J : PySem.W.InstAt s1.heap p.1 p.2 C (some od) := ⟨hget, hz.1, by unfold PySem.W.notCls; rw [hv] <;> rfl, by rw [hz.2]; exact ho⟩
  exact HandSPX.exc_get I1.kIn J T.hg T.hk T.hs (PySem.W.findObj_own T.hd no rfl (by rw [hl, hu])) (handed_of ru) ⟨v, H1, I1.tok _, ru, q⟩
/-- f(e, ..) where e is the exception that is pinned -/
def tCallE (sp : SpE) (cls : Value) (d : Option Addr) (a : Addr) (t : TA) : TE := fun σ H Q => t σ H fun vs H1 => sp cls d a vs H1 Q E0
theorem pe_callE {k : Nat} {f : Addr} {fd : FuncData} {ps : List Str} {sp : SpE} {x : Str} {q pos : Pos} {e : Expr} {es : List Expr} {t : TA} {a : Addr} {oe : Obj} {cls : Value} {d : Option Addr} (F : FnE X.prog X.w X.K X.mg X.base k f fd ps sp) (hr : L2H.RoomH k X.A) (hp : (a, oe) ∈ X.pn) (hz : Zc cls d oe) (hf : ∃ vs, oe.data = .fields vs)
    (hg : Gl X x) (hm : X.mg x = some (.ref f)) (hk : PySem.W.keepIn X.K (.ref f) = true) (hb : Binds X.K fd ps []) (ha : PA X (e :: es) t)
    (hdb : (x == ("__debug__" : Str)) = false := by decide) (he : starEach (e :: es) X.env = (false, eval e X.env) :: starEach es X.env := by rfl) (hpl : (backTo pos (starEach es X.env)).any (·.1) = false := by rfl) :
    PE X (.Call (.Name x q) (e :: es) [] pos) (tCallE sp cls d a t) := by
  refine ⟨fun pins s σ H Q I h => ?_⟩
  refine wpAny_Call_Name_kw (ld_glob I hg hm ?_ hdb)
  refine PySem.W.callWith_K (h₀ := X.base) I.ok.mod.kin hk (thn (ha.run pos pins s σ H _ I h) fun us s1 hh => ?_) he hpl
  obtain ⟨vs, H1, I1, r, z⟩ := hh
  refine ⟨I1.kIn, ?_⟩
  have n : us.length = ps.length := by rw [← r.length]; exact F.len _ _ _ _ _ _ _ z
  have b := hb s1 us I1.kIn (by rw [List.append_nil]; exact n)
  rw [List.append_nil] at b
  have P1 := I1.pin (a, oe) (List.mem_append_left _ hp)
  have pin : L2H.PinOk X.stack H1 s1 (a, oe) := ⟨P1.1, P1.2.1, fun m => (List.mem_cons.mp (I1.stkSub a m)).elim P1.2.2.1 P1.2.2.2.1, P1.2.2.2.2⟩
  refine wpAny_call (codeAny_mono (F.run X.A X.stack s1 H1 ⟨us, []⟩ us vs Q (a, oe) cls d hr pin hz hf I1.env0 b r z) fun r s' hq => ?_)
  cases r with
  | error e => exact False.elim hq
  | ok fl =>
    cases fl with
    | ret u => exact I1.after hq
    | next => exact False.elim hq
    | brk => exact False.elim hq
    | cont => exact False.elim hq
/-- raise C() -/
theorem pmk_0 {C : Addr} {bmB : List Value} {B newId initId : String} {x : Str} {p pos : Pos} (F : ExcBaseFacts B newId initId bmB) (q : PySem.W.excIn X.K C bmB newId = true) (gC : X.mg x = some (.ref C)) (kC : PySem.W.keepIn X.K (.ref C) = true) (r : Raises X (.ref C)) (hg : Gl X x) (hdb : (x == ("__debug__" : Str)) = false := by decide) :
    PMk X (.Call (.Name x p) [] [] pos) (fun _ H Q => Q (.ref C) none H) := by
  intro pins s σ H Q I h
  refine wpAny_Call_Name_kw (ld_glob I hg gC ?_ hdb)
  refine PySem.W.callWith_K0 I.kIn kC ?_
  show wpAny _ _ (call (.ref C) []) _ _ _
  obtain ⟨bm, N, nm, qn, bs, hdct, sn, sub, ab, col, dd, k0, k1, k2, k3, k5, mN, hC, hN, hni, T⟩ := exc_obj I.kIn q
  exact wpAny_call_exc_subT F T hC hN hni (fun h' a hm => mk_of I hm r h (I.hok.gone hm.new)) (Nat.zero_le _)
end
theorem roomH_suite {k : Nat} {A : Around} {u : Option Value} (r : Room k A) : L2H.RoomH k (A.mark u) := ⟨r.dp, r.un⟩
end TR
namespace TR
open PySem PySem.Spec PyProof.Rows L2
/-- a class without __init__ of its own, which is raised -/
structure Mk0 (K : PySem.W.Frag) (mg : Str → Option Value) (cn : Str) (C : Addr) : Prop where
  g : mg cn = some (.ref C)
  k : PySem.W.keepIn K (.ref C) = true
  q : PySem.W.excIn K C [.type "ValueError", .type "Exception", .type "BaseException", .type "object"] "ValueError.__new__" = true
  b : PySem.W.subIn K (.ref C) (.type "BaseException") = some true
  t : PySem.W.typeIn K (.ref C) = some (.type "type")
end TR
namespace TR
open PySem PySem.Spec PyProof.Rows L2
/-- the classes that may be caught: what is known of them -/
structure XTab (K : PySem.W.Frag) (cs : List Addr) (cB : Addr) : Prop where
  ec : ∀ C ∈ cs, ExcC K C
  kit : ∀ C ∈ cs, ∀ D ∈ cs, PySem.W.kitOne K (.ref C) (.ref D) = some (decide (C = D))
  ve : ∀ C ∈ cs, PySem.W.kitOne K (.ref C) (.type "ValueError") = some true
  te : ∀ C ∈ cs, PySem.W.exmOne K (.ref C) (.ref cB) = some true
section
variable {X : Cx} {Ec : EC}
/-! ### raise -/
def sNever : AST := fun _ _ _ => False
theorem as_never {st : Stmt} : PS X st (cS Ec sNever) := ps_never.sub fun D σ H ⟨Φ, E, xp, s, Da, r, x, q, m⟩ => q
def sRaise0 (C : Addr) : AST := fun xp _ s => xp ⟨C, none⟩ s
theorem as_raise0 {st : Stmt} {C : Addr} {E : XK} (h : PS X st (fun _ _ H => E (.ref C) none H)) : PS X st (cS (eE E) (sRaise0 C)) := h.sub fun D σ H ⟨Φ, E, xp, s, Da, r, x, q, m⟩ => x.2 ⟨C, none⟩ E s σ H none r rfl q
def sRaise1 (C : Addr) (f : Str) (aa : AA) : AST := fun xp _ s => aa xp s fun os s1 => rv os fun ds => match ds with
  | [d] => xp ⟨C, some (f, d)⟩ s1
  | _ => False
theorem as_raise1 {st : Stmt} {C : Addr} {f : Str} {E : XK} {aa : AA} (h : PS X st (fun _ σ H => cA (eE E) aa σ H fun vs H1 => ∃ v, vs = [v] ∧ ∀ d, H1 d = none → E (.ref C) (some d) (upd H1 d (.xd [(f, v)])))) : PS X st (cS (eE E) (sRaise1 C f aa)) := by
  refine h.sub fun D σ H ⟨Φ, E, xp, s, Da, r, x, q, m⟩ => ⟨Φ, E, xp, s, _, r, x, q, fun os E1 s1 vs H1 l1 r1 k1 p1 q1 => ?_⟩
  obtain ⟨ds, e, q1⟩ := rv_get q1
  have ra := vals_rp p1 e
  match ds, q1, ra with
  | [d], q1, ra =>
    obtain ⟨v, t, rfl, p, rfl⟩ := ra
    refine ⟨v, rfl, fun da hd => ?_⟩
    have sm : Same H1 (upd H1 da (.xd [(f, v)])) := same_upd hd
    exact x.2 ⟨C, some (f, d)⟩ E1 s1 σ _ (some da) (r1.same sm) ⟨da, v, rfl, upd_same, p.same sm⟩ q1
/-! ### try -/
def AV.noX : Option AV → Option AV
  | some (.exc _) => none
  | o => o
def AS.noX (s : AS) (i : Nat) : AS := { s with sl := (s.sl.map AV.noX).set i none }
def sTry (i : Nat) (cs : List Addr) (b su : AST) : AST := fun xp D s => b (fun x s1 => x.cls ∈ cs ∧ su x0 { nx := fun s2 => D.nx (s2.noX i), rt := D.rt, bk := fun s2 => D.bk (s2.noX i), ct := fun s2 => D.ct (s2.noX i) } (s1.set i (.exc x))) D s
theorem Rel.noX {Φ : Fx} {E : OE} {s : AS} {σ : L2.St} {H : Hp} {ex : Option (Addr × Addr × Option Addr)} {cs : List Addr} (i : Nat) (r : Rel { Φ with ex := ex, cs := cs } E s σ H) : Rel Φ E (s.noX i) (σ.set i none) H := by
  refine ⟨by show ((s.sl.map AV.noX).set i none).length = _; rw [List.length_set, List.length_map, List.length_set]; exact r.len, fun j x h => ?_, r.dk, r.own, r.inj, r.fr, r.dk0, r.alive, r.held, r.zz, r.znd⟩
  have h2 : ((s.sl.map AV.noX).set i none)[j]? = some (some x) := h
  have hj : j ≠ i := fun z => by
    subst z
    by_cases hl : j < (s.sl.map AV.noX).length
    · rw [List.getElem?_set_self hl] at h2; cases h2
    · rw [List.getElem?_eq_none (by rw [List.length_set]; omega)] at h2; cases h2
  rw [List.getElem?_set_ne (Ne.symm hj), List.getElem?_map] at h2
  obtain ⟨o, ho, e⟩ := Option.map_eq_some_iff.mp h2
  cases o with
  | none => cases e
  | some y =>
    cases y with
    | exc y => cases e
    | dat d =>
      cases e
      obtain ⟨v, h1, h3⟩ := r.val j _ ho
      exact ⟨v, by rw [List.getElem?_set_ne (Ne.symm hj)]; exact h1, h3⟩
    | own d =>
      cases e
      obtain ⟨v, h1, h3⟩ := r.val j _ ho
      exact ⟨v, by rw [List.getElem?_set_ne (Ne.symm hj)]; exact h1, h3⟩
    | dct d =>
      cases e
      obtain ⟨v, h1, h3⟩ := r.val j _ ho
      exact ⟨v, by rw [List.getElem?_set_ne (Ne.symm hj)]; exact h1, h3⟩
    | bor d =>
      cases e
      obtain ⟨v, h1, h3⟩ := r.val j _ ho
      exact ⟨v, by rw [List.getElem?_set_ne (Ne.symm hj)]; exact h1, h3⟩
    | deck =>
      cases e
      obtain ⟨v, h1, h3⟩ := r.val j _ ho
      exact ⟨v, by rw [List.getElem?_set_ne (Ne.symm hj)]; exact h1, h3⟩
theorem Rel.setExc {Φ : Fx} {E : OE} {s : AS} {σ : L2.St} {H : Hp} {x : XD} {a : Addr} {da : Option Addr} {cs : List Addr} (i : Nat) (r : Rel Φ E s σ H) (h0 : Φ.ex = none) (xr : XRep H (ban Φ E) x da) (hc : x.cls ∈ cs) : Rel { Φ with ex := some (a, x.cls, da), cs := cs } E (s.set i (.exc x)) (σ.set i (some (.ref a))) H := by
  have r' : Rel { Φ with ex := some (a, x.cls, da), cs := cs } E s σ H := ⟨r.len, fun j y h => by
    obtain ⟨v, h1, h2⟩ := r.val j y h
    refine ⟨v, h1, ?_⟩
    cases y with
    | exc y =>
      obtain ⟨b, db, e, _⟩ := h2
      rw [h0] at e
      cases e
    | dat _ => exact h2
    | own _ => exact h2
    | dct _ => exact h2
    | bor _ => exact h2
    | deck => exact h2, r.dk, r.own, r.inj, r.fr, r.dk0, r.alive, r.held, r.zz, r.znd⟩
  exact r'.setX i (x := .exc x) ⟨a, da, rfl, rfl, xr, hc⟩
theorem as_try {cs : List Addr} {cB : Addr} {x n : Str} {i : Nat} {body suite : List Stmt} {b₀ : Stmt} {np pos pos' : Pos} {bb bs : AST} {E : XK} (T : XTab X.K cs cB) (hs : X.stack = X.env :: X.outer) (hf : X.env.frame = some X.env.locals) (hN : X.N.Nodup) (hi : X.N[i]? = some n) (hln : X.env.kindOf n = some .local) (hc : Names X x (.ref cB)) (tk : Takes X (fun _ _ _ _ => False))
    (hb : ∀ (W : WX) (pn : List (Addr × Obj)) (xe : Value → Shared → Prop), Takes (X.tr pn xe) W → PassesOwn (model X.prog X.w) X.A X.env xe → PSs (X.tr pn xe) body (cS ⟨WE W, none, []⟩ bb))
    (hsu : ∀ (a : Addr) (oe : Obj) (C : Addr) (d : Option Addr) (pn : List (Addr × Obj)), Zc (.ref C) d oe → (∃ vs, oe.data = .fields vs) → PSs (X.suite a ((a, oe) :: pn)) (b₀ :: suite) (cS ⟨fun _ _ _ _ => False, some (a, C, d), cs⟩ bs)) :
    PS X (.Try body [.ExceptHandler (some (.Name x np)) (some n) (b₀ :: suite) pos'] [] [] pos) (cS (eE E) (sTry i cs bb bs)) := by
  refine (ps_try_as (i := i) (c := .ref cB) (Wout := fun _ _ _ _ => False) (tb := fun W => cS ⟨WE W, none, []⟩ bb) (ts := fun a cls d D σ H => ∃ C, cls = .ref C ∧ cS ⟨fun _ _ _ _ => False, some (a, C, d), cs⟩ bs D σ H) hs hf hN hi hln hc tk hb (fun a oe cls d pn hz hf => ?_)).sub fun D σ H ⟨Φ, E, xp, s, Da, r, x, q, m⟩ => ?_
  · constructor
    intro pins s σ H D I h
    obtain ⟨C, rfl, h⟩ := h
    exact (hsu a oe C d pn hz hf).run pins s σ H D I h
  · refine ⟨Φ, E, _, s, Da, r, ⟨x.1, fun y E1 s1 σ1 H1 da r1 xr hy => ?_⟩, q, m⟩
    refine ⟨true, T.te _ hy.1, fun _ a ha => ⟨y.cls, rfl, { Φ with ex := some (a, y.cls, da), cs := cs }, E1, x0, _, _, r1.setExc i x.1.1 xr hy.1, ⟨⟨rfl, rfl⟩, fun _ _ _ _ _ _ _ _ h => h⟩, hy.2, ?_⟩, fun z => Bool.noConfusion z⟩
    exact ⟨fun E2 s2 σ2 H2 r2 q2 => m.nx E2 _ _ H2 (r2.noX i) q2, fun E2 s2 σ2 H2 r2 q2 => m.bk E2 _ _ H2 (r2.noX i) q2, fun E2 s2 σ2 H2 r2 q2 => m.ct E2 _ _ H2 (r2.noX i) q2, fun y n v H2 ro q2 => m.rt y n v H2 ⟨ro.fr, ro.dk, ro.rp⟩ q2⟩
/-- a call in a try's body -/
theorem ae_callT {k : Nat} {f : Addr} {fd : FuncData} {ps : List Str} {ms : List Md} {F : AF} {x : Str} {p pos : Pos} {e : Expr} {es : List Expr} {aa : AA} {W : WX} (G : FnOk X.prog X.w X.K X.mg X.base (L2.CX X.prog X.w) k f fd ps (spA ms F)) (hd : Md.deck ∉ ms) (hr : Room k X.A) (hg : Gl X x) (hm : X.mg x = some (.ref f)) (hk : PySem.W.keepIn X.K (.ref f) = true) (hb : Binds X.K fd ps []) (tk : Takes X W) (ha : PA X (e :: es) (cA ⟨WE W, none, []⟩ aa)) (hdb : (x == ("__debug__" : Str)) = false := by decide) (he : starEach (e :: es) X.env = (false, eval e X.env) :: starEach es X.env := by rfl) (hpl : (backTo pos (starEach es X.env)).any (·.1) = false := by rfl) :
    PE X (.Call (.Name x p) (e :: es) [] pos) (cE ⟨WE W, none, []⟩ (aCall0 ms F aa)) := (pe_callS (E := WE W) G hr hg hm hk hb (fun σ => passAt tk σ) ha hdb he hpl).sub fun σ H Q h => call0_ok hd h
/-! ### the exception in the suite -/
def aIsX (D : Addr) (i : Nat) : AE := fun _ s Q => match s.sl[i]? with
  | some (some (.exc x)) => Q (.bool (decide (x.cls = D))) s
  | _ => False
theorem xd_at {H : Hp} {bn : List Addr} {x : XD} {da : Option Addr} (h : XRep H bn x da) : XdAt H da := by
  unfold XRep at h
  split at h
  · subst h; trivial
  · obtain ⟨e, v, rfl, h1, _⟩ := h
    exact ⟨_, h1⟩
theorem ae_isX {p : Addr × Obj} {C D : Addr} {d : Option Addr} {cs : List Addr} {cB : Addr} {i : Nat} {e c : Expr} {q pos : Pos} (T : XTab X.K cs cB) (hp : p ∈ X.pn) (hz : Zc (.ref C) d p.2) (hf : ∃ vs, p.2.data = .fields vs) (hex : Ec.ex = some (p.1, C, d)) (hcs : Ec.cs = cs) (hD : D ∈ cs) (hg : Gl X "isinstance") (hm : X.mg "isinstance" = none) (he : PE X e (tVar i)) (hc : PE X c (tC (.ref D)))
    (hs : starEach [e, c] X.env = (false, eval e X.env) :: starEach [c] X.env := by rfl) (hs2 : starEach [c] X.env = (false, eval c X.env) :: starEach [] X.env := by rfl) (hpl : (backTo pos (starEach [c] X.env)).any (·.1) = false := by rfl) :
    PE X (.Call (.Name "isinstance" q) [e, c] [] pos) (cE Ec (aIsX D i)) := by
  refine (pe_callB (call_isP hp) hg hm (by decide +kernel) (pa_cons he (pa_cons hc pa_nil hs2) hs) (by decide) (by decide) hs hpl).sub fun σ H Q ⟨Φ, E, xp, s, Qa, r, x, q, k⟩ => ?_
  unfold aIsX at q
  split at q
  · next y hy =>
    obtain ⟨v, h1, a, da, e1, rfl, xr, hin⟩ := r.val i _ hy
    rw [x.1.1, hex] at e1
    cases e1
    rw [x.1.2, hcs] at hin
    exact ⟨_, h1, _, d, .ref D, .ref D, _, rfl, hz, hf, xd_at xr, T.ec _ hin, .own D, T.kit _ hin D hD, k (.bool _) E s _ H (.refl _) r (.refl _ _) rfl q⟩
  · exact q.elim
/-- isinstance(e, ValueError) -/
def aIsV (i : Nat) : AE := fun _ s Q => match s.sl[i]? with
  | some (some (.exc _)) => Q (.bool true) s
  | _ => False
theorem ae_isV {p : Addr × Obj} {C : Addr} {d : Option Addr} {cs : List Addr} {cB : Addr} {i : Nat} {e c : Expr} {q pos : Pos} (T : XTab X.K cs cB) (hp : p ∈ X.pn) (hz : Zc (.ref C) d p.2) (hf : ∃ vs, p.2.data = .fields vs) (hex : Ec.ex = some (p.1, C, d)) (hcs : Ec.cs = cs) (hg : Gl X "isinstance") (hm : X.mg "isinstance" = none) (he : PE X e (tVar i)) (hc : PE X c (tC (.ty "ValueError")))
    (hs : starEach [e, c] X.env = (false, eval e X.env) :: starEach [c] X.env := by rfl) (hs2 : starEach [c] X.env = (false, eval c X.env) :: starEach [] X.env := by rfl) (hpl : (backTo pos (starEach [c] X.env)).any (·.1) = false := by rfl) :
    PE X (.Call (.Name "isinstance" q) [e, c] [] pos) (cE Ec (aIsV i)) := by
  refine (pe_callB (call_isP hp) hg hm (by decide +kernel) (pa_cons he (pa_cons hc pa_nil hs2) hs) (by decide) (by decide) hs hpl).sub fun σ H Q ⟨Φ, E, xp, s, Qa, r, x, q, k⟩ => ?_
  unfold aIsV at q
  split at q
  · next y hy =>
    obtain ⟨v, h1, a, da, e1, rfl, xr, hin⟩ := r.val i _ hy
    rw [x.1.1, hex] at e1
    cases e1
    rw [x.1.2, hcs] at hin
    exact ⟨_, h1, _, d, .ty "ValueError", .type "ValueError", _, rfl, hz, hf, xd_at xr, T.ec _ hin, .ty _, T.ve _ hin, k (.bool true) E s _ H (.refl _) r (.refl _ _) rfl q⟩
  · exact q.elim
/-- isinstance(e, (A, B, ..)) -/
def aIsXs (Ds : List Addr) (i : Nat) : AE := fun _ s Q => match s.sl[i]? with
  | some (some (.exc x)) => Q (.bool (decide (x.cls ∈ Ds))) s
  | _ => False
theorem kit_any {K : PySem.W.Frag} {cs : List Addr} {cB : Addr} (T : XTab K cs cB) {C : Addr} (hC : C ∈ cs) : ∀ {Ds : List Addr}, (∀ D ∈ Ds, D ∈ cs) → PySem.W.kitAny K (.ref C) (Ds.map Value.ref) = some (decide (C ∈ Ds))
  | [], _ => by simp [PySem.W.kitAny]
  | D :: Ds, h => by
    have h1 := T.kit C hC D (h D List.mem_cons_self)
    have ih := kit_any T hC (Ds := Ds) fun D hD => h D (List.mem_cons_of_mem _ hD)
    rw [List.map_cons]
    unfold PySem.W.kitAny
    rw [h1]
    by_cases e : C = D
    · rw [decide_eq_true e]
      simp [e]
    · rw [decide_eq_false e]
      show PySem.W.kitAny K (.ref C) (Ds.map Value.ref) = _
      rw [ih]
      simp [e]
theorem pairs_cls : ∀ Ds : List Addr, Paired ClsV (Ds.map V.ref) (Ds.map Value.ref)
  | [] => .nil
  | D :: Ds => .cons (.own D) (pairs_cls Ds)
theorem ae_isXs {p : Addr × Obj} {C : Addr} {d : Option Addr} {cs : List Addr} {cB : Addr} {i : Nat} {e c : Expr} {q pos : Pos} {ta : TA} {Ds : List Addr} (T : XTab X.K cs cB) (hp : p ∈ X.pn) (hz : Zc (.ref C) d p.2) (hf : ∃ vs, p.2.data = .fields vs) (hex : Ec.ex = some (p.1, C, d)) (hcs : Ec.cs = cs) (hD : ∀ D ∈ Ds, D ∈ cs) (hl : Ds.length ≤ 1000) (hta : ∀ σ H (Q : List V → Hp → Prop), Q (Ds.map V.ref) H → ta σ H Q) (hg : Gl X "isinstance") (hm : X.mg "isinstance" = none) (he : PE X e (tVar i)) (hc : PE X c (tTup ta))
    (hs : starEach [e, c] X.env = (false, eval e X.env) :: starEach [c] X.env := by rfl) (hs2 : starEach [c] X.env = (false, eval c X.env) :: starEach [] X.env := by rfl) (hpl : (backTo pos (starEach [c] X.env)).any (·.1) = false := by rfl) :
    PE X (.Call (.Name "isinstance" q) [e, c] [] pos) (cE Ec (aIsXs Ds i)) := by
  refine (pe_callB (call_isPT hp) hg hm (by decide +kernel) (pa_cons he (pa_cons hc pa_nil hs2) hs) (by decide) (by decide) hs hpl).sub fun σ H Q ⟨Φ, E, xp, s, Qa, r, x, q, k⟩ => ?_
  unfold aIsXs at q
  split at q
  · next y hy =>
    obtain ⟨v, h1, a, da, e1, rfl, xr, hin⟩ := r.val i _ hy
    rw [x.1.1, hex] at e1
    cases e1
    rw [x.1.2, hcs] at hin
    refine ⟨_, h1, hta _ _ _ ⟨by rw [List.length_map]; exact Nat.le_of_lt (small1000 hl), fun tp htp => ?_⟩⟩
    have m : Same H (upd H tp (.tup (Ds.map V.ref))) := same_upd htp
    exact ⟨_, d, tp, _, _, _, rfl, hz, hf, xd_at (xr.same m), T.ec _ hin, upd_same, pairs_cls Ds, kit_any T hin hD, k (.bool _) E s _ _ (.refl _) (r.same m) (.of_same m) rfl q⟩
  · exact q.elim
/-- e.f -/
def aFldX (f : Str) (i : Nat) : AE := fun _ s Q => match s.sl[i]? with
  | some (some (.exc ⟨_, some (g, d)⟩)) => g = f ∧ Q d s
  | _ => False
theorem ae_fldX {p : Addr × Obj} {C : Addr} {d : Option Addr} {cs : List Addr} {cB : Addr} {i : Nat} {e : Expr} {pos : Pos} {f : Str} (T : XTab X.K cs cB) (hp : p ∈ X.pn) (hz : Zc (.ref C) d p.2) (hf : ∃ vs, p.2.data = .fields vs) (hex : Ec.ex = some (p.1, C, d)) (hcs : Ec.cs = cs) (hn : ∀ C ∈ cs, PySem.W.findIn X.K (.ref C) f = some none) (he : PE X e (tVar i)) (hb : attributeBase e f X.env (eval e X.env) = eval e X.env := by rfl) : PE X (.Attribute e f pos) (cE Ec (aFldX f i)) := by
  refine (pe_fldP hp he hb).sub fun σ H Q ⟨Φ, E, xp, s, Qa, r, x, q, k⟩ => ?_
  unfold aFldX at q
  split at q
  · next c g dd hy =>
    obtain ⟨rfl, q⟩ := q
    obtain ⟨v, h1, a, da, e1, rfl, ⟨b, w, rfl, hb1, rp⟩, hin⟩ := r.val i _ hy
    rw [x.1.1, hex] at e1
    cases e1
    rw [x.1.2, hcs] at hin
    exact ⟨_, h1, _, b, w, rfl, hz, hf, hb1, T.ec _ hin, hn _ hin, k dd E s w H (.refl _) r (.refl _ _) rp q⟩
  · exact q.elim
end
end TR
namespace TR
open PySem PySem.Spec PyProof.Rows L2
section
variable {P : Program} {w : World} {K : PySem.W.Frag} {mg : Str → Option Value} {base : Heap}
/-- a def's promise where no repr is under way -/
def RunG (P : Program) (w : World) (K : PySem.W.Frag) (mg : Str → Option Value) (base : Heap) (k : Nat) (f : Addr) (fd : FuncData) (ps : List Str) (sp : Sp) : Prop :=
  ∀ (A : Around) (outer : List Env) (s : Shared) (H : Hp) (args : Args) (us : List Value) (vs : List V) (Q : VK) (E : XK), A.guards = some [] → Room k A → Env0 P w K mg base A outer s H → BindsTo s fd args (ps.zip us) → Vals vs us → sp vs H Q E → codeAny (model P w) A (.call (.ref f) args) (CR CX0 outer P w H s Q E) s
theorem okG {x qual : Str} {st : Stmt} {f : Addr} {fd : FuncData} {N ps : List Str} {k : Nat} {sp : Sp} (F : Fun K x qual st f fd) (S : FnScope N ps (defScope st)) (len : ∀ vs H Q E, sp vs H Q E → vs.length = ps.length)
    (hbody : ∀ (cdv : Value) (A : Around) (outer : List Env) (s : Shared) (H : Hp) (vs : List V) (Q : VK) (E : XK), A.guards = some [] → Room k (A.deeper (envOfC qual (defScope st) s.heap.objs.size f cdv)) → sp vs H Q E →
      ∃ t, PSs (cxOf CX0 P w K mg base N qual (defScope st) f cdv A outer s H E).nox (defBody st) t ∧ t { nx := fun _ H' => Q .non H', rt := Q } (start N vs) H) : RunG P w K mg base (k + 1) f fd ps sp := by
  obtain ⟨oc, od, kV, doc, pm, an, cdv, ct, osl, rfl, lk, hcd⟩ := F.ex
  intro A outer s H args us vs Q E hgd hr e0 hb r hsp
  have hl := len _ _ _ _ hsp; have KX : K.In s.heap := e0.mod.kin.keeps fun b o e => (e0.bs b o e).1
  have lim : s.heap.NoLimit := e0.mod.nolimit.keeps fun b o e => (e0.bs b o e).1
  have kinds : ∀ y ∈ ps.zip us, (defScope st).names.lookup y.1 = some .local ∨ ((defScope st).names.lookup y.1 = some .cell ∧ ((cellsFrom (s.heap.objs.size + 1) (defScope st).names []).lookup y.1).isSome = true) := fun ⟨n, v⟩ hy => by
    rcases S.par n (List.of_mem_zip hy).1 with q | q; exact .inl q; exact .inr ⟨q, PySem.W.cellsFrom_some _ _ _ (.inl q)⟩
  refine codeAny_call_function hr.depth (KX _ _ lk) rfl S.co S.gen rfl (PySem.W.codeRec_of KX hcd) (hb _ _ _ _ (wpAny_newFunctionEnv_cells S.kind kinds fun env he s1 x => ?_))
  subst he; refine ⟨lim.keeps x.toInCall.keep, codeAny_func ?_⟩
  obtain ⟨t, ht, hq⟩ := hbody cdv A outer s H vs Q E hgd (hr.deeper _) hsp
  have I : Inv (cxOf CX0 P w K mg base N qual (defScope st) f cdv A outer s H E) [] (start N vs) H s1 := inv_start S hr.hd e0 hl r x
  refine wpAny_mono (ht.nox.run [] s1 (start N vs) H _ I hq) (fun fl s' hs => ?_) fun e s' hs => hs
  have fin : ∀ {σ' : L2.St} {H' : Hp} {v : V} {u : Value}, Inv (cxOf CX0 P w K mg base N qual (defScope st) f cdv A outer s H E) [] σ' H' s' → RelV v u → Q v H' → CE outer P w H s Q u s' := fun {σ' H' v u} J rv q => ⟨v, H', J.os, J.bare, J.base, J.hok, rv, q⟩
  cases fl with
  | ret u => obtain ⟨v, σ', H', J, rv, q⟩ := hs; exact fin J rv q
  | next => obtain ⟨σ', H', J, q⟩ := hs; exact fin (v := V.non) (u := Value.none) J rfl q
  | brk => obtain ⟨_, _, _, q⟩ := hs; exact False.elim q
  | cont => obtain ⟨_, _, _, q⟩ := hs; exact False.elim q
end
theorem law_callG {P : Program} {w : World} {K : PySem.W.Frag} {mg mb : Str → Option Value} {k : Nat} {fa a : Addr} {fd : FuncData} {x : Str} {sp : Sp} {s₁ : Shared} {vs : List Value} {ns : List Int} (KX : K.In s₁.heap) (hns : s₁.heap.Ns mainGlobals mg) (hb : s₁.heap.Ns builtinsNs mb) (hbb : ∀ x : Str, x ≠ "__name__" → mb x = bootBuiltins x)
    (hlim : s₁.heap.NoLimit) (hg : s₁.gens = #[]) (ha : s₁.heap.get? a = some { cls := .type "list", data := .seq vs.toArray }) (hi : IntsAre vs ns) (hl : ns.length ≤ sizeLine) (hr : Room k callerA) (F : ∀ base : Heap, K.In base → base.Ns mainGlobals mg → RunG P w K mg base k fa fd [x] sp)
    (hbind : ∀ (s : Shared) (u : Value), BindsTo s fd ⟨[u], []⟩ [(x, u)]) (hsp : ∀ H : Hp, Only H → SqL K H a (ns.map V.int) → sp [.ref a] H (fun v _ => v = .bl true) fun _ _ _ => False) :
    codeAny (model P w) callerA (.call (.ref fa) ⟨[.ref a], []⟩) (fun r s' => r = .ok (.ret (.bool true)) ∧ OldK s₁.heap s'.heap ∧ s'.os = s₁.os ∧ AllBare s'.gens) s₁ := by
  have rv := vals_ints hi; have lenV := hi.length
  have core : ∀ H : Hp, Only H → SqL K H a (ns.map V.int) → HOk P w H s₁.heap → (∀ b, H b ≠ none → b = a) → (H a ≠ none → K.lookup a = none) → codeAny (model P w) callerA (.call (.ref fa) ⟨[.ref a], []⟩) (fun r s' => r = .ok (.ret (.bool true)) ∧ OldK s₁.heap s'.heap ∧ s'.os = s₁.os ∧ AllBare s'.gens) s₁ := by
    intro H hO hS hok hA hK
    have b1 : ∀ {b : Addr} {o : Obj}, s₁.heap.get? b = some o → H b = none → (hidT s₁.heap H).get? b = some o := fun e n => hidT_get e n
    have n1 : ∀ {b : Addr} {o : Obj} {es : Array DictEntry} {ep : Nat}, s₁.heap.get? b = some o → o.data = .dict es ep → H b = none := fun {b o es ep} e d => by
      cases q : H b with
      | none => rfl
      | some u => have e' : b = a := hA b (by rw [q]; simp)
                  subst e'; rw [ha] at e; cases e; cases (show Data.seq vs.toArray _ = Data.dict es ep from d)
    have n2 : ∀ {b : Addr} {m : Str → Option Value}, s₁.heap.Ns b m → (hidT s₁.heap H).Ns b m := fun {b m} ⟨o, es, ep, e, d, r⟩ => ⟨o, es, ep, b1 e (n1 e d), d, r⟩
    have hKb : K.In (hidT s₁.heap H) := fun b o e => b1 (KX b o e) (by
      cases q : H b with
      | none => rfl
      | some u => have e' : b = a := hA b (by rw [q]; simp)
                  subst e'; rw [hK (by rw [q]; simp)] at e; cases e)
    have hM : Mod K mg (hidT s₁.heap H) := ⟨hKb, n2 hns, ⟨mb, n2 hb, hbb⟩, let ⟨mc, h1, h2⟩ := hlim; ⟨mc, n2 h1, h2⟩⟩
    have e0 : Env0 P w K mg (hidT s₁.heap H) callerA [] s₁ H := ⟨rfl, hM, fun b o e => of_hidT e, Nat.le_of_eq (hidT_size _ _), trivial, fun b hb => absurd (show b ∈ ([] : List Addr) from hb) (by simp), hok, .of_eq hg⟩
    refine codeAny_mono (F _ hKb (n2 hns) callerA [] s₁ H ⟨[.ref a], []⟩ [.ref a] [.ref a] _ _ rfl hr e0 (hbind s₁ (.ref a)) (.cons rfl .nil) (hsp H hO hS)) fun r s' h => ?_
    cases r with
    | error e => exact (show False from h).elim
    | ok fl =>
      cases fl with
      | next => exact False.elim h
      | brk => exact False.elim h
      | cont => exact False.elim h
      | ret u =>
        obtain ⟨v, H', os, bare, un, hok', r', q⟩ := h
        subst q; obtain rfl : u = Value.bool true := r'
        refine ⟨rfl, OldK.of_keep fun b o e => ?_, os, bare⟩
        cases q : H b with
        | none => exact un.keep b o e q (by intro z; exact absurd (show b ∈ ([] : List Addr) from z) (by simp)) (by simp)
        | some u =>
          rcases hO b with z | ⟨ob, xs, z⟩
          · rw [q] at z; cases z
          · obtain ⟨e1, _⟩ := hok b _ z; obtain ⟨e2, _⟩ := hok' b _ (un.frzs b ob _ z)
            rw [e] at e1; cases e1; exact e2
  cases hk : K.lookup a with
  | some o =>
    have e := KX a o hk; rw [ha] at e; cases e
    exact core (fun _ => none) (fun _ => .inl rfl) (.inr ⟨_, vs.toArray, _, hk, rfl, rfl, rfl, by rw [List.size_toArray, lenV]; exact hl, by simpa using rv⟩) (fun b u z => by cases (show (none : Option HO) = some u from z)) (fun b z => absurd rfl z) fun z => absurd rfl z
  | none =>
    refine core (fun b => if b = a then some (.frz { cls := .type "list", data := .seq vs.toArray } (.lst (ns.map V.int))) else none) (fun b => ?_) (.inl (.inr ⟨{ cls := .type "list", data := .seq vs.toArray }, if_pos rfl⟩)) (fun b u z => ?_) (fun b z => ?_) fun _ => hk
    · by_cases e : b = a
      · exact .inr ⟨_, _, if_pos e⟩
      · exact .inl (if_neg e)
    · by_cases e : b = a
      · cases (if_pos e).symm.trans z; subst e
        exact ⟨ha, by rw [List.length_map]; exact hl, vs, _, rv, ha⟩
      · cases (if_neg e).symm.trans z
    · by_cases e : b = a
      · exact e
      · exact absurd (if_neg e) z
theorem walk_ofG {l : PySem.W.OpenLaw} {n k : Nat} {q : Program} {loose : List Str} {XP : (Str → Option Value) → Heap → Prop} {YP : World → Heap → Prop} {d : DefRec} {K : Params → PySem.W.Frag} {sp : World → Sp} {x : Str} (hn : l.most = some n) (hn2 : n ≤ sizeLine) (hdf : d.params.defaults = []) (hr : Room k callerA) (hY : ∀ (w : World) (h : Heap), YP w h → (K w.params).In h)
    (F : ∀ (w : World) (mg : Str → Option Value) (fa : Addr) (h : Heap), (K w.params).In h → h.Ns mainGlobals mg → mg d.name = some (.ref fa) → ∃ fd : FuncData, (∀ (s : Shared) (u : Value), BindsTo s fd ⟨[u], []⟩ [(x, u)]) ∧ ∀ base : Heap, (K w.params).In base → base.Ns mainGlobals mg → RunG l.prog w (K w.params) mg base k fa fd [x] (sp w))
    (hsp : ∀ (w : World) (H : Hp) (a : Addr) (ns : List Int), ns.length ≤ n → Only H → SqL (K w.params) H a (ns.map V.int) → sp w [.ref a] H (fun v _ => v = .bl true) fun _ _ _ => False) : PySem.W.WalkO q loose XP YP l.row.toRowW d [] (fun f vs => PySem.call f vs) := by
  refine Att.attach_call hn hdf fun w s₀ s₁ mg mb fa o pm cd doc a vs ns G Y ho hd hcd hmg hobj hints hlen hg => ?_
  have KX := hY w _ Y; obtain ⟨fd, hb, hF⟩ := F w mg fa _ KX G.T.g hmg
  exact law_callG KX G.T.g G.T.b G.T.builtins G.T.nolimit hg hobj hints (Nat.le_trans hlen hn2) hr hF hb (fun H hO hS => hsp w H a ns hlen hO hS)
end TR
namespace TR
open PySem PySem.Spec PyProof.Rows L2
theorem Wf.tup {L D : Nat} {ds : List PyData} (l : ds.length ≤ L) (c : ∀ e ∈ ds, Wf L D e) : Wf L (D + 1) (.tuple ds) := .inr (.inr ⟨ds, .inr rfl, l, c⟩)
theorem Wf.lst {L D : Nat} {ds : List PyData} (l : ds.length ≤ L) (c : ∀ e ∈ ds, Wf L D e) : Wf L (D + 1) (.list ds) := .inr (.inr ⟨ds, .inl rfl, l, c⟩)
theorem Wf.leaf {L D : Nat} {d : PyData} (h : leafOk L d) : Wf L D d := by
  cases D with
  | zero => exact h
  | succ D => exact .inl h
end TR
namespace TR
open PySem PySem.Spec PyProof.Rows L2
section
variable {X : Cx}
/-- f(..) of a def that shows by repr -/
theorem pe_callG {k : Nat} {f : Addr} {fd : FuncData} {ps : List Str} {sp : Sp} {x : Str} {q pos : Pos} {e : Expr} {es : List Expr} {t : TA} (F : RunG X.prog X.w X.K X.mg X.base k f fd ps sp) (len : ∀ vs H Q E, sp vs H Q E → vs.length = ps.length) (hgd : X.A.guards = some []) (hr : Room k X.A)
    (hg : Gl X x) (hm : X.mg x = some (.ref f)) (hk : PySem.W.keepIn X.K (.ref f) = true) (hb : Binds X.K fd ps []) (ha : PA X (e :: es) t)
    (hdb : (x == ("__debug__" : Str)) = false := by decide) (he : starEach (e :: es) X.env = (false, eval e X.env) :: starEach es X.env := by rfl) (hpl : (backTo pos (starEach es X.env)).any (·.1) = false := by rfl) :
    PE X (.Call (.Name x q) (e :: es) [] pos) (fun σ H Q => t σ H fun vs H1 => sp vs H1 Q E0) := by
  refine ⟨fun pins s σ H Q I h => ?_⟩
  refine wpAny_Call_Name_kw (ld_glob I hg hm ?_ hdb)
  refine PySem.W.callWith_K (h₀ := X.base) I.ok.mod.kin hk (thn (ha.run pos pins s σ H _ I h) fun us s1 hh => ?_) he hpl
  obtain ⟨vs, H1, I1, r, z⟩ := hh
  refine ⟨I1.kIn, ?_⟩
  have n : us.length = ps.length := by rw [← r.length]; exact len _ _ _ _ z
  have b := hb s1 us I1.kIn (by rw [List.append_nil]; exact n)
  rw [List.append_nil] at b
  refine wpAny_call (codeAny_mono (F X.A X.stack s1 H1 ⟨us, []⟩ us vs Q E0 hgd hr I1.env0 b r z) fun r s' hq => ?_)
  cases r with
  | error e => exact False.elim hq
  | ok fl =>
    cases fl with
    | ret u => exact I1.after hq
    | next => exact False.elim hq
    | brk => exact False.elim hq
    | cont => exact False.elim hq
end
end TR
namespace TR
open PySem PySem.Spec PyProof.Rows L2
section
variable {X : Cx} {pins : List (Addr × Obj)} {σ : L2.St} {H : Hp} {s : Shared}
mutual
theorem Rp.rd0 {ban : List Addr} (I : Inv X pins σ H s) : ∀ (d : PyData) (v : V) (u : Value), Rp H ban d v → RelV v u → ∃ as, Reads s.heap u d as
  | .none, _, _, h, r => by cases (show _ = V.non from h); cases r; exact ⟨_, .none⟩
  | .bool b, _, _, h, r => by cases (show _ = V.bl b from h); cases r; exact ⟨_, .bool b⟩
  | .int i, _, _, h, r => by cases (show _ = V.int i from h); obtain ⟨t, rfl⟩ := r; exact ⟨_, .int i t⟩
  | .str x, _, _, h, r => by cases (show _ = V.str x from h); obtain ⟨t, rfl⟩ := r; exact ⟨_, .str x t⟩
  | .list ds, _, _, h, r => by
    obtain ⟨a, xs, rfl, h1, _, h3⟩ := h
    cases r
    obtain ⟨z, its, n, rv, e⟩ := (show ObjOk X.prog X.w H s.heap a (.lst xs) from I.hok a _ h1)
    obtain ⟨as, g⟩ := RpAll.rd0 I ds xs its h3 rv
    exact ⟨a :: as, .list e rfl rfl (by simpa using g)⟩
  | .tuple ds, _, _, h, r => by
    obtain ⟨a, xs, rfl, h1, h3⟩ := h
    cases r
    obtain ⟨z, its, rv, o, e, c, n, hd⟩ := h1.rd.ok I.hok
    obtain ⟨as, g⟩ := RpAll.rd0 I ds xs its h3 rv
    exact ⟨as, .tuple e c hd (by simpa using g)⟩
  | .dict kvs, _, _, h, r => by
    obtain ⟨rfl, a, rfl, h1, _⟩ := h
    cases r
    obtain ⟨z, hs', vs, kv, o, es, ep, e, ex, hd, _, ps, _⟩ := dk_of I.hok h1
    cases kv
    have hes : es = #[] := by
      cases es with
      | mk l =>
        cases (show Pairs _ l [] from ps)
        rfl
    subst hes
    exact ⟨[a], .dict (as := []) (bs := []) e ex.1 hd .nil .nil⟩
theorem RpAll.rd0 {ban : List Addr} (I : Inv X pins σ H s) : ∀ (ds : List PyData) (xs : List V) (us : List Value), RpAll H ban ds xs → Vals xs us → ∃ as, ReadsAll s.heap us ds as
  | [], _, _, h, r => by cases (show _ = [] from h); cases r; exact ⟨_, .nil⟩
  | d :: ds, _, _, h, r => by
    obtain ⟨v, t, rfl, h1, h2⟩ := h
    cases r with
    | cons r1 r2 =>
      obtain ⟨as, q1⟩ := Rp.rd0 I d _ _ h1 r1
      obtain ⟨bs, q2⟩ := RpAll.rd0 I ds _ _ h2 r2
      exact ⟨as ++ bs, .cons q1 q2⟩
end
/-- what repr writes of a list, of a tuple, of {} -/
theorem rk_list {h : Heap} {P : Program} {w : World} {a : Addr} {o : Obj} {its : List Value} {n : Nat} {ds : List PyData} {as bs : List Addr} (h1 : h.get? a = some o) (h2 : o.cls = .type "list") (h3 : o.data = .seq its.toArray n) (h4 : ReadsAll h its ds as) (hb : ReadAtMost h (PyData.depthAll ds) bs) (hk : ReprAllK P w bs h (PyData.depthAll ds) its (PyData.shownAll ds)) :
    a ∉ bs ∧ ReadAtMost h (PyData.list ds).depth (a :: bs) ∧ ReprK P w (a :: bs) h (PyData.list ds).depth (.ref a) (PyData.list ds).shown := by
  have r : Reads h (.ref a) (.list ds) (a :: as) := .list h1 h2 h3 (by simpa using h4)
  have hna : a ∉ bs := not_mem_of_deeper r (by simp only [PyData.depth]; omega) hb
  refine ⟨hna, ReadAtMost.cons r (by simp only [PyData.depth]; omega) hb, ?_⟩
  simp only [PyData.depth, PyData.shown]
  cases its with
  | nil =>
    cases h4
    simp only [PyData.shownAll, listText_nil]
    exact ReprK.listEmpty h1 h2 h3
  | cons x l => exact ReprK.list h1 h2 h3 hna (by simpa using hk.length_eq) (fun i y e => hk.item i y (by simpa using e))
mutual
theorem Rp.rk {ban : List Addr} (I : Inv X pins σ H s) : ∀ (d : PyData) (v : V) (u : Value), Rp H ban d v → RelV v u → d.showable = true → d.shown.length ≤ sizeLine → ∃ bs, ReadAtMost s.heap d.depth bs ∧ ReprK X.prog X.w bs s.heap d.depth u d.shown
  | .none, _, _, h, r, hs, hz => by cases (show _ = V.non from h); cases r; exact ReprK.of_reads .none hs (fun h => nomatch h) hz
  | .bool b, _, _, h, r, hs, hz => by cases (show _ = V.bl b from h); cases r; exact ReprK.of_reads (.bool b) hs (fun h => nomatch h) hz
  | .int i, _, _, h, r, hs, hz => by cases (show _ = V.int i from h); obtain ⟨t, rfl⟩ := r; exact ReprK.of_reads (.int i t) hs (fun h => nomatch h) hz
  | .str x, _, _, h, r, hs, hz => by cases (show _ = V.str x from h); obtain ⟨t, rfl⟩ := r; exact ReprK.of_reads (.str x t) hs (fun h => nomatch h) hz
  | .list ds, _, _, h, r, hs, hz => by
    obtain ⟨a, xs, rfl, h1, _, h3⟩ := h
    cases r
    obtain ⟨z, its, n, rv, e⟩ := (show ObjOk X.prog X.w H s.heap a (.lst xs) from I.hok a _ h1)
    obtain ⟨as, g⟩ := RpAll.rd0 I ds xs its h3 rv
    have hz' : (listText (PyData.shownAll ds)).length ≤ sizeLine := by simpa only [PyData.shown] using hz
    obtain ⟨bs, hb, hk⟩ := RpAll.rk I ds xs its h3 rv (by simpa [PyData.showable] using hs) fun t ht => Nat.le_trans (listText_mem_le ht) hz'
    exact ⟨_, (rk_list e rfl rfl g hb hk).2⟩
  | .tuple ds, _, _, h, r, hs, hz => by
    obtain ⟨a, xs, rfl, h1, h3⟩ := h
    cases r
    obtain ⟨z, its, rv, o, e, c, n, hd⟩ := h1.rd.ok I.hok
    obtain ⟨as, g⟩ := RpAll.rd0 I ds xs its h3 rv
    have hz' : (tupleText (PyData.shownAll ds)).length ≤ sizeLine := by simpa only [PyData.shown] using hz
    obtain ⟨bs, hb, hk⟩ := RpAll.rk I ds xs its h3 rv (by simpa [PyData.showable] using hs) fun t ht => Nat.le_trans (tupleText_mem_le ht) hz'
    have r : Reads s.heap (.ref a) (.tuple ds) as := .tuple e c hd (by simpa using g)
    have hna : a ∉ bs := not_mem_of_deeper r (by simp only [PyData.depth]; omega) hb
    refine ⟨a :: bs, ReadAtMost.cons r (by simp only [PyData.depth]; omega) hb, ?_⟩
    simp only [PyData.depth, PyData.shown]
    exact ReprK.tuple e c hd hna (by simpa using hk)
  | .dict kvs, _, _, h, r, hs, hz => by
    obtain ⟨rfl, a, rfl, h1, _⟩ := h
    cases r
    obtain ⟨z, hs', vs, kv, o, es, ep, e, ex, hd, _, ps, _⟩ := dk_of I.hok h1
    cases kv
    have hes : es = #[] := by
      cases es with
      | mk l =>
        cases (show Pairs _ l [] from ps)
        rfl
    subst hes
    exact ReprK.of_reads (.dict (as := []) (bs := []) e ex.1 hd .nil .nil) hs (fun _ => by
      simp only [List.append_nil, List.mem_cons, List.not_mem_nil, or_false]
      exact fun z => (beq_eq_false_iff_ne.mp hs') z.symm) hz
theorem RpAll.rk {ban : List Addr} (I : Inv X pins σ H s) : ∀ (ds : List PyData) (xs : List V) (us : List Value), RpAll H ban ds xs → Vals xs us → PyData.showableAll ds = true → (∀ t ∈ PyData.shownAll ds, t.length ≤ sizeLine) → ∃ bs, ReadAtMost s.heap (PyData.depthAll ds) bs ∧ ReprAllK X.prog X.w bs s.heap (PyData.depthAll ds) us (PyData.shownAll ds)
  | [], _, _, h, r, _, _ => by
    cases (show _ = [] from h); cases r
    exact ⟨[], (fun _ h => nomatch h), by simp only [PyData.shownAll]; exact .nil⟩
  | d :: ds, _, _, h, r, hs, hz => by
    obtain ⟨v, t, rfl, h1, h2⟩ := h
    have hs' : d.showable = true ∧ PyData.showableAll ds = true := by simpa [PyData.showableAll] using hs
    cases r with
    | cons r1 r2 =>
      obtain ⟨b1, hb1, k1⟩ := Rp.rk I d _ _ h1 r1 hs'.1 (hz _ (by simp only [PyData.shownAll]; exact List.mem_cons_self ..))
      obtain ⟨b2, hb2, k2⟩ := RpAll.rk I ds _ _ h2 r2 hs'.2 (fun t ht => hz t (by simp only [PyData.shownAll]; exact List.mem_cons_of_mem _ ht))
      refine ⟨b1 ++ b2, ?_, ?_⟩
      · simp only [PyData.depthAll]
        exact (hb1.mono (Nat.le_max_left _ _)).append (hb2.mono (Nat.le_max_right _ _))
      · simp only [PyData.depthAll, PyData.shownAll]
        exact .cons ((k1.more fun b hb => List.mem_append_left _ hb).level_le (Nat.le_max_left _ _)) (k2.more_le (fun b hb => List.mem_append_right _ hb) (Nat.le_max_right _ _))
end
end
section
variable {X : Cx} {Ec : EC}
def Shw (d : PyData) : Prop := d.showable = true ∧ d.depth ≤ 50 ∧ d.shown.length ≤ sizeLine
def fRepr : List PyData → (PyData → Prop) → Prop
  | [d], Q => Shw d ∧ Q (.str d.shown)
  | _, _ => False
def rReprA : List V → Hp → VK → Prop := fun xs H Q => ∃ x d bn, xs = [x] ∧ RpX H bn d x ∧ Shw d ∧ Q (.str d.shown) H
theorem call_reprA (hg : X.A.guards = some []) (hu : X.A.units + 64 < cLine) : CallR X (.builtin "repr") rReprA := by
  intro pins s σ H xs us Q I r ⟨x, d, ban, ex, hp, ⟨hs, hd, hz⟩, q⟩
  subst ex
  obtain ⟨u, rfl, rx⟩ := vals1 r
  have fin : ∀ (h' : Heap) (t : Tok) (tk : Nat), (∀ b o, s.heap.get? b = some o → h'.get? b = some o) → EP X pins σ Q (.str d.shown t) { s with heap := h', toks := tk } := fun h' t tk kp => ⟨.str d.shown, H, I.kept (t' := tk) kp, ⟨t, rfl⟩, q⟩
  have here : ∀ (t : Tok) (tk : Nat), EP X pins σ Q (.str d.shown t) { s with toks := tk } := fun t tk => fin s.heap t tk fun _ _ e => e
  have lst : ∀ (ds : List PyData) (a : Addr) (ys : List V), d = .list ds → H a = some (.lst ys) → RpAll H ban ds ys → wpAny (model X.prog X.w) X.A (PySem.call (.builtin "repr") [.ref a]) (EP X pins σ Q) (X.xe) s := by
    intro ds a ys ed h1 h3
    subst ed
    obtain ⟨z, its, n, rv, e⟩ := (show ObjOk X.prog X.w H s.heap a (.lst ys) from I.hok a _ h1)
    obtain ⟨as, g⟩ := RpAll.rd0 I ds ys its h3 rv
    have hz' : (listText (PyData.shownAll ds)).length ≤ sizeLine := by simpa only [PyData.shown] using hz
    obtain ⟨bs, hb, hk⟩ := RpAll.rk I ds ys its h3 rv (by simpa [PyData.showable] using hs) fun t ht => Nat.le_trans (listText_mem_le ht) hz'
    have hna := (rk_list e rfl rfl g hb hk).1
    have hd' : PyData.depthAll ds + 1 ≤ 50 := by simpa only [PyData.depth] using hd
    refine call_repr_slot (T := "list") (by omega) ⟨_, e, rfl⟩ F.slot_list_repr.toG ?_
    simp only [PyData.shown] at fin
    cases its with
    | nil =>
      cases g
      simp only [PyData.shownAll, listText_nil] at fin
      exact call_list_repr_empty ⟨_, e, rfl⟩ e rfl ⟨_, _, rfl, fin s.heap _ _ fun _ _ e => e⟩
    | cons x l =>
      exact call_list_reprK e rfl rfl hna (by simpa using hk.length_eq) (fun i y e => hk.item i y (by simpa using e)) hg (fun b _ => Clear.nil b) (by show X.A.units + 1 + _ < cLine; omega) (fun _ _ e => e) (fun h' u tk hk => ⟨_, _, rfl, fin h' u tk hk⟩) hz'
  have base : Rp H ban d x → wpAny (model X.prog X.w) X.A (PySem.call (.builtin "repr") [u]) (EP X pins σ Q) (X.xe) s := by
    intro hp
    cases d with
    | none => cases (show _ = V.non from hp); cases rx; exact PySem.P.repr_of_none (here _ _)
    | bool b => cases (show _ = V.bl b from hp); cases rx; exact PySem.P.repr_of_bool (here _ _)
    | int i => cases (show _ = V.int i from hp); obtain ⟨t, rfl⟩ := rx; exact PySem.P.repr_of_int (of_decide_eq_true hs) (here _ _)
    | str z => cases (show _ = V.str z from hp); obtain ⟨t, rfl⟩ := rx; exact PySem.P.repr_of_str (here _ _) hz
    | list ds =>
      obtain ⟨a, ys, rfl, h1, _, h3⟩ := hp
      cases rx
      exact lst ds a ys rfl h1 h3
    | tuple ds =>
      obtain ⟨a, ys, rfl, h1, h3⟩ := hp
      cases rx
      obtain ⟨z, its, rv, o, e, c, n, hdd⟩ := h1.rd.ok I.hok
      obtain ⟨as, g⟩ := RpAll.rd0 I ds ys its h3 rv
      have hz' : (tupleText (PyData.shownAll ds)).length ≤ sizeLine := by simpa only [PyData.shown] using hz
      obtain ⟨bs, hb, hk⟩ := RpAll.rk I ds ys its h3 rv (by simpa [PyData.showable] using hs) fun t ht => Nat.le_trans (tupleText_mem_le ht) hz'
      have rr : Reads s.heap (.ref a) (.tuple ds) as := .tuple e c hdd (by simpa using g)
      have hna : a ∉ bs := not_mem_of_deeper rr (by simp only [PyData.depth]; omega) hb
      have hd' : PyData.depthAll ds + 1 ≤ 50 := by simpa only [PyData.depth] using hd
      simp only [PyData.shown] at fin
      refine call_repr_slot (T := "tuple") (by omega) ⟨_, e, c⟩ F.slot_tuple_repr ?_
      exact call_tuple_reprK e c hdd hna (by simpa using hk) hg (fun b _ => Clear.nil b) (by show X.A.units + 1 + _ < cLine; omega) (fun _ _ e => e) (fun h' u tk hk => ⟨_, _, rfl, fin h' u tk hk⟩) hz'
    | dict kvs =>
      obtain ⟨rfl, a, rfl, h1, _⟩ := hp
      cases rx
      obtain ⟨z, hs', vs, kv, o, es, ep, e, ex, hdd, _, ps, _⟩ := dk_of I.hok h1
      cases kv
      have hes : es = #[] := by
        cases es with
        | mk l =>
          cases (show Pairs _ l [] from ps)
          rfl
      subst hes
      exact repr_of_reads' (.dict (as := []) (bs := []) e ex.1 hdd .nil .nil) hs (fun _ => by
        simp only [List.append_nil, List.mem_cons, List.not_mem_nil, or_false]
        exact fun z => (beq_eq_false_iff_ne.mp hs') z.symm) hg (by omega) (fun _ _ e => e) (fun h' u tk kp => fin h' u tk kp) hz
  rcases hp with h | ⟨a, ds, ys, rfl, rfl, h1, h3⟩
  · exact base h
  · cases rx
    exact lst ds a ys rfl h1 h3
theorem dc_repr : DCall rReprA fRepr := by
  intro bn H ds vs Q Qc nb p q k
  unfold fRepr at q
  split at q
  · cases p with | cons p t => cases t; exact ⟨_, _, bn, rfl, p, q.1, k (.str _) _ H (.refl _) rfl q.2⟩
  · exact q.elim
end
/-! ### the law's def, where it shows by repr -/
section
variable {P : Program} {w : World} {K : PySem.W.Frag} {mg : Str → Option Value} {base : Heap}
/-- a def that shows by repr -/
theorem fn_okG {ms : List Md} {nk k : Nat} {N ps : List Str} {b : AST} {x qual : Str} {st : Stmt} {f : Addr} {fd : FuncData} (F : Fun K x qual st f fd) (S : FnScope N ps (defScope st)) (hk : ms.length + nk = N.length) (hp : ms.length = ps.length)
    (hbody : ∀ (cdv : Value) (A : Around) (outer : List Env) (s : Shared) (H : Hp) (E : XK), A.guards = some [] → Room k (A.deeper (envOfC qual (defScope st) s.heap.objs.size f cdv)) → PSs (cxOf CX0 P w K mg base N qual (defScope st) f cdv A outer s H E).nox (defBody st) (cS (eE E) b)) : RunG P w K mg base (k + 1) f fd ps (spA ms (fnF ms nk b)) := by
  refine okG F S (fun vs H Q E h => ?_) fun cdv A outer s H vs Q E hg hr h => ⟨_, hbody cdv A outer s H E hg hr, fn_body hk h⟩
  obtain ⟨Φ, ds, n, Qa, xa, _, a, _⟩ := h
  rw [a.len.1, hp]
end
end TR
namespace TR
open PySem PySem.Spec PyProof.Rows L2
section
variable {X : Cx} {k : Nat} {f : Addr} {fd : FuncData} {ps : List Str} {ms : List Md} {F : AF} {x : Str} {p pos : Pos} {e : Expr} {es : List Expr} {aa : AA}
/-- in a def that may raise: a call that may raise -/
theorem ae_callX {E : XK} (G : FnOk X.prog X.w X.K X.mg X.base (L2.CX X.prog X.w) k f fd ps (spA ms F)) (hd : Md.deck ∉ ms) (hr : Room k X.A) (hg : Gl X x) (hm : X.mg x = some (.ref f)) (hk : PySem.W.keepIn X.K (.ref f) = true) (hb : Binds X.K fd ps []) (tk : Takes X (fun cls d _ H => E cls d H)) (ha : PA X (e :: es) (cA (eE E) aa)) (hdb : (x == ("__debug__" : Str)) = false := by decide) (he : starEach (e :: es) X.env = (false, eval e X.env) :: starEach es X.env := by rfl) (hpl : (backTo pos (starEach es X.env)).any (·.1) = false := by rfl) :
    PE X (.Call (.Name x p) (e :: es) [] pos) (cE (eE E) (aCall0 ms F aa)) := ae_callT (W := fun cls d _ H => E cls d H) G hd hr hg hm hk hb tk ha hdb he hpl
/-- a def that may raise, where it does not -/
theorem ae_call0C {Ec : EC} (G : FnOk X.prog X.w X.K X.mg X.base (L2.CX X.prog X.w) k f fd ps (spA ms F)) (hd : Md.deck ∉ ms) (hr : Room k X.A) (hg : Gl X x) (hm : X.mg x = some (.ref f)) (hk : PySem.W.keepIn X.K (.ref f) = true) (hb : Binds X.K fd ps []) (ha : PA X (e :: es) (cA Ec aa)) (hdb : (x == ("__debug__" : Str)) = false := by decide) (he : starEach (e :: es) X.env = (false, eval e X.env) :: starEach es X.env := by rfl) (hpl : (backTo pos (starEach es X.env)).any (·.1) = false := by rfl) :
    PE X (.Call (.Name x p) (e :: es) [] pos) (cE Ec (aCall0 ms (calm F) aa)) := ae_call0 (F := calm F) (fn_calm G) hd hr hg hm hk hb ha hdb he hpl
theorem ae_callC {Ec : EC} (G : FnOk X.prog X.w X.K X.mg X.base (L2.CX X.prog X.w) k f fd ps (spA ms F)) (hr : Room k X.A) (hg : Gl X x) (hm : X.mg x = some (.ref f)) (hk : PySem.W.keepIn X.K (.ref f) = true) (hb : Binds X.K fd ps []) (ha : PA X (e :: es) (cA Ec aa)) (hdb : (x == ("__debug__" : Str)) = false := by decide) (he : starEach (e :: es) X.env = (false, eval e X.env) :: starEach es X.env := by rfl) (hpl : (backTo pos (starEach es X.env)).any (·.1) = false := by rfl) :
    PE X (.Call (.Name x p) (e :: es) [] pos) (cE Ec (aCall ms (calm F) aa)) := ae_call (F := calm F) (fn_calm G) hr hg hm hk hb ha hdb he hpl
/-- a def that shows by repr, called -/
theorem ae_callG {Ec : EC} (G : RunG X.prog X.w X.K X.mg X.base k f fd ps (spA ms F)) (hp : ms.length = ps.length) (hgd : X.A.guards = some []) (hr : Room k X.A) (hg : Gl X x) (hm : X.mg x = some (.ref f)) (hk : PySem.W.keepIn X.K (.ref f) = true) (hb : Binds X.K fd ps []) (ha : PA X (e :: es) (cA Ec aa)) (hdb : (x == ("__debug__" : Str)) = false := by decide) (he : starEach (e :: es) X.env = (false, eval e X.env) :: starEach es X.env := by rfl) (hpl : (backTo pos (starEach es X.env)).any (·.1) = false := by rfl) :
    PE X (.Call (.Name x p) (e :: es) [] pos) (cE Ec (aCall ms (calm F) aa)) := by
  refine (pe_callG G (fun vs H Q E h => ?_) hgd hr hg hm hk hb ha hdb he hpl).sub fun σ H Q h => ?_
  · obtain ⟨Φ, ds, n, Qa, xa, _, a, _⟩ := h
    rw [a.len.1, hp]
  have key := call_ok h
  obtain ⟨Φ, E, xp, s, Qa, r, x, q, k⟩ := key
  refine ⟨Φ, E, xp, s, Qa, r, x, q, fun os E1 s1 vs H1 l1 r1 k1 p1 q1 => ?_⟩
  obtain ⟨Φ', ds, n, Qb, xa, h1, h2, h3, h4, h5⟩ := k os E1 s1 vs H1 l1 r1 k1 p1 q1
  exact ⟨Φ', ds, n, Qb, _, h1, h2, h3, h4, fun _ _ _ _ _ z => z⟩
end
end TR
namespace TR
open PySem PySem.Spec PyProof.Rows L2
section
variable {X : Cx} {pins : List (Addr × Obj)} {σ : L2.St} {H : Hp} {s : Shared}
theorem each_rp {bn : List Addr} (I : Inv X pins σ H s) : ∀ {ds : List PyData} {xs : List V} {us : List Value}, RpAll H bn ds xs → Vals xs us → PySem.W.EachIs (fun u (b : PyData × V) => RelV b.2 u ∧ Rp H bn b.1 b.2) us (ds.zip xs) ∧ PySem.W.EachIs (fun u (b : PyData × V) => ∃ as, Reads s.heap u b.1 as) us (ds.zip xs)
  | [], _, _, h, r => by cases (show _ = [] from h); cases r; exact ⟨.nil, .nil⟩
  | d :: ds, _, _, h, r => by
    obtain ⟨v, t, rfl, h1, h2⟩ := h
    cases r with
    | cons r1 r2 =>
      obtain ⟨g1, g2⟩ := each_rp I h2 r2
      exact ⟨.cons ⟨r1, h1⟩ g1, .cons (Rp.rd0 I d _ _ h1 r1) g2⟩
theorem each_out {bn : List Addr} : ∀ {us : List Value} {bs : List (PyData × V)}, PySem.W.EachIs (fun u (b : PyData × V) => RelV b.2 u ∧ Rp H bn b.1 b.2) us bs → Vals (bs.map (·.2)) us ∧ RpAll H bn (bs.map (·.1)) (bs.map (·.2))
  | _, _, .nil => ⟨.nil, rfl⟩
  | _, _, .cons h t => by
    obtain ⟨g1, g2⟩ := each_out t
    exact ⟨.cons h.1 g1, _, _, rfl, h.2, g2⟩
theorem zip_fst : ∀ {ds : List PyData} {xs : List V} {bn : List Addr}, RpAll H bn ds xs → (ds.zip xs).map (·.1) = ds
  | [], _, _, _ => rfl
  | d :: ds, _, _, h => by
    obtain ⟨v, t, rfl, _, h2⟩ := h
    show d :: (ds.zip t).map (·.1) = _
    rw [zip_fst h2]
end
section
variable {X : Cx}
def SrtOk (ds : List PyData) : Prop := PySem.W.AllAlike ds ∧ PySem.W.Sortable ds ∧ ∀ d ∈ ds, d.depth ≤ 50
abbrev srt (ds : List PyData) : List PyData := ds.mergeSort (PySem.W.dataLe false fun d => d)
def rSortedA (K : PySem.W.Frag) : List V → Hp → VK → Prop := fun vs H Q => rSortedTI K vs H Q ∨ ∃ (l : Addr) (xs : List V) (ds : List PyData) (bn : List Addr), vs = [.ref l] ∧ H l = some (.lst xs) ∧ RpAll H bn ds xs ∧ SrtOk ds ∧ ∀ ys p, RpAll H bn (srt ds) ys → H p = none → Q (.ref p) (upd H p (.lst ys))
theorem cr_sortedA (hu : X.A.units + 65 < cLine) : CallR X (.builtin "sorted") (rSortedA X.K) := by
  intro pins s σ H vs us Q I r h
  rcases h with h | ⟨l, xs, ds, bn, ev, hl, ra, ⟨hal, hso, hdp⟩, q⟩
  · exact cr_sortedTI pins s σ H vs us Q I r h
  subst ev
  rw [Vals.ref1 r]
  obtain ⟨z, its, n, rv, e⟩ := (show ObjOk X.prog X.w H s.heap l (.lst xs) from I.hok l _ hl)
  obtain ⟨g1, g2⟩ := each_rp I ra rv
  have zf := zip_fst ra
  refine PySem.W.sorted_data (enc := fun b : PyData × V => b.1) (bs := ds.zip xs) ⟨_, e, rfl, n, rfl⟩ g1 g2 (by rw [zf]; exact hal) (by rw [zf]; exact hso) (by rw [List.length_zip]; omega) (fun b hb => ?_) fun out h1 h2 => ?_
  · have : b.1 ∈ ds := zf ▸ List.mem_map_of_mem hb
    have := hdp _ this
    omega
  · obtain ⟨k1, k2⟩ := each_out h2
    obtain ⟨ep, he⟩ := PyProof.Rows.sortedAll_at s.heap its out.toArray
    have em : ((ds.zip xs).mergeSort (PySem.W.dataLe false fun b : PyData × V => b.1)).map (·.1) = srt ds := by
      have := List.map_mergeSort (r := PySem.W.dataLe false fun b : PyData × V => b.1) (s := PySem.W.dataLe false fun d : PyData => d) (f := (·.1)) (l := ds.zip xs) fun a _ b _ => rfl
      rw [this, zf]
    rw [em] at k2
    have hlen : (((ds.zip xs).mergeSort (PySem.W.dataLe false fun b : PyData × V => b.1)).map (·.2)).length ≤ sizeLine := by
      rw [List.length_map, List.length_mergeSort, List.length_zip]; omega
    exact ⟨.ref _, upd H (s.heap.objs.size + 1) (.lst _), I.laid (t' := s.toks) (fun _ _ => PyProof.Rows.sortedAll_old) (Nat.le_succ _) ⟨hlen, out, ep, k1, he⟩, rfl, q _ _ k2 (I.hok.fresh (Nat.le_succ _))⟩
def fSorted : List PyData → (PyData → Prop) → Prop
  | [.list ds], Q => SrtOk ds ∧ Q (.list (srt ds))
  | [.tuple ds], Q => ∃ ns : List Int, ds = ns.map PyData.int ∧ ∀ ms : List Int, ms.Perm ns → ms.Pairwise (· ≤ ·) → Q (.list (ms.map PyData.int))
  | _, _ => False
theorem rp_ints {H : Hp} {bn : List Addr} : ∀ {ns : List Int} {xs : List V}, RpAll H bn (ns.map PyData.int) xs → xs = ns.map V.int
  | [], _, h => h
  | n :: ns, _, h => by
    obtain ⟨v, t, rfl, h1, h2⟩ := h
    rw [rp_ints h2, show v = V.int n from h1]
    rfl
theorem ints_rp {H : Hp} {bn : List Addr} : ∀ {ns : List Int}, RpAll H bn (ns.map PyData.int) (ns.map V.int)
  | [] => rfl
  | _ :: _ => ⟨_, _, rfl, rfl, ints_rp⟩
theorem dc_sorted {K : PySem.W.Frag} : DCallF (rSortedA K) fSorted := by
  intro bn H ds vs Q Qc nb p q k
  unfold fSorted at q
  split at q
  · cases p with
    | cons p t =>
      cases t
      obtain ⟨a, xs, rfl, e, ra⟩ := p.lst
      exact .inr ⟨a, xs, _, bn, rfl, e, ra, q.1, fun ys p r hp => k _ ys p _ hp (same_upd hp) upd_same r q.2⟩
  · cases p with
    | cons p t =>
      cases t
      obtain ⟨a, xs, rfl, e, ra⟩ := p.tup
      obtain ⟨ns, rfl, q⟩ := q
      cases rp_ints ra
      exact .inl ⟨a, ns, rfl, .inl e.rd, fun ms p h1 h2 hp => k _ _ p _ hp (same_upd hp) upd_same ints_rp (q ms h1 h2)⟩
  · exact q.elim
/-! ### min, max of a list -/
theorem rp_get {H : Hp} {bn : List Addr} : ∀ {ds : List PyData} {xs : List V} {us : List Value} {i : Nat} {u : Value}, RpAll H bn ds xs → Vals xs us → us[i]? = some u → ∃ d x, ds[i]? = some d ∧ xs[i]? = some x ∧ Rp H bn d x ∧ RelV x u
  | [], _, _, _, _, h, r, e => by cases (show _ = [] from h); cases r; cases e
  | d :: ds, _, _, i, _, h, r, e => by
    obtain ⟨v, t, rfl, h1, h2⟩ := h
    cases r with
    | cons r1 r2 =>
      cases i with
      | zero => cases e; exact ⟨_, _, rfl, rfl, h1, r1⟩
      | succ i => obtain ⟨a, b, g⟩ := rp_get h2 r2 e; exact ⟨a, b, g⟩
def rMinA (m : PyData → List PyData → PyData) : List V → Hp → VK → Prop := fun vs H Q => ∃ (l : Addr) (xs : List V) (d : PyData) (ds : List PyData) (bn : List Addr), vs = [.ref l] ∧ H l = some (.lst xs) ∧ RpAll H bn (d :: ds) xs ∧ PySem.W.AlikeAll (d :: ds) ∧ PyData.depthAll (d :: ds) ≤ 50 ∧ ∀ y, Rp H bn (m d ds) y → Q y H
theorem cr_minA (hc : X.calm = true) (hu : X.A.units + 65 < cLine) : CallR X (.builtin "min") (rMinA PySem.W.minD) := by
  intro pins s σ H vs us Q I r ⟨l, xs, d, ds, bn, ev, hl, ra, hal, hdp, q⟩
  subst ev
  rw [Vals.ref1 r]
  obtain ⟨z, its, n, rv, e⟩ := (show ObjOk X.prog X.w H s.heap l (.lst xs) from I.hok l _ hl)
  obtain ⟨as, rd⟩ := RpAll.rd0 I _ xs its ra rv
  refine PySem.W.min_list_data (I.ok.hd hc) ⟨_, e, rfl, n, rfl⟩ (by simpa using rd) hal (by omega) fun i v h' tk bs e1 e2 kp => ?_
  obtain ⟨a, x, _, _, rp, rl⟩ := rp_get ra rv (i := i) (u := v) (by simpa using e1)
  obtain ⟨cs, r1⟩ := Rp.rd0 I a x v rp rl
  obtain ⟨e3, _⟩ := reads_det (fun b o e _ => kp b o e) r1 e2
  exact ⟨x, H, I.kept (t' := tk) kp, rl, q x (e3 ▸ rp)⟩
theorem cr_maxA (hc : X.calm = true) (hu : X.A.units + 65 < cLine) : CallR X (.builtin "max") (rMinA PySem.W.maxD) := by
  intro pins s σ H vs us Q I r ⟨l, xs, d, ds, bn, ev, hl, ra, hal, hdp, q⟩
  subst ev
  rw [Vals.ref1 r]
  obtain ⟨z, its, n, rv, e⟩ := (show ObjOk X.prog X.w H s.heap l (.lst xs) from I.hok l _ hl)
  obtain ⟨as, rd⟩ := RpAll.rd0 I _ xs its ra rv
  refine PySem.W.max_list_data (I.ok.hd hc) ⟨_, e, rfl, n, rfl⟩ (by simpa using rd) hal (by omega) fun i v h' tk bs e1 e2 kp => ?_
  obtain ⟨a, x, _, _, rp, rl⟩ := rp_get ra rv (i := i) (u := v) (by simpa using e1)
  obtain ⟨cs, r1⟩ := Rp.rd0 I a x v rp rl
  obtain ⟨e3, _⟩ := reads_det (fun b o e _ => kp b o e) r1 e2
  exact ⟨x, H, I.kept (t' := tk) kp, rl, q x (e3 ▸ rp)⟩
def fMinMax (m : PyData → List PyData → PyData) : List PyData → (PyData → Prop) → Prop
  | [.list (d :: ds)], Q => PySem.W.AlikeAll (d :: ds) ∧ PyData.depthAll (d :: ds) ≤ 50 ∧ Q (m d ds)
  | _, _ => False
abbrev fMin := fMinMax PySem.W.minD
abbrev fMax := fMinMax PySem.W.maxD
theorem dc_minmax {m : PyData → List PyData → PyData} : DCall (rMinA m) (fMinMax m) := by
  intro bn H ds vs Q Qc nb p q k
  unfold fMinMax at q
  split at q
  · cases p with
    | cons p t =>
      cases t
      obtain ⟨a, xs, rfl, e, ra⟩ := p.lst
      exact ⟨a, xs, _, _, bn, rfl, e, ra, q.1, q.2.1, fun y r => k _ y H (.refl _) r q.2.2⟩
  · exact q.elim
end
end TR
namespace TR
open PySem PySem.Spec PyProof.Rows L2
theorem vals_flat {xs : List V} {us : List Value} (r : Vals xs us) : ∀ n : Nat, Vals (List.replicate n xs).flatten (List.replicate n us).flatten
  | 0 => .nil
  | n + 1 => by
    rw [List.replicate_succ, List.replicate_succ, List.flatten_cons, List.flatten_cons]
    exact r.append (vals_flat r n)
theorem rp_flat {H : Hp} {bn : List Addr} {ds : List PyData} {xs : List V} (r : RpAll H bn ds xs) : ∀ n : Nat, RpAll H bn (List.replicate n ds).flatten (List.replicate n xs).flatten
  | 0 => rfl
  | n + 1 => by
    rw [List.replicate_succ, List.replicate_succ, List.flatten_cons, List.flatten_cons]
    exact r.app (rp_flat r n)
section
variable {X : Cx} {Ec : EC}
theorem op_repN : OpR X (binaryOp .Mult) (fun x y H Q => ∃ a xs n, x = .ref a ∧ y = .int n ∧ H a = some (.lst xs) ∧ -1000 ≤ n ∧ n ≤ 1000 ∧ xs.length * n.toNat ≤ 256 ∧ ∀ p H', H p = none → Same H H' → H' p = some (.lst (List.replicate n.toNat xs).flatten) → Q (.ref p) H') := by
  intro pins s σ H x y v u Q I rx ry ⟨a, xs, n, ex, ey, ha, n1, n2, n3, k⟩
  subst ex ey; cases rx
  obtain ⟨t, rfl⟩ := ry
  obtain ⟨_, us, m, ru, lu, eu⟩ := I.lstM ha
  have hsz : us.toArray.size * n.toNat ≤ 256 := by
    rw [List.size_toArray, ← ru.length]; exact n3
  refine wpAny_binaryOp_repeat_ref (T := "list") (U := "int") (by decide) ⟨_, eu, rfl⟩ (fun s' => typeIs_int s' n t) noFill_list_mul F.fills_int_mul F.slot_int_rmul repeat_list F.slot_int_index.lookup
    (call_meets F.slot_int_rmul (typeIs_int s n t) F.entry_int_rmul (F.args_int_rmul_2 _ _) (lm_int_rmul_list_any n t a us.toArray m _ _)
      ⟨eu, rfl, ⟨_, eu, rfl⟩, call_meets F.slot_list_mul ⟨_, eu, rfl⟩ F.entry_list_mul (F.args_list_mul_2 _ _)
        (lm_list_mul_any a us.toArray m _ _ n t (by simp [Builtin.List.listFitsIndex]; omega) (by omega) (by rw [notLongL (Nat.le_trans hsz (by decide))]; exact Bool.false_ne_true))
        ⟨eu, ?_⟩⟩)
  rw [listMul_foldl_if]
  have hf : H s.heap.objs.size = none := I.hok.fresh (Nat.le_refl _)
  have hl : (List.replicate n.toNat xs).flatten.length ≤ sizeLine := by
    have : (List.replicate n.toNat xs).flatten.length = xs.length * n.toNat := by
      simp [Nat.mul_comm]
    rw [this]
    exact Nat.le_trans n3 (by decide)
  exact ⟨.ref s.heap.objs.size, _, I.laid (t' := s.toks) (o := .lst _) (fun b u e => Heap.get?_push_of_some _ e) (Nat.le_refl _) ⟨hl, _, 0, vals_flat ru _, Heap.get?_push_size _ rfl⟩, rfl, k _ _ hf (same_upd hf) upd_same⟩
def vRepL : PyData → PyData → (PyData → Prop) → Prop
  | .list xs, .int n, Q => -1000 ≤ n ∧ n ≤ 1000 ∧ xs.length * n.toNat ≤ 256 ∧ Q (.list (List.replicate n.toNat xs).flatten)
  | _, _, _ => False
theorem af_rep (i : Nat) {a b : Expr} {aa ab : AO} {pos : Pos} (ha : PE X a (cO Ec aa)) (hb : PE X b (cO Ec ab)) : PE X (.BinOp a .Mult b pos) (cF i Ec (a2 vRepL aa ab)) := by
  refine (pe_op op_repN ha hb).sub fun σ H Q ⟨Φ, E, xp, s, Qa, r0, x0, q, k⟩ => ⟨Φ, E, xp, s, _, r0, x0, q, fun o1 E1 s1 v1 H1 l1 r1 k1 p1 q1 => ⟨Φ, E1, xp, s1, _, r1, x0, q1, fun o2 E2 s2 v2 H2 l2 r2 k2 p2 q2 => ?_⟩⟩
  obtain ⟨d1, e1, q2⟩ := rs_get q2
  obtain ⟨d2, e2, q2⟩ := rs_get q2
  have g1 := r2.res (p1.kb r1.lst k2 l2) e1
  have g2 := r2.res p2 e2
  unfold vRepL at q2
  split at q2
  · obtain ⟨a, xs, rfl, t1, w1⟩ := g1.lst
    rw [g2.int]
    refine ⟨a, xs, _, rfl, rfl, t1, q2.1, q2.2.1, by rw [w1.len]; exact q2.2.2.1, fun p H3 hp m e => k _ E2 s2 p _ H3 (l2.trans l1) (r2.same m) (r2.add i hp m e) ((k1.trans l1 k2).trans (Le.refl _) (KB.of_same m)) e (RpAll.same (RpAll.fresh (fun a ha => ?_) (rp_flat w1 _)) m) (r2.newban hp) q2.2.2.2⟩
    rcases mem_ban_add ha with h | h
    · rw [h]; exact .inr hp
    · exact .inl h
  · exact q2.elim
end
end TR
namespace TR
open PySem PySem.Spec PyProof.Rows L2
/-! ### == and != of two texts -/
def vEqS : PyData → PyData → (PyData → Prop) → Prop
  | .str a, .str b, Q => Q (.bool (decide (a = b)))
  | _, _, _ => False
def vNeS : PyData → PyData → (PyData → Prop) → Prop
  | .str a, .str b, Q => Q (.bool (!decide (a = b)))
  | _, _, _ => False
theorem rpx_str {H : Hp} {bn : List Addr} {a : Str} {v : V} (h : RpX H bn (.str a) v) : v = .str a := by
  rcases h with h | ⟨_, _, _, e, _⟩
  · exact h
  · cases e
theorem dec_strS (a b : Str) : decide (V.str a = V.str b) = decide (a = b) := decide_eq_decide.mpr ⟨fun e => by cases e; rfl, fun e => by rw [e]⟩
theorem dop_eqS : DOp rEq vEqS := by
  intro bn H d1 d2 v1 v2 Q Qc nb p1 p2 q k
  unfold vEqS at q
  split at q
  · next a b =>
    obtain rfl := rpx_str p1
    obtain rfl := rpx_str p2
    exact ⟨rfl, by rw [dec_strS]; exact k (.bool _) _ H (.refl _) rfl q⟩
  · exact q.elim
theorem dop_neS : DOp rNe vNeS := by
  intro bn H d1 d2 v1 v2 Q Qc nb p1 p2 q k
  unfold vNeS at q
  split at q
  · next a b =>
    obtain rfl := rpx_str p1
    obtain rfl := rpx_str p2
    exact ⟨rfl, by rw [dec_strS]; exact k (.bool _) _ H (.refl _) rfl q⟩
  · exact q.elim
end TR
namespace TR
open PySem PySem.Spec PyProof.Rows L2
/-! ### data: small facts -/
theorem lim {n : Nat} (h : n ≤ 1000) : n ≤ sizeLine := Nat.le_of_lt (small1000 h)
theorem pow_i {a b : Int} {Q : PyData → Prop} (h : CPow a b) : vPow (.int a) (.int b) Q = Q (.int (a ^ b.toNat)) := by
  show (CPow a b ∧ Q (.int (a ^ b.toNat))) = _
  rw [eq_iff_iff]
  exact ⟨fun h => h.2, fun q => ⟨h, q⟩⟩
theorem pow_12 {Q : PyData → Prop} : vPow (.int 10) (.int 12) Q = Q (.int 1000000000000) := pow_i (by unfold CPow; decide)
theorem pow_59 {Q : PyData → Prop} : vPow (.int 10) (.int 59) Q = Q (.int (10 ^ 59)) := pow_i (by unfold CPow; decide)
theorem pow_9 {Q : PyData → Prop} : vPow (.int 10) (.int 9) Q = Q (.int 1000000000) := pow_i (by unfold CPow; decide)
theorem pow_11 {Q : PyData → Prop} : vPow (.int 10) (.int 11) Q = Q (.int 100000000000) := pow_i (by unfold CPow; decide)
theorem at_get {α : Type} {l : List α} {k : Nat} (h : k < l.length) : atI l (k : Int) = some l[k] := atI_nat (List.getElem?_eq_getElem h)
theorem at_some {l : List PyData} {r : Int} (h0 : 0 ≤ r) (h1 : r < (l.length : Int)) : ∃ d, atI l r = some d ∧ d ∈ l := by
  obtain ⟨k, rfl⟩ := Int.eq_ofNat_of_zero_le h0
  have hk : k < l.length := by omega
  exact ⟨l[k], at_get hk, List.getElem_mem hk⟩
theorem at_last {α : Type} {l : List α} {a : α} : atI (l ++ [a]) (-1) = some a := by
  unfold atI ixN
  rw [if_neg (by decide), if_pos (by rw [List.length_append, List.length_singleton]; omega)]
  show (l ++ [a])[_]? = _
  rw [show ((-1 : Int) + ((l ++ [a]).length : Nat)).toNat = l.length by rw [List.length_append, List.length_singleton]; omega]
  simp
theorem cut_to {xs : List PyData} {k : Nat} (h : k ≤ xs.length) : cutD xs none (some (k : Int)) = xs.take k := by
  unfold cutD
  rw [HT.sIx_none, HT.sIx_nat, Nat.min_eq_left h]
  rfl
theorem cut_from {xs : List PyData} {k : Nat} : cutD xs (some (k : Int)) none = xs.drop k := by
  unfold cutD
  rw [HT.sIx_none, HT.sIx_nat]
  by_cases h : k ≤ xs.length
  · rw [Nat.min_eq_left h]
    exact List.take_of_length_le (by rw [List.length_drop]; exact Nat.le_refl _)
  · rw [Nat.min_eq_right (by omega), List.drop_of_length_le (Nat.le_refl _), List.drop_of_length_le (by omega), List.take_nil]
theorem cut_mid {xs : List PyData} {j k : Nat} (h1 : j ≤ k) (h : k ≤ xs.length) : cutD xs (some (j : Int)) (some (k : Int)) = (xs.drop j).take (k - j) := by
  unfold cutD
  rw [HT.sIx_nat, HT.sIx_nat, Nat.min_eq_left h, Nat.min_eq_left (by omega)]
theorem rng_d (n : Nat) : rngD 0 n = (rng n).map .int := by
  unfold rngD rng
  rw [List.map_map]
  refine List.map_congr_left fun k _ => ?_
  show PyData.int (0 + (k : Int)) = .int k
  rw [Int.zero_add]
theorem rng_d' (n : Nat) : rngD 0 ((n : Int) - 0).toNat = (rng n).map .int := by
  rw [show ((n : Int) - 0).toNat = n by omega, rng_d]
theorem ints_some (l : List Int) : (intsOf (l.map .int)).isSome = true := by rw [ints_of]; rfl
theorem eqvL_nil : ∀ l : List PyData, PyData.eqv (.list l) (.list []) = l.isEmpty
  | [] => rfl
  | _ :: _ => rfl
theorem eqvAll_ints : ∀ a b : List Int, PyData.eqvAll (a.map .int) (b.map .int) = decide (a = b)
  | [], [] => rfl
  | [], _ :: _ => rfl
  | _ :: _, [] => rfl
  | x :: a, y :: b => by
    show ((x == y) && PyData.eqvAll (a.map .int) (b.map .int)) = _
    rw [eqvAll_ints a b]
    by_cases h : x = y
    · subst h; simp
    · simp [h]
theorem eqv_rk (a b : List Int) : PyData.eqv (.tuple (a.map .int)) (.tuple (b.map .int)) = decide (a = b) := eqvAll_ints a b
/-- what may be compared -/
def Sd (k : Nat) (d : PyData) : Prop := d.canLay0 = true ∧ d.depth ≤ k
theorem Sd.shaped {k : Nat} {d : PyData} (h : Sd k d) (hk : k ≤ 64 := by decide) : SeqAt.shaped d = true := by
  show (d.canLay0 && decide (d.depth ≤ 64)) = true
  rw [h.1, decide_eq_true (Nat.le_trans h.2 hk)]
  rfl
theorem Sd.mono {k m : Nat} {d : PyData} (h : Sd k d) (hk : k ≤ m) : Sd m d := ⟨h.1, Nat.le_trans h.2 hk⟩
theorem sd_int {k : Nat} (i : Int) : Sd k (.int i) := ⟨rfl, Nat.zero_le _⟩
theorem sd_bool {k : Nat} (b : Bool) : Sd k (.bool b) := ⟨rfl, Nat.zero_le _⟩
theorem sd_none {k : Nat} : Sd k .none := ⟨rfl, Nat.zero_le _⟩
theorem sd_str {k : Nat} (x : Str) (h : (PyData.str x).canLay0 = true) : Sd k (.str x) := ⟨h, Nat.zero_le _⟩
theorem sd_all {k : Nat} : ∀ {ds : List PyData}, (∀ d ∈ ds, Sd k d) → PyData.canLayAll0 ds = true ∧ PyData.depthAll ds ≤ k
  | [], _ => ⟨rfl, Nat.zero_le _⟩
  | d :: ds, h => by
    obtain ⟨h1, h2⟩ := sd_all fun e he => h e (List.mem_cons_of_mem _ he)
    obtain ⟨g1, g2⟩ := h d List.mem_cons_self
    refine ⟨?_, Nat.max_le.mpr ⟨g2, h2⟩⟩
    show (d.canLay0 && PyData.canLayAll0 ds) = true
    rw [g1, h1]; rfl
theorem sd_list {k : Nat} {ds : List PyData} (h : ∀ d ∈ ds, Sd k d) : Sd (k + 1) (.list ds) := by
  obtain ⟨h1, h2⟩ := sd_all h
  exact ⟨h1, by show PyData.depthAll ds + 1 ≤ _; omega⟩
theorem sd_tup {k : Nat} {ds : List PyData} (h : ∀ d ∈ ds, Sd k d) : Sd (k + 1) (.tuple ds) := by
  obtain ⟨h1, h2⟩ := sd_all h
  exact ⟨h1, by show PyData.depthAll ds + 1 ≤ _; omega⟩
theorem sd_rk {k : Nat} (r : List Int) : Sd (k + 1) (.tuple (r.map .int)) := sd_tup fun d h => by
  obtain ⟨i, _, rfl⟩ := List.mem_map.mp h
  exact sd_int i
theorem sd_ints {k : Nat} (r : List Int) : Sd (k + 1) (.list (r.map .int)) := sd_list fun d h => by
  obtain ⟨i, _, rfl⟩ := List.mem_map.mp h
  exact sd_int i
/-! ### sorted ints -/
theorem sorted_uniq : ∀ {a b : List Int}, a.Perm b → a.Pairwise (· ≤ ·) → b.Pairwise (· ≤ ·) → a = b
  | [], _, p, _, _ => p.nil_eq
  | x :: a, [], p, _, _ => absurd p.length_eq (by simp)
  | x :: a, y :: b, p, ha, hb => by
    have hx : x = y := by
      have m1 : x ∈ y :: b := p.mem_iff.mp List.mem_cons_self
      have m2 : y ∈ x :: a := p.mem_iff.mpr List.mem_cons_self
      rcases List.mem_cons.mp m1 with e | m1
      · exact e
      rcases List.mem_cons.mp m2 with e | m2
      · exact e.symm
      have h1 := (List.pairwise_cons.mp hb).1 x m1
      have h2 := (List.pairwise_cons.mp ha).1 y m2
      omega
    subst hx
    rw [sorted_uniq p.cons_inv (List.pairwise_cons.mp ha).2 (List.pairwise_cons.mp hb).2]
def isort (ns : List Int) : List Int := ns.mergeSort fun a b => decide (a ≤ b)
theorem isort_perm (ns : List Int) : (isort ns).Perm ns := List.mergeSort_perm _ _
theorem isort_sorted (ns : List Int) : (isort ns).Pairwise (· ≤ ·) := by
  have := List.pairwise_mergeSort (le := fun a b : Int => decide (a ≤ b)) (fun a b c h1 h2 => by simp at *; omega) (fun a b => by simp; omega) ns
  exact this.imp fun h => by simpa using h
theorem sortedT_ok {ns : List Int} {Q : PyData → Prop} (q : Q (.list ((isort ns).map .int))) : fSorted [.tuple (ns.map .int)] Q := ⟨ns, rfl, fun ms p s => by rw [sorted_uniq (p.trans (isort_perm ns).symm) s (isort_sorted ns)]; exact q⟩
/-- a comprehension that draws: at most c draws an item -/
theorem lc_draw {α β : Type} {it : AIt} {b : AB} {a : AE} {vs : List Nat} {Q : PyData → AS → Prop} {sl : List (Option AV)} (f : α → PyData) (g : α → β → PyData) (P : α → β → Prop) (c B : Nat) (hc : ∀ n, it.chk ⟨sl, n⟩) : ∀ (l : List α) (acc : List PyData) (k : Nat), acc.length + l.length ≤ sizeLine → k + c * l.length ≤ B →
    (∀ x ∈ l, ∀ k', k' + c ≤ B → ∀ K : PyData → AS → Prop, (∀ y s2, P x y → back vs ⟨sl, k'⟩ s2 = ⟨sl, s2.n⟩ → s2.n ≤ k' + c → K (g x y) s2) → b (f x) ((⟨sl, k'⟩ : AS).wipe vs) fun s2 => a x0 s2 K) →
    (∀ (ps : List (α × β)) (k' : Nat), ps.map (·.1) = l → (∀ p ∈ ps, P p.1 p.2) → k' ≤ k + c * l.length → Q (.list (acc ++ ps.map fun p => g p.1 p.2)) ⟨sl, k'⟩) → lcL it b tYesA a vs Q (l.map f) acc ⟨sl, k⟩
  | [], acc, k, _, _, _, q => ⟨hc k, by have := q [] k rfl (fun _ h => nomatch h) (by omega); rw [List.map_nil, List.append_nil] at this; exact this⟩
  | x :: l, acc, k, hl, hB, h, q => by
    rw [List.length_cons] at hl hB
    rw [Nat.mul_add, Nat.mul_one] at hB
    have h1 := h x List.mem_cons_self k (by omega)
    refine ⟨hc k, h1 _ fun y s2 hy e hk => ⟨by omega, ?_⟩⟩
    rw [e]
    refine lc_draw f g P c B hc l (acc ++ [g x y]) s2.n (by rw [List.length_append]; simp only [List.length_cons, List.length_nil]; omega) (by omega) (fun z hz => h z (List.mem_cons_of_mem _ hz)) fun ps k' hp hP hk' => ?_
    have := q ((x, y) :: ps) k' (by rw [List.map_cons, hp]) (fun p hp' => (List.mem_cons.mp hp').elim (fun e => e ▸ hy) (hP p)) (by rw [List.length_cons, Nat.mul_add, Nat.mul_one]; omega)
    rw [List.map_cons] at this
    rw [List.append_assoc]
    exact this
theorem sPar_v {i j : Nat} {a b : AE} {xp : XP} {D : AEnds} {s : AS} : sPar i j (lCons (oV a) (lCons (oV b) lNil)) xp D s = a xp s fun x s1 => b xp s1 fun y s2 => D.nx ((s2.set i (.dat x)).set j (.dat y)) := rfl
end TR
namespace TR
open PySem PySem.Spec PyProof.Rows L2
/-! ### dicts that are built here: keys ints or texts -/
def dFind (kvs : List (PyData × PyData)) (k : Key) : Option PyData := (kvs.find? fun p => decide (keyD p.1 = some k)).map (·.2)
def dPut (kvs : List (PyData × PyData)) (kd : PyData) (k : Key) (d : PyData) : List (PyData × PyData) :=
  if (kvs.any fun p => decide (keyD p.1 = some k)) = true then kvs.map (fun p => if keyD p.1 = some k then (p.1, d) else p) else kvs ++ [(kd, d)]
theorem key_v {H : Hp} {bn : List Addr} {d : PyData} {k : Key} {v : V} (e : keyD d = some k) (r : Rp H bn d v) : v = kV k := by
  cases d with
  | int i => cases e; exact r
  | str x => cases e; exact r
  | none => cases e
  | bool _ => cases e
  | list _ => cases e
  | tuple _ => cases e
  | dict _ => cases e
theorem krel_val {H : Hp} {bn : List Addr} (k : Key) : ∀ {kvs : List (PyData × PyData)} {ks : List (Key × V)}, KRel H bn kvs ks → (dFind kvs k = none ∧ valV ks k = none) ∨ ∃ d v, dFind kvs k = some d ∧ valV ks k = some v ∧ Rp H bn d v
  | [], _, .nil => .inl ⟨rfl, rfl⟩
  | p :: kvs, q :: ks, .cons e t => by
    by_cases h : q.1 = k
    · refine .inr ⟨p.2, q.2, ?_, valV_pos h, e.2⟩
      unfold dFind
      rw [List.find?_cons_of_pos (by rw [e.1, h]; simp)]; rfl
    · rw [valV_neg h]
      have : dFind (p :: kvs) k = dFind kvs k := by
        unfold dFind
        rw [List.find?_cons_of_neg (by rw [e.1]; simpa using h)]
      rw [this]
      exact krel_val k t
theorem krel_any {H : Hp} {bn : List Addr} (k : Key) : ∀ {kvs : List (PyData × PyData)} {ks : List (Key × V)}, KRel H bn kvs ks → (kvs.any fun p => decide (keyD p.1 = some k)) = (ks.any fun kv => decide (kv.1 = k))
  | [], _, .nil => rfl
  | p :: kvs, q :: ks, .cons e t => by
    rw [List.any_cons, List.any_cons, krel_any k t, e.1]
    congr 1
    exact decide_eq_decide.mpr ⟨fun h => Option.some.inj h, fun h => by rw [h]⟩
theorem krel_map {H : Hp} {bn : List Addr} {k : Key} {d : PyData} {v : V} (r : Rp H bn d v) : ∀ {kvs : List (PyData × PyData)} {ks : List (Key × V)}, KRel H bn kvs ks → KRel H bn (kvs.map fun p => if keyD p.1 = some k then (p.1, d) else p) (ks.map fun kv => if kv.1 = k then (kv.1, v) else kv)
  | [], _, .nil => .nil
  | p :: kvs, q :: ks, .cons e t => by
    refine .cons ?_ (krel_map r t)
    dsimp only
    by_cases h : q.1 = k
    · rw [if_pos h, if_pos (by rw [e.1, h])]; exact ⟨e.1, r⟩
    · rw [if_neg h, if_neg (by rw [e.1]; intro z; exact h (Option.some.inj z))]; exact e
theorem krel_app {H : Hp} {bn : List Addr} {kd d : PyData} {k : Key} {v : V} (hk : keyD kd = some k) (r : Rp H bn d v) : ∀ {kvs : List (PyData × PyData)} {ks : List (Key × V)}, KRel H bn kvs ks → KRel H bn (kvs ++ [(kd, d)]) (ks ++ [(k, v)])
  | [], _, .nil => .cons ⟨hk, r⟩ .nil
  | _ :: _, _, .cons e t => .cons e (krel_app hk r t)
theorem krel_put {H : Hp} {bn : List Addr} {kd d : PyData} {k : Key} {v : V} {kvs : List (PyData × PyData)} {ks : List (Key × V)} (h : KRel H bn kvs ks) (hk : keyD kd = some k) (r : Rp H bn d v) : KRel H bn (dPut kvs kd k d) (putK ks k v) := by
  unfold dPut putK
  rw [krel_any k h]
  split
  · exact krel_map r h
  · exact krel_app hk r h
theorem krel_len {H : Hp} {bn : List Addr} : ∀ {kvs : List (PyData × PyData)} {ks : List (Key × V)}, KRel H bn kvs ks → ks.length = kvs.length
  | [], _, .nil => rfl
  | _ :: _, _, .cons _ t => by rw [List.length_cons, List.length_cons, krel_len t]
section
variable {Φ : Fx} {E : OE} {s : AS} {σ : L2.St} {H : Hp}
theorem Rel.mutG (r : Rel Φ E s σ H) {i : Nat} {a : Addr} {o u : HO} {x : AV} (hi : i < s.sl.length) (hσ : σ[i]? = some (some (.ref a))) (m : (i, a) ∈ E.R) (e : H a = some o) (mo : Mu o) (mu : Mu u) (rx : RelS Φ E (upd H a u) i x (.ref a)) : Rel Φ E (s.set i x) σ (upd H a u) ∧ KB E H (upd H a u) := by
  have ac : a ∈ chg E := List.mem_append_right _ (List.mem_map.mpr ⟨_, m, rfl⟩)
  have ab : a ∈ ban Φ E := List.mem_append_left _ ac
  obtain ⟨_, g1, g2, g3⟩ := r.own i a m
  have up : ∀ {b : Addr} {o : HO}, b ≠ a → H b = some o → upd H a u b = some o := fun h e => by rw [upd_ne h]; exact e
  have kb : KB E H (upd H a u) := fun b o h n => up (fun z => n (z ▸ ac)) h
  refine ⟨⟨by show (s.sl.set i _).length = _; rw [List.length_set]; exact r.len, fun j y hy => ?_, fun d p q h => ?_, fun j b h => ?_, r.inj, fun b o h1 h2 => up (fun z => ?_) (r.fr b o h1 h2), r.dk0, r.alive, fun x hx => Rp.updl ab e (r.held x hx) mo, fun x hx => ?_, r.znd⟩, kb⟩
  · by_cases ej : i = j
    · subst ej
      have hx2 : (s.sl.set i (some x))[i]? = some (some y) := hy
      rw [List.getElem?_set_self hi] at hx2
      cases hx2
      exact ⟨_, hσ, rx⟩
    · have hx2 : (s.sl.set i (some x))[j]? = some (some y) := hy
      rw [List.getElem?_set_ne ej] at hx2
      obtain ⟨v, h1, h2⟩ := r.val j y hx2
      refine ⟨v, h1, ?_⟩
      cases y with
      | dat d => exact Rp.updl ab e (show Rp H (ban Φ E) d v from h2) mo
      | deck => exact h2
      | exc x =>
        obtain ⟨b, da, e1, e2, h3, h4⟩ := h2
        exact ⟨b, da, e1, e2, XRep.updl ab e h3 mo, h4⟩
      | own _ =>
        obtain ⟨b, zs, e1, m1, h3, h4⟩ := h2
        exact ⟨b, zs, e1, m1, up (fun z => ej (r.inj i j a m (z ▸ m1))) h3, RpAll.updl ab e h4 mo⟩
      | dct _ =>
        obtain ⟨b, ks, e1, m1, h3, h4⟩ := h2
        exact ⟨b, ks, e1, m1, up (fun z => ej (r.inj i j a m (z ▸ m1))) h3, h4.mono fun _ _ h => Rp.updl ab e h mo⟩
      | bor _ =>
        rcases h2 with h2 | ⟨b, ds, zs, e1, e2, h3, h5, h6⟩
        · exact .inl (Rp.updl ab e h2 mo)
        · exact .inr ⟨b, ds, zs, e1, e2, up (fun z => g1 (z ▸ h5)) h3, h5, RpAll.updl ab e h6 mo⟩
  · obtain ⟨h1, h2⟩ := r.dk d p q h
    rw [h] at g2
    simp only [dkl, List.mem_cons, List.not_mem_nil, or_false, not_or] at g2
    exact ⟨h1.updl' g2.1 g2.2.1 g2.2.2, h2⟩
  · by_cases z : b = a
    · subst z
      exact ⟨⟨_, upd_same, mu⟩, (r.own j b h).2⟩
    · obtain ⟨⟨zs, h1, mu2⟩, h2⟩ := r.own j b h
      exact ⟨⟨zs, up z h1, mu2⟩, h2⟩
  · rw [z, g3] at h1; cases h1
  · obtain ⟨z1, z2, z3⟩ := r.zz x hx
    exact ⟨up (fun z => z2 (z ▸ ac)) z1, z2, z3⟩
end
def slotD (s : AS) (i : Nat) (k : List (PyData × PyData) → Prop) : Prop := match s.sl[i]? with
  | some (some (.dct kvs)) => k kvs
  | _ => False
theorem slotD_get {s : AS} {i : Nat} {k : List (PyData × PyData) → Prop} (h : slotD s i k) : ∃ kvs, s.sl[i]? = some (some (.dct kvs)) ∧ k kvs := by
  unfold slotD at h
  split at h
  · next kvs e => exact ⟨kvs, e, h⟩
  · exact h.elim
def keyP (d : PyData) (f : Key → Prop) : Prop := match keyD d with
  | some k => f k
  | none => False
theorem keyP_get {d : PyData} {f : Key → Prop} (h : keyP d f) : ∃ k, keyD d = some k ∧ f k := by
  unfold keyP at h
  split at h
  · next k e => exact ⟨k, e, h⟩
  · exact h.elim
def optP (o : Option PyData) (f : PyData → Prop) : Prop := match o with
  | some d => f d
  | none => False
theorem optP_get {o : Option PyData} {f : PyData → Prop} (h : optP o f) : ∃ d, o = some d ∧ f d := by
  cases o with
  | none => exact h.elim
  | some d => exact ⟨d, rfl, h⟩
section
variable {X : Cx} {Ec : EC}
def sNewD (i : Nat) : AST := fun _ D s => D.nx (s.set i (.dct []))
theorem as_newD {i : Nat} {st : Stmt} (h : PS X st (tAsg tDNewK (gName i))) : PS X st (cS Ec (sNewD i)) := h.sub fun D σ H ⟨Φ, E, xp, s, Da, r, x, q, m⟩ => fun p hp => m.nx (E.add i p) _ _ _ ((r.add i hp (same_upd hp) (upd_same (H := H) (a := p) (o := .dK []))).setX i (x := .dct []) ⟨p, [], rfl, List.mem_cons_self, upd_same, .nil⟩) q
/-- the dict of slot i: it is at a, before and behind what is evaluated -/
theorem slot_dct {Φ : Fx} {E E1 : OE} {s s1 : AS} {σ : L2.St} {H H1 : Hp} {i : Nat} {kvs0 kvs : List (PyData × PyData)} {a : Addr} {ks0 : List (Key × V)} (hv : σ[i]? = some (some (.ref a))) (r1 : Rel Φ E1 s1 σ H1) (h1 : s1.sl[i]? = some (some (.dct kvs))) : ∃ ks, (i, a) ∈ E1.R ∧ H1 a = some (.dK ks) ∧ KRel H1 (ban Φ E1) kvs ks := by
  obtain ⟨v, hv1, b, ks, e1, m1, f1, kr⟩ := r1.val i _ h1
  rw [hv] at hv1
  cases hv1
  cases e1
  exact ⟨ks, m1, f1, kr⟩
def aDGet (i : Nat) (aa : AE) : AE := fun xp s Q => slotD s i fun _ => aa xp s fun d s1 => slotD s1 i fun kvs => keyP d fun k => optP (dFind kvs k) fun e => Q e s1
theorem ae_dget (i : Nat) {e : Expr} {aa : AE} (h : PE X e (tDGet (tVar i) (cE Ec aa))) : PE X e (cE Ec (aDGet i aa)) := h.sub fun σ H Q ⟨Φ, E, xp, s, Qa, r, x, q, k⟩ => by
  obtain ⟨kvs0, h0, q⟩ := slotD_get q
  obtain ⟨v, hv, a, ks0, rfl, m0, f0, kr0⟩ := r.val i _ h0
  refine ⟨.ref a, hv, Φ, E, xp, s, _, r, x, q, fun d E1 s1 v1 H1 l1 r1 k1 p1 q1 => ?_⟩
  obtain ⟨kvs, h1, q1⟩ := slotD_get q1
  obtain ⟨key, hk, q1⟩ := keyP_get q1
  obtain ⟨e, he, q1⟩ := optP_get q1
  obtain ⟨ks, m1, f1, kr⟩ := slot_dct (kvs0 := kvs0) (ks0 := ks0) (E := E) (s := s) (H := H) hv r1 h1
  rcases krel_val key kr with ⟨n1, _⟩ | ⟨d2, w, g1, g2, g3⟩
  · rw [he] at n1; cases n1
  · rw [he] at g1; cases g1
    exact ⟨a, w, rfl, by rw [key_v hk p1]; exact .inl ⟨ks, key, .inl f1, rfl, g2.symm⟩, k e E1 s1 w H1 l1 r1 k1 g3 q1⟩
def aDSetd (i : Nat) (aa ab : AE) : AE := fun xp s Q => slotD s i fun _ => aa xp s fun d s1 => ab xp s1 fun e s2 => slotD s2 i fun kvs => keyP d fun k => kvs.length < sizeLine ∧ match dFind kvs k with
  | some o => Q o s2
  | none => Q e (s2.set i (.dct (dPut kvs d k e)))
theorem ae_dsetd (i : Nat) {e : Expr} {aa ab : AE} (h : PE X e (tDSetd (tVar i) (cE Ec aa) (cE Ec ab))) : PE X e (cE Ec (aDSetd i aa ab)) := h.sub fun σ H Q ⟨Φ, E, xp, s, Qa, r, x, q, k⟩ => by
  obtain ⟨kvs0, h0, q⟩ := slotD_get q
  obtain ⟨v, hv, a, ks0, rfl, m0, f0, kr0⟩ := r.val i _ h0
  refine ⟨.ref a, hv, a, rfl, .inl ⟨ks0, .inl f0⟩, Φ, E, xp, s, _, r, x, q, fun d E1 s1 v1 H1 l1 r1 k1 p1 q1 => ⟨Φ, E1, xp, s1, _, r1, x, q1, fun e E2 s2 v2 H2 l2 r2 k2 p2 q2 => ?_⟩⟩
  obtain ⟨kvs, h2, q2⟩ := slotD_get q2
  obtain ⟨key, hk, hl, q2⟩ := keyP_get q2
  obtain ⟨ks, m2, f2, kr⟩ := slot_dct (kvs0 := kvs0) (ks0 := ks0) (E := E) (s := s) (H := H) hv r2 h2
  refine ⟨ks, key, f2, key_v hk (p1.kb r1.lst k2), by rw [krel_len kr]; exact hl, ?_⟩
  rcases krel_val key kr with ⟨n1, n2⟩ | ⟨d2, w, g1, g2, g3⟩
  · rw [n1] at q2
    refine ⟨fun v e => (by rw [n2] at e; cases e), fun _ => ?_⟩
    have ab : a ∈ ban Φ E2 := List.mem_append_left _ (List.mem_append_right _ (List.mem_map.mpr ⟨_, m2, rfl⟩))
    have up : KRel (upd H2 a (.dK (putK ks key v2))) (ban Φ E2) (dPut kvs d key e) (putK ks key v2) := (krel_put kr hk p2).mono fun _ _ h => Rp.updl ab f2 h
    obtain ⟨r3, k3⟩ := r2.mutG (i := i) (u := .dK (putK ks key v2)) (x := .dct (dPut kvs d key e)) (List.getElem?_eq_some_iff.mp h2).1 hv m2 f2 trivial trivial ⟨a, _, rfl, m2, upd_same, up⟩
    exact k e E2 _ v2 _ (l2.trans l1) r3 ((k1.trans l1 k2).trans (l2.trans l1) k3) (Rp.updl ab f2 p2) q2
  · rw [g1] at q2
    refine ⟨fun v e => ?_, fun e => (by rw [g2] at e; cases e)⟩
    rw [g2] at e; cases e
    exact k d2 E2 s2 w H2 (l2.trans l1) r2 (k1.trans l1 k2) g3 q2
def aDLen (i : Nat) : AE := fun _ s Q => slotD s i fun kvs => Q (.int (kvs.length : Nat)) s
theorem ae_dlen (i : Nat) {e : Expr} (h : PE X e (tCB (fun xs H Q => ∃ a kvs, xs = [V.ref a] ∧ H a = some (.dK kvs) ∧ Q (.int kvs.length) H) (tCons (tVar i) tNil))) : PE X e (cE Ec (aDLen i)) := h.sub fun σ H Q ⟨Φ, E, xp, s, Qa, r, x, q, k⟩ => by
  obtain ⟨kvs0, h0, q⟩ := slotD_get q
  obtain ⟨v, hv, a, ks0, rfl, m0, f0, kr0⟩ := r.val i _ h0
  exact ⟨.ref a, hv, a, ks0, rfl, f0, k (.int (kvs0.length : Nat)) E s _ H (.refl _) r (.refl _ _) (by rw [krel_len kr0]; rfl) q⟩
/-- d[k] = v -/
def sDPutA (i : Nat) (av aa : AE) : AST := fun xp D s => av xp s fun e s1 => slotD s1 i fun _ => aa xp s1 fun d s2 => slotD s2 i fun kvs => keyP d fun k => kvs.length < sizeLine ∧ D.nx (s2.set i (.dct (dPut kvs d k e)))
theorem as_dput (i : Nat) {st : Stmt} {av aa : AE} (h : PS X st (sDPut (tVar i) (cE Ec aa) (cE Ec av))) : PS X st (cS Ec (sDPutA i av aa)) := h.sub fun D σ H ⟨Φ, E, xp, s, Da, r, x, q, m⟩ => by
  refine ⟨Φ, E, xp, s, _, r, x, q, fun e E1 s1 v1 H1 l1 r1 k1 p1 q1 => ?_⟩
  obtain ⟨kvs0, h0, q1⟩ := slotD_get q1
  obtain ⟨v, hv, a, ks0, rfl, m0, f0, kr0⟩ := r1.val i _ h0
  refine ⟨.ref a, hv, Φ, E1, xp, s1, _, r1, x, q1, fun d E2 s2 v2 H2 l2 r2 k2 p2 q2 => ?_⟩
  obtain ⟨kvs, h2, q2⟩ := slotD_get q2
  obtain ⟨key, hk, hl, q2⟩ := keyP_get q2
  obtain ⟨ks, m2, f2, kr⟩ := slot_dct (kvs0 := kvs0) (ks0 := ks0) (E := E1) (s := s1) (H := H1) hv r2 h2
  have ab : a ∈ ban Φ E2 := List.mem_append_left _ (List.mem_append_right _ (List.mem_map.mpr ⟨_, m2, rfl⟩))
  have p1' : Rp H2 (ban Φ E2) e v1 := (p1.kb r1.lst k2).wk l2.ban
  have up : KRel (upd H2 a (.dK (putK ks key v1))) (ban Φ E2) (dPut kvs d key e) (putK ks key v1) := (krel_put kr hk p1').mono fun _ _ h => Rp.updl ab f2 h
  obtain ⟨r3, k3⟩ := r2.mutG (i := i) (u := .dK (putK ks key v1)) (x := .dct (dPut kvs d key e)) (List.getElem?_eq_some_iff.mp h2).1 hv m2 f2 trivial trivial ⟨a, _, rfl, m2, upd_same, up⟩
  exact ⟨a, _, rfl, .inl ⟨ks, key, f2, key_v hk p2, by rw [krel_len kr]; exact hl, rfl⟩, m.nx E2 _ _ _ r3 q2⟩
/-- k in d -/
def aDIn (i : Nat) (aa : AE) : AE := fun xp s Q => aa xp s fun d s1 => slotD s1 i fun kvs => keyP d fun k => Q (.bool (dFind kvs k).isSome) s1
theorem ae_din (i : Nat) {e : Expr} {aa : AE} (h : PE X e (tDIn (cE Ec aa) (tVar i))) : PE X e (cE Ec (aDIn i aa)) := h.sub fun σ H Q ⟨Φ, E, xp, s, Qa, r, x, q, k⟩ => by
  refine ⟨Φ, E, xp, s, _, r, x, q, fun d E1 s1 v1 H1 l1 r1 k1 p1 q1 => ?_⟩
  obtain ⟨kvs, h1, q1⟩ := slotD_get q1
  obtain ⟨v, hv, a, ks, rfl, m0, f0, kr⟩ := r1.val i _ h1
  obtain ⟨key, hk, q1⟩ := keyP_get q1
  refine ⟨.ref a, hv, a, valV ks key, rfl, by rw [key_v hk p1]; exact .inl ⟨ks, key, .inl f0, rfl, rfl⟩, ?_⟩
  refine k _ E1 s1 _ H1 l1 r1 k1 ?_ q1
  rcases krel_val key kr with ⟨n1, n2⟩ | ⟨d2, w, g1, g2, g3⟩
  · rw [n1, n2]; rfl
  · rw [g1, g2]; rfl
end
end TR
namespace TR
open PySem PySem.Spec PyProof.Rows L2
/-! ### methods of lists that change nothing: count, index -/
section
variable {X : Cx} {Ec : EC}
def DMeth (r : V → List V → Hp → VK → Prop) (f : PyData → List PyData → (PyData → Prop) → Prop) : Prop := ∀ (bn : List Addr) (H : Hp) (d : PyData) (es : List PyData) (x : V) (vs : List V) (Q : PyData → Prop) (Qc : VK), RpX H bn d x → Paired (RpX H bn) es vs → f d es Q → (∀ z v, Rp H bn z v → Q z → Qc v H) → r x vs H Qc
def isLstO (s : AS) (o : Op) : Prop := ∃ ds, res s o = some (.list ds)
def aLm (f : PyData → List PyData → (PyData → Prop) → Prop) (ao : AO) (aa : AA) : AE := fun xp s Q => ao xp s fun o s1 => isLstO s1 o ∧ aa xp s1 fun os s2 => rs s2 o fun d => rsl s2 os fun es => f d es fun z => Q z s2
theorem ae_lm {r : V → List V → Hp → VK → Prop} {f : PyData → List PyData → (PyData → Prop) → Prop} (hf : DMeth r f) {e : Expr} {ao : AO} {aa : AA} (h : PE X e (tBM X.K "list" r (cO Ec ao) (cA Ec aa))) : PE X e (cE Ec (aLm f ao aa)) := h.sub fun σ H Q ⟨Φ, E, xp, s, Qa, r0, x0, q, k⟩ => by
  refine ⟨Φ, E, xp, s, _, r0, x0, q, fun o E1 s1 v H1 l1 r1 k1 p1 ⟨⟨ds, hd⟩, q1⟩ => ?_⟩
  obtain ⟨a, xs, rfl, ea, ra⟩ := (r1.res p1 hd).lst
  refine ⟨.inl ⟨rfl, xs, sqL ea⟩, Φ, E1, xp, s1, _, r1, x0, q1, fun os E2 s2 vs H2 l2 r2 k2 p2 q2 => ?_⟩
  obtain ⟨d, e, q2⟩ := rs_get q2
  obtain ⟨es, e2, q2⟩ := rsl_get q2
  exact hf (ban Φ E2) H2 d es _ vs _ Q (r2.res (p1.kb r1.lst k2 l2) e) (rsA_rp r2 p2 e2) q2 fun z v rp q3 => k z E2 s2 v H2 (l2.trans l1) r2 (k1.trans l1 k2) rp q3
def rCntA : V → List V → Hp → VK → Prop := fun x vs H Q => ∃ ds e bn v, vs = [v] ∧ RpX H bn (.list ds) x ∧ RpX H bn e v ∧ SeqAt.shaped (.list ds) = true ∧ SeqAt.shaped e = true ∧ Q (.int ((ds.countP fun y => PyData.eqv y e : Nat) : Int)) H
theorem lay_all {ds : List PyData} (h : SeqAt.shaped (.list ds) = true) : PyData.plainAll ds = true := PyData.plainAll_of_canLay0 ds (lay_of h)
theorem mt_cntA (hu : X.A.units + 65 < cLine) : MtR X "list.count" rCntA := by
  intro pins s σ H x xs v us Q I rx rxs ⟨ds, e, bn, y, ey, hx, he, sd, se, q⟩
  subst ey
  obtain ⟨u, rfl, ru⟩ := rxs.one
  obtain ⟨as, r1⟩ := hx.rds I rx
  obtain ⟨bs, r2⟩ := he.rds I ru
  cases r1 with
  | list h1 h2 h3 h4 => exact SeqAt.count_list_data ⟨_, h1, h2, _, h3⟩ h4 r2 (lay_all sd) (PyData.plain_of_canLay0 _ (lay_of se)) (in_room se hu) ⟨.int _, H, I.tok _, ⟨_, rfl⟩, q⟩
def mCnt : PyData → List PyData → (PyData → Prop) → Prop
  | .list ds, [e], Q => SeqAt.shaped (.list ds) = true ∧ SeqAt.shaped e = true ∧ Q (.int ((ds.countP fun y => PyData.eqv y e : Nat) : Int))
  | _, _, _ => False
theorem dm_cnt : DMeth rCntA mCnt := by
  intro bn H d es x vs Q Qc px pe q k
  unfold mCnt at q
  split at q
  · cases pe with
    | cons p t =>
      cases t
      exact ⟨_, _, bn, _, rfl, px, p, q.1, q.2.1, k (.int _) _ rfl q.2.2⟩
  · exact q.elim
def rLixA : V → List V → Hp → VK → Prop := fun x vs H Q => ∃ ds e bn v j, vs = [v] ∧ RpX H bn (.list ds) x ∧ RpX H bn e v ∧ SeqAt.shaped (.list ds) = true ∧ SeqAt.shaped e = true ∧ ds.length ≤ 1000 ∧ ds.findIdx? (fun y => PyData.eqv y e) = some j ∧ Q (.int (j : Nat)) H
theorem mt_lixA (hu : X.A.units + 65 < cLine) : MtR X "list.index" rLixA := by
  intro pins s σ H x xs v us Q I rx rxs ⟨ds, e, bn, y, j, ey, hx, he, sd, se, hz, hj, q⟩
  subst ey
  obtain ⟨u, rfl, ru⟩ := rxs.one
  obtain ⟨as, r1⟩ := hx.rds I rx
  obtain ⟨bs, r2⟩ := he.rds I ru
  cases r1 with
  | list h1 h2 h3 h4 =>
    rename_i l o items n as'
    obtain ⟨cls, dd, data, sl⟩ := o
    simp only at h2 h3
    subst h2 h3
    have hm := SeqAt.readsAll_map_plain ds _ _ (lay_all sd) h4
    have hlen : items.size = ds.length := by
      have := congrArg List.length hm
      simpa using this
    obtain ⟨hjl, hjz, hjn⟩ := List.findIdx?_eq_some_iff_getElem.mp hj
    have at_ : ∀ (m : Nat) (h : m < items.size), SeqAt.readOf s.heap items[m] = ds[m]'(hlen ▸ h) := fun m h => by
      have := congrArg (fun l : List PyData => l[m]?) hm
      simp only [List.getElem?_map, Array.getElem?_toList] at this
      rw [Array.getElem?_eq_getElem h, List.getElem?_eq_getElem (hlen ▸ h)] at this
      exact Option.some.inj this
    refine call_meets PySem.F.slot_list_index ⟨_, h1, rfl⟩ PySem.F.entry_list_index (PySem.F.args_list_index_2 _ _) (SeqAt.list_indexAt _ items _ dd sl u (fun y => PyData.eqv (SeqAt.readOf s.heap y) e) j (hlen ▸ hjl) (by omega) ?_ fun m hm hmj => ?_) ⟨h1, SeqAt.items_plain h4 r2 (lay_all sd) (PyData.plain_of_canLay0 _ (lay_of se)) (in_room se hu), ⟨.int (j : Nat), H, I.tok _, ⟨_, rfl⟩, q⟩⟩
    · rw [at_ j (hlen ▸ hjl)]; exact hjz
    · rw [at_ m hm]
      have := hjn m hmj
      simpa using this
def mLix : PyData → List PyData → (PyData → Prop) → Prop
  | .list ds, [e], Q => SeqAt.shaped (.list ds) = true ∧ SeqAt.shaped e = true ∧ ds.length ≤ 1000 ∧ match ds.findIdx? (fun y => PyData.eqv y e) with
    | some j => Q (.int (j : Nat))
    | none => False
  | _, _, _ => False
theorem dm_lix : DMeth rLixA mLix := by
  intro bn H d es x vs Q Qc px pe q k
  unfold mLix at q
  split at q
  · obtain ⟨q1, q2, q3, q4⟩ := q
    split at q4
    · next j hj =>
      cases pe with
      | cons p t =>
        cases t
        exact ⟨_, _, bn, _, j, rfl, px, p, q1, q2, q3, hj, k (.int _) _ rfl q4⟩
    · exact q4.elim
  · exact q.elim
/-! ### sorted(set(x)), x ints -/
def sset (ns : List Int) : List Int := ns.eraseDups.mergeSort fun a b => decide (a ≤ b)
theorem nodup_eraseDups : ∀ (n : Nat) (l : List Int), l.length ≤ n → l.eraseDups.Nodup
  | _, [], _ => by simp
  | 0, _ :: _, h => by simp at h
  | n + 1, x :: l, h => by
    rw [List.eraseDups_cons, List.nodup_cons]
    have hl : (l.filter fun b => !b == x).length ≤ n := Nat.le_trans (List.length_filter_le ..) (by simpa using h)
    exact ⟨fun m => by
      have := List.mem_eraseDups.mp m
      simp at this, nodup_eraseDups n _ hl⟩
theorem sset_mem {ns : List Int} {k : Int} : k ∈ sset ns ↔ k ∈ ns := by
  unfold sset
  rw [List.mem_mergeSort, List.mem_eraseDups]
theorem sset_lt (ns : List Int) : (sset ns).Pairwise (· < ·) := by
  have h1 : (sset ns).Pairwise (· ≤ ·) := by
    have := List.pairwise_mergeSort (le := fun a b : Int => decide (a ≤ b)) (fun a b c => by simp only [decide_eq_true_eq]; omega) (fun a b => by simp only [Bool.or_eq_true, decide_eq_true_eq]; omega) ns.eraseDups
    exact this.imp fun h => of_decide_eq_true h
  have h2 : (sset ns).Nodup := (List.mergeSort_perm _ _).nodup_iff.mpr (nodup_eraseDups _ _ (Nat.le_refl _))
  exact (List.pairwise_and_iff.mpr ⟨h1, h2⟩).imp fun ⟨a, b⟩ => by omega
theorem lt_uniq : ∀ {a b : List Int}, a.Pairwise (· < ·) → b.Pairwise (· < ·) → (∀ k, k ∈ a ↔ k ∈ b) → a = b
  | [], [], _, _, _ => rfl
  | [], y :: b, _, _, h => absurd ((h y).mpr List.mem_cons_self) (by simp)
  | x :: a, [], _, _, h => absurd ((h x).mp List.mem_cons_self) (by simp)
  | x :: a, y :: b, ha, hb, h => by
    obtain ⟨h1, ha⟩ := List.pairwise_cons.mp ha
    obtain ⟨h2, hb'⟩ := List.pairwise_cons.mp hb
    have e : x = y := by
      rcases List.mem_cons.mp ((h x).mp List.mem_cons_self) with e | m
      · exact e
      rcases List.mem_cons.mp ((h y).mpr List.mem_cons_self) with e | m'
      · exact e.symm
      have := h1 y m'
      have := h2 x m
      omega
    subst e
    refine congrArg (x :: ·) (lt_uniq ha hb' fun k => ?_)
    constructor
    · intro m
      rcases List.mem_cons.mp ((h k).mp (List.mem_cons_of_mem _ m)) with e | m2
      · subst e; exact absurd (h1 k m) (by omega)
      · exact m2
    · intro m
      rcases List.mem_cons.mp ((h k).mpr (List.mem_cons_of_mem _ m)) with e | m2
      · subst e; exact absurd (h2 k m) (by omega)
      · exact m2
end
end TR
namespace TR
open PySem PySem.Spec PyProof.Rows L2
theorem _root_.L2H.RoomH.units {k : Nat} {A : Around} (r : L2H.RoomH k A) : A.units + 64 < cLine := by have := r.un; omega
theorem u65H {k : Nat} {A : Around} (r : L2H.RoomH k A) : A.units + 65 < cLine := by have := r.un; omega
theorem u64H {k : Nat} {A : Around} (r : L2H.RoomH k A) : A.units + 64 < cLine := by have := r.un; omega
/-! ### a def of one parameter, the exception that the caller's suite holds -/
abbrev AFE := XD → (PyData → Prop) → Prop
def spAE (cs : List Addr) (F : AFE) : SpE := fun cls d a vs H Q _ => ∃ Φ x Qa, Pre Φ H 0 ∧ Φ.dk0 = none ∧ cls = .ref x.cls ∧ x.cls ∈ cs ∧ vs = [.ref a] ∧ XRep H (ban Φ ⟨Φ.dk0, []⟩) x d ∧ F x Qa ∧ ∀ r v H', RetOk Φ r 0 v H' → Qa r → Q v H'
def fnE (k : Nat) (b : AST) : AFE := fun x Qa => b x0 { nx := fun _ => Qa .none, rt := fun r _ => Qa r } ⟨some (.exc x) :: List.replicate k none, 0⟩
section
variable {P : Program} {w : World} {K : PySem.W.Frag} {mg : Str → Option Value} {base : Heap}
theorem fn_okE {cs : List Addr} {nk k : Nat} {N : List Str} {pn : Str} {b : AST} {x qual : Str} {st : Stmt} {f : Addr} {fd : FuncData} (F : Fun K x qual st f fd) (S : FnScope N [pn] (defScope st)) (hk : 1 + nk = N.length)
    (hbody : ∀ (cdv : Value) (A : Around) (l : List Env) (s : Shared) (H : Hp) (p : Addr × Obj) (C : Addr) (d : Option Addr), L2H.RoomH k (A.deeper (envOfC qual (defScope st) s.heap.objs.size f cdv)) → Zc (.ref C) d p.2 → (∃ v, p.2.data = .fields v) →
      PSs (L2H.cxH CX0 P w K mg base N qual (defScope st) f cdv A l s H E0 p) (defBody st) (cS ⟨fun _ _ _ _ => False, some (p.1, C, d), cs⟩ b)) : FnE P w K mg base (k + 1) f fd [pn] (spAE cs (fnE nk b)) := by
  refine okE F S (fun c d a vs H Q E h => ?_) (fun cdv A l s H vs Q p cls d hr hz hf h => ?_)
  · obtain ⟨_, _, _, _, _, _, _, rfl, _⟩ := h
    rfl
  · obtain ⟨Φ, x, Qa, p0, hd, rfl, hc, rfl, xr, hF, hq⟩ := h
    have r0 := start_rel (ms := []) (ds := []) (vs := []) (N := N) (k := N.length) p0 .nil (by simp)
    have r1 := r0.setExc (a := p.1) (cs := cs) 0 p0.ex xr hc
    have e1 : (startA [] N.length [] 0).set 0 (.exc x) = ⟨some (.exc x) :: List.replicate nk none, 0⟩ := by
      unfold startA AS.set
      rw [← hk, Nat.add_comm]
      rfl
    have e2 : (L2.start N []).set 0 (some (.ref p.1)) = L2.start N [.ref p.1] := by
      unfold L2.start
      rw [← hk, Nat.add_comm]
      simp [List.replicate_succ]
    rw [e1, e2] at r1
    refine ⟨_, hbody cdv A l s H p x.cls d hr hz hf, { Φ with ex := some (p.1, x.cls, d), cs := cs }, ⟨Φ.dk0, []⟩, x0, _, _, r1, ⟨⟨rfl, rfl⟩, fun _ _ _ _ _ _ _ _ h => h⟩, hF, ?_⟩
    exact ⟨fun E s σ G r q => (fun ro => hq _ _ G ⟨ro.fr, fun d p q e => (by rw [hd] at e; cases e), ro.rp⟩ q) (r.ret (d := .none) rfl), fun _ _ _ _ _ q => q.elim, fun _ _ _ _ _ q => q.elim, fun y m v G ro q => hq y v G ⟨ro.fr, fun d p q e => (by rw [hd] at e; cases e), ro.rp⟩ q⟩
end
section
variable {X : Cx} {Ec : EC}
def aCallE (F : AFE) (i : Nat) : AE := fun _ s Q => match s.sl[i]? with
  | some (some (.exc x)) => F x fun r => Q r s
  | _ => False
theorem ae_callE {k i : Nat} {f : Addr} {fd : FuncData} {ps : List Str} {cs : List Addr} {F : AFE} {x : Str} {q pos : Pos} {e : Expr} {a C : Addr} {oe : Obj} {d : Option Addr} (G : FnE X.prog X.w X.K X.mg X.base k f fd ps (spAE cs F)) (hr : L2H.RoomH k X.A) (hp : (a, oe) ∈ X.pn) (hz : Zc (.ref C) d oe) (hf : ∃ vs, oe.data = .fields vs) (hex : Ec.ex = some (a, C, d)) (hcs : Ec.cs = cs)
    (hg : Gl X x) (hm : X.mg x = some (.ref f)) (hk : PySem.W.keepIn X.K (.ref f) = true) (hb : Binds X.K fd ps []) (he : PE X e (tVar i))
    (hdb : (x == ("__debug__" : Str)) = false := by decide) (hs : starEach [e] X.env = (false, eval e X.env) :: starEach [] X.env := by rfl) (hpl : (backTo pos (starEach [] X.env)).any (·.1) = false := by rfl) :
    PE X (.Call (.Name x q) [e] [] pos) (cE Ec (aCallE F i)) := (pe_callE G hr hp hz hf hg hm hk hb (pa_cons he pa_nil hs) hdb hs hpl).sub fun σ H Q ⟨Φ, E, xp, s, Qa, r, x, q, k⟩ => by
  unfold aCallE at q
  split at q
  · next y hy =>
    obtain ⟨v, h1, a', da, e1, rfl, xr, hin⟩ := r.val i _ hy
    rw [x.1.1, hex] at e1
    cases e1
    rw [x.1.2, hcs] at hin
    have sm : ∀ {G : Hp}, (∀ b o, H b = some o → b ∉ dkl none → G b = some o) → Same H G := fun h b o e => h b o e fun z => (nomatch z)
    refine ⟨_, h1, Φ.inner0 E H, y, _, r.pre0, rfl, rfl, hin, rfl, ?_, q, fun r' v H' ro qr => k r' E s v H' (.refl _) (r.same (sm ro.fr)) (.of_same (sm ro.fr)) (Rp.wk (fun a ha => ha) ro.rp) qr⟩
    rw [inner0_ban]; exact xr
  · exact q.elim
end
end TR
namespace PySem
open Sem (wp)
set_option maxHeartbeats 1000000 in
theorem meets_enum_new1 {v : Value} {o : Obj} {H : Heap → Prop} (B : Begins v o H) :
    Meets (Builtin.«enumerate.__new__» ⟨[.type "enumerate", v], []⟩) (fun _ R s => H s.heap ∧
      R (.ok (.ret (.ref (s.heap.push o).objs.size))) { s with heap := (s.heap.push o).push { cls := .type "enumerate", data := .fields #[.none, .bool false, .ref s.heap.objs.size, rawInt 0, .none, .none] } }) :=
  .of_wp fun prog w A R s h => by
    obtain ⟨hp, g, d, tk, os⟩ := s; obtain ⟨h1, h⟩ := h
    have hsub := sub_enumerate
    have q1 : ∀ {A' : Around} {E : Value → Shared → Prop} {Q : Value → Shared → Prop}, Q (.ref hp.objs.size) ⟨hp.push o, g, d, tk, os⟩ → wpAny (model prog w) A' (pyIter v) Q E ⟨hp, g, d, tk, os⟩ :=
      fun q => B.iter prog w _ _ ⟨hp, g, d, tk, os⟩ _ h1 q
    wp_walk using q1
    refine wpAny_stack_any fun st => wpAny_pure ?_
    split
    · rename_i c _ _ _ _ _
      cases (c == Value.type "enumerate")
      · wp_walk using q1
        exact ⟨_, rfl, h⟩
      · wp_walk using q1
        exact ⟨_, rfl, h⟩
    · wp_walk using q1
      exact ⟨_, rfl, h⟩
section
variable {prog : Program} {w : World} {A : Around} {E : Value → Shared → Prop} {s : Shared}
theorem call_enum1 {v : Value} {o : Obj} {H : Heap → Prop} {Q : Value → Shared → Prop} (B : Begins v o H) (h1 : H s.heap)
    (h : ∀ h', IsEnum h' (s.heap.objs.size + 1) s.heap.objs.size 0 .none → h'.get? s.heap.objs.size = some o → h'.objs.size = s.heap.objs.size + 2 →
      (∀ b o, s.heap.get? b = some o → h'.get? b = some o) → Q (.ref (s.heap.objs.size + 1)) { s with heap := h' }) :
    wpAny (model prog w) A (call (.type "enumerate") [v]) Q E s := by
  refine callType_new F.called_enumerate (by decide) (F.typeCall_enumerate_1 _) (F.newCall_enumerate_1 _) (fun obj => F.args_object_init_2 obj _) F.entry_enumerate_new
    (meets_enum_new1 B) ⟨h1, ?_⟩
  have hz : (s.heap.push o).objs.size = s.heap.objs.size + 1 := Heap.size_push ..
  show _ ∧ _
  rw [hz]
  have he : IsEnum ((s.heap.push o).push { cls := .type "enumerate", data := .fields #[.none, .bool false, .ref s.heap.objs.size, rawInt 0, .none, .none] }) (s.heap.objs.size + 1) s.heap.objs.size 0 .none := by
    have := Heap.get?_push_size (s.heap.push o) (o := { cls := .type "enumerate", data := .fields #[.none, .bool false, .ref s.heap.objs.size, rawInt 0, .none, .none] }) rfl
    rw [hz] at this; exact this
  refine ⟨⟨_, he, rfl⟩, h _ he (Heap.get?_push_of_some _ (Heap.get?_push_size _ B.free)) (by rw [Heap.size_push, hz]) fun b o x => Heap.get?_push_of_some _ (Heap.get?_push_of_some _ x)⟩
end
end PySem
namespace TR
open PySem PySem.Spec PyProof.Rows L2
/-! ### enumerate(tuple) -/
/-- the tuple at a, each item in a new pair -/
def IteT (K : PySem.W.Frag) (a : Addr) : It :=
  ⟨fun i H => ∃ (xs : List V) (x : V), SqT K H a xs ∧ xs[i]? = some x, fun i H v H' => ∃ T x, v = .ref T ∧ H T = none ∧ H' = upd H T (.tup [.int (i : Nat), x]) ∧ ∀ xs, SqT K H a xs → xs[i]? = some x, fun i H => ∃ xs : List V, SqT K H a xs ∧ xs.length = i⟩
theorem tupIter_ne {h : Heap} {it a : Addr} {i : Nat} {items : Array Value} (hit : h.IsTupleIter it a i) (ht : h.IsTuple a items) : a ≠ it := by
  rintro rfl
  obtain ⟨o, ho, _, hd⟩ := hit
  obtain ⟨o', ho', _, n, hd'⟩ := ht
  rw [ho] at ho'; cases ho'
  rw [hd] at hd'; cases hd'
theorem enum_ne {h : Heap} {e it a : Addr} {c : Int} {old : Value} {items : Array Value} (he : IsEnum h e it c old) (ht : h.IsTuple a items) : e ≠ a := by
  rintro rfl
  obtain ⟨o', ho', _, n, hd'⟩ := ht
  have he' : h.get? e = some _ := he
  rw [he'] at ho'; cases ho'
  cases hd'
theorem turn_enumT {P : Program} {w : World} {K : PySem.W.Frag} {elts : List Expr} {kk : Nat} {tpos : Pos} (a e it : Addr) :
    Turn P w K (.Tuple elts kk tpos) (IteT K a) [e, it] e (fun i h => (∃ old, IsEnum h e it ((i : Nat) : Int) old) ∧ h.IsTupleIter it a i ∧ e ≠ it) where
  mem := by simp
  obj := fun i h st b hb => by
    obtain ⟨⟨old, he⟩, ⟨o, ho, hc, hd⟩, _⟩ := st
    have e' : b = e ∨ b = it := by simpa using hb
    rcases e' with z | z
    · rw [z]; exact ⟨_, he, fun v q => nomatch q⟩
    · rw [z]; exact ⟨o, ho, fun v q => by rw [hd] at q; cases q⟩
  keep := fun i h h' st k => let ⟨⟨old, he⟩, hi, hne⟩ := st; ⟨⟨old, k e (by simp) _ he⟩, hi.at fun o q => k it (by simp) o q, hne⟩
  item := by
    intro X hP hw hK hc i pins s σ H E I hf st hg
    subst hP hw hK
    obtain ⟨⟨old, he⟩, hit, hne⟩ := st
    obtain ⟨xs, x, hq, hx⟩ := hg
    obtain ⟨its, rv, p, hz⟩ := I.tuple hq
    have p : s.heap.IsTuple a its.toArray := p
    obtain ⟨u, hu, ru⟩ := rv.get hx
    have hel : e < s.heap.objs.size := Heap.lt_size he
    have hil : it < s.heap.objs.size := by obtain ⟨_, q, _⟩ := id hit; exact Heap.lt_size q
    have hil2 : i < its.toArray.size := by
      rw [List.size_toArray]; exact (List.getElem?_eq_some_iff.mp hu).1
    refine wpAny_pyNext_enum_itemD (Draws.tuple (A := X.A.in1) (I.ok.hd hc) it a (tupIter_ne hit p) its.toArray) he ⟨hit, p⟩ hil2 hne (by
      intro m
      rcases List.mem_cons.mp m with z | m
      · exact hne z
      · exact enum_ne he p (List.mem_singleton.mp m)) fun u' h' tk hPu ho hst' hT hsz hk => ?_
    obtain ⟨hit', _⟩ := hst'
    have eu : u' = u := by
      have h2 : its.toArray[i]? = some u := by simpa using hu
      rw [h2] at hPu
      exact (Option.some.inj hPu).symm
    subst eu
    refine ⟨_, rfl, wpAny_letOwnedTupleGo_enum (s := { s with heap := h', toks := tk + 1 }) ho fun h'' he' sb => ?_⟩
    have hT2 : h''.get? s.heap.objs.size = some { cls := .type "tuple", data := .seq #[.int i tk, u'] } := (sb.2 _ (Nat.ne_of_gt hel)).trans hT
    have new : ObjOk X.prog X.w (upd H s.heap.objs.size (.tup [.int (i : Nat), x])) h'' s.heap.objs.size (.tup [.int (i : Nat), x]) :=
      ⟨by show 2 ≤ sizeLine; decide, [.int i tk, u'], .cons ⟨_, rfl⟩ (.cons ru .nil), ⟨_, hT2, rfl, _, rfl⟩⟩
    have I1 : Inv X pins σ (upd H s.heap.objs.size (.tup [.int (i : Nat), x])) { s with heap := h'', toks := tk + 1 } :=
      I.turnedNew (ch := [e, it]) (fun b ob hb q => (sb.2 b (fun z => hb (by simp [z]))).trans (hk b ob (fun z => hb (by simp [z])) (fun z => hb (by simp [z])) q)) hf (Nat.le_refl _) new
    refine ⟨.ref s.heap.objs.size, _, I1, rfl, ⟨_, x, rfl, I.hok.fresh (Nat.le_refl _), rfl, fun ys hy => by rw [I.tuple_inj hy hq]; exact hx⟩, ⟨⟨u', ?_⟩, hit'.at fun o q => (sb.2 it (Ne.symm hne)).trans q, hne⟩, fun b hb => ?_⟩
    · have e1 : ((i + 1 : Nat) : Int) = (i : Int) + 1 := by omega
      rw [e1]; exact he'
    · have hb' : b < s.heap.objs.size := by
        have e' : b = e ∨ b = it := by simpa using hb
        rcases e' with z | z
        · rw [z]; exact hel
        · rw [z]; exact hil
      rw [upd_ne (Nat.ne_of_lt hb')]
      exact (hf b hb).1
  done := by
    intro X hP hw hK hc i pins s σ H E I hf st hg
    subst hP hw hK
    obtain ⟨⟨old, he⟩, hit, hne⟩ := st
    obtain ⟨xs, hq, hx⟩ := hg
    obtain ⟨its, rv, p, hz⟩ := I.tuple hq
    have p : s.heap.IsTuple a its.toArray := p
    obtain ⟨f0, f1, f2, f3, f4, f5⟩ := hf it (by simp)
    have hl := rv.length
    have hi : i = its.toArray.size := by rw [List.size_toArray]; omega
    subst hi
    exact wpAny_pyNext_enum_endD (Draws.tuple (A := X.A.in1) (I.ok.hd hc) it a (tupIter_ne hit p) its.toArray) he ⟨hit, p⟩ fun h' eb => ⟨rfl, I.turned (t' := s.toks) (fun b o hb q => eb b o hb q) f0 f1 f3 f4 f5⟩
  self := fun A i s Q E st h => let ⟨⟨_, he⟩, _⟩ := st; wpAny_pyIter_enum he h
def iEnumT (K : PySem.W.Frag) (ta : TA) : TI := fun σ H R => ta σ H fun vs H1 => ∃ a xs, vs = [.ref a] ∧ SqT K H1 a xs ∧ R (IteT K a) H1
theorem pi_enumT {X : Cx} {e : Expr} {ta : TA} {p pos tpos : Pos} {elts : List Expr} {kk : Nat} (hg : Gl X "enumerate") (hm : X.mg "enumerate" = none) (ha : PA X [e] ta) (hs : starEach [e] X.env = [(false, eval e X.env)] := by rfl) :
    PI X (.Tuple elts kk tpos) (.Call (.Name "enumerate" p) [e] [] pos) (iEnumT X.K ta) := by
  refine ⟨fun pins s σ H R I h => ?_⟩
  refine Call_ (ld_blt I hg hm boot_enumerate (PyProof.Rows.callWith_type1 (thn (ha.run pos pins s σ H _ I h) fun us s1 ⟨vs, H1, I1, r1, q1⟩ => ?_) hs rfl))
  obtain ⟨a, xs, ex, hq, q⟩ := q1
  subst ex
  cases r1 with
  | cons r rr =>
    cases rr
    cases r
    obtain ⟨its, rv, p', hz⟩ := I1.tuple hq
    refine call_enum1 (begins_tuple a its.toArray) p' fun h' he hit hsz hk => wpAny_pyIter_enum he ?_
    have I2 : Inv X pins σ H1 { s1 with heap := h' } := I1.kept (t' := s1.toks) hk
    refine ⟨s1.heap.objs.size + 1, [s1.heap.objs.size + 1, s1.heap.objs.size], _, _, H1, rfl, I2, turn_enumT a (s1.heap.objs.size + 1) s1.heap.objs.size, ⟨⟨.none, he⟩, ⟨_, hit, rfl, rfl⟩, Nat.succ_ne_self _⟩, fun b hb => ?_, q⟩
    have e' : b = s1.heap.objs.size + 1 ∨ b = s1.heap.objs.size := by simpa using hb
    have hle : s1.heap.objs.size ≤ b := by
      rcases e' with z | z
      · rw [z]; exact Nat.le_add_right _ _
      · rw [z]; exact Nat.le_refl _
    exact I1.fpOk hle (I1.hok.fresh hle)
theorem enum_walk {K : PySem.W.Frag} {a : Addr} {xs : List V} : Walk (IteT K a) xs.length (fun H => SqT K H a xs) (YPair (fun i => some (.int ((i : Nat) : Int))) (fun i => xs[i]?)) :=
  ⟨fun i H hi h => ⟨xs, xs[i], h, List.getElem?_eq_getElem hi⟩, fun H h => ⟨xs, h, rfl⟩, fun i H v H' hi h y => by
    obtain ⟨T, x, e1, e2, e3, e4⟩ := y
    exact ⟨T, _, x, e1, e2, e3, rfl, e4 xs h⟩⟩
end TR
namespace TR
open PySem PySem.Spec PyProof.Rows L2
/-! ### enumerate of a tuple, of a list; str of an int -/
def enD (L : List PyData) : List PyData := L.zipIdx.map fun p => .tuple [.int (p.2 : Nat), p.1]
theorem enD_at {L : List PyData} {i : Nat} {d : PyData} (h : (enD L)[i]? = some d) : ∃ e, L[i]? = some e ∧ d = .tuple [.int (i : Nat), e] := by
  unfold enD at h
  rw [List.getElem?_map, List.getElem?_zipIdx] at h
  cases e : L[i]? with
  | none => rw [e] at h; cases h
  | some x =>
    rw [e] at h
    simp at h
    exact ⟨x, rfl, h.symm⟩
theorem enD_len (L : List PyData) : (enD L).length = L.length := by unfold enD; rw [List.length_map, List.length_zipIdx]
section
variable {X : Cx} {Ec : EC}
def iEnT (a : AE) : AI := fun xp s Q => a xp s fun d s1 => match d with
  | .tuple L => Q (.fix (enD L)) s1
  | _ => False
def iEnL (a : AE) : AI := fun xp s Q => a xp s fun d s1 => match d with
  | .list L => Q (.fix (enD L)) s1
  | _ => False
theorem jo_en {H : Hp} {bn : List Addr} {L : List PyData} {xs : List V} {T : Addr} {i : Nat} {d : PyData} {x : V} {H2 : Hp} (ra : RpAll H bn L xs) (hd : (enD L)[i]? = some d) (hT : H T = none) (e : H2 = upd H T (.tup [.int (i : Nat), x])) (hx : xs[i]? = some x) : Same H H2 ∧ RpW true H2 bn d (.ref T) := by
  obtain ⟨y, hy, rfl⟩ := enD_at hd
  obtain ⟨z, hz, rp⟩ := ra.at hy
  rw [hx] at hz
  cases hz
  subst e
  have m : Same H (upd H T (.tup [.int (i : Nat), x])) := same_upd hT
  exact ⟨m, T, [.int (i : Nat), x], _, rfl, rfl, upd_same, ⟨_, _, rfl, rfl, _, _, rfl, rp.same m, rfl⟩⟩
theorem ai_enT {e : Expr} {a : AE} {p pos tpos : Pos} {elts : List Expr} {kk : Nat} (hg : Gl X "enumerate") (hm : X.mg "enumerate" = none) (ha : PE X e (cE Ec a)) (hs : starEach [e] X.env = [(false, eval e X.env)] := by rfl) (hs2 : starEach [e] X.env = (false, eval e X.env) :: starEach [] X.env := by rfl) : PI X (.Tuple elts kk tpos) (.Call (.Name "enumerate" p) [e] [] pos) (cI true Ec (iEnT a)) := (pi_enumT hg hm (pa_cons ha pa_nil hs2) hs).sub fun σ H R ⟨Φ, E, xp, s, Qa, r, x, q, k⟩ => by
  refine ⟨Φ, E, xp, s, _, r, x, q, fun d E1 s1 v H1 l1 r1 k1 p1 q1 => ?_⟩
  split at q1
  · next L =>
    obtain ⟨b, xs, rfl, ea, ra⟩ := p1
    refine ⟨b, xs, rfl, .inl ea.rd, k (.fix (enD L)) E1 s1 _ H1 [(.tuple L, .ref b)] l1 r1 k1 (fun Φ E s σ1 H _ hh _ i => ?_) (fun x hx => ?_) q1⟩
    · obtain ⟨c, ys, e, eb, rb⟩ := hh (.tuple L, .ref b) List.mem_cons_self
      cases e
      have sq : SqT X.K H b ys := .inl eb.rd
      refine ⟨fun d hd => ?_, fun hi => ⟨ys, sq, by rw [rb.len, ← enD_len]; first | exact hi | exact Nat.le_of_eq hi⟩⟩
      obtain ⟨y, hy, _⟩ := enD_at hd
      obtain ⟨z, hz, _⟩ := rb.at hy
      refine ⟨⟨ys, z, sq, hz⟩, fun v H2 ⟨T, w, e1, e2, e3, e4⟩ => ?_⟩
      subst e1
      exact jo_en rb hd e2 e3 (e4 ys sq)
    · rw [List.mem_singleton.mp hx]
      exact ⟨b, xs, rfl, ea, ra⟩
  · exact q1.elim
theorem ai_enL {e : Expr} {a : AE} {p pos tpos : Pos} {elts : List Expr} {kk : Nat} (hg : Gl X "enumerate") (hm : X.mg "enumerate" = none) (ha : PE X e (cE Ec a)) (hs : starEach [e] X.env = [(false, eval e X.env)] := by rfl) (hs2 : starEach [e] X.env = (false, eval e X.env) :: starEach [] X.env := by rfl) : PI X (.Tuple elts kk tpos) (.Call (.Name "enumerate" p) [e] [] pos) (cI true Ec (iEnL a)) := (pi_enum hg hm (pa_cons ha pa_nil hs2) hs).sub fun σ H R ⟨Φ, E, xp, s, Qa, r, x, q, k⟩ => by
  refine ⟨Φ, E, xp, s, _, r, x, q, fun d E1 s1 v H1 l1 r1 k1 p1 q1 => ?_⟩
  split at q1
  · next L =>
    obtain ⟨b, xs, rfl, ea, nb, ra⟩ := p1
    refine ⟨b, xs, rfl, sqL ea, k (.fix (enD L)) E1 s1 _ H1 [(.list L, .ref b)] l1 r1 k1 (fun Φ E s σ1 H _ hh _ i => ?_) (fun x hx => ?_) q1⟩
    · obtain ⟨c, ys, e, eb, _, rb⟩ := hh (.list L, .ref b) List.mem_cons_self
      cases e
      have sq : SqL X.K H b ys := sqL eb
      refine ⟨fun d hd => ?_, fun hi => ⟨ys, sq, by rw [rb.len, ← enD_len]; first | exact hi | exact Nat.le_of_eq hi⟩⟩
      obtain ⟨y, hy, _⟩ := enD_at hd
      obtain ⟨z, hz, _⟩ := rb.at hy
      refine ⟨⟨ys, z, sq, hz⟩, fun v H2 ⟨T, w, e1, e2, e3, e4⟩ => ?_⟩
      subst e1
      exact jo_en rb hd e2 e3 (e4 ys sq)
    · rw [List.mem_singleton.mp hx]
      exact ⟨b, xs, rfl, ea, nb, ra⟩
  · exact q1.elim
end
def fStr : List PyData → (PyData → Prop) → Prop
  | [.int i], Q => i.natAbs.log2 < 1920 ∧ Q (.str (toString i))
  | [.bool b], Q => Q (.str (if b then "True" else "False"))
  | _, _ => False
theorem dc_str : DCall (fun xs H Q => (∃ i, xs = [.int i] ∧ i.natAbs.log2 < 1920 ∧ Q (.str (toString i)) H) ∨ ∃ k : Bool, xs = [.bl k] ∧ Q (.str (if k then "True" else "False")) H) fStr := by
  intro bn H ds vs Q Qc nb p q k
  unfold fStr at q
  split at q
  · cases p with
    | cons p t =>
      cases t
      exact .inl ⟨_, by rw [p.int], q.1, k (.str _) _ H (.refl _) rfl q.2⟩
  · cases p with
    | cons p t =>
      cases t
      exact .inr ⟨_, by rw [p.bool], k (.str _) _ H (.refl _) rfl q⟩
  · exact q.elim
/-! ### x == [], x == (), whatever stands in x -/
section
variable {X : Cx}
theorem op_eqT0 (hu : X.A.units < cLine) : OpR X (compareOp .Eq) (fun x y H Q => ∃ a b xs, x = .ref a ∧ y = .ref b ∧ SqT X.K H a xs ∧ SqT X.K H b [] ∧ Q (.bl xs.isEmpty) H) := by
  intro pins s σ H x y v u Q I rx ry ⟨a, b, xs, ex, ey, ha, hb, q⟩
  subst ex ey; cases rx; cases ry
  obtain ⟨its, r1, p1, _⟩ := I.tuple ha
  obtain ⟨its2, r2, p2, _⟩ := I.tuple hb
  cases r2
  have h := SeqAt.RcAt.tuples (A := X.A) (s := s) (e := fun _ => true) p1 p2 hu (fun j _ j2 => absurd j2 (by simp))
  cases r1 with
  | nil => exact h _ _ _ _ ⟨.bl true, H, I, rfl, q⟩
  | cons _ _ => exact h _ _ _ _ ⟨.bl false, H, I, rfl, q⟩
end
def vEqE : PyData → PyData → (PyData → Prop) → Prop
  | .list ds, .list [], Q => Q (.bool ds.isEmpty)
  | .tuple ds, .tuple [], Q => Q (.bool ds.isEmpty)
  | _, _, _ => False
def vNeE : PyData → PyData → (PyData → Prop) → Prop
  | .list ds, .list [], Q => Q (.bool (!ds.isEmpty))
  | .tuple ds, .tuple [], Q => Q (.bool (!ds.isEmpty))
  | _, _, _ => False
def rEmp (K : PySem.W.Frag) (g : Bool → Bool) : R2 := fun x y H Q => (∃ a b xs, x = .ref a ∧ y = .ref b ∧ SqL K H a xs ∧ SqL K H b [] ∧ Q (.bl (g xs.isEmpty)) H) ∨ ∃ a b xs, x = .ref a ∧ y = .ref b ∧ SqT K H a xs ∧ SqT K H b [] ∧ Q (.bl (g xs.isEmpty)) H
theorem op_eqE {X : Cx} (hu : X.A.units + 64 < cLine) : OpR X (compareOp .Eq) (rEmp X.K id) := (op_eqL0 (by omega)).or (op_eqT0 (by omega))
theorem op_neE {X : Cx} (hu : X.A.units + 64 < cLine) : OpR X (compareOp .NotEq) (rEmp X.K (!·)) := (op_neL0 (by omega)).or (op_neT0 (by omega))
theorem emp_len2 {ds : List PyData} {xs : List V} (h : xs.length = ds.length) : xs.isEmpty = ds.isEmpty := by
  cases ds <;> cases xs <;> first | rfl | (simp at h)
theorem dop_emp {K : PySem.W.Frag} {g : Bool → Bool} {f : PyData → PyData → (PyData → Prop) → Prop} (hf : ∀ d e Q, f d e Q → (∃ ds, (d = .list ds ∧ e = .list [] ∨ d = .tuple ds ∧ e = .tuple []) ∧ Q (.bool (g ds.isEmpty)))) : DOp (rEmp K g) f := by
  intro bn H d1 d2 v1 v2 Q Qc nb p1 p2 q k
  obtain ⟨ds, ⟨rfl, rfl⟩ | ⟨rfl, rfl⟩, q2⟩ := hf _ _ _ q
  · obtain ⟨a, xs, rfl, ea, ra⟩ := p1.lst
    obtain ⟨b, ys, rfl, eb, rb⟩ := p2.lst
    cases rb
    exact .inl ⟨a, b, xs, rfl, rfl, sqL ea, sqL eb, by rw [emp_len2 ra.len]; exact k (.bool _) _ H (.refl _) rfl q2⟩
  · obtain ⟨a, xs, rfl, ea, ra⟩ := p1.tup
    obtain ⟨b, ys, rfl, eb, rb⟩ := p2.tup
    cases rb
    exact .inr ⟨a, b, xs, rfl, rfl, .inl ea.rd, .inl eb.rd, by rw [emp_len2 ra.len]; exact k (.bool _) _ H (.refl _) rfl q2⟩
theorem dop_eqE {K : PySem.W.Frag} : DOp (rEmp K id) vEqE := dop_emp fun d e Q q => by
  unfold vEqE at q
  split at q
  · exact ⟨_, .inl ⟨rfl, rfl⟩, q⟩
  · exact ⟨_, .inr ⟨rfl, rfl⟩, q⟩
  · exact q.elim
theorem dop_neE {K : PySem.W.Frag} : DOp (rEmp K (!·)) vNeE := dop_emp fun d e Q q => by
  unfold vNeE at q
  split at q
  · exact ⟨_, .inl ⟨rfl, rfl⟩, q⟩
  · exact ⟨_, .inr ⟨rfl, rfl⟩, q⟩
  · exact q.elim
end TR
namespace TR
open PySem PySem.Spec PyProof.Rows L2
/-! ### max(list, key=len) -/
def LenAt (h : Heap) (v : Value) (n : Nat) : Prop := (n : Int) < 2 ^ 63 ∧ ∃ (p : Addr) (vs : Array Value), v = .ref p ∧ vs.size = n ∧ (h.IsList p vs ∨ IsTup h p vs)
theorem LenAt.keep {h h' : Heap} {v : Value} {n : Nat} (x : LenAt h v n) (k : ∀ b o, h.get? b = some o → h'.get? b = some o) : LenAt h' v n := by
  obtain ⟨a, p, vs, e, e2, q⟩ := x
  refine ⟨a, p, vs, e, e2, q.imp (fun ⟨o, ho, r⟩ => ⟨o, k _ _ ho, r⟩) fun z => z.keeps k⟩
abbrev lenGt (ns : List Nat) (i j : Nat) : Bool := decide (ns.getD j 0 < ns.getD i 0)
section
variable {prog : Program} {w : World} {A : Around} {s : Shared} {E : Value → Shared → Prop}
theorem max_list_len {l : Addr} {vs : Array Value} {ns : List Nat} {Q : Value → Shared → Prop} (hh : A.handled = none) (hl : s.heap.IsList l vs) (h0 : 0 < vs.size) (hn : ∀ i v, vs[i]? = some v → LenAt s.heap v (ns.getD i 0))
    (h : ∀ v h' tk, vs[PySem.argBest (lenGt ns) (vs.size - 1)]? = some v → (∀ b o, s.heap.get? b = some o → h'.get? b = some o) → Q v { s with heap := h', toks := tk }) :
    wpAny (model prog w) A (call (.builtin "max") [.ref l] [(Str.ofString "key", .builtin "len")]) Q E s := by
  refine call_max_walkKB (PySem.W.iter_listW (A := A.in1) hh hl fun s₂ e W st hfp hw hk => ?_)
  have hsz : s₂.heap.objs.size = s.heap.objs.size + 1 := by rw [e]; exact Heap.size_push ..
  refine ⟨_, _, _, _, _, _, _, (fun s' : Shared => ∃ h' tk, s' = { s with heap := h', toks := tk } ∧ ∀ b o, s.heap.get? b = some o → h'.get? b = some o), (fun i k _ => ∃ t, k = .int (ns.getD i 0 : Nat) t), lenGt ns, rfl, W, st, hfp, h0, ⟨?_, ?_, ?_, ?_⟩, ?_, ?_⟩
  · rintro s1 s2 ⟨h1, t1, rfl, k1⟩ m
    refine ⟨s2.heap, s2.toks, ?_, fun b o eb => m.heap b o (fun hb => ?_) (k1 b o eb)⟩
    · obtain ⟨hp, g, d, tk, os⟩ := s2
      have e1 : g = s.gens := m.gens
      have e2 : d = s.drawn := m.drawn
      have e3 : os = s.os := m.os
      subst e1
      subst e2
      subst e3
      rfl
    · have hlt := Heap.lt_size eb
      rcases List.mem_cons.mp hb with hb | hb
      · exact absurd hlt (by rw [hb, hsz]; exact Nat.not_lt.mpr (Nat.le_succ _))
      · exact absurd hlt (by rw [List.mem_singleton.mp hb]; exact Nat.lt_irrefl _)
  · exact fun _ _ _ _ h _ => h
  · rintro i v s1 o Q2 E2 hi hP ⟨h1, t1, rfl, k1⟩ hst hS k
    obtain ⟨a, p, us, rfl, e2, q⟩ := (hn i v hP).keep k1
    have fin : Q2 (.int us.size (t1 + 1)) { s with heap := h1, toks := t1 + 1 + 1 } := by
      refine k _ _ ⟨h1, _, rfl, k1⟩ ?_ hS ⟨t1 + 1, by rw [e2]⟩ fun _ _ h => h
      exact W.frame (i + 1) { s with heap := h1, toks := t1 } h1 (t1 + 1 + 1) hst (by show t1 ≤ _; exact Nat.le_succ_of_le (Nat.le_succ _)) fun _ _ _ h => h
    rcases q with q | q
    · exact Calls.call_len_list q (by rw [e2]; exact a) fin
    · exact len_tuple q (by rw [e2]; exact a) fin
  · rintro i j ki kj s1 Q2 E2 _ ⟨t, rfl⟩ ⟨t', rfl⟩ q
    refine gt_int (prog := prog) (w := w) ?_
    have e : lenGt ns i j = decide (((ns.getD j 0 : Nat) : Int) < ((ns.getD i 0 : Nat) : Int)) := decide_eq_decide.mpr (by omega)
    rw [← e]; exact q
  · rw [e]
    exact ⟨_, _, rfl, fun b o eb => Heap.get?_push_of_some _ eb⟩
  · rintro v s' hP ⟨h', tk, rfl, k⟩
    exact h v h' tk hP k
end
section
variable {X : Cx}
def CallRL (X : Cx) (r : List V → Hp → VK → Prop) : Prop :=
  ∀ (pins : List (Addr × Obj)) (s : Shared) (σ : L2.St) (H : Hp) (xs : List V) (us : List Value) (Q : VK), Inv X pins σ H s → Vals xs us → r xs H Q → wpAny (model X.prog X.w) X.A (call (.builtin "max") us [(Str.ofString "key", .builtin "len")]) (EP X pins σ Q) X.xe s
def rMaxL (K : PySem.W.Frag) : List V → Hp → VK → Prop := fun xs H Q => ∃ (l : Addr) (ys : List V) (ns : List Nat), xs = [.ref l] ∧ SqL K H l ys ∧ ys ≠ [] ∧ (∀ i y, ys[i]? = some y → ∃ p zs, y = .ref p ∧ (SqL K H p zs ∨ SqT K H p zs) ∧ ns.getD i 0 = zs.length) ∧ ∀ y, ys[PySem.argBest (lenGt ns) (ys.length - 1)]? = some y → Q y H
theorem cr_maxL (hc : X.calm = true) : CallRL X (rMaxL X.K) := by
  intro pins s σ H xs us Q I r ⟨l, ys, ns, e, hs, hne, hy, q⟩
  subst e
  rw [Vals.ref1 r]
  obtain ⟨its, rv, pl, hz⟩ := I.list hs
  have hlen := rv.length
  have hp : 0 < ys.length := List.length_pos_iff.mpr hne
  have hl := line63
  have hs63 : sizeLine = 16777216 := sizeLine_eq
  refine max_list_len (ns := ns) (I.ok.hd hc) pl.isList (by simp only [List.size_toArray]; omega) (fun i v hv => ?_) fun v h' tk hv kp => ?_
  · have hv' : its[i]? = some v := by simpa using hv
    have hi : i < ys.length := by rw [hlen]; exact (List.getElem?_eq_some_iff.mp hv').1
    obtain ⟨y, ey⟩ : ∃ y, ys[i]? = some y := ⟨_, List.getElem?_eq_getElem hi⟩
    obtain ⟨u, hu, ry⟩ := rv.get ey
    rw [hv'] at hu
    cases hu
    obtain ⟨p, zs, rfl, hz2, en⟩ := hy i y ey
    rw [en]
    cases ry
    rcases hz2 with hz2 | hz2
    · obtain ⟨its2, r2, pl2, z2⟩ := I.list hz2
      exact ⟨by omega, p, its2.toArray, rfl, by rw [List.size_toArray]; exact r2.length.symm, .inl pl2.isList⟩
    · obtain ⟨its2, r2, pl2, z2⟩ := I.tuple hz2
      exact ⟨by omega, p, its2.toArray, rfl, by rw [List.size_toArray]; exact r2.length.symm, .inr pl2⟩
  · have hv' : its[PySem.argBest (lenGt ns) (ys.length - 1)]? = some v := by
      rw [hlen]
      simpa using hv
    have hi : PySem.argBest (lenGt ns) (ys.length - 1) < ys.length := Nat.lt_of_lt_of_eq (List.getElem?_eq_some_iff.mp hv').1 hlen.symm
    obtain ⟨y, ey⟩ : ∃ y, ys[PySem.argBest (lenGt ns) (ys.length - 1)]? = some y := ⟨_, List.getElem?_eq_getElem hi⟩
    obtain ⟨u, hu, ry⟩ := rv.get ey
    rw [hv'] at hu
    cases hu
    exact ⟨y, H, I.kept (t' := tk) kp, ry, q y ey⟩
end
/-! ### min(a, b) of data -/
section
variable {prog : Program} {w : World} {A : Around} {s : Shared} {E : Value → Shared → Prop}
theorem call_min_twoH {a b : Value} {Q : Value → Shared → Prop}
    (h : wpAny (model prog w) A.in1 (pyIter (.ref s.heap.objs.size)) (fun it s₂ => ∃ I fp wr G n P St H bt, it = .ref I ∧ WalksS prog w A.in1 I fp wr G n P St ∧ St 0 s₂ ∧ (∀ b ∈ fp, b < s₂.heap.objs.size) ∧ 0 < n ∧
      (∀ b o, H.get? b = some o → b ∉ wr) ∧ (∀ b o, H.get? b = some o → s₂.heap.get? b = some o) ∧ PySem.CmpIn prog w A.in1 .Lt H P bt ∧ ∀ v s', P (PySem.argBest bt (n - 1)) v → Moved wr G s₂ s' → Q v s') E
      { s with heap := s.heap.push { cls := .type "tuple", data := .seq #[a, b] } }) :
    wpAny (model prog w) A (call (.builtin "min") [a, b]) Q E s := by
  have hname : (toString "min" ++ toString ".loop" : String) = "min.loop" := by decide
  refine call_function_tree F.kind_min F.plain_min F.entry_min (F.args_min2 _ _) ?_
  show wpAny _ A.in1 (Builtin.Builtins.bindParams "min" ["key", "default"] 0 ⟨[], []⟩ >>= _) _ _ s
  refine wpAny_bind (wpAny_of_eq (show Builtin.Builtins.bindParams "min" ["key", "default"] 0 ⟨[], []⟩ = pure [none, none] from rfl) ?_)
  show wpAny _ A.in1 (newTuple [a, b] >>= _) _ _ s
  refine wpAny_bind (wpAny_newObj_type ?_)
  refine wpAny_bind (wpAny_mono h (fun it s₂ h₂ => ?_) fun _ _ e => e)
  obtain ⟨I, fp, wr, G, n, P, St, H, bt, rfl, W, hst, hfp, hn, hw, hkeep, hcmp, hQ⟩ := h₂
  refine wpAny_bind (wpAny_newObj_type ?_)
  have hSf : s₂.heap.objs.size ∉ fp := fun hm => Nat.lt_irrefl _ (hfp _ hm)
  rw [hname]
  refine wpAny_pure ⟨plainId_quiet F.plain_min_loop _, codeAny_min_loop_firstH W H hw bt hcmp s₂.heap.objs.size hSf (fresh_in hkeep) _ hn (fun b o e => Heap.get?_push_of_some _ (hkeep b o e)) (W.frame 0 s₂ _ s₂.toks hst (Nat.le_refl _) fun b _ o e => Heap.get?_push_of_some _ e) (Heap.get?_push_size _ rfl) fun v s' hP hm => ?_⟩
  exact hQ v s' hP (Moved.drop_new (tk := s₂.toks) hm (Nat.le_refl _))
theorem min_two_data {a b : Value} {x y : PyData} {as : List Addr} {Q : Value → Shared → Prop} (hh : A.handled = none) (hr : ReadsAll s.heap [a, b] [x, y] as) (ha : PySem.W.AlikeAll [x, y]) (hu : A.units + 1 + PyData.depthAll [x, y] < cLine)
    (h : ∀ (i : Nat) v h' tk bs, [a, b][i]? = some v → Reads h' v (PySem.W.minD x [y]) bs → (∀ b o, s.heap.get? b = some o → h'.get? b = some o) → Q v { s with heap := h', toks := tk }) :
    wpAny (model prog w) A (call (.builtin "min") [a, b]) Q E s := by
  refine call_min_twoH ?_
  have hT : (s.heap.push { cls := .type "tuple", data := .seq #[a, b] }).IsTuple s.heap.objs.size #[a, b] := ⟨_, Heap.get?_push_size _ rfl, rfl, 0, rfl⟩
  have kp : ∀ c o, s.heap.get? c = some o → (s.heap.push { cls := .type "tuple", data := .seq #[a, b] }).get? c = some o := fun c o e => Heap.get?_push_of_some _ e
  have hr1 : ReadsAll (s.heap.push { cls := .type "tuple", data := .seq #[a, b] }) (#[a, b] : Array Value).toList [x, y] as := ReadsAll.keeps kp hr
  refine PySem.W.iter_tupleW (A := A.in1) hh hT fun s₂ e W st hfp hw hk => ?_
  refine ⟨_, _, _, _, _, _, _, (s.heap.push { cls := .type "tuple", data := .seq #[a, b] }), _, rfl, W, st, hfp, by simp, hw, hk, PySem.W.cmpIn_lt (s := { s with heap := s.heap.push { cls := .type "tuple", data := .seq #[a, b] } }) (A := A.in1) hr1 ha (by show A.units + 1 + _ < _; exact hu), fun v s' hP m => ?_⟩
  obtain ⟨h', tk, rfl, hk'⟩ := PySem.W.moved_old (s := { s with heap := s.heap.push { cls := .type "tuple", data := .seq #[a, b] } }) e rfl m
  obtain ⟨bs, r, _, _, _⟩ := PySem.W.readsAll_atA hr1 _ v hP
  have e2 := (PySem.W.argBest_fold PySem.W.dataLt PyData.none x [y] 1 (Nat.le_refl _)).2
  rw [show [y].take 1 = [y] from rfl] at e2
  have hP2 : [a, b][PySem.argBest (fun i j => PySem.W.dataLt ([x, y].getD i PyData.none) ([x, y].getD j PyData.none)) 1]? = some v := by
    rw [← Array.getElem?_toList] at hP
    exact hP
  refine h _ v h' tk bs hP2 (PySem.W.reads_keeps hk' (by unfold PySem.W.minD; rw [← e2]; exact r)) fun c o ec => hk' c o (kp c o ec)
end
section
variable {X : Cx}
def rMin2A : List V → Hp → VK → Prop := fun vs H Q => ∃ (v1 v2 : V) (d1 d2 : PyData) (bn : List Addr), vs = [v1, v2] ∧ Rp H bn d1 v1 ∧ Rp H bn d2 v2 ∧ PySem.W.AlikeAll [d1, d2] ∧ PyData.depthAll [d1, d2] ≤ 50 ∧ ∀ y, Rp H bn (PySem.W.minD d1 [d2]) y → Q y H
theorem cr_min2A (hc : X.calm = true) (hu : X.A.units + 65 < cLine) : CallR X (.builtin "min") rMin2A := by
  intro pins s σ H vs us Q I r ⟨v1, v2, d1, d2, bn, ev, r1, r2, hal, hdp, q⟩
  subst ev
  have ra : RpAll H bn [d1, d2] [v1, v2] := ⟨v1, [v2], rfl, r1, v2, [], rfl, r2, rfl⟩
  obtain ⟨as, rd⟩ := RpAll.rd0 I _ _ us ra r
  obtain ⟨u1, u2, rfl, _, _⟩ := vals2 r
  refine min_two_data (I.ok.hd hc) rd hal (by omega) fun i v h' tk bs e1 e2 kp => ?_
  obtain ⟨a, x, _, _, rp, rl⟩ := rp_get ra r (i := i) (u := v) (by simpa using e1)
  obtain ⟨cs, r1⟩ := Rp.rd0 I a x v rp rl
  obtain ⟨e3, _⟩ := reads_det (fun b o e _ => kp b o e) r1 e2
  exact ⟨x, H, I.kept (t' := tk) kp, rl, q x (e3 ▸ rp)⟩
def fMin2A : List PyData → (PyData → Prop) → Prop
  | [.tuple a, .tuple b], Q => PySem.W.AlikeAll [.tuple a, .tuple b] ∧ PyData.depthAll [.tuple a, .tuple b] ≤ 50 ∧ Q (PySem.W.minD (.tuple a) [.tuple b])
  | _, _ => False
theorem dc_min2A : DCall rMin2A fMin2A := by
  intro bn H ds vs Q Qc nb p q k
  unfold fMin2A at q
  split at q
  · cases p with
    | cons p t =>
      cases t with
      | cons p2 t2 =>
        cases t2
        refine ⟨_, _, _, _, bn, rfl, ?_, ?_, q.1, q.2.1, fun y r => k _ y H (.refl _) r q.2.2⟩
        · rcases p with h | ⟨_, _, _, e, _⟩
          · exact h
          · cases e
        · rcases p2 with h | ⟨_, _, _, e, _⟩
          · exact h
          · cases e
  · exact q.elim
end
/-! ### max by len, as an expression -/
section
variable {X : Cx} {x ln nm : Str} {p pos lp kp : Pos} {e : Expr} {t : TA} {r : List V → Hp → VK → Prop}
theorem pe_maxL (hc : CallRL X r) (hg : Gl X x) (hm : X.mg x = none) (hv : bootBuiltins x = some (.builtin "max")) (hg2 : Gl X ln) (hm2 : X.mg ln = none) (hv2 : bootBuiltins ln = some (.builtin "len")) (ha : PA X [e] t)
    (hnm : nm = Str.ofString "key" := by rfl) (hn : x ≠ "__name__" := by decide) (hdb : (x == ("__debug__" : Str)) = false := by decide) (hn2 : ln ≠ "__name__" := by decide) (hdb2 : (ln == ("__debug__" : Str)) = false := by decide)
    (he : backTo pos (starEach [e] X.env) = (false, eval e X.env) :: backTo pos (starEach [] X.env) := by rfl) (hpl : (backTo pos (starEach [e] X.env)).any (·.1) = false := by rfl) :
    PE X (.Call (.Name x p) [e] [⟨some nm, .Name ln lp, kp⟩] pos) (tCB r t) := by
  subst hnm
  refine ⟨fun pins s σ H Q I h => ?_⟩
  refine wpAny_Call_Name_kw (ld_blt I hg hm hv ?_ hn hdb)
  refine PyProof.Rows.callWith_kw (thn (ha.run pos pins s σ H _ I h) fun us s1 ⟨vs, H1, I1, r1, q1⟩ => ?_) he hpl rfl rfl
  show wpAny _ _ (evalAll [(do let v ← eval (.Name ln lp) X.env; standAt pos; pure v)]) _ _ s1
  refine wpAny_evalAll_cons (wpAny_bind (ld_blt I1 hg2 hm2 hv2 (wpAny_bind (wpAny_standAt (wpAny_pure (wpAny_evalAll_nil ?_)))) hn2 hdb2))
  exact hc pins s1 σ H1 vs us Q I1 r1 q1
end
def maxLD (d : PyData) (ds : List PyData) : PyData := ds.foldl (fun a y => if (items a).length < (items y).length then y else a) d
def tl : PyData → Bool
  | .tuple _ => true
  | .list _ => true
  | _ => false
def fMaxL : List PyData → (PyData → Prop) → Prop
  | [.list (d :: ds)], Q => (d :: ds).all tl = true ∧ Q (maxLD d ds)
  | _, _ => False
theorem dc_maxL {K : PySem.W.Frag} : DCall (rMaxL K) fMaxL := by
  intro bn H ds vs Q Qc nb p q k
  unfold fMaxL at q
  split at q
  · next d ds =>
    cases p with
    | cons p t =>
      cases t
      obtain ⟨a, xs, rfl, e, ra⟩ := p.lst
      have hlen : xs.length = ds.length + 1 := ra.len
      have get : ∀ {ds : List PyData} {xs : List V} {i : Nat} {y : V}, RpAll H bn ds xs → xs[i]? = some y → ∃ d, ds[i]? = some d ∧ Rp H bn d y := by
        intro ds
        induction ds with
        | nil => intro xs i y h g; rw [show xs = [] from h] at g; cases g
        | cons d ds ih =>
          intro xs i y ⟨v, t, e, h1, h2⟩ g
          subst e
          cases i with
          | zero => cases g; exact ⟨d, rfl, h1⟩
          | succ i => exact ih h2 g
      have nl : ∀ i, ((d :: ds).map fun z => (items z).length).getD i 0 = (items ((d :: ds).getD i .none)).length := fun i => by
        rw [List.getD_eq_getElem?_getD, List.getD_eq_getElem?_getD, List.getElem?_map]
        cases (d :: ds)[i]? <;> rfl
      refine ⟨a, xs, (d :: ds).map fun z => (items z).length, rfl, sqL e, fun z => (by rw [z] at hlen; cases hlen), fun i y hy => ?_, fun y hy => ?_⟩
      · obtain ⟨z, hz, rp⟩ := get ra hy
        rw [nl, List.getD_eq_getElem?_getD, hz]
        have ht : tl z = true := List.all_eq_true.mp q.1 z (List.mem_of_getElem? hz)
        cases z with
        | list es => obtain ⟨b, ws, rfl, h1, _, h3⟩ := rp; exact ⟨b, ws, rfl, .inl (sqL h1), h3.len.symm⟩
        | tuple es => obtain ⟨b, ws, rfl, h1, h3⟩ := rp; exact ⟨b, ws, rfl, .inr (.inl h1.rd), h3.len.symm⟩
        | _ => cases ht
      · obtain ⟨z, hz, rp⟩ := get ra hy
        have fe : lenGt ((d :: ds).map fun z => (items z).length) = fun i j => (fun u v : PyData => decide ((items v).length < (items u).length)) ((d :: ds).getD i .none) ((d :: ds).getD j .none) := by
          funext i j
          unfold lenGt
          rw [nl, nl]
        have e2 := (PySem.W.argBest_fold (fun u v : PyData => decide ((items v).length < (items u).length)) PyData.none d ds ds.length (Nat.le_refl _)).2
        rw [List.take_length, ← fe] at e2
        have e3 : (d :: ds).getD (PySem.argBest (lenGt ((d :: ds).map fun z => (items z).length)) ds.length) .none = z := by
          rw [hlen] at hz
          rw [List.getD_eq_getElem?_getD]
          have hz : (d :: ds)[PySem.argBest (lenGt ((d :: ds).map fun z => (items z).length)) ds.length]? = some z := hz
          rw [hz]; rfl
        have e4 : z = maxLD d ds := by
          rw [← e3, e2]
          unfold maxLD
          congr 1
          funext a y
          by_cases h : (items a).length < (items y).length
          · rw [if_pos h, decide_eq_true h, if_pos rfl]
          · rw [if_neg h, decide_eq_false h, if_neg (by decide)]
        exact k _ y H (.refl _) (e4 ▸ rp) q.2
  · exact q.elim
end TR
namespace TR
open PySem PySem.Spec PyProof.Rows L2
theorem blkOk_in {Y : Cx} {N : List Str} {sc scope : Scope} {own : List (Str × Nat)} (h : blkC N sc scope own = true) (hN : Y.N = N := by rfl) (hs : Y.env.scope = sc := by rfl) : BlkOk Y.N Y.env.scope scope own := by
  subst hN
  subst hs
  exact blkOk_by h
end TR
namespace TR
open PySem PySem.Spec PyProof.Rows L2
/-! ### x or y, as a value -/
def aOrT (a b : AE) : AE := fun xp s Q => a xp s fun d s1 => match truD d with
  | some true => Q d s1
  | some false => b xp s1 Q
  | none => False
section
variable {X : Cx} {Ec : EC}
theorem tru_rp {K : PySem.W.Frag} {H : Hp} {bn : List Addr} {d : PyData} {v : V} {b : Bool} (p : Rp H bn d v) (h : truD d = some b) : TruV K v H b := by
  unfold truD at h
  split at h
  · cases h; rw [show v = V.non from p]; rfl
  · cases h; rw [show v = V.bl _ from p]; rfl
  · cases h; rw [show v = V.int _ from p]; rfl
  · cases h
    obtain ⟨a, xs, rfl, ea, _, ra⟩ := p
    exact .inl ⟨xs, sqL ea, emp_len ra.len⟩
  · cases h
    obtain ⟨a, xs, rfl, ea, ra⟩ := p
    exact .inr (.inl ⟨xs, .inl ea.rd, emp_len ra.len⟩)
  · cases h
theorem ae_orT {a b : Expr} {rest : List Expr} {ta tb : AE} {pos : Pos} (h : PE X a (cE Ec ta)) (g : PE X (.BoolOp .Or (b :: rest) pos) (cE Ec tb)) : PE X (.BoolOp .Or (a :: b :: rest) pos) (cE Ec (aOrT ta tb)) := by
  refine (pe_orT h g).sub fun σ H Q ⟨Φ, E, xp, s, Qa, r0, x0, q, k⟩ => ⟨Φ, E, xp, s, _, r0, x0, q, fun d E' s' v H' l r' kb rp q' => ?_⟩
  split at q'
  · next e => exact ⟨true, tru_rp rp e, iteT (k d E' s' v H' l r' kb rp q')⟩
  · next e => exact ⟨false, tru_rp rp e, iteF ⟨Φ, E', xp, s', Qa, r', x0, q', fun b E2 s2 v2 H2 l2 r2 k2 p2 q2 => k b E2 s2 v2 H2 (l2.trans l) r2 (kb.trans l k2) p2 q2⟩⟩
  · exact q'.elim
end
end TR
namespace TR
open PySem PySem.Spec PyProof.Rows L2
/-! ### a < b < c < d, as a value -/
section
variable {X : Cx}
def tChain3 (r r' r'' : R2) (ta tb tc td : TE) : TE := fun σ H Q => ta σ H fun x H1 => tb σ H1 fun y H2 => r x y H2 fun z H3 => ∃ k, z = .bl k ∧
  (if k = true then tc σ H3 fun w' H4 => r' y w' H4 fun z2 H5 => ∃ k2, z2 = .bl k2 ∧ (if k2 = true then td σ H5 fun u' H6 => r'' w' u' H6 Q else Q (.bl false) H5) else Q (.bl false) H3)
theorem pe_chain3 {op op' op'' : CmpOp} {r r' r'' : R2} {a b c d : Expr} {ta tb tc td : TE} {pos : Pos} (ho : OpR X (compareOp op) r) (ho' : OpR X (compareOp op') r') (ho'' : OpR X (compareOp op'') r'') (ha : PE X a ta) (hb : PE X b tb) (hc : PE X c tc) (hd : PE X d td)
    (hm : lastMarks [op, op', op''] [b, c, d] = false := by with_unfolding_all rfl) : PE X (.Compare a [op, op', op''] [b, c, d] pos) (tChain3 r r' r'' ta tb tc td) := by
  refine ⟨fun pins s σ H Q I h => ?_⟩
  refine Compare_chain (thn (ha.run pins s σ H _ I h) fun v s1 ⟨x, H1, I1, r1, q1⟩ => chain_link (thn (hb.run pins s1 σ H1 _ I1 q1) fun u s2 ⟨y, H2, I2, r2, q2⟩ =>
    thn (ho pins s2 σ H2 x y v u _ I2 r1 r2 q2) fun d s3 ⟨z, H3, I3, r3, k, e, q3⟩ => ?_)) hm
  subst e
  cases r3
  refine wpAny_truthy_bool ?_
  cases k with
  | false => exact ite_ff ⟨.bl false, H3, I3, rfl, q3⟩
  | true =>
    refine ite_tt (chain_link (thn (hc.run pins s3 σ H3 _ I3 q3) fun w' s4 ⟨z', H4, I4, r4, q4⟩ =>
      thn (ho' pins s4 σ H4 y z' u w' _ I4 r2 r4 q4) fun d2 s5 ⟨z2, H5, I5, r5, k2, e2, q5⟩ => ?_))
    subst e2
    cases r5
    refine wpAny_truthy_bool ?_
    cases k2 with
    | false => exact ite_ff ⟨.bl false, H5, I5, rfl, q5⟩
    | true => exact ite_tt (chain_last (thn (hd.run pins s5 σ H5 _ I5 q5) fun t' s6 ⟨u', H6, I6, r6, q6⟩ => ho'' pins s6 σ H6 z' u' w' t' Q I6 r4 r6 q6))
end
section
variable {X : Cx} {Ec : EC}
def a4 (f g h : PyData → PyData → (PyData → Prop) → Prop) (aa ab ac ad : AO) : AE := fun xp s Q => aa xp s fun o1 s1 => ab xp s1 fun o2 s2 => rs s2 o1 fun d1 => rs s2 o2 fun d2 => f d1 d2 fun z => aB z fun k => if k = true then ac xp s2 fun o3 s3 => rs s3 o2 fun e2 => rs s3 o3 fun e3 => g e2 e3 fun z2 => aB z2 fun k2 => if k2 = true then ad xp s3 fun o4 s4 => rs s4 o3 fun g3 => rs s4 o4 fun g4 => h g3 g4 fun r => Q r s4 else Q (.bool false) s3 else Q (.bool false) s2
theorem a4_ok {r r' r'' : R2} {f g h : PyData → PyData → (PyData → Prop) → Prop} (hf : DOp r f) (hg : DOp r' g) (hh : DOp r'' h) {aa ab ac ad : AO} {σ : L2.St} {H : Hp} {Q : VK} (h : cE Ec (a4 f g h aa ab ac ad) σ H Q) : tChain3 r r' r'' (cO Ec aa) (cO Ec ab) (cO Ec ac) (cO Ec ad) σ H Q := by
  obtain ⟨Φ, E, xp, s, Qa, r0, x0, q, k⟩ := h
  refine ⟨Φ, E, xp, s, _, r0, x0, q, fun o1 E1 s1 v1 H1 l1 r1 k1 p1 q1 => ⟨Φ, E1, xp, s1, _, r1, x0, q1, fun o2 E2 s2 v2 H2 l2 r2 k2 p2 q2 => ?_⟩⟩
  obtain ⟨d1, e1, q2⟩ := rs_get q2
  obtain ⟨d2, e2, q2⟩ := rs_get q2
  refine hf (ban Φ E2) H2 d1 d2 v1 v2 _ _ r2.nb (r2.res (p1.kb r1.lst k2 l2) e1) (r2.res p2 e2) q2 fun d v H3 m rp q3 => ?_
  obtain ⟨b, rfl, q3⟩ := aB_get q3 rp
  have kk : KB E H H3 := (k1.trans l1 k2).trans (Le.refl _) (KB.of_same m)
  refine ⟨b, rfl, ?_⟩
  cases b with
  | false => exact iteF (k (.bool false) E2 s2 _ H3 (l2.trans l1) (r2.same m) kk rfl (unF q3))
  | true =>
    refine iteT ⟨Φ, E2, xp, s2, _, r2.same m, x0, unT q3, fun o3 E4 s4 v4 H4 l4 r4 k4 p4 q4 => ?_⟩
    obtain ⟨e2', f2, q4⟩ := rs_get q4
    obtain ⟨e3, f3, q4⟩ := rs_get q4
    have p2' : RpO Φ E2 σ H3 o2 v2 := p2.kb r2.lst (KB.of_same m) (Le.refl _)
    refine hg (ban Φ E4) H4 e2' e3 v2 v4 _ _ r4.nb (r4.res (p2'.kb (r2.same m).lst k4 l4) f2) (r4.res p4 f3) q4 fun d v H5 m5 rp5 q5 => ?_
    obtain ⟨b2, rfl, q5⟩ := aB_get q5 rp5
    have kk5 : KB E H H5 := (kk.trans (l2.trans l1) k4).trans (Le.refl _) (KB.of_same m5)
    refine ⟨b2, rfl, ?_⟩
    cases b2 with
    | false => exact iteF (k (.bool false) E4 s4 _ H5 (l4.trans (l2.trans l1)) (r4.same m5) kk5 rfl (unF q5))
    | true =>
      refine iteT ⟨Φ, E4, xp, s4, _, r4.same m5, x0, unT q5, fun o6 E6 s6 v6 H6 l6 r6 k6 p6 q6 => ?_⟩
      obtain ⟨g3, f6, q6⟩ := rs_get q6
      obtain ⟨g4, f7, q6⟩ := rs_get q6
      have p4' : RpO Φ E4 σ H5 o3 v4 := p4.kb r4.lst (KB.of_same m5) (Le.refl _)
      refine hh (ban Φ E6) H6 g3 g4 v4 v6 _ Q r6.nb (r6.res (p4'.kb (r4.same m5).lst k6 l6) f6) (r6.res p6 f7) q6 fun d v H7 m7 rp7 q7 => ?_
      exact k d E6 s6 v H7 (l6.trans (l4.trans (l2.trans l1))) (r6.same m7) ((kk5.trans (l4.trans (l2.trans l1)) k6).trans (Le.refl _) (KB.of_same m7)) rp7 q7
theorem ae_chain3 {op op' op'' : CmpOp} {r r' r'' : R2} {f g h : PyData → PyData → (PyData → Prop) → Prop} {a b c d : Expr} {aa ab ac ad : AO} {pos : Pos} (hf : DOp r f) (hg : DOp r' g) (hh : DOp r'' h) (ho : OpR X (compareOp op) r) (ho' : OpR X (compareOp op') r') (ho'' : OpR X (compareOp op'') r'') (ha : PE X a (cO Ec aa)) (hb : PE X b (cO Ec ab)) (hc : PE X c (cO Ec ac)) (hd : PE X d (cO Ec ad)) (hm : lastMarks [op, op', op''] [b, c, d] = false := by with_unfolding_all rfl) :
    PE X (.Compare a [op, op', op''] [b, c, d] pos) (cE Ec (a4 f g h aa ab ac ad)) := (pe_chain3 ho ho' ho'' ha hb hc hd hm).sub fun _ _ _ h => a4_ok hf hg hh h
end
end TR
namespace TR
open PySem PySem.Spec PyProof.Rows L2
/-! ### {k1: v1, k2: v2}.get(x, z), the keys texts, the values ints -/
section
variable {X : Cx} {Ec : EC}
def aLitGet (k1 : Str) (v1 : Int) (k2 : Str) (v2 z : Int) (a : AE) : AE := fun xp s Q => a xp s fun d s1 => match d with
  | .str x => Q (.int (if x = k1 then v1 else if x = k2 then v2 else z)) s1
  | _ => False
theorem ae_litGet {k1 k2 : Str} {v1 v2 z : Int} {i1 i2 i3 i4 i5 : Nat} {p1 p2 p3 p4 p5 dp apos cpos : Pos} {e : Expr} {a : AE} (hu : X.A.units + 65 < cLine) (ne : k1 ≠ k2) (h : PE X e (cE Ec a))
    (m : M2 X (.Dict [some (.Constant (.str k1) i1 p1), some (.Constant (.str k2) i2 p2)] [.Constant (.int v1) i3 p3, .Constant (.int v2) i4 p4] dp) "get" apos e (.Constant (.int z) i5 p5) cpos) :
    PE X (.Call (.Attribute (.Dict [some (.Constant (.str k1) i1 p1), some (.Constant (.str k2) i2 p2)] [.Constant (.int v1) i3 p3, .Constant (.int v2) i4 p4] dp) "get" apos) [e, .Constant (.int z) i5 p5] [] cpos) (cE Ec (aLitGet k1 v1 k2 v2 z a)) := by
  refine (pe_dget2 (by omega) (pe_disp (pps_cons pe_str pe_int (pps_cons pe_str pe_int pps_nil)) rfl rfl (by simp) (by simp)) h pe_int m).sub fun σ H Q ⟨Φ, E, xp, s, Qa, r0, x0, q, k⟩ => ?_
  intro p hp
  refine ⟨upd_same, [(.inr k1, .int v1), (.inr k2, .int v2)], rfl, by simp, p, rfl, .inl ⟨_, Or.inl upd_same⟩, ?_⟩
  have sm : Same H (upd (upd H p (.dK [])) p (.dK (mergeK [] [((.inr k1 : Key), V.int v1), ((.inr k2 : Key), V.int v2)]))) := fun b o hb => by
    have n : b ≠ p := fun z => by rw [z, hp] at hb; cases hb
    rw [upd_ne n, upd_ne n]; exact hb
  refine ⟨Φ, E, xp, s, _, r0.same sm, x0, q, fun d E1 s1 v H2 l r1 kb rp q' => ?_⟩
  have hH2 := kb p _ upd_same fun mm => r0.newban hp (List.mem_append_left _ mm)
  cases d with
  | str x =>
    obtain rfl : v = .str x := rp
    refine ⟨valV (mergeK [] [((.inr k1 : Key), V.int v1), ((.inr k2 : Key), V.int v2)]) (.inr x), .inl ⟨_, .inr x, Or.inl hH2, rfl, rfl⟩, ?_⟩
    have e1 : (valV (mergeK [] [((.inr k1 : Key), V.int v1), ((.inr k2 : Key), V.int v2)]) (.inr x)).getD (.int z) = V.int (if x = k1 then v1 else if x = k2 then v2 else z) := by
      have em : mergeK [] [((.inr k1 : Key), V.int v1), ((.inr k2 : Key), V.int v2)] = [((.inr k1 : Key), V.int v1), ((.inr k2 : Key), V.int v2)] := by
        have : ¬ ((.inr k1 : Key) = .inr k2) := fun z => ne (Sum.inr.inj z)
        simp [mergeK, putK, this]
      rw [em]
      unfold valV
      by_cases h1 : x = k1
      · subst h1; simp
      · by_cases h2 : x = k2
        · subst h2
          have : ¬ k1 = x := fun z => h1 z.symm
          simp [this, h1]
        · have n1 : ¬ k1 = x := fun z => h1 z.symm
          have n2 : ¬ k2 = x := fun z => h2 z.symm
          simp [n1, n2, h1, h2]
    rw [e1]
    exact k (.int _) E1 s1 _ H2 l r1 ((KB.of_same sm).trans (.refl _) kb) rfl q'
  | none => exact q'.elim
  | bool _ => exact q'.elim
  | int _ => exact q'.elim
  | list _ => exact q'.elim
  | tuple _ => exact q'.elim
  | dict _ => exact q'.elim
end
end TR
namespace TR
open PySem PySem.Spec PyProof.Rows L2
section
variable {X : Cx}
/-- set(t), t a tuple of ints -/
theorem cr_setTI (hc : X.calm = true) : CallR X (.type "set") (fun xs H Q => ∃ (p : Addr) (ns : List Int), xs = [.ref p] ∧ SqT X.K H p (ns.map V.int) ∧ ns.length < 60 ∧ ∀ l c, H l = none → c ≤ ns.length → Q (.ref l) (upd H l (SetO X.w l (fun j => decide (j ∈ ns)) c))) := by
  intro pins s σ H xs us Q I r ⟨p, ns, ex, hS, hz, q⟩
  subst ex
  rw [Vals.ref1 r]
  obtain ⟨its, rv, pl, _⟩ := I.tuple hS
  have pl : s.heap.IsTuple p its.toArray := pl
  refine call_set_tupI ns (I.ok.hd hc) pl (by simpa using rv.ints) (Nat.lt_of_lt_of_le (show ns.length + 1 < 64 by omega) (by decide)) fun h' tk c R hcn hk => ?_
  exact ⟨.ref s.heap.objs.size, _, I.laid (t' := tk) hk (Nat.le_refl _) (setO_new R), rfl, q _ c (I.hok.fresh (Nat.le_refl _)) hcn⟩
end
end TR
namespace TR
open PySem PySem.Spec PyProof.Rows L2
/-! ### sorted(set(t)), t a tuple of ints -/
def rSetI (K : PySem.W.Frag) (w : World) : List V → Hp → VK → Prop := fun xs H Q => ∃ (p : Addr) (ns : List Int), xs = [.ref p] ∧ SqT K H p (ns.map V.int) ∧ ns.length < 60 ∧ ∀ l c, H l = none → c ≤ ns.length → Q (.ref l) (upd H l (SetO w l (fun j => decide (j ∈ ns)) c))
def rSS (K : PySem.W.Frag) (w : World) : List V → Hp → VK → Prop := fun xs H Q => rSetI K w xs H fun x H1 => rSortedSet w [x] H1 Q
def fSS : List PyData → (PyData → Prop) → Prop
  | [.tuple ds], Q => ∃ ns : List Int, ds = ns.map PyData.int ∧ ns.length < 60 ∧ ∀ ms : List Int, ms.Pairwise (· < ·) → (∀ k, k ∈ ms ↔ k ∈ ns) → Q (.list (ms.map PyData.int))
  | _, _ => False
theorem dc_ss {K : PySem.W.Frag} {w : World} : DCallF (rSS K w) fSS := by
  intro bn H ds vs Q Qc nb p q k
  unfold fSS at q
  split at q
  · cases p with
    | cons p t =>
      cases t
      obtain ⟨a, xs, rfl, e, ra⟩ := p.tup
      obtain ⟨ns, rfl, hl, q⟩ := q
      cases rp_ints ra
      refine ⟨a, ns, rfl, .inl e.rd, hl, fun l c h0 hc => ⟨l, _, c, rfl, upd_same, by omega, fun ms p h1 h2 _ hp => ?_⟩⟩
      have npl : p ≠ l := fun z => by rw [z, upd_same] at hp; cases hp
      have hp0 : H p = none := by rw [upd_ne npl] at hp; exact hp
      exact k _ _ p _ hp0 ((same_upd h0).trans (same_upd hp)) upd_same ints_rp (q ms h1 fun k => (h2 k).trans decide_eq_true_iff)
  · exact q.elim
section
variable {X : Cx} {x y : Str} {p1 p2 c1 c2 : Pos} {e : Expr} {t : TA}
theorem pe_ss (hc : X.calm = true) (hg : Gl X x) (hm : X.mg x = none) (hv : bootBuiltins x = some (.builtin "sorted")) (hg2 : Gl X y) (hm2 : X.mg y = none) (hv2 : bootBuiltins y = some (.type "set")) (ha : PA X [e] t)
    (hn : x ≠ "__name__" := by decide) (hdb : (x == ("__debug__" : Str)) = false := by decide) (hn2 : y ≠ "__name__" := by decide) (hdb2 : (y == ("__debug__" : Str)) = false := by decide)
    (he : starEach [.Call (.Name y p2) [e] [] c2] X.env = (false, eval (.Call (.Name y p2) [e] [] c2) X.env) :: starEach [] X.env := by rfl) (hpl : (backTo c1 (starEach [] X.env)).any (·.1) = false := by rfl)
    (he2 : starEach [e] X.env = (false, eval e X.env) :: starEach [] X.env := by rfl) (hpl2 : (backTo c2 (starEach [] X.env)).any (·.1) = false := by rfl) :
    PE X (.Call (.Name x p1) [.Call (.Name y p2) [e] [] c2] [] c1) (tCB (rSS X.K X.w) t) :=
  show PE X _ (tCB (rSortedSet X.w) (tCons (tCB (rSetI X.K X.w) t) tNil)) from pe_callB (cr_sortedSet hc) hg hm hv (pa_cons (pe_callTy (cr_setTI hc) hg2 hm2 hv2 ha hn2 hdb2 he2 hpl2) pa_nil) hn hdb he hpl
end
end TR
namespace TR
open PySem PySem.Spec PyProof.Rows L2
/-! ### set(l), l a list of ints -/
section
variable {P : Program} {w : World} {A : Around} {E : Value → Shared → Prop} {s : Shared}
abbrev objS0 (w : World) : Obj := { cls := .type "set", dict := none, data := .set #[] 0 (.fresh 0 0 (!w.params.followText "set-order")) }
abbrev hpS0 (w : World) (s : Shared) : Heap := s.heap.push (objS0 w)
set_option maxRecDepth 100000 in
set_option maxHeartbeats 3200000 in
theorem setOfL {l : Addr} {its : Array Value} (ns : List Int) {Q : Value → Shared → Prop} (hh : A.handled = none) (hl : s.heap.IsList l its) (hit : IntsAre its.toList ns) (hb : ns.length + 1 < scanBound)
    (h : ∀ (g : Heap) (tk c : Nat), SetR w g s.heap.objs.size (fun j => decide (j ∈ ns)) c → c ≤ ns.length → (∀ b o, s.heap.get? b = some o → g.get? b = some o) → Q (.ref s.heap.objs.size) { s with heap := g, toks := tk }) : wpAny (model P w) A (call (.type "set") [.ref l]) Q E s := by
  have zi : its.size = ns.length := by
    have := IntsAre.length hit
    rwa [Array.length_toList] at this
  have ⟨c, tl, k1⟩ := F.called_set.mro
  have k2 := F.called_set.made
  have k3 := F.called_set.sub
  have k4 := F.called_set.notType
  have k5 := F.called_set.canCreate
  have k6 := F.typeCall_set_1 (.ref l)
  refine wpAny_call (codeAny_of_tree (show wpAny _ _ (callAny (.type "set") _) _ _ _ from wpAny_pure ⟨Code.quiet_builtin _ (by decide +kernel), codeAny_builtin F.entry_type_call ?_⟩))
  rw [Around.under_plain (weight_type_call_type "set" [.ref l] []) rfl]
  repeat (any_goals (first | assumption | wp_step))
  refine codeAny_mono (code_set_led1 (.ref l) (E := E) (Q₁ := fun x t => x = .ref s.heap.objs.size ∧ t = { s with heap := hpS0 w s }) ⟨rfl, rfl⟩) fun r t hr => ?_
  cases r with
  | error e => exact hr
  | ok fl =>
    cases fl with
    | ret x =>
      have ⟨e1, e2⟩ := hr
      subst e1 e2
      have gS : (hpS0 w s).get? s.heap.objs.size = some (objS0 w) := Heap.get?_push_size _ rfl
      have tS : Shared.TypeIs { s with heap := hpS0 w s } (.ref s.heap.objs.size) "set" := ⟨_, gS, rfl⟩
      have k7 := F.called_set.init.lookup
      have k8 := F.called_set.init.bind (.ref s.heap.objs.size)
      repeat (any_goals (first | assumption | wp_step))
      refine codeAny_mono (codeAny_call_builtin (R := wants (fun r u => r = .none ∧ ∃ g tk c, u = { s with heap := g, toks := tk } ∧ SetR w g s.heap.objs.size (fun j => decide (j ∈ ns)) c ∧ c ≤ ns.length ∧ ∀ b o, s.heap.get? b = some o → g.get? b = some o) E) F.called_set.init.plain F.entry_set_init (check_set_init_1 tS ?_)) fun r u hu => ?_
      · have ⟨ol, hol, hcl, nl, hdl⟩ := hl
        have ⟨cc, dd, da, sl⟩ := ol
        simp only at hcl hdl
        subst hcl
        subst hdl
        have hol2 : (hpS0 w s).get? l = some { cls := .type "list", dict := dd, data := .seq its nl, slots := sl } := Heap.get?_push_of_some _ hol
        have n1 := F.sub_list_set
        have n2 := F.sub_list_frozenset
        have n3 : (Value.type "list" == Value.type "dict") = false := by decide
        have hl1 : (hpS0 w s).IsList l its := ⟨_, hol2, rfl, nl, rfl⟩
        unfold Builtin.«set.__init__» noKeywords Builtin.Frozenset.updateFrom
        generalize hPI : pyIter = PI
        wp_walk
        subst hPI
        refine wpAny_pyIter_list hl1 (wpAny_bind (wpAny_runValue ?_))
        have lS : l < s.heap.objs.size := Heap.lt_size hol
        have z1 : (hpS0 w s).objs.size = s.heap.objs.size + 1 := Heap.size_push ..
        have nI : l ≠ (hpS0 w s).objs.size := by rw [z1]; exact Nat.ne_of_lt (Nat.lt_succ_of_lt lS)
        have nS : s.heap.objs.size ∉ [(hpS0 w s).objs.size, l] := by
          rw [z1]
          simp only [List.mem_cons, List.not_mem_nil, or_false, not_or]
          exact ⟨Nat.ne_of_lt (Nat.lt_succ_self _), Nat.ne_of_gt lS⟩
        have hv : ∀ (i : Nat) (v : Value), its[i]? = some v → ∃ k t, ns[i]? = some k ∧ v = .int k t := fun i v hv => by
          have hi : i < ns.length := zi ▸ (Array.getElem?_eq_some_iff.mp hv).1
          have ⟨t, e⟩ := PyProof.Rows.IntsAre.int_at hit i v (by rw [Array.getElem?_toList]; exact hv)
          exact ⟨ns[i], t, List.getElem?_eq_getElem hi, by rw [e, List.getD_eq_getElem?_getD, List.getElem?_eq_getElem hi]; rfl⟩
        refine set_update_ints ((Walks.list (by simp [hh]) _ l nI its).toS) s.heap.objs.size nS ns zi hb hv (its.size - 0) 0 _ (by omega) (Nat.zero_le _) ⟨⟨_, Heap.get?_push_size _ rfl, rfl, rfl⟩, hl1.push _⟩ ⟨0, Nat.le_refl 0, setR_new_at (Heap.get?_push_of_some _ gS)⟩ fun s2 c2 hm hc2 hS2 => ?_
        have ⟨h2, g2, d2, tk2, o2⟩ := s2
        have e1 : g2 = s.gens := hm.gens
        have e2 : d2 = s.drawn := hm.drawn
        have e3 : o2 = s.os := hm.os
        subst e1 e2 e3
        refine wpAny_pure (show wpAny _ _ (ret Value.none) _ _ _ from ?_)
        rw [zi] at hc2
        refine wpAny_pure ⟨rfl, h2, tk2, c2, rfl, hS2, hc2, fun b o e => hm.heap b o ?_ (Heap.get?_push_of_some _ (Heap.get?_push_of_some _ e))⟩
        have b0 : b < s.heap.objs.size := Heap.lt_size e
        simp only [List.mem_cons, List.not_mem_nil, or_false, not_or]
        rw [z1]
        exact ⟨Nat.ne_of_lt b0, Nat.ne_of_lt (Nat.lt_succ_of_lt b0)⟩
      · cases r with
        | error e => exact hu
        | ok fl2 =>
          cases fl2 with
          | ret r =>
            have ⟨e1, g, tk, c, e2, q1, q2, q3⟩ := hu
            subst e1 e2
            repeat (any_goals (first | assumption | wp_step))
            exact h _ _ _ q1 q2 q3
          | _ => exact hu.elim
    | _ => exact hr.elim
end
section
variable {X : Cx}
theorem cr_setLI (hc : X.calm = true) : CallR X (.type "set") (fun xs H Q => ∃ (p : Addr) (ns : List Int), xs = [.ref p] ∧ SqL X.K H p (ns.map V.int) ∧ ns.length < 60 ∧ ∀ l c, H l = none → c ≤ ns.length → Q (.ref l) (upd H l (SetO X.w l (fun j => decide (j ∈ ns)) c))) := by
  intro pins s σ H xs us Q I r ⟨p, ns, ex, hS, hz, q⟩
  subst ex
  rw [Vals.ref1 r]
  have ⟨its, rv, pl, _⟩ := I.list hS
  refine setOfL ns (I.ok.hd hc) pl.isList (by simpa using rv.ints) (Nat.lt_of_lt_of_le (show ns.length + 1 < 64 by omega) (by decide)) fun g tk c R hcn hk => ⟨.ref s.heap.objs.size, _, I.laid (t' := tk) hk (Nat.le_refl _) (setO_new R), rfl, q _ c (I.hok.fresh (Nat.le_refl _)) hcn⟩
end
/-! ### sorted(set(x)), x a list or a tuple of ints -/
def rSetA (K : PySem.W.Frag) (w : World) : List V → Hp → VK → Prop := fun xs H Q => ∃ (p : Addr) (ns : List Int), xs = [.ref p] ∧ (SqT K H p (ns.map V.int) ∨ SqL K H p (ns.map V.int)) ∧ ns.length < 60 ∧ ∀ l c, H l = none → c ≤ ns.length → Q (.ref l) (upd H l (SetO w l (fun j => decide (j ∈ ns)) c))
theorem cr_setA {X : Cx} (hc : X.calm = true) : CallR X (.type "set") (rSetA X.K X.w) := by
  intro pins s σ H xs us Q I r ⟨p, ns, ex, hS, hz, q⟩
  rcases hS with hS | hS
  · exact cr_setTI hc pins s σ H xs us Q I r ⟨p, ns, ex, hS, hz, q⟩
  · exact cr_setLI hc pins s σ H xs us Q I r ⟨p, ns, ex, hS, hz, q⟩
def rSSA (K : PySem.W.Frag) (w : World) : List V → Hp → VK → Prop := fun xs H Q => rSetA K w xs H fun x H1 => rSortedSet w [x] H1 Q
def fSSA : List PyData → (PyData → Prop) → Prop
  | [.tuple ds], Q => ∃ ns : List Int, ds = ns.map PyData.int ∧ ns.length < 60 ∧ ∀ ms : List Int, ms.Pairwise (· < ·) → (∀ k, k ∈ ms ↔ k ∈ ns) → Q (.list (ms.map PyData.int))
  | [.list ds], Q => ∃ ns : List Int, ds = ns.map PyData.int ∧ ns.length < 60 ∧ ∀ ms : List Int, ms.Pairwise (· < ·) → (∀ k, k ∈ ms ↔ k ∈ ns) → Q (.list (ms.map PyData.int))
  | _, _ => False
theorem dc_ssA {K : PySem.W.Frag} {w : World} : DCallF (rSSA K w) fSSA := by
  intro bn H ds vs Q Qc nb p q k
  have fin : ∀ (a : Addr) (ns : List Int), (SqT K H a (ns.map V.int) ∨ SqL K H a (ns.map V.int)) → ns.length < 60 → (∀ ms : List Int, ms.Pairwise (· < ·) → (∀ k, k ∈ ms ↔ k ∈ ns) → Q (.list (ms.map PyData.int))) → rSSA K w [.ref a] H Qc := fun a ns hS hl q => by
    refine ⟨a, ns, rfl, hS, hl, fun l c h0 hc => ⟨l, _, c, rfl, upd_same, by omega, fun ms p h1 h2 _ hp => ?_⟩⟩
    have npl : p ≠ l := fun z => by rw [z, upd_same] at hp; cases hp
    have hp0 : H p = none := by rw [upd_ne npl] at hp; exact hp
    exact k _ _ p _ hp0 ((same_upd h0).trans (same_upd hp)) upd_same ints_rp (q ms h1 fun k => (h2 k).trans decide_eq_true_iff)
  unfold fSSA at q
  split at q
  · cases p with
    | cons p t =>
      cases t
      obtain ⟨a, xs, rfl, e, ra⟩ := p.tup
      obtain ⟨ns, rfl, hl, q⟩ := q
      cases rp_ints ra
      exact fin a ns (.inl (.inl e.rd)) hl q
  · cases p with
    | cons p t =>
      cases t
      obtain ⟨a, xs, rfl, e, ra⟩ := p.lst
      obtain ⟨ns, rfl, hl, q⟩ := q
      cases rp_ints ra
      exact fin a ns (.inr (sqL e)) hl q
  · exact q.elim
section
variable {X : Cx} {x y : Str} {p1 p2 c1 c2 : Pos} {e : Expr} {t : TA}
theorem pe_ssA (hc : X.calm = true) (hg : Gl X x) (hm : X.mg x = none) (hv : bootBuiltins x = some (.builtin "sorted")) (hg2 : Gl X y) (hm2 : X.mg y = none) (hv2 : bootBuiltins y = some (.type "set")) (ha : PA X [e] t)
    (hn : x ≠ "__name__" := by decide) (hdb : (x == ("__debug__" : Str)) = false := by decide) (hn2 : y ≠ "__name__" := by decide) (hdb2 : (y == ("__debug__" : Str)) = false := by decide)
    (he : starEach [.Call (.Name y p2) [e] [] c2] X.env = (false, eval (.Call (.Name y p2) [e] [] c2) X.env) :: starEach [] X.env := by rfl) (hpl : (backTo c1 (starEach [] X.env)).any (·.1) = false := by rfl)
    (he2 : starEach [e] X.env = (false, eval e X.env) :: starEach [] X.env := by rfl) (hpl2 : (backTo c2 (starEach [] X.env)).any (·.1) = false := by rfl) :
    PE X (.Call (.Name x p1) [.Call (.Name y p2) [e] [] c2] [] c1) (tCB (rSSA X.K X.w) t) :=
  show PE X _ (tCB (rSortedSet X.w) (tCons (tCB (rSetA X.K X.w) t) tNil)) from pe_callB (cr_sortedSet hc) hg hm hv (pa_cons (pe_callTy (cr_setA hc) hg2 hm2 hv2 ha hn2 hdb2 he2 hpl2) pa_nil) hn hdb he hpl
end
end TR
namespace TR
open PySem PySem.Spec PyProof.Rows L2
/-! ### // by a divisor of either sign -/
def CDivF (_ j : Int) : Prop := j ≠ 0 ∧ j.natAbs.log2 < 9000
section
variable {X : Cx}
theorem op_fdivF : OpR X (binaryOp .FloorDiv) (rI CDivF fun i j => .int (i.fdiv j)) := opI fun _ _ _ _ _ _ _ hc q => floordiv_int hc.1 q (.inl (PyProof.noPylong_of_log2 hc.2))
end
def vDivF := vII CDivF fun i j => .int (i.fdiv j)
theorem dop_divF : DOp (rI CDivF fun i j => .int (i.fdiv j)) vDivF := dop_ii
end TR
namespace TR
open PySem PySem.Spec PyProof.Rows L2
/-! ### zip of two lists, of two tuples -/
def zpD (L M : List PyData) : List PyData := (L.zip M).map fun p => .tuple [p.1, p.2]
theorem zpD_at {L M : List PyData} {i : Nat} {d : PyData} (h : (zpD L M)[i]? = some d) : ∃ x y, L[i]? = some x ∧ M[i]? = some y ∧ d = .tuple [x, y] := by
  unfold zpD at h
  rw [List.getElem?_map] at h
  cases e : (L.zip M)[i]? with
  | none => rw [e] at h; cases h
  | some p =>
    rw [e] at h
    cases h
    have := List.getElem?_zip_eq_some.mp e
    exact ⟨p.1, p.2, this.1, this.2, rfl⟩
theorem zpD_len (L M : List PyData) : (zpD L M).length = min L.length M.length := by unfold zpD; rw [List.length_map, List.length_zip]
section
variable {X : Cx} {Ec : EC}
def iZip (aa : AA) : AI := fun xp s Q => aa xp s fun os s1 => rv os fun ds => match ds with
  | [.list L, .list M] => Q (.fix (zpD L M)) s1
  | [.tuple L, .tuple M] => Q (.fix (zpD L M)) s1
  | _ => False
theorem jo_zip {H : Hp} {bn : List Addr} {L M : List PyData} {xs ys : List V} {T : Addr} {i : Nat} {d : PyData} {x y : V} {H2 : Hp} (ra : RpAll H bn L xs) (rb : RpAll H bn M ys) (hd : (zpD L M)[i]? = some d) (hT : H T = none) (e : H2 = upd H T (.tup [x, y])) (hx : xs[i]? = some x) (hy : ys[i]? = some y) : Same H H2 ∧ RpW true H2 bn d (.ref T) := by
  obtain ⟨u, v, hu, hv, rfl⟩ := zpD_at hd
  obtain ⟨z, hz, rp⟩ := ra.at hu
  obtain ⟨w, hw, rq⟩ := rb.at hv
  rw [hx] at hz
  rw [hy] at hw
  cases hz
  cases hw
  subst e
  have m : Same H (upd H T (.tup [x, y])) := same_upd hT
  exact ⟨m, T, [x, y], _, rfl, rfl, upd_same, ⟨_, _, rfl, rp.same m, _, _, rfl, rq.same m, rfl⟩⟩
theorem ai_zip {e e2 : Expr} {aa : AA} {p pos tpos : Pos} {elts : List Expr} {kk : Nat} (hg : Gl X "zip") (hm : X.mg "zip" = none) (ha : PA X [e, e2] (cA Ec aa))
    (hs : starEach [e, e2] X.env = (false, eval e X.env) :: starEach [e2] X.env := by rfl) (hpl : (backTo pos (starEach [e2] X.env)).any (·.1) = false := by rfl) : PI X (.Tuple elts kk tpos) (.Call (.Name "zip" p) [e, e2] [] pos) (cI true Ec (iZip aa)) := (RZ.pi_zipA hg hm ha hs hpl).sub fun σ H R ⟨Φ, E, xp, s, Qa, r, x, q, k⟩ => by
  refine ⟨Φ, E, xp, s, _, r, x, q, fun os E1 s1 vs H1 l1 r1 k1 p1 q1 => ?_⟩
  obtain ⟨ds, e0, q1⟩ := rv_get q1
  have rall := vals_rp p1 e0
  split at q1
  · next L M =>
    obtain ⟨v, t, rfl, pv, w, u, rfl, pw, rfl⟩ := rall
    obtain ⟨a, xs, rfl, ea, na, ra⟩ := pv
    obtain ⟨b, ys, rfl, eb, nb, rb⟩ := pw
    refine ⟨a, b, xs, ys, rfl, .inl ⟨sqL ea, sqL eb, k (.fix (zpD L M)) E1 s1 _ H1 [(.list L, .ref a), (.list M, .ref b)] l1 r1 k1 (fun Φ E s σ1 H _ hh _ i => ?_) (fun x hx => ?_) q1⟩⟩
    · obtain ⟨c, xs', e1, ea', _, ra'⟩ := hh (.list L, .ref a) List.mem_cons_self
      obtain ⟨c2, ys', e2, eb', _, rb'⟩ := hh (.list M, .ref b) (List.mem_cons_of_mem _ List.mem_cons_self)
      cases e1
      cases e2
      have sa : SqL X.K H a xs' := sqL ea'
      have sb : SqL X.K H b ys' := sqL eb'
      refine ⟨fun d hd => ?_, fun hi => ⟨xs', ys', sa, sb, ?_⟩⟩
      · obtain ⟨u, v, hu, hv, _⟩ := zpD_at hd
        obtain ⟨z, hz, _⟩ := ra'.at hu
        obtain ⟨w, hw, _⟩ := rb'.at hv
        refine ⟨⟨xs', ys', z, w, sa, sb, hz, hw⟩, fun v H2 ⟨T, x, y, e1, e2, e3, e4, e5⟩ => ?_⟩
        subst e1
        exact jo_zip ra' rb' hd e2 e3 (e4 xs' sa) (e5 ys' sb)
      · have hi : (zpD L M).length = i := hi
        rw [zpD_len] at hi
        rw [ra'.len, rb'.len]
        omega
    · simp only [List.mem_cons, List.not_mem_nil, or_false] at hx
      rcases hx with rfl | rfl
      · exact ⟨a, xs, rfl, ea, na, ra⟩
      · exact ⟨b, ys, rfl, eb, nb, rb⟩
  · next L M =>
    obtain ⟨v, t, rfl, pv, w, u, rfl, pw, rfl⟩ := rall
    obtain ⟨a, xs, rfl, ea, ra⟩ := pv
    obtain ⟨b, ys, rfl, eb, rb⟩ := pw
    refine ⟨a, b, xs, ys, rfl, .inr ⟨.inl ea.rd, .inl eb.rd, k (.fix (zpD L M)) E1 s1 _ H1 [(.tuple L, .ref a), (.tuple M, .ref b)] l1 r1 k1 (fun Φ E s σ1 H _ hh _ i => ?_) (fun x hx => ?_) q1⟩⟩
    · obtain ⟨c, xs', e1, ea', ra'⟩ := hh (.tuple L, .ref a) List.mem_cons_self
      obtain ⟨c2, ys', e2, eb', rb'⟩ := hh (.tuple M, .ref b) (List.mem_cons_of_mem _ List.mem_cons_self)
      cases e1
      cases e2
      have sa : SqT X.K H a xs' := .inl ea'.rd
      have sb : SqT X.K H b ys' := .inl eb'.rd
      refine ⟨fun d hd => ?_, fun hi => ⟨xs', ys', sa, sb, ?_⟩⟩
      · obtain ⟨u, v, hu, hv, _⟩ := zpD_at hd
        obtain ⟨z, hz, _⟩ := ra'.at hu
        obtain ⟨w, hw, _⟩ := rb'.at hv
        refine ⟨⟨xs', ys', z, w, sa, sb, hz, hw⟩, fun v H2 ⟨T, x, y, e1, e2, e3, e4, e5⟩ => ?_⟩
        subst e1
        exact jo_zip ra' rb' hd e2 e3 (e4 xs' sa) (e5 ys' sb)
      · have hi : (zpD L M).length = i := hi
        rw [zpD_len] at hi
        rw [ra'.len, rb'.len]
        omega
    · simp only [List.mem_cons, List.not_mem_nil, or_false] at hx
      rcases hx with rfl | rfl
      · exact ⟨a, xs, rfl, ea, ra⟩
      · exact ⟨b, ys, rfl, eb, rb⟩
  · exact q1.elim
end
end TR
namespace TR
open PySem PySem.Spec PyProof.Rows L2
/-! ### native values: how they stand as data -/
abbrev eD : PyData → PyData := fun d => d
abbrev eN : Unit → PyData := fun _ => .none
abbrev eQ {α : Type} (f : α → PyData) (l : List α) : PyData := .tuple (l.map f)
abbrev eL {α : Type} (f : α → PyData) (l : List α) : PyData := .list (l.map f)
abbrev eP {α β : Type} (f : α → PyData) (g : β → PyData) (p : α × β) : PyData := .tuple [f p.1, g p.2]
abbrev eT3 {α β γ : Type} (f : α → PyData) (g : β → PyData) (h : γ → PyData) (p : α × β × γ) : PyData := .tuple [f p.1, g p.2.1, h p.2.2]
abbrev eT4 {α β γ δ : Type} (f : α → PyData) (g : β → PyData) (h : γ → PyData) (k : δ → PyData) (p : α × β × γ × δ) : PyData := .tuple [f p.1, g p.2.1, h p.2.2.1, k p.2.2.2]
def eM {α : Type} (f : α → PyData) : Option α → PyData
  | none => .none
  | some x => f x
/-! ### what is computed, and the state behind it -/
def EV (a : AE) (s : AS) (d : PyData) (s' : AS) : Prop := ∀ xp Q, Q d s' → a xp s Q
def OV (a : AO) (s : AS) (o : Op) (s' : AS) : Prop := ∀ xp Q, Q o s' → a xp s Q
def TV (a : AT) (s : AS) (b : Bool) (s' : AS) : Prop := ∀ xp Q, Q b s' → a xp s Q
def LV (a : AA) (s : AS) (os : List Op) (s' : AS) : Prop := ∀ xp Q, Q os s' → a xp s Q
def IV (a : AI) (s : AS) (it : AIt) (s' : AS) : Prop := ∀ xp Q, Q it s' → a xp s Q
def BV (b : AB) (d : PyData) (s s' : AS) : Prop := ∀ Q : AS → Prop, Q s' → b d s Q
def VF (f : PyData → PyData → (PyData → Prop) → Prop) (d e r : PyData) : Prop := ∀ Q : PyData → Prop, Q r → f d e Q
def FV (f : List PyData → (PyData → Prop) → Prop) (ds : List PyData) (r : PyData) : Prop := ∀ Q : PyData → Prop, Q r → f ds Q
def PFn (F : AF) (ds : List PyData) (r : PyData) : Prop := ∀ n (Q : PyData → Nat → Prop) X, Q r n → F ds n Q X
section
variable {s s1 s2 s3 : AS} {d e r : PyData} {i : Nat}
theorem ev_c : EV (aC d) s d s := fun _ _ h => h
theorem ev_dict0 : EV aDict0 s (.dict []) s := fun _ _ h => h
theorem ev_var (i : Nat) (h : s.sl[i]? = some (some (.dat d))) : EV (aVar i) s d s := fun _ _ q => by
  unfold aVar; rw [h]; exact q
theorem ev_frzD (i : Nat) (h : s.sl[i]? = some (some (.dat d))) : EV (aFrz i) s d s := fun _ _ q => by
  unfold aFrz; rw [h]; exact q
theorem ev_frzO (i : Nat) {ds : List PyData} (h : s.sl[i]? = some (some (.own ds))) (h2 : s' = { s with sl := s.sl.set i (some (.dat (.list ds))) }) : EV (aFrz i) s (.list ds) s' := fun _ _ q => by
  unfold aFrz; rw [h]; rw [h2] at q; exact q
theorem ov_dat (i : Nat) (h : s.sl[i]? = some (some (.dat d))) : OV (oVar i) s (.val d) s := fun _ _ q => by
  unfold oVar; rw [h]; exact q
theorem ov_own (i : Nat) {ds : List PyData} (h : s.sl[i]? = some (some (.own ds))) : OV (oVar i) s (.slot i) s := fun _ _ q => by
  unfold oVar; rw [h]; exact q
theorem ov_bor (i : Nat) (h : s.sl[i]? = some (some (.bor d))) : OV (oVar i) s (.slot i) s := fun _ _ q => by
  unfold oVar; rw [h]; exact q
theorem ov_V {a : AE} (h : EV a s d s1) : OV (oV a) s (.val d) s1 := fun xp _ q => h xp _ q
theorem rs_of {o : Op} (h : res s o = some d) {k : PyData → Prop} (q : k d) : rs s o k := by unfold rs; rw [h]; exact q
theorem ev_a2 {f : PyData → PyData → (PyData → Prop) → Prop} {aa ab : AO} {o1 o2 : Op} (h1 : OV aa s o1 s1) (h2 : OV ab s1 o2 s2) (r1 : res s2 o1 = some d) (r2 : res s2 o2 = some e) (hf : VF f d e r) : EV (a2 f aa ab) s r s2 := fun xp Q q => h1 xp _ (h2 xp _ (rs_of r1 (rs_of r2 (hf _ q))))
theorem ev_a3 {f g : PyData → PyData → (PyData → Prop) → Prop} {aa ab ac : AO} {o1 o2 o3 : Op} {d3 : PyData} {b1 b2 : Bool} (h1 : OV aa s o1 s) (h2 : OV ab s o2 s) (r1 : res s o1 = some d) (r2 : res s o2 = some e) (hf : VF f d e (.bool b1)) (h3 : b1 = true → OV ac s o3 s) (r3 : res s o3 = some d3) (hg : b1 = true → VF g e d3 (.bool b2)) : EV (a3 f g aa ab ac) s (.bool (b1 && b2)) s := fun xp Q q => h1 xp _ (h2 xp _ (rs_of r1 (rs_of r2 (hf _ (by
  show aB (.bool b1) _
  unfold aB
  cases b1 with
  | true => exact iteT (h3 rfl xp _ (rs_of r2 (rs_of r3 (hg rfl _ q))))
  | false => exact iteF q)))))
theorem tv_V {a : AE} {b : Bool} (h : EV a s (.bool b) s1) : TV (tV a) s b s1 := fun xp _ q => h xp _ q
theorem tv_yes : TV tYesA s true s := fun _ _ q => q
theorem tv_tru {a : AO} {o : Op} {b : Bool} (h : OV a s o s1) (r : res s1 o = some d) (t : truD d = some b) : TV (tTruA a) s b s1 := fun xp _ q => h xp _ (rs_of r (by rw [t]; exact q))
theorem tv_not {t : AT} {b : Bool} (h : TV t s b s1) : TV (tNotA t) s (!b) s1 := fun xp _ q => h xp _ q
theorem tv_and {t u : AT} {b c : Bool} (h : TV t s b s) (g : b = true → TV u s c s) : TV (tAndA t u) s (b && c) s := fun xp _ q => h xp _ (by
  cases b with
  | true => exact iteT (g rfl xp _ q)
  | false => exact iteF q)
theorem tv_or {t u : AT} {b c : Bool} (h : TV t s b s) (g : b = false → TV u s c s) : TV (tOrA t u) s (b || c) s := fun xp _ q => h xp _ (by
  cases b with
  | true => exact iteT q
  | false => exact iteF (g rfl xp _ q))
theorem ev_and {t u : AE} {b c : Bool} (h : EV t s (.bool b) s) (g : b = true → EV u s (.bool c) s) : EV (aAnd t u) s (.bool (b && c)) s := fun xp _ q => h xp _ (by
  show aB (.bool b) _
  unfold aB
  cases b with
  | true => exact iteT (g rfl xp _ q)
  | false => exact iteF q)
theorem ev_or {t u : AE} {b c : Bool} (h : EV t s (.bool b) s) (g : b = false → EV u s (.bool c) s) : EV (aOr t u) s (.bool (b || c)) s := fun xp _ q => h xp _ (by
  show aB (.bool b) _
  unfold aB
  cases b with
  | true => exact iteT q
  | false => exact iteF (g rfl xp _ q))
theorem ev_not {t : AE} {b : Bool} (h : EV t s (.bool b) s1) : EV (aNot t) s (.bool (!b)) s1 := fun xp _ q => h xp _ q
theorem ev_if {α : Type} (f : α → PyData) {t : AT} {a b : AE} {c : Bool} {x y : α} (h : TV t s c s) (ha : c = true → EV a s (f x) s) (hb : c = false → EV b s (f y) s) : EV (aIfE t a b) s (f (bif c then x else y)) s := fun xp _ q => h xp _ (by
  cases c with
  | true => exact iteT (ha rfl xp _ q)
  | false => exact iteF (hb rfl xp _ q))
theorem lv_nil : LV lNil s [] s := fun _ _ q => q
theorem lv_cons {a : AO} {r : AA} {o : Op} {os : List Op} (h : OV a s o s1) (g : LV r s1 os s2) : LV (lCons a r) s (o :: os) s2 := fun xp _ q => h xp _ (g xp _ q)
theorem ev_tup {a : AA} {os : List Op} {ds : List PyData} (h : LV a s os s1) (hv : ∀ k, k ds → rv os k) (hl : Nat.ble ds.length 1000 = true) : EV (aTup a) s (.tuple ds) s1 := fun xp _ q => h xp _ (hv _ ⟨lim (Nat.le_of_ble_eq_true hl), q⟩)
theorem ev_lst {a : AA} {os : List Op} {ds : List PyData} (h : LV a s os s1) (hv : ∀ k, k ds → rv os k) (hl : Nat.ble ds.length 1000 = true) : EV (aLst a) s (.list ds) s1 := fun xp _ q => h xp _ (hv _ ⟨lim (Nat.le_of_ble_eq_true hl), q⟩)
theorem ev_call0 {ms : List Md} {F : AF} {a : AA} {os : List Op} {ds : List PyData} (h : LV a s os s1) (hr : ∀ k, k ds → rm ms s1 os k) (hF : PFn F ds r) : EV (aCall0 ms (calm F) a) s r s1 := fun xp _ q => h xp _ (hr _ (hF _ _ _ q))
theorem ev_call0X {ms : List Md} {F : AF} {a : AA} {os : List Op} {ds : List PyData} (h : LV a s os s1) (hr : ∀ k, k ds → rm ms s1 os k) (hF : PFn F ds r) : EV (aCall0 ms F a) s r s1 := fun xp _ q => h xp _ (hr _ (hF _ _ _ q))
theorem ev_callG {ms : List Md} {F : AF} {a : AA} {os : List Op} {ds : List PyData} (h : LV a s os s1) (hr : ∀ k, k ds → rm ms s1 os k) (hF : PFn F ds r) : EV (aCall ms (calm F) a) s r s1 := fun xp _ q => h xp _ (hr _ (hF _ _ _ q))
theorem ev_blt {f : List PyData → (PyData → Prop) → Prop} {a : AA} {os : List Op} {ds : List PyData} (h : LV a s os s1) (hr : ∀ k, k ds → rsl s1 os k) (hf : FV f ds r) : EV (aBlt f a) s r s1 := fun xp _ q => h xp _ (hr _ (hf _ q))
theorem rsl_nil {k : List PyData → Prop} (q : k []) : rsl s [] k := q
theorem rsl_cons {o : Op} {os : List Op} {ds : List PyData} (h : res s o = some d) (g : ∀ k : List PyData → Prop, k ds → rsl s os k) : ∀ k : List PyData → Prop, k (d :: ds) → rsl s (o :: os) k := fun k q => rs_of h (g (fun ds => k (d :: ds)) q)
theorem ev_isi {T : String} {a : AO} {o : Op} {b : Bool} (h : OV a s o s1) (r : res s1 o = some d) (t : isiD T d = some b) : EV (aIsi T a) s (.bool b) s1 := fun xp _ q => h xp _ (rs_of r (by rw [t]; exact q))
theorem ev_isi2 {T U : String} {a : AO} {o : Op} {b c : Bool} (h : OV a s o s1) (r : res s1 o = some d) (t : isiD T d = some b) (u : isiD U d = some c) : EV (aIsi2 T U a) s (.bool (b || c)) s1 := fun xp _ q => h xp _ (rs_of r (by rw [t, u]; exact q))
theorem ev_neg {a : AO} {o : Op} {x : Int} (h : OV a s o s1) (r : res s1 o = some (.int x)) : EV (aNeg a) s (.int (-x)) s1 := fun xp _ q => h xp _ (rs_of r q)
theorem ev_rev {a : AO} {o : Op} {ds : List PyData} (h : OV a s o s1) (r : res s1 o = some (.tuple ds)) : EV (aRev a) s (.tuple ds.reverse) s1 := fun xp _ q => h xp _ (rs_of r q)
/-! ### slices -/
def PV (p : APt) (s : AS) (o : Option Int) (s' : AS) : Prop := ∀ xp Q, Q o s' → p xp s Q
theorem pv_n : PV ptNone s none s := fun _ _ q => q
theorem pv_s {a : AE} {x : Int} (h : EV a s (.int x) s1) : PV (ptSome a) s (some x) s1 := fun xp _ q => h xp _ q
def cutN {α : Type} (xs : List α) (lo hi : Option Int) : List α := (xs.drop (HT.sIx xs.length 0 lo)).take (HT.sIx xs.length xs.length hi - HT.sIx xs.length 0 lo)
theorem cutD_map {α : Type} (f : α → PyData) (l : List α) (lo hi : Option Int) : cutD (l.map f) lo hi = (cutN l lo hi).map f := by
  unfold cutD cutN
  rw [List.length_map, List.map_take, List.map_drop]
theorem ev_slQ {α : Type} {f : α → PyData} {l : List α} {a : AO} {o : Op} {p q : APt} {lo hi : Option Int} (h : OV a s o s1) (hp : PV p s1 lo s2) (hq : PV q s2 hi s3) (r : res s3 o = some (eQ f l)) : EV (aSl a p q) s (eQ f (cutN l lo hi)) s3 := fun xp _ k => h xp _ (hp xp _ (hq xp _ (rs_of r (by
  show _
  unfold vSl
  simp only [cutD_map]
  exact k))))
theorem ev_slL {α : Type} {f : α → PyData} {l : List α} {a : AO} {o : Op} {p q : APt} {lo hi : Option Int} (h : OV a s o s1) (hp : PV p s1 lo s2) (hq : PV q s2 hi s3) (r : res s3 o = some (eL f l)) : EV (aSl a p q) s (eL f (cutN l lo hi)) s3 := fun xp _ k => h xp _ (hp xp _ (hq xp _ (rs_of r (by
  show _
  unfold vSl
  simp only [cutD_map]
  exact k))))
theorem ev_revQ {α : Type} {f : α → PyData} {l : List α} {a : AO} {o : Op} (h : OV a s o s1) (r : res s1 o = some (eQ f l)) : EV (aRev a) s (eQ f l.reverse) s1 := by
  have := ev_rev h r
  rw [← List.map_reverse] at this
  exact this
/-! ### index -/
theorem ev_idx {a : AO} {aa : AA} {os : List Op} {l : List Int} {x : Int} (h : OV a s (.val (eQ .int l)) s1) (g : LV aa s1 os s2) (hr : ∀ k : List PyData → Prop, k [.int x] → rsl s2 os k) (hx : x ∈ l) : EV (aIdx a aa) s (.int ((l.idxOf x : Nat) : Int)) s2 := fun xp _ k => h xp _ ⟨True.intro, g xp _ (rs_of (d := eQ .int l) rfl (hr _ (by
  show vIdx (.tuple (l.map .int)) [.int x] _
  unfold vIdx
  have e : l.findIdx? (· == x) = some (l.idxOf x) := by
    rw [List.findIdx?_eq_some_of_exists (by exact ⟨x, hx, by simp⟩)]
    rfl
  simp only [ints_of, e]
  exact k)))⟩
end
/-! ### operators -/
section
variable {a b : Int}
theorem vf_addI : VF vAdd (.int a) (.int b) (.int (a + b)) := fun _ q => q
theorem vf_addBI {a : Bool} : VF vAdd (.bool a) (.int b) (.int (b2n a + b)) := fun _ q => q
theorem vf_subI : VF vSub (.int a) (.int b) (.int (a - b)) := fun _ q => q
theorem vf_mulI (h : CMul a b) : VF vMul (.int a) (.int b) (.int (a * b)) := fun _ q => ⟨h, q⟩
theorem vf_mulW (h : CMulW a b) : VF vMulW (.int a) (.int b) (.int (a * b)) := fun _ q => ⟨h, q⟩
theorem vf_modI (h : 0 < b) : VF vMod (.int a) (.int b) (.int (a % b)) := fun _ q => ⟨h, q⟩
theorem vf_divI (h : CDivW a b) : VF vDiv (.int a) (.int b) (.int (a / b)) := fun _ q => ⟨h, q⟩
theorem vf_divII (h : CDiv a b) : VF vDivI (.int a) (.int b) (.int (a / b)) := fun _ q => ⟨h, q⟩
theorem vf_powI (h : CPow a b) : VF vPow (.int a) (.int b) (.int (a ^ b.toNat)) := fun _ q => ⟨h, q⟩
theorem vf_addII : VF vAddI (.int a) (.int b) (.int (a + b)) := fun _ q => ⟨True.intro, q⟩
theorem vf_subII : VF vSubI (.int a) (.int b) (.int (a - b)) := fun _ q => ⟨True.intro, q⟩
theorem vf_addQ {α : Type} {f : α → PyData} {x y : List α} (h : x.length + y.length ≤ sizeLine) : VF vAdd (eQ f x) (eQ f y) (eQ f (x ++ y)) := fun _ q => ⟨by rw [List.length_map, List.length_map]; exact h, by rw [← List.map_append]; exact q⟩
theorem vf_addL {α : Type} {f : α → PyData} {x y : List α} (h : x.length + y.length ≤ sizeLine) : VF vAdd (eL f x) (eL f y) (eL f (x ++ y)) := fun _ q => ⟨by rw [List.length_map, List.length_map]; exact h, by rw [← List.map_append]; exact q⟩
theorem vf_catL {α : Type} {f : α → PyData} {x y : List α} (h : x.length + y.length ≤ sizeLine) : VF vCatL (eL f x) (eL f y) (eL f (x ++ y)) := fun _ q => ⟨by rw [List.length_map, List.length_map]; exact h, by rw [← List.map_append]; exact q⟩
def repN {α : Type} (l : List α) (n : Int) : List α := (List.replicate n.toNat l).flatten
theorem vf_repL {α : Type} {f : α → PyData} {x : List α} (h : (-1000 ≤ a ∧ a ≤ 1000) ∧ x.length * a.toNat ≤ 256) : VF vRepL (eL f x) (.int a) (eL f (repN x a)) := fun _ q => ⟨h.1.1, h.1.2, by rw [List.length_map]; exact h.2, by
  have : (List.replicate a.toNat (x.map f)).flatten = (repN x a).map f := by
    unfold repN; rw [List.map_flatten, List.map_replicate]
  rw [this]; exact q⟩
theorem vf_ltI : VF vLt (.int a) (.int b) (.bool (decide (a < b))) := fun _ q => q
theorem vf_leI : VF vLe (.int a) (.int b) (.bool (decide (a ≤ b))) := fun _ q => q
theorem vf_gtI : VF vGt (.int a) (.int b) (.bool (decide (b < a))) := fun _ q => q
theorem vf_geI : VF vGe (.int a) (.int b) (.bool (decide (b ≤ a))) := fun _ q => q
end
theorem vf_eqS {a b : Str} : VF vEqS (.str a) (.str b) (.bool (decide (a = b))) := fun _ q => q
theorem vf_neS {a b : Str} : VF vNeS (.str a) (.str b) (.bool (!decide (a = b))) := fun _ q => q
/-- native equality is the data's -/
def Lw {α : Type} [DecidableEq α] (f : α → PyData) : Prop := ∀ a b, PyData.eqv (f a) (f b) = decide (a = b)
theorem lw_I : Lw PyData.int := fun _ _ => rfl
theorem lw_B : Lw PyData.bool := fun a b => by cases a <;> cases b <;> rfl
theorem lw_all {α : Type} [DecidableEq α] {f : α → PyData} (h : Lw f) : ∀ a b : List α, PyData.eqvAll (a.map f) (b.map f) = decide (a = b)
  | [], [] => rfl
  | [], _ :: _ => rfl
  | _ :: _, [] => rfl
  | x :: a, y :: b => by
    show (PyData.eqv (f x) (f y) && PyData.eqvAll (a.map f) (b.map f)) = _
    rw [h, lw_all h a b]
    by_cases e : x = y
    · subst e; simp
    · simp [e]
theorem lw_Q {α : Type} [DecidableEq α] {f : α → PyData} (h : Lw f) : Lw (eQ f) := fun a b => lw_all h a b
theorem lw_L {α : Type} [DecidableEq α] {f : α → PyData} (h : Lw f) : Lw (eL f) := fun a b => lw_all h a b
theorem lw_P {α β : Type} [DecidableEq α] [DecidableEq β] {f : α → PyData} {g : β → PyData} (h : Lw f) (k : Lw g) : Lw (eP f g) := fun a b => by
  show (PyData.eqv (f a.1) (f b.1) && (PyData.eqv (g a.2) (g b.2) && true)) = _
  rw [h, k, Bool.and_true]
  obtain ⟨a1, a2⟩ := a
  obtain ⟨b1, b2⟩ := b
  by_cases e : a1 = b1 <;> by_cases e2 : a2 = b2 <;> simp [e, e2]
/-- may be compared -/
def Sh (k : Nat) {α : Type} (f : α → PyData) : Prop := ∀ a, Sd k (f a)
theorem sh_I {k : Nat} : Sh k PyData.int := fun i => sd_int i
theorem sh_B {k : Nat} : Sh k PyData.bool := fun i => sd_bool i
theorem sh_N {k : Nat} : Sh k eN := fun _ => sd_none
theorem sh_Q {k : Nat} {α : Type} {f : α → PyData} (h : Sh k f) : Sh (k + 1) (eQ f) := fun l => sd_tup fun d hd => by
  obtain ⟨x, _, rfl⟩ := List.mem_map.mp hd
  exact h x
theorem sh_L {k : Nat} {α : Type} {f : α → PyData} (h : Sh k f) : Sh (k + 1) (eL f) := fun l => sd_list fun d hd => by
  obtain ⟨x, _, rfl⟩ := List.mem_map.mp hd
  exact h x
theorem sh_P {k : Nat} {α β : Type} {f : α → PyData} {g : β → PyData} (h : Sh k f) (h2 : Sh k g) : Sh (k + 1) (eP f g) := fun p => sd_tup fun d hd => by
  rcases List.mem_cons.mp hd with rfl | hd
  · exact h _
  · rw [List.mem_singleton.mp hd]; exact h2 _
theorem Sh.shp {k : Nat} {α : Type} {f : α → PyData} (h : Sh k f) (hk : Nat.ble k 64 = true) (a : α) : SeqAt.shaped (f a) = true := (h a).shaped (Nat.le_of_ble_eq_true hk)
section
variable {α : Type} [DecidableEq α] {f : α → PyData} {a b : α} {k : Nat}
theorem vf_eq (hl : Lw f) (hs : Sh k f) (hk : Nat.ble k 64 = true) : VF vEq (f a) (f b) (.bool (decide (a = b))) := fun _ q => ⟨hs.shp hk a, hs.shp hk b, by rw [hl a b]; exact q⟩
theorem vf_ne (hl : Lw f) (hs : Sh k f) (hk : Nat.ble k 64 = true) : VF vNe (f a) (f b) (.bool (!decide (a = b))) := fun _ q => ⟨hs.shp hk a, hs.shp hk b, by rw [hl a b]; exact q⟩
theorem any_mem {l : List α} (hl : Lw f) : ((l.map f).any fun y => PyData.eqv y (f a)) = decide (a ∈ l) := by
  rw [List.any_map]
  induction l with
  | nil => simp
  | cons x l ih =>
    rw [List.any_cons, ih]
    show (PyData.eqv (f x) (f a) || _) = _
    rw [hl]
    by_cases e : x = a
    · subst e; simp
    · have e2 : ¬ a = x := fun h => e h.symm
      simp [e, e2]
theorem vf_inQ {l : List α} (hl : Lw f) (hs : Sh k f) (hk : Nat.ble (k + 1) 64 = true) (hk2 : Nat.ble k 64 = true) : VF vIn (f a) (eQ f l) (.bool (decide (a ∈ l))) := fun _ q => ⟨hs.shp hk2 a, (sh_Q hs).shp hk l, by rw [any_mem hl]; exact q⟩
theorem vf_inL {l : List α} (hl : Lw f) (hs : Sh k f) (hk : Nat.ble (k + 1) 64 = true) (hk2 : Nat.ble k 64 = true) : VF vIn (f a) (eL f l) (.bool (decide (a ∈ l))) := fun _ q => ⟨hs.shp hk2 a, (sh_L hs).shp hk l, by rw [any_mem hl]; exact q⟩
theorem vf_ninQ {l : List α} (hl : Lw f) (hs : Sh k f) (hk : Nat.ble (k + 1) 64 = true) (hk2 : Nat.ble k 64 = true) : VF vNotIn (f a) (eQ f l) (.bool (!decide (a ∈ l))) := fun _ q => ⟨hs.shp hk2 a, (sh_Q hs).shp hk l, by rw [any_mem hl]; exact q⟩
theorem vf_ninL {l : List α} (hl : Lw f) (hs : Sh k f) (hk : Nat.ble (k + 1) 64 = true) (hk2 : Nat.ble k 64 = true) : VF vNotIn (f a) (eL f l) (.bool (!decide (a ∈ l))) := fun _ q => ⟨hs.shp hk2 a, (sh_L hs).shp hk l, by rw [any_mem hl]; exact q⟩
end
section
variable {d e : PyData}
theorem vf_eqD (h : SeqAt.shaped d = true ∧ SeqAt.shaped e = true) : VF vEq d e (.bool (PyData.eqv d e)) := fun _ q => ⟨h.1, h.2, q⟩
theorem vf_neD (h : SeqAt.shaped d = true ∧ SeqAt.shaped e = true) : VF vNe d e (.bool (!PyData.eqv d e)) := fun _ q => ⟨h.1, h.2, q⟩
theorem vf_isN : VF vIs d .none (.bool (isNon d)) := fun _ q => by
  unfold vIs isD; cases d <;> exact q
theorem vf_isNotN : VF vIsNot d .none (.bool (!isNon d)) := fun _ q => by
  unfold vIsNot isD; cases d <;> exact q
/-- an option that stands as none or as its value -/
def Nn {α : Type} (f : α → PyData) : Prop := ∀ x, isNon (f x) = false
theorem non_M {α : Type} {f : α → PyData} (h : Nn f) (o : Option α) : isNon (eM f o) = o.isNone := by
  cases o with
  | none => rfl
  | some x => exact h x
theorem vf_isM {α : Type} {f : α → PyData} (h : Nn f) {o : Option α} : VF vIs (eM f o) .none (.bool o.isNone) := by
  rw [← non_M h]; exact vf_isN
theorem vf_isNotM {α : Type} {f : α → PyData} (h : Nn f) {o : Option α} : VF vIsNot (eM f o) .none (.bool (!o.isNone)) := by
  rw [← non_M h]; exact vf_isNotN
/-! ### items -/
def gt {α : Type} [Inhabited α] (l : List α) (k : Int) : α := l.getD k.toNat default
def gl {α : Type} [Inhabited α] (l : List α) : α := l.getLastD default
def Ixr {α : Type} (l : List α) (k : Int) : Prop := 0 ≤ k ∧ k < (l.length : Int)
theorem at_map {α : Type} [Inhabited α] {f : α → PyData} {l : List α} {k : Int} (h : Ixr l k) : atI (l.map f) k = some (f (gt l k)) := by
  obtain ⟨h0, h1⟩ := h
  obtain ⟨j, rfl⟩ := Int.eq_ofNat_of_zero_le h0
  have hj : j < l.length := by omega
  rw [at_get (by rw [List.length_map]; exact hj)]
  unfold gt
  rw [List.getElem_map, Int.toNat_natCast, List.getD_eq_getElem?_getD, List.getElem?_eq_getElem hj]
  rfl
theorem at_lastN {α : Type} [Inhabited α] {f : α → PyData} {l : List α} (h : l ≠ []) : atI (l.map f) (-1) = some (f (gl l)) := by
  obtain ⟨x, r, rfl⟩ : ∃ r x, l = r ++ [x] := ⟨l.dropLast, l.getLast h, (List.dropLast_concat_getLast h).symm⟩
  rw [List.map_append]
  have e : gl (x ++ [r]) = r := by unfold gl; rw [List.getLastD_eq_getLast?]; simp
  rw [e]
  exact at_last
theorem vf_ixT {ds : List PyData} {k : Int} {r : PyData} (h : atI ds k = some r) : VF vIx (.tuple ds) (.int k) r := fun _ q => by
  show (match atI ds k with | some d => _ | none => False)
  rw [h]; exact q
theorem vf_ixL' {ds : List PyData} {k : Int} {r : PyData} (h : atI ds k = some r) : VF vIx (.list ds) (.int k) r := fun _ q => by
  show (match atI ds k with | some d => _ | none => False)
  rw [h]; exact q
theorem vf_ixQ {α : Type} [Inhabited α] {f : α → PyData} {l : List α} {k : Int} (h : Ixr l k) : VF vIx (eQ f l) (.int k) (f (gt l k)) := vf_ixT (at_map h)
theorem vf_ixL {α : Type} [Inhabited α] {f : α → PyData} {l : List α} {k : Int} (h : Ixr l k) : VF vIx (eL f l) (.int k) (f (gt l k)) := vf_ixL' (at_map h)
theorem vf_ixQl {α : Type} [Inhabited α] {f : α → PyData} {l : List α} (h : l ≠ []) : VF vIx (eQ f l) (.int (-1)) (f (gl l)) := vf_ixT (at_lastN h)
theorem vf_ixLl {α : Type} [Inhabited α] {f : α → PyData} {l : List α} (h : l ≠ []) : VF vIx (eL f l) (.int (-1)) (f (gl l)) := vf_ixL' (at_lastN h)
/-! ### builtins -/
theorem fv_lenQ {α : Type} {f : α → PyData} {l : List α} : FV fLen [eQ f l] (.int ((l.length : Nat) : Int)) := fun _ q => by
  rw [fLen_t, List.length_map]; exact q
theorem fv_lenL {α : Type} {f : α → PyData} {l : List α} : FV fLen [eL f l] (.int ((l.length : Nat) : Int)) := fun _ q => by
  rw [fLen_l, List.length_map]; exact q
theorem fv_tupleL {α : Type} {f : α → PyData} {l : List α} : FV fTuple [eL f l] (eQ f l) := fun _ q => q
theorem fv_listQ {α : Type} {f : α → PyData} {l : List α} : FV fList [eQ f l] (eL f l) := fun _ q => q
theorem fv_sum {l : List Int} : FV fSum [eL .int l] (.int l.sum) := fun _ q => by
  show _
  unfold fSum; simp only [ints_of]; exact q
theorem fv_all {l : List Bool} : FV fAll [eL .bool l] (.bool (l.all id)) := fun _ q => by
  show _
  unfold fAll; simp only [bools_of]; exact q
def iabs (i : Int) : Int := if i < 0 then -i else i
theorem fv_abs {i : Int} : FV fAbs [.int i] (.int (iabs i)) := fun _ q => q
theorem fv_max2 {i j : Int} : FV fMax2 [.int i, .int j] (.int (if j > i then j else i)) := fun _ q => q
def b2z (b : Bool) : Int := if b then 1 else 0
theorem fv_intB {b : Bool} : FV fInt [.bool b] (.int (b2z b)) := fun _ q => q
theorem fv_intI {i : Int} : FV fInt [.int i] (.int i) := fun _ q => q
def srtN {α : Type} (f : α → PyData) (l : List α) : List α := l.mergeSort fun a b => PySem.W.dataLe false (fun d => d) (f a) (f b)
theorem fv_sortedL {α : Type} {f : α → PyData} {l : List α} (h : SrtOk (l.map f)) : FV fSorted [eL f l] (eL f (srtN f l)) := fun _ q => ⟨h, by
  have : srt (l.map f) = (srtN f l).map f := by
    unfold srt srtN
    exact (List.map_mergeSort (f := f) (l := l) fun a _ b _ => rfl).symm
  rw [this]; exact q⟩
theorem fv_sortedQ {l : List Int} : FV fSorted [eQ .int l] (eL .int (isort l)) := fun _ q => sortedT_ok q
theorem tru_L {α : Type} {f : α → PyData} {l : List α} : truD (eL f l) = some (!l.isEmpty) := by cases l <;> rfl
theorem tru_Q {α : Type} {f : α → PyData} {l : List α} : truD (eQ f l) = some (!l.isEmpty) := by cases l <;> rfl
theorem tru_B {b : Bool} : truD (.bool b) = some b := rfl
theorem tru_I {i : Int} : truD (.int i) = some (i != 0) := rfl
end
/-! ### types of data -/
def isTup : PyData → Bool
  | .tuple _ => true
  | _ => false
def isLst : PyData → Bool
  | .list _ => true
  | _ => false
def isStr : PyData → Bool
  | .str _ => true
  | _ => false
def isBoo : PyData → Bool
  | .bool _ => true
  | _ => false
def isDic : PyData → Bool
  | .dict _ => true
  | _ => false
def isNum : PyData → Bool
  | .int _ => true
  | .bool _ => true
  | _ => false
theorem isi_tuple {d : PyData} : isiD "tuple" d = some (isTup d) := by cases d <;> rfl
theorem isi_list {d : PyData} : isiD "list" d = some (isLst d) := by cases d <;> rfl
theorem isi_str {d : PyData} : isiD "str" d = some (isStr d) := by cases d <;> rfl
theorem isi_bool {d : PyData} : isiD "bool" d = some (isBoo d) := by cases d <;> rfl
theorem isi_dict {d : PyData} : isiD "dict" d = some (isDic d) := by cases d <;> rfl
theorem isi_int {d : PyData} : isiD "int" d = some (isNum d) := by cases d <;> rfl
/-! ### what is walked -/
def irange (lo hi : Int) : List Int := (List.range (hi - lo).toNat).map fun k => lo + (k : Nat)
theorem rngD_map (lo hi : Int) : rngD lo (hi - lo).toNat = (irange lo hi).map .int := by
  unfold rngD irange
  rw [List.map_map]
  rfl
theorem rngD_map0 (hi : Int) : rngD 0 hi.toNat = (irange 0 hi).map .int := by
  rw [← rngD_map, Int.sub_zero]
def Rg (j : Int) : Prop := -(2 ^ 62) ≤ j ∧ j < 2 ^ 62
section
variable {s s1 s2 : AS}
theorem iv_range1 {a : AA} {os : List Op} {j : Int} (h : LV a s os s1) (hv : ∀ k : List PyData → Prop, k [.int j] → rv os k) (hj : Rg j) : IV (iRange1 a) s (.fix ((irange 0 j).map .int)) s1 := fun xp _ q => h xp _ (hv _ ⟨hj.1, hj.2, by rw [rngD_map0]; exact q⟩)
theorem iv_range2 {a : AA} {os : List Op} {i j : Int} (h : LV a s os s1) (hv : ∀ k : List PyData → Prop, k [.int i, .int j] → rv os k) (hj : Rg i ∧ Rg j) : IV (iRange2 a) s (.fix ((irange i j).map .int)) s1 := fun xp _ q => h xp _ (hv _ ⟨⟨hj.1.1, hj.1.2, hj.2.1, hj.2.2⟩, by rw [rngD_map]; exact q⟩)
theorem iv_valQ {α : Type} {f : α → PyData} {l : List α} {a : AO} (h : OV a s (.val (eQ f l)) s1) : IV (iSeq a) s (.fix (l.map f)) s1 := fun xp _ q => h xp _ q
theorem iv_valL {α : Type} {f : α → PyData} {l : List α} {a : AO} (h : OV a s (.val (eL f l)) s1) : IV (iSeq a) s (.fix (l.map f)) s1 := fun xp _ q => h xp _ q
theorem iv_slot {α : Type} {f : α → PyData} {l : List α} {a : AO} {i : Nat} (h : OV a s (.slot i) s1) (r : res s1 (.slot i) = some (eL f l)) : IV (iSeq a) s (.slt i (eL f l)) s1 := fun xp _ q => h xp _ (by
  show (match res s1 (.slot i) with | some (.list L) => _ | some (.tuple L) => _ | _ => False)
  rw [r]; exact q)
theorem iv_valD {d : PyData} {a : AO} (h : OV a s (.val d) s1) (hd : isTup d = true ∨ isLst d = true) : IV (iSeq a) s (.fix ((items d).map eD)) s1 := fun xp _ q => h xp _ (by
  rw [show (items d).map eD = items d from List.map_id' _] at q
  rcases hd with hd | hd <;> cases d <;> first | exact q | cases hd)
theorem bv_nm (i : Nat) {d : PyData} : BV (bNm i) d s (s.set i (.dat d)) := fun _ q => q
theorem lc_go {α : Type} {it : AIt} {b : AB} {t : AT} {a : AE} {vs : List Nat} (f : α → PyData) (p : α → Bool) {β : Type} (e : β → PyData) (v : α → β) (s2 s3 : α → AS) (hc : it.chk s1) (Q : PyData → AS → Prop) : ∀ (l : List α) (acc : List PyData), acc.length + l.length ≤ sizeLine →
    (∀ x ∈ l, BV b (f x) (s1.wipe vs) (s2 x)) → (∀ x ∈ l, TV t (s2 x) (p x) (s2 x)) → (∀ x ∈ l, p x = true → EV a (s2 x) (e (v x)) (s3 x)) → (∀ x ∈ l, back vs s1 (s2 x) = s1 ∧ back vs s1 (s3 x) = s1) →
    Q (.list (acc ++ ((l.filter p).map v).map e)) s1 → lcL it b t a vs Q (l.map f) acc s1
  | [], acc, _, _, _, _, _, q => ⟨hc, by rw [List.filter_nil, List.map_nil, List.map_nil, List.append_nil] at q; exact q⟩
  | x :: l, acc, hl, hb, ht, ha, hk, q => by
    rw [List.length_cons] at hl
    refine ⟨hc, hb x List.mem_cons_self _ (ht x List.mem_cons_self _ _ ?_)⟩
    cases hp : p x with
    | true =>
      refine iteT (ha x List.mem_cons_self hp _ _ ⟨by omega, ?_⟩)
      rw [(hk x List.mem_cons_self).2]
      refine lc_go f p e v s2 s3 hc Q l _ (by rw [List.length_append]; simp only [List.length_cons, List.length_nil]; omega) (fun y hy => hb y (List.mem_cons_of_mem _ hy)) (fun y hy => ht y (List.mem_cons_of_mem _ hy)) (fun y hy => ha y (List.mem_cons_of_mem _ hy)) (fun y hy => hk y (List.mem_cons_of_mem _ hy)) ?_
      rw [List.filter_cons_of_pos hp, List.map_cons, List.map_cons] at q
      rw [List.append_assoc]
      exact q
    | false =>
      refine iteF ?_
      rw [(hk x List.mem_cons_self).1]
      refine lc_go f p e v s2 s3 hc Q l _ (by omega) (fun y hy => hb y (List.mem_cons_of_mem _ hy)) (fun y hy => ht y (List.mem_cons_of_mem _ hy)) (fun y hy => ha y (List.mem_cons_of_mem _ hy)) (fun y hy => hk y (List.mem_cons_of_mem _ hy)) ?_
      rw [List.filter_cons_of_neg (by rw [hp]; exact Bool.false_ne_true)] at q
      exact q
theorem ev_lcF {α β : Type} (f : α → PyData) (p : α → Bool) (e : β → PyData) (v : α → β) (s2 s3 : α → AS) {l : List α} {it : AIt} {ai : AI} {b : AB} {t : AT} {a : AE} {vs : List Nat} (hi : IV ai s it s1) (hl : l.length ≤ sizeLine) (hit : it.its = l.map f) (hc : it.chk s1)
    (hb : ∀ x ∈ l, BV b (f x) (s1.wipe vs) (s2 x)) (ht : ∀ x ∈ l, TV t (s2 x) (p x) (s2 x)) (ha : ∀ x ∈ l, p x = true → EV a (s2 x) (e (v x)) (s3 x)) (hk : ∀ x ∈ l, back vs s1 (s2 x) = s1 ∧ back vs s1 (s3 x) = s1) : EV (aLc ai b t a vs) s (eL e ((l.filter p).map v)) s1 := fun xp Q q => hi xp _ (by
  rw [hit]
  exact lc_go f p e v s2 s3 hc Q l [] (by simpa using hl) hb ht ha hk q)
theorem ev_lcM {α β : Type} (f : α → PyData) (e : β → PyData) (v : α → β) (s2 s3 : α → AS) {l : List α} {it : AIt} {ai : AI} {b : AB} {a : AE} {vs : List Nat} (hi : IV ai s it s1) (hl : l.length ≤ sizeLine) (hit : it.its = l.map f) (hc : it.chk s1)
    (hb : ∀ x ∈ l, BV b (f x) (s1.wipe vs) (s2 x)) (ha : ∀ x ∈ l, EV a (s2 x) (e (v x)) (s3 x)) (hk : ∀ x ∈ l, back vs s1 (s2 x) = s1 ∧ back vs s1 (s3 x) = s1) : EV (aLc ai b tYesA a vs) s (eL e (l.map v)) s1 := by
  have := ev_lcF f (fun _ => true) e v s2 s3 (t := tYesA) (a := a) hi hl hit hc hb (fun _ _ => tv_yes) (fun x hx _ => ha x hx) hk
  rw [List.filter_eq_self.mpr fun _ _ => rfl] at this
  exact this
end
end TR
namespace TR
open PySem PySem.Spec PyProof.Rows L2
/-! ### statements, with native values -/
instance : Inhabited PyData := ⟨.none⟩
section
variable {s s1 s2 : AS} {d e r : PyData} {i : Nat} {xp : XP} {D : AEnds} {rest a' b' : AST}
theorem g_bv {b : AB} {s' : AS} {Q : AS → Prop} (h : BV b d s s') (q : Q s') : b d s Q := h _ q
theorem ev_cast {a : AE} {d d' : PyData} (h : EV a s d s1) (e : d = d') : EV a s d' s1 := e ▸ h
theorem c_ret {a : AE} (h : EV a s d s1) (hq : D.rt d s1.n) : sRet a xp D s := h xp _ hq
theorem c_retN (hq : D.rt .none s.n) : sRetN xp D s := hq
theorem c_retV (i : Nat) (h : s.sl[i]? = some (some (.dat d))) (hq : D.rt d s.n) : sRetV i xp D s := by unfold sRetV; rw [h]; exact hq
theorem c_retVO (i : Nat) {ds : List PyData} (h : s.sl[i]? = some (some (.own ds))) (hq : D.rt (.list ds) s.n) : sRetV i xp D s := by unfold sRetV; rw [h]; exact hq
theorem c_seq (h : a' xp { D with nx := b' xp D } s) : sSeq a' b' xp D s := h
theorem c_set {a : AE} (h : EV a s d s1) (e : s1.set i (.dat d) = s2) (k : D.nx s2) : sSet i a xp D s := h xp _ (e ▸ k)
theorem c_setO {a : AE} {ds : List PyData} (h : EV a s (.list ds) s1) (e : s1.set i (.own ds) = s2) (k : D.nx s2) : sSetO i a xp D s := h xp _ (show D.nx (s1.set i (.own ds)) from e ▸ k)
theorem c_asg {a : AE} {b : AB} (h : EV a s d s1) (hb : BV b d s1 s2) (k : D.nx s2) : sAsg a b xp D s := h xp _ (hb _ k)
theorem c_drop {a : AE} (h : EV a s d s1) (k : D.nx s1) : sDrop a xp D s := h xp _ k
theorem c_pass (k : D.nx s) : sNx xp D s := k
theorem c_cont (k : D.ct s) : sCont xp D s := k
theorem c_break (k : D.bk s) : sBreak xp D s := k
theorem c_if {t : AT} {c : Bool} (h : TV t s c s1) (ha : c = true → a' xp D s1) (hb : c = false → b' xp D s1) : sIf t a' b' xp D s := h xp _ (by
  cases c with
  | true => exact iteT (ha rfl)
  | false => exact iteF (hb rfl))
/-- both ways go on -/
theorem c_ifJ {t : AT} {c : Bool} (J : Bool → AS) (h : TV t s c s1) (ha : c = true → ∀ D' : AEnds, D'.nx (J true) → a' xp D' s1) (hb : c = false → ∀ D' : AEnds, D'.nx (J false) → b' xp D' s1) (k : D.nx (J c)) : sIf t a' b' xp D s := h xp _ (by
  cases c with
  | true => exact iteT (ha rfl D k)
  | false => exact iteF (hb rfl D k))
theorem c_par {j : Nat} {aa : AA} {os : List Op} (h : LV aa s os s1) (hv : ∀ k : List PyData → Prop, k [d, e] → rv os k) (hs : (s1.set i (.dat d)).set j (.dat e) = s2) (k : D.nx s2) : sPar i j aa xp D s := h xp _ (hv _ (by subst hs; exact k))
theorem c_aug {f : PyData → PyData → (PyData → Prop) → Prop} {ab : AO} {o : Op} (h0 : s.sl[i]? = some (some (.dat d))) (h : OV ab s o s1) (hr : res s1 o = some e) (hf : VF f d e r) (hs : s1.set i (.dat r) = s2) (k : D.nx s2) : sAug f i ab xp D s := by
  unfold sAug
  rw [h0]
  exact h xp _ (rs_of hr (hf _ (by subst hs; exact k)))
theorem ev_app {α : Type} {f : α → PyData} {l : List α} {x : α} {aa : AA} {os : List Op} (h0 : s.sl[i]? = some (some (.own (l.map f)))) (h : LV aa s os s1) (h1 : s1.sl[i]? = some (some (.own (l.map f)))) (hv : ∀ k : List PyData → Prop, k [f x] → rv os k) (hs : s1.set i (.own ((l ++ [x]).map f)) = s2) (hl : l.length < sizeLine) : EV (aMut mApp i aa) s .none s2 := fun xp _ q => by
  unfold aMut
  rw [h0]
  refine h xp _ (hv _ ?_)
  simp only [h1]
  refine ⟨by rw [List.length_map]; exact hl, ?_⟩
  rw [← hs, List.map_append] at q
  exact q
theorem ev_ext {α : Type} {f : α → PyData} {l m : List α} {aa : AA} {os : List Op} (h0 : s.sl[i]? = some (some (.own (l.map f)))) (h : LV aa s os s1) (h1 : s1.sl[i]? = some (some (.own (l.map f)))) (hv : ∀ k : List PyData → Prop, k [eL f m] → rv os k) (hs : s1.set i (.own ((l ++ m).map f)) = s2) (hl : l.length + m.length ≤ sizeLine) : EV (aMut mExt i aa) s .none s2 := fun xp _ q => by
  unfold aMut
  rw [h0]
  refine h xp _ (hv _ ?_)
  simp only [h1]
  refine ⟨by rw [List.length_map, List.length_map]; exact hl, ?_⟩
  rw [← hs, List.map_append] at q
  exact q
theorem ifT {α : Type} {P : AEnds} {f : α → PyData} {c : Bool} {x y : α} {n : Nat} (h : c = true) (q : P.rt (f (bif c then x else y)) n) : P.rt (f x) n := by subst h; exact q
theorem ifF {α : Type} {P : AEnds} {f : α → PyData} {c : Bool} {x y : α} {n : Nat} (h : c = false) (q : P.rt (f (bif c then x else y)) n) : P.rt (f y) n := by subst h; exact q
/-! tuples taken apart -/
theorem bv_q2 {α : Type} [Inhabited α] {f : α → PyData} {l : List α} {i j : Nat} (h : l.length = 2) : BV (bTup 2 (bCons (bNm i) (bCons (bNm j) bNil))) (eQ f l) s ((s.set i (.dat (f (gt l 0)))).set j (.dat (f (gt l 1)))) := fun _ q => by
  match l, h with
  | [a, b], _ => exact ⟨rfl, rfl, q⟩
theorem bv_d2 {d : PyData} {i j : Nat} {x y : PyData} (h : d = .tuple [x, y]) : BV (bTup 2 (bCons (bNm i) (bCons (bNm j) bNil))) d s ((s.set i (.dat x)).set j (.dat y)) := fun _ q => by subst h; exact ⟨rfl, rfl, q⟩
theorem bv_d3 {d : PyData} {i j k : Nat} {x y z : PyData} (h : d = .tuple [x, y, z]) : BV (bTup 3 (bCons (bNm i) (bCons (bNm j) (bCons (bNm k) bNil)))) d s (((s.set i (.dat x)).set j (.dat y)).set k (.dat z)) := fun _ q => by subst h; exact ⟨rfl, rfl, q⟩
theorem BV.to {b : AB} {d : PyData} {s s1 s2 : AS} (h : BV b d s s1) (e : s1 = s2) : BV b d s s2 := e ▸ h
end
/-! ### data taken as what it is -/
def dI : PyData → Int
  | .int i => i
  | _ => 0
def dB : PyData → Bool
  | .bool b => b
  | _ => false
def dQ {α : Type} (f : PyData → α) (d : PyData) : List α := (items d).map f
def dP {α β : Type} (f : PyData → α) (g : PyData → β) (d : PyData) : α × β := (f ((items d).getD 0 .none), g ((items d).getD 1 .none))
def om {α : Type} [Inhabited α] (o : Option α) : α := o.getD default
theorem om_c {α : Type} [Inhabited α] {f : α → PyData} {o : Option α} (h : o.isSome = true) : eM f o = f (om o) := by
  cases o with
  | none => cases h
  | some x => rfl
theorem cast_QD {α : Type} (f : α → PyData) (l : List α) : eQ f l = eQ eD (l.map f) := by
  show PyData.tuple _ = .tuple _
  rw [List.map_map]; rfl
theorem cast_LD {α : Type} (f : α → PyData) (l : List α) : eL f l = eL eD (l.map f) := by
  show PyData.list _ = .list _
  rw [List.map_map]; rfl
def seqD (d : PyData) : Bool := isTup d || isLst d
theorem fv_lenD {d : PyData} (h : seqD d = true) : FV fLen [d] (.int (((items d).length : Nat) : Int)) := fun _ q => by
  cases d <;> first | exact q | cases h
theorem vf_ixD {d : PyData} {k : Int} (h : seqD d = true ∧ Ixr (items d) k) : VF vIx d (.int k) (gt (items d) k) := by
  have e : atI (items d) k = some (gt (items d) k) := by
    have := at_map (f := eD) h.2
    rw [show (items d).map eD = items d from List.map_id' _] at this
    exact this
  obtain ⟨h1, _⟩ := h
  cases d <;> first | exact vf_ixT e | exact vf_ixL' e | cases h1
/-! ### exceptions as values -/
structure XN where
  k : Nat
  fld : Option (Str × PyData)
def XN.xd (cc : Nat → Addr) (x : XN) : XD := ⟨cc x.k, x.fld⟩
def resX {α : Type} (cc : Nat → Addr) (D : AEnds) (xp : XP) (n : Nat) (f : α → PyData) : Except XN α → Prop
  | .ok r => D.rt (f r) n
  | .error x => ∀ s : AS, s.n = n → xp (x.xd cc) s
def bindX {α β : Type} (v : Except XN α) (k : α → Except XN β) : Except XN β := match v with
  | .ok r => k r
  | .error x => .error x
def isOk {α : Type} : Except XN α → Bool
  | .ok _ => true
  | .error _ => false
def getX {α : Type} [Inhabited α] : Except XN α → α
  | .ok r => r
  | .error _ => default
/-- a def that may raise -/
def PFx {α : Type} (cc : Nat → Addr) (F : AF) (ds : List PyData) (f : α → PyData) (v : Except XN α) : Prop := ∀ n (Q : PyData → Nat → Prop) X, (match v with | .ok r => Q (f r) n | .error x => X (x.xd cc) n) → F ds n Q X
theorem PFx.ok {α : Type} [Inhabited α] {cc : Nat → Addr} {F : AF} {ds : List PyData} {f : α → PyData} {v : Except XN α} (h : PFx cc F ds f v) (o : isOk v = true) : PFn F ds (f (getX v)) := fun n Q X q => h n Q X (by
  cases v with
  | ok r => exact q
  | error _ => cases o)
theorem PFx.of_ok {α : Type} {cc : Nat → Addr} {F : AF} {ds : List PyData} {f : α → PyData} {v : Except XN α} (h : PFx cc F ds f v) {r : α} (o : v = .ok r) : PFn F ds (f r) := fun n Q X q => h n Q X (by subst o; exact q)
/-- it raises -/
def XV (cc : Nat → Addr) (a : AE) (s : AS) (x : XN) : Prop := ∀ xp Q, xp (x.xd cc) s → a xp s Q
def XL (cc : Nat → Addr) (a : AA) (s : AS) (x : XN) : Prop := ∀ xp Q, xp (x.xd cc) s → a xp s Q
def XO (cc : Nat → Addr) (a : AO) (s : AS) (x : XN) : Prop := ∀ xp Q, xp (x.xd cc) s → a xp s Q
section
variable {cc : Nat → Addr} {s s1 s2 : AS} {d e r : PyData} {i : Nat} {xp : XP} {D : AEnds} {rest a' b' : AST} {x : XN}
theorem xv_call {α : Type} {ms : List Md} {F : AF} {a : AA} {os : List Op} {ds : List PyData} {f : α → PyData} {v : Except XN α} (h : LV a s os s) (hr : ∀ k, k ds → rm ms s os k) (hF : PFx cc F ds f v) (hv : v = .error x) : XV cc (aCall0 ms F a) s x := fun xp Q q => h xp _ (hr _ (hF _ _ _ (by subst hv; exact q)))
theorem xv_args {ms : List Md} {F : AF} {a : AA} (h : XL cc a s x) : XV cc (aCall0 ms F a) s x := fun xp Q q => h xp _ q
theorem xv_blt {f : List PyData → (PyData → Prop) → Prop} {a : AA} (h : XL cc a s x) : XV cc (aBlt f a) s x := fun xp Q q => h xp _ q
theorem xv_a2l {f : PyData → PyData → (PyData → Prop) → Prop} {aa ab : AO} (h : XO cc aa s x) : XV cc (a2 f aa ab) s x := fun xp Q q => h xp _ q
theorem xv_a2r {f : PyData → PyData → (PyData → Prop) → Prop} {aa ab : AO} {o : Op} (g : OV aa s o s) (h : XO cc ab s x) : XV cc (a2 f aa ab) s x := fun xp Q q => g xp _ (h xp _ q)
theorem xo_V {a : AE} (h : XV cc a s x) : XO cc (oV a) s x := fun xp Q q => h xp _ q
theorem xl_hd {a : AO} {r : AA} (h : XO cc a s x) : XL cc (lCons a r) s x := fun xp Q q => h xp _ q
theorem xl_tl {a : AO} {r : AA} {o : Op} (g : OV a s o s) (h : XL cc r s x) : XL cc (lCons a r) s x := fun xp Q q => g xp _ (h xp _ q)
theorem xv_lc {a : AO} {b : AB} {t : AT} {y : AE} {vs : List Nat} (h : XO cc a s x) : XV cc (aLc (iSeq a) b t y vs) s x := fun xp Q q => h xp _ q
theorem xv_if {t : AT} {a b : AE} {c : Bool} (h : TV t s c s) (h2 : if c = true then XV cc a s x else XV cc b s x) : XV cc (aIfE t a b) s x := fun xp Q q => h xp _ (by
  cases c with
  | true => exact iteT (unT h2 xp _ q)
  | false => exact iteF (unF h2 xp _ q))
theorem xv_tup {a : AA} (h : XL cc a s x) : XV cc (aTup a) s x := fun xp Q q => h xp _ q
theorem xv_lst {a : AA} (h : XL cc a s x) : XV cc (aLst a) s x := fun xp Q q => h xp _ q
theorem xv_idx {a : AO} {aa : AA} (h : XO cc a s x) : XV cc (aIdx a aa) s x := fun xp Q q => h xp _ q
/-- statements with an expression that may raise -/
theorem rx_ret {a : AE} (h : XV cc a s x) (hq : xp (x.xd cc) s) : sRet a xp D s := h xp _ hq
theorem rx_set {a : AE} (h : XV cc a s x) (hq : xp (x.xd cc) s) : sSet i a xp D s := h xp _ hq
theorem rx_setO {a : AE} (h : XV cc a s x) (hq : xp (x.xd cc) s) : sSetO i a xp D s := h xp _ hq
theorem rx_drop {a : AE} (h : XV cc a s x) (hq : xp (x.xd cc) s) : sDrop a xp D s := h xp _ hq
theorem rx_asg {a : AE} {b : AB} (h : XV cc a s x) (hq : xp (x.xd cc) s) : sAsg a b xp D s := h xp _ hq
theorem rx_for {a : AO} {b : AB} {body : AST} (h : XO cc a s x) (hq : xp (x.xd cc) s) : sFor (iSeq a) b body xp D s := h xp _ hq
/-! try -/
def tryX {α β : Type} (v : Except XN α) (A : α → β) (B : XN → β) : β := match v with
  | .ok r => A r
  | .error x => B x
theorem by_try {α β : Type} {P : Prop} {v : Except XN α} {A : α → β} {B : XN → β} {f : β → PyData} {n : Nat} (hq : D.rt (f (tryX v A B)) n) (ho : ∀ r, v = .ok r → D.rt (f (A r)) n → P) (he : ∀ x, v = .error x → D.rt (f (B x)) n → P) : P := by
  cases v with
  | ok r => exact ho r rfl hq
  | error x => exact he x rfl hq
theorem c_try {cs : List Addr} {b su : AST} (h : b (fun x s1 => x.cls ∈ cs ∧ su x0 { nx := fun s2 => D.nx (s2.noX i), rt := D.rt, bk := fun s2 => D.bk (s2.noX i), ct := fun s2 => D.ct (s2.noX i) } (s1.set i (.exc x))) D s) : sTry i cs b su xp D s := h
theorem c_nox {s' : AS} (e : s.noX i = s') (h : D.nx s') : ({ nx := fun s2 => D.nx (s2.noX i), rt := D.rt, bk := fun s2 => D.bk (s2.noX i), ct := fun s2 => D.ct (s2.noX i) } : AEnds).nx s := by
  show D.nx (s.noX i)
  rw [e]; exact h
def Inj (cc : Nat → Addr) (N : Nat) : Prop := ∀ i j, i < N → j < N → cc i = cc j → i = j
theorem ev_isX {N j : Nat} (hcc : Inj cc N) (h : s.sl[i]? = some (some (.exc (x.xd cc)))) (hx : x.k < N) (hj : Nat.blt j N = true) : EV (aIsX (cc j) i) s (.bool (decide (x.k = j))) s := fun xp Q q => by
  unfold aIsX
  rw [h]
  have : decide ((x.xd cc).cls = cc j) = decide (x.k = j) := decide_eq_decide.mpr ⟨fun e => hcc _ _ hx (Nat.le_of_ble_eq_true hj) e, fun e => by show cc x.k = cc j; rw [e]⟩
  simp only [this]
  exact q
theorem ev_isXs {N : Nat} {js : List Nat} (hcc : Inj cc N) (h : s.sl[i]? = some (some (.exc (x.xd cc)))) (hx : x.k < N) (hj : js.all (fun j => Nat.blt j N) = true) : EV (aIsXs (js.map cc) i) s (.bool (decide (x.k ∈ js))) s := fun xp Q q => by
  unfold aIsXs
  rw [h]
  have : decide ((x.xd cc).cls ∈ js.map cc) = decide (x.k ∈ js) := decide_eq_decide.mpr ⟨fun e => by
    obtain ⟨j, hj1, e⟩ := List.mem_map.mp e
    have hj2 : j < N := Nat.le_of_ble_eq_true (List.all_eq_true.mp hj j hj1)
    rw [← hcc _ _ hj2 hx e]; exact hj1, fun e => List.mem_map.mpr ⟨_, e, rfl⟩⟩
  simp only [this]
  exact q
def fldX (x : XN) : PyData := match x.fld with
  | some (_, d) => d
  | none => .none
theorem ev_fldX {f : Str} (h : s.sl[i]? = some (some (.exc (x.xd cc)))) (hf : x.fld = some (f, fldX x)) : EV (aFldX f i) s (fldX x) s := fun xp Q q => by
  unfold aFldX
  rw [h]
  have : x.xd cc = ⟨cc x.k, some (f, fldX x)⟩ := by unfold XN.xd; rw [← hf]
  rw [this]
  exact ⟨rfl, q⟩
theorem mem_cc {cs : List Addr} {N : Nat} (hx : x.k < N) (hcs : cs = (List.range N).map cc) : (x.xd cc).cls ∈ cs := by
  rw [hcs]; exact List.mem_map.mpr ⟨x.k, List.mem_range.mpr hx, rfl⟩
theorem c_raise1 {C : Addr} {f : Str} {aa : AA} {os : List Op} (h : LV aa s os s1) (hv : ∀ k : List PyData → Prop, k [d] → rv os k) (hq : xp ⟨C, some (f, d)⟩ s1) : sRaise1 C f aa xp D s := h xp _ (hv _ hq)
theorem c_raise0 {C : Addr} (hq : xp ⟨C, none⟩ s) : sRaise0 C xp D s := hq
/-- by what a call gives -/
theorem by_x {α β : Type} {P : Prop} {v : Except XN α} {k : α → Except XN β} {n : Nat} {f : β → PyData} (hq : resX cc D xp n f (bindX v k)) (ho : ∀ r, v = .ok r → resX cc D xp n f (k r) → P) (he : ∀ x, v = .error x → (∀ s' : AS, s'.n = n → xp (x.xd cc) s') → P) : P := by
  cases v with
  | ok r => exact ho r rfl hq
  | error x => exact he x rfl hq
theorem ifTx {α : Type} {f : α → PyData} {c : Bool} {x y : Except XN α} {n : Nat} (h : c = true) (q : resX cc D xp n f (bif c then x else y)) : resX cc D xp n f x := by subst h; exact q
theorem ifFx {α : Type} {f : α → PyData} {c : Bool} {x y : Except XN α} {n : Nat} (h : c = false) (q : resX cc D xp n f (bif c then x else y)) : resX cc D xp n f y := by subst h; exact q
end
/-! ### for -/
def forV {α σ ρ : Type} (body : (σ → ρ) → α → σ → ρ) (after : σ → ρ) : List α → σ → ρ
  | [], w => after w
  | x :: l, w => body (fun w' => forV body after l w') x w
theorem forL_ok {α σ ρ : Type} {R : ρ → Prop} {b : AB} {body : AST} {xp : XP} {D : AEnds} (f : α → PyData) (Inv : σ → AS → Prop) {bC : (σ → Prop) → α → σ → Prop} {aC : σ → Prop} {bV : (σ → ρ) → α → σ → ρ} {aV : σ → ρ}
    (hb : ∀ x w s k kC (N : AS → Prop), Inv w s → bC kC x w → R (bV k x w) → (∀ w' s', Inv w' s' → kC w' → R (k w') → N s') → b (f x) s fun s1 => body xp { D with nx := N, ct := N, bk := D.nx } s1)
    (ha : ∀ w s, Inv w s → aC w → R (aV w) → D.nx s) : ∀ (l : List α) (w : σ) (s : AS), Inv w s → forV bC aC l w → R (forV bV aV l w) → forL b body xp D (l.map f) s
  | [], w, s, i, c, q => ha w s i c q
  | x :: l, w, s, i, c, q => hb x w s _ _ _ i c q fun w' s' i' c' q' => forL_ok f Inv hb ha l w' s' i' c' q'
theorem c_for {α σ ρ : Type} {R : ρ → Prop} {ai : AI} {b : AB} {body : AST} {xp : XP} {D : AEnds} {s s1 : AS} (f : α → PyData) (Inv : σ → AS → Prop) {l : List α} {w : σ} {bC : (σ → Prop) → α → σ → Prop} {aC : σ → Prop} {bV : (σ → ρ) → α → σ → ρ} {aV : σ → ρ} (hi : IV ai s (.fix (l.map f)) s1) (hw : Inv w s1) (hC : forV bC aC l w) (hq : R (forV bV aV l w))
    (hb : ∀ x w s k kC (N : AS → Prop), Inv w s → bC kC x w → R (bV k x w) → (∀ w' s', Inv w' s' → kC w' → R (k w') → N s') → b (f x) s fun s1 => body xp { D with nx := N, ct := N, bk := D.nx } s1)
    (ha : ∀ w s, Inv w s → aC w → R (aV w) → D.nx s) : sFor ai b body xp D s := hi xp _ (forL_ok f Inv hb ha l w s1 hw hC hq)
/-- a loop that goes through -/
theorem forV_fold {α σ ρ : Type} {body : (σ → ρ) → α → σ → ρ} {after : σ → ρ} (g : σ → α → σ) (h : ∀ k x w, body k x w = k (g w x)) : ∀ (l : List α) (w : σ), forV body after l w = after (l.foldl g w)
  | [], _ => rfl
  | x :: l, w => by
    show body _ x w = _
    rw [h, forV_fold g h l, List.foldl_cons]
end TR
namespace TR
open PySem PySem.Spec PyProof.Rows L2
section
variable {s s1 s2 : AS} {d d' : PyData}
theorem c_aft {b : AST} {xp : XP} {D : AEnds} (h : b xp D s) : ({ D with nx := b xp D } : AEnds).nx s := h
theorem ov_cast {a : AO} (h : OV a s (.val d) s1) (e : d = d') : OV a s (.val d') s1 := e ▸ h
theorem ev_neg1 : EV (aNeg (oV (aC (.int 1)))) s (.int (-1)) s := fun _ _ q => q
theorem vf_ltD {d e : PyData} (hn : ∀ a b, d = .int a → e = .int b → False) (h : AlkC d e) : VF vLt d e (.bool (PySem.W.dataLt d e)) := fun _ q => by
  unfold vLt
  split
  · exact (hn _ _ rfl rfl).elim
  · exact ⟨h, q⟩
theorem ev_tupRg1 {a : AE} {j : Int} (h : EV a s (.int j) s1) (hr : RgOk 0 j) : EV (aTupRg (rg1 a)) s (eQ .int (irange 0 j)) s1 := fun xp _ q => h xp _ ⟨hr, by rw [rngD_map]; exact q⟩
theorem ev_tupRg2 {a b : AE} {i j : Int} (h : EV a s (.int i) s1) (g : EV b s1 (.int j) s2) (hr : RgOk i j) : EV (aTupRg (rg2 a b)) s (eQ .int (irange i j)) s2 := fun xp _ q => h xp _ (g xp _ ⟨hr, by rw [rngD_map]; exact q⟩)
theorem ev_listRg1 {a : AE} {j : Int} (h : EV a s (.int j) s1) (hr : RgOk 0 j) : EV (aListRg (rg1 a)) s (eL .int (irange 0 j)) s1 := fun xp _ q => h xp _ ⟨hr, by rw [rngD_map]; exact q⟩
theorem ev_listRg2 {a b : AE} {i j : Int} (h : EV a s (.int i) s1) (g : EV b s1 (.int j) s2) (hr : RgOk i j) : EV (aListRg (rg2 a b)) s (eL .int (irange i j)) s2 := fun xp _ q => h xp _ (g xp _ ⟨hr, by rw [rngD_map]; exact q⟩)
/-! two clauses -/
theorem lcI_go {α β : Type} {it : AIt} {b : AB} {t : AT} {a : AE} {vs : List Nat} (f : α → PyData) (p : α → Bool) (e : β → PyData) (v : α → β) (s2 s3 : α → AS) (hc : it.chk s1) (K : List PyData → AS → Prop) : ∀ (l : List α) (acc : List PyData), acc.length + (l.filter p).length ≤ sizeLine →
    (∀ x ∈ l, BV b (f x) (s1.wipe vs) (s2 x)) → (∀ x ∈ l, TV t (s2 x) (p x) (s2 x)) → (∀ x ∈ l, p x = true → EV a (s2 x) (e (v x)) (s3 x)) → (∀ x ∈ l, back vs s1 (s2 x) = s1 ∧ back vs s1 (s3 x) = s1) →
    K (acc ++ ((l.filter p).map v).map e) s1 → lcI it b t a vs K (l.map f) acc s1
  | [], acc, _, _, _, _, _, q => ⟨hc, by rw [List.filter_nil, List.map_nil, List.map_nil, List.append_nil] at q; exact q⟩
  | x :: l, acc, hl, hb, ht, ha, hk, q => by
    refine ⟨hc, hb x List.mem_cons_self _ (ht x List.mem_cons_self _ _ ?_)⟩
    cases hp : p x with
    | true =>
      rw [List.filter_cons_of_pos hp, List.length_cons] at hl
      refine iteT (ha x List.mem_cons_self hp _ _ ⟨by omega, ?_⟩)
      rw [(hk x List.mem_cons_self).2]
      refine lcI_go f p e v s2 s3 hc K l _ (by rw [List.length_append]; simp only [List.length_cons, List.length_nil]; omega) (fun y hy => hb y (List.mem_cons_of_mem _ hy)) (fun y hy => ht y (List.mem_cons_of_mem _ hy)) (fun y hy => ha y (List.mem_cons_of_mem _ hy)) (fun y hy => hk y (List.mem_cons_of_mem _ hy)) ?_
      rw [List.filter_cons_of_pos hp, List.map_cons, List.map_cons] at q
      rw [List.append_assoc]
      exact q
    | false =>
      rw [List.filter_cons_of_neg (by rw [hp]; exact Bool.false_ne_true)] at hl q
      refine iteF ?_
      rw [(hk x List.mem_cons_self).1]
      exact lcI_go f p e v s2 s3 hc K l _ hl (fun y hy => hb y (List.mem_cons_of_mem _ hy)) (fun y hy => ht y (List.mem_cons_of_mem _ hy)) (fun y hy => ha y (List.mem_cons_of_mem _ hy)) (fun y hy => hk y (List.mem_cons_of_mem _ hy)) q
/-- both clauses with tests; s2: behind the first target; s4: the same, behind the inner walk; s5, s6: inner -/
theorem lc2_go {α β γ : Type} {it : AIt} {b b1 : AB} {t t1 : AT} {ai1 : AI} {a : AE} {vs vs1 : List Nat} (f : α → PyData) (f1 : β → PyData) (p : α → Bool) (p1 : α → β → Bool) (inner : α → List β) (e : γ → PyData) (v : α → β → γ) (s2 : α → AS) (s5 s6 : α → β → AS) (hc : it.chk s1) (Q : PyData → AS → Prop)
    (it1 : α → AIt) : ∀ (l : List α) (acc : List PyData), acc.length + ((l.filter p).flatMap fun x => (inner x).filter (p1 x)).length ≤ sizeLine →
    (∀ x ∈ l, BV b (f x) (s1.wipe vs) (s2 x)) → (∀ x ∈ l, TV t (s2 x) (p x) (s2 x)) → (∀ x ∈ l, p x = true → IV ai1 (s2 x) (it1 x) (s2 x)) → (∀ x ∈ l, p x = true → (it1 x).its = (inner x).map f1 ∧ (it1 x).chk (s2 x)) →
    (∀ x ∈ l, p x = true → ∀ y ∈ inner x, BV b1 (f1 y) ((s2 x).wipe vs1) (s5 x y)) → (∀ x ∈ l, p x = true → ∀ y ∈ inner x, TV t1 (s5 x y) (p1 x y) (s5 x y)) → (∀ x ∈ l, p x = true → ∀ y ∈ inner x, p1 x y = true → EV a (s5 x y) (e (v x y)) (s6 x y)) →
    (∀ x ∈ l, ∀ y ∈ inner x, back vs1 (s2 x) (s5 x y) = s2 x ∧ back vs1 (s2 x) (s6 x y) = s2 x) → (∀ x ∈ l, back vs s1 (s2 x) = s1) →
    Q (.list (acc ++ ((l.filter p).flatMap fun x => ((inner x).filter (p1 x)).map (v x)).map e)) s1 → lc2L it b t ai1 b1 t1 a vs vs1 Q (l.map f) acc s1
  | [], acc, _, _, _, _, _, _, _, _, _, _, q => ⟨hc, by simpa using q⟩
  | x :: l, acc, hl, hb, ht, hi, hs, hb1, ht1, ha, hk1, hk, q => by
    have tl : ∀ {P : α → Prop}, (∀ y ∈ x :: l, P y) → ∀ y ∈ l, P y := fun h y hy => h y (List.mem_cons_of_mem _ hy)
    refine ⟨hc, hb x List.mem_cons_self _ (ht x List.mem_cons_self _ _ ?_)⟩
    cases hp : p x with
    | true =>
      rw [List.filter_cons_of_pos hp, List.flatMap_cons, List.length_append] at hl
      rw [List.filter_cons_of_pos hp, List.flatMap_cons, List.map_append, ← List.append_assoc] at q
      refine iteT (hi x List.mem_cons_self hp _ _ ?_)
      rw [(hs x List.mem_cons_self hp).1]
      refine lcI_go f1 (p1 x) e (v x) (s5 x) (s6 x) (hs x List.mem_cons_self hp).2 _ (inner x) acc (by omega) (hb1 x List.mem_cons_self hp) (ht1 x List.mem_cons_self hp) (ha x List.mem_cons_self hp) (hk1 x List.mem_cons_self) ?_
      rw [hk x List.mem_cons_self]
      exact lc2_go f f1 p p1 inner e v s2 s5 s6 hc Q it1 l _ (by rw [List.length_append, List.length_map, List.length_map]; omega) (tl hb) (tl ht) (tl hi) (tl hs) (tl hb1) (tl ht1) (tl ha) (tl hk1) (tl hk) q
    | false =>
      rw [List.filter_cons_of_neg (by rw [hp]; exact Bool.false_ne_true)] at hl q
      refine iteF ?_
      rw [hk x List.mem_cons_self]
      exact lc2_go f f1 p p1 inner e v s2 s5 s6 hc Q it1 l _ hl (tl hb) (tl ht) (tl hi) (tl hs) (tl hb1) (tl ht1) (tl ha) (tl hk1) (tl hk) q
theorem ev_lc2 {α β γ : Type} (f : α → PyData) (f1 : β → PyData) (p : α → Bool) (p1 : α → β → Bool) (inner : α → List β) (e : γ → PyData) (v : α → β → γ) (s2 : α → AS) (s5 s6 : α → β → AS) (it1 : α → AIt) {l : List α} {it : AIt} {ai ai1 : AI} {b b1 : AB} {t t1 : AT} {a : AE} {vs vs1 : List Nat} (hi0 : IV ai s it s1) (hl : ((l.filter p).flatMap fun x => (inner x).filter (p1 x)).length ≤ sizeLine) (hit : it.its = l.map f) (hc : it.chk s1)
    (hb : ∀ x ∈ l, BV b (f x) (s1.wipe vs) (s2 x)) (ht : ∀ x ∈ l, TV t (s2 x) (p x) (s2 x)) (hi : ∀ x ∈ l, p x = true → IV ai1 (s2 x) (it1 x) (s2 x)) (hs : ∀ x ∈ l, p x = true → (it1 x).its = (inner x).map f1 ∧ (it1 x).chk (s2 x))
    (hb1 : ∀ x ∈ l, p x = true → ∀ y ∈ inner x, BV b1 (f1 y) ((s2 x).wipe vs1) (s5 x y)) (ht1 : ∀ x ∈ l, p x = true → ∀ y ∈ inner x, TV t1 (s5 x y) (p1 x y) (s5 x y)) (ha : ∀ x ∈ l, p x = true → ∀ y ∈ inner x, p1 x y = true → EV a (s5 x y) (e (v x y)) (s6 x y))
    (hk1 : ∀ x ∈ l, ∀ y ∈ inner x, back vs1 (s2 x) (s5 x y) = s2 x ∧ back vs1 (s2 x) (s6 x y) = s2 x) (hk : ∀ x ∈ l, back vs s1 (s2 x) = s1) :
    EV (aLc2 ai b t ai1 b1 t1 a vs vs1) s (eL e ((l.filter p).flatMap fun x => ((inner x).filter (p1 x)).map (v x))) s1 := fun xp Q q => hi0 xp _ (by
  rw [hit]
  exact lc2_go f f1 p p1 inner e v s2 s5 s6 hc Q it1 l [] (by simpa using hl) hb ht hi hs hb1 ht1 ha hk1 hk q)
end
theorem filter_yes {α : Type} (l : List α) : l.filter (fun _ => true) = l := List.filter_eq_self.mpr fun _ _ => rfl
/-! min and max -/
def MmOk (ds : List PyData) : Prop := PySem.W.AlikeAll ds ∧ PyData.depthAll ds ≤ 50
def minN {α : Type} [Inhabited α] (f : α → PyData) : List α → α
  | [] => default
  | x :: l => l.foldl (fun m y => if PySem.W.dataLt (f y) (f m) then y else m) x
def maxN {α : Type} [Inhabited α] (f : α → PyData) : List α → α
  | [] => default
  | x :: l => l.foldl (fun m y => if PySem.W.dataLt (f m) (f y) then y else m) x
theorem minN_map {α : Type} (f : α → PyData) : ∀ (l : List α) (x : α), PySem.W.minD (f x) (l.map f) = f (l.foldl (fun m y => if PySem.W.dataLt (f y) (f m) then y else m) x)
  | [], _ => rfl
  | y :: l, x => by
    show PySem.W.minD (if PySem.W.dataLt (f y) (f x) = true then f y else f x) (l.map f) = _
    rw [← apply_ite f, minN_map f l, List.foldl_cons]
theorem maxN_map {α : Type} (f : α → PyData) : ∀ (l : List α) (x : α), PySem.W.maxD (f x) (l.map f) = f (l.foldl (fun m y => if PySem.W.dataLt (f m) (f y) then y else m) x)
  | [], _ => rfl
  | y :: l, x => by
    show PySem.W.maxD (if PySem.W.dataLt (f x) (f y) = true then f y else f x) (l.map f) = _
    rw [← apply_ite f, maxN_map f l, List.foldl_cons]
theorem fv_minL {α : Type} [Inhabited α] {f : α → PyData} {l : List α} (h : MmOk (l.map f) ∧ l ≠ []) : FV fMin [eL f l] (f (minN f l)) := fun _ q => by
  obtain ⟨⟨h1, h2⟩, h3⟩ := h
  cases l with
  | nil => exact absurd rfl h3
  | cons x l => exact ⟨h1, h2, by rw [minN_map]; exact q⟩
theorem fv_maxL {α : Type} [Inhabited α] {f : α → PyData} {l : List α} (h : MmOk (l.map f) ∧ l ≠ []) : FV fMax [eL f l] (f (maxN f l)) := fun _ q => by
  obtain ⟨⟨h1, h2⟩, h3⟩ := h
  cases l with
  | nil => exact absurd rfl h3
  | cons x l => exact ⟨h1, h2, by rw [maxN_map]; exact q⟩
end TR
namespace TR
open PySem PySem.Spec PyProof.Rows L2
/-! ### defs that draw: native weakest preconditions -/
section
variable {s s1 : AS} {xp : XP} {D : AEnds} {d e : PyData}
theorem ov_deck (i : Nat) (h : s.sl[i]? = some (some .deck)) : OV (oVar i) s .deck s := fun _ _ q => by
  unfold oVar; rw [h]; exact q
theorem g_ev {a : AE} {s' : AS} {Q : PyData → AS → Prop} (h : EV a s d s') (q : Q d s') : a xp s Q := h xp _ q
theorem g_ov {a : AO} {o : Op} {s' : AS} {Q : Op → AS → Prop} (h : OV a s o s') (q : Q o s') : a xp s Q := h xp _ q
theorem g_tv {a : AT} {b : Bool} {s' : AS} {Q : Bool → AS → Prop} (h : TV a s b s') (q : Q b s') : a xp s Q := h xp _ q
theorem g_lnil {Q : List Op → AS → Prop} (h : Q [] s) : lNil xp s Q := h
theorem g_lcons {a : AO} {r : AA} {Q : List Op → AS → Prop} (h : a xp s fun o s1 => r xp s1 fun os s2 => Q (o :: os) s2) : lCons a r xp s Q := h
theorem g_V {a : AE} {Q : Op → AS → Prop} (h : a xp s fun d s' => Q (.val d) s') : oV a xp s Q := h
theorem g_call {ms : List Md} {F : AF} {aa : AA} {Q : PyData → AS → Prop} (h : aa xp s fun os s1 => rm ms s1 os fun ds => F ds s1.n (fun r n => Q r { s1 with n := n }) fun _ _ => False) : aCall ms (calm F) aa xp s Q := h
theorem g_call0 {ms : List Md} {F : AF} {aa : AA} {Q : PyData → AS → Prop} (h : aa xp s fun os s1 => rm ms s1 os fun ds => F ds 0 (fun r _ => Q r s1) fun _ _ => False) : aCall0 ms (calm F) aa xp s Q := h
theorem g_rm {ms : List Md} {os : List Op} {ds : List PyData} {k : List PyData → Prop} (hr : ∀ k : List PyData → Prop, k ds → rm ms s os k) (h : k ds) : rm ms s os k := hr _ h
theorem g_rv {os : List Op} {ds : List PyData} {k : List PyData → Prop} (hr : ∀ k : List PyData → Prop, k ds → rv os k) (h : k ds) : rv os k := hr _ h
theorem g_rsl {os : List Op} {ds : List PyData} {k : List PyData → Prop} (hr : ∀ k : List PyData → Prop, k ds → rsl s os k) (h : k ds) : rsl s os k := hr _ h
theorem g_a2 {f : PyData → PyData → (PyData → Prop) → Prop} {aa ab : AO} {Q : PyData → AS → Prop} (h : aa xp s fun o1 s1 => ab xp s1 fun o2 s2 => rs s2 o1 fun d1 => rs s2 o2 fun d2 => f d1 d2 fun d => Q d s2) : a2 f aa ab xp s Q := h
theorem g_op {f : PyData → PyData → (PyData → Prop) → Prop} {o1 o2 : Op} {r : PyData} {Q : PyData → Prop} (h1 : res s o1 = some d) (h2 : res s o2 = some e) (hf : VF f d e r) (h : Q r) : rs s o1 fun d1 => rs s o2 fun d2 => f d1 d2 Q := rs_of h1 (rs_of h2 (hf _ h))
theorem g_tup {aa : AA} {Q : PyData → AS → Prop} (h : aa xp s fun os s1 => rv os fun ds => ds.length ≤ sizeLine ∧ Q (.tuple ds) s1) : aTup aa xp s Q := h
theorem g_lst {aa : AA} {Q : PyData → AS → Prop} (h : aa xp s fun os s1 => rv os fun ds => ds.length ≤ sizeLine ∧ Q (.list ds) s1) : aLst aa xp s Q := h
theorem g_sz {ds : List PyData} (hl : Nat.ble ds.length 1000 = true) : ds.length ≤ sizeLine := lim (Nat.le_of_ble_eq_true hl)
theorem g_blt {f : List PyData → (PyData → Prop) → Prop} {aa : AA} {Q : PyData → AS → Prop} (h : aa xp s fun os s1 => rsl s1 os fun ds => f ds fun d => Q d s1) : aBlt f aa xp s Q := h
theorem g_fv {f : List PyData → (PyData → Prop) → Prop} {ds : List PyData} {r : PyData} {Q : PyData → Prop} (hf : FV f ds r) (h : Q r) : f ds Q := hf _ h
theorem g_tV {a : AE} {Q : Bool → AS → Prop} (h : a xp s fun d s' => match d with | .bool b => Q b s' | _ => False) : tV a xp s Q := h
theorem g_tru {a : AO} {Q : Bool → AS → Prop} (h : a xp s fun o s1 => rs s1 o fun d => match truD d with | some b => Q b s1 | none => False) : tTruA a xp s Q := h
theorem g_tru1 {o : Op} {b : Bool} {Q : Bool → AS → Prop} (r : res s o = some d) (t : truD d = some b) (h : Q b s) : rs s o fun d => match truD d with | some b => Q b s | none => False := rs_of r (by rw [t]; exact h)
theorem g_not {t : AT} {Q : Bool → AS → Prop} (h : t xp s fun c s1 => Q (!c) s1) : tNotA t xp s Q := h
theorem g_and {t u : AT} {Q : Bool → AS → Prop} (h : t xp s fun c s1 => if c = true then u xp s1 Q else Q false s1) : tAndA t u xp s Q := h
theorem g_or {t u : AT} {Q : Bool → AS → Prop} (h : t xp s fun c s1 => if c = true then Q true s1 else u xp s1 Q) : tOrA t u xp s Q := h
theorem g_ite {c : Bool} {A B : Prop} (h1 : c = true → A) (h2 : c = false → B) : if c = true then A else B := by
  cases c with
  | true => exact iteT (h1 rfl)
  | false => exact iteF (h2 rfl)
theorem g_ifE {t : AT} {a b : AE} {Q : PyData → AS → Prop} (h : t xp s fun c s1 => if c = true then a xp s1 Q else b xp s1 Q) : aIfE t a b xp s Q := h
theorem g_neg {a : AO} {Q : PyData → AS → Prop} (h : a xp s fun o s1 => rs s1 o fun d => match d with | .int i => Q (.int (-i)) s1 | _ => False) : aNeg a xp s Q := h
/-! statements -/
theorem s_set {i : Nat} {a : AE} (h : a xp s fun d s1 => D.nx (s1.set i (.dat d))) : sSet i a xp D s := h
theorem s_setO {i : Nat} {a : AE} (h : a xp s fun d s1 => match d with | .list ds => D.nx (s1.set i (.own ds)) | _ => False) : sSetO i a xp D s := h
theorem s_drop {a : AE} (h : a xp s fun _ s1 => D.nx s1) : sDrop a xp D s := h
theorem s_ret {a : AE} (h : a xp s fun d s1 => D.rt d s1.n) : sRet a xp D s := h
theorem s_asg {a : AE} {b : AB} (h : a xp s fun d s1 => b d s1 D.nx) : sAsg a b xp D s := h
theorem s_if {t : AT} {a' b' : AST} (h : t xp s fun c s1 => if c = true then a' xp D s1 else b' xp D s1) : sIf t a' b' xp D s := h
theorem s_par {i j : Nat} {aa : AA} (h : aa xp s fun os s1 => rv os fun ds => match ds with | [d, e] => D.nx ((s1.set i (.dat d)).set j (.dat e)) | _ => False) : sPar i j aa xp D s := h
theorem s_mut {f : List PyData → List PyData → (PyData → List PyData → Prop) → Prop} {i : Nat} {aa : AA} {Q : PyData → AS → Prop} {ds0 : List PyData} (h0 : s.sl[i]? = some (some (.own ds0))) (h : aa xp s fun os s1 => rv os fun es => (match s1.sl[i]? with | some (some (.own ds)) => f ds es fun d ds' => Q d (s1.set i (.own ds')) | _ => False)) : aMut f i aa xp s Q := by
  unfold aMut; rw [h0]; exact h
theorem m_app {α : Type} {f : α → PyData} {l : List α} {x : α} {i : Nat} {Z : PyData → List PyData → Prop} (h1 : s.sl[i]? = some (some (.own (l.map f)))) (hl : l.length < sizeLine) (h : Z .none ((l ++ [x]).map f)) : (match s.sl[i]? with | some (some (.own ds)) => mApp ds [f x] Z | _ => False) := by
  rw [h1]
  refine ⟨by rw [List.length_map]; exact hl, ?_⟩
  rw [List.map_append] at h
  exact h
theorem m_ext {α : Type} {f : α → PyData} {l m : List α} {i : Nat} {Z : PyData → List PyData → Prop} (h1 : s.sl[i]? = some (some (.own (l.map f)))) (hl : l.length + m.length ≤ sizeLine) (h : Z .none ((l ++ m).map f)) : (match s.sl[i]? with | some (some (.own ds)) => mExt ds [eL f m] Z | _ => False) := by
  rw [h1]
  refine ⟨by rw [List.length_map, List.length_map]; exact hl, ?_⟩
  rw [List.map_append] at h
  exact h
end
/-! loops -/
def forW {α σ : Type} (body : (σ → Nat → Prop) → α → σ → Nat → Prop) (after : σ → Nat → Prop) : List α → σ → Nat → Prop
  | [], w, n => after w n
  | x :: l, w, n => body (fun w' n' => forW body after l w' n') x w n
theorem forW_ok {α σ : Type} {b : AB} {body : AST} {xp : XP} {D : AEnds} (f : α → PyData) (Inv : σ → Nat → AS → Prop) {bW : (σ → Nat → Prop) → α → σ → Nat → Prop} {aW : σ → Nat → Prop}
    (hb : ∀ x w n s k (N : AS → Prop), Inv w n s → bW k x w n → (∀ w' n' s', Inv w' n' s' → k w' n' → N s') → b (f x) s fun s1 => body xp { D with nx := N, ct := N, bk := D.nx } s1)
    (ha : ∀ w n s, Inv w n s → aW w n → D.nx s) : ∀ (l : List α) (w : σ) (n : Nat) (s : AS), Inv w n s → forW bW aW l w n → forL b body xp D (l.map f) s
  | [], w, n, s, i, c => ha w n s i c
  | x :: l, w, n, s, i, c => hb x w n s _ _ i c fun w' n' s' i' c' => forW_ok f Inv hb ha l w' n' s' i' c'
theorem s_for {α σ : Type} {ai : AI} {b : AB} {body : AST} {xp : XP} {D : AEnds} {s s1 : AS} {n : Nat} (f : α → PyData) (Inv : σ → Nat → AS → Prop) {l : List α} {w : σ} {bW : (σ → Nat → Prop) → α → σ → Nat → Prop} {aW : σ → Nat → Prop} (hi : IV ai s (.fix (l.map f)) s1) (hw : Inv w n s1) (hW : forW bW aW l w n)
    (hb : ∀ x w n s k (N : AS → Prop), Inv w n s → bW k x w n → (∀ w' n' s', Inv w' n' s' → k w' n' → N s') → b (f x) s fun s1 => body xp { D with nx := N, ct := N, bk := D.nx } s1)
    (ha : ∀ w n s, Inv w n s → aW w n → D.nx s) : sFor ai b body xp D s := hi xp _ (forW_ok f Inv hb ha l w n s1 hw hW)
def lcW {α β : Type} (item : α → Nat → (β → Nat → Prop) → Prop) : List α → List β → Nat → (List β → Nat → Prop) → Prop
  | [], acc, n, K => K acc n
  | x :: l, acc, n, K => item x n fun y n' => lcW item l (acc ++ [y]) n' K
theorem lcw_go {α β : Type} {it : AIt} {b : AB} {a : AE} {vs : List Nat} (f : α → PyData) (e : β → PyData) (st : Nat → AS) (s3 : α → Nat → AS) {item : α → Nat → (β → Nat → Prop) → Prop} {K : List β → Nat → Prop} {Q : PyData → AS → Prop} (hc : ∀ n, it.chk (st n)) (hk : ∀ ys n', K ys n' → Q (.list (ys.map e)) (st n')) : ∀ (l : List α) (acc : List β) (n : Nat), acc.length + l.length ≤ sizeLine →
    (∀ x ∈ l, ∀ n K, item x n K → ∀ K' : PyData → AS → Prop, (∀ y n', K y n' → K' (e y) (s3 x n')) → b (f x) ((st n).wipe vs) fun s2 => a x0 s2 K') → (∀ x ∈ l, ∀ n n', back vs (st n) (s3 x n') = st n') → lcW item l acc n K → lcL it b tYesA a vs Q (l.map f) (acc.map e) (st n)
  | [], acc, n, _, _, _, w => ⟨hc n, hk acc n w⟩
  | x :: l, acc, n, hl, hi, hb, w => by
    rw [List.length_cons] at hl
    refine ⟨hc n, hi x List.mem_cons_self n _ w _ fun y n' w' => ⟨by rw [List.length_map]; omega, ?_⟩⟩
    rw [hb x List.mem_cons_self n n']
    have := lcw_go f e st s3 hc hk l (acc ++ [y]) n' (by rw [List.length_append]; simp only [List.length_cons, List.length_nil]; omega) (fun z hz => hi z (List.mem_cons_of_mem _ hz)) (fun z hz => hb z (List.mem_cons_of_mem _ hz)) w'
    rw [List.map_append] at this
    exact this
theorem g_lc {α β : Type} {ai : AI} {it : AIt} {b : AB} {a : AE} {vs : List Nat} {xp : XP} {s : AS} {n : Nat} (f : α → PyData) (e : β → PyData) (st : Nat → AS) (s3 : α → Nat → AS) {l : List α} {item : α → Nat → (β → Nat → Prop) → Prop} {K : List β → Nat → Prop} {Q : PyData → AS → Prop} (h0 : IV ai s it (st n)) (hit : it.its = l.map f) (hc : ∀ n, it.chk (st n)) (hl : l.length ≤ sizeLine)
    (hi : ∀ x ∈ l, ∀ n K, item x n K → ∀ K' : PyData → AS → Prop, (∀ y n', K y n' → K' (e y) (s3 x n')) → b (f x) ((st n).wipe vs) fun s2 => a x0 s2 K') (hb : ∀ x ∈ l, ∀ n n', back vs (st n) (s3 x n') = st n') (w : lcW item l [] n K) (hk : ∀ ys n', K ys n' → Q (.list (ys.map e)) (st n')) : aLc ai b tYesA a vs xp s Q := h0 xp _ (by
  rw [hit]
  exact lcw_go f e st s3 hc hk l [] n (by simpa using hl) hi hb w)
/-- a draw -/
def w__law_next (m : Int) (n : Nat) (K : Int → Nat → Prop) : Prop := n ≤ 1000000 ∧ 0 < m ∧ m ≤ 4000000000000 ∧ ∀ r, 0 ≤ r → r < m → K r (n + 1)
end TR
namespace TR
open PySem PySem.Spec PyProof.Rows L2
theorem n_st {D : AEnds} {s s' : AS} (e : s = s') (h : D.nx s') : D.nx s := e ▸ h
theorem c_parOO {i j : Nat} {a b : AE} {xp : XP} {D : AEnds} {s s1 s2 s3 : AS} {ds es : List PyData} (h1 : EV a s (.list ds) s1) (h2 : EV b s1 (.list es) s2) (hi : (intsOf ds).isSome = true) (e : (s2.set i (.own ds)).set j (.own es) = s3) (k : D.nx s3) : sParOO i j a b xp D s := h1 xp _ (h2 xp _ ⟨hi, by subst e; exact k⟩)
theorem fv_repr {d : PyData} (h : Shw d) : FV fRepr [d] (.str d.shown) := fun _ q => ⟨h, q⟩
def w__law_one {α : Type} (l : List α) (n : Nat) (K : α → Nat → Prop) : Prop := (n ≤ 1000000 ∧ l ≠ [] ∧ l.length ≤ 1000) ∧ ∀ x ∈ l, K x (n + 1)
end TR
namespace TR
open PySem PySem.Spec PyProof.Rows L2
/-! ### enumerate, count; the exception as an argument -/
def enN {α : Type} (l : List α) : List (Int × α) := l.zipIdx.map fun p => (((p.2 : Nat) : Int), p.1)
theorem enN_map {α : Type} (f : α → PyData) (l : List α) : enD (l.map f) = (enN l).map (eP PyData.int f) := by
  unfold enD enN
  rw [List.zipIdx_map, List.map_map, List.map_map]
  rfl
section
variable {s s1 s2 : AS} {d e : PyData}
theorem iv_enT {α : Type} {f : α → PyData} {l : List α} {a : AE} (h : EV a s (eQ f l) s1) : IV (iEnT a) s (.fix ((enN l).map (eP PyData.int f))) s1 := fun xp _ q => h xp _ (by
  show _ 
  dsimp only
  rw [enN_map]; exact q)
theorem iv_enL {α : Type} {f : α → PyData} {l : List α} {a : AE} (h : EV a s (eL f l) s1) : IV (iEnL a) s (.fix ((enN l).map (eP PyData.int f))) s1 := fun xp _ q => h xp _ (by
  show _
  dsimp only
  rw [enN_map]; exact q)
theorem ev_cnt {α : Type} [DecidableEq α] {f : α → PyData} {l : List α} {x : α} {a : AO} {aa : AA} {o : Op} {os : List Op} (h : OV a s o s1) (g : LV aa s1 os s2) (r1 : res s1 o = some (eL f l)) (r2 : res s2 o = some (eL f l)) (hr : ∀ k : List PyData → Prop, k [f x] → rsl s2 os k) (lw : Lw f) (sl : SeqAt.shaped (eL f l) = true) (sx : SeqAt.shaped (f x) = true) : EV (aLm mCnt a aa) s (.int ((l.count x : Nat) : Int)) s2 := fun xp _ q => h xp _ ⟨⟨_, r1⟩, g xp _ (rs_of r2 (hr _ (by
  refine ⟨sl, sx, ?_⟩
  have : (l.map f).countP (fun y => PyData.eqv y (f x)) = l.count x := by
    rw [List.countP_map, List.count_eq_countP]
    congr 1
    funext y
    show PyData.eqv (f y) (f x) = (y == x)
    rw [lw]
    by_cases h : y = x <;> simp [h]
  rw [this]
  exact q)))⟩
/-- a def that is handed the exception -/
def PEx (F : AFE) (x : XD) (r : PyData) : Prop := ∀ Q : PyData → Prop, Q r → F x Q
theorem ev_callE {F : AFE} {i : Nat} {x : XD} {r : PyData} (h : s.sl[i]? = some (some (.exc x))) (hF : PEx F x r) : EV (aCallE F i) s r s := fun xp Q q => by
  unfold aCallE; rw [h]; exact hF _ q
end
end TR
namespace TR
open PySem PySem.Spec PyProof.Rows L2
theorem shp {k : Nat} {d : PyData} (h : Sd k d) (hk : Nat.ble k 64 = true) : SeqAt.shaped d = true := by
  show (d.canLay0 && decide (d.depth ≤ 64)) = true
  rw [h.1, decide_eq_true (Nat.le_trans h.2 (Nat.le_of_ble_eq_true hk))]
  rfl
end TR
namespace TR
open PySem PySem.Spec PyProof.Rows L2
theorem s_forV {a : AE} {b : AB} {body : AST} {xp : XP} {D : AEnds} {s : AS} (h : a xp s fun d s1 => match (Op.val d : Op) with
  | .val (.list L) => forL b body xp D L s1
  | .val (.tuple L) => forL b body xp D L s1
  | _ => False) : sFor (iSeq (oV a)) b body xp D s := by
  unfold sFor iSeq oV
  have e : (fun d s1 => match (Op.val d : Op) with
    | .val (.list L) => forL b body xp D L s1
    | .val (.tuple L) => forL b body xp D L s1
    | _ => False) = fun d s' => (match (Op.val d : Op) with
    | .val (.list L) => (match (AIt.fix L) with | .fix L => forL b body xp D L s' | .slt _ _ => False)
    | .val (.tuple L) => (match (AIt.fix L) with | .fix L => forL b body xp D L s' | .slt _ _ => False)
    | .slot i => (match res s' (.slot i) with
      | some (.list L) => (match (AIt.slt i (.list L)) with | .fix L => forL b body xp D L s' | .slt _ _ => False)
      | some (.tuple L) => (match (AIt.slt i (.tuple L)) with | .fix L => forL b body xp D L s' | .slt _ _ => False)
      | _ => False)
    | _ => False) := by
    funext d s1
    cases d <;> rfl
  rw [e] at h
  exact h
end TR
namespace TR
open PySem PySem.Spec PyProof.Rows L2
theorem emp_map {α : Type} (f : α → PyData) (l : List α) : (l.map f).isEmpty = l.isEmpty := by cases l <;> rfl
section
variable {α β : Type} {f : α → PyData} {g : β → PyData} {l : List α} {d : PyData}
theorem vf_eqEL : VF vEqE (eL f l) (eL g []) (.bool l.isEmpty) := fun Q q => (emp_map f l ▸ q : Q (.bool ((l.map f).isEmpty)))
theorem vf_eqEQ : VF vEqE (eQ f l) (eQ g []) (.bool l.isEmpty) := fun Q q => (emp_map f l ▸ q : Q (.bool ((l.map f).isEmpty)))
theorem vf_neEL : VF vNeE (eL f l) (eL g []) (.bool (!l.isEmpty)) := fun Q q => (emp_map f l ▸ q : Q (.bool (!(l.map f).isEmpty)))
theorem vf_neEQ : VF vNeE (eQ f l) (eQ g []) (.bool (!l.isEmpty)) := fun Q q => (emp_map f l ▸ q : Q (.bool (!(l.map f).isEmpty)))
theorem vf_eqEDQ (h : isTup d = true) : VF vEqE d (eQ g []) (.bool (items d).isEmpty) := fun _ q => by
  cases d <;> first | exact q | cases h
theorem vf_neEDQ (h : isTup d = true) : VF vNeE d (eQ g []) (.bool (!(items d).isEmpty)) := fun _ q => by
  cases d <;> first | exact q | cases h
theorem vf_eqEDL (h : isLst d = true) : VF vEqE d (eL g []) (.bool (items d).isEmpty) := fun _ q => by
  cases d <;> first | exact q | cases h
theorem vf_neEDL (h : isLst d = true) : VF vNeE d (eL g []) (.bool (!(items d).isEmpty)) := fun _ q => by
  cases d <;> first | exact q | cases h
end
end TR
namespace TR
open PySem PySem.Spec PyProof.Rows L2
/-! ### min of two; max by len -/
def fMin2B : List PyData → (PyData → Prop) → Prop
  | [.int i, .int j], Q => Q (.int (if j < i then j else i))
  | [.tuple a, .tuple b], Q => PySem.W.AlikeAll [.tuple a, .tuple b] ∧ PyData.depthAll [.tuple a, .tuple b] ≤ 50 ∧ Q (PySem.W.minD (.tuple a) [.tuple b])
  | _, _ => False
def rMin2B : List V → Hp → VK → Prop := fun xs H Q => (∃ i j, xs = [.int i, .int j] ∧ Q (.int (if j < i then j else i)) H) ∨ rMin2A xs H Q
theorem dc_min2B : DCall rMin2B fMin2B := by
  intro bn H ds vs Q Qc nb p q k
  unfold fMin2B at q
  split at q
  · exact .inl (dc_min2 bn H _ vs Q Qc nb p q k)
  · exact .inr (dc_min2A bn H _ vs Q Qc nb p q k)
  · exact q.elim
theorem cr_min2B {X : Cx} (hc : X.calm = true) (hu : X.A.units + 65 < cLine) : CallR X (.builtin "min") rMin2B := CallR.or (call_min2 hc) (cr_min2A hc hu)
theorem fv_min2 {i j : Int} : FV fMin2B [.int i, .int j] (.int (if j < i then j else i)) := fun _ q => q
def min2N {α : Type} (f : α → PyData) (a b : α) : α := if PySem.W.dataLt (f b) (f a) then b else a
theorem fv_min2Q {α : Type} {f : α → PyData} {a b : List α} (h : MmOk [eQ f a, eQ f b]) : FV fMin2B [eQ f a, eQ f b] (eQ f (min2N (eQ f) a b)) := fun Q q => by
  refine ⟨h.1, h.2, ?_⟩
  have e : PySem.W.minD (eQ f a) [eQ f b] = eQ f (min2N (eQ f) a b) := by
    unfold min2N
    show (if PySem.W.dataLt (eQ f b) (eQ f a) = true then eQ f b else eQ f a) = _
    split <;> rfl
  exact e.symm ▸ q
def mxL {α : Type} : List (List α) → List α
  | [] => []
  | x :: l => l.foldl (fun a y => if a.length < y.length then y else a) x
theorem fv_maxLL {α : Type} {f : α → PyData} {l : List (List α)} (h : l ≠ []) : FV fMaxL [eL (eL f) l] (eL f (mxL l)) := fun Q q => by
  cases l with
  | nil => exact absurd rfl h
  | cons x l =>
    refine ⟨?_, ?_⟩
    · rw [List.all_eq_true]
      intro z hz
      have hz : z ∈ (x :: l).map (eL f) := hz
      obtain ⟨y, _, rfl⟩ := List.mem_map.mp hz
      rfl
    · have key : ∀ (l : List (List α)) (x : List α), maxLD (eL f x) (l.map (eL f)) = eL f (l.foldl (fun a y => if a.length < y.length then y else a) x) := by
        intro l
        induction l with
        | nil => intro x; rfl
        | cons y l ih =>
          intro x
          show maxLD (if (items (eL f x)).length < (items (eL f y)).length then eL f y else eL f x) (l.map (eL f)) = _
          have e1 : (items (eL f x)).length = x.length := List.length_map _
          have e2 : (items (eL f y)).length = y.length := List.length_map _
          rw [e1, e2, List.foldl_cons, ← ih]
          congr 1
          split <;> rfl
      have e := key l x
      exact e.symm ▸ q
theorem ev_orQ {α : Type} {f : α → PyData} {t u : AE} {s : AS} {l m : List α} (h : EV t s (eQ f l) s) (g : l.isEmpty = true → EV u s (eQ f m) s) : EV (aOrT t u) s (eQ f (bif l.isEmpty then m else l)) s := fun xp Q q => h xp _ (by
  have e : truD (eQ f l) = some (!l.isEmpty) := by
    show some (!(l.map f).isEmpty) = _
    rw [emp_map]
  show (match truD (eQ f l) with
    | some true => Q (eQ f l) s
    | some false => u xp s Q
    | none => False)
  rw [e]
  cases hl : l.isEmpty with
  | true =>
    rw [hl] at q
    exact g hl xp Q q
  | false =>
    rw [hl] at q
    exact q)
theorem ev_a4 {f g h : PyData → PyData → (PyData → Prop) → Prop} {s : AS} {aa ab ac ad : AO} {o1 o2 o3 o4 : Op} {d e d3 d4 : PyData} {b1 b2 b3 : Bool} (h1 : OV aa s o1 s) (h2 : OV ab s o2 s) (r1 : res s o1 = some d) (r2 : res s o2 = some e) (hf : VF f d e (.bool b1)) (h3 : b1 = true → OV ac s o3 s) (r3 : res s o3 = some d3) (hg : b1 = true → VF g e d3 (.bool b2))
    (h4 : b1 = true → b2 = true → OV ad s o4 s) (r4 : res s o4 = some d4) (hh : b1 = true → b2 = true → VF h d3 d4 (.bool b3)) : EV (a4 f g h aa ab ac ad) s (.bool (b1 && (b2 && b3))) s := fun xp Q q => h1 xp _ (h2 xp _ (rs_of r1 (rs_of r2 (hf _ (by
  show aB (.bool b1) _
  unfold aB
  cases b1 with
  | true =>
    refine iteT (h3 rfl xp _ (rs_of r2 (rs_of r3 (hg rfl _ ?_))))
    cases b2 with
    | true => exact iteT (h4 rfl rfl xp _ (rs_of r3 (rs_of r4 (hh rfl rfl _ q))))
    | false => exact iteF q
  | false => exact iteF q)))))
def dStr : PyData → Str
  | .str x => x
  | _ => ""
theorem ev_litGet {k1 k2 : Str} {v1 v2 z : Int} {a : AE} {s s1 : AS} {x : Str} (h : EV a s (.str x) s1) : EV (aLitGet k1 v1 k2 v2 z a) s (.int (if x = k1 then v1 else if x = k2 then v2 else z)) s1 := fun xp _ q => h xp _ q
theorem fv_ss {ns : List Int} (h : ns.length < 60) : FV fSS [eQ PyData.int ns] (eL PyData.int (sset ns)) := fun _ q => ⟨ns, rfl, h, fun _ h1 h2 => by
  rw [lt_uniq h1 (sset_lt ns) fun k => (h2 k).trans sset_mem.symm]; exact q⟩
end TR
namespace TR
open PySem PySem.Spec PyProof.Rows L2
/-! ### while, by fuel -/
instance : Inhabited XN := ⟨⟨0, none⟩⟩
def whV {σ ρ : Type} (c : σ → Bool) (body : (σ → ρ) → σ → ρ) (after : σ → ρ) (d : ρ) : Nat → σ → ρ
  | 0, _ => d
  | k + 1, w => bif c w then body (fun w' => whV c body after d k w') w else after w
def whC {σ : Type} (tC : σ → Prop) (c : σ → Bool) (bC : (σ → Prop) → σ → Prop) (aC : σ → Prop) : Nat → σ → Prop
  | 0, _ => False
  | k + 1, w => tC w ∧ (c w = true → bC (fun w' => whC tC c bC aC k w') w) ∧ (c w = false → aC w)
theorem whN_ok {σ ρ : Type} {R : ρ → Prop} {t : AT} {body : AST} {xp : XP} {D : AEnds} (Inv : σ → AS → Prop) {tC : σ → Prop} {c : σ → Bool} {bC : (σ → Prop) → σ → Prop} {aC : σ → Prop} {bV : (σ → ρ) → σ → ρ} {aV : σ → ρ} {d : ρ}
    (ht : ∀ w s, Inv w s → tC w → TV t s (c w) s)
    (hb : ∀ w s k kC (N : AS → Prop), Inv w s → c w = true → bC kC w → R (bV k w) → (∀ w' s', Inv w' s' → kC w' → R (k w') → N s') → body xp { D with nx := N, ct := N, bk := D.nx } s)
    (ha : ∀ w s, Inv w s → c w = false → aC w → R (aV w) → D.nx s) : ∀ (k : Nat) (w : σ) (s : AS), Inv w s → whC tC c bC aC k w → R (whV c bV aV d k w) → whN t body xp D k s
  | 0, _, _, _, h, _ => h.elim
  | k + 1, w, s, i, ⟨h1, h2, h3⟩, q => ht w s i h1 xp _ (by
    have q : R (bif c w then bV (fun w' => whV c bV aV d k w') w else aV w) := q
    cases hc : c w with
    | true =>
      rw [hc] at q
      exact iteT (hb w s _ _ _ i hc (h2 hc) q fun w' s' i' c' q' => whN_ok Inv ht hb ha k w' s' i' c' q')
    | false =>
      rw [hc] at q
      exact iteF (ha w s i hc (h3 hc) q))
theorem c_while {σ ρ : Type} {R : ρ → Prop} {t : AT} {body : AST} {xp : XP} {D : AEnds} {s : AS} (Inv : σ → AS → Prop) {tC : σ → Prop} {c : σ → Bool} {bC : (σ → Prop) → σ → Prop} {aC : σ → Prop} {bV : (σ → ρ) → σ → ρ} {aV : σ → ρ} {d : ρ} {k : Nat} {w : σ} (hw : Inv w s) (hC : whC tC c bC aC k w) (hq : R (whV c bV aV d k w))
    (ht : ∀ w s, Inv w s → tC w → TV t s (c w) s)
    (hb : ∀ w s k kC (N : AS → Prop), Inv w s → c w = true → bC kC w → R (bV k w) → (∀ w' s', Inv w' s' → kC w' → R (k w') → N s') → body xp { D with nx := N, ct := N, bk := D.nx } s)
    (ha : ∀ w s, Inv w s → c w = false → aC w → R (aV w) → D.nx s) : sWhile t body xp D s := ⟨k, whN_ok Inv ht hb ha k w s hw hC hq⟩
/-- what a while gives, by a measure -/
theorem whC_ok {σ : Type} {tC : σ → Prop} {c : σ → Bool} {bC : (σ → Prop) → σ → Prop} {aC : σ → Prop} (I : σ → Prop) (m : σ → Nat) (h : ∀ w, I w → tC w ∧ (c w = true → ∀ kC : σ → Prop, (∀ w', I w' → m w' < m w → kC w') → bC kC w) ∧ (c w = false → aC w)) : ∀ (k : Nat) (w : σ), I w → m w < k → whC tC c bC aC k w
  | 0, _, _, h0 => absurd h0 (Nat.not_lt_zero _)
  | k + 1, w, i, hk => ⟨(h w i).1, fun hc => (h w i).2.1 hc _ fun w' i' hm => whC_ok I m h k w' i' (by omega), (h w i).2.2⟩
theorem whV_ok {σ ρ : Type} {c : σ → Bool} {bV : (σ → ρ) → σ → ρ} {aV : σ → ρ} {d : ρ} (I : σ → Prop) (m : σ → Nat) (P : σ → ρ → Prop) (h : ∀ w, I w → (c w = true → ∀ kk : σ → ρ, (∀ w', I w' → m w' < m w → P w' (kk w')) → P w (bV kk w)) ∧ (c w = false → P w (aV w))) : ∀ (k : Nat) (w : σ), I w → m w < k → P w (whV c bV aV d k w)
  | 0, _, _, h0 => absurd h0 (Nat.not_lt_zero _)
  | k + 1, w, i, hk => by
    show P w (bif c w then _ else _)
    cases hc : c w with
    | true => exact (h w i).1 hc _ fun w' i' hm => whV_ok I m P h k w' i' (by omega)
    | false => exact (h w i).2 hc
/-! ### two calls that may raise, in the ways of an if -/
def mapX {α β : Type} (f : α → β) : Except XN α → Except XN β
  | .ok r => .ok (f r)
  | .error x => .error x
theorem PFx.map {α : Type} {cc : Nat → Addr} {F : AF} {ds : List PyData} {f : α → PyData} {v : Except XN α} (h : PFx cc F ds f v) : PFx cc F ds eD (mapX f v) := fun n Q X q => h n Q X (by
  cases v with
  | ok r => exact q
  | error x => exact q)
section
variable {cc : Nat → Addr} {s s1 s2 : AS} {d e r : PyData} {i : Nat} {xp : XP} {D : AEnds} {x : XN}
theorem ev_ifX {t : AT} {a b : AE} {c : Bool} {v1 v2 : Except XN PyData} (h : TV t s c s) (ha : c = true → ∀ r, v1 = .ok r → EV a s r s) (hb : c = false → ∀ r, v2 = .ok r → EV b s r s) (e : (bif c then v1 else v2) = .ok r) : EV (aIfE t a b) s r s := fun xp _ q => h xp _ (by
  cases c with
  | true => exact iteT (ha rfl r e xp _ q)
  | false => exact iteF (hb rfl r e xp _ q))
theorem xv_ifX {t : AT} {a b : AE} {c : Bool} {v1 v2 : Except XN PyData} (h : TV t s c s) (ha : c = true → v1 = .error x → XV cc a s x) (hb : c = false → v2 = .error x → XV cc b s x) (e : (bif c then v1 else v2) = .error x) : XV cc (aIfE t a b) s x := fun xp Q q => h xp _ (by
  cases c with
  | true => exact iteT (ha rfl e xp _ q)
  | false => exact iteF (hb rfl e xp _ q))
/-! ### draws: walks of a range whose end is drawn -/
theorem range1_eq {aa : AA} {s : AS} {xp : XP} {Q : AIt → AS → Prop} : iRange1 aa xp s Q = aa xp s fun os s1 => rv os fun ds => ∃ j, ds = [.int j] ∧ Rg j ∧ Q (.fix ((irange 0 j).map .int)) s1 := by
  unfold iRange1
  congr 1
  funext os s1
  congr 1
  funext ds
  refine propext ⟨fun h => ?_, fun ⟨j, e, h1, h2⟩ => ?_⟩
  · split at h
    · next j => exact ⟨j, rfl, ⟨h.1, h.2.1⟩, by rw [← rngD_map0]; exact h.2.2⟩
    · exact h.elim
  · subst e
    exact ⟨h1.1, h1.2, by rw [rngD_map0]; exact h2⟩
theorem s_forR1 {aa : AA} {b : AB} {body : AST} (h : aa xp s fun os s1 => rv os fun ds => ∃ j, ds = [.int j] ∧ Rg j ∧ forL b body xp D ((irange 0 j).map .int) s1) : sFor (iRange1 aa) b body xp D s := by
  show iRange1 aa xp s _
  rw [range1_eq]
  exact h
theorem g_lcR1 {aa : AA} {b : AB} {t : AT} {a : AE} {vs : List Nat} {Q : PyData → AS → Prop} (h : aa xp s fun os s1 => rv os fun ds => ∃ j, ds = [.int j] ∧ Rg j ∧ lcL (.fix ((irange 0 j).map .int)) b t a vs Q ((irange 0 j).map .int) [] s1) : aLc (iRange1 aa) b t a vs xp s Q := by
  show iRange1 aa xp s _
  rw [range1_eq]
  exact h
theorem lcW_go {α β : Type} {it : AIt} {b : AB} {a : AE} {vs : List Nat} {n : Nat} (f : α → PyData) (e : β → PyData) (st : Nat → AS) (s3 : α → Nat → AS) {l : List α} {item : α → Nat → (β → Nat → Prop) → Prop} {K : List β → Nat → Prop} {Q : PyData → AS → Prop} (hc : ∀ n, it.chk (st n)) (hl : l.length ≤ sizeLine)
    (hi : ∀ x ∈ l, ∀ n K, item x n K → ∀ K' : PyData → AS → Prop, (∀ y n', K y n' → K' (e y) (s3 x n')) → b (f x) ((st n).wipe vs) fun s2 => a x0 s2 K') (hb : ∀ x ∈ l, ∀ n n', back vs (st n) (s3 x n') = st n') (w : lcW item l [] n K) (hk : ∀ ys n', K ys n' → Q (.list (ys.map e)) (st n')) : lcL it b tYesA a vs Q (l.map f) [] (st n) :=
  lcw_go f e st s3 hc hk l [] n (by simpa using hl) hi hb w
/-! ### draws in the condition of a comprehension -/
def lcFW {α β : Type} (test : α → Nat → (Bool → Nat → Prop) → Prop) (v : α → β) : List α → List β → Nat → (List β → Nat → Prop) → Prop
  | [], acc, n, K => K acc n
  | x :: l, acc, n, K => test x n fun c n' => (c = true → lcFW test v l (acc ++ [v x]) n' K) ∧ (c = false → lcFW test v l acc n' K)
theorem lcfw_go {α β : Type} {it : AIt} {b : AB} {t : AT} {a : AE} {vs : List Nat} (f : α → PyData) (e : β → PyData) (v : α → β) (st : Nat → AS) (s2 : α → Nat → AS) (s3 : α → Nat → AS) {test : α → Nat → (Bool → Nat → Prop) → Prop} {K : List β → Nat → Prop} {Q : PyData → AS → Prop} (hc : ∀ n, it.chk (st n)) (hk : ∀ ys n', K ys n' → Q (.list (ys.map e)) (st n')) : ∀ (l : List α) (acc : List β) (n : Nat), acc.length + l.length ≤ sizeLine →
    (∀ x ∈ l, ∀ n K, test x n K → ∀ K' : Bool → AS → Prop, (∀ c n', K c n' → K' c (s2 x n')) → b (f x) ((st n).wipe vs) fun s2 => t x0 s2 K') → (∀ x ∈ l, ∀ n, EV a (s2 x n) (e (v x)) (s3 x n)) → (∀ x ∈ l, ∀ n n', back vs (st n) (s2 x n') = st n' ∧ back vs (st n) (s3 x n') = st n') → lcFW test v l acc n K → lcL it b t a vs Q (l.map f) (acc.map e) (st n)
  | [], acc, n, _, _, _, _, w => ⟨hc n, hk acc n w⟩
  | x :: l, acc, n, hl, hi, ha, hb, w => by
    rw [List.length_cons] at hl
    refine ⟨hc n, hi x List.mem_cons_self n _ w _ fun c n' w' => ?_⟩
    cases c with
    | true =>
      refine iteT (ha x List.mem_cons_self n' _ _ ⟨by rw [List.length_map]; omega, ?_⟩)
      rw [(hb x List.mem_cons_self n n').2]
      have := lcfw_go f e v st s2 s3 hc hk l (acc ++ [v x]) n' (by rw [List.length_append]; simp only [List.length_cons, List.length_nil]; omega) (fun z hz => hi z (List.mem_cons_of_mem _ hz)) (fun z hz => ha z (List.mem_cons_of_mem _ hz)) (fun z hz => hb z (List.mem_cons_of_mem _ hz)) (w'.1 rfl)
      rw [List.map_append] at this
      exact this
    | false =>
      refine iteF ?_
      rw [(hb x List.mem_cons_self n n').1]
      exact lcfw_go f e v st s2 s3 hc hk l acc n' (by omega) (fun z hz => hi z (List.mem_cons_of_mem _ hz)) (fun z hz => ha z (List.mem_cons_of_mem _ hz)) (fun z hz => hb z (List.mem_cons_of_mem _ hz)) (w'.2 rfl)
theorem g_lcF {α β : Type} {ai : AI} {it : AIt} {b : AB} {t : AT} {a : AE} {vs : List Nat} {n : Nat} (f : α → PyData) (e : β → PyData) (v : α → β) (st : Nat → AS) (s2 : α → Nat → AS) (s3 : α → Nat → AS) {l : List α} {test : α → Nat → (Bool → Nat → Prop) → Prop} {K : List β → Nat → Prop} {Q : PyData → AS → Prop} (h0 : IV ai s it (st n)) (hit : it.its = l.map f) (hc : ∀ n, it.chk (st n)) (hl : l.length ≤ sizeLine)
    (hi : ∀ x ∈ l, ∀ n K, test x n K → ∀ K' : Bool → AS → Prop, (∀ c n', K c n' → K' c (s2 x n')) → b (f x) ((st n).wipe vs) fun s2 => t x0 s2 K') (ha : ∀ x ∈ l, ∀ n, EV a (s2 x n) (e (v x)) (s3 x n)) (hb : ∀ x ∈ l, ∀ n n', back vs (st n) (s2 x n') = st n' ∧ back vs (st n) (s3 x n') = st n') (w : lcFW test v l [] n K) (hk : ∀ ys n', K ys n' → Q (.list (ys.map e)) (st n')) : aLc ai b t a vs xp s Q := h0 xp _ (by
  rw [hit]
  exact lcfw_go f e v st s2 s3 hc hk l [] n (by simpa using hl) hi ha hb w)
end
theorem ssA_ok {ns ms : List Int} (h1 : ms.Pairwise (· < ·)) (h2 : ∀ k, k ∈ ms ↔ k ∈ ns) : ms = sset ns := lt_uniq h1 (sset_lt ns) fun k => (h2 k).trans sset_mem.symm
theorem fv_ssQ {ns : List Int} (h : ns.length < 60) : FV fSSA [eQ PyData.int ns] (eL PyData.int (sset ns)) := fun _ q => ⟨ns, rfl, h, fun _ h1 h2 => by
  rw [ssA_ok h1 h2]; exact q⟩
theorem fv_ssL {ns : List Int} (h : ns.length < 60) : FV fSSA [eL PyData.int ns] (eL PyData.int (sset ns)) := fun _ q => ⟨ns, rfl, h, fun _ h1 h2 => by
  rw [ssA_ok h1 h2]; exact q⟩
theorem vf_isB {a b : Bool} : VF vIs (.bool a) (.bool b) (.bool (a == b)) := fun _ q => by
  cases a <;> cases b <;> exact q
theorem vf_isNotB {a b : Bool} : VF vIsNot (.bool a) (.bool b) (.bool (!(a == b))) := fun _ q => by
  cases a <;> cases b <;> exact q
theorem vf_divF {a b : Int} (h : CDivF a b) : VF vDivF (.int a) (.int b) (.int (a.fdiv b)) := fun _ q => ⟨h, q⟩
end TR
namespace TR
open PySem PySem.Spec PyProof.Rows L2
/-! ### zip, native -/
theorem zpD_map {α β : Type} (f : α → PyData) (g : β → PyData) (l : List α) (m : List β) : zpD (l.map f) (m.map g) = (l.zip m).map (eP f g) := by
  unfold zpD
  rw [List.zip_map, List.map_map]
  rfl
section
variable {s s1 : AS}
theorem iv_zipL {α β : Type} {f : α → PyData} {g : β → PyData} {l : List α} {m : List β} {aa : AA} {os : List Op} (h : LV aa s os s1) (hv : ∀ k : List PyData → Prop, k [eL f l, eL g m] → rv os k) : IV (iZip aa) s (.fix ((l.zip m).map (eP f g))) s1 := fun xp _ q => h xp _ (hv _ (by
  rw [← zpD_map] at q; exact q))
theorem iv_zipQ {α β : Type} {f : α → PyData} {g : β → PyData} {l : List α} {m : List β} {aa : AA} {os : List Op} (h : LV aa s os s1) (hv : ∀ k : List PyData → Prop, k [eQ f l, eQ g m] → rv os k) : IV (iZip aa) s (.fix ((l.zip m).map (eP f g))) s1 := fun xp _ q => h xp _ (hv _ (by
  rw [← zpD_map] at q; exact q))
end
end TR
namespace TR
open PySem PySem.Spec PyProof.Rows L2
theorem castL_DI {l : List PyData} (h : l = (l.map dI).map PyData.int) : eL eD l = eL PyData.int (l.map dI) := by
  show PyData.list (l.map eD) = .list ((l.map dI).map .int)
  rw [← h, List.map_id']
end TR
namespace TR
open PySem PySem.Spec PyProof.Rows L2
theorem ev_isV {i : Nat} {x : XD} {s : AS} (h : s.sl[i]? = some (some (.exc x))) : EV (aIsV i) s (.bool true) s := fun xp Q q => by
  unfold aIsV; rw [h]; exact q
end TR
namespace TR
open PySem PySem.Spec PyProof.Rows L2
def topS (i : Nat) : Stmt := PySem.Challenge.pw_tasterow_k60_changes_of_pairs.main.body.getD i (.Pass ⟨0, 0, 0, 0⟩)
abbrev s_TasteError : Stmt := topS 1
abbrev s_NoRanking : Stmt := topS 2
abbrev s_NoTaster : Stmt := topS 3
abbrev s_NoDish : Stmt := topS 4
abbrev s_NotSeatable : Stmt := topS 5
abbrev s_NoSeating : Stmt := topS 6
abbrev s_NoMenu : Stmt := topS 7
abbrev s_NoSize : Stmt := topS 8
abbrev s_NoCuts : Stmt := topS 9
abbrev s_NoSpan : Stmt := topS 10
abbrev s_NoPlaces : Stmt := topS 11
abbrev s_is_whole : Stmt := topS 14
abbrev s_is_within : Stmt := topS 15
abbrev s_ascending_tuples : Stmt := topS 16
abbrev s_all_pairs : Stmt := topS 18
abbrev s_is_place : Stmt := topS 20
abbrev s_check_span : Stmt := topS 21
abbrev s_change_of : Stmt := topS 22
abbrev s_line_changes : Stmt := topS 23
abbrev s_line_distance : Stmt := topS 24
abbrev sDeck : Stmt := topS 26
abbrev sNext : Stmt := topS 27
abbrev s__law_one : Stmt := topS 28
abbrev s__law_same : Stmt := topS 29
abbrev s__law_pairs : Stmt := topS 30
abbrev s__law_unlike : Stmt := topS 31
abbrev s__law_line : Stmt := topS 32
abbrev s__law_meeting : Stmt := topS 33
abbrev s__law_raised : Stmt := topS 34
abbrev s__law_span : Stmt := topS 35
abbrev s__law_ranked : Stmt := topS 36
abbrev s__law_bad_span : Stmt := topS 37
abbrev s__law_prefers : Stmt := topS 38
abbrev s__law_first_change : Stmt := topS 39
abbrev s__law_due : Stmt := topS 40
abbrev s__law_answer : Stmt := topS 41
abbrev s_law : Stmt := topS 42
end TR
namespace TR
open PySem PySem.Spec PyProof.Rows L2
section
variable {P : Program} {w : World} {K : PySem.W.Frag} {mg : Str → Option Value} {base : Heap}
def spLaw (K : PySem.W.Frag) : Sp := fun vs H Q _ => ∃ (a : Addr) (ns : List Int), vs = [.ref a] ∧ SqL K H a (ns.map V.int) ∧ ns.length ≤ 63 ∧ ∀ H', Q (.bl true) H'
end
end TR
namespace TR
open PySem PySem.Spec PyProof.Rows L2
theorem scDeck : FnScope ["_law_script", "_law_cells", "_law_cell"] ["_law_script"] (defScope sDeck) := ⟨rfl, rfl, rfl, by decide +kernel, rfl, by decide +kernel, by decide +kernel⟩
section
variable {P : Program} {w : World} {K : PySem.W.Frag} {mg : Str → Option Value} {base : Heap}
def spDeck (K : PySem.W.Frag) : Sp := fun vs H Q _ => ∃ (a : Addr) (ns : List Int), vs = [.ref a] ∧ SqL K H a (ns.map V.int) ∧ ns.length ≤ 63 ∧
  ∀ H' d p q, Same H H' → Deck H' d p q 0 → Q (.ref d) H'
theorem ok_deck {f : Addr} {fd : FuncData} {k : Nat} (F : Fun K "_law_deck" "_law_deck" sDeck f fd) (mabs : mg "abs" = none) (mlen : mg "len" = none) : FnOk P w K mg base CX0 (k + 1) f fd ["_law_script"] (spDeck K) := by
  refine F.ok scDeck (fun vs H Q E h => ?_) (fun cdv A outer s H vs Q E hr h => ?_)
  · obtain ⟨a, ns, rfl, _⟩ := h
    rfl
  · obtain ⟨a, ns, rfl, hS, hlen, q⟩ := h
    refine ⟨_, pss_cons (ps_setLc (i := 1) (own := [("_law_cell", 2)]) (g := gName 2) (tt := tYes) (by rfl) scDeck.nd rfl rfl (sw_true rfl rfl rfl (by decide +kernel)) (pi_list (pv 0))
        (blkOk_by (own := [("_law_cell", 2)]) (N := ["_law_script", "_law_cells", "_law_cell"]) (sc := defScope sDeck) (by decide +kernel)) (fun _ _ _ _ _ => pg_name (i := 2) scDeck.nd rfl (Or.inl rfl)) (fun _ _ _ _ _ => pts_nil)
        (fun _ _ _ _ _ => pe_callB call_abs (by rfl) mabs (by decide +kernel) (pa_cons (pv 2) pa_nil)))
      (pss_one (ps_ret (pe_lst (pa_cons
        (pe_lc (own := [("_law_cell", 2)]) (g := gName 2) (by rfl) scDeck.nd (pi_list (pv 1))
          (blkOk_by (own := [("_law_cell", 2)]) (N := ["_law_script", "_law_cells", "_law_cell"]) (sc := defScope sDeck) (by decide +kernel)) (fun _ _ _ _ _ => pg_name (i := 2) scDeck.nd rfl (Or.inl rfl))
          (fun _ _ _ _ _ => pts_one (pt_cmpR op_ge (pv 2) (pe_op op_pow pe_int pe_int) (nomark _)))
          (fun _ _ _ _ _ => pv 2))
        (pa_cons (pe_op op_cat (pv 1) (pe_lst (pa_cons (pe_op op_add (pe_callB call_len_seq (by rfl) mlen PySem.boot_len (pa_cons (pv 1) pa_nil)) pe_int) pa_nil)))
        (pa_cons pe_int pa_nil)))))), ?_⟩
    refine ⟨.ref a, rfl, a, rfl, ⟨_, hS⟩, fun D hD => lc_list (K := K) (a := a) (xs := ns.map V.int) (fun i H1 => Same H H1 ∧ ∃ zs : List Int, zs.length ≤ i ∧ H1 D = some (.lst (zs.map V.int))) ⟨same_upd hD, [], Nat.zero_le _, upd_same⟩ (fun i H1 _ h => h.1.seq hS) (fun i x H1 hx h => ?_) (fun H1 h => ?_)⟩
    · obtain ⟨sm, zs, hz, hd⟩ := h
      obtain ⟨z, hz1, rfl⟩ : ∃ z, ns[i]? = some z ∧ x = .int z := by
        rw [List.getElem?_map] at hx
        cases e : ns[i]? with
        | none => rw [e] at hx; cases hx
        | some z => rw [e] at hx; exact ⟨z, rfl, (Option.some.inj hx).symm⟩
      have hi : i < ns.length := (List.getElem?_eq_some_iff.mp hz1).1
      refine ⟨rfl, .int z, rfl, z, rfl, _, hd, ?_, same_upd2 sm hD, zs ++ [if z < 0 then -z else z], ?_, ?_⟩
      · rw [List.length_map]
        exact small1000 (by omega)
      · rw [List.length_append]
        show zs.length + 1 ≤ i + 1
        omega
      · rw [upd_same, List.map_append]
        rfl
    · obtain ⟨sm, zs, hz, hd⟩ := h
      rw [List.length_map] at hz
      refine ⟨.ref D, rfl, D, rfl, ⟨_, sqL hd⟩, fun p hp => lc_list (K := K) (a := D) (xs := zs.map V.int) (fun i H2 => Same H1 H2 ∧ ∃ ys : List Int, ys.length ≤ i ∧ H2 p = some (.lst (ys.map V.int))) ⟨same_upd hp, [], Nat.zero_le _, upd_same⟩ (fun i H2 _ h => h.1.seq (sqL hd)) (fun i x H2 hx h => ?_) (fun H2 h => ?_)⟩
      · obtain ⟨sm2, ys, hy, hd2⟩ := h
        obtain ⟨z, hz1, rfl⟩ : ∃ z, zs[i]? = some z ∧ x = .int z := by
          rw [List.getElem?_map] at hx
          cases e : zs[i]? with
          | none => rw [e] at hx; cases hx
          | some z => rw [e] at hx; exact ⟨z, rfl, (Option.some.inj hx).symm⟩
        have hi : i < zs.length := (List.getElem?_eq_some_iff.mp hz1).1
        refine ⟨rfl, .int z, rfl, 10, 18, rfl, rfl, ⟨by decide, by decide, by decide⟩, _, _, rfl, rfl, _, rfl, ite2 (fun _ => ?_) (fun _ => ?_)⟩
        · refine ⟨.int z, rfl, _, hd2, ?_, same_upd2 sm2 hp, ys ++ [z], ?_, ?_⟩
          · rw [List.length_map]
            exact small1000 (by omega)
          · rw [List.length_append]
            show ys.length + 1 ≤ i + 1
            omega
          · rw [upd_same, List.map_append]
            rfl
        · exact ⟨sm2, ys, by omega, hd2⟩
      · obtain ⟨sm2, ys, hy, hd2⟩ := h
        have hD2 : H2 D = some (.lst (zs.map V.int)) := sm2 _ _ hd
        rw [List.length_map] at hy
        refine ⟨.ref D, rfl, .ref D, rfl, D, _, rfl, .inl (sqL hD2), _, _, rfl, rfl, by show 1 ≤ sizeLine; decide, fun t ht => ?_⟩
        have nDt : D ≠ t := ne_of_none hD2 ht
        refine ⟨D, t, _, _, rfl, rfl, (by rw [upd_ne nDt]; exact hD2), upd_same, ?_, fun q' hq' => ?_⟩
        · rw [List.length_map]
          show zs.length + 1 ≤ sizeLine
          exact Nat.le_of_lt (small1000 (by omega))
        · have e : zs.map V.int ++ [V.int (((zs.map V.int).length : Int) + 5)] = (zs ++ [((zs.map V.int).length : Int) + 5]).map V.int := by
            rw [List.map_append]
            rfl
          refine ⟨by show 3 ≤ sizeLine; decide, fun d hd' => q _ d p q' ?_ ⟨ys.length, ⟨⟨ys, zs ++ [((zs.map V.int).length : Int) + 5], 0, upd_same, ?_, ?_, Int.le_refl _, Int.le_refl _, by simp, rfl⟩, ?_, ?_, ?_⟩⟩⟩
          · exact (sm.trans sm2).trans ((same_upd ht).trans ((same_upd hq').trans (same_upd hd')))
          · exact ((same_upd ht).trans ((same_upd hq').trans (same_upd hd'))) _ _ hd2
          · rw [← e]
            exact (same_upd hd') _ _ upd_same
          · exact (ne_of_none (((same_upd ht).trans (same_upd hq')) _ _ hd2) hd').symm
          · exact (ne_of_none (upd_same (H := upd H2 t _)) hd').symm
          · exact ne_of_none ((same_upd ht) _ _ hd2) hq'
end
end TR
namespace TR
open PySem PySem.Spec PyProof.Rows L2
theorem scNext : FnScope ["_law_deck_here", "_law_many", "_law_rest", "_law_cell", "_law_mixed"] ["_law_deck_here", "_law_many"] (defScope sNext) := ⟨rfl, rfl, rfl, by decide +kernel, rfl, by decide +kernel, by decide +kernel⟩
theorem ixN_zero {n : Nat} (h : 0 < n) : ixN n 0 = some 0 := by
  unfold ixN
  rw [if_pos (Int.le_refl _), if_pos (by omega)]
  rfl
section
variable {P : Program} {w : World} {K : PySem.W.Frag} {mg : Str → Option Value} {base : Heap}
def spNext : Sp := fun vs H Q _ => ∃ (d p q : Addr) (n : Nat) (m : Int), vs = [.ref d, .int m] ∧ Deck H d p q n ∧ n ≤ 1000000 ∧ 0 < m ∧ m ≤ 4000000000000 ∧
  ∀ H' r, 0 ≤ r → r < m → Deck H' d p q (n + 1) → Keep d p H H' → Q (.int r) H'
theorem ok_next {f : Addr} {fd : FuncData} {k : Nat} (F : Fun K "_law_next" "_law_next" sNext f fd) (mlen : mg "len" = none) : FnOk P w K mg base CX0 (k + 1) f fd ["_law_deck_here", "_law_many"] spNext := by
  refine F.ok scNext (fun vs H Q E h => ?_) (fun cdv A outer s H vs Q E hr h => ?_)
  · obtain ⟨d, p, q, n, m, rfl, _⟩ := h
    rfl
  · obtain ⟨d, p, q, n, m, rfl, ⟨l0, D0⟩, hn, hm0, hm1, qq⟩ := h
    refine ⟨_, pss_cons (ps_while PassesOwn.never (pt_cmpR (op_neD hr.units) (pe_ix ix_list (pv 0) pe_int (fun _ _ => rfl)) (pe_lst pa_nil) (nomark _))
        (pss_cons (ps_set (i := 2) scNext.nd rfl (.inl rfl) (pe_ix ix_list (pe_ix ix_list (pv 0) pe_int (fun _ _ => rfl)) pe_int (fun _ _ => rfl)))
        (pss_cons (ps_if (pt_cmpR op_gt (pv 2) pe_int (nomark _))
          (pss_cons (ps_asg (pe_op op_fdivW (pv 2) (pv 1)) (pg_sub (pe_ix ix_list (pv 0) pe_int (fun _ _ => rfl)) pe_int set_list))
          (pss_one (ps_ret (pe_op op_mod (pv 2) (pv 1))))) pss_nil)
        (pss_one (ps_expr (pe_bm PySem.F.plainAttrs_list PySem.F.slot_list_pop PySem.F.type_list_pop mt_popAt (pe_ix ix_list (pv 0) pe_int (fun _ _ => rfl)) (pa_cons pe_int pa_nil)))))))
      (pss_cons (ps_asg (pe_op op_add (pe_ix ix_list (pv 0) pe_int (fun _ _ => rfl)) pe_int) (pg_sub (pv 0) pe_int set_list))
      (pss_cons (ps_set (i := 3) scNext.nd rfl (.inl rfl) (pe_op op_mod (pe_ix ix_list (pe_ix ix_list (pv 0) pe_int (fun _ _ => rfl)) (pe_op op_mod (pe_ix ix_list (pv 0) pe_int (fun _ _ => rfl)) (pe_callB call_len_seq (by rfl) mlen PySem.boot_len (pa_cons (pe_ix ix_list (pv 0) pe_int (fun _ _ => rfl)) pa_nil))) (fun _ _ => rfl)) pe_int))
      (pss_cons (ps_set (i := 4) scNext.nd rfl (.inl rfl) (pe_op op_add (pe_op op_add (pe_op op_mul (pv 3) (pe_op op_add pe_int (pe_op op_mul pe_int (pe_ix ix_list (pv 0) pe_int (fun _ _ => rfl))))) (pe_op op_mul (pe_op op_mul pe_int (pe_ix ix_list (pv 0) pe_int (fun _ _ => rfl))) (pe_ix ix_list (pv 0) pe_int (fun _ _ => rfl)))) pe_int))
      (pss_cons (ps_set (i := 4) scNext.nd rfl (.inl rfl) (pe_op op_mod (pv 4) pe_int))
      (pss_one (ps_ret (pe_op op_mod (pe_op op_fdiv (pe_op op_mod (pe_op op_mul (pv 4) (pv 4)) pe_int) pe_int) (pv 1)))))))), ?_⟩
    refine ⟨fun l σ H1 => ∃ y2, σ = [some (.ref d), some (.int m), y2, none, none] ∧ DeckL H1 d p q n l ∧ Keep d p H H1, ⟨l0, none, rfl, D0, Keep.refl _ _ _⟩, fun l σ H1 hW => ?_⟩
    obtain ⟨y2, rfl, ⟨⟨xs, cs, c, h1, h2, h3, h4, h5, h6, h7⟩, ndp, ndq, npq⟩, kp⟩ := hW
    refine ⟨.ref d, rfl, d, _, 0, .ref p, rfl, rfl, sqL h1, rfl, Nat.zero_le _, fun e he => ?_⟩
    have hp1 : upd H1 e (.lst []) p = some (.lst (xs.map V.int)) := by
      rw [upd_ne (ne_of_none h2 he)]
      exact h2
    have hd1 : upd H1 e (.lst []) d = some (.lst [.ref p, .ref q, .int c]) := by
      rw [upd_ne (ne_of_none h1 he)]
      exact h1
    have hq1 : upd H1 e (.lst []) q = some (.lst (cs.map V.int)) := by
      rw [upd_ne (ne_of_none h3 he)]
      exact h3
    have kp1 : Keep d p H (upd H1 e (.lst [])) := kp.trans (Same.keep (same_upd he))
    refine ⟨_, _, .lst (sqL hp1) (dpAll_ints xs), .lst (sqL upd_same) .nil, shaped_ints xs, rfl, _, rfl, ?_⟩
    rw [eqv_nil]
    cases xs with
    | cons x r =>
      refine iteT ?_
      refine ⟨fun σ H2 => ∃ y2, σ = [some (.ref d), some (.int m), y2, none, none] ∧ DeckL H2 d p q n r.length ∧ Keep d p H H2, fun σ' H' hN => ⟨r.length, by rw [← h7]; exact Nat.lt_succ_self _, hN⟩, ?_⟩
      refine ⟨.ref d, rfl, d, _, 0, .ref p, rfl, rfl, sqL hd1, rfl, p, _, 0, .int x, rfl, rfl, sqL hp1, atI_nat (j := 0) rfl, ?_⟩
      refine ⟨.int x, rfl, x, 0, rfl, rfl, _, rfl, ite2 (fun hx => ?_) (fun hx => ?_)⟩
      · refine ⟨.int x, rfl, .int m, rfl, x, m, rfl, rfl, wide_div (b := 42) hm0 (by show m.natAbs < 4398046511104; omega) (by decide) (by decide), .ref d, rfl, d, _, 0, .ref p, rfl, rfl, sqL hd1, rfl, p, _, 0, 0, rfl, rfl, hp1, ixN_zero (by simp), ?_⟩
        refine ⟨.int x, rfl, .int m, rfl, x, m, rfl, rfl, hm0, qq _ _ (Int.emod_nonneg _ (by omega)) (Int.emod_lt_of_pos _ hm0) ?_ (keep_upd kp1 (.inr rfl))⟩
        refine ⟨r.length + 1, ⟨⟨(x / m) :: r, cs, c, ?_, upd_same, ?_, h4, by omega, h6, rfl⟩, ndp, ndq, npq⟩⟩
        · rw [upd_ne ndp]
          exact hd1
        · rw [upd_ne npq.symm]
          exact hq1
      · refine ⟨.ref d, rfl, d, _, 0, .ref p, rfl, rfl, sqL hd1, rfl, .inl ⟨rfl, _, sqL hp1⟩, p, _, 0, 0, .int x, rfl, rfl, hp1, by decide, by decide, ?_, rfl, ?_⟩
        · show seqIndex? 0 ((V.int x :: r.map V.int).length) = some 0
          unfold seqIndex?
          simp
        · refine ⟨some (.int x), rfl, ⟨⟨r, cs, c, ?_, upd_same, ?_, h4, h5, h6, rfl⟩, ndp, ndq, npq⟩, keep_upd kp1 (.inr rfl)⟩
          · rw [upd_ne ndp]
            exact hd1
          · rw [upd_ne npq.symm]
            exact hq1
    | nil =>
      refine iteF ?_
      refine ⟨.ref d, rfl, d, _, 2, .int c, rfl, rfl, sqL hd1, rfl, c, 1, rfl, rfl, .ref d, rfl, d, _, 2, 2, rfl, rfl, hd1, rfl, ?_⟩
      have kp2 : Keep d p H (upd (upd H1 e (.lst [])) d (.lst [.ref p, .ref q, .int (c + 1)])) := keep_upd kp1 (.inl rfl)
      have hq2 : upd (upd H1 e (.lst [])) d (.lst [.ref p, .ref q, .int (c + 1)]) q = some (.lst (cs.map V.int)) := by
        rw [upd_ne ndq.symm]
        exact hq1
      have hp2 : upd (upd H1 e (.lst [])) d (.lst [.ref p, .ref q, .int (c + 1)]) p = some (.lst (([] : List Int).map V.int)) := by
        rw [upd_ne ndp.symm]
        exact hp1
      have hd2 : upd (upd H1 e (.lst [])) d (.lst [.ref p, .ref q, .int (c + 1)]) d = some (.lst [.ref p, .ref q, .int (c + 1)]) := upd_same
      have hcl : 0 < (cs.map V.int).length := by
        rw [List.length_map]
        exact List.length_pos_iff.mpr h6
      have hcl' : (0 : Int) < ((cs.map V.int).length : Int) := by omega
      have b0 : 0 ≤ (c + 1) % ((cs.map V.int).length : Int) := Int.emod_nonneg _ (by omega)
      have b1 : (c + 1) % ((cs.map V.int).length : Int) < ((cs.map V.int).length : Int) := Int.emod_lt_of_pos _ hcl'
      obtain ⟨j, hj⟩ := Int.eq_ofNat_of_zero_le b0
      have hjl : j < cs.length := by
        rw [List.length_map] at b1 hj
        omega
      have ga : (cs.map V.int)[j]? = some (.int cs[j]) := by
        rw [List.getElem?_map, List.getElem?_eq_getElem hjl]
        rfl
      have gb : atI (cs.map V.int) ((c + 1) % ((cs.map V.int).length : Int)) = some (.int cs[j]) := by
        rw [hj]
        exact atI_nat ga
      refine ⟨.ref d, rfl, d, _, 1, .ref q, rfl, rfl, sqL hd2, rfl, .ref d, rfl, d, _, 2, .int (c + 1), rfl, rfl, sqL hd2, rfl, .ref d, rfl, d, _, 1, .ref q, rfl, rfl, sqL hd2, rfl, q, _, rfl, .inl (sqL hq2), _, _, rfl, rfl, hcl', q, _, _, _, rfl, rfl, sqL hq2, gb, _, _, rfl, rfl, by show (0 : Int) < 2147483647; decide, ?_⟩
      have e1 : (0 : Int) ≤ cs[j] % 2147483647 := Int.emod_nonneg _ (by decide)
      have e2 : cs[j] % 2147483647 < 2147483647 := Int.emod_lt_of_pos _ (by decide)
      refine ⟨.int (cs[j] % 2147483647), rfl, .ref d, rfl, d, _, 2, .int (c + 1), rfl, rfl, sqL hd2, rfl, 48271, _, rfl, rfl, .inl ⟨by decide, by decide⟩, _, _, rfl, rfl, cs[j] % 2147483647, _, rfl, rfl, .inl ⟨by show -(2 : Int) ^ 64 < cs[j] % 2147483647; omega, by show cs[j] % 2147483647 < (2 : Int) ^ 64; omega⟩,
        .ref d, rfl, d, _, 2, .int (c + 1), rfl, rfl, sqL hd2, rfl, 30011, _, rfl, rfl, .inl ⟨by decide, by decide⟩, .ref d, rfl, d, _, 2, .int (c + 1), rfl, rfl, sqL hd2, rfl, _, _, rfl, rfl, .inr ⟨by show -(2 : Int) ^ 64 < c + 1; omega, by show c + 1 < (2 : Int) ^ 64; omega⟩, _, _, rfl, rfl, _, _, rfl, rfl, ?_⟩
      refine ⟨_, rfl, _, _, rfl, rfl, by show (0 : Int) < 2147483629; decide, ?_⟩
      have e3 : (0 : Int) ≤ (cs[j] % 2147483647 * (69621 + 48271 * (c + 1)) + 30011 * (c + 1) * (c + 1) + 47) % 2147483629 := Int.emod_nonneg _ (by decide)
      have e4 : (cs[j] % 2147483647 * (69621 + 48271 * (c + 1)) + 30011 * (c + 1) * (c + 1) + 47) % 2147483629 < 2147483629 := Int.emod_lt_of_pos _ (by decide)
      refine ⟨.int ((cs[j] % 2147483647 * (69621 + 48271 * (c + 1)) + 30011 * (c + 1) * (c + 1) + 47) % 2147483629), rfl, .int ((cs[j] % 2147483647 * (69621 + 48271 * (c + 1)) + 30011 * (c + 1) * (c + 1) + 47) % 2147483629), rfl, _, _, rfl, rfl, .inl ⟨by show -(2 : Int) ^ 64 < (cs[j] % 2147483647 * (69621 + 48271 * (c + 1)) + 30011 * (c + 1) * (c + 1) + 47) % 2147483629; omega, by show (cs[j] % 2147483647 * (69621 + 48271 * (c + 1)) + 30011 * (c + 1) * (c + 1) + 47) % 2147483629 < (2 : Int) ^ 64; omega⟩, _, _, rfl, rfl, by show (0 : Int) < 2147483587; decide, _, _, rfl, rfl, ⟨by decide, by decide⟩, .int m, rfl, _, m, rfl, rfl, hm0, ?_⟩
      exact qq _ _ (Int.emod_nonneg _ (by omega)) (Int.emod_lt_of_pos _ hm0) ⟨0, ⟨[], cs, c + 1, hd2, hp2, hq2, by omega, by omega, h6, rfl⟩, ndp, ndq, npq⟩ kp2
end
end TR
namespace TR
open PySem PySem.Spec PyProof.Rows L2
/-! ### the deck -/
def F__law_next : AF := fun ds n Qa _ => match ds with
  | [_, .int m] => n ≤ 1000000 ∧ 0 < m ∧ m ≤ 4000000000000 ∧ ∀ r, 0 ≤ r → r < m → Qa (.int r) (n + 1)
  | _ => False
section
variable {P : Program} {w : World} {K : PySem.W.Frag} {mg : Str → Option Value} {base : Heap}
theorem okA__law_next {m : Nat} {f : Addr} {fd : FuncData} (F : Fun K "_law_next" "_law_next" sNext f fd) (m_len : mg "len" = none) : FnOk P w K mg base CX0 (m + 1) f fd ["_law_deck_here", "_law_many"] (spA [.deck, .dat] F__law_next) := by
  refine (ok_next F m_len).imp fun vs H Q E ⟨Φ, ds, n, Qa, xa, p, a, f, hq, hx⟩ => ?_
  cases a with
  | cons h1 t =>
    cases t with
    | cons h2 t =>
      cases t
      obtain ⟨d, pp, q, e, rfl⟩ := h1
      have e' : Φ.dk0 = some (d, pp, q) := e
      unfold F__law_next at f
      split at f
      · next m he =>
        cases he
        obtain ⟨f1, f2, f3, f4⟩ := f
        obtain rfl : _ = V.int m := h2
        refine ⟨d, pp, q, n, m, rfl, p.dk d pp q e', f1, f2, f3, fun H' r h0 h1 D K => hq (.int r) _ _ H' ⟨fun b o hb hn => ?_, fun d2 p2 q2 e2 => ?_, rfl⟩ (f4 r h0 h1)⟩
        · rw [e'] at hn
          simp only [dkl, List.mem_cons, List.not_mem_nil, or_false, not_or] at hn
          exact K b o (p.h0 ▸ hb) hn.1 hn.2.1
        · rw [e'] at e2
          cases e2
          exact D
      · exact f.elim
/-! ### the law itself -/
theorem law_start {H1 : Hp} {N : List Str} {a d p q : Addr} {k : Nat} (hk : k + 2 = N.length) (D : Deck H1 d p q 0) : Rel ⟨[], none, fun _ => none, [], [], none, []⟩ ⟨some (d, p, q), []⟩ ⟨none :: some .deck :: List.replicate k none, 0⟩ ((L2.start N [.ref a]).set 1 (some (.ref d))) H1 := by
  have hl : ((L2.start N [.ref a]).set 1 (some (.ref d))).length = N.length := by
    rw [List.length_set]
    simp [L2.start]
    omega
  refine ⟨by rw [hl, ← hk]; simp, fun i x h => ?_, fun d' p' q' e => ?_, fun i b h => (nomatch h), fun i j b h => (nomatch h), fun b o h _ => (nomatch h), fun t e => (nomatch e), fun b hb => (nomatch hb), fun x hx => (nomatch hx), fun x hx => (nomatch hx), List.nodup_nil⟩
  · have h2 : (none :: some AV.deck :: List.replicate k none)[i]? = some (some x) := h
    cases i with
    | zero => cases h2
    | succ i =>
      cases i with
      | zero =>
        cases h2
        exact ⟨.ref d, List.getElem?_set_self (by simp [L2.start]; omega), d, p, q, rfl, rfl⟩
      | succ i =>
        simp only [List.getElem?_cons_succ] at h2
        obtain ⟨hlt, e⟩ := List.getElem?_eq_some_iff.mp h2
        rw [List.getElem_replicate] at e
        cases e
  · cases e
    exact ⟨D, fun b hb => ⟨fun z => (nomatch z), .inr rfl⟩⟩
def lawF (k : Nat) (b : AST) : Prop := b x0 { nx := fun _ => False, rt := fun r _ => r = .bool true } ⟨none :: some .deck :: List.replicate k none, 0⟩
theorem law_body {b : AST} {N : List Str} {k : Nat} {vs : List V} {H : Hp} {Q : VK} {E : XK} (hk : k + 2 = N.length) (hb : lawF k b) (h : spLaw K vs H Q E) : tSeq (tAsg (tCall (spDeck K) [] E0 (tCons (tVar 0) tNil)) (gName 1)) (cS e00 b) { nx := fun _ H' => Q .non H', rt := Q } (L2.start N vs) H := by
  obtain ⟨a, ns, rfl, hS, hl, q⟩ := h
  refine ⟨.ref a, ?_, a, ns, rfl, hS, hl, fun H' d p q' sm D => ?_⟩
  · unfold L2.start
    rw [List.getElem?_append_left (by simp)]
    rfl
  · exact ⟨_, _, x0, _, _, law_start hk D, ⟨⟨rfl, rfl⟩, fun _ _ _ _ _ _ _ _ h => h⟩, hb, fun _ _ _ _ _ h => h.elim, fun _ _ _ _ _ h => h.elim, fun _ _ _ _ _ h => h.elim, fun r n v H ro e => by
      subst e
      obtain rfl : v = .bl true := ro.rp
      exact q H⟩
theorem law_ok {b : AST} {N : List Str} {k m : Nat} {st : Stmt} {f : Addr} {fd : FuncData} (F : Fun K "law" "law" st f fd) (S : FnScope N ["_law_script"] (defScope st)) (hk : k + 2 = N.length) (hb : lawF k b)
    (hbody : ∀ (cdv : Value) (A : Around) (outer : List Env) (s : Shared) (H : Hp) (E : XK), Room m (A.deeper (envOfC "law" (defScope st) s.heap.objs.size f cdv)) → PSs (cxOf CX0 P w K mg base N "law" (defScope st) f cdv A outer s H E).nox (defBody st) (tSeq (tAsg (tCall (spDeck K) [] E0 (tCons (tVar 0) tNil)) (gName 1)) (cS e00 b))) : FnOk P w K mg base CX0 (m + 1) f fd ["_law_script"] (spLaw K) := by
  refine F.ok S (fun vs H Q E h => ?_) fun cdv A outer s H vs Q E hr h => ⟨_, hbody cdv A outer s H E hr, law_body hk hb h⟩
  obtain ⟨a, ns, rfl, _⟩ := h
  rfl
theorem law_okG {b : AST} {N : List Str} {k m : Nat} {st : Stmt} {f : Addr} {fd : FuncData} (F : Fun K "law" "law" st f fd) (S : FnScope N ["_law_script"] (defScope st)) (hk : k + 2 = N.length) (hb : lawF k b)
    (hbody : ∀ (cdv : Value) (A : Around) (outer : List Env) (s : Shared) (H : Hp) (E : XK), A.guards = some [] → Room m (A.deeper (envOfC "law" (defScope st) s.heap.objs.size f cdv)) → PSs (cxOf CX0 P w K mg base N "law" (defScope st) f cdv A outer s H E).nox (defBody st) (tSeq (tAsg (tCall (spDeck K) [] E0 (tCons (tVar 0) tNil)) (gName 1)) (cS e00 b))) : RunG P w K mg base (m + 1) f fd ["_law_script"] (spLaw K) := by
  refine okG F S (fun vs H Q E h => ?_) fun cdv A outer s H vs Q E hg hr h => ⟨_, hbody cdv A outer s H E hg hr, law_body hk hb h⟩
  obtain ⟨a, ns, rfl, _⟩ := h
  rfl
end
end TR
namespace TR
open PySem PySem.Spec PyProof.Rows L2
theorem scA_is_whole : FnScope ["value"] ["value"] (defScope s_is_whole) := ⟨rfl, rfl, rfl, by decide +kernel, rfl, by decide +kernel, by decide +kernel⟩
def b_is_whole : AST := (sRet (aAnd (aIsi "int" (oVar 0)) (aNot (aIsi "bool" (oVar 0)))))
def F_is_whole : AF := fnF [.dat] 0 (b_is_whole)
theorem okA_is_whole {P : Program} {w : World} {K : PySem.W.Frag} {mg : Str → Option Value} {base : Heap} {f  : Addr} {fd  : FuncData} {m : Nat} (F : Fun K "is_whole" "is_whole" s_is_whole f fd)
    (m_isinstance : mg "isinstance" = none) (m_bool : mg "bool" = none) (m_int : mg "int" = none) : FnOk P w K mg base CX0 (m + 1) f fd ["value"] (spA [.dat] F_is_whole) :=
  fn_ok F scA_is_whole rfl rfl fun cdv A outer s H E hr =>
    (as_one (as_ret (ae_and (ae_isi (T := "int") (by rfl) m_isinstance (ao_var 0 (pv 0)) (pe_bltn (v := .ty "int") (by rfl) m_int (by decide +kernel) rfl)) (ae_one (ae_not (ae_isi (T := "bool") (by rfl) m_isinstance (ao_var 0 (pv 0)) (pe_bltn (v := .ty "bool") (by rfl) m_bool (by decide +kernel) rfl)))))))

theorem scA_is_within : FnScope ["value", "low", "high"] ["value", "low", "high"] (defScope s_is_within) := ⟨rfl, rfl, rfl, by decide +kernel, rfl, by decide +kernel, by decide +kernel⟩
def b_is_within (P_is_whole : AF) : AST := (sRet (aAnd (aCall0 [.dat] (calm P_is_whole) (lCons (oV (aVar 0)) lNil)) (a3 vLe vLe (oVar 1) (oVar 0) (oVar 2))))
def F_is_within : AF := fnF [.dat, .dat, .dat] 0 (b_is_within F_is_whole)
theorem okA_is_within {P : Program} {w : World} {K : PySem.W.Frag} {mg : Str → Option Value} {base : Heap} {f f_is_whole : Addr} {fd d_is_whole : FuncData} {m : Nat} (F : Fun K "is_within" "is_within" s_is_within f fd)
    (k_is_whole : PySem.W.keepIn K (.ref f_is_whole) = true) (b_is_whole : Binds K d_is_whole ["value"] []) (g_is_whole : mg "is_whole" = some (.ref f_is_whole)) (G_is_whole : FnOk P w K mg base CX0 m f_is_whole d_is_whole ["value"] (spA [.dat] F_is_whole))
     : FnOk P w K mg base CX0 (m + 1) f fd ["value", "low", "high"] (spA [.dat, .dat, .dat] F_is_within) :=
  fn_ok F scA_is_within rfl rfl fun cdv A outer s H E hr =>
    (as_one (as_ret (ae_and (ae_call0 G_is_whole (by decide) hr (by rfl) g_is_whole k_is_whole b_is_whole (la_cons (ao_V (ae_var 0 (pv 0))) la_nil)) (ae_one (ae_chain dop_le dop_le (op_leA hr.units) (op_leA hr.units) (ao_var 1 (pv 1)) (ao_var 0 (pv 0)) (ao_var 2 (pv 2)))))))

theorem scA_ascending_tuples : FnScope ["size", "length", "rows", "step", "row", "more"] ["size", "length"] (defScope s_ascending_tuples) := ⟨rfl, rfl, rfl, by decide +kernel, rfl, by decide +kernel, by decide +kernel⟩
def b_ascending_tuples : AST := (sSeq (sSet 2 (aLst (lCons (oV (aTup lNil)) lNil)))
    (sSeq (sFor (iRange1 (lCons (oVar 1) lNil)) (bNm 3)
    (sSet 2 (aLc2 (iSeq (oVar 2)) (bNm 4) tYesA (iRange2 (lCons (oV (aIfE (tTruA (oVar 4)) (a2 vAdd (oV (a2 vIx (oVar 4) (oV (aNeg (oV (aC (.int 1))))))) (oV (aC (.int 1)))) (aC (.int 0)))) (lCons (oVar 0) lNil))) (bNm 5) tYesA (a2 vAdd (oVar 4) (oV (aTup (lCons (oV (aVar 5)) lNil)))) [4, 5] [5])))
    (sRetV 2)))
def F_ascending_tuples : AF := fnF [.dat, .dat] 4 (b_ascending_tuples)
theorem okA_ascending_tuples {P : Program} {w : World} {K : PySem.W.Frag} {mg : Str → Option Value} {base : Heap} {f  : Addr} {fd  : FuncData} {m : Nat} (F : Fun K "ascending_tuples" "ascending_tuples" s_ascending_tuples f fd)
    (m_range : mg "range" = none) : FnOk P w K mg base CX0 (m + 1) f fd ["size", "length"] (spA [.dat, .dat] F_ascending_tuples) :=
  fn_ok F scA_ascending_tuples rfl rfl fun cdv A outer s H E hr =>
    (as_cons (as_set (i := 2) scA_ascending_tuples.nd rfl (.inl rfl) (ae_F (af_lst 0 (la_cons (ao_V (ae_tup la_nil)) la_nil))))
      (as_cons (as_for PassesOwn.never rfl (ai_range1 (by rfl) m_range (la_cons (ao_var 1 (pv 1)) la_nil)) (ag_name (pg_name (i := 3) scA_ascending_tuples.nd rfl (.inl rfl))) (as_one (as_setLc2 2 rfl rfl (sw_true rfl rfl rfl (by decide +kernel)) (own := [("row", 4), ("more", 5)]) (vs1 := [5]) (by rfl) scA_ascending_tuples.nd (ai_seq (ao_var 2 (pv 2))) (blkOk_by (own := [("row", 4), ("more", 5)]) (N := ["size", "length", "rows", "step", "row", "more"]) (sc := defScope s_ascending_tuples) (by decide +kernel)) (by decide) (fun _ _ _ _ _ => (ag_name (pg_name (i := 4) scA_ascending_tuples.nd rfl (Or.inl rfl)))) (fun _ _ _ _ _ => ts_nil) (fun _ _ _ _ _ => (ai_range2 (by rfl) m_range (la_cons (ao_V (ae_if (at_tru (ao_var 4 (pv 4))) (ae_op dop_add op_addA (ao_V (ae_ix (ao_var 4 (pv 4)) (ao_V (ae_neg (ao_V ae_int))) (fun _ _ => rfl))) (ao_V ae_int)) ae_int)) (la_cons (ao_var 0 (pv 0)) la_nil)))) (fun _ _ _ _ _ => (ag_name (pg_name (i := 5) scA_ascending_tuples.nd rfl (Or.inl rfl)))) (fun _ _ _ _ _ => ts_nil) (fun _ _ _ _ _ => (ae_op dop_add op_addA (ao_var 4 (pv 4)) (ao_V (ae_tup (la_cons (ao_V (ae_var 5 (pv 5))) la_nil))))))))
      (as_one (as_retV 2 (pv 2)))))

theorem scA_all_pairs : FnScope ["dishes"] ["dishes"] (defScope s_all_pairs) := ⟨rfl, rfl, rfl, by decide +kernel, rfl, by decide +kernel, by decide +kernel⟩
def b_all_pairs (P_ascending_tuples : AF) : AST := (sRet (aCall0 [.dat, .dat] (calm P_ascending_tuples) (lCons (oV (aVar 0)) (lCons (oV (aC (.int 2))) lNil))))
def F_all_pairs : AF := fnF [.dat] 0 (b_all_pairs F_ascending_tuples)
theorem okA_all_pairs {P : Program} {w : World} {K : PySem.W.Frag} {mg : Str → Option Value} {base : Heap} {f f_ascending_tuples : Addr} {fd d_ascending_tuples : FuncData} {m : Nat} (F : Fun K "all_pairs" "all_pairs" s_all_pairs f fd)
    (k_ascending_tuples : PySem.W.keepIn K (.ref f_ascending_tuples) = true) (b_ascending_tuples : Binds K d_ascending_tuples ["size", "length"] []) (g_ascending_tuples : mg "ascending_tuples" = some (.ref f_ascending_tuples)) (G_ascending_tuples : FnOk P w K mg base CX0 m f_ascending_tuples d_ascending_tuples ["size", "length"] (spA [.dat, .dat] F_ascending_tuples))
     : FnOk P w K mg base CX0 (m + 1) f fd ["dishes"] (spA [.dat] F_all_pairs) :=
  fn_ok F scA_all_pairs rfl rfl fun cdv A outer s H E hr =>
    (as_one (as_ret (ae_call0 G_ascending_tuples (by decide) hr (by rfl) g_ascending_tuples k_ascending_tuples b_ascending_tuples (la_cons (ao_V (ae_var 0 (pv 0))) (la_cons (ao_V ae_int) la_nil)))))

theorem scA_is_place : FnScope ["value"] ["value"] (defScope s_is_place) := ⟨rfl, rfl, rfl, by decide +kernel, rfl, by decide +kernel, by decide +kernel⟩
def b_is_place (P_is_within : AF) : AST := (sRet (aCall0 [.dat, .dat, .dat] (calm P_is_within) (lCons (oV (aVar 0)) (lCons (oV (aC (.int 0))) (lCons (oV (aC (.int 1000000000000))) lNil)))))
def F_is_place : AF := fnF [.dat] 0 (b_is_place F_is_within)
theorem okA_is_place {P : Program} {w : World} {K : PySem.W.Frag} {mg : Str → Option Value} {base : Heap} {f f_is_within : Addr} {fd d_is_within : FuncData} {m : Nat} {t_MAX_WEIGHT : Tok} (F : Fun K "is_place" "is_place" s_is_place f fd)
    (k_is_within : PySem.W.keepIn K (.ref f_is_within) = true) (b_is_within : Binds K d_is_within ["value", "low", "high"] []) (g_is_within : mg "is_within" = some (.ref f_is_within)) (G_is_within : FnOk P w K mg base CX0 m f_is_within d_is_within ["value", "low", "high"] (spA [.dat, .dat, .dat] F_is_within))
    (gc_MAX_WEIGHT : mg "MAX_WEIGHT" = some (.int 1000000000000 t_MAX_WEIGHT)) : FnOk P w K mg base CX0 (m + 1) f fd ["value"] (spA [.dat] F_is_place) :=
  fn_ok F scA_is_place rfl rfl fun cdv A outer s H E hr =>
    (as_one (as_ret (ae_call0 G_is_within (by decide) hr (by rfl) g_is_within k_is_within b_is_within (la_cons (ao_V (ae_var 0 (pv 0))) (la_cons (ao_V ae_int) (la_cons (ao_V (ae_gint (by rfl) gc_MAX_WEIGHT)) la_nil))))))

theorem scA_check_span : FnScope ["low", "high"] ["low", "high"] (defScope s_check_span) := ⟨rfl, rfl, rfl, by decide +kernel, rfl, by decide +kernel, by decide +kernel⟩
def b_check_span (cc : Nat → Addr) (P_is_place : AF) : AST := (sIf (tOrA (tNotA (tTruA (oV (aCall0 [.dat] (calm P_is_place) (lCons (oV (aVar 0)) lNil))))) (tOrA (tNotA (tTruA (oV (aCall0 [.dat] (calm P_is_place) (lCons (oV (aVar 1)) lNil))))) (tV (a2 vGt (oVar 0) (oVar 1)))))
    (sRaise0 (cc 8))
    sNx)
def F_check_span (cc : Nat → Addr) : AF := fnF [.dat, .dat] 0 (b_check_span cc F_is_place)
theorem okA_check_span {P : Program} {w : World} {K : PySem.W.Frag} {mg : Str → Option Value} {base : Heap} {f f_is_place : Addr} {fd d_is_place : FuncData} {cc : Nat → Addr} {m : Nat} (F : Fun K "check_span" "check_span" s_check_span f fd)
    (k_is_place : PySem.W.keepIn K (.ref f_is_place) = true) (b_is_place : Binds K d_is_place ["value"] []) (g_is_place : mg "is_place" = some (.ref f_is_place)) (G_is_place : FnOk P w K mg base CX0 m f_is_place d_is_place ["value"] (spA [.dat] F_is_place))
    (T_NoSpan : Mk0 K mg "NoSpan" (cc 8))
     : FnOk P w K mg base (L2.CX P w) (m + 1) f fd ["low", "high"] (spA [.dat, .dat] (F_check_span cc)) :=
  fn_okX F scA_check_span rfl rfl fun cdv A outer s H E hr =>
    (as_one (as_if (PW.pt (aw_or (at_not (at_tru (ao_V (ae_call0 G_is_place (by decide) hr (by rfl) g_is_place k_is_place b_is_place (la_cons (ao_V (ae_var 0 (pv 0))) la_nil))))) (aw_or (at_not (at_tru (ao_V (ae_call0 G_is_place (by decide) hr (by rfl) g_is_place k_is_place b_is_place (la_cons (ao_V (ae_var 1 (pv 1))) la_nil))))) (aw_or1 (cmp_test dop_gt (op_gtA hr.units) (ao_var 0 (pv 0)) (ao_var 1 (pv 1)) (nomark _)))))) (as_one (as_raise0 (C := (cc 8)) (PS.sub (ps_raise (W := fun cls d _ H => E cls d H) rfl (takes_of rfl rfl rfl rfl) (pmk_0 PySem.F.excBase_ValueError T_NoSpan.q T_NoSpan.g T_NoSpan.k (raises_own T_NoSpan.b T_NoSpan.t) (by rfl))) fun _ _ _ h => h))) as_nil))

theorem scA_change_of : FnScope ["line", "pair", "low", "high", "height", "slope"] ["line", "pair"] (defScope s_change_of) := ⟨rfl, rfl, rfl, by decide +kernel, rfl, by decide +kernel, by decide +kernel⟩
def b_change_of : AST := (sSeq (sAsg (aVar 1) (bTup 2 (bCons (bNm 2) (bCons (bNm 3) bNil))))
    (sSeq (sSet 4 (a2 vSub (oV (a2 vIx (oV (a2 vIx (oVar 0) (oVar 2))) (oV (aC (.int 0))))) (oV (a2 vIx (oV (a2 vIx (oVar 0) (oVar 3))) (oV (aC (.int 0)))))))
    (sSeq (sSet 5 (a2 vSub (oV (a2 vIx (oV (a2 vIx (oVar 0) (oVar 2))) (oV (aC (.int 1))))) (oV (a2 vIx (oV (a2 vIx (oVar 0) (oVar 3))) (oV (aC (.int 1)))))))
    (sSeq (sIf (tV (a2 vGt (oVar 5) (oV (aC (.int 0)))))
    (sRet (aNeg (oV (a2 vDiv (oVar 4) (oVar 5)))))
    sNx)
    (sSeq (sIf (tV (a2 vLt (oVar 5) (oV (aC (.int 0)))))
    (sRet (a2 vAdd (oV (a2 vDiv (oVar 4) (oV (aNeg (oVar 5))))) (oV (aC (.int 1)))))
    sNx)
    (sRet (aC .none)))))))
def F_change_of : AF := fnF [.dat, .dat] 4 (b_change_of)
theorem okA_change_of {P : Program} {w : World} {K : PySem.W.Frag} {mg : Str → Option Value} {base : Heap} {f  : Addr} {fd  : FuncData} {m : Nat} (F : Fun K "change_of" "change_of" s_change_of f fd)
     : FnOk P w K mg base CX0 (m + 1) f fd ["line", "pair"] (spA [.dat, .dat] F_change_of) :=
  fn_ok F scA_change_of rfl rfl fun cdv A outer s H E hr =>
    (as_cons (as_asg (ae_var 1 (pv 1)) (ag_tup (by rfl) (ags_cons (ag_name (pg_name (i := 2) scA_change_of.nd rfl (.inl rfl))) (ags_cons (ag_name (pg_name (i := 3) scA_change_of.nd rfl (.inl rfl))) ags_nil))))
      (as_cons (as_set (i := 4) scA_change_of.nd rfl (.inl rfl) (ae_op dop_sub op_subA (ao_V (ae_ix (ao_V (ae_ix (ao_var 0 (pv 0)) (ao_var 2 (pv 2)) (fun _ _ => rfl))) (ao_V ae_int) (fun _ _ => rfl))) (ao_V (ae_ix (ao_V (ae_ix (ao_var 0 (pv 0)) (ao_var 3 (pv 3)) (fun _ _ => rfl))) (ao_V ae_int) (fun _ _ => rfl)))))
      (as_cons (as_set (i := 5) scA_change_of.nd rfl (.inl rfl) (ae_op dop_sub op_subA (ao_V (ae_ix (ao_V (ae_ix (ao_var 0 (pv 0)) (ao_var 2 (pv 2)) (fun _ _ => rfl))) (ao_V ae_int) (fun _ _ => rfl))) (ao_V (ae_ix (ao_V (ae_ix (ao_var 0 (pv 0)) (ao_var 3 (pv 3)) (fun _ _ => rfl))) (ao_V ae_int) (fun _ _ => rfl)))))
      (as_cons (as_if (cmp_test dop_gt (op_gtA hr.units) (ao_var 5 (pv 5)) (ao_V ae_int) (nomark _)) (as_one (as_ret (ae_neg (ao_V (ae_op dop_div op_fdivW (ao_var 4 (pv 4)) (ao_var 5 (pv 5))))))) as_nil)
      (as_cons (as_if (cmp_test dop_lt (op_ltA hr.units) (ao_var 5 (pv 5)) (ao_V ae_int) (nomark _)) (as_one (as_ret (ae_op dop_add op_addA (ao_V (ae_op dop_div op_fdivW (ao_var 4 (pv 4)) (ao_V (ae_neg (ao_var 5 (pv 5)))))) (ao_V ae_int)))) as_nil)
      (as_one (as_ret ae_non)))))))

theorem scA_line_changes : FnScope ["line", "low", "high", "changes", "pair", "t"] ["line", "low", "high"] (defScope s_line_changes) := ⟨rfl, rfl, rfl, by decide +kernel, rfl, by decide +kernel, by decide +kernel⟩
def b_line_changes (cc : Nat → Addr) (P_check_span : AF) (P_all_pairs : AF) (P_change_of : AF) : AST := (sSeq (sDrop (aCall0 [.dat, .dat] P_check_span (lCons (oV (aVar 1)) (lCons (oV (aVar 2)) lNil))))
    (sSeq (sSet 3 (aLc (iSeq (oV (aCall0 [.dat] (calm P_all_pairs) (lCons (oV (aBlt fLen (lCons (oVar 0) lNil))) lNil)))) (bNm 4) tYesA (aTup (lCons (oV (aCall0 [.dat, .dat] (calm P_change_of) (lCons (oV (aVar 0)) (lCons (oV (aVar 4)) lNil)))) (lCons (oV (aVar 4)) lNil))) [4]))
    (sRet (aBlt fTuple (lCons (oV (aBlt fSorted (lCons (oV (aLc (iSeq (oVar 3)) (bTup 2 (bCons (bNm 5) (bCons (bNm 4) bNil))) (tAndA (tV (a2 vIsNot (oVar 5) (oV (aC .none)))) (tV (a3 vLt vLe (oVar 1) (oVar 5) (oVar 2)))) (aTup (lCons (oV (aVar 5)) (lCons (oV (aVar 4)) lNil))) [5, 4])) lNil))) lNil)))))
def F_line_changes (cc : Nat → Addr) : AF := fnF [.dat, .dat, .dat] 3 (b_line_changes cc (F_check_span cc) F_all_pairs F_change_of)
theorem okA_line_changes {P : Program} {w : World} {K : PySem.W.Frag} {mg : Str → Option Value} {base : Heap} {f f_check_span f_all_pairs f_change_of : Addr} {fd d_check_span d_all_pairs d_change_of : FuncData} {cc : Nat → Addr} {m : Nat} (F : Fun K "line_changes" "line_changes" s_line_changes f fd)
    (k_check_span : PySem.W.keepIn K (.ref f_check_span) = true) (b_check_span : Binds K d_check_span ["low", "high"] []) (g_check_span : mg "check_span" = some (.ref f_check_span)) (G_check_span : FnOk P w K mg base (L2.CX P w) m f_check_span d_check_span ["low", "high"] (spA [.dat, .dat] (F_check_span cc)))
    (k_all_pairs : PySem.W.keepIn K (.ref f_all_pairs) = true) (b_all_pairs : Binds K d_all_pairs ["dishes"] []) (g_all_pairs : mg "all_pairs" = some (.ref f_all_pairs)) (G_all_pairs : FnOk P w K mg base CX0 m f_all_pairs d_all_pairs ["dishes"] (spA [.dat] F_all_pairs))
    (k_change_of : PySem.W.keepIn K (.ref f_change_of) = true) (b_change_of : Binds K d_change_of ["line", "pair"] []) (g_change_of : mg "change_of" = some (.ref f_change_of)) (G_change_of : FnOk P w K mg base CX0 m f_change_of d_change_of ["line", "pair"] (spA [.dat, .dat] F_change_of))
    (m_len : mg "len" = none) (m_tuple : mg "tuple" = none) (m_sorted : mg "sorted" = none) : FnOk P w K mg base (L2.CX P w) (m + 1) f fd ["line", "low", "high"] (spA [.dat, .dat, .dat] (F_line_changes cc)) :=
  fn_okX F scA_line_changes rfl rfl fun cdv A outer s H E hr =>
    (as_cons (as_expr (ae_callX G_check_span (by decide) hr (by rfl) g_check_span k_check_span b_check_span (takes_of rfl rfl rfl rfl) (la_cons (ao_V (ae_var 1 (pv 1))) (la_cons (ao_V (ae_var 2 (pv 2))) la_nil))))
      (PSs.nox (as_cons (as_setLc 3 rfl rfl (sw_true rfl rfl rfl (by decide +kernel)) (own := [("pair", 4)]) (by rfl) scA_line_changes.nd (ai_seq (ao_V (ae_call0 G_all_pairs (by decide) hr (by rfl) g_all_pairs k_all_pairs b_all_pairs (la_cons (ao_V (ae_blt dc_len (pe_callB call_len (by rfl) m_len PySem.boot_len (la_cons (ao_var 0 (pv 0)) la_nil)))) la_nil)))) (blkOk_by (own := [("pair", 4)]) (N := ["line", "low", "high", "changes", "pair", "t"]) (sc := defScope s_line_changes) (by decide +kernel)) (fun _ _ _ _ _ => (ag_name (pg_name (i := 4) scA_line_changes.nd rfl (Or.inl rfl)))) (fun _ _ _ _ _ => ts_nil) (fun _ _ _ _ _ => (ae_tup (la_cons (ao_V (ae_call0 G_change_of (by decide) hr (by rfl) g_change_of k_change_of b_change_of (la_cons (ao_V (ae_var 0 (pv 0))) (la_cons (ao_V (ae_var 4 (pv 4))) la_nil)))) (la_cons (ao_V (ae_var 4 (pv 4))) la_nil)))))
      (as_one (as_ret (ae_blt dc_tuple (pe_callTy call_tupleF (by rfl) m_tuple (by decide +kernel) (la_cons (ao_V (ae_F (af_blt 0 dc_sorted (pe_callB (cr_sortedA (u65 hr)) (by rfl) m_sorted (by decide +kernel) (la_cons (ao_V (ae_F (af_lc 0 (own := [("t", 5), ("pair", 4)]) (by rfl) scA_line_changes.nd (ai_seq (ao_var 3 (pv 3))) (blkOk_by (own := [("t", 5), ("pair", 4)]) (N := ["line", "low", "high", "changes", "pair", "t"]) (sc := defScope s_line_changes) (by decide +kernel)) (fun _ _ _ _ _ => (ag_tup (by rfl) (ags_cons (ag_name (pg_name (i := 5) scA_line_changes.nd rfl (Or.inl rfl))) (ags_cons (ag_name (pg_name (i := 4) scA_line_changes.nd rfl (Or.inl rfl))) ags_nil)))) (fun _ _ _ _ _ => (ts_one (PW.pt (aw_and (cmp_test dop_isNot op_isNotA (ao_var 5 (pv 5)) (ao_V ae_non) (by rfl)) (aw_and1 (at_chain dop_lt dop_le (op_ltA hr.units) (op_leA hr.units) (ao_var 1 (pv 1)) (ao_var 5 (pv 5)) (ao_var 2 (pv 2)))))))) (fun _ _ _ _ _ => (ae_tup (la_cons (ao_V (ae_var 5 (pv 5))) (la_cons (ao_V (ae_var 4 (pv 4))) la_nil))))))) la_nil))))) la_nil))))))))

theorem scA_line_distance : FnScope ["line", "low", "high"] ["line", "low", "high"] (defScope s_line_distance) := ⟨rfl, rfl, rfl, by decide +kernel, rfl, by decide +kernel, by decide +kernel⟩
def b_line_distance (cc : Nat → Addr) (P_line_changes : AF) : AST := (sRet (aBlt fLen (lCons (oV (aCall0 [.dat, .dat, .dat] P_line_changes (lCons (oV (aVar 0)) (lCons (oV (aVar 1)) (lCons (oV (aVar 2)) lNil))))) lNil)))
def F_line_distance (cc : Nat → Addr) : AF := fnF [.dat, .dat, .dat] 0 (b_line_distance cc (F_line_changes cc))
theorem okA_line_distance {P : Program} {w : World} {K : PySem.W.Frag} {mg : Str → Option Value} {base : Heap} {f f_line_changes : Addr} {fd d_line_changes : FuncData} {cc : Nat → Addr} {m : Nat} (F : Fun K "line_distance" "line_distance" s_line_distance f fd)
    (k_line_changes : PySem.W.keepIn K (.ref f_line_changes) = true) (b_line_changes : Binds K d_line_changes ["line", "low", "high"] []) (g_line_changes : mg "line_changes" = some (.ref f_line_changes)) (G_line_changes : FnOk P w K mg base (L2.CX P w) m f_line_changes d_line_changes ["line", "low", "high"] (spA [.dat, .dat, .dat] (F_line_changes cc)))
    (m_len : mg "len" = none) : FnOk P w K mg base (L2.CX P w) (m + 1) f fd ["line", "low", "high"] (spA [.dat, .dat, .dat] (F_line_distance cc)) :=
  fn_okX F scA_line_distance rfl rfl fun cdv A outer s H E hr =>
    (as_one (as_ret (ae_blt dc_len (pe_callB call_len (by rfl) m_len PySem.boot_len (la_cons (ao_V (ae_callX G_line_changes (by decide) hr (by rfl) g_line_changes k_line_changes b_line_changes (takes_of rfl rfl rfl rfl) (la_cons (ao_V (ae_var 0 (pv 0))) (la_cons (ao_V (ae_var 1 (pv 1))) (la_cons (ao_V (ae_var 2 (pv 2))) la_nil))))) la_nil)))))

theorem scA__law_one : FnScope ["_law_deck_here", "_law_some"] ["_law_deck_here", "_law_some"] (defScope s__law_one) := ⟨rfl, rfl, rfl, by decide +kernel, rfl, by decide +kernel, by decide +kernel⟩
def b__law_one (P__law_next : AF) : AST := (sRet (a2 vIx (oVar 1) (oV (aCall [.deck, .dat] (calm P__law_next) (lCons (oVar 0) (lCons (oV (aBlt fLen (lCons (oVar 1) lNil))) lNil))))))
def F__law_one : AF := fnF [.deck, .bor] 0 (b__law_one F__law_next)
theorem okA__law_one {P : Program} {w : World} {K : PySem.W.Frag} {mg : Str → Option Value} {base : Heap} {f f__law_next : Addr} {fd d__law_next : FuncData} {m : Nat} (F : Fun K "_law_one" "_law_one" s__law_one f fd)
    (k__law_next : PySem.W.keepIn K (.ref f__law_next) = true) (b__law_next : Binds K d__law_next ["_law_deck_here", "_law_many"] []) (g__law_next : mg "_law_next" = some (.ref f__law_next)) (G__law_next : FnOk P w K mg base CX0 m f__law_next d__law_next ["_law_deck_here", "_law_many"] (spA [.deck, .dat] F__law_next))
    (m_len : mg "len" = none) : FnOk P w K mg base CX0 (m + 1) f fd ["_law_deck_here", "_law_some"] (spA [.deck, .bor] F__law_one) :=
  fn_ok F scA__law_one rfl rfl fun cdv A outer s H E hr =>
    (as_one (as_ret (ae_ix (ao_var 1 (pv 1)) (ao_V (ae_call G__law_next hr (by rfl) g__law_next k__law_next b__law_next (la_cons (ao_var 0 (pv 0)) (la_cons (ao_V (ae_blt dc_len (pe_callB call_len (by rfl) m_len PySem.boot_len (la_cons (ao_var 1 (pv 1)) la_nil)))) la_nil)))) (fun _ _ => rfl))))

theorem scA__law_same : FnScope ["_law_found", "_law_due_here", "_law_k"] ["_law_found", "_law_due_here"] (defScope s__law_same) := ⟨rfl, rfl, rfl, by decide +kernel, rfl, by decide +kernel, by decide +kernel⟩
def b__law_same (R_ : AF) : AST := (sSeq (sIf (tTruA (oV (aIsi2 "tuple" "list" (oVar 1))))
    (sSeq (sIf (tV (a2 vNe (oV (aIsi "tuple" (oVar 0))) (oV (aIsi "tuple" (oVar 1)))))
    (sRet (aC (.bool false)))
    sNx)
    (sSeq (sIf (tV (a2 vNe (oV (aIsi "list" (oVar 0))) (oV (aIsi "list" (oVar 1)))))
    (sRet (aC (.bool false)))
    sNx)
    (sSeq (sIf (tV (a2 vNe (oV (aBlt fLen (lCons (oVar 0) lNil))) (oV (aBlt fLen (lCons (oVar 1) lNil)))))
    (sRet (aC (.bool false)))
    sNx)
    (sRet (a2 vEqE (oV (aLc (iRange1 (lCons (oV (aBlt fLen (lCons (oVar 1) lNil))) lNil)) (bNm 2) (tNotA (tTruA (oV (aCall0 [.dat, .dat] (calm R_) (lCons (oV (a2 vIx (oVar 0) (oVar 2))) (lCons (oV (a2 vIx (oVar 1) (oVar 2))) lNil)))))) (aVar 2) [2])) (oV (aLst lNil)))))))
    sNx)
    (sSeq (sIf (tTruA (oV (aIsi "dict" (oVar 1))))
    (sRet (aAnd (aIsi "dict" (oVar 0)) (a2 vEq (oVar 0) (oVar 1))))
    sNx)
    (sSeq (sIf (tV (a2 vIs (oVar 1) (oV (aC .none))))
    (sRet (a2 vIs (oVar 0) (oV (aC .none))))
    sNx)
    (sSeq (sIf (tTruA (oV (aIsi "str" (oVar 1))))
    (sRet (aAnd (aIsi "str" (oVar 0)) (a2 vEq (oVar 0) (oVar 1))))
    sNx)
    (sRet (aAnd (aIsi "int" (oVar 0)) (aAnd (a2 vEq (oV (aIsi "bool" (oVar 0))) (oV (aIsi "bool" (oVar 1)))) (a2 vEq (oVar 0) (oVar 1)))))))))
def F__law_same : Nat → AF
  | 0 => fun _ _ _ _ => False
  | m + 1 => fnF [.dat, .dat] 1 (b__law_same (F__law_same m))
theorem okA__law_same {P : Program} {w : World} {K : PySem.W.Frag} {mg : Str → Option Value} {base : Heap} {f  : Addr} {fd  : FuncData} (F : Fun K "_law_same" "_law_same" s__law_same f fd)
    (k__law_same : PySem.W.keepIn K (.ref f) = true) (b__law_same : Binds K fd ["_law_found", "_law_due_here"] []) (g__law_same : mg "_law_same" = some (.ref f)) (m_isinstance : mg "isinstance" = none) (m_tuple : mg "tuple" = none) (m_list : mg "list" = none) (m_len : mg "len" = none) (m_range : mg "range" = none) (m_dict : mg "dict" = none) (m_str : mg "str" = none) (m_bool : mg "bool" = none) (m_int : mg "int" = none) : ∀ m, FnOk P w K mg base CX0 m f fd ["_law_found", "_law_due_here"] (spA [.dat, .dat] (F__law_same m))
  | 0 => fn_never
  | m + 1 => by
    have G__law_same := okA__law_same (P := P) (w := w) (base := base) F k__law_same b__law_same g__law_same m_isinstance m_tuple m_list m_len m_range m_dict m_str m_bool m_int m
    exact fn_ok F scA__law_same rfl rfl fun cdv A outer s H E hr =>
    (as_cons (as_if (at_tru (ao_V (ae_isi2 (T := "tuple") (U := "list") (by rfl) m_isinstance (ao_var 1 (pv 1)) (pe_tup (pa_cons (pe_bltn (v := .ty "tuple") (by rfl) m_tuple (by decide +kernel) rfl) (pa_cons (pe_bltn (v := .ty "list") (by rfl) m_list (by decide +kernel) rfl) pa_nil)))))) (as_cons (as_if (cmp_test dop_ne (op_neA hr.units) (ao_V (ae_isi (T := "tuple") (by rfl) m_isinstance (ao_var 0 (pv 0)) (pe_bltn (v := .ty "tuple") (by rfl) m_tuple (by decide +kernel) rfl))) (ao_V (ae_isi (T := "tuple") (by rfl) m_isinstance (ao_var 1 (pv 1)) (pe_bltn (v := .ty "tuple") (by rfl) m_tuple (by decide +kernel) rfl))) (nomark _)) (as_one (as_ret ae_bl)) as_nil)
      (as_cons (as_if (cmp_test dop_ne (op_neA hr.units) (ao_V (ae_isi (T := "list") (by rfl) m_isinstance (ao_var 0 (pv 0)) (pe_bltn (v := .ty "list") (by rfl) m_list (by decide +kernel) rfl))) (ao_V (ae_isi (T := "list") (by rfl) m_isinstance (ao_var 1 (pv 1)) (pe_bltn (v := .ty "list") (by rfl) m_list (by decide +kernel) rfl))) (nomark _)) (as_one (as_ret ae_bl)) as_nil)
      (as_cons (as_if (cmp_test dop_ne (op_neA hr.units) (ao_V (ae_blt dc_len (pe_callB call_len (by rfl) m_len PySem.boot_len (la_cons (ao_var 0 (pv 0)) la_nil)))) (ao_V (ae_blt dc_len (pe_callB call_len (by rfl) m_len PySem.boot_len (la_cons (ao_var 1 (pv 1)) la_nil)))) (nomark _)) (as_one (as_ret ae_bl)) as_nil)
      (as_one (as_ret (ae_cmp dop_eqE (op_eqE hr.units) (ao_V (ae_F (af_lc 0 (own := [("_law_k", 2)]) (by rfl) scA__law_same.nd (ai_range1 (by rfl) m_range (la_cons (ao_V (ae_blt dc_len (pe_callB call_len (by rfl) m_len PySem.boot_len (la_cons (ao_var 1 (pv 1)) la_nil)))) la_nil)) (blkOk_by (own := [("_law_k", 2)]) (N := ["_law_found", "_law_due_here", "_law_k"]) (sc := defScope s__law_same) (by decide +kernel)) (fun _ _ _ _ _ => (ag_name (pg_name (i := 2) scA__law_same.nd rfl (Or.inl rfl)))) (fun _ _ _ _ _ => (ts_one (at_not (at_tru (ao_V (ae_call0 G__law_same (by decide) hr (by rfl) g__law_same k__law_same b__law_same (la_cons (ao_V (ae_ix (ao_var 0 (pv 0)) (ao_var 2 (pv 2)) (fun _ _ => rfl))) (la_cons (ao_V (ae_ix (ao_var 1 (pv 1)) (ao_var 2 (pv 2)) (fun _ _ => rfl))) la_nil)))))))) (fun _ _ _ _ _ => (ae_var 2 (pv 2)))))) (ao_V (ae_F (af_lst 0 la_nil))) (nomark _))))))) as_nil)
      (as_cons (as_if (at_tru (ao_V (ae_isi (T := "dict") (by rfl) m_isinstance (ao_var 1 (pv 1)) (pe_bltn (v := .ty "dict") (by rfl) m_dict (by decide +kernel) rfl)))) (as_one (as_ret (ae_and (ae_isi (T := "dict") (by rfl) m_isinstance (ao_var 0 (pv 0)) (pe_bltn (v := .ty "dict") (by rfl) m_dict (by decide +kernel) rfl)) (ae_one (ae_cmp dop_eq (op_eqA hr.units) (ao_var 0 (pv 0)) (ao_var 1 (pv 1)) (nomark _)))))) as_nil)
      (as_cons (as_if (cmp_test dop_is op_isA (ao_var 1 (pv 1)) (ao_V ae_non) (nomark _)) (as_one (as_ret (ae_cmp dop_is op_isA (ao_var 0 (pv 0)) (ao_V ae_non) (nomark _)))) as_nil)
      (as_cons (as_if (at_tru (ao_V (ae_isi (T := "str") (by rfl) m_isinstance (ao_var 1 (pv 1)) (pe_bltn (v := .ty "str") (by rfl) m_str (by decide +kernel) rfl)))) (as_one (as_ret (ae_and (ae_isi (T := "str") (by rfl) m_isinstance (ao_var 0 (pv 0)) (pe_bltn (v := .ty "str") (by rfl) m_str (by decide +kernel) rfl)) (ae_one (ae_cmp dop_eq (op_eqA hr.units) (ao_var 0 (pv 0)) (ao_var 1 (pv 1)) (nomark _)))))) as_nil)
      (as_one (as_ret (ae_and (ae_isi (T := "int") (by rfl) m_isinstance (ao_var 0 (pv 0)) (pe_bltn (v := .ty "int") (by rfl) m_int (by decide +kernel) rfl)) (ae_and (ae_cmp dop_eq (op_eqA hr.units) (ao_V (ae_isi (T := "bool") (by rfl) m_isinstance (ao_var 0 (pv 0)) (pe_bltn (v := .ty "bool") (by rfl) m_bool (by decide +kernel) rfl))) (ao_V (ae_isi (T := "bool") (by rfl) m_isinstance (ao_var 1 (pv 1)) (pe_bltn (v := .ty "bool") (by rfl) m_bool (by decide +kernel) rfl))) (nomark _)) (ae_one (ae_cmp dop_eq (op_eqA hr.units) (ao_var 0 (pv 0)) (ao_var 1 (pv 1)) (nomark _)))))))))))

theorem scA__law_pairs : FnScope ["_law_dishes", "_law_found", "_law_a", "_law_b"] ["_law_dishes"] (defScope s__law_pairs) := ⟨rfl, rfl, rfl, by decide +kernel, rfl, by decide +kernel, by decide +kernel⟩
def b__law_pairs : AST := (sSeq (sSetO 1 (aLst lNil))
    (sSeq (sFor (iRange1 (lCons (oVar 0) lNil)) (bNm 2)
    (sDrop (aMut mExt 1 (lCons (oV (aLc (iRange2 (lCons (oV (a2 vAdd (oVar 2) (oV (aC (.int 1))))) (lCons (oVar 0) lNil))) (bNm 3) tYesA (aTup (lCons (oV (aVar 2)) (lCons (oV (aVar 3)) lNil))) [3])) lNil))))
    (sRetV 1)))
def F__law_pairs : AF := fnF [.dat] 3 (b__law_pairs)
theorem okA__law_pairs {P : Program} {w : World} {K : PySem.W.Frag} {mg : Str → Option Value} {base : Heap} {f  : Addr} {fd  : FuncData} {m : Nat} (F : Fun K "_law_pairs" "_law_pairs" s__law_pairs f fd)
    (m_range : mg "range" = none) : FnOk P w K mg base CX0 (m + 1) f fd ["_law_dishes"] (spA [.dat] F__law_pairs) :=
  fn_ok F scA__law_pairs rfl rfl fun cdv A outer s H E hr =>
    (as_cons (as_setO (i := 1) scA__law_pairs.nd rfl (.inl rfl) (af_lst 1 la_nil))
      (as_cons (as_for PassesOwn.never rfl (ai_range1 (by rfl) m_range (la_cons (ao_var 0 (pv 0)) la_nil)) (ag_name (pg_name (i := 2) scA__law_pairs.nd rfl (.inr rfl))) (as_one (as_expr (ae_mut dm_ext (pe_bm PySem.F.plainAttrs_list PySem.F.slot_list_extend PySem.F.type_list_extend mt_extend (pv 1) (la_cons (ao_V (ae_F (af_lc 0 (own := [("_law_b", 3)]) (by rfl) scA__law_pairs.nd (ai_range2 (by rfl) m_range (la_cons (ao_V (ae_op dop_add op_addA (ao_var 2 (pv 2)) (ao_V ae_int))) (la_cons (ao_var 0 (pv 0)) la_nil))) (blkOk_by (own := [("_law_b", 3)]) (N := ["_law_dishes", "_law_found", "_law_a", "_law_b"]) (sc := defScope s__law_pairs) (by decide +kernel)) (fun _ _ _ _ _ => (ag_name (pg_name (i := 3) scA__law_pairs.nd rfl (Or.inl rfl)))) (fun _ _ _ _ _ => ts_nil) (fun _ _ _ _ _ => (ae_tup (la_cons (ao_V (ae_var 2 (pv 2))) (la_cons (ao_V (ae_var 3 (pv 3))) la_nil))))))) la_nil))))))
      (as_one (as_retV 1 (pv 1)))))

theorem scA__law_unlike : FnScope ["_law_one_here", "_law_other", "_law_found", "_law_a", "_law_b", "_law_first"] ["_law_one_here", "_law_other"] (defScope s__law_unlike) := ⟨rfl, rfl, rfl, by decide +kernel, rfl, by decide +kernel, by decide +kernel⟩
def b__law_unlike (P__law_pairs : AF) : AST := (sSeq (sSetO 2 (aLst lNil))
    (sSeq (sFor (iSeq (oV (aCall0 [.dat] (calm P__law_pairs) (lCons (oV (aBlt fLen (lCons (oVar 0) lNil))) lNil)))) (bTup 2 (bCons (bNm 3) (bCons (bNm 4) bNil)))
    (sSeq (sSet 5 (a2 vLt (oV (aIdx (oVar 0) (lCons (oVar 3) lNil))) (oV (aIdx (oVar 0) (lCons (oVar 4) lNil)))))
    (sIf (tV (a2 vNe (oVar 5) (oV (a2 vLt (oV (aIdx (oVar 1) (lCons (oVar 3) lNil))) (oV (aIdx (oVar 1) (lCons (oVar 4) lNil)))))))
    (sDrop (aMut mApp 2 (lCons (oV (aTup (lCons (oV (aVar 3)) (lCons (oV (aVar 4)) lNil)))) lNil)))
    sNx)))
    (sRetV 2)))
def F__law_unlike : AF := fnF [.dat, .dat] 4 (b__law_unlike F__law_pairs)
theorem okA__law_unlike {P : Program} {w : World} {K : PySem.W.Frag} {mg : Str → Option Value} {base : Heap} {f f__law_pairs : Addr} {fd d__law_pairs : FuncData} {m : Nat} (F : Fun K "_law_unlike" "_law_unlike" s__law_unlike f fd)
    (k__law_pairs : PySem.W.keepIn K (.ref f__law_pairs) = true) (b__law_pairs : Binds K d__law_pairs ["_law_dishes"] []) (g__law_pairs : mg "_law_pairs" = some (.ref f__law_pairs)) (G__law_pairs : FnOk P w K mg base CX0 m f__law_pairs d__law_pairs ["_law_dishes"] (spA [.dat] F__law_pairs))
    (m_len : mg "len" = none) : FnOk P w K mg base CX0 (m + 1) f fd ["_law_one_here", "_law_other"] (spA [.dat, .dat] F__law_unlike) :=
  fn_ok F scA__law_unlike rfl rfl fun cdv A outer s H E hr =>
    (as_cons (as_setO (i := 2) scA__law_unlike.nd rfl (.inl rfl) (af_lst 2 la_nil))
      (as_cons (as_for PassesOwn.never rfl (ai_seq (ao_V (ae_call0 G__law_pairs (by decide) hr (by rfl) g__law_pairs k__law_pairs b__law_pairs (la_cons (ao_V (ae_blt dc_len (pe_callB call_len (by rfl) m_len PySem.boot_len (la_cons (ao_var 0 (pv 0)) la_nil)))) la_nil)))) (ag_tup (by rfl) (ags_cons (ag_name (pg_name (i := 3) scA__law_unlike.nd rfl (.inl rfl))) (ags_cons (ag_name (pg_name (i := 4) scA__law_unlike.nd rfl (.inl rfl))) ags_nil))) (as_cons (as_set (i := 5) scA__law_unlike.nd rfl (.inl rfl) (ae_cmp dop_lt (op_ltA hr.units) (ao_V (ae_idx (pe_bmT (r := rTupIdx K) PySem.F.slot_tuple_index PySem.F.type_tuple_index mt_tupIdx (ao_var 0 (pv 0)) (la_cons (ao_var 3 (pv 3)) la_nil)))) (ao_V (ae_idx (pe_bmT (r := rTupIdx K) PySem.F.slot_tuple_index PySem.F.type_tuple_index mt_tupIdx (ao_var 0 (pv 0)) (la_cons (ao_var 4 (pv 4)) la_nil)))) (nomark _)))
      (as_one (as_if (cmp_test dop_ne (op_neA hr.units) (ao_var 5 (pv 5)) (ao_V (ae_cmp dop_lt (op_ltA hr.units) (ao_V (ae_idx (pe_bmT (r := rTupIdx K) PySem.F.slot_tuple_index PySem.F.type_tuple_index mt_tupIdx (ao_var 1 (pv 1)) (la_cons (ao_var 3 (pv 3)) la_nil)))) (ao_V (ae_idx (pe_bmT (r := rTupIdx K) PySem.F.slot_tuple_index PySem.F.type_tuple_index mt_tupIdx (ao_var 1 (pv 1)) (la_cons (ao_var 4 (pv 4)) la_nil)))) (nomark _))) (nomark _)) (as_one (as_expr (ae_mut dm_app (pe_bm PySem.F.plainAttrs_list PySem.F.slot_list_append PySem.F.type_list_append mt_append (pv 2) (la_cons (ao_V (ae_tup (la_cons (ao_V (ae_var 3 (pv 3))) (la_cons (ao_V (ae_var 4 (pv 4))) la_nil)))) la_nil))))) as_nil))))
      (as_one (as_retV 2 (pv 2)))))

theorem scA__law_line : FnScope ["_law_deck_here", "_law_dishes", "_law_high", "_law_steep", "_law_found", "_law_dish", "_law_height", "_law_slope"] ["_law_deck_here", "_law_dishes"] (defScope s__law_line) := ⟨rfl, rfl, rfl, by decide +kernel, rfl, by decide +kernel, by decide +kernel⟩
def b__law_line (P__law_one : AF) (P__law_next : AF) : AST := (sSeq (sAsg (aCall [.deck, .bor] (calm P__law_one) (lCons (oVar 0) (lCons (oV (aLst (lCons (oV (aTup (lCons (oV (aC (.int 6))) (lCons (oV (aC (.int 3))) lNil)))) (lCons (oV (aTup (lCons (oV (aC (.int 40))) (lCons (oV (aC (.int 9))) lNil)))) (lCons (oV (aTup (lCons (oV (a2 vPow (oV (aC (.int 10))) (oV (aC (.int 6))))) (lCons (oV (aC (.int 10))) lNil)))) (lCons (oV (aTup (lCons (oV (a2 vPow (oV (aC (.int 10))) (oV (aC (.int 12))))) (lCons (oV (aC (.int 1000))) lNil)))) (lCons (oV (aTup (lCons (oV (a2 vPow (oV (aC (.int 10))) (oV (aC (.int 12))))) (lCons (oV (a2 vPow (oV (aC (.int 10))) (oV (aC (.int 12))))) lNil)))) lNil))))))) lNil))) (bTup 2 (bCons (bNm 2) (bCons (bNm 3) bNil))))
    (sSeq (sSetO 4 (aLst lNil))
    (sSeq (sFor (iRange1 (lCons (oV (a2 vAdd (oV (aC (.int 1))) (oV (aCall [.deck, .dat] (calm P__law_next) (lCons (oVar 0) (lCons (oV (aVar 1)) lNil)))))) lNil)) (bNm 5)
    (sSeq (sPar 6 7 (lCons (oV (a2 vSub (oV (aCall [.deck, .dat] (calm P__law_next) (lCons (oVar 0) (lCons (oV (a2 vAdd (oV (a2 vMul (oV (aC (.int 2))) (oVar 2))) (oV (aC (.int 1))))) lNil)))) (oVar 2))) (lCons (oV (a2 vSub (oV (aCall [.deck, .dat] (calm P__law_next) (lCons (oVar 0) (lCons (oV (a2 vAdd (oV (a2 vMul (oV (aC (.int 2))) (oVar 3))) (oV (aC (.int 1))))) lNil)))) (oVar 3))) lNil)))
    (sSeq (sIf (tAndA (tV (a2 vNeE (oVar 4) (oV (aLst lNil)))) (tV (a2 vEq (oV (aCall [.deck, .dat] (calm P__law_next) (lCons (oVar 0) (lCons (oV (aC (.int 6))) lNil)))) (oV (aC (.int 0))))))
    (sSet 7 (a2 vIx (oV (a2 vIx (oVar 4) (oV (aNeg (oV (aC (.int 1))))))) (oV (aC (.int 1)))))
    sNx)
    (sSeq (sIf (tAndA (tV (a2 vNeE (oVar 4) (oV (aLst lNil)))) (tV (a2 vEq (oV (aCall [.deck, .dat] (calm P__law_next) (lCons (oVar 0) (lCons (oV (aC (.int 8))) lNil)))) (oV (aC (.int 0))))))
    (sSet 6 (a2 vIx (oV (a2 vIx (oVar 4) (oV (aNeg (oV (aC (.int 1))))))) (oV (aC (.int 0)))))
    sNx)
    (sDrop (aMut mApp 4 (lCons (oV (aTup (lCons (oV (aVar 6)) (lCons (oV (aVar 7)) lNil)))) lNil)))))))
    (sRet (aBlt fTuple (lCons (oVar 4) lNil))))))
def F__law_line : AF := fnF [.deck, .dat] 6 (b__law_line F__law_one F__law_next)
theorem okA__law_line {P : Program} {w : World} {K : PySem.W.Frag} {mg : Str → Option Value} {base : Heap} {f f__law_one f__law_next : Addr} {fd d__law_one d__law_next : FuncData} {m : Nat} (F : Fun K "_law_line" "_law_line" s__law_line f fd)
    (k__law_one : PySem.W.keepIn K (.ref f__law_one) = true) (b__law_one : Binds K d__law_one ["_law_deck_here", "_law_some"] []) (g__law_one : mg "_law_one" = some (.ref f__law_one)) (G__law_one : FnOk P w K mg base CX0 m f__law_one d__law_one ["_law_deck_here", "_law_some"] (spA [.deck, .bor] F__law_one))
    (k__law_next : PySem.W.keepIn K (.ref f__law_next) = true) (b__law_next : Binds K d__law_next ["_law_deck_here", "_law_many"] []) (g__law_next : mg "_law_next" = some (.ref f__law_next)) (G__law_next : FnOk P w K mg base CX0 m f__law_next d__law_next ["_law_deck_here", "_law_many"] (spA [.deck, .dat] F__law_next))
    (m_range : mg "range" = none) (m_tuple : mg "tuple" = none) : FnOk P w K mg base CX0 (m + 1) f fd ["_law_deck_here", "_law_dishes"] (spA [.deck, .dat] F__law_line) :=
  fn_ok F scA__law_line rfl rfl fun cdv A outer s H E hr =>
    (as_cons (as_asg (ae_call G__law_one hr (by rfl) g__law_one k__law_one b__law_one (la_cons (ao_var 0 (pv 0)) (la_cons (ao_V (ae_F (af_lst 0 (la_cons (ao_V (ae_tup (la_cons (ao_V ae_int) (la_cons (ao_V ae_int) la_nil)))) (la_cons (ao_V (ae_tup (la_cons (ao_V ae_int) (la_cons (ao_V ae_int) la_nil)))) (la_cons (ao_V (ae_tup (la_cons (ao_V (ae_op dop_pow op_pow (ao_V ae_int) (ao_V ae_int))) (la_cons (ao_V ae_int) la_nil)))) (la_cons (ao_V (ae_tup (la_cons (ao_V (ae_op dop_pow op_pow (ao_V ae_int) (ao_V ae_int))) (la_cons (ao_V ae_int) la_nil)))) (la_cons (ao_V (ae_tup (la_cons (ao_V (ae_op dop_pow op_pow (ao_V ae_int) (ao_V ae_int))) (la_cons (ao_V (ae_op dop_pow op_pow (ao_V ae_int) (ao_V ae_int))) la_nil)))) la_nil)))))))) la_nil))) (ag_tup (by rfl) (ags_cons (ag_name (pg_name (i := 2) scA__law_line.nd rfl (.inl rfl))) (ags_cons (ag_name (pg_name (i := 3) scA__law_line.nd rfl (.inl rfl))) ags_nil))))
      (as_cons (as_setO (i := 4) scA__law_line.nd rfl (.inl rfl) (af_lst 4 la_nil))
      (as_cons (as_for PassesOwn.never rfl (ai_range1 (by rfl) m_range (la_cons (ao_V (ae_op dop_add op_addA (ao_V ae_int) (ao_V (ae_call G__law_next hr (by rfl) g__law_next k__law_next b__law_next (la_cons (ao_var 0 (pv 0)) (la_cons (ao_V (ae_var 1 (pv 1))) la_nil)))))) la_nil)) (ag_name (pg_name (i := 5) scA__law_line.nd rfl (.inl rfl))) (as_cons (as_par (ps_par (i := 6) (j := 7) (by rfl) scA__law_line.nd rfl rfl (by decide) rfl rfl (la_cons (ao_V (ae_op dop_sub op_subA (ao_V (ae_call G__law_next hr (by rfl) g__law_next k__law_next b__law_next (la_cons (ao_var 0 (pv 0)) (la_cons (ao_V (ae_op dop_add op_addA (ao_V (ae_op dop_mul op_mul (ao_V ae_int) (ao_var 2 (pv 2)))) (ao_V ae_int))) la_nil)))) (ao_var 2 (pv 2)))) (la_cons (ao_V (ae_op dop_sub op_subA (ao_V (ae_call G__law_next hr (by rfl) g__law_next k__law_next b__law_next (la_cons (ao_var 0 (pv 0)) (la_cons (ao_V (ae_op dop_add op_addA (ao_V (ae_op dop_mul op_mul (ao_V ae_int) (ao_var 3 (pv 3)))) (ao_V ae_int))) la_nil)))) (ao_var 3 (pv 3)))) la_nil)) (by rfl)))
      (as_cons (as_if (PW.pt (aw_and (cmp_test dop_neE (op_neE hr.units) (ao_var 4 (pv 4)) (ao_V (ae_F (af_lst 0 la_nil))) (nomark _)) (aw_and1 (cmp_test dop_eq (op_eqA hr.units) (ao_V (ae_call G__law_next hr (by rfl) g__law_next k__law_next b__law_next (la_cons (ao_var 0 (pv 0)) (la_cons (ao_V ae_int) la_nil)))) (ao_V ae_int) (nomark _))))) (as_one (as_set (i := 7) scA__law_line.nd rfl (.inl rfl) (ae_ix (ao_V (ae_ix (ao_var 4 (pv 4)) (ao_V (ae_neg (ao_V ae_int))) (fun _ _ => rfl))) (ao_V ae_int) (fun _ _ => rfl)))) as_nil)
      (as_cons (as_if (PW.pt (aw_and (cmp_test dop_neE (op_neE hr.units) (ao_var 4 (pv 4)) (ao_V (ae_F (af_lst 0 la_nil))) (nomark _)) (aw_and1 (cmp_test dop_eq (op_eqA hr.units) (ao_V (ae_call G__law_next hr (by rfl) g__law_next k__law_next b__law_next (la_cons (ao_var 0 (pv 0)) (la_cons (ao_V ae_int) la_nil)))) (ao_V ae_int) (nomark _))))) (as_one (as_set (i := 6) scA__law_line.nd rfl (.inl rfl) (ae_ix (ao_V (ae_ix (ao_var 4 (pv 4)) (ao_V (ae_neg (ao_V ae_int))) (fun _ _ => rfl))) (ao_V ae_int) (fun _ _ => rfl)))) as_nil)
      (as_one (as_expr (ae_mut dm_app (pe_bm PySem.F.plainAttrs_list PySem.F.slot_list_append PySem.F.type_list_append mt_append (pv 4) (la_cons (ao_V (ae_tup (la_cons (ao_V (ae_var 6 (pv 6))) (la_cons (ao_V (ae_var 7 (pv 7))) la_nil)))) la_nil)))))))))
      (as_one (as_ret (ae_blt dc_tuple (pe_callTy call_tupleF (by rfl) m_tuple (by decide +kernel) (la_cons (ao_var 4 (pv 4)) la_nil))))))))

theorem scA__law_meeting : FnScope ["_law_deck_here", "_law_line_here", "_law_one_here", "_law_other", "_law_place"] ["_law_deck_here", "_law_line_here"] (defScope s__law_meeting) := ⟨rfl, rfl, rfl, by decide +kernel, rfl, by decide +kernel, by decide +kernel⟩
def b__law_meeting (P__law_one : AF) (P__law_next : AF) : AST := (sSeq (sPar 2 3 (lCons (oV (aCall [.deck, .bor] (calm P__law_one) (lCons (oVar 0) (lCons (oVar 1) lNil)))) (lCons (oV (aCall [.deck, .bor] (calm P__law_one) (lCons (oVar 0) (lCons (oVar 1) lNil)))) lNil)))
    (sSeq (sIf (tOrA (tV (a2 vEq (oV (a2 vIx (oVar 2) (oV (aC (.int 1))))) (oV (a2 vIx (oVar 3) (oV (aC (.int 1))))))) (tV (a2 vEq (oV (aCall [.deck, .dat] (calm P__law_next) (lCons (oVar 0) (lCons (oV (aC (.int 4))) lNil)))) (oV (aC (.int 0))))))
    (sRet (aCall [.deck, .dat] (calm P__law_next) (lCons (oVar 0) (lCons (oV (a2 vAdd (oV (a2 vPow (oV (aC (.int 10))) (oV (aC (.int 12))))) (oV (aC (.int 1))))) lNil))))
    sNx)
    (sSeq (sSet 4 (a2 vDivF (oV (a2 vSub (oV (a2 vIx (oVar 3) (oV (aC (.int 0))))) (oV (a2 vIx (oVar 2) (oV (aC (.int 0))))))) (oV (a2 vSub (oV (a2 vIx (oVar 2) (oV (aC (.int 1))))) (oV (a2 vIx (oVar 3) (oV (aC (.int 1)))))))))
    (sRet (aBlt fMax2 (lCons (oV (aC (.int 0))) (lCons (oV (aBlt fMin2B (lCons (oV (a2 vPow (oV (aC (.int 10))) (oV (aC (.int 12))))) (lCons (oV (a2 vSub (oV (a2 vAdd (oVar 4) (oV (aCall [.deck, .dat] (calm P__law_next) (lCons (oVar 0) (lCons (oV (aC (.int 3))) lNil)))))) (oV (aC (.int 1))))) lNil)))) lNil)))))))
def F__law_meeting : AF := fnF [.deck, .dat] 3 (b__law_meeting F__law_one F__law_next)
theorem okA__law_meeting {P : Program} {w : World} {K : PySem.W.Frag} {mg : Str → Option Value} {base : Heap} {f f__law_one f__law_next : Addr} {fd d__law_one d__law_next : FuncData} {m : Nat} (F : Fun K "_law_meeting" "_law_meeting" s__law_meeting f fd)
    (k__law_one : PySem.W.keepIn K (.ref f__law_one) = true) (b__law_one : Binds K d__law_one ["_law_deck_here", "_law_some"] []) (g__law_one : mg "_law_one" = some (.ref f__law_one)) (G__law_one : FnOk P w K mg base CX0 m f__law_one d__law_one ["_law_deck_here", "_law_some"] (spA [.deck, .bor] F__law_one))
    (k__law_next : PySem.W.keepIn K (.ref f__law_next) = true) (b__law_next : Binds K d__law_next ["_law_deck_here", "_law_many"] []) (g__law_next : mg "_law_next" = some (.ref f__law_next)) (G__law_next : FnOk P w K mg base CX0 m f__law_next d__law_next ["_law_deck_here", "_law_many"] (spA [.deck, .dat] F__law_next))
    (m_max : mg "max" = none) (m_min : mg "min" = none) : FnOk P w K mg base CX0 (m + 1) f fd ["_law_deck_here", "_law_line_here"] (spA [.deck, .dat] F__law_meeting) :=
  fn_ok F scA__law_meeting rfl rfl fun cdv A outer s H E hr =>
    (as_cons (as_par (ps_par (i := 2) (j := 3) (by rfl) scA__law_meeting.nd rfl rfl (by decide) rfl rfl (la_cons (ao_V (ae_call G__law_one hr (by rfl) g__law_one k__law_one b__law_one (la_cons (ao_var 0 (pv 0)) (la_cons (ao_var 1 (pv 1)) la_nil)))) (la_cons (ao_V (ae_call G__law_one hr (by rfl) g__law_one k__law_one b__law_one (la_cons (ao_var 0 (pv 0)) (la_cons (ao_var 1 (pv 1)) la_nil)))) la_nil)) (by rfl)))
      (as_cons (as_if (PW.pt (aw_or (cmp_test dop_eq (op_eqA hr.units) (ao_V (ae_ix (ao_var 2 (pv 2)) (ao_V ae_int) (fun _ _ => rfl))) (ao_V (ae_ix (ao_var 3 (pv 3)) (ao_V ae_int) (fun _ _ => rfl))) (nomark _)) (aw_or1 (cmp_test dop_eq (op_eqA hr.units) (ao_V (ae_call G__law_next hr (by rfl) g__law_next k__law_next b__law_next (la_cons (ao_var 0 (pv 0)) (la_cons (ao_V ae_int) la_nil)))) (ao_V ae_int) (nomark _))))) (as_one (as_ret (ae_call G__law_next hr (by rfl) g__law_next k__law_next b__law_next (la_cons (ao_var 0 (pv 0)) (la_cons (ao_V (ae_op dop_add op_addA (ao_V (ae_op dop_pow op_pow (ao_V ae_int) (ao_V ae_int))) (ao_V ae_int))) la_nil))))) as_nil)
      (as_cons (as_set (i := 4) scA__law_meeting.nd rfl (.inl rfl) (ae_op dop_divF op_fdivF (ao_V (ae_op dop_sub op_subA (ao_V (ae_ix (ao_var 3 (pv 3)) (ao_V ae_int) (fun _ _ => rfl))) (ao_V (ae_ix (ao_var 2 (pv 2)) (ao_V ae_int) (fun _ _ => rfl))))) (ao_V (ae_op dop_sub op_subA (ao_V (ae_ix (ao_var 2 (pv 2)) (ao_V ae_int) (fun _ _ => rfl))) (ao_V (ae_ix (ao_var 3 (pv 3)) (ao_V ae_int) (fun _ _ => rfl)))))))
      (as_one (as_ret (ae_blt dc_max2 (pe_callB (call_max2 (by rfl)) (by rfl) m_max (by decide +kernel) (la_cons (ao_V ae_int) (la_cons (ao_V (ae_blt dc_min2B (pe_callB (cr_min2B (by rfl) (u65 hr)) (by rfl) m_min (by decide +kernel) (la_cons (ao_V (ae_op dop_pow op_pow (ao_V ae_int) (ao_V ae_int))) (la_cons (ao_V (ae_op dop_sub op_subA (ao_V (ae_op dop_add op_addA (ao_var 4 (pv 4)) (ao_V (ae_call G__law_next hr (by rfl) g__law_next k__law_next b__law_next (la_cons (ao_var 0 (pv 0)) (la_cons (ao_V ae_int) la_nil)))))) (ao_V ae_int))) la_nil))))) la_nil)))))))))

theorem scA__law_raised : FnScope ["_law_error", "_law_found"] ["_law_error"] (defScope s__law_raised) := ⟨rfl, rfl, rfl, by decide +kernel, rfl, by decide +kernel, by decide +kernel⟩
def b__law_raised (cc : Nat → Addr) : AST := (sSeq (sSetO 1 (aLst lNil))
    (sSeq (sIf (tTruA (oV (aIsX (cc 5) 0)))
    (sDrop (aMut mApp 1 (lCons (oV (aLst (lCons (oV (aC (.str "NoMenu"))) lNil))) lNil)))
    sNx)
    (sSeq (sIf (tTruA (oV (aIsX (cc 3) 0)))
    (sDrop (aMut mApp 1 (lCons (oV (aLst (lCons (oV (aC (.str "NotSeatable"))) (lCons (oV (aFldX "obstruction" 0)) lNil)))) lNil)))
    sNx)
    (sSeq (sIf (tTruA (oV (aIsX (cc 4) 0)))
    (sDrop (aMut mApp 1 (lCons (oV (aLst (lCons (oV (aC (.str "NoSeating"))) lNil))) lNil)))
    sNx)
    (sSeq (sIf (tTruA (oV (aIsX (cc 7) 0)))
    (sDrop (aMut mApp 1 (lCons (oV (aLst (lCons (oV (aC (.str "NoCuts"))) lNil))) lNil)))
    sNx)
    (sSeq (sIf (tTruA (oV (aIsX (cc 6) 0)))
    (sDrop (aMut mApp 1 (lCons (oV (aLst (lCons (oV (aC (.str "NoSize"))) (lCons (oV (aFldX "size" 0)) lNil)))) lNil)))
    sNx)
    (sSeq (sIf (tTruA (oV (aIsX (cc 2) 0)))
    (sDrop (aMut mApp 1 (lCons (oV (aLst (lCons (oV (aC (.str "NoDish"))) (lCons (oV (aFldX "dish" 0)) lNil)))) lNil)))
    sNx)
    (sSeq (sIf (tTruA (oV (aIsX (cc 0) 0)))
    (sDrop (aMut mApp 1 (lCons (oV (aLst (lCons (oV (aC (.str "NoRanking"))) (lCons (oV (aFldX "ranking" 0)) lNil)))) lNil)))
    sNx)
    (sSeq (sIf (tTruA (oV (aIsX (cc 1) 0)))
    (sDrop (aMut mApp 1 (lCons (oV (aLst (lCons (oV (aC (.str "NoTaster"))) (lCons (oV (aFldX "taster" 0)) lNil)))) lNil)))
    sNx)
    (sSeq (sIf (tTruA (oV (aIsX (cc 8) 0)))
    (sDrop (aMut mApp 1 (lCons (oV (aLst (lCons (oV (aC (.str "NoSpan"))) lNil))) lNil)))
    sNx)
    (sSeq (sIf (tTruA (oV (aIsX (cc 9) 0)))
    (sDrop (aMut mApp 1 (lCons (oV (aLst (lCons (oV (aC (.str "NoPlaces"))) lNil))) lNil)))
    sNx)
    (sRet (aIfE (tAndA (tV (a2 vEq (oV (aBlt fLen (lCons (oVar 1) lNil))) (oV (aC (.int 1))))) (tTruA (oV (aIsV 0)))) (a2 vIx (oVar 1) (oV (aC (.int 0)))) (aLst (lCons (oV (aC (.str "other"))) lNil)))))))))))))))
def F__law_raised (cc : Nat → Addr) : AFE := fnE 1 (b__law_raised cc)
theorem okA__law_raised {P : Program} {w : World} {K : PySem.W.Frag} {mg : Str → Option Value} {base : Heap} {f  : Addr} {fd  : FuncData} {cc : Nat → Addr} {cB : Addr} {m : Nat} (F : Fun K "_law_raised" "_law_raised" s__law_raised f fd)
    (XT : XTab K [cc 0, cc 1, cc 2, cc 3, cc 4, cc 5, cc 6, cc 7, cc 8, cc 9] cB) (gB : mg "TasteError" = some (.ref cB))
    (gC_NoMenu : mg "NoMenu" = some (.ref (cc 5)))
    (gC_NotSeatable : mg "NotSeatable" = some (.ref (cc 3)))
    (gC_NoSeating : mg "NoSeating" = some (.ref (cc 4)))
    (gC_NoCuts : mg "NoCuts" = some (.ref (cc 7)))
    (gC_NoSize : mg "NoSize" = some (.ref (cc 6)))
    (gC_NoDish : mg "NoDish" = some (.ref (cc 2)))
    (gC_NoRanking : mg "NoRanking" = some (.ref (cc 0)))
    (gC_NoTaster : mg "NoTaster" = some (.ref (cc 1)))
    (gC_NoSpan : mg "NoSpan" = some (.ref (cc 8)))
    (gC_NoPlaces : mg "NoPlaces" = some (.ref (cc 9)))
    (nf_obstruction : ∀ C ∈ [cc 0, cc 1, cc 2, cc 3, cc 4, cc 5, cc 6, cc 7, cc 8, cc 9], PySem.W.findIn K (.ref C) "obstruction" = some none)
    (nf_size : ∀ C ∈ [cc 0, cc 1, cc 2, cc 3, cc 4, cc 5, cc 6, cc 7, cc 8, cc 9], PySem.W.findIn K (.ref C) "size" = some none)
    (nf_dish : ∀ C ∈ [cc 0, cc 1, cc 2, cc 3, cc 4, cc 5, cc 6, cc 7, cc 8, cc 9], PySem.W.findIn K (.ref C) "dish" = some none)
    (nf_ranking : ∀ C ∈ [cc 0, cc 1, cc 2, cc 3, cc 4, cc 5, cc 6, cc 7, cc 8, cc 9], PySem.W.findIn K (.ref C) "ranking" = some none)
    (nf_taster : ∀ C ∈ [cc 0, cc 1, cc 2, cc 3, cc 4, cc 5, cc 6, cc 7, cc 8, cc 9], PySem.W.findIn K (.ref C) "taster" = some none)
    (m_isinstance : mg "isinstance" = none) (m_ValueError : mg "ValueError" = none) (m_len : mg "len" = none) : FnE P w K mg base (m + 1) f fd ["_law_error"] (spAE [cc 0, cc 1, cc 2, cc 3, cc 4, cc 5, cc 6, cc 7, cc 8, cc 9] (F__law_raised cc)) :=
  fn_okE F scA__law_raised rfl fun cdv A outer s H p C d hr hz hf =>
    (as_cons (as_setO (i := 1) scA__law_raised.nd rfl (.inl rfl) (af_lst 1 la_nil))
      (as_cons (as_if (at_tru (ao_V (ae_isX XT List.mem_cons_self hz hf rfl rfl (by simp) (by rfl) m_isinstance (pv 0) (pe_glob (v := .ref (cc 5)) (by rfl) gC_NoMenu rfl)))) (as_one (as_expr (ae_mut dm_app (pe_bm PySem.F.plainAttrs_list PySem.F.slot_list_append PySem.F.type_list_append mt_append (pv 1) (la_cons (ao_V (ae_F (af_lst 0 (la_cons (ao_V ae_str) la_nil)))) la_nil))))) as_nil)
      (as_cons (as_if (at_tru (ao_V (ae_isX XT List.mem_cons_self hz hf rfl rfl (by simp) (by rfl) m_isinstance (pv 0) (pe_glob (v := .ref (cc 3)) (by rfl) gC_NotSeatable rfl)))) (as_one (as_expr (ae_mut dm_app (pe_bm PySem.F.plainAttrs_list PySem.F.slot_list_append PySem.F.type_list_append mt_append (pv 1) (la_cons (ao_V (ae_F (af_lst 0 (la_cons (ao_V ae_str) (la_cons (ao_V (ae_fldX XT List.mem_cons_self hz hf rfl rfl nf_obstruction (pv 0))) la_nil))))) la_nil))))) as_nil)
      (as_cons (as_if (at_tru (ao_V (ae_isX XT List.mem_cons_self hz hf rfl rfl (by simp) (by rfl) m_isinstance (pv 0) (pe_glob (v := .ref (cc 4)) (by rfl) gC_NoSeating rfl)))) (as_one (as_expr (ae_mut dm_app (pe_bm PySem.F.plainAttrs_list PySem.F.slot_list_append PySem.F.type_list_append mt_append (pv 1) (la_cons (ao_V (ae_F (af_lst 0 (la_cons (ao_V ae_str) la_nil)))) la_nil))))) as_nil)
      (as_cons (as_if (at_tru (ao_V (ae_isX XT List.mem_cons_self hz hf rfl rfl (by simp) (by rfl) m_isinstance (pv 0) (pe_glob (v := .ref (cc 7)) (by rfl) gC_NoCuts rfl)))) (as_one (as_expr (ae_mut dm_app (pe_bm PySem.F.plainAttrs_list PySem.F.slot_list_append PySem.F.type_list_append mt_append (pv 1) (la_cons (ao_V (ae_F (af_lst 0 (la_cons (ao_V ae_str) la_nil)))) la_nil))))) as_nil)
      (as_cons (as_if (at_tru (ao_V (ae_isX XT List.mem_cons_self hz hf rfl rfl (by simp) (by rfl) m_isinstance (pv 0) (pe_glob (v := .ref (cc 6)) (by rfl) gC_NoSize rfl)))) (as_one (as_expr (ae_mut dm_app (pe_bm PySem.F.plainAttrs_list PySem.F.slot_list_append PySem.F.type_list_append mt_append (pv 1) (la_cons (ao_V (ae_F (af_lst 0 (la_cons (ao_V ae_str) (la_cons (ao_V (ae_fldX XT List.mem_cons_self hz hf rfl rfl nf_size (pv 0))) la_nil))))) la_nil))))) as_nil)
      (as_cons (as_if (at_tru (ao_V (ae_isX XT List.mem_cons_self hz hf rfl rfl (by simp) (by rfl) m_isinstance (pv 0) (pe_glob (v := .ref (cc 2)) (by rfl) gC_NoDish rfl)))) (as_one (as_expr (ae_mut dm_app (pe_bm PySem.F.plainAttrs_list PySem.F.slot_list_append PySem.F.type_list_append mt_append (pv 1) (la_cons (ao_V (ae_F (af_lst 0 (la_cons (ao_V ae_str) (la_cons (ao_V (ae_fldX XT List.mem_cons_self hz hf rfl rfl nf_dish (pv 0))) la_nil))))) la_nil))))) as_nil)
      (as_cons (as_if (at_tru (ao_V (ae_isX XT List.mem_cons_self hz hf rfl rfl (by simp) (by rfl) m_isinstance (pv 0) (pe_glob (v := .ref (cc 0)) (by rfl) gC_NoRanking rfl)))) (as_one (as_expr (ae_mut dm_app (pe_bm PySem.F.plainAttrs_list PySem.F.slot_list_append PySem.F.type_list_append mt_append (pv 1) (la_cons (ao_V (ae_F (af_lst 0 (la_cons (ao_V ae_str) (la_cons (ao_V (ae_fldX XT List.mem_cons_self hz hf rfl rfl nf_ranking (pv 0))) la_nil))))) la_nil))))) as_nil)
      (as_cons (as_if (at_tru (ao_V (ae_isX XT List.mem_cons_self hz hf rfl rfl (by simp) (by rfl) m_isinstance (pv 0) (pe_glob (v := .ref (cc 1)) (by rfl) gC_NoTaster rfl)))) (as_one (as_expr (ae_mut dm_app (pe_bm PySem.F.plainAttrs_list PySem.F.slot_list_append PySem.F.type_list_append mt_append (pv 1) (la_cons (ao_V (ae_F (af_lst 0 (la_cons (ao_V ae_str) (la_cons (ao_V (ae_fldX XT List.mem_cons_self hz hf rfl rfl nf_taster (pv 0))) la_nil))))) la_nil))))) as_nil)
      (as_cons (as_if (at_tru (ao_V (ae_isX XT List.mem_cons_self hz hf rfl rfl (by simp) (by rfl) m_isinstance (pv 0) (pe_glob (v := .ref (cc 8)) (by rfl) gC_NoSpan rfl)))) (as_one (as_expr (ae_mut dm_app (pe_bm PySem.F.plainAttrs_list PySem.F.slot_list_append PySem.F.type_list_append mt_append (pv 1) (la_cons (ao_V (ae_F (af_lst 0 (la_cons (ao_V ae_str) la_nil)))) la_nil))))) as_nil)
      (as_cons (as_if (at_tru (ao_V (ae_isX XT List.mem_cons_self hz hf rfl rfl (by simp) (by rfl) m_isinstance (pv 0) (pe_glob (v := .ref (cc 9)) (by rfl) gC_NoPlaces rfl)))) (as_one (as_expr (ae_mut dm_app (pe_bm PySem.F.plainAttrs_list PySem.F.slot_list_append PySem.F.type_list_append mt_append (pv 1) (la_cons (ao_V (ae_F (af_lst 0 (la_cons (ao_V ae_str) la_nil)))) la_nil))))) as_nil)
      (as_one (as_ret (ae_if (PW.pt (aw_and (cmp_test dop_eq (op_eqA hr.units) (ao_V (ae_blt dc_len (pe_callB call_len (by rfl) m_len PySem.boot_len (la_cons (ao_var 1 (pv 1)) la_nil)))) (ao_V ae_int) (nomark _)) (aw_and1 (at_tru (ao_V (ae_isV XT List.mem_cons_self hz hf rfl rfl (by rfl) m_isinstance (pv 0) (pe_bltn (v := .ty "ValueError") (by rfl) m_ValueError (by decide +kernel) rfl))))))) (ae_ix (ao_var 1 (pv 1)) (ao_V ae_int) (fun _ _ => rfl)) (ae_F (af_lst 0 (la_cons (ao_V ae_str) la_nil)))))))))))))))))

theorem scA__law_span : FnScope ["_law_deck_here", "_law_line_here", "_law_way", "_law_low", "_law_high"] ["_law_deck_here", "_law_line_here"] (defScope s__law_span) := ⟨rfl, rfl, rfl, by decide +kernel, rfl, by decide +kernel, by decide +kernel⟩
def b__law_span (P__law_next : AF) (P__law_meeting : AF) : AST := (sSeq (sSet 2 (aCall [.deck, .dat] (calm P__law_next) (lCons (oVar 0) (lCons (oV (aC (.int 5))) lNil))))
    (sSeq (sIf (tV (a2 vEq (oVar 2) (oV (aC (.int 0)))))
    (sRet (aTup (lCons (oV (aC (.int 0))) (lCons (oV (a2 vPow (oV (aC (.int 10))) (oV (aC (.int 12))))) lNil))))
    sNx)
    (sSeq (sSet 3 (aIfE (tV (a2 vGt (oVar 2) (oV (aC (.int 1))))) (aCall [.deck, .dat] (calm P__law_meeting) (lCons (oVar 0) (lCons (oV (aVar 1)) lNil))) (aCall [.deck, .dat] (calm P__law_next) (lCons (oVar 0) (lCons (oV (aC (.int 20))) lNil)))))
    (sSeq (sIf (tV (a2 vLt (oVar 2) (oV (aC (.int 4)))))
    (sSeq (sSet 3 (aBlt fMax2 (lCons (oV (aC (.int 0))) (lCons (oV (a2 vSub (oVar 3) (oV (aCall [.deck, .dat] (calm P__law_next) (lCons (oVar 0) (lCons (oV (aC (.int 6))) lNil)))))) lNil))))
    (sRet (aTup (lCons (oV (aVar 3)) (lCons (oV (aBlt fMin2B (lCons (oV (a2 vPow (oV (aC (.int 10))) (oV (aC (.int 12))))) (lCons (oV (a2 vAdd (oVar 3) (oV (aCall [.deck, .dat] (calm P__law_next) (lCons (oVar 0) (lCons (oV (aC (.int 25))) lNil)))))) lNil)))) lNil)))))
    sNx)
    (sSeq (sSet 4 (aCall [.deck, .dat] (calm P__law_meeting) (lCons (oVar 0) (lCons (oV (aVar 1)) lNil))))
    (sRet (aTup (lCons (oV (aBlt fMin2B (lCons (oVar 3) (lCons (oVar 4) lNil)))) (lCons (oV (aBlt fMax2 (lCons (oVar 3) (lCons (oVar 4) lNil)))) lNil)))))))))
def F__law_span : AF := fnF [.deck, .dat] 3 (b__law_span F__law_next F__law_meeting)
theorem okA__law_span {P : Program} {w : World} {K : PySem.W.Frag} {mg : Str → Option Value} {base : Heap} {f f__law_next f__law_meeting : Addr} {fd d__law_next d__law_meeting : FuncData} {m : Nat} (F : Fun K "_law_span" "_law_span" s__law_span f fd)
    (k__law_next : PySem.W.keepIn K (.ref f__law_next) = true) (b__law_next : Binds K d__law_next ["_law_deck_here", "_law_many"] []) (g__law_next : mg "_law_next" = some (.ref f__law_next)) (G__law_next : FnOk P w K mg base CX0 m f__law_next d__law_next ["_law_deck_here", "_law_many"] (spA [.deck, .dat] F__law_next))
    (k__law_meeting : PySem.W.keepIn K (.ref f__law_meeting) = true) (b__law_meeting : Binds K d__law_meeting ["_law_deck_here", "_law_line_here"] []) (g__law_meeting : mg "_law_meeting" = some (.ref f__law_meeting)) (G__law_meeting : FnOk P w K mg base CX0 m f__law_meeting d__law_meeting ["_law_deck_here", "_law_line_here"] (spA [.deck, .dat] F__law_meeting))
    (m_max : mg "max" = none) (m_min : mg "min" = none) : FnOk P w K mg base CX0 (m + 1) f fd ["_law_deck_here", "_law_line_here"] (spA [.deck, .dat] F__law_span) :=
  fn_ok F scA__law_span rfl rfl fun cdv A outer s H E hr =>
    (as_cons (as_set (i := 2) scA__law_span.nd rfl (.inl rfl) (ae_call G__law_next hr (by rfl) g__law_next k__law_next b__law_next (la_cons (ao_var 0 (pv 0)) (la_cons (ao_V ae_int) la_nil))))
      (as_cons (as_if (cmp_test dop_eq (op_eqA hr.units) (ao_var 2 (pv 2)) (ao_V ae_int) (nomark _)) (as_one (as_ret (ae_tup (la_cons (ao_V ae_int) (la_cons (ao_V (ae_op dop_pow op_pow (ao_V ae_int) (ao_V ae_int))) la_nil))))) as_nil)
      (as_cons (as_set (i := 3) scA__law_span.nd rfl (.inl rfl) (ae_if (cmp_test dop_gt (op_gtA hr.units) (ao_var 2 (pv 2)) (ao_V ae_int) (nomark _)) (ae_call G__law_meeting hr (by rfl) g__law_meeting k__law_meeting b__law_meeting (la_cons (ao_var 0 (pv 0)) (la_cons (ao_V (ae_var 1 (pv 1))) la_nil))) (ae_call G__law_next hr (by rfl) g__law_next k__law_next b__law_next (la_cons (ao_var 0 (pv 0)) (la_cons (ao_V ae_int) la_nil)))))
      (as_cons (as_if (cmp_test dop_lt (op_ltA hr.units) (ao_var 2 (pv 2)) (ao_V ae_int) (nomark _)) (as_cons (as_set (i := 3) scA__law_span.nd rfl (.inl rfl) (ae_blt dc_max2 (pe_callB (call_max2 (by rfl)) (by rfl) m_max (by decide +kernel) (la_cons (ao_V ae_int) (la_cons (ao_V (ae_op dop_sub op_subA (ao_var 3 (pv 3)) (ao_V (ae_call G__law_next hr (by rfl) g__law_next k__law_next b__law_next (la_cons (ao_var 0 (pv 0)) (la_cons (ao_V ae_int) la_nil)))))) la_nil)))))
      (as_one (as_ret (ae_tup (la_cons (ao_V (ae_var 3 (pv 3))) (la_cons (ao_V (ae_blt dc_min2B (pe_callB (cr_min2B (by rfl) (u65 hr)) (by rfl) m_min (by decide +kernel) (la_cons (ao_V (ae_op dop_pow op_pow (ao_V ae_int) (ao_V ae_int))) (la_cons (ao_V (ae_op dop_add op_addA (ao_var 3 (pv 3)) (ao_V (ae_call G__law_next hr (by rfl) g__law_next k__law_next b__law_next (la_cons (ao_var 0 (pv 0)) (la_cons (ao_V ae_int) la_nil)))))) la_nil))))) la_nil)))))) as_nil)
      (as_cons (as_set (i := 4) scA__law_span.nd rfl (.inl rfl) (ae_call G__law_meeting hr (by rfl) g__law_meeting k__law_meeting b__law_meeting (la_cons (ao_var 0 (pv 0)) (la_cons (ao_V (ae_var 1 (pv 1))) la_nil))))
      (as_one (as_ret (ae_tup (la_cons (ao_V (ae_blt dc_min2B (pe_callB (cr_min2B (by rfl) (u65 hr)) (by rfl) m_min (by decide +kernel) (la_cons (ao_var 3 (pv 3)) (la_cons (ao_var 4 (pv 4)) la_nil))))) (la_cons (ao_V (ae_blt dc_max2 (pe_callB (call_max2 (by rfl)) (by rfl) m_max (by decide +kernel) (la_cons (ao_var 3 (pv 3)) (la_cons (ao_var 4 (pv 4)) la_nil))))) la_nil))))))))))

theorem scA__law_ranked : FnScope ["_law_line_here", "_law_t", "_law_worths", "_law_dish", "_law_height", "_law_slope", "_law_worth"] ["_law_line_here", "_law_t"] (defScope s__law_ranked) := ⟨rfl, rfl, rfl, by decide +kernel, rfl, by decide +kernel, by decide +kernel⟩
def b__law_ranked : AST := (sSeq (sSet 2 (aLc (iEnT (aVar 0)) (bTup 2 (bCons (bNm 3) (bCons (bTup 2 (bCons (bNm 4) (bCons (bNm 5) bNil))) bNil))) tYesA (aTup (lCons (oV (a2 vSub (oV (a2 vSub (oV (aC (.int 0))) (oVar 4))) (oV (a2 vMul (oVar 5) (oVar 1))))) (lCons (oV (aVar 3)) lNil))) [3, 4, 5]))
    (sRet (aBlt fTuple (lCons (oV (aLc (iSeq (oV (aBlt fSorted (lCons (oVar 2) lNil)))) (bTup 2 (bCons (bNm 6) (bCons (bNm 3) bNil))) tYesA (aVar 3) [6, 3])) lNil))))
def F__law_ranked : AF := fnF [.dat, .dat] 5 (b__law_ranked)
theorem okA__law_ranked {P : Program} {w : World} {K : PySem.W.Frag} {mg : Str → Option Value} {base : Heap} {f  : Addr} {fd  : FuncData} {m : Nat} (F : Fun K "_law_ranked" "_law_ranked" s__law_ranked f fd)
    (m_enumerate : mg "enumerate" = none) (m_tuple : mg "tuple" = none) (m_sorted : mg "sorted" = none) : FnOk P w K mg base CX0 (m + 1) f fd ["_law_line_here", "_law_t"] (spA [.dat, .dat] F__law_ranked) :=
  fn_ok F scA__law_ranked rfl rfl fun cdv A outer s H E hr =>
    (as_cons (as_setLc 2 rfl rfl (sw_true rfl rfl rfl (by decide +kernel)) (own := [("_law_dish", 3), ("_law_height", 4), ("_law_slope", 5)]) (by rfl) scA__law_ranked.nd (ai_enT (by rfl) m_enumerate (ae_var 0 (pv 0))) (blkOk_by (own := [("_law_dish", 3), ("_law_height", 4), ("_law_slope", 5)]) (N := ["_law_line_here", "_law_t", "_law_worths", "_law_dish", "_law_height", "_law_slope", "_law_worth"]) (sc := defScope s__law_ranked) (by decide +kernel)) (fun _ _ _ _ _ => (ag_tup (by rfl) (ags_cons (ag_name (pg_name (i := 3) scA__law_ranked.nd rfl (Or.inl rfl))) (ags_cons (ag_tup (by rfl) (ags_cons (ag_name (pg_name (i := 4) scA__law_ranked.nd rfl (Or.inl rfl))) (ags_cons (ag_name (pg_name (i := 5) scA__law_ranked.nd rfl (Or.inl rfl))) ags_nil))) ags_nil)))) (fun _ _ _ _ _ => ts_nil) (fun _ _ _ _ _ => (ae_tup (la_cons (ao_V (ae_op dop_sub op_subA (ao_V (ae_op dop_sub op_subA (ao_V ae_int) (ao_var 4 (pv 4)))) (ao_V (ae_op dop_mul op_mul (ao_var 5 (pv 5)) (ao_var 1 (pv 1)))))) (la_cons (ao_V (ae_var 3 (pv 3))) la_nil)))))
      (as_one (as_ret (ae_blt dc_tuple (pe_callTy call_tupleF (by rfl) m_tuple (by decide +kernel) (la_cons (ao_V (ae_F (af_lc 0 (own := [("_law_worth", 6), ("_law_dish", 3)]) (by rfl) scA__law_ranked.nd (ai_seq (ao_V (ae_F (af_blt 0 dc_sorted (pe_callB (cr_sortedA (u65 hr)) (by rfl) m_sorted (by decide +kernel) (la_cons (ao_var 2 (pv 2)) la_nil)))))) (blkOk_by (own := [("_law_worth", 6), ("_law_dish", 3)]) (N := ["_law_line_here", "_law_t", "_law_worths", "_law_dish", "_law_height", "_law_slope", "_law_worth"]) (sc := defScope s__law_ranked) (by decide +kernel)) (fun _ _ _ _ _ => (ag_tup (by rfl) (ags_cons (ag_name (pg_name (i := 6) scA__law_ranked.nd rfl (Or.inl rfl))) (ags_cons (ag_name (pg_name (i := 3) scA__law_ranked.nd rfl (Or.inl rfl))) ags_nil)))) (fun _ _ _ _ _ => ts_nil) (fun _ _ _ _ _ => (ae_var 3 (pv 3)))))) la_nil))))))

theorem scA__law_bad_span : FnScope ["_law_deck_here", "_law_some"] ["_law_deck_here"] (defScope s__law_bad_span) := ⟨rfl, rfl, rfl, by decide +kernel, rfl, by decide +kernel, by decide +kernel⟩
def b__law_bad_span (P__law_one : AF) : AST := (sSeq (sSet 1 (aLst (lCons (oV (aTup (lCons (oV (aNeg (oV (aC (.int 1))))) (lCons (oV (aC (.int 3))) lNil)))) (lCons (oV (aTup (lCons (oV (aC (.int 4))) (lCons (oV (aC (.int 3))) lNil)))) (lCons (oV (aTup (lCons (oV (aC (.int 0))) (lCons (oV (a2 vAdd (oV (a2 vPow (oV (aC (.int 10))) (oV (aC (.int 12))))) (oV (aC (.int 1))))) lNil)))) (lCons (oV (aTup (lCons (oV (a2 vAdd (oV (a2 vPow (oV (aC (.int 10))) (oV (aC (.int 12))))) (oV (aC (.int 1))))) (lCons (oV (a2 vAdd (oV (a2 vPow (oV (aC (.int 10))) (oV (aC (.int 12))))) (oV (aC (.int 2))))) lNil)))) (lCons (oV (aTup (lCons (oV (aC (.bool true))) (lCons (oV (aC (.int 5))) lNil)))) (lCons (oV (aTup (lCons (oV (aC (.int 0))) (lCons (oV (aC (.bool true))) lNil)))) (lCons (oV (aTup (lCons (oV (aC .none)) (lCons (oV (aC (.int 2))) lNil)))) (lCons (oV (aTup (lCons (oV (aC (.str "0"))) (lCons (oV (aC (.int 3))) lNil)))) lNil))))))))))
    (sRet (aCall [.deck, .bor] (calm P__law_one) (lCons (oVar 0) (lCons (oV (a2 vCatL (oVar 1) (oV (aLst (lCons (oV (aTup (lCons (oV (aC (.int 0))) (lCons (oV (aC (.str "1"))) lNil)))) (lCons (oV (aTup (lCons (oV (aLst lNil)) (lCons (oV aDict0) lNil)))) (lCons (oV (aTup (lCons (oV (aC (.int 1))) (lCons (oV (aC .none)) lNil)))) (lCons (oV (aTup (lCons (oV (aC (.int 0))) (lCons (oV (aTup (lCons (oV (aC (.int 5))) lNil))) lNil)))) (lCons (oV (aTup (lCons (oV (aC (.int 0))) (lCons (oV (aNeg (oV (aC (.int 1))))) lNil)))) (lCons (oV (aTup (lCons (oV (aC (.bool false))) (lCons (oV (aC (.bool false))) lNil)))) (lCons (oV (aTup (lCons (oV (aC (.int 5))) (lCons (oV (a2 vPow (oV (aC (.int 10))) (oV (aC (.int 59))))) lNil)))) lNil))))))))))) lNil)))))
def F__law_bad_span : AF := fnF [.deck] 1 (b__law_bad_span F__law_one)
theorem okA__law_bad_span {P : Program} {w : World} {K : PySem.W.Frag} {mg : Str → Option Value} {base : Heap} {f f__law_one : Addr} {fd d__law_one : FuncData} {m : Nat} (F : Fun K "_law_bad_span" "_law_bad_span" s__law_bad_span f fd)
    (k__law_one : PySem.W.keepIn K (.ref f__law_one) = true) (b__law_one : Binds K d__law_one ["_law_deck_here", "_law_some"] []) (g__law_one : mg "_law_one" = some (.ref f__law_one)) (G__law_one : FnOk P w K mg base CX0 m f__law_one d__law_one ["_law_deck_here", "_law_some"] (spA [.deck, .bor] F__law_one))
     : FnOk P w K mg base CX0 (m + 1) f fd ["_law_deck_here"] (spA [.deck] F__law_bad_span) :=
  fn_ok F scA__law_bad_span rfl rfl fun cdv A outer s H E hr =>
    (as_cons (as_set (i := 1) scA__law_bad_span.nd rfl (.inl rfl) (ae_F (af_lst 0 (la_cons (ao_V (ae_tup (la_cons (ao_V (ae_neg (ao_V ae_int))) (la_cons (ao_V ae_int) la_nil)))) (la_cons (ao_V (ae_tup (la_cons (ao_V ae_int) (la_cons (ao_V ae_int) la_nil)))) (la_cons (ao_V (ae_tup (la_cons (ao_V ae_int) (la_cons (ao_V (ae_op dop_add op_addA (ao_V (ae_op dop_pow op_pow (ao_V ae_int) (ao_V ae_int))) (ao_V ae_int))) la_nil)))) (la_cons (ao_V (ae_tup (la_cons (ao_V (ae_op dop_add op_addA (ao_V (ae_op dop_pow op_pow (ao_V ae_int) (ao_V ae_int))) (ao_V ae_int))) (la_cons (ao_V (ae_op dop_add op_addA (ao_V (ae_op dop_pow op_pow (ao_V ae_int) (ao_V ae_int))) (ao_V ae_int))) la_nil)))) (la_cons (ao_V (ae_tup (la_cons (ao_V ae_bl) (la_cons (ao_V ae_int) la_nil)))) (la_cons (ao_V (ae_tup (la_cons (ao_V ae_int) (la_cons (ao_V ae_bl) la_nil)))) (la_cons (ao_V (ae_tup (la_cons (ao_V ae_non) (la_cons (ao_V ae_int) la_nil)))) (la_cons (ao_V (ae_tup (la_cons (ao_V ae_str) (la_cons (ao_V ae_int) la_nil)))) la_nil)))))))))))
      (as_one (as_ret (ae_call G__law_one hr (by rfl) g__law_one k__law_one b__law_one (la_cons (ao_var 0 (pv 0)) (la_cons (ao_V (ae_F (af_cat 0 (ao_var 1 (pv 1)) (ao_V (ae_F (af_lst 0 (la_cons (ao_V (ae_tup (la_cons (ao_V ae_int) (la_cons (ao_V ae_str) la_nil)))) (la_cons (ao_V (ae_tup (la_cons (ao_V (ae_F (af_lst 0 la_nil))) (la_cons (ao_V ae_dict0) la_nil)))) (la_cons (ao_V (ae_tup (la_cons (ao_V ae_int) (la_cons (ao_V ae_non) la_nil)))) (la_cons (ao_V (ae_tup (la_cons (ao_V ae_int) (la_cons (ao_V (ae_tup (la_cons (ao_V ae_int) la_nil))) la_nil)))) (la_cons (ao_V (ae_tup (la_cons (ao_V ae_int) (la_cons (ao_V (ae_neg (ao_V ae_int))) la_nil)))) (la_cons (ao_V (ae_tup (la_cons (ao_V ae_bl) (la_cons (ao_V ae_bl) la_nil)))) (la_cons (ao_V (ae_tup (la_cons (ao_V ae_int) (la_cons (ao_V (ae_op dop_pow op_pow (ao_V ae_int) (ao_V ae_int))) la_nil)))) la_nil))))))))))))) la_nil))))))

theorem scA__law_prefers : FnScope ["_law_line_here", "_law_t", "_law_pair", "_law_worths", "_law_dish"] ["_law_line_here", "_law_t", "_law_pair"] (defScope s__law_prefers) := ⟨rfl, rfl, rfl, by decide +kernel, rfl, by decide +kernel, by decide +kernel⟩
def b__law_prefers : AST := (sSeq (sSet 3 (aLc (iSeq (oVar 2)) (bNm 4) tYesA (a2 vAdd (oV (a2 vIx (oV (a2 vIx (oVar 0) (oVar 4))) (oV (aC (.int 0))))) (oV (a2 vMul (oV (a2 vIx (oV (a2 vIx (oVar 0) (oVar 4))) (oV (aC (.int 1))))) (oVar 1)))) [4]))
    (sRet (a2 vGe (oV (a2 vIx (oVar 3) (oV (aC (.int 0))))) (oV (a2 vIx (oVar 3) (oV (aC (.int 1))))))))
def F__law_prefers : AF := fnF [.dat, .dat, .dat] 2 (b__law_prefers)
theorem okA__law_prefers {P : Program} {w : World} {K : PySem.W.Frag} {mg : Str → Option Value} {base : Heap} {f  : Addr} {fd  : FuncData} {m : Nat} (F : Fun K "_law_prefers" "_law_prefers" s__law_prefers f fd)
     : FnOk P w K mg base CX0 (m + 1) f fd ["_law_line_here", "_law_t", "_law_pair"] (spA [.dat, .dat, .dat] F__law_prefers) :=
  fn_ok F scA__law_prefers rfl rfl fun cdv A outer s H E hr =>
    (as_cons (as_setLc 3 rfl rfl (sw_true rfl rfl rfl (by decide +kernel)) (own := [("_law_dish", 4)]) (by rfl) scA__law_prefers.nd (ai_seq (ao_var 2 (pv 2))) (blkOk_by (own := [("_law_dish", 4)]) (N := ["_law_line_here", "_law_t", "_law_pair", "_law_worths", "_law_dish"]) (sc := defScope s__law_prefers) (by decide +kernel)) (fun _ _ _ _ _ => (ag_name (pg_name (i := 4) scA__law_prefers.nd rfl (Or.inl rfl)))) (fun _ _ _ _ _ => ts_nil) (fun _ _ _ _ _ => (ae_op dop_add op_addA (ao_V (ae_ix (ao_V (ae_ix (ao_var 0 (pv 0)) (ao_var 4 (pv 4)) (fun _ _ => rfl))) (ao_V ae_int) (fun _ _ => rfl))) (ao_V (ae_op dop_mul op_mul (ao_V (ae_ix (ao_V (ae_ix (ao_var 0 (pv 0)) (ao_var 4 (pv 4)) (fun _ _ => rfl))) (ao_V ae_int) (fun _ _ => rfl))) (ao_var 1 (pv 1)))))))
      (as_one (as_ret (ae_cmp dop_ge (op_geA hr.units) (ao_V (ae_ix (ao_var 3 (pv 3)) (ao_V ae_int) (fun _ _ => rfl))) (ao_V (ae_ix (ao_var 3 (pv 3)) (ao_V ae_int) (fun _ _ => rfl))) (nomark _)))))

theorem scA__law_first_change : FnScope ["_law_line_here", "_law_low", "_law_high", "_law_pair", "_law_middle"] ["_law_line_here", "_law_low", "_law_high", "_law_pair"] (defScope s__law_first_change) := ⟨rfl, rfl, rfl, by decide +kernel, rfl, by decide +kernel, by decide +kernel⟩
def b__law_first_change (P__law_prefers : AF) : AST := (sSeq (sWhile (tV (a2 vGt (oV (a2 vSub (oVar 2) (oVar 1))) (oV (aC (.int 1)))))
    (sSeq (sSet 4 (a2 vDiv (oV (a2 vAdd (oVar 1) (oVar 2))) (oV (aC (.int 2)))))
    (sIf (tV (a2 vEq (oV (aCall0 [.dat, .dat, .dat] (calm P__law_prefers) (lCons (oV (aVar 0)) (lCons (oV (aVar 4)) (lCons (oV (aVar 3)) lNil))))) (oV (aCall0 [.dat, .dat, .dat] (calm P__law_prefers) (lCons (oV (aVar 0)) (lCons (oV (aVar 1)) (lCons (oV (aVar 3)) lNil)))))))
    (sSet 1 (aVar 4))
    (sSet 2 (aVar 4)))))
    (sRetV 2))
def F__law_first_change : AF := fnF [.dat, .dat, .dat, .dat] 1 (b__law_first_change F__law_prefers)
theorem okA__law_first_change {P : Program} {w : World} {K : PySem.W.Frag} {mg : Str → Option Value} {base : Heap} {f f__law_prefers : Addr} {fd d__law_prefers : FuncData} {m : Nat} (F : Fun K "_law_first_change" "_law_first_change" s__law_first_change f fd)
    (k__law_prefers : PySem.W.keepIn K (.ref f__law_prefers) = true) (b__law_prefers : Binds K d__law_prefers ["_law_line_here", "_law_t", "_law_pair"] []) (g__law_prefers : mg "_law_prefers" = some (.ref f__law_prefers)) (G__law_prefers : FnOk P w K mg base CX0 m f__law_prefers d__law_prefers ["_law_line_here", "_law_t", "_law_pair"] (spA [.dat, .dat, .dat] F__law_prefers))
     : FnOk P w K mg base CX0 (m + 1) f fd ["_law_line_here", "_law_low", "_law_high", "_law_pair"] (spA [.dat, .dat, .dat, .dat] F__law_first_change) :=
  fn_ok F scA__law_first_change rfl rfl fun cdv A outer s H E hr =>
    (as_cons (as_while PassesOwn.never (cmp_test dop_gt (op_gtA hr.units) (ao_V (ae_op dop_sub op_subA (ao_var 2 (pv 2)) (ao_var 1 (pv 1)))) (ao_V ae_int) (nomark _)) (as_cons (as_set (i := 4) scA__law_first_change.nd rfl (.inl rfl) (ae_op dop_div op_fdivW (ao_V (ae_op dop_add op_addA (ao_var 1 (pv 1)) (ao_var 2 (pv 2)))) (ao_V ae_int)))
      (as_one (as_if (cmp_test dop_eq (op_eqA hr.units) (ao_V (ae_call0 G__law_prefers (by decide) hr (by rfl) g__law_prefers k__law_prefers b__law_prefers (la_cons (ao_V (ae_var 0 (pv 0))) (la_cons (ao_V (ae_var 4 (pv 4))) (la_cons (ao_V (ae_var 3 (pv 3))) la_nil))))) (ao_V (ae_call0 G__law_prefers (by decide) hr (by rfl) g__law_prefers k__law_prefers b__law_prefers (la_cons (ao_V (ae_var 0 (pv 0))) (la_cons (ao_V (ae_var 1 (pv 1))) (la_cons (ao_V (ae_var 3 (pv 3))) la_nil))))) (nomark _)) (as_one (as_set (i := 1) scA__law_first_change.nd rfl (.inl rfl) (ae_var 4 (pv 4)))) (as_one (as_set (i := 2) scA__law_first_change.nd rfl (.inl rfl) (ae_var 4 (pv 4))))))))
      (as_one (as_retV 2 (pv 2))))

theorem scA__law_due : FnScope ["_law_line_here", "_law_low", "_law_high", "_law_found", "_law_pair"] ["_law_line_here", "_law_low", "_law_high"] (defScope s__law_due) := ⟨rfl, rfl, rfl, by decide +kernel, rfl, by decide +kernel, by decide +kernel⟩
def b__law_due (P__law_pairs : AF) (P__law_prefers : AF) (P__law_first_change : AF) : AST := (sSeq (sSetO 3 (aLst lNil))
    (sSeq (sFor (iSeq (oV (aCall0 [.dat] (calm P__law_pairs) (lCons (oV (aBlt fLen (lCons (oVar 0) lNil))) lNil)))) (bNm 4)
    (sIf (tV (a2 vNe (oV (aCall0 [.dat, .dat, .dat] (calm P__law_prefers) (lCons (oV (aVar 0)) (lCons (oV (aVar 1)) (lCons (oV (aVar 4)) lNil))))) (oV (aCall0 [.dat, .dat, .dat] (calm P__law_prefers) (lCons (oV (aVar 0)) (lCons (oV (aVar 2)) (lCons (oV (aVar 4)) lNil)))))))
    (sDrop (aMut mApp 3 (lCons (oV (aTup (lCons (oV (aCall0 [.dat, .dat, .dat, .dat] (calm P__law_first_change) (lCons (oV (aVar 0)) (lCons (oV (aVar 1)) (lCons (oV (aVar 2)) (lCons (oV (aVar 4)) lNil)))))) (lCons (oV (aVar 4)) lNil)))) lNil)))
    sNx))
    (sRet (aBlt fTuple (lCons (oV (aBlt fSorted (lCons (oVar 3) lNil))) lNil)))))
def F__law_due : AF := fnF [.dat, .dat, .dat] 2 (b__law_due F__law_pairs F__law_prefers F__law_first_change)
theorem okA__law_due {P : Program} {w : World} {K : PySem.W.Frag} {mg : Str → Option Value} {base : Heap} {f f__law_pairs f__law_prefers f__law_first_change : Addr} {fd d__law_pairs d__law_prefers d__law_first_change : FuncData} {m : Nat} (F : Fun K "_law_due" "_law_due" s__law_due f fd)
    (k__law_pairs : PySem.W.keepIn K (.ref f__law_pairs) = true) (b__law_pairs : Binds K d__law_pairs ["_law_dishes"] []) (g__law_pairs : mg "_law_pairs" = some (.ref f__law_pairs)) (G__law_pairs : FnOk P w K mg base CX0 m f__law_pairs d__law_pairs ["_law_dishes"] (spA [.dat] F__law_pairs))
    (k__law_prefers : PySem.W.keepIn K (.ref f__law_prefers) = true) (b__law_prefers : Binds K d__law_prefers ["_law_line_here", "_law_t", "_law_pair"] []) (g__law_prefers : mg "_law_prefers" = some (.ref f__law_prefers)) (G__law_prefers : FnOk P w K mg base CX0 m f__law_prefers d__law_prefers ["_law_line_here", "_law_t", "_law_pair"] (spA [.dat, .dat, .dat] F__law_prefers))
    (k__law_first_change : PySem.W.keepIn K (.ref f__law_first_change) = true) (b__law_first_change : Binds K d__law_first_change ["_law_line_here", "_law_low", "_law_high", "_law_pair"] []) (g__law_first_change : mg "_law_first_change" = some (.ref f__law_first_change)) (G__law_first_change : FnOk P w K mg base CX0 m f__law_first_change d__law_first_change ["_law_line_here", "_law_low", "_law_high", "_law_pair"] (spA [.dat, .dat, .dat, .dat] F__law_first_change))
    (m_len : mg "len" = none) (m_tuple : mg "tuple" = none) (m_sorted : mg "sorted" = none) : FnOk P w K mg base CX0 (m + 1) f fd ["_law_line_here", "_law_low", "_law_high"] (spA [.dat, .dat, .dat] F__law_due) :=
  fn_ok F scA__law_due rfl rfl fun cdv A outer s H E hr =>
    (as_cons (as_setO (i := 3) scA__law_due.nd rfl (.inl rfl) (af_lst 3 la_nil))
      (as_cons (as_for PassesOwn.never rfl (ai_seq (ao_V (ae_call0 G__law_pairs (by decide) hr (by rfl) g__law_pairs k__law_pairs b__law_pairs (la_cons (ao_V (ae_blt dc_len (pe_callB call_len (by rfl) m_len PySem.boot_len (la_cons (ao_var 0 (pv 0)) la_nil)))) la_nil)))) (ag_name (pg_name (i := 4) scA__law_due.nd rfl (.inl rfl))) (as_one (as_if (cmp_test dop_ne (op_neA hr.units) (ao_V (ae_call0 G__law_prefers (by decide) hr (by rfl) g__law_prefers k__law_prefers b__law_prefers (la_cons (ao_V (ae_var 0 (pv 0))) (la_cons (ao_V (ae_var 1 (pv 1))) (la_cons (ao_V (ae_var 4 (pv 4))) la_nil))))) (ao_V (ae_call0 G__law_prefers (by decide) hr (by rfl) g__law_prefers k__law_prefers b__law_prefers (la_cons (ao_V (ae_var 0 (pv 0))) (la_cons (ao_V (ae_var 2 (pv 2))) (la_cons (ao_V (ae_var 4 (pv 4))) la_nil))))) (nomark _)) (as_one (as_expr (ae_mut dm_app (pe_bm PySem.F.plainAttrs_list PySem.F.slot_list_append PySem.F.type_list_append mt_append (pv 3) (la_cons (ao_V (ae_tup (la_cons (ao_V (ae_call0 G__law_first_change (by decide) hr (by rfl) g__law_first_change k__law_first_change b__law_first_change (la_cons (ao_V (ae_var 0 (pv 0))) (la_cons (ao_V (ae_var 1 (pv 1))) (la_cons (ao_V (ae_var 2 (pv 2))) (la_cons (ao_V (ae_var 4 (pv 4))) la_nil)))))) (la_cons (ao_V (ae_var 4 (pv 4))) la_nil)))) la_nil))))) as_nil)))
      (as_one (as_ret (ae_blt dc_tuple (pe_callTy call_tupleF (by rfl) m_tuple (by decide +kernel) (la_cons (ao_V (ae_F (af_blt 0 dc_sorted (pe_callB (cr_sortedA (u65 hr)) (by rfl) m_sorted (by decide +kernel) (la_cons (ao_var 3 (pv 3)) la_nil))))) la_nil)))))))

theorem scA__law_answer : FnScope ["_law_door", "_law_line_here", "_law_low", "_law_high", "_law_found", "_law_error"] ["_law_door", "_law_line_here", "_law_low", "_law_high"] (defScope s__law_answer) := ⟨rfl, rfl, rfl, by decide +kernel, rfl, by decide +kernel, by decide +kernel⟩
def b__law_answer (cc : Nat → Addr) (P_line_changes : AF) (P_line_distance : AF) (P__law_raised : AFE) : AST := (sSeq (sSet 4 (aC .none))
    (sSeq (sTry 5 [cc 0, cc 1, cc 2, cc 3, cc 4, cc 5, cc 6, cc 7, cc 8, cc 9]
    (sSet 4 (aLst (lCons (oV (aC (.str "returned"))) (lCons (oV (aIfE (tV (a2 vEq (oVar 0) (oV (aC (.int 0))))) (aCall0 [.dat, .dat, .dat] P_line_changes (lCons (oV (aVar 1)) (lCons (oV (aVar 2)) (lCons (oV (aVar 3)) lNil)))) (aCall0 [.dat, .dat, .dat] P_line_distance (lCons (oV (aVar 1)) (lCons (oV (aVar 2)) (lCons (oV (aVar 3)) lNil)))))) lNil))))
    (sSet 4 (aCallE P__law_raised 5)))
    (sRetV 4)))
def F__law_answer (cc : Nat → Addr) : AF := fnF [.dat, .dat, .dat, .dat] 2 (b__law_answer cc (F_line_changes cc) (F_line_distance cc) (F__law_raised cc))
theorem okA__law_answer {P : Program} {w : World} {K : PySem.W.Frag} {mg : Str → Option Value} {base : Heap} {f f_line_changes f_line_distance f__law_raised : Addr} {fd d_line_changes d_line_distance d__law_raised : FuncData} {cc : Nat → Addr} {cB : Addr} {m : Nat} (F : Fun K "_law_answer" "_law_answer" s__law_answer f fd)
    (k_line_changes : PySem.W.keepIn K (.ref f_line_changes) = true) (b_line_changes : Binds K d_line_changes ["line", "low", "high"] []) (g_line_changes : mg "line_changes" = some (.ref f_line_changes)) (G_line_changes : FnOk P w K mg base (L2.CX P w) m f_line_changes d_line_changes ["line", "low", "high"] (spA [.dat, .dat, .dat] (F_line_changes cc)))
    (k_line_distance : PySem.W.keepIn K (.ref f_line_distance) = true) (b_line_distance : Binds K d_line_distance ["line", "low", "high"] []) (g_line_distance : mg "line_distance" = some (.ref f_line_distance)) (G_line_distance : FnOk P w K mg base (L2.CX P w) m f_line_distance d_line_distance ["line", "low", "high"] (spA [.dat, .dat, .dat] (F_line_distance cc)))
    (k__law_raised : PySem.W.keepIn K (.ref f__law_raised) = true) (b__law_raised : Binds K d__law_raised ["_law_error"] []) (g__law_raised : mg "_law_raised" = some (.ref f__law_raised)) (G__law_raised : FnE P w K mg base m f__law_raised d__law_raised ["_law_error"] (spAE [cc 0, cc 1, cc 2, cc 3, cc 4, cc 5, cc 6, cc 7, cc 8, cc 9] (F__law_raised cc)))
    (XT : XTab K [cc 0, cc 1, cc 2, cc 3, cc 4, cc 5, cc 6, cc 7, cc 8, cc 9] cB) (gB : mg "TasteError" = some (.ref cB))
     : FnOk P w K mg base CX0 (m + 1) f fd ["_law_door", "_law_line_here", "_law_low", "_law_high"] (spA [.dat, .dat, .dat, .dat] (F__law_answer cc)) :=
  fn_ok F scA__law_answer rfl rfl fun cdv A outer s H E hr =>
    (as_cons (as_set (i := 4) scA__law_answer.nd rfl (.inl rfl) ae_non)
      (as_cons (as_try (i := 5) XT rfl rfl scA__law_answer.nd rfl rfl ⟨rfl, by decide, Or.inl gB⟩ takes0 (fun W pn xe tk _ =>
      (as_one (as_set (i := 4) scA__law_answer.nd rfl (.inl rfl) (ae_F (af_lst 0 (la_cons (ao_V ae_str) (la_cons (ao_V (ae_if (cmp_test dop_eq (op_eqA hr.units) (ao_var 0 (pv 0)) (ao_V ae_int) (nomark _)) (ae_callT (W := W) G_line_changes (by decide) hr (by rfl) g_line_changes k_line_changes b_line_changes tk (la_cons (ao_V (ae_var 1 (pv 1))) (la_cons (ao_V (ae_var 2 (pv 2))) (la_cons (ao_V (ae_var 3 (pv 3))) la_nil)))) (ae_callT (W := W) G_line_distance (by decide) hr (by rfl) g_line_distance k_line_distance b_line_distance tk (la_cons (ao_V (ae_var 1 (pv 1))) (la_cons (ao_V (ae_var 2 (pv 2))) (la_cons (ao_V (ae_var 3 (pv 3))) la_nil)))))) la_nil))))))) (fun a oe C d pn hz hf =>
      (as_one (as_set (i := 4) scA__law_answer.nd rfl (.inl rfl) (ae_callE G__law_raised (roomH_suite hr) List.mem_cons_self hz hf rfl rfl (by rfl) g__law_raised k__law_raised b__law_raised (pv 5))))))
      (as_one (as_retV 4 (pv 4)))))

theorem scA_law : FnScope ["_law_script", "_law_deck_here", "_law_turn", "_law_line_here", "_law_kept", "_law_k", "_law_low", "_law_high", "_law_due_here", "_law_found", "_law_door"] ["_law_script"] (defScope s_law) := ⟨rfl, rfl, rfl, by decide +kernel, rfl, by decide +kernel, by decide +kernel⟩
def b_law (cc : Nat → Addr) (P__law_line : AF) (P__law_span : AF) (P__law_due : AF) (P__law_answer : AF) (P__law_same : AF) (P__law_unlike : AF) (P__law_ranked : AF) (P__law_bad_span : AF) : AST := (sSeq (sFor (iRange1 (lCons (oV (aC (.int 6))) lNil)) (bNm 2)
    (sSeq (sSet 3 (aCall [.deck, .dat] (calm P__law_line) (lCons (oVar 1) (lCons (oV (aC (.int 8))) lNil))))
    (sSeq (sSet 4 (aBlt fRepr (lCons (oVar 3) lNil)))
    (sSeq (sFor (iRange1 (lCons (oV (aC (.int 3))) lNil)) (bNm 5)
    (sSeq (sAsg (aCall [.deck, .dat] (calm P__law_span) (lCons (oVar 1) (lCons (oV (aVar 3)) lNil))) (bTup 2 (bCons (bNm 6) (bCons (bNm 7) bNil))))
    (sSeq (sSet 8 (aCall0 [.dat, .dat, .dat] (calm P__law_due) (lCons (oV (aVar 3)) (lCons (oV (aVar 6)) (lCons (oV (aVar 7)) lNil)))))
    (sSeq (sSet 9 (aLc (iSeq (oV (aTup (lCons (oV (aC (.int 0))) (lCons (oV (aC (.int 1))) lNil))))) (bNm 10) tYesA (aCall0 [.dat, .dat, .dat, .dat] (calm P__law_answer) (lCons (oV (aVar 10)) (lCons (oV (aVar 3)) (lCons (oV (aVar 6)) (lCons (oV (aVar 7)) lNil))))) [10]))
    (sSeq (sIf (tNotA (tTruA (oV (aCall0 [.dat, .dat] (calm P__law_same) (lCons (oV (aVar 9)) (lCons (oV (aLst (lCons (oV (aLst (lCons (oV (aC (.str "returned"))) (lCons (oV (aVar 8)) lNil)))) (lCons (oV (aLst (lCons (oV (aC (.str "returned"))) (lCons (oV (aBlt fLen (lCons (oVar 8) lNil))) lNil)))) lNil)))) lNil))))))
    (sRet (aC (.bool false)))
    sNx)
    (sIf (tV (a2 vNe (oV (aBlt fLen (lCons (oV (aCall0 [.dat, .dat] (calm P__law_unlike) (lCons (oV (aCall0 [.dat, .dat] (calm P__law_ranked) (lCons (oV (aVar 3)) (lCons (oV (aVar 6)) lNil)))) (lCons (oV (aCall0 [.dat, .dat] (calm P__law_ranked) (lCons (oV (aVar 3)) (lCons (oV (aVar 7)) lNil)))) lNil)))) lNil))) (oV (aBlt fLen (lCons (oVar 8) lNil)))))
    (sRet (aC (.bool false)))
    sNx))))))
    (sSeq (sAsg (aCall [.deck] (calm P__law_bad_span) (lCons (oVar 1) lNil)) (bTup 2 (bCons (bNm 6) (bCons (bNm 7) bNil))))
    (sSeq (sSet 9 (aLc (iSeq (oV (aTup (lCons (oV (aC (.int 0))) (lCons (oV (aC (.int 1))) lNil))))) (bNm 10) tYesA (aCall0 [.dat, .dat, .dat, .dat] (calm P__law_answer) (lCons (oV (aVar 10)) (lCons (oV (aVar 3)) (lCons (oV (aVar 6)) (lCons (oV (aVar 7)) lNil))))) [10]))
    (sIf (tOrA (tV (a2 vNe (oVar 9) (oV (aLst (lCons (oV (aLst (lCons (oV (aC (.str "NoSpan"))) lNil))) (lCons (oV (aLst (lCons (oV (aC (.str "NoSpan"))) lNil))) lNil)))))) (tV (a2 vNeS (oV (aBlt fRepr (lCons (oVar 3) lNil))) (oVar 4))))
    (sRet (aC (.bool false)))
    sNx)))))))
    (sRet (aC (.bool true))))
theorem okA_law {P : Program} {w : World} {K : PySem.W.Frag} {mg : Str → Option Value} {base : Heap} {f f__law_deck f__law_line f__law_span f__law_due f__law_answer f__law_same f__law_unlike f__law_ranked f__law_bad_span : Addr} {fd d__law_deck d__law_line d__law_span d__law_due d__law_answer d__law_same d__law_unlike d__law_ranked d__law_bad_span : FuncData} {cc : Nat → Addr} {m : Nat} (F : Fun K "law" "law" s_law f fd)
    (k__law_deck : PySem.W.keepIn K (.ref f__law_deck) = true) (b__law_deck : Binds K d__law_deck ["_law_script"] []) (g__law_deck : mg "_law_deck" = some (.ref f__law_deck)) (G__law_deck : FnOk P w K mg base CX0 m f__law_deck d__law_deck ["_law_script"] (spDeck K))
    (k__law_line : PySem.W.keepIn K (.ref f__law_line) = true) (b__law_line : Binds K d__law_line ["_law_deck_here", "_law_dishes"] []) (g__law_line : mg "_law_line" = some (.ref f__law_line)) (G__law_line : FnOk P w K mg base CX0 m f__law_line d__law_line ["_law_deck_here", "_law_dishes"] (spA [.deck, .dat] F__law_line))
    (k__law_span : PySem.W.keepIn K (.ref f__law_span) = true) (b__law_span : Binds K d__law_span ["_law_deck_here", "_law_line_here"] []) (g__law_span : mg "_law_span" = some (.ref f__law_span)) (G__law_span : FnOk P w K mg base CX0 m f__law_span d__law_span ["_law_deck_here", "_law_line_here"] (spA [.deck, .dat] F__law_span))
    (k__law_due : PySem.W.keepIn K (.ref f__law_due) = true) (b__law_due : Binds K d__law_due ["_law_line_here", "_law_low", "_law_high"] []) (g__law_due : mg "_law_due" = some (.ref f__law_due)) (G__law_due : FnOk P w K mg base CX0 m f__law_due d__law_due ["_law_line_here", "_law_low", "_law_high"] (spA [.dat, .dat, .dat] F__law_due))
    (k__law_answer : PySem.W.keepIn K (.ref f__law_answer) = true) (b__law_answer : Binds K d__law_answer ["_law_door", "_law_line_here", "_law_low", "_law_high"] []) (g__law_answer : mg "_law_answer" = some (.ref f__law_answer)) (G__law_answer : FnOk P w K mg base CX0 m f__law_answer d__law_answer ["_law_door", "_law_line_here", "_law_low", "_law_high"] (spA [.dat, .dat, .dat, .dat] (F__law_answer cc)))
    (k__law_same : PySem.W.keepIn K (.ref f__law_same) = true) (b__law_same : Binds K d__law_same ["_law_found", "_law_due_here"] []) (g__law_same : mg "_law_same" = some (.ref f__law_same)) (G__law_same : FnOk P w K mg base CX0 m f__law_same d__law_same ["_law_found", "_law_due_here"] (spA [.dat, .dat] (F__law_same 6)))
    (k__law_unlike : PySem.W.keepIn K (.ref f__law_unlike) = true) (b__law_unlike : Binds K d__law_unlike ["_law_one_here", "_law_other"] []) (g__law_unlike : mg "_law_unlike" = some (.ref f__law_unlike)) (G__law_unlike : FnOk P w K mg base CX0 m f__law_unlike d__law_unlike ["_law_one_here", "_law_other"] (spA [.dat, .dat] F__law_unlike))
    (k__law_ranked : PySem.W.keepIn K (.ref f__law_ranked) = true) (b__law_ranked : Binds K d__law_ranked ["_law_line_here", "_law_t"] []) (g__law_ranked : mg "_law_ranked" = some (.ref f__law_ranked)) (G__law_ranked : FnOk P w K mg base CX0 m f__law_ranked d__law_ranked ["_law_line_here", "_law_t"] (spA [.dat, .dat] F__law_ranked))
    (k__law_bad_span : PySem.W.keepIn K (.ref f__law_bad_span) = true) (b__law_bad_span : Binds K d__law_bad_span ["_law_deck_here"] []) (g__law_bad_span : mg "_law_bad_span" = some (.ref f__law_bad_span)) (G__law_bad_span : FnOk P w K mg base CX0 m f__law_bad_span d__law_bad_span ["_law_deck_here"] (spA [.deck] F__law_bad_span))
    (m_range : mg "range" = none) (m_repr : mg "repr" = none) (m_len : mg "len" = none) (hb : lawF 9 (b_law cc F__law_line F__law_span F__law_due (F__law_answer cc) (F__law_same 6) F__law_unlike F__law_ranked F__law_bad_span)) : RunG P w K mg base (m + 1) f fd ["_law_script"] (spLaw K) :=
  law_okG F scA_law rfl hb fun cdv A outer s H E hgd hr =>
    pss_cons (ps_asg (pe_call G__law_deck hr (by rfl) g__law_deck k__law_deck b__law_deck .nil pass0 (pa_cons (pv 0) pa_nil)) (pg_name (i := 1) scA_law.nd rfl (.inl rfl)))
      (as_cons (as_for PassesOwn.never rfl (ai_range1 (by rfl) m_range (la_cons (ao_V ae_int) la_nil)) (ag_name (pg_name (i := 2) scA_law.nd rfl (.inl rfl))) (as_cons (as_set (i := 3) scA_law.nd rfl (.inr rfl) (ae_call G__law_line hr (by rfl) g__law_line k__law_line b__law_line (la_cons (ao_var 1 (pv 1)) (la_cons (ao_V ae_int) la_nil))))
      (as_cons (as_set (i := 4) scA_law.nd rfl (.inl rfl) (ae_blt dc_repr (pe_callB (call_reprA hgd (u64 hr)) (by rfl) m_repr (by decide +kernel) (la_cons (ao_var 3 (pv 3)) la_nil))))
      (as_cons (as_for PassesOwn.never rfl (ai_range1 (by rfl) m_range (la_cons (ao_V ae_int) la_nil)) (ag_name (pg_name (i := 5) scA_law.nd rfl (.inl rfl))) (as_cons (as_asg (ae_call G__law_span hr (by rfl) g__law_span k__law_span b__law_span (la_cons (ao_var 1 (pv 1)) (la_cons (ao_V (ae_var 3 (pv 3))) la_nil))) (ag_tup (by rfl) (ags_cons (ag_name (pg_name (i := 6) scA_law.nd rfl (.inr rfl))) (ags_cons (ag_name (pg_name (i := 7) scA_law.nd rfl (.inr rfl))) ags_nil))))
      (as_cons (as_set (i := 8) scA_law.nd rfl (.inl rfl) (ae_call0 G__law_due (by decide) hr (by rfl) g__law_due k__law_due b__law_due (la_cons (ao_V (ae_var 3 (pv 3))) (la_cons (ao_V (ae_var 6 (pv 6))) (la_cons (ao_V (ae_var 7 (pv 7))) la_nil)))))
      (as_cons (as_setLc 9 rfl rfl (sw_true rfl rfl rfl (by decide +kernel)) (own := [("_law_door", 10)]) (by rfl) scA_law.nd (ai_seq (ao_V (ae_tup (la_cons (ao_V ae_int) (la_cons (ao_V ae_int) la_nil))))) (blkOk_by (own := [("_law_door", 10)]) (N := ["_law_script", "_law_deck_here", "_law_turn", "_law_line_here", "_law_kept", "_law_k", "_law_low", "_law_high", "_law_due_here", "_law_found", "_law_door"]) (sc := defScope s_law) (by decide +kernel)) (fun _ _ _ _ _ => (ag_name (pg_name (i := 10) scA_law.nd rfl (Or.inl rfl)))) (fun _ _ _ _ _ => ts_nil) (fun _ _ _ _ _ => (ae_call0 G__law_answer (by decide) hr (by rfl) g__law_answer k__law_answer b__law_answer (la_cons (ao_V (ae_var 10 (pv 10))) (la_cons (ao_V (ae_var 3 (pv 3))) (la_cons (ao_V (ae_var 6 (pv 6))) (la_cons (ao_V (ae_var 7 (pv 7))) la_nil)))))))
      (as_cons (as_if (at_not (at_tru (ao_V (ae_call0 G__law_same (by decide) hr (by rfl) g__law_same k__law_same b__law_same (la_cons (ao_V (ae_var 9 (pv 9))) (la_cons (ao_V (ae_F (af_lst 0 (la_cons (ao_V (ae_F (af_lst 0 (la_cons (ao_V ae_str) (la_cons (ao_V (ae_var 8 (pv 8))) la_nil))))) (la_cons (ao_V (ae_F (af_lst 0 (la_cons (ao_V ae_str) (la_cons (ao_V (ae_blt dc_len (pe_callB call_len (by rfl) m_len PySem.boot_len (la_cons (ao_var 8 (pv 8)) la_nil)))) la_nil))))) la_nil))))) la_nil)))))) (as_one (as_ret ae_bl)) as_nil)
      (as_one (as_if (cmp_test dop_ne (op_neA hr.units) (ao_V (ae_blt dc_len (pe_callB call_len (by rfl) m_len PySem.boot_len (la_cons (ao_V (ae_call0 G__law_unlike (by decide) hr (by rfl) g__law_unlike k__law_unlike b__law_unlike (la_cons (ao_V (ae_call0 G__law_ranked (by decide) hr (by rfl) g__law_ranked k__law_ranked b__law_ranked (la_cons (ao_V (ae_var 3 (pv 3))) (la_cons (ao_V (ae_var 6 (pv 6))) la_nil)))) (la_cons (ao_V (ae_call0 G__law_ranked (by decide) hr (by rfl) g__law_ranked k__law_ranked b__law_ranked (la_cons (ao_V (ae_var 3 (pv 3))) (la_cons (ao_V (ae_var 7 (pv 7))) la_nil)))) la_nil)))) la_nil)))) (ao_V (ae_blt dc_len (pe_callB call_len (by rfl) m_len PySem.boot_len (la_cons (ao_var 8 (pv 8)) la_nil)))) (nomark _)) (as_one (as_ret ae_bl)) as_nil)))))))
      (as_cons (as_asg (ae_call G__law_bad_span hr (by rfl) g__law_bad_span k__law_bad_span b__law_bad_span (la_cons (ao_var 1 (pv 1)) la_nil)) (ag_tup (by rfl) (ags_cons (ag_name (pg_name (i := 6) scA_law.nd rfl (.inr rfl))) (ags_cons (ag_name (pg_name (i := 7) scA_law.nd rfl (.inr rfl))) ags_nil))))
      (as_cons (as_setLc 9 rfl rfl (sw_true rfl rfl rfl (by decide +kernel)) (own := [("_law_door", 10)]) (by rfl) scA_law.nd (ai_seq (ao_V (ae_tup (la_cons (ao_V ae_int) (la_cons (ao_V ae_int) la_nil))))) (blkOk_by (own := [("_law_door", 10)]) (N := ["_law_script", "_law_deck_here", "_law_turn", "_law_line_here", "_law_kept", "_law_k", "_law_low", "_law_high", "_law_due_here", "_law_found", "_law_door"]) (sc := defScope s_law) (by decide +kernel)) (fun _ _ _ _ _ => (ag_name (pg_name (i := 10) scA_law.nd rfl (Or.inl rfl)))) (fun _ _ _ _ _ => ts_nil) (fun _ _ _ _ _ => (ae_call0 G__law_answer (by decide) hr (by rfl) g__law_answer k__law_answer b__law_answer (la_cons (ao_V (ae_var 10 (pv 10))) (la_cons (ao_V (ae_var 3 (pv 3))) (la_cons (ao_V (ae_var 6 (pv 6))) (la_cons (ao_V (ae_var 7 (pv 7))) la_nil)))))))
      (as_one (as_if (PW.pt (aw_or (cmp_test dop_ne (op_neA hr.units) (ao_var 9 (pv 9)) (ao_V (ae_F (af_lst 0 (la_cons (ao_V (ae_F (af_lst 0 (la_cons (ao_V ae_str) la_nil)))) (la_cons (ao_V (ae_F (af_lst 0 (la_cons (ao_V ae_str) la_nil)))) la_nil))))) (nomark _)) (aw_or1 (cmp_test dop_neS op_ne (ao_V (ae_blt dc_repr (pe_callB (call_reprA hgd (u64 hr)) (by rfl) m_repr (by decide +kernel) (la_cons (ao_var 3 (pv 3)) la_nil)))) (ao_var 4 (pv 4)) (nomark _))))) (as_one (as_ret ae_bl)) as_nil))))))))
      (as_one (as_ret ae_bl)))

end TR
namespace TR
open PySem PySem.Spec PyProof.Rows L2
def v_is_whole (a0 : PyData) : Bool := ((isNum a0) && (!(isBoo a0)))
def nb_is_whole : AST := (sRet (aAnd (aIsi "int" (oVar 0)) (aNot (aIsi "bool" (oVar 0)))))
theorem okS_is_whole {xp : XP} {D : AEnds} {n : Nat} (a0 : PyData)  (hq : D.rt (PyData.bool (v_is_whole a0)) n) : nb_is_whole xp D ⟨[some (.dat a0)], n⟩ := by
  unfold v_is_whole at hq; unfold nb_is_whole
  exact (c_ret (ev_and (ev_isi (ov_dat 0 rfl) rfl isi_int) (fun h1_ => (ev_not (ev_isi (ov_dat 0 rfl) rfl isi_bool)))) hq)
theorem okV_is_whole (a0 : PyData) : PFn F_is_whole [a0] (PyData.bool (v_is_whole a0)) := fun n Q X q => by
  unfold F_is_whole
  exact okS_is_whole (xp := fun x s => X x s.n) (D := { nx := fun s => Q .none s.n, rt := Q }) a0 q

def v_is_within (a0 : PyData) (a1 : Int) (a2 : Int) : Bool := ((v_is_whole a0) && ((decide (a1 ≤ (dI a0))) && (decide ((dI a0) ≤ a2))))
def C_is_within (a0 : PyData) (a1 : Int) (a2 : Int) : Prop := ((v_is_whole a0) = true → a0 = (PyData.int (dI a0)))
def nb_is_within : AST := (sRet (aAnd (aCall0 [.dat] (calm F_is_whole) (lCons (oV (aVar 0)) lNil)) (a3 vLe vLe (oVar 1) (oVar 0) (oVar 2))))
theorem okS_is_within {xp : XP} {D : AEnds} {n : Nat} (a0 : PyData) (a1 : Int) (a2 : Int)  (hC : C_is_within a0 a1 a2) (hq : D.rt (PyData.bool (v_is_within a0 a1 a2)) n) : nb_is_within xp D ⟨[some (.dat a0), some (.dat (PyData.int a1)), some (.dat (PyData.int a2))], n⟩ := by
  unfold C_is_within at hC; unfold v_is_within at hq; unfold nb_is_within
  exact (c_ret (ev_and (ev_call0 (lv_cons (ov_V (ev_var 0 rfl)) lv_nil) (fun _ q => q) (okV_is_whole a0)) (fun h1_ => (ev_a3 (ov_dat 1 rfl) (ov_cast (ov_dat 0 rfl) (hC h1_)) rfl rfl vf_leI (fun h2_ => (ov_dat 2 rfl)) rfl (fun h2_ => vf_leI)))) hq)
theorem okV_is_within (a0 : PyData) (a1 : Int) (a2 : Int) (hC : C_is_within a0 a1 a2) : PFn F_is_within [a0, (PyData.int a1), (PyData.int a2)] (PyData.bool (v_is_within a0 a1 a2)) := fun n Q X q => by
  unfold F_is_within
  exact okS_is_within (xp := fun x s => X x s.n) (D := { nx := fun s => Q .none s.n, rt := Q }) a0 a1 a2 hC q

def v_ascending_tuples_s1 (a0 : Int) (a1 : Int) (a2 : (List (List Int))) : (List (List Int)) := (forV (fun (k3_ : ((List (List Int))) → (List (List Int))) (x2_ : Int) (w1_ : (List (List Int))) => (k3_ (((w1_.filter (fun x5_ : (List Int) => true)).flatMap fun x5_ : (List Int) => (((irange (bif (!x5_.isEmpty) then ((gl x5_) + (1 : Int)) else (0 : Int)) a0)).filter (fun y7_ : Int => true)).map fun y7_ : Int => (x5_ ++ [y7_]))))) (fun (w1_ : (List (List Int))) => w1_) (irange 0 a1) (a2))
def C_ascending_tuples_s1 (a0 : Int) (a1 : Int) (a2 : (List (List Int))) : Prop := (Rg a1 ∧ forV (fun (kC4_ : ((List (List Int))) → Prop) (x2_ : Int) (w1_ : (List (List Int))) => (((w1_.filter (fun x5_ : (List Int) => true)).flatMap fun x5_ : (List Int) => ((irange (bif (!x5_.isEmpty) then ((gl x5_) + (1 : Int)) else (0 : Int)) a0)).filter (fun y7_ : Int => true)).length ≤ sizeLine ∧ (∀ x5_ ∈ w1_, (((!x5_.isEmpty) = true → x5_ ≠ []) ∧ (Rg (bif (!x5_.isEmpty) then ((gl x5_) + (1 : Int)) else (0 : Int)) ∧ Rg a0) ∧ (∀ y7_ ∈ (irange (bif (!x5_.isEmpty) then ((gl x5_) + (1 : Int)) else (0 : Int)) a0), x5_.length + [y7_].length ≤ sizeLine))) ∧ kC4_ (((w1_.filter (fun x5_ : (List Int) => true)).flatMap fun x5_ : (List Int) => (((irange (bif (!x5_.isEmpty) then ((gl x5_) + (1 : Int)) else (0 : Int)) a0)).filter (fun y7_ : Int => true)).map fun y7_ : Int => (x5_ ++ [y7_]))))) (fun (w1_ : (List (List Int))) => True) (irange 0 a1) (a2))
def nb_ascending_tuples_s1 : AST := (sSeq (sFor (iRange1 (lCons (oVar 1) lNil)) (bNm 3)
    (sSet 2 (aLc2 (iSeq (oVar 2)) (bNm 4) tYesA (iRange2 (lCons (oV (aIfE (tTruA (oVar 4)) (a2 vAdd (oV (a2 vIx (oVar 4) (oV (aNeg (oV (aC (.int 1))))))) (oV (aC (.int 1)))) (aC (.int 0)))) (lCons (oVar 0) lNil))) (bNm 5) tYesA (a2 vAdd (oVar 4) (oV (aTup (lCons (oV (aVar 5)) lNil)))) [4, 5] [5])))
    (sRetV 2))
theorem okS_ascending_tuples_s1 {xp : XP} {D : AEnds} {n : Nat} (a0 : Int) (a1 : Int) (a2 : (List (List Int)))  (hC : C_ascending_tuples_s1 a0 a1 a2) (hq : D.rt (eL (eQ PyData.int) (v_ascending_tuples_s1 a0 a1 a2)) n) : nb_ascending_tuples_s1 xp D ⟨[some (.dat (PyData.int a0)), some (.dat (PyData.int a1)), some (.dat (eL (eQ PyData.int) a2)), none, none, none], n⟩ := by
  unfold C_ascending_tuples_s1 at hC; unfold v_ascending_tuples_s1 at hq; unfold nb_ascending_tuples_s1
  exact (c_seq (c_for (R := fun r => D.rt (eL (eQ PyData.int) r) n) PyData.int (fun (w1_ : (List (List Int))) (s : AS) => ∃ (q3 : Option AV), s = ⟨[some (.dat (PyData.int a0)), some (.dat (PyData.int a1)), some (.dat (eL (eQ PyData.int) w1_)), q3, none, none], n⟩) (iv_range1 (lv_cons (ov_dat 1 rfl) lv_nil) (fun _ q => q) hC.1) ⟨none, rfl⟩ hC.2 hq (fun x2_ w1_ s_ k3_ kC4_ N_ hi_ hC_ hq_ hN_ => by
    obtain ⟨q3, e_⟩ := hi_
    subst e_
    exact (g_bv ((bv_nm 3).to rfl) (c_set (ev_lc2 (eQ PyData.int) PyData.int (fun x5_ : (List Int) => true) (fun (x5_ : (List Int)) (y7_ : Int) => true) (fun x5_ : (List Int) => (irange (bif (!x5_.isEmpty) then ((gl x5_) + (1 : Int)) else (0 : Int)) a0)) (eQ PyData.int) (fun (x5_ : (List Int)) (y7_ : Int) => (x5_ ++ [y7_])) (fun x5_ : (List Int) => (⟨[some (.dat (PyData.int a0)), some (.dat (PyData.int a1)), some (.dat (eL (eQ PyData.int) w1_)), some (.dat (PyData.int x2_)), some (.dat (eQ PyData.int x5_)), none], n⟩ : AS)) (fun (x5_ : (List Int)) (y7_ : Int) => (⟨[some (.dat (PyData.int a0)), some (.dat (PyData.int a1)), some (.dat (eL (eQ PyData.int) w1_)), some (.dat (PyData.int x2_)), some (.dat (eQ PyData.int x5_)), some (.dat (PyData.int y7_))], n⟩ : AS)) (fun (x5_ : (List Int)) (y7_ : Int) => (⟨[some (.dat (PyData.int a0)), some (.dat (PyData.int a1)), some (.dat (eL (eQ PyData.int) w1_)), some (.dat (PyData.int x2_)), some (.dat (eQ PyData.int x5_)), some (.dat (PyData.int y7_))], n⟩ : AS)) (fun x5_ : (List Int) => AIt.fix (((irange (bif (!x5_.isEmpty) then ((gl x5_) + (1 : Int)) else (0 : Int)) a0)).map PyData.int)) (iv_valL (f := (eQ PyData.int)) (ov_dat 2 rfl)) hC_.1 rfl True.intro (fun x5_ hx6_ => ((bv_nm 4).to rfl)) (fun x5_ hx6_ => tv_yes) (fun x5_ hx6_ h9_ => (iv_range2 (lv_cons (ov_V (ev_if (x := ((gl x5_) + (1 : Int))) (y := (0 : Int)) PyData.int (tv_tru (ov_dat 4 rfl) rfl (tru_Q (f := PyData.int))) (fun h10_ => (ev_a2 (ov_V (ev_a2 (ov_dat 4 rfl) (ov_V ev_neg1) rfl rfl (vf_ixQl (f := PyData.int) ((hC_.2.1 x5_ hx6_).1 h10_)))) (ov_V ev_c) rfl rfl vf_addI)) (fun h10_ => ev_c))) (lv_cons (ov_dat 0 rfl) lv_nil)) (fun _ q => q) (hC_.2.1 x5_ hx6_).2.1)) (fun x5_ hx6_ h9_ => ⟨rfl, True.intro⟩) (fun x5_ hx6_ h9_ y7_ hy8_ => ((bv_nm 5).to rfl)) (fun x5_ hx6_ h9_ y7_ hy8_ => tv_yes) (fun x5_ hx6_ h9_ y7_ hy8_ h11_ => (ev_a2 (ov_dat 4 rfl) (ov_V (ev_tup (lv_cons (ov_V (ev_var 5 rfl)) lv_nil) (fun _ q => q) rfl)) rfl rfl (vf_addQ (f := PyData.int) ((hC_.2.1 x5_ hx6_).2.2 y7_ hy8_)))) (fun _ _ _ _ => ⟨rfl, rfl⟩) (fun _ _ => rfl)) rfl (hN_ (((w1_.filter (fun x5_ : (List Int) => true)).flatMap fun x5_ : (List Int) => (((irange (bif (!x5_.isEmpty) then ((gl x5_) + (1 : Int)) else (0 : Int)) a0)).filter (fun y7_ : Int => true)).map fun y7_ : Int => (x5_ ++ [y7_]))) _ ⟨some (.dat (PyData.int x2_)), rfl⟩ hC_.2.2 hq_)))) (fun w1_ s_ hi_ hA_ hqa_ => by
    obtain ⟨q3, e_⟩ := hi_
    subst e_
    exact (c_aft (c_retV 2 rfl hqa_)))))
def v_ascending_tuples (a0 : Int) (a1 : Int) : (List (List Int)) := (v_ascending_tuples_s1 a0 a1 ([[]] : (List (List Int))))
def C_ascending_tuples (a0 : Int) (a1 : Int) : Prop := C_ascending_tuples_s1 a0 a1 ([[]] : (List (List Int)))
def nb_ascending_tuples : AST := (sSeq (sSet 2 (aLst (lCons (oV (aTup lNil)) lNil)))
    (sSeq (sFor (iRange1 (lCons (oVar 1) lNil)) (bNm 3)
    (sSet 2 (aLc2 (iSeq (oVar 2)) (bNm 4) tYesA (iRange2 (lCons (oV (aIfE (tTruA (oVar 4)) (a2 vAdd (oV (a2 vIx (oVar 4) (oV (aNeg (oV (aC (.int 1))))))) (oV (aC (.int 1)))) (aC (.int 0)))) (lCons (oVar 0) lNil))) (bNm 5) tYesA (a2 vAdd (oVar 4) (oV (aTup (lCons (oV (aVar 5)) lNil)))) [4, 5] [5])))
    (sRetV 2)))
theorem okS_ascending_tuples {xp : XP} {D : AEnds} {n : Nat} (a0 : Int) (a1 : Int)  (hC : C_ascending_tuples a0 a1) (hq : D.rt (eL (eQ PyData.int) (v_ascending_tuples a0 a1)) n) : nb_ascending_tuples xp D ⟨[some (.dat (PyData.int a0)), some (.dat (PyData.int a1)), none, none, none, none], n⟩ := by
  unfold C_ascending_tuples at hC; unfold v_ascending_tuples at hq; unfold nb_ascending_tuples
  exact (c_seq (c_set (ev_lst (lv_cons (ov_V (ev_tup lv_nil (fun _ q => q) rfl)) lv_nil) (fun _ q => q) rfl) rfl (c_aft (okS_ascending_tuples_s1 a0 a1 ([[]] : (List (List Int)))  hC hq))))
theorem okV_ascending_tuples (a0 : Int) (a1 : Int) (hC : C_ascending_tuples a0 a1) : PFn F_ascending_tuples [(PyData.int a0), (PyData.int a1)] (eL (eQ PyData.int) (v_ascending_tuples a0 a1)) := fun n Q X q => by
  unfold F_ascending_tuples
  exact okS_ascending_tuples (xp := fun x s => X x s.n) (D := { nx := fun s => Q .none s.n, rt := Q }) a0 a1 hC q

def v_all_pairs (a0 : Int) : (List (List Int)) := (v_ascending_tuples a0 (2 : Int))
def C_all_pairs (a0 : Int) : Prop := C_ascending_tuples a0 (2 : Int)
def nb_all_pairs : AST := (sRet (aCall0 [.dat, .dat] (calm F_ascending_tuples) (lCons (oV (aVar 0)) (lCons (oV (aC (.int 2))) lNil))))
theorem okS_all_pairs {xp : XP} {D : AEnds} {n : Nat} (a0 : Int)  (hC : C_all_pairs a0) (hq : D.rt (eL (eQ PyData.int) (v_all_pairs a0)) n) : nb_all_pairs xp D ⟨[some (.dat (PyData.int a0))], n⟩ := by
  unfold C_all_pairs at hC; unfold v_all_pairs at hq; unfold nb_all_pairs
  exact (c_ret (ev_call0 (lv_cons (ov_V (ev_var 0 rfl)) (lv_cons (ov_V ev_c) lv_nil)) (fun _ q => q) (okV_ascending_tuples a0 (2 : Int) hC)) hq)
theorem okV_all_pairs (a0 : Int) (hC : C_all_pairs a0) : PFn F_all_pairs [(PyData.int a0)] (eL (eQ PyData.int) (v_all_pairs a0)) := fun n Q X q => by
  unfold F_all_pairs
  exact okS_all_pairs (xp := fun x s => X x s.n) (D := { nx := fun s => Q .none s.n, rt := Q }) a0 hC q

def v_is_place (a0 : PyData) : Bool := (v_is_within a0 (0 : Int) (1000000000000 : Int))
def C_is_place (a0 : PyData) : Prop := C_is_within a0 (0 : Int) (1000000000000 : Int)
def nb_is_place : AST := (sRet (aCall0 [.dat, .dat, .dat] (calm F_is_within) (lCons (oV (aVar 0)) (lCons (oV (aC (.int 0))) (lCons (oV (aC (.int 1000000000000))) lNil)))))
theorem okS_is_place {xp : XP} {D : AEnds} {n : Nat} (a0 : PyData)  (hC : C_is_place a0) (hq : D.rt (PyData.bool (v_is_place a0)) n) : nb_is_place xp D ⟨[some (.dat a0)], n⟩ := by
  unfold C_is_place at hC; unfold v_is_place at hq; unfold nb_is_place
  exact (c_ret (ev_call0 (lv_cons (ov_V (ev_var 0 rfl)) (lv_cons (ov_V ev_c) (lv_cons (ov_V ev_c) lv_nil))) (fun _ q => q) (okV_is_within a0 (0 : Int) (1000000000000 : Int) hC)) hq)
theorem okV_is_place (a0 : PyData) (hC : C_is_place a0) : PFn F_is_place [a0] (PyData.bool (v_is_place a0)) := fun n Q X q => by
  unfold F_is_place
  exact okS_is_place (xp := fun x s => X x s.n) (D := { nx := fun s => Q .none s.n, rt := Q }) a0 hC q

def v_check_span (a0 : PyData) (a1 : PyData) : (Except XN Unit) := (bif ((!(v_is_place a0)) || ((!(v_is_place a1)) || (decide ((dI a1) < (dI a0))))) then (.error ⟨8, none⟩) else (.ok ()))
def C_check_span (a0 : PyData) (a1 : PyData) : Prop := (C_is_place a0 ∧ ((!(v_is_place a0)) = false → (C_is_place a1 ∧ ((!(v_is_place a1)) = false → (a0 = (PyData.int (dI a0)) ∧ a1 = (PyData.int (dI a1)))))))
def nb_check_span (cc : Nat → Addr) : AST := (sIf (tOrA (tNotA (tTruA (oV (aCall0 [.dat] (calm F_is_place) (lCons (oV (aVar 0)) lNil))))) (tOrA (tNotA (tTruA (oV (aCall0 [.dat] (calm F_is_place) (lCons (oV (aVar 1)) lNil))))) (tV (a2 vGt (oVar 0) (oVar 1)))))
    (sRaise0 (cc 8))
    sNx)
theorem okS_check_span (cc : Nat → Addr) {xp : XP} {D : AEnds} {n : Nat} (a0 : PyData) (a1 : PyData)  (hC : C_check_span a0 a1) (hN : ∀ s : AS, s.n = n → D.rt .none n → D.nx s) (hq : resX cc D xp n eN (v_check_span a0 a1)) : nb_check_span cc xp D ⟨[some (.dat a0), some (.dat a1)], n⟩ := by
  unfold C_check_span at hC; unfold v_check_span at hq; unfold nb_check_span
  exact (c_if (tv_or (tv_not (tv_tru (ov_V (ev_call0 (lv_cons (ov_V (ev_var 0 rfl)) lv_nil) (fun _ q => q) (okV_is_place a0 hC.1))) rfl tru_B)) (fun h1_ => (tv_or (tv_not (tv_tru (ov_V (ev_call0 (lv_cons (ov_V (ev_var 1 rfl)) lv_nil) (fun _ q => q) (okV_is_place a1 (hC.2 h1_).1))) rfl tru_B)) (fun h2_ => (tv_V (ev_a2 (ov_cast (ov_dat 0 rfl) ((hC.2 h1_).2 h2_).1) (ov_cast (ov_dat 1 rfl) ((hC.2 h1_).2 h2_).2) rfl rfl vf_gtI)))))) (fun h3_ => (c_raise0 ((ifTx h3_ hq) _ rfl))) (fun h3_ => (c_pass (hN _ rfl (ifFx h3_ hq)))))
theorem okV_check_span (cc : Nat → Addr) (a0 : PyData) (a1 : PyData) (hC : C_check_span a0 a1) : PFx cc (F_check_span cc) [a0, a1] eN (v_check_span a0 a1) := fun n Q X q => by
  unfold F_check_span
  exact okS_check_span cc (xp := fun x s => X x s.n) (D := { nx := fun s => Q .none s.n, rt := Q }) a0 a1 hC (fun s e q => by show Q .none s.n; rw [e]; exact q) (by cases h : v_check_span a0 a1 with | ok r => rw [h] at q; exact q | error x => rw [h] at q; exact fun s e => by show X _ s.n; rw [e]; exact q)

def v_change_of_s4 (a4 : Int) (a5 : Int) : (Option Int) := (bif (decide (a5 < (0 : Int))) then (some ((a4 / (-a5)) + (1 : Int))) else none)
def C_change_of_s4 (a4 : Int) (a5 : Int) : Prop := ((decide (a5 < (0 : Int))) = true → CDivW a4 (-a5))
def nb_change_of_s4 : AST := (sSeq (sIf (tV (a2 vLt (oVar 5) (oV (aC (.int 0)))))
    (sRet (a2 vAdd (oV (a2 vDiv (oVar 4) (oV (aNeg (oVar 5))))) (oV (aC (.int 1)))))
    sNx)
    (sRet (aC .none)))
theorem okS_change_of_s4 {xp : XP} {D : AEnds} {n : Nat} (a4 : Int) (a5 : Int) (j0 : Option AV) (j1 : Option AV) (j2 : Option AV) (j3 : Option AV) (hC : C_change_of_s4 a4 a5) (hq : D.rt (eM PyData.int (v_change_of_s4 a4 a5)) n) : nb_change_of_s4 xp D ⟨[j0, j1, j2, j3, some (.dat (PyData.int a4)), some (.dat (PyData.int a5))], n⟩ := by
  unfold C_change_of_s4 at hC; unfold v_change_of_s4 at hq; unfold nb_change_of_s4
  exact (c_seq (c_if (tv_V (ev_a2 (ov_dat 5 rfl) (ov_V ev_c) rfl rfl vf_ltI)) (fun h2_ => (c_ret (ev_a2 (ov_V (ev_a2 (ov_dat 4 rfl) (ov_V (ev_neg (ov_dat 5 rfl) rfl)) rfl rfl (vf_divI (hC h2_)))) (ov_V ev_c) rfl rfl vf_addI) (ifT (P := D) (f := (eM PyData.int)) h2_ hq))) (fun h2_ => (c_pass (c_aft (c_ret ev_c (ifF (P := D) (f := (eM PyData.int)) h2_ hq)))))))
def v_change_of_s3 (a4 : Int) (a5 : Int) : (Option Int) := (bif (decide ((0 : Int) < a5)) then (some (-(a4 / a5))) else (v_change_of_s4 a4 a5))
def C_change_of_s3 (a4 : Int) (a5 : Int) : Prop := (((decide ((0 : Int) < a5)) = true → CDivW a4 a5) ∧ ((decide ((0 : Int) < a5)) = false → C_change_of_s4 a4 a5))
def nb_change_of_s3 : AST := (sSeq (sIf (tV (a2 vGt (oVar 5) (oV (aC (.int 0)))))
    (sRet (aNeg (oV (a2 vDiv (oVar 4) (oVar 5)))))
    sNx)
    (sSeq (sIf (tV (a2 vLt (oVar 5) (oV (aC (.int 0)))))
    (sRet (a2 vAdd (oV (a2 vDiv (oVar 4) (oV (aNeg (oVar 5))))) (oV (aC (.int 1)))))
    sNx)
    (sRet (aC .none))))
theorem okS_change_of_s3 {xp : XP} {D : AEnds} {n : Nat} (a4 : Int) (a5 : Int) (j0 : Option AV) (j1 : Option AV) (j2 : Option AV) (j3 : Option AV) (hC : C_change_of_s3 a4 a5) (hq : D.rt (eM PyData.int (v_change_of_s3 a4 a5)) n) : nb_change_of_s3 xp D ⟨[j0, j1, j2, j3, some (.dat (PyData.int a4)), some (.dat (PyData.int a5))], n⟩ := by
  unfold C_change_of_s3 at hC; unfold v_change_of_s3 at hq; unfold nb_change_of_s3
  exact (c_seq (c_if (tv_V (ev_a2 (ov_dat 5 rfl) (ov_V ev_c) rfl rfl vf_gtI)) (fun h1_ => (c_ret (ev_neg (ov_V (ev_a2 (ov_dat 4 rfl) (ov_dat 5 rfl) rfl rfl (vf_divI (hC.1 h1_)))) rfl) (ifT (P := D) (f := (eM PyData.int)) h1_ hq))) (fun h1_ => (c_pass (c_aft (okS_change_of_s4 a4 a5 (j0) (j1) (j2) (j3) (hC.2 h1_) (ifF (P := D) (f := (eM PyData.int)) h1_ hq)))))))
def v_change_of_s2 (a0 : (List (Int × Int))) (a2 : Int) (a3 : Int) (a4 : Int) : (Option Int) := (v_change_of_s3 a4 ((gt a0 a2).2 - (gt a0 a3).2))
def C_change_of_s2 (a0 : (List (Int × Int))) (a2 : Int) (a3 : Int) (a4 : Int) : Prop := (Ixr a0 a2 ∧ Ixr a0 a3 ∧ C_change_of_s3 a4 ((gt a0 a2).2 - (gt a0 a3).2))
def nb_change_of_s2 : AST := (sSeq (sSet 5 (a2 vSub (oV (a2 vIx (oV (a2 vIx (oVar 0) (oVar 2))) (oV (aC (.int 1))))) (oV (a2 vIx (oV (a2 vIx (oVar 0) (oVar 3))) (oV (aC (.int 1)))))))
    (sSeq (sIf (tV (a2 vGt (oVar 5) (oV (aC (.int 0)))))
    (sRet (aNeg (oV (a2 vDiv (oVar 4) (oVar 5)))))
    sNx)
    (sSeq (sIf (tV (a2 vLt (oVar 5) (oV (aC (.int 0)))))
    (sRet (a2 vAdd (oV (a2 vDiv (oVar 4) (oV (aNeg (oVar 5))))) (oV (aC (.int 1)))))
    sNx)
    (sRet (aC .none)))))
theorem okS_change_of_s2 {xp : XP} {D : AEnds} {n : Nat} (a0 : (List (Int × Int))) (a2 : Int) (a3 : Int) (a4 : Int) (j1 : Option AV) (hC : C_change_of_s2 a0 a2 a3 a4) (hq : D.rt (eM PyData.int (v_change_of_s2 a0 a2 a3 a4)) n) : nb_change_of_s2 xp D ⟨[some (.dat (eQ (eP PyData.int PyData.int) a0)), j1, some (.dat (PyData.int a2)), some (.dat (PyData.int a3)), some (.dat (PyData.int a4)), none], n⟩ := by
  unfold C_change_of_s2 at hC; unfold v_change_of_s2 at hq; unfold nb_change_of_s2
  exact (c_seq (c_set (ev_a2 (ov_V (ev_a2 (ov_V (ev_a2 (ov_dat 0 rfl) (ov_dat 2 rfl) rfl rfl (vf_ixQ (f := (eP PyData.int PyData.int)) hC.1))) (ov_V ev_c) rfl rfl (vf_ixT at_1))) (ov_V (ev_a2 (ov_V (ev_a2 (ov_dat 0 rfl) (ov_dat 3 rfl) rfl rfl (vf_ixQ (f := (eP PyData.int PyData.int)) hC.2.1))) (ov_V ev_c) rfl rfl (vf_ixT at_1))) rfl rfl vf_subI) rfl (c_aft (okS_change_of_s3 a4 ((gt a0 a2).2 - (gt a0 a3).2) (some (.dat (eQ (eP PyData.int PyData.int) a0))) (j1) (some (.dat (PyData.int a2))) (some (.dat (PyData.int a3))) hC.2.2 hq))))
def v_change_of_s1 (a0 : (List (Int × Int))) (a2 : Int) (a3 : Int) : (Option Int) := (v_change_of_s2 a0 a2 a3 ((gt a0 a2).1 - (gt a0 a3).1))
def C_change_of_s1 (a0 : (List (Int × Int))) (a2 : Int) (a3 : Int) : Prop := (Ixr a0 a2 ∧ Ixr a0 a3 ∧ C_change_of_s2 a0 a2 a3 ((gt a0 a2).1 - (gt a0 a3).1))
def nb_change_of_s1 : AST := (sSeq (sSet 4 (a2 vSub (oV (a2 vIx (oV (a2 vIx (oVar 0) (oVar 2))) (oV (aC (.int 0))))) (oV (a2 vIx (oV (a2 vIx (oVar 0) (oVar 3))) (oV (aC (.int 0)))))))
    (sSeq (sSet 5 (a2 vSub (oV (a2 vIx (oV (a2 vIx (oVar 0) (oVar 2))) (oV (aC (.int 1))))) (oV (a2 vIx (oV (a2 vIx (oVar 0) (oVar 3))) (oV (aC (.int 1)))))))
    (sSeq (sIf (tV (a2 vGt (oVar 5) (oV (aC (.int 0)))))
    (sRet (aNeg (oV (a2 vDiv (oVar 4) (oVar 5)))))
    sNx)
    (sSeq (sIf (tV (a2 vLt (oVar 5) (oV (aC (.int 0)))))
    (sRet (a2 vAdd (oV (a2 vDiv (oVar 4) (oV (aNeg (oVar 5))))) (oV (aC (.int 1)))))
    sNx)
    (sRet (aC .none))))))
theorem okS_change_of_s1 {xp : XP} {D : AEnds} {n : Nat} (a0 : (List (Int × Int))) (a2 : Int) (a3 : Int) (j1 : Option AV) (hC : C_change_of_s1 a0 a2 a3) (hq : D.rt (eM PyData.int (v_change_of_s1 a0 a2 a3)) n) : nb_change_of_s1 xp D ⟨[some (.dat (eQ (eP PyData.int PyData.int) a0)), j1, some (.dat (PyData.int a2)), some (.dat (PyData.int a3)), none, none], n⟩ := by
  unfold C_change_of_s1 at hC; unfold v_change_of_s1 at hq; unfold nb_change_of_s1
  exact (c_seq (c_set (ev_a2 (ov_V (ev_a2 (ov_V (ev_a2 (ov_dat 0 rfl) (ov_dat 2 rfl) rfl rfl (vf_ixQ (f := (eP PyData.int PyData.int)) hC.1))) (ov_V ev_c) rfl rfl (vf_ixT at_0))) (ov_V (ev_a2 (ov_V (ev_a2 (ov_dat 0 rfl) (ov_dat 3 rfl) rfl rfl (vf_ixQ (f := (eP PyData.int PyData.int)) hC.2.1))) (ov_V ev_c) rfl rfl (vf_ixT at_0))) rfl rfl vf_subI) rfl (c_aft (okS_change_of_s2 a0 a2 a3 ((gt a0 a2).1 - (gt a0 a3).1) (j1) hC.2.2 hq))))
def v_change_of (a0 : (List (Int × Int))) (a1 : (List Int)) : (Option Int) := (v_change_of_s1 a0 (gt a1 0) (gt a1 1))
def C_change_of (a0 : (List (Int × Int))) (a1 : (List Int)) : Prop := (a1.length = 2 ∧ C_change_of_s1 a0 (gt a1 0) (gt a1 1))
def nb_change_of : AST := (sSeq (sAsg (aVar 1) (bTup 2 (bCons (bNm 2) (bCons (bNm 3) bNil))))
    (sSeq (sSet 4 (a2 vSub (oV (a2 vIx (oV (a2 vIx (oVar 0) (oVar 2))) (oV (aC (.int 0))))) (oV (a2 vIx (oV (a2 vIx (oVar 0) (oVar 3))) (oV (aC (.int 0)))))))
    (sSeq (sSet 5 (a2 vSub (oV (a2 vIx (oV (a2 vIx (oVar 0) (oVar 2))) (oV (aC (.int 1))))) (oV (a2 vIx (oV (a2 vIx (oVar 0) (oVar 3))) (oV (aC (.int 1)))))))
    (sSeq (sIf (tV (a2 vGt (oVar 5) (oV (aC (.int 0)))))
    (sRet (aNeg (oV (a2 vDiv (oVar 4) (oVar 5)))))
    sNx)
    (sSeq (sIf (tV (a2 vLt (oVar 5) (oV (aC (.int 0)))))
    (sRet (a2 vAdd (oV (a2 vDiv (oVar 4) (oV (aNeg (oVar 5))))) (oV (aC (.int 1)))))
    sNx)
    (sRet (aC .none)))))))
theorem okS_change_of {xp : XP} {D : AEnds} {n : Nat} (a0 : (List (Int × Int))) (a1 : (List Int))  (hC : C_change_of a0 a1) (hq : D.rt (eM PyData.int (v_change_of a0 a1)) n) : nb_change_of xp D ⟨[some (.dat (eQ (eP PyData.int PyData.int) a0)), some (.dat (eQ PyData.int a1)), none, none, none, none], n⟩ := by
  unfold C_change_of at hC; unfold v_change_of at hq; unfold nb_change_of
  exact (c_seq (c_asg (ev_var 1 rfl) ((bv_q2 hC.1).to rfl) (c_aft (okS_change_of_s1 a0 (gt a1 0) (gt a1 1) (some (.dat (eQ PyData.int a1))) hC.2 hq))))
theorem okV_change_of (a0 : (List (Int × Int))) (a1 : (List Int)) (hC : C_change_of a0 a1) : PFn F_change_of [(eQ (eP PyData.int PyData.int) a0), (eQ PyData.int a1)] (eM PyData.int (v_change_of a0 a1)) := fun n Q X q => by
  unfold F_change_of
  exact okS_change_of (xp := fun x s => X x s.n) (D := { nx := fun s => Q .none s.n, rt := Q }) a0 a1 hC q

def v_line_changes_s1 (a0 : (List (Int × Int))) (a1 : PyData) (a2 : PyData) : (Except XN (List (Int × (List Int)))) := (.ok (srtN (eP PyData.int (eQ PyData.int)) ((((v_all_pairs ((a0.length : Nat) : Int)).map fun x2_ : (List Int) => ((v_change_of a0 x2_), x2_)).filter fun x4_ : ((Option Int) × (List Int)) => ((!x4_.1.isNone) && ((decide ((dI a1) < (om x4_.1))) && (decide ((om x4_.1) ≤ (dI a2)))))).map fun x4_ : ((Option Int) × (List Int)) => ((om x4_.1), x4_.2))))
def C_line_changes_s1 (a0 : (List (Int × Int))) (a1 : PyData) (a2 : PyData) : Prop := (C_all_pairs ((a0.length : Nat) : Int) ∧ (v_all_pairs ((a0.length : Nat) : Int)).length ≤ sizeLine ∧ (∀ x2_ ∈ (v_all_pairs ((a0.length : Nat) : Int)), C_change_of a0 x2_) ∧ ((v_all_pairs ((a0.length : Nat) : Int)).map fun x2_ : (List Int) => ((v_change_of a0 x2_), x2_)).length ≤ sizeLine ∧ (∀ x4_ ∈ ((v_all_pairs ((a0.length : Nat) : Int)).map fun x2_ : (List Int) => ((v_change_of a0 x2_), x2_)), (((!x4_.1.isNone) = true → (a1 = (PyData.int (dI a1)) ∧ x4_.1.isSome = true ∧ ((decide ((dI a1) < (om x4_.1))) = true → a2 = (PyData.int (dI a2))))) ∧ (((!x4_.1.isNone) && ((decide ((dI a1) < (om x4_.1))) && (decide ((om x4_.1) ≤ (dI a2))))) = true → x4_.1.isSome = true))) ∧ SrtOk (((((v_all_pairs ((a0.length : Nat) : Int)).map fun x2_ : (List Int) => ((v_change_of a0 x2_), x2_)).filter fun x4_ : ((Option Int) × (List Int)) => ((!x4_.1.isNone) && ((decide ((dI a1) < (om x4_.1))) && (decide ((om x4_.1) ≤ (dI a2)))))).map fun x4_ : ((Option Int) × (List Int)) => ((om x4_.1), x4_.2)).map (eP PyData.int (eQ PyData.int))))
def nb_line_changes_s1 (cc : Nat → Addr) : AST := (sSeq (sSet 3 (aLc (iSeq (oV (aCall0 [.dat] (calm F_all_pairs) (lCons (oV (aBlt fLen (lCons (oVar 0) lNil))) lNil)))) (bNm 4) tYesA (aTup (lCons (oV (aCall0 [.dat, .dat] (calm F_change_of) (lCons (oV (aVar 0)) (lCons (oV (aVar 4)) lNil)))) (lCons (oV (aVar 4)) lNil))) [4]))
    (sRet (aBlt fTuple (lCons (oV (aBlt fSorted (lCons (oV (aLc (iSeq (oVar 3)) (bTup 2 (bCons (bNm 5) (bCons (bNm 4) bNil))) (tAndA (tV (a2 vIsNot (oVar 5) (oV (aC .none)))) (tV (a3 vLt vLe (oVar 1) (oVar 5) (oVar 2)))) (aTup (lCons (oV (aVar 5)) (lCons (oV (aVar 4)) lNil))) [5, 4])) lNil))) lNil))))
theorem okS_line_changes_s1 (cc : Nat → Addr) {xp : XP} {D : AEnds} {n : Nat} (a0 : (List (Int × Int))) (a1 : PyData) (a2 : PyData)  (hC : C_line_changes_s1 a0 a1 a2) (hq : resX cc D xp n (eQ (eP PyData.int (eQ PyData.int))) (v_line_changes_s1 a0 a1 a2)) : nb_line_changes_s1 cc xp D ⟨[some (.dat (eQ (eP PyData.int PyData.int) a0)), some (.dat a1), some (.dat a2), none, none, none], n⟩ := by
  unfold C_line_changes_s1 at hC; unfold v_line_changes_s1 at hq; unfold nb_line_changes_s1
  exact (c_seq (c_set (ev_lcM (eQ PyData.int) (eP (eM PyData.int) (eQ PyData.int)) (fun x2_ : (List Int) => ((v_change_of a0 x2_), x2_)) (fun x2_ : (List Int) => (⟨[some (.dat (eQ (eP PyData.int PyData.int) a0)), some (.dat a1), some (.dat a2), none, some (.dat (eQ PyData.int x2_)), none], n⟩ : AS)) (fun x2_ : (List Int) => (⟨[some (.dat (eQ (eP PyData.int PyData.int) a0)), some (.dat a1), some (.dat a2), none, some (.dat (eQ PyData.int x2_)), none], n⟩ : AS)) (iv_valL (f := (eQ PyData.int)) (ov_V (ev_call0 (lv_cons (ov_V (ev_blt (lv_cons (ov_dat 0 rfl) lv_nil) (rsl_cons rfl (fun _ q => q)) (fv_lenQ (f := (eP PyData.int PyData.int))))) lv_nil) (fun _ q => q) (okV_all_pairs ((a0.length : Nat) : Int) hC.1)))) hC.2.1 rfl True.intro (fun x2_ hx3_ => ((bv_nm 4).to rfl)) (fun x2_ hx3_ => (ev_tup (lv_cons (ov_V (ev_call0 (lv_cons (ov_V (ev_var 0 rfl)) (lv_cons (ov_V (ev_var 4 rfl)) lv_nil)) (fun _ q => q) (okV_change_of a0 x2_ (hC.2.2.1 x2_ hx3_)))) (lv_cons (ov_V (ev_var 4 rfl)) lv_nil)) (fun _ q => q) rfl)) (fun _ _ => ⟨rfl, rfl⟩)) rfl (c_aft (c_ret (ev_blt (lv_cons (ov_V (ev_blt (lv_cons (ov_V (ev_lcF (eP (eM PyData.int) (eQ PyData.int)) (fun x4_ : ((Option Int) × (List Int)) => ((!x4_.1.isNone) && ((decide ((dI a1) < (om x4_.1))) && (decide ((om x4_.1) ≤ (dI a2)))))) (eP PyData.int (eQ PyData.int)) (fun x4_ : ((Option Int) × (List Int)) => ((om x4_.1), x4_.2)) (fun x4_ : ((Option Int) × (List Int)) => (⟨[some (.dat (eQ (eP PyData.int PyData.int) a0)), some (.dat a1), some (.dat a2), some (.dat (eL (eP (eM PyData.int) (eQ PyData.int)) ((v_all_pairs ((a0.length : Nat) : Int)).map fun x2_ : (List Int) => ((v_change_of a0 x2_), x2_)))), some (.dat (eQ PyData.int x4_.2)), some (.dat (eM PyData.int x4_.1))], n⟩ : AS)) (fun x4_ : ((Option Int) × (List Int)) => (⟨[some (.dat (eQ (eP PyData.int PyData.int) a0)), some (.dat a1), some (.dat a2), some (.dat (eL (eP (eM PyData.int) (eQ PyData.int)) ((v_all_pairs ((a0.length : Nat) : Int)).map fun x2_ : (List Int) => ((v_change_of a0 x2_), x2_)))), some (.dat (eQ PyData.int x4_.2)), some (.dat (eM PyData.int x4_.1))], n⟩ : AS)) (iv_valL (f := (eP (eM PyData.int) (eQ PyData.int))) (ov_dat 3 rfl)) hC.2.2.2.1 rfl True.intro (fun x4_ hx5_ => (fun _ q => ⟨rfl, rfl, q⟩)) (fun x4_ hx5_ => (tv_and (tv_V (ev_a2 (ov_dat 5 rfl) (ov_V ev_c) rfl rfl (vf_isNotM (fun _ => rfl)))) (fun h6_ => (tv_V (ev_a3 (ov_cast (ov_dat 1 rfl) ((hC.2.2.2.2.1 x4_ hx5_).1 h6_).1) (ov_cast (ov_dat 5 rfl) (om_c ((hC.2.2.2.2.1 x4_ hx5_).1 h6_).2.1)) rfl rfl vf_ltI (fun h7_ => (ov_cast (ov_dat 2 rfl) (((hC.2.2.2.2.1 x4_ hx5_).1 h6_).2.2 h7_))) rfl (fun h7_ => vf_leI)))))) (fun x4_ hx5_ h8_ => (ev_tup (lv_cons (ov_V (ev_cast (ev_var 5 rfl) (om_c ((hC.2.2.2.2.1 x4_ hx5_).2 h8_)))) (lv_cons (ov_V (ev_var 4 rfl)) lv_nil)) (fun _ q => q) rfl)) (fun _ _ => ⟨rfl, rfl⟩))) lv_nil) (rsl_cons rfl (fun _ q => q)) (fv_sortedL (f := (eP PyData.int (eQ PyData.int))) hC.2.2.2.2.2))) lv_nil) (rsl_cons rfl (fun _ q => q)) (fv_tupleL (f := (eP PyData.int (eQ PyData.int))))) hq))))
def v_line_changes (a0 : (List (Int × Int))) (a1 : PyData) (a2 : PyData) : (Except XN (List (Int × (List Int)))) := (bindX (v_check_span a1 a2) fun r1_ => (v_line_changes_s1 a0 a1 a2))
def C_line_changes (a0 : (List (Int × Int))) (a1 : PyData) (a2 : PyData) : Prop := (C_check_span a1 a2 ∧ (∀ r1_, (v_check_span a1 a2) = .ok r1_ → C_line_changes_s1 a0 a1 a2))
def nb_line_changes (cc : Nat → Addr) : AST := (sSeq (sDrop (aCall0 [.dat, .dat] (F_check_span cc) (lCons (oV (aVar 1)) (lCons (oV (aVar 2)) lNil))))
    (sSeq (sSet 3 (aLc (iSeq (oV (aCall0 [.dat] (calm F_all_pairs) (lCons (oV (aBlt fLen (lCons (oVar 0) lNil))) lNil)))) (bNm 4) tYesA (aTup (lCons (oV (aCall0 [.dat, .dat] (calm F_change_of) (lCons (oV (aVar 0)) (lCons (oV (aVar 4)) lNil)))) (lCons (oV (aVar 4)) lNil))) [4]))
    (sRet (aBlt fTuple (lCons (oV (aBlt fSorted (lCons (oV (aLc (iSeq (oVar 3)) (bTup 2 (bCons (bNm 5) (bCons (bNm 4) bNil))) (tAndA (tV (a2 vIsNot (oVar 5) (oV (aC .none)))) (tV (a3 vLt vLe (oVar 1) (oVar 5) (oVar 2)))) (aTup (lCons (oV (aVar 5)) (lCons (oV (aVar 4)) lNil))) [5, 4])) lNil))) lNil)))))
theorem okS_line_changes (cc : Nat → Addr) {xp : XP} {D : AEnds} {n : Nat} (a0 : (List (Int × Int))) (a1 : PyData) (a2 : PyData)  (hC : C_line_changes a0 a1 a2) (hq : resX cc D xp n (eQ (eP PyData.int (eQ PyData.int))) (v_line_changes a0 a1 a2)) : nb_line_changes cc xp D ⟨[some (.dat (eQ (eP PyData.int PyData.int) a0)), some (.dat a1), some (.dat a2), none, none, none], n⟩ := by
  unfold C_line_changes at hC; unfold v_line_changes at hq; unfold nb_line_changes
  exact (by_x hq (fun r1_ r1__ hqr1_ => (c_seq (c_drop (ev_call0X (lv_cons (ov_V (ev_var 1 rfl)) (lv_cons (ov_V (ev_var 2 rfl)) lv_nil)) (fun _ q => q) ((okV_check_span cc a1 a2 hC.1).of_ok r1__)) (c_aft (okS_line_changes_s1 cc a0 a1 a2  (hC.2 r1_ r1__) hqr1_))))) (fun x hx9_ hqr1_ => (c_seq (rx_drop (xv_call (lv_cons (ov_V (ev_var 1 rfl)) (lv_cons (ov_V (ev_var 2 rfl)) lv_nil)) (fun _ q => q) (okV_check_span cc a1 a2 hC.1) hx9_) (hqr1_ _ rfl)))))
theorem okV_line_changes (cc : Nat → Addr) (a0 : (List (Int × Int))) (a1 : PyData) (a2 : PyData) (hC : C_line_changes a0 a1 a2) : PFx cc (F_line_changes cc) [(eQ (eP PyData.int PyData.int) a0), a1, a2] (eQ (eP PyData.int (eQ PyData.int))) (v_line_changes a0 a1 a2) := fun n Q X q => by
  unfold F_line_changes
  exact okS_line_changes cc (xp := fun x s => X x s.n) (D := { nx := fun s => Q .none s.n, rt := Q }) a0 a1 a2 hC (by cases h : v_line_changes a0 a1 a2 with | ok r => rw [h] at q; exact q | error x => rw [h] at q; exact fun s e => by show X _ s.n; rw [e]; exact q)

def v_line_distance (a0 : (List (Int × Int))) (a1 : PyData) (a2 : PyData) : (Except XN Int) := (bindX (v_line_changes a0 a1 a2) fun r1_ => (.ok ((r1_.length : Nat) : Int)))
def C_line_distance (a0 : (List (Int × Int))) (a1 : PyData) (a2 : PyData) : Prop := C_line_changes a0 a1 a2
def nb_line_distance (cc : Nat → Addr) : AST := (sRet (aBlt fLen (lCons (oV (aCall0 [.dat, .dat, .dat] (F_line_changes cc) (lCons (oV (aVar 0)) (lCons (oV (aVar 1)) (lCons (oV (aVar 2)) lNil))))) lNil)))
theorem okS_line_distance (cc : Nat → Addr) {xp : XP} {D : AEnds} {n : Nat} (a0 : (List (Int × Int))) (a1 : PyData) (a2 : PyData)  (hC : C_line_distance a0 a1 a2) (hq : resX cc D xp n PyData.int (v_line_distance a0 a1 a2)) : nb_line_distance cc xp D ⟨[some (.dat (eQ (eP PyData.int PyData.int) a0)), some (.dat a1), some (.dat a2)], n⟩ := by
  unfold C_line_distance at hC; unfold v_line_distance at hq; unfold nb_line_distance
  exact (by_x hq (fun r1_ r1__ hqr1_ => (c_ret (ev_blt (lv_cons (ov_V (ev_call0X (lv_cons (ov_V (ev_var 0 rfl)) (lv_cons (ov_V (ev_var 1 rfl)) (lv_cons (ov_V (ev_var 2 rfl)) lv_nil))) (fun _ q => q) ((okV_line_changes cc a0 a1 a2 hC).of_ok r1__))) lv_nil) (rsl_cons rfl (fun _ q => q)) (fv_lenQ (f := (eP PyData.int (eQ PyData.int))))) hqr1_)) (fun x hx2_ hqr1_ => (rx_ret (xv_blt (xl_hd (xo_V (xv_call (lv_cons (ov_V (ev_var 0 rfl)) (lv_cons (ov_V (ev_var 1 rfl)) (lv_cons (ov_V (ev_var 2 rfl)) lv_nil))) (fun _ q => q) (okV_line_changes cc a0 a1 a2 hC) hx2_)))) (hqr1_ _ rfl))))
theorem okV_line_distance (cc : Nat → Addr) (a0 : (List (Int × Int))) (a1 : PyData) (a2 : PyData) (hC : C_line_distance a0 a1 a2) : PFx cc (F_line_distance cc) [(eQ (eP PyData.int PyData.int) a0), a1, a2] PyData.int (v_line_distance a0 a1 a2) := fun n Q X q => by
  unfold F_line_distance
  exact okS_line_distance cc (xp := fun x s => X x s.n) (D := { nx := fun s => Q .none s.n, rt := Q }) a0 a1 a2 hC (by cases h : v_line_distance a0 a1 a2 with | ok r => rw [h] at q; exact q | error x => rw [h] at q; exact fun s e => by show X _ s.n; rw [e]; exact q)

def v__law_pairs_s1 (a0 : Int) (a1 : (List (Int × Int))) : (List (Int × Int)) := (forV (fun (k3_ : ((List (Int × Int))) → (List (Int × Int))) (x2_ : Int) (w1_ : (List (Int × Int))) => (k3_ ((w1_ ++ ((irange (x2_ + (1 : Int)) a0).map fun x5_ : Int => (x2_, x5_)))))) (fun (w1_ : (List (Int × Int))) => w1_) (irange 0 a0) (a1))
def C__law_pairs_s1 (a0 : Int) (a1 : (List (Int × Int))) : Prop := (Rg a0 ∧ forV (fun (kC4_ : ((List (Int × Int))) → Prop) (x2_ : Int) (w1_ : (List (Int × Int))) => ((Rg (x2_ + (1 : Int)) ∧ Rg a0) ∧ (irange (x2_ + (1 : Int)) a0).length ≤ sizeLine ∧ w1_.length + ((irange (x2_ + (1 : Int)) a0).map fun x5_ : Int => (x2_, x5_)).length ≤ sizeLine ∧ kC4_ ((w1_ ++ ((irange (x2_ + (1 : Int)) a0).map fun x5_ : Int => (x2_, x5_)))))) (fun (w1_ : (List (Int × Int))) => True) (irange 0 a0) (a1))
def nb__law_pairs_s1 : AST := (sSeq (sFor (iRange1 (lCons (oVar 0) lNil)) (bNm 2)
    (sDrop (aMut mExt 1 (lCons (oV (aLc (iRange2 (lCons (oV (a2 vAdd (oVar 2) (oV (aC (.int 1))))) (lCons (oVar 0) lNil))) (bNm 3) tYesA (aTup (lCons (oV (aVar 2)) (lCons (oV (aVar 3)) lNil))) [3])) lNil))))
    (sRetV 1))
theorem okS__law_pairs_s1 {xp : XP} {D : AEnds} {n : Nat} (a0 : Int) (a1 : (List (Int × Int)))  (hC : C__law_pairs_s1 a0 a1) (hq : D.rt (eL (eP PyData.int PyData.int) (v__law_pairs_s1 a0 a1)) n) : nb__law_pairs_s1 xp D ⟨[some (.dat (PyData.int a0)), some (.own (a1.map (eP PyData.int PyData.int))), none, none], n⟩ := by
  unfold C__law_pairs_s1 at hC; unfold v__law_pairs_s1 at hq; unfold nb__law_pairs_s1
  exact (c_seq (c_for (R := fun r => D.rt (eL (eP PyData.int PyData.int) r) n) PyData.int (fun (w1_ : (List (Int × Int))) (s : AS) => ∃ (q2 : Option AV), s = ⟨[some (.dat (PyData.int a0)), some (.own (w1_.map (eP PyData.int PyData.int))), q2, none], n⟩) (iv_range1 (lv_cons (ov_dat 0 rfl) lv_nil) (fun _ q => q) hC.1) ⟨none, rfl⟩ hC.2 hq (fun x2_ w1_ s_ k3_ kC4_ N_ hi_ hC_ hq_ hN_ => by
    obtain ⟨q2, e_⟩ := hi_
    subst e_
    exact (g_bv ((bv_nm 2).to rfl) (c_drop (ev_ext (f := (eP PyData.int PyData.int)) (l := w1_) (m := ((irange (x2_ + (1 : Int)) a0).map fun x5_ : Int => (x2_, x5_))) rfl (lv_cons (ov_V (ev_lcM PyData.int (eP PyData.int PyData.int) (fun x5_ : Int => (x2_, x5_)) (fun x5_ : Int => (⟨[some (.dat (PyData.int a0)), some (.own (w1_.map (eP PyData.int PyData.int))), some (.dat (PyData.int x2_)), some (.dat (PyData.int x5_))], n⟩ : AS)) (fun x5_ : Int => (⟨[some (.dat (PyData.int a0)), some (.own (w1_.map (eP PyData.int PyData.int))), some (.dat (PyData.int x2_)), some (.dat (PyData.int x5_))], n⟩ : AS)) (iv_range2 (lv_cons (ov_V (ev_a2 (ov_dat 2 rfl) (ov_V ev_c) rfl rfl vf_addI)) (lv_cons (ov_dat 0 rfl) lv_nil)) (fun _ q => q) hC_.1) hC_.2.1 rfl True.intro (fun x5_ hx6_ => ((bv_nm 3).to rfl)) (fun x5_ hx6_ => (ev_tup (lv_cons (ov_V (ev_var 2 rfl)) (lv_cons (ov_V (ev_var 3 rfl)) lv_nil)) (fun _ q => q) rfl)) (fun _ _ => ⟨rfl, rfl⟩))) lv_nil) rfl (fun _ q => q) rfl hC_.2.2.1) (hN_ ((w1_ ++ ((irange (x2_ + (1 : Int)) a0).map fun x5_ : Int => (x2_, x5_)))) _ ⟨some (.dat (PyData.int x2_)), rfl⟩ hC_.2.2.2 hq_)))) (fun w1_ s_ hi_ hA_ hqa_ => by
    obtain ⟨q2, e_⟩ := hi_
    subst e_
    exact (c_aft (c_retVO 1 rfl hqa_)))))
def v__law_pairs (a0 : Int) : (List (Int × Int)) := (v__law_pairs_s1 a0 [])
def C__law_pairs (a0 : Int) : Prop := C__law_pairs_s1 a0 []
def nb__law_pairs : AST := (sSeq (sSetO 1 (aLst lNil))
    (sSeq (sFor (iRange1 (lCons (oVar 0) lNil)) (bNm 2)
    (sDrop (aMut mExt 1 (lCons (oV (aLc (iRange2 (lCons (oV (a2 vAdd (oVar 2) (oV (aC (.int 1))))) (lCons (oVar 0) lNil))) (bNm 3) tYesA (aTup (lCons (oV (aVar 2)) (lCons (oV (aVar 3)) lNil))) [3])) lNil))))
    (sRetV 1)))
theorem okS__law_pairs {xp : XP} {D : AEnds} {n : Nat} (a0 : Int)  (hC : C__law_pairs a0) (hq : D.rt (eL (eP PyData.int PyData.int) (v__law_pairs a0)) n) : nb__law_pairs xp D ⟨[some (.dat (PyData.int a0)), none, none, none], n⟩ := by
  unfold C__law_pairs at hC; unfold v__law_pairs at hq; unfold nb__law_pairs
  exact (c_seq (c_setO (ev_lst lv_nil (fun _ q => q) rfl) rfl (c_aft (okS__law_pairs_s1 a0 []  hC hq))))
theorem okV__law_pairs (a0 : Int) (hC : C__law_pairs a0) : PFn F__law_pairs [(PyData.int a0)] (eL (eP PyData.int PyData.int) (v__law_pairs a0)) := fun n Q X q => by
  unfold F__law_pairs
  exact okS__law_pairs (xp := fun x s => X x s.n) (D := { nx := fun s => Q .none s.n, rt := Q }) a0 hC q

def v__law_unlike_s1 (a0 : (List Int)) (a1 : (List Int)) (a2 : (List (Int × Int))) : (List (Int × Int)) := (forV (fun (k3_ : ((List (Int × Int))) → (List (Int × Int))) (x2_ : (Int × Int)) (w1_ : (List (Int × Int))) => (k3_ ((bif (!(decide ((decide (((a0.idxOf x2_.1 : Nat) : Int) < ((a0.idxOf x2_.2 : Nat) : Int))) = (decide (((a1.idxOf x2_.1 : Nat) : Int) < ((a1.idxOf x2_.2 : Nat) : Int)))))) then (w1_ ++ [(x2_.1, x2_.2)]) else w1_)))) (fun (w1_ : (List (Int × Int))) => w1_) (v__law_pairs ((a0.length : Nat) : Int)) (a2))
def C__law_unlike_s1 (a0 : (List Int)) (a1 : (List Int)) (a2 : (List (Int × Int))) : Prop := (C__law_pairs ((a0.length : Nat) : Int) ∧ forV (fun (kC4_ : ((List (Int × Int))) → Prop) (x2_ : (Int × Int)) (w1_ : (List (Int × Int))) => (x2_.1 ∈ a0 ∧ x2_.2 ∈ a0 ∧ x2_.1 ∈ a1 ∧ x2_.2 ∈ a1 ∧ ((!(decide ((decide (((a0.idxOf x2_.1 : Nat) : Int) < ((a0.idxOf x2_.2 : Nat) : Int))) = (decide (((a1.idxOf x2_.1 : Nat) : Int) < ((a1.idxOf x2_.2 : Nat) : Int)))))) = true → w1_.length < sizeLine) ∧ kC4_ ((bif (!(decide ((decide (((a0.idxOf x2_.1 : Nat) : Int) < ((a0.idxOf x2_.2 : Nat) : Int))) = (decide (((a1.idxOf x2_.1 : Nat) : Int) < ((a1.idxOf x2_.2 : Nat) : Int)))))) then (w1_ ++ [(x2_.1, x2_.2)]) else w1_)))) (fun (w1_ : (List (Int × Int))) => True) (v__law_pairs ((a0.length : Nat) : Int)) (a2))
def nb__law_unlike_s1 : AST := (sSeq (sFor (iSeq (oV (aCall0 [.dat] (calm F__law_pairs) (lCons (oV (aBlt fLen (lCons (oVar 0) lNil))) lNil)))) (bTup 2 (bCons (bNm 3) (bCons (bNm 4) bNil)))
    (sSeq (sSet 5 (a2 vLt (oV (aIdx (oVar 0) (lCons (oVar 3) lNil))) (oV (aIdx (oVar 0) (lCons (oVar 4) lNil)))))
    (sIf (tV (a2 vNe (oVar 5) (oV (a2 vLt (oV (aIdx (oVar 1) (lCons (oVar 3) lNil))) (oV (aIdx (oVar 1) (lCons (oVar 4) lNil)))))))
    (sDrop (aMut mApp 2 (lCons (oV (aTup (lCons (oV (aVar 3)) (lCons (oV (aVar 4)) lNil)))) lNil)))
    sNx)))
    (sRetV 2))
theorem okS__law_unlike_s1 {xp : XP} {D : AEnds} {n : Nat} (a0 : (List Int)) (a1 : (List Int)) (a2 : (List (Int × Int)))  (hC : C__law_unlike_s1 a0 a1 a2) (hq : D.rt (eL (eP PyData.int PyData.int) (v__law_unlike_s1 a0 a1 a2)) n) : nb__law_unlike_s1 xp D ⟨[some (.dat (eQ PyData.int a0)), some (.dat (eQ PyData.int a1)), some (.own (a2.map (eP PyData.int PyData.int))), none, none, none], n⟩ := by
  unfold C__law_unlike_s1 at hC; unfold v__law_unlike_s1 at hq; unfold nb__law_unlike_s1
  exact (c_seq (c_for (R := fun r => D.rt (eL (eP PyData.int PyData.int) r) n) (eP PyData.int PyData.int) (fun (w1_ : (List (Int × Int))) (s : AS) => ∃ (q3 : Option AV) (q4 : Option AV) (q5 : Option AV), s = ⟨[some (.dat (eQ PyData.int a0)), some (.dat (eQ PyData.int a1)), some (.own (w1_.map (eP PyData.int PyData.int))), q3, q4, q5], n⟩) (iv_valL (f := (eP PyData.int PyData.int)) (ov_V (ev_call0 (lv_cons (ov_V (ev_blt (lv_cons (ov_dat 0 rfl) lv_nil) (rsl_cons rfl (fun _ q => q)) (fv_lenQ (f := PyData.int)))) lv_nil) (fun _ q => q) (okV__law_pairs ((a0.length : Nat) : Int) hC.1)))) ⟨none, none, none, rfl⟩ hC.2 hq (fun x2_ w1_ s_ k3_ kC4_ N_ hi_ hC_ hq_ hN_ => by
    obtain ⟨q3, q4, q5, e_⟩ := hi_
    subst e_
    exact (g_bv (fun _ q => ⟨rfl, rfl, q⟩) (c_seq (c_set (ev_a2 (ov_V (ev_idx (ov_dat 0 rfl) (lv_cons (ov_dat 3 rfl) lv_nil) (rsl_cons rfl (fun _ q => q)) hC_.1)) (ov_V (ev_idx (ov_dat 0 rfl) (lv_cons (ov_dat 4 rfl) lv_nil) (rsl_cons rfl (fun _ q => q)) hC_.2.1)) rfl rfl vf_ltI) rfl (c_aft (c_ifJ (fun b6_ : Bool => (⟨[some (.dat (eQ PyData.int a0)), some (.dat (eQ PyData.int a1)), some (.own ((bif b6_ then (w1_ ++ [(x2_.1, x2_.2)]) else w1_).map (eP PyData.int PyData.int))), some (.dat (PyData.int x2_.1)), some (.dat (PyData.int x2_.2)), some (.dat (PyData.bool (decide (((a0.idxOf x2_.1 : Nat) : Int) < ((a0.idxOf x2_.2 : Nat) : Int)))))], n⟩ : AS)) (tv_V (ev_a2 (ov_dat 5 rfl) (ov_V (ev_a2 (ov_V (ev_idx (ov_dat 1 rfl) (lv_cons (ov_dat 3 rfl) lv_nil) (rsl_cons rfl (fun _ q => q)) hC_.2.2.1)) (ov_V (ev_idx (ov_dat 1 rfl) (lv_cons (ov_dat 4 rfl) lv_nil) (rsl_cons rfl (fun _ q => q)) hC_.2.2.2.1)) rfl rfl vf_ltI)) rfl rfl (vf_ne (f := PyData.bool) lw_B (sh_B (k := 0)) rfl))) (fun h5_ D_ k_ => (c_drop (ev_app (f := (eP PyData.int PyData.int)) (l := w1_) (x := (x2_.1, x2_.2)) rfl (lv_cons (ov_V (ev_tup (lv_cons (ov_V (ev_var 3 rfl)) (lv_cons (ov_V (ev_var 4 rfl)) lv_nil)) (fun _ q => q) rfl)) lv_nil) rfl (fun _ q => q) rfl (hC_.2.2.2.2.1 h5_)) k_)) (fun h5_ D_ k_ => (c_pass k_)) (hN_ ((bif (!(decide ((decide (((a0.idxOf x2_.1 : Nat) : Int) < ((a0.idxOf x2_.2 : Nat) : Int))) = (decide (((a1.idxOf x2_.1 : Nat) : Int) < ((a1.idxOf x2_.2 : Nat) : Int)))))) then (w1_ ++ [(x2_.1, x2_.2)]) else w1_)) _ ⟨some (.dat (PyData.int x2_.1)), some (.dat (PyData.int x2_.2)), some (.dat (PyData.bool (decide (((a0.idxOf x2_.1 : Nat) : Int) < ((a0.idxOf x2_.2 : Nat) : Int))))), rfl⟩ hC_.2.2.2.2.2 hq_))))))) (fun w1_ s_ hi_ hA_ hqa_ => by
    obtain ⟨q3, q4, q5, e_⟩ := hi_
    subst e_
    exact (c_aft (c_retVO 2 rfl hqa_)))))
def v__law_unlike (a0 : (List Int)) (a1 : (List Int)) : (List (Int × Int)) := (v__law_unlike_s1 a0 a1 [])
def C__law_unlike (a0 : (List Int)) (a1 : (List Int)) : Prop := C__law_unlike_s1 a0 a1 []
def nb__law_unlike : AST := (sSeq (sSetO 2 (aLst lNil))
    (sSeq (sFor (iSeq (oV (aCall0 [.dat] (calm F__law_pairs) (lCons (oV (aBlt fLen (lCons (oVar 0) lNil))) lNil)))) (bTup 2 (bCons (bNm 3) (bCons (bNm 4) bNil)))
    (sSeq (sSet 5 (a2 vLt (oV (aIdx (oVar 0) (lCons (oVar 3) lNil))) (oV (aIdx (oVar 0) (lCons (oVar 4) lNil)))))
    (sIf (tV (a2 vNe (oVar 5) (oV (a2 vLt (oV (aIdx (oVar 1) (lCons (oVar 3) lNil))) (oV (aIdx (oVar 1) (lCons (oVar 4) lNil)))))))
    (sDrop (aMut mApp 2 (lCons (oV (aTup (lCons (oV (aVar 3)) (lCons (oV (aVar 4)) lNil)))) lNil)))
    sNx)))
    (sRetV 2)))
theorem okS__law_unlike {xp : XP} {D : AEnds} {n : Nat} (a0 : (List Int)) (a1 : (List Int))  (hC : C__law_unlike a0 a1) (hq : D.rt (eL (eP PyData.int PyData.int) (v__law_unlike a0 a1)) n) : nb__law_unlike xp D ⟨[some (.dat (eQ PyData.int a0)), some (.dat (eQ PyData.int a1)), none, none, none, none], n⟩ := by
  unfold C__law_unlike at hC; unfold v__law_unlike at hq; unfold nb__law_unlike
  exact (c_seq (c_setO (ev_lst lv_nil (fun _ q => q) rfl) rfl (c_aft (okS__law_unlike_s1 a0 a1 []  hC hq))))
theorem okV__law_unlike (a0 : (List Int)) (a1 : (List Int)) (hC : C__law_unlike a0 a1) : PFn F__law_unlike [(eQ PyData.int a0), (eQ PyData.int a1)] (eL (eP PyData.int PyData.int) (v__law_unlike a0 a1)) := fun n Q X q => by
  unfold F__law_unlike
  exact okS__law_unlike (xp := fun x s => X x s.n) (D := { nx := fun s => Q .none s.n, rt := Q }) a0 a1 hC q

def v__law_raised_s10 (a0 : XN) (a1 : (List PyData)) : PyData := (bif ((decide ((((bif (decide (a0.k = 9)) then (a1 ++ [(eL PyData.str [("NoPlaces" : Str)])]) else a1).length : Nat) : Int) = (1 : Int))) && true) then (gt (bif (decide (a0.k = 9)) then (a1 ++ [(eL PyData.str [("NoPlaces" : Str)])]) else a1) (0 : Int)) else (eL PyData.str [("other" : Str)]))
def C__law_raised_s10 (a0 : XN) (a1 : (List PyData)) : Prop := (a0.k < 10 ∧ ((decide (a0.k = 9)) = true → a1.length < sizeLine) ∧ (((decide ((((bif (decide (a0.k = 9)) then (a1 ++ [(eL PyData.str [("NoPlaces" : Str)])]) else a1).length : Nat) : Int) = (1 : Int))) && true) = true → Ixr (bif (decide (a0.k = 9)) then (a1 ++ [(eL PyData.str [("NoPlaces" : Str)])]) else a1) (0 : Int)))
def nb__law_raised_s10 (cc : Nat → Addr) : AST := (sSeq (sIf (tTruA (oV (aIsX (cc 9) 0)))
    (sDrop (aMut mApp 1 (lCons (oV (aLst (lCons (oV (aC (.str "NoPlaces"))) lNil))) lNil)))
    sNx)
    (sRet (aIfE (tAndA (tV (a2 vEq (oV (aBlt fLen (lCons (oVar 1) lNil))) (oV (aC (.int 1))))) (tTruA (oV (aIsV 0)))) (a2 vIx (oVar 1) (oV (aC (.int 0)))) (aLst (lCons (oV (aC (.str "other"))) lNil)))))
theorem okS__law_raised_s10 (cc : Nat → Addr) (hcc : Inj cc 10) {xp : XP} {D : AEnds} {n : Nat} (a0 : XN) (a1 : (List PyData))  (hC : C__law_raised_s10 a0 a1) (hq : D.rt (v__law_raised_s10 a0 a1) n) : nb__law_raised_s10 cc xp D ⟨[some (.exc (XN.xd cc a0)), some (.own (a1.map eD))], n⟩ := by
  unfold C__law_raised_s10 at hC; unfold v__law_raised_s10 at hq; unfold nb__law_raised_s10
  exact (c_seq (c_ifJ (fun b20_ : Bool => (⟨[some (.exc (XN.xd cc a0)), some (.own ((bif b20_ then (a1 ++ [(eL PyData.str [("NoPlaces" : Str)])]) else a1).map eD))], n⟩ : AS)) (tv_tru (ov_V (ev_isX (j := 9) hcc rfl hC.1 rfl)) rfl tru_B) (fun h19_ D_ k_ => (c_drop (ev_app (f := eD) (l := a1) (x := (eL PyData.str [("NoPlaces" : Str)])) rfl (lv_cons (ov_V (ev_lst (lv_cons (ov_V ev_c) lv_nil) (fun _ q => q) rfl)) lv_nil) rfl (fun _ q => q) rfl (hC.2.1 h19_)) k_)) (fun h19_ D_ k_ => (c_pass k_)) (c_aft (c_ret (ev_if (x := (gt (bif (decide (a0.k = 9)) then (a1 ++ [(eL PyData.str [("NoPlaces" : Str)])]) else a1) (0 : Int))) (y := (eL PyData.str [("other" : Str)])) eD (tv_and (tv_V (ev_a2 (ov_V (ev_blt (lv_cons (ov_own 1 rfl) lv_nil) (rsl_cons rfl (fun _ q => q)) (fv_lenL (f := eD)))) (ov_V ev_c) rfl rfl (vf_eq (f := PyData.int) lw_I (sh_I (k := 0)) rfl))) (fun h21_ => (tv_tru (ov_V (ev_isV rfl)) rfl tru_B))) (fun h22_ => (ev_a2 (ov_own 1 rfl) (ov_V ev_c) rfl rfl (vf_ixL (f := eD) (hC.2.2 h22_)))) (fun h22_ => (ev_lst (lv_cons (ov_V ev_c) lv_nil) (fun _ q => q) rfl))) hq))))
def v__law_raised_s9 (a0 : XN) (a1 : (List PyData)) : PyData := (v__law_raised_s10 a0 (bif (decide (a0.k = 8)) then (a1 ++ [(eL PyData.str [("NoSpan" : Str)])]) else a1))
def C__law_raised_s9 (a0 : XN) (a1 : (List PyData)) : Prop := (a0.k < 10 ∧ ((decide (a0.k = 8)) = true → a1.length < sizeLine) ∧ C__law_raised_s10 a0 (bif (decide (a0.k = 8)) then (a1 ++ [(eL PyData.str [("NoSpan" : Str)])]) else a1))
def nb__law_raised_s9 (cc : Nat → Addr) : AST := (sSeq (sIf (tTruA (oV (aIsX (cc 8) 0)))
    (sDrop (aMut mApp 1 (lCons (oV (aLst (lCons (oV (aC (.str "NoSpan"))) lNil))) lNil)))
    sNx)
    (sSeq (sIf (tTruA (oV (aIsX (cc 9) 0)))
    (sDrop (aMut mApp 1 (lCons (oV (aLst (lCons (oV (aC (.str "NoPlaces"))) lNil))) lNil)))
    sNx)
    (sRet (aIfE (tAndA (tV (a2 vEq (oV (aBlt fLen (lCons (oVar 1) lNil))) (oV (aC (.int 1))))) (tTruA (oV (aIsV 0)))) (a2 vIx (oVar 1) (oV (aC (.int 0)))) (aLst (lCons (oV (aC (.str "other"))) lNil))))))
theorem okS__law_raised_s9 (cc : Nat → Addr) (hcc : Inj cc 10) {xp : XP} {D : AEnds} {n : Nat} (a0 : XN) (a1 : (List PyData))  (hC : C__law_raised_s9 a0 a1) (hq : D.rt (v__law_raised_s9 a0 a1) n) : nb__law_raised_s9 cc xp D ⟨[some (.exc (XN.xd cc a0)), some (.own (a1.map eD))], n⟩ := by
  unfold C__law_raised_s9 at hC; unfold v__law_raised_s9 at hq; unfold nb__law_raised_s9
  exact (c_seq (c_ifJ (fun b18_ : Bool => (⟨[some (.exc (XN.xd cc a0)), some (.own ((bif b18_ then (a1 ++ [(eL PyData.str [("NoSpan" : Str)])]) else a1).map eD))], n⟩ : AS)) (tv_tru (ov_V (ev_isX (j := 8) hcc rfl hC.1 rfl)) rfl tru_B) (fun h17_ D_ k_ => (c_drop (ev_app (f := eD) (l := a1) (x := (eL PyData.str [("NoSpan" : Str)])) rfl (lv_cons (ov_V (ev_lst (lv_cons (ov_V ev_c) lv_nil) (fun _ q => q) rfl)) lv_nil) rfl (fun _ q => q) rfl (hC.2.1 h17_)) k_)) (fun h17_ D_ k_ => (c_pass k_)) (c_aft (okS__law_raised_s10 cc hcc a0 (bif (decide (a0.k = 8)) then (a1 ++ [(eL PyData.str [("NoSpan" : Str)])]) else a1)  hC.2.2 hq))))
def v__law_raised_s8 (a0 : XN) (a1 : (List PyData)) : PyData := (v__law_raised_s9 a0 (bif (decide (a0.k = 1)) then (a1 ++ [(eL eD [(PyData.str ("NoTaster" : Str)), (fldX a0)])]) else a1))
def C__law_raised_s8 (a0 : XN) (a1 : (List PyData)) : Prop := (a0.k < 10 ∧ ((decide (a0.k = 1)) = true → (a0.fld = some (("taster" : Str), fldX a0) ∧ a1.length < sizeLine)) ∧ C__law_raised_s9 a0 (bif (decide (a0.k = 1)) then (a1 ++ [(eL eD [(PyData.str ("NoTaster" : Str)), (fldX a0)])]) else a1))
def nb__law_raised_s8 (cc : Nat → Addr) : AST := (sSeq (sIf (tTruA (oV (aIsX (cc 1) 0)))
    (sDrop (aMut mApp 1 (lCons (oV (aLst (lCons (oV (aC (.str "NoTaster"))) (lCons (oV (aFldX "taster" 0)) lNil)))) lNil)))
    sNx)
    (sSeq (sIf (tTruA (oV (aIsX (cc 8) 0)))
    (sDrop (aMut mApp 1 (lCons (oV (aLst (lCons (oV (aC (.str "NoSpan"))) lNil))) lNil)))
    sNx)
    (sSeq (sIf (tTruA (oV (aIsX (cc 9) 0)))
    (sDrop (aMut mApp 1 (lCons (oV (aLst (lCons (oV (aC (.str "NoPlaces"))) lNil))) lNil)))
    sNx)
    (sRet (aIfE (tAndA (tV (a2 vEq (oV (aBlt fLen (lCons (oVar 1) lNil))) (oV (aC (.int 1))))) (tTruA (oV (aIsV 0)))) (a2 vIx (oVar 1) (oV (aC (.int 0)))) (aLst (lCons (oV (aC (.str "other"))) lNil)))))))
theorem okS__law_raised_s8 (cc : Nat → Addr) (hcc : Inj cc 10) {xp : XP} {D : AEnds} {n : Nat} (a0 : XN) (a1 : (List PyData))  (hC : C__law_raised_s8 a0 a1) (hq : D.rt (v__law_raised_s8 a0 a1) n) : nb__law_raised_s8 cc xp D ⟨[some (.exc (XN.xd cc a0)), some (.own (a1.map eD))], n⟩ := by
  unfold C__law_raised_s8 at hC; unfold v__law_raised_s8 at hq; unfold nb__law_raised_s8
  exact (c_seq (c_ifJ (fun b16_ : Bool => (⟨[some (.exc (XN.xd cc a0)), some (.own ((bif b16_ then (a1 ++ [(eL eD [(PyData.str ("NoTaster" : Str)), (fldX a0)])]) else a1).map eD))], n⟩ : AS)) (tv_tru (ov_V (ev_isX (j := 1) hcc rfl hC.1 rfl)) rfl tru_B) (fun h15_ D_ k_ => (c_drop (ev_app (f := eD) (l := a1) (x := (eL eD [(PyData.str ("NoTaster" : Str)), (fldX a0)])) rfl (lv_cons (ov_V (ev_lst (lv_cons (ov_V ev_c) (lv_cons (ov_V (ev_fldX rfl (hC.2.1 h15_).1)) lv_nil)) (fun _ q => q) rfl)) lv_nil) rfl (fun _ q => q) rfl (hC.2.1 h15_).2) k_)) (fun h15_ D_ k_ => (c_pass k_)) (c_aft (okS__law_raised_s9 cc hcc a0 (bif (decide (a0.k = 1)) then (a1 ++ [(eL eD [(PyData.str ("NoTaster" : Str)), (fldX a0)])]) else a1)  hC.2.2 hq))))
def v__law_raised_s7 (a0 : XN) (a1 : (List PyData)) : PyData := (v__law_raised_s8 a0 (bif (decide (a0.k = 0)) then (a1 ++ [(eL eD [(PyData.str ("NoRanking" : Str)), (fldX a0)])]) else a1))
def C__law_raised_s7 (a0 : XN) (a1 : (List PyData)) : Prop := (a0.k < 10 ∧ ((decide (a0.k = 0)) = true → (a0.fld = some (("ranking" : Str), fldX a0) ∧ a1.length < sizeLine)) ∧ C__law_raised_s8 a0 (bif (decide (a0.k = 0)) then (a1 ++ [(eL eD [(PyData.str ("NoRanking" : Str)), (fldX a0)])]) else a1))
def nb__law_raised_s7 (cc : Nat → Addr) : AST := (sSeq (sIf (tTruA (oV (aIsX (cc 0) 0)))
    (sDrop (aMut mApp 1 (lCons (oV (aLst (lCons (oV (aC (.str "NoRanking"))) (lCons (oV (aFldX "ranking" 0)) lNil)))) lNil)))
    sNx)
    (sSeq (sIf (tTruA (oV (aIsX (cc 1) 0)))
    (sDrop (aMut mApp 1 (lCons (oV (aLst (lCons (oV (aC (.str "NoTaster"))) (lCons (oV (aFldX "taster" 0)) lNil)))) lNil)))
    sNx)
    (sSeq (sIf (tTruA (oV (aIsX (cc 8) 0)))
    (sDrop (aMut mApp 1 (lCons (oV (aLst (lCons (oV (aC (.str "NoSpan"))) lNil))) lNil)))
    sNx)
    (sSeq (sIf (tTruA (oV (aIsX (cc 9) 0)))
    (sDrop (aMut mApp 1 (lCons (oV (aLst (lCons (oV (aC (.str "NoPlaces"))) lNil))) lNil)))
    sNx)
    (sRet (aIfE (tAndA (tV (a2 vEq (oV (aBlt fLen (lCons (oVar 1) lNil))) (oV (aC (.int 1))))) (tTruA (oV (aIsV 0)))) (a2 vIx (oVar 1) (oV (aC (.int 0)))) (aLst (lCons (oV (aC (.str "other"))) lNil))))))))
theorem okS__law_raised_s7 (cc : Nat → Addr) (hcc : Inj cc 10) {xp : XP} {D : AEnds} {n : Nat} (a0 : XN) (a1 : (List PyData))  (hC : C__law_raised_s7 a0 a1) (hq : D.rt (v__law_raised_s7 a0 a1) n) : nb__law_raised_s7 cc xp D ⟨[some (.exc (XN.xd cc a0)), some (.own (a1.map eD))], n⟩ := by
  unfold C__law_raised_s7 at hC; unfold v__law_raised_s7 at hq; unfold nb__law_raised_s7
  exact (c_seq (c_ifJ (fun b14_ : Bool => (⟨[some (.exc (XN.xd cc a0)), some (.own ((bif b14_ then (a1 ++ [(eL eD [(PyData.str ("NoRanking" : Str)), (fldX a0)])]) else a1).map eD))], n⟩ : AS)) (tv_tru (ov_V (ev_isX (j := 0) hcc rfl hC.1 rfl)) rfl tru_B) (fun h13_ D_ k_ => (c_drop (ev_app (f := eD) (l := a1) (x := (eL eD [(PyData.str ("NoRanking" : Str)), (fldX a0)])) rfl (lv_cons (ov_V (ev_lst (lv_cons (ov_V ev_c) (lv_cons (ov_V (ev_fldX rfl (hC.2.1 h13_).1)) lv_nil)) (fun _ q => q) rfl)) lv_nil) rfl (fun _ q => q) rfl (hC.2.1 h13_).2) k_)) (fun h13_ D_ k_ => (c_pass k_)) (c_aft (okS__law_raised_s8 cc hcc a0 (bif (decide (a0.k = 0)) then (a1 ++ [(eL eD [(PyData.str ("NoRanking" : Str)), (fldX a0)])]) else a1)  hC.2.2 hq))))
def v__law_raised_s6 (a0 : XN) (a1 : (List PyData)) : PyData := (v__law_raised_s7 a0 (bif (decide (a0.k = 2)) then (a1 ++ [(eL eD [(PyData.str ("NoDish" : Str)), (fldX a0)])]) else a1))
def C__law_raised_s6 (a0 : XN) (a1 : (List PyData)) : Prop := (a0.k < 10 ∧ ((decide (a0.k = 2)) = true → (a0.fld = some (("dish" : Str), fldX a0) ∧ a1.length < sizeLine)) ∧ C__law_raised_s7 a0 (bif (decide (a0.k = 2)) then (a1 ++ [(eL eD [(PyData.str ("NoDish" : Str)), (fldX a0)])]) else a1))
def nb__law_raised_s6 (cc : Nat → Addr) : AST := (sSeq (sIf (tTruA (oV (aIsX (cc 2) 0)))
    (sDrop (aMut mApp 1 (lCons (oV (aLst (lCons (oV (aC (.str "NoDish"))) (lCons (oV (aFldX "dish" 0)) lNil)))) lNil)))
    sNx)
    (sSeq (sIf (tTruA (oV (aIsX (cc 0) 0)))
    (sDrop (aMut mApp 1 (lCons (oV (aLst (lCons (oV (aC (.str "NoRanking"))) (lCons (oV (aFldX "ranking" 0)) lNil)))) lNil)))
    sNx)
    (sSeq (sIf (tTruA (oV (aIsX (cc 1) 0)))
    (sDrop (aMut mApp 1 (lCons (oV (aLst (lCons (oV (aC (.str "NoTaster"))) (lCons (oV (aFldX "taster" 0)) lNil)))) lNil)))
    sNx)
    (sSeq (sIf (tTruA (oV (aIsX (cc 8) 0)))
    (sDrop (aMut mApp 1 (lCons (oV (aLst (lCons (oV (aC (.str "NoSpan"))) lNil))) lNil)))
    sNx)
    (sSeq (sIf (tTruA (oV (aIsX (cc 9) 0)))
    (sDrop (aMut mApp 1 (lCons (oV (aLst (lCons (oV (aC (.str "NoPlaces"))) lNil))) lNil)))
    sNx)
    (sRet (aIfE (tAndA (tV (a2 vEq (oV (aBlt fLen (lCons (oVar 1) lNil))) (oV (aC (.int 1))))) (tTruA (oV (aIsV 0)))) (a2 vIx (oVar 1) (oV (aC (.int 0)))) (aLst (lCons (oV (aC (.str "other"))) lNil)))))))))
theorem okS__law_raised_s6 (cc : Nat → Addr) (hcc : Inj cc 10) {xp : XP} {D : AEnds} {n : Nat} (a0 : XN) (a1 : (List PyData))  (hC : C__law_raised_s6 a0 a1) (hq : D.rt (v__law_raised_s6 a0 a1) n) : nb__law_raised_s6 cc xp D ⟨[some (.exc (XN.xd cc a0)), some (.own (a1.map eD))], n⟩ := by
  unfold C__law_raised_s6 at hC; unfold v__law_raised_s6 at hq; unfold nb__law_raised_s6
  exact (c_seq (c_ifJ (fun b12_ : Bool => (⟨[some (.exc (XN.xd cc a0)), some (.own ((bif b12_ then (a1 ++ [(eL eD [(PyData.str ("NoDish" : Str)), (fldX a0)])]) else a1).map eD))], n⟩ : AS)) (tv_tru (ov_V (ev_isX (j := 2) hcc rfl hC.1 rfl)) rfl tru_B) (fun h11_ D_ k_ => (c_drop (ev_app (f := eD) (l := a1) (x := (eL eD [(PyData.str ("NoDish" : Str)), (fldX a0)])) rfl (lv_cons (ov_V (ev_lst (lv_cons (ov_V ev_c) (lv_cons (ov_V (ev_fldX rfl (hC.2.1 h11_).1)) lv_nil)) (fun _ q => q) rfl)) lv_nil) rfl (fun _ q => q) rfl (hC.2.1 h11_).2) k_)) (fun h11_ D_ k_ => (c_pass k_)) (c_aft (okS__law_raised_s7 cc hcc a0 (bif (decide (a0.k = 2)) then (a1 ++ [(eL eD [(PyData.str ("NoDish" : Str)), (fldX a0)])]) else a1)  hC.2.2 hq))))
def v__law_raised_s5 (a0 : XN) (a1 : (List PyData)) : PyData := (v__law_raised_s6 a0 (bif (decide (a0.k = 6)) then (a1 ++ [(eL eD [(PyData.str ("NoSize" : Str)), (fldX a0)])]) else a1))
def C__law_raised_s5 (a0 : XN) (a1 : (List PyData)) : Prop := (a0.k < 10 ∧ ((decide (a0.k = 6)) = true → (a0.fld = some (("size" : Str), fldX a0) ∧ a1.length < sizeLine)) ∧ C__law_raised_s6 a0 (bif (decide (a0.k = 6)) then (a1 ++ [(eL eD [(PyData.str ("NoSize" : Str)), (fldX a0)])]) else a1))
def nb__law_raised_s5 (cc : Nat → Addr) : AST := (sSeq (sIf (tTruA (oV (aIsX (cc 6) 0)))
    (sDrop (aMut mApp 1 (lCons (oV (aLst (lCons (oV (aC (.str "NoSize"))) (lCons (oV (aFldX "size" 0)) lNil)))) lNil)))
    sNx)
    (sSeq (sIf (tTruA (oV (aIsX (cc 2) 0)))
    (sDrop (aMut mApp 1 (lCons (oV (aLst (lCons (oV (aC (.str "NoDish"))) (lCons (oV (aFldX "dish" 0)) lNil)))) lNil)))
    sNx)
    (sSeq (sIf (tTruA (oV (aIsX (cc 0) 0)))
    (sDrop (aMut mApp 1 (lCons (oV (aLst (lCons (oV (aC (.str "NoRanking"))) (lCons (oV (aFldX "ranking" 0)) lNil)))) lNil)))
    sNx)
    (sSeq (sIf (tTruA (oV (aIsX (cc 1) 0)))
    (sDrop (aMut mApp 1 (lCons (oV (aLst (lCons (oV (aC (.str "NoTaster"))) (lCons (oV (aFldX "taster" 0)) lNil)))) lNil)))
    sNx)
    (sSeq (sIf (tTruA (oV (aIsX (cc 8) 0)))
    (sDrop (aMut mApp 1 (lCons (oV (aLst (lCons (oV (aC (.str "NoSpan"))) lNil))) lNil)))
    sNx)
    (sSeq (sIf (tTruA (oV (aIsX (cc 9) 0)))
    (sDrop (aMut mApp 1 (lCons (oV (aLst (lCons (oV (aC (.str "NoPlaces"))) lNil))) lNil)))
    sNx)
    (sRet (aIfE (tAndA (tV (a2 vEq (oV (aBlt fLen (lCons (oVar 1) lNil))) (oV (aC (.int 1))))) (tTruA (oV (aIsV 0)))) (a2 vIx (oVar 1) (oV (aC (.int 0)))) (aLst (lCons (oV (aC (.str "other"))) lNil))))))))))
theorem okS__law_raised_s5 (cc : Nat → Addr) (hcc : Inj cc 10) {xp : XP} {D : AEnds} {n : Nat} (a0 : XN) (a1 : (List PyData))  (hC : C__law_raised_s5 a0 a1) (hq : D.rt (v__law_raised_s5 a0 a1) n) : nb__law_raised_s5 cc xp D ⟨[some (.exc (XN.xd cc a0)), some (.own (a1.map eD))], n⟩ := by
  unfold C__law_raised_s5 at hC; unfold v__law_raised_s5 at hq; unfold nb__law_raised_s5
  exact (c_seq (c_ifJ (fun b10_ : Bool => (⟨[some (.exc (XN.xd cc a0)), some (.own ((bif b10_ then (a1 ++ [(eL eD [(PyData.str ("NoSize" : Str)), (fldX a0)])]) else a1).map eD))], n⟩ : AS)) (tv_tru (ov_V (ev_isX (j := 6) hcc rfl hC.1 rfl)) rfl tru_B) (fun h9_ D_ k_ => (c_drop (ev_app (f := eD) (l := a1) (x := (eL eD [(PyData.str ("NoSize" : Str)), (fldX a0)])) rfl (lv_cons (ov_V (ev_lst (lv_cons (ov_V ev_c) (lv_cons (ov_V (ev_fldX rfl (hC.2.1 h9_).1)) lv_nil)) (fun _ q => q) rfl)) lv_nil) rfl (fun _ q => q) rfl (hC.2.1 h9_).2) k_)) (fun h9_ D_ k_ => (c_pass k_)) (c_aft (okS__law_raised_s6 cc hcc a0 (bif (decide (a0.k = 6)) then (a1 ++ [(eL eD [(PyData.str ("NoSize" : Str)), (fldX a0)])]) else a1)  hC.2.2 hq))))
def v__law_raised_s4 (a0 : XN) (a1 : (List PyData)) : PyData := (v__law_raised_s5 a0 (bif (decide (a0.k = 7)) then (a1 ++ [(eL PyData.str [("NoCuts" : Str)])]) else a1))
def C__law_raised_s4 (a0 : XN) (a1 : (List PyData)) : Prop := (a0.k < 10 ∧ ((decide (a0.k = 7)) = true → a1.length < sizeLine) ∧ C__law_raised_s5 a0 (bif (decide (a0.k = 7)) then (a1 ++ [(eL PyData.str [("NoCuts" : Str)])]) else a1))
def nb__law_raised_s4 (cc : Nat → Addr) : AST := (sSeq (sIf (tTruA (oV (aIsX (cc 7) 0)))
    (sDrop (aMut mApp 1 (lCons (oV (aLst (lCons (oV (aC (.str "NoCuts"))) lNil))) lNil)))
    sNx)
    (sSeq (sIf (tTruA (oV (aIsX (cc 6) 0)))
    (sDrop (aMut mApp 1 (lCons (oV (aLst (lCons (oV (aC (.str "NoSize"))) (lCons (oV (aFldX "size" 0)) lNil)))) lNil)))
    sNx)
    (sSeq (sIf (tTruA (oV (aIsX (cc 2) 0)))
    (sDrop (aMut mApp 1 (lCons (oV (aLst (lCons (oV (aC (.str "NoDish"))) (lCons (oV (aFldX "dish" 0)) lNil)))) lNil)))
    sNx)
    (sSeq (sIf (tTruA (oV (aIsX (cc 0) 0)))
    (sDrop (aMut mApp 1 (lCons (oV (aLst (lCons (oV (aC (.str "NoRanking"))) (lCons (oV (aFldX "ranking" 0)) lNil)))) lNil)))
    sNx)
    (sSeq (sIf (tTruA (oV (aIsX (cc 1) 0)))
    (sDrop (aMut mApp 1 (lCons (oV (aLst (lCons (oV (aC (.str "NoTaster"))) (lCons (oV (aFldX "taster" 0)) lNil)))) lNil)))
    sNx)
    (sSeq (sIf (tTruA (oV (aIsX (cc 8) 0)))
    (sDrop (aMut mApp 1 (lCons (oV (aLst (lCons (oV (aC (.str "NoSpan"))) lNil))) lNil)))
    sNx)
    (sSeq (sIf (tTruA (oV (aIsX (cc 9) 0)))
    (sDrop (aMut mApp 1 (lCons (oV (aLst (lCons (oV (aC (.str "NoPlaces"))) lNil))) lNil)))
    sNx)
    (sRet (aIfE (tAndA (tV (a2 vEq (oV (aBlt fLen (lCons (oVar 1) lNil))) (oV (aC (.int 1))))) (tTruA (oV (aIsV 0)))) (a2 vIx (oVar 1) (oV (aC (.int 0)))) (aLst (lCons (oV (aC (.str "other"))) lNil)))))))))))
theorem okS__law_raised_s4 (cc : Nat → Addr) (hcc : Inj cc 10) {xp : XP} {D : AEnds} {n : Nat} (a0 : XN) (a1 : (List PyData))  (hC : C__law_raised_s4 a0 a1) (hq : D.rt (v__law_raised_s4 a0 a1) n) : nb__law_raised_s4 cc xp D ⟨[some (.exc (XN.xd cc a0)), some (.own (a1.map eD))], n⟩ := by
  unfold C__law_raised_s4 at hC; unfold v__law_raised_s4 at hq; unfold nb__law_raised_s4
  exact (c_seq (c_ifJ (fun b8_ : Bool => (⟨[some (.exc (XN.xd cc a0)), some (.own ((bif b8_ then (a1 ++ [(eL PyData.str [("NoCuts" : Str)])]) else a1).map eD))], n⟩ : AS)) (tv_tru (ov_V (ev_isX (j := 7) hcc rfl hC.1 rfl)) rfl tru_B) (fun h7_ D_ k_ => (c_drop (ev_app (f := eD) (l := a1) (x := (eL PyData.str [("NoCuts" : Str)])) rfl (lv_cons (ov_V (ev_lst (lv_cons (ov_V ev_c) lv_nil) (fun _ q => q) rfl)) lv_nil) rfl (fun _ q => q) rfl (hC.2.1 h7_)) k_)) (fun h7_ D_ k_ => (c_pass k_)) (c_aft (okS__law_raised_s5 cc hcc a0 (bif (decide (a0.k = 7)) then (a1 ++ [(eL PyData.str [("NoCuts" : Str)])]) else a1)  hC.2.2 hq))))
def v__law_raised_s3 (a0 : XN) (a1 : (List PyData)) : PyData := (v__law_raised_s4 a0 (bif (decide (a0.k = 4)) then (a1 ++ [(eL PyData.str [("NoSeating" : Str)])]) else a1))
def C__law_raised_s3 (a0 : XN) (a1 : (List PyData)) : Prop := (a0.k < 10 ∧ ((decide (a0.k = 4)) = true → a1.length < sizeLine) ∧ C__law_raised_s4 a0 (bif (decide (a0.k = 4)) then (a1 ++ [(eL PyData.str [("NoSeating" : Str)])]) else a1))
def nb__law_raised_s3 (cc : Nat → Addr) : AST := (sSeq (sIf (tTruA (oV (aIsX (cc 4) 0)))
    (sDrop (aMut mApp 1 (lCons (oV (aLst (lCons (oV (aC (.str "NoSeating"))) lNil))) lNil)))
    sNx)
    (sSeq (sIf (tTruA (oV (aIsX (cc 7) 0)))
    (sDrop (aMut mApp 1 (lCons (oV (aLst (lCons (oV (aC (.str "NoCuts"))) lNil))) lNil)))
    sNx)
    (sSeq (sIf (tTruA (oV (aIsX (cc 6) 0)))
    (sDrop (aMut mApp 1 (lCons (oV (aLst (lCons (oV (aC (.str "NoSize"))) (lCons (oV (aFldX "size" 0)) lNil)))) lNil)))
    sNx)
    (sSeq (sIf (tTruA (oV (aIsX (cc 2) 0)))
    (sDrop (aMut mApp 1 (lCons (oV (aLst (lCons (oV (aC (.str "NoDish"))) (lCons (oV (aFldX "dish" 0)) lNil)))) lNil)))
    sNx)
    (sSeq (sIf (tTruA (oV (aIsX (cc 0) 0)))
    (sDrop (aMut mApp 1 (lCons (oV (aLst (lCons (oV (aC (.str "NoRanking"))) (lCons (oV (aFldX "ranking" 0)) lNil)))) lNil)))
    sNx)
    (sSeq (sIf (tTruA (oV (aIsX (cc 1) 0)))
    (sDrop (aMut mApp 1 (lCons (oV (aLst (lCons (oV (aC (.str "NoTaster"))) (lCons (oV (aFldX "taster" 0)) lNil)))) lNil)))
    sNx)
    (sSeq (sIf (tTruA (oV (aIsX (cc 8) 0)))
    (sDrop (aMut mApp 1 (lCons (oV (aLst (lCons (oV (aC (.str "NoSpan"))) lNil))) lNil)))
    sNx)
    (sSeq (sIf (tTruA (oV (aIsX (cc 9) 0)))
    (sDrop (aMut mApp 1 (lCons (oV (aLst (lCons (oV (aC (.str "NoPlaces"))) lNil))) lNil)))
    sNx)
    (sRet (aIfE (tAndA (tV (a2 vEq (oV (aBlt fLen (lCons (oVar 1) lNil))) (oV (aC (.int 1))))) (tTruA (oV (aIsV 0)))) (a2 vIx (oVar 1) (oV (aC (.int 0)))) (aLst (lCons (oV (aC (.str "other"))) lNil))))))))))))
theorem okS__law_raised_s3 (cc : Nat → Addr) (hcc : Inj cc 10) {xp : XP} {D : AEnds} {n : Nat} (a0 : XN) (a1 : (List PyData))  (hC : C__law_raised_s3 a0 a1) (hq : D.rt (v__law_raised_s3 a0 a1) n) : nb__law_raised_s3 cc xp D ⟨[some (.exc (XN.xd cc a0)), some (.own (a1.map eD))], n⟩ := by
  unfold C__law_raised_s3 at hC; unfold v__law_raised_s3 at hq; unfold nb__law_raised_s3
  exact (c_seq (c_ifJ (fun b6_ : Bool => (⟨[some (.exc (XN.xd cc a0)), some (.own ((bif b6_ then (a1 ++ [(eL PyData.str [("NoSeating" : Str)])]) else a1).map eD))], n⟩ : AS)) (tv_tru (ov_V (ev_isX (j := 4) hcc rfl hC.1 rfl)) rfl tru_B) (fun h5_ D_ k_ => (c_drop (ev_app (f := eD) (l := a1) (x := (eL PyData.str [("NoSeating" : Str)])) rfl (lv_cons (ov_V (ev_lst (lv_cons (ov_V ev_c) lv_nil) (fun _ q => q) rfl)) lv_nil) rfl (fun _ q => q) rfl (hC.2.1 h5_)) k_)) (fun h5_ D_ k_ => (c_pass k_)) (c_aft (okS__law_raised_s4 cc hcc a0 (bif (decide (a0.k = 4)) then (a1 ++ [(eL PyData.str [("NoSeating" : Str)])]) else a1)  hC.2.2 hq))))
def v__law_raised_s2 (a0 : XN) (a1 : (List PyData)) : PyData := (v__law_raised_s3 a0 (bif (decide (a0.k = 3)) then (a1 ++ [(eL eD [(PyData.str ("NotSeatable" : Str)), (fldX a0)])]) else a1))
def C__law_raised_s2 (a0 : XN) (a1 : (List PyData)) : Prop := (a0.k < 10 ∧ ((decide (a0.k = 3)) = true → (a0.fld = some (("obstruction" : Str), fldX a0) ∧ a1.length < sizeLine)) ∧ C__law_raised_s3 a0 (bif (decide (a0.k = 3)) then (a1 ++ [(eL eD [(PyData.str ("NotSeatable" : Str)), (fldX a0)])]) else a1))
def nb__law_raised_s2 (cc : Nat → Addr) : AST := (sSeq (sIf (tTruA (oV (aIsX (cc 3) 0)))
    (sDrop (aMut mApp 1 (lCons (oV (aLst (lCons (oV (aC (.str "NotSeatable"))) (lCons (oV (aFldX "obstruction" 0)) lNil)))) lNil)))
    sNx)
    (sSeq (sIf (tTruA (oV (aIsX (cc 4) 0)))
    (sDrop (aMut mApp 1 (lCons (oV (aLst (lCons (oV (aC (.str "NoSeating"))) lNil))) lNil)))
    sNx)
    (sSeq (sIf (tTruA (oV (aIsX (cc 7) 0)))
    (sDrop (aMut mApp 1 (lCons (oV (aLst (lCons (oV (aC (.str "NoCuts"))) lNil))) lNil)))
    sNx)
    (sSeq (sIf (tTruA (oV (aIsX (cc 6) 0)))
    (sDrop (aMut mApp 1 (lCons (oV (aLst (lCons (oV (aC (.str "NoSize"))) (lCons (oV (aFldX "size" 0)) lNil)))) lNil)))
    sNx)
    (sSeq (sIf (tTruA (oV (aIsX (cc 2) 0)))
    (sDrop (aMut mApp 1 (lCons (oV (aLst (lCons (oV (aC (.str "NoDish"))) (lCons (oV (aFldX "dish" 0)) lNil)))) lNil)))
    sNx)
    (sSeq (sIf (tTruA (oV (aIsX (cc 0) 0)))
    (sDrop (aMut mApp 1 (lCons (oV (aLst (lCons (oV (aC (.str "NoRanking"))) (lCons (oV (aFldX "ranking" 0)) lNil)))) lNil)))
    sNx)
    (sSeq (sIf (tTruA (oV (aIsX (cc 1) 0)))
    (sDrop (aMut mApp 1 (lCons (oV (aLst (lCons (oV (aC (.str "NoTaster"))) (lCons (oV (aFldX "taster" 0)) lNil)))) lNil)))
    sNx)
    (sSeq (sIf (tTruA (oV (aIsX (cc 8) 0)))
    (sDrop (aMut mApp 1 (lCons (oV (aLst (lCons (oV (aC (.str "NoSpan"))) lNil))) lNil)))
    sNx)
    (sSeq (sIf (tTruA (oV (aIsX (cc 9) 0)))
    (sDrop (aMut mApp 1 (lCons (oV (aLst (lCons (oV (aC (.str "NoPlaces"))) lNil))) lNil)))
    sNx)
    (sRet (aIfE (tAndA (tV (a2 vEq (oV (aBlt fLen (lCons (oVar 1) lNil))) (oV (aC (.int 1))))) (tTruA (oV (aIsV 0)))) (a2 vIx (oVar 1) (oV (aC (.int 0)))) (aLst (lCons (oV (aC (.str "other"))) lNil)))))))))))))
theorem okS__law_raised_s2 (cc : Nat → Addr) (hcc : Inj cc 10) {xp : XP} {D : AEnds} {n : Nat} (a0 : XN) (a1 : (List PyData))  (hC : C__law_raised_s2 a0 a1) (hq : D.rt (v__law_raised_s2 a0 a1) n) : nb__law_raised_s2 cc xp D ⟨[some (.exc (XN.xd cc a0)), some (.own (a1.map eD))], n⟩ := by
  unfold C__law_raised_s2 at hC; unfold v__law_raised_s2 at hq; unfold nb__law_raised_s2
  exact (c_seq (c_ifJ (fun b4_ : Bool => (⟨[some (.exc (XN.xd cc a0)), some (.own ((bif b4_ then (a1 ++ [(eL eD [(PyData.str ("NotSeatable" : Str)), (fldX a0)])]) else a1).map eD))], n⟩ : AS)) (tv_tru (ov_V (ev_isX (j := 3) hcc rfl hC.1 rfl)) rfl tru_B) (fun h3_ D_ k_ => (c_drop (ev_app (f := eD) (l := a1) (x := (eL eD [(PyData.str ("NotSeatable" : Str)), (fldX a0)])) rfl (lv_cons (ov_V (ev_lst (lv_cons (ov_V ev_c) (lv_cons (ov_V (ev_fldX rfl (hC.2.1 h3_).1)) lv_nil)) (fun _ q => q) rfl)) lv_nil) rfl (fun _ q => q) rfl (hC.2.1 h3_).2) k_)) (fun h3_ D_ k_ => (c_pass k_)) (c_aft (okS__law_raised_s3 cc hcc a0 (bif (decide (a0.k = 3)) then (a1 ++ [(eL eD [(PyData.str ("NotSeatable" : Str)), (fldX a0)])]) else a1)  hC.2.2 hq))))
def v__law_raised_s1 (a0 : XN) (a1 : (List PyData)) : PyData := (v__law_raised_s2 a0 (bif (decide (a0.k = 5)) then (a1 ++ [(eL PyData.str [("NoMenu" : Str)])]) else a1))
def C__law_raised_s1 (a0 : XN) (a1 : (List PyData)) : Prop := (a0.k < 10 ∧ ((decide (a0.k = 5)) = true → a1.length < sizeLine) ∧ C__law_raised_s2 a0 (bif (decide (a0.k = 5)) then (a1 ++ [(eL PyData.str [("NoMenu" : Str)])]) else a1))
def nb__law_raised_s1 (cc : Nat → Addr) : AST := (sSeq (sIf (tTruA (oV (aIsX (cc 5) 0)))
    (sDrop (aMut mApp 1 (lCons (oV (aLst (lCons (oV (aC (.str "NoMenu"))) lNil))) lNil)))
    sNx)
    (sSeq (sIf (tTruA (oV (aIsX (cc 3) 0)))
    (sDrop (aMut mApp 1 (lCons (oV (aLst (lCons (oV (aC (.str "NotSeatable"))) (lCons (oV (aFldX "obstruction" 0)) lNil)))) lNil)))
    sNx)
    (sSeq (sIf (tTruA (oV (aIsX (cc 4) 0)))
    (sDrop (aMut mApp 1 (lCons (oV (aLst (lCons (oV (aC (.str "NoSeating"))) lNil))) lNil)))
    sNx)
    (sSeq (sIf (tTruA (oV (aIsX (cc 7) 0)))
    (sDrop (aMut mApp 1 (lCons (oV (aLst (lCons (oV (aC (.str "NoCuts"))) lNil))) lNil)))
    sNx)
    (sSeq (sIf (tTruA (oV (aIsX (cc 6) 0)))
    (sDrop (aMut mApp 1 (lCons (oV (aLst (lCons (oV (aC (.str "NoSize"))) (lCons (oV (aFldX "size" 0)) lNil)))) lNil)))
    sNx)
    (sSeq (sIf (tTruA (oV (aIsX (cc 2) 0)))
    (sDrop (aMut mApp 1 (lCons (oV (aLst (lCons (oV (aC (.str "NoDish"))) (lCons (oV (aFldX "dish" 0)) lNil)))) lNil)))
    sNx)
    (sSeq (sIf (tTruA (oV (aIsX (cc 0) 0)))
    (sDrop (aMut mApp 1 (lCons (oV (aLst (lCons (oV (aC (.str "NoRanking"))) (lCons (oV (aFldX "ranking" 0)) lNil)))) lNil)))
    sNx)
    (sSeq (sIf (tTruA (oV (aIsX (cc 1) 0)))
    (sDrop (aMut mApp 1 (lCons (oV (aLst (lCons (oV (aC (.str "NoTaster"))) (lCons (oV (aFldX "taster" 0)) lNil)))) lNil)))
    sNx)
    (sSeq (sIf (tTruA (oV (aIsX (cc 8) 0)))
    (sDrop (aMut mApp 1 (lCons (oV (aLst (lCons (oV (aC (.str "NoSpan"))) lNil))) lNil)))
    sNx)
    (sSeq (sIf (tTruA (oV (aIsX (cc 9) 0)))
    (sDrop (aMut mApp 1 (lCons (oV (aLst (lCons (oV (aC (.str "NoPlaces"))) lNil))) lNil)))
    sNx)
    (sRet (aIfE (tAndA (tV (a2 vEq (oV (aBlt fLen (lCons (oVar 1) lNil))) (oV (aC (.int 1))))) (tTruA (oV (aIsV 0)))) (a2 vIx (oVar 1) (oV (aC (.int 0)))) (aLst (lCons (oV (aC (.str "other"))) lNil))))))))))))))
theorem okS__law_raised_s1 (cc : Nat → Addr) (hcc : Inj cc 10) {xp : XP} {D : AEnds} {n : Nat} (a0 : XN) (a1 : (List PyData))  (hC : C__law_raised_s1 a0 a1) (hq : D.rt (v__law_raised_s1 a0 a1) n) : nb__law_raised_s1 cc xp D ⟨[some (.exc (XN.xd cc a0)), some (.own (a1.map eD))], n⟩ := by
  unfold C__law_raised_s1 at hC; unfold v__law_raised_s1 at hq; unfold nb__law_raised_s1
  exact (c_seq (c_ifJ (fun b2_ : Bool => (⟨[some (.exc (XN.xd cc a0)), some (.own ((bif b2_ then (a1 ++ [(eL PyData.str [("NoMenu" : Str)])]) else a1).map eD))], n⟩ : AS)) (tv_tru (ov_V (ev_isX (j := 5) hcc rfl hC.1 rfl)) rfl tru_B) (fun h1_ D_ k_ => (c_drop (ev_app (f := eD) (l := a1) (x := (eL PyData.str [("NoMenu" : Str)])) rfl (lv_cons (ov_V (ev_lst (lv_cons (ov_V ev_c) lv_nil) (fun _ q => q) rfl)) lv_nil) rfl (fun _ q => q) rfl (hC.2.1 h1_)) k_)) (fun h1_ D_ k_ => (c_pass k_)) (c_aft (okS__law_raised_s2 cc hcc a0 (bif (decide (a0.k = 5)) then (a1 ++ [(eL PyData.str [("NoMenu" : Str)])]) else a1)  hC.2.2 hq))))
def v__law_raised (a0 : XN) : PyData := (v__law_raised_s1 a0 [])
def C__law_raised (a0 : XN) : Prop := (a0.k < 10 ∧ C__law_raised_s1 a0 [])
def nb__law_raised (cc : Nat → Addr) : AST := (sSeq (sSetO 1 (aLst lNil))
    (sSeq (sIf (tTruA (oV (aIsX (cc 5) 0)))
    (sDrop (aMut mApp 1 (lCons (oV (aLst (lCons (oV (aC (.str "NoMenu"))) lNil))) lNil)))
    sNx)
    (sSeq (sIf (tTruA (oV (aIsX (cc 3) 0)))
    (sDrop (aMut mApp 1 (lCons (oV (aLst (lCons (oV (aC (.str "NotSeatable"))) (lCons (oV (aFldX "obstruction" 0)) lNil)))) lNil)))
    sNx)
    (sSeq (sIf (tTruA (oV (aIsX (cc 4) 0)))
    (sDrop (aMut mApp 1 (lCons (oV (aLst (lCons (oV (aC (.str "NoSeating"))) lNil))) lNil)))
    sNx)
    (sSeq (sIf (tTruA (oV (aIsX (cc 7) 0)))
    (sDrop (aMut mApp 1 (lCons (oV (aLst (lCons (oV (aC (.str "NoCuts"))) lNil))) lNil)))
    sNx)
    (sSeq (sIf (tTruA (oV (aIsX (cc 6) 0)))
    (sDrop (aMut mApp 1 (lCons (oV (aLst (lCons (oV (aC (.str "NoSize"))) (lCons (oV (aFldX "size" 0)) lNil)))) lNil)))
    sNx)
    (sSeq (sIf (tTruA (oV (aIsX (cc 2) 0)))
    (sDrop (aMut mApp 1 (lCons (oV (aLst (lCons (oV (aC (.str "NoDish"))) (lCons (oV (aFldX "dish" 0)) lNil)))) lNil)))
    sNx)
    (sSeq (sIf (tTruA (oV (aIsX (cc 0) 0)))
    (sDrop (aMut mApp 1 (lCons (oV (aLst (lCons (oV (aC (.str "NoRanking"))) (lCons (oV (aFldX "ranking" 0)) lNil)))) lNil)))
    sNx)
    (sSeq (sIf (tTruA (oV (aIsX (cc 1) 0)))
    (sDrop (aMut mApp 1 (lCons (oV (aLst (lCons (oV (aC (.str "NoTaster"))) (lCons (oV (aFldX "taster" 0)) lNil)))) lNil)))
    sNx)
    (sSeq (sIf (tTruA (oV (aIsX (cc 8) 0)))
    (sDrop (aMut mApp 1 (lCons (oV (aLst (lCons (oV (aC (.str "NoSpan"))) lNil))) lNil)))
    sNx)
    (sSeq (sIf (tTruA (oV (aIsX (cc 9) 0)))
    (sDrop (aMut mApp 1 (lCons (oV (aLst (lCons (oV (aC (.str "NoPlaces"))) lNil))) lNil)))
    sNx)
    (sRet (aIfE (tAndA (tV (a2 vEq (oV (aBlt fLen (lCons (oVar 1) lNil))) (oV (aC (.int 1))))) (tTruA (oV (aIsV 0)))) (a2 vIx (oVar 1) (oV (aC (.int 0)))) (aLst (lCons (oV (aC (.str "other"))) lNil)))))))))))))))
theorem okS__law_raised (cc : Nat → Addr) (hcc : Inj cc 10) {xp : XP} {D : AEnds} {n : Nat} (a0 : XN)  (hC : C__law_raised a0) (hq : D.rt (v__law_raised a0) n) : nb__law_raised cc xp D ⟨[some (.exc (XN.xd cc a0)), none], n⟩ := by
  unfold C__law_raised at hC; unfold v__law_raised at hq; unfold nb__law_raised
  exact (c_seq (c_setO (ev_lst lv_nil (fun _ q => q) rfl) rfl (c_aft (okS__law_raised_s1 cc hcc a0 []  hC.2 hq))))
theorem okV__law_raised (cc : Nat → Addr) (hcc : Inj cc 10) (a0 : XN) (hC : C__law_raised a0) : PEx (F__law_raised cc) (XN.xd cc a0) (v__law_raised a0) := fun Q q => by
  unfold F__law_raised fnE
  exact okS__law_raised cc hcc (xp := x0) (D := { nx := fun _ => Q .none, rt := fun r _ => Q r }) (n := 0) a0 hC q

def v__law_ranked (a0 : (List (Int × Int))) (a1 : Int) : (List Int) := ((srtN (eP PyData.int PyData.int) ((enN a0).map fun x1_ : (Int × (Int × Int)) => ((((0 : Int) - x1_.2.1) - (x1_.2.2 * a1)), x1_.1))).map fun x3_ : (Int × Int) => x3_.2)
def C__law_ranked (a0 : (List (Int × Int))) (a1 : Int) : Prop := ((enN a0).length ≤ sizeLine ∧ (∀ x1_ ∈ (enN a0), CMul x1_.2.2 a1) ∧ SrtOk (((enN a0).map fun x1_ : (Int × (Int × Int)) => ((((0 : Int) - x1_.2.1) - (x1_.2.2 * a1)), x1_.1)).map (eP PyData.int PyData.int)) ∧ (srtN (eP PyData.int PyData.int) ((enN a0).map fun x1_ : (Int × (Int × Int)) => ((((0 : Int) - x1_.2.1) - (x1_.2.2 * a1)), x1_.1))).length ≤ sizeLine)
def nb__law_ranked : AST := (sSeq (sSet 2 (aLc (iEnT (aVar 0)) (bTup 2 (bCons (bNm 3) (bCons (bTup 2 (bCons (bNm 4) (bCons (bNm 5) bNil))) bNil))) tYesA (aTup (lCons (oV (a2 vSub (oV (a2 vSub (oV (aC (.int 0))) (oVar 4))) (oV (a2 vMul (oVar 5) (oVar 1))))) (lCons (oV (aVar 3)) lNil))) [3, 4, 5]))
    (sRet (aBlt fTuple (lCons (oV (aLc (iSeq (oV (aBlt fSorted (lCons (oVar 2) lNil)))) (bTup 2 (bCons (bNm 6) (bCons (bNm 3) bNil))) tYesA (aVar 3) [6, 3])) lNil))))
theorem okS__law_ranked {xp : XP} {D : AEnds} {n : Nat} (a0 : (List (Int × Int))) (a1 : Int)  (hC : C__law_ranked a0 a1) (hq : D.rt (eQ PyData.int (v__law_ranked a0 a1)) n) : nb__law_ranked xp D ⟨[some (.dat (eQ (eP PyData.int PyData.int) a0)), some (.dat (PyData.int a1)), none, none, none, none, none], n⟩ := by
  unfold C__law_ranked at hC; unfold v__law_ranked at hq; unfold nb__law_ranked
  exact (c_seq (c_set (ev_lcM (eP PyData.int (eP PyData.int PyData.int)) (eP PyData.int PyData.int) (fun x1_ : (Int × (Int × Int)) => ((((0 : Int) - x1_.2.1) - (x1_.2.2 * a1)), x1_.1)) (fun x1_ : (Int × (Int × Int)) => (⟨[some (.dat (eQ (eP PyData.int PyData.int) a0)), some (.dat (PyData.int a1)), none, some (.dat (PyData.int x1_.1)), some (.dat (PyData.int x1_.2.1)), some (.dat (PyData.int x1_.2.2)), none], n⟩ : AS)) (fun x1_ : (Int × (Int × Int)) => (⟨[some (.dat (eQ (eP PyData.int PyData.int) a0)), some (.dat (PyData.int a1)), none, some (.dat (PyData.int x1_.1)), some (.dat (PyData.int x1_.2.1)), some (.dat (PyData.int x1_.2.2)), none], n⟩ : AS)) (iv_enT (f := (eP PyData.int PyData.int)) (ev_var 0 rfl)) hC.1 rfl True.intro (fun x1_ hx2_ => (fun _ q => ⟨rfl, rfl, rfl, rfl, q⟩)) (fun x1_ hx2_ => (ev_tup (lv_cons (ov_V (ev_a2 (ov_V (ev_a2 (ov_V ev_c) (ov_dat 4 rfl) rfl rfl vf_subI)) (ov_V (ev_a2 (ov_dat 5 rfl) (ov_dat 1 rfl) rfl rfl (vf_mulI (hC.2.1 x1_ hx2_)))) rfl rfl vf_subI)) (lv_cons (ov_V (ev_var 3 rfl)) lv_nil)) (fun _ q => q) rfl)) (fun _ _ => ⟨rfl, rfl⟩)) rfl (c_aft (c_ret (ev_blt (lv_cons (ov_V (ev_lcM (eP PyData.int PyData.int) PyData.int (fun x3_ : (Int × Int) => x3_.2) (fun x3_ : (Int × Int) => (⟨[some (.dat (eQ (eP PyData.int PyData.int) a0)), some (.dat (PyData.int a1)), some (.dat (eL (eP PyData.int PyData.int) ((enN a0).map fun x1_ : (Int × (Int × Int)) => ((((0 : Int) - x1_.2.1) - (x1_.2.2 * a1)), x1_.1)))), some (.dat (PyData.int x3_.2)), none, none, some (.dat (PyData.int x3_.1))], n⟩ : AS)) (fun x3_ : (Int × Int) => (⟨[some (.dat (eQ (eP PyData.int PyData.int) a0)), some (.dat (PyData.int a1)), some (.dat (eL (eP PyData.int PyData.int) ((enN a0).map fun x1_ : (Int × (Int × Int)) => ((((0 : Int) - x1_.2.1) - (x1_.2.2 * a1)), x1_.1)))), some (.dat (PyData.int x3_.2)), none, none, some (.dat (PyData.int x3_.1))], n⟩ : AS)) (iv_valL (f := (eP PyData.int PyData.int)) (ov_V (ev_blt (lv_cons (ov_dat 2 rfl) lv_nil) (rsl_cons rfl (fun _ q => q)) (fv_sortedL (f := (eP PyData.int PyData.int)) hC.2.2.1)))) hC.2.2.2 rfl True.intro (fun x3_ hx4_ => (fun _ q => ⟨rfl, rfl, q⟩)) (fun x3_ hx4_ => (ev_var 3 rfl)) (fun _ _ => ⟨rfl, rfl⟩))) lv_nil) (rsl_cons rfl (fun _ q => q)) (fv_tupleL (f := PyData.int))) hq))))
theorem okV__law_ranked (a0 : (List (Int × Int))) (a1 : Int) (hC : C__law_ranked a0 a1) : PFn F__law_ranked [(eQ (eP PyData.int PyData.int) a0), (PyData.int a1)] (eQ PyData.int (v__law_ranked a0 a1)) := fun n Q X q => by
  unfold F__law_ranked
  exact okS__law_ranked (xp := fun x s => X x s.n) (D := { nx := fun s => Q .none s.n, rt := Q }) a0 a1 hC q

def v__law_prefers (a0 : (List (Int × Int))) (a1 : Int) (a2 : (List Int)) : Bool := (decide ((gt (a2.map fun x1_ : Int => ((gt a0 x1_).1 + ((gt a0 x1_).2 * a1))) (1 : Int)) ≤ (gt (a2.map fun x1_ : Int => ((gt a0 x1_).1 + ((gt a0 x1_).2 * a1))) (0 : Int))))
def C__law_prefers (a0 : (List (Int × Int))) (a1 : Int) (a2 : (List Int)) : Prop := (a2.length ≤ sizeLine ∧ (∀ x1_ ∈ a2, (Ixr a0 x1_ ∧ Ixr a0 x1_ ∧ CMul (gt a0 x1_).2 a1)) ∧ Ixr (a2.map fun x1_ : Int => ((gt a0 x1_).1 + ((gt a0 x1_).2 * a1))) (0 : Int) ∧ Ixr (a2.map fun x1_ : Int => ((gt a0 x1_).1 + ((gt a0 x1_).2 * a1))) (1 : Int))
def nb__law_prefers : AST := (sSeq (sSet 3 (aLc (iSeq (oVar 2)) (bNm 4) tYesA (a2 vAdd (oV (a2 vIx (oV (a2 vIx (oVar 0) (oVar 4))) (oV (aC (.int 0))))) (oV (a2 vMul (oV (a2 vIx (oV (a2 vIx (oVar 0) (oVar 4))) (oV (aC (.int 1))))) (oVar 1)))) [4]))
    (sRet (a2 vGe (oV (a2 vIx (oVar 3) (oV (aC (.int 0))))) (oV (a2 vIx (oVar 3) (oV (aC (.int 1))))))))
theorem okS__law_prefers {xp : XP} {D : AEnds} {n : Nat} (a0 : (List (Int × Int))) (a1 : Int) (a2 : (List Int))  (hC : C__law_prefers a0 a1 a2) (hq : D.rt (PyData.bool (v__law_prefers a0 a1 a2)) n) : nb__law_prefers xp D ⟨[some (.dat (eQ (eP PyData.int PyData.int) a0)), some (.dat (PyData.int a1)), some (.dat (eQ PyData.int a2)), none, none], n⟩ := by
  unfold C__law_prefers at hC; unfold v__law_prefers at hq; unfold nb__law_prefers
  exact (c_seq (c_set (ev_lcM PyData.int PyData.int (fun x1_ : Int => ((gt a0 x1_).1 + ((gt a0 x1_).2 * a1))) (fun x1_ : Int => (⟨[some (.dat (eQ (eP PyData.int PyData.int) a0)), some (.dat (PyData.int a1)), some (.dat (eQ PyData.int a2)), none, some (.dat (PyData.int x1_))], n⟩ : AS)) (fun x1_ : Int => (⟨[some (.dat (eQ (eP PyData.int PyData.int) a0)), some (.dat (PyData.int a1)), some (.dat (eQ PyData.int a2)), none, some (.dat (PyData.int x1_))], n⟩ : AS)) (iv_valQ (f := PyData.int) (ov_dat 2 rfl)) hC.1 rfl True.intro (fun x1_ hx2_ => ((bv_nm 4).to rfl)) (fun x1_ hx2_ => (ev_a2 (ov_V (ev_a2 (ov_V (ev_a2 (ov_dat 0 rfl) (ov_dat 4 rfl) rfl rfl (vf_ixQ (f := (eP PyData.int PyData.int)) (hC.2.1 x1_ hx2_).1))) (ov_V ev_c) rfl rfl (vf_ixT at_0))) (ov_V (ev_a2 (ov_V (ev_a2 (ov_V (ev_a2 (ov_dat 0 rfl) (ov_dat 4 rfl) rfl rfl (vf_ixQ (f := (eP PyData.int PyData.int)) (hC.2.1 x1_ hx2_).2.1))) (ov_V ev_c) rfl rfl (vf_ixT at_1))) (ov_dat 1 rfl) rfl rfl (vf_mulI (hC.2.1 x1_ hx2_).2.2))) rfl rfl vf_addI)) (fun _ _ => ⟨rfl, rfl⟩)) rfl (c_aft (c_ret (ev_a2 (ov_V (ev_a2 (ov_dat 3 rfl) (ov_V ev_c) rfl rfl (vf_ixL (f := PyData.int) hC.2.2.1))) (ov_V (ev_a2 (ov_dat 3 rfl) (ov_V ev_c) rfl rfl (vf_ixL (f := PyData.int) hC.2.2.2))) rfl rfl vf_geI) hq))))
theorem okV__law_prefers (a0 : (List (Int × Int))) (a1 : Int) (a2 : (List Int)) (hC : C__law_prefers a0 a1 a2) : PFn F__law_prefers [(eQ (eP PyData.int PyData.int) a0), (PyData.int a1), (eQ PyData.int a2)] (PyData.bool (v__law_prefers a0 a1 a2)) := fun n Q X q => by
  unfold F__law_prefers
  exact okS__law_prefers (xp := fun x s => X x s.n) (D := { nx := fun s => Q .none s.n, rt := Q }) a0 a1 a2 hC q

def v__law_first_change (a0 : (List (Int × Int))) (a1 : Int) (a2 : Int) (a3 : (List Int)) : Int := (whV (fun (w1_ : Int × Int) => (decide ((1 : Int) < (w1_.2 - w1_.1)))) (fun (k2_ : (Int × Int) → Int) (w1_ : Int × Int) => (k2_ ((bif (decide ((v__law_prefers a0 ((w1_.1 + w1_.2) / (2 : Int)) a3) = (v__law_prefers a0 w1_.1 a3))) then ((w1_.1 + w1_.2) / (2 : Int)) else w1_.1), (bif (decide ((v__law_prefers a0 ((w1_.1 + w1_.2) / (2 : Int)) a3) = (v__law_prefers a0 w1_.1 a3))) then w1_.2 else ((w1_.1 + w1_.2) / (2 : Int)))))) (fun (w1_ : Int × Int) => w1_.2) default ((a2 - a1).toNat + 1) (a1, a2))
def C__law_first_change (a0 : (List (Int × Int))) (a1 : Int) (a2 : Int) (a3 : (List Int)) : Prop := whC (fun (w1_ : Int × Int) => True) (fun (w1_ : Int × Int) => (decide ((1 : Int) < (w1_.2 - w1_.1)))) (fun (kC3_ : (Int × Int) → Prop) (w1_ : Int × Int) => (CDivW (w1_.1 + w1_.2) (2 : Int) ∧ C__law_prefers a0 ((w1_.1 + w1_.2) / (2 : Int)) a3 ∧ C__law_prefers a0 w1_.1 a3 ∧ kC3_ ((bif (decide ((v__law_prefers a0 ((w1_.1 + w1_.2) / (2 : Int)) a3) = (v__law_prefers a0 w1_.1 a3))) then ((w1_.1 + w1_.2) / (2 : Int)) else w1_.1), (bif (decide ((v__law_prefers a0 ((w1_.1 + w1_.2) / (2 : Int)) a3) = (v__law_prefers a0 w1_.1 a3))) then w1_.2 else ((w1_.1 + w1_.2) / (2 : Int)))))) (fun (w1_ : Int × Int) => True) ((a2 - a1).toNat + 1) (a1, a2)
def nb__law_first_change : AST := (sSeq (sWhile (tV (a2 vGt (oV (a2 vSub (oVar 2) (oVar 1))) (oV (aC (.int 1)))))
    (sSeq (sSet 4 (a2 vDiv (oV (a2 vAdd (oVar 1) (oVar 2))) (oV (aC (.int 2)))))
    (sIf (tV (a2 vEq (oV (aCall0 [.dat, .dat, .dat] (calm F__law_prefers) (lCons (oV (aVar 0)) (lCons (oV (aVar 4)) (lCons (oV (aVar 3)) lNil))))) (oV (aCall0 [.dat, .dat, .dat] (calm F__law_prefers) (lCons (oV (aVar 0)) (lCons (oV (aVar 1)) (lCons (oV (aVar 3)) lNil)))))))
    (sSet 1 (aVar 4))
    (sSet 2 (aVar 4)))))
    (sRetV 2))
theorem okS__law_first_change {xp : XP} {D : AEnds} {n : Nat} (a0 : (List (Int × Int))) (a1 : Int) (a2 : Int) (a3 : (List Int))  (hC : C__law_first_change a0 a1 a2 a3) (hq : D.rt (PyData.int (v__law_first_change a0 a1 a2 a3)) n) : nb__law_first_change xp D ⟨[some (.dat (eQ (eP PyData.int PyData.int) a0)), some (.dat (PyData.int a1)), some (.dat (PyData.int a2)), some (.dat (eQ PyData.int a3)), none], n⟩ := by
  unfold C__law_first_change at hC; unfold v__law_first_change at hq; unfold nb__law_first_change
  exact (c_seq (c_while (R := fun r => D.rt (PyData.int r) n) (fun (w1_ : Int × Int) (s : AS) => ∃ (q4 : Option AV), s = ⟨[some (.dat (eQ (eP PyData.int PyData.int) a0)), some (.dat (PyData.int w1_.1)), some (.dat (PyData.int w1_.2)), some (.dat (eQ PyData.int a3)), q4], n⟩) ⟨none, rfl⟩ hC hq (fun w1_ s_ hi_ hT_ => by
    obtain ⟨q4, e_⟩ := hi_
    subst e_
    exact (tv_V (ev_a2 (ov_V (ev_a2 (ov_dat 2 rfl) (ov_dat 1 rfl) rfl rfl vf_subI)) (ov_V ev_c) rfl rfl vf_gtI))) (fun w1_ s_ k2_ kC3_ N_ hi_ hc_ hC_ hq_ hN_ => by
    obtain ⟨q4, e_⟩ := hi_
    subst e_
    exact (c_seq (c_set (ev_a2 (ov_V (ev_a2 (ov_dat 1 rfl) (ov_dat 2 rfl) rfl rfl vf_addI)) (ov_V ev_c) rfl rfl (vf_divI hC_.1)) rfl (c_aft (c_ifJ (fun b5_ : Bool => (⟨[some (.dat (eQ (eP PyData.int PyData.int) a0)), some (.dat (PyData.int (bif b5_ then ((w1_.1 + w1_.2) / (2 : Int)) else w1_.1))), some (.dat (PyData.int (bif b5_ then w1_.2 else ((w1_.1 + w1_.2) / (2 : Int))))), some (.dat (eQ PyData.int a3)), some (.dat (PyData.int ((w1_.1 + w1_.2) / (2 : Int))))], n⟩ : AS)) (tv_V (ev_a2 (ov_V (ev_call0 (lv_cons (ov_V (ev_var 0 rfl)) (lv_cons (ov_V (ev_var 4 rfl)) (lv_cons (ov_V (ev_var 3 rfl)) lv_nil))) (fun _ q => q) (okV__law_prefers a0 ((w1_.1 + w1_.2) / (2 : Int)) a3 hC_.2.1))) (ov_V (ev_call0 (lv_cons (ov_V (ev_var 0 rfl)) (lv_cons (ov_V (ev_var 1 rfl)) (lv_cons (ov_V (ev_var 3 rfl)) lv_nil))) (fun _ q => q) (okV__law_prefers a0 w1_.1 a3 hC_.2.2.1))) rfl rfl (vf_eq (f := PyData.bool) lw_B (sh_B (k := 0)) rfl))) (fun h4_ D_ k_ => (c_set (ev_var 4 rfl) rfl k_)) (fun h4_ D_ k_ => (c_set (ev_var 4 rfl) rfl k_)) (hN_ ((bif (decide ((v__law_prefers a0 ((w1_.1 + w1_.2) / (2 : Int)) a3) = (v__law_prefers a0 w1_.1 a3))) then ((w1_.1 + w1_.2) / (2 : Int)) else w1_.1), (bif (decide ((v__law_prefers a0 ((w1_.1 + w1_.2) / (2 : Int)) a3) = (v__law_prefers a0 w1_.1 a3))) then w1_.2 else ((w1_.1 + w1_.2) / (2 : Int)))) _ ⟨some (.dat (PyData.int ((w1_.1 + w1_.2) / (2 : Int)))), rfl⟩ hC_.2.2.2 hq_)))))) (fun w1_ s_ hi_ hc_ hA_ hqa_ => by
    obtain ⟨q4, e_⟩ := hi_
    subst e_
    exact (c_aft (c_retV 2 rfl hqa_)))))
theorem okV__law_first_change (a0 : (List (Int × Int))) (a1 : Int) (a2 : Int) (a3 : (List Int)) (hC : C__law_first_change a0 a1 a2 a3) : PFn F__law_first_change [(eQ (eP PyData.int PyData.int) a0), (PyData.int a1), (PyData.int a2), (eQ PyData.int a3)] (PyData.int (v__law_first_change a0 a1 a2 a3)) := fun n Q X q => by
  unfold F__law_first_change
  exact okS__law_first_change (xp := fun x s => X x s.n) (D := { nx := fun s => Q .none s.n, rt := Q }) a0 a1 a2 a3 hC q

def v__law_due_s1 (a0 : (List (Int × Int))) (a1 : Int) (a2 : Int) (a3 : (List (Int × (Int × Int)))) : (List (Int × (Int × Int))) := (forV (fun (k3_ : ((List (Int × (Int × Int)))) → (List (Int × (Int × Int)))) (x2_ : (Int × Int)) (w1_ : (List (Int × (Int × Int)))) => (k3_ ((bif (!(decide ((v__law_prefers a0 a1 [x2_.1, x2_.2]) = (v__law_prefers a0 a2 [x2_.1, x2_.2])))) then (w1_ ++ [((v__law_first_change a0 a1 a2 [x2_.1, x2_.2]), x2_)]) else w1_)))) (fun (w1_ : (List (Int × (Int × Int)))) => (srtN (eP PyData.int (eP PyData.int PyData.int)) w1_)) (v__law_pairs ((a0.length : Nat) : Int)) (a3))
def C__law_due_s1 (a0 : (List (Int × Int))) (a1 : Int) (a2 : Int) (a3 : (List (Int × (Int × Int)))) : Prop := (C__law_pairs ((a0.length : Nat) : Int) ∧ forV (fun (kC4_ : ((List (Int × (Int × Int)))) → Prop) (x2_ : (Int × Int)) (w1_ : (List (Int × (Int × Int)))) => (C__law_prefers a0 a1 [x2_.1, x2_.2] ∧ C__law_prefers a0 a2 [x2_.1, x2_.2] ∧ ((!(decide ((v__law_prefers a0 a1 [x2_.1, x2_.2]) = (v__law_prefers a0 a2 [x2_.1, x2_.2])))) = true → (C__law_first_change a0 a1 a2 [x2_.1, x2_.2] ∧ w1_.length < sizeLine)) ∧ kC4_ ((bif (!(decide ((v__law_prefers a0 a1 [x2_.1, x2_.2]) = (v__law_prefers a0 a2 [x2_.1, x2_.2])))) then (w1_ ++ [((v__law_first_change a0 a1 a2 [x2_.1, x2_.2]), x2_)]) else w1_)))) (fun (w1_ : (List (Int × (Int × Int)))) => SrtOk (w1_.map (eP PyData.int (eP PyData.int PyData.int)))) (v__law_pairs ((a0.length : Nat) : Int)) (a3))
def nb__law_due_s1 : AST := (sSeq (sFor (iSeq (oV (aCall0 [.dat] (calm F__law_pairs) (lCons (oV (aBlt fLen (lCons (oVar 0) lNil))) lNil)))) (bNm 4)
    (sIf (tV (a2 vNe (oV (aCall0 [.dat, .dat, .dat] (calm F__law_prefers) (lCons (oV (aVar 0)) (lCons (oV (aVar 1)) (lCons (oV (aVar 4)) lNil))))) (oV (aCall0 [.dat, .dat, .dat] (calm F__law_prefers) (lCons (oV (aVar 0)) (lCons (oV (aVar 2)) (lCons (oV (aVar 4)) lNil)))))))
    (sDrop (aMut mApp 3 (lCons (oV (aTup (lCons (oV (aCall0 [.dat, .dat, .dat, .dat] (calm F__law_first_change) (lCons (oV (aVar 0)) (lCons (oV (aVar 1)) (lCons (oV (aVar 2)) (lCons (oV (aVar 4)) lNil)))))) (lCons (oV (aVar 4)) lNil)))) lNil)))
    sNx))
    (sRet (aBlt fTuple (lCons (oV (aBlt fSorted (lCons (oVar 3) lNil))) lNil))))
theorem okS__law_due_s1 {xp : XP} {D : AEnds} {n : Nat} (a0 : (List (Int × Int))) (a1 : Int) (a2 : Int) (a3 : (List (Int × (Int × Int))))  (hC : C__law_due_s1 a0 a1 a2 a3) (hq : D.rt (eQ (eP PyData.int (eP PyData.int PyData.int)) (v__law_due_s1 a0 a1 a2 a3)) n) : nb__law_due_s1 xp D ⟨[some (.dat (eQ (eP PyData.int PyData.int) a0)), some (.dat (PyData.int a1)), some (.dat (PyData.int a2)), some (.own (a3.map (eP PyData.int (eP PyData.int PyData.int)))), none], n⟩ := by
  unfold C__law_due_s1 at hC; unfold v__law_due_s1 at hq; unfold nb__law_due_s1
  exact (c_seq (c_for (R := fun r => D.rt (eQ (eP PyData.int (eP PyData.int PyData.int)) r) n) (eP PyData.int PyData.int) (fun (w1_ : (List (Int × (Int × Int)))) (s : AS) => ∃ (q4 : Option AV), s = ⟨[some (.dat (eQ (eP PyData.int PyData.int) a0)), some (.dat (PyData.int a1)), some (.dat (PyData.int a2)), some (.own (w1_.map (eP PyData.int (eP PyData.int PyData.int)))), q4], n⟩) (iv_valL (f := (eP PyData.int PyData.int)) (ov_V (ev_call0 (lv_cons (ov_V (ev_blt (lv_cons (ov_dat 0 rfl) lv_nil) (rsl_cons rfl (fun _ q => q)) (fv_lenQ (f := (eP PyData.int PyData.int))))) lv_nil) (fun _ q => q) (okV__law_pairs ((a0.length : Nat) : Int) hC.1)))) ⟨none, rfl⟩ hC.2 hq (fun x2_ w1_ s_ k3_ kC4_ N_ hi_ hC_ hq_ hN_ => by
    obtain ⟨q4, e_⟩ := hi_
    subst e_
    exact (g_bv ((bv_nm 4).to rfl) (c_ifJ (fun b6_ : Bool => (⟨[some (.dat (eQ (eP PyData.int PyData.int) a0)), some (.dat (PyData.int a1)), some (.dat (PyData.int a2)), some (.own ((bif b6_ then (w1_ ++ [((v__law_first_change a0 a1 a2 [x2_.1, x2_.2]), x2_)]) else w1_).map (eP PyData.int (eP PyData.int PyData.int)))), some (.dat (eP PyData.int PyData.int x2_))], n⟩ : AS)) (tv_V (ev_a2 (ov_V (ev_call0 (lv_cons (ov_V (ev_var 0 rfl)) (lv_cons (ov_V (ev_var 1 rfl)) (lv_cons (ov_V (ev_var 4 rfl)) lv_nil))) (fun _ q => q) (okV__law_prefers a0 a1 [x2_.1, x2_.2] hC_.1))) (ov_V (ev_call0 (lv_cons (ov_V (ev_var 0 rfl)) (lv_cons (ov_V (ev_var 2 rfl)) (lv_cons (ov_V (ev_var 4 rfl)) lv_nil))) (fun _ q => q) (okV__law_prefers a0 a2 [x2_.1, x2_.2] hC_.2.1))) rfl rfl (vf_ne (f := PyData.bool) lw_B (sh_B (k := 0)) rfl))) (fun h5_ D_ k_ => (c_drop (ev_app (f := (eP PyData.int (eP PyData.int PyData.int))) (l := w1_) (x := ((v__law_first_change a0 a1 a2 [x2_.1, x2_.2]), x2_)) rfl (lv_cons (ov_V (ev_tup (lv_cons (ov_V (ev_call0 (lv_cons (ov_V (ev_var 0 rfl)) (lv_cons (ov_V (ev_var 1 rfl)) (lv_cons (ov_V (ev_var 2 rfl)) (lv_cons (ov_V (ev_var 4 rfl)) lv_nil)))) (fun _ q => q) (okV__law_first_change a0 a1 a2 [x2_.1, x2_.2] (hC_.2.2.1 h5_).1))) (lv_cons (ov_V (ev_var 4 rfl)) lv_nil)) (fun _ q => q) rfl)) lv_nil) rfl (fun _ q => q) rfl (hC_.2.2.1 h5_).2) k_)) (fun h5_ D_ k_ => (c_pass k_)) (hN_ ((bif (!(decide ((v__law_prefers a0 a1 [x2_.1, x2_.2]) = (v__law_prefers a0 a2 [x2_.1, x2_.2])))) then (w1_ ++ [((v__law_first_change a0 a1 a2 [x2_.1, x2_.2]), x2_)]) else w1_)) _ ⟨some (.dat (eP PyData.int PyData.int x2_)), rfl⟩ hC_.2.2.2 hq_)))) (fun w1_ s_ hi_ hA_ hqa_ => by
    obtain ⟨q4, e_⟩ := hi_
    subst e_
    exact (c_aft (c_ret (ev_blt (lv_cons (ov_V (ev_blt (lv_cons (ov_own 3 rfl) lv_nil) (rsl_cons rfl (fun _ q => q)) (fv_sortedL (f := (eP PyData.int (eP PyData.int PyData.int))) hA_))) lv_nil) (rsl_cons rfl (fun _ q => q)) (fv_tupleL (f := (eP PyData.int (eP PyData.int PyData.int))))) hqa_)))))
def v__law_due (a0 : (List (Int × Int))) (a1 : Int) (a2 : Int) : (List (Int × (Int × Int))) := (v__law_due_s1 a0 a1 a2 [])
def C__law_due (a0 : (List (Int × Int))) (a1 : Int) (a2 : Int) : Prop := C__law_due_s1 a0 a1 a2 []
def nb__law_due : AST := (sSeq (sSetO 3 (aLst lNil))
    (sSeq (sFor (iSeq (oV (aCall0 [.dat] (calm F__law_pairs) (lCons (oV (aBlt fLen (lCons (oVar 0) lNil))) lNil)))) (bNm 4)
    (sIf (tV (a2 vNe (oV (aCall0 [.dat, .dat, .dat] (calm F__law_prefers) (lCons (oV (aVar 0)) (lCons (oV (aVar 1)) (lCons (oV (aVar 4)) lNil))))) (oV (aCall0 [.dat, .dat, .dat] (calm F__law_prefers) (lCons (oV (aVar 0)) (lCons (oV (aVar 2)) (lCons (oV (aVar 4)) lNil)))))))
    (sDrop (aMut mApp 3 (lCons (oV (aTup (lCons (oV (aCall0 [.dat, .dat, .dat, .dat] (calm F__law_first_change) (lCons (oV (aVar 0)) (lCons (oV (aVar 1)) (lCons (oV (aVar 2)) (lCons (oV (aVar 4)) lNil)))))) (lCons (oV (aVar 4)) lNil)))) lNil)))
    sNx))
    (sRet (aBlt fTuple (lCons (oV (aBlt fSorted (lCons (oVar 3) lNil))) lNil)))))
theorem okS__law_due {xp : XP} {D : AEnds} {n : Nat} (a0 : (List (Int × Int))) (a1 : Int) (a2 : Int)  (hC : C__law_due a0 a1 a2) (hq : D.rt (eQ (eP PyData.int (eP PyData.int PyData.int)) (v__law_due a0 a1 a2)) n) : nb__law_due xp D ⟨[some (.dat (eQ (eP PyData.int PyData.int) a0)), some (.dat (PyData.int a1)), some (.dat (PyData.int a2)), none, none], n⟩ := by
  unfold C__law_due at hC; unfold v__law_due at hq; unfold nb__law_due
  exact (c_seq (c_setO (ev_lst lv_nil (fun _ q => q) rfl) rfl (c_aft (okS__law_due_s1 a0 a1 a2 []  hC hq))))
theorem okV__law_due (a0 : (List (Int × Int))) (a1 : Int) (a2 : Int) (hC : C__law_due a0 a1 a2) : PFn F__law_due [(eQ (eP PyData.int PyData.int) a0), (PyData.int a1), (PyData.int a2)] (eQ (eP PyData.int (eP PyData.int PyData.int)) (v__law_due a0 a1 a2)) := fun n Q X q => by
  unfold F__law_due
  exact okS__law_due (xp := fun x s => X x s.n) (D := { nx := fun s => Q .none s.n, rt := Q }) a0 a1 a2 hC q

def v__law_answer_s1 (a0 : Int) (a1 : (List (Int × Int))) (a2 : PyData) (a3 : PyData) (a4 : PyData) : PyData := (tryX (bif (decide (a0 = (0 : Int))) then (mapX (eQ (eP PyData.int (eQ PyData.int))) (v_line_changes a1 a2 a3)) else (mapX PyData.int (v_line_distance a1 a2 a3))) (fun r2_ => (eL eD [(PyData.str ("returned" : Str)), r2_])) (fun x3_ => (v__law_raised x3_)))
def C__law_answer_s1 (a0 : Int) (a1 : (List (Int × Int))) (a2 : PyData) (a3 : PyData) (a4 : PyData) : Prop := (((decide (a0 = (0 : Int))) = true → C_line_changes a1 a2 a3) ∧ ((decide (a0 = (0 : Int))) = false → C_line_distance a1 a2 a3) ∧ (∀ x3_, (bif (decide (a0 = (0 : Int))) then (mapX (eQ (eP PyData.int (eQ PyData.int))) (v_line_changes a1 a2 a3)) else (mapX PyData.int (v_line_distance a1 a2 a3))) = .error x3_ → (x3_.k < 10 ∧ C__law_raised x3_)))
def nb__law_answer_s1 (cc : Nat → Addr) : AST := (sSeq (sTry 5 [cc 0, cc 1, cc 2, cc 3, cc 4, cc 5, cc 6, cc 7, cc 8, cc 9]
    (sSet 4 (aLst (lCons (oV (aC (.str "returned"))) (lCons (oV (aIfE (tV (a2 vEq (oVar 0) (oV (aC (.int 0))))) (aCall0 [.dat, .dat, .dat] (F_line_changes cc) (lCons (oV (aVar 1)) (lCons (oV (aVar 2)) (lCons (oV (aVar 3)) lNil)))) (aCall0 [.dat, .dat, .dat] (F_line_distance cc) (lCons (oV (aVar 1)) (lCons (oV (aVar 2)) (lCons (oV (aVar 3)) lNil)))))) lNil))))
    (sSet 4 (aCallE (F__law_raised cc) 5)))
    (sRetV 4))
theorem okS__law_answer_s1 (cc : Nat → Addr) (hcc : Inj cc 10) {xp : XP} {D : AEnds} {n : Nat} (a0 : Int) (a1 : (List (Int × Int))) (a2 : PyData) (a3 : PyData) (a4 : PyData)  (hC : C__law_answer_s1 a0 a1 a2 a3 a4) (hq : D.rt (v__law_answer_s1 a0 a1 a2 a3 a4) n) : nb__law_answer_s1 cc xp D ⟨[some (.dat (PyData.int a0)), some (.dat (eQ (eP PyData.int PyData.int) a1)), some (.dat a2), some (.dat a3), some (.dat a4), none], n⟩ := by
  unfold C__law_answer_s1 at hC; unfold v__law_answer_s1 at hq; unfold nb__law_answer_s1
  exact (c_seq (c_try (by_try (f := eD) (D := D) hq (fun r2_ r2__ hqr2_ => (c_set (ev_lst (lv_cons (ov_V ev_c) (lv_cons (ov_V (ev_ifX (tv_V (ev_a2 (ov_dat 0 rfl) (ov_V ev_c) rfl rfl (vf_eq (f := PyData.int) lw_I (sh_I (k := 0)) rfl))) (fun h1_ r_ hr_ => ev_call0X (lv_cons (ov_V (ev_var 1 rfl)) (lv_cons (ov_V (ev_var 2 rfl)) (lv_cons (ov_V (ev_var 3 rfl)) lv_nil))) (fun _ q => q) (PFx.of_ok (PFx.map (okV_line_changes cc a1 a2 a3 (hC.1 h1_))) hr_)) (fun h1_ r_ hr_ => ev_call0X (lv_cons (ov_V (ev_var 1 rfl)) (lv_cons (ov_V (ev_var 2 rfl)) (lv_cons (ov_V (ev_var 3 rfl)) lv_nil))) (fun _ q => q) (PFx.of_ok (PFx.map (okV_line_distance cc a1 a2 a3 (hC.2.1 h1_))) hr_)) r2__)) lv_nil)) (fun _ q => q) rfl) rfl (c_aft (c_retV 4 rfl hqr2_)))) (fun x3_ hx3_ hqx3_ => rx_set (xv_lst (xl_tl (ov_V ev_c) (xl_hd (xo_V (xv_ifX (tv_V (ev_a2 (ov_dat 0 rfl) (ov_V ev_c) rfl rfl (vf_eq (f := PyData.int) lw_I (sh_I (k := 0)) rfl))) (fun h1_ hr_ => xv_call (lv_cons (ov_V (ev_var 1 rfl)) (lv_cons (ov_V (ev_var 2 rfl)) (lv_cons (ov_V (ev_var 3 rfl)) lv_nil))) (fun _ q => q) (PFx.map (okV_line_changes cc a1 a2 a3 (hC.1 h1_))) hr_) (fun h1_ hr_ => xv_call (lv_cons (ov_V (ev_var 1 rfl)) (lv_cons (ov_V (ev_var 2 rfl)) (lv_cons (ov_V (ev_var 3 rfl)) lv_nil))) (fun _ q => q) (PFx.map (okV_line_distance cc a1 a2 a3 (hC.2.1 h1_))) hr_) hx3_))))) ⟨mem_cc (hC.2.2 x3_ hx3_).1 rfl, (c_set (ev_callE rfl (okV__law_raised cc hcc x3_ (hC.2.2 x3_ hx3_).2)) rfl (c_nox (i := 5) (s' := ⟨[some (.dat (PyData.int a0)), some (.dat (eQ (eP PyData.int PyData.int) a1)), some (.dat a2), some (.dat a3), some (.dat (v__law_raised x3_)), none], n⟩) rfl (c_aft (c_retV 4 rfl hqx3_))))⟩))))
def v__law_answer (a0 : Int) (a1 : (List (Int × Int))) (a2 : PyData) (a3 : PyData) : PyData := (v__law_answer_s1 a0 a1 a2 a3 .none)
def C__law_answer (a0 : Int) (a1 : (List (Int × Int))) (a2 : PyData) (a3 : PyData) : Prop := C__law_answer_s1 a0 a1 a2 a3 .none
def nb__law_answer (cc : Nat → Addr) : AST := (sSeq (sSet 4 (aC .none))
    (sSeq (sTry 5 [cc 0, cc 1, cc 2, cc 3, cc 4, cc 5, cc 6, cc 7, cc 8, cc 9]
    (sSet 4 (aLst (lCons (oV (aC (.str "returned"))) (lCons (oV (aIfE (tV (a2 vEq (oVar 0) (oV (aC (.int 0))))) (aCall0 [.dat, .dat, .dat] (F_line_changes cc) (lCons (oV (aVar 1)) (lCons (oV (aVar 2)) (lCons (oV (aVar 3)) lNil)))) (aCall0 [.dat, .dat, .dat] (F_line_distance cc) (lCons (oV (aVar 1)) (lCons (oV (aVar 2)) (lCons (oV (aVar 3)) lNil)))))) lNil))))
    (sSet 4 (aCallE (F__law_raised cc) 5)))
    (sRetV 4)))
theorem okS__law_answer (cc : Nat → Addr) (hcc : Inj cc 10) {xp : XP} {D : AEnds} {n : Nat} (a0 : Int) (a1 : (List (Int × Int))) (a2 : PyData) (a3 : PyData)  (hC : C__law_answer a0 a1 a2 a3) (hq : D.rt (v__law_answer a0 a1 a2 a3) n) : nb__law_answer cc xp D ⟨[some (.dat (PyData.int a0)), some (.dat (eQ (eP PyData.int PyData.int) a1)), some (.dat a2), some (.dat a3), none, none], n⟩ := by
  unfold C__law_answer at hC; unfold v__law_answer at hq; unfold nb__law_answer
  exact (c_seq (c_set ev_c rfl (c_aft (okS__law_answer_s1 cc hcc a0 a1 a2 a3 .none  hC hq))))
theorem okV__law_answer (cc : Nat → Addr) (hcc : Inj cc 10) (a0 : Int) (a1 : (List (Int × Int))) (a2 : PyData) (a3 : PyData) (hC : C__law_answer a0 a1 a2 a3) : PFn (F__law_answer cc) [(PyData.int a0), (eQ (eP PyData.int PyData.int) a1), a2, a3] (v__law_answer a0 a1 a2 a3) := fun n Q X q => by
  unfold F__law_answer
  exact okS__law_answer cc hcc (xp := fun x s => X x s.n) (D := { nx := fun s => Q .none s.n, rt := Q }) a0 a1 a2 a3 hC q
end TR
namespace TR
open PySem PySem.Spec PyProof.Rows L2
abbrev rkD (r : List Int) : PyData := .tuple (r.map .int)
abbrev Tas := List (List Int × Int)
abbrev tasD (t : List Int × Int) : PyData := .tuple [rkD t.1, .int t.2]
abbrev tabD (n : Nat) (ts : Tas) : PyData := .tuple [.int n, .tuple (ts.map tasD)]
structure WfT (D M n : Nat) (ts : Tas) : Prop where
  n1 : 1 ≤ n
  nD : n ≤ D
  l1 : 1 ≤ ts.length
  lM : ts.length ≤ M
  all : ∀ t ∈ ts, Rank n t.1 ∧ 1 ≤ t.2 ∧ t.2 ≤ 1000000000000
theorem erase_map {α β : Type} (f : α → β) : ∀ (l : List α) (j : Nat), (l.map f).eraseIdx j = (l.eraseIdx j).map f
  | [], _ => rfl
  | _ :: _, 0 => rfl
  | x :: r, j + 1 => by
    show f x :: (r.map f).eraseIdx j = f x :: (r.eraseIdx j).map f
    rw [erase_map f r j]
theorem erase_perm {α : Type} : ∀ {l : List α} {j : Nat} (h : j < l.length), (l[j] :: l.eraseIdx j).Perm l
  | _ :: _, 0, _ => List.Perm.refl _
  | x :: l, j + 1, h => by
    show (l[j]'(by simpa using h) :: x :: l.eraseIdx j).Perm (x :: l)
    exact (List.Perm.swap x _ _).trans ((erase_perm (by simpa using h)).cons x)
theorem pop_at {ls : List Int} {j : Nat} (h : j < ls.length) {K : PyData → List PyData → Prop} : mPopAt (ls.map .int) [.int (j : Int)] K = K (.int ls[j]) ((ls.eraseIdx j).map .int) := by
  unfold mPopAt
  have e : ixN (ls.map PyData.int).length (j : Int) = some j := by
    unfold ixN
    rw [if_pos (by omega), if_pos (by rw [List.length_map]; omega), Int.toNat_natCast]
  have e2 : (ls.map PyData.int)[j]? = some (.int ls[j]) := by rw [List.getElem?_map, List.getElem?_eq_getElem h]; rfl
  simp only [e, e2, erase_map]
section
variable {n : Nat} {Q : PyData → Nat → Prop} {X : XD → Nat → Prop} {d0 : PyData}
theorem next_ok {m : Int} (hn : n ≤ 1000000) (h0 : 0 < m) (h1 : m ≤ 4000000000000) (q : ∀ r, 0 ≤ r → r < m → Q (.int r) (n + 1)) : F__law_next [d0, .int m] n Q X := ⟨hn, h0, h1, q⟩
theorem one_ok {ds : List PyData} (hn : n ≤ 1000000) (h : ds ≠ []) (hl : ds.length ≤ 1000) (q : ∀ d ∈ ds, Q d (n + 1)) : F__law_one [d0, .list ds] n Q X := by
  simp only [F__law_one, b__law_one, fnF, startA, mkAs, mkA, sNx, sSeq, sDrop, sRet, sRetN, sRetV, sIf, sSet, sSetO, sAsg, sPar_v, sParOO, sParOV, sAug, sFor, sBreak, sCont, aC, aVar, oVar, aFrz, oV, a2, a3, tV, tTruA, truD, tAndA, tOrA, tNotA, aB, aAnd, aOr, aNot, aIfE, lNil, lCons, rv, rs, res, aTup, aLst, bNm, bNil, bCons, bTup, AS.set, iSeq, iRange1, iRange2, aLc, aLc2, aCall, aCall0, calm, rm, aBlt, rsl, aIsi, aIsi2, aDict0, aIdx, aMut, aNeg, rg1, rg2, aTupRg, aListRg, aSl, ptNone, ptSome, aRev, AIt.its, AIt.chk, items, tYesA, vIx_t, vIx_l, vAdd_i, vAdd_t, vAdd_l, vSub_i, vMul_i, vMod_i, vDiv_i, vLt_i, vLe_i, vGt_i, vGe_i, vCatL_l, vAddI_i, vSubI_i, fLen_l, fLen_t, fTuple_l, fList_t, mApp_1, mExt_1, List.set_cons_zero, List.set_cons_succ, List.getElem?_cons_zero, List.getElem?_cons_succ, List.replicate, List.cons_append, List.nil_append, List.length_cons, List.length_nil, at_0, at_1, at_2, if_true, if_false, true_and, and_true]
  have hp : 0 < ds.length := List.length_pos_iff.mpr h
  refine next_ok hn (by omega) (by omega) fun r h0 h1 => ?_
  simp only [fnF, startA, mkAs, mkA, sNx, sSeq, sDrop, sRet, sRetN, sRetV, sIf, sSet, sSetO, sAsg, sPar_v, sParOO, sParOV, sAug, sFor, sBreak, sCont, aC, aVar, oVar, aFrz, oV, a2, a3, tV, tTruA, truD, tAndA, tOrA, tNotA, aB, aAnd, aOr, aNot, aIfE, lNil, lCons, rv, rs, res, aTup, aLst, bNm, bNil, bCons, bTup, AS.set, iSeq, iRange1, iRange2, aLc, aLc2, aCall, aCall0, calm, rm, aBlt, rsl, aIsi, aIsi2, aDict0, aIdx, aMut, aNeg, rg1, rg2, aTupRg, aListRg, aSl, ptNone, ptSome, aRev, AIt.its, AIt.chk, items, tYesA, vIx_t, vIx_l, vAdd_i, vAdd_t, vAdd_l, vSub_i, vMul_i, vMod_i, vDiv_i, vLt_i, vLe_i, vGt_i, vGe_i, vCatL_l, vAddI_i, vSubI_i, fLen_l, fLen_t, fTuple_l, fList_t, mApp_1, mExt_1, List.set_cons_zero, List.set_cons_succ, List.getElem?_cons_zero, List.getElem?_cons_succ, List.replicate, List.cons_append, List.nil_append, List.length_cons, List.length_nil, at_0, at_1, at_2, if_true, if_false, true_and, and_true]
  obtain ⟨d, e, m⟩ := at_some h0 h1
  rw [e]
  exact q d m
theorem one_okT {ds : List PyData} (hn : n ≤ 1000000) (h : ds ≠ []) (hl : ds.length ≤ 1000) (q : ∀ d ∈ ds, Q d (n + 1)) : F__law_one [d0, .tuple ds] n Q X := by
  simp only [F__law_one, b__law_one, fnF, startA, mkAs, mkA, sNx, sSeq, sDrop, sRet, sRetN, sRetV, sIf, sSet, sSetO, sAsg, sPar_v, sParOO, sParOV, sAug, sFor, sBreak, sCont, aC, aVar, oVar, aFrz, oV, a2, a3, tV, tTruA, truD, tAndA, tOrA, tNotA, aB, aAnd, aOr, aNot, aIfE, lNil, lCons, rv, rs, res, aTup, aLst, bNm, bNil, bCons, bTup, AS.set, iSeq, iRange1, iRange2, aLc, aLc2, aCall, aCall0, calm, rm, aBlt, rsl, aIsi, aIsi2, aDict0, aIdx, aMut, aNeg, rg1, rg2, aTupRg, aListRg, aSl, ptNone, ptSome, aRev, AIt.its, AIt.chk, items, tYesA, vIx_t, vIx_l, vAdd_i, vAdd_t, vAdd_l, vSub_i, vMul_i, vMod_i, vDiv_i, vLt_i, vLe_i, vGt_i, vGe_i, vCatL_l, vAddI_i, vSubI_i, fLen_l, fLen_t, fTuple_l, fList_t, mApp_1, mExt_1, List.set_cons_zero, List.set_cons_succ, List.getElem?_cons_zero, List.getElem?_cons_succ, List.replicate, List.cons_append, List.nil_append, List.length_cons, List.length_nil, at_0, at_1, at_2, if_true, if_false, true_and, and_true]
  have hp : 0 < ds.length := List.length_pos_iff.mpr h
  refine next_ok hn (by omega) (by omega) fun r h0 h1 => ?_
  simp only [fnF, startA, mkAs, mkA, sNx, sSeq, sDrop, sRet, sRetN, sRetV, sIf, sSet, sSetO, sAsg, sPar_v, sParOO, sParOV, sAug, sFor, sBreak, sCont, aC, aVar, oVar, aFrz, oV, a2, a3, tV, tTruA, truD, tAndA, tOrA, tNotA, aB, aAnd, aOr, aNot, aIfE, lNil, lCons, rv, rs, res, aTup, aLst, bNm, bNil, bCons, bTup, AS.set, iSeq, iRange1, iRange2, aLc, aLc2, aCall, aCall0, calm, rm, aBlt, rsl, aIsi, aIsi2, aDict0, aIdx, aMut, aNeg, rg1, rg2, aTupRg, aListRg, aSl, ptNone, ptSome, aRev, AIt.its, AIt.chk, items, tYesA, vIx_t, vIx_l, vAdd_i, vAdd_t, vAdd_l, vSub_i, vMul_i, vMod_i, vDiv_i, vLt_i, vLe_i, vGt_i, vGe_i, vCatL_l, vAddI_i, vSubI_i, fLen_l, fLen_t, fTuple_l, fList_t, mApp_1, mExt_1, List.set_cons_zero, List.set_cons_succ, List.getElem?_cons_zero, List.getElem?_cons_succ, List.replicate, List.cons_append, List.nil_append, List.length_cons, List.length_nil, at_0, at_1, at_2, if_true, if_false, true_and, and_true]
  obtain ⟨d, e, m⟩ := at_some h0 h1
  rw [e]
  exact q d m
end
end TR
namespace TR
open PySem PySem.Spec PyProof.Rows L2
/-! ### draws, by hand: next, one of a list or a tuple -/
section
variable {n : Nat} {Q : PyData → Nat → Prop} {X : XD → Nat → Prop}
theorem okW__law_next {K : Int → Nat → Prop} (m : Int) (hw : w__law_next m n K) (hk : ∀ r k, K r k → Q (.int r) k) : F__law_next [.none, .int m] n Q X := ⟨hw.1, hw.2.1, hw.2.2.1, fun r h0 h1 => hk _ _ (hw.2.2.2 r h0 h1)⟩
theorem okW__law_one {α : Type} {K : α → Nat → Prop} (f : α → PyData) (l : List α) (hw : w__law_one l n K) (hk : ∀ r k, K r k → Q (f r) k) : F__law_one [.none, eL f l] n Q X := one_ok hw.1.1 (by simpa using hw.1.2.1) (by rw [List.length_map]; exact hw.1.2.2) fun d hd => by
  obtain ⟨x, hx, rfl⟩ := List.mem_map.mp hd
  exact hk _ _ (hw.2 x hx)
theorem okW__law_oneQ {α : Type} {K : α → Nat → Prop} (f : α → PyData) (l : List α) (hw : w__law_one l n K) (hk : ∀ r k, K r k → Q (f r) k) : F__law_one [.none, eQ f l] n Q X := one_okT hw.1.1 (by simpa using hw.1.2.1) (by rw [List.length_map]; exact hw.1.2.2) fun d hd => by
  obtain ⟨x, hx, rfl⟩ := List.mem_map.mp hd
  exact hk _ _ (hw.2 x hx)
end
/-! ### the same data are the same -/
def Cl : Nat → PyData → Prop
  | _, .int _ => True
  | _, .bool _ => True
  | _, .none => True
  | _, .str x => SeqAt.shaped (.str x) = true
  | m + 1, .tuple ds => ds.length ≤ 1000 ∧ ∀ d ∈ ds, Cl m d
  | m + 1, .list ds => ds.length ≤ 1000 ∧ ∀ d ∈ ds, Cl m d
  | _, _ => False
theorem same_lc {R : AF} {n : Nat} {d : PyData} {ds : List PyData} {Q : PyData → AS → Prop} (h : ds.length ≤ 1000) (hR : ∀ d ∈ ds, ∀ n (Q : PyData → Nat → Prop) X, Q (.bool true) n → R [d, d] n Q X) (hix : ∀ k : Nat, (hk : k < ds.length) → VF vIx d (.int (k : Int)) ds[k]) (q : Q (.list []) ⟨[some (.dat d), some (.dat d), none], n⟩) :
    lcL (AIt.fix (rngD 0 ((ds.length : Nat) : Int).toNat)) (bNm 2) (tNotA (tTruA (oV (aCall0 [.dat, .dat] (calm R) (lCons (oV (a2 vIx (oVar 0) (oVar 2))) (lCons (oV (a2 vIx (oVar 1) (oVar 2))) lNil)))))) (aVar 2) [2] Q (rngD 0 ((ds.length : Nat) : Int).toNat) [] ⟨[some (.dat d), some (.dat d), none], n⟩ := by
  rw [rngD_map0]
  refine lc_go PyData.int (fun _ => false) PyData.int (fun x => x) (fun x => (⟨[some (.dat d), some (.dat d), some (.dat (.int x))], n⟩ : AS)) (fun x => (⟨[some (.dat d), some (.dat d), some (.dat (.int x))], n⟩ : AS)) (show AIt.chk _ (AIt.fix _) from True.intro) _ _ [] (lim (by unfold irange; rw [List.length_nil, List.length_map, List.length_range]; omega)) (fun x hx => (bv_nm 2).to rfl) (fun x hx => ?_) (fun x hx h => by cases h) (fun _ _ => ⟨rfl, rfl⟩) ?_
  · obtain ⟨k, hk, rfl⟩ := List.mem_map.mp hx
    have hk : k < ds.length := by have := List.mem_range.mp hk; omega
    have e : (0 : Int) + (k : Nat) = (k : Int) := by omega
    have hx := hix k hk
    rw [← e] at hx
    exact tv_not (b := true) (tv_tru (ov_V (ev_call0 (lv_cons (ov_V (ev_a2 (ov_dat 0 rfl) (ov_dat 2 rfl) rfl rfl hx)) (lv_cons (ov_V (ev_a2 (ov_dat 1 rfl) (ov_dat 2 rfl) rfl rfl hx)) lv_nil)) (fun _ q => q) (fun n Q X q => hR _ (List.getElem_mem hk) n Q X q))) rfl tru_B)
  · rw [List.filter_eq_nil_iff.mpr (fun _ _ h => by cases h)]
    exact q
theorem eqv_i (i : Int) : PyData.eqv (.int i) (.int i) = true := by show (i == i) = true; simp
theorem eqv_b (b : Bool) : PyData.eqv (.bool b) (.bool b) = true := by cases b <;> rfl
theorem eqv_s (x : Str) : PyData.eqv (.str x) (.str x) = true := by show (x == x) = true; simp
def v__law_same (_ _ : PyData) : Bool := true
def C__law_same (a b : PyData) : Prop := a = b ∧ Cl 5 a
theorem same_ok : ∀ (m : Nat) (d : PyData), Cl m d → ∀ n (Q : PyData → Nat → Prop) X, Q (.bool true) n → F__law_same (m + 1) [d, d] n Q X := by
  intro m d h n Q X q
  show fnF _ _ (b__law_same _) _ _ _ _
  unfold fnF b__law_same
  simp -implicitDefEqProofs only [fnF, startA, mkAs, mkA, sNx, sSeq, sDrop, sRet, sRetN, sRetV, sIf, sSet, sSetO, sAsg, sPar_v, sParOO, sParOV, sAug, sFor, sBreak, sCont, aC, aVar, oVar, aFrz, oV, a2, a3, tV, tTruA, truD, tAndA, tOrA, tNotA, aB, aAnd, aOr, aNot, aIfE, lNil, lCons, rv, rs, res, aTup, aLst, bNm, bNil, bCons, bTup, AS.set, iSeq, iRange1, iRange2, aLc, aLc2, aCall, aCall0, calm, rm, aBlt, rsl, aIsi, aIsi2, aDict0, aIdx, aMut, aNeg, rg1, rg2, aTupRg, aListRg, aSl, ptNone, ptSome, aRev, AIt.its, AIt.chk, items, tYesA, vIx_t, vIx_l, vAdd_i, vAdd_t, vAdd_l, vSub_i, vMul_i, vMod_i, vDiv_i, vLt_i, vLe_i, vGt_i, vGe_i, vCatL_l, vAddI_i, vSubI_i, fLen_l, fLen_t, fTuple_l, fList_t, mApp_1, mExt_1, List.set_cons_zero, List.set_cons_succ, List.getElem?_cons_zero, List.getElem?_cons_succ, List.replicate, List.cons_append, List.nil_append, List.length_cons, List.length_nil, at_0, at_1, at_2, if_true, if_false, true_and, and_true, isi_tuple, isi_list, isi_dict, isi_str, isi_int, isi_bool]
  cases d with
  | none => exact q
  | int i =>
    refine ⟨rfl, rfl, ?_⟩
    refine ⟨rfl, rfl, ?_⟩
    rw [eqv_i]; exact q
  | bool b =>
    refine ⟨rfl, rfl, ?_⟩
    refine ⟨rfl, rfl, ?_⟩
    rw [eqv_b]; exact q
  | str x =>
    have h : SeqAt.shaped (.str x) = true := by cases m <;> exact h
    refine ⟨h, h, ?_⟩
    rw [eqv_s]; exact q
  | dict _ => cases m <;> exact h.elim
  | tuple ds =>
    cases m with
    | zero => exact h.elim
    | succ m =>
      refine ⟨rfl, rfl, ?_⟩
      refine ⟨rfl, rfl, ?_⟩
      refine ⟨rfl, rfl, ?_⟩
      rw [eqv_i]
      have hl : ds.length ≤ 1000 := h.1
      refine ⟨by omega, by omega, ?_⟩
      refine same_lc hl (fun d hd n Q X q => same_ok m d (h.2 d hd) n Q X q) (fun k hk => vf_ixT (at_get hk)) ?_
      exact ⟨lim (by omega), q⟩
  | list ds =>
    cases m with
    | zero => exact h.elim
    | succ m =>
      refine ⟨rfl, rfl, ?_⟩
      refine ⟨rfl, rfl, ?_⟩
      refine ⟨rfl, rfl, ?_⟩
      rw [eqv_i]
      have hl : ds.length ≤ 1000 := h.1
      refine ⟨by omega, by omega, ?_⟩
      refine same_lc hl (fun d hd n Q X q => same_ok m d (h.2 d hd) n Q X q) (fun k hk => vf_ixL' (at_get hk)) ?_
      exact ⟨lim (by omega), q⟩
theorem okV__law_same (a b : PyData) (h : C__law_same a b) : PFn (F__law_same 6) [a, b] (.bool (v__law_same a b)) := fun n Q X q => by
  obtain ⟨rfl, h⟩ := h
  exact same_ok 5 a h n Q X q
end TR
namespace TR
open PySem PySem.Spec PyProof.Rows L2
def oddL : List PyData := [.none, .bool true, .bool false, .int 0, .int 1, .int (-1), .int 2, .int 8, .int 16, .int (10 ^ 12), .int (10 ^ 12 + 1), .int (10 ^ 59), .str "", .str "0", .str "triple", .tuple [], .tuple [.int 0], .tuple [.int 0, .int 1], .list [], .dict [], .list [.int 0], .tuple [.bool true], .tuple [.tuple []]]
def leafB (L : Nat) : PyData → Bool
  | .none => true
  | .bool _ => true
  | .int i => decide (i.natAbs ≤ 10 ^ 59 + L)
  | .str x => decide (x.length ≤ 69) && x.cps.toList.all fun c => decide (c < 16 ^ 8)
  | _ => false
def wfB (L : Nat) : Nat → PyData → Bool
  | 0, d => leafB L d
  | D + 1, .list ds => decide (ds.length ≤ L) && ds.all (wfB L D)
  | D + 1, .tuple ds => decide (ds.length ≤ L) && ds.all (wfB L D)
  | _ + 1, .dict [] => true
  | _ + 1, d => leafB L d
theorem leafB_ok {L : Nat} : ∀ {d : PyData}, leafB L d = true → leafOk L d
  | .none, _ => trivial
  | .bool _, _ => trivial
  | .int i, h => of_decide_eq_true (p := i.natAbs ≤ 10 ^ 59 + L) h
  | .str x, h => by
    have h : (decide (x.length ≤ 69) && x.cps.toList.all fun c => decide (c < 16 ^ 8)) = true := h
    rw [Bool.and_eq_true, List.all_eq_true] at h
    exact ⟨of_decide_eq_true h.1, fun c hc => of_decide_eq_true (h.2 c hc)⟩
  | .list _, h => by cases h
  | .tuple _, h => by cases h
  | .dict _, h => by cases h
theorem wfB_ok {L : Nat} : ∀ {D : Nat} {d : PyData}, wfB L D d = true → Wf L D d
  | 0, _, h => leafB_ok (by unfold wfB at h; exact h)
  | D + 1, .list ds, h => by
    unfold wfB at h
    rw [Bool.and_eq_true, List.all_eq_true] at h
    exact Wf.lst (of_decide_eq_true h.1) fun e he => wfB_ok (h.2 e he)
  | D + 1, .tuple ds, h => by
    unfold wfB at h
    rw [Bool.and_eq_true, List.all_eq_true] at h
    exact Wf.tup (of_decide_eq_true h.1) fun e he => wfB_ok (h.2 e he)
  | D + 1, .none, _ => .inl trivial
  | D + 1, .bool _, _ => .inl trivial
  | D + 1, .int i, h => .inl (leafB_ok (by unfold wfB at h; exact h))
  | D + 1, .str i, h => .inl (leafB_ok (by unfold wfB at h; exact h))
  | D + 1, .dict [], _ => .inr (.inl rfl)
  | D + 1, .dict (_ :: _), h => by unfold wfB at h; cases h
theorem oddL_wf : ∀ d ∈ oddL, Wf 2 2 d := by
  have h : oddL.all (wfB 2 2) = true := by decide +kernel
  exact fun d hd => wfB_ok (List.all_eq_true.mp h d hd)
theorem gt_mem {l : List PyData} {k : Int} (h : Ixr l k) : gt l k ∈ l := by
  obtain ⟨h0, h1⟩ := h
  obtain ⟨j, rfl⟩ := Int.eq_ofNat_of_zero_le h0
  unfold gt
  have hj : j < l.length := by omega
  simp [hj]
end TR
namespace TR
open PySem PySem.Spec PyProof.Rows L2
set_option maxHeartbeats 4000000 in
def w__law_line_s5 (k7_ : ((List (Int × Int))) → Nat → Prop) (a1 : Int) (a2 : Int) (a3 : Int) (b4 : (List (Int × Int))) (b6 : Int) (b7 : Int) (n : Nat) (K : (List (Int × Int)) → Nat → Prop) : Prop := (b4.length < sizeLine ∧ (k7_ ((b4 ++ [(b6, b7)])) n))
def nb__law_line_s5 : AST := (sDrop (aMut mApp 4 (lCons (oV (aTup (lCons (oV (aVar 6)) (lCons (oV (aVar 7)) lNil)))) lNil)))
set_option maxHeartbeats 4000000 in
theorem okW__law_line_s5 {xp : XP} {D : AEnds} {n : Nat} {K : (List (Int × Int)) → Nat → Prop} {N BK : AS → Prop} (k7_ : ((List (Int × Int))) → Nat → Prop) (a1 : Int) (a2 : Int) (a3 : Int) (b4 : (List (Int × Int))) (b6 : Int) (b7 : Int) (y5 : Option AV) (hw : w__law_line_s5 k7_ a1 a2 a3 b4 b6 b7 n K) (hN9_ : ∀ w n s, (fun (w5_ : (List (Int × Int))) (n8_ : Nat) (s : AS) => ∃ q12_5 q12_6 q12_7 : Option AV, s = ⟨[some .deck, some (.dat (PyData.int a1)), some (.dat (PyData.int a2)), some (.dat (PyData.int a3)), some (.own (w5_.map (eP PyData.int PyData.int))), q12_5, q12_6, q12_7], n8_⟩) w n s → k7_ w n → N s) (hk : ∀ r k, K r k → D.rt (eQ (eP PyData.int PyData.int) r) k) : nb__law_line_s5 xp { D with nx := N, ct := N, bk := BK } ⟨[some .deck, some (.dat (PyData.int a1)), some (.dat (PyData.int a2)), some (.dat (PyData.int a3)), some (.own (b4.map (eP PyData.int PyData.int))), y5, some (.dat (PyData.int b6)), some (.dat (PyData.int b7))], n⟩ := by
  unfold w__law_line_s5 at hw; unfold nb__law_line_s5
  exact (c_drop (ev_app (f := (eP PyData.int PyData.int)) (l := b4) (x := (b6, b7)) rfl (lv_cons (ov_V (ev_tup (lv_cons (ov_V (ev_var 6 rfl)) (lv_cons (ov_V (ev_var 7 rfl)) lv_nil)) (fun _ q => q) rfl)) lv_nil) rfl (fun _ q => q) rfl hw.1) (hN9_ ((b4 ++ [(b6, b7)])) n _ ⟨y5, some (.dat (PyData.int b6)), some (.dat (PyData.int b7)), rfl⟩ hw.2))
set_option maxHeartbeats 4000000 in
def w__law_line_s4 (k7_ : ((List (Int × Int))) → Nat → Prop) (a1 : Int) (a2 : Int) (a3 : Int) (b4 : (List (Int × Int))) (b6 : Int) (b7 : Int) (n : Nat) (K : (List (Int × Int)) → Nat → Prop) : Prop := (((!b4.isEmpty) = true → (w__law_next (8 : Int) n fun (r22_ : Int) (n23_ : Nat) => (((decide (r22_ = (0 : Int))) = true → (b4 ≠ [] ∧ (w__law_line_s5 k7_ a1 a2 a3 b4 (gl b4).1 b7 n23_ K))) ∧ ((decide (r22_ = (0 : Int))) = false → (w__law_line_s5 k7_ a1 a2 a3 b4 b6 b7 n23_ K))))) ∧ ((!b4.isEmpty) = false → ((false = true → (b4 ≠ [] ∧ (w__law_line_s5 k7_ a1 a2 a3 b4 (gl b4).1 b7 n K))) ∧ (false = false → (w__law_line_s5 k7_ a1 a2 a3 b4 b6 b7 n K)))))
def nb__law_line_s4 : AST := (sSeq (sIf (tAndA (tV (a2 vNeE (oVar 4) (oV (aLst lNil)))) (tV (a2 vEq (oV (aCall [.deck, .dat] (calm F__law_next) (lCons (oVar 0) (lCons (oV (aC (.int 8))) lNil)))) (oV (aC (.int 0))))))
    (sSet 6 (a2 vIx (oV (a2 vIx (oVar 4) (oV (aNeg (oV (aC (.int 1))))))) (oV (aC (.int 0)))))
    sNx)
    (sDrop (aMut mApp 4 (lCons (oV (aTup (lCons (oV (aVar 6)) (lCons (oV (aVar 7)) lNil)))) lNil))))
set_option maxHeartbeats 4000000 in
theorem okW__law_line_s4 {xp : XP} {D : AEnds} {n : Nat} {K : (List (Int × Int)) → Nat → Prop} {N BK : AS → Prop} (k7_ : ((List (Int × Int))) → Nat → Prop) (a1 : Int) (a2 : Int) (a3 : Int) (b4 : (List (Int × Int))) (b6 : Int) (b7 : Int) (y5 : Option AV) (hw : w__law_line_s4 k7_ a1 a2 a3 b4 b6 b7 n K) (hN9_ : ∀ w n s, (fun (w5_ : (List (Int × Int))) (n8_ : Nat) (s : AS) => ∃ q12_5 q12_6 q12_7 : Option AV, s = ⟨[some .deck, some (.dat (PyData.int a1)), some (.dat (PyData.int a2)), some (.dat (PyData.int a3)), some (.own (w5_.map (eP PyData.int PyData.int))), q12_5, q12_6, q12_7], n8_⟩) w n s → k7_ w n → N s) (hk : ∀ r k, K r k → D.rt (eQ (eP PyData.int PyData.int) r) k) : nb__law_line_s4 xp { D with nx := N, ct := N, bk := BK } ⟨[some .deck, some (.dat (PyData.int a1)), some (.dat (PyData.int a2)), some (.dat (PyData.int a3)), some (.own (b4.map (eP PyData.int PyData.int))), y5, some (.dat (PyData.int b6)), some (.dat (PyData.int b7))], n⟩ := by
  unfold w__law_line_s4 at hw; unfold nb__law_line_s4
  exact (c_seq (s_if (g_and (g_tv (tv_V (ev_a2 (ov_own 4 rfl) (ov_V (ev_lst lv_nil (fun _ q => q) rfl)) rfl rfl (vf_neEL (f := (eP PyData.int PyData.int)) (g := PyData.int)))) (g_ite (fun h21_ => (g_tV (g_a2 (g_V (g_call (g_lcons (g_ov (ov_deck 0 rfl) (g_lcons (g_ov (ov_V ev_c) (g_lnil (g_rm (fun _ q => q) (okW__law_next (8 : Int) (hw.1 h21_) (fun r22_ n23_ hw25_ => (g_ov (ov_V ev_c) (g_op rfl rfl (vf_eq (f := PyData.int) lw_I (sh_I (k := 0)) rfl) (g_ite (fun h24_ => (s_set (g_ev (ev_a2 (ov_V (ev_a2 (ov_own 4 rfl) (ov_V ev_neg1) rfl rfl (vf_ixLl (f := (eP PyData.int PyData.int)) (hw25_.1 h24_).1))) (ov_V ev_c) rfl rfl (vf_ixT at_0)) (n_st (s' := ⟨[some .deck, some (.dat (PyData.int a1)), some (.dat (PyData.int a2)), some (.dat (PyData.int a3)), some (.own (b4.map (eP PyData.int PyData.int))), y5, some (.dat (PyData.int (gl b4).1)), some (.dat (PyData.int b7))], n23_⟩) rfl (c_aft (okW__law_line_s5 k7_ a1 a2 a3 b4 (gl b4).1 b7 (y5) (hw25_.1 h24_).2 hN9_ hk)))))) (fun h24_ => (c_pass (c_aft (okW__law_line_s5 k7_ a1 a2 a3 b4 b6 b7 (y5) (hw25_.2 h24_) hN9_ hk)))))))))))))))))))) (fun h21_ => (g_ite (fun h26_ => (s_set (g_ev (ev_a2 (ov_V (ev_a2 (ov_own 4 rfl) (ov_V ev_neg1) rfl rfl (vf_ixLl (f := (eP PyData.int PyData.int)) ((hw.2 h21_).1 h26_).1))) (ov_V ev_c) rfl rfl (vf_ixT at_0)) (n_st (s' := ⟨[some .deck, some (.dat (PyData.int a1)), some (.dat (PyData.int a2)), some (.dat (PyData.int a3)), some (.own (b4.map (eP PyData.int PyData.int))), y5, some (.dat (PyData.int (gl b4).1)), some (.dat (PyData.int b7))], n⟩) rfl (c_aft (okW__law_line_s5 k7_ a1 a2 a3 b4 (gl b4).1 b7 (y5) ((hw.2 h21_).1 h26_).2 hN9_ hk)))))) (fun h26_ => (c_pass (c_aft (okW__law_line_s5 k7_ a1 a2 a3 b4 b6 b7 (y5) ((hw.2 h21_).2 h26_) hN9_ hk)))))))))))
set_option maxHeartbeats 4000000 in
def w__law_line_s3 (k7_ : ((List (Int × Int))) → Nat → Prop) (a1 : Int) (a2 : Int) (a3 : Int) (b4 : (List (Int × Int))) (b6 : Int) (b7 : Int) (n : Nat) (K : (List (Int × Int)) → Nat → Prop) : Prop := (((!b4.isEmpty) = true → (w__law_next (6 : Int) n fun (r18_ : Int) (n19_ : Nat) => (((decide (r18_ = (0 : Int))) = true → (b4 ≠ [] ∧ (w__law_line_s4 k7_ a1 a2 a3 b4 b6 (gl b4).2 n19_ K))) ∧ ((decide (r18_ = (0 : Int))) = false → (w__law_line_s4 k7_ a1 a2 a3 b4 b6 b7 n19_ K))))) ∧ ((!b4.isEmpty) = false → ((false = true → (b4 ≠ [] ∧ (w__law_line_s4 k7_ a1 a2 a3 b4 b6 (gl b4).2 n K))) ∧ (false = false → (w__law_line_s4 k7_ a1 a2 a3 b4 b6 b7 n K)))))
def nb__law_line_s3 : AST := (sSeq (sIf (tAndA (tV (a2 vNeE (oVar 4) (oV (aLst lNil)))) (tV (a2 vEq (oV (aCall [.deck, .dat] (calm F__law_next) (lCons (oVar 0) (lCons (oV (aC (.int 6))) lNil)))) (oV (aC (.int 0))))))
    (sSet 7 (a2 vIx (oV (a2 vIx (oVar 4) (oV (aNeg (oV (aC (.int 1))))))) (oV (aC (.int 1)))))
    sNx)
    (sSeq (sIf (tAndA (tV (a2 vNeE (oVar 4) (oV (aLst lNil)))) (tV (a2 vEq (oV (aCall [.deck, .dat] (calm F__law_next) (lCons (oVar 0) (lCons (oV (aC (.int 8))) lNil)))) (oV (aC (.int 0))))))
    (sSet 6 (a2 vIx (oV (a2 vIx (oVar 4) (oV (aNeg (oV (aC (.int 1))))))) (oV (aC (.int 0)))))
    sNx)
    (sDrop (aMut mApp 4 (lCons (oV (aTup (lCons (oV (aVar 6)) (lCons (oV (aVar 7)) lNil)))) lNil)))))
set_option maxHeartbeats 4000000 in
theorem okW__law_line_s3 {xp : XP} {D : AEnds} {n : Nat} {K : (List (Int × Int)) → Nat → Prop} {N BK : AS → Prop} (k7_ : ((List (Int × Int))) → Nat → Prop) (a1 : Int) (a2 : Int) (a3 : Int) (b4 : (List (Int × Int))) (b6 : Int) (b7 : Int) (y5 : Option AV) (hw : w__law_line_s3 k7_ a1 a2 a3 b4 b6 b7 n K) (hN9_ : ∀ w n s, (fun (w5_ : (List (Int × Int))) (n8_ : Nat) (s : AS) => ∃ q12_5 q12_6 q12_7 : Option AV, s = ⟨[some .deck, some (.dat (PyData.int a1)), some (.dat (PyData.int a2)), some (.dat (PyData.int a3)), some (.own (w5_.map (eP PyData.int PyData.int))), q12_5, q12_6, q12_7], n8_⟩) w n s → k7_ w n → N s) (hk : ∀ r k, K r k → D.rt (eQ (eP PyData.int PyData.int) r) k) : nb__law_line_s3 xp { D with nx := N, ct := N, bk := BK } ⟨[some .deck, some (.dat (PyData.int a1)), some (.dat (PyData.int a2)), some (.dat (PyData.int a3)), some (.own (b4.map (eP PyData.int PyData.int))), y5, some (.dat (PyData.int b6)), some (.dat (PyData.int b7))], n⟩ := by
  unfold w__law_line_s3 at hw; unfold nb__law_line_s3
  exact (c_seq (s_if (g_and (g_tv (tv_V (ev_a2 (ov_own 4 rfl) (ov_V (ev_lst lv_nil (fun _ q => q) rfl)) rfl rfl (vf_neEL (f := (eP PyData.int PyData.int)) (g := PyData.int)))) (g_ite (fun h17_ => (g_tV (g_a2 (g_V (g_call (g_lcons (g_ov (ov_deck 0 rfl) (g_lcons (g_ov (ov_V ev_c) (g_lnil (g_rm (fun _ q => q) (okW__law_next (6 : Int) (hw.1 h17_) (fun r18_ n19_ hw27_ => (g_ov (ov_V ev_c) (g_op rfl rfl (vf_eq (f := PyData.int) lw_I (sh_I (k := 0)) rfl) (g_ite (fun h20_ => (s_set (g_ev (ev_a2 (ov_V (ev_a2 (ov_own 4 rfl) (ov_V ev_neg1) rfl rfl (vf_ixLl (f := (eP PyData.int PyData.int)) (hw27_.1 h20_).1))) (ov_V ev_c) rfl rfl (vf_ixT at_1)) (n_st (s' := ⟨[some .deck, some (.dat (PyData.int a1)), some (.dat (PyData.int a2)), some (.dat (PyData.int a3)), some (.own (b4.map (eP PyData.int PyData.int))), y5, some (.dat (PyData.int b6)), some (.dat (PyData.int (gl b4).2))], n19_⟩) rfl (c_aft (okW__law_line_s4 k7_ a1 a2 a3 b4 b6 (gl b4).2 (y5) (hw27_.1 h20_).2 hN9_ hk)))))) (fun h20_ => (c_pass (c_aft (okW__law_line_s4 k7_ a1 a2 a3 b4 b6 b7 (y5) (hw27_.2 h20_) hN9_ hk)))))))))))))))))))) (fun h17_ => (g_ite (fun h28_ => (s_set (g_ev (ev_a2 (ov_V (ev_a2 (ov_own 4 rfl) (ov_V ev_neg1) rfl rfl (vf_ixLl (f := (eP PyData.int PyData.int)) ((hw.2 h17_).1 h28_).1))) (ov_V ev_c) rfl rfl (vf_ixT at_1)) (n_st (s' := ⟨[some .deck, some (.dat (PyData.int a1)), some (.dat (PyData.int a2)), some (.dat (PyData.int a3)), some (.own (b4.map (eP PyData.int PyData.int))), y5, some (.dat (PyData.int b6)), some (.dat (PyData.int (gl b4).2))], n⟩) rfl (c_aft (okW__law_line_s4 k7_ a1 a2 a3 b4 b6 (gl b4).2 (y5) ((hw.2 h17_).1 h28_).2 hN9_ hk)))))) (fun h28_ => (c_pass (c_aft (okW__law_line_s4 k7_ a1 a2 a3 b4 b6 b7 (y5) ((hw.2 h17_).2 h28_) hN9_ hk)))))))))))
set_option maxHeartbeats 4000000 in
def w__law_line_s2 (a1 : Int) (a2 : Int) (a3 : Int) (a4 : (List (Int × Int))) (n : Nat) (K : (List (Int × Int)) → Nat → Prop) : Prop := (w__law_next a1 n fun (r3_ : Int) (n4_ : Nat) => (Rg ((1 : Int) + r3_) ∧ (forW (fun (k7_ : ((List (Int × Int))) → Nat → Prop) (x6_ : Int) (w5_ : (List (Int × Int))) (n8_ : Nat) => (CMul (2 : Int) a2 ∧ (w__law_next (((2 : Int) * a2) + (1 : Int)) n8_ fun (r13_ : Int) (n14_ : Nat) => (CMul (2 : Int) a3 ∧ (w__law_next (((2 : Int) * a3) + (1 : Int)) n14_ fun (r15_ : Int) (n16_ : Nat) => (w__law_line_s3 k7_ a1 a2 a3 w5_ (r13_ - a2) (r15_ - a3) n16_ K)))))) (fun (w5_ : (List (Int × Int))) (n8_ : Nat) => (K w5_ n8_)) (irange 0 ((1 : Int) + r3_)) (a4) n4_)))
def nb__law_line_s2 : AST := (sSeq (sFor (iRange1 (lCons (oV (a2 vAdd (oV (aC (.int 1))) (oV (aCall [.deck, .dat] (calm F__law_next) (lCons (oVar 0) (lCons (oV (aVar 1)) lNil)))))) lNil)) (bNm 5)
    (sSeq (sPar 6 7 (lCons (oV (a2 vSub (oV (aCall [.deck, .dat] (calm F__law_next) (lCons (oVar 0) (lCons (oV (a2 vAdd (oV (a2 vMul (oV (aC (.int 2))) (oVar 2))) (oV (aC (.int 1))))) lNil)))) (oVar 2))) (lCons (oV (a2 vSub (oV (aCall [.deck, .dat] (calm F__law_next) (lCons (oVar 0) (lCons (oV (a2 vAdd (oV (a2 vMul (oV (aC (.int 2))) (oVar 3))) (oV (aC (.int 1))))) lNil)))) (oVar 3))) lNil)))
    (sSeq (sIf (tAndA (tV (a2 vNeE (oVar 4) (oV (aLst lNil)))) (tV (a2 vEq (oV (aCall [.deck, .dat] (calm F__law_next) (lCons (oVar 0) (lCons (oV (aC (.int 6))) lNil)))) (oV (aC (.int 0))))))
    (sSet 7 (a2 vIx (oV (a2 vIx (oVar 4) (oV (aNeg (oV (aC (.int 1))))))) (oV (aC (.int 1)))))
    sNx)
    (sSeq (sIf (tAndA (tV (a2 vNeE (oVar 4) (oV (aLst lNil)))) (tV (a2 vEq (oV (aCall [.deck, .dat] (calm F__law_next) (lCons (oVar 0) (lCons (oV (aC (.int 8))) lNil)))) (oV (aC (.int 0))))))
    (sSet 6 (a2 vIx (oV (a2 vIx (oVar 4) (oV (aNeg (oV (aC (.int 1))))))) (oV (aC (.int 0)))))
    sNx)
    (sDrop (aMut mApp 4 (lCons (oV (aTup (lCons (oV (aVar 6)) (lCons (oV (aVar 7)) lNil)))) lNil)))))))
    (sRet (aBlt fTuple (lCons (oVar 4) lNil))))
set_option maxHeartbeats 4000000 in
theorem okW__law_line_s2 {xp : XP} {D : AEnds} {n : Nat} {K : (List (Int × Int)) → Nat → Prop} (a1 : Int) (a2 : Int) (a3 : Int) (a4 : (List (Int × Int)))  (hw : w__law_line_s2 a1 a2 a3 a4 n K) (hk : ∀ r k, K r k → D.rt (eQ (eP PyData.int PyData.int) r) k) : nb__law_line_s2 xp D ⟨[some .deck, some (.dat (PyData.int a1)), some (.dat (PyData.int a2)), some (.dat (PyData.int a3)), some (.own (a4.map (eP PyData.int PyData.int))), none, none, none], n⟩ := by
  unfold w__law_line_s2 at hw; unfold nb__law_line_s2
  exact (c_seq (s_forR1 (g_lcons (g_V (g_a2 (g_ov (ov_V ev_c) (g_V (g_call (g_lcons (g_ov (ov_deck 0 rfl) (g_lcons (g_ov (ov_V (ev_var 1 rfl)) (g_lnil (g_rm (fun _ q => q) (okW__law_next a1 hw (fun r3_ n4_ hw31_ => (g_op rfl rfl vf_addI (g_lnil (g_rv (fun _ q => q) ⟨_, rfl, hw31_.1, (forW_ok PyData.int (fun (w5_ : (List (Int × Int))) (n8_ : Nat) (s : AS) => ∃ q12_5 q12_6 q12_7 : Option AV, s = ⟨[some .deck, some (.dat (PyData.int a1)), some (.dat (PyData.int a2)), some (.dat (PyData.int a3)), some (.own (w5_.map (eP PyData.int PyData.int))), q12_5, q12_6, q12_7], n8_⟩) (fun x6_ w5_ n8_ s_ k7_ N_ hi_ hw10_ hN9_ => by
    obtain ⟨q12_5, q12_6, q12_7, e_⟩ := hi_
    subst e_
    exact (g_bv ((bv_nm 5).to rfl) (c_seq (s_par (g_lcons (g_V (g_a2 (g_V (g_call (g_lcons (g_ov (ov_deck 0 rfl) (g_lcons (g_ov (ov_V (ev_a2 (ov_V (ev_a2 (ov_V ev_c) (ov_dat 2 rfl) rfl rfl (vf_mulI hw10_.1))) (ov_V ev_c) rfl rfl vf_addI)) (g_lnil (g_rm (fun _ q => q) (okW__law_next (((2 : Int) * a2) + (1 : Int)) hw10_.2 (fun r13_ n14_ hw30_ => (g_ov (ov_dat 2 rfl) (g_op rfl rfl vf_subI (g_lcons (g_V (g_a2 (g_V (g_call (g_lcons (g_ov (ov_deck 0 rfl) (g_lcons (g_ov (ov_V (ev_a2 (ov_V (ev_a2 (ov_V ev_c) (ov_dat 3 rfl) rfl rfl (vf_mulI hw30_.1))) (ov_V ev_c) rfl rfl vf_addI)) (g_lnil (g_rm (fun _ q => q) (okW__law_next (((2 : Int) * a3) + (1 : Int)) hw30_.2 (fun r15_ n16_ hw29_ => (g_ov (ov_dat 3 rfl) (g_op rfl rfl vf_subI (g_lnil (g_rv (fun _ q => q) (n_st (s' := ⟨[some .deck, some (.dat (PyData.int a1)), some (.dat (PyData.int a2)), some (.dat (PyData.int a3)), some (.own (w5_.map (eP PyData.int PyData.int))), some (.dat (PyData.int x6_)), some (.dat (PyData.int (r13_ - a2))), some (.dat (PyData.int (r15_ - a3)))], n16_⟩) rfl (c_aft (okW__law_line_s3 k7_ a1 a2 a3 w5_ (r13_ - a2) (r15_ - a3) (some (.dat (PyData.int x6_))) hw29_ hN9_ hk))))))))))))))))))))))))))))))))))))))) (fun w5_ n8_ s_ hi_ ha11_ => by
    obtain ⟨q12_5, q12_6, q12_7, e_⟩ := hi_
    subst e_
    exact (c_aft (s_ret (g_ev (ev_blt (lv_cons (ov_own 4 rfl) lv_nil) (rsl_cons rfl (fun _ q => q)) (fv_tupleL (f := (eP PyData.int PyData.int)))) (hk w5_ n8_ ha11_))))) _ _ _ _ ⟨none, none, none, rfl⟩ hw31_.2)⟩)))))))))))))))))))
set_option maxHeartbeats 4000000 in
def w__law_line_s1 (a1 : Int) (a2 : Int) (a3 : Int) (n : Nat) (K : (List (Int × Int)) → Nat → Prop) : Prop := (w__law_line_s2 a1 a2 a3 [] n K)
def nb__law_line_s1 : AST := (sSeq (sSetO 4 (aLst lNil))
    (sSeq (sFor (iRange1 (lCons (oV (a2 vAdd (oV (aC (.int 1))) (oV (aCall [.deck, .dat] (calm F__law_next) (lCons (oVar 0) (lCons (oV (aVar 1)) lNil)))))) lNil)) (bNm 5)
    (sSeq (sPar 6 7 (lCons (oV (a2 vSub (oV (aCall [.deck, .dat] (calm F__law_next) (lCons (oVar 0) (lCons (oV (a2 vAdd (oV (a2 vMul (oV (aC (.int 2))) (oVar 2))) (oV (aC (.int 1))))) lNil)))) (oVar 2))) (lCons (oV (a2 vSub (oV (aCall [.deck, .dat] (calm F__law_next) (lCons (oVar 0) (lCons (oV (a2 vAdd (oV (a2 vMul (oV (aC (.int 2))) (oVar 3))) (oV (aC (.int 1))))) lNil)))) (oVar 3))) lNil)))
    (sSeq (sIf (tAndA (tV (a2 vNeE (oVar 4) (oV (aLst lNil)))) (tV (a2 vEq (oV (aCall [.deck, .dat] (calm F__law_next) (lCons (oVar 0) (lCons (oV (aC (.int 6))) lNil)))) (oV (aC (.int 0))))))
    (sSet 7 (a2 vIx (oV (a2 vIx (oVar 4) (oV (aNeg (oV (aC (.int 1))))))) (oV (aC (.int 1)))))
    sNx)
    (sSeq (sIf (tAndA (tV (a2 vNeE (oVar 4) (oV (aLst lNil)))) (tV (a2 vEq (oV (aCall [.deck, .dat] (calm F__law_next) (lCons (oVar 0) (lCons (oV (aC (.int 8))) lNil)))) (oV (aC (.int 0))))))
    (sSet 6 (a2 vIx (oV (a2 vIx (oVar 4) (oV (aNeg (oV (aC (.int 1))))))) (oV (aC (.int 0)))))
    sNx)
    (sDrop (aMut mApp 4 (lCons (oV (aTup (lCons (oV (aVar 6)) (lCons (oV (aVar 7)) lNil)))) lNil)))))))
    (sRet (aBlt fTuple (lCons (oVar 4) lNil)))))
set_option maxHeartbeats 4000000 in
theorem okW__law_line_s1 {xp : XP} {D : AEnds} {n : Nat} {K : (List (Int × Int)) → Nat → Prop} (a1 : Int) (a2 : Int) (a3 : Int)  (hw : w__law_line_s1 a1 a2 a3 n K) (hk : ∀ r k, K r k → D.rt (eQ (eP PyData.int PyData.int) r) k) : nb__law_line_s1 xp D ⟨[some .deck, some (.dat (PyData.int a1)), some (.dat (PyData.int a2)), some (.dat (PyData.int a3)), none, none, none, none], n⟩ := by
  unfold w__law_line_s1 at hw; unfold nb__law_line_s1
  exact (c_seq (s_setO (g_ev (ev_lst lv_nil (fun _ q => q) rfl) (n_st (s' := ⟨[some .deck, some (.dat (PyData.int a1)), some (.dat (PyData.int a2)), some (.dat (PyData.int a3)), some (.own ([].map (eP PyData.int PyData.int))), none, none, none], n⟩) rfl (c_aft (okW__law_line_s2 a1 a2 a3 []  hw hk))))))
set_option maxHeartbeats 4000000 in
def w__law_line (a1 : Int) (n : Nat) (K : (List (Int × Int)) → Nat → Prop) : Prop := ((CPow (10 : Int) (6 : Int) ∧ CPow (10 : Int) (12 : Int) ∧ CPow (10 : Int) (12 : Int) ∧ CPow (10 : Int) (12 : Int)) ∧ (w__law_one [((6 : Int), (3 : Int)), ((40 : Int), (9 : Int)), (((10 : Int) ^ (6 : Int).toNat), (10 : Int)), (((10 : Int) ^ (12 : Int).toNat), (1000 : Int)), (((10 : Int) ^ (12 : Int).toNat), ((10 : Int) ^ (12 : Int).toNat))] n fun (r1_ : (Int × Int)) (n2_ : Nat) => (w__law_line_s1 a1 r1_.1 r1_.2 n2_ K)))
def nb__law_line : AST := (sSeq (sAsg (aCall [.deck, .bor] (calm F__law_one) (lCons (oVar 0) (lCons (oV (aLst (lCons (oV (aTup (lCons (oV (aC (.int 6))) (lCons (oV (aC (.int 3))) lNil)))) (lCons (oV (aTup (lCons (oV (aC (.int 40))) (lCons (oV (aC (.int 9))) lNil)))) (lCons (oV (aTup (lCons (oV (a2 vPow (oV (aC (.int 10))) (oV (aC (.int 6))))) (lCons (oV (aC (.int 10))) lNil)))) (lCons (oV (aTup (lCons (oV (a2 vPow (oV (aC (.int 10))) (oV (aC (.int 12))))) (lCons (oV (aC (.int 1000))) lNil)))) (lCons (oV (aTup (lCons (oV (a2 vPow (oV (aC (.int 10))) (oV (aC (.int 12))))) (lCons (oV (a2 vPow (oV (aC (.int 10))) (oV (aC (.int 12))))) lNil)))) lNil))))))) lNil))) (bTup 2 (bCons (bNm 2) (bCons (bNm 3) bNil))))
    (sSeq (sSetO 4 (aLst lNil))
    (sSeq (sFor (iRange1 (lCons (oV (a2 vAdd (oV (aC (.int 1))) (oV (aCall [.deck, .dat] (calm F__law_next) (lCons (oVar 0) (lCons (oV (aVar 1)) lNil)))))) lNil)) (bNm 5)
    (sSeq (sPar 6 7 (lCons (oV (a2 vSub (oV (aCall [.deck, .dat] (calm F__law_next) (lCons (oVar 0) (lCons (oV (a2 vAdd (oV (a2 vMul (oV (aC (.int 2))) (oVar 2))) (oV (aC (.int 1))))) lNil)))) (oVar 2))) (lCons (oV (a2 vSub (oV (aCall [.deck, .dat] (calm F__law_next) (lCons (oVar 0) (lCons (oV (a2 vAdd (oV (a2 vMul (oV (aC (.int 2))) (oVar 3))) (oV (aC (.int 1))))) lNil)))) (oVar 3))) lNil)))
    (sSeq (sIf (tAndA (tV (a2 vNeE (oVar 4) (oV (aLst lNil)))) (tV (a2 vEq (oV (aCall [.deck, .dat] (calm F__law_next) (lCons (oVar 0) (lCons (oV (aC (.int 6))) lNil)))) (oV (aC (.int 0))))))
    (sSet 7 (a2 vIx (oV (a2 vIx (oVar 4) (oV (aNeg (oV (aC (.int 1))))))) (oV (aC (.int 1)))))
    sNx)
    (sSeq (sIf (tAndA (tV (a2 vNeE (oVar 4) (oV (aLst lNil)))) (tV (a2 vEq (oV (aCall [.deck, .dat] (calm F__law_next) (lCons (oVar 0) (lCons (oV (aC (.int 8))) lNil)))) (oV (aC (.int 0))))))
    (sSet 6 (a2 vIx (oV (a2 vIx (oVar 4) (oV (aNeg (oV (aC (.int 1))))))) (oV (aC (.int 0)))))
    sNx)
    (sDrop (aMut mApp 4 (lCons (oV (aTup (lCons (oV (aVar 6)) (lCons (oV (aVar 7)) lNil)))) lNil)))))))
    (sRet (aBlt fTuple (lCons (oVar 4) lNil))))))
set_option maxHeartbeats 4000000 in
theorem okW__law_line_b {xp : XP} {D : AEnds} {n : Nat} {K : (List (Int × Int)) → Nat → Prop} (a1 : Int)  (hw : w__law_line a1 n K) (hk : ∀ r k, K r k → D.rt (eQ (eP PyData.int PyData.int) r) k) : nb__law_line xp D ⟨[some .deck, some (.dat (PyData.int a1)), none, none, none, none, none, none], n⟩ := by
  unfold w__law_line at hw; unfold nb__law_line
  exact (c_seq (s_asg (g_call (g_lcons (g_ov (ov_deck 0 rfl) (g_lcons (g_ov (ov_V (ev_lst (lv_cons (ov_V (ev_tup (lv_cons (ov_V ev_c) (lv_cons (ov_V ev_c) lv_nil)) (fun _ q => q) rfl)) (lv_cons (ov_V (ev_tup (lv_cons (ov_V ev_c) (lv_cons (ov_V ev_c) lv_nil)) (fun _ q => q) rfl)) (lv_cons (ov_V (ev_tup (lv_cons (ov_V (ev_a2 (ov_V ev_c) (ov_V ev_c) rfl rfl (vf_powI hw.1.1))) (lv_cons (ov_V ev_c) lv_nil)) (fun _ q => q) rfl)) (lv_cons (ov_V (ev_tup (lv_cons (ov_V (ev_a2 (ov_V ev_c) (ov_V ev_c) rfl rfl (vf_powI hw.1.2.1))) (lv_cons (ov_V ev_c) lv_nil)) (fun _ q => q) rfl)) (lv_cons (ov_V (ev_tup (lv_cons (ov_V (ev_a2 (ov_V ev_c) (ov_V ev_c) rfl rfl (vf_powI hw.1.2.2.1))) (lv_cons (ov_V (ev_a2 (ov_V ev_c) (ov_V ev_c) rfl rfl (vf_powI hw.1.2.2.2))) lv_nil)) (fun _ q => q) rfl)) lv_nil))))) (fun _ q => q) rfl)) (g_lnil (g_rm (fun _ q => q) (okW__law_one (eP PyData.int PyData.int) [((6 : Int), (3 : Int)), ((40 : Int), (9 : Int)), (((10 : Int) ^ (6 : Int).toNat), (10 : Int)), (((10 : Int) ^ (12 : Int).toNat), (1000 : Int)), (((10 : Int) ^ (12 : Int).toNat), ((10 : Int) ^ (12 : Int).toNat))] hw.2 (fun r1_ n2_ hw32_ => (g_bv (fun _ q => ⟨rfl, rfl, q⟩) (n_st (s' := ⟨[some .deck, some (.dat (PyData.int a1)), some (.dat (PyData.int r1_.1)), some (.dat (PyData.int r1_.2)), none, none, none, none], n2_⟩) rfl (c_aft (okW__law_line_s1 a1 r1_.1 r1_.2  hw32_ hk)))))))))))))))
theorem okW__law_line {n : Nat} {Q : PyData → Nat → Prop} {X : XD → Nat → Prop} {K : (List (Int × Int)) → Nat → Prop} (a1 : Int) (hw : w__law_line a1 n K) (hk : ∀ r k, K r k → Q (eQ (eP PyData.int PyData.int) r) k) : F__law_line [PyData.none, (PyData.int a1)] n Q X := by
  unfold F__law_line
  exact okW__law_line_b (xp := fun x s => X x s.n) (D := { nx := fun s => Q .none s.n, rt := Q }) a1 hw hk

set_option maxHeartbeats 4000000 in
def w__law_meeting_s2 (a2 : (Int × Int)) (a3 : (Int × Int)) (n : Nat) (K : Int → Nat → Prop) : Prop := (CDivF (a3.1 - a2.1) (a2.2 - a3.2) ∧ (CPow (10 : Int) (12 : Int) ∧ (w__law_next (3 : Int) n fun (r12_ : Int) (n13_ : Nat) => (K (if (if ((((a3.1 - a2.1).fdiv (a2.2 - a3.2)) + r12_) - (1 : Int)) < ((10 : Int) ^ (12 : Int).toNat) then ((((a3.1 - a2.1).fdiv (a2.2 - a3.2)) + r12_) - (1 : Int)) else ((10 : Int) ^ (12 : Int).toNat)) > (0 : Int) then (if ((((a3.1 - a2.1).fdiv (a2.2 - a3.2)) + r12_) - (1 : Int)) < ((10 : Int) ^ (12 : Int).toNat) then ((((a3.1 - a2.1).fdiv (a2.2 - a3.2)) + r12_) - (1 : Int)) else ((10 : Int) ^ (12 : Int).toNat)) else (0 : Int)) n13_))))
def nb__law_meeting_s2 : AST := (sSeq (sSet 4 (a2 vDivF (oV (a2 vSub (oV (a2 vIx (oVar 3) (oV (aC (.int 0))))) (oV (a2 vIx (oVar 2) (oV (aC (.int 0))))))) (oV (a2 vSub (oV (a2 vIx (oVar 2) (oV (aC (.int 1))))) (oV (a2 vIx (oVar 3) (oV (aC (.int 1)))))))))
    (sRet (aBlt fMax2 (lCons (oV (aC (.int 0))) (lCons (oV (aBlt fMin2B (lCons (oV (a2 vPow (oV (aC (.int 10))) (oV (aC (.int 12))))) (lCons (oV (a2 vSub (oV (a2 vAdd (oVar 4) (oV (aCall [.deck, .dat] (calm F__law_next) (lCons (oVar 0) (lCons (oV (aC (.int 3))) lNil)))))) (oV (aC (.int 1))))) lNil)))) lNil)))))
set_option maxHeartbeats 4000000 in
theorem okW__law_meeting_s2 {xp : XP} {D : AEnds} {n : Nat} {K : Int → Nat → Prop} (a2 : (Int × Int)) (a3 : (Int × Int)) (j1 : Option AV) (hw : w__law_meeting_s2 a2 a3 n K) (hk : ∀ r k, K r k → D.rt (PyData.int r) k) : nb__law_meeting_s2 xp D ⟨[some .deck, j1, some (.dat (eP PyData.int PyData.int a2)), some (.dat (eP PyData.int PyData.int a3)), none], n⟩ := by
  unfold w__law_meeting_s2 at hw; unfold nb__law_meeting_s2
  exact (c_seq (s_set (g_ev (ev_a2 (ov_V (ev_a2 (ov_V (ev_a2 (ov_dat 3 rfl) (ov_V ev_c) rfl rfl (vf_ixT at_0))) (ov_V (ev_a2 (ov_dat 2 rfl) (ov_V ev_c) rfl rfl (vf_ixT at_0))) rfl rfl vf_subI)) (ov_V (ev_a2 (ov_V (ev_a2 (ov_dat 2 rfl) (ov_V ev_c) rfl rfl (vf_ixT at_1))) (ov_V (ev_a2 (ov_dat 3 rfl) (ov_V ev_c) rfl rfl (vf_ixT at_1))) rfl rfl vf_subI)) rfl rfl (vf_divF hw.1)) (n_st (s' := ⟨[some .deck, j1, some (.dat (eP PyData.int PyData.int a2)), some (.dat (eP PyData.int PyData.int a3)), some (.dat (PyData.int ((a3.1 - a2.1).fdiv (a2.2 - a3.2))))], n⟩) rfl (c_aft (s_ret (g_blt (g_lcons (g_ov (ov_V ev_c) (g_lcons (g_V (g_blt (g_lcons (g_ov (ov_V (ev_a2 (ov_V ev_c) (ov_V ev_c) rfl rfl (vf_powI hw.2.1))) (g_lcons (g_V (g_a2 (g_V (g_a2 (g_ov (ov_dat 4 rfl) (g_V (g_call (g_lcons (g_ov (ov_deck 0 rfl) (g_lcons (g_ov (ov_V ev_c) (g_lnil (g_rm (fun _ q => q) (okW__law_next (3 : Int) hw.2.2 (fun r12_ n13_ hw14_ => (g_op rfl rfl vf_addI (g_ov (ov_V ev_c) (g_op rfl rfl vf_subI (g_lnil (g_rsl (rsl_cons rfl (rsl_cons rfl (fun _ q => q))) (g_fv fv_min2 (g_lnil (g_rsl (rsl_cons rfl (rsl_cons rfl (fun _ q => q))) (g_fv fv_max2 (hk (if (if ((((a3.1 - a2.1).fdiv (a2.2 - a3.2)) + r12_) - (1 : Int)) < ((10 : Int) ^ (12 : Int).toNat) then ((((a3.1 - a2.1).fdiv (a2.2 - a3.2)) + r12_) - (1 : Int)) else ((10 : Int) ^ (12 : Int).toNat)) > (0 : Int) then (if ((((a3.1 - a2.1).fdiv (a2.2 - a3.2)) + r12_) - (1 : Int)) < ((10 : Int) ^ (12 : Int).toNat) then ((((a3.1 - a2.1).fdiv (a2.2 - a3.2)) + r12_) - (1 : Int)) else ((10 : Int) ^ (12 : Int).toNat)) else (0 : Int)) n13_ hw14_))))))))))))))))))))))))))))))))))))))))
set_option maxHeartbeats 4000000 in
def w__law_meeting_s1 (a2 : (Int × Int)) (a3 : (Int × Int)) (n : Nat) (K : Int → Nat → Prop) : Prop := (((decide (a2.2 = a3.2)) = true → ((true = true → (CPow (10 : Int) (12 : Int) ∧ (w__law_next (((10 : Int) ^ (12 : Int).toNat) + (1 : Int)) n fun (r17_ : Int) (n18_ : Nat) => (K r17_ n18_)))) ∧ (true = false → (w__law_meeting_s2 a2 a3 n K)))) ∧ ((decide (a2.2 = a3.2)) = false → (w__law_next (4 : Int) n fun (r6_ : Int) (n7_ : Nat) => (((decide (r6_ = (0 : Int))) = true → (CPow (10 : Int) (12 : Int) ∧ (w__law_next (((10 : Int) ^ (12 : Int).toNat) + (1 : Int)) n7_ fun (r9_ : Int) (n10_ : Nat) => (K r9_ n10_)))) ∧ ((decide (r6_ = (0 : Int))) = false → (w__law_meeting_s2 a2 a3 n7_ K))))))
def nb__law_meeting_s1 : AST := (sSeq (sIf (tOrA (tV (a2 vEq (oV (a2 vIx (oVar 2) (oV (aC (.int 1))))) (oV (a2 vIx (oVar 3) (oV (aC (.int 1))))))) (tV (a2 vEq (oV (aCall [.deck, .dat] (calm F__law_next) (lCons (oVar 0) (lCons (oV (aC (.int 4))) lNil)))) (oV (aC (.int 0))))))
    (sRet (aCall [.deck, .dat] (calm F__law_next) (lCons (oVar 0) (lCons (oV (a2 vAdd (oV (a2 vPow (oV (aC (.int 10))) (oV (aC (.int 12))))) (oV (aC (.int 1))))) lNil))))
    sNx)
    (sSeq (sSet 4 (a2 vDivF (oV (a2 vSub (oV (a2 vIx (oVar 3) (oV (aC (.int 0))))) (oV (a2 vIx (oVar 2) (oV (aC (.int 0))))))) (oV (a2 vSub (oV (a2 vIx (oVar 2) (oV (aC (.int 1))))) (oV (a2 vIx (oVar 3) (oV (aC (.int 1)))))))))
    (sRet (aBlt fMax2 (lCons (oV (aC (.int 0))) (lCons (oV (aBlt fMin2B (lCons (oV (a2 vPow (oV (aC (.int 10))) (oV (aC (.int 12))))) (lCons (oV (a2 vSub (oV (a2 vAdd (oVar 4) (oV (aCall [.deck, .dat] (calm F__law_next) (lCons (oVar 0) (lCons (oV (aC (.int 3))) lNil)))))) (oV (aC (.int 1))))) lNil)))) lNil))))))
set_option maxHeartbeats 4000000 in
theorem okW__law_meeting_s1 {xp : XP} {D : AEnds} {n : Nat} {K : Int → Nat → Prop} (a2 : (Int × Int)) (a3 : (Int × Int)) (j1 : Option AV) (hw : w__law_meeting_s1 a2 a3 n K) (hk : ∀ r k, K r k → D.rt (PyData.int r) k) : nb__law_meeting_s1 xp D ⟨[some .deck, j1, some (.dat (eP PyData.int PyData.int a2)), some (.dat (eP PyData.int PyData.int a3)), none], n⟩ := by
  unfold w__law_meeting_s1 at hw; unfold nb__law_meeting_s1
  exact (c_seq (s_if (g_or (g_tv (tv_V (ev_a2 (ov_V (ev_a2 (ov_dat 2 rfl) (ov_V ev_c) rfl rfl (vf_ixT at_1))) (ov_V (ev_a2 (ov_dat 3 rfl) (ov_V ev_c) rfl rfl (vf_ixT at_1))) rfl rfl (vf_eq (f := PyData.int) lw_I (sh_I (k := 0)) rfl))) (g_ite (fun h5_ => (g_ite (fun h16_ => (s_ret (g_call (g_lcons (g_ov (ov_deck 0 rfl) (g_lcons (g_ov (ov_V (ev_a2 (ov_V (ev_a2 (ov_V ev_c) (ov_V ev_c) rfl rfl (vf_powI ((hw.1 h5_).1 h16_).1))) (ov_V ev_c) rfl rfl vf_addI)) (g_lnil (g_rm (fun _ q => q) (okW__law_next (((10 : Int) ^ (12 : Int).toNat) + (1 : Int)) ((hw.1 h5_).1 h16_).2 (fun r17_ n18_ hw19_ => (hk r17_ n18_ hw19_)))))))))))) (fun h16_ => (c_pass (c_aft (okW__law_meeting_s2 a2 a3 (j1) ((hw.1 h5_).2 h16_) hk)))))) (fun h5_ => (g_tV (g_a2 (g_V (g_call (g_lcons (g_ov (ov_deck 0 rfl) (g_lcons (g_ov (ov_V ev_c) (g_lnil (g_rm (fun _ q => q) (okW__law_next (4 : Int) (hw.2 h5_) (fun r6_ n7_ hw15_ => (g_ov (ov_V ev_c) (g_op rfl rfl (vf_eq (f := PyData.int) lw_I (sh_I (k := 0)) rfl) (g_ite (fun h8_ => (s_ret (g_call (g_lcons (g_ov (ov_deck 0 rfl) (g_lcons (g_ov (ov_V (ev_a2 (ov_V (ev_a2 (ov_V ev_c) (ov_V ev_c) rfl rfl (vf_powI (hw15_.1 h8_).1))) (ov_V ev_c) rfl rfl vf_addI)) (g_lnil (g_rm (fun _ q => q) (okW__law_next (((10 : Int) ^ (12 : Int).toNat) + (1 : Int)) (hw15_.1 h8_).2 (fun r9_ n10_ hw11_ => (hk r9_ n10_ hw11_)))))))))))) (fun h8_ => (c_pass (c_aft (okW__law_meeting_s2 a2 a3 (j1) (hw15_.2 h8_) hk)))))))))))))))))))))))))
set_option maxHeartbeats 4000000 in
def w__law_meeting (a1 : (List (Int × Int))) (n : Nat) (K : Int → Nat → Prop) : Prop := (w__law_one a1 n fun (r1_ : (Int × Int)) (n2_ : Nat) => (w__law_one a1 n2_ fun (r3_ : (Int × Int)) (n4_ : Nat) => (w__law_meeting_s1 r1_ r3_ n4_ K)))
def nb__law_meeting : AST := (sSeq (sPar 2 3 (lCons (oV (aCall [.deck, .bor] (calm F__law_one) (lCons (oVar 0) (lCons (oVar 1) lNil)))) (lCons (oV (aCall [.deck, .bor] (calm F__law_one) (lCons (oVar 0) (lCons (oVar 1) lNil)))) lNil)))
    (sSeq (sIf (tOrA (tV (a2 vEq (oV (a2 vIx (oVar 2) (oV (aC (.int 1))))) (oV (a2 vIx (oVar 3) (oV (aC (.int 1))))))) (tV (a2 vEq (oV (aCall [.deck, .dat] (calm F__law_next) (lCons (oVar 0) (lCons (oV (aC (.int 4))) lNil)))) (oV (aC (.int 0))))))
    (sRet (aCall [.deck, .dat] (calm F__law_next) (lCons (oVar 0) (lCons (oV (a2 vAdd (oV (a2 vPow (oV (aC (.int 10))) (oV (aC (.int 12))))) (oV (aC (.int 1))))) lNil))))
    sNx)
    (sSeq (sSet 4 (a2 vDivF (oV (a2 vSub (oV (a2 vIx (oVar 3) (oV (aC (.int 0))))) (oV (a2 vIx (oVar 2) (oV (aC (.int 0))))))) (oV (a2 vSub (oV (a2 vIx (oVar 2) (oV (aC (.int 1))))) (oV (a2 vIx (oVar 3) (oV (aC (.int 1)))))))))
    (sRet (aBlt fMax2 (lCons (oV (aC (.int 0))) (lCons (oV (aBlt fMin2B (lCons (oV (a2 vPow (oV (aC (.int 10))) (oV (aC (.int 12))))) (lCons (oV (a2 vSub (oV (a2 vAdd (oVar 4) (oV (aCall [.deck, .dat] (calm F__law_next) (lCons (oVar 0) (lCons (oV (aC (.int 3))) lNil)))))) (oV (aC (.int 1))))) lNil)))) lNil)))))))
set_option maxHeartbeats 4000000 in
theorem okW__law_meeting_b {xp : XP} {D : AEnds} {n : Nat} {K : Int → Nat → Prop} (a1 : (List (Int × Int)))  (hw : w__law_meeting a1 n K) (hk : ∀ r k, K r k → D.rt (PyData.int r) k) : nb__law_meeting xp D ⟨[some .deck, some (.dat (eQ (eP PyData.int PyData.int) a1)), none, none, none], n⟩ := by
  unfold w__law_meeting at hw; unfold nb__law_meeting
  exact (c_seq (s_par (g_lcons (g_V (g_call (g_lcons (g_ov (ov_deck 0 rfl) (g_lcons (g_ov (ov_dat 1 rfl) (g_lnil (g_rm (fun _ q => q) (okW__law_oneQ (eP PyData.int PyData.int) a1 hw (fun r1_ n2_ hw21_ => (g_lcons (g_V (g_call (g_lcons (g_ov (ov_deck 0 rfl) (g_lcons (g_ov (ov_dat 1 rfl) (g_lnil (g_rm (fun _ q => q) (okW__law_oneQ (eP PyData.int PyData.int) a1 hw21_ (fun r3_ n4_ hw20_ => (g_lnil (g_rv (fun _ q => q) (n_st (s' := ⟨[some .deck, some (.dat (eQ (eP PyData.int PyData.int) a1)), some (.dat (eP PyData.int PyData.int r1_)), some (.dat (eP PyData.int PyData.int r3_)), none], n4_⟩) rfl (c_aft (okW__law_meeting_s1 r1_ r3_ (some (.dat (eQ (eP PyData.int PyData.int) a1))) hw20_ hk)))))))))))))))))))))))))))))
theorem okW__law_meeting {n : Nat} {Q : PyData → Nat → Prop} {X : XD → Nat → Prop} {K : Int → Nat → Prop} (a1 : (List (Int × Int))) (hw : w__law_meeting a1 n K) (hk : ∀ r k, K r k → Q (PyData.int r) k) : F__law_meeting [PyData.none, (eQ (eP PyData.int PyData.int) a1)] n Q X := by
  unfold F__law_meeting
  exact okW__law_meeting_b (xp := fun x s => X x s.n) (D := { nx := fun s => Q .none s.n, rt := Q }) a1 hw hk

set_option maxHeartbeats 4000000 in
def w__law_span_s4 (a1 : (List (Int × Int))) (a3 : Int) (n : Nat) (K : (Int × Int) → Nat → Prop) : Prop := (w__law_meeting a1 n fun (r14_ : Int) (n15_ : Nat) => (K ((if r14_ < a3 then r14_ else a3), (if r14_ > a3 then r14_ else a3)) n15_))
def nb__law_span_s4 : AST := (sSeq (sSet 4 (aCall [.deck, .dat] (calm F__law_meeting) (lCons (oVar 0) (lCons (oV (aVar 1)) lNil))))
    (sRet (aTup (lCons (oV (aBlt fMin2B (lCons (oVar 3) (lCons (oVar 4) lNil)))) (lCons (oV (aBlt fMax2 (lCons (oVar 3) (lCons (oVar 4) lNil)))) lNil)))))
set_option maxHeartbeats 4000000 in
theorem okW__law_span_s4 {xp : XP} {D : AEnds} {n : Nat} {K : (Int × Int) → Nat → Prop} (a1 : (List (Int × Int))) (a3 : Int) (j2 : Option AV) (hw : w__law_span_s4 a1 a3 n K) (hk : ∀ r k, K r k → D.rt (eP PyData.int PyData.int r) k) : nb__law_span_s4 xp D ⟨[some .deck, some (.dat (eQ (eP PyData.int PyData.int) a1)), j2, some (.dat (PyData.int a3)), none], n⟩ := by
  unfold w__law_span_s4 at hw; unfold nb__law_span_s4
  exact (c_seq (s_set (g_call (g_lcons (g_ov (ov_deck 0 rfl) (g_lcons (g_ov (ov_V (ev_var 1 rfl)) (g_lnil (g_rm (fun _ q => q) (okW__law_meeting a1 hw (fun r14_ n15_ hw16_ => (n_st (s' := ⟨[some .deck, some (.dat (eQ (eP PyData.int PyData.int) a1)), j2, some (.dat (PyData.int a3)), some (.dat (PyData.int r14_))], n15_⟩) rfl (c_aft (s_ret (g_ev (ev_tup (lv_cons (ov_V (ev_blt (lv_cons (ov_dat 3 rfl) (lv_cons (ov_dat 4 rfl) lv_nil)) (rsl_cons rfl (rsl_cons rfl (fun _ q => q))) fv_min2)) (lv_cons (ov_V (ev_blt (lv_cons (ov_dat 3 rfl) (lv_cons (ov_dat 4 rfl) lv_nil)) (rsl_cons rfl (rsl_cons rfl (fun _ q => q))) fv_max2)) lv_nil)) (fun _ q => q) rfl) (hk ((if r14_ < a3 then r14_ else a3), (if r14_ > a3 then r14_ else a3)) n15_ hw16_))))))))))))))))
set_option maxHeartbeats 4000000 in
def w__law_span_s3 (a1 : (List (Int × Int))) (a2 : Int) (a3 : Int) (n : Nat) (K : (Int × Int) → Nat → Prop) : Prop := (((decide (a2 < (4 : Int))) = true → (w__law_next (6 : Int) n fun (r8_ : Int) (n9_ : Nat) => (CPow (10 : Int) (12 : Int) ∧ (w__law_next (25 : Int) n9_ fun (r10_ : Int) (n11_ : Nat) => (K ((if (a3 - r8_) > (0 : Int) then (a3 - r8_) else (0 : Int)), (if ((if (a3 - r8_) > (0 : Int) then (a3 - r8_) else (0 : Int)) + r10_) < ((10 : Int) ^ (12 : Int).toNat) then ((if (a3 - r8_) > (0 : Int) then (a3 - r8_) else (0 : Int)) + r10_) else ((10 : Int) ^ (12 : Int).toNat))) n11_))))) ∧ ((decide (a2 < (4 : Int))) = false → (w__law_span_s4 a1 a3 n K)))
def nb__law_span_s3 : AST := (sSeq (sIf (tV (a2 vLt (oVar 2) (oV (aC (.int 4)))))
    (sSeq (sSet 3 (aBlt fMax2 (lCons (oV (aC (.int 0))) (lCons (oV (a2 vSub (oVar 3) (oV (aCall [.deck, .dat] (calm F__law_next) (lCons (oVar 0) (lCons (oV (aC (.int 6))) lNil)))))) lNil))))
    (sRet (aTup (lCons (oV (aVar 3)) (lCons (oV (aBlt fMin2B (lCons (oV (a2 vPow (oV (aC (.int 10))) (oV (aC (.int 12))))) (lCons (oV (a2 vAdd (oVar 3) (oV (aCall [.deck, .dat] (calm F__law_next) (lCons (oVar 0) (lCons (oV (aC (.int 25))) lNil)))))) lNil)))) lNil)))))
    sNx)
    (sSeq (sSet 4 (aCall [.deck, .dat] (calm F__law_meeting) (lCons (oVar 0) (lCons (oV (aVar 1)) lNil))))
    (sRet (aTup (lCons (oV (aBlt fMin2B (lCons (oVar 3) (lCons (oVar 4) lNil)))) (lCons (oV (aBlt fMax2 (lCons (oVar 3) (lCons (oVar 4) lNil)))) lNil))))))
set_option maxHeartbeats 4000000 in
theorem okW__law_span_s3 {xp : XP} {D : AEnds} {n : Nat} {K : (Int × Int) → Nat → Prop} (a1 : (List (Int × Int))) (a2 : Int) (a3 : Int)  (hw : w__law_span_s3 a1 a2 a3 n K) (hk : ∀ r k, K r k → D.rt (eP PyData.int PyData.int r) k) : nb__law_span_s3 xp D ⟨[some .deck, some (.dat (eQ (eP PyData.int PyData.int) a1)), some (.dat (PyData.int a2)), some (.dat (PyData.int a3)), none], n⟩ := by
  unfold w__law_span_s3 at hw; unfold nb__law_span_s3
  exact (c_seq (s_if (g_tv (tv_V (ev_a2 (ov_dat 2 rfl) (ov_V ev_c) rfl rfl vf_ltI)) (g_ite (fun h7_ => (c_seq (s_set (g_blt (g_lcons (g_ov (ov_V ev_c) (g_lcons (g_V (g_a2 (g_ov (ov_dat 3 rfl) (g_V (g_call (g_lcons (g_ov (ov_deck 0 rfl) (g_lcons (g_ov (ov_V ev_c) (g_lnil (g_rm (fun _ q => q) (okW__law_next (6 : Int) (hw.1 h7_) (fun r8_ n9_ hw13_ => (g_op rfl rfl vf_subI (g_lnil (g_rsl (rsl_cons rfl (rsl_cons rfl (fun _ q => q))) (g_fv fv_max2 (n_st (s' := ⟨[some .deck, some (.dat (eQ (eP PyData.int PyData.int) a1)), some (.dat (PyData.int a2)), some (.dat (PyData.int (if (a3 - r8_) > (0 : Int) then (a3 - r8_) else (0 : Int)))), none], n9_⟩) rfl (c_aft (s_ret (g_tup (g_lcons (g_ov (ov_V (ev_var 3 rfl)) (g_lcons (g_V (g_blt (g_lcons (g_ov (ov_V (ev_a2 (ov_V ev_c) (ov_V ev_c) rfl rfl (vf_powI hw13_.1))) (g_lcons (g_V (g_a2 (g_ov (ov_dat 3 rfl) (g_V (g_call (g_lcons (g_ov (ov_deck 0 rfl) (g_lcons (g_ov (ov_V ev_c) (g_lnil (g_rm (fun _ q => q) (okW__law_next (25 : Int) hw13_.2 (fun r10_ n11_ hw12_ => (g_op rfl rfl vf_addI (g_lnil (g_rsl (rsl_cons rfl (rsl_cons rfl (fun _ q => q))) (g_fv fv_min2 (g_lnil (g_rv (fun _ q => q) ⟨g_sz rfl, (hk ((if (a3 - r8_) > (0 : Int) then (a3 - r8_) else (0 : Int)), (if ((if (a3 - r8_) > (0 : Int) then (a3 - r8_) else (0 : Int)) + r10_) < ((10 : Int) ^ (12 : Int).toNat) then ((if (a3 - r8_) > (0 : Int) then (a3 - r8_) else (0 : Int)) + r10_) else ((10 : Int) ^ (12 : Int).toNat))) n11_ hw12_)⟩))))))))))))))))))))))))))))))))))))))))))))))))))))))) (fun h7_ => (c_pass (c_aft (okW__law_span_s4 a1 a3 (some (.dat (PyData.int a2))) (hw.2 h7_) hk))))))))
set_option maxHeartbeats 4000000 in
def w__law_span_s2 (a1 : (List (Int × Int))) (a2 : Int) (n : Nat) (K : (Int × Int) → Nat → Prop) : Prop := (((decide ((1 : Int) < a2)) = true → (w__law_meeting a1 n fun (r5_ : Int) (n6_ : Nat) => (w__law_span_s3 a1 a2 r5_ n6_ K))) ∧ ((decide ((1 : Int) < a2)) = false → (w__law_next (20 : Int) n fun (r18_ : Int) (n19_ : Nat) => (w__law_span_s3 a1 a2 r18_ n19_ K))))
def nb__law_span_s2 : AST := (sSeq (sSet 3 (aIfE (tV (a2 vGt (oVar 2) (oV (aC (.int 1))))) (aCall [.deck, .dat] (calm F__law_meeting) (lCons (oVar 0) (lCons (oV (aVar 1)) lNil))) (aCall [.deck, .dat] (calm F__law_next) (lCons (oVar 0) (lCons (oV (aC (.int 20))) lNil)))))
    (sSeq (sIf (tV (a2 vLt (oVar 2) (oV (aC (.int 4)))))
    (sSeq (sSet 3 (aBlt fMax2 (lCons (oV (aC (.int 0))) (lCons (oV (a2 vSub (oVar 3) (oV (aCall [.deck, .dat] (calm F__law_next) (lCons (oVar 0) (lCons (oV (aC (.int 6))) lNil)))))) lNil))))
    (sRet (aTup (lCons (oV (aVar 3)) (lCons (oV (aBlt fMin2B (lCons (oV (a2 vPow (oV (aC (.int 10))) (oV (aC (.int 12))))) (lCons (oV (a2 vAdd (oVar 3) (oV (aCall [.deck, .dat] (calm F__law_next) (lCons (oVar 0) (lCons (oV (aC (.int 25))) lNil)))))) lNil)))) lNil)))))
    sNx)
    (sSeq (sSet 4 (aCall [.deck, .dat] (calm F__law_meeting) (lCons (oVar 0) (lCons (oV (aVar 1)) lNil))))
    (sRet (aTup (lCons (oV (aBlt fMin2B (lCons (oVar 3) (lCons (oVar 4) lNil)))) (lCons (oV (aBlt fMax2 (lCons (oVar 3) (lCons (oVar 4) lNil)))) lNil)))))))
set_option maxHeartbeats 4000000 in
theorem okW__law_span_s2 {xp : XP} {D : AEnds} {n : Nat} {K : (Int × Int) → Nat → Prop} (a1 : (List (Int × Int))) (a2 : Int)  (hw : w__law_span_s2 a1 a2 n K) (hk : ∀ r k, K r k → D.rt (eP PyData.int PyData.int r) k) : nb__law_span_s2 xp D ⟨[some .deck, some (.dat (eQ (eP PyData.int PyData.int) a1)), some (.dat (PyData.int a2)), none, none], n⟩ := by
  unfold w__law_span_s2 at hw; unfold nb__law_span_s2
  exact (c_seq (s_set (g_ifE (g_tv (tv_V (ev_a2 (ov_dat 2 rfl) (ov_V ev_c) rfl rfl vf_gtI)) (g_ite (fun h4_ => (g_call (g_lcons (g_ov (ov_deck 0 rfl) (g_lcons (g_ov (ov_V (ev_var 1 rfl)) (g_lnil (g_rm (fun _ q => q) (okW__law_meeting a1 (hw.1 h4_) (fun r5_ n6_ hw17_ => (n_st (s' := ⟨[some .deck, some (.dat (eQ (eP PyData.int PyData.int) a1)), some (.dat (PyData.int a2)), some (.dat (PyData.int r5_)), none], n6_⟩) rfl (c_aft (okW__law_span_s3 a1 a2 r5_  hw17_ hk))))))))))))) (fun h4_ => (g_call (g_lcons (g_ov (ov_deck 0 rfl) (g_lcons (g_ov (ov_V ev_c) (g_lnil (g_rm (fun _ q => q) (okW__law_next (20 : Int) (hw.2 h4_) (fun r18_ n19_ hw20_ => (n_st (s' := ⟨[some .deck, some (.dat (eQ (eP PyData.int PyData.int) a1)), some (.dat (PyData.int a2)), some (.dat (PyData.int r18_)), none], n19_⟩) rfl (c_aft (okW__law_span_s3 a1 a2 r18_  hw20_ hk))))))))))))))))))
set_option maxHeartbeats 4000000 in
def w__law_span_s1 (a1 : (List (Int × Int))) (a2 : Int) (n : Nat) (K : (Int × Int) → Nat → Prop) : Prop := (((decide (a2 = (0 : Int))) = true → (CPow (10 : Int) (12 : Int) ∧ (K ((0 : Int), ((10 : Int) ^ (12 : Int).toNat)) n))) ∧ ((decide (a2 = (0 : Int))) = false → (w__law_span_s2 a1 a2 n K)))
def nb__law_span_s1 : AST := (sSeq (sIf (tV (a2 vEq (oVar 2) (oV (aC (.int 0)))))
    (sRet (aTup (lCons (oV (aC (.int 0))) (lCons (oV (a2 vPow (oV (aC (.int 10))) (oV (aC (.int 12))))) lNil))))
    sNx)
    (sSeq (sSet 3 (aIfE (tV (a2 vGt (oVar 2) (oV (aC (.int 1))))) (aCall [.deck, .dat] (calm F__law_meeting) (lCons (oVar 0) (lCons (oV (aVar 1)) lNil))) (aCall [.deck, .dat] (calm F__law_next) (lCons (oVar 0) (lCons (oV (aC (.int 20))) lNil)))))
    (sSeq (sIf (tV (a2 vLt (oVar 2) (oV (aC (.int 4)))))
    (sSeq (sSet 3 (aBlt fMax2 (lCons (oV (aC (.int 0))) (lCons (oV (a2 vSub (oVar 3) (oV (aCall [.deck, .dat] (calm F__law_next) (lCons (oVar 0) (lCons (oV (aC (.int 6))) lNil)))))) lNil))))
    (sRet (aTup (lCons (oV (aVar 3)) (lCons (oV (aBlt fMin2B (lCons (oV (a2 vPow (oV (aC (.int 10))) (oV (aC (.int 12))))) (lCons (oV (a2 vAdd (oVar 3) (oV (aCall [.deck, .dat] (calm F__law_next) (lCons (oVar 0) (lCons (oV (aC (.int 25))) lNil)))))) lNil)))) lNil)))))
    sNx)
    (sSeq (sSet 4 (aCall [.deck, .dat] (calm F__law_meeting) (lCons (oVar 0) (lCons (oV (aVar 1)) lNil))))
    (sRet (aTup (lCons (oV (aBlt fMin2B (lCons (oVar 3) (lCons (oVar 4) lNil)))) (lCons (oV (aBlt fMax2 (lCons (oVar 3) (lCons (oVar 4) lNil)))) lNil))))))))
set_option maxHeartbeats 4000000 in
theorem okW__law_span_s1 {xp : XP} {D : AEnds} {n : Nat} {K : (Int × Int) → Nat → Prop} (a1 : (List (Int × Int))) (a2 : Int)  (hw : w__law_span_s1 a1 a2 n K) (hk : ∀ r k, K r k → D.rt (eP PyData.int PyData.int r) k) : nb__law_span_s1 xp D ⟨[some .deck, some (.dat (eQ (eP PyData.int PyData.int) a1)), some (.dat (PyData.int a2)), none, none], n⟩ := by
  unfold w__law_span_s1 at hw; unfold nb__law_span_s1
  exact (c_seq (s_if (g_tv (tv_V (ev_a2 (ov_dat 2 rfl) (ov_V ev_c) rfl rfl (vf_eq (f := PyData.int) lw_I (sh_I (k := 0)) rfl))) (g_ite (fun h3_ => (s_ret (g_ev (ev_tup (lv_cons (ov_V ev_c) (lv_cons (ov_V (ev_a2 (ov_V ev_c) (ov_V ev_c) rfl rfl (vf_powI (hw.1 h3_).1))) lv_nil)) (fun _ q => q) rfl) (hk ((0 : Int), ((10 : Int) ^ (12 : Int).toNat)) n (hw.1 h3_).2)))) (fun h3_ => (c_pass (c_aft (okW__law_span_s2 a1 a2  (hw.2 h3_) hk))))))))
set_option maxHeartbeats 4000000 in
def w__law_span (a1 : (List (Int × Int))) (n : Nat) (K : (Int × Int) → Nat → Prop) : Prop := (w__law_next (5 : Int) n fun (r1_ : Int) (n2_ : Nat) => (w__law_span_s1 a1 r1_ n2_ K))
def nb__law_span : AST := (sSeq (sSet 2 (aCall [.deck, .dat] (calm F__law_next) (lCons (oVar 0) (lCons (oV (aC (.int 5))) lNil))))
    (sSeq (sIf (tV (a2 vEq (oVar 2) (oV (aC (.int 0)))))
    (sRet (aTup (lCons (oV (aC (.int 0))) (lCons (oV (a2 vPow (oV (aC (.int 10))) (oV (aC (.int 12))))) lNil))))
    sNx)
    (sSeq (sSet 3 (aIfE (tV (a2 vGt (oVar 2) (oV (aC (.int 1))))) (aCall [.deck, .dat] (calm F__law_meeting) (lCons (oVar 0) (lCons (oV (aVar 1)) lNil))) (aCall [.deck, .dat] (calm F__law_next) (lCons (oVar 0) (lCons (oV (aC (.int 20))) lNil)))))
    (sSeq (sIf (tV (a2 vLt (oVar 2) (oV (aC (.int 4)))))
    (sSeq (sSet 3 (aBlt fMax2 (lCons (oV (aC (.int 0))) (lCons (oV (a2 vSub (oVar 3) (oV (aCall [.deck, .dat] (calm F__law_next) (lCons (oVar 0) (lCons (oV (aC (.int 6))) lNil)))))) lNil))))
    (sRet (aTup (lCons (oV (aVar 3)) (lCons (oV (aBlt fMin2B (lCons (oV (a2 vPow (oV (aC (.int 10))) (oV (aC (.int 12))))) (lCons (oV (a2 vAdd (oVar 3) (oV (aCall [.deck, .dat] (calm F__law_next) (lCons (oVar 0) (lCons (oV (aC (.int 25))) lNil)))))) lNil)))) lNil)))))
    sNx)
    (sSeq (sSet 4 (aCall [.deck, .dat] (calm F__law_meeting) (lCons (oVar 0) (lCons (oV (aVar 1)) lNil))))
    (sRet (aTup (lCons (oV (aBlt fMin2B (lCons (oVar 3) (lCons (oVar 4) lNil)))) (lCons (oV (aBlt fMax2 (lCons (oVar 3) (lCons (oVar 4) lNil)))) lNil)))))))))
set_option maxHeartbeats 4000000 in
theorem okW__law_span_b {xp : XP} {D : AEnds} {n : Nat} {K : (Int × Int) → Nat → Prop} (a1 : (List (Int × Int)))  (hw : w__law_span a1 n K) (hk : ∀ r k, K r k → D.rt (eP PyData.int PyData.int r) k) : nb__law_span xp D ⟨[some .deck, some (.dat (eQ (eP PyData.int PyData.int) a1)), none, none, none], n⟩ := by
  unfold w__law_span at hw; unfold nb__law_span
  exact (c_seq (s_set (g_call (g_lcons (g_ov (ov_deck 0 rfl) (g_lcons (g_ov (ov_V ev_c) (g_lnil (g_rm (fun _ q => q) (okW__law_next (5 : Int) hw (fun r1_ n2_ hw21_ => (n_st (s' := ⟨[some .deck, some (.dat (eQ (eP PyData.int PyData.int) a1)), some (.dat (PyData.int r1_)), none, none], n2_⟩) rfl (c_aft (okW__law_span_s1 a1 r1_  hw21_ hk))))))))))))))
theorem okW__law_span {n : Nat} {Q : PyData → Nat → Prop} {X : XD → Nat → Prop} {K : (Int × Int) → Nat → Prop} (a1 : (List (Int × Int))) (hw : w__law_span a1 n K) (hk : ∀ r k, K r k → Q (eP PyData.int PyData.int r) k) : F__law_span [PyData.none, (eQ (eP PyData.int PyData.int) a1)] n Q X := by
  unfold F__law_span
  exact okW__law_span_b (xp := fun x s => X x s.n) (D := { nx := fun s => Q .none s.n, rt := Q }) a1 hw hk

set_option maxHeartbeats 4000000 in
def w__law_bad_span  (n : Nat) (K : (PyData × PyData) → Nat → Prop) : Prop := ((CPow (10 : Int) (12 : Int) ∧ CPow (10 : Int) (12 : Int) ∧ CPow (10 : Int) (12 : Int)) ∧ ((CPow (10 : Int) (59 : Int) ∧ [((PyData.int (-(1 : Int))), (PyData.int (3 : Int))), ((PyData.int (4 : Int)), (PyData.int (3 : Int))), ((PyData.int (0 : Int)), (PyData.int (((10 : Int) ^ (12 : Int).toNat) + (1 : Int)))), ((PyData.int (((10 : Int) ^ (12 : Int).toNat) + (1 : Int))), (PyData.int (((10 : Int) ^ (12 : Int).toNat) + (2 : Int)))), ((PyData.bool true), (PyData.int (5 : Int))), ((PyData.int (0 : Int)), (PyData.bool true)), (.none, (PyData.int (2 : Int))), ((PyData.str ("0" : Str)), (PyData.int (3 : Int)))].length + [((PyData.int (0 : Int)), (PyData.str ("1" : Str))), ((eL PyData.int []), (PyData.dict [])), ((PyData.int (1 : Int)), .none), ((PyData.int (0 : Int)), (eQ PyData.int [(5 : Int)])), ((PyData.int (0 : Int)), (PyData.int (-(1 : Int)))), ((PyData.bool false), (PyData.bool false)), ((PyData.int (5 : Int)), (PyData.int ((10 : Int) ^ (59 : Int).toNat)))].length ≤ sizeLine) ∧ (w__law_one ([((PyData.int (-(1 : Int))), (PyData.int (3 : Int))), ((PyData.int (4 : Int)), (PyData.int (3 : Int))), ((PyData.int (0 : Int)), (PyData.int (((10 : Int) ^ (12 : Int).toNat) + (1 : Int)))), ((PyData.int (((10 : Int) ^ (12 : Int).toNat) + (1 : Int))), (PyData.int (((10 : Int) ^ (12 : Int).toNat) + (2 : Int)))), ((PyData.bool true), (PyData.int (5 : Int))), ((PyData.int (0 : Int)), (PyData.bool true)), (.none, (PyData.int (2 : Int))), ((PyData.str ("0" : Str)), (PyData.int (3 : Int)))] ++ [((PyData.int (0 : Int)), (PyData.str ("1" : Str))), ((eL PyData.int []), (PyData.dict [])), ((PyData.int (1 : Int)), .none), ((PyData.int (0 : Int)), (eQ PyData.int [(5 : Int)])), ((PyData.int (0 : Int)), (PyData.int (-(1 : Int)))), ((PyData.bool false), (PyData.bool false)), ((PyData.int (5 : Int)), (PyData.int ((10 : Int) ^ (59 : Int).toNat)))]) n fun (r1_ : (PyData × PyData)) (n2_ : Nat) => (K r1_ n2_))))
def nb__law_bad_span : AST := (sSeq (sSet 1 (aLst (lCons (oV (aTup (lCons (oV (aNeg (oV (aC (.int 1))))) (lCons (oV (aC (.int 3))) lNil)))) (lCons (oV (aTup (lCons (oV (aC (.int 4))) (lCons (oV (aC (.int 3))) lNil)))) (lCons (oV (aTup (lCons (oV (aC (.int 0))) (lCons (oV (a2 vAdd (oV (a2 vPow (oV (aC (.int 10))) (oV (aC (.int 12))))) (oV (aC (.int 1))))) lNil)))) (lCons (oV (aTup (lCons (oV (a2 vAdd (oV (a2 vPow (oV (aC (.int 10))) (oV (aC (.int 12))))) (oV (aC (.int 1))))) (lCons (oV (a2 vAdd (oV (a2 vPow (oV (aC (.int 10))) (oV (aC (.int 12))))) (oV (aC (.int 2))))) lNil)))) (lCons (oV (aTup (lCons (oV (aC (.bool true))) (lCons (oV (aC (.int 5))) lNil)))) (lCons (oV (aTup (lCons (oV (aC (.int 0))) (lCons (oV (aC (.bool true))) lNil)))) (lCons (oV (aTup (lCons (oV (aC .none)) (lCons (oV (aC (.int 2))) lNil)))) (lCons (oV (aTup (lCons (oV (aC (.str "0"))) (lCons (oV (aC (.int 3))) lNil)))) lNil))))))))))
    (sRet (aCall [.deck, .bor] (calm F__law_one) (lCons (oVar 0) (lCons (oV (a2 vCatL (oVar 1) (oV (aLst (lCons (oV (aTup (lCons (oV (aC (.int 0))) (lCons (oV (aC (.str "1"))) lNil)))) (lCons (oV (aTup (lCons (oV (aLst lNil)) (lCons (oV aDict0) lNil)))) (lCons (oV (aTup (lCons (oV (aC (.int 1))) (lCons (oV (aC .none)) lNil)))) (lCons (oV (aTup (lCons (oV (aC (.int 0))) (lCons (oV (aTup (lCons (oV (aC (.int 5))) lNil))) lNil)))) (lCons (oV (aTup (lCons (oV (aC (.int 0))) (lCons (oV (aNeg (oV (aC (.int 1))))) lNil)))) (lCons (oV (aTup (lCons (oV (aC (.bool false))) (lCons (oV (aC (.bool false))) lNil)))) (lCons (oV (aTup (lCons (oV (aC (.int 5))) (lCons (oV (a2 vPow (oV (aC (.int 10))) (oV (aC (.int 59))))) lNil)))) lNil))))))))))) lNil)))))
set_option maxHeartbeats 4000000 in
theorem okW__law_bad_span_b {xp : XP} {D : AEnds} {n : Nat} {K : (PyData × PyData) → Nat → Prop}   (hw : w__law_bad_span  n K) (hk : ∀ r k, K r k → D.rt (eP eD eD r) k) : nb__law_bad_span xp D ⟨[some .deck, none], n⟩ := by
  unfold w__law_bad_span at hw; unfold nb__law_bad_span
  exact (c_seq (s_set (g_ev (ev_lst (lv_cons (ov_V (ev_tup (lv_cons (ov_V (ev_neg (ov_V ev_c) rfl)) (lv_cons (ov_V ev_c) lv_nil)) (fun _ q => q) rfl)) (lv_cons (ov_V (ev_tup (lv_cons (ov_V ev_c) (lv_cons (ov_V ev_c) lv_nil)) (fun _ q => q) rfl)) (lv_cons (ov_V (ev_tup (lv_cons (ov_V ev_c) (lv_cons (ov_V (ev_a2 (ov_V (ev_a2 (ov_V ev_c) (ov_V ev_c) rfl rfl (vf_powI hw.1.1))) (ov_V ev_c) rfl rfl vf_addI)) lv_nil)) (fun _ q => q) rfl)) (lv_cons (ov_V (ev_tup (lv_cons (ov_V (ev_a2 (ov_V (ev_a2 (ov_V ev_c) (ov_V ev_c) rfl rfl (vf_powI hw.1.2.1))) (ov_V ev_c) rfl rfl vf_addI)) (lv_cons (ov_V (ev_a2 (ov_V (ev_a2 (ov_V ev_c) (ov_V ev_c) rfl rfl (vf_powI hw.1.2.2))) (ov_V ev_c) rfl rfl vf_addI)) lv_nil)) (fun _ q => q) rfl)) (lv_cons (ov_V (ev_tup (lv_cons (ov_V ev_c) (lv_cons (ov_V ev_c) lv_nil)) (fun _ q => q) rfl)) (lv_cons (ov_V (ev_tup (lv_cons (ov_V ev_c) (lv_cons (ov_V ev_c) lv_nil)) (fun _ q => q) rfl)) (lv_cons (ov_V (ev_tup (lv_cons (ov_V ev_c) (lv_cons (ov_V ev_c) lv_nil)) (fun _ q => q) rfl)) (lv_cons (ov_V (ev_tup (lv_cons (ov_V ev_c) (lv_cons (ov_V ev_c) lv_nil)) (fun _ q => q) rfl)) lv_nil)))))))) (fun _ q => q) rfl) (n_st (s' := ⟨[some .deck, some (.dat (eL (eP eD eD) [((PyData.int (-(1 : Int))), (PyData.int (3 : Int))), ((PyData.int (4 : Int)), (PyData.int (3 : Int))), ((PyData.int (0 : Int)), (PyData.int (((10 : Int) ^ (12 : Int).toNat) + (1 : Int)))), ((PyData.int (((10 : Int) ^ (12 : Int).toNat) + (1 : Int))), (PyData.int (((10 : Int) ^ (12 : Int).toNat) + (2 : Int)))), ((PyData.bool true), (PyData.int (5 : Int))), ((PyData.int (0 : Int)), (PyData.bool true)), (.none, (PyData.int (2 : Int))), ((PyData.str ("0" : Str)), (PyData.int (3 : Int)))]))], n⟩) rfl (c_aft (s_ret (g_call (g_lcons (g_ov (ov_deck 0 rfl) (g_lcons (g_ov (ov_V (ev_a2 (ov_dat 1 rfl) (ov_V (ev_lst (lv_cons (ov_V (ev_tup (lv_cons (ov_V ev_c) (lv_cons (ov_V ev_c) lv_nil)) (fun _ q => q) rfl)) (lv_cons (ov_V (ev_tup (lv_cons (ov_V (ev_lst lv_nil (fun _ q => q) rfl)) (lv_cons (ov_V ev_dict0) lv_nil)) (fun _ q => q) rfl)) (lv_cons (ov_V (ev_tup (lv_cons (ov_V ev_c) (lv_cons (ov_V ev_c) lv_nil)) (fun _ q => q) rfl)) (lv_cons (ov_V (ev_tup (lv_cons (ov_V ev_c) (lv_cons (ov_V (ev_tup (lv_cons (ov_V ev_c) lv_nil) (fun _ q => q) rfl)) lv_nil)) (fun _ q => q) rfl)) (lv_cons (ov_V (ev_tup (lv_cons (ov_V ev_c) (lv_cons (ov_V (ev_neg (ov_V ev_c) rfl)) lv_nil)) (fun _ q => q) rfl)) (lv_cons (ov_V (ev_tup (lv_cons (ov_V ev_c) (lv_cons (ov_V ev_c) lv_nil)) (fun _ q => q) rfl)) (lv_cons (ov_V (ev_tup (lv_cons (ov_V ev_c) (lv_cons (ov_V (ev_a2 (ov_V ev_c) (ov_V ev_c) rfl rfl (vf_powI hw.2.1.1))) lv_nil)) (fun _ q => q) rfl)) lv_nil))))))) (fun _ q => q) rfl)) rfl rfl (vf_catL (f := (eP eD eD)) hw.2.1.2))) (g_lnil (g_rm (fun _ q => q) (okW__law_one (eP eD eD) ([((PyData.int (-(1 : Int))), (PyData.int (3 : Int))), ((PyData.int (4 : Int)), (PyData.int (3 : Int))), ((PyData.int (0 : Int)), (PyData.int (((10 : Int) ^ (12 : Int).toNat) + (1 : Int)))), ((PyData.int (((10 : Int) ^ (12 : Int).toNat) + (1 : Int))), (PyData.int (((10 : Int) ^ (12 : Int).toNat) + (2 : Int)))), ((PyData.bool true), (PyData.int (5 : Int))), ((PyData.int (0 : Int)), (PyData.bool true)), (.none, (PyData.int (2 : Int))), ((PyData.str ("0" : Str)), (PyData.int (3 : Int)))] ++ [((PyData.int (0 : Int)), (PyData.str ("1" : Str))), ((eL PyData.int []), (PyData.dict [])), ((PyData.int (1 : Int)), .none), ((PyData.int (0 : Int)), (eQ PyData.int [(5 : Int)])), ((PyData.int (0 : Int)), (PyData.int (-(1 : Int)))), ((PyData.bool false), (PyData.bool false)), ((PyData.int (5 : Int)), (PyData.int ((10 : Int) ^ (59 : Int).toNat)))]) hw.2.2 (fun r1_ n2_ hw3_ => (hk r1_ n2_ hw3_))))))))))))))))
theorem okW__law_bad_span {n : Nat} {Q : PyData → Nat → Prop} {X : XD → Nat → Prop} {K : (PyData × PyData) → Nat → Prop}  (hw : w__law_bad_span  n K) (hk : ∀ r k, K r k → Q (eP eD eD r) k) : F__law_bad_span [PyData.none] n Q X := by
  unfold F__law_bad_span
  exact okW__law_bad_span_b (xp := fun x s => X x s.n) (D := { nx := fun s => Q .none s.n, rt := Q })  hw hk

set_option maxHeartbeats 4000000 in
def w_law_s5 (k3_ : (Unit) → Nat → Prop) (b3 : (List (Int × Int))) (b4 : Str) (b9 : (List PyData)) (n : Nat) (K : Bool → Nat → Prop) : Prop := (((SeqAt.shaped (eL eD b9) = true ∧ SeqAt.shaped (eL eD [(eL PyData.str [("NoSpan" : Str)]), (eL PyData.str [("NoSpan" : Str)])]) = true) ∧ ((!(PyData.eqv (eL eD b9) (eL eD [(eL PyData.str [("NoSpan" : Str)]), (eL PyData.str [("NoSpan" : Str)])]))) = false → Shw (eQ (eP PyData.int PyData.int) b3))) ∧ ((((!(PyData.eqv (eL eD b9) (eL eD [(eL PyData.str [("NoSpan" : Str)]), (eL PyData.str [("NoSpan" : Str)])]))) || (!decide ((PyData.shown (eQ (eP PyData.int PyData.int) b3)) = b4))) = true → (K false n)) ∧ (((!(PyData.eqv (eL eD b9) (eL eD [(eL PyData.str [("NoSpan" : Str)]), (eL PyData.str [("NoSpan" : Str)])]))) || (!decide ((PyData.shown (eQ (eP PyData.int PyData.int) b3)) = b4))) = false → (k3_ () n))))
def nb_law_s5 (cc : Nat → Addr) : AST := (sIf (tOrA (tV (a2 vNe (oVar 9) (oV (aLst (lCons (oV (aLst (lCons (oV (aC (.str "NoSpan"))) lNil))) (lCons (oV (aLst (lCons (oV (aC (.str "NoSpan"))) lNil))) lNil)))))) (tV (a2 vNeS (oV (aBlt fRepr (lCons (oVar 3) lNil))) (oVar 4))))
    (sRet (aC (.bool false)))
    sNx)
set_option maxHeartbeats 4000000 in
theorem okW_law_s5 (cc : Nat → Addr) (hcc : Inj cc 10) {xp : XP} {D : AEnds} {n : Nat} {K : Bool → Nat → Prop} {N BK : AS → Prop} (k3_ : (Unit) → Nat → Prop) (b3 : (List (Int × Int))) (b4 : Str) (b9 : (List PyData)) (y2 : Option AV) (y5 : Option AV) (y6 : Option AV) (y7 : Option AV) (y8 : Option AV) (hw : w_law_s5 k3_ b3 b4 b9 n K) (hN5_ : ∀ w n s, (fun (w1_ : Unit) (n4_ : Nat) (s : AS) => ∃ q8_2 q8_3 q8_4 q8_5 q8_6 q8_7 q8_8 q8_9 : Option AV, s = ⟨[none, some .deck, q8_2, q8_3, q8_4, q8_5, q8_6, q8_7, q8_8, q8_9, none], n4_⟩) w n s → k3_ w n → N s) (hk : ∀ r k, K r k → D.rt (PyData.bool r) k) : nb_law_s5 cc xp { D with nx := N, ct := N, bk := BK } ⟨[none, some .deck, y2, some (.dat (eQ (eP PyData.int PyData.int) b3)), some (.dat (PyData.str b4)), y5, y6, y7, y8, some (.dat (eL eD b9)), none], n⟩ := by
  unfold w_law_s5 at hw; unfold nb_law_s5
  exact (s_if (g_tv (tv_or (tv_V (ev_a2 (ov_dat 9 rfl) (ov_V (ev_lst (lv_cons (ov_V (ev_lst (lv_cons (ov_V ev_c) lv_nil) (fun _ q => q) rfl)) (lv_cons (ov_V (ev_lst (lv_cons (ov_V ev_c) lv_nil) (fun _ q => q) rfl)) lv_nil)) (fun _ q => q) rfl)) rfl rfl (vf_neD hw.1.1))) (fun h30_ => (tv_V (ev_a2 (ov_V (ev_blt (lv_cons (ov_dat 3 rfl) lv_nil) (rsl_cons rfl (fun _ q => q)) (fv_repr (hw.1.2 h30_)))) (ov_dat 4 rfl) rfl rfl vf_neS)))) (g_ite (fun h31_ => (s_ret (g_ev ev_c (hk false n (hw.2.1 h31_))))) (fun h31_ => (c_pass (hN5_ () n _ ⟨y2, some (.dat (eQ (eP PyData.int PyData.int) b3)), some (.dat (PyData.str b4)), y5, y6, y7, y8, some (.dat (eL eD b9)), rfl⟩ (hw.2.2 h31_)))))))
set_option maxHeartbeats 4000000 in
def w_law_s4 (k3_ : (Unit) → Nat → Prop) (b3 : (List (Int × Int))) (b4 : Str) (b6 : PyData) (b7 : PyData) (n : Nat) (K : Bool → Nat → Prop) : Prop := (([(0 : Int), (1 : Int)].length ≤ sizeLine ∧ (∀ x28_ ∈ [(0 : Int), (1 : Int)], C__law_answer x28_ b3 b6 b7)) ∧ (w_law_s5 k3_ b3 b4 ([(0 : Int), (1 : Int)].map fun x28_ : Int => (v__law_answer x28_ b3 b6 b7)) n K))
def nb_law_s4 (cc : Nat → Addr) : AST := (sSeq (sSet 9 (aLc (iSeq (oV (aTup (lCons (oV (aC (.int 0))) (lCons (oV (aC (.int 1))) lNil))))) (bNm 10) tYesA (aCall0 [.dat, .dat, .dat, .dat] (calm (F__law_answer cc)) (lCons (oV (aVar 10)) (lCons (oV (aVar 3)) (lCons (oV (aVar 6)) (lCons (oV (aVar 7)) lNil))))) [10]))
    (sIf (tOrA (tV (a2 vNe (oVar 9) (oV (aLst (lCons (oV (aLst (lCons (oV (aC (.str "NoSpan"))) lNil))) (lCons (oV (aLst (lCons (oV (aC (.str "NoSpan"))) lNil))) lNil)))))) (tV (a2 vNeS (oV (aBlt fRepr (lCons (oVar 3) lNil))) (oVar 4))))
    (sRet (aC (.bool false)))
    sNx))
set_option maxHeartbeats 4000000 in
theorem okW_law_s4 (cc : Nat → Addr) (hcc : Inj cc 10) {xp : XP} {D : AEnds} {n : Nat} {K : Bool → Nat → Prop} {N BK : AS → Prop} (k3_ : (Unit) → Nat → Prop) (b3 : (List (Int × Int))) (b4 : Str) (b6 : PyData) (b7 : PyData) (y2 : Option AV) (y5 : Option AV) (y8 : Option AV) (y9 : Option AV) (hw : w_law_s4 k3_ b3 b4 b6 b7 n K) (hN5_ : ∀ w n s, (fun (w1_ : Unit) (n4_ : Nat) (s : AS) => ∃ q8_2 q8_3 q8_4 q8_5 q8_6 q8_7 q8_8 q8_9 : Option AV, s = ⟨[none, some .deck, q8_2, q8_3, q8_4, q8_5, q8_6, q8_7, q8_8, q8_9, none], n4_⟩) w n s → k3_ w n → N s) (hk : ∀ r k, K r k → D.rt (PyData.bool r) k) : nb_law_s4 cc xp { D with nx := N, ct := N, bk := BK } ⟨[none, some .deck, y2, some (.dat (eQ (eP PyData.int PyData.int) b3)), some (.dat (PyData.str b4)), y5, some (.dat b6), some (.dat b7), y8, y9, none], n⟩ := by
  unfold w_law_s4 at hw; unfold nb_law_s4
  exact (c_seq (s_set (g_ev (ev_lcM PyData.int eD (fun x28_ : Int => (v__law_answer x28_ b3 b6 b7)) (fun x28_ : Int => (⟨[none, some .deck, y2, some (.dat (eQ (eP PyData.int PyData.int) b3)), some (.dat (PyData.str b4)), y5, some (.dat b6), some (.dat b7), y8, y9, some (.dat (PyData.int x28_))], n⟩ : AS)) (fun x28_ : Int => (⟨[none, some .deck, y2, some (.dat (eQ (eP PyData.int PyData.int) b3)), some (.dat (PyData.str b4)), y5, some (.dat b6), some (.dat b7), y8, y9, some (.dat (PyData.int x28_))], n⟩ : AS)) (iv_valQ (f := PyData.int) (l := [(0 : Int), (1 : Int)]) (ov_V (ev_tup (lv_cons (ov_V ev_c) (lv_cons (ov_V ev_c) lv_nil)) (fun _ q => q) rfl))) hw.1.1 rfl True.intro (fun x28_ hx29_ => ((bv_nm 10).to rfl)) (fun x28_ hx29_ => (ev_call0 (lv_cons (ov_V (ev_var 10 rfl)) (lv_cons (ov_V (ev_var 3 rfl)) (lv_cons (ov_V (ev_var 6 rfl)) (lv_cons (ov_V (ev_var 7 rfl)) lv_nil)))) (fun _ q => q) (okV__law_answer cc hcc x28_ b3 b6 b7 (hw.1.2 x28_ hx29_)))) (fun _ _ => ⟨rfl, rfl⟩)) (n_st (s' := ⟨[none, some .deck, y2, some (.dat (eQ (eP PyData.int PyData.int) b3)), some (.dat (PyData.str b4)), y5, some (.dat b6), some (.dat b7), y8, some (.dat (eL eD ([(0 : Int), (1 : Int)].map fun x28_ : Int => (v__law_answer x28_ b3 b6 b7)))), none], n⟩) rfl (c_aft (okW_law_s5 cc hcc k3_ b3 b4 ([(0 : Int), (1 : Int)].map fun x28_ : Int => (v__law_answer x28_ b3 b6 b7)) (y2) (y5) (some (.dat b6)) (some (.dat b7)) (y8) hw.2 hN5_ hk))))))
set_option maxHeartbeats 4000000 in
def w_law_s3 (k3_ : (Unit) → Nat → Prop) (b3 : (List (Int × Int))) (b4 : Str) (n : Nat) (K : Bool → Nat → Prop) : Prop := (w__law_bad_span  n fun (r26_ : (PyData × PyData)) (n27_ : Nat) => (w_law_s4 k3_ b3 b4 r26_.1 r26_.2 n27_ K))
def nb_law_s3 (cc : Nat → Addr) : AST := (sSeq (sAsg (aCall [.deck] (calm F__law_bad_span) (lCons (oVar 1) lNil)) (bTup 2 (bCons (bNm 6) (bCons (bNm 7) bNil))))
    (sSeq (sSet 9 (aLc (iSeq (oV (aTup (lCons (oV (aC (.int 0))) (lCons (oV (aC (.int 1))) lNil))))) (bNm 10) tYesA (aCall0 [.dat, .dat, .dat, .dat] (calm (F__law_answer cc)) (lCons (oV (aVar 10)) (lCons (oV (aVar 3)) (lCons (oV (aVar 6)) (lCons (oV (aVar 7)) lNil))))) [10]))
    (sIf (tOrA (tV (a2 vNe (oVar 9) (oV (aLst (lCons (oV (aLst (lCons (oV (aC (.str "NoSpan"))) lNil))) (lCons (oV (aLst (lCons (oV (aC (.str "NoSpan"))) lNil))) lNil)))))) (tV (a2 vNeS (oV (aBlt fRepr (lCons (oVar 3) lNil))) (oVar 4))))
    (sRet (aC (.bool false)))
    sNx)))
set_option maxHeartbeats 4000000 in
theorem okW_law_s3 (cc : Nat → Addr) (hcc : Inj cc 10) {xp : XP} {D : AEnds} {n : Nat} {K : Bool → Nat → Prop} {N BK : AS → Prop} (k3_ : (Unit) → Nat → Prop) (b3 : (List (Int × Int))) (b4 : Str) (y2 : Option AV) (y5 : Option AV) (y6 : Option AV) (y7 : Option AV) (y8 : Option AV) (y9 : Option AV) (hw : w_law_s3 k3_ b3 b4 n K) (hN5_ : ∀ w n s, (fun (w1_ : Unit) (n4_ : Nat) (s : AS) => ∃ q8_2 q8_3 q8_4 q8_5 q8_6 q8_7 q8_8 q8_9 : Option AV, s = ⟨[none, some .deck, q8_2, q8_3, q8_4, q8_5, q8_6, q8_7, q8_8, q8_9, none], n4_⟩) w n s → k3_ w n → N s) (hk : ∀ r k, K r k → D.rt (PyData.bool r) k) : nb_law_s3 cc xp { D with nx := N, ct := N, bk := BK } ⟨[none, some .deck, y2, some (.dat (eQ (eP PyData.int PyData.int) b3)), some (.dat (PyData.str b4)), y5, y6, y7, y8, y9, none], n⟩ := by
  unfold w_law_s3 at hw; unfold nb_law_s3
  exact (c_seq (s_asg (g_call (g_lcons (g_ov (ov_deck 1 rfl) (g_lnil (g_rm (fun _ q => q) (okW__law_bad_span  hw (fun r26_ n27_ hw32_ => (g_bv (fun _ q => ⟨rfl, rfl, q⟩) (n_st (s' := ⟨[none, some .deck, y2, some (.dat (eQ (eP PyData.int PyData.int) b3)), some (.dat (PyData.str b4)), y5, some (.dat r26_.1), some (.dat r26_.2), y8, y9, none], n27_⟩) rfl (c_aft (okW_law_s4 cc hcc k3_ b3 b4 r26_.1 r26_.2 (y2) (y5) (y8) (y9) hw32_ hN5_ hk)))))))))))))
set_option maxHeartbeats 4000000 in
def w_law_s2 (k3_ : (Unit) → Nat → Prop) (b3 : (List (Int × Int))) (b4 : Str) (n : Nat) (K : Bool → Nat → Prop) : Prop := (Rg (3 : Int) ∧ (forW (fun (k13_ : (Unit) → Nat → Prop) (x12_ : Int) (w11_ : Unit) (n14_ : Nat) => (w__law_span b3 n14_ fun (r19_ : (Int × Int)) (n20_ : Nat) => (C__law_due b3 r19_.1 r19_.2 ∧ (([(0 : Int), (1 : Int)].length ≤ sizeLine ∧ (∀ x21_ ∈ [(0 : Int), (1 : Int)], C__law_answer x21_ b3 (PyData.int r19_.1) (PyData.int r19_.2))) ∧ (C__law_same (eL eD ([(0 : Int), (1 : Int)].map fun x21_ : Int => (v__law_answer x21_ b3 (PyData.int r19_.1) (PyData.int r19_.2)))) (eL (eL eD) [[(PyData.str ("returned" : Str)), (eQ (eP PyData.int (eP PyData.int PyData.int)) (v__law_due b3 r19_.1 r19_.2))], [(PyData.str ("returned" : Str)), (PyData.int (((v__law_due b3 r19_.1 r19_.2).length : Nat) : Int))]]) ∧ (((!(v__law_same (eL eD ([(0 : Int), (1 : Int)].map fun x21_ : Int => (v__law_answer x21_ b3 (PyData.int r19_.1) (PyData.int r19_.2)))) (eL (eL eD) [[(PyData.str ("returned" : Str)), (eQ (eP PyData.int (eP PyData.int PyData.int)) (v__law_due b3 r19_.1 r19_.2))], [(PyData.str ("returned" : Str)), (PyData.int (((v__law_due b3 r19_.1 r19_.2).length : Nat) : Int))]]))) = true → (K false n20_)) ∧ ((!(v__law_same (eL eD ([(0 : Int), (1 : Int)].map fun x21_ : Int => (v__law_answer x21_ b3 (PyData.int r19_.1) (PyData.int r19_.2)))) (eL (eL eD) [[(PyData.str ("returned" : Str)), (eQ (eP PyData.int (eP PyData.int PyData.int)) (v__law_due b3 r19_.1 r19_.2))], [(PyData.str ("returned" : Str)), (PyData.int (((v__law_due b3 r19_.1 r19_.2).length : Nat) : Int))]]))) = false → ((C__law_ranked b3 r19_.1 ∧ C__law_ranked b3 r19_.2 ∧ C__law_unlike (v__law_ranked b3 r19_.1) (v__law_ranked b3 r19_.2)) ∧ (((!(decide ((((v__law_unlike (v__law_ranked b3 r19_.1) (v__law_ranked b3 r19_.2)).length : Nat) : Int) = (((v__law_due b3 r19_.1 r19_.2).length : Nat) : Int)))) = true → (K false n20_)) ∧ ((!(decide ((((v__law_unlike (v__law_ranked b3 r19_.1) (v__law_ranked b3 r19_.2)).length : Nat) : Int) = (((v__law_due b3 r19_.1 r19_.2).length : Nat) : Int)))) = false → (k13_ () n20_))))))))))) (fun (w11_ : Unit) (n14_ : Nat) => (w_law_s3 k3_ b3 b4 n14_ K)) (irange 0 (3 : Int)) () n))
def nb_law_s2 (cc : Nat → Addr) : AST := (sSeq (sFor (iRange1 (lCons (oV (aC (.int 3))) lNil)) (bNm 5)
    (sSeq (sAsg (aCall [.deck, .dat] (calm F__law_span) (lCons (oVar 1) (lCons (oV (aVar 3)) lNil))) (bTup 2 (bCons (bNm 6) (bCons (bNm 7) bNil))))
    (sSeq (sSet 8 (aCall0 [.dat, .dat, .dat] (calm F__law_due) (lCons (oV (aVar 3)) (lCons (oV (aVar 6)) (lCons (oV (aVar 7)) lNil)))))
    (sSeq (sSet 9 (aLc (iSeq (oV (aTup (lCons (oV (aC (.int 0))) (lCons (oV (aC (.int 1))) lNil))))) (bNm 10) tYesA (aCall0 [.dat, .dat, .dat, .dat] (calm (F__law_answer cc)) (lCons (oV (aVar 10)) (lCons (oV (aVar 3)) (lCons (oV (aVar 6)) (lCons (oV (aVar 7)) lNil))))) [10]))
    (sSeq (sIf (tNotA (tTruA (oV (aCall0 [.dat, .dat] (calm (F__law_same 6)) (lCons (oV (aVar 9)) (lCons (oV (aLst (lCons (oV (aLst (lCons (oV (aC (.str "returned"))) (lCons (oV (aVar 8)) lNil)))) (lCons (oV (aLst (lCons (oV (aC (.str "returned"))) (lCons (oV (aBlt fLen (lCons (oVar 8) lNil))) lNil)))) lNil)))) lNil))))))
    (sRet (aC (.bool false)))
    sNx)
    (sIf (tV (a2 vNe (oV (aBlt fLen (lCons (oV (aCall0 [.dat, .dat] (calm F__law_unlike) (lCons (oV (aCall0 [.dat, .dat] (calm F__law_ranked) (lCons (oV (aVar 3)) (lCons (oV (aVar 6)) lNil)))) (lCons (oV (aCall0 [.dat, .dat] (calm F__law_ranked) (lCons (oV (aVar 3)) (lCons (oV (aVar 7)) lNil)))) lNil)))) lNil))) (oV (aBlt fLen (lCons (oVar 8) lNil)))))
    (sRet (aC (.bool false)))
    sNx))))))
    (sSeq (sAsg (aCall [.deck] (calm F__law_bad_span) (lCons (oVar 1) lNil)) (bTup 2 (bCons (bNm 6) (bCons (bNm 7) bNil))))
    (sSeq (sSet 9 (aLc (iSeq (oV (aTup (lCons (oV (aC (.int 0))) (lCons (oV (aC (.int 1))) lNil))))) (bNm 10) tYesA (aCall0 [.dat, .dat, .dat, .dat] (calm (F__law_answer cc)) (lCons (oV (aVar 10)) (lCons (oV (aVar 3)) (lCons (oV (aVar 6)) (lCons (oV (aVar 7)) lNil))))) [10]))
    (sIf (tOrA (tV (a2 vNe (oVar 9) (oV (aLst (lCons (oV (aLst (lCons (oV (aC (.str "NoSpan"))) lNil))) (lCons (oV (aLst (lCons (oV (aC (.str "NoSpan"))) lNil))) lNil)))))) (tV (a2 vNeS (oV (aBlt fRepr (lCons (oVar 3) lNil))) (oVar 4))))
    (sRet (aC (.bool false)))
    sNx))))
set_option maxHeartbeats 4000000 in
theorem okW_law_s2 (cc : Nat → Addr) (hcc : Inj cc 10) {xp : XP} {D : AEnds} {n : Nat} {K : Bool → Nat → Prop} {N BK : AS → Prop} (k3_ : (Unit) → Nat → Prop) (b3 : (List (Int × Int))) (b4 : Str) (y2 : Option AV) (y5 : Option AV) (y6 : Option AV) (y7 : Option AV) (y8 : Option AV) (y9 : Option AV) (hw : w_law_s2 k3_ b3 b4 n K) (hN5_ : ∀ w n s, (fun (w1_ : Unit) (n4_ : Nat) (s : AS) => ∃ q8_2 q8_3 q8_4 q8_5 q8_6 q8_7 q8_8 q8_9 : Option AV, s = ⟨[none, some .deck, q8_2, q8_3, q8_4, q8_5, q8_6, q8_7, q8_8, q8_9, none], n4_⟩) w n s → k3_ w n → N s) (hk : ∀ r k, K r k → D.rt (PyData.bool r) k) : nb_law_s2 cc xp { D with nx := N, ct := N, bk := BK } ⟨[none, some .deck, y2, some (.dat (eQ (eP PyData.int PyData.int) b3)), some (.dat (PyData.str b4)), y5, y6, y7, y8, y9, none], n⟩ := by
  unfold w_law_s2 at hw; unfold nb_law_s2
  exact (c_seq (s_for PyData.int (fun (w11_ : Unit) (n14_ : Nat) (s : AS) => ∃ q18_5 q18_6 q18_7 q18_8 q18_9 : Option AV, s = ⟨[none, some .deck, y2, some (.dat (eQ (eP PyData.int PyData.int) b3)), some (.dat (PyData.str b4)), q18_5, q18_6, q18_7, q18_8, q18_9, none], n14_⟩) (iv_range1 (lv_cons (ov_V ev_c) lv_nil) (fun _ q => q) hw.1) ⟨y5, y6, y7, y8, y9, rfl⟩ hw.2 (fun x12_ w11_ n14_ s_ k13_ N_ hi_ hw16_ hN15_ => by
    obtain ⟨q18_5, q18_6, q18_7, q18_8, q18_9, e_⟩ := hi_
    subst e_
    exact (g_bv ((bv_nm 5).to rfl) (c_seq (s_asg (g_call (g_lcons (g_ov (ov_deck 1 rfl) (g_lcons (g_ov (ov_V (ev_var 3 rfl)) (g_lnil (g_rm (fun _ q => q) (okW__law_span b3 hw16_ (fun r19_ n20_ hw25_ => (g_bv (fun _ q => ⟨rfl, rfl, q⟩) (n_st (s' := ⟨[none, some .deck, y2, some (.dat (eQ (eP PyData.int PyData.int) b3)), some (.dat (PyData.str b4)), some (.dat (PyData.int x12_)), some (.dat (PyData.int r19_.1)), some (.dat (PyData.int r19_.2)), q18_8, q18_9, none], n20_⟩) rfl (c_aft (c_seq (s_set (g_ev (ev_call0 (lv_cons (ov_V (ev_var 3 rfl)) (lv_cons (ov_V (ev_var 6 rfl)) (lv_cons (ov_V (ev_var 7 rfl)) lv_nil))) (fun _ q => q) (okV__law_due b3 r19_.1 r19_.2 hw25_.1)) (n_st (s' := ⟨[none, some .deck, y2, some (.dat (eQ (eP PyData.int PyData.int) b3)), some (.dat (PyData.str b4)), some (.dat (PyData.int x12_)), some (.dat (PyData.int r19_.1)), some (.dat (PyData.int r19_.2)), some (.dat (eQ (eP PyData.int (eP PyData.int PyData.int)) (v__law_due b3 r19_.1 r19_.2))), q18_9, none], n20_⟩) rfl (c_aft (c_seq (s_set (g_ev (ev_lcM PyData.int eD (fun x21_ : Int => (v__law_answer x21_ b3 (PyData.int r19_.1) (PyData.int r19_.2))) (fun x21_ : Int => (⟨[none, some .deck, y2, some (.dat (eQ (eP PyData.int PyData.int) b3)), some (.dat (PyData.str b4)), some (.dat (PyData.int x12_)), some (.dat (PyData.int r19_.1)), some (.dat (PyData.int r19_.2)), some (.dat (eQ (eP PyData.int (eP PyData.int PyData.int)) (v__law_due b3 r19_.1 r19_.2))), q18_9, some (.dat (PyData.int x21_))], n20_⟩ : AS)) (fun x21_ : Int => (⟨[none, some .deck, y2, some (.dat (eQ (eP PyData.int PyData.int) b3)), some (.dat (PyData.str b4)), some (.dat (PyData.int x12_)), some (.dat (PyData.int r19_.1)), some (.dat (PyData.int r19_.2)), some (.dat (eQ (eP PyData.int (eP PyData.int PyData.int)) (v__law_due b3 r19_.1 r19_.2))), q18_9, some (.dat (PyData.int x21_))], n20_⟩ : AS)) (iv_valQ (f := PyData.int) (l := [(0 : Int), (1 : Int)]) (ov_V (ev_tup (lv_cons (ov_V ev_c) (lv_cons (ov_V ev_c) lv_nil)) (fun _ q => q) rfl))) hw25_.2.1.1 rfl True.intro (fun x21_ hx22_ => ((bv_nm 10).to rfl)) (fun x21_ hx22_ => (ev_call0 (lv_cons (ov_V (ev_var 10 rfl)) (lv_cons (ov_V (ev_var 3 rfl)) (lv_cons (ov_V (ev_var 6 rfl)) (lv_cons (ov_V (ev_var 7 rfl)) lv_nil)))) (fun _ q => q) (okV__law_answer cc hcc x21_ b3 (PyData.int r19_.1) (PyData.int r19_.2) (hw25_.2.1.2 x21_ hx22_)))) (fun _ _ => ⟨rfl, rfl⟩)) (n_st (s' := ⟨[none, some .deck, y2, some (.dat (eQ (eP PyData.int PyData.int) b3)), some (.dat (PyData.str b4)), some (.dat (PyData.int x12_)), some (.dat (PyData.int r19_.1)), some (.dat (PyData.int r19_.2)), some (.dat (eQ (eP PyData.int (eP PyData.int PyData.int)) (v__law_due b3 r19_.1 r19_.2))), some (.dat (eL eD ([(0 : Int), (1 : Int)].map fun x21_ : Int => (v__law_answer x21_ b3 (PyData.int r19_.1) (PyData.int r19_.2))))), none], n20_⟩) rfl (c_aft (c_seq (s_if (g_tv (tv_not (tv_tru (ov_V (ev_call0 (lv_cons (ov_V (ev_var 9 rfl)) (lv_cons (ov_V (ev_lst (lv_cons (ov_V (ev_lst (lv_cons (ov_V ev_c) (lv_cons (ov_V (ev_var 8 rfl)) lv_nil)) (fun _ q => q) rfl)) (lv_cons (ov_V (ev_lst (lv_cons (ov_V ev_c) (lv_cons (ov_V (ev_blt (lv_cons (ov_dat 8 rfl) lv_nil) (rsl_cons rfl (fun _ q => q)) (fv_lenQ (f := (eP PyData.int (eP PyData.int PyData.int)))))) lv_nil)) (fun _ q => q) rfl)) lv_nil)) (fun _ q => q) rfl)) lv_nil)) (fun _ q => q) (okV__law_same (eL eD ([(0 : Int), (1 : Int)].map fun x21_ : Int => (v__law_answer x21_ b3 (PyData.int r19_.1) (PyData.int r19_.2)))) (eL (eL eD) [[(PyData.str ("returned" : Str)), (eQ (eP PyData.int (eP PyData.int PyData.int)) (v__law_due b3 r19_.1 r19_.2))], [(PyData.str ("returned" : Str)), (PyData.int (((v__law_due b3 r19_.1 r19_.2).length : Nat) : Int))]]) hw25_.2.2.1))) rfl tru_B)) (g_ite (fun h23_ => (s_ret (g_ev ev_c (hk false n20_ (hw25_.2.2.2.1 h23_))))) (fun h23_ => (c_pass (c_aft (s_if (g_tv (tv_V (ev_a2 (ov_V (ev_blt (lv_cons (ov_V (ev_call0 (lv_cons (ov_V (ev_call0 (lv_cons (ov_V (ev_var 3 rfl)) (lv_cons (ov_V (ev_var 6 rfl)) lv_nil)) (fun _ q => q) (okV__law_ranked b3 r19_.1 (hw25_.2.2.2.2 h23_).1.1))) (lv_cons (ov_V (ev_call0 (lv_cons (ov_V (ev_var 3 rfl)) (lv_cons (ov_V (ev_var 7 rfl)) lv_nil)) (fun _ q => q) (okV__law_ranked b3 r19_.2 (hw25_.2.2.2.2 h23_).1.2.1))) lv_nil)) (fun _ q => q) (okV__law_unlike (v__law_ranked b3 r19_.1) (v__law_ranked b3 r19_.2) (hw25_.2.2.2.2 h23_).1.2.2))) lv_nil) (rsl_cons rfl (fun _ q => q)) (fv_lenL (f := (eP PyData.int PyData.int))))) (ov_V (ev_blt (lv_cons (ov_dat 8 rfl) lv_nil) (rsl_cons rfl (fun _ q => q)) (fv_lenQ (f := (eP PyData.int (eP PyData.int PyData.int)))))) rfl rfl (vf_ne (f := PyData.int) lw_I (sh_I (k := 0)) rfl))) (g_ite (fun h24_ => (s_ret (g_ev ev_c (hk false n20_ ((hw25_.2.2.2.2 h23_).2.1 h24_))))) (fun h24_ => (c_pass (hN15_ () n20_ _ ⟨some (.dat (PyData.int x12_)), some (.dat (PyData.int r19_.1)), some (.dat (PyData.int r19_.2)), some (.dat (eQ (eP PyData.int (eP PyData.int PyData.int)) (v__law_due b3 r19_.1 r19_.2))), some (.dat (eL eD ([(0 : Int), (1 : Int)].map fun x21_ : Int => (v__law_answer x21_ b3 (PyData.int r19_.1) (PyData.int r19_.2))))), rfl⟩ ((hw25_.2.2.2.2 h23_).2.2 h24_)))))))))))))))))))))))))))))))))))))))) (fun w11_ n14_ s_ hi_ ha17_ => by
    obtain ⟨q18_5, q18_6, q18_7, q18_8, q18_9, e_⟩ := hi_
    subst e_
    exact (c_aft (okW_law_s3 cc hcc k3_ b3 b4 (y2) (q18_5) (q18_6) (q18_7) (q18_8) (q18_9) ha17_ hN5_ hk)))))
set_option maxHeartbeats 4000000 in
def w_law_s1 (k3_ : (Unit) → Nat → Prop) (b3 : (List (Int × Int))) (n : Nat) (K : Bool → Nat → Prop) : Prop := (Shw (eQ (eP PyData.int PyData.int) b3) ∧ (w_law_s2 k3_ b3 (PyData.shown (eQ (eP PyData.int PyData.int) b3)) n K))
def nb_law_s1 (cc : Nat → Addr) : AST := (sSeq (sSet 4 (aBlt fRepr (lCons (oVar 3) lNil)))
    (sSeq (sFor (iRange1 (lCons (oV (aC (.int 3))) lNil)) (bNm 5)
    (sSeq (sAsg (aCall [.deck, .dat] (calm F__law_span) (lCons (oVar 1) (lCons (oV (aVar 3)) lNil))) (bTup 2 (bCons (bNm 6) (bCons (bNm 7) bNil))))
    (sSeq (sSet 8 (aCall0 [.dat, .dat, .dat] (calm F__law_due) (lCons (oV (aVar 3)) (lCons (oV (aVar 6)) (lCons (oV (aVar 7)) lNil)))))
    (sSeq (sSet 9 (aLc (iSeq (oV (aTup (lCons (oV (aC (.int 0))) (lCons (oV (aC (.int 1))) lNil))))) (bNm 10) tYesA (aCall0 [.dat, .dat, .dat, .dat] (calm (F__law_answer cc)) (lCons (oV (aVar 10)) (lCons (oV (aVar 3)) (lCons (oV (aVar 6)) (lCons (oV (aVar 7)) lNil))))) [10]))
    (sSeq (sIf (tNotA (tTruA (oV (aCall0 [.dat, .dat] (calm (F__law_same 6)) (lCons (oV (aVar 9)) (lCons (oV (aLst (lCons (oV (aLst (lCons (oV (aC (.str "returned"))) (lCons (oV (aVar 8)) lNil)))) (lCons (oV (aLst (lCons (oV (aC (.str "returned"))) (lCons (oV (aBlt fLen (lCons (oVar 8) lNil))) lNil)))) lNil)))) lNil))))))
    (sRet (aC (.bool false)))
    sNx)
    (sIf (tV (a2 vNe (oV (aBlt fLen (lCons (oV (aCall0 [.dat, .dat] (calm F__law_unlike) (lCons (oV (aCall0 [.dat, .dat] (calm F__law_ranked) (lCons (oV (aVar 3)) (lCons (oV (aVar 6)) lNil)))) (lCons (oV (aCall0 [.dat, .dat] (calm F__law_ranked) (lCons (oV (aVar 3)) (lCons (oV (aVar 7)) lNil)))) lNil)))) lNil))) (oV (aBlt fLen (lCons (oVar 8) lNil)))))
    (sRet (aC (.bool false)))
    sNx))))))
    (sSeq (sAsg (aCall [.deck] (calm F__law_bad_span) (lCons (oVar 1) lNil)) (bTup 2 (bCons (bNm 6) (bCons (bNm 7) bNil))))
    (sSeq (sSet 9 (aLc (iSeq (oV (aTup (lCons (oV (aC (.int 0))) (lCons (oV (aC (.int 1))) lNil))))) (bNm 10) tYesA (aCall0 [.dat, .dat, .dat, .dat] (calm (F__law_answer cc)) (lCons (oV (aVar 10)) (lCons (oV (aVar 3)) (lCons (oV (aVar 6)) (lCons (oV (aVar 7)) lNil))))) [10]))
    (sIf (tOrA (tV (a2 vNe (oVar 9) (oV (aLst (lCons (oV (aLst (lCons (oV (aC (.str "NoSpan"))) lNil))) (lCons (oV (aLst (lCons (oV (aC (.str "NoSpan"))) lNil))) lNil)))))) (tV (a2 vNeS (oV (aBlt fRepr (lCons (oVar 3) lNil))) (oVar 4))))
    (sRet (aC (.bool false)))
    sNx)))))
set_option maxHeartbeats 4000000 in
theorem okW_law_s1 (cc : Nat → Addr) (hcc : Inj cc 10) {xp : XP} {D : AEnds} {n : Nat} {K : Bool → Nat → Prop} {N BK : AS → Prop} (k3_ : (Unit) → Nat → Prop) (b3 : (List (Int × Int))) (y2 : Option AV) (y4 : Option AV) (y5 : Option AV) (y6 : Option AV) (y7 : Option AV) (y8 : Option AV) (y9 : Option AV) (hw : w_law_s1 k3_ b3 n K) (hN5_ : ∀ w n s, (fun (w1_ : Unit) (n4_ : Nat) (s : AS) => ∃ q8_2 q8_3 q8_4 q8_5 q8_6 q8_7 q8_8 q8_9 : Option AV, s = ⟨[none, some .deck, q8_2, q8_3, q8_4, q8_5, q8_6, q8_7, q8_8, q8_9, none], n4_⟩) w n s → k3_ w n → N s) (hk : ∀ r k, K r k → D.rt (PyData.bool r) k) : nb_law_s1 cc xp { D with nx := N, ct := N, bk := BK } ⟨[none, some .deck, y2, some (.dat (eQ (eP PyData.int PyData.int) b3)), y4, y5, y6, y7, y8, y9, none], n⟩ := by
  unfold w_law_s1 at hw; unfold nb_law_s1
  exact (c_seq (s_set (g_ev (ev_blt (lv_cons (ov_dat 3 rfl) lv_nil) (rsl_cons rfl (fun _ q => q)) (fv_repr hw.1)) (n_st (s' := ⟨[none, some .deck, y2, some (.dat (eQ (eP PyData.int PyData.int) b3)), some (.dat (PyData.str (PyData.shown (eQ (eP PyData.int PyData.int) b3)))), y5, y6, y7, y8, y9, none], n⟩) rfl (c_aft (okW_law_s2 cc hcc k3_ b3 (PyData.shown (eQ (eP PyData.int PyData.int) b3)) (y2) (y5) (y6) (y7) (y8) (y9) hw.2 hN5_ hk))))))
set_option maxHeartbeats 4000000 in
def w_law  (n : Nat) (K : Bool → Nat → Prop) : Prop := (Rg (6 : Int) ∧ (forW (fun (k3_ : (Unit) → Nat → Prop) (x2_ : Int) (w1_ : Unit) (n4_ : Nat) => (w__law_line (8 : Int) n4_ fun (r9_ : (List (Int × Int))) (n10_ : Nat) => (w_law_s1 k3_ r9_ n10_ K))) (fun (w1_ : Unit) (n4_ : Nat) => (K true n4_)) (irange 0 (6 : Int)) () n))
def nb_law (cc : Nat → Addr) : AST := (sSeq (sFor (iRange1 (lCons (oV (aC (.int 6))) lNil)) (bNm 2)
    (sSeq (sSet 3 (aCall [.deck, .dat] (calm F__law_line) (lCons (oVar 1) (lCons (oV (aC (.int 8))) lNil))))
    (sSeq (sSet 4 (aBlt fRepr (lCons (oVar 3) lNil)))
    (sSeq (sFor (iRange1 (lCons (oV (aC (.int 3))) lNil)) (bNm 5)
    (sSeq (sAsg (aCall [.deck, .dat] (calm F__law_span) (lCons (oVar 1) (lCons (oV (aVar 3)) lNil))) (bTup 2 (bCons (bNm 6) (bCons (bNm 7) bNil))))
    (sSeq (sSet 8 (aCall0 [.dat, .dat, .dat] (calm F__law_due) (lCons (oV (aVar 3)) (lCons (oV (aVar 6)) (lCons (oV (aVar 7)) lNil)))))
    (sSeq (sSet 9 (aLc (iSeq (oV (aTup (lCons (oV (aC (.int 0))) (lCons (oV (aC (.int 1))) lNil))))) (bNm 10) tYesA (aCall0 [.dat, .dat, .dat, .dat] (calm (F__law_answer cc)) (lCons (oV (aVar 10)) (lCons (oV (aVar 3)) (lCons (oV (aVar 6)) (lCons (oV (aVar 7)) lNil))))) [10]))
    (sSeq (sIf (tNotA (tTruA (oV (aCall0 [.dat, .dat] (calm (F__law_same 6)) (lCons (oV (aVar 9)) (lCons (oV (aLst (lCons (oV (aLst (lCons (oV (aC (.str "returned"))) (lCons (oV (aVar 8)) lNil)))) (lCons (oV (aLst (lCons (oV (aC (.str "returned"))) (lCons (oV (aBlt fLen (lCons (oVar 8) lNil))) lNil)))) lNil)))) lNil))))))
    (sRet (aC (.bool false)))
    sNx)
    (sIf (tV (a2 vNe (oV (aBlt fLen (lCons (oV (aCall0 [.dat, .dat] (calm F__law_unlike) (lCons (oV (aCall0 [.dat, .dat] (calm F__law_ranked) (lCons (oV (aVar 3)) (lCons (oV (aVar 6)) lNil)))) (lCons (oV (aCall0 [.dat, .dat] (calm F__law_ranked) (lCons (oV (aVar 3)) (lCons (oV (aVar 7)) lNil)))) lNil)))) lNil))) (oV (aBlt fLen (lCons (oVar 8) lNil)))))
    (sRet (aC (.bool false)))
    sNx))))))
    (sSeq (sAsg (aCall [.deck] (calm F__law_bad_span) (lCons (oVar 1) lNil)) (bTup 2 (bCons (bNm 6) (bCons (bNm 7) bNil))))
    (sSeq (sSet 9 (aLc (iSeq (oV (aTup (lCons (oV (aC (.int 0))) (lCons (oV (aC (.int 1))) lNil))))) (bNm 10) tYesA (aCall0 [.dat, .dat, .dat, .dat] (calm (F__law_answer cc)) (lCons (oV (aVar 10)) (lCons (oV (aVar 3)) (lCons (oV (aVar 6)) (lCons (oV (aVar 7)) lNil))))) [10]))
    (sIf (tOrA (tV (a2 vNe (oVar 9) (oV (aLst (lCons (oV (aLst (lCons (oV (aC (.str "NoSpan"))) lNil))) (lCons (oV (aLst (lCons (oV (aC (.str "NoSpan"))) lNil))) lNil)))))) (tV (a2 vNeS (oV (aBlt fRepr (lCons (oVar 3) lNil))) (oVar 4))))
    (sRet (aC (.bool false)))
    sNx)))))))
    (sRet (aC (.bool true))))
set_option maxHeartbeats 4000000 in
theorem okW_law_b (cc : Nat → Addr) (hcc : Inj cc 10) {xp : XP} {D : AEnds} {n : Nat} {K : Bool → Nat → Prop}   (hw : w_law  n K) (hk : ∀ r k, K r k → D.rt (PyData.bool r) k) : nb_law cc xp D ⟨[none, some .deck, none, none, none, none, none, none, none, none, none], n⟩ := by
  unfold w_law at hw; unfold nb_law
  exact (c_seq (s_for PyData.int (fun (w1_ : Unit) (n4_ : Nat) (s : AS) => ∃ q8_2 q8_3 q8_4 q8_5 q8_6 q8_7 q8_8 q8_9 : Option AV, s = ⟨[none, some .deck, q8_2, q8_3, q8_4, q8_5, q8_6, q8_7, q8_8, q8_9, none], n4_⟩) (iv_range1 (lv_cons (ov_V ev_c) lv_nil) (fun _ q => q) hw.1) ⟨none, none, none, none, none, none, none, none, rfl⟩ hw.2 (fun x2_ w1_ n4_ s_ k3_ N_ hi_ hw6_ hN5_ => by
    obtain ⟨q8_2, q8_3, q8_4, q8_5, q8_6, q8_7, q8_8, q8_9, e_⟩ := hi_
    subst e_
    exact (g_bv ((bv_nm 2).to rfl) (c_seq (s_set (g_call (g_lcons (g_ov (ov_deck 1 rfl) (g_lcons (g_ov (ov_V ev_c) (g_lnil (g_rm (fun _ q => q) (okW__law_line (8 : Int) hw6_ (fun r9_ n10_ hw33_ => (n_st (s' := ⟨[none, some .deck, some (.dat (PyData.int x2_)), some (.dat (eQ (eP PyData.int PyData.int) r9_)), q8_4, q8_5, q8_6, q8_7, q8_8, q8_9, none], n10_⟩) rfl (c_aft (okW_law_s1 cc hcc k3_ r9_ (some (.dat (PyData.int x2_))) (q8_4) (q8_5) (q8_6) (q8_7) (q8_8) (q8_9) hw33_ hN5_ hk)))))))))))))))) (fun w1_ n4_ s_ hi_ ha7_ => by
    obtain ⟨q8_2, q8_3, q8_4, q8_5, q8_6, q8_7, q8_8, q8_9, e_⟩ := hi_
    subst e_
    exact (c_aft (s_ret (g_ev ev_c (hk true n4_ ha7_)))))))
theorem law_of (cc : Nat → Addr) (hcc : Inj cc 10) (hw : w_law 0 fun r _ => r = true) : lawF 9 (b_law cc F__law_line F__law_span F__law_due (F__law_answer cc) (F__law_same 6) F__law_unlike F__law_ranked F__law_bad_span) := by
  unfold lawF
  exact okW_law_b cc hcc (D := { nx := fun _ => False, rt := fun r _ => r = .bool true }) hw (fun r k e => by rw [e])
end TR
namespace TR
open PySem PySem.Spec PyProof.Rows L2
theorem wf_rk {n : Nat} {rk : List Int} (r : Rank n rk) (hn : n ≤ 8) : Wf 16 1 (.tuple (rk.map PyData.int)) ∧ sz (.tuple (rk.map PyData.int)) ≤ 9 := by
  constructor
  · refine Wf.tup (D := 0) (by rw [List.length_map, r.len]; omega) fun e he => ?_
    obtain ⟨i, hi, rfl⟩ := List.mem_map.mp he
    obtain ⟨b0, b1⟩ := r.bnd hi
    show i.natAbs ≤ 10 ^ 59 + 16
    omega
  · show 1 + szAll (rk.map PyData.int) ≤ 9
    rw [szAll_ints, r.len]
    omega
theorem wf_two {e : PyData} {w : Int} {L D : Nat} (h : Wf L D e) (hL : 2 ≤ L) (hw : w.natAbs ≤ 10 ^ 59) : Wf L (D + 1) (.tuple [e, .int w]) := by
  refine Wf.tup hL fun x hx => ?_
  simp only [List.mem_cons, List.not_mem_nil, or_false] at hx
  rcases hx with rfl | rfl
  · exact h
  · exact Wf.leaf (show w.natAbs ≤ 10 ^ 59 + L by omega)
theorem wf_one {e : PyData} {L D : Nat} (h : Wf L D e) (hL : 1 ≤ L) : Wf L (D + 1) (.tuple [e]) := by
  refine Wf.tup hL fun x hx => ?_
  rw [List.mem_singleton] at hx
  rw [hx]
  exact h
theorem wf_pair {e : PyData} {w : Int} {L D : Nat} (h : Wf L D e) (hL : 2 ≤ L) (hw : w.natAbs ≤ 10 ^ 59) : Wf L (D + 1) (.tuple [.int w, e]) := by
  refine Wf.tup hL fun x hx => ?_
  simp only [List.mem_cons, List.not_mem_nil, or_false] at hx
  rcases hx with rfl | rfl
  · exact Wf.leaf (show w.natAbs ≤ 10 ^ 59 + L by omega)
  · exact h
theorem big59 {i : Int} (h : i.natAbs ≤ 1000000000001) : i.natAbs ≤ 10 ^ 59 := Nat.le_trans h (by decide)
theorem wf_tas {n : Nat} {t : List Int × Int} (r : Rank n t.1) (hn : n ≤ 8) (h1 : 1 ≤ t.2) (h2 : t.2 ≤ 1000000000000) : Wf 16 2 (tasD t) ∧ sz (tasD t) ≤ 11 := by
  obtain ⟨a, b⟩ := wf_rk r hn
  refine ⟨wf_two a (by decide) (big59 (by omega)), ?_⟩
  show 1 + (sz (.tuple (t.1.map PyData.int)) + (1 + 0)) ≤ 11
  omega
theorem wf_tast {n M : Nat} {ts : Tas} (wf : WfT 8 M n ts) : (∀ e ∈ ts.map tasD, Wf 16 2 e) ∧ szAll (ts.map tasD) ≤ ts.length * 11 := by
  have key : ∀ e ∈ ts.map tasD, Wf 16 2 e ∧ sz e ≤ 11 := fun e he => by
    obtain ⟨t, ht, rfl⟩ := List.mem_map.mp he
    obtain ⟨r, w1, w2⟩ := wf.all t ht
    exact wf_tas r wf.nD w1 w2
  refine ⟨fun e he => (key e he).1, ?_⟩
  have := szAll_le (ts.map tasD) fun e he => (key e he).2
  rw [List.length_map] at this
  exact this
theorem wf_tab {n : Nat} {ts : Tas} (wf : WfT 8 16 n ts) : Wf 16 4 (tabD n ts) ∧ sz (tabD n ts) ≤ 179 := by
  obtain ⟨a, b⟩ := wf_tast wf
  have h1 := wf.lM
  have h2 := wf.nD
  refine ⟨wf_pair (Wf.tup (by rw [List.length_map]; exact h1) a) (by decide) (big59 (by omega)), ?_⟩
  show 1 + (1 + ((1 + szAll (ts.map tasD)) + 0)) ≤ 179
  have : ts.length * 11 ≤ 16 * 11 := Nat.mul_le_mul_right _ h1
  omega
theorem shw_of {d : PyData} {L D S : Nat} (h : Wf L D d) (hL : L ≤ 41) (hD : D ≤ 50) (hs : sz d ≤ S) (hS : S ≤ 20000) : Shw d := by
  obtain ⟨a, b, c⟩ := h.shownS hL
  exact ⟨b, by omega, shown_fits a hs hS⟩
theorem shw_tab {n : Nat} {ts : Tas} (wf : WfT 8 16 n ts) : Shw (tabD n ts) := by
  obtain ⟨a, b⟩ := wf_tab wf
  exact shw_of a (by decide) (by decide) b (by decide)
end TR
namespace TR
open PySem PySem.Spec PyProof.Rows L2
abbrev pI : Int × Int → PyData := eP PyData.int PyData.int
def leP (p q : Int × Int) : Bool := decide (p.1 < q.1 ∨ (p.1 = q.1 ∧ p.2 ≤ q.2))
theorem leP_eq : (fun a b : Int × Int => PySem.W.dataLe false (fun d => d) (pI a) (pI b)) = leP := by
  have h := PySem.W.dataLe_ii (β := Int × Int) (fun p => p.1) (fun p => p.2)
  funext a b
  exact congrFun (congrFun h a) b
theorem srtP (l : List (Int × Int)) : srtN pI l = l.mergeSort leP := by
  show l.mergeSort (fun a b : Int × Int => PySem.W.dataLe false (fun d => d) (pI a) (pI b)) = _
  rw [leP_eq]
theorem leP_trans (a b c : Int × Int) (h1 : leP a b = true) (h2 : leP b c = true) : leP a c = true := by
  unfold leP at *; simp only [decide_eq_true_eq] at *; omega
theorem leP_total (a b : Int × Int) : (leP a b || leP b a) = true := by
  unfold leP; simp only [Bool.or_eq_true, decide_eq_true_eq]; omega
theorem leP_anti {a b : Int × Int} (h1 : leP a b = true) (h2 : leP b a = true) : a = b := by
  unfold leP at *; simp only [decide_eq_true_eq] at *
  exact Prod.ext (by omega) (by omega)
theorem srtP_sorted (l : List (Int × Int)) : (srtN pI l).Pairwise fun a b => leP a b = true := by
  rw [srtP]; exact List.pairwise_mergeSort (le := leP) leP_trans leP_total l
theorem srtP_perm (l : List (Int × Int)) : (srtN pI l).Perm l := List.mergeSort_perm _ _
theorem sort_uniq {α : Type} {r : α → α → Prop} (anti : ∀ a b, r a b → r b a → a = b) : ∀ {a b : List α}, a.Perm b → a.Pairwise r → b.Pairwise r → a = b
  | [], _, p, _, _ => p.nil_eq
  | x :: a, [], p, _, _ => absurd p.length_eq (by simp)
  | x :: a, y :: b, p, ha, hb => by
    have hx : x = y := by
      have m1 : x ∈ y :: b := p.mem_iff.mp List.mem_cons_self
      have m2 : y ∈ x :: a := p.mem_iff.mpr List.mem_cons_self
      rcases List.mem_cons.mp m1 with e | m1
      · exact e
      rcases List.mem_cons.mp m2 with e | m2
      · exact e.symm
      exact anti x y ((List.pairwise_cons.mp ha).1 y m2) ((List.pairwise_cons.mp hb).1 x m1)
    subst hx
    rw [sort_uniq anti p.cons_inv (List.pairwise_cons.mp ha).2 (List.pairwise_cons.mp hb).2]
theorem srtP_filter (q : Int × Int → Bool) (l m : List (Int × Int)) (h : (l.filter q).Perm m) : (srtN pI l).filter q = srtN pI m :=
  sort_uniq (fun _ _ => leP_anti) (((srtP_perm l).filter q).trans (h.trans (srtP_perm m).symm)) ((srtP_sorted l).sublist List.filter_sublist) (srtP_sorted m)
/-- rows of two as pairs -/
abbrev l2 (p : Int × Int) : List Int := [p.1, p.2]
theorem srt_l2 (l : List (Int × Int)) : srtN (eQ PyData.int) (l.map l2) = (srtN pI l).map l2 := by
  unfold srtN
  exact (List.map_mergeSort (f := l2) (l := l) fun a _ b _ => rfl).symm
theorem alk_pp (a b : Int × Int) : PySem.W.alike (pI a) (pI b) = true := by simp [pI, PySem.W.alike, PySem.W.alikeAll]
theorem srtOk_p (l : List (Int × Int)) : SrtOk (l.map pI) := by
  refine ⟨?_, ?_, fun d hd => ?_⟩
  · exact PySem.W.AllAlike.of alk_pp
  · exact PySem.W.Sortable.tuples fun b => ⟨_, _, rfl⟩
  · obtain ⟨p, _, rfl⟩ := List.mem_map.mp hd
    show PyData.depthAll [.int p.1, .int p.2] + 1 ≤ 50
    simp [PyData.depthAll, PyData.depth]
end TR
namespace TR
open PySem PySem.Spec PyProof.Rows L2
theorem forW_all {α : Type} {body : (Unit → Nat → Prop) → α → Unit → Nat → Prop} {after : Unit → Nat → Prop} (P : Nat → Prop) (ha : ∀ n, P n → after () n) : ∀ (l : List α) (n : Nat), P n → (∀ x ∈ l, ∀ k n, P n → (∀ n', P n' → k () n') → body k x () n) → forW body after l () n
  | [], n, h, _ => ha n h
  | x :: l, n, h, hb => hb x List.mem_cons_self _ n h fun n' hn => forW_all P ha l n' hn fun y hy => hb y (List.mem_cons_of_mem _ hy)
theorem forW_m {α : Type} {body : (Unit → Nat → Prop) → α → Unit → Nat → Prop} {after : Unit → Nat → Prop} (c B : Nat) (ha : ∀ n, n ≤ B → after () n) : ∀ (l : List α) (n : Nat), n + c * l.length ≤ B → (∀ x ∈ l, ∀ k n, n + c ≤ B → (∀ n', n' ≤ n + c → k () n') → body k x () n) → forW body after l () n
  | [], n, h, _ => ha n (by simpa using h)
  | x :: l, n, h, hb => by
    rw [List.length_cons, Nat.mul_add, Nat.mul_one] at h
    exact hb x List.mem_cons_self _ n (by omega) fun n' hn => forW_m c B ha l n' (by omega) fun y hy => hb y (List.mem_cons_of_mem _ hy)
theorem sum_map_le {α : Type} {f : α → Nat} (B : Nat) : ∀ (l : List α), (∀ x ∈ l, f x ≤ B) → (l.map f).sum ≤ l.length * B
  | [], _ => by simp
  | x :: l, h => by
    have ih := sum_map_le B l fun y hy => h y (List.mem_cons_of_mem _ hy)
    have := h x List.mem_cons_self
    rw [List.map_cons, List.sum_cons, List.length_cons, Nat.succ_mul]
    omega
theorem rgOk_small {i j : Int} (h0 : 0 ≤ i) (h2 : j ≤ 1000) (h1 : i ≤ 1000 := by decide) (h3 : 0 ≤ j := by omega) : RgOk i j := ⟨by omega, by omega, by omega, by omega, by omega⟩
theorem rg_small {j : Int} (h : 0 ≤ j ∧ j ≤ 1000) : Rg j := ⟨by omega, by omega⟩
theorem wfT_add {D m : Nat} {ts : Tas} (wf : WfT D 16 m ts) (hl : ts.length ≠ 16) {r : List Int} {w : Int} (hr : Rank m r) (h1 : 1 ≤ w) (h2 : w ≤ 1000000000000) : WfT D 16 m (ts ++ [(r, w)]) := by
  have hM := wf.lM
  refine ⟨wf.n1, wf.nD, by rw [List.length_append]; simp, by rw [List.length_append, List.length_cons, List.length_nil]; omega, fun t ht => ?_⟩
  rcases List.mem_append.mp ht with h | h
  · exact wf.all t h
  · rw [List.mem_singleton.mp h]; exact ⟨hr, h1, h2⟩
end TR
namespace TR
open PySem PySem.Spec PyProof.Rows L2
abbrev tb (m : Nat) (ts : Tas) : Int × List (List Int × Int) := ((m : Int), ts)
theorem kl {a b : Nat} (h : Nat.blt a b = true) : a < b := Nat.le_of_ble_eq_true h
theorem ll {a b : Nat} (h : Nat.ble a b = true) : a ≤ b := Nat.le_of_ble_eq_true h
theorem irange_rng (n : Nat) : irange 0 (n : Int) = rng n := by
  unfold irange rng
  rw [show ((n : Int) - 0).toNat = n by omega]
  exact List.map_congr_left fun k _ => by omega
theorem sort_rank {n : Nat} {r : List Int} : isort r = irange 0 (n : Int) ↔ Rank n r := by
  rw [irange_rng]
  constructor
  · intro h
    have := isort_perm r
    rw [h] at this
    exact this.symm
  · intro h
    have hs : (rng n).Pairwise (· ≤ ·) := by
      have : ∀ n, (rng n).Pairwise (· ≤ ·) := fun n => by
        unfold rng
        rw [List.pairwise_map]
        exact List.pairwise_lt_range.imp fun h => by omega
      exact this n
    exact sorted_uniq ((isort_perm r).trans h) (isort_sorted r) hs
theorem ints_of_whole : ∀ {ds : List PyData}, (∀ d ∈ ds, d = .int (dI d)) → ds = (ds.map dI).map .int
  | [], _ => rfl
  | d :: ds, h => by
    rw [List.map_cons, List.map_cons, ← h d List.mem_cons_self, ← ints_of_whole fun x hx => h x (List.mem_cons_of_mem _ hx)]
theorem dI_ints (r : List Int) : (r.map PyData.int).map dI = r := by
  rw [List.map_map]; exact List.map_id' r
theorem tup_of : ∀ {d : PyData}, isTup d = true → d = .tuple (items d)
  | .tuple _, _ => rfl
/-- an int, within -/
def wholeB (d : PyData) : Bool := isNum d && !isBoo d
theorem wholeB_eq (d : PyData) : wholeB d = true → d = .int (dI d) := by
  cases d <;> intro h <;> first | rfl | cases h
def withinB (d : PyData) (a b : Int) : Bool := wholeB d && (decide (a ≤ dI d) && decide (dI d ≤ b))
theorem withinB_iff {d : PyData} {a b : Int} : withinB d a b = true ↔ ∃ i, d = .int i ∧ a ≤ i ∧ i ≤ b := by
  unfold withinB
  constructor
  · intro h
    rw [Bool.and_eq_true, Bool.and_eq_true, decide_eq_true_eq, decide_eq_true_eq] at h
    exact ⟨dI d, wholeB_eq d h.1, h.2⟩
  · rintro ⟨i, rfl, h⟩
    show (true && (decide (a ≤ i) && decide (i ≤ b))) = true
    simp [h]
def orderB (n : Int) (d : PyData) : Bool := bif (!isTup d || !((items d).map fun x => wholeB x).all id) then false else decide (isort (dQ dI d) = irange 0 n)
theorem all_map {α : Type} (p : α → Bool) (l : List α) : (l.map p).all id = l.all p := by
  rw [List.all_map]; rfl
theorem orderB_iff {n : Nat} {d : PyData} : orderB n d = true ↔ ∃ r, d = eQ .int r ∧ Rank n r := by
  unfold orderB
  rw [all_map]
  constructor
  · intro h
    cases ht : isTup d with
    | false => rw [ht] at h; cases h
    | true =>
      rw [ht] at h
      cases ha : (items d).all wholeB with
      | false =>
        have e : ((items d).all fun x => wholeB x) = false := ha
        rw [e] at h; cases h
      | true =>
        have e : ((items d).all fun x => wholeB x) = true := ha
        rw [e] at h
        have h : decide (isort (dQ dI d) = irange 0 (n : Int)) = true := h
        rw [decide_eq_true_eq] at h
        have e1 := ints_of_whole fun x hx => wholeB_eq x (List.all_eq_true.mp ha x hx)
        refine ⟨dQ dI d, ?_, sort_rank.mp h⟩
        rw [tup_of ht]
        show PyData.tuple (items d) = .tuple (((items d).map dI).map .int)
        rw [← e1]
  · rintro ⟨r, rfl, hr⟩
    have e1 : ((items (eQ PyData.int r)).all fun x => wholeB x) = true := List.all_eq_true.mpr fun x hx => by
      obtain ⟨i, _, rfl⟩ := List.mem_map.mp hx
      rfl
    rw [e1]
    show decide (isort ((r.map PyData.int).map dI) = irange 0 (n : Int)) = true
    rw [dI_ints]
    exact decide_eq_true (sort_rank.mpr hr)
theorem forV_map {α β ρ : Type} (g : α → β) (after : List β → ρ) : ∀ (l : List α) (w : List β), forV (fun (k : List β → ρ) (x : α) (w : List β) => k (w ++ [g x])) after l w = after (w ++ l.map g)
  | [], w => by show after w = _; rw [List.map_nil, List.append_nil]
  | x :: l, w => by
    show forV _ after l (w ++ [g x]) = _
    rw [forV_map g after l, List.map_cons, List.append_assoc]; rfl
theorem forV_C {α σ : Type} {body : (σ → Prop) → α → σ → Prop} {after : σ → Prop} (Inv : List α → σ → Prop) (ha : ∀ w, Inv [] w → after w) : ∀ (l : List α) (w : σ), Inv l w → (∀ x l' w k, (∃ l0, l = l0 ++ x :: l') → Inv (x :: l') w → (∀ w', Inv l' w' → k w') → body k x w) → forV body after l w
  | [], w, h, _ => ha w h
  | x :: l, w, h, hb => hb x l w _ ⟨[], rfl⟩ h fun w' h' => forV_C Inv ha l w' h' fun y l' w k ⟨l0, e⟩ hi hk => hb y l' w k ⟨x :: l0, by rw [e]; rfl⟩ hi hk
theorem cutN_to {α : Type} (l : List α) {j : Nat} (h : j ≤ l.length) : cutN l none (some (j : Int)) = l.take j := by
  unfold cutN
  have e : HT.sIx l.length l.length (some (j : Int)) = j := by
    show (if (j : Int) < 0 then ((j : Int) + (l.length : Int)).toNat else min (j : Int).toNat l.length) = j
    rw [if_neg (by omega)]; omega
  have e0 : HT.sIx l.length 0 none = 0 := rfl
  rw [e, e0]; rfl
theorem cutN_from {α : Type} (l : List α) {j : Nat} (h : j ≤ l.length) : cutN l (some (j : Int)) none = l.drop j := by
  unfold cutN
  have e : HT.sIx l.length 0 (some (j : Int)) = j := by
    show (if (j : Int) < 0 then ((j : Int) + (l.length : Int)).toNat else min (j : Int).toNat l.length) = j
    rw [if_neg (by omega)]; omega
  have e0 : HT.sIx l.length l.length none = l.length := rfl
  rw [e, e0, List.take_of_length_le (by rw [List.length_drop]; exact Nat.le_refl _)]
theorem enN_len {α : Type} (l : List α) : (enN l).length = l.length := by unfold enN; rw [List.length_map, List.length_zipIdx]
theorem enN_but {α : Type} : ∀ (l : List α) (j : Nat), ((enN l).filter fun p => !(p.1 == (j : Int))).map (·.2) = l.take j ++ l.drop (j + 1) := by
  have key : ∀ (l : List α) (k j : Nat), ((l.zipIdx k).filter fun p => !(((p.2 : Nat) : Int) == (j : Int))).map (·.1) = if k ≤ j then l.take (j - k) ++ l.drop (j - k + 1) else l := by
    intro l
    induction l with
    | nil => intro k j; split <;> simp
    | cons x l ih =>
      intro k j
      rw [List.zipIdx_cons, List.filter_cons]
      by_cases e : k = j
      · subst e
        have : (!((k : Int) == (k : Int))) = false := by simp
        simp only [this, Bool.false_eq_true, if_false]
        rw [ih, if_neg (by omega), if_pos (Nat.le_refl _)]
        simp
      · have : (!((k : Int) == (j : Int))) = true := by simp; omega
        simp only [this, if_true, List.map_cons]
        rw [ih]
        by_cases h : k < j
        · rw [if_pos (by omega), if_pos (by omega)]
          have e1 : j - k = (j - (k + 1)) + 1 := by omega
          rw [e1]; rfl
        · rw [if_neg (by omega), if_neg (by omega)]
  intro l j
  have h := key l 0 j
  rw [if_pos (Nat.zero_le _), Nat.sub_zero] at h
  rw [← h]
  unfold enN
  rw [List.filter_map, List.map_map]
  rfl
theorem shw_tag {s : Str} {d : PyData} {L D S : Nat} (hs : s.length ≤ 69 ∧ ∀ c ∈ s.cps.toList, c < 16 ^ 8) (h : Wf L D d) (hL : 2 ≤ L) (hL2 : L ≤ 41) (hD : D ≤ 40) (hz : sz d ≤ S) (hS : S ≤ 15000) : Shw (.list [.str s, d]) := by
  have hw : Wf L (D + 1) (.list [.str s, d]) := Wf.lst hL fun e he => by
    simp only [List.mem_cons, List.not_mem_nil, or_false] at he
    rcases he with rfl | rfl
    · exact Wf.leaf (show leafOk L (.str s) from hs)
    · exact h
  refine shw_of (S := S + 2) hw hL2 (by omega) ?_ (by omega)
  show 1 + (1 + (sz d + 0)) ≤ S + 2
  omega
end TR
namespace TR
open PySem PySem.Spec PyProof.Rows L2
instance (j : Int) : Decidable (Rg j) := by unfold Rg; infer_instance
theorem upto8 {P : Nat → Prop} (h : P 0 ∧ P 1 ∧ P 2 ∧ P 3 ∧ P 4 ∧ P 5 ∧ P 6 ∧ P 7 ∧ P 8) {m : Nat} (hm : m ≤ 8) : P m := by
  obtain ⟨h0, h1, h2, h3, h4, h5, h6, h7, h8⟩ := h
  rcases (by omega : m = 0 ∨ m = 1 ∨ m = 2 ∨ m = 3 ∨ m = 4 ∨ m = 5 ∨ m = 6 ∨ m = 7 ∨ m = 8) with rfl | rfl | rfl | rfl | rfl | rfl | rfl | rfl | rfl <;> assumption
theorem allpairs_v : ∀ {m : Nat}, m ≤ 8 → v_all_pairs (m : Int) = (pairs m).map fun p => [p.1, p.2] := fun h => upto8 (P := fun m => v_all_pairs (m : Int) = (pairs m).map fun p => [p.1, p.2]) (by decide +kernel) h
theorem lpairs_v : ∀ {m : Nat}, m ≤ 8 → v__law_pairs (m : Int) = pairs m := fun h => upto8 (P := fun m => v__law_pairs (m : Int) = pairs m) (by decide +kernel) h
theorem allpairs_C : ∀ {m : Nat}, m ≤ 8 → C_all_pairs (m : Int) := fun h => by
  refine upto8 (P := fun m => C_all_pairs (m : Int)) ?_ h
  unfold C_all_pairs C_ascending_tuples C_ascending_tuples_s1
  rw [show irange 0 2 = [0, 1] from rfl]
  simp only [forV]
  set_option synthInstance.maxHeartbeats 400000 in
  set_option synthInstance.maxSize 4000 in
  refine ⟨?_, ?_, ?_, ?_, ?_, ?_, ?_, ?_, ?_⟩ <;> decide +kernel
theorem lpairs_C : ∀ {m : Nat}, m ≤ 8 → C__law_pairs (m : Int) := fun h => by
  refine upto8 (P := fun m => C__law_pairs (m : Int)) ?_ h
  unfold C__law_pairs C__law_pairs_s1
  rw [show irange 0 ((0 : Nat) : Int) = [] from rfl, show irange 0 ((1 : Nat) : Int) = [0] from rfl, show irange 0 ((2 : Nat) : Int) = [0, 1] from rfl, show irange 0 ((3 : Nat) : Int) = [0, 1, 2] from rfl, show irange 0 ((4 : Nat) : Int) = [0, 1, 2, 3] from rfl, show irange 0 ((5 : Nat) : Int) = [0, 1, 2, 3, 4] from rfl, show irange 0 ((6 : Nat) : Int) = [0, 1, 2, 3, 4, 5] from rfl, show irange 0 ((7 : Nat) : Int) = [0, 1, 2, 3, 4, 5, 6] from rfl, show irange 0 ((8 : Nat) : Int) = [0, 1, 2, 3, 4, 5, 6, 7] from rfl]
  simp only [forV]
  set_option synthInstance.maxHeartbeats 400000 in
  set_option synthInstance.maxSize 4000 in
  refine ⟨?_, ?_, ?_, ?_, ?_, ?_, ?_, ?_, ?_⟩ <;> decide +kernel
theorem pr_b {m : Nat} {p : Int × Int} (h : p ∈ pairs m) : 0 ≤ p.1 ∧ p.1 < m ∧ 0 ≤ p.2 ∧ p.2 < m ∧ p.1 ≠ p.2 := by
  obtain ⟨h0, h1, h2⟩ := mem_pairs h
  exact ⟨h0, by omega, by omega, h2, by omega⟩
theorem pairs_l28 : ∀ m, m ≤ 8 → (pairs m).length ≤ 28 := by decide
theorem plen {m : Nat} (h : m ≤ 8) : (pairs m).length ≤ 28 := pairs_l28 m h
end TR
namespace TR
open PySem PySem.Spec PyProof.Rows L2
/-! ### lines: worths, preferences, rankings -/
abbrev Lin := List (Int × Int)
structure WfN (ls : Lin) : Prop where
  l1 : 1 ≤ ls.length
  l8 : ls.length ≤ 8
  bd : ∀ p ∈ ls, (-1000000000000 ≤ p.1 ∧ p.1 ≤ 1000000000000) ∧ -1000000000000 ≤ p.2 ∧ p.2 ≤ 1000000000000
def wor (ls : Lin) (t d : Int) : Int := (gt ls d).1 + (gt ls d).2 * t
def keysN (ls : Lin) (t : Int) : List (Int × Int) := (enN ls).map fun x => (0 - x.2.1 - x.2.2 * t, x.1)
def rankN (ls : Lin) (t : Int) : List Int := (srtN pI (keysN ls t)).map (·.2)
theorem enN_rng (ls : Lin) : enN ls = (rng ls.length).map fun d => (d, gt ls d) := by
  refine List.ext_getElem? fun i => ?_
  unfold enN rng gt
  simp only [List.getElem?_map, List.getElem?_zipIdx, List.getElem?_range, List.map_map]
  by_cases h : i < ls.length
  · rw [List.getElem?_eq_getElem h, List.getElem?_eq_getElem (by simpa using h)]
    simp [h]
  · rw [List.getElem?_eq_none (by omega), List.getElem?_eq_none (by simp; omega)]
    rfl
theorem keysN_eq (ls : Lin) (t : Int) : keysN ls t = (rng ls.length).map fun d => (-(wor ls t d), d) := by
  unfold keysN
  rw [enN_rng, List.map_map]
  refine List.map_congr_left fun d _ => ?_
  show (0 - (gt ls d).1 - (gt ls d).2 * t, d) = (-((gt ls d).1 + (gt ls d).2 * t), d)
  generalize (gt ls d).2 * t = z
  exact congrArg (·, d) (by omega)
theorem rankN_rank (ls : Lin) (t : Int) : Rank ls.length (rankN ls t) := by
  unfold rankN Rank
  have := (srtP_perm (keysN ls t)).map (·.2)
  rw [keysN_eq, List.map_map] at this
  rw [keysN_eq]
  exact this.trans (by rw [show ((fun x : Int × Int => x.2) ∘ fun d => (-(wor ls t d), d)) = id from rfl, List.map_id])
theorem idx_pw : ∀ {ps : List (Int × Int)}, (ps.Pairwise fun a b => leP a b = true) → (ps.map (·.2)).Nodup → ∀ {x y : Int × Int}, x ∈ ps → y ∈ ps → (ps.map (·.2)).idxOf x.2 < (ps.map (·.2)).idxOf y.2 → leP x y = true
  | [], _, _, _, _, hx, _, _ => by cases hx
  | z :: ps, h, nd, x, y, hx, hy, lt => by
    obtain ⟨h1, h2⟩ := List.pairwise_cons.mp h
    rw [List.map_cons] at nd lt
    obtain ⟨n1, n2⟩ := List.nodup_cons.mp nd
    rcases List.mem_cons.mp hx with ex | hx
    · rcases List.mem_cons.mp hy with ey | hy
      · rw [ex, ey] at lt; exact absurd lt (Nat.lt_irrefl _)
      · rw [ex]; exact h1 y hy
    · have nx : z.2 ≠ x.2 := fun e => n1 (e ▸ List.mem_map.mpr ⟨x, hx, rfl⟩)
      rcases List.mem_cons.mp hy with ey | hy
      · rw [ey, List.idxOf_cons_self] at lt; exact absurd lt (Nat.not_lt_zero _)
      · have ny : z.2 ≠ y.2 := fun e => n1 (e ▸ List.mem_map.mpr ⟨y, hy, rfl⟩)
        have e : ∀ u : Int, z.2 ≠ u → (z.2 :: ps.map (·.2)).idxOf u = (ps.map (·.2)).idxOf u + 1 := fun u hu => by
          rw [List.idxOf_cons, show (z.2 == u) = false from beq_false_of_ne hu]
          rfl
        rw [e _ nx, e _ ny] at lt
        exact idx_pw h2 n2 hx hy (by omega)
theorem idxOf_inj {l : List Int} {a b : Int} (ha : a ∈ l) (hb : b ∈ l) (h : l.idxOf a = l.idxOf b) : a = b := by
  have h1 := List.getElem_idxOf (List.idxOf_lt_length_of_mem ha)
  have h2 := List.getElem_idxOf (List.idxOf_lt_length_of_mem hb)
  rw [← h1, ← h2]
  congr 1
theorem rankN_lt {ls : Lin} {t a b : Int} (ha : 0 ≤ a ∧ a < (ls.length : Int)) (hb : 0 ≤ b ∧ b < (ls.length : Int)) (ne : a ≠ b) : (rankN ls t).idxOf a < (rankN ls t).idxOf b ↔ (wor ls t b < wor ls t a ∨ (wor ls t a = wor ls t b ∧ a < b)) := by
  have R := rankN_rank ls t
  have nd : ((srtN pI (keysN ls t)).map (·.2)).Nodup := R.nodup
  have pw := srtP_sorted (keysN ls t)
  have mem : ∀ d : Int, 0 ≤ d ∧ d < (ls.length : Int) → (-(wor ls t d), d) ∈ srtN pI (keysN ls t) := fun d hd => by
    refine (srtP_perm _).mem_iff.mpr ?_
    rw [keysN_eq]
    exact List.mem_map.mpr ⟨d, mem_rng.mpr hd, rfl⟩
  have le : ∀ x y : Int, 0 ≤ x ∧ x < (ls.length : Int) → 0 ≤ y ∧ y < (ls.length : Int) → (rankN ls t).idxOf x < (rankN ls t).idxOf y → (wor ls t y < wor ls t x ∨ (wor ls t x = wor ls t y ∧ x ≤ y)) := fun x y hx hy h => by
    have := idx_pw pw nd (mem x hx) (mem y hy) h
    unfold leP at this
    rw [decide_eq_true_eq] at this
    have : -(wor ls t x) < -(wor ls t y) ∨ -(wor ls t x) = -(wor ls t y) ∧ x ≤ y := this
    omega
  constructor
  · intro h
    have := le a b ha hb h
    omega
  · intro h
    by_cases g : (rankN ls t).idxOf a < (rankN ls t).idxOf b
    · exact g
    · have hne : (rankN ls t).idxOf a ≠ (rankN ls t).idxOf b := fun e => ne (idxOf_inj (R.mem ha.1 ha.2) (R.mem hb.1 hb.2) e)
      have := le b a hb ha (by omega)
      omega
def pf (ls : Lin) (t : Int) (p : Int × Int) : Bool := decide (wor ls t p.2 ≤ wor ls t p.1)
theorem rankN_pf {ls : Lin} {t : Int} {p : Int × Int} (hp : p ∈ pairs ls.length) : decide ((((rankN ls t).idxOf p.1 : Nat) : Int) < (((rankN ls t).idxOf p.2 : Nat) : Int)) = pf ls t p := by
  obtain ⟨h0, h1, h2⟩ := mem_pairs hp
  unfold pf
  refine decide_eq_decide.mpr ?_
  have := rankN_lt (t := t) (ls := ls) (a := p.1) (b := p.2) ⟨h0, by omega⟩ ⟨by omega, h2⟩ (by omega)
  omega
/-- where the pair changes -/
def chN (ls : Lin) (p : Int × Int) : Option Int :=
  bif decide (0 < (gt ls p.1).2 - (gt ls p.2).2) then some (-(((gt ls p.1).1 - (gt ls p.2).1) / ((gt ls p.1).2 - (gt ls p.2).2)))
  else bif decide ((gt ls p.1).2 - (gt ls p.2).2 < 0) then some (((gt ls p.1).1 - (gt ls p.2).1) / (-((gt ls p.1).2 - (gt ls p.2).2)) + 1) else none
theorem pf_diff (ls : Lin) (t : Int) (p : Int × Int) : pf ls t p = decide (0 ≤ ((gt ls p.1).1 - (gt ls p.2).1) + ((gt ls p.1).2 - (gt ls p.2).2) * t) := by
  unfold pf wor
  rw [Int.sub_mul]
  generalize (gt ls p.1).2 * t = x
  generalize (gt ls p.2).2 * t = y
  exact decide_eq_decide.mpr (by omega)
theorem chN_some {ls : Lin} {p : Int × Int} {c : Int} (h : chN ls p = some c) (t u : Int) : pf ls t p = pf ls u p ↔ (c ≤ t ↔ c ≤ u) := by
  rw [pf_diff, pf_diff]
  unfold chN at h
  generalize (gt ls p.1).1 - (gt ls p.2).1 = a at h ⊢
  generalize (gt ls p.1).2 - (gt ls p.2).2 = s at h ⊢
  rw [decide_eq_decide]
  by_cases h1 : 0 < s
  · rw [decide_eq_true h1] at h
    cases h
    have key : ∀ t : Int, 0 ≤ a + s * t ↔ -(a / s) ≤ t := fun t => by
      have := Int.le_ediv_iff_mul_le (a := -t) (b := a) h1
      rw [Int.neg_mul, Int.mul_comm] at this
      omega
    rw [key, key]
  · rw [decide_eq_false h1] at h
    by_cases h2 : s < 0
    · rw [decide_eq_true h2] at h
      cases h
      have key : ∀ t : Int, 0 ≤ a + s * t ↔ ¬ a / -s + 1 ≤ t := fun t => by
        have := Int.le_ediv_iff_mul_le (a := t) (b := a) (c := -s) (by omega)
        rw [Int.mul_neg, Int.mul_comm] at this
        omega
      rw [key, key]
      exact ⟨fun h => by omega, fun h => by omega⟩
    · rw [decide_eq_false h2] at h
      cases h
theorem chN_none {ls : Lin} {p : Int × Int} (h : chN ls p = none) (t u : Int) : pf ls t p = pf ls u p := by
  rw [pf_diff, pf_diff]
  unfold chN at h
  generalize (gt ls p.1).2 - (gt ls p.2).2 = s at h ⊢
  by_cases h1 : 0 < s
  · rw [decide_eq_true h1] at h; cases h
  · by_cases h2 : s < 0
    · rw [decide_eq_false h1, decide_eq_true h2] at h; cases h
    · have : s = 0 := by omega
      rw [this, Int.zero_mul, Int.zero_mul]
/-- the changes within a span -/
def chAt (ls : Lin) (lo hi : Int) (p : Int × Int) : Option (Int × (Int × Int)) := match chN ls p with
  | some c => if lo < c ∧ c ≤ hi then some (c, p) else none
  | none => none
def chgs (ls : Lin) (lo hi : Int) : List (Int × (Int × Int)) := (pairs ls.length).filterMap (chAt ls lo hi)
theorem chAt_some {ls : Lin} {lo hi : Int} {p : Int × Int} {x : Int × (Int × Int)} : chAt ls lo hi p = some x ↔ ∃ c, chN ls p = some c ∧ lo < c ∧ c ≤ hi ∧ x = (c, p) := by
  unfold chAt
  cases e : chN ls p with
  | none => simp
  | some c =>
    dsimp only
    by_cases h : lo < c ∧ c ≤ hi
    · rw [if_pos h]
      constructor
      · intro g; cases g; exact ⟨c, rfl, h.1, h.2, rfl⟩
      · rintro ⟨c', e1, _, _, rfl⟩; cases e1; rfl
    · rw [if_neg h]
      constructor
      · intro g; cases g
      · rintro ⟨c', e1, h1, h2, _⟩; cases e1; exact absurd ⟨h1, h2⟩ h
theorem chAt_none {ls : Lin} {lo hi : Int} {p : Int × Int} (hl : lo ≤ hi) : chAt ls lo hi p = none ↔ pf ls lo p = pf ls hi p := by
  unfold chAt
  cases e : chN ls p with
  | none => exact ⟨fun _ => chN_none e lo hi, fun _ => rfl⟩
  | some c =>
    dsimp only
    rw [chN_some e]
    by_cases h : lo < c ∧ c ≤ hi
    · rw [if_pos h]
      constructor
      · intro g; cases g
      · intro g; omega
    · rw [if_neg h]
      exact ⟨fun _ => by omega, fun _ => rfl⟩
theorem filterMap_ext {α β : Type} {f g : α → Option β} : ∀ {l : List α}, (∀ x ∈ l, f x = g x) → l.filterMap f = l.filterMap g
  | [], _ => rfl
  | x :: l, h => by
    rw [List.filterMap_cons, List.filterMap_cons, h x List.mem_cons_self, filterMap_ext fun y hy => h y (List.mem_cons_of_mem _ hy)]
def addO {β : Type} (w : List β) : Option β → List β
  | some y => w ++ [y]
  | none => w
theorem forV_app {α β ρ : Type} {after : List β → ρ} {body : (List β → ρ) → α → List β → ρ} (f : α → Option β) (l : List α) (h : ∀ x ∈ l, ∀ k w, body k x w = k (addO w (f x))) (w : List β) : forV body after l w = after (w ++ l.filterMap f) := by
  induction l generalizing w with
  | nil => rw [List.filterMap_nil, List.append_nil]; rfl
  | cons x l ih =>
    show body _ x w = _
    rw [h x List.mem_cons_self, ih (fun y hy => h y (List.mem_cons_of_mem _ hy)), List.filterMap_cons]
    cases f x with
    | none => rfl
    | some y => show after (w ++ [y] ++ _) = _; rw [List.append_assoc]; rfl
/-- conditions of a loop that appends -/
theorem forV_appC {α β : Type} {after : List β → Prop} {body : (List β → Prop) → α → List β → Prop} (f : α → Option β) : ∀ (l : List α) (w : List β), (∀ x ∈ l, ∀ k w', w'.length ≤ w.length + l.length → k (addO w' (f x)) → body k x w') → after (w ++ l.filterMap f) → forV body after l w := by
  have key : ∀ (l : List α) (N : Nat) (w : List β), w.length + l.length ≤ N → (∀ x ∈ l, ∀ k w', w'.length ≤ N → k (addO w' (f x)) → body k x w') → after (w ++ l.filterMap f) → forV body after l w := by
    intro l
    induction l with
    | nil => intro N w _ _ ha; rw [List.filterMap_nil, List.append_nil] at ha; exact ha
    | cons x l ih =>
      intro N w hN h ha
      rw [List.length_cons] at hN
      refine h x List.mem_cons_self _ w (by omega) ?_
      rw [List.filterMap_cons] at ha
      cases e : f x with
      | none => rw [e] at ha; exact ih N w (by omega) (fun y hy => h y (List.mem_cons_of_mem _ hy)) ha
      | some y =>
        rw [e] at ha
        show forV body after l (w ++ [y])
        refine ih N (w ++ [y]) (by rw [List.length_append]; simp only [List.length_cons, List.length_nil]; omega) (fun z hz => h z (List.mem_cons_of_mem _ hz)) ?_
        rw [List.append_assoc]; exact ha
  intro l w h ha
  exact key l _ w (Nat.le_refl _) h ha
theorem gt_memL {ls : Lin} {d : Int} (hd : 0 ≤ d ∧ d < (ls.length : Int)) : gt ls d ∈ ls := by
  obtain ⟨j, rfl⟩ := Int.eq_ofNat_of_zero_le hd.1
  unfold gt
  have hj : j < ls.length := by omega
  simp [hj]
end TR
namespace TR
open PySem PySem.Spec PyProof.Rows L2
/-! ### what the laws of lines draw -/
theorem forW_inv {α σ : Type} {body : (σ → Nat → Prop) → α → σ → Nat → Prop} {after : σ → Nat → Prop} (I : Nat → σ → Nat → Prop) : ∀ (l : List α) (j : Nat) (w : σ) (n : Nat), I j w n → (∀ x ∈ l, ∀ i k w n, i < j + l.length → I i w n → (∀ w' n', I (i + 1) w' n' → k w' n') → body k x w n) → (∀ w n, I (j + l.length) w n → after w n) → forW body after l w n
  | [], _, w, n, h, _, ha => ha w n h
  | x :: l, j, w, n, h, hb, ha => hb x List.mem_cons_self j _ w n (by rw [List.length_cons]; omega) h fun w' n' h' => forW_inv I l (j + 1) w' n' h' (fun y hy i k w n hi => hb y (List.mem_cons_of_mem _ hy) i k w n (by rw [List.length_cons]; omega)) fun w n hw => ha w n (by rw [List.length_cons, show j + (l.length + 1) = j + 1 + l.length by omega]; exact hw)
theorem irange_len (a b : Int) : (irange a b).length = (b - a).toNat := by unfold irange; rw [List.length_map, List.length_range]
theorem w_next {m : Int} {n : Nat} {K : Int → Nat → Prop} (hn : n ≤ 1000000) (h0 : 0 < m) (h1 : m ≤ 4000000000000) (q : ∀ r, 0 ≤ r → r < m → K r (n + 1)) : w__law_next m n K := ⟨hn, h0, h1, q⟩
theorem cpow (j : Int) (h0 : 0 ≤ j := by decide) (h1 : j ≤ 1000000 := by decide) : CPow 10 j := ⟨h0, h1, by decide⟩
theorem e12 : ((10 : Int) ^ (12 : Int).toNat) = 1000000000000 := by decide
theorem e6 : ((10 : Int) ^ (6 : Int).toNat) = 1000000 := by decide
theorem lim' {n : Nat} (h : n < 1000) : n < sizeLine := Nat.lt_of_lt_of_le h (lim (Nat.le_refl _))
abbrev B12 (x : Int) : Prop := -1000000000000 ≤ x ∧ x ≤ 1000000000000
abbrev BdL (ls : Lin) : Prop := ∀ p ∈ ls, B12 p.1 ∧ B12 p.2
theorem gl_mem {ls : Lin} (h : (!ls.isEmpty) = true) : ls ≠ [] ∧ gl ls ∈ ls := by
  cases ls with
  | nil => cases h
  | cons x l =>
    refine ⟨by simp, ?_⟩
    unfold gl
    rw [List.getLastD_eq_getLast?, List.getLast?_eq_some_getLast (by simp)]
    exact List.getLast_mem _
section
variable {k7 : Lin → Nat → Prop} {a1 a2 a3 b6 b7 : Int} {b4 : Lin} {n : Nat} {K : Lin → Nat → Prop}
theorem line_s5 (hb : BdL b4) (hl : b4.length < 20) (h6 : B12 b6) (h7 : B12 b7) (q : ∀ w, BdL w → w.length = b4.length + 1 → k7 w n) : w__law_line_s5 k7 a1 a2 a3 b4 b6 b7 n K := by
  unfold w__law_line_s5
  refine ⟨lim' (by omega), q _ (fun p hp => ?_) (by rw [List.length_append]; rfl)⟩
  rcases List.mem_append.mp hp with h | h
  · exact hb p h
  · rw [List.mem_singleton.mp h]; exact ⟨h6, h7⟩
theorem line_s4 (hb : BdL b4) (hl : b4.length < 20) (h6 : B12 b6) (h7 : B12 b7) (hn : n ≤ 1000000) (q : ∀ w n', BdL w → w.length = b4.length + 1 → n' ≤ n + 1 → k7 w n') : w__law_line_s4 k7 a1 a2 a3 b4 b6 b7 n K := by
  unfold w__law_line_s4
  refine ⟨fun he => w_next hn (by decide) (by decide) fun r _ _ => ⟨fun _ => ⟨(gl_mem he).1, line_s5 hb hl (hb _ (gl_mem he).2).1 h7 fun w h1 h2 => q w _ h1 h2 (Nat.le_refl _)⟩, fun _ => line_s5 hb hl h6 h7 fun w h1 h2 => q w _ h1 h2 (Nat.le_refl _)⟩, fun _ => ⟨fun h => (by cases h), fun _ => line_s5 hb hl h6 h7 fun w h1 h2 => q w _ h1 h2 (by omega)⟩⟩
theorem line_s3 (hb : BdL b4) (hl : b4.length < 20) (h6 : B12 b6) (h7 : B12 b7) (hn : n ≤ 999999) (q : ∀ w n', BdL w → w.length = b4.length + 1 → n' ≤ n + 2 → k7 w n') : w__law_line_s3 k7 a1 a2 a3 b4 b6 b7 n K := by
  unfold w__law_line_s3
  refine ⟨fun he => w_next (by omega) (by decide) (by decide) fun r _ _ => ⟨fun _ => ⟨(gl_mem he).1, line_s4 hb hl h6 (hb _ (gl_mem he).2).2 (by omega) fun w n' h1 h2 h3 => q w _ h1 h2 (by omega)⟩, fun _ => line_s4 hb hl h6 h7 (by omega) fun w n' h1 h2 h3 => q w _ h1 h2 (by omega)⟩, fun _ => ⟨fun h => (by cases h), fun _ => line_s4 hb hl h6 h7 (by omega) fun w n' h1 h2 h3 => q w _ h1 h2 (by omega)⟩⟩
end
theorem line_w {n : Nat} {K : Lin → Nat → Prop} {m : Int} (h0 : 1 ≤ m) (h8 : m ≤ 8) (hn : n ≤ 900000) (q : ∀ ls n', WfN ls → (ls.length : Int) ≤ m → n' ≤ n + 40 → K ls n') : w__law_line m n K := by
  unfold w__law_line
  refine ⟨⟨cpow 6, cpow 12, cpow 12, cpow 12⟩, ⟨by omega, by simp, by decide⟩, fun r hr => ?_⟩
  have hb : (1 ≤ r.1 ∧ r.1 ≤ 1000000000000) ∧ 1 ≤ r.2 ∧ r.2 ≤ 1000000000000 := by
    rw [e12, e6] at hr
    simp only [List.mem_cons, List.not_mem_nil, or_false] at hr
    rcases hr with rfl | rfl | rfl | rfl | rfl <;> (refine ⟨⟨?_, ?_⟩, ?_, ?_⟩ <;> decide)
  obtain ⟨⟨b1, b2⟩, b3, b4⟩ := hb
  unfold w__law_line_s1 w__law_line_s2
  refine w_next (by omega) (by omega) (by omega) fun k k0 k1 => ⟨⟨by omega, by omega⟩, ?_⟩
  have len : (irange 0 (1 + k)).length = (1 + k).toNat := by rw [irange_len]; congr 1; omega
  refine forW_inv (fun j w n' => BdL w ∧ w.length = j ∧ n' ≤ n + 2 + 4 * j) _ 0 _ _ ⟨fun p hp => (by cases hp), rfl, by omega⟩ (fun x hx i kk w n' hi hI hk => ?_) fun w n' hI => ?_
  · obtain ⟨hw, hl, hn'⟩ := hI
    refine ⟨.inl ⟨by decide, by decide⟩, w_next (by omega) (by omega) (by omega) fun r1 r10 r11 => ⟨.inl ⟨by decide, by decide⟩, w_next (by omega) (by omega) (by omega) fun r2 r20 r21 => ?_⟩⟩
    exact line_s3 hw (by omega) ⟨by omega, by omega⟩ ⟨by omega, by omega⟩ (by omega) fun w' n2 g1 g2 g3 => hk w' n2 ⟨g1, by omega, by omega⟩
  · obtain ⟨hw, hl, hn'⟩ := hI
    exact q w n' ⟨by omega, by omega, hw⟩ (by omega) (by omega)
theorem meeting_w {ls : Lin} (wf : WfN ls) {n : Nat} {K : Int → Nat → Prop} (hn : n ≤ 900000) (q : ∀ r n', 0 ≤ r → r ≤ 1000000000000 → n' ≤ n + 4 → K r n') : w__law_meeting ls n K := by
  unfold w__law_meeting
  have ne : ls ≠ [] := fun e => by have := wf.l1; rw [e] at this; simp at this
  have l8 := wf.l8
  have two : ∀ a b : Int × Int, a ∈ ls → b ∈ ls → a.2 ≠ b.2 → ∀ n0, n0 ≤ n + 3 → w__law_meeting_s2 a b n0 K := fun a b ha hb hne n0 h0 => by
    unfold w__law_meeting_s2
    have h1 := wf.bd a ha
    have h2 := wf.bd b hb
    refine ⟨⟨by omega, ?_⟩, cpow 12, w_next (by omega) (by decide) (by decide) fun r r0 r1 => ?_⟩
    · exact Nat.lt_of_lt_of_le (PySem.Flt.log2_lt_of (k := 64) (by decide) (by omega)) (by decide)
    · rw [e12]
      refine q _ _ ?_ ?_ (by omega)
      · split <;> omega
      · split <;> split <;> omega
  have any : ∀ n0, n0 ≤ n + 3 → CPow 10 12 ∧ w__law_next (((10 : Int) ^ (12 : Int).toNat) + 1) n0 fun r k => K r k := fun n0 h0 => by
    rw [e12]
    exact ⟨cpow 12, w_next (by omega) (by decide) (by decide) fun r r0 r1 => q r _ r0 (by omega) (by omega)⟩
  refine ⟨⟨by omega, ne, by omega⟩, fun a ha => ⟨⟨by omega, ne, by omega⟩, fun b hb => ?_⟩⟩
  unfold w__law_meeting_s1
  refine ⟨fun h => ⟨fun _ => any _ (by omega), fun h => by cases h⟩, fun h => w_next (by omega) (by decide) (by decide) fun r _ _ => ⟨fun _ => any _ (by omega), fun _ => two a b ha hb (of_decide_eq_false h) _ (by omega)⟩⟩
theorem span_w {ls : Lin} (wf : WfN ls) {n : Nat} {K : Int × Int → Nat → Prop} (hn : n ≤ 800000) (q : ∀ lo hi n', 0 ≤ lo → lo ≤ hi → hi ≤ 1000000000000 → n' ≤ n + 10 → K (lo, hi) n') : w__law_span ls n K := by
  unfold w__law_span
  refine w_next (by omega) (by decide) (by decide) fun r r0 r1 => ?_
  have s3 : ∀ lo n0, 0 ≤ lo → lo ≤ 1000000000000 → n0 ≤ n + 5 → w__law_span_s3 ls r lo n0 K := fun lo n0 h0 h1 h2 => by
    unfold w__law_span_s3
    refine ⟨fun _ => w_next (by omega) (by decide) (by decide) fun a a0 a1 => ⟨cpow 12, w_next (by omega) (by decide) (by decide) fun b b0 b1 => ?_⟩, fun _ => ?_⟩
    · rw [e12]
      refine q _ _ _ ?_ ?_ ?_ (by omega)
      · split <;> omega
      · split <;> split <;> omega
      · split <;> split <;> omega
    · unfold w__law_span_s4
      refine meeting_w wf (by omega) fun x n' x0 x1 hx => q _ _ _ ?_ ?_ ?_ (by omega)
      · split <;> omega
      · split <;> split <;> omega
      · split <;> omega
  unfold w__law_span_s1
  refine ⟨fun _ => ⟨cpow 12, ?_⟩, fun _ => ?_⟩
  · rw [e12]; exact q _ _ _ (by decide) (by decide) (by decide) (by omega)
  · unfold w__law_span_s2
    exact ⟨fun _ => meeting_w wf (by omega) fun x n' x0 x1 hx => s3 x n' x0 x1 (by omega), fun _ => w_next (by omega) (by decide) (by decide) fun x x0 x1 => s3 x _ x0 (by omega) (by omega)⟩
end TR
namespace TR
open PySem PySem.Spec PyProof.Rows L2
/-! ### the program's spans and changes -/
abbrev pP : Int × (Int × Int) → PyData := eP PyData.int pI
abbrev gP (x : Int × (Int × Int)) : Int × List Int := (x.1, l2 x.2)
theorem span_C (a b : PyData) : C_check_span a b := by
  unfold C_check_span
  refine ⟨wholeB_eq a, fun h => ⟨wholeB_eq b, fun h2 => ?_⟩⟩
  have h : withinB a 0 1000000000000 = true := by
    have h : (!withinB a 0 1000000000000) = false := h
    rwa [Bool.not_eq_false'] at h
  have h2 : withinB b 0 1000000000000 = true := by
    have h2 : (!withinB b 0 1000000000000) = false := h2
    rwa [Bool.not_eq_false'] at h2
  obtain ⟨i, rfl, _⟩ := withinB_iff.mp h
  obtain ⟨j, rfl, _⟩ := withinB_iff.mp h2
  exact ⟨rfl, rfl⟩
theorem span_ok {lo hi : Int} (h0 : 0 ≤ lo) (h1 : lo ≤ hi) (h2 : hi ≤ 1000000000000) : v_check_span (.int lo) (.int hi) = .ok () := by
  unfold v_check_span
  have e1 : v_is_place (.int lo) = true := withinB_iff.mpr ⟨lo, rfl, h0, by omega⟩
  have e2 : v_is_place (.int hi) = true := withinB_iff.mpr ⟨hi, rfl, by omega, h2⟩
  rw [e1, e2]
  show (bif (false || (false || decide (hi < lo))) then _ else _) = _
  rw [decide_eq_false (by omega)]
  rfl
theorem span_of_ok {a b : PyData} {r : Unit} (h : v_check_span a b = .ok r) : ∃ lo hi : Int, a = .int lo ∧ b = .int hi ∧ 0 ≤ lo ∧ lo ≤ hi ∧ hi ≤ 1000000000000 := by
  unfold v_check_span at h
  cases e1 : v_is_place a with
  | false => rw [e1] at h; cases h
  | true =>
    cases e2 : v_is_place b with
    | false => rw [e1, e2] at h; cases h
    | true =>
      obtain ⟨i, rfl, i0, i1⟩ := withinB_iff.mp e1
      obtain ⟨j, rfl, j0, j1⟩ := withinB_iff.mp e2
      rw [e1, e2] at h
      have h : (bif (false || (false || decide (j < i))) then (.error ⟨8, none⟩ : Except XN Unit) else .ok ()) = .ok r := h
      by_cases g : j < i
      · rw [decide_eq_true g] at h; cases h
      · exact ⟨i, j, rfl, rfl, i0, by omega, j1⟩
theorem span_bad {a b : PyData} (h : (!withinB a 0 1000000000000 || (!withinB b 0 1000000000000 || decide (dI b < dI a))) = true) : v_check_span a b = .error ⟨8, none⟩ := by
  unfold v_check_span
  have : ((!(v_is_place a)) || ((!(v_is_place b)) || (decide ((dI b) < (dI a))))) = true := h
  rw [this]
  rfl
theorem change_v (ls : Lin) (p : Int × Int) : v_change_of ls (l2 p) = chN ls p := rfl
theorem change_C {ls : Lin} (wf : WfN ls) {p : Int × Int} (hp : p ∈ pairs ls.length) : C_change_of ls (l2 p) := by
  obtain ⟨h0, h1, h2⟩ := mem_pairs hp
  have i1 : Ixr ls p.1 := ⟨h0, by omega⟩
  have i2 : Ixr ls p.2 := ⟨by omega, h2⟩
  have b1 := wf.bd _ (gt_memL i1)
  have b2 := wf.bd _ (gt_memL i2)
  have dv : ∀ a s : Int, 0 < s → s ≤ 2000000000000 → CDivW a s := fun a s h g => ⟨h, Nat.lt_of_lt_of_le (PySem.Flt.log2_lt_of (k := 64) (by decide) (by omega)) (by decide)⟩
  refine ⟨rfl, i1, i2, i1, i2, fun h => ?_, fun _ h => ?_⟩
  · have h : 0 < (gt ls p.1).2 - (gt ls p.2).2 := of_decide_eq_true h
    exact dv _ _ h (by show (gt ls p.1).2 - (gt ls p.2).2 ≤ 2000000000000; omega)
  · have h : (gt ls p.1).2 - (gt ls p.2).2 < 0 := of_decide_eq_true h
    exact dv _ _ (by show 0 < -((gt ls p.1).2 - (gt ls p.2).2); omega) (by show -((gt ls p.1).2 - (gt ls p.2).2) ≤ _; omega)
def chP (lo hi : Int) (x : (Option Int) × (List Int)) : Bool := ((!x.1.isNone) && ((decide ((dI (.int lo)) < (om x.1))) && (decide ((om x.1) ≤ (dI (.int hi))))))
theorem chl_go (ls : Lin) (lo hi : Int) : ∀ l : List (Int × Int), ((((l.map l2).map fun x => (v_change_of ls x, x)).filter (chP lo hi)).map fun x : (Option Int) × (List Int) => ((om x.1), x.2)) = (l.filterMap (chAt ls lo hi)).map gP
  | [] => rfl
  | p :: l => by
    have ih := chl_go ls lo hi l
    rw [List.map_cons, List.map_cons, List.filterMap_cons, change_v]
    cases e : chN ls p with
    | none =>
      have e1 : chAt ls lo hi p = none := by unfold chAt; rw [e]
      rw [e1, List.filter_cons_of_neg (show ¬ chP lo hi (none, l2 p) = true from fun h => by cases h)]
      exact ih
    | some c =>
      by_cases h : lo < c ∧ c ≤ hi
      · have e1 : chAt ls lo hi p = some (c, p) := chAt_some.mpr ⟨c, e, h.1, h.2, rfl⟩
        have e2 : chP lo hi (some c, l2 p) = true := by
          show (decide (lo < c) && decide (c ≤ hi)) = true
          rw [decide_eq_true h.1, decide_eq_true h.2]; rfl
        rw [e1, List.filter_cons_of_pos e2, List.map_cons, ih]
        rfl
      · have e1 : chAt ls lo hi p = none := by unfold chAt; rw [e]; exact if_neg h
        have e2 : ¬ chP lo hi (some c, l2 p) = true := fun g => by
          have g : (decide (lo < c) && decide (c ≤ hi)) = true := g
          rw [Bool.and_eq_true, decide_eq_true_eq, decide_eq_true_eq] at g
          exact h g
        rw [e1, List.filter_cons_of_neg e2]
        exact ih
theorem chl_eq (ls : Lin) (lo hi : Int) (l : List (Int × Int)) : ((((l.map l2).map fun x => (v_change_of ls x, x)).filter fun x : (Option Int) × (List Int) => ((!x.1.isNone) && ((decide ((dI (.int lo)) < (om x.1))) && (decide ((om x.1) ≤ (dI (.int hi))))))).map fun x : (Option Int) × (List Int) => ((om x.1), x.2)) = (l.filterMap (chAt ls lo hi)).map gP := chl_go ls lo hi l
theorem srt_gP (l : List (Int × (Int × Int))) : srtN (eP PyData.int (eQ PyData.int)) (l.map gP) = (srtN pP l).map gP := by
  unfold srtN
  exact (List.map_mergeSort (f := gP) (l := l) fun a _ b _ => rfl).symm
theorem alk_pP (a b : Int × (Int × Int)) : PySem.W.alike (pP a) (pP b) = true := by simp [pP, eP, pI, PySem.W.alike, PySem.W.alikeAll]
theorem srtOk_pP (l : List (Int × (Int × Int))) : SrtOk (l.map pP) := by
  refine ⟨PySem.W.AllAlike.of alk_pP, PySem.W.Sortable.tuples fun b => ⟨_, _, rfl⟩, fun d hd => ?_⟩
  obtain ⟨p, _, rfl⟩ := List.mem_map.mp hd
  show PyData.depthAll [.int p.1, .tuple [.int p.2.1, .int p.2.2]] + 1 ≤ 50
  simp [PyData.depthAll, PyData.depth]
theorem changes_v {ls : Lin} (wf : WfN ls) {lo hi : Int} (h0 : 0 ≤ lo) (h1 : lo ≤ hi) (h2 : hi ≤ 1000000000000) : v_line_changes ls (.int lo) (.int hi) = .ok ((srtN pP (chgs ls lo hi)).map gP) := by
  unfold v_line_changes
  rw [span_ok h0 h1 h2]
  show v_line_changes_s1 ls (.int lo) (.int hi) = _
  unfold v_line_changes_s1 chgs
  rw [allpairs_v wf.l8, ← srt_gP, ← chl_eq]
theorem changes_C {ls : Lin} (wf : WfN ls) (a b : PyData) : C_line_changes ls a b := by
  refine ⟨span_C a b, fun r h => ?_⟩
  obtain ⟨lo, hi, rfl, rfl, h0, h1, h2⟩ := span_of_ok h
  unfold C_line_changes_s1
  have pl := plen wf.l8
  rw [allpairs_v wf.l8]
  refine ⟨allpairs_C wf.l8, by rw [List.length_map]; exact lim (by omega), fun x hx => ?_, by rw [List.length_map, List.length_map]; exact lim (by omega), fun x hx => ⟨fun h => ⟨rfl, ?_, fun _ => rfl⟩, fun h => ?_⟩, ?_⟩
  · obtain ⟨p, hp, rfl⟩ := List.mem_map.mp hx
    exact change_C wf hp
  · cases e : x.1 with
    | none => rw [e] at h; cases h
    | some _ => rfl
  · cases e : x.1 with
    | none => rw [e] at h; cases h
    | some _ => rfl
  · rw [chl_eq, List.map_map]
    exact srtOk_pP _
theorem changes_bad {ls : Lin} {a b : PyData} (h : (!withinB a 0 1000000000000 || (!withinB b 0 1000000000000 || decide (dI b < dI a))) = true) : v_line_changes ls a b = .error ⟨8, none⟩ := by
  unfold v_line_changes
  rw [span_bad h]
  rfl
/-! ### bad spans -/
def badS : List (PyData × PyData) := [(.int (-1), .int 3), (.int 4, .int 3), (.int 0, .int 1000000000001), (.int 1000000000001, .int 1000000000002), (.bool true, .int 5), (.int 0, .bool true), (.none, .int 2), (.str "0", .int 3), (.int 0, .str "1"), (.list [], .dict []), (.int 1, .none), (.int 0, .tuple [.int 5]), (.int 0, .int (-1)), (.bool false, .bool false), (.int 5, .int (10 ^ 59))]
theorem bad_span_w {n : Nat} {K : PyData × PyData → Nat → Prop} (hn : n ≤ 1000000) (q : ∀ p ∈ badS, (!withinB p.1 0 1000000000000 || (!withinB p.2 0 1000000000000 || decide (dI p.2 < dI p.1))) = true → K p (n + 1)) : w__law_bad_span n K := by
  have all : ∀ p ∈ badS, (!withinB p.1 0 1000000000000 || (!withinB p.2 0 1000000000000 || decide (dI p.2 < dI p.1))) = true := by decide +kernel
  unfold w__law_bad_span
  refine ⟨⟨cpow 12, cpow 12, cpow 12⟩, ⟨cpow 59, lim (by decide)⟩, ⟨hn, by simp, by decide⟩, fun r hr => ?_⟩
  have hr : r ∈ badS := hr
  exact q r hr (all r hr)
end TR
namespace TR
open PySem PySem.Spec PyProof.Rows L2
/-! ### k60: by halving -/
theorem prefers_v (ls : Lin) (t : Int) (p : Int × Int) : v__law_prefers ls t (l2 p) = pf ls t p := rfl
theorem prefers_C {ls : Lin} (wf : WfN ls) (t : Int) {p : Int × Int} (hp : p ∈ pairs ls.length) : C__law_prefers ls t (l2 p) := by
  obtain ⟨h0, h1, h2⟩ := mem_pairs hp
  have i1 : Ixr ls p.1 := ⟨h0, by omega⟩
  have i2 : Ixr ls p.2 := ⟨by omega, h2⟩
  have b1 := wf.bd _ (gt_memL i1)
  have b2 := wf.bd _ (gt_memL i2)
  refine ⟨lim (show 2 ≤ 1000 by decide), fun x hx => ?_, ⟨by decide, by show (0 : Int) < (2 : Nat); decide⟩, ⟨by decide, by show (1 : Int) < (2 : Nat); decide⟩⟩
  simp only [List.mem_cons, List.not_mem_nil, or_false] at hx
  rcases hx with rfl | rfl
  · exact ⟨i1, i1, .inl ⟨by omega, by omega⟩⟩
  · exact ⟨i2, i2, .inl ⟨by omega, by omega⟩⟩
theorem half_v {ls : Lin} {lo hi c : Int} {p : Int × Int} (h : chN ls p = some c) (h1 : lo < c) (h2 : c ≤ hi) : v__law_first_change ls lo hi (l2 p) = c := by
  unfold v__law_first_change
  refine whV_ok (fun w : Int × Int => w.1 < c ∧ c ≤ w.2) (fun w => (w.2 - w.1).toNat) (fun _ r => r = c) (fun w hw => ⟨fun hc kk hk => ?_, fun hc => ?_⟩) _ _ ⟨h1, h2⟩ (by show (hi - lo).toNat < _; omega)
  · have hc : 1 < w.2 - w.1 := of_decide_eq_true hc
    obtain ⟨a, b⟩ := hw
    by_cases e : pf ls ((w.1 + w.2) / 2) p = pf ls w.1 p
    · have e2 : decide ((v__law_prefers ls ((w.1 + w.2) / (2 : Int)) (l2 p)) = (v__law_prefers ls w.1 (l2 p))) = true := decide_eq_true e
      rw [e2]
      have := (chN_some h _ _).mp e
      exact hk _ ⟨by show (w.1 + w.2) / 2 < c; omega, b⟩ (by show (w.2 - (w.1 + w.2) / 2).toNat < (w.2 - w.1).toNat; omega)
    · have e2 : decide ((v__law_prefers ls ((w.1 + w.2) / (2 : Int)) (l2 p)) = (v__law_prefers ls w.1 (l2 p))) = false := decide_eq_false e
      rw [e2]
      have : c ≤ (w.1 + w.2) / 2 := by
        by_cases g : c ≤ (w.1 + w.2) / 2
        · exact g
        · exact absurd ((chN_some h _ _).mpr (by omega)) e
      exact hk _ ⟨a, by show c ≤ (w.1 + w.2) / 2; exact this⟩ (by show ((w.1 + w.2) / 2 - w.1).toNat < (w.2 - w.1).toNat; omega)
  · have hc : ¬ 1 < w.2 - w.1 := of_decide_eq_false hc
    show w.2 = c
    omega
theorem half_C {ls : Lin} (wf : WfN ls) {lo hi : Int} {p : Int × Int} (hp : p ∈ pairs ls.length) : C__law_first_change ls lo hi (l2 p) := by
  unfold C__law_first_change
  refine whC_ok (fun _ : Int × Int => True) (fun w => (w.2 - w.1).toNat) (fun w _ => ⟨trivial, fun hc kC hk => ?_, fun _ => trivial⟩) _ _ trivial (by show (hi - lo).toNat < _; omega)
  have hc : 1 < w.2 - w.1 := of_decide_eq_true hc
  refine ⟨⟨by decide, by decide⟩, prefers_C wf _ hp, prefers_C wf _ hp, hk _ trivial ?_⟩
  show ((bif _ then _ else _) - (bif _ then _ else _) : Int).toNat < (w.2 - w.1).toNat
  cases decide ((v__law_prefers ls ((w.1 + w.2) / (2 : Int)) (l2 p)) = (v__law_prefers ls w.1 (l2 p))) with
  | true => show (w.2 - (w.1 + w.2) / 2).toNat < _; omega
  | false => show ((w.1 + w.2) / 2 - w.1).toNat < _; omega
theorem due_step {ls : Lin} {lo hi : Int} (hl : lo ≤ hi) (p : Int × Int) (w : List (Int × (Int × Int))) : (bif (!(decide ((v__law_prefers ls lo (l2 p)) = (v__law_prefers ls hi (l2 p))))) then (w ++ [((v__law_first_change ls lo hi (l2 p)), p)]) else w) = addO w (chAt ls lo hi p) := by
  rw [prefers_v, prefers_v]
  cases e : chAt ls lo hi p with
  | none => rw [decide_eq_true ((chAt_none hl).mp e)]; rfl
  | some y =>
    obtain ⟨c, h1, h2, h3, rfl⟩ := chAt_some.mp e
    have : ¬ pf ls lo p = pf ls hi p := fun g => by rw [(chAt_none hl).mpr g] at e; cases e
    rw [decide_eq_false this, half_v h1 h2 h3]
    rfl
theorem due_v {ls : Lin} (wf : WfN ls) {lo hi : Int} (hl : lo ≤ hi) : v__law_due ls lo hi = srtN pP (chgs ls lo hi) := by
  unfold v__law_due v__law_due_s1
  rw [lpairs_v wf.l8, forV_app (chAt ls lo hi) _ fun x hx k w => congrArg k (due_step hl x w)]
  rfl
theorem due_C {ls : Lin} (wf : WfN ls) {lo hi : Int} (hl : lo ≤ hi) : C__law_due ls lo hi := by
  unfold C__law_due C__law_due_s1
  rw [lpairs_v wf.l8]
  refine ⟨lpairs_C wf.l8, forV_appC (chAt ls lo hi) _ _ (fun x hx k w hw hk => ?_) (srtOk_pP _)⟩
  have := plen wf.l8
  have hw : w.length ≤ (pairs ls.length).length := by simpa using hw
  refine ⟨prefers_C wf _ hx, prefers_C wf _ hx, fun _ => ⟨half_C wf hx, lim' (by omega)⟩, ?_⟩
  rw [show [x.1, x.2] = l2 x from rfl, due_step hl]
  exact hk
theorem chgs_len {ls : Lin} (wf : WfN ls) (lo hi : Int) : (chgs ls lo hi).length ≤ 28 := Nat.le_trans (List.length_filterMap_le ..) (plen wf.l8)
theorem srt_len {α : Type} (f : α → PyData) (l : List α) : (srtN f l).length = l.length := (List.mergeSort_perm _ _).length_eq
/-! ### what the law compares -/
abbrev told0 (d : PyData) : PyData := .list [.str "returned", d]
theorem answer_v {ls : Lin} (wf : WfN ls) {lo hi : Int} (h0 : 0 ≤ lo) (h1 : lo ≤ hi) (h2 : hi ≤ 1000000000000) : v__law_answer 0 ls (.int lo) (.int hi) = told0 (eQ pP (srtN pP (chgs ls lo hi))) ∧ v__law_answer 1 ls (.int lo) (.int hi) = told0 (.int ((chgs ls lo hi).length : Nat)) := by
  have e := changes_v wf h0 h1 h2
  constructor
  · unfold v__law_answer v__law_answer_s1
    rw [e]
    show told0 (eQ (eP PyData.int (eQ PyData.int)) ((srtN pP (chgs ls lo hi)).map gP)) = _
    show told0 (.tuple (((srtN pP (chgs ls lo hi)).map gP).map _)) = _
    rw [List.map_map]
    rfl
  · unfold v__law_answer v__law_answer_s1 v_line_distance
    rw [e]
    show told0 (.int ((((srtN pP (chgs ls lo hi)).map gP).length : Nat) : Int)) = _
    rw [List.length_map, srt_len]
theorem raised_C : C__law_raised ⟨8, none⟩ := by
  have h : 8 < 10 := by decide
  refine ⟨h, ?_⟩
  iterate 9 (refine ⟨h, fun e => (by first | exact absurd (of_decide_eq_true e) (by decide) | exact lim' (by decide) | exact ⟨rfl, lim' (by decide)⟩), ?_⟩)
  exact ⟨h, fun e => absurd (of_decide_eq_true e) (by decide), fun _ => ⟨by decide, by decide⟩⟩
theorem changes_err {ls : Lin} (wf : WfN ls) {a b : PyData} {x : XN} (h : v_line_changes ls a b = .error x) : x = ⟨8, none⟩ := by
  cases e : v_check_span a b with
  | ok r =>
    obtain ⟨lo, hi, rfl, rfl, h0, h1, h2⟩ := span_of_ok e
    rw [changes_v wf h0 h1 h2] at h
    cases h
  | error y =>
    have e' := e
    unfold v_line_changes at h
    rw [e] at h
    cases h
    unfold v_check_span at e'
    cases g : ((!(v_is_place a)) || ((!(v_is_place b)) || (decide ((dI b) < (dI a))))) with
    | true => rw [g] at e'; cases e'; rfl
    | false => rw [g] at e'; cases e'
theorem answer_C {ls : Lin} (wf : WfN ls) (k : Int) (a b : PyData) : C__law_answer k ls a b := by
  unfold C__law_answer C__law_answer_s1
  refine ⟨fun _ => changes_C wf a b, fun _ => changes_C wf a b, fun x h => ?_⟩
  have : x = ⟨8, none⟩ := by
    cases e : v_line_changes ls a b with
    | ok r =>
      unfold v_line_distance at h
      rw [e] at h
      cases g : decide (k = (0 : Int)) <;> (rw [g] at h; cases h)
    | error y =>
      have := changes_err wf e
      subst this
      unfold v_line_distance at h
      rw [e] at h
      cases g : decide (k = (0 : Int)) <;> (rw [g] at h; cases h; rfl)
  subst this
  exact ⟨show 8 < 10 by decide, raised_C⟩
theorem answer_bad {ls : Lin} {a b : PyData} (h : (!withinB a 0 1000000000000 || (!withinB b 0 1000000000000 || decide (dI b < dI a))) = true) : ([(0 : Int), 1].map fun k => v__law_answer k ls a b) = [.list [.str "NoSpan"], .list [.str "NoSpan"]] := by
  have e := changes_bad (ls := ls) h
  show [v__law_answer 0 ls a b, v__law_answer 1 ls a b] = _
  unfold v__law_answer v__law_answer_s1 v_line_distance
  rw [e]
  rfl
theorem cl_pP {m : Nat} (x : Int × (Int × Int))   : Cl (m + 2) (pP x) := ⟨ll rfl, fun d hd => by
  simp only [List.mem_cons, List.not_mem_nil, or_false] at hd
  rcases hd with rfl | rfl
  · cases m <;> trivial
  · refine ⟨ll rfl, fun d hd => ?_⟩
    simp only [List.mem_cons, List.not_mem_nil, or_false] at hd
    rcases hd with rfl | rfl <;> (cases m <;> trivial)⟩
theorem same_C {ls : Lin} (wf : WfN ls) {lo hi : Int} (h0 : 0 ≤ lo) (h1 : lo ≤ hi) (h2 : hi ≤ 1000000000000) : C__law_same (eL eD ([(0 : Int), 1].map fun x => v__law_answer x ls (.int lo) (.int hi))) (eL (eL eD) [[(PyData.str ("returned" : Str)), (eQ pP (v__law_due ls lo hi))], [(PyData.str ("returned" : Str)), (PyData.int (((v__law_due ls lo hi).length : Nat) : Int))]]) := by
  obtain ⟨a0, a1⟩ := answer_v wf h0 h1 h2
  have e : (eL eD ([(0 : Int), 1].map fun x => v__law_answer x ls (.int lo) (.int hi))) = .list [told0 (eQ pP (srtN pP (chgs ls lo hi))), told0 (.int ((chgs ls lo hi).length : Nat))] := by
    show PyData.list [v__law_answer 0 ls (.int lo) (.int hi), v__law_answer 1 ls (.int lo) (.int hi)] = _
    rw [a0, a1]
  rw [e, due_v wf h1, srt_len]
  refine ⟨rfl, ll rfl, fun d hd => ?_⟩
  have hs : SeqAt.shaped (.str "returned") = true := by decide +kernel
  simp only [List.mem_cons, List.not_mem_nil, or_false] at hd
  rcases hd with rfl | rfl
  · refine ⟨ll rfl, fun d hd => ?_⟩
    simp only [List.mem_cons, List.not_mem_nil, or_false] at hd
    rcases hd with rfl | rfl
    · exact hs
    · refine ⟨by rw [List.length_map, srt_len]; have := chgs_len wf lo hi; omega, fun d hd => ?_⟩
      obtain ⟨x, _, rfl⟩ := List.mem_map.mp hd
      exact cl_pP x
  · refine ⟨ll rfl, fun d hd => ?_⟩
    simp only [List.mem_cons, List.not_mem_nil, or_false] at hd
    rcases hd with rfl | rfl
    · exact hs
    · trivial
theorem ranked_v (ls : Lin) (t : Int) : v__law_ranked ls t = rankN ls t := rfl
theorem ranked_C {ls : Lin} (wf : WfN ls) (t : Int) : C__law_ranked ls t := by
  have l8 := wf.l8
  refine ⟨by rw [enN_len]; exact lim (by omega), fun x hx => ?_, srtOk_p _, by rw [srt_len, List.length_map, enN_len]; exact lim (by omega)⟩
  rw [enN_rng] at hx
  obtain ⟨d, hd, rfl⟩ := List.mem_map.mp hx
  have := wf.bd _ (gt_memL (mem_rng.mp hd))
  exact .inl ⟨by show _ < (gt ls d).2; omega, by show (gt ls d).2 < _; omega⟩
theorem unlike_v {ls : Lin} (wf : WfN ls) {lo hi : Int} (hl : lo ≤ hi) : (v__law_unlike (rankN ls lo) (rankN ls hi)).length = (chgs ls lo hi).length := by
  unfold v__law_unlike v__law_unlike_s1
  rw [(rankN_rank ls lo).len, lpairs_v wf.l8, forV_app (fun x => (chAt ls lo hi x).map (·.2)) _ fun x hx k w => ?_, List.nil_append]
  · unfold chgs
    rw [← List.map_filterMap, List.length_map]
  · show k _ = k _
    congr 1
    rw [rankN_pf hx, rankN_pf hx]
    cases e : chAt ls lo hi x with
    | none => rw [decide_eq_true ((chAt_none hl).mp e)]; rfl
    | some y =>
      have : ¬ pf ls lo x = pf ls hi x := fun g => by rw [(chAt_none hl).mpr g] at e; cases e
      obtain ⟨c, h1, h2, h3, rfl⟩ := chAt_some.mp e
      rw [decide_eq_false this]
      rfl
theorem unlike_C {ls : Lin} (wf : WfN ls) {lo hi : Int} (hl : lo ≤ hi) : C__law_unlike (rankN ls lo) (rankN ls hi) := by
  unfold C__law_unlike C__law_unlike_s1
  have Ra := rankN_rank ls lo
  have Rb := rankN_rank ls hi
  rw [Ra.len, lpairs_v wf.l8]
  refine ⟨lpairs_C wf.l8, forV_appC (fun x => (chAt ls lo hi x).map (·.2)) _ _ (fun x hx k w hw hk => ?_) trivial⟩
  obtain ⟨h0, h1, h2⟩ := mem_pairs hx
  have := plen wf.l8
  have hw : w.length ≤ (pairs ls.length).length := by simpa using hw
  refine ⟨Ra.mem h0 (by omega), Ra.mem (by omega) h2, Rb.mem h0 (by omega), Rb.mem (by omega) h2, fun _ => lim' (by omega), ?_⟩
  rw [rankN_pf hx, rankN_pf hx]
  cases e : chAt ls lo hi x with
  | none => rw [e] at hk; rw [decide_eq_true ((chAt_none hl).mp e)]; exact hk
  | some y =>
    have g : ¬ pf ls lo x = pf ls hi x := fun g => by rw [(chAt_none hl).mpr g] at e; cases e
    obtain ⟨c, h1, h2, h3, rfl⟩ := chAt_some.mp e
    rw [e] at hk
    rw [decide_eq_false g]
    exact hk
theorem shw_line {ls : Lin} (wf : WfN ls) : Shw (eQ pI ls) := by
  have l8 := wf.l8
  have w2 : ∀ e ∈ ls.map pI, Wf 16 1 e ∧ sz e ≤ 3 := fun e he => by
    obtain ⟨p, hp, rfl⟩ := List.mem_map.mp he
    have := wf.bd p hp
    refine ⟨wf_two (L := 16) (D := 0) (e := .int p.1) (show p.1.natAbs ≤ 10 ^ 59 + 16 from Nat.le_trans (Nat.le_trans (show p.1.natAbs ≤ 1000000000001 by omega) (by decide)) (Nat.le_add_right _ _)) (by decide) (big59 (by omega)), ?_⟩
    show 1 + (1 + (1 + 0)) ≤ 3
    decide
  refine shw_of (L := 16) (D := 2) (S := 100) (Wf.tup (by rw [List.length_map]; omega) fun e he => (w2 e he).1) (by decide) (by decide) ?_ (by decide)
  show 1 + szAll (ls.map pI) ≤ 100
  have := szAll_le (ls.map pI) fun e he => (w2 e he).2
  rw [List.length_map] at this
  omega
theorem law_w : w_law 0 fun r _ => r = true := by
  unfold w_law
  refine ⟨⟨by decide, by decide⟩, forW_m 200 2000 (fun n hn => rfl) _ 0 (by decide) fun x hx k n hn hk => ?_⟩
  refine line_w (by decide) (by decide) (by omega) fun ls n1 wf _ hn1 => ?_
  unfold w_law_s1 w_law_s2
  have shw := shw_line wf
  refine ⟨shw, ⟨by decide, by decide⟩, ?_⟩
  refine forW_m 20 (n + 150) (fun n2 hn2 => ?_) _ n1 (by show n1 + 20 * 3 ≤ _; omega) fun y hy k2 n2 hn2 hk2 => ?_
  · unfold w_law_s3
    refine bad_span_w (by omega) fun p hp hb => ?_
    unfold w_law_s4 w_law_s5
    rw [answer_bad hb]
    refine ⟨⟨lim (by decide), fun x _ => answer_C wf x _ _⟩, ⟨⟨by decide +kernel, by decide +kernel⟩, fun _ => shw⟩, fun h => ?_, fun _ => hk _ (by omega)⟩
    exfalso
    have e : (!(PyData.eqv (eL eD [.list [.str "NoSpan"], .list [.str "NoSpan"]]) (eL eD [(eL PyData.str [("NoSpan" : Str)]), (eL PyData.str [("NoSpan" : Str)])]))) = false := by decide +kernel
    have e2 : (!decide ((PyData.shown (eQ (eP PyData.int PyData.int) ls)) = (PyData.shown (eQ (eP PyData.int PyData.int) ls)))) = false := by simp
    rw [e, e2] at h
    cases h
  · refine span_w wf (by omega) fun lo hi n3 h0 h1 h2 hn3 => ⟨due_C wf h1, ⟨lim (by decide), fun x _ => answer_C wf x _ _⟩, same_C wf h0 h1 h2, ⟨fun h => (by cases h), fun _ => ⟨⟨ranked_C wf _, ranked_C wf _, unlike_C wf h1⟩, fun h => ?_, fun _ => hk2 _ (by omega)⟩⟩⟩
    exfalso
    have e : (((v__law_unlike (v__law_ranked ls lo) (v__law_ranked ls hi)).length : Nat) : Int) = (((v__law_due ls lo hi).length : Nat) : Int) := by
      rw [ranked_v, ranked_v, unlike_v wf h1, due_v wf h1, srt_len]
    have h : (!decide ((((v__law_unlike (v__law_ranked ls lo) (v__law_ranked ls hi)).length : Nat) : Int) = (((v__law_due ls lo hi).length : Nat) : Int))) = true := h
    rw [decide_eq_true e] at h
    cases h
end TR
namespace TR
open PySem PySem.Spec PyProof.Rows L2
theorem inj_of (l : List Addr) (h : l.Nodup) : Inj (fun i => l.getD i 0) l.length := fun i j hi hj e => by
  exact (List.getD_inj hi hj h).mp e
set_option maxHeartbeats 0 in
theorem all_mk {l : PySem.W.OpenLaw} {w : World} {K : PySem.W.Frag} {h : Heap} {mg : Str → Option Value} {fa f0 f1 f2 f3 f4 f5 f6 f7 f8 f9 f10 f11 f12 f13 f14 f15 f16 f17 f18 f19 f20 f21 f22 f23 f24 f25 : Addr} (X : K.In h) (G : h.Ns mainGlobals mg) (hfa : mg "law" = some (.ref fa))
    {od0 an0 od1 an1 od2 an2 od3 an3 od4 an4 od5 an5 od6 an6 od7 an7 od8 an8 od9 an9 od10 an10 od11 an11 od12 an12 od13 an13 od14 an14 od15 an15 od16 an16 od17 an17 od18 an18 od19 an19 od20 an20 od21 an21 od22 an22 od23 an23 od24 an24 od25 an25 : Option Addr} {sl0 sl1 sl2 sl3 sl4 sl5 sl6 sl7 sl8 sl9 sl10 sl11 sl12 sl13 sl14 sl15 sl16 sl17 sl18 sl19 sl20 sl21 sl22 sl23 sl24 sl25 : Array (Option Value)} {oc0 kV0 dc0 pm0 cd0 ct0 oc1 kV1 dc1 pm1 cd1 ct1 oc2 kV2 dc2 pm2 cd2 ct2 oc3 kV3 dc3 pm3 cd3 ct3 oc4 kV4 dc4 pm4 cd4 ct4 oc5 kV5 dc5 pm5 cd5 ct5 oc6 kV6 dc6 pm6 cd6 ct6 oc7 kV7 dc7 pm7 cd7 ct7 oc8 kV8 dc8 pm8 cd8 ct8 oc9 kV9 dc9 pm9 cd9 ct9 oc10 kV10 dc10 pm10 cd10 ct10 oc11 kV11 dc11 pm11 cd11 ct11 oc12 kV12 dc12 pm12 cd12 ct12 oc13 kV13 dc13 pm13 cd13 ct13 oc14 kV14 dc14 pm14 cd14 ct14 oc15 kV15 dc15 pm15 cd15 ct15 oc16 kV16 dc16 pm16 cd16 ct16 oc17 kV17 dc17 pm17 cd17 ct17 oc18 kV18 dc18 pm18 cd18 ct18 oc19 kV19 dc19 pm19 cd19 ct19 oc20 kV20 dc20 pm20 cd20 ct20 oc21 kV21 dc21 pm21 cd21 ct21 oc22 kV22 dc22 pm22 cd22 ct22 oc23 kV23 dc23 pm23 cd23 ct23 oc24 kV24 dc24 pm24 cd24 ct24 oc25 kV25 dc25 pm25 cd25 ct25 : Value}
    (a0 : PySem.W.nsIn K mainGlobals "is_whole" = some (some (.ref f0))) (l0 : K.lookup f0 = some ⟨oc0, od0, .func (PySem.W.fnOf "is_whole" "is_whole" (defArgs s_is_whole) (defBody s_is_whole) (defScope s_is_whole) .none kV0 dc0 pm0 an0 cd0 ct0), sl0⟩) (c0 : PySem.W.codeIn K cd0 "is_whole" = true) (k0 : PySem.W.keepIn K (.ref f0) = true)
    (a1 : PySem.W.nsIn K mainGlobals "is_within" = some (some (.ref f1))) (l1 : K.lookup f1 = some ⟨oc1, od1, .func (PySem.W.fnOf "is_within" "is_within" (defArgs s_is_within) (defBody s_is_within) (defScope s_is_within) .none kV1 dc1 pm1 an1 cd1 ct1), sl1⟩) (c1 : PySem.W.codeIn K cd1 "is_within" = true) (k1 : PySem.W.keepIn K (.ref f1) = true)
    (a2 : PySem.W.nsIn K mainGlobals "ascending_tuples" = some (some (.ref f2))) (l2 : K.lookup f2 = some ⟨oc2, od2, .func (PySem.W.fnOf "ascending_tuples" "ascending_tuples" (defArgs s_ascending_tuples) (defBody s_ascending_tuples) (defScope s_ascending_tuples) .none kV2 dc2 pm2 an2 cd2 ct2), sl2⟩) (c2 : PySem.W.codeIn K cd2 "ascending_tuples" = true) (k2 : PySem.W.keepIn K (.ref f2) = true)
    (a3 : PySem.W.nsIn K mainGlobals "all_pairs" = some (some (.ref f3))) (l3 : K.lookup f3 = some ⟨oc3, od3, .func (PySem.W.fnOf "all_pairs" "all_pairs" (defArgs s_all_pairs) (defBody s_all_pairs) (defScope s_all_pairs) .none kV3 dc3 pm3 an3 cd3 ct3), sl3⟩) (c3 : PySem.W.codeIn K cd3 "all_pairs" = true) (k3 : PySem.W.keepIn K (.ref f3) = true)
    (a4 : PySem.W.nsIn K mainGlobals "is_place" = some (some (.ref f4))) (l4 : K.lookup f4 = some ⟨oc4, od4, .func (PySem.W.fnOf "is_place" "is_place" (defArgs s_is_place) (defBody s_is_place) (defScope s_is_place) .none kV4 dc4 pm4 an4 cd4 ct4), sl4⟩) (c4 : PySem.W.codeIn K cd4 "is_place" = true) (k4 : PySem.W.keepIn K (.ref f4) = true)
    (a5 : PySem.W.nsIn K mainGlobals "check_span" = some (some (.ref f5))) (l5 : K.lookup f5 = some ⟨oc5, od5, .func (PySem.W.fnOf "check_span" "check_span" (defArgs s_check_span) (defBody s_check_span) (defScope s_check_span) .none kV5 dc5 pm5 an5 cd5 ct5), sl5⟩) (c5 : PySem.W.codeIn K cd5 "check_span" = true) (k5 : PySem.W.keepIn K (.ref f5) = true)
    (a6 : PySem.W.nsIn K mainGlobals "change_of" = some (some (.ref f6))) (l6 : K.lookup f6 = some ⟨oc6, od6, .func (PySem.W.fnOf "change_of" "change_of" (defArgs s_change_of) (defBody s_change_of) (defScope s_change_of) .none kV6 dc6 pm6 an6 cd6 ct6), sl6⟩) (c6 : PySem.W.codeIn K cd6 "change_of" = true) (k6 : PySem.W.keepIn K (.ref f6) = true)
    (a7 : PySem.W.nsIn K mainGlobals "line_changes" = some (some (.ref f7))) (l7 : K.lookup f7 = some ⟨oc7, od7, .func (PySem.W.fnOf "line_changes" "line_changes" (defArgs s_line_changes) (defBody s_line_changes) (defScope s_line_changes) .none kV7 dc7 pm7 an7 cd7 ct7), sl7⟩) (c7 : PySem.W.codeIn K cd7 "line_changes" = true) (k7 : PySem.W.keepIn K (.ref f7) = true)
    (a8 : PySem.W.nsIn K mainGlobals "line_distance" = some (some (.ref f8))) (l8 : K.lookup f8 = some ⟨oc8, od8, .func (PySem.W.fnOf "line_distance" "line_distance" (defArgs s_line_distance) (defBody s_line_distance) (defScope s_line_distance) .none kV8 dc8 pm8 an8 cd8 ct8), sl8⟩) (c8 : PySem.W.codeIn K cd8 "line_distance" = true) (k8 : PySem.W.keepIn K (.ref f8) = true)
    (a9 : PySem.W.nsIn K mainGlobals "_law_deck" = some (some (.ref f9))) (l9 : K.lookup f9 = some ⟨oc9, od9, .func (PySem.W.fnOf "_law_deck" "_law_deck" (defArgs sDeck) (defBody sDeck) (defScope sDeck) .none kV9 dc9 pm9 an9 cd9 ct9), sl9⟩) (c9 : PySem.W.codeIn K cd9 "_law_deck" = true) (k9 : PySem.W.keepIn K (.ref f9) = true)
    (a10 : PySem.W.nsIn K mainGlobals "_law_next" = some (some (.ref f10))) (l10 : K.lookup f10 = some ⟨oc10, od10, .func (PySem.W.fnOf "_law_next" "_law_next" (defArgs sNext) (defBody sNext) (defScope sNext) .none kV10 dc10 pm10 an10 cd10 ct10), sl10⟩) (c10 : PySem.W.codeIn K cd10 "_law_next" = true) (k10 : PySem.W.keepIn K (.ref f10) = true)
    (a11 : PySem.W.nsIn K mainGlobals "_law_one" = some (some (.ref f11))) (l11 : K.lookup f11 = some ⟨oc11, od11, .func (PySem.W.fnOf "_law_one" "_law_one" (defArgs s__law_one) (defBody s__law_one) (defScope s__law_one) .none kV11 dc11 pm11 an11 cd11 ct11), sl11⟩) (c11 : PySem.W.codeIn K cd11 "_law_one" = true) (k11 : PySem.W.keepIn K (.ref f11) = true)
    (a12 : PySem.W.nsIn K mainGlobals "_law_same" = some (some (.ref f12))) (l12 : K.lookup f12 = some ⟨oc12, od12, .func (PySem.W.fnOf "_law_same" "_law_same" (defArgs s__law_same) (defBody s__law_same) (defScope s__law_same) .none kV12 dc12 pm12 an12 cd12 ct12), sl12⟩) (c12 : PySem.W.codeIn K cd12 "_law_same" = true) (k12 : PySem.W.keepIn K (.ref f12) = true)
    (a13 : PySem.W.nsIn K mainGlobals "_law_pairs" = some (some (.ref f13))) (l13 : K.lookup f13 = some ⟨oc13, od13, .func (PySem.W.fnOf "_law_pairs" "_law_pairs" (defArgs s__law_pairs) (defBody s__law_pairs) (defScope s__law_pairs) .none kV13 dc13 pm13 an13 cd13 ct13), sl13⟩) (c13 : PySem.W.codeIn K cd13 "_law_pairs" = true) (k13 : PySem.W.keepIn K (.ref f13) = true)
    (a14 : PySem.W.nsIn K mainGlobals "_law_unlike" = some (some (.ref f14))) (l14 : K.lookup f14 = some ⟨oc14, od14, .func (PySem.W.fnOf "_law_unlike" "_law_unlike" (defArgs s__law_unlike) (defBody s__law_unlike) (defScope s__law_unlike) .none kV14 dc14 pm14 an14 cd14 ct14), sl14⟩) (c14 : PySem.W.codeIn K cd14 "_law_unlike" = true) (k14 : PySem.W.keepIn K (.ref f14) = true)
    (a15 : PySem.W.nsIn K mainGlobals "_law_line" = some (some (.ref f15))) (l15 : K.lookup f15 = some ⟨oc15, od15, .func (PySem.W.fnOf "_law_line" "_law_line" (defArgs s__law_line) (defBody s__law_line) (defScope s__law_line) .none kV15 dc15 pm15 an15 cd15 ct15), sl15⟩) (c15 : PySem.W.codeIn K cd15 "_law_line" = true) (k15 : PySem.W.keepIn K (.ref f15) = true)
    (a16 : PySem.W.nsIn K mainGlobals "_law_meeting" = some (some (.ref f16))) (l16 : K.lookup f16 = some ⟨oc16, od16, .func (PySem.W.fnOf "_law_meeting" "_law_meeting" (defArgs s__law_meeting) (defBody s__law_meeting) (defScope s__law_meeting) .none kV16 dc16 pm16 an16 cd16 ct16), sl16⟩) (c16 : PySem.W.codeIn K cd16 "_law_meeting" = true) (k16 : PySem.W.keepIn K (.ref f16) = true)
    (a17 : PySem.W.nsIn K mainGlobals "_law_raised" = some (some (.ref f17))) (l17 : K.lookup f17 = some ⟨oc17, od17, .func (PySem.W.fnOf "_law_raised" "_law_raised" (defArgs s__law_raised) (defBody s__law_raised) (defScope s__law_raised) .none kV17 dc17 pm17 an17 cd17 ct17), sl17⟩) (c17 : PySem.W.codeIn K cd17 "_law_raised" = true) (k17 : PySem.W.keepIn K (.ref f17) = true)
    (a18 : PySem.W.nsIn K mainGlobals "_law_span" = some (some (.ref f18))) (l18 : K.lookup f18 = some ⟨oc18, od18, .func (PySem.W.fnOf "_law_span" "_law_span" (defArgs s__law_span) (defBody s__law_span) (defScope s__law_span) .none kV18 dc18 pm18 an18 cd18 ct18), sl18⟩) (c18 : PySem.W.codeIn K cd18 "_law_span" = true) (k18 : PySem.W.keepIn K (.ref f18) = true)
    (a19 : PySem.W.nsIn K mainGlobals "_law_ranked" = some (some (.ref f19))) (l19 : K.lookup f19 = some ⟨oc19, od19, .func (PySem.W.fnOf "_law_ranked" "_law_ranked" (defArgs s__law_ranked) (defBody s__law_ranked) (defScope s__law_ranked) .none kV19 dc19 pm19 an19 cd19 ct19), sl19⟩) (c19 : PySem.W.codeIn K cd19 "_law_ranked" = true) (k19 : PySem.W.keepIn K (.ref f19) = true)
    (a20 : PySem.W.nsIn K mainGlobals "_law_bad_span" = some (some (.ref f20))) (l20 : K.lookup f20 = some ⟨oc20, od20, .func (PySem.W.fnOf "_law_bad_span" "_law_bad_span" (defArgs s__law_bad_span) (defBody s__law_bad_span) (defScope s__law_bad_span) .none kV20 dc20 pm20 an20 cd20 ct20), sl20⟩) (c20 : PySem.W.codeIn K cd20 "_law_bad_span" = true) (k20 : PySem.W.keepIn K (.ref f20) = true)
    (a21 : PySem.W.nsIn K mainGlobals "_law_prefers" = some (some (.ref f21))) (l21 : K.lookup f21 = some ⟨oc21, od21, .func (PySem.W.fnOf "_law_prefers" "_law_prefers" (defArgs s__law_prefers) (defBody s__law_prefers) (defScope s__law_prefers) .none kV21 dc21 pm21 an21 cd21 ct21), sl21⟩) (c21 : PySem.W.codeIn K cd21 "_law_prefers" = true) (k21 : PySem.W.keepIn K (.ref f21) = true)
    (a22 : PySem.W.nsIn K mainGlobals "_law_first_change" = some (some (.ref f22))) (l22 : K.lookup f22 = some ⟨oc22, od22, .func (PySem.W.fnOf "_law_first_change" "_law_first_change" (defArgs s__law_first_change) (defBody s__law_first_change) (defScope s__law_first_change) .none kV22 dc22 pm22 an22 cd22 ct22), sl22⟩) (c22 : PySem.W.codeIn K cd22 "_law_first_change" = true) (k22 : PySem.W.keepIn K (.ref f22) = true)
    (a23 : PySem.W.nsIn K mainGlobals "_law_due" = some (some (.ref f23))) (l23 : K.lookup f23 = some ⟨oc23, od23, .func (PySem.W.fnOf "_law_due" "_law_due" (defArgs s__law_due) (defBody s__law_due) (defScope s__law_due) .none kV23 dc23 pm23 an23 cd23 ct23), sl23⟩) (c23 : PySem.W.codeIn K cd23 "_law_due" = true) (k23 : PySem.W.keepIn K (.ref f23) = true)
    (a24 : PySem.W.nsIn K mainGlobals "_law_answer" = some (some (.ref f24))) (l24 : K.lookup f24 = some ⟨oc24, od24, .func (PySem.W.fnOf "_law_answer" "_law_answer" (defArgs s__law_answer) (defBody s__law_answer) (defScope s__law_answer) .none kV24 dc24 pm24 an24 cd24 ct24), sl24⟩) (c24 : PySem.W.codeIn K cd24 "_law_answer" = true) (k24 : PySem.W.keepIn K (.ref f24) = true)
    (a25 : PySem.W.nsIn K mainGlobals "law" = some (some (.ref f25))) (l25 : K.lookup f25 = some ⟨oc25, od25, .func (PySem.W.fnOf "law" "law" (defArgs s_law) (defBody s_law) (defScope s_law) .none kV25 dc25 pm25 an25 cd25 ct25), sl25⟩) (c25 : PySem.W.codeIn K cd25 "law" = true) (k25 : PySem.W.keepIn K (.ref f25) = true)
    {tc0 : Tok} (zc0 : PySem.W.nsIn K mainGlobals "MAX_WEIGHT" = some (some (.int 1000000000000 tc0)))
    {c_TasteError c_NoRanking c_NoTaster c_NoDish c_NotSeatable c_NoSeating c_NoMenu c_NoSize c_NoCuts c_NoSpan c_NoPlaces  : Addr}
    (eB : PySem.W.nsIn K mainGlobals "TasteError" = some (some (.ref c_TasteError)))
    (eBs : PySem.W.subIn K (.ref c_TasteError) (.type "BaseException") = some true)
    (eBd : PySem.W.hasDictIn K c_TasteError = true)
    (eBt : PySem.W.typeIn K (.ref c_TasteError) = some (.type "type"))
    (ehn : PySem.W.specialIn K (.builtin "object.__class__") "__get__" = some (some (.builtin "getset_descriptor.__get__")))
    (eht : PySem.W.takesIn K (.builtin "object.__class__") = some true)
    (n_NoRanking : PySem.W.nsIn K mainGlobals "NoRanking" = some (some (.ref c_NoRanking)))
    (ga_NoRanking : PySem.W.findIn K (.ref c_NoRanking) "__getattribute__" = some (some (.builtin "BaseException.__getattribute__")))
    (gg_NoRanking : PySem.W.findIn K (.ref c_NoRanking) "__getattr__" = some none)
    (ex_NoRanking : PySem.W.subIn K (.ref c_NoRanking) (.type "BaseException") = some true)
    (hd_NoRanking : PySem.W.hasDictIn K c_NoRanking = true)
    (ha_NoRanking : PySem.W.findIn K (.ref c_NoRanking) "__class__" = some (some (.builtin "object.__class__")))
    (hm_NoRanking : PySem.W.mroIn K c_NoRanking (.type "object") = some true)
    (kp_NoRanking : PySem.W.keepIn K (.ref c_NoRanking) = true)
    (ty_NoRanking : PySem.W.typeIn K (.ref c_NoRanking) = some (.type "type"))
    (sb_NoRanking : PySem.W.subIn K (.ref c_NoRanking) (.ref c_TasteError) = some true)
    (n_NoTaster : PySem.W.nsIn K mainGlobals "NoTaster" = some (some (.ref c_NoTaster)))
    (ga_NoTaster : PySem.W.findIn K (.ref c_NoTaster) "__getattribute__" = some (some (.builtin "BaseException.__getattribute__")))
    (gg_NoTaster : PySem.W.findIn K (.ref c_NoTaster) "__getattr__" = some none)
    (ex_NoTaster : PySem.W.subIn K (.ref c_NoTaster) (.type "BaseException") = some true)
    (hd_NoTaster : PySem.W.hasDictIn K c_NoTaster = true)
    (ha_NoTaster : PySem.W.findIn K (.ref c_NoTaster) "__class__" = some (some (.builtin "object.__class__")))
    (hm_NoTaster : PySem.W.mroIn K c_NoTaster (.type "object") = some true)
    (kp_NoTaster : PySem.W.keepIn K (.ref c_NoTaster) = true)
    (ty_NoTaster : PySem.W.typeIn K (.ref c_NoTaster) = some (.type "type"))
    (sb_NoTaster : PySem.W.subIn K (.ref c_NoTaster) (.ref c_TasteError) = some true)
    (n_NoDish : PySem.W.nsIn K mainGlobals "NoDish" = some (some (.ref c_NoDish)))
    (ga_NoDish : PySem.W.findIn K (.ref c_NoDish) "__getattribute__" = some (some (.builtin "BaseException.__getattribute__")))
    (gg_NoDish : PySem.W.findIn K (.ref c_NoDish) "__getattr__" = some none)
    (ex_NoDish : PySem.W.subIn K (.ref c_NoDish) (.type "BaseException") = some true)
    (hd_NoDish : PySem.W.hasDictIn K c_NoDish = true)
    (ha_NoDish : PySem.W.findIn K (.ref c_NoDish) "__class__" = some (some (.builtin "object.__class__")))
    (hm_NoDish : PySem.W.mroIn K c_NoDish (.type "object") = some true)
    (kp_NoDish : PySem.W.keepIn K (.ref c_NoDish) = true)
    (ty_NoDish : PySem.W.typeIn K (.ref c_NoDish) = some (.type "type"))
    (sb_NoDish : PySem.W.subIn K (.ref c_NoDish) (.ref c_TasteError) = some true)
    (n_NotSeatable : PySem.W.nsIn K mainGlobals "NotSeatable" = some (some (.ref c_NotSeatable)))
    (ga_NotSeatable : PySem.W.findIn K (.ref c_NotSeatable) "__getattribute__" = some (some (.builtin "BaseException.__getattribute__")))
    (gg_NotSeatable : PySem.W.findIn K (.ref c_NotSeatable) "__getattr__" = some none)
    (ex_NotSeatable : PySem.W.subIn K (.ref c_NotSeatable) (.type "BaseException") = some true)
    (hd_NotSeatable : PySem.W.hasDictIn K c_NotSeatable = true)
    (ha_NotSeatable : PySem.W.findIn K (.ref c_NotSeatable) "__class__" = some (some (.builtin "object.__class__")))
    (hm_NotSeatable : PySem.W.mroIn K c_NotSeatable (.type "object") = some true)
    (kp_NotSeatable : PySem.W.keepIn K (.ref c_NotSeatable) = true)
    (ty_NotSeatable : PySem.W.typeIn K (.ref c_NotSeatable) = some (.type "type"))
    (sb_NotSeatable : PySem.W.subIn K (.ref c_NotSeatable) (.ref c_TasteError) = some true)
    (n_NoSeating : PySem.W.nsIn K mainGlobals "NoSeating" = some (some (.ref c_NoSeating)))
    (ga_NoSeating : PySem.W.findIn K (.ref c_NoSeating) "__getattribute__" = some (some (.builtin "BaseException.__getattribute__")))
    (gg_NoSeating : PySem.W.findIn K (.ref c_NoSeating) "__getattr__" = some none)
    (ex_NoSeating : PySem.W.subIn K (.ref c_NoSeating) (.type "BaseException") = some true)
    (hd_NoSeating : PySem.W.hasDictIn K c_NoSeating = true)
    (ha_NoSeating : PySem.W.findIn K (.ref c_NoSeating) "__class__" = some (some (.builtin "object.__class__")))
    (hm_NoSeating : PySem.W.mroIn K c_NoSeating (.type "object") = some true)
    (kp_NoSeating : PySem.W.keepIn K (.ref c_NoSeating) = true)
    (ty_NoSeating : PySem.W.typeIn K (.ref c_NoSeating) = some (.type "type"))
    (sb_NoSeating : PySem.W.subIn K (.ref c_NoSeating) (.ref c_TasteError) = some true)
    (n_NoMenu : PySem.W.nsIn K mainGlobals "NoMenu" = some (some (.ref c_NoMenu)))
    (ga_NoMenu : PySem.W.findIn K (.ref c_NoMenu) "__getattribute__" = some (some (.builtin "BaseException.__getattribute__")))
    (gg_NoMenu : PySem.W.findIn K (.ref c_NoMenu) "__getattr__" = some none)
    (ex_NoMenu : PySem.W.subIn K (.ref c_NoMenu) (.type "BaseException") = some true)
    (hd_NoMenu : PySem.W.hasDictIn K c_NoMenu = true)
    (ha_NoMenu : PySem.W.findIn K (.ref c_NoMenu) "__class__" = some (some (.builtin "object.__class__")))
    (hm_NoMenu : PySem.W.mroIn K c_NoMenu (.type "object") = some true)
    (kp_NoMenu : PySem.W.keepIn K (.ref c_NoMenu) = true)
    (ty_NoMenu : PySem.W.typeIn K (.ref c_NoMenu) = some (.type "type"))
    (sb_NoMenu : PySem.W.subIn K (.ref c_NoMenu) (.ref c_TasteError) = some true)
    (n_NoSize : PySem.W.nsIn K mainGlobals "NoSize" = some (some (.ref c_NoSize)))
    (ga_NoSize : PySem.W.findIn K (.ref c_NoSize) "__getattribute__" = some (some (.builtin "BaseException.__getattribute__")))
    (gg_NoSize : PySem.W.findIn K (.ref c_NoSize) "__getattr__" = some none)
    (ex_NoSize : PySem.W.subIn K (.ref c_NoSize) (.type "BaseException") = some true)
    (hd_NoSize : PySem.W.hasDictIn K c_NoSize = true)
    (ha_NoSize : PySem.W.findIn K (.ref c_NoSize) "__class__" = some (some (.builtin "object.__class__")))
    (hm_NoSize : PySem.W.mroIn K c_NoSize (.type "object") = some true)
    (kp_NoSize : PySem.W.keepIn K (.ref c_NoSize) = true)
    (ty_NoSize : PySem.W.typeIn K (.ref c_NoSize) = some (.type "type"))
    (sb_NoSize : PySem.W.subIn K (.ref c_NoSize) (.ref c_TasteError) = some true)
    (n_NoCuts : PySem.W.nsIn K mainGlobals "NoCuts" = some (some (.ref c_NoCuts)))
    (ga_NoCuts : PySem.W.findIn K (.ref c_NoCuts) "__getattribute__" = some (some (.builtin "BaseException.__getattribute__")))
    (gg_NoCuts : PySem.W.findIn K (.ref c_NoCuts) "__getattr__" = some none)
    (ex_NoCuts : PySem.W.subIn K (.ref c_NoCuts) (.type "BaseException") = some true)
    (hd_NoCuts : PySem.W.hasDictIn K c_NoCuts = true)
    (ha_NoCuts : PySem.W.findIn K (.ref c_NoCuts) "__class__" = some (some (.builtin "object.__class__")))
    (hm_NoCuts : PySem.W.mroIn K c_NoCuts (.type "object") = some true)
    (kp_NoCuts : PySem.W.keepIn K (.ref c_NoCuts) = true)
    (ty_NoCuts : PySem.W.typeIn K (.ref c_NoCuts) = some (.type "type"))
    (sb_NoCuts : PySem.W.subIn K (.ref c_NoCuts) (.ref c_TasteError) = some true)
    (n_NoSpan : PySem.W.nsIn K mainGlobals "NoSpan" = some (some (.ref c_NoSpan)))
    (ga_NoSpan : PySem.W.findIn K (.ref c_NoSpan) "__getattribute__" = some (some (.builtin "BaseException.__getattribute__")))
    (gg_NoSpan : PySem.W.findIn K (.ref c_NoSpan) "__getattr__" = some none)
    (ex_NoSpan : PySem.W.subIn K (.ref c_NoSpan) (.type "BaseException") = some true)
    (hd_NoSpan : PySem.W.hasDictIn K c_NoSpan = true)
    (ha_NoSpan : PySem.W.findIn K (.ref c_NoSpan) "__class__" = some (some (.builtin "object.__class__")))
    (hm_NoSpan : PySem.W.mroIn K c_NoSpan (.type "object") = some true)
    (kp_NoSpan : PySem.W.keepIn K (.ref c_NoSpan) = true)
    (ty_NoSpan : PySem.W.typeIn K (.ref c_NoSpan) = some (.type "type"))
    (sb_NoSpan : PySem.W.subIn K (.ref c_NoSpan) (.ref c_TasteError) = some true)
    (n_NoPlaces : PySem.W.nsIn K mainGlobals "NoPlaces" = some (some (.ref c_NoPlaces)))
    (ga_NoPlaces : PySem.W.findIn K (.ref c_NoPlaces) "__getattribute__" = some (some (.builtin "BaseException.__getattribute__")))
    (gg_NoPlaces : PySem.W.findIn K (.ref c_NoPlaces) "__getattr__" = some none)
    (ex_NoPlaces : PySem.W.subIn K (.ref c_NoPlaces) (.type "BaseException") = some true)
    (hd_NoPlaces : PySem.W.hasDictIn K c_NoPlaces = true)
    (ha_NoPlaces : PySem.W.findIn K (.ref c_NoPlaces) "__class__" = some (some (.builtin "object.__class__")))
    (hm_NoPlaces : PySem.W.mroIn K c_NoPlaces (.type "object") = some true)
    (kp_NoPlaces : PySem.W.keepIn K (.ref c_NoPlaces) = true)
    (ty_NoPlaces : PySem.W.typeIn K (.ref c_NoPlaces) = some (.type "type"))
    (sb_NoPlaces : PySem.W.subIn K (.ref c_NoPlaces) (.ref c_TasteError) = some true)
    (xq_NoSpan : PySem.W.excIn K c_NoSpan [.type "ValueError", .type "Exception", .type "BaseException", .type "object"] "ValueError.__new__" = true)
    (kt_0_0 : PySem.W.kitOne K (.ref c_NoRanking) (.ref c_NoRanking) = some true)
    (kt_0_1 : PySem.W.kitOne K (.ref c_NoRanking) (.ref c_NoTaster) = some false)
    (kt_0_2 : PySem.W.kitOne K (.ref c_NoRanking) (.ref c_NoDish) = some false)
    (kt_0_3 : PySem.W.kitOne K (.ref c_NoRanking) (.ref c_NotSeatable) = some false)
    (kt_0_4 : PySem.W.kitOne K (.ref c_NoRanking) (.ref c_NoSeating) = some false)
    (kt_0_5 : PySem.W.kitOne K (.ref c_NoRanking) (.ref c_NoMenu) = some false)
    (kt_0_6 : PySem.W.kitOne K (.ref c_NoRanking) (.ref c_NoSize) = some false)
    (kt_0_7 : PySem.W.kitOne K (.ref c_NoRanking) (.ref c_NoCuts) = some false)
    (kt_0_8 : PySem.W.kitOne K (.ref c_NoRanking) (.ref c_NoSpan) = some false)
    (kt_0_9 : PySem.W.kitOne K (.ref c_NoRanking) (.ref c_NoPlaces) = some false)
    (kv_0 : PySem.W.kitOne K (.ref c_NoRanking) (.type "ValueError") = some true)
    (nfx_obstruction_0 : PySem.W.findIn K (.ref c_NoRanking) "obstruction" = some none)
    (nfx_size_0 : PySem.W.findIn K (.ref c_NoRanking) "size" = some none)
    (nfx_dish_0 : PySem.W.findIn K (.ref c_NoRanking) "dish" = some none)
    (nfx_ranking_0 : PySem.W.findIn K (.ref c_NoRanking) "ranking" = some none)
    (nfx_taster_0 : PySem.W.findIn K (.ref c_NoRanking) "taster" = some none)
    (kt_1_0 : PySem.W.kitOne K (.ref c_NoTaster) (.ref c_NoRanking) = some false)
    (kt_1_1 : PySem.W.kitOne K (.ref c_NoTaster) (.ref c_NoTaster) = some true)
    (kt_1_2 : PySem.W.kitOne K (.ref c_NoTaster) (.ref c_NoDish) = some false)
    (kt_1_3 : PySem.W.kitOne K (.ref c_NoTaster) (.ref c_NotSeatable) = some false)
    (kt_1_4 : PySem.W.kitOne K (.ref c_NoTaster) (.ref c_NoSeating) = some false)
    (kt_1_5 : PySem.W.kitOne K (.ref c_NoTaster) (.ref c_NoMenu) = some false)
    (kt_1_6 : PySem.W.kitOne K (.ref c_NoTaster) (.ref c_NoSize) = some false)
    (kt_1_7 : PySem.W.kitOne K (.ref c_NoTaster) (.ref c_NoCuts) = some false)
    (kt_1_8 : PySem.W.kitOne K (.ref c_NoTaster) (.ref c_NoSpan) = some false)
    (kt_1_9 : PySem.W.kitOne K (.ref c_NoTaster) (.ref c_NoPlaces) = some false)
    (kv_1 : PySem.W.kitOne K (.ref c_NoTaster) (.type "ValueError") = some true)
    (nfx_obstruction_1 : PySem.W.findIn K (.ref c_NoTaster) "obstruction" = some none)
    (nfx_size_1 : PySem.W.findIn K (.ref c_NoTaster) "size" = some none)
    (nfx_dish_1 : PySem.W.findIn K (.ref c_NoTaster) "dish" = some none)
    (nfx_ranking_1 : PySem.W.findIn K (.ref c_NoTaster) "ranking" = some none)
    (nfx_taster_1 : PySem.W.findIn K (.ref c_NoTaster) "taster" = some none)
    (kt_2_0 : PySem.W.kitOne K (.ref c_NoDish) (.ref c_NoRanking) = some false)
    (kt_2_1 : PySem.W.kitOne K (.ref c_NoDish) (.ref c_NoTaster) = some false)
    (kt_2_2 : PySem.W.kitOne K (.ref c_NoDish) (.ref c_NoDish) = some true)
    (kt_2_3 : PySem.W.kitOne K (.ref c_NoDish) (.ref c_NotSeatable) = some false)
    (kt_2_4 : PySem.W.kitOne K (.ref c_NoDish) (.ref c_NoSeating) = some false)
    (kt_2_5 : PySem.W.kitOne K (.ref c_NoDish) (.ref c_NoMenu) = some false)
    (kt_2_6 : PySem.W.kitOne K (.ref c_NoDish) (.ref c_NoSize) = some false)
    (kt_2_7 : PySem.W.kitOne K (.ref c_NoDish) (.ref c_NoCuts) = some false)
    (kt_2_8 : PySem.W.kitOne K (.ref c_NoDish) (.ref c_NoSpan) = some false)
    (kt_2_9 : PySem.W.kitOne K (.ref c_NoDish) (.ref c_NoPlaces) = some false)
    (kv_2 : PySem.W.kitOne K (.ref c_NoDish) (.type "ValueError") = some true)
    (nfx_obstruction_2 : PySem.W.findIn K (.ref c_NoDish) "obstruction" = some none)
    (nfx_size_2 : PySem.W.findIn K (.ref c_NoDish) "size" = some none)
    (nfx_dish_2 : PySem.W.findIn K (.ref c_NoDish) "dish" = some none)
    (nfx_ranking_2 : PySem.W.findIn K (.ref c_NoDish) "ranking" = some none)
    (nfx_taster_2 : PySem.W.findIn K (.ref c_NoDish) "taster" = some none)
    (kt_3_0 : PySem.W.kitOne K (.ref c_NotSeatable) (.ref c_NoRanking) = some false)
    (kt_3_1 : PySem.W.kitOne K (.ref c_NotSeatable) (.ref c_NoTaster) = some false)
    (kt_3_2 : PySem.W.kitOne K (.ref c_NotSeatable) (.ref c_NoDish) = some false)
    (kt_3_3 : PySem.W.kitOne K (.ref c_NotSeatable) (.ref c_NotSeatable) = some true)
    (kt_3_4 : PySem.W.kitOne K (.ref c_NotSeatable) (.ref c_NoSeating) = some false)
    (kt_3_5 : PySem.W.kitOne K (.ref c_NotSeatable) (.ref c_NoMenu) = some false)
    (kt_3_6 : PySem.W.kitOne K (.ref c_NotSeatable) (.ref c_NoSize) = some false)
    (kt_3_7 : PySem.W.kitOne K (.ref c_NotSeatable) (.ref c_NoCuts) = some false)
    (kt_3_8 : PySem.W.kitOne K (.ref c_NotSeatable) (.ref c_NoSpan) = some false)
    (kt_3_9 : PySem.W.kitOne K (.ref c_NotSeatable) (.ref c_NoPlaces) = some false)
    (kv_3 : PySem.W.kitOne K (.ref c_NotSeatable) (.type "ValueError") = some true)
    (nfx_obstruction_3 : PySem.W.findIn K (.ref c_NotSeatable) "obstruction" = some none)
    (nfx_size_3 : PySem.W.findIn K (.ref c_NotSeatable) "size" = some none)
    (nfx_dish_3 : PySem.W.findIn K (.ref c_NotSeatable) "dish" = some none)
    (nfx_ranking_3 : PySem.W.findIn K (.ref c_NotSeatable) "ranking" = some none)
    (nfx_taster_3 : PySem.W.findIn K (.ref c_NotSeatable) "taster" = some none)
    (kt_4_0 : PySem.W.kitOne K (.ref c_NoSeating) (.ref c_NoRanking) = some false)
    (kt_4_1 : PySem.W.kitOne K (.ref c_NoSeating) (.ref c_NoTaster) = some false)
    (kt_4_2 : PySem.W.kitOne K (.ref c_NoSeating) (.ref c_NoDish) = some false)
    (kt_4_3 : PySem.W.kitOne K (.ref c_NoSeating) (.ref c_NotSeatable) = some false)
    (kt_4_4 : PySem.W.kitOne K (.ref c_NoSeating) (.ref c_NoSeating) = some true)
    (kt_4_5 : PySem.W.kitOne K (.ref c_NoSeating) (.ref c_NoMenu) = some false)
    (kt_4_6 : PySem.W.kitOne K (.ref c_NoSeating) (.ref c_NoSize) = some false)
    (kt_4_7 : PySem.W.kitOne K (.ref c_NoSeating) (.ref c_NoCuts) = some false)
    (kt_4_8 : PySem.W.kitOne K (.ref c_NoSeating) (.ref c_NoSpan) = some false)
    (kt_4_9 : PySem.W.kitOne K (.ref c_NoSeating) (.ref c_NoPlaces) = some false)
    (kv_4 : PySem.W.kitOne K (.ref c_NoSeating) (.type "ValueError") = some true)
    (nfx_obstruction_4 : PySem.W.findIn K (.ref c_NoSeating) "obstruction" = some none)
    (nfx_size_4 : PySem.W.findIn K (.ref c_NoSeating) "size" = some none)
    (nfx_dish_4 : PySem.W.findIn K (.ref c_NoSeating) "dish" = some none)
    (nfx_ranking_4 : PySem.W.findIn K (.ref c_NoSeating) "ranking" = some none)
    (nfx_taster_4 : PySem.W.findIn K (.ref c_NoSeating) "taster" = some none)
    (kt_5_0 : PySem.W.kitOne K (.ref c_NoMenu) (.ref c_NoRanking) = some false)
    (kt_5_1 : PySem.W.kitOne K (.ref c_NoMenu) (.ref c_NoTaster) = some false)
    (kt_5_2 : PySem.W.kitOne K (.ref c_NoMenu) (.ref c_NoDish) = some false)
    (kt_5_3 : PySem.W.kitOne K (.ref c_NoMenu) (.ref c_NotSeatable) = some false)
    (kt_5_4 : PySem.W.kitOne K (.ref c_NoMenu) (.ref c_NoSeating) = some false)
    (kt_5_5 : PySem.W.kitOne K (.ref c_NoMenu) (.ref c_NoMenu) = some true)
    (kt_5_6 : PySem.W.kitOne K (.ref c_NoMenu) (.ref c_NoSize) = some false)
    (kt_5_7 : PySem.W.kitOne K (.ref c_NoMenu) (.ref c_NoCuts) = some false)
    (kt_5_8 : PySem.W.kitOne K (.ref c_NoMenu) (.ref c_NoSpan) = some false)
    (kt_5_9 : PySem.W.kitOne K (.ref c_NoMenu) (.ref c_NoPlaces) = some false)
    (kv_5 : PySem.W.kitOne K (.ref c_NoMenu) (.type "ValueError") = some true)
    (nfx_obstruction_5 : PySem.W.findIn K (.ref c_NoMenu) "obstruction" = some none)
    (nfx_size_5 : PySem.W.findIn K (.ref c_NoMenu) "size" = some none)
    (nfx_dish_5 : PySem.W.findIn K (.ref c_NoMenu) "dish" = some none)
    (nfx_ranking_5 : PySem.W.findIn K (.ref c_NoMenu) "ranking" = some none)
    (nfx_taster_5 : PySem.W.findIn K (.ref c_NoMenu) "taster" = some none)
    (kt_6_0 : PySem.W.kitOne K (.ref c_NoSize) (.ref c_NoRanking) = some false)
    (kt_6_1 : PySem.W.kitOne K (.ref c_NoSize) (.ref c_NoTaster) = some false)
    (kt_6_2 : PySem.W.kitOne K (.ref c_NoSize) (.ref c_NoDish) = some false)
    (kt_6_3 : PySem.W.kitOne K (.ref c_NoSize) (.ref c_NotSeatable) = some false)
    (kt_6_4 : PySem.W.kitOne K (.ref c_NoSize) (.ref c_NoSeating) = some false)
    (kt_6_5 : PySem.W.kitOne K (.ref c_NoSize) (.ref c_NoMenu) = some false)
    (kt_6_6 : PySem.W.kitOne K (.ref c_NoSize) (.ref c_NoSize) = some true)
    (kt_6_7 : PySem.W.kitOne K (.ref c_NoSize) (.ref c_NoCuts) = some false)
    (kt_6_8 : PySem.W.kitOne K (.ref c_NoSize) (.ref c_NoSpan) = some false)
    (kt_6_9 : PySem.W.kitOne K (.ref c_NoSize) (.ref c_NoPlaces) = some false)
    (kv_6 : PySem.W.kitOne K (.ref c_NoSize) (.type "ValueError") = some true)
    (nfx_obstruction_6 : PySem.W.findIn K (.ref c_NoSize) "obstruction" = some none)
    (nfx_size_6 : PySem.W.findIn K (.ref c_NoSize) "size" = some none)
    (nfx_dish_6 : PySem.W.findIn K (.ref c_NoSize) "dish" = some none)
    (nfx_ranking_6 : PySem.W.findIn K (.ref c_NoSize) "ranking" = some none)
    (nfx_taster_6 : PySem.W.findIn K (.ref c_NoSize) "taster" = some none)
    (kt_7_0 : PySem.W.kitOne K (.ref c_NoCuts) (.ref c_NoRanking) = some false)
    (kt_7_1 : PySem.W.kitOne K (.ref c_NoCuts) (.ref c_NoTaster) = some false)
    (kt_7_2 : PySem.W.kitOne K (.ref c_NoCuts) (.ref c_NoDish) = some false)
    (kt_7_3 : PySem.W.kitOne K (.ref c_NoCuts) (.ref c_NotSeatable) = some false)
    (kt_7_4 : PySem.W.kitOne K (.ref c_NoCuts) (.ref c_NoSeating) = some false)
    (kt_7_5 : PySem.W.kitOne K (.ref c_NoCuts) (.ref c_NoMenu) = some false)
    (kt_7_6 : PySem.W.kitOne K (.ref c_NoCuts) (.ref c_NoSize) = some false)
    (kt_7_7 : PySem.W.kitOne K (.ref c_NoCuts) (.ref c_NoCuts) = some true)
    (kt_7_8 : PySem.W.kitOne K (.ref c_NoCuts) (.ref c_NoSpan) = some false)
    (kt_7_9 : PySem.W.kitOne K (.ref c_NoCuts) (.ref c_NoPlaces) = some false)
    (kv_7 : PySem.W.kitOne K (.ref c_NoCuts) (.type "ValueError") = some true)
    (nfx_obstruction_7 : PySem.W.findIn K (.ref c_NoCuts) "obstruction" = some none)
    (nfx_size_7 : PySem.W.findIn K (.ref c_NoCuts) "size" = some none)
    (nfx_dish_7 : PySem.W.findIn K (.ref c_NoCuts) "dish" = some none)
    (nfx_ranking_7 : PySem.W.findIn K (.ref c_NoCuts) "ranking" = some none)
    (nfx_taster_7 : PySem.W.findIn K (.ref c_NoCuts) "taster" = some none)
    (kt_8_0 : PySem.W.kitOne K (.ref c_NoSpan) (.ref c_NoRanking) = some false)
    (kt_8_1 : PySem.W.kitOne K (.ref c_NoSpan) (.ref c_NoTaster) = some false)
    (kt_8_2 : PySem.W.kitOne K (.ref c_NoSpan) (.ref c_NoDish) = some false)
    (kt_8_3 : PySem.W.kitOne K (.ref c_NoSpan) (.ref c_NotSeatable) = some false)
    (kt_8_4 : PySem.W.kitOne K (.ref c_NoSpan) (.ref c_NoSeating) = some false)
    (kt_8_5 : PySem.W.kitOne K (.ref c_NoSpan) (.ref c_NoMenu) = some false)
    (kt_8_6 : PySem.W.kitOne K (.ref c_NoSpan) (.ref c_NoSize) = some false)
    (kt_8_7 : PySem.W.kitOne K (.ref c_NoSpan) (.ref c_NoCuts) = some false)
    (kt_8_8 : PySem.W.kitOne K (.ref c_NoSpan) (.ref c_NoSpan) = some true)
    (kt_8_9 : PySem.W.kitOne K (.ref c_NoSpan) (.ref c_NoPlaces) = some false)
    (kv_8 : PySem.W.kitOne K (.ref c_NoSpan) (.type "ValueError") = some true)
    (nfx_obstruction_8 : PySem.W.findIn K (.ref c_NoSpan) "obstruction" = some none)
    (nfx_size_8 : PySem.W.findIn K (.ref c_NoSpan) "size" = some none)
    (nfx_dish_8 : PySem.W.findIn K (.ref c_NoSpan) "dish" = some none)
    (nfx_ranking_8 : PySem.W.findIn K (.ref c_NoSpan) "ranking" = some none)
    (nfx_taster_8 : PySem.W.findIn K (.ref c_NoSpan) "taster" = some none)
    (kt_9_0 : PySem.W.kitOne K (.ref c_NoPlaces) (.ref c_NoRanking) = some false)
    (kt_9_1 : PySem.W.kitOne K (.ref c_NoPlaces) (.ref c_NoTaster) = some false)
    (kt_9_2 : PySem.W.kitOne K (.ref c_NoPlaces) (.ref c_NoDish) = some false)
    (kt_9_3 : PySem.W.kitOne K (.ref c_NoPlaces) (.ref c_NotSeatable) = some false)
    (kt_9_4 : PySem.W.kitOne K (.ref c_NoPlaces) (.ref c_NoSeating) = some false)
    (kt_9_5 : PySem.W.kitOne K (.ref c_NoPlaces) (.ref c_NoMenu) = some false)
    (kt_9_6 : PySem.W.kitOne K (.ref c_NoPlaces) (.ref c_NoSize) = some false)
    (kt_9_7 : PySem.W.kitOne K (.ref c_NoPlaces) (.ref c_NoCuts) = some false)
    (kt_9_8 : PySem.W.kitOne K (.ref c_NoPlaces) (.ref c_NoSpan) = some false)
    (kt_9_9 : PySem.W.kitOne K (.ref c_NoPlaces) (.ref c_NoPlaces) = some true)
    (kv_9 : PySem.W.kitOne K (.ref c_NoPlaces) (.type "ValueError") = some true)
    (nfx_obstruction_9 : PySem.W.findIn K (.ref c_NoPlaces) "obstruction" = some none)
    (nfx_size_9 : PySem.W.findIn K (.ref c_NoPlaces) "size" = some none)
    (nfx_dish_9 : PySem.W.findIn K (.ref c_NoPlaces) "dish" = some none)
    (nfx_ranking_9 : PySem.W.findIn K (.ref c_NoPlaces) "ranking" = some none)
    (nfx_taster_9 : PySem.W.findIn K (.ref c_NoPlaces) "taster" = some none)
    (z0 : PySem.W.nsIn K mainGlobals "abs" = some none) (z1 : PySem.W.nsIn K mainGlobals "len" = some none) (z2 : PySem.W.nsIn K mainGlobals "isinstance" = some none) (z3 : PySem.W.nsIn K mainGlobals "bool" = some none) (z4 : PySem.W.nsIn K mainGlobals "int" = some none) (z5 : PySem.W.nsIn K mainGlobals "range" = some none) (z6 : PySem.W.nsIn K mainGlobals "tuple" = some none) (z7 : PySem.W.nsIn K mainGlobals "sorted" = some none) (z8 : PySem.W.nsIn K mainGlobals "list" = some none) (z9 : PySem.W.nsIn K mainGlobals "dict" = some none) (z10 : PySem.W.nsIn K mainGlobals "str" = some none) (z11 : PySem.W.nsIn K mainGlobals "max" = some none) (z12 : PySem.W.nsIn K mainGlobals "min" = some none) (z13 : PySem.W.nsIn K mainGlobals "ValueError" = some none) (z14 : PySem.W.nsIn K mainGlobals "enumerate" = some none) (z15 : PySem.W.nsIn K mainGlobals "repr" = some none) :
    ∃ fd : FuncData, (∀ (s : Shared) (v : Value), BindsTo s fd ⟨[v], []⟩ [("_law_script", v)]) ∧ ∀ base : Heap, K.In base → base.Ns mainGlobals mg → RunG l.prog w K mg base 8 fa fd ["_law_script"] (spLaw K) := by
  have e := hfa.symm.trans (PySem.W.mg_of X G a25)
  cases e
  have F0 := fun_mk (st := s_is_whole) l0 c0 k0
  have F1 := fun_mk (st := s_is_within) l1 c1 k1
  have F2 := fun_mk (st := s_ascending_tuples) l2 c2 k2
  have F3 := fun_mk (st := s_all_pairs) l3 c3 k3
  have F4 := fun_mk (st := s_is_place) l4 c4 k4
  have F5 := fun_mk (st := s_check_span) l5 c5 k5
  have F6 := fun_mk (st := s_change_of) l6 c6 k6
  have F7 := fun_mk (st := s_line_changes) l7 c7 k7
  have F8 := fun_mk (st := s_line_distance) l8 c8 k8
  have F9 := fun_mk (st := sDeck) l9 c9 k9
  have F10 := fun_mk (st := sNext) l10 c10 k10
  have F11 := fun_mk (st := s__law_one) l11 c11 k11
  have F12 := fun_mk (st := s__law_same) l12 c12 k12
  have F13 := fun_mk (st := s__law_pairs) l13 c13 k13
  have F14 := fun_mk (st := s__law_unlike) l14 c14 k14
  have F15 := fun_mk (st := s__law_line) l15 c15 k15
  have F16 := fun_mk (st := s__law_meeting) l16 c16 k16
  have F17 := fun_mk (st := s__law_raised) l17 c17 k17
  have F18 := fun_mk (st := s__law_span) l18 c18 k18
  have F19 := fun_mk (st := s__law_ranked) l19 c19 k19
  have F20 := fun_mk (st := s__law_bad_span) l20 c20 k20
  have F21 := fun_mk (st := s__law_prefers) l21 c21 k21
  have F22 := fun_mk (st := s__law_first_change) l22 c22 k22
  have F23 := fun_mk (st := s__law_due) l23 c23 k23
  have F24 := fun_mk (st := s__law_answer) l24 c24 k24
  have F25 := fun_mk (st := s_law) l25 c25 k25
  have b0 := F0.binds (ps := ["value"]) fun _ _ _ _ _ _ us hl => match us, hl with | [_], _ => rfl
  have b1 := F1.binds (ps := ["value", "low", "high"]) fun _ _ _ _ _ _ us hl => match us, hl with | [_, _, _], _ => rfl
  have b2 := F2.binds (ps := ["size", "length"]) fun _ _ _ _ _ _ us hl => match us, hl with | [_, _], _ => rfl
  have b3 := F3.binds (ps := ["dishes"]) fun _ _ _ _ _ _ us hl => match us, hl with | [_], _ => rfl
  have b4 := F4.binds (ps := ["value"]) fun _ _ _ _ _ _ us hl => match us, hl with | [_], _ => rfl
  have b5 := F5.binds (ps := ["low", "high"]) fun _ _ _ _ _ _ us hl => match us, hl with | [_, _], _ => rfl
  have b6 := F6.binds (ps := ["line", "pair"]) fun _ _ _ _ _ _ us hl => match us, hl with | [_, _], _ => rfl
  have b7 := F7.binds (ps := ["line", "low", "high"]) fun _ _ _ _ _ _ us hl => match us, hl with | [_, _, _], _ => rfl
  have b8 := F8.binds (ps := ["line", "low", "high"]) fun _ _ _ _ _ _ us hl => match us, hl with | [_, _, _], _ => rfl
  have b9 := F9.binds (ps := ["_law_script"]) fun _ _ _ _ _ _ us hl => match us, hl with | [_], _ => rfl
  have b10 := F10.binds (ps := ["_law_deck_here", "_law_many"]) fun _ _ _ _ _ _ us hl => match us, hl with | [_, _], _ => rfl
  have b11 := F11.binds (ps := ["_law_deck_here", "_law_some"]) fun _ _ _ _ _ _ us hl => match us, hl with | [_, _], _ => rfl
  have b12 := F12.binds (ps := ["_law_found", "_law_due_here"]) fun _ _ _ _ _ _ us hl => match us, hl with | [_, _], _ => rfl
  have b13 := F13.binds (ps := ["_law_dishes"]) fun _ _ _ _ _ _ us hl => match us, hl with | [_], _ => rfl
  have b14 := F14.binds (ps := ["_law_one_here", "_law_other"]) fun _ _ _ _ _ _ us hl => match us, hl with | [_, _], _ => rfl
  have b15 := F15.binds (ps := ["_law_deck_here", "_law_dishes"]) fun _ _ _ _ _ _ us hl => match us, hl with | [_, _], _ => rfl
  have b16 := F16.binds (ps := ["_law_deck_here", "_law_line_here"]) fun _ _ _ _ _ _ us hl => match us, hl with | [_, _], _ => rfl
  have b17 := F17.binds (ps := ["_law_error"]) fun _ _ _ _ _ _ us hl => match us, hl with | [_], _ => rfl
  have b18 := F18.binds (ps := ["_law_deck_here", "_law_line_here"]) fun _ _ _ _ _ _ us hl => match us, hl with | [_, _], _ => rfl
  have b19 := F19.binds (ps := ["_law_line_here", "_law_t"]) fun _ _ _ _ _ _ us hl => match us, hl with | [_, _], _ => rfl
  have b20 := F20.binds (ps := ["_law_deck_here"]) fun _ _ _ _ _ _ us hl => match us, hl with | [_], _ => rfl
  have b21 := F21.binds (ps := ["_law_line_here", "_law_t", "_law_pair"]) fun _ _ _ _ _ _ us hl => match us, hl with | [_, _, _], _ => rfl
  have b22 := F22.binds (ps := ["_law_line_here", "_law_low", "_law_high", "_law_pair"]) fun _ _ _ _ _ _ us hl => match us, hl with | [_, _, _, _], _ => rfl
  have b23 := F23.binds (ps := ["_law_line_here", "_law_low", "_law_high"]) fun _ _ _ _ _ _ us hl => match us, hl with | [_, _, _], _ => rfl
  have b24 := F24.binds (ps := ["_law_door", "_law_line_here", "_law_low", "_law_high"]) fun _ _ _ _ _ _ us hl => match us, hl with | [_, _, _, _], _ => rfl
  have g0 := PySem.W.mg_of X G a0
  have g1 := PySem.W.mg_of X G a1
  have g2 := PySem.W.mg_of X G a2
  have g3 := PySem.W.mg_of X G a3
  have g4 := PySem.W.mg_of X G a4
  have g5 := PySem.W.mg_of X G a5
  have g6 := PySem.W.mg_of X G a6
  have g7 := PySem.W.mg_of X G a7
  have g8 := PySem.W.mg_of X G a8
  have g9 := PySem.W.mg_of X G a9
  have g10 := PySem.W.mg_of X G a10
  have g11 := PySem.W.mg_of X G a11
  have g12 := PySem.W.mg_of X G a12
  have g13 := PySem.W.mg_of X G a13
  have g14 := PySem.W.mg_of X G a14
  have g15 := PySem.W.mg_of X G a15
  have g16 := PySem.W.mg_of X G a16
  have g17 := PySem.W.mg_of X G a17
  have g18 := PySem.W.mg_of X G a18
  have g19 := PySem.W.mg_of X G a19
  have g20 := PySem.W.mg_of X G a20
  have g21 := PySem.W.mg_of X G a21
  have g22 := PySem.W.mg_of X G a22
  have g23 := PySem.W.mg_of X G a23
  have g24 := PySem.W.mg_of X G a24
  have g25 := PySem.W.mg_of X G a25
  have m_abs := PySem.W.mg_none_of X G z0
  have m_len := PySem.W.mg_none_of X G z1
  have m_isinstance := PySem.W.mg_none_of X G z2
  have m_bool := PySem.W.mg_none_of X G z3
  have m_int := PySem.W.mg_none_of X G z4
  have m_range := PySem.W.mg_none_of X G z5
  have m_tuple := PySem.W.mg_none_of X G z6
  have m_sorted := PySem.W.mg_none_of X G z7
  have m_list := PySem.W.mg_none_of X G z8
  have m_dict := PySem.W.mg_none_of X G z9
  have m_str := PySem.W.mg_none_of X G z10
  have m_max := PySem.W.mg_none_of X G z11
  have m_min := PySem.W.mg_none_of X G z12
  have m_ValueError := PySem.W.mg_none_of X G z13
  have m_enumerate := PySem.W.mg_none_of X G z14
  have m_repr := PySem.W.mg_none_of X G z15
  have gB : mg "TasteError" = some (.ref c_TasteError) := PySem.W.mg_of X G eB
  have gC_NoRanking : mg "NoRanking" = some (.ref c_NoRanking) := PySem.W.mg_of X G n_NoRanking
  have te_NoRanking : PySem.W.exmOne K (.ref c_NoRanking) (.ref c_TasteError) = some true := PySem.W.exm_ref eBs eBd eBt sb_NoRanking
  have ec_NoRanking : ExcC K c_NoRanking := ⟨ga_NoRanking, gg_NoRanking, ex_NoRanking, hd_NoRanking, ha_NoRanking, ehn, eht, hm_NoRanking⟩
  have gC_NoTaster : mg "NoTaster" = some (.ref c_NoTaster) := PySem.W.mg_of X G n_NoTaster
  have te_NoTaster : PySem.W.exmOne K (.ref c_NoTaster) (.ref c_TasteError) = some true := PySem.W.exm_ref eBs eBd eBt sb_NoTaster
  have ec_NoTaster : ExcC K c_NoTaster := ⟨ga_NoTaster, gg_NoTaster, ex_NoTaster, hd_NoTaster, ha_NoTaster, ehn, eht, hm_NoTaster⟩
  have gC_NoDish : mg "NoDish" = some (.ref c_NoDish) := PySem.W.mg_of X G n_NoDish
  have te_NoDish : PySem.W.exmOne K (.ref c_NoDish) (.ref c_TasteError) = some true := PySem.W.exm_ref eBs eBd eBt sb_NoDish
  have ec_NoDish : ExcC K c_NoDish := ⟨ga_NoDish, gg_NoDish, ex_NoDish, hd_NoDish, ha_NoDish, ehn, eht, hm_NoDish⟩
  have gC_NotSeatable : mg "NotSeatable" = some (.ref c_NotSeatable) := PySem.W.mg_of X G n_NotSeatable
  have te_NotSeatable : PySem.W.exmOne K (.ref c_NotSeatable) (.ref c_TasteError) = some true := PySem.W.exm_ref eBs eBd eBt sb_NotSeatable
  have ec_NotSeatable : ExcC K c_NotSeatable := ⟨ga_NotSeatable, gg_NotSeatable, ex_NotSeatable, hd_NotSeatable, ha_NotSeatable, ehn, eht, hm_NotSeatable⟩
  have gC_NoSeating : mg "NoSeating" = some (.ref c_NoSeating) := PySem.W.mg_of X G n_NoSeating
  have te_NoSeating : PySem.W.exmOne K (.ref c_NoSeating) (.ref c_TasteError) = some true := PySem.W.exm_ref eBs eBd eBt sb_NoSeating
  have ec_NoSeating : ExcC K c_NoSeating := ⟨ga_NoSeating, gg_NoSeating, ex_NoSeating, hd_NoSeating, ha_NoSeating, ehn, eht, hm_NoSeating⟩
  have gC_NoMenu : mg "NoMenu" = some (.ref c_NoMenu) := PySem.W.mg_of X G n_NoMenu
  have te_NoMenu : PySem.W.exmOne K (.ref c_NoMenu) (.ref c_TasteError) = some true := PySem.W.exm_ref eBs eBd eBt sb_NoMenu
  have ec_NoMenu : ExcC K c_NoMenu := ⟨ga_NoMenu, gg_NoMenu, ex_NoMenu, hd_NoMenu, ha_NoMenu, ehn, eht, hm_NoMenu⟩
  have gC_NoSize : mg "NoSize" = some (.ref c_NoSize) := PySem.W.mg_of X G n_NoSize
  have te_NoSize : PySem.W.exmOne K (.ref c_NoSize) (.ref c_TasteError) = some true := PySem.W.exm_ref eBs eBd eBt sb_NoSize
  have ec_NoSize : ExcC K c_NoSize := ⟨ga_NoSize, gg_NoSize, ex_NoSize, hd_NoSize, ha_NoSize, ehn, eht, hm_NoSize⟩
  have gC_NoCuts : mg "NoCuts" = some (.ref c_NoCuts) := PySem.W.mg_of X G n_NoCuts
  have te_NoCuts : PySem.W.exmOne K (.ref c_NoCuts) (.ref c_TasteError) = some true := PySem.W.exm_ref eBs eBd eBt sb_NoCuts
  have ec_NoCuts : ExcC K c_NoCuts := ⟨ga_NoCuts, gg_NoCuts, ex_NoCuts, hd_NoCuts, ha_NoCuts, ehn, eht, hm_NoCuts⟩
  have gC_NoSpan : mg "NoSpan" = some (.ref c_NoSpan) := PySem.W.mg_of X G n_NoSpan
  have te_NoSpan : PySem.W.exmOne K (.ref c_NoSpan) (.ref c_TasteError) = some true := PySem.W.exm_ref eBs eBd eBt sb_NoSpan
  have ec_NoSpan : ExcC K c_NoSpan := ⟨ga_NoSpan, gg_NoSpan, ex_NoSpan, hd_NoSpan, ha_NoSpan, ehn, eht, hm_NoSpan⟩
  have gC_NoPlaces : mg "NoPlaces" = some (.ref c_NoPlaces) := PySem.W.mg_of X G n_NoPlaces
  have te_NoPlaces : PySem.W.exmOne K (.ref c_NoPlaces) (.ref c_TasteError) = some true := PySem.W.exm_ref eBs eBd eBt sb_NoPlaces
  have ec_NoPlaces : ExcC K c_NoPlaces := ⟨ga_NoPlaces, gg_NoPlaces, ex_NoPlaces, hd_NoPlaces, ha_NoPlaces, ehn, eht, hm_NoPlaces⟩
  have T_NoSpan : Mk0 K mg "NoSpan" c_NoSpan := ⟨gC_NoSpan, kp_NoSpan, xq_NoSpan, ex_NoSpan, ty_NoSpan⟩
  have ne_0_1 : c_NoRanking ≠ c_NoTaster := fun e => by have z := kt_0_1; rw [e, kt_1_1] at z; cases z
  have ne_0_2 : c_NoRanking ≠ c_NoDish := fun e => by have z := kt_0_2; rw [e, kt_2_2] at z; cases z
  have ne_0_3 : c_NoRanking ≠ c_NotSeatable := fun e => by have z := kt_0_3; rw [e, kt_3_3] at z; cases z
  have ne_0_4 : c_NoRanking ≠ c_NoSeating := fun e => by have z := kt_0_4; rw [e, kt_4_4] at z; cases z
  have ne_0_5 : c_NoRanking ≠ c_NoMenu := fun e => by have z := kt_0_5; rw [e, kt_5_5] at z; cases z
  have ne_0_6 : c_NoRanking ≠ c_NoSize := fun e => by have z := kt_0_6; rw [e, kt_6_6] at z; cases z
  have ne_0_7 : c_NoRanking ≠ c_NoCuts := fun e => by have z := kt_0_7; rw [e, kt_7_7] at z; cases z
  have ne_0_8 : c_NoRanking ≠ c_NoSpan := fun e => by have z := kt_0_8; rw [e, kt_8_8] at z; cases z
  have ne_0_9 : c_NoRanking ≠ c_NoPlaces := fun e => by have z := kt_0_9; rw [e, kt_9_9] at z; cases z
  have ne_1_0 : c_NoTaster ≠ c_NoRanking := fun e => by have z := kt_1_0; rw [e, kt_0_0] at z; cases z
  have ne_1_2 : c_NoTaster ≠ c_NoDish := fun e => by have z := kt_1_2; rw [e, kt_2_2] at z; cases z
  have ne_1_3 : c_NoTaster ≠ c_NotSeatable := fun e => by have z := kt_1_3; rw [e, kt_3_3] at z; cases z
  have ne_1_4 : c_NoTaster ≠ c_NoSeating := fun e => by have z := kt_1_4; rw [e, kt_4_4] at z; cases z
  have ne_1_5 : c_NoTaster ≠ c_NoMenu := fun e => by have z := kt_1_5; rw [e, kt_5_5] at z; cases z
  have ne_1_6 : c_NoTaster ≠ c_NoSize := fun e => by have z := kt_1_6; rw [e, kt_6_6] at z; cases z
  have ne_1_7 : c_NoTaster ≠ c_NoCuts := fun e => by have z := kt_1_7; rw [e, kt_7_7] at z; cases z
  have ne_1_8 : c_NoTaster ≠ c_NoSpan := fun e => by have z := kt_1_8; rw [e, kt_8_8] at z; cases z
  have ne_1_9 : c_NoTaster ≠ c_NoPlaces := fun e => by have z := kt_1_9; rw [e, kt_9_9] at z; cases z
  have ne_2_0 : c_NoDish ≠ c_NoRanking := fun e => by have z := kt_2_0; rw [e, kt_0_0] at z; cases z
  have ne_2_1 : c_NoDish ≠ c_NoTaster := fun e => by have z := kt_2_1; rw [e, kt_1_1] at z; cases z
  have ne_2_3 : c_NoDish ≠ c_NotSeatable := fun e => by have z := kt_2_3; rw [e, kt_3_3] at z; cases z
  have ne_2_4 : c_NoDish ≠ c_NoSeating := fun e => by have z := kt_2_4; rw [e, kt_4_4] at z; cases z
  have ne_2_5 : c_NoDish ≠ c_NoMenu := fun e => by have z := kt_2_5; rw [e, kt_5_5] at z; cases z
  have ne_2_6 : c_NoDish ≠ c_NoSize := fun e => by have z := kt_2_6; rw [e, kt_6_6] at z; cases z
  have ne_2_7 : c_NoDish ≠ c_NoCuts := fun e => by have z := kt_2_7; rw [e, kt_7_7] at z; cases z
  have ne_2_8 : c_NoDish ≠ c_NoSpan := fun e => by have z := kt_2_8; rw [e, kt_8_8] at z; cases z
  have ne_2_9 : c_NoDish ≠ c_NoPlaces := fun e => by have z := kt_2_9; rw [e, kt_9_9] at z; cases z
  have ne_3_0 : c_NotSeatable ≠ c_NoRanking := fun e => by have z := kt_3_0; rw [e, kt_0_0] at z; cases z
  have ne_3_1 : c_NotSeatable ≠ c_NoTaster := fun e => by have z := kt_3_1; rw [e, kt_1_1] at z; cases z
  have ne_3_2 : c_NotSeatable ≠ c_NoDish := fun e => by have z := kt_3_2; rw [e, kt_2_2] at z; cases z
  have ne_3_4 : c_NotSeatable ≠ c_NoSeating := fun e => by have z := kt_3_4; rw [e, kt_4_4] at z; cases z
  have ne_3_5 : c_NotSeatable ≠ c_NoMenu := fun e => by have z := kt_3_5; rw [e, kt_5_5] at z; cases z
  have ne_3_6 : c_NotSeatable ≠ c_NoSize := fun e => by have z := kt_3_6; rw [e, kt_6_6] at z; cases z
  have ne_3_7 : c_NotSeatable ≠ c_NoCuts := fun e => by have z := kt_3_7; rw [e, kt_7_7] at z; cases z
  have ne_3_8 : c_NotSeatable ≠ c_NoSpan := fun e => by have z := kt_3_8; rw [e, kt_8_8] at z; cases z
  have ne_3_9 : c_NotSeatable ≠ c_NoPlaces := fun e => by have z := kt_3_9; rw [e, kt_9_9] at z; cases z
  have ne_4_0 : c_NoSeating ≠ c_NoRanking := fun e => by have z := kt_4_0; rw [e, kt_0_0] at z; cases z
  have ne_4_1 : c_NoSeating ≠ c_NoTaster := fun e => by have z := kt_4_1; rw [e, kt_1_1] at z; cases z
  have ne_4_2 : c_NoSeating ≠ c_NoDish := fun e => by have z := kt_4_2; rw [e, kt_2_2] at z; cases z
  have ne_4_3 : c_NoSeating ≠ c_NotSeatable := fun e => by have z := kt_4_3; rw [e, kt_3_3] at z; cases z
  have ne_4_5 : c_NoSeating ≠ c_NoMenu := fun e => by have z := kt_4_5; rw [e, kt_5_5] at z; cases z
  have ne_4_6 : c_NoSeating ≠ c_NoSize := fun e => by have z := kt_4_6; rw [e, kt_6_6] at z; cases z
  have ne_4_7 : c_NoSeating ≠ c_NoCuts := fun e => by have z := kt_4_7; rw [e, kt_7_7] at z; cases z
  have ne_4_8 : c_NoSeating ≠ c_NoSpan := fun e => by have z := kt_4_8; rw [e, kt_8_8] at z; cases z
  have ne_4_9 : c_NoSeating ≠ c_NoPlaces := fun e => by have z := kt_4_9; rw [e, kt_9_9] at z; cases z
  have ne_5_0 : c_NoMenu ≠ c_NoRanking := fun e => by have z := kt_5_0; rw [e, kt_0_0] at z; cases z
  have ne_5_1 : c_NoMenu ≠ c_NoTaster := fun e => by have z := kt_5_1; rw [e, kt_1_1] at z; cases z
  have ne_5_2 : c_NoMenu ≠ c_NoDish := fun e => by have z := kt_5_2; rw [e, kt_2_2] at z; cases z
  have ne_5_3 : c_NoMenu ≠ c_NotSeatable := fun e => by have z := kt_5_3; rw [e, kt_3_3] at z; cases z
  have ne_5_4 : c_NoMenu ≠ c_NoSeating := fun e => by have z := kt_5_4; rw [e, kt_4_4] at z; cases z
  have ne_5_6 : c_NoMenu ≠ c_NoSize := fun e => by have z := kt_5_6; rw [e, kt_6_6] at z; cases z
  have ne_5_7 : c_NoMenu ≠ c_NoCuts := fun e => by have z := kt_5_7; rw [e, kt_7_7] at z; cases z
  have ne_5_8 : c_NoMenu ≠ c_NoSpan := fun e => by have z := kt_5_8; rw [e, kt_8_8] at z; cases z
  have ne_5_9 : c_NoMenu ≠ c_NoPlaces := fun e => by have z := kt_5_9; rw [e, kt_9_9] at z; cases z
  have ne_6_0 : c_NoSize ≠ c_NoRanking := fun e => by have z := kt_6_0; rw [e, kt_0_0] at z; cases z
  have ne_6_1 : c_NoSize ≠ c_NoTaster := fun e => by have z := kt_6_1; rw [e, kt_1_1] at z; cases z
  have ne_6_2 : c_NoSize ≠ c_NoDish := fun e => by have z := kt_6_2; rw [e, kt_2_2] at z; cases z
  have ne_6_3 : c_NoSize ≠ c_NotSeatable := fun e => by have z := kt_6_3; rw [e, kt_3_3] at z; cases z
  have ne_6_4 : c_NoSize ≠ c_NoSeating := fun e => by have z := kt_6_4; rw [e, kt_4_4] at z; cases z
  have ne_6_5 : c_NoSize ≠ c_NoMenu := fun e => by have z := kt_6_5; rw [e, kt_5_5] at z; cases z
  have ne_6_7 : c_NoSize ≠ c_NoCuts := fun e => by have z := kt_6_7; rw [e, kt_7_7] at z; cases z
  have ne_6_8 : c_NoSize ≠ c_NoSpan := fun e => by have z := kt_6_8; rw [e, kt_8_8] at z; cases z
  have ne_6_9 : c_NoSize ≠ c_NoPlaces := fun e => by have z := kt_6_9; rw [e, kt_9_9] at z; cases z
  have ne_7_0 : c_NoCuts ≠ c_NoRanking := fun e => by have z := kt_7_0; rw [e, kt_0_0] at z; cases z
  have ne_7_1 : c_NoCuts ≠ c_NoTaster := fun e => by have z := kt_7_1; rw [e, kt_1_1] at z; cases z
  have ne_7_2 : c_NoCuts ≠ c_NoDish := fun e => by have z := kt_7_2; rw [e, kt_2_2] at z; cases z
  have ne_7_3 : c_NoCuts ≠ c_NotSeatable := fun e => by have z := kt_7_3; rw [e, kt_3_3] at z; cases z
  have ne_7_4 : c_NoCuts ≠ c_NoSeating := fun e => by have z := kt_7_4; rw [e, kt_4_4] at z; cases z
  have ne_7_5 : c_NoCuts ≠ c_NoMenu := fun e => by have z := kt_7_5; rw [e, kt_5_5] at z; cases z
  have ne_7_6 : c_NoCuts ≠ c_NoSize := fun e => by have z := kt_7_6; rw [e, kt_6_6] at z; cases z
  have ne_7_8 : c_NoCuts ≠ c_NoSpan := fun e => by have z := kt_7_8; rw [e, kt_8_8] at z; cases z
  have ne_7_9 : c_NoCuts ≠ c_NoPlaces := fun e => by have z := kt_7_9; rw [e, kt_9_9] at z; cases z
  have ne_8_0 : c_NoSpan ≠ c_NoRanking := fun e => by have z := kt_8_0; rw [e, kt_0_0] at z; cases z
  have ne_8_1 : c_NoSpan ≠ c_NoTaster := fun e => by have z := kt_8_1; rw [e, kt_1_1] at z; cases z
  have ne_8_2 : c_NoSpan ≠ c_NoDish := fun e => by have z := kt_8_2; rw [e, kt_2_2] at z; cases z
  have ne_8_3 : c_NoSpan ≠ c_NotSeatable := fun e => by have z := kt_8_3; rw [e, kt_3_3] at z; cases z
  have ne_8_4 : c_NoSpan ≠ c_NoSeating := fun e => by have z := kt_8_4; rw [e, kt_4_4] at z; cases z
  have ne_8_5 : c_NoSpan ≠ c_NoMenu := fun e => by have z := kt_8_5; rw [e, kt_5_5] at z; cases z
  have ne_8_6 : c_NoSpan ≠ c_NoSize := fun e => by have z := kt_8_6; rw [e, kt_6_6] at z; cases z
  have ne_8_7 : c_NoSpan ≠ c_NoCuts := fun e => by have z := kt_8_7; rw [e, kt_7_7] at z; cases z
  have ne_8_9 : c_NoSpan ≠ c_NoPlaces := fun e => by have z := kt_8_9; rw [e, kt_9_9] at z; cases z
  have ne_9_0 : c_NoPlaces ≠ c_NoRanking := fun e => by have z := kt_9_0; rw [e, kt_0_0] at z; cases z
  have ne_9_1 : c_NoPlaces ≠ c_NoTaster := fun e => by have z := kt_9_1; rw [e, kt_1_1] at z; cases z
  have ne_9_2 : c_NoPlaces ≠ c_NoDish := fun e => by have z := kt_9_2; rw [e, kt_2_2] at z; cases z
  have ne_9_3 : c_NoPlaces ≠ c_NotSeatable := fun e => by have z := kt_9_3; rw [e, kt_3_3] at z; cases z
  have ne_9_4 : c_NoPlaces ≠ c_NoSeating := fun e => by have z := kt_9_4; rw [e, kt_4_4] at z; cases z
  have ne_9_5 : c_NoPlaces ≠ c_NoMenu := fun e => by have z := kt_9_5; rw [e, kt_5_5] at z; cases z
  have ne_9_6 : c_NoPlaces ≠ c_NoSize := fun e => by have z := kt_9_6; rw [e, kt_6_6] at z; cases z
  have ne_9_7 : c_NoPlaces ≠ c_NoCuts := fun e => by have z := kt_9_7; rw [e, kt_7_7] at z; cases z
  have ne_9_8 : c_NoPlaces ≠ c_NoSpan := fun e => by have z := kt_9_8; rw [e, kt_8_8] at z; cases z
  let cc : Nat → Addr := fun i => [c_NoRanking, c_NoTaster, c_NoDish, c_NotSeatable, c_NoSeating, c_NoMenu, c_NoSize, c_NoCuts, c_NoSpan, c_NoPlaces].getD i 0
  have XT : XTab K [c_NoRanking, c_NoTaster, c_NoDish, c_NotSeatable, c_NoSeating, c_NoMenu, c_NoSize, c_NoCuts, c_NoSpan, c_NoPlaces] c_TasteError := ⟨(List.forall_mem_cons.mpr ⟨ec_NoRanking, (List.forall_mem_cons.mpr ⟨ec_NoTaster, (List.forall_mem_cons.mpr ⟨ec_NoDish, (List.forall_mem_cons.mpr ⟨ec_NotSeatable, (List.forall_mem_cons.mpr ⟨ec_NoSeating, (List.forall_mem_cons.mpr ⟨ec_NoMenu, (List.forall_mem_cons.mpr ⟨ec_NoSize, (List.forall_mem_cons.mpr ⟨ec_NoCuts, (List.forall_mem_cons.mpr ⟨ec_NoSpan, (List.forall_mem_cons.mpr ⟨ec_NoPlaces, fun _ h => nomatch h⟩)⟩)⟩)⟩)⟩)⟩)⟩)⟩)⟩)⟩), (List.forall_mem_cons.mpr ⟨(List.forall_mem_cons.mpr ⟨(kt_0_0.trans (by rw [decide_eq_true rfl])), (List.forall_mem_cons.mpr ⟨(kt_0_1.trans (by rw [decide_eq_false ne_0_1])), (List.forall_mem_cons.mpr ⟨(kt_0_2.trans (by rw [decide_eq_false ne_0_2])), (List.forall_mem_cons.mpr ⟨(kt_0_3.trans (by rw [decide_eq_false ne_0_3])), (List.forall_mem_cons.mpr ⟨(kt_0_4.trans (by rw [decide_eq_false ne_0_4])), (List.forall_mem_cons.mpr ⟨(kt_0_5.trans (by rw [decide_eq_false ne_0_5])), (List.forall_mem_cons.mpr ⟨(kt_0_6.trans (by rw [decide_eq_false ne_0_6])), (List.forall_mem_cons.mpr ⟨(kt_0_7.trans (by rw [decide_eq_false ne_0_7])), (List.forall_mem_cons.mpr ⟨(kt_0_8.trans (by rw [decide_eq_false ne_0_8])), (List.forall_mem_cons.mpr ⟨(kt_0_9.trans (by rw [decide_eq_false ne_0_9])), fun _ h => nomatch h⟩)⟩)⟩)⟩)⟩)⟩)⟩)⟩)⟩)⟩), (List.forall_mem_cons.mpr ⟨(List.forall_mem_cons.mpr ⟨(kt_1_0.trans (by rw [decide_eq_false ne_1_0])), (List.forall_mem_cons.mpr ⟨(kt_1_1.trans (by rw [decide_eq_true rfl])), (List.forall_mem_cons.mpr ⟨(kt_1_2.trans (by rw [decide_eq_false ne_1_2])), (List.forall_mem_cons.mpr ⟨(kt_1_3.trans (by rw [decide_eq_false ne_1_3])), (List.forall_mem_cons.mpr ⟨(kt_1_4.trans (by rw [decide_eq_false ne_1_4])), (List.forall_mem_cons.mpr ⟨(kt_1_5.trans (by rw [decide_eq_false ne_1_5])), (List.forall_mem_cons.mpr ⟨(kt_1_6.trans (by rw [decide_eq_false ne_1_6])), (List.forall_mem_cons.mpr ⟨(kt_1_7.trans (by rw [decide_eq_false ne_1_7])), (List.forall_mem_cons.mpr ⟨(kt_1_8.trans (by rw [decide_eq_false ne_1_8])), (List.forall_mem_cons.mpr ⟨(kt_1_9.trans (by rw [decide_eq_false ne_1_9])), fun _ h => nomatch h⟩)⟩)⟩)⟩)⟩)⟩)⟩)⟩)⟩)⟩), (List.forall_mem_cons.mpr ⟨(List.forall_mem_cons.mpr ⟨(kt_2_0.trans (by rw [decide_eq_false ne_2_0])), (List.forall_mem_cons.mpr ⟨(kt_2_1.trans (by rw [decide_eq_false ne_2_1])), (List.forall_mem_cons.mpr ⟨(kt_2_2.trans (by rw [decide_eq_true rfl])), (List.forall_mem_cons.mpr ⟨(kt_2_3.trans (by rw [decide_eq_false ne_2_3])), (List.forall_mem_cons.mpr ⟨(kt_2_4.trans (by rw [decide_eq_false ne_2_4])), (List.forall_mem_cons.mpr ⟨(kt_2_5.trans (by rw [decide_eq_false ne_2_5])), (List.forall_mem_cons.mpr ⟨(kt_2_6.trans (by rw [decide_eq_false ne_2_6])), (List.forall_mem_cons.mpr ⟨(kt_2_7.trans (by rw [decide_eq_false ne_2_7])), (List.forall_mem_cons.mpr ⟨(kt_2_8.trans (by rw [decide_eq_false ne_2_8])), (List.forall_mem_cons.mpr ⟨(kt_2_9.trans (by rw [decide_eq_false ne_2_9])), fun _ h => nomatch h⟩)⟩)⟩)⟩)⟩)⟩)⟩)⟩)⟩)⟩), (List.forall_mem_cons.mpr ⟨(List.forall_mem_cons.mpr ⟨(kt_3_0.trans (by rw [decide_eq_false ne_3_0])), (List.forall_mem_cons.mpr ⟨(kt_3_1.trans (by rw [decide_eq_false ne_3_1])), (List.forall_mem_cons.mpr ⟨(kt_3_2.trans (by rw [decide_eq_false ne_3_2])), (List.forall_mem_cons.mpr ⟨(kt_3_3.trans (by rw [decide_eq_true rfl])), (List.forall_mem_cons.mpr ⟨(kt_3_4.trans (by rw [decide_eq_false ne_3_4])), (List.forall_mem_cons.mpr ⟨(kt_3_5.trans (by rw [decide_eq_false ne_3_5])), (List.forall_mem_cons.mpr ⟨(kt_3_6.trans (by rw [decide_eq_false ne_3_6])), (List.forall_mem_cons.mpr ⟨(kt_3_7.trans (by rw [decide_eq_false ne_3_7])), (List.forall_mem_cons.mpr ⟨(kt_3_8.trans (by rw [decide_eq_false ne_3_8])), (List.forall_mem_cons.mpr ⟨(kt_3_9.trans (by rw [decide_eq_false ne_3_9])), fun _ h => nomatch h⟩)⟩)⟩)⟩)⟩)⟩)⟩)⟩)⟩)⟩), (List.forall_mem_cons.mpr ⟨(List.forall_mem_cons.mpr ⟨(kt_4_0.trans (by rw [decide_eq_false ne_4_0])), (List.forall_mem_cons.mpr ⟨(kt_4_1.trans (by rw [decide_eq_false ne_4_1])), (List.forall_mem_cons.mpr ⟨(kt_4_2.trans (by rw [decide_eq_false ne_4_2])), (List.forall_mem_cons.mpr ⟨(kt_4_3.trans (by rw [decide_eq_false ne_4_3])), (List.forall_mem_cons.mpr ⟨(kt_4_4.trans (by rw [decide_eq_true rfl])), (List.forall_mem_cons.mpr ⟨(kt_4_5.trans (by rw [decide_eq_false ne_4_5])), (List.forall_mem_cons.mpr ⟨(kt_4_6.trans (by rw [decide_eq_false ne_4_6])), (List.forall_mem_cons.mpr ⟨(kt_4_7.trans (by rw [decide_eq_false ne_4_7])), (List.forall_mem_cons.mpr ⟨(kt_4_8.trans (by rw [decide_eq_false ne_4_8])), (List.forall_mem_cons.mpr ⟨(kt_4_9.trans (by rw [decide_eq_false ne_4_9])), fun _ h => nomatch h⟩)⟩)⟩)⟩)⟩)⟩)⟩)⟩)⟩)⟩), (List.forall_mem_cons.mpr ⟨(List.forall_mem_cons.mpr ⟨(kt_5_0.trans (by rw [decide_eq_false ne_5_0])), (List.forall_mem_cons.mpr ⟨(kt_5_1.trans (by rw [decide_eq_false ne_5_1])), (List.forall_mem_cons.mpr ⟨(kt_5_2.trans (by rw [decide_eq_false ne_5_2])), (List.forall_mem_cons.mpr ⟨(kt_5_3.trans (by rw [decide_eq_false ne_5_3])), (List.forall_mem_cons.mpr ⟨(kt_5_4.trans (by rw [decide_eq_false ne_5_4])), (List.forall_mem_cons.mpr ⟨(kt_5_5.trans (by rw [decide_eq_true rfl])), (List.forall_mem_cons.mpr ⟨(kt_5_6.trans (by rw [decide_eq_false ne_5_6])), (List.forall_mem_cons.mpr ⟨(kt_5_7.trans (by rw [decide_eq_false ne_5_7])), (List.forall_mem_cons.mpr ⟨(kt_5_8.trans (by rw [decide_eq_false ne_5_8])), (List.forall_mem_cons.mpr ⟨(kt_5_9.trans (by rw [decide_eq_false ne_5_9])), fun _ h => nomatch h⟩)⟩)⟩)⟩)⟩)⟩)⟩)⟩)⟩)⟩), (List.forall_mem_cons.mpr ⟨(List.forall_mem_cons.mpr ⟨(kt_6_0.trans (by rw [decide_eq_false ne_6_0])), (List.forall_mem_cons.mpr ⟨(kt_6_1.trans (by rw [decide_eq_false ne_6_1])), (List.forall_mem_cons.mpr ⟨(kt_6_2.trans (by rw [decide_eq_false ne_6_2])), (List.forall_mem_cons.mpr ⟨(kt_6_3.trans (by rw [decide_eq_false ne_6_3])), (List.forall_mem_cons.mpr ⟨(kt_6_4.trans (by rw [decide_eq_false ne_6_4])), (List.forall_mem_cons.mpr ⟨(kt_6_5.trans (by rw [decide_eq_false ne_6_5])), (List.forall_mem_cons.mpr ⟨(kt_6_6.trans (by rw [decide_eq_true rfl])), (List.forall_mem_cons.mpr ⟨(kt_6_7.trans (by rw [decide_eq_false ne_6_7])), (List.forall_mem_cons.mpr ⟨(kt_6_8.trans (by rw [decide_eq_false ne_6_8])), (List.forall_mem_cons.mpr ⟨(kt_6_9.trans (by rw [decide_eq_false ne_6_9])), fun _ h => nomatch h⟩)⟩)⟩)⟩)⟩)⟩)⟩)⟩)⟩)⟩), (List.forall_mem_cons.mpr ⟨(List.forall_mem_cons.mpr ⟨(kt_7_0.trans (by rw [decide_eq_false ne_7_0])), (List.forall_mem_cons.mpr ⟨(kt_7_1.trans (by rw [decide_eq_false ne_7_1])), (List.forall_mem_cons.mpr ⟨(kt_7_2.trans (by rw [decide_eq_false ne_7_2])), (List.forall_mem_cons.mpr ⟨(kt_7_3.trans (by rw [decide_eq_false ne_7_3])), (List.forall_mem_cons.mpr ⟨(kt_7_4.trans (by rw [decide_eq_false ne_7_4])), (List.forall_mem_cons.mpr ⟨(kt_7_5.trans (by rw [decide_eq_false ne_7_5])), (List.forall_mem_cons.mpr ⟨(kt_7_6.trans (by rw [decide_eq_false ne_7_6])), (List.forall_mem_cons.mpr ⟨(kt_7_7.trans (by rw [decide_eq_true rfl])), (List.forall_mem_cons.mpr ⟨(kt_7_8.trans (by rw [decide_eq_false ne_7_8])), (List.forall_mem_cons.mpr ⟨(kt_7_9.trans (by rw [decide_eq_false ne_7_9])), fun _ h => nomatch h⟩)⟩)⟩)⟩)⟩)⟩)⟩)⟩)⟩)⟩), (List.forall_mem_cons.mpr ⟨(List.forall_mem_cons.mpr ⟨(kt_8_0.trans (by rw [decide_eq_false ne_8_0])), (List.forall_mem_cons.mpr ⟨(kt_8_1.trans (by rw [decide_eq_false ne_8_1])), (List.forall_mem_cons.mpr ⟨(kt_8_2.trans (by rw [decide_eq_false ne_8_2])), (List.forall_mem_cons.mpr ⟨(kt_8_3.trans (by rw [decide_eq_false ne_8_3])), (List.forall_mem_cons.mpr ⟨(kt_8_4.trans (by rw [decide_eq_false ne_8_4])), (List.forall_mem_cons.mpr ⟨(kt_8_5.trans (by rw [decide_eq_false ne_8_5])), (List.forall_mem_cons.mpr ⟨(kt_8_6.trans (by rw [decide_eq_false ne_8_6])), (List.forall_mem_cons.mpr ⟨(kt_8_7.trans (by rw [decide_eq_false ne_8_7])), (List.forall_mem_cons.mpr ⟨(kt_8_8.trans (by rw [decide_eq_true rfl])), (List.forall_mem_cons.mpr ⟨(kt_8_9.trans (by rw [decide_eq_false ne_8_9])), fun _ h => nomatch h⟩)⟩)⟩)⟩)⟩)⟩)⟩)⟩)⟩)⟩), (List.forall_mem_cons.mpr ⟨(List.forall_mem_cons.mpr ⟨(kt_9_0.trans (by rw [decide_eq_false ne_9_0])), (List.forall_mem_cons.mpr ⟨(kt_9_1.trans (by rw [decide_eq_false ne_9_1])), (List.forall_mem_cons.mpr ⟨(kt_9_2.trans (by rw [decide_eq_false ne_9_2])), (List.forall_mem_cons.mpr ⟨(kt_9_3.trans (by rw [decide_eq_false ne_9_3])), (List.forall_mem_cons.mpr ⟨(kt_9_4.trans (by rw [decide_eq_false ne_9_4])), (List.forall_mem_cons.mpr ⟨(kt_9_5.trans (by rw [decide_eq_false ne_9_5])), (List.forall_mem_cons.mpr ⟨(kt_9_6.trans (by rw [decide_eq_false ne_9_6])), (List.forall_mem_cons.mpr ⟨(kt_9_7.trans (by rw [decide_eq_false ne_9_7])), (List.forall_mem_cons.mpr ⟨(kt_9_8.trans (by rw [decide_eq_false ne_9_8])), (List.forall_mem_cons.mpr ⟨(kt_9_9.trans (by rw [decide_eq_true rfl])), fun _ h => nomatch h⟩)⟩)⟩)⟩)⟩)⟩)⟩)⟩)⟩)⟩), fun _ h => nomatch h⟩)⟩)⟩)⟩)⟩)⟩)⟩)⟩)⟩)⟩), (List.forall_mem_cons.mpr ⟨kv_0, (List.forall_mem_cons.mpr ⟨kv_1, (List.forall_mem_cons.mpr ⟨kv_2, (List.forall_mem_cons.mpr ⟨kv_3, (List.forall_mem_cons.mpr ⟨kv_4, (List.forall_mem_cons.mpr ⟨kv_5, (List.forall_mem_cons.mpr ⟨kv_6, (List.forall_mem_cons.mpr ⟨kv_7, (List.forall_mem_cons.mpr ⟨kv_8, (List.forall_mem_cons.mpr ⟨kv_9, fun _ h => nomatch h⟩)⟩)⟩)⟩)⟩)⟩)⟩)⟩)⟩)⟩), (List.forall_mem_cons.mpr ⟨te_NoRanking, (List.forall_mem_cons.mpr ⟨te_NoTaster, (List.forall_mem_cons.mpr ⟨te_NoDish, (List.forall_mem_cons.mpr ⟨te_NotSeatable, (List.forall_mem_cons.mpr ⟨te_NoSeating, (List.forall_mem_cons.mpr ⟨te_NoMenu, (List.forall_mem_cons.mpr ⟨te_NoSize, (List.forall_mem_cons.mpr ⟨te_NoCuts, (List.forall_mem_cons.mpr ⟨te_NoSpan, (List.forall_mem_cons.mpr ⟨te_NoPlaces, fun _ h => nomatch h⟩)⟩)⟩)⟩)⟩)⟩)⟩)⟩)⟩)⟩)⟩
  have nff_obstruction : ∀ C ∈ [c_NoRanking, c_NoTaster, c_NoDish, c_NotSeatable, c_NoSeating, c_NoMenu, c_NoSize, c_NoCuts, c_NoSpan, c_NoPlaces], PySem.W.findIn K (.ref C) "obstruction" = some none := (List.forall_mem_cons.mpr ⟨nfx_obstruction_0, (List.forall_mem_cons.mpr ⟨nfx_obstruction_1, (List.forall_mem_cons.mpr ⟨nfx_obstruction_2, (List.forall_mem_cons.mpr ⟨nfx_obstruction_3, (List.forall_mem_cons.mpr ⟨nfx_obstruction_4, (List.forall_mem_cons.mpr ⟨nfx_obstruction_5, (List.forall_mem_cons.mpr ⟨nfx_obstruction_6, (List.forall_mem_cons.mpr ⟨nfx_obstruction_7, (List.forall_mem_cons.mpr ⟨nfx_obstruction_8, (List.forall_mem_cons.mpr ⟨nfx_obstruction_9, fun _ h => nomatch h⟩)⟩)⟩)⟩)⟩)⟩)⟩)⟩)⟩)⟩)
  have nff_size : ∀ C ∈ [c_NoRanking, c_NoTaster, c_NoDish, c_NotSeatable, c_NoSeating, c_NoMenu, c_NoSize, c_NoCuts, c_NoSpan, c_NoPlaces], PySem.W.findIn K (.ref C) "size" = some none := (List.forall_mem_cons.mpr ⟨nfx_size_0, (List.forall_mem_cons.mpr ⟨nfx_size_1, (List.forall_mem_cons.mpr ⟨nfx_size_2, (List.forall_mem_cons.mpr ⟨nfx_size_3, (List.forall_mem_cons.mpr ⟨nfx_size_4, (List.forall_mem_cons.mpr ⟨nfx_size_5, (List.forall_mem_cons.mpr ⟨nfx_size_6, (List.forall_mem_cons.mpr ⟨nfx_size_7, (List.forall_mem_cons.mpr ⟨nfx_size_8, (List.forall_mem_cons.mpr ⟨nfx_size_9, fun _ h => nomatch h⟩)⟩)⟩)⟩)⟩)⟩)⟩)⟩)⟩)⟩)
  have nff_dish : ∀ C ∈ [c_NoRanking, c_NoTaster, c_NoDish, c_NotSeatable, c_NoSeating, c_NoMenu, c_NoSize, c_NoCuts, c_NoSpan, c_NoPlaces], PySem.W.findIn K (.ref C) "dish" = some none := (List.forall_mem_cons.mpr ⟨nfx_dish_0, (List.forall_mem_cons.mpr ⟨nfx_dish_1, (List.forall_mem_cons.mpr ⟨nfx_dish_2, (List.forall_mem_cons.mpr ⟨nfx_dish_3, (List.forall_mem_cons.mpr ⟨nfx_dish_4, (List.forall_mem_cons.mpr ⟨nfx_dish_5, (List.forall_mem_cons.mpr ⟨nfx_dish_6, (List.forall_mem_cons.mpr ⟨nfx_dish_7, (List.forall_mem_cons.mpr ⟨nfx_dish_8, (List.forall_mem_cons.mpr ⟨nfx_dish_9, fun _ h => nomatch h⟩)⟩)⟩)⟩)⟩)⟩)⟩)⟩)⟩)⟩)
  have nff_ranking : ∀ C ∈ [c_NoRanking, c_NoTaster, c_NoDish, c_NotSeatable, c_NoSeating, c_NoMenu, c_NoSize, c_NoCuts, c_NoSpan, c_NoPlaces], PySem.W.findIn K (.ref C) "ranking" = some none := (List.forall_mem_cons.mpr ⟨nfx_ranking_0, (List.forall_mem_cons.mpr ⟨nfx_ranking_1, (List.forall_mem_cons.mpr ⟨nfx_ranking_2, (List.forall_mem_cons.mpr ⟨nfx_ranking_3, (List.forall_mem_cons.mpr ⟨nfx_ranking_4, (List.forall_mem_cons.mpr ⟨nfx_ranking_5, (List.forall_mem_cons.mpr ⟨nfx_ranking_6, (List.forall_mem_cons.mpr ⟨nfx_ranking_7, (List.forall_mem_cons.mpr ⟨nfx_ranking_8, (List.forall_mem_cons.mpr ⟨nfx_ranking_9, fun _ h => nomatch h⟩)⟩)⟩)⟩)⟩)⟩)⟩)⟩)⟩)⟩)
  have nff_taster : ∀ C ∈ [c_NoRanking, c_NoTaster, c_NoDish, c_NotSeatable, c_NoSeating, c_NoMenu, c_NoSize, c_NoCuts, c_NoSpan, c_NoPlaces], PySem.W.findIn K (.ref C) "taster" = some none := (List.forall_mem_cons.mpr ⟨nfx_taster_0, (List.forall_mem_cons.mpr ⟨nfx_taster_1, (List.forall_mem_cons.mpr ⟨nfx_taster_2, (List.forall_mem_cons.mpr ⟨nfx_taster_3, (List.forall_mem_cons.mpr ⟨nfx_taster_4, (List.forall_mem_cons.mpr ⟨nfx_taster_5, (List.forall_mem_cons.mpr ⟨nfx_taster_6, (List.forall_mem_cons.mpr ⟨nfx_taster_7, (List.forall_mem_cons.mpr ⟨nfx_taster_8, (List.forall_mem_cons.mpr ⟨nfx_taster_9, fun _ h => nomatch h⟩)⟩)⟩)⟩)⟩)⟩)⟩)⟩)⟩)⟩)
  have hcc : Inj cc 10 := inj_of [c_NoRanking, c_NoTaster, c_NoDish, c_NotSeatable, c_NoSeating, c_NoMenu, c_NoSize, c_NoCuts, c_NoSpan, c_NoPlaces] (by simp [ne_0_1, ne_0_2, ne_0_3, ne_0_4, ne_0_5, ne_0_6, ne_0_7, ne_0_8, ne_0_9, ne_1_2, ne_1_3, ne_1_4, ne_1_5, ne_1_6, ne_1_7, ne_1_8, ne_1_9, ne_2_3, ne_2_4, ne_2_5, ne_2_6, ne_2_7, ne_2_8, ne_2_9, ne_3_4, ne_3_5, ne_3_6, ne_3_7, ne_3_8, ne_3_9, ne_4_5, ne_4_6, ne_4_7, ne_4_8, ne_4_9, ne_5_6, ne_5_7, ne_5_8, ne_5_9, ne_6_7, ne_6_8, ne_6_9, ne_7_8, ne_7_9, ne_8_9])
  refine ⟨PySem.W.fnOf "law" "law" (defArgs s_law) (defBody s_law) (defScope s_law) .none kV25 dc25 pm25 an25 cd25 ct25, fun s v => .of_eq rfl, fun base _ _ => ?_⟩
  have GG__law_one : FnOk l.prog w K mg base CX0 2 f11 _ _ (spA [.deck, .bor] F__law_one) := okA__law_one F11 k10 b10 g10 (okA__law_next F10 m_len) m_len
  have GG__law_line : FnOk l.prog w K mg base CX0 3 f15 _ _ (spA [.deck, .dat] F__law_line) := okA__law_line F15 k11 b11 g11 (FnOk.mono (j := 2) GG__law_one (by decide)) k10 b10 g10 (okA__law_next F10 m_len) m_range m_tuple
  have GG__law_meeting : FnOk l.prog w K mg base CX0 3 f16 _ _ (spA [.deck, .dat] F__law_meeting) := okA__law_meeting F16 k11 b11 g11 (FnOk.mono (j := 2) GG__law_one (by decide)) k10 b10 g10 (okA__law_next F10 m_len) m_max m_min
  have GG__law_span : FnOk l.prog w K mg base CX0 4 f18 _ _ (spA [.deck, .dat] F__law_span) := okA__law_span F18 k10 b10 g10 (okA__law_next F10 m_len) k16 b16 g16 (FnOk.mono (j := 3) GG__law_meeting (by decide)) m_max m_min
  have GG__law_pairs : FnOk l.prog w K mg base CX0 1 f13 _ _ (spA [.dat] F__law_pairs) := okA__law_pairs F13 m_range
  have GG__law_prefers : FnOk l.prog w K mg base CX0 1 f21 _ _ (spA [.dat, .dat, .dat] F__law_prefers) := okA__law_prefers F21
  have GG__law_first_change : FnOk l.prog w K mg base CX0 2 f22 _ _ (spA [.dat, .dat, .dat, .dat] F__law_first_change) := okA__law_first_change F22 k21 b21 g21 (FnOk.mono (j := 1) GG__law_prefers (by decide))
  have GG__law_due : FnOk l.prog w K mg base CX0 3 f23 _ _ (spA [.dat, .dat, .dat] F__law_due) := okA__law_due F23 k13 b13 g13 (FnOk.mono (j := 1) GG__law_pairs (by decide)) k21 b21 g21 (FnOk.mono (j := 1) GG__law_prefers (by decide)) k22 b22 g22 (FnOk.mono (j := 2) GG__law_first_change (by decide)) m_len m_tuple m_sorted
  have GG_is_whole : FnOk l.prog w K mg base CX0 1 f0 _ _ (spA [.dat] F_is_whole) := okA_is_whole F0 m_isinstance m_bool m_int
  have GG_is_within : FnOk l.prog w K mg base CX0 2 f1 _ _ (spA [.dat, .dat, .dat] F_is_within) := okA_is_within F1 k0 b0 g0 (FnOk.mono (j := 1) GG_is_whole (by decide))
  have GG_is_place : FnOk l.prog w K mg base CX0 3 f4 _ _ (spA [.dat] F_is_place) := okA_is_place F4 k1 b1 g1 (FnOk.mono (j := 2) GG_is_within (by decide)) (PySem.W.mg_of X G zc0)
  have GG_check_span : FnOk l.prog w K mg base (L2.CX l.prog w) 4 f5 _ _ (spA [.dat, .dat] (F_check_span cc)) := okA_check_span (cc := cc) F5 k4 b4 g4 (FnOk.mono (j := 3) GG_is_place (by decide)) T_NoSpan
  have GG_ascending_tuples : FnOk l.prog w K mg base CX0 1 f2 _ _ (spA [.dat, .dat] F_ascending_tuples) := okA_ascending_tuples F2 m_range
  have GG_all_pairs : FnOk l.prog w K mg base CX0 2 f3 _ _ (spA [.dat] F_all_pairs) := okA_all_pairs F3 k2 b2 g2 (FnOk.mono (j := 1) GG_ascending_tuples (by decide))
  have GG_change_of : FnOk l.prog w K mg base CX0 1 f6 _ _ (spA [.dat, .dat] F_change_of) := okA_change_of F6
  have GG_line_changes : FnOk l.prog w K mg base (L2.CX l.prog w) 5 f7 _ _ (spA [.dat, .dat, .dat] (F_line_changes cc)) := okA_line_changes (cc := cc) F7 k5 b5 g5 (FnOk.mono (j := 4) GG_check_span (by decide)) k3 b3 g3 (FnOk.mono (j := 2) GG_all_pairs (by decide)) k6 b6 g6 (FnOk.mono (j := 1) GG_change_of (by decide)) m_len m_tuple m_sorted
  have GG_line_distance : FnOk l.prog w K mg base (L2.CX l.prog w) 6 f8 _ _ (spA [.dat, .dat, .dat] (F_line_distance cc)) := okA_line_distance (cc := cc) F8 k7 b7 g7 (FnOk.mono (j := 5) GG_line_changes (by decide)) m_len
  have GG__law_answer : FnOk l.prog w K mg base CX0 7 f24 _ _ (spA [.dat, .dat, .dat, .dat] (F__law_answer cc)) := okA__law_answer (cc := cc) F24 k7 b7 g7 (FnOk.mono (j := 5) GG_line_changes (by decide)) k8 b8 g8 (FnOk.mono (j := 6) GG_line_distance (by decide)) k17 b17 g17 (okA__law_raised (cc := cc) F17 XT gB gC_NoMenu gC_NotSeatable gC_NoSeating gC_NoCuts gC_NoSize gC_NoDish gC_NoRanking gC_NoTaster gC_NoSpan gC_NoPlaces nff_obstruction nff_size nff_dish nff_ranking nff_taster m_isinstance m_ValueError m_len) XT gB
  have GG__law_same : FnOk l.prog w K mg base CX0 6 f12 _ _ (spA [.dat, .dat] (F__law_same 6)) := okA__law_same F12 k12 b12 g12 m_isinstance m_tuple m_list m_len m_range m_dict m_str m_bool m_int 6
  have GG__law_unlike : FnOk l.prog w K mg base CX0 2 f14 _ _ (spA [.dat, .dat] F__law_unlike) := okA__law_unlike F14 k13 b13 g13 (FnOk.mono (j := 1) GG__law_pairs (by decide)) m_len
  have GG__law_ranked : FnOk l.prog w K mg base CX0 1 f19 _ _ (spA [.dat, .dat] F__law_ranked) := okA__law_ranked F19 m_enumerate m_tuple m_sorted
  have GG__law_bad_span : FnOk l.prog w K mg base CX0 3 f20 _ _ (spA [.deck] F__law_bad_span) := okA__law_bad_span F20 k11 b11 g11 (FnOk.mono (j := 2) GG__law_one (by decide))
  exact okA_law (cc := cc) F25 k9 b9 g9 (ok_deck F9 m_abs m_len) k15 b15 g15 (FnOk.mono (j := 3) GG__law_line (by decide)) k18 b18 g18 (FnOk.mono (j := 4) GG__law_span (by decide)) k23 b23 g23 (FnOk.mono (j := 3) GG__law_due (by decide)) k24 b24 g24 (FnOk.mono (j := 7) GG__law_answer (by decide)) k12 b12 g12 (FnOk.mono (j := 6) GG__law_same (by decide)) k14 b14 g14 (FnOk.mono (j := 2) GG__law_unlike (by decide)) k19 b19 g19 (FnOk.mono (j := 1) GG__law_ranked (by decide)) k20 b20 g20 (FnOk.mono (j := 3) GG__law_bad_span (by decide)) m_range m_repr m_len (law_of cc hcc law_w)

end TR
open PySem PySem.W PyProof.Rows
set_option maxHeartbeats 0 in
theorem PySem.Challenge.cw_tasterow_k60_changes_of_pairs_holds : PySem.Challenge.rw_tasterow_k60_changes_of_pairs.Holds := by
  w_on; o_law; k_head; (case hw => w_witness2)
  k_fill
  refine TR.walk_ofG (l := PySem.Challenge.rw_tasterow_k60_changes_of_pairs) (n := 63) (k := 8) (x := "_law_script") (sp := fun w => TR.spLaw _) rfl (by decide) rfl ⟨rfl, by decide, by decide⟩ (fun w h Y => PySem.W.kIn_of Y) ?F (fun _ _ a ns hl _ hS => ⟨a, ns, rfl, hS, hl, fun _ => rfl⟩)
  case F =>
    intro w mg fa h KX G hmg
    refine' TR.all_mk KX G hmg ?a0 ?l0 ?c0 ?k0 ?a1 ?l1 ?c1 ?k1 ?a2 ?l2 ?c2 ?k2 ?a3 ?l3 ?c3 ?k3 ?a4 ?l4 ?c4 ?k4 ?a5 ?l5 ?c5 ?k5 ?a6 ?l6 ?c6 ?k6 ?a7 ?l7 ?c7 ?k7 ?a8 ?l8 ?c8 ?k8 ?a9 ?l9 ?c9 ?k9 ?a10 ?l10 ?c10 ?k10 ?a11 ?l11 ?c11 ?k11 ?a12 ?l12 ?c12 ?k12 ?a13 ?l13 ?c13 ?k13 ?a14 ?l14 ?c14 ?k14 ?a15 ?l15 ?c15 ?k15 ?a16 ?l16 ?c16 ?k16 ?a17 ?l17 ?c17 ?k17 ?a18 ?l18 ?c18 ?k18 ?a19 ?l19 ?c19 ?k19 ?a20 ?l20 ?c20 ?k20 ?a21 ?l21 ?c21 ?k21 ?a22 ?l22 ?c22 ?k22 ?a23 ?l23 ?c23 ?k23 ?a24 ?l24 ?c24 ?k24 ?a25 ?l25 ?c25 ?k25 ?zc0 ?eB ?eBs ?eBd ?eBt ?ehn ?eht ?n_NoRanking ?ga_NoRanking ?gg_NoRanking ?ex_NoRanking ?hd_NoRanking ?ha_NoRanking ?hm_NoRanking ?kp_NoRanking ?ty_NoRanking ?sb_NoRanking ?n_NoTaster ?ga_NoTaster ?gg_NoTaster ?ex_NoTaster ?hd_NoTaster ?ha_NoTaster ?hm_NoTaster ?kp_NoTaster ?ty_NoTaster ?sb_NoTaster ?n_NoDish ?ga_NoDish ?gg_NoDish ?ex_NoDish ?hd_NoDish ?ha_NoDish ?hm_NoDish ?kp_NoDish ?ty_NoDish ?sb_NoDish ?n_NotSeatable ?ga_NotSeatable ?gg_NotSeatable ?ex_NotSeatable ?hd_NotSeatable ?ha_NotSeatable ?hm_NotSeatable ?kp_NotSeatable ?ty_NotSeatable ?sb_NotSeatable ?n_NoSeating ?ga_NoSeating ?gg_NoSeating ?ex_NoSeating ?hd_NoSeating ?ha_NoSeating ?hm_NoSeating ?kp_NoSeating ?ty_NoSeating ?sb_NoSeating ?n_NoMenu ?ga_NoMenu ?gg_NoMenu ?ex_NoMenu ?hd_NoMenu ?ha_NoMenu ?hm_NoMenu ?kp_NoMenu ?ty_NoMenu ?sb_NoMenu ?n_NoSize ?ga_NoSize ?gg_NoSize ?ex_NoSize ?hd_NoSize ?ha_NoSize ?hm_NoSize ?kp_NoSize ?ty_NoSize ?sb_NoSize ?n_NoCuts ?ga_NoCuts ?gg_NoCuts ?ex_NoCuts ?hd_NoCuts ?ha_NoCuts ?hm_NoCuts ?kp_NoCuts ?ty_NoCuts ?sb_NoCuts ?n_NoSpan ?ga_NoSpan ?gg_NoSpan ?ex_NoSpan ?hd_NoSpan ?ha_NoSpan ?hm_NoSpan ?kp_NoSpan ?ty_NoSpan ?sb_NoSpan ?n_NoPlaces ?ga_NoPlaces ?gg_NoPlaces ?ex_NoPlaces ?hd_NoPlaces ?ha_NoPlaces ?hm_NoPlaces ?kp_NoPlaces ?ty_NoPlaces ?sb_NoPlaces ?xq_NoSpan ?kt_0_0 ?kt_0_1 ?kt_0_2 ?kt_0_3 ?kt_0_4 ?kt_0_5 ?kt_0_6 ?kt_0_7 ?kt_0_8 ?kt_0_9 ?kv_0 ?nfx_obstruction_0 ?nfx_size_0 ?nfx_dish_0 ?nfx_ranking_0 ?nfx_taster_0 ?kt_1_0 ?kt_1_1 ?kt_1_2 ?kt_1_3 ?kt_1_4 ?kt_1_5 ?kt_1_6 ?kt_1_7 ?kt_1_8 ?kt_1_9 ?kv_1 ?nfx_obstruction_1 ?nfx_size_1 ?nfx_dish_1 ?nfx_ranking_1 ?nfx_taster_1 ?kt_2_0 ?kt_2_1 ?kt_2_2 ?kt_2_3 ?kt_2_4 ?kt_2_5 ?kt_2_6 ?kt_2_7 ?kt_2_8 ?kt_2_9 ?kv_2 ?nfx_obstruction_2 ?nfx_size_2 ?nfx_dish_2 ?nfx_ranking_2 ?nfx_taster_2 ?kt_3_0 ?kt_3_1 ?kt_3_2 ?kt_3_3 ?kt_3_4 ?kt_3_5 ?kt_3_6 ?kt_3_7 ?kt_3_8 ?kt_3_9 ?kv_3 ?nfx_obstruction_3 ?nfx_size_3 ?nfx_dish_3 ?nfx_ranking_3 ?nfx_taster_3 ?kt_4_0 ?kt_4_1 ?kt_4_2 ?kt_4_3 ?kt_4_4 ?kt_4_5 ?kt_4_6 ?kt_4_7 ?kt_4_8 ?kt_4_9 ?kv_4 ?nfx_obstruction_4 ?nfx_size_4 ?nfx_dish_4 ?nfx_ranking_4 ?nfx_taster_4 ?kt_5_0 ?kt_5_1 ?kt_5_2 ?kt_5_3 ?kt_5_4 ?kt_5_5 ?kt_5_6 ?kt_5_7 ?kt_5_8 ?kt_5_9 ?kv_5 ?nfx_obstruction_5 ?nfx_size_5 ?nfx_dish_5 ?nfx_ranking_5 ?nfx_taster_5 ?kt_6_0 ?kt_6_1 ?kt_6_2 ?kt_6_3 ?kt_6_4 ?kt_6_5 ?kt_6_6 ?kt_6_7 ?kt_6_8 ?kt_6_9 ?kv_6 ?nfx_obstruction_6 ?nfx_size_6 ?nfx_dish_6 ?nfx_ranking_6 ?nfx_taster_6 ?kt_7_0 ?kt_7_1 ?kt_7_2 ?kt_7_3 ?kt_7_4 ?kt_7_5 ?kt_7_6 ?kt_7_7 ?kt_7_8 ?kt_7_9 ?kv_7 ?nfx_obstruction_7 ?nfx_size_7 ?nfx_dish_7 ?nfx_ranking_7 ?nfx_taster_7 ?kt_8_0 ?kt_8_1 ?kt_8_2 ?kt_8_3 ?kt_8_4 ?kt_8_5 ?kt_8_6 ?kt_8_7 ?kt_8_8 ?kt_8_9 ?kv_8 ?nfx_obstruction_8 ?nfx_size_8 ?nfx_dish_8 ?nfx_ranking_8 ?nfx_taster_8 ?kt_9_0 ?kt_9_1 ?kt_9_2 ?kt_9_3 ?kt_9_4 ?kt_9_5 ?kt_9_6 ?kt_9_7 ?kt_9_8 ?kt_9_9 ?kv_9 ?nfx_obstruction_9 ?nfx_size_9 ?nfx_dish_9 ?nfx_ranking_9 ?nfx_taster_9 ?z0 ?z1 ?z2 ?z3 ?z4 ?z5 ?z6 ?z7 ?z8 ?z9 ?z10 ?z11 ?z12 ?z13 ?z14 ?z15
    (case a0 => k_is); (case l0 => k_is); (case c0 => k_is); (case k0 => k_is); (case a1 => k_is); (case l1 => k_is); (case c1 => k_is); (case k1 => k_is); (case a2 => k_is); (case l2 => k_is); (case c2 => k_is); (case k2 => k_is); (case a3 => k_is); (case l3 => k_is); (case c3 => k_is); (case k3 => k_is); (case a4 => k_is); (case l4 => k_is); (case c4 => k_is); (case k4 => k_is); (case a5 => k_is); (case l5 => k_is); (case c5 => k_is); (case k5 => k_is); (case a6 => k_is); (case l6 => k_is); (case c6 => k_is); (case k6 => k_is); (case a7 => k_is); (case l7 => k_is); (case c7 => k_is); (case k7 => k_is); (case a8 => k_is); (case l8 => k_is); (case c8 => k_is); (case k8 => k_is); (case a9 => k_is); (case l9 => k_is); (case c9 => k_is); (case k9 => k_is); (case a10 => k_is); (case l10 => k_is); (case c10 => k_is); (case k10 => k_is); (case a11 => k_is); (case l11 => k_is); (case c11 => k_is); (case k11 => k_is); (case a12 => k_is); (case l12 => k_is); (case c12 => k_is); (case k12 => k_is); (case a13 => k_is); (case l13 => k_is); (case c13 => k_is); (case k13 => k_is); (case a14 => k_is); (case l14 => k_is); (case c14 => k_is); (case k14 => k_is); (case a15 => k_is); (case l15 => k_is); (case c15 => k_is); (case k15 => k_is); (case a16 => k_is); (case l16 => k_is); (case c16 => k_is); (case k16 => k_is); (case a17 => k_is); (case l17 => k_is); (case c17 => k_is); (case k17 => k_is); (case a18 => k_is); (case l18 => k_is); (case c18 => k_is); (case k18 => k_is); (case a19 => k_is); (case l19 => k_is); (case c19 => k_is); (case k19 => k_is); (case a20 => k_is); (case l20 => k_is); (case c20 => k_is); (case k20 => k_is); (case a21 => k_is); (case l21 => k_is); (case c21 => k_is); (case k21 => k_is); (case a22 => k_is); (case l22 => k_is); (case c22 => k_is); (case k22 => k_is); (case a23 => k_is); (case l23 => k_is); (case c23 => k_is); (case k23 => k_is); (case a24 => k_is); (case l24 => k_is); (case c24 => k_is); (case k24 => k_is); (case a25 => k_is); (case l25 => k_is); (case c25 => k_is); (case k25 => k_is); (case zc0 => k_is); (case eB => k_is); (case eBs => k_is); (case eBd => k_is); (case eBt => k_is); (case ehn => k_is); (case eht => k_is); (case n_NoRanking => k_is); (case ga_NoRanking => k_is); (case gg_NoRanking => k_is); (case ex_NoRanking => k_is); (case hd_NoRanking => k_is); (case ha_NoRanking => k_is); (case hm_NoRanking => k_is); (case kp_NoRanking => k_is); (case ty_NoRanking => k_is); (case sb_NoRanking => k_is); (case n_NoTaster => k_is); (case ga_NoTaster => k_is); (case gg_NoTaster => k_is); (case ex_NoTaster => k_is); (case hd_NoTaster => k_is); (case ha_NoTaster => k_is); (case hm_NoTaster => k_is); (case kp_NoTaster => k_is); (case ty_NoTaster => k_is); (case sb_NoTaster => k_is); (case n_NoDish => k_is); (case ga_NoDish => k_is); (case gg_NoDish => k_is); (case ex_NoDish => k_is); (case hd_NoDish => k_is); (case ha_NoDish => k_is); (case hm_NoDish => k_is); (case kp_NoDish => k_is); (case ty_NoDish => k_is); (case sb_NoDish => k_is); (case n_NotSeatable => k_is); (case ga_NotSeatable => k_is); (case gg_NotSeatable => k_is); (case ex_NotSeatable => k_is); (case hd_NotSeatable => k_is); (case ha_NotSeatable => k_is); (case hm_NotSeatable => k_is); (case kp_NotSeatable => k_is); (case ty_NotSeatable => k_is); (case sb_NotSeatable => k_is); (case n_NoSeating => k_is); (case ga_NoSeating => k_is); (case gg_NoSeating => k_is); (case ex_NoSeating => k_is); (case hd_NoSeating => k_is); (case ha_NoSeating => k_is); (case hm_NoSeating => k_is); (case kp_NoSeating => k_is); (case ty_NoSeating => k_is); (case sb_NoSeating => k_is); (case n_NoMenu => k_is); (case ga_NoMenu => k_is); (case gg_NoMenu => k_is); (case ex_NoMenu => k_is); (case hd_NoMenu => k_is); (case ha_NoMenu => k_is); (case hm_NoMenu => k_is); (case kp_NoMenu => k_is); (case ty_NoMenu => k_is); (case sb_NoMenu => k_is); (case n_NoSize => k_is); (case ga_NoSize => k_is); (case gg_NoSize => k_is); (case ex_NoSize => k_is); (case hd_NoSize => k_is); (case ha_NoSize => k_is); (case hm_NoSize => k_is); (case kp_NoSize => k_is); (case ty_NoSize => k_is); (case sb_NoSize => k_is); (case n_NoCuts => k_is); (case ga_NoCuts => k_is); (case gg_NoCuts => k_is); (case ex_NoCuts => k_is); (case hd_NoCuts => k_is); (case ha_NoCuts => k_is); (case hm_NoCuts => k_is); (case kp_NoCuts => k_is); (case ty_NoCuts => k_is); (case sb_NoCuts => k_is); (case n_NoSpan => k_is); (case ga_NoSpan => k_is); (case gg_NoSpan => k_is); (case ex_NoSpan => k_is); (case hd_NoSpan => k_is); (case ha_NoSpan => k_is); (case hm_NoSpan => k_is); (case kp_NoSpan => k_is); (case ty_NoSpan => k_is); (case sb_NoSpan => k_is); (case n_NoPlaces => k_is); (case ga_NoPlaces => k_is); (case gg_NoPlaces => k_is); (case ex_NoPlaces => k_is); (case hd_NoPlaces => k_is); (case ha_NoPlaces => k_is); (case hm_NoPlaces => k_is); (case kp_NoPlaces => k_is); (case ty_NoPlaces => k_is); (case sb_NoPlaces => k_is); (case xq_NoSpan => kernel_rfl); (case kt_0_0 => kit_is); (case kt_0_1 => kit_is); (case kt_0_2 => kit_is); (case kt_0_3 => kit_is); (case kt_0_4 => kit_is); (case kt_0_5 => kit_is); (case kt_0_6 => kit_is); (case kt_0_7 => kit_is); (case kt_0_8 => kit_is); (case kt_0_9 => kit_is); (case kv_0 => kit_is); (case nfx_obstruction_0 => k_is); (case nfx_size_0 => k_is); (case nfx_dish_0 => k_is); (case nfx_ranking_0 => k_is); (case nfx_taster_0 => k_is); (case kt_1_0 => kit_is); (case kt_1_1 => kit_is); (case kt_1_2 => kit_is); (case kt_1_3 => kit_is); (case kt_1_4 => kit_is); (case kt_1_5 => kit_is); (case kt_1_6 => kit_is); (case kt_1_7 => kit_is); (case kt_1_8 => kit_is); (case kt_1_9 => kit_is); (case kv_1 => kit_is); (case nfx_obstruction_1 => k_is); (case nfx_size_1 => k_is); (case nfx_dish_1 => k_is); (case nfx_ranking_1 => k_is); (case nfx_taster_1 => k_is); (case kt_2_0 => kit_is); (case kt_2_1 => kit_is); (case kt_2_2 => kit_is); (case kt_2_3 => kit_is); (case kt_2_4 => kit_is); (case kt_2_5 => kit_is); (case kt_2_6 => kit_is); (case kt_2_7 => kit_is); (case kt_2_8 => kit_is); (case kt_2_9 => kit_is); (case kv_2 => kit_is); (case nfx_obstruction_2 => k_is); (case nfx_size_2 => k_is); (case nfx_dish_2 => k_is); (case nfx_ranking_2 => k_is); (case nfx_taster_2 => k_is); (case kt_3_0 => kit_is); (case kt_3_1 => kit_is); (case kt_3_2 => kit_is); (case kt_3_3 => kit_is); (case kt_3_4 => kit_is); (case kt_3_5 => kit_is); (case kt_3_6 => kit_is); (case kt_3_7 => kit_is); (case kt_3_8 => kit_is); (case kt_3_9 => kit_is); (case kv_3 => kit_is); (case nfx_obstruction_3 => k_is); (case nfx_size_3 => k_is); (case nfx_dish_3 => k_is); (case nfx_ranking_3 => k_is); (case nfx_taster_3 => k_is); (case kt_4_0 => kit_is); (case kt_4_1 => kit_is); (case kt_4_2 => kit_is); (case kt_4_3 => kit_is); (case kt_4_4 => kit_is); (case kt_4_5 => kit_is); (case kt_4_6 => kit_is); (case kt_4_7 => kit_is); (case kt_4_8 => kit_is); (case kt_4_9 => kit_is); (case kv_4 => kit_is); (case nfx_obstruction_4 => k_is); (case nfx_size_4 => k_is); (case nfx_dish_4 => k_is); (case nfx_ranking_4 => k_is); (case nfx_taster_4 => k_is); (case kt_5_0 => kit_is); (case kt_5_1 => kit_is); (case kt_5_2 => kit_is); (case kt_5_3 => kit_is); (case kt_5_4 => kit_is); (case kt_5_5 => kit_is); (case kt_5_6 => kit_is); (case kt_5_7 => kit_is); (case kt_5_8 => kit_is); (case kt_5_9 => kit_is); (case kv_5 => kit_is); (case nfx_obstruction_5 => k_is); (case nfx_size_5 => k_is); (case nfx_dish_5 => k_is); (case nfx_ranking_5 => k_is); (case nfx_taster_5 => k_is); (case kt_6_0 => kit_is); (case kt_6_1 => kit_is); (case kt_6_2 => kit_is); (case kt_6_3 => kit_is); (case kt_6_4 => kit_is); (case kt_6_5 => kit_is); (case kt_6_6 => kit_is); (case kt_6_7 => kit_is); (case kt_6_8 => kit_is); (case kt_6_9 => kit_is); (case kv_6 => kit_is); (case nfx_obstruction_6 => k_is); (case nfx_size_6 => k_is); (case nfx_dish_6 => k_is); (case nfx_ranking_6 => k_is); (case nfx_taster_6 => k_is); (case kt_7_0 => kit_is); (case kt_7_1 => kit_is); (case kt_7_2 => kit_is); (case kt_7_3 => kit_is); (case kt_7_4 => kit_is); (case kt_7_5 => kit_is); (case kt_7_6 => kit_is); (case kt_7_7 => kit_is); (case kt_7_8 => kit_is); (case kt_7_9 => kit_is); (case kv_7 => kit_is); (case nfx_obstruction_7 => k_is); (case nfx_size_7 => k_is); (case nfx_dish_7 => k_is); (case nfx_ranking_7 => k_is); (case nfx_taster_7 => k_is); (case kt_8_0 => kit_is); (case kt_8_1 => kit_is); (case kt_8_2 => kit_is); (case kt_8_3 => kit_is); (case kt_8_4 => kit_is); (case kt_8_5 => kit_is); (case kt_8_6 => kit_is); (case kt_8_7 => kit_is); (case kt_8_8 => kit_is); (case kt_8_9 => kit_is); (case kv_8 => kit_is); (case nfx_obstruction_8 => k_is); (case nfx_size_8 => k_is); (case nfx_dish_8 => k_is); (case nfx_ranking_8 => k_is); (case nfx_taster_8 => k_is); (case kt_9_0 => kit_is); (case kt_9_1 => kit_is); (case kt_9_2 => kit_is); (case kt_9_3 => kit_is); (case kt_9_4 => kit_is); (case kt_9_5 => kit_is); (case kt_9_6 => kit_is); (case kt_9_7 => kit_is); (case kt_9_8 => kit_is); (case kt_9_9 => kit_is); (case kv_9 => kit_is); (case nfx_obstruction_9 => k_is); (case nfx_size_9 => k_is); (case nfx_dish_9 => k_is); (case nfx_ranking_9 => k_is); (case nfx_taster_9 => k_is); (case z0 => k_is); (case z1 => k_is); (case z2 => k_is); (case z3 => k_is); (case z4 => k_is); (case z5 => k_is); (case z6 => k_is); (case z7 => k_is); (case z8 => k_is); (case z9 => k_is); (case z10 => k_is); (case z11 => k_is); (case z12 => k_is); (case z13 => k_is); (case z14 => k_is); (case z15 => k_is)
