import PyProof.Rows.All
import Wide.All
import OpenK.AllK
import Wide.FinOn
import PySem.Challenge.RW_tasterow_k01_limits_and_exceptions
import HandS.ForMost
import HandS.Conv
import HandS.Strs
import HandS.TupAny
import HandS.Style
import HandS.IsInst
import HandS.EndBits
import HandS.Walk
import HandS.SortInts
import HandS.SortOrd
import HandS.Deep
import HandS.ForExc
import HandS.ExcIs
import HandS.ExcValue
import KE.KExcIs
import KE.RegKIsAll
set_option Elab.async false
set_option linter.all false
set_option maxRecDepth 100000
namespace TR
open PySem PySem.Spec PyProof.Rows L2
/-! ### heaps -/
theorem same_upd {H : Hp} {p : Addr} {o : HO} (h : H p = none) : Same H (upd H p o) := fun b x e => by
  rw [upd_ne (ne_of_none e h)]
  exact e
theorem same_upd2 {H H1 : Hp} {p : Addr} {o : HO} (s : Same H H1) (h : H p = none) : Same H (upd H1 p o) := fun b x e => by
  rw [upd_ne (ne_of_none e h)]
  exact s b x e
theorem same_seqT {K : PySem.W.Frag} {H H' : Hp} {a : Addr} {xs : List V} (e : Same H H') (h : SqT K H a xs) : SqT K H' a xs := by
  rcases h with (h | ⟨o, h⟩) | h
  · exact .inl (.inl (e _ _ h))
  · exact .inl (.inr ⟨o, e _ _ h⟩)
  · exact .inr h
theorem sqL {K : PySem.W.Frag} {H : Hp} {a : Addr} {xs : List V} (h : H a = some (.lst xs)) : SqL K H a xs := .inl (.inl h)
theorem sqT {K : PySem.W.Frag} {H : Hp} {a : Addr} {xs : List V} (h : H a = some (.tup xs)) : SqT K H a xs := .inl (.inl h)
/-- all but the deck's two changing lists is as it was -/
def Keep (d p : Addr) (H H' : Hp) : Prop := ∀ b o, H b = some o → b ≠ d → b ≠ p → H' b = some o
theorem Keep.refl (d p : Addr) (H : Hp) : Keep d p H H := fun _ _ h _ _ => h
theorem Keep.trans {d p : Addr} {H H1 H2 : Hp} (a : Keep d p H H1) (b : Keep d p H1 H2) : Keep d p H H2 := fun c o h n m => b c o (a c o h n m) n m
theorem Same.keep {d p : Addr} {H H1 : Hp} (a : Same H H1) : Keep d p H H1 := fun c o h _ _ => a c o h
theorem keep_upd {d p x : Addr} {H H1 : Hp} {o : HO} (a : Keep d p H H1) (h : x = d ∨ x = p) : Keep d p H (upd H1 x o) := fun c u e n m => by
  rw [upd_ne (by rintro rfl; rcases h with h | h; exact n h; exact m h)]
  exact a c u e n m
/-! ### data -/
theorem dpAll_ints {K : PySem.W.Frag} {H : Hp} : ∀ xs : List Int, DpAll K H (xs.map V.int) (xs.map PyData.int)
  | [] => .nil
  | x :: r => .cons (.int x) (dpAll_ints r)
theorem can_ints : ∀ xs : List Int, PyData.canLayAll0 (xs.map PyData.int) = true
  | [] => rfl
  | x :: r => by
    show (true && PyData.canLayAll0 (r.map PyData.int)) = true
    rw [can_ints r]
    rfl
theorem dep_ints : ∀ xs : List Int, PyData.depthAll (xs.map PyData.int) = 0
  | [] => rfl
  | x :: r => by
    show max 0 (PyData.depthAll (r.map PyData.int)) = 0
    rw [dep_ints r]
    rfl
theorem shaped_ints (xs : List Int) : SeqAt.shaped (.list (xs.map PyData.int)) = true := by
  show (PyData.canLayAll0 (xs.map PyData.int) && decide (PyData.depthAll (xs.map PyData.int) + 1 ≤ 64)) = true
  rw [can_ints, dep_ints]
  rfl
theorem eqv_nil (xs : List Int) : PyData.eqv (.list (xs.map PyData.int)) (.list []) = xs.isEmpty := by
  cases xs with
  | nil => rfl
  | cons x r => rfl
/-! ### the deck -/
structure DeckL (H : Hp) (d p q : Addr) (n : Nat) (m : Nat) : Prop where
  ex : ∃ (xs cs : List Int) (c : Int), H d = some (.lst [.ref p, .ref q, .int c]) ∧ H p = some (.lst (xs.map V.int)) ∧ H q = some (.lst (cs.map V.int)) ∧
    0 ≤ c ∧ c ≤ (n : Int) ∧ cs ≠ [] ∧ xs.length = m
  dp : d ≠ p
  dq : d ≠ q
  pq : p ≠ q
def Deck (H : Hp) (d p q : Addr) (n : Nat) : Prop := ∃ m, DeckL H d p q n m
theorem DeckL.same {H H' : Hp} {d p q : Addr} {n m : Nat} (D : DeckL H d p q n m) (s : Same H H') : DeckL H' d p q n m := by
  obtain ⟨xs, cs, c, h1, h2, h3, h4⟩ := D.ex
  exact ⟨⟨xs, cs, c, s _ _ h1, s _ _ h2, s _ _ h3, h4⟩, D.dp, D.dq, D.pq⟩
theorem Deck.same {H H' : Hp} {d p q : Addr} {n : Nat} (D : Deck H d p q n) (s : Same H H') : Deck H' d p q n := by
  obtain ⟨m, D⟩ := D
  exact ⟨m, D.same s⟩
theorem Deck.mono {H : Hp} {d p q : Addr} {n k : Nat} (D : Deck H d p q n) (h : n ≤ k) : Deck H d p q k := by
  obtain ⟨m, ⟨xs, cs, c, h1, h2, h3, h4, h5, h6⟩, a, b, e⟩ := D
  exact ⟨m, ⟨xs, cs, c, h1, h2, h3, h4, by omega, h6⟩, a, b, e⟩
theorem Deck.hd {H : Hp} {d p q : Addr} {n : Nat} (D : Deck H d p q n) : ∃ a b c, H d = some (.lst [.ref a, .ref b, .int c]) := by
  obtain ⟨m, ⟨xs, cs, c, h1, _⟩, _⟩ := D
  exact ⟨_, _, _, h1⟩
theorem Deck.hp {H : Hp} {d p q : Addr} {n : Nat} (D : Deck H d p q n) : ∃ xs : List Int, H p = some (.lst (xs.map V.int)) := by
  obtain ⟨m, ⟨xs, cs, c, h1, h2, _⟩, _⟩ := D
  exact ⟨_, h2⟩
theorem Deck.ned {H : Hp} {d p q : Addr} {n : Nat} (D : Deck H d p q n) {b : Addr} (h : H b = none) : b ≠ d := by
  obtain ⟨x, y, c, e⟩ := D.hd
  exact (ne_of_none e h).symm
theorem Deck.nep {H : Hp} {d p q : Addr} {n : Nat} (D : Deck H d p q n) {b : Addr} (h : H b = none) : b ≠ p := by
  obtain ⟨x, e⟩ := D.hp
  exact (ne_of_none e h).symm
theorem Deck.tned {H : Hp} {d p q : Addr} {n : Nat} (D : Deck H d p q n) {b : Addr} {xs : List V} (h : H b = some (.tup xs)) : b ≠ d := by
  obtain ⟨x, y, c, e⟩ := D.hd
  exact ne_of h e (by intro z; cases z)
theorem Deck.tnep {H : Hp} {d p q : Addr} {n : Nat} (D : Deck H d p q n) {b : Addr} {xs : List V} (h : H b = some (.tup xs)) : b ≠ p := by
  obtain ⟨x, e⟩ := D.hp
  exact ne_of h e (by intro z; cases z)
end TR
namespace TR
/-! ### rankings as lists of ints -/
def rng (n : Nat) : List Int := (List.range n).map fun i : Nat => (i : Int)
def Rank (n : Nat) (ns : List Int) : Prop := ns.Perm (rng n)
theorem rng_len (n : Nat) : (rng n).length = n := by
  unfold rng; rw [List.length_map, List.length_range]
theorem mem_rng {n : Nat} {x : Int} : x ∈ rng n ↔ 0 ≤ x ∧ x < (n : Int) := by
  unfold rng
  rw [List.mem_map]
  constructor
  · rintro ⟨i, hi, rfl⟩
    have := List.mem_range.mp hi
    omega
  · rintro ⟨h0, h1⟩
    exact ⟨x.toNat, List.mem_range.mpr (by omega), by omega⟩
theorem rng_nodup (n : Nat) : (rng n).Nodup := by
  unfold rng List.Nodup
  rw [List.pairwise_map]
  exact List.nodup_range.imp (by intro a b h e; exact h (by omega))
theorem Rank.len {n : Nat} {ns : List Int} (h : Rank n ns) : ns.length = n := (List.Perm.length_eq h).trans (rng_len n)
theorem Rank.mem {n : Nat} {ns : List Int} (h : Rank n ns) {x : Int} (h0 : 0 ≤ x) (h1 : x < (n : Int)) : x ∈ ns := (List.Perm.mem_iff h).mpr (mem_rng.mpr ⟨h0, h1⟩)
theorem Rank.bnd {n : Nat} {ns : List Int} (h : Rank n ns) {x : Int} (m : x ∈ ns) : 0 ≤ x ∧ x < (n : Int) := mem_rng.mp ((List.Perm.mem_iff h).mp m)
theorem Rank.nodup {n : Nat} {ns : List Int} (h : Rank n ns) : ns.Nodup := (List.Perm.nodup_iff h).mpr (rng_nodup n)
theorem Rank.rev {n : Nat} {ns : List Int} (h : Rank n ns) : Rank n ns.reverse := (List.reverse_perm ns).trans h
/-! ### preference -/
def pref (ns : List Int) (a b : Int) : Bool := decide (ns.idxOf a < ns.idxOf b)
theorem idx_at {ns : List Int} (nd : ns.Nodup) {i : Nat} {x : Int} (h : ns[i]? = some x) : ns.idxOf x = i := by
  obtain ⟨hi, e⟩ := List.getElem?_eq_some_iff.mp h
  have m : x ∈ ns := e ▸ List.getElem_mem hi
  have hl : ns.idxOf x < ns.length := List.idxOf_lt_length_of_mem m
  have e2 : ns[ns.idxOf x] = x := List.getElem_idxOf hl
  exact (List.getElem_inj nd).mp (e2.trans e.symm)
theorem at_idx {ns : List Int} {x : Int} (m : x ∈ ns) : ns[ns.idxOf x]? = some x := by
  have hl : ns.idxOf x < ns.length := List.idxOf_lt_length_of_mem m
  rw [List.getElem?_eq_getElem hl, List.getElem_idxOf hl]
theorem idx_first {ns : List Int} {x : Int} {m : Nat} (h : m < ns.idxOf x) : ns[m]? ≠ some x := by
  intro e
  obtain ⟨hi, e2⟩ := List.getElem?_eq_some_iff.mp e
  have := List.not_of_lt_findIdx (p := (· == x)) (xs := ns) h
  rw [e2] at this
  simp at this
theorem idx_rev {ns : List Int} (nd : ns.Nodup) {x : Int} (m : x ∈ ns) : ns.reverse.idxOf x = ns.length - 1 - ns.idxOf x := by
  have hl : ns.idxOf x < ns.length := List.idxOf_lt_length_of_mem m
  refine idx_at ((List.Perm.nodup_iff (List.reverse_perm ns)).mpr nd) ?_
  rw [List.getElem?_reverse (by omega)]
  rw [show ns.length - 1 - (ns.length - 1 - ns.idxOf x) = ns.idxOf x by omega]
  exact at_idx m
theorem idx_inj {ns : List Int} {x y : Int} (m : x ∈ ns) (e : ns.idxOf x = ns.idxOf y) : x = y ∨ y ∉ ns := by
  by_cases h : y ∈ ns
  · left
    have a := at_idx m
    have b := at_idx h
    rw [e, b] at a
    exact (Option.some.inj a).symm
  · exact .inr h
theorem pref_rev {ns : List Int} (nd : ns.Nodup) {a b : Int} (ma : a ∈ ns) (mb : b ∈ ns) (ne : a ≠ b) : pref ns.reverse a b = !pref ns a b := by
  unfold pref
  have la : ns.idxOf a < ns.length := List.idxOf_lt_length_of_mem ma
  have lb : ns.idxOf b < ns.length := List.idxOf_lt_length_of_mem mb
  have hne : ns.idxOf a ≠ ns.idxOf b := fun e => by
    rcases idx_inj ma e with h | h
    · exact ne h
    · exact h mb
  rw [idx_rev nd ma, idx_rev nd mb]
  by_cases h : ns.idxOf a < ns.idxOf b
  · rw [decide_eq_true h, decide_eq_false (by omega)]
    rfl
  · rw [decide_eq_false h, decide_eq_true (by omega)]
    rfl
/-! ### pairs and differences -/
def prow (n a : Nat) : List (Int × Int) := (List.range (n - (a + 1))).map fun j : Nat => ((a : Int), ((a : Int) + 1 + (j : Int)))
def pairs (n : Nat) : List (Int × Int) := (List.range n).flatMap (prow n)
theorem mem_pairs {n : Nat} {p : Int × Int} (h : p ∈ pairs n) : 0 ≤ p.1 ∧ p.1 < p.2 ∧ p.2 < (n : Int) := by
  unfold pairs prow at h
  obtain ⟨a, ha, hp⟩ := List.mem_flatMap.mp h
  obtain ⟨j, hj, rfl⟩ := List.mem_map.mp hp
  have h1 := List.mem_range.mp ha
  have h2 := List.mem_range.mp hj
  dsimp only
  omega
theorem flat_succ {β : Type} (f : Nat → List β) (i : Nat) : (List.range (i + 1)).flatMap f = (List.range i).flatMap f ++ f i := by
  rw [List.range_succ, List.flatMap_append]
  simp
theorem map_succ {β : Type} (f : Nat → β) (i : Nat) : (List.range (i + 1)).map f = (List.range i).map f ++ [f i] := by
  rw [List.range_succ, List.map_append]
  rfl
def agr (one other : List Int) (p : Int × Int) : Bool := pref one p.1 p.2 == pref other p.1 p.2
def diffs (n : Nat) (one other : List Int) : List (Int × Int) := (pairs n).filter fun p => !agr one other p
def betw (n : Nat) (one other third : List Int) : Bool := ((pairs n).filter (agr one other)).all (agr one third)
theorem agr_symm (one other : List Int) (p : Int × Int) : agr one other p = agr other one p := by
  unfold agr
  cases pref one p.1 p.2 <;> cases pref other p.1 p.2 <;> rfl
theorem diffs_symm (n : Nat) (one other : List Int) : diffs n one other = diffs n other one := by
  unfold diffs
  congr 1
  funext p
  rw [agr_symm]
theorem diffs_rev {n : Nat} {ns : List Int} (h : Rank n ns) : diffs n ns ns.reverse = pairs n := by
  unfold diffs
  rw [List.filter_eq_self]
  intro p hp
  obtain ⟨h0, h1, h2⟩ := mem_pairs hp
  unfold agr
  rw [pref_rev h.nodup (h.mem h0 (by omega)) (h.mem (by omega) h2) (by omega)]
  cases pref ns p.1 p.2 <;> rfl
theorem filter_take {α : Type} (f : α → Bool) {l : List α} {i : Nat} {x : α} (h : l[i]? = some x) : (l.take (i + 1)).filter f = (l.take i).filter f ++ if f x = true then [x] else [] := by
  rw [List.take_add_one, h, List.filter_append]
  show _ ++ ([x].filter f) = _
  cases e : f x <;> simp [e]
theorem diffs_sub {n : Nat} {one other : List Int} {p : Int × Int} (h : p ∈ diffs n one other) : p ∈ pairs n := (List.mem_filter.mp h).1
theorem prow_len (n a : Nat) : (prow n a).length = n - (a + 1) := by
  unfold prow; rw [List.length_map, List.length_range]
theorem flat_len (n : Nat) : ∀ i : Nat, ((List.range i).flatMap (prow n)).length ≤ i * n
  | 0 => by simp
  | i + 1 => by
    have ih := flat_len n i
    rw [flat_succ, List.length_append, prow_len, Nat.succ_mul]
    omega
theorem pairs_len (n : Nat) : (pairs n).length ≤ n * n := flat_len n n
/-! ### exchanging neighbours, drawing -/
theorem perm_swap {ns : List Int} {k : Nat} {x y : Int} (hx : ns[k]? = some x) (hy : ns[k + 1]? = some y) : (ns.take k ++ ([y, x] ++ ns.drop (k + 2))).Perm ns := by
  have e : ns = ns.take k ++ (x :: y :: ns.drop (k + 2)) := by
    have h1 : k < ns.length := (List.getElem?_eq_some_iff.mp hx).1
    have h2 : k + 1 < ns.length := (List.getElem?_eq_some_iff.mp hy).1
    have a1 : ns.drop k = x :: ns.drop (k + 1) := by
      rw [List.drop_eq_getElem_cons h1, (List.getElem?_eq_some_iff.mp hx).2]
    have a2 : ns.drop (k + 1) = y :: ns.drop (k + 2) := by
      rw [List.drop_eq_getElem_cons h2, (List.getElem?_eq_some_iff.mp hy).2]
    rw [← a2, ← a1, List.take_append_drop]
  refine List.Perm.trans ?_ (List.Perm.of_eq e.symm)
  exact List.Perm.append_left _ (List.Perm.swap x y _)
theorem perm_erase {l : List Int} {j : Nat} {z : Int} (h : l[j]? = some z) : (z :: l.eraseIdx j).Perm l := by
  obtain ⟨hj, e⟩ := List.getElem?_eq_some_iff.mp h
  have e1 : l = l.take j ++ z :: l.drop (j + 1) := by
    rw [← e, ← List.drop_eq_getElem_cons hj, List.take_append_drop]
  have e2 : l.eraseIdx j = l.take j ++ l.drop (j + 1) := List.eraseIdx_eq_take_drop_succ l j
  rw [e2]
  refine List.Perm.trans ?_ (List.Perm.of_eq e1.symm)
  exact (List.perm_middle).symm
end TR
namespace TR
open PySem PySem.Spec PyProof.Rows L2
theorem flat_ints (ys : List Int) : (ys.map V.int).all flatV = true := by
  rw [List.all_map]; exact List.all_eq_true.mpr fun _ _ => rfl
section
variable {X : Cx}
/-- t.index(k), t a tuple of ints: the first place -/
theorem mt_tupIdx : MtR X "tuple.index" (fun x xs H Q => ∃ p, ∃ ys : List Int, ∃ z j, x = .ref p ∧ xs = [.int z] ∧ SqT X.K H p (ys.map V.int) ∧ ys[j]? = some z ∧ (∀ m, m < j → ys[m]? ≠ some z) ∧ Q (.int (j : Nat)) H) := by
  intro pins s σ H x xs v us Q I rx rs h
  obtain ⟨p, ys, z, j, rfl, rfl, hS, hy, hno, q⟩ := h
  cases rx
  obtain ⟨u, rfl, t, rfl⟩ := vals1 rs
  obtain ⟨its, r, pl, hz⟩ := I.tuple hS
  obtain ⟨⟨c1, dd, dt, sl⟩, ho, hc, n, hd⟩ := pl
  simp only at hc hd; subst hc; subst hd
  have hl : its.toArray.size = ys.length := by
    rw [List.size_toArray, ← r.length]; exact List.length_map _
  have hj : j < its.toArray.size := hl.symm ▸ (List.getElem?_eq_some_iff.mp hy).1
  have pick : ∀ (m : Nat) (hm : m < its.toArray.size), ∃ y t', ys[m]? = some y ∧ its.toArray[m] = Value.int y t' := fun m hm => by
    have hm2 : m < ys.length := hl ▸ hm
    obtain ⟨w, hw, t', hw'⟩ := r.get (i := m) (x := .int ys[m]) (by simp [hm2])
    refine ⟨ys[m], t', List.getElem?_eq_getElem hm2, ?_⟩
    have e := (List.getElem?_eq_some_iff.mp hw).2
    rw [← hw', ← e]; simp
  refine call_meets PySem.F.slot_tuple_index ⟨_, ho, rfl⟩ PySem.F.entry_tuple_index (PySem.F.args_tuple_index_2 _ _) (TI.tuple_indexAt p its.toArray n dd sl (.int z t) (eqU (.int z)) j hj ?_ ?_)
    ⟨ho, fun w hw => mem_eqAt (x := .int z) ⟨t, rfl⟩ rfl r (flat_ints ys) w (by simpa using hw), ⟨.int (j : Nat), H, I.tok _, ⟨_, rfl⟩, q⟩⟩
  · obtain ⟨y, t', h1, h2⟩ := pick j hj
    rw [hy] at h1; cases h1; rw [h2]
    show (z == z) = true; exact beq_self_eq_true z
  · intro m hm hmj
    obtain ⟨y, t', h1, h2⟩ := pick m hm
    rw [h2]; show (y == z) = false
    exact beq_eq_false_iff_ne.mpr fun e => hno m hmj (e ▸ h1)
end
section
variable {prog : Program} {w : World} {A : Around} {E : Value → Shared → Prop} {s : Shared}
theorem places_back (n : Nat) : Builtin.Slice.slicePlaces ((n : Int) - 1) (-1) (-1) = n := by
  unfold Builtin.Slice.slicePlaces
  rw [if_neg (show ¬ ((-1 : Int) > 0) by decide)]
  by_cases h : (n : Int) - 1 > -1
  · rw [if_pos h, show (- -1 : Int) = 1 by decide, Int.ediv_one]; omega
  · rw [if_neg h]; omega
theorem applied_back {sl : Addr} {vs : Value} {n : Nat} {Q : Int × Int × Nat → Shared → Prop} (hs : s.heap.IsSliceOf sl .none .none vs) (ps : IsPart vs (some (-1))) (h : Q ((n : Int) - 1, -1, n) s) :
    wpAny (model prog w) A (Builtin.Slice.sliceApplied (.ref sl) (pure (n : Int))) Q E s := by
  obtain ⟨os, hos, hcs, hds⟩ := id hs
  unfold Builtin.Slice.sliceApplied Builtin.Slice.sliceFields
  refine wpAny_bind (wpAny_bind (wpAny_field hos hds (x := .none) rfl (wpAny_bind (wpAny_field hos hds (x := .none) rfl (wpAny_bind (wpAny_field hos hds (x := vs) rfl (wpAny_pure ?_)))))))
  refine wpAny_bind (HT.slicePart_ ps ?_)
  show wpAny _ _ (if ((-1 : Int) == 0) = true then _ else _) _ _ s
  rw [if_neg (show ¬ (((-1 : Int) == 0) = true) by decide)]
  refine wpAny_bind (HT.slicePart_ .none (wpAny_bind (HT.slicePart_ .none (wpAny_bind (wpAny_pure ?_)))))
  show wpAny _ _ (pure ((n : Int) - 1, (-1 : Int), Builtin.Slice.slicePlaces ((n : Int) - 1) (-1) (-1))) _ _ s
  rw [places_back]; exact wpAny_pure h
theorem pick_back (xs : Array Value) : ((List.range xs.size).filterMap fun (k : Nat) => xs[((xs.size : Int) - 1 + (k : Int) * -1).toNat]?).toArray = xs.toList.reverse.toArray := by
  have e : ((List.range xs.size).filterMap fun (k : Nat) => xs[((xs.size : Int) - 1 + (k : Int) * -1).toNat]?) = ((List.range xs.size).map fun k => xs.size - 1 - k).filterMap (xs[·]?) := by
    rw [List.filterMap_map]
    refine congrArg (fun g => (List.range xs.size).filterMap g) (funext fun k => ?_)
    show xs[((xs.size : Int) - 1 + (k : Int) * -1).toNat]? = xs[xs.size - 1 - k]?
    rw [show ((xs.size : Int) - 1 + (k : Int) * -1).toNat = xs.size - 1 - k by omega]
  rw [e, PySem.W.krv_range, List.filterMap_reverse, PySem.W.krv_all]
theorem getItem_back {t sl : Addr} {items : Array Value} {vs : Value} {Q : Value → Shared → Prop} (ht : IsTup s.heap t items) (hs : s.heap.IsSliceOf sl .none .none vs) (ps : IsPart vs (some (-1)))
    (h : Q (.ref s.heap.objs.size) { s with heap := s.heap.push { cls := .type "tuple", data := .seq items.toList.reverse.toArray } }) (hsz : items.size ≤ sizeLine) : wpAny (model prog w) A (getItem (.ref t) (.ref sl)) Q E s := by
  have hok : sizeOk (.seq items.toList.reverse.toArray) := by
    show items.toList.reverse.toArray.size ≤ sizeLine
    rw [List.size_toArray, List.length_reverse]; exact hsz
  obtain ⟨os, hos, hcs, hds⟩ := id hs
  have hTs : s.TypeIs (.ref sl) "slice" := ⟨os, hos, hcs⟩
  unfold getItem
  try with_reducible refine wpAny_holding ?_
  first | refine wpAny_bind (wpAny_pure ?_) | skip
  refine wpAny_bind (wpAny_sequenceKey ht.typeIs (by decide) ?_)
  refine wpAny_bind (wpAny_callSpecial?_slot (name := Str.ofString "__getitem__") ht.typeIs PyProof.Rows.slot_tuple_getitem (wpAny_call_entry PyProof.Rows.slot_tuple_getitem ht.typeIs entry_tuple_getitem ?_ (args_tuple_getitem _ _)))
  show wpAny _ _ (Builtin.Tuple.tupleItemsOf (.ref t) >>= _) _ _ s
  refine wpAny_bind (PyProof.Rows.tupleItemsOf_ ht (wpAny_bind (wpAny_typeOf hTs ?_)))
  rw [if_pos (by decide)]
  refine wpAny_bind (applied_back hs ps ?_)
  have hno : ¬ ((((items.size : Int) - 1 == 0) && (-1 : Int) == 1 && items.size == items.size) = true) := by
    rw [show ((-1 : Int) == 1) = false by decide, Bool.and_false, Bool.false_and]; exact Bool.false_ne_true
  show wpAny _ _ (if (((items.size : Int) - 1 == 0) && (-1 : Int) == 1 && items.size == items.size) = true then _ else _) _ _ s
  rw [if_neg hno, pick_back]
  first
    | exact wpAny_bind (m := Builtin.Tuple.tupleExact _) (wpAny_newObj_type (wpAny_pure ⟨_, rfl, wpAny_pure h⟩) hok)
    | exact wpAny_bind (wpAny_bind (m := Builtin.Tuple.tupleExact _) (wpAny_newObj_type (wpAny_pure ⟨_, rfl, wpAny_pure h⟩) hok))
    | exact wpAny_bind (wpAny_bind (m := Builtin.Tuple.tupleExact _) (wpAny_newObj_type (wpAny_pure (wpAny_pure ⟨_, rfl, wpAny_pure h⟩)) hok))
end
section
variable {X : Cx}
/-- t[::-1], t a tuple: always a new one -/
def tRevT (K : PySem.W.Frag) (te : TE) : TE := fun σ H Q => te σ H fun x H1 => ∃ a xs, x = .ref a ∧ SqT K H1 a xs ∧ ∀ p o, H1 p = none → o.dict = none → Q (.ref p) (upd H1 p (.frz o (.tup xs.reverse)))
theorem pe_revT {e : Expr} {te : TE} {k : Nat} {p1 p2 p3 pos : Pos} (he : PE X e te) : PE X (.Subscript e (.Slice none none (some (.UnaryOp .USub (.Constant (.int 1) k p1) p2)) p3) pos) (tRevT X.K te) := by
  refine ⟨fun pins s σ H Q I h => Subscript_ (thn (he.run pins s σ H _ I h) fun v s1 ⟨x, H1, I1, r1, a, xs, ex, hx, q⟩ => ?_)⟩
  subst ex; cases r1
  have hst : PO X (some (.UnaryOp .USub (.Constant (.int 1) k p1) p2)) (tPart (tUn (rU fun i => .int (-i)) (tC (.int 1)))) := po_some (pe_un un_neg pe_int)
  refine wpAny_Slice (thn (po_none.run pins s1 σ H1 (fun o G => o = none ∧ G = H1) I1 ⟨rfl, rfl⟩) fun vl s2 ⟨l, H2, I2, pl, el, e2⟩ => ?_)
  subst el e2
  refine thn (po_none.run pins s2 σ H2 (fun o G => o = none ∧ G = H2) I2 ⟨rfl, rfl⟩) fun vu s3 ⟨u, H3, I3, pu, eu, e3⟩ => ?_
  subst eu e3
  refine thn (hst.run pins s3 σ H3 (fun o G => o = some (-1) ∧ G = H3) I3 ⟨1, rfl, -1, rfl, rfl, rfl⟩) fun vs s4 ⟨o, H4, I4, ps, eo, e4⟩ => ?_
  subst eo e4
  cases pl; cases pu
  have I5 : Inv X pins σ H4 { s4 with heap := s4.heap.push { cls := .type "slice", data := .fields #[.none, .none, vs] } } := I4.kept (t' := s4.toks) fun b ob q => Heap.get?_push_of_some _ q
  obtain ⟨its, r, ht, hz⟩ := I5.tuple hx
  have hlen := r.length
  show wpAny (model X.prog X.w) X.A (subscriptTail e (.Slice none none (some (.UnaryOp .USub (.Constant (.int 1) k p1) p2)) p3) (.ref a) (.ref s4.heap.objs.size)) (EP X pins σ Q) X.xe { s4 with heap := s4.heap.push { cls := .type "slice", data := .fields #[.none, .none, vs] } }
  refine tail_any (ops := [.ref a, .ref s4.heap.objs.size]) ht.typeIs (PyProof.Rows.slot_tuple_getitem.lookup) ?_ (by with_unfolding_all rfl)
  refine getItem_back ht (Heap.IsSliceOf.new _ .none .none vs) ps ?_ (by rw [List.size_toArray]; omega)
  refine ⟨.ref _, _, I5.laid (t' := s4.toks) (o := .frz { cls := .type "tuple", data := .seq its.toArray.toList.reverse.toArray } (.tup xs.reverse)) (fun b ob q => Heap.get?_push_of_some _ q) (Nat.le_refl _) ?_, rfl, q _ _ (I5.hok.fresh (Nat.le_refl _)) rfl⟩
  exact ⟨Heap.get?_push_size _ rfl, by rw [List.length_reverse]; exact hz, _, r.reverse, IsTup.new _ _⟩
/-- tuple(a list): the new tuple, as the very object -/
theorem call_tupleF : CallR X (.type "tuple") (fun xs H Q => ∃ p ys, xs = [.ref p] ∧ SqL X.K H p ys ∧ ∀ l o, H l = none → o.dict = none → Q (.ref l) (upd H l (.frz o (.tup ys)))) := by
  intro pins s σ H xs us Q I r ⟨p, ys, ex, hS, q⟩
  subst ex
  obtain ⟨u, rfl, rx⟩ := vals1 r
  cases rx
  obtain ⟨its, r', pl, hz⟩ := I.list hS
  have hlen := r'.length
  refine call_tuple_list pl.isList (fun h' kp => ?_) (by simp only [List.size_toArray] <;> omega)
  have I1 : Inv X pins σ H { s with heap := h' } := I.kept (t' := s.toks) kp
  exact ⟨.ref h'.objs.size, _, I1.laid (t' := s.toks) (o := .frz { cls := .type "tuple", data := .seq its.toArray } (.tup ys)) (fun b o e => Heap.get?_push_of_some _ e) (Nat.le_refl _) ⟨Heap.get?_push_size _ rfl, hz, its, r', IsTup.new _ _⟩, rfl, q _ _ (I1.hok.fresh (Nat.le_refl _)) rfl⟩
/-- (a, b, ..): the same -/
def tTupF (t : TA) : TE := fun σ H Q => t σ H fun xs H1 => xs.length ≤ sizeLine ∧ ∀ p o, H1 p = none → o.dict = none → Q (.ref p) (upd H1 p (.frz o (.tup xs)))
theorem pe_tupF {es : List Expr} {t : TA} {pos : Pos} {x1} (h : PA X es t) : PE X (.Tuple es x1 pos) (tTupF t) := by
  refine ⟨fun pins s σ H Q I hq => wpAny_Tuple_spliced (thn (h.run pos pins s σ H _ I hq) fun us s1 ⟨xs, H1, I1, r, z, q⟩ => ⟨by rw [← r.length]; exact z, ?_⟩)⟩
  exact ⟨.ref s1.heap.objs.size, _, I1.laid (t' := s1.toks) (o := .frz { cls := .type "tuple", data := .seq us.toArray } (.tup xs)) (fun b u e => Heap.get?_push_of_some _ e) (Nat.le_refl _) ⟨Heap.get?_push_size _ rfl, z, us, r, IsTup.new _ _⟩, rfl, q _ _ (I1.hok.fresh (Nat.le_refl _)) rfl⟩
/-- t + u -/
def rCatF (K : PySem.W.Frag) : R2 := fun x y H Q => ∃ a b xs ys, x = .ref a ∧ y = .ref b ∧ SqT K H a xs ∧ SqT K H b ys ∧ xs.length + ys.length ≤ sizeLine ∧
  (xs = [] → Q (.ref b) H) ∧ (xs ≠ [] → ys = [] → Q (.ref a) H) ∧ (xs ≠ [] → ys ≠ [] → ∀ p o, H p = none → o.dict = none → Q (.ref p) (upd H p (.frz o (.tup (xs ++ ys)))))
theorem op_catF : OpR X (binaryOp .Add) (rCatF X.K) := by
  intro pins s σ H x y v u Q I rx ry ⟨a, b, xs, ys, ex, ey, ha, hb, hz, q0, q1, q2⟩
  subst ex ey; cases rx; cases ry
  obtain ⟨its, r1, p1, _⟩ := I.tuple ha
  obtain ⟨its2, r2, p2, _⟩ := I.tuple hb
  by_cases hx : xs = []
  · subst hx; cases r1
    exact cat_tup0 p1 p2 ⟨.ref b, H, I, rfl, q0 rfl⟩
  · refine HT.cat_tup p1 p2 (fun z => hx (r1.nil_iff.mp z)) (fun z => ⟨.ref a, H, I, rfl, q1 hx (r2.nil_iff.mp z)⟩) (fun z => ?_) (by rw [← r1.length, ← r2.length]; exact hz)
    exact ⟨.ref s.heap.objs.size, _, I.laid (t' := s.toks) (o := .frz { cls := .type "tuple", data := .seq (its ++ its2).toArray } (.tup (xs ++ ys))) (fun b ob q => Heap.get?_push_of_some _ q) (Nat.le_refl _)
      ⟨Heap.get?_push_size _ rfl, by rw [List.length_append]; exact hz, _, r1.append r2, IsTup.new _ _⟩, rfl, q2 hx (fun w => z (r2.nil_iff.mpr w)) _ _ (I.hok.fresh (Nat.le_refl _)) rfl⟩
/-- t[lo:hi] -/
def rSlF (K : PySem.W.Frag) : V → Option Int → Option Int → Hp → VK → Prop := fun x lo hi H Q => ∃ a xs, x = .ref a ∧ SqT K H a xs ∧
  (HT.sIx xs.length 0 lo = 0 ∧ HT.sIx xs.length xs.length hi = xs.length → Q (.ref a) H) ∧
  (¬ (HT.sIx xs.length 0 lo = 0 ∧ HT.sIx xs.length xs.length hi = xs.length) → ∀ p o, H p = none → o.dict = none → Q (.ref p) (upd H p (.frz o (.tup (cutV xs lo hi)))))
theorem sl_tupF : SlR X (rSlF X.K) := by
  intro pins s σ H x v vl vu lo hi sl Q I rx hs pl pu ⟨a, xs, ex, hx, q1, q2⟩
  subst ex; cases rx
  obtain ⟨its, r, ht, hz⟩ := I.tuple hx
  have hlen : its.toArray.size = xs.length := List.size_toArray.trans r.length.symm
  refine ⟨"tuple", _, PyProof.Rows.slot_tuple_getitem.lookup, ht.typeIs, ?_⟩
  by_cases hw : HT.sIx xs.length 0 lo = 0 ∧ HT.sIx xs.length xs.length hi = xs.length
  · exact getItem_tuple_whole ht hs pl pu (by rw [hlen]; exact hw) ⟨.ref a, H, I, rfl, q1 hw⟩
  · refine HT.getItem_tuple_cut ht hs pl pu (by rw [hlen]; exact hw) ?_ (by rw [hlen]; exact hz)
    rw [hlen]
    exact ⟨.ref s.heap.objs.size, _, I.laid (t' := s.toks) (o := .frz { cls := .type "tuple", data := .seq ((its.toArray.toList.drop (HT.sIx xs.length 0 lo)).take (HT.sIx xs.length xs.length hi - HT.sIx xs.length 0 lo)).toArray } (.tup (cutV xs lo hi))) (fun b ob q => Heap.get?_push_of_some _ q) (Nat.le_refl _)
      ⟨Heap.get?_push_size _ rfl, Nat.le_trans (cutV_length xs lo hi) hz, _, (r.drop (HT.sIx xs.length 0 lo)).take (HT.sIx xs.length xs.length hi - HT.sIx xs.length 0 lo), IsTup.new _ _⟩, rfl, q2 hw _ _ (I.hok.fresh (Nat.le_refl _)) rfl⟩
/-- t.m(e, ..), t a tuple that stands as the very object, without a dict of its own -/
def tBMT (r : V → List V → Hp → VK → Prop) (to : TE) (t : TA) : TE := fun σ H Q => to σ H fun x H1 => (∃ p ob ys, x = .ref p ∧ ob.dict = none ∧ H1 p = some (.frz ob (.tup ys))) ∧ t σ H1 fun xs H2 => r x xs H2 Q
theorem pe_bmT {o e : Expr} {es : List Expr} {to : TE} {t : TA} {name : Str} {apos cpos : Pos} {id : String} {r : V → List V → Hp → VK → Prop} (slot : Slot "tuple" name id) (hty : typeOf (.builtin id) = pure (.type "method_descriptor")) (hm : MtR X id r) (ho : PE X o to) (ha : PA X (e :: es) t)
    (hbase : attributeBase o name X.env (eval o X.env) = eval o X.env := by rfl)
    (hfew : ((backTo cpos (starEach (e :: es) X.env)).all (fun x => !x.1) && (backToKw cpos (keywordEach [] X.env)).all (fun x => x.1.isSome) && decide ((e :: es).length + ([] : List Keyword).length + (if ([] : List Keyword).isEmpty then 0 else 1) < 30)) = true := by rfl)
    (hline : (apos.endLine == cpos.line) = true := by rfl) (hs : starEach (e :: es) X.env = (false, eval e X.env) :: starEach es X.env := by rfl) (hplain : (backTo cpos (starEach es X.env)).any (·.1) = false := by rfl) :
    PE X (.Call (.Attribute o name apos) (e :: es) [] cpos) (tBMT r to t) := by
  refine ⟨fun pins s σ H Q I h => wpAny_Call_method_late hbase hfew hline rfl (thn (ho.run pins s σ H _ I h) fun v s1 ⟨x, H1, I1, r1, ⟨p, ob, ys, ex, hd, hp⟩, q1⟩ => ?_)⟩
  subst ex
  cases (show v = Value.ref p from r1)
  obtain ⟨g, z, its, rv, o', g', c', _⟩ := (show ObjOk X.prog X.w H1 s1.heap p (.frz ob (.tup ys)) from I1.hok p _ hp)
  refine ⟨"tuple", id, PySem.F.plainAttrs_tuple, slot, hty, ⟨o', g', c'⟩, fun a e => by cases e; exact ⟨ob, g, hd⟩, ?_⟩
  have hA := ha.run cpos pins s1 σ H1 _ I1 q1
  rw [hs] at hA ⊢
  refine Calls.callWith_builtin (by show (false || (backTo cpos (starEach es X.env)).any (·.1)) = false; rw [hplain] <;> rfl) (Calls.evalArgs_plain (thn hA fun us s2 ⟨vs, H2, I2, r2, q2⟩ => ?_))
  exact hm pins s2 σ H2 (.ref p) vs (.ref p) us Q I2 rfl r2 q2
end
end TR
namespace TR
open PySem PySem.Spec PyProof.Rows L2
/-! ### values of any kind, as data; ban: where no list of them stands -/
mutual
def Rp (H : Hp) (ban : List Addr) : PyData → V → Prop
  | .none, v => v = .non
  | .bool b, v => v = .bl b
  | .int i, v => v = .int i
  | .str x, v => v = .str x
  | .list ds, v => ∃ a xs, v = .ref a ∧ H a = some (.lst xs) ∧ a ∉ ban ∧ RpAll H ban ds xs
  | .tuple ds, v => ∃ a xs, v = .ref a ∧ Rd H a (.tup xs) ∧ RpAll H ban ds xs
  | .dict kvs, v => kvs = [] ∧ ∃ a, v = .ref a ∧ H a = some (.dK [])
def RpAll (H : Hp) (ban : List Addr) : List PyData → List V → Prop
  | [], xs => xs = []
  | d :: ds, xs => ∃ v r, xs = v :: r ∧ Rp H ban d v ∧ RpAll H ban ds r
end
mutual
theorem Rp.mv {H H' : Hp} {ban : List Addr} (mL : ∀ a xs, a ∉ ban → H a = some (.lst xs) → H' a = some (.lst xs)) (mT : ∀ a xs, Rd H a (.tup xs) → Rd H' a (.tup xs)) (mD : ∀ a, H a = some (.dK []) → H' a = some (.dK [])) : ∀ (d : PyData) (v : V), Rp H ban d v → Rp H' ban d v
  | .none, _, h => h
  | .bool _, _, h => h
  | .int _, _, h => h
  | .str _, _, h => h
  | .list ds, _, h => by
    obtain ⟨a, xs, e, h1, h2, h3⟩ := h
    exact ⟨a, xs, e, mL a xs h2 h1, h2, RpAll.mv mL mT mD ds xs h3⟩
  | .tuple ds, _, h => by
    obtain ⟨a, xs, e, h1, h3⟩ := h
    exact ⟨a, xs, e, mT a xs h1, RpAll.mv mL mT mD ds xs h3⟩
  | .dict kvs, _, h => by
    obtain ⟨e0, a, e, h1⟩ := h
    exact ⟨e0, a, e, mD a h1⟩
theorem RpAll.mv {H H' : Hp} {ban : List Addr} (mL : ∀ a xs, a ∉ ban → H a = some (.lst xs) → H' a = some (.lst xs)) (mT : ∀ a xs, Rd H a (.tup xs) → Rd H' a (.tup xs)) (mD : ∀ a, H a = some (.dK []) → H' a = some (.dK [])) : ∀ (ds : List PyData) (xs : List V), RpAll H ban ds xs → RpAll H' ban ds xs
  | [], _, h => h
  | d :: ds, _, h => by
    obtain ⟨v, r, e, h1, h2⟩ := h
    exact ⟨v, r, e, Rp.mv mL mT mD d v h1, RpAll.mv mL mT mD ds r h2⟩
end
theorem rd_same {H H' : Hp} {a : Addr} {u : HO} (s : Same H H') (h : Rd H a u) : Rd H' a u := by
  rcases h with h | ⟨o, h⟩
  · exact .inl (s _ _ h)
  · exact .inr ⟨o, s _ _ h⟩
theorem Rp.same {H H' : Hp} {ban : List Addr} {d : PyData} {v : V} (h : Rp H ban d v) (s : Same H H') : Rp H' ban d v := Rp.mv (fun a xs _ e => s _ _ e) (fun a xs e => rd_same s e) (fun a e => s _ _ e) d v h
theorem RpAll.same {H H' : Hp} {ban : List Addr} {ds : List PyData} {xs : List V} (h : RpAll H ban ds xs) (s : Same H H') : RpAll H' ban ds xs := RpAll.mv (fun a xs _ e => s _ _ e) (fun a xs e => rd_same s e) (fun a e => s _ _ e) ds xs h
theorem Rp.keep {H H' : Hp} {ban : List Addr} {d : PyData} {v : V} {k p q : Addr} {n : Nat} (h : Rp H ban d v) (D : Deck H k p q n) (s : Keep k p H H') (b1 : k ∈ ban) (b2 : p ∈ ban) : Rp H' ban d v := by
  obtain ⟨x, y, c, e1⟩ := D.hd
  obtain ⟨zs, e2⟩ := D.hp
  refine Rp.mv (fun a xs hn e => s _ _ e (fun z => hn (z ▸ b1)) (fun z => hn (z ▸ b2))) (fun a xs e => ?_) (fun a e => s _ _ e (ne_of e e1 (by intro z; cases z)) (ne_of e e2 (by intro z; cases z))) d v h
  rcases e with e | ⟨o, e⟩
  · exact .inl (s _ _ e (ne_of e e1 (by intro z; cases z)) (ne_of e e2 (by intro z; cases z)))
  · exact .inr ⟨o, s _ _ e (ne_of e e1 (by intro z; cases z)) (ne_of e e2 (by intro z; cases z))⟩
theorem RpAll.len {H : Hp} {ban : List Addr} : ∀ {ds : List PyData} {xs : List V}, RpAll H ban ds xs → xs.length = ds.length
  | [], _, h => by rw [show _ = [] from h]; rfl
  | d :: ds, _, h => by
    obtain ⟨v, r, rfl, _, h2⟩ := h
    rw [List.length_cons, List.length_cons, RpAll.len h2]
theorem RpAll.get {H : Hp} {ban : List Addr} : ∀ {ds : List PyData} {xs : List V}, RpAll H ban ds xs → ∀ {i : Nat} {x : V}, xs[i]? = some x → ∃ d, ds[i]? = some d ∧ Rp H ban d x
  | [], _, h, i, x, e => by rw [show _ = [] from h] at e; simp at e
  | d :: ds, _, h, i, x, e => by
    obtain ⟨v, r, rfl, h1, h2⟩ := h
    cases i with
    | zero =>
      cases (Option.some.inj e)
      exact ⟨d, rfl, h1⟩
    | succ i => exact RpAll.get h2 e
theorem RpAll.app {H : Hp} {ban : List Addr} : ∀ {ds es : List PyData} {xs ys : List V}, RpAll H ban ds xs → RpAll H ban es ys → RpAll H ban (ds ++ es) (xs ++ ys)
  | [], _, _, _, h, g => by rw [show _ = [] from h]; exact g
  | d :: ds, _, _, _, h, g => by
    obtain ⟨v, r, rfl, h1, h2⟩ := h
    exact ⟨v, _, rfl, h1, RpAll.app h2 g⟩
theorem RpAll.take {H : Hp} {ban : List Addr} : ∀ {ds : List PyData} {xs : List V} (k : Nat), RpAll H ban ds xs → RpAll H ban (ds.take k) (xs.take k)
  | _, _, 0, _ => rfl
  | [], _, k + 1, h => by rw [show _ = [] from h]; rfl
  | d :: ds, _, k + 1, h => by
    obtain ⟨v, r, rfl, h1, h2⟩ := h
    exact ⟨v, _, rfl, h1, RpAll.take k h2⟩
theorem RpAll.drop {H : Hp} {ban : List Addr} : ∀ {ds : List PyData} {xs : List V} (k : Nat), RpAll H ban ds xs → RpAll H ban (ds.drop k) (xs.drop k)
  | _, _, 0, h => h
  | [], _, k + 1, h => by rw [show _ = [] from h]; rfl
  | d :: ds, _, k + 1, h => by
    obtain ⟨v, r, rfl, h1, h2⟩ := h
    exact RpAll.drop k h2
theorem RpAll.rev {H : Hp} {ban : List Addr} : ∀ {ds : List PyData} {xs : List V}, RpAll H ban ds xs → RpAll H ban ds.reverse xs.reverse
  | [], _, h => by rw [show _ = [] from h]; rfl
  | d :: ds, _, h => by
    obtain ⟨v, r, rfl, h1, h2⟩ := h
    rw [List.reverse_cons, List.reverse_cons]
    exact RpAll.app (RpAll.rev h2) ⟨v, [], rfl, h1, rfl⟩
theorem RpAll.ints {H : Hp} {ban : List Addr} : ∀ ns : List Int, RpAll H ban (ns.map PyData.int) (ns.map V.int)
  | [] => rfl
  | n :: r => ⟨_, _, rfl, rfl, RpAll.ints r⟩
/-! ### what is small enough to be shown -/
def leafOk (L : Nat) : PyData → Prop
  | .none => True
  | .bool _ => True
  | .int i => i.natAbs ≤ 10 ^ 59 + L
  | .str x => x.length ≤ 69 ∧ ∀ c ∈ x.cps.toList, c < 16 ^ 8
  | _ => False
def Wf (L : Nat) : Nat → PyData → Prop
  | 0, d => leafOk L d
  | D + 1, d => leafOk L d ∨ d = .dict [] ∨ ∃ ds, (d = .list ds ∨ d = .tuple ds) ∧ ds.length ≤ L ∧ ∀ e ∈ ds, Wf L D e
theorem leafOk.mono {L L' : Nat} (h : L ≤ L') : ∀ {d : PyData}, leafOk L d → leafOk L' d
  | .none, _ => trivial
  | .bool _, _ => trivial
  | .int i, g => Nat.le_trans g (Nat.add_le_add_left h _)
  | .str _, g => g
theorem Wf.mono {L L' : Nat} (h : L ≤ L') : ∀ {D D' : Nat} {d : PyData}, D ≤ D' → Wf L D d → Wf L' D' d
  | 0, 0, _, _, g => leafOk.mono h g
  | 0, _ + 1, _, _, g => .inl (leafOk.mono h g)
  | _ + 1, 0, _, k, _ => absurd k (by omega)
  | D + 1, D' + 1, _, k, g => by
    rcases g with g | g | ⟨ds, e, l, c⟩
    · exact .inl (leafOk.mono h g)
    · exact .inr (.inl g)
    · exact .inr (.inr ⟨ds, e, Nat.le_trans l h, fun x hx => Wf.mono h (by omega) (c x hx)⟩)
def bnd : Nat → Nat
  | 0 => 700
  | D + 1 => 3 + 11 * (bnd D + 2)
theorem bnd_ge : ∀ D, 700 ≤ bnd D
  | 0 => Nat.le_refl _
  | D + 1 => by
    have := bnd_ge D
    show 700 ≤ 3 + 11 * (bnd D + 2)
    omega
theorem small_int {L : Nat} (h : L ≤ 11) {i : Int} (g : i.natAbs ≤ 10 ^ 59 + L) : i.natAbs < 10 ^ 60 := by
  have e : (10 : Nat) ^ 60 = 10 * 10 ^ 59 := by decide
  have e2 : (11 : Nat) < 10 ^ 59 := by decide
  omega
theorem small_log {i : Int} (g : i.natAbs < 10 ^ 60) : i.natAbs.log2 < 1920 := by
  by_cases h : i.natAbs = 0
  · rw [h]; decide
  · refine (Nat.log2_lt h).mpr (Nat.lt_trans g (by decide +kernel))
theorem leaf_shown {L : Nat} (h : L ≤ 11) : ∀ {d : PyData}, leafOk L d → d.shown.length ≤ 700 ∧ d.showable = true ∧ d.depth = 0
  | .none, _ => ⟨by decide +kernel, rfl, rfl⟩
  | .bool b, _ => ⟨by cases b <;> decide +kernel, rfl, rfl⟩
  | .int i, g => by
    have g2 := small_int h g
    refine ⟨?_, decide_eq_true (small_log g2), rfl⟩
    show (Str.ofString (toString i)).length ≤ 700
    have := int_text_length_le10 (k := 60) (by decide) g2
    rw [PySem.ofString_length]
    omega
  | .str x, g => by
    refine ⟨?_, rfl, rfl⟩
    show (reprText x).length ≤ 700
    have := StrLaws.reprText_len x g.2
    have := g.1
    omega
theorem piled_le {B : Nat} : ∀ ts : List Str, (∀ t ∈ ts, t.length ≤ B) → piled ts ≤ ts.length * (B + 2)
  | [], _ => Nat.zero_le _
  | t :: r, h => by
    have := piled_le r fun x hx => h x (List.mem_cons_of_mem _ hx)
    have := h t (List.mem_cons_self ..)
    rw [piled_cons, List.length_cons, Nat.succ_mul]
    omega
theorem text_le : ∀ (ts : List Str) (k : Nat) (acc : Str), (textFrom k acc ts).length ≤ acc.length + piled ts
  | [], _, _ => Nat.le_refl _
  | t :: r, k, acc => by
    have := text_le r (k + 1) (acc ++ (if k > 0 then ", " else "" : String) ++ t)
    rw [Str.length_append, Str.length_append] at this
    have e : ((if k > 0 then ", " else "" : String) : Str).length ≤ 2 := by
      split <;> decide +kernel
    rw [piled_cons]
    show (textFrom (k + 1) (acc ++ (if k > 0 then ", " else "" : String) ++ t) r).length ≤ _
    omega
theorem list_le (ts : List Str) : (listText ts).length ≤ 2 + piled ts := by
  have := text_le ts 0 "["
  unfold listText
  rw [Str.length_append]
  have e1 : ("[" : Str).length = 1 := by decide +kernel
  have e2 : ("]" : Str).length = 1 := by decide +kernel
  omega
theorem tup_le (ts : List Str) : (tupleText ts).length ≤ 3 + piled ts := by
  unfold tupleText
  rw [Str.length_append, Str.length_append]
  have e1 : ("(" : Str).length = 1 := by decide +kernel
  have e2 : ((if (ts.length == 1) = true then ",)" else ")" : String) : Str).length ≤ 2 := by
    split <;> decide +kernel
  have e3 : (Str.join ", " ts).length ≤ piled ts := by
    cases ts with
    | nil => decide +kernel
    | cons t r =>
      have := join_length_add (t :: r) (by simp)
      omega
  omega
theorem shownAll_len : ∀ ds : List PyData, (PyData.shownAll ds).length = ds.length
  | [] => rfl
  | d :: r => by
    show (PyData.shownAll r).length + 1 = r.length + 1
    rw [shownAll_len r]
theorem shownAll_mem : ∀ (ds : List PyData) (t : Str), t ∈ PyData.shownAll ds → ∃ d ∈ ds, t = d.shown
  | [], _, h => by cases h
  | d :: r, t, h => by
    rcases List.mem_cons.mp h with e | h
    · exact ⟨d, List.mem_cons_self .., e⟩
    · obtain ⟨x, hx, e⟩ := shownAll_mem r t h
      exact ⟨x, List.mem_cons_of_mem _ hx, e⟩
theorem showAll : ∀ ds : List PyData, (∀ d ∈ ds, d.showable = true) → PyData.showableAll ds = true
  | [], _ => rfl
  | d :: r, h => by
    show (d.showable && PyData.showableAll r) = true
    rw [h d (List.mem_cons_self ..), showAll r fun x hx => h x (List.mem_cons_of_mem _ hx)]
    rfl
theorem depAll {D : Nat} : ∀ ds : List PyData, (∀ d ∈ ds, d.depth ≤ D) → PyData.depthAll ds ≤ D
  | [], _ => Nat.zero_le _
  | d :: r, h => by
    show max d.depth (PyData.depthAll r) ≤ D
    exact Nat.max_le.mpr ⟨h d (List.mem_cons_self ..), depAll r fun x hx => h x (List.mem_cons_of_mem _ hx)⟩
theorem Wf.shown {L : Nat} (h : L ≤ 11) : ∀ {D : Nat} {d : PyData}, Wf L D d → d.shown.length ≤ bnd D ∧ d.showable = true ∧ d.depth ≤ D
  | 0, _, g => by
    obtain ⟨a, b, c⟩ := leaf_shown h g
    exact ⟨a, b, by omega⟩
  | D + 1, d, g => by
    have hb : 700 ≤ bnd (D + 1) := bnd_ge (D + 1)
    rcases g with g | rfl | ⟨ds, e, l, c⟩
    · obtain ⟨a, b, c⟩ := leaf_shown h g
      exact ⟨Nat.le_trans a hb, b, by omega⟩
    · exact ⟨Nat.le_trans (by decide +kernel) hb, rfl, by show 0 + 1 ≤ D + 1; omega⟩
    · have ih := fun x hx => Wf.shown h (c x hx)
      have p1 : piled (PyData.shownAll ds) ≤ 11 * (bnd D + 2) := by
        refine Nat.le_trans (piled_le (B := bnd D) _ fun t ht => ?_) ?_
        · obtain ⟨x, hx, rfl⟩ := shownAll_mem ds t ht
          exact (ih x hx).1
        · rw [shownAll_len]
          exact Nat.mul_le_mul_right _ (by omega)
      have p2 := showAll ds fun x hx => (ih x hx).2.1
      have p3 := depAll ds fun x hx => (ih x hx).2.2
      rcases e with rfl | rfl
      · refine ⟨?_, p2, ?_⟩
        · show (listText (PyData.shownAll ds)).length ≤ 3 + 11 * (bnd D + 2)
          have := list_le (PyData.shownAll ds)
          omega
        · show PyData.depthAll ds + 1 ≤ D + 1
          omega
      · refine ⟨?_, p2, ?_⟩
        · show (tupleText (PyData.shownAll ds)).length ≤ 3 + 11 * (bnd D + 2)
          have := tup_le (PyData.shownAll ds)
          omega
        · show PyData.depthAll ds + 1 ≤ D + 1
          omega
theorem bnd_small {D : Nat} (h : D ≤ 4) : bnd D ≤ sizeLine := by
  have e : bnd 4 ≤ sizeLine := by decide +kernel
  have m : ∀ a b, a ≤ b → bnd a ≤ bnd b := by
    intro a b hab
    induction hab with
    | refl => exact Nat.le_refl _
    | step _ ih =>
      refine Nat.le_trans ih ?_
      show bnd _ ≤ 3 + 11 * (bnd _ + 2)
      omega
  exact Nat.le_trans (m D 4 h) e
end TR
namespace TR
open PySem PySem.Spec PyProof.Rows L2
section
variable {X : Cx} {pins : List (Addr × Obj)} {σ : L2.St} {H : Hp} {s : Shared}
mutual
theorem Rp.reads {ban : List Addr} (hb : sysModules ∈ ban) (I : Inv X pins σ H s) : ∀ (d : PyData) (v : V) (u : Value), Rp H ban d v → RelV v u → ∃ as, Reads s.heap u d as ∧ sysModules ∉ as
  | .none, _, _, h, r => by cases (show _ = V.non from h); cases r; exact ⟨_, .none, by simp⟩
  | .bool b, _, _, h, r => by cases (show _ = V.bl b from h); cases r; exact ⟨_, .bool b, by simp⟩
  | .int i, _, _, h, r => by cases (show _ = V.int i from h); obtain ⟨t, rfl⟩ := r; exact ⟨_, .int i t, by simp⟩
  | .str x, _, _, h, r => by cases (show _ = V.str x from h); obtain ⟨t, rfl⟩ := r; exact ⟨_, .str x t, by simp⟩
  | .list ds, _, _, h, r => by
    obtain ⟨a, xs, rfl, h1, h2, h3⟩ := h
    cases r
    obtain ⟨z, its, n, rv, e⟩ := (show ObjOk X.prog X.w H s.heap a (.lst xs) from I.hok a _ h1)
    obtain ⟨as, g, m⟩ := RpAll.reads hb I ds xs its h3 rv
    exact ⟨a :: as, .list e rfl rfl (by simpa using g), by simp only [List.mem_cons, not_or]; exact ⟨fun e => h2 (e ▸ hb), m⟩⟩
  | .tuple ds, _, _, h, r => by
    obtain ⟨a, xs, rfl, h1, h3⟩ := h
    cases r
    obtain ⟨z, its, rv, o, e, c, n, hd⟩ := h1.ok I.hok
    obtain ⟨as, g, m⟩ := RpAll.reads hb I ds xs its h3 rv
    exact ⟨as, .tuple e c hd (by simpa using g), m⟩
  | .dict kvs, _, _, h, r => by
    obtain ⟨rfl, a, rfl, h1⟩ := h
    cases r
    obtain ⟨z, hs, vs, kv, o, es, ep, e, ex, hd, _, ps, _⟩ := dk_of I.hok h1
    cases kv
    have hes : es = #[] := by
      cases es with
      | mk l =>
        cases (show Pairs _ l [] from ps)
        rfl
    subst hes
    refine ⟨[a], .dict (as := []) (bs := []) e ex.1 hd .nil .nil, fun m => ?_⟩
    have e2 : sysModules = a := List.mem_singleton.mp m
    rw [e2] at hs
    exact absurd hs (by simp)
theorem RpAll.reads {ban : List Addr} (hb : sysModules ∈ ban) (I : Inv X pins σ H s) : ∀ (ds : List PyData) (xs : List V) (us : List Value), RpAll H ban ds xs → Vals xs us → ∃ as, ReadsAll s.heap us ds as ∧ sysModules ∉ as
  | [], _, _, h, r => by cases (show _ = [] from h); cases r; exact ⟨_, .nil, by simp⟩
  | d :: ds, _, _, h, r => by
    obtain ⟨v, t, rfl, h1, h2⟩ := h
    cases r with
    | cons r1 r2 =>
      obtain ⟨as, q1, m1⟩ := Rp.reads hb I d _ _ h1 r1
      obtain ⟨bs, q2, m2⟩ := RpAll.reads hb I ds _ _ h2 r2
      exact ⟨as ++ bs, .cons q1 q2, by simp only [List.mem_append, not_or]; exact ⟨m1, m2⟩⟩
end
end
section
variable {X : Cx}
/-- repr(x), x of any kind -/
theorem call_reprD (hg : X.A.guards = some []) (hu : X.A.units + 64 < cLine) : CallR X (.builtin "repr") (fun xs H Q => ∃ x d ban, xs = [x] ∧ sysModules ∈ ban ∧ Rp H ban d x ∧ d.showable = true ∧ d.depth ≤ 50 ∧ d.shown.length ≤ sizeLine ∧ Q (.str d.shown) H) := by
  intro pins s σ H xs us Q I r ⟨x, d, ban, ex, hb, hp, hs, hd, hz, q⟩
  subst ex
  obtain ⟨u, rfl, rx⟩ := vals1 r
  obtain ⟨as, rd, m⟩ := Rp.reads hb I d x u hp rx
  have fin : ∀ (h' : Heap) (t : Tok) (tk : Nat), (∀ b o, s.heap.get? b = some o → h'.get? b = some o) → EP X pins σ Q (.str d.shown t) { s with heap := h', toks := tk } := fun h' t tk kp => ⟨.str d.shown, H, I.kept (t' := tk) kp, ⟨t, rfl⟩, q⟩
  have here : ∀ (t : Tok) (tk : Nat), EP X pins σ Q (.str d.shown t) { s with toks := tk } := fun t tk => fin s.heap t tk fun _ _ e => e
  cases rd with
  | none => exact PySem.P.repr_of_none (here _ _)
  | bool b => exact PySem.P.repr_of_bool (here _ _)
  | int i t => exact PySem.P.repr_of_int (of_decide_eq_true hs) (here _ _)
  | str z t => exact PySem.P.repr_of_str (here _ _) hz
  | list h1 h2 h3 h4 => exact repr_of_reads' (.list h1 h2 h3 h4) hs (fun _ => m) hg (by omega) (fun _ _ e => e) (fun h' u tk kp => fin h' u tk kp) hz
  | tuple h1 h2 h3 h4 => exact repr_of_reads' (.tuple h1 h2 h3 h4) hs (fun _ => m) hg (by omega) (fun _ _ e => e) (fun h' u tk kp => fin h' u tk kp) hz
  | dict h1 h2 h3 h4 h5 => exact repr_of_reads' (.dict h1 h2 h3 h4 h5) hs (fun _ => m) hg (by omega) (fun _ _ e => e) (fun h' u tk kp => fin h' u tk kp) hz
/-- xs == [] -/
theorem op_eqL0 (hu : X.A.units < cLine) : OpR X (compareOp .Eq) (fun x y H Q => ∃ a b xs, x = .ref a ∧ y = .ref b ∧ SqL X.K H a xs ∧ SqL X.K H b [] ∧ Q (.bl xs.isEmpty) H) := by
  intro pins s σ H x y v u Q I rx ry ⟨a, b, xs, ex, ey, ha, hb, q⟩
  subst ex ey; cases rx; cases ry
  obtain ⟨its, r1, p1, _⟩ := I.list ha
  obtain ⟨its2, r2, p2, _⟩ := I.list hb
  cases r2
  cases r1 with
  | nil => exact SeqAt.RcAt.lists (e := fun _ => true) p1.isList p2.isList rfl hu (fun j j1 _ => absurd j1 (by simp)) _ _ _ _ ⟨.bl true, H, I, rfl, q⟩
  | cons _ _ => exact SeqAt.RcAt.lists_lengths p1.isList p2.isList (by simp) hu _ _ _ _ ⟨.bl false, H, I, rfl, q⟩
/-- t != () -/
theorem op_neT0 (hu : X.A.units < cLine) : OpR X (compareOp .NotEq) (fun x y H Q => ∃ a b xs, x = .ref a ∧ y = .ref b ∧ SqT X.K H a xs ∧ SqT X.K H b [] ∧ Q (.bl (!xs.isEmpty)) H) := by
  intro pins s σ H x y v u Q I rx ry ⟨a, b, xs, ex, ey, ha, hb, q⟩
  subst ex ey; cases rx; cases ry
  obtain ⟨its, r1, p1, _⟩ := I.tuple ha
  obtain ⟨its2, r2, p2, _⟩ := I.tuple hb
  cases r2
  have h := SeqAt.RcNeAt.tuples (A := X.A) (s := s) (e := fun _ => true) p1 p2 hu (fun j _ j2 => absurd j2 (by simp))
  cases r1 with
  | nil => exact h _ _ _ _ ⟨.bl false, H, I, rfl, q⟩
  | cons _ _ => exact h _ _ _ _ ⟨.bl true, H, I, rfl, q⟩
/-- b + i, b - i, b a bool -/
theorem op_add_bi : OpR X (binaryOp .Add) (fun x y H Q => ∃ k i, x = .bl k ∧ y = .int i ∧ Q (.int ((if k = true then (1 : Int) else 0) + i)) H) := by
  intro pins s σ H x y v u Q I rx ry ⟨k, i, ex, ey, q⟩
  subst ex ey; cases rx; obtain ⟨t, rfl⟩ := ry
  exact PySem.IntBool.add_bool_int ⟨.int _, H, I.tok _, ⟨_, rfl⟩, q⟩
theorem op_sub_bi : OpR X (binaryOp .Sub) (fun x y H Q => ∃ k i, x = .bl k ∧ y = .int i ∧ Q (.int ((if k = true then (1 : Int) else 0) - i)) H) := by
  intro pins s σ H x y v u Q I rx ry ⟨k, i, ex, ey, q⟩
  subst ex ey; cases rx; obtain ⟨t, rfl⟩ := ry
  exact PySem.IntBool.sub_bool_int ⟨.int _, H, I.tok _, ⟨_, rfl⟩, q⟩
/-- two rules for one operator: by what stands there -/
theorem OpR.either {f : Value → Value → Sem Value} {r1 r2 : R2} (h1 : OpR X f r1) (h2 : OpR X f r2) : OpR X f (fun x y H Q => r1 x y H Q ∨ r2 x y H Q) := by
  intro pins s σ H x y v u Q I rx ry h
  rcases h with h | h
  · exact h1 pins s σ H x y v u Q I rx ry h
  · exact h2 pins s σ H x y v u Q I rx ry h
/-- str(i), str(b) -/
theorem call_str_ib : CallR X (.type "str") (fun xs H Q => (∃ i, xs = [.int i] ∧ i.natAbs.log2 < 1920 ∧ Q (.str (toString i)) H) ∨ ∃ k : Bool, xs = [.bl k] ∧ Q (.str (if k then "True" else "False")) H) := by
  intro pins s σ H xs us Q I r h
  rcases h with h | ⟨k, ex, q⟩
  · exact call_str_int pins s σ H xs us Q I r h
  · subst ex
    obtain ⟨u, rfl, rx⟩ := vals1 r
    cases rx
    exact PySem.P.str_of_bool ⟨.str _, H, I.tok _, ⟨_, rfl⟩, q⟩
/-- [..]: a new list never stands where the modules' table stands -/
def tLstM (t : TA) : TE := fun σ H Q => t σ H fun xs H1 => xs.length ≤ sizeLine ∧ ∀ p, H1 p = none → p ≠ sysModules → Q (.ref p) (upd H1 p (.lst xs))
theorem pe_lstM {es : List Expr} {t : TA} {pos : Pos} (h : PA X es t) : PE X (.List es pos) (tLstM t) := by
  refine ⟨fun pins s σ H Q I hq => wpAny_List_spliced (thn (h.run pos pins s σ H _ I hq) fun us s1 ⟨xs, H1, I1, r, z, q⟩ => ⟨by rw [← r.length]; exact z, ?_⟩)⟩
  exact ⟨.ref s1.heap.objs.size, _, I1.laid (t' := s1.toks) (o := .lst xs) (fun b u e => Heap.get?_push_of_some _ e) (Nat.le_refl _) ⟨z, us, 0, r, Heap.get?_push_size _ rfl⟩, rfl, q _ (I1.hok.fresh (Nat.le_refl _)) (Nat.ne_of_gt I1.big)⟩
/-- list(t), t a tuple -/
theorem call_listM : CallR X (.type "list") (fun xs H Q => ∃ p ys, xs = [.ref p] ∧ SqT X.K H p ys ∧ ∀ l, H l = none → l ≠ sysModules → Q (.ref l) (upd H l (.lst ys))) := by
  intro pins s σ H xs us Q I r ⟨p, ys, ex, hq, q⟩
  subst ex
  obtain ⟨u, rfl, rx⟩ := vals1 r
  cases rx
  obtain ⟨its, r', pl, hz⟩ := I.tuple hq
  have hlen := r'.length
  obtain ⟨o, ho, hc, n, hd⟩ := pl
  refine call_list_seq p (.inr rfl) ho hc hd (fun h' c' kp e => ?_) (by simp only [List.size_toArray] <;> omega)
  exact ⟨.ref s.heap.objs.size, _, I.laid (t' := s.toks) (o := .lst ys) kp (Nat.le_refl _) ⟨hz, its, c', r', e⟩, rfl, q _ (I.hok.fresh (Nat.le_refl _)) (Nat.ne_of_gt I.big)⟩
end
/-! ### the type of a value -/
def tyD : PyData → String
  | .none => "NoneType"
  | .bool _ => "bool"
  | .int _ => "int"
  | .str _ => "str"
  | .list _ => "list"
  | .tuple _ => "tuple"
  | .dict _ => "dict"
theorem tyRp {K : PySem.W.Frag} {H : Hp} {ban : List Addr} : ∀ {d : PyData} {v : V}, Rp H ban d v → TyX K H v (.type (tyD d))
  | .none, _, h => by rw [show _ = V.non from h]; exact .base .non
  | .bool b, _, h => by rw [show _ = V.bl b from h]; exact .base (.bl b)
  | .int i, _, h => by rw [show _ = V.int i from h]; exact .base (.int i)
  | .str x, _, h => by rw [show _ = V.str x from h]; exact .base (.str x)
  | .list ds, _, h => by
    obtain ⟨a, xs, rfl, h1, _⟩ := h
    exact .base (.lst h1)
  | .tuple ds, _, h => by
    obtain ⟨a, xs, rfl, h1, _⟩ := h
    rcases h1 with h1 | ⟨o, h1⟩
    · exact .base (.tup h1)
    · exact .fTuple h1
  | .dict kvs, _, h => by
    obtain ⟨_, a, rfl, h1⟩ := h
    exact .base (.dK h1)
theorem kit7 : ∀ t ∈ ["NoneType", "bool", "int", "str", "list", "tuple", "dict"], kitB t "tuple" = some (decide (t = "tuple")) ∧ kitB t "int" = some (decide (t = "int" ∨ t = "bool")) ∧ kitB t "bool" = some (decide (t = "bool")) := by decide +kernel
theorem tyD_mem (d : PyData) : tyD d ∈ ["NoneType", "bool", "int", "str", "list", "tuple", "dict"] := by cases d <;> simp [tyD]
theorem kitD {K : PySem.W.Frag} (d : PyData) : PySem.W.kitOne K (.type (tyD d)) (.type "tuple") = some (decide (tyD d = "tuple")) ∧ PySem.W.kitOne K (.type (tyD d)) (.type "int") = some (decide (tyD d = "int" ∨ tyD d = "bool")) ∧ PySem.W.kitOne K (.type (tyD d)) (.type "bool") = some (decide (tyD d = "bool")) := by
  obtain ⟨a, b, c⟩ := kit7 (tyD d) (tyD_mem d)
  exact ⟨kit_ty a, kit_ty b, kit_ty c⟩
end TR
namespace TR
open PySem PySem.Spec PyProof.Rows L2
section
variable {X : Cx}
/-! ### new objects, told by what holds behind them -/
def tTupN (t : TA) : TE := fun σ H Q => t σ H fun xs H1 => xs.length ≤ sizeLine ∧ ∀ p H', H1 p = none → Same H1 H' → H' p = some (.tup xs) → Q (.ref p) H'
theorem pe_tupN {es : List Expr} {t : TA} {pos : Pos} {x1} (h : PA X es t) : PE X (.Tuple es x1 pos) (tTupN t) := by
  refine ⟨fun pins s σ H Q I hq => wpAny_Tuple_spliced (thn (h.run pos pins s σ H _ I hq) fun us s1 ⟨xs, H1, I1, r, z, q⟩ => ⟨by rw [← r.length]; exact z, ?_⟩)⟩
  have hf : H1 s1.heap.objs.size = none := I1.hok.fresh (Nat.le_refl _)
  exact ⟨.ref s1.heap.objs.size, _, I1.laid (t' := s1.toks) (o := .tup xs) (fun b u e => Heap.get?_push_of_some _ e) (Nat.le_refl _) ⟨z, us, r, IsTup.new _ _⟩, rfl, q _ _ hf (same_upd hf) upd_same⟩
def tLstN (t : TA) : TE := fun σ H Q => t σ H fun xs H1 => xs.length ≤ sizeLine ∧ ∀ p H', H1 p = none → p ≠ sysModules → Same H1 H' → H' p = some (.lst xs) → Q (.ref p) H'
theorem pe_lstN {es : List Expr} {t : TA} {pos : Pos} (h : PA X es t) : PE X (.List es pos) (tLstN t) := by
  refine ⟨fun pins s σ H Q I hq => wpAny_List_spliced (thn (h.run pos pins s σ H _ I hq) fun us s1 ⟨xs, H1, I1, r, z, q⟩ => ⟨by rw [← r.length]; exact z, ?_⟩)⟩
  have hf : H1 s1.heap.objs.size = none := I1.hok.fresh (Nat.le_refl _)
  exact ⟨.ref s1.heap.objs.size, _, I1.laid (t' := s1.toks) (o := .lst xs) (fun b u e => Heap.get?_push_of_some _ e) (Nat.le_refl _) ⟨z, us, 0, r, Heap.get?_push_size _ rfl⟩, rfl, q _ _ hf (Nat.ne_of_gt I1.big) (same_upd hf) upd_same⟩
def tDNewN : TE := fun _ H Q => ∀ p H', H p = none → Same H H' → H' p = some (.dK []) → Q (.ref p) H'
theorem pe_dnewN {pos : Pos} : PE X (.Dict [] [] pos) tDNewN := by
  refine ⟨fun pins s σ H Q I h => (pe_dnewK (pos := pos)).run pins s σ H Q I ?_⟩
  exact fun p hp => h p _ hp (same_upd hp) upd_same
/-- xs + ys, lists -/
theorem op_catN : OpR X (binaryOp .Add) (fun x y H Q => ∃ a b xs ys, x = .ref a ∧ y = .ref b ∧ H a = some (.lst xs) ∧ H b = some (.lst ys) ∧ xs.length + ys.length ≤ sizeLine ∧ ∀ p H', H p = none → Same H H' → H' p = some (.lst (xs ++ ys)) → Q (.ref p) H') := by
  intro pins s σ H x y v u Q I rx ry ⟨a, b, xs, ys, ex, ey, ha, hb, hz, q⟩
  exact op_cat pins s σ H x y v u Q I rx ry ⟨a, b, xs, ys, ex, ey, ha, hb, hz, fun p hp => q p _ hp (same_upd hp) upd_same⟩
/-- t + u, tuples: some tuple of both -/
theorem op_catTN : OpR X (binaryOp .Add) (fun x y H Q => ∃ a b xs ys, x = .ref a ∧ y = .ref b ∧ Rd H a (.tup xs) ∧ Rd H b (.tup ys) ∧ xs.length + ys.length ≤ sizeLine ∧ ∀ p H', Same H H' → Rd H' p (.tup (xs ++ ys)) → Q (.ref p) H') := by
  intro pins s σ H x y v u Q I rx ry ⟨a, b, xs, ys, ex, ey, ha, hb, hz, q⟩
  refine op_catA pins s σ H x y v u Q I rx ry ⟨a, b, xs, ys, ex, ey, .inl ha, .inl hb, hz, fun e => ?_, fun _ e => ?_, fun _ _ p hp => q p _ (same_upd hp) (.inl upd_same)⟩
  · subst e; exact q b H (Same.refl _) hb
  · subst e; exact q a H (Same.refl _) (by rw [List.append_nil]; exact ha)
theorem cut_whole {xs : List V} {lo hi : Option Int} (h : HT.sIx xs.length 0 lo = 0 ∧ HT.sIx xs.length xs.length hi = xs.length) : cutV xs lo hi = xs := by
  unfold cutV
  rw [h.1, h.2]
  exact List.take_of_length_le (by simp)
/-- t[lo:hi]: some tuple of the part -/
theorem sl_tupN : SlR X (fun x lo hi H Q => ∃ a xs, x = .ref a ∧ Rd H a (.tup xs) ∧ ∀ p H', Same H H' → Rd H' p (.tup (cutV xs lo hi)) → Q (.ref p) H') := by
  intro pins s σ H x v vl vu lo hi sl Q I rx hs pl pu ⟨a, xs, ex, hx, q⟩
  refine sl_tupA pins s σ H x v vl vu lo hi sl Q I rx hs pl pu ⟨a, xs, ex, .inl hx, fun hw => ?_, fun _ p hp => q p _ (same_upd hp) (.inl upd_same)⟩
  exact q a H (Same.refl _) (by rw [cut_whole hw]; exact hx)
/-- t[::-1] -/
def tRevN (te : TE) : TE := fun σ H Q => te σ H fun x H1 => ∃ a xs, x = .ref a ∧ Rd H1 a (.tup xs) ∧ ∀ p H', Same H1 H' → Rd H' p (.tup xs.reverse) → Q (.ref p) H'
theorem pe_revN {e : Expr} {te : TE} {k : Nat} {p1 p2 p3 pos : Pos} (he : PE X e te) (mono : ∀ σ H (Q Q' : VK), (∀ x H', Q x H' → Q' x H') → te σ H Q → te σ H Q') : PE X (.Subscript e (.Slice none none (some (.UnaryOp .USub (.Constant (.int 1) k p1) p2)) p3) pos) (tRevN te) := by
  refine ⟨fun pins s σ H Q I h => (pe_revT he).run pins s σ H Q I (mono σ H _ _ (fun x H1 hq => ?_) h)⟩
  obtain ⟨a, xs, ex, hx, q⟩ := hq
  exact ⟨a, xs, ex, .inl hx, fun p o hp _ => q p _ (same_upd hp) (.inr ⟨o, upd_same⟩)⟩
/-- list(t) -/
theorem call_listN : CallR X (.type "list") (fun xs H Q => ∃ a ys, xs = [.ref a] ∧ Rd H a (.tup ys) ∧ ∀ p H', H p = none → p ≠ sysModules → Same H H' → H' p = some (.lst ys) → Q (.ref p) H') := by
  intro pins s σ H xs us Q I r ⟨a, ys, ex, hx, q⟩
  exact call_listM pins s σ H xs us Q I r ⟨a, ys, ex, .inl hx, fun p hp n => q p _ hp n (same_upd hp) upd_same⟩
end
end TR
namespace TR
open PySem PySem.Spec PyProof.Rows L2
/-! ### own exceptions as values -/
/-- an exception of the class at C, its dict d, at a -/
def ExF (C : Addr) (d : Option Addr) (a : Addr) : HO := .ext fun h => ∃ (oe : Obj) (vs : Array Value), h.get? a = some oe ∧ Zc (.ref C) d oe ∧ oe.data = .fields vs
theorem exF_ok {P : Program} {w : World} {H : Hp} {h : Heap} {a C : Addr} {d : Option Addr} {oe : Obj} {vs : Array Value} (e : h.get? a = some oe) (z : Zc (.ref C) d oe) (hd : oe.data = .fields vs) : ObjOk P w H h a (ExF C d a) :=
  ⟨⟨oe, vs, e, z, hd⟩, ⟨oe, e⟩, fun _ _ ⟨o, v, q, r⟩ k => ⟨o, v, k o q, r⟩⟩
/-- what the making of an exception with one field leaves -/
structure Made (fn : Str) (h h' : Heap) (e C d : Addr) (v : Value) : Prop where
  keep : ∀ b o, h.get? b = some o → h'.get? b = some o
  new : h.objs.size ≤ e
  obj : ∃ oe vs, h'.get? e = some oe ∧ oe.cls = .ref C ∧ oe.dict = some d ∧ oe.data = .fields vs
  dbig : h.objs.size ≤ d
  dne : d ≠ e
  ns : h'.Ns1 d (fun y => if y = fn then some v else none)
/-- a class whose __init__ stores its one argument in the field fn -/
structure MkF (K : PySem.W.Frag) (mg : Str → Option Value) (cn fn : Str) (C : Addr) : Prop where
  gC : mg cn = some (.ref C)
  kC : PySem.W.keepIn K (.ref C) = true
  no : PySem.W.findIn K (.ref C) fn = some none
  made : ∀ (prog : Program) (w : World) (A : Around) (R : Result → Shared → Prop) (s : Shared) (v : Value), K.In s.heap → s.heap.NoLimit → A.depth + 1 < recursionLimit →
    (∀ h' tk e d, Made fn s.heap h' e C d v → R (.ok (.ret (.ref e))) { s with heap := h', toks := tk }) → codeAny (model prog w) A (.call (.ref C) ⟨[v], []⟩) R s
theorem relO_fld {v : V} {v' : Value} (r : RelV v v') (fn f : Str) : RelO (List.lookup f [(fn, v)]) (if f = fn then some v' else none) := by
  by_cases hw : f = fn
  · subst hw
    rw [if_pos rfl]
    have q : List.lookup f [(f, v)] = some v := by simp [List.lookup]
    rw [q]
    exact r
  · rw [if_neg hw]
    have qw : (f == fn) = false := by simpa using hw
    have q2 : List.lookup f [(fn, v)] = none := by simp [List.lookup, qw]
    rw [q2]
    trivial
section
variable {X : Cx}
/-- C(e) -/
def tMkF (C : Addr) (fn : Str) (ta : TA) : TE := fun σ H Q => ta σ H fun vs H1 => ∃ v, vs = [v] ∧ ∀ e d H', Same H1 H' → H' e = some (ExF C (some d) e) → H' d = some (.xd [(fn, v)]) → Q (.ref e) H'
theorem pe_mkF {cn fn : Str} {C : Addr} {a : Expr} {ta : TA} {p pos : Pos} {k : Nat} (T : MkF X.K X.mg cn fn C) (hr : Room k X.A) (ha : PA X [a] ta) (hg : Gl X cn := by rfl) (hdb : (cn == ("__debug__" : Str)) = false := by decide)
    (he : starEach (a :: []) X.env = (false, eval a X.env) :: starEach [] X.env := by rfl) (hpl : (backTo pos (starEach [] X.env)).any (·.1) = false := by rfl) :
    PE X (.Call (.Name cn p) [a] [] pos) (tMkF C fn ta) := by
  refine ⟨fun pins s σ H Q I h => ?_⟩
  refine wpAny_Call_Name_kw (ld_glob I hg T.gC ?_ hdb)
  refine PySem.W.callWith_K (h₀ := X.base) I.ok.mod.kin T.kC (thn (ha.run pos pins s σ H _ I h) fun us s1 hh => ?_) he hpl
  obtain ⟨vs, H1, I1, r1, v, ev, q1⟩ := hh
  subst ev
  refine ⟨I1.kIn, ?_⟩
  cases r1 with
  | cons rv rn =>
    rename_i v' us'
    cases rn
    show wpAny _ _ (call (.ref C) [v']) _ _ _
    have hlim := I1.nolimit
    obtain ⟨hp, g, dr, tk, os⟩ := s1
    refine wpAny_call (T.made _ _ _ _ _ _ I1.kIn hlim (by have := hr.dp; omega) fun h' tk' e d M => ?_)
    show EP X pins σ Q (.ref e) ⟨h', g, dr, tk', os⟩
    obtain ⟨oe, fv, hoe, hc, hd, hdat⟩ := M.obj
    have hns := M.ns
    obtain ⟨G', g1, g2⟩ := restrict h' fun b => decide (b ≠ e)
    have gk : ∀ b, b ≠ e → G'.get? b = h'.get? b := fun b hb => g1 b (decide_eq_true hb)
    have ge : G'.get? e = none := g2 e (by simp)
    have old : ∀ b o, hp.get? b = some o → G'.get? b = some o := fun b o q => (gk b (Nat.ne_of_lt (Nat.lt_of_lt_of_le (Heap.lt_size q) M.new))).trans (M.keep b o q)
    have ob : ObjOk X.prog X.w (upd H1 d (.xd [(fn, v)])) G' d (.xd [(fn, v)]) :=
      ⟨_, hns.at (fun o q => (gk d M.dne).trans q), fun f => relO_fld rv fn f⟩
    have J : Inv X pins σ (upd H1 d (.xd [(fn, v)])) ⟨G', g, dr, tk', os⟩ := I1.laid (t' := tk') old M.dbig ob
    have nd : H1 d = none := I1.hok.fresh M.dbig
    have ne : upd H1 d (.xd [(fn, v)]) e = none := by
      rw [upd_ne (Ne.symm M.dne)]
      exact I1.hok.fresh M.new
    have J2 : Inv X pins σ (upd (upd H1 d (.xd [(fn, v)])) e (ExF C (some d) e)) ⟨h', g, dr, tk', os⟩ := J.laidN (t' := tk') (fun b o q => by
      by_cases hb : b = e
      · have q' : G'.get? b = some o := q
        rw [hb, ge] at q'; cases q'
      · exact (gk b hb).symm.trans q) ge ne (exF_ok hoe ⟨hc, hd⟩ hdat)
    exact ⟨.ref e, _, J2, rfl, q1 e d _ ((same_upd nd).trans (same_upd ne)) upd_same (by rw [upd_ne M.dne]; exact upd_same)⟩
/-- C() -/
def tMk0 (C : Addr) : TE := fun _ H Q => ∀ e H', Same H H' → H' e = some (ExF C none e) → Q (.ref e) H'
theorem pe_mk0 {C : Addr} {bmB : List Value} {B newId initId : String} {x : Str} {p pos : Pos} (F : ExcBaseFacts B newId initId bmB) (q : PySem.W.excIn X.K C bmB newId = true) (gC : X.mg x = some (.ref C)) (kC : PySem.W.keepIn X.K (.ref C) = true) (hg : Gl X x) (hdb : (x == ("__debug__" : Str)) = false := by decide) :
    PE X (.Call (.Name x p) [] [] pos) (tMk0 C) := by
  refine ⟨fun pins s σ H Q I h => ?_⟩
  refine wpAny_Call_Name_kw (ld_glob I hg gC ?_ hdb)
  refine PySem.W.callWith_K0 I.kIn kC ?_
  show wpAny _ _ (call (.ref C) []) _ _ _
  obtain ⟨bm, N, nm, qn, bs, hdct, sn, sub, ab, col, dd, k0, k1, k2, k3, k5, mN, hC, hN, hni, T⟩ := exc_obj I.kIn q
  refine wpAny_call_exc_subT F T hC hN hni (fun h' a hm => ?_) (Nat.zero_le _)
  have hn : H a = none := I.hok.gone hm.new
  obtain ⟨t, ht, _, _⟩ := hm.there
  exact ⟨.ref a, upd H a (ExF C none a), I.laidN hm.keeps hm.new hn (exF_ok ht ⟨rfl, rfl⟩ rfl), rfl, h a _ (same_upd hn) upd_same⟩
/-- where an exception's dict stands -/
def XdAt (H : Hp) : Option Addr → Prop
  | none => True
  | some dd => ∃ fs, H dd = some (.xd fs)
theorem XdAt.same {H H' : Hp} (s : Same H H') : ∀ {d : Option Addr}, XdAt H d → XdAt H' d
  | none, _ => trivial
  | some _, ⟨fs, h⟩ => ⟨fs, s _ _ h⟩
theorem exF_inst {pins : List (Addr × Obj)} {σ : L2.St} {H : Hp} {s : Shared} {a C : Addr} {d : Option Addr} (I : Inv X pins σ H s) (h : H a = some (ExF C d a)) (hd : XdAt H d) : ∃ oe od, PySem.W.InstAt s.heap a oe C od ∧ (d = none → od = none) ∧ (∀ dd, d = some dd → od.isSome = true) := by
  obtain ⟨⟨oe, vs, hget, hz, hv⟩, _⟩ := (show ObjOk X.prog X.w H s.heap a (ExF C d a) from I.hok a _ h)
  cases d with
  | none => exact ⟨oe, none, ⟨hget, hz.1, by unfold PySem.W.notCls; rw [hv] <;> rfl, by rw [hz.2]; trivial⟩, fun _ => rfl, fun _ z => by cases z⟩
  | some dd =>
    obtain ⟨fs, hx⟩ := hd
    obtain ⟨mA, hns, _⟩ := (show ObjOk X.prog X.w H s.heap dd (.xd fs) from I.hok dd _ hx)
    obtain ⟨od, ho, _⟩ := lookIn_ns hns
    exact ⟨oe, some od, ⟨hget, hz.1, by unfold PySem.W.notCls; rw [hv] <;> rfl, by rw [hz.2]; exact ho⟩, (fun z => by cases z), fun _ _ => rfl⟩
/-- isinstance(e, c), e an exception held as a value -/
def rIsF (K : PySem.W.Frag) : List V → Hp → VK → Prop := fun xs H Q => ∃ (a C : Addr) (d : Option Addr) (c : V) (cv : Value) (b : Bool), xs = [.ref a, c] ∧ H a = some (ExF C d a) ∧ XdAt H d ∧ ExcC K C ∧ ClsV c cv ∧ PySem.W.kitOne K (.ref C) cv = some b ∧ Q (.bl b) H
theorem call_isF : CallR X (.builtin "isinstance") (rIsF X.K) := by
  intro pins s σ H xs us Q I r ⟨a, D, d, c, cv, b, ex, ha, hd, C, hc, e, q⟩
  subst ex
  cases r with
  | cons rx rr =>
    cases rr with
    | cons rt rr =>
      cases rr; cases rx
      have ec := hc.eq rt
      subst ec
      obtain ⟨oe, od, J, h0, h1⟩ := exF_inst I ha hd
      cases d with
      | none =>
        cases h0 rfl
        exact PySem.W.kia_one (PySem.W.handS_kitx_exc C.hg C.hk C.hs C.hd C.ha C.hn C.ht C.hm) I.kIn J e (fun z => nomatch z) fun tk => ⟨.bl b, H, I.kept (t' := tk) fun _ _ z => z, rfl, q⟩
      | some dd =>
        obtain ⟨od', rfl⟩ := Option.isSome_iff_exists.mp (h1 dd rfl)
        obtain ⟨cd, hcd, _⟩ := PySem.W.any_some C.hd
        exact PySem.W.kia_one (PySem.W.kitx_exc (by rw [hcd]; rfl) C.hg C.hk C.hs C.ha C.hn C.ht C.hm) I.kIn J e (fun z => nomatch z) fun tk => ⟨.bl b, H, I.kept (t' := tk) fun _ _ z => z, rfl, q⟩
/-- e.f, e an exception held as a value -/
def tFldF (K : PySem.W.Frag) (n : Str) (te : TE) : TE := fun σ H Q => te σ H fun x H1 => ∃ (a C dd : Addr) (v : V), x = .ref a ∧ H1 a = some (ExF C (some dd) a) ∧ H1 dd = some (.xd [(n, v)]) ∧ ExcC K C ∧ PySem.W.findIn K (.ref C) n = some none ∧ Q v H1
theorem pe_fldF {e : Expr} {te : TE} {pos : Pos} {n : Str} (he : PE X e te) (hb : attributeBase e n X.env (eval e X.env) = eval e X.env := by rfl) : PE X (.Attribute e n pos) (tFldF X.K n te) := by
  refine ⟨fun pins s σ H Q I h => ?_⟩
  refine attr_of hb (thn (he.run pins s σ H _ I h) fun u s1 hh => ?_)
  obtain ⟨x, H1, I1, rx, a, C, dd, v, ex, ha, hx, T, no, q⟩ := hh
  subst ex
  obtain rfl : u = Value.ref a := rx
  obtain ⟨⟨oe, vs, hget, hz, hv⟩, _⟩ := (show ObjOk X.prog X.w H1 s1.heap a (ExF C (some dd) a) from I1.hok a _ ha)
  obtain ⟨mA, hns, hr⟩ := (show ObjOk X.prog X.w H1 s1.heap dd (.xd [(n, v)]) from I1.hok dd _ hx)
  obtain ⟨od, ho, hl⟩ := lookIn_ns hns
  have l : List.lookup n [(n, v)] = some v := by simp [List.lookup]
  obtain ⟨u, hu, ru⟩ := RelO.some_of (v := v) (o := mA n) (by rw [← l]; exact hr n)
  have J : PySem.W.InstAt s1.heap a oe C (some od) := ⟨hget, hz.1, by unfold PySem.W.notCls; rw [hv] <;> rfl, by rw [hz.2]; exact ho⟩
  exact HandSPX.exc_get I1.kIn J T.hg T.hk T.hs (PySem.W.findObj_own T.hd no rfl (by rw [hl, hu])) (handed_of ru) ⟨v, H1, I1.tok _, ru, q⟩
end
end TR
namespace PySem
namespace KaX
open PySem.W PySem.Calls PyProof.Rows PySem.HandSPX
/-! ### the text of __init__ -/
def iA (p1 p2 : Pos) : Arguments := { posonlyargs := [], args := [{ arg := "self", annotation := none, pos := p1 }, { arg := "ranking", annotation := none, pos := p2 }], vararg := none, kwonlyargs := [], kw_defaults := [], kwarg := none, defaults := [] }
def iB (q1 q2 q3 q4 : Pos) : List Stmt := [.Assign [.Attribute (.Name "self" q1) "ranking" q2] (.Name "ranking" q3) q4]
def iS : Scope := { kind := .function, names := [(PySem.Str.ofString "self", .local), (PySem.Str.ofString "ranking", .local)], isGenerator := false, isCoroutine := false, more := [] }
/-- what the written part says of Low, at C, and of its __init__, at fI -/
structure KaTxt (K : Frag) (mg : Str → Option Value) (C fI : Addr) : Prop where
  gC : mg "NoRanking" = some (.ref C)
  cls : ∃ nm q N bs bm sn sub ab col dd k0 k1 k2 k3 k5, K.lookup C = some (excClassObj nm q C N bs bm true sn sub ab col dd k0 k1 k2 k3 k5 "ValueError.__new__") ∧ refsVE bm = true
  sa : findIn K (.ref C) "__setattr__" = some (some (.builtin "object.__setattr__"))
  ga : findIn K (.ref C) "__getattribute__" = some (some (.builtin "BaseException.__getattribute__"))
  gg : findIn K (.ref C) "__getattr__" = some none
  noN : findIn K (.ref C) "ranking" = some none
  iC : findIn K (.ref C) "__init__" = some (some (.ref fI))
  tC : typeIn K (.ref fI) = some (.type "function")
  kC : keepIn K (.ref C) = true
  exC : subIn K (.ref C) (.type "BaseException") = some true
  tyC : typeIn K (.ref C) = some (.type "type")
  hdC : hasDictIn K C = true
  fn : ∃ (oc : Value) (od : Option Addr) (doc pm : Value) (an : Option Addr) (cdv ct : Value) (osl : Array (Option Value)) (p1 p2 q1 q2 q3 q4 : Pos),
    K.lookup fI = some ⟨oc, od, .func (fnOf "__init__" "NoRanking.__init__" (iA p1 p2) (iB q1 q2 q3 q4) iS .none .none doc pm an cdv ct), osl⟩ ∧ codeIn K cdv "NoRanking.__init__" = true
theorem one_size (v : Value) : [v].length ≤ sizeLine := by
  rw [sizeLine_eq]
  exact (by decide : 1 ≤ 16777216)
theorem kept_but {K : Frag} {h h' : Heap} {x : Addr} (X : K.In h) (hx : K.lookup x = none) (k : ∀ b o, b ≠ x → h.get? b = some o → h'.get? b = some o) : K.In h' := fun a o e =>
  k a o (fun z => by rw [z, hx] at e; cases e) (X a o e)
theorem ldC {M : Model} {s : Shared} {name : Str} {scope : Scope} {L a : Addr} {cd : Value} {m : Str → Option Value} {x : Str} {pos : Pos} {v : Value} {Q : Value → Shared → Prop} {A : Around} {E : Value → Shared → Prop} (hn : s.heap.Ns L m) (hv : m x = some v) (h : Q v s)
    (hk : scope.kind = .function := by rfl) (hl : (envOfC name scope L a cd).kindOf x = some .local := by rfl) (hd : (x == ("__debug__" : Str)) = false := by decide) :
    wpAny M A (eval (.Name x pos) (envOfC name scope L a cd)) Q E s := wpAny_Name (wpAny_loadName_local hk hl hn hv h) hd
/-- what __init__ leaves of a fresh exception at x -/
structure InitEnd (h h' : Heap) (x C dx t1 : Addr) (v : Value) : Prop where
  keep : ∀ b o, b ≠ x → h.get? b = some o → h'.get? b = some o
  obj : h'.get? x = some { cls := .ref C, dict := some dx, data := .fields #[.ref t1, .none, .none, .none, .bool false, .none] }
  dbig : h.objs.size ≤ dx
  dne : dx ≠ x
  ns : h'.Ns1 dx (fun y => if y = "ranking" then some v else none)
/-- a made Low -/
structure OwnMade (h h' : Heap) (e C d : Addr) (v : Value) : Prop where
  keep : ∀ b o, h.get? b = some o → h'.get? b = some o
  new : h.objs.size ≤ e
  obj : ∃ oe vs, h'.get? e = some oe ∧ oe.cls = .ref C ∧ oe.dict = some d ∧ oe.data = .fields vs ∧ vs[1]? = some .none
  dbig : h.objs.size ≤ d
  dne : d ≠ e
  ns : h'.Ns1 d (fun y => if y = "ranking" then some v else none)
section
variable {prog : Program} {w : World} {A : Around} {E : Value → Shared → Prop} {R : Result → Shared → Prop} {s : Shared} {K : Frag} {mg : Str → Option Value} {C fI : Addr}
theorem ka_init (T : KaTxt K mg C fI) {x t0 : Addr} {v : Value} (X : K.In s.heap) (hlim : s.heap.NoLimit) (hx : s.heap.get? x = some (excO C t0)) (hnx : K.lookup x = none) (hroom : A.depth < recursionLimit)
    (hq : ∀ h' tk dx, InitEnd s.heap h' x C dx t0 v → R (.ok (.ret .none)) { s with heap := h', toks := tk }) :
    codeAny (model prog w) A (.call (.ref fI) ⟨[.ref x, v], []⟩) R s := by
  obtain ⟨oc, od, doc, pm, an, cdv, ct, osl, p1, p2, q1, q2, q3, q4, ho, hcd⟩ := T.fn
  obtain ⟨nm, q, N, bs, bm, sn, sub, ab, col, dd, k0, k1, k2, k3, k5, hC, hbm⟩ := T.cls
  have hcl : clsIn K C = some { name := nm, bases := bs, mro := .ref C :: bm, ns := N, qualname := q, hasDict := true, slotNames := sn, subclasses := sub, abstract := ab, collection := col, hasDel := false } := by unfold clsIn; rw [hC] <;> rfl
  refine Att.call_fn (binds := [("self", .ref x), ("ranking", v)]) X hlim ho hcd hroom (BindsTo.of_eq (by first | rfl | with_unfolding_all rfl)) (by first | rfl | decide | with_unfolding_all rfl) (fun s₁ IC => ?_) rfl rfl rfl
  obtain ⟨h₁, tk₁, rfl⟩ := IC.toInCall.same
  have k : ∀ b o, s.heap.get? b = some o → h₁.get? b = some o := IC.toInCall.keep
  have hn := IC.toInCall.ns
  have hxL : s.heap.objs.size ≠ x := Nat.ne_of_gt (Heap.lt_size hx)
  have X₁ : K.In h₁ := X.keeps k
  have hx₁ := k _ _ hx
  -- self.by = by
  show wpAny _ _ (execs _ _) _ _ _
  refine wpAny_execs_cons (plainObj_wpAny_Assign_Attribute ?_)
  refine ldC (v := v) hn (by first | rfl | with_unfolding_all rfl | kernel_rfl) (ldC (v := .ref x) hn (by first | rfl | with_unfolding_all rfl | kernel_rfl) ?_)
  refine set_plain X₁ (ox := excO C t0) (od := none) ⟨hx₁, rfl, rfl, trivial⟩ T.sa ?_
  refine exc_osa X₁ hx₁ hcl (show refsVE (.ref C :: bm) = true from hbm) rfl T.noN (fun h₃ tk₃ dx k₃ dn dne hx₃ hn₃ => ?_)
  show wpAny _ _ (execs _ _) _ _ _
  have z : s.heap.objs.size < h₁.objs.size := hn.lt
  exact wpAny_execs_nil (hq h₃ tk₃ dx ⟨fun b o hb e => k₃ b o hb (k b o e), hx₃, Nat.le_of_lt (Nat.lt_of_lt_of_le z dn), dne, hn₃⟩)
theorem ka_made (T : KaTxt K mg C fI) {v : Value} (X : K.In s.heap) (hlim : s.heap.NoLimit) (hroom : A.depth + 1 < recursionLimit)
    (hq : ∀ h' tk e d, OwnMade s.heap h' e C d v → R (.ok (.ret (.ref e))) { s with heap := h', toks := tk }) :
    codeAny (model prog w) A (.call (.ref C) ⟨[v], []⟩) R s := by
  obtain ⟨nm, q, N, bs, bm, sn, sub, ab, col, dd, k0, k1, k2, k3, k5, hC, hbm⟩ := T.cls
  obtain ⟨hp, g, dr, tk, os⟩ := s
  have k : ∀ b o, hp.get? b = some o → ((hp.push (kdv_tup [v])).push (excO C hp.objs.size)).get? b = some o := fun b o e => Heap.get?_push_of_some _ (Heap.get?_push_of_some _ e)
  have hget : ((hp.push (kdv_tup [v])).push (excO C hp.objs.size)).get? (hp.objs.size + 1) = some (excO C hp.objs.size) := by heap_get
  have hnx : K.lookup (hp.objs.size + 1) = none := by
    cases e : K.lookup (hp.objs.size + 1) with
    | none => rfl
    | some o =>
      have z : hp.get? (hp.objs.size + 1) = some o := X _ _ e
      exact absurd (Nat.lt_of_succ_lt (Heap.lt_size z)) (Nat.lt_irrefl _)
  refine call_own F.excBase_ValueError (fun X => refsVE_contains X bm hbm) (X _ _ hC) (looks_findIn X T.iC) (fun self => bind_fn X self T.tC) (one_size v) ?_
  refine ka_init (s := ⟨(hp.push (kdv_tup [v])).push (excO C hp.objs.size), g, dr, tk, os⟩) T (X.keeps k) (hlim.keeps k) hget hnx ?_ fun h' tk' dx ⟨k', hx, dn, dne, hns⟩ => ?_
  · show A.depth + 1 < recursionLimit
    exact hroom
  · have old : ∀ b o, hp.get? b = some o → h'.get? b = some o := fun b o e => k' b o (Nat.ne_of_lt (Nat.lt_succ_of_lt (Heap.lt_size e))) (k b o e)
    have z : hp.objs.size + 1 + 1 ≤ dx := by
      first
        | (simpa only [Heap.size_push] using dn)
        | exact dn
        | (have q := dn; rw [Heap.size_push, Heap.size_push] at q; exact q)
    exact ⟨rfl, hq h' tk' (hp.objs.size + 1) dx ⟨old, Nat.le_succ _, ⟨_, _, hx, rfl, rfl, rfl, rfl⟩, Nat.le_trans (Nat.le_trans (Nat.le_succ _) (Nat.le_succ _)) z, dne, hns⟩⟩
end
end KaX
end PySem
namespace TR
open PySem PySem.Spec PyProof.Rows L2
theorem mkF_Ka {K : PySem.W.Frag} {mg : Str → Option Value} {C fI : Addr} (T : PySem.KaX.KaTxt K mg C fI) : MkF K mg "NoRanking" "ranking" C :=
  ⟨T.gC, T.kC, T.noN, fun prog w A R s v X hl hr h => PySem.KaX.ka_made T X hl hr fun h' tk e d M => h h' tk e d ⟨M.keep, M.new, let ⟨oe, vs, a, b, c, dd, _⟩ := M.obj; ⟨oe, vs, a, b, c, dd⟩, M.dbig, M.dne, M.ns⟩⟩
end TR
namespace PySem
namespace KbX
open PySem.W PySem.Calls PyProof.Rows PySem.HandSPX
/-! ### the text of __init__ -/
def iA (p1 p2 : Pos) : Arguments := { posonlyargs := [], args := [{ arg := "self", annotation := none, pos := p1 }, { arg := "weight", annotation := none, pos := p2 }], vararg := none, kwonlyargs := [], kw_defaults := [], kwarg := none, defaults := [] }
def iB (q1 q2 q3 q4 : Pos) : List Stmt := [.Assign [.Attribute (.Name "self" q1) "weight" q2] (.Name "weight" q3) q4]
def iS : Scope := { kind := .function, names := [(PySem.Str.ofString "self", .local), (PySem.Str.ofString "weight", .local)], isGenerator := false, isCoroutine := false, more := [] }
/-- what the written part says of Low, at C, and of its __init__, at fI -/
structure KbTxt (K : Frag) (mg : Str → Option Value) (C fI : Addr) : Prop where
  gC : mg "NoWeight" = some (.ref C)
  cls : ∃ nm q N bs bm sn sub ab col dd k0 k1 k2 k3 k5, K.lookup C = some (excClassObj nm q C N bs bm true sn sub ab col dd k0 k1 k2 k3 k5 "ValueError.__new__") ∧ refsVE bm = true
  sa : findIn K (.ref C) "__setattr__" = some (some (.builtin "object.__setattr__"))
  ga : findIn K (.ref C) "__getattribute__" = some (some (.builtin "BaseException.__getattribute__"))
  gg : findIn K (.ref C) "__getattr__" = some none
  noN : findIn K (.ref C) "weight" = some none
  iC : findIn K (.ref C) "__init__" = some (some (.ref fI))
  tC : typeIn K (.ref fI) = some (.type "function")
  kC : keepIn K (.ref C) = true
  exC : subIn K (.ref C) (.type "BaseException") = some true
  tyC : typeIn K (.ref C) = some (.type "type")
  hdC : hasDictIn K C = true
  fn : ∃ (oc : Value) (od : Option Addr) (doc pm : Value) (an : Option Addr) (cdv ct : Value) (osl : Array (Option Value)) (p1 p2 q1 q2 q3 q4 : Pos),
    K.lookup fI = some ⟨oc, od, .func (fnOf "__init__" "NoWeight.__init__" (iA p1 p2) (iB q1 q2 q3 q4) iS .none .none doc pm an cdv ct), osl⟩ ∧ codeIn K cdv "NoWeight.__init__" = true
theorem one_size (v : Value) : [v].length ≤ sizeLine := by
  rw [sizeLine_eq]
  exact (by decide : 1 ≤ 16777216)
theorem kept_but {K : Frag} {h h' : Heap} {x : Addr} (X : K.In h) (hx : K.lookup x = none) (k : ∀ b o, b ≠ x → h.get? b = some o → h'.get? b = some o) : K.In h' := fun a o e =>
  k a o (fun z => by rw [z, hx] at e; cases e) (X a o e)
theorem ldC {M : Model} {s : Shared} {name : Str} {scope : Scope} {L a : Addr} {cd : Value} {m : Str → Option Value} {x : Str} {pos : Pos} {v : Value} {Q : Value → Shared → Prop} {A : Around} {E : Value → Shared → Prop} (hn : s.heap.Ns L m) (hv : m x = some v) (h : Q v s)
    (hk : scope.kind = .function := by rfl) (hl : (envOfC name scope L a cd).kindOf x = some .local := by rfl) (hd : (x == ("__debug__" : Str)) = false := by decide) :
    wpAny M A (eval (.Name x pos) (envOfC name scope L a cd)) Q E s := wpAny_Name (wpAny_loadName_local hk hl hn hv h) hd
/-- what __init__ leaves of a fresh exception at x -/
structure InitEnd (h h' : Heap) (x C dx t1 : Addr) (v : Value) : Prop where
  keep : ∀ b o, b ≠ x → h.get? b = some o → h'.get? b = some o
  obj : h'.get? x = some { cls := .ref C, dict := some dx, data := .fields #[.ref t1, .none, .none, .none, .bool false, .none] }
  dbig : h.objs.size ≤ dx
  dne : dx ≠ x
  ns : h'.Ns1 dx (fun y => if y = "weight" then some v else none)
/-- a made Low -/
structure OwnMade (h h' : Heap) (e C d : Addr) (v : Value) : Prop where
  keep : ∀ b o, h.get? b = some o → h'.get? b = some o
  new : h.objs.size ≤ e
  obj : ∃ oe vs, h'.get? e = some oe ∧ oe.cls = .ref C ∧ oe.dict = some d ∧ oe.data = .fields vs ∧ vs[1]? = some .none
  dbig : h.objs.size ≤ d
  dne : d ≠ e
  ns : h'.Ns1 d (fun y => if y = "weight" then some v else none)
section
variable {prog : Program} {w : World} {A : Around} {E : Value → Shared → Prop} {R : Result → Shared → Prop} {s : Shared} {K : Frag} {mg : Str → Option Value} {C fI : Addr}
theorem kb_init (T : KbTxt K mg C fI) {x t0 : Addr} {v : Value} (X : K.In s.heap) (hlim : s.heap.NoLimit) (hx : s.heap.get? x = some (excO C t0)) (hnx : K.lookup x = none) (hroom : A.depth < recursionLimit)
    (hq : ∀ h' tk dx, InitEnd s.heap h' x C dx t0 v → R (.ok (.ret .none)) { s with heap := h', toks := tk }) :
    codeAny (model prog w) A (.call (.ref fI) ⟨[.ref x, v], []⟩) R s := by
  obtain ⟨oc, od, doc, pm, an, cdv, ct, osl, p1, p2, q1, q2, q3, q4, ho, hcd⟩ := T.fn
  obtain ⟨nm, q, N, bs, bm, sn, sub, ab, col, dd, k0, k1, k2, k3, k5, hC, hbm⟩ := T.cls
  have hcl : clsIn K C = some { name := nm, bases := bs, mro := .ref C :: bm, ns := N, qualname := q, hasDict := true, slotNames := sn, subclasses := sub, abstract := ab, collection := col, hasDel := false } := by unfold clsIn; rw [hC] <;> rfl
  refine Att.call_fn (binds := [("self", .ref x), ("weight", v)]) X hlim ho hcd hroom (BindsTo.of_eq (by first | rfl | with_unfolding_all rfl)) (by first | rfl | decide | with_unfolding_all rfl) (fun s₁ IC => ?_) rfl rfl rfl
  obtain ⟨h₁, tk₁, rfl⟩ := IC.toInCall.same
  have k : ∀ b o, s.heap.get? b = some o → h₁.get? b = some o := IC.toInCall.keep
  have hn := IC.toInCall.ns
  have hxL : s.heap.objs.size ≠ x := Nat.ne_of_gt (Heap.lt_size hx)
  have X₁ : K.In h₁ := X.keeps k
  have hx₁ := k _ _ hx
  -- self.by = by
  show wpAny _ _ (execs _ _) _ _ _
  refine wpAny_execs_cons (plainObj_wpAny_Assign_Attribute ?_)
  refine ldC (v := v) hn (by first | rfl | with_unfolding_all rfl | kernel_rfl) (ldC (v := .ref x) hn (by first | rfl | with_unfolding_all rfl | kernel_rfl) ?_)
  refine set_plain X₁ (ox := excO C t0) (od := none) ⟨hx₁, rfl, rfl, trivial⟩ T.sa ?_
  refine exc_osa X₁ hx₁ hcl (show refsVE (.ref C :: bm) = true from hbm) rfl T.noN (fun h₃ tk₃ dx k₃ dn dne hx₃ hn₃ => ?_)
  show wpAny _ _ (execs _ _) _ _ _
  have z : s.heap.objs.size < h₁.objs.size := hn.lt
  exact wpAny_execs_nil (hq h₃ tk₃ dx ⟨fun b o hb e => k₃ b o hb (k b o e), hx₃, Nat.le_of_lt (Nat.lt_of_lt_of_le z dn), dne, hn₃⟩)
theorem kb_made (T : KbTxt K mg C fI) {v : Value} (X : K.In s.heap) (hlim : s.heap.NoLimit) (hroom : A.depth + 1 < recursionLimit)
    (hq : ∀ h' tk e d, OwnMade s.heap h' e C d v → R (.ok (.ret (.ref e))) { s with heap := h', toks := tk }) :
    codeAny (model prog w) A (.call (.ref C) ⟨[v], []⟩) R s := by
  obtain ⟨nm, q, N, bs, bm, sn, sub, ab, col, dd, k0, k1, k2, k3, k5, hC, hbm⟩ := T.cls
  obtain ⟨hp, g, dr, tk, os⟩ := s
  have k : ∀ b o, hp.get? b = some o → ((hp.push (kdv_tup [v])).push (excO C hp.objs.size)).get? b = some o := fun b o e => Heap.get?_push_of_some _ (Heap.get?_push_of_some _ e)
  have hget : ((hp.push (kdv_tup [v])).push (excO C hp.objs.size)).get? (hp.objs.size + 1) = some (excO C hp.objs.size) := by heap_get
  have hnx : K.lookup (hp.objs.size + 1) = none := by
    cases e : K.lookup (hp.objs.size + 1) with
    | none => rfl
    | some o =>
      have z : hp.get? (hp.objs.size + 1) = some o := X _ _ e
      exact absurd (Nat.lt_of_succ_lt (Heap.lt_size z)) (Nat.lt_irrefl _)
  refine call_own F.excBase_ValueError (fun X => refsVE_contains X bm hbm) (X _ _ hC) (looks_findIn X T.iC) (fun self => bind_fn X self T.tC) (one_size v) ?_
  refine kb_init (s := ⟨(hp.push (kdv_tup [v])).push (excO C hp.objs.size), g, dr, tk, os⟩) T (X.keeps k) (hlim.keeps k) hget hnx ?_ fun h' tk' dx ⟨k', hx, dn, dne, hns⟩ => ?_
  · show A.depth + 1 < recursionLimit
    exact hroom
  · have old : ∀ b o, hp.get? b = some o → h'.get? b = some o := fun b o e => k' b o (Nat.ne_of_lt (Nat.lt_succ_of_lt (Heap.lt_size e))) (k b o e)
    have z : hp.objs.size + 1 + 1 ≤ dx := by
      first
        | (simpa only [Heap.size_push] using dn)
        | exact dn
        | (have q := dn; rw [Heap.size_push, Heap.size_push] at q; exact q)
    exact ⟨rfl, hq h' tk' (hp.objs.size + 1) dx ⟨old, Nat.le_succ _, ⟨_, _, hx, rfl, rfl, rfl, rfl⟩, Nat.le_trans (Nat.le_trans (Nat.le_succ _) (Nat.le_succ _)) z, dne, hns⟩⟩
end
end KbX
end PySem
namespace TR
open PySem PySem.Spec PyProof.Rows L2
theorem mkF_Kb {K : PySem.W.Frag} {mg : Str → Option Value} {C fI : Addr} (T : PySem.KbX.KbTxt K mg C fI) : MkF K mg "NoWeight" "weight" C :=
  ⟨T.gC, T.kC, T.noN, fun prog w A R s v X hl hr h => PySem.KbX.kb_made T X hl hr fun h' tk e d M => h h' tk e d ⟨M.keep, M.new, let ⟨oe, vs, a, b, c, dd, _⟩ := M.obj; ⟨oe, vs, a, b, c, dd⟩, M.dbig, M.dne, M.ns⟩⟩
end TR
namespace PySem
namespace KcX
open PySem.W PySem.Calls PyProof.Rows PySem.HandSPX
/-! ### the text of __init__ -/
def iA (p1 p2 : Pos) : Arguments := { posonlyargs := [], args := [{ arg := "self", annotation := none, pos := p1 }, { arg := "taster", annotation := none, pos := p2 }], vararg := none, kwonlyargs := [], kw_defaults := [], kwarg := none, defaults := [] }
def iB (q1 q2 q3 q4 : Pos) : List Stmt := [.Assign [.Attribute (.Name "self" q1) "taster" q2] (.Name "taster" q3) q4]
def iS : Scope := { kind := .function, names := [(PySem.Str.ofString "self", .local), (PySem.Str.ofString "taster", .local)], isGenerator := false, isCoroutine := false, more := [] }
/-- what the written part says of Low, at C, and of its __init__, at fI -/
structure KcTxt (K : Frag) (mg : Str → Option Value) (C fI : Addr) : Prop where
  gC : mg "NoTaster" = some (.ref C)
  cls : ∃ nm q N bs bm sn sub ab col dd k0 k1 k2 k3 k5, K.lookup C = some (excClassObj nm q C N bs bm true sn sub ab col dd k0 k1 k2 k3 k5 "ValueError.__new__") ∧ refsVE bm = true
  sa : findIn K (.ref C) "__setattr__" = some (some (.builtin "object.__setattr__"))
  ga : findIn K (.ref C) "__getattribute__" = some (some (.builtin "BaseException.__getattribute__"))
  gg : findIn K (.ref C) "__getattr__" = some none
  noN : findIn K (.ref C) "taster" = some none
  iC : findIn K (.ref C) "__init__" = some (some (.ref fI))
  tC : typeIn K (.ref fI) = some (.type "function")
  kC : keepIn K (.ref C) = true
  exC : subIn K (.ref C) (.type "BaseException") = some true
  tyC : typeIn K (.ref C) = some (.type "type")
  hdC : hasDictIn K C = true
  fn : ∃ (oc : Value) (od : Option Addr) (doc pm : Value) (an : Option Addr) (cdv ct : Value) (osl : Array (Option Value)) (p1 p2 q1 q2 q3 q4 : Pos),
    K.lookup fI = some ⟨oc, od, .func (fnOf "__init__" "NoTaster.__init__" (iA p1 p2) (iB q1 q2 q3 q4) iS .none .none doc pm an cdv ct), osl⟩ ∧ codeIn K cdv "NoTaster.__init__" = true
theorem one_size (v : Value) : [v].length ≤ sizeLine := by
  rw [sizeLine_eq]
  exact (by decide : 1 ≤ 16777216)
theorem kept_but {K : Frag} {h h' : Heap} {x : Addr} (X : K.In h) (hx : K.lookup x = none) (k : ∀ b o, b ≠ x → h.get? b = some o → h'.get? b = some o) : K.In h' := fun a o e =>
  k a o (fun z => by rw [z, hx] at e; cases e) (X a o e)
theorem ldC {M : Model} {s : Shared} {name : Str} {scope : Scope} {L a : Addr} {cd : Value} {m : Str → Option Value} {x : Str} {pos : Pos} {v : Value} {Q : Value → Shared → Prop} {A : Around} {E : Value → Shared → Prop} (hn : s.heap.Ns L m) (hv : m x = some v) (h : Q v s)
    (hk : scope.kind = .function := by rfl) (hl : (envOfC name scope L a cd).kindOf x = some .local := by rfl) (hd : (x == ("__debug__" : Str)) = false := by decide) :
    wpAny M A (eval (.Name x pos) (envOfC name scope L a cd)) Q E s := wpAny_Name (wpAny_loadName_local hk hl hn hv h) hd
/-- what __init__ leaves of a fresh exception at x -/
structure InitEnd (h h' : Heap) (x C dx t1 : Addr) (v : Value) : Prop where
  keep : ∀ b o, b ≠ x → h.get? b = some o → h'.get? b = some o
  obj : h'.get? x = some { cls := .ref C, dict := some dx, data := .fields #[.ref t1, .none, .none, .none, .bool false, .none] }
  dbig : h.objs.size ≤ dx
  dne : dx ≠ x
  ns : h'.Ns1 dx (fun y => if y = "taster" then some v else none)
/-- a made Low -/
structure OwnMade (h h' : Heap) (e C d : Addr) (v : Value) : Prop where
  keep : ∀ b o, h.get? b = some o → h'.get? b = some o
  new : h.objs.size ≤ e
  obj : ∃ oe vs, h'.get? e = some oe ∧ oe.cls = .ref C ∧ oe.dict = some d ∧ oe.data = .fields vs ∧ vs[1]? = some .none
  dbig : h.objs.size ≤ d
  dne : d ≠ e
  ns : h'.Ns1 d (fun y => if y = "taster" then some v else none)
section
variable {prog : Program} {w : World} {A : Around} {E : Value → Shared → Prop} {R : Result → Shared → Prop} {s : Shared} {K : Frag} {mg : Str → Option Value} {C fI : Addr}
theorem kc_init (T : KcTxt K mg C fI) {x t0 : Addr} {v : Value} (X : K.In s.heap) (hlim : s.heap.NoLimit) (hx : s.heap.get? x = some (excO C t0)) (hnx : K.lookup x = none) (hroom : A.depth < recursionLimit)
    (hq : ∀ h' tk dx, InitEnd s.heap h' x C dx t0 v → R (.ok (.ret .none)) { s with heap := h', toks := tk }) :
    codeAny (model prog w) A (.call (.ref fI) ⟨[.ref x, v], []⟩) R s := by
  obtain ⟨oc, od, doc, pm, an, cdv, ct, osl, p1, p2, q1, q2, q3, q4, ho, hcd⟩ := T.fn
  obtain ⟨nm, q, N, bs, bm, sn, sub, ab, col, dd, k0, k1, k2, k3, k5, hC, hbm⟩ := T.cls
  have hcl : clsIn K C = some { name := nm, bases := bs, mro := .ref C :: bm, ns := N, qualname := q, hasDict := true, slotNames := sn, subclasses := sub, abstract := ab, collection := col, hasDel := false } := by unfold clsIn; rw [hC] <;> rfl
  refine Att.call_fn (binds := [("self", .ref x), ("taster", v)]) X hlim ho hcd hroom (BindsTo.of_eq (by first | rfl | with_unfolding_all rfl)) (by first | rfl | decide | with_unfolding_all rfl) (fun s₁ IC => ?_) rfl rfl rfl
  obtain ⟨h₁, tk₁, rfl⟩ := IC.toInCall.same
  have k : ∀ b o, s.heap.get? b = some o → h₁.get? b = some o := IC.toInCall.keep
  have hn := IC.toInCall.ns
  have hxL : s.heap.objs.size ≠ x := Nat.ne_of_gt (Heap.lt_size hx)
  have X₁ : K.In h₁ := X.keeps k
  have hx₁ := k _ _ hx
  -- self.by = by
  show wpAny _ _ (execs _ _) _ _ _
  refine wpAny_execs_cons (plainObj_wpAny_Assign_Attribute ?_)
  refine ldC (v := v) hn (by first | rfl | with_unfolding_all rfl | kernel_rfl) (ldC (v := .ref x) hn (by first | rfl | with_unfolding_all rfl | kernel_rfl) ?_)
  refine set_plain X₁ (ox := excO C t0) (od := none) ⟨hx₁, rfl, rfl, trivial⟩ T.sa ?_
  refine exc_osa X₁ hx₁ hcl (show refsVE (.ref C :: bm) = true from hbm) rfl T.noN (fun h₃ tk₃ dx k₃ dn dne hx₃ hn₃ => ?_)
  show wpAny _ _ (execs _ _) _ _ _
  have z : s.heap.objs.size < h₁.objs.size := hn.lt
  exact wpAny_execs_nil (hq h₃ tk₃ dx ⟨fun b o hb e => k₃ b o hb (k b o e), hx₃, Nat.le_of_lt (Nat.lt_of_lt_of_le z dn), dne, hn₃⟩)
theorem kc_made (T : KcTxt K mg C fI) {v : Value} (X : K.In s.heap) (hlim : s.heap.NoLimit) (hroom : A.depth + 1 < recursionLimit)
    (hq : ∀ h' tk e d, OwnMade s.heap h' e C d v → R (.ok (.ret (.ref e))) { s with heap := h', toks := tk }) :
    codeAny (model prog w) A (.call (.ref C) ⟨[v], []⟩) R s := by
  obtain ⟨nm, q, N, bs, bm, sn, sub, ab, col, dd, k0, k1, k2, k3, k5, hC, hbm⟩ := T.cls
  obtain ⟨hp, g, dr, tk, os⟩ := s
  have k : ∀ b o, hp.get? b = some o → ((hp.push (kdv_tup [v])).push (excO C hp.objs.size)).get? b = some o := fun b o e => Heap.get?_push_of_some _ (Heap.get?_push_of_some _ e)
  have hget : ((hp.push (kdv_tup [v])).push (excO C hp.objs.size)).get? (hp.objs.size + 1) = some (excO C hp.objs.size) := by heap_get
  have hnx : K.lookup (hp.objs.size + 1) = none := by
    cases e : K.lookup (hp.objs.size + 1) with
    | none => rfl
    | some o =>
      have z : hp.get? (hp.objs.size + 1) = some o := X _ _ e
      exact absurd (Nat.lt_of_succ_lt (Heap.lt_size z)) (Nat.lt_irrefl _)
  refine call_own F.excBase_ValueError (fun X => refsVE_contains X bm hbm) (X _ _ hC) (looks_findIn X T.iC) (fun self => bind_fn X self T.tC) (one_size v) ?_
  refine kc_init (s := ⟨(hp.push (kdv_tup [v])).push (excO C hp.objs.size), g, dr, tk, os⟩) T (X.keeps k) (hlim.keeps k) hget hnx ?_ fun h' tk' dx ⟨k', hx, dn, dne, hns⟩ => ?_
  · show A.depth + 1 < recursionLimit
    exact hroom
  · have old : ∀ b o, hp.get? b = some o → h'.get? b = some o := fun b o e => k' b o (Nat.ne_of_lt (Nat.lt_succ_of_lt (Heap.lt_size e))) (k b o e)
    have z : hp.objs.size + 1 + 1 ≤ dx := by
      first
        | (simpa only [Heap.size_push] using dn)
        | exact dn
        | (have q := dn; rw [Heap.size_push, Heap.size_push] at q; exact q)
    exact ⟨rfl, hq h' tk' (hp.objs.size + 1) dx ⟨old, Nat.le_succ _, ⟨_, _, hx, rfl, rfl, rfl, rfl⟩, Nat.le_trans (Nat.le_trans (Nat.le_succ _) (Nat.le_succ _)) z, dne, hns⟩⟩
end
end KcX
end PySem
namespace TR
open PySem PySem.Spec PyProof.Rows L2
theorem mkF_Kc {K : PySem.W.Frag} {mg : Str → Option Value} {C fI : Addr} (T : PySem.KcX.KcTxt K mg C fI) : MkF K mg "NoTaster" "taster" C :=
  ⟨T.gC, T.kC, T.noN, fun prog w A R s v X hl hr h => PySem.KcX.kc_made T X hl hr fun h' tk e d M => h h' tk e d ⟨M.keep, M.new, let ⟨oe, vs, a, b, c, dd, _⟩ := M.obj; ⟨oe, vs, a, b, c, dd⟩, M.dbig, M.dne, M.ns⟩⟩
end TR
namespace PySem
namespace KdX
open PySem.W PySem.Calls PyProof.Rows PySem.HandSPX
/-! ### the text of __init__ -/
def iA (p1 p2 : Pos) : Arguments := { posonlyargs := [], args := [{ arg := "self", annotation := none, pos := p1 }, { arg := "dish", annotation := none, pos := p2 }], vararg := none, kwonlyargs := [], kw_defaults := [], kwarg := none, defaults := [] }
def iB (q1 q2 q3 q4 : Pos) : List Stmt := [.Assign [.Attribute (.Name "self" q1) "dish" q2] (.Name "dish" q3) q4]
def iS : Scope := { kind := .function, names := [(PySem.Str.ofString "self", .local), (PySem.Str.ofString "dish", .local)], isGenerator := false, isCoroutine := false, more := [] }
/-- what the written part says of Low, at C, and of its __init__, at fI -/
structure KdTxt (K : Frag) (mg : Str → Option Value) (C fI : Addr) : Prop where
  gC : mg "NoDish" = some (.ref C)
  cls : ∃ nm q N bs bm sn sub ab col dd k0 k1 k2 k3 k5, K.lookup C = some (excClassObj nm q C N bs bm true sn sub ab col dd k0 k1 k2 k3 k5 "ValueError.__new__") ∧ refsVE bm = true
  sa : findIn K (.ref C) "__setattr__" = some (some (.builtin "object.__setattr__"))
  ga : findIn K (.ref C) "__getattribute__" = some (some (.builtin "BaseException.__getattribute__"))
  gg : findIn K (.ref C) "__getattr__" = some none
  noN : findIn K (.ref C) "dish" = some none
  iC : findIn K (.ref C) "__init__" = some (some (.ref fI))
  tC : typeIn K (.ref fI) = some (.type "function")
  kC : keepIn K (.ref C) = true
  exC : subIn K (.ref C) (.type "BaseException") = some true
  tyC : typeIn K (.ref C) = some (.type "type")
  hdC : hasDictIn K C = true
  fn : ∃ (oc : Value) (od : Option Addr) (doc pm : Value) (an : Option Addr) (cdv ct : Value) (osl : Array (Option Value)) (p1 p2 q1 q2 q3 q4 : Pos),
    K.lookup fI = some ⟨oc, od, .func (fnOf "__init__" "NoDish.__init__" (iA p1 p2) (iB q1 q2 q3 q4) iS .none .none doc pm an cdv ct), osl⟩ ∧ codeIn K cdv "NoDish.__init__" = true
theorem one_size (v : Value) : [v].length ≤ sizeLine := by
  rw [sizeLine_eq]
  exact (by decide : 1 ≤ 16777216)
theorem kept_but {K : Frag} {h h' : Heap} {x : Addr} (X : K.In h) (hx : K.lookup x = none) (k : ∀ b o, b ≠ x → h.get? b = some o → h'.get? b = some o) : K.In h' := fun a o e =>
  k a o (fun z => by rw [z, hx] at e; cases e) (X a o e)
theorem ldC {M : Model} {s : Shared} {name : Str} {scope : Scope} {L a : Addr} {cd : Value} {m : Str → Option Value} {x : Str} {pos : Pos} {v : Value} {Q : Value → Shared → Prop} {A : Around} {E : Value → Shared → Prop} (hn : s.heap.Ns L m) (hv : m x = some v) (h : Q v s)
    (hk : scope.kind = .function := by rfl) (hl : (envOfC name scope L a cd).kindOf x = some .local := by rfl) (hd : (x == ("__debug__" : Str)) = false := by decide) :
    wpAny M A (eval (.Name x pos) (envOfC name scope L a cd)) Q E s := wpAny_Name (wpAny_loadName_local hk hl hn hv h) hd
/-- what __init__ leaves of a fresh exception at x -/
structure InitEnd (h h' : Heap) (x C dx t1 : Addr) (v : Value) : Prop where
  keep : ∀ b o, b ≠ x → h.get? b = some o → h'.get? b = some o
  obj : h'.get? x = some { cls := .ref C, dict := some dx, data := .fields #[.ref t1, .none, .none, .none, .bool false, .none] }
  dbig : h.objs.size ≤ dx
  dne : dx ≠ x
  ns : h'.Ns1 dx (fun y => if y = "dish" then some v else none)
/-- a made Low -/
structure OwnMade (h h' : Heap) (e C d : Addr) (v : Value) : Prop where
  keep : ∀ b o, h.get? b = some o → h'.get? b = some o
  new : h.objs.size ≤ e
  obj : ∃ oe vs, h'.get? e = some oe ∧ oe.cls = .ref C ∧ oe.dict = some d ∧ oe.data = .fields vs ∧ vs[1]? = some .none
  dbig : h.objs.size ≤ d
  dne : d ≠ e
  ns : h'.Ns1 d (fun y => if y = "dish" then some v else none)
section
variable {prog : Program} {w : World} {A : Around} {E : Value → Shared → Prop} {R : Result → Shared → Prop} {s : Shared} {K : Frag} {mg : Str → Option Value} {C fI : Addr}
theorem kd_init (T : KdTxt K mg C fI) {x t0 : Addr} {v : Value} (X : K.In s.heap) (hlim : s.heap.NoLimit) (hx : s.heap.get? x = some (excO C t0)) (hnx : K.lookup x = none) (hroom : A.depth < recursionLimit)
    (hq : ∀ h' tk dx, InitEnd s.heap h' x C dx t0 v → R (.ok (.ret .none)) { s with heap := h', toks := tk }) :
    codeAny (model prog w) A (.call (.ref fI) ⟨[.ref x, v], []⟩) R s := by
  obtain ⟨oc, od, doc, pm, an, cdv, ct, osl, p1, p2, q1, q2, q3, q4, ho, hcd⟩ := T.fn
  obtain ⟨nm, q, N, bs, bm, sn, sub, ab, col, dd, k0, k1, k2, k3, k5, hC, hbm⟩ := T.cls
  have hcl : clsIn K C = some { name := nm, bases := bs, mro := .ref C :: bm, ns := N, qualname := q, hasDict := true, slotNames := sn, subclasses := sub, abstract := ab, collection := col, hasDel := false } := by unfold clsIn; rw [hC] <;> rfl
  refine Att.call_fn (binds := [("self", .ref x), ("dish", v)]) X hlim ho hcd hroom (BindsTo.of_eq (by first | rfl | with_unfolding_all rfl)) (by first | rfl | decide | with_unfolding_all rfl) (fun s₁ IC => ?_) rfl rfl rfl
  obtain ⟨h₁, tk₁, rfl⟩ := IC.toInCall.same
  have k : ∀ b o, s.heap.get? b = some o → h₁.get? b = some o := IC.toInCall.keep
  have hn := IC.toInCall.ns
  have hxL : s.heap.objs.size ≠ x := Nat.ne_of_gt (Heap.lt_size hx)
  have X₁ : K.In h₁ := X.keeps k
  have hx₁ := k _ _ hx
  -- self.by = by
  show wpAny _ _ (execs _ _) _ _ _
  refine wpAny_execs_cons (plainObj_wpAny_Assign_Attribute ?_)
  refine ldC (v := v) hn (by first | rfl | with_unfolding_all rfl | kernel_rfl) (ldC (v := .ref x) hn (by first | rfl | with_unfolding_all rfl | kernel_rfl) ?_)
  refine set_plain X₁ (ox := excO C t0) (od := none) ⟨hx₁, rfl, rfl, trivial⟩ T.sa ?_
  refine exc_osa X₁ hx₁ hcl (show refsVE (.ref C :: bm) = true from hbm) rfl T.noN (fun h₃ tk₃ dx k₃ dn dne hx₃ hn₃ => ?_)
  show wpAny _ _ (execs _ _) _ _ _
  have z : s.heap.objs.size < h₁.objs.size := hn.lt
  exact wpAny_execs_nil (hq h₃ tk₃ dx ⟨fun b o hb e => k₃ b o hb (k b o e), hx₃, Nat.le_of_lt (Nat.lt_of_lt_of_le z dn), dne, hn₃⟩)
theorem kd_made (T : KdTxt K mg C fI) {v : Value} (X : K.In s.heap) (hlim : s.heap.NoLimit) (hroom : A.depth + 1 < recursionLimit)
    (hq : ∀ h' tk e d, OwnMade s.heap h' e C d v → R (.ok (.ret (.ref e))) { s with heap := h', toks := tk }) :
    codeAny (model prog w) A (.call (.ref C) ⟨[v], []⟩) R s := by
  obtain ⟨nm, q, N, bs, bm, sn, sub, ab, col, dd, k0, k1, k2, k3, k5, hC, hbm⟩ := T.cls
  obtain ⟨hp, g, dr, tk, os⟩ := s
  have k : ∀ b o, hp.get? b = some o → ((hp.push (kdv_tup [v])).push (excO C hp.objs.size)).get? b = some o := fun b o e => Heap.get?_push_of_some _ (Heap.get?_push_of_some _ e)
  have hget : ((hp.push (kdv_tup [v])).push (excO C hp.objs.size)).get? (hp.objs.size + 1) = some (excO C hp.objs.size) := by heap_get
  have hnx : K.lookup (hp.objs.size + 1) = none := by
    cases e : K.lookup (hp.objs.size + 1) with
    | none => rfl
    | some o =>
      have z : hp.get? (hp.objs.size + 1) = some o := X _ _ e
      exact absurd (Nat.lt_of_succ_lt (Heap.lt_size z)) (Nat.lt_irrefl _)
  refine call_own F.excBase_ValueError (fun X => refsVE_contains X bm hbm) (X _ _ hC) (looks_findIn X T.iC) (fun self => bind_fn X self T.tC) (one_size v) ?_
  refine kd_init (s := ⟨(hp.push (kdv_tup [v])).push (excO C hp.objs.size), g, dr, tk, os⟩) T (X.keeps k) (hlim.keeps k) hget hnx ?_ fun h' tk' dx ⟨k', hx, dn, dne, hns⟩ => ?_
  · show A.depth + 1 < recursionLimit
    exact hroom
  · have old : ∀ b o, hp.get? b = some o → h'.get? b = some o := fun b o e => k' b o (Nat.ne_of_lt (Nat.lt_succ_of_lt (Heap.lt_size e))) (k b o e)
    have z : hp.objs.size + 1 + 1 ≤ dx := by
      first
        | (simpa only [Heap.size_push] using dn)
        | exact dn
        | (have q := dn; rw [Heap.size_push, Heap.size_push] at q; exact q)
    exact ⟨rfl, hq h' tk' (hp.objs.size + 1) dx ⟨old, Nat.le_succ _, ⟨_, _, hx, rfl, rfl, rfl, rfl⟩, Nat.le_trans (Nat.le_trans (Nat.le_succ _) (Nat.le_succ _)) z, dne, hns⟩⟩
end
end KdX
end PySem
namespace TR
open PySem PySem.Spec PyProof.Rows L2
theorem mkF_Kd {K : PySem.W.Frag} {mg : Str → Option Value} {C fI : Addr} (T : PySem.KdX.KdTxt K mg C fI) : MkF K mg "NoDish" "dish" C :=
  ⟨T.gC, T.kC, T.noN, fun prog w A R s v X hl hr h => PySem.KdX.kd_made T X hl hr fun h' tk e d M => h h' tk e d ⟨M.keep, M.new, let ⟨oe, vs, a, b, c, dd, _⟩ := M.obj; ⟨oe, vs, a, b, c, dd⟩, M.dbig, M.dne, M.ns⟩⟩
end TR
namespace PySem
namespace KeX
open PySem.W PySem.Calls PyProof.Rows PySem.HandSPX
/-! ### the text of __init__ -/
def iA (p1 p2 : Pos) : Arguments := { posonlyargs := [], args := [{ arg := "self", annotation := none, pos := p1 }, { arg := "index", annotation := none, pos := p2 }], vararg := none, kwonlyargs := [], kw_defaults := [], kwarg := none, defaults := [] }
def iB (q1 q2 q3 q4 : Pos) : List Stmt := [.Assign [.Attribute (.Name "self" q1) "index" q2] (.Name "index" q3) q4]
def iS : Scope := { kind := .function, names := [(PySem.Str.ofString "self", .local), (PySem.Str.ofString "index", .local)], isGenerator := false, isCoroutine := false, more := [] }
/-- what the written part says of Low, at C, and of its __init__, at fI -/
structure KeTxt (K : Frag) (mg : Str → Option Value) (C fI : Addr) : Prop where
  gC : mg "NoIndex" = some (.ref C)
  cls : ∃ nm q N bs bm sn sub ab col dd k0 k1 k2 k3 k5, K.lookup C = some (excClassObj nm q C N bs bm true sn sub ab col dd k0 k1 k2 k3 k5 "ValueError.__new__") ∧ refsVE bm = true
  sa : findIn K (.ref C) "__setattr__" = some (some (.builtin "object.__setattr__"))
  ga : findIn K (.ref C) "__getattribute__" = some (some (.builtin "BaseException.__getattribute__"))
  gg : findIn K (.ref C) "__getattr__" = some none
  noN : findIn K (.ref C) "index" = some none
  iC : findIn K (.ref C) "__init__" = some (some (.ref fI))
  tC : typeIn K (.ref fI) = some (.type "function")
  kC : keepIn K (.ref C) = true
  exC : subIn K (.ref C) (.type "BaseException") = some true
  tyC : typeIn K (.ref C) = some (.type "type")
  hdC : hasDictIn K C = true
  fn : ∃ (oc : Value) (od : Option Addr) (doc pm : Value) (an : Option Addr) (cdv ct : Value) (osl : Array (Option Value)) (p1 p2 q1 q2 q3 q4 : Pos),
    K.lookup fI = some ⟨oc, od, .func (fnOf "__init__" "NoIndex.__init__" (iA p1 p2) (iB q1 q2 q3 q4) iS .none .none doc pm an cdv ct), osl⟩ ∧ codeIn K cdv "NoIndex.__init__" = true
theorem one_size (v : Value) : [v].length ≤ sizeLine := by
  rw [sizeLine_eq]
  exact (by decide : 1 ≤ 16777216)
theorem kept_but {K : Frag} {h h' : Heap} {x : Addr} (X : K.In h) (hx : K.lookup x = none) (k : ∀ b o, b ≠ x → h.get? b = some o → h'.get? b = some o) : K.In h' := fun a o e =>
  k a o (fun z => by rw [z, hx] at e; cases e) (X a o e)
theorem ldC {M : Model} {s : Shared} {name : Str} {scope : Scope} {L a : Addr} {cd : Value} {m : Str → Option Value} {x : Str} {pos : Pos} {v : Value} {Q : Value → Shared → Prop} {A : Around} {E : Value → Shared → Prop} (hn : s.heap.Ns L m) (hv : m x = some v) (h : Q v s)
    (hk : scope.kind = .function := by rfl) (hl : (envOfC name scope L a cd).kindOf x = some .local := by rfl) (hd : (x == ("__debug__" : Str)) = false := by decide) :
    wpAny M A (eval (.Name x pos) (envOfC name scope L a cd)) Q E s := wpAny_Name (wpAny_loadName_local hk hl hn hv h) hd
/-- what __init__ leaves of a fresh exception at x -/
structure InitEnd (h h' : Heap) (x C dx t1 : Addr) (v : Value) : Prop where
  keep : ∀ b o, b ≠ x → h.get? b = some o → h'.get? b = some o
  obj : h'.get? x = some { cls := .ref C, dict := some dx, data := .fields #[.ref t1, .none, .none, .none, .bool false, .none] }
  dbig : h.objs.size ≤ dx
  dne : dx ≠ x
  ns : h'.Ns1 dx (fun y => if y = "index" then some v else none)
/-- a made Low -/
structure OwnMade (h h' : Heap) (e C d : Addr) (v : Value) : Prop where
  keep : ∀ b o, h.get? b = some o → h'.get? b = some o
  new : h.objs.size ≤ e
  obj : ∃ oe vs, h'.get? e = some oe ∧ oe.cls = .ref C ∧ oe.dict = some d ∧ oe.data = .fields vs ∧ vs[1]? = some .none
  dbig : h.objs.size ≤ d
  dne : d ≠ e
  ns : h'.Ns1 d (fun y => if y = "index" then some v else none)
section
variable {prog : Program} {w : World} {A : Around} {E : Value → Shared → Prop} {R : Result → Shared → Prop} {s : Shared} {K : Frag} {mg : Str → Option Value} {C fI : Addr}
theorem ke_init (T : KeTxt K mg C fI) {x t0 : Addr} {v : Value} (X : K.In s.heap) (hlim : s.heap.NoLimit) (hx : s.heap.get? x = some (excO C t0)) (hnx : K.lookup x = none) (hroom : A.depth < recursionLimit)
    (hq : ∀ h' tk dx, InitEnd s.heap h' x C dx t0 v → R (.ok (.ret .none)) { s with heap := h', toks := tk }) :
    codeAny (model prog w) A (.call (.ref fI) ⟨[.ref x, v], []⟩) R s := by
  obtain ⟨oc, od, doc, pm, an, cdv, ct, osl, p1, p2, q1, q2, q3, q4, ho, hcd⟩ := T.fn
  obtain ⟨nm, q, N, bs, bm, sn, sub, ab, col, dd, k0, k1, k2, k3, k5, hC, hbm⟩ := T.cls
  have hcl : clsIn K C = some { name := nm, bases := bs, mro := .ref C :: bm, ns := N, qualname := q, hasDict := true, slotNames := sn, subclasses := sub, abstract := ab, collection := col, hasDel := false } := by unfold clsIn; rw [hC] <;> rfl
  refine Att.call_fn (binds := [("self", .ref x), ("index", v)]) X hlim ho hcd hroom (BindsTo.of_eq (by first | rfl | with_unfolding_all rfl)) (by first | rfl | decide | with_unfolding_all rfl) (fun s₁ IC => ?_) rfl rfl rfl
  obtain ⟨h₁, tk₁, rfl⟩ := IC.toInCall.same
  have k : ∀ b o, s.heap.get? b = some o → h₁.get? b = some o := IC.toInCall.keep
  have hn := IC.toInCall.ns
  have hxL : s.heap.objs.size ≠ x := Nat.ne_of_gt (Heap.lt_size hx)
  have X₁ : K.In h₁ := X.keeps k
  have hx₁ := k _ _ hx
  -- self.by = by
  show wpAny _ _ (execs _ _) _ _ _
  refine wpAny_execs_cons (plainObj_wpAny_Assign_Attribute ?_)
  refine ldC (v := v) hn (by first | rfl | with_unfolding_all rfl | kernel_rfl) (ldC (v := .ref x) hn (by first | rfl | with_unfolding_all rfl | kernel_rfl) ?_)
  refine set_plain X₁ (ox := excO C t0) (od := none) ⟨hx₁, rfl, rfl, trivial⟩ T.sa ?_
  refine exc_osa X₁ hx₁ hcl (show refsVE (.ref C :: bm) = true from hbm) rfl T.noN (fun h₃ tk₃ dx k₃ dn dne hx₃ hn₃ => ?_)
  show wpAny _ _ (execs _ _) _ _ _
  have z : s.heap.objs.size < h₁.objs.size := hn.lt
  exact wpAny_execs_nil (hq h₃ tk₃ dx ⟨fun b o hb e => k₃ b o hb (k b o e), hx₃, Nat.le_of_lt (Nat.lt_of_lt_of_le z dn), dne, hn₃⟩)
theorem ke_made (T : KeTxt K mg C fI) {v : Value} (X : K.In s.heap) (hlim : s.heap.NoLimit) (hroom : A.depth + 1 < recursionLimit)
    (hq : ∀ h' tk e d, OwnMade s.heap h' e C d v → R (.ok (.ret (.ref e))) { s with heap := h', toks := tk }) :
    codeAny (model prog w) A (.call (.ref C) ⟨[v], []⟩) R s := by
  obtain ⟨nm, q, N, bs, bm, sn, sub, ab, col, dd, k0, k1, k2, k3, k5, hC, hbm⟩ := T.cls
  obtain ⟨hp, g, dr, tk, os⟩ := s
  have k : ∀ b o, hp.get? b = some o → ((hp.push (kdv_tup [v])).push (excO C hp.objs.size)).get? b = some o := fun b o e => Heap.get?_push_of_some _ (Heap.get?_push_of_some _ e)
  have hget : ((hp.push (kdv_tup [v])).push (excO C hp.objs.size)).get? (hp.objs.size + 1) = some (excO C hp.objs.size) := by heap_get
  have hnx : K.lookup (hp.objs.size + 1) = none := by
    cases e : K.lookup (hp.objs.size + 1) with
    | none => rfl
    | some o =>
      have z : hp.get? (hp.objs.size + 1) = some o := X _ _ e
      exact absurd (Nat.lt_of_succ_lt (Heap.lt_size z)) (Nat.lt_irrefl _)
  refine call_own F.excBase_ValueError (fun X => refsVE_contains X bm hbm) (X _ _ hC) (looks_findIn X T.iC) (fun self => bind_fn X self T.tC) (one_size v) ?_
  refine ke_init (s := ⟨(hp.push (kdv_tup [v])).push (excO C hp.objs.size), g, dr, tk, os⟩) T (X.keeps k) (hlim.keeps k) hget hnx ?_ fun h' tk' dx ⟨k', hx, dn, dne, hns⟩ => ?_
  · show A.depth + 1 < recursionLimit
    exact hroom
  · have old : ∀ b o, hp.get? b = some o → h'.get? b = some o := fun b o e => k' b o (Nat.ne_of_lt (Nat.lt_succ_of_lt (Heap.lt_size e))) (k b o e)
    have z : hp.objs.size + 1 + 1 ≤ dx := by
      first
        | (simpa only [Heap.size_push] using dn)
        | exact dn
        | (have q := dn; rw [Heap.size_push, Heap.size_push] at q; exact q)
    exact ⟨rfl, hq h' tk' (hp.objs.size + 1) dx ⟨old, Nat.le_succ _, ⟨_, _, hx, rfl, rfl, rfl, rfl⟩, Nat.le_trans (Nat.le_trans (Nat.le_succ _) (Nat.le_succ _)) z, dne, hns⟩⟩
end
end KeX
end PySem
namespace TR
open PySem PySem.Spec PyProof.Rows L2
theorem mkF_Ke {K : PySem.W.Frag} {mg : Str → Option Value} {C fI : Addr} (T : PySem.KeX.KeTxt K mg C fI) : MkF K mg "NoIndex" "index" C :=
  ⟨T.gC, T.kC, T.noN, fun prog w A R s v X hl hr h => PySem.KeX.ke_made T X hl hr fun h' tk e d M => h h' tk e d ⟨M.keep, M.new, let ⟨oe, vs, a, b, c, dd, _⟩ := M.obj; ⟨oe, vs, a, b, c, dd⟩, M.dbig, M.dne, M.ns⟩⟩
end TR
namespace PySem
namespace KfX
open PySem.W PySem.Calls PyProof.Rows PySem.HandSPX
/-! ### the text of __init__ -/
def iA (p1 p2 : Pos) : Arguments := { posonlyargs := [], args := [{ arg := "self", annotation := none, pos := p1 }, { arg := "obstruction", annotation := none, pos := p2 }], vararg := none, kwonlyargs := [], kw_defaults := [], kwarg := none, defaults := [] }
def iB (q1 q2 q3 q4 : Pos) : List Stmt := [.Assign [.Attribute (.Name "self" q1) "obstruction" q2] (.Name "obstruction" q3) q4]
def iS : Scope := { kind := .function, names := [(PySem.Str.ofString "self", .local), (PySem.Str.ofString "obstruction", .local)], isGenerator := false, isCoroutine := false, more := [] }
/-- what the written part says of Low, at C, and of its __init__, at fI -/
structure KfTxt (K : Frag) (mg : Str → Option Value) (C fI : Addr) : Prop where
  gC : mg "NotSeatable" = some (.ref C)
  cls : ∃ nm q N bs bm sn sub ab col dd k0 k1 k2 k3 k5, K.lookup C = some (excClassObj nm q C N bs bm true sn sub ab col dd k0 k1 k2 k3 k5 "ValueError.__new__") ∧ refsVE bm = true
  sa : findIn K (.ref C) "__setattr__" = some (some (.builtin "object.__setattr__"))
  ga : findIn K (.ref C) "__getattribute__" = some (some (.builtin "BaseException.__getattribute__"))
  gg : findIn K (.ref C) "__getattr__" = some none
  noN : findIn K (.ref C) "obstruction" = some none
  iC : findIn K (.ref C) "__init__" = some (some (.ref fI))
  tC : typeIn K (.ref fI) = some (.type "function")
  kC : keepIn K (.ref C) = true
  exC : subIn K (.ref C) (.type "BaseException") = some true
  tyC : typeIn K (.ref C) = some (.type "type")
  hdC : hasDictIn K C = true
  fn : ∃ (oc : Value) (od : Option Addr) (doc pm : Value) (an : Option Addr) (cdv ct : Value) (osl : Array (Option Value)) (p1 p2 q1 q2 q3 q4 : Pos),
    K.lookup fI = some ⟨oc, od, .func (fnOf "__init__" "NotSeatable.__init__" (iA p1 p2) (iB q1 q2 q3 q4) iS .none .none doc pm an cdv ct), osl⟩ ∧ codeIn K cdv "NotSeatable.__init__" = true
theorem one_size (v : Value) : [v].length ≤ sizeLine := by
  rw [sizeLine_eq]
  exact (by decide : 1 ≤ 16777216)
theorem kept_but {K : Frag} {h h' : Heap} {x : Addr} (X : K.In h) (hx : K.lookup x = none) (k : ∀ b o, b ≠ x → h.get? b = some o → h'.get? b = some o) : K.In h' := fun a o e =>
  k a o (fun z => by rw [z, hx] at e; cases e) (X a o e)
theorem ldC {M : Model} {s : Shared} {name : Str} {scope : Scope} {L a : Addr} {cd : Value} {m : Str → Option Value} {x : Str} {pos : Pos} {v : Value} {Q : Value → Shared → Prop} {A : Around} {E : Value → Shared → Prop} (hn : s.heap.Ns L m) (hv : m x = some v) (h : Q v s)
    (hk : scope.kind = .function := by rfl) (hl : (envOfC name scope L a cd).kindOf x = some .local := by rfl) (hd : (x == ("__debug__" : Str)) = false := by decide) :
    wpAny M A (eval (.Name x pos) (envOfC name scope L a cd)) Q E s := wpAny_Name (wpAny_loadName_local hk hl hn hv h) hd
/-- what __init__ leaves of a fresh exception at x -/
structure InitEnd (h h' : Heap) (x C dx t1 : Addr) (v : Value) : Prop where
  keep : ∀ b o, b ≠ x → h.get? b = some o → h'.get? b = some o
  obj : h'.get? x = some { cls := .ref C, dict := some dx, data := .fields #[.ref t1, .none, .none, .none, .bool false, .none] }
  dbig : h.objs.size ≤ dx
  dne : dx ≠ x
  ns : h'.Ns1 dx (fun y => if y = "obstruction" then some v else none)
/-- a made Low -/
structure OwnMade (h h' : Heap) (e C d : Addr) (v : Value) : Prop where
  keep : ∀ b o, h.get? b = some o → h'.get? b = some o
  new : h.objs.size ≤ e
  obj : ∃ oe vs, h'.get? e = some oe ∧ oe.cls = .ref C ∧ oe.dict = some d ∧ oe.data = .fields vs ∧ vs[1]? = some .none
  dbig : h.objs.size ≤ d
  dne : d ≠ e
  ns : h'.Ns1 d (fun y => if y = "obstruction" then some v else none)
section
variable {prog : Program} {w : World} {A : Around} {E : Value → Shared → Prop} {R : Result → Shared → Prop} {s : Shared} {K : Frag} {mg : Str → Option Value} {C fI : Addr}
theorem kf_init (T : KfTxt K mg C fI) {x t0 : Addr} {v : Value} (X : K.In s.heap) (hlim : s.heap.NoLimit) (hx : s.heap.get? x = some (excO C t0)) (hnx : K.lookup x = none) (hroom : A.depth < recursionLimit)
    (hq : ∀ h' tk dx, InitEnd s.heap h' x C dx t0 v → R (.ok (.ret .none)) { s with heap := h', toks := tk }) :
    codeAny (model prog w) A (.call (.ref fI) ⟨[.ref x, v], []⟩) R s := by
  obtain ⟨oc, od, doc, pm, an, cdv, ct, osl, p1, p2, q1, q2, q3, q4, ho, hcd⟩ := T.fn
  obtain ⟨nm, q, N, bs, bm, sn, sub, ab, col, dd, k0, k1, k2, k3, k5, hC, hbm⟩ := T.cls
  have hcl : clsIn K C = some { name := nm, bases := bs, mro := .ref C :: bm, ns := N, qualname := q, hasDict := true, slotNames := sn, subclasses := sub, abstract := ab, collection := col, hasDel := false } := by unfold clsIn; rw [hC] <;> rfl
  refine Att.call_fn (binds := [("self", .ref x), ("obstruction", v)]) X hlim ho hcd hroom (BindsTo.of_eq (by first | rfl | with_unfolding_all rfl)) (by first | rfl | decide | with_unfolding_all rfl) (fun s₁ IC => ?_) rfl rfl rfl
  obtain ⟨h₁, tk₁, rfl⟩ := IC.toInCall.same
  have k : ∀ b o, s.heap.get? b = some o → h₁.get? b = some o := IC.toInCall.keep
  have hn := IC.toInCall.ns
  have hxL : s.heap.objs.size ≠ x := Nat.ne_of_gt (Heap.lt_size hx)
  have X₁ : K.In h₁ := X.keeps k
  have hx₁ := k _ _ hx
  -- self.by = by
  show wpAny _ _ (execs _ _) _ _ _
  refine wpAny_execs_cons (plainObj_wpAny_Assign_Attribute ?_)
  refine ldC (v := v) hn (by first | rfl | with_unfolding_all rfl | kernel_rfl) (ldC (v := .ref x) hn (by first | rfl | with_unfolding_all rfl | kernel_rfl) ?_)
  refine set_plain X₁ (ox := excO C t0) (od := none) ⟨hx₁, rfl, rfl, trivial⟩ T.sa ?_
  refine exc_osa X₁ hx₁ hcl (show refsVE (.ref C :: bm) = true from hbm) rfl T.noN (fun h₃ tk₃ dx k₃ dn dne hx₃ hn₃ => ?_)
  show wpAny _ _ (execs _ _) _ _ _
  have z : s.heap.objs.size < h₁.objs.size := hn.lt
  exact wpAny_execs_nil (hq h₃ tk₃ dx ⟨fun b o hb e => k₃ b o hb (k b o e), hx₃, Nat.le_of_lt (Nat.lt_of_lt_of_le z dn), dne, hn₃⟩)
theorem kf_made (T : KfTxt K mg C fI) {v : Value} (X : K.In s.heap) (hlim : s.heap.NoLimit) (hroom : A.depth + 1 < recursionLimit)
    (hq : ∀ h' tk e d, OwnMade s.heap h' e C d v → R (.ok (.ret (.ref e))) { s with heap := h', toks := tk }) :
    codeAny (model prog w) A (.call (.ref C) ⟨[v], []⟩) R s := by
  obtain ⟨nm, q, N, bs, bm, sn, sub, ab, col, dd, k0, k1, k2, k3, k5, hC, hbm⟩ := T.cls
  obtain ⟨hp, g, dr, tk, os⟩ := s
  have k : ∀ b o, hp.get? b = some o → ((hp.push (kdv_tup [v])).push (excO C hp.objs.size)).get? b = some o := fun b o e => Heap.get?_push_of_some _ (Heap.get?_push_of_some _ e)
  have hget : ((hp.push (kdv_tup [v])).push (excO C hp.objs.size)).get? (hp.objs.size + 1) = some (excO C hp.objs.size) := by heap_get
  have hnx : K.lookup (hp.objs.size + 1) = none := by
    cases e : K.lookup (hp.objs.size + 1) with
    | none => rfl
    | some o =>
      have z : hp.get? (hp.objs.size + 1) = some o := X _ _ e
      exact absurd (Nat.lt_of_succ_lt (Heap.lt_size z)) (Nat.lt_irrefl _)
  refine call_own F.excBase_ValueError (fun X => refsVE_contains X bm hbm) (X _ _ hC) (looks_findIn X T.iC) (fun self => bind_fn X self T.tC) (one_size v) ?_
  refine kf_init (s := ⟨(hp.push (kdv_tup [v])).push (excO C hp.objs.size), g, dr, tk, os⟩) T (X.keeps k) (hlim.keeps k) hget hnx ?_ fun h' tk' dx ⟨k', hx, dn, dne, hns⟩ => ?_
  · show A.depth + 1 < recursionLimit
    exact hroom
  · have old : ∀ b o, hp.get? b = some o → h'.get? b = some o := fun b o e => k' b o (Nat.ne_of_lt (Nat.lt_succ_of_lt (Heap.lt_size e))) (k b o e)
    have z : hp.objs.size + 1 + 1 ≤ dx := by
      first
        | (simpa only [Heap.size_push] using dn)
        | exact dn
        | (have q := dn; rw [Heap.size_push, Heap.size_push] at q; exact q)
    exact ⟨rfl, hq h' tk' (hp.objs.size + 1) dx ⟨old, Nat.le_succ _, ⟨_, _, hx, rfl, rfl, rfl, rfl⟩, Nat.le_trans (Nat.le_trans (Nat.le_succ _) (Nat.le_succ _)) z, dne, hns⟩⟩
end
end KfX
end PySem
namespace TR
open PySem PySem.Spec PyProof.Rows L2
theorem mkF_Kf {K : PySem.W.Frag} {mg : Str → Option Value} {C fI : Addr} (T : PySem.KfX.KfTxt K mg C fI) : MkF K mg "NotSeatable" "obstruction" C :=
  ⟨T.gC, T.kC, T.noN, fun prog w A R s v X hl hr h => PySem.KfX.kf_made T X hl hr fun h' tk e d M => h h' tk e d ⟨M.keep, M.new, let ⟨oe, vs, a, b, c, dd, _⟩ := M.obj; ⟨oe, vs, a, b, c, dd⟩, M.dbig, M.dne, M.ns⟩⟩
end TR
namespace PySem
namespace KgX
open PySem.W PySem.Calls PyProof.Rows PySem.HandSPX
/-! ### the text of __init__ -/
def iA (p1 p2 : Pos) : Arguments := { posonlyargs := [], args := [{ arg := "self", annotation := none, pos := p1 }, { arg := "size", annotation := none, pos := p2 }], vararg := none, kwonlyargs := [], kw_defaults := [], kwarg := none, defaults := [] }
def iB (q1 q2 q3 q4 : Pos) : List Stmt := [.Assign [.Attribute (.Name "self" q1) "size" q2] (.Name "size" q3) q4]
def iS : Scope := { kind := .function, names := [(PySem.Str.ofString "self", .local), (PySem.Str.ofString "size", .local)], isGenerator := false, isCoroutine := false, more := [] }
/-- what the written part says of Low, at C, and of its __init__, at fI -/
structure KgTxt (K : Frag) (mg : Str → Option Value) (C fI : Addr) : Prop where
  gC : mg "NoSize" = some (.ref C)
  cls : ∃ nm q N bs bm sn sub ab col dd k0 k1 k2 k3 k5, K.lookup C = some (excClassObj nm q C N bs bm true sn sub ab col dd k0 k1 k2 k3 k5 "ValueError.__new__") ∧ refsVE bm = true
  sa : findIn K (.ref C) "__setattr__" = some (some (.builtin "object.__setattr__"))
  ga : findIn K (.ref C) "__getattribute__" = some (some (.builtin "BaseException.__getattribute__"))
  gg : findIn K (.ref C) "__getattr__" = some none
  noN : findIn K (.ref C) "size" = some none
  iC : findIn K (.ref C) "__init__" = some (some (.ref fI))
  tC : typeIn K (.ref fI) = some (.type "function")
  kC : keepIn K (.ref C) = true
  exC : subIn K (.ref C) (.type "BaseException") = some true
  tyC : typeIn K (.ref C) = some (.type "type")
  hdC : hasDictIn K C = true
  fn : ∃ (oc : Value) (od : Option Addr) (doc pm : Value) (an : Option Addr) (cdv ct : Value) (osl : Array (Option Value)) (p1 p2 q1 q2 q3 q4 : Pos),
    K.lookup fI = some ⟨oc, od, .func (fnOf "__init__" "NoSize.__init__" (iA p1 p2) (iB q1 q2 q3 q4) iS .none .none doc pm an cdv ct), osl⟩ ∧ codeIn K cdv "NoSize.__init__" = true
theorem one_size (v : Value) : [v].length ≤ sizeLine := by
  rw [sizeLine_eq]
  exact (by decide : 1 ≤ 16777216)
theorem kept_but {K : Frag} {h h' : Heap} {x : Addr} (X : K.In h) (hx : K.lookup x = none) (k : ∀ b o, b ≠ x → h.get? b = some o → h'.get? b = some o) : K.In h' := fun a o e =>
  k a o (fun z => by rw [z, hx] at e; cases e) (X a o e)
theorem ldC {M : Model} {s : Shared} {name : Str} {scope : Scope} {L a : Addr} {cd : Value} {m : Str → Option Value} {x : Str} {pos : Pos} {v : Value} {Q : Value → Shared → Prop} {A : Around} {E : Value → Shared → Prop} (hn : s.heap.Ns L m) (hv : m x = some v) (h : Q v s)
    (hk : scope.kind = .function := by rfl) (hl : (envOfC name scope L a cd).kindOf x = some .local := by rfl) (hd : (x == ("__debug__" : Str)) = false := by decide) :
    wpAny M A (eval (.Name x pos) (envOfC name scope L a cd)) Q E s := wpAny_Name (wpAny_loadName_local hk hl hn hv h) hd
/-- what __init__ leaves of a fresh exception at x -/
structure InitEnd (h h' : Heap) (x C dx t1 : Addr) (v : Value) : Prop where
  keep : ∀ b o, b ≠ x → h.get? b = some o → h'.get? b = some o
  obj : h'.get? x = some { cls := .ref C, dict := some dx, data := .fields #[.ref t1, .none, .none, .none, .bool false, .none] }
  dbig : h.objs.size ≤ dx
  dne : dx ≠ x
  ns : h'.Ns1 dx (fun y => if y = "size" then some v else none)
/-- a made Low -/
structure OwnMade (h h' : Heap) (e C d : Addr) (v : Value) : Prop where
  keep : ∀ b o, h.get? b = some o → h'.get? b = some o
  new : h.objs.size ≤ e
  obj : ∃ oe vs, h'.get? e = some oe ∧ oe.cls = .ref C ∧ oe.dict = some d ∧ oe.data = .fields vs ∧ vs[1]? = some .none
  dbig : h.objs.size ≤ d
  dne : d ≠ e
  ns : h'.Ns1 d (fun y => if y = "size" then some v else none)
section
variable {prog : Program} {w : World} {A : Around} {E : Value → Shared → Prop} {R : Result → Shared → Prop} {s : Shared} {K : Frag} {mg : Str → Option Value} {C fI : Addr}
theorem kg_init (T : KgTxt K mg C fI) {x t0 : Addr} {v : Value} (X : K.In s.heap) (hlim : s.heap.NoLimit) (hx : s.heap.get? x = some (excO C t0)) (hnx : K.lookup x = none) (hroom : A.depth < recursionLimit)
    (hq : ∀ h' tk dx, InitEnd s.heap h' x C dx t0 v → R (.ok (.ret .none)) { s with heap := h', toks := tk }) :
    codeAny (model prog w) A (.call (.ref fI) ⟨[.ref x, v], []⟩) R s := by
  obtain ⟨oc, od, doc, pm, an, cdv, ct, osl, p1, p2, q1, q2, q3, q4, ho, hcd⟩ := T.fn
  obtain ⟨nm, q, N, bs, bm, sn, sub, ab, col, dd, k0, k1, k2, k3, k5, hC, hbm⟩ := T.cls
  have hcl : clsIn K C = some { name := nm, bases := bs, mro := .ref C :: bm, ns := N, qualname := q, hasDict := true, slotNames := sn, subclasses := sub, abstract := ab, collection := col, hasDel := false } := by unfold clsIn; rw [hC] <;> rfl
  refine Att.call_fn (binds := [("self", .ref x), ("size", v)]) X hlim ho hcd hroom (BindsTo.of_eq (by first | rfl | with_unfolding_all rfl)) (by first | rfl | decide | with_unfolding_all rfl) (fun s₁ IC => ?_) rfl rfl rfl
  obtain ⟨h₁, tk₁, rfl⟩ := IC.toInCall.same
  have k : ∀ b o, s.heap.get? b = some o → h₁.get? b = some o := IC.toInCall.keep
  have hn := IC.toInCall.ns
  have hxL : s.heap.objs.size ≠ x := Nat.ne_of_gt (Heap.lt_size hx)
  have X₁ : K.In h₁ := X.keeps k
  have hx₁ := k _ _ hx
  -- self.by = by
  show wpAny _ _ (execs _ _) _ _ _
  refine wpAny_execs_cons (plainObj_wpAny_Assign_Attribute ?_)
  refine ldC (v := v) hn (by first | rfl | with_unfolding_all rfl | kernel_rfl) (ldC (v := .ref x) hn (by first | rfl | with_unfolding_all rfl | kernel_rfl) ?_)
  refine set_plain X₁ (ox := excO C t0) (od := none) ⟨hx₁, rfl, rfl, trivial⟩ T.sa ?_
  refine exc_osa X₁ hx₁ hcl (show refsVE (.ref C :: bm) = true from hbm) rfl T.noN (fun h₃ tk₃ dx k₃ dn dne hx₃ hn₃ => ?_)
  show wpAny _ _ (execs _ _) _ _ _
  have z : s.heap.objs.size < h₁.objs.size := hn.lt
  exact wpAny_execs_nil (hq h₃ tk₃ dx ⟨fun b o hb e => k₃ b o hb (k b o e), hx₃, Nat.le_of_lt (Nat.lt_of_lt_of_le z dn), dne, hn₃⟩)
theorem kg_made (T : KgTxt K mg C fI) {v : Value} (X : K.In s.heap) (hlim : s.heap.NoLimit) (hroom : A.depth + 1 < recursionLimit)
    (hq : ∀ h' tk e d, OwnMade s.heap h' e C d v → R (.ok (.ret (.ref e))) { s with heap := h', toks := tk }) :
    codeAny (model prog w) A (.call (.ref C) ⟨[v], []⟩) R s := by
  obtain ⟨nm, q, N, bs, bm, sn, sub, ab, col, dd, k0, k1, k2, k3, k5, hC, hbm⟩ := T.cls
  obtain ⟨hp, g, dr, tk, os⟩ := s
  have k : ∀ b o, hp.get? b = some o → ((hp.push (kdv_tup [v])).push (excO C hp.objs.size)).get? b = some o := fun b o e => Heap.get?_push_of_some _ (Heap.get?_push_of_some _ e)
  have hget : ((hp.push (kdv_tup [v])).push (excO C hp.objs.size)).get? (hp.objs.size + 1) = some (excO C hp.objs.size) := by heap_get
  have hnx : K.lookup (hp.objs.size + 1) = none := by
    cases e : K.lookup (hp.objs.size + 1) with
    | none => rfl
    | some o =>
      have z : hp.get? (hp.objs.size + 1) = some o := X _ _ e
      exact absurd (Nat.lt_of_succ_lt (Heap.lt_size z)) (Nat.lt_irrefl _)
  refine call_own F.excBase_ValueError (fun X => refsVE_contains X bm hbm) (X _ _ hC) (looks_findIn X T.iC) (fun self => bind_fn X self T.tC) (one_size v) ?_
  refine kg_init (s := ⟨(hp.push (kdv_tup [v])).push (excO C hp.objs.size), g, dr, tk, os⟩) T (X.keeps k) (hlim.keeps k) hget hnx ?_ fun h' tk' dx ⟨k', hx, dn, dne, hns⟩ => ?_
  · show A.depth + 1 < recursionLimit
    exact hroom
  · have old : ∀ b o, hp.get? b = some o → h'.get? b = some o := fun b o e => k' b o (Nat.ne_of_lt (Nat.lt_succ_of_lt (Heap.lt_size e))) (k b o e)
    have z : hp.objs.size + 1 + 1 ≤ dx := by
      first
        | (simpa only [Heap.size_push] using dn)
        | exact dn
        | (have q := dn; rw [Heap.size_push, Heap.size_push] at q; exact q)
    exact ⟨rfl, hq h' tk' (hp.objs.size + 1) dx ⟨old, Nat.le_succ _, ⟨_, _, hx, rfl, rfl, rfl, rfl⟩, Nat.le_trans (Nat.le_trans (Nat.le_succ _) (Nat.le_succ _)) z, dne, hns⟩⟩
end
end KgX
end PySem
namespace TR
open PySem PySem.Spec PyProof.Rows L2
theorem mkF_Kg {K : PySem.W.Frag} {mg : Str → Option Value} {C fI : Addr} (T : PySem.KgX.KgTxt K mg C fI) : MkF K mg "NoSize" "size" C :=
  ⟨T.gC, T.kC, T.noN, fun prog w A R s v X hl hr h => PySem.KgX.kg_made T X hl hr fun h' tk e d M => h h' tk e d ⟨M.keep, M.new, let ⟨oe, vs, a, b, c, dd, _⟩ := M.obj; ⟨oe, vs, a, b, c, dd⟩, M.dbig, M.dne, M.ns⟩⟩
end TR
namespace PySem
namespace KhX
open PySem.W PySem.Calls PyProof.Rows PySem.HandSPX
/-! ### the text of __init__ -/
def iA (p1 p2 : Pos) : Arguments := { posonlyargs := [], args := [{ arg := "self", annotation := none, pos := p1 }, { arg := "limit", annotation := none, pos := p2 }], vararg := none, kwonlyargs := [], kw_defaults := [], kwarg := none, defaults := [] }
def iB (q1 q2 q3 q4 : Pos) : List Stmt := [.Assign [.Attribute (.Name "self" q1) "limit" q2] (.Name "limit" q3) q4]
def iS : Scope := { kind := .function, names := [(PySem.Str.ofString "self", .local), (PySem.Str.ofString "limit", .local)], isGenerator := false, isCoroutine := false, more := [] }
/-- what the written part says of Low, at C, and of its __init__, at fI -/
structure KhTxt (K : Frag) (mg : Str → Option Value) (C fI : Addr) : Prop where
  gC : mg "TooMany" = some (.ref C)
  cls : ∃ nm q N bs bm sn sub ab col dd k0 k1 k2 k3 k5, K.lookup C = some (excClassObj nm q C N bs bm true sn sub ab col dd k0 k1 k2 k3 k5 "ValueError.__new__") ∧ refsVE bm = true
  sa : findIn K (.ref C) "__setattr__" = some (some (.builtin "object.__setattr__"))
  ga : findIn K (.ref C) "__getattribute__" = some (some (.builtin "BaseException.__getattribute__"))
  gg : findIn K (.ref C) "__getattr__" = some none
  noN : findIn K (.ref C) "limit" = some none
  iC : findIn K (.ref C) "__init__" = some (some (.ref fI))
  tC : typeIn K (.ref fI) = some (.type "function")
  kC : keepIn K (.ref C) = true
  exC : subIn K (.ref C) (.type "BaseException") = some true
  tyC : typeIn K (.ref C) = some (.type "type")
  hdC : hasDictIn K C = true
  fn : ∃ (oc : Value) (od : Option Addr) (doc pm : Value) (an : Option Addr) (cdv ct : Value) (osl : Array (Option Value)) (p1 p2 q1 q2 q3 q4 : Pos),
    K.lookup fI = some ⟨oc, od, .func (fnOf "__init__" "TooMany.__init__" (iA p1 p2) (iB q1 q2 q3 q4) iS .none .none doc pm an cdv ct), osl⟩ ∧ codeIn K cdv "TooMany.__init__" = true
theorem one_size (v : Value) : [v].length ≤ sizeLine := by
  rw [sizeLine_eq]
  exact (by decide : 1 ≤ 16777216)
theorem kept_but {K : Frag} {h h' : Heap} {x : Addr} (X : K.In h) (hx : K.lookup x = none) (k : ∀ b o, b ≠ x → h.get? b = some o → h'.get? b = some o) : K.In h' := fun a o e =>
  k a o (fun z => by rw [z, hx] at e; cases e) (X a o e)
theorem ldC {M : Model} {s : Shared} {name : Str} {scope : Scope} {L a : Addr} {cd : Value} {m : Str → Option Value} {x : Str} {pos : Pos} {v : Value} {Q : Value → Shared → Prop} {A : Around} {E : Value → Shared → Prop} (hn : s.heap.Ns L m) (hv : m x = some v) (h : Q v s)
    (hk : scope.kind = .function := by rfl) (hl : (envOfC name scope L a cd).kindOf x = some .local := by rfl) (hd : (x == ("__debug__" : Str)) = false := by decide) :
    wpAny M A (eval (.Name x pos) (envOfC name scope L a cd)) Q E s := wpAny_Name (wpAny_loadName_local hk hl hn hv h) hd
/-- what __init__ leaves of a fresh exception at x -/
structure InitEnd (h h' : Heap) (x C dx t1 : Addr) (v : Value) : Prop where
  keep : ∀ b o, b ≠ x → h.get? b = some o → h'.get? b = some o
  obj : h'.get? x = some { cls := .ref C, dict := some dx, data := .fields #[.ref t1, .none, .none, .none, .bool false, .none] }
  dbig : h.objs.size ≤ dx
  dne : dx ≠ x
  ns : h'.Ns1 dx (fun y => if y = "limit" then some v else none)
/-- a made Low -/
structure OwnMade (h h' : Heap) (e C d : Addr) (v : Value) : Prop where
  keep : ∀ b o, h.get? b = some o → h'.get? b = some o
  new : h.objs.size ≤ e
  obj : ∃ oe vs, h'.get? e = some oe ∧ oe.cls = .ref C ∧ oe.dict = some d ∧ oe.data = .fields vs ∧ vs[1]? = some .none
  dbig : h.objs.size ≤ d
  dne : d ≠ e
  ns : h'.Ns1 d (fun y => if y = "limit" then some v else none)
section
variable {prog : Program} {w : World} {A : Around} {E : Value → Shared → Prop} {R : Result → Shared → Prop} {s : Shared} {K : Frag} {mg : Str → Option Value} {C fI : Addr}
theorem kh_init (T : KhTxt K mg C fI) {x t0 : Addr} {v : Value} (X : K.In s.heap) (hlim : s.heap.NoLimit) (hx : s.heap.get? x = some (excO C t0)) (hnx : K.lookup x = none) (hroom : A.depth < recursionLimit)
    (hq : ∀ h' tk dx, InitEnd s.heap h' x C dx t0 v → R (.ok (.ret .none)) { s with heap := h', toks := tk }) :
    codeAny (model prog w) A (.call (.ref fI) ⟨[.ref x, v], []⟩) R s := by
  obtain ⟨oc, od, doc, pm, an, cdv, ct, osl, p1, p2, q1, q2, q3, q4, ho, hcd⟩ := T.fn
  obtain ⟨nm, q, N, bs, bm, sn, sub, ab, col, dd, k0, k1, k2, k3, k5, hC, hbm⟩ := T.cls
  have hcl : clsIn K C = some { name := nm, bases := bs, mro := .ref C :: bm, ns := N, qualname := q, hasDict := true, slotNames := sn, subclasses := sub, abstract := ab, collection := col, hasDel := false } := by unfold clsIn; rw [hC] <;> rfl
  refine Att.call_fn (binds := [("self", .ref x), ("limit", v)]) X hlim ho hcd hroom (BindsTo.of_eq (by first | rfl | with_unfolding_all rfl)) (by first | rfl | decide | with_unfolding_all rfl) (fun s₁ IC => ?_) rfl rfl rfl
  obtain ⟨h₁, tk₁, rfl⟩ := IC.toInCall.same
  have k : ∀ b o, s.heap.get? b = some o → h₁.get? b = some o := IC.toInCall.keep
  have hn := IC.toInCall.ns
  have hxL : s.heap.objs.size ≠ x := Nat.ne_of_gt (Heap.lt_size hx)
  have X₁ : K.In h₁ := X.keeps k
  have hx₁ := k _ _ hx
  -- self.by = by
  show wpAny _ _ (execs _ _) _ _ _
  refine wpAny_execs_cons (plainObj_wpAny_Assign_Attribute ?_)
  refine ldC (v := v) hn (by first | rfl | with_unfolding_all rfl | kernel_rfl) (ldC (v := .ref x) hn (by first | rfl | with_unfolding_all rfl | kernel_rfl) ?_)
  refine set_plain X₁ (ox := excO C t0) (od := none) ⟨hx₁, rfl, rfl, trivial⟩ T.sa ?_
  refine exc_osa X₁ hx₁ hcl (show refsVE (.ref C :: bm) = true from hbm) rfl T.noN (fun h₃ tk₃ dx k₃ dn dne hx₃ hn₃ => ?_)
  show wpAny _ _ (execs _ _) _ _ _
  have z : s.heap.objs.size < h₁.objs.size := hn.lt
  exact wpAny_execs_nil (hq h₃ tk₃ dx ⟨fun b o hb e => k₃ b o hb (k b o e), hx₃, Nat.le_of_lt (Nat.lt_of_lt_of_le z dn), dne, hn₃⟩)
theorem kh_made (T : KhTxt K mg C fI) {v : Value} (X : K.In s.heap) (hlim : s.heap.NoLimit) (hroom : A.depth + 1 < recursionLimit)
    (hq : ∀ h' tk e d, OwnMade s.heap h' e C d v → R (.ok (.ret (.ref e))) { s with heap := h', toks := tk }) :
    codeAny (model prog w) A (.call (.ref C) ⟨[v], []⟩) R s := by
  obtain ⟨nm, q, N, bs, bm, sn, sub, ab, col, dd, k0, k1, k2, k3, k5, hC, hbm⟩ := T.cls
  obtain ⟨hp, g, dr, tk, os⟩ := s
  have k : ∀ b o, hp.get? b = some o → ((hp.push (kdv_tup [v])).push (excO C hp.objs.size)).get? b = some o := fun b o e => Heap.get?_push_of_some _ (Heap.get?_push_of_some _ e)
  have hget : ((hp.push (kdv_tup [v])).push (excO C hp.objs.size)).get? (hp.objs.size + 1) = some (excO C hp.objs.size) := by heap_get
  have hnx : K.lookup (hp.objs.size + 1) = none := by
    cases e : K.lookup (hp.objs.size + 1) with
    | none => rfl
    | some o =>
      have z : hp.get? (hp.objs.size + 1) = some o := X _ _ e
      exact absurd (Nat.lt_of_succ_lt (Heap.lt_size z)) (Nat.lt_irrefl _)
  refine call_own F.excBase_ValueError (fun X => refsVE_contains X bm hbm) (X _ _ hC) (looks_findIn X T.iC) (fun self => bind_fn X self T.tC) (one_size v) ?_
  refine kh_init (s := ⟨(hp.push (kdv_tup [v])).push (excO C hp.objs.size), g, dr, tk, os⟩) T (X.keeps k) (hlim.keeps k) hget hnx ?_ fun h' tk' dx ⟨k', hx, dn, dne, hns⟩ => ?_
  · show A.depth + 1 < recursionLimit
    exact hroom
  · have old : ∀ b o, hp.get? b = some o → h'.get? b = some o := fun b o e => k' b o (Nat.ne_of_lt (Nat.lt_succ_of_lt (Heap.lt_size e))) (k b o e)
    have z : hp.objs.size + 1 + 1 ≤ dx := by
      first
        | (simpa only [Heap.size_push] using dn)
        | exact dn
        | (have q := dn; rw [Heap.size_push, Heap.size_push] at q; exact q)
    exact ⟨rfl, hq h' tk' (hp.objs.size + 1) dx ⟨old, Nat.le_succ _, ⟨_, _, hx, rfl, rfl, rfl, rfl⟩, Nat.le_trans (Nat.le_trans (Nat.le_succ _) (Nat.le_succ _)) z, dne, hns⟩⟩
end
end KhX
end PySem
namespace TR
open PySem PySem.Spec PyProof.Rows L2
theorem mkF_Kh {K : PySem.W.Frag} {mg : Str → Option Value} {C fI : Addr} (T : PySem.KhX.KhTxt K mg C fI) : MkF K mg "TooMany" "limit" C :=
  ⟨T.gC, T.kC, T.noN, fun prog w A R s v X hl hr h => PySem.KhX.kh_made T X hl hr fun h' tk e d M => h h' tk e d ⟨M.keep, M.new, let ⟨oe, vs, a, b, c, dd, _⟩ := M.obj; ⟨oe, vs, a, b, c, dd⟩, M.dbig, M.dne, M.ns⟩⟩
end TR
namespace PySem
namespace KiX
open PySem.W PySem.Calls PyProof.Rows PySem.HandSPX
/-! ### the text of __init__ -/
def iA (p1 p2 : Pos) : Arguments := { posonlyargs := [], args := [{ arg := "self", annotation := none, pos := p1 }, { arg := "dishes", annotation := none, pos := p2 }], vararg := none, kwonlyargs := [], kw_defaults := [], kwarg := none, defaults := [] }
def iB (q1 q2 q3 q4 : Pos) : List Stmt := [.Assign [.Attribute (.Name "self" q1) "dishes" q2] (.Name "dishes" q3) q4]
def iS : Scope := { kind := .function, names := [(PySem.Str.ofString "self", .local), (PySem.Str.ofString "dishes", .local)], isGenerator := false, isCoroutine := false, more := [] }
/-- what the written part says of Low, at C, and of its __init__, at fI -/
structure KiTxt (K : Frag) (mg : Str → Option Value) (C fI : Addr) : Prop where
  gC : mg "BadDishes" = some (.ref C)
  cls : ∃ nm q N bs bm sn sub ab col dd k0 k1 k2 k3 k5, K.lookup C = some (excClassObj nm q C N bs bm true sn sub ab col dd k0 k1 k2 k3 k5 "ValueError.__new__") ∧ refsVE bm = true
  sa : findIn K (.ref C) "__setattr__" = some (some (.builtin "object.__setattr__"))
  ga : findIn K (.ref C) "__getattribute__" = some (some (.builtin "BaseException.__getattribute__"))
  gg : findIn K (.ref C) "__getattr__" = some none
  noN : findIn K (.ref C) "dishes" = some none
  iC : findIn K (.ref C) "__init__" = some (some (.ref fI))
  tC : typeIn K (.ref fI) = some (.type "function")
  kC : keepIn K (.ref C) = true
  exC : subIn K (.ref C) (.type "BaseException") = some true
  tyC : typeIn K (.ref C) = some (.type "type")
  hdC : hasDictIn K C = true
  fn : ∃ (oc : Value) (od : Option Addr) (doc pm : Value) (an : Option Addr) (cdv ct : Value) (osl : Array (Option Value)) (p1 p2 q1 q2 q3 q4 : Pos),
    K.lookup fI = some ⟨oc, od, .func (fnOf "__init__" "BadDishes.__init__" (iA p1 p2) (iB q1 q2 q3 q4) iS .none .none doc pm an cdv ct), osl⟩ ∧ codeIn K cdv "BadDishes.__init__" = true
theorem one_size (v : Value) : [v].length ≤ sizeLine := by
  rw [sizeLine_eq]
  exact (by decide : 1 ≤ 16777216)
theorem kept_but {K : Frag} {h h' : Heap} {x : Addr} (X : K.In h) (hx : K.lookup x = none) (k : ∀ b o, b ≠ x → h.get? b = some o → h'.get? b = some o) : K.In h' := fun a o e =>
  k a o (fun z => by rw [z, hx] at e; cases e) (X a o e)
theorem ldC {M : Model} {s : Shared} {name : Str} {scope : Scope} {L a : Addr} {cd : Value} {m : Str → Option Value} {x : Str} {pos : Pos} {v : Value} {Q : Value → Shared → Prop} {A : Around} {E : Value → Shared → Prop} (hn : s.heap.Ns L m) (hv : m x = some v) (h : Q v s)
    (hk : scope.kind = .function := by rfl) (hl : (envOfC name scope L a cd).kindOf x = some .local := by rfl) (hd : (x == ("__debug__" : Str)) = false := by decide) :
    wpAny M A (eval (.Name x pos) (envOfC name scope L a cd)) Q E s := wpAny_Name (wpAny_loadName_local hk hl hn hv h) hd
/-- what __init__ leaves of a fresh exception at x -/
structure InitEnd (h h' : Heap) (x C dx t1 : Addr) (v : Value) : Prop where
  keep : ∀ b o, b ≠ x → h.get? b = some o → h'.get? b = some o
  obj : h'.get? x = some { cls := .ref C, dict := some dx, data := .fields #[.ref t1, .none, .none, .none, .bool false, .none] }
  dbig : h.objs.size ≤ dx
  dne : dx ≠ x
  ns : h'.Ns1 dx (fun y => if y = "dishes" then some v else none)
/-- a made Low -/
structure OwnMade (h h' : Heap) (e C d : Addr) (v : Value) : Prop where
  keep : ∀ b o, h.get? b = some o → h'.get? b = some o
  new : h.objs.size ≤ e
  obj : ∃ oe vs, h'.get? e = some oe ∧ oe.cls = .ref C ∧ oe.dict = some d ∧ oe.data = .fields vs ∧ vs[1]? = some .none
  dbig : h.objs.size ≤ d
  dne : d ≠ e
  ns : h'.Ns1 d (fun y => if y = "dishes" then some v else none)
section
variable {prog : Program} {w : World} {A : Around} {E : Value → Shared → Prop} {R : Result → Shared → Prop} {s : Shared} {K : Frag} {mg : Str → Option Value} {C fI : Addr}
theorem ki_init (T : KiTxt K mg C fI) {x t0 : Addr} {v : Value} (X : K.In s.heap) (hlim : s.heap.NoLimit) (hx : s.heap.get? x = some (excO C t0)) (hnx : K.lookup x = none) (hroom : A.depth < recursionLimit)
    (hq : ∀ h' tk dx, InitEnd s.heap h' x C dx t0 v → R (.ok (.ret .none)) { s with heap := h', toks := tk }) :
    codeAny (model prog w) A (.call (.ref fI) ⟨[.ref x, v], []⟩) R s := by
  obtain ⟨oc, od, doc, pm, an, cdv, ct, osl, p1, p2, q1, q2, q3, q4, ho, hcd⟩ := T.fn
  obtain ⟨nm, q, N, bs, bm, sn, sub, ab, col, dd, k0, k1, k2, k3, k5, hC, hbm⟩ := T.cls
  have hcl : clsIn K C = some { name := nm, bases := bs, mro := .ref C :: bm, ns := N, qualname := q, hasDict := true, slotNames := sn, subclasses := sub, abstract := ab, collection := col, hasDel := false } := by unfold clsIn; rw [hC] <;> rfl
  refine Att.call_fn (binds := [("self", .ref x), ("dishes", v)]) X hlim ho hcd hroom (BindsTo.of_eq (by first | rfl | with_unfolding_all rfl)) (by first | rfl | decide | with_unfolding_all rfl) (fun s₁ IC => ?_) rfl rfl rfl
  obtain ⟨h₁, tk₁, rfl⟩ := IC.toInCall.same
  have k : ∀ b o, s.heap.get? b = some o → h₁.get? b = some o := IC.toInCall.keep
  have hn := IC.toInCall.ns
  have hxL : s.heap.objs.size ≠ x := Nat.ne_of_gt (Heap.lt_size hx)
  have X₁ : K.In h₁ := X.keeps k
  have hx₁ := k _ _ hx
  -- self.by = by
  show wpAny _ _ (execs _ _) _ _ _
  refine wpAny_execs_cons (plainObj_wpAny_Assign_Attribute ?_)
  refine ldC (v := v) hn (by first | rfl | with_unfolding_all rfl | kernel_rfl) (ldC (v := .ref x) hn (by first | rfl | with_unfolding_all rfl | kernel_rfl) ?_)
  refine set_plain X₁ (ox := excO C t0) (od := none) ⟨hx₁, rfl, rfl, trivial⟩ T.sa ?_
  refine exc_osa X₁ hx₁ hcl (show refsVE (.ref C :: bm) = true from hbm) rfl T.noN (fun h₃ tk₃ dx k₃ dn dne hx₃ hn₃ => ?_)
  show wpAny _ _ (execs _ _) _ _ _
  have z : s.heap.objs.size < h₁.objs.size := hn.lt
  exact wpAny_execs_nil (hq h₃ tk₃ dx ⟨fun b o hb e => k₃ b o hb (k b o e), hx₃, Nat.le_of_lt (Nat.lt_of_lt_of_le z dn), dne, hn₃⟩)
theorem ki_made (T : KiTxt K mg C fI) {v : Value} (X : K.In s.heap) (hlim : s.heap.NoLimit) (hroom : A.depth + 1 < recursionLimit)
    (hq : ∀ h' tk e d, OwnMade s.heap h' e C d v → R (.ok (.ret (.ref e))) { s with heap := h', toks := tk }) :
    codeAny (model prog w) A (.call (.ref C) ⟨[v], []⟩) R s := by
  obtain ⟨nm, q, N, bs, bm, sn, sub, ab, col, dd, k0, k1, k2, k3, k5, hC, hbm⟩ := T.cls
  obtain ⟨hp, g, dr, tk, os⟩ := s
  have k : ∀ b o, hp.get? b = some o → ((hp.push (kdv_tup [v])).push (excO C hp.objs.size)).get? b = some o := fun b o e => Heap.get?_push_of_some _ (Heap.get?_push_of_some _ e)
  have hget : ((hp.push (kdv_tup [v])).push (excO C hp.objs.size)).get? (hp.objs.size + 1) = some (excO C hp.objs.size) := by heap_get
  have hnx : K.lookup (hp.objs.size + 1) = none := by
    cases e : K.lookup (hp.objs.size + 1) with
    | none => rfl
    | some o =>
      have z : hp.get? (hp.objs.size + 1) = some o := X _ _ e
      exact absurd (Nat.lt_of_succ_lt (Heap.lt_size z)) (Nat.lt_irrefl _)
  refine call_own F.excBase_ValueError (fun X => refsVE_contains X bm hbm) (X _ _ hC) (looks_findIn X T.iC) (fun self => bind_fn X self T.tC) (one_size v) ?_
  refine ki_init (s := ⟨(hp.push (kdv_tup [v])).push (excO C hp.objs.size), g, dr, tk, os⟩) T (X.keeps k) (hlim.keeps k) hget hnx ?_ fun h' tk' dx ⟨k', hx, dn, dne, hns⟩ => ?_
  · show A.depth + 1 < recursionLimit
    exact hroom
  · have old : ∀ b o, hp.get? b = some o → h'.get? b = some o := fun b o e => k' b o (Nat.ne_of_lt (Nat.lt_succ_of_lt (Heap.lt_size e))) (k b o e)
    have z : hp.objs.size + 1 + 1 ≤ dx := by
      first
        | (simpa only [Heap.size_push] using dn)
        | exact dn
        | (have q := dn; rw [Heap.size_push, Heap.size_push] at q; exact q)
    exact ⟨rfl, hq h' tk' (hp.objs.size + 1) dx ⟨old, Nat.le_succ _, ⟨_, _, hx, rfl, rfl, rfl, rfl⟩, Nat.le_trans (Nat.le_trans (Nat.le_succ _) (Nat.le_succ _)) z, dne, hns⟩⟩
end
end KiX
end PySem
namespace TR
open PySem PySem.Spec PyProof.Rows L2
theorem mkF_Ki {K : PySem.W.Frag} {mg : Str → Option Value} {C fI : Addr} (T : PySem.KiX.KiTxt K mg C fI) : MkF K mg "BadDishes" "dishes" C :=
  ⟨T.gC, T.kC, T.noN, fun prog w A R s v X hl hr h => PySem.KiX.ki_made T X hl hr fun h' tk e d M => h h' tk e d ⟨M.keep, M.new, let ⟨oe, vs, a, b, c, dd, _⟩ := M.obj; ⟨oe, vs, a, b, c, dd⟩, M.dbig, M.dne, M.ns⟩⟩
end TR
namespace PySem
namespace KjX
open PySem.W PySem.Calls PyProof.Rows PySem.HandSPX
/-! ### the text of __init__ -/
def iA (p1 p2 : Pos) : Arguments := { posonlyargs := [], args := [{ arg := "self", annotation := none, pos := p1 }, { arg := "name", annotation := none, pos := p2 }], vararg := none, kwonlyargs := [], kw_defaults := [], kwarg := none, defaults := [] }
def iB (q1 q2 q3 q4 : Pos) : List Stmt := [.Assign [.Attribute (.Name "self" q1) "name" q2] (.Name "name" q3) q4]
def iS : Scope := { kind := .function, names := [(PySem.Str.ofString "self", .local), (PySem.Str.ofString "name", .local)], isGenerator := false, isCoroutine := false, more := [] }
/-- what the written part says of Low, at C, and of its __init__, at fI -/
structure KjTxt (K : Frag) (mg : Str → Option Value) (C fI : Addr) : Prop where
  gC : mg "NoName" = some (.ref C)
  cls : ∃ nm q N bs bm sn sub ab col dd k0 k1 k2 k3 k5, K.lookup C = some (excClassObj nm q C N bs bm true sn sub ab col dd k0 k1 k2 k3 k5 "ValueError.__new__") ∧ refsVE bm = true
  sa : findIn K (.ref C) "__setattr__" = some (some (.builtin "object.__setattr__"))
  ga : findIn K (.ref C) "__getattribute__" = some (some (.builtin "BaseException.__getattribute__"))
  gg : findIn K (.ref C) "__getattr__" = some none
  noN : findIn K (.ref C) "name" = some none
  iC : findIn K (.ref C) "__init__" = some (some (.ref fI))
  tC : typeIn K (.ref fI) = some (.type "function")
  kC : keepIn K (.ref C) = true
  exC : subIn K (.ref C) (.type "BaseException") = some true
  tyC : typeIn K (.ref C) = some (.type "type")
  hdC : hasDictIn K C = true
  fn : ∃ (oc : Value) (od : Option Addr) (doc pm : Value) (an : Option Addr) (cdv ct : Value) (osl : Array (Option Value)) (p1 p2 q1 q2 q3 q4 : Pos),
    K.lookup fI = some ⟨oc, od, .func (fnOf "__init__" "NoName.__init__" (iA p1 p2) (iB q1 q2 q3 q4) iS .none .none doc pm an cdv ct), osl⟩ ∧ codeIn K cdv "NoName.__init__" = true
theorem one_size (v : Value) : [v].length ≤ sizeLine := by
  rw [sizeLine_eq]
  exact (by decide : 1 ≤ 16777216)
theorem kept_but {K : Frag} {h h' : Heap} {x : Addr} (X : K.In h) (hx : K.lookup x = none) (k : ∀ b o, b ≠ x → h.get? b = some o → h'.get? b = some o) : K.In h' := fun a o e =>
  k a o (fun z => by rw [z, hx] at e; cases e) (X a o e)
theorem ldC {M : Model} {s : Shared} {name : Str} {scope : Scope} {L a : Addr} {cd : Value} {m : Str → Option Value} {x : Str} {pos : Pos} {v : Value} {Q : Value → Shared → Prop} {A : Around} {E : Value → Shared → Prop} (hn : s.heap.Ns L m) (hv : m x = some v) (h : Q v s)
    (hk : scope.kind = .function := by rfl) (hl : (envOfC name scope L a cd).kindOf x = some .local := by rfl) (hd : (x == ("__debug__" : Str)) = false := by decide) :
    wpAny M A (eval (.Name x pos) (envOfC name scope L a cd)) Q E s := wpAny_Name (wpAny_loadName_local hk hl hn hv h) hd
/-- what __init__ leaves of a fresh exception at x -/
structure InitEnd (h h' : Heap) (x C dx t1 : Addr) (v : Value) : Prop where
  keep : ∀ b o, b ≠ x → h.get? b = some o → h'.get? b = some o
  obj : h'.get? x = some { cls := .ref C, dict := some dx, data := .fields #[.ref t1, .none, .none, .none, .bool false, .none] }
  dbig : h.objs.size ≤ dx
  dne : dx ≠ x
  ns : h'.Ns1 dx (fun y => if y = "name" then some v else none)
/-- a made Low -/
structure OwnMade (h h' : Heap) (e C d : Addr) (v : Value) : Prop where
  keep : ∀ b o, h.get? b = some o → h'.get? b = some o
  new : h.objs.size ≤ e
  obj : ∃ oe vs, h'.get? e = some oe ∧ oe.cls = .ref C ∧ oe.dict = some d ∧ oe.data = .fields vs ∧ vs[1]? = some .none
  dbig : h.objs.size ≤ d
  dne : d ≠ e
  ns : h'.Ns1 d (fun y => if y = "name" then some v else none)
section
variable {prog : Program} {w : World} {A : Around} {E : Value → Shared → Prop} {R : Result → Shared → Prop} {s : Shared} {K : Frag} {mg : Str → Option Value} {C fI : Addr}
theorem kj_init (T : KjTxt K mg C fI) {x t0 : Addr} {v : Value} (X : K.In s.heap) (hlim : s.heap.NoLimit) (hx : s.heap.get? x = some (excO C t0)) (hnx : K.lookup x = none) (hroom : A.depth < recursionLimit)
    (hq : ∀ h' tk dx, InitEnd s.heap h' x C dx t0 v → R (.ok (.ret .none)) { s with heap := h', toks := tk }) :
    codeAny (model prog w) A (.call (.ref fI) ⟨[.ref x, v], []⟩) R s := by
  obtain ⟨oc, od, doc, pm, an, cdv, ct, osl, p1, p2, q1, q2, q3, q4, ho, hcd⟩ := T.fn
  obtain ⟨nm, q, N, bs, bm, sn, sub, ab, col, dd, k0, k1, k2, k3, k5, hC, hbm⟩ := T.cls
  have hcl : clsIn K C = some { name := nm, bases := bs, mro := .ref C :: bm, ns := N, qualname := q, hasDict := true, slotNames := sn, subclasses := sub, abstract := ab, collection := col, hasDel := false } := by unfold clsIn; rw [hC] <;> rfl
  refine Att.call_fn (binds := [("self", .ref x), ("name", v)]) X hlim ho hcd hroom (BindsTo.of_eq (by first | rfl | with_unfolding_all rfl)) (by first | rfl | decide | with_unfolding_all rfl) (fun s₁ IC => ?_) rfl rfl rfl
  obtain ⟨h₁, tk₁, rfl⟩ := IC.toInCall.same
  have k : ∀ b o, s.heap.get? b = some o → h₁.get? b = some o := IC.toInCall.keep
  have hn := IC.toInCall.ns
  have hxL : s.heap.objs.size ≠ x := Nat.ne_of_gt (Heap.lt_size hx)
  have X₁ : K.In h₁ := X.keeps k
  have hx₁ := k _ _ hx
  -- self.by = by
  show wpAny _ _ (execs _ _) _ _ _
  refine wpAny_execs_cons (plainObj_wpAny_Assign_Attribute ?_)
  refine ldC (v := v) hn (by first | rfl | with_unfolding_all rfl | kernel_rfl) (ldC (v := .ref x) hn (by first | rfl | with_unfolding_all rfl | kernel_rfl) ?_)
  refine set_plain X₁ (ox := excO C t0) (od := none) ⟨hx₁, rfl, rfl, trivial⟩ T.sa ?_
  refine exc_osa X₁ hx₁ hcl (show refsVE (.ref C :: bm) = true from hbm) rfl T.noN (fun h₃ tk₃ dx k₃ dn dne hx₃ hn₃ => ?_)
  show wpAny _ _ (execs _ _) _ _ _
  have z : s.heap.objs.size < h₁.objs.size := hn.lt
  exact wpAny_execs_nil (hq h₃ tk₃ dx ⟨fun b o hb e => k₃ b o hb (k b o e), hx₃, Nat.le_of_lt (Nat.lt_of_lt_of_le z dn), dne, hn₃⟩)
theorem kj_made (T : KjTxt K mg C fI) {v : Value} (X : K.In s.heap) (hlim : s.heap.NoLimit) (hroom : A.depth + 1 < recursionLimit)
    (hq : ∀ h' tk e d, OwnMade s.heap h' e C d v → R (.ok (.ret (.ref e))) { s with heap := h', toks := tk }) :
    codeAny (model prog w) A (.call (.ref C) ⟨[v], []⟩) R s := by
  obtain ⟨nm, q, N, bs, bm, sn, sub, ab, col, dd, k0, k1, k2, k3, k5, hC, hbm⟩ := T.cls
  obtain ⟨hp, g, dr, tk, os⟩ := s
  have k : ∀ b o, hp.get? b = some o → ((hp.push (kdv_tup [v])).push (excO C hp.objs.size)).get? b = some o := fun b o e => Heap.get?_push_of_some _ (Heap.get?_push_of_some _ e)
  have hget : ((hp.push (kdv_tup [v])).push (excO C hp.objs.size)).get? (hp.objs.size + 1) = some (excO C hp.objs.size) := by heap_get
  have hnx : K.lookup (hp.objs.size + 1) = none := by
    cases e : K.lookup (hp.objs.size + 1) with
    | none => rfl
    | some o =>
      have z : hp.get? (hp.objs.size + 1) = some o := X _ _ e
      exact absurd (Nat.lt_of_succ_lt (Heap.lt_size z)) (Nat.lt_irrefl _)
  refine call_own F.excBase_ValueError (fun X => refsVE_contains X bm hbm) (X _ _ hC) (looks_findIn X T.iC) (fun self => bind_fn X self T.tC) (one_size v) ?_
  refine kj_init (s := ⟨(hp.push (kdv_tup [v])).push (excO C hp.objs.size), g, dr, tk, os⟩) T (X.keeps k) (hlim.keeps k) hget hnx ?_ fun h' tk' dx ⟨k', hx, dn, dne, hns⟩ => ?_
  · show A.depth + 1 < recursionLimit
    exact hroom
  · have old : ∀ b o, hp.get? b = some o → h'.get? b = some o := fun b o e => k' b o (Nat.ne_of_lt (Nat.lt_succ_of_lt (Heap.lt_size e))) (k b o e)
    have z : hp.objs.size + 1 + 1 ≤ dx := by
      first
        | (simpa only [Heap.size_push] using dn)
        | exact dn
        | (have q := dn; rw [Heap.size_push, Heap.size_push] at q; exact q)
    exact ⟨rfl, hq h' tk' (hp.objs.size + 1) dx ⟨old, Nat.le_succ _, ⟨_, _, hx, rfl, rfl, rfl, rfl⟩, Nat.le_trans (Nat.le_trans (Nat.le_succ _) (Nat.le_succ _)) z, dne, hns⟩⟩
end
end KjX
end PySem
namespace TR
open PySem PySem.Spec PyProof.Rows L2
theorem mkF_Kj {K : PySem.W.Frag} {mg : Str → Option Value} {C fI : Addr} (T : PySem.KjX.KjTxt K mg C fI) : MkF K mg "NoName" "name" C :=
  ⟨T.gC, T.kC, T.noN, fun prog w A R s v X hl hr h => PySem.KjX.kj_made T X hl hr fun h' tk e d M => h h' tk e d ⟨M.keep, M.new, let ⟨oe, vs, a, b, c, dd, _⟩ := M.obj; ⟨oe, vs, a, b, c, dd⟩, M.dbig, M.dne, M.ns⟩⟩
end TR
namespace PySem
namespace KkX
open PySem.W PySem.Calls PyProof.Rows PySem.HandSPX
/-! ### the text of __init__ -/
def iA (p1 p2 : Pos) : Arguments := { posonlyargs := [], args := [{ arg := "self", annotation := none, pos := p1 }, { arg := "name", annotation := none, pos := p2 }], vararg := none, kwonlyargs := [], kw_defaults := [], kwarg := none, defaults := [] }
def iB (q1 q2 q3 q4 : Pos) : List Stmt := [.Assign [.Attribute (.Name "self" q1) "name" q2] (.Name "name" q3) q4]
def iS : Scope := { kind := .function, names := [(PySem.Str.ofString "self", .local), (PySem.Str.ofString "name", .local)], isGenerator := false, isCoroutine := false, more := [] }
/-- what the written part says of Low, at C, and of its __init__, at fI -/
structure KkTxt (K : Frag) (mg : Str → Option Value) (C fI : Addr) : Prop where
  gC : mg "UnknownName" = some (.ref C)
  cls : ∃ nm q N bs bm sn sub ab col dd k0 k1 k2 k3 k5, K.lookup C = some (excClassObj nm q C N bs bm true sn sub ab col dd k0 k1 k2 k3 k5 "ValueError.__new__") ∧ refsVE bm = true
  sa : findIn K (.ref C) "__setattr__" = some (some (.builtin "object.__setattr__"))
  ga : findIn K (.ref C) "__getattribute__" = some (some (.builtin "BaseException.__getattribute__"))
  gg : findIn K (.ref C) "__getattr__" = some none
  noN : findIn K (.ref C) "name" = some none
  iC : findIn K (.ref C) "__init__" = some (some (.ref fI))
  tC : typeIn K (.ref fI) = some (.type "function")
  kC : keepIn K (.ref C) = true
  exC : subIn K (.ref C) (.type "BaseException") = some true
  tyC : typeIn K (.ref C) = some (.type "type")
  hdC : hasDictIn K C = true
  fn : ∃ (oc : Value) (od : Option Addr) (doc pm : Value) (an : Option Addr) (cdv ct : Value) (osl : Array (Option Value)) (p1 p2 q1 q2 q3 q4 : Pos),
    K.lookup fI = some ⟨oc, od, .func (fnOf "__init__" "UnknownName.__init__" (iA p1 p2) (iB q1 q2 q3 q4) iS .none .none doc pm an cdv ct), osl⟩ ∧ codeIn K cdv "UnknownName.__init__" = true
theorem one_size (v : Value) : [v].length ≤ sizeLine := by
  rw [sizeLine_eq]
  exact (by decide : 1 ≤ 16777216)
theorem kept_but {K : Frag} {h h' : Heap} {x : Addr} (X : K.In h) (hx : K.lookup x = none) (k : ∀ b o, b ≠ x → h.get? b = some o → h'.get? b = some o) : K.In h' := fun a o e =>
  k a o (fun z => by rw [z, hx] at e; cases e) (X a o e)
theorem ldC {M : Model} {s : Shared} {name : Str} {scope : Scope} {L a : Addr} {cd : Value} {m : Str → Option Value} {x : Str} {pos : Pos} {v : Value} {Q : Value → Shared → Prop} {A : Around} {E : Value → Shared → Prop} (hn : s.heap.Ns L m) (hv : m x = some v) (h : Q v s)
    (hk : scope.kind = .function := by rfl) (hl : (envOfC name scope L a cd).kindOf x = some .local := by rfl) (hd : (x == ("__debug__" : Str)) = false := by decide) :
    wpAny M A (eval (.Name x pos) (envOfC name scope L a cd)) Q E s := wpAny_Name (wpAny_loadName_local hk hl hn hv h) hd
/-- what __init__ leaves of a fresh exception at x -/
structure InitEnd (h h' : Heap) (x C dx t1 : Addr) (v : Value) : Prop where
  keep : ∀ b o, b ≠ x → h.get? b = some o → h'.get? b = some o
  obj : h'.get? x = some { cls := .ref C, dict := some dx, data := .fields #[.ref t1, .none, .none, .none, .bool false, .none] }
  dbig : h.objs.size ≤ dx
  dne : dx ≠ x
  ns : h'.Ns1 dx (fun y => if y = "name" then some v else none)
/-- a made Low -/
structure OwnMade (h h' : Heap) (e C d : Addr) (v : Value) : Prop where
  keep : ∀ b o, h.get? b = some o → h'.get? b = some o
  new : h.objs.size ≤ e
  obj : ∃ oe vs, h'.get? e = some oe ∧ oe.cls = .ref C ∧ oe.dict = some d ∧ oe.data = .fields vs ∧ vs[1]? = some .none
  dbig : h.objs.size ≤ d
  dne : d ≠ e
  ns : h'.Ns1 d (fun y => if y = "name" then some v else none)
section
variable {prog : Program} {w : World} {A : Around} {E : Value → Shared → Prop} {R : Result → Shared → Prop} {s : Shared} {K : Frag} {mg : Str → Option Value} {C fI : Addr}
theorem kk_init (T : KkTxt K mg C fI) {x t0 : Addr} {v : Value} (X : K.In s.heap) (hlim : s.heap.NoLimit) (hx : s.heap.get? x = some (excO C t0)) (hnx : K.lookup x = none) (hroom : A.depth < recursionLimit)
    (hq : ∀ h' tk dx, InitEnd s.heap h' x C dx t0 v → R (.ok (.ret .none)) { s with heap := h', toks := tk }) :
    codeAny (model prog w) A (.call (.ref fI) ⟨[.ref x, v], []⟩) R s := by
  obtain ⟨oc, od, doc, pm, an, cdv, ct, osl, p1, p2, q1, q2, q3, q4, ho, hcd⟩ := T.fn
  obtain ⟨nm, q, N, bs, bm, sn, sub, ab, col, dd, k0, k1, k2, k3, k5, hC, hbm⟩ := T.cls
  have hcl : clsIn K C = some { name := nm, bases := bs, mro := .ref C :: bm, ns := N, qualname := q, hasDict := true, slotNames := sn, subclasses := sub, abstract := ab, collection := col, hasDel := false } := by unfold clsIn; rw [hC] <;> rfl
  refine Att.call_fn (binds := [("self", .ref x), ("name", v)]) X hlim ho hcd hroom (BindsTo.of_eq (by first | rfl | with_unfolding_all rfl)) (by first | rfl | decide | with_unfolding_all rfl) (fun s₁ IC => ?_) rfl rfl rfl
  obtain ⟨h₁, tk₁, rfl⟩ := IC.toInCall.same
  have k : ∀ b o, s.heap.get? b = some o → h₁.get? b = some o := IC.toInCall.keep
  have hn := IC.toInCall.ns
  have hxL : s.heap.objs.size ≠ x := Nat.ne_of_gt (Heap.lt_size hx)
  have X₁ : K.In h₁ := X.keeps k
  have hx₁ := k _ _ hx
  -- self.by = by
  show wpAny _ _ (execs _ _) _ _ _
  refine wpAny_execs_cons (plainObj_wpAny_Assign_Attribute ?_)
  refine ldC (v := v) hn (by first | rfl | with_unfolding_all rfl | kernel_rfl) (ldC (v := .ref x) hn (by first | rfl | with_unfolding_all rfl | kernel_rfl) ?_)
  refine set_plain X₁ (ox := excO C t0) (od := none) ⟨hx₁, rfl, rfl, trivial⟩ T.sa ?_
  refine exc_osa X₁ hx₁ hcl (show refsVE (.ref C :: bm) = true from hbm) rfl T.noN (fun h₃ tk₃ dx k₃ dn dne hx₃ hn₃ => ?_)
  show wpAny _ _ (execs _ _) _ _ _
  have z : s.heap.objs.size < h₁.objs.size := hn.lt
  exact wpAny_execs_nil (hq h₃ tk₃ dx ⟨fun b o hb e => k₃ b o hb (k b o e), hx₃, Nat.le_of_lt (Nat.lt_of_lt_of_le z dn), dne, hn₃⟩)
theorem kk_made (T : KkTxt K mg C fI) {v : Value} (X : K.In s.heap) (hlim : s.heap.NoLimit) (hroom : A.depth + 1 < recursionLimit)
    (hq : ∀ h' tk e d, OwnMade s.heap h' e C d v → R (.ok (.ret (.ref e))) { s with heap := h', toks := tk }) :
    codeAny (model prog w) A (.call (.ref C) ⟨[v], []⟩) R s := by
  obtain ⟨nm, q, N, bs, bm, sn, sub, ab, col, dd, k0, k1, k2, k3, k5, hC, hbm⟩ := T.cls
  obtain ⟨hp, g, dr, tk, os⟩ := s
  have k : ∀ b o, hp.get? b = some o → ((hp.push (kdv_tup [v])).push (excO C hp.objs.size)).get? b = some o := fun b o e => Heap.get?_push_of_some _ (Heap.get?_push_of_some _ e)
  have hget : ((hp.push (kdv_tup [v])).push (excO C hp.objs.size)).get? (hp.objs.size + 1) = some (excO C hp.objs.size) := by heap_get
  have hnx : K.lookup (hp.objs.size + 1) = none := by
    cases e : K.lookup (hp.objs.size + 1) with
    | none => rfl
    | some o =>
      have z : hp.get? (hp.objs.size + 1) = some o := X _ _ e
      exact absurd (Nat.lt_of_succ_lt (Heap.lt_size z)) (Nat.lt_irrefl _)
  refine call_own F.excBase_ValueError (fun X => refsVE_contains X bm hbm) (X _ _ hC) (looks_findIn X T.iC) (fun self => bind_fn X self T.tC) (one_size v) ?_
  refine kk_init (s := ⟨(hp.push (kdv_tup [v])).push (excO C hp.objs.size), g, dr, tk, os⟩) T (X.keeps k) (hlim.keeps k) hget hnx ?_ fun h' tk' dx ⟨k', hx, dn, dne, hns⟩ => ?_
  · show A.depth + 1 < recursionLimit
    exact hroom
  · have old : ∀ b o, hp.get? b = some o → h'.get? b = some o := fun b o e => k' b o (Nat.ne_of_lt (Nat.lt_succ_of_lt (Heap.lt_size e))) (k b o e)
    have z : hp.objs.size + 1 + 1 ≤ dx := by
      first
        | (simpa only [Heap.size_push] using dn)
        | exact dn
        | (have q := dn; rw [Heap.size_push, Heap.size_push] at q; exact q)
    exact ⟨rfl, hq h' tk' (hp.objs.size + 1) dx ⟨old, Nat.le_succ _, ⟨_, _, hx, rfl, rfl, rfl, rfl⟩, Nat.le_trans (Nat.le_trans (Nat.le_succ _) (Nat.le_succ _)) z, dne, hns⟩⟩
end
end KkX
end PySem
namespace TR
open PySem PySem.Spec PyProof.Rows L2
theorem mkF_Kk {K : PySem.W.Frag} {mg : Str → Option Value} {C fI : Addr} (T : PySem.KkX.KkTxt K mg C fI) : MkF K mg "UnknownName" "name" C :=
  ⟨T.gC, T.kC, T.noN, fun prog w A R s v X hl hr h => PySem.KkX.kk_made T X hl hr fun h' tk e d M => h h' tk e d ⟨M.keep, M.new, let ⟨oe, vs, a, b, c, dd, _⟩ := M.obj; ⟨oe, vs, a, b, c, dd⟩, M.dbig, M.dne, M.ns⟩⟩
end TR
namespace PySem
namespace KlX
open PySem.W PySem.Calls PyProof.Rows PySem.HandSPX
/-! ### the text of __init__ -/
def iA (p1 p2 : Pos) : Arguments := { posonlyargs := [], args := [{ arg := "self", annotation := none, pos := p1 }, { arg := "name", annotation := none, pos := p2 }], vararg := none, kwonlyargs := [], kw_defaults := [], kwarg := none, defaults := [] }
def iB (q1 q2 q3 q4 : Pos) : List Stmt := [.Assign [.Attribute (.Name "self" q1) "name" q2] (.Name "name" q3) q4]
def iS : Scope := { kind := .function, names := [(PySem.Str.ofString "self", .local), (PySem.Str.ofString "name", .local)], isGenerator := false, isCoroutine := false, more := [] }
/-- what the written part says of Low, at C, and of its __init__, at fI -/
structure KlTxt (K : Frag) (mg : Str → Option Value) (C fI : Addr) : Prop where
  gC : mg "NameTaken" = some (.ref C)
  cls : ∃ nm q N bs bm sn sub ab col dd k0 k1 k2 k3 k5, K.lookup C = some (excClassObj nm q C N bs bm true sn sub ab col dd k0 k1 k2 k3 k5 "ValueError.__new__") ∧ refsVE bm = true
  sa : findIn K (.ref C) "__setattr__" = some (some (.builtin "object.__setattr__"))
  ga : findIn K (.ref C) "__getattribute__" = some (some (.builtin "BaseException.__getattribute__"))
  gg : findIn K (.ref C) "__getattr__" = some none
  noN : findIn K (.ref C) "name" = some none
  iC : findIn K (.ref C) "__init__" = some (some (.ref fI))
  tC : typeIn K (.ref fI) = some (.type "function")
  kC : keepIn K (.ref C) = true
  exC : subIn K (.ref C) (.type "BaseException") = some true
  tyC : typeIn K (.ref C) = some (.type "type")
  hdC : hasDictIn K C = true
  fn : ∃ (oc : Value) (od : Option Addr) (doc pm : Value) (an : Option Addr) (cdv ct : Value) (osl : Array (Option Value)) (p1 p2 q1 q2 q3 q4 : Pos),
    K.lookup fI = some ⟨oc, od, .func (fnOf "__init__" "NameTaken.__init__" (iA p1 p2) (iB q1 q2 q3 q4) iS .none .none doc pm an cdv ct), osl⟩ ∧ codeIn K cdv "NameTaken.__init__" = true
theorem one_size (v : Value) : [v].length ≤ sizeLine := by
  rw [sizeLine_eq]
  exact (by decide : 1 ≤ 16777216)
theorem kept_but {K : Frag} {h h' : Heap} {x : Addr} (X : K.In h) (hx : K.lookup x = none) (k : ∀ b o, b ≠ x → h.get? b = some o → h'.get? b = some o) : K.In h' := fun a o e =>
  k a o (fun z => by rw [z, hx] at e; cases e) (X a o e)
theorem ldC {M : Model} {s : Shared} {name : Str} {scope : Scope} {L a : Addr} {cd : Value} {m : Str → Option Value} {x : Str} {pos : Pos} {v : Value} {Q : Value → Shared → Prop} {A : Around} {E : Value → Shared → Prop} (hn : s.heap.Ns L m) (hv : m x = some v) (h : Q v s)
    (hk : scope.kind = .function := by rfl) (hl : (envOfC name scope L a cd).kindOf x = some .local := by rfl) (hd : (x == ("__debug__" : Str)) = false := by decide) :
    wpAny M A (eval (.Name x pos) (envOfC name scope L a cd)) Q E s := wpAny_Name (wpAny_loadName_local hk hl hn hv h) hd
/-- what __init__ leaves of a fresh exception at x -/
structure InitEnd (h h' : Heap) (x C dx t1 : Addr) (v : Value) : Prop where
  keep : ∀ b o, b ≠ x → h.get? b = some o → h'.get? b = some o
  obj : h'.get? x = some { cls := .ref C, dict := some dx, data := .fields #[.ref t1, .none, .none, .none, .bool false, .none] }
  dbig : h.objs.size ≤ dx
  dne : dx ≠ x
  ns : h'.Ns1 dx (fun y => if y = "name" then some v else none)
/-- a made Low -/
structure OwnMade (h h' : Heap) (e C d : Addr) (v : Value) : Prop where
  keep : ∀ b o, h.get? b = some o → h'.get? b = some o
  new : h.objs.size ≤ e
  obj : ∃ oe vs, h'.get? e = some oe ∧ oe.cls = .ref C ∧ oe.dict = some d ∧ oe.data = .fields vs ∧ vs[1]? = some .none
  dbig : h.objs.size ≤ d
  dne : d ≠ e
  ns : h'.Ns1 d (fun y => if y = "name" then some v else none)
section
variable {prog : Program} {w : World} {A : Around} {E : Value → Shared → Prop} {R : Result → Shared → Prop} {s : Shared} {K : Frag} {mg : Str → Option Value} {C fI : Addr}
theorem kl_init (T : KlTxt K mg C fI) {x t0 : Addr} {v : Value} (X : K.In s.heap) (hlim : s.heap.NoLimit) (hx : s.heap.get? x = some (excO C t0)) (hnx : K.lookup x = none) (hroom : A.depth < recursionLimit)
    (hq : ∀ h' tk dx, InitEnd s.heap h' x C dx t0 v → R (.ok (.ret .none)) { s with heap := h', toks := tk }) :
    codeAny (model prog w) A (.call (.ref fI) ⟨[.ref x, v], []⟩) R s := by
  obtain ⟨oc, od, doc, pm, an, cdv, ct, osl, p1, p2, q1, q2, q3, q4, ho, hcd⟩ := T.fn
  obtain ⟨nm, q, N, bs, bm, sn, sub, ab, col, dd, k0, k1, k2, k3, k5, hC, hbm⟩ := T.cls
  have hcl : clsIn K C = some { name := nm, bases := bs, mro := .ref C :: bm, ns := N, qualname := q, hasDict := true, slotNames := sn, subclasses := sub, abstract := ab, collection := col, hasDel := false } := by unfold clsIn; rw [hC] <;> rfl
  refine Att.call_fn (binds := [("self", .ref x), ("name", v)]) X hlim ho hcd hroom (BindsTo.of_eq (by first | rfl | with_unfolding_all rfl)) (by first | rfl | decide | with_unfolding_all rfl) (fun s₁ IC => ?_) rfl rfl rfl
  obtain ⟨h₁, tk₁, rfl⟩ := IC.toInCall.same
  have k : ∀ b o, s.heap.get? b = some o → h₁.get? b = some o := IC.toInCall.keep
  have hn := IC.toInCall.ns
  have hxL : s.heap.objs.size ≠ x := Nat.ne_of_gt (Heap.lt_size hx)
  have X₁ : K.In h₁ := X.keeps k
  have hx₁ := k _ _ hx
  -- self.by = by
  show wpAny _ _ (execs _ _) _ _ _
  refine wpAny_execs_cons (plainObj_wpAny_Assign_Attribute ?_)
  refine ldC (v := v) hn (by first | rfl | with_unfolding_all rfl | kernel_rfl) (ldC (v := .ref x) hn (by first | rfl | with_unfolding_all rfl | kernel_rfl) ?_)
  refine set_plain X₁ (ox := excO C t0) (od := none) ⟨hx₁, rfl, rfl, trivial⟩ T.sa ?_
  refine exc_osa X₁ hx₁ hcl (show refsVE (.ref C :: bm) = true from hbm) rfl T.noN (fun h₃ tk₃ dx k₃ dn dne hx₃ hn₃ => ?_)
  show wpAny _ _ (execs _ _) _ _ _
  have z : s.heap.objs.size < h₁.objs.size := hn.lt
  exact wpAny_execs_nil (hq h₃ tk₃ dx ⟨fun b o hb e => k₃ b o hb (k b o e), hx₃, Nat.le_of_lt (Nat.lt_of_lt_of_le z dn), dne, hn₃⟩)
theorem kl_made (T : KlTxt K mg C fI) {v : Value} (X : K.In s.heap) (hlim : s.heap.NoLimit) (hroom : A.depth + 1 < recursionLimit)
    (hq : ∀ h' tk e d, OwnMade s.heap h' e C d v → R (.ok (.ret (.ref e))) { s with heap := h', toks := tk }) :
    codeAny (model prog w) A (.call (.ref C) ⟨[v], []⟩) R s := by
  obtain ⟨nm, q, N, bs, bm, sn, sub, ab, col, dd, k0, k1, k2, k3, k5, hC, hbm⟩ := T.cls
  obtain ⟨hp, g, dr, tk, os⟩ := s
  have k : ∀ b o, hp.get? b = some o → ((hp.push (kdv_tup [v])).push (excO C hp.objs.size)).get? b = some o := fun b o e => Heap.get?_push_of_some _ (Heap.get?_push_of_some _ e)
  have hget : ((hp.push (kdv_tup [v])).push (excO C hp.objs.size)).get? (hp.objs.size + 1) = some (excO C hp.objs.size) := by heap_get
  have hnx : K.lookup (hp.objs.size + 1) = none := by
    cases e : K.lookup (hp.objs.size + 1) with
    | none => rfl
    | some o =>
      have z : hp.get? (hp.objs.size + 1) = some o := X _ _ e
      exact absurd (Nat.lt_of_succ_lt (Heap.lt_size z)) (Nat.lt_irrefl _)
  refine call_own F.excBase_ValueError (fun X => refsVE_contains X bm hbm) (X _ _ hC) (looks_findIn X T.iC) (fun self => bind_fn X self T.tC) (one_size v) ?_
  refine kl_init (s := ⟨(hp.push (kdv_tup [v])).push (excO C hp.objs.size), g, dr, tk, os⟩) T (X.keeps k) (hlim.keeps k) hget hnx ?_ fun h' tk' dx ⟨k', hx, dn, dne, hns⟩ => ?_
  · show A.depth + 1 < recursionLimit
    exact hroom
  · have old : ∀ b o, hp.get? b = some o → h'.get? b = some o := fun b o e => k' b o (Nat.ne_of_lt (Nat.lt_succ_of_lt (Heap.lt_size e))) (k b o e)
    have z : hp.objs.size + 1 + 1 ≤ dx := by
      first
        | (simpa only [Heap.size_push] using dn)
        | exact dn
        | (have q := dn; rw [Heap.size_push, Heap.size_push] at q; exact q)
    exact ⟨rfl, hq h' tk' (hp.objs.size + 1) dx ⟨old, Nat.le_succ _, ⟨_, _, hx, rfl, rfl, rfl, rfl⟩, Nat.le_trans (Nat.le_trans (Nat.le_succ _) (Nat.le_succ _)) z, dne, hns⟩⟩
end
end KlX
end PySem
namespace TR
open PySem PySem.Spec PyProof.Rows L2
theorem mkF_Kl {K : PySem.W.Frag} {mg : Str → Option Value} {C fI : Addr} (T : PySem.KlX.KlTxt K mg C fI) : MkF K mg "NameTaken" "name" C :=
  ⟨T.gC, T.kC, T.noN, fun prog w A R s v X hl hr h => PySem.KlX.kl_made T X hl hr fun h' tk e d M => h h' tk e d ⟨M.keep, M.new, let ⟨oe, vs, a, b, c, dd, _⟩ := M.obj; ⟨oe, vs, a, b, c, dd⟩, M.dbig, M.dne, M.ns⟩⟩
end TR
namespace PySem
namespace KmX
open PySem.W PySem.Calls PyProof.Rows PySem.HandSPX
/-! ### the text of __init__ -/
def iA (p1 p2 : Pos) : Arguments := { posonlyargs := [], args := [{ arg := "self", annotation := none, pos := p1 }, { arg := "at", annotation := none, pos := p2 }], vararg := none, kwonlyargs := [], kw_defaults := [], kwarg := none, defaults := [] }
def iB (q1 q2 q3 q4 : Pos) : List Stmt := [.Assign [.Attribute (.Name "self" q1) "at" q2] (.Name "at" q3) q4]
def iS : Scope := { kind := .function, names := [(PySem.Str.ofString "self", .local), (PySem.Str.ofString "at", .local)], isGenerator := false, isCoroutine := false, more := [] }
/-- what the written part says of Low, at C, and of its __init__, at fI -/
structure KmTxt (K : Frag) (mg : Str → Option Value) (C fI : Addr) : Prop where
  gC : mg "NoMoment" = some (.ref C)
  cls : ∃ nm q N bs bm sn sub ab col dd k0 k1 k2 k3 k5, K.lookup C = some (excClassObj nm q C N bs bm true sn sub ab col dd k0 k1 k2 k3 k5 "ValueError.__new__") ∧ refsVE bm = true
  sa : findIn K (.ref C) "__setattr__" = some (some (.builtin "object.__setattr__"))
  ga : findIn K (.ref C) "__getattribute__" = some (some (.builtin "BaseException.__getattribute__"))
  gg : findIn K (.ref C) "__getattr__" = some none
  noN : findIn K (.ref C) "at" = some none
  iC : findIn K (.ref C) "__init__" = some (some (.ref fI))
  tC : typeIn K (.ref fI) = some (.type "function")
  kC : keepIn K (.ref C) = true
  exC : subIn K (.ref C) (.type "BaseException") = some true
  tyC : typeIn K (.ref C) = some (.type "type")
  hdC : hasDictIn K C = true
  fn : ∃ (oc : Value) (od : Option Addr) (doc pm : Value) (an : Option Addr) (cdv ct : Value) (osl : Array (Option Value)) (p1 p2 q1 q2 q3 q4 : Pos),
    K.lookup fI = some ⟨oc, od, .func (fnOf "__init__" "NoMoment.__init__" (iA p1 p2) (iB q1 q2 q3 q4) iS .none .none doc pm an cdv ct), osl⟩ ∧ codeIn K cdv "NoMoment.__init__" = true
theorem one_size (v : Value) : [v].length ≤ sizeLine := by
  rw [sizeLine_eq]
  exact (by decide : 1 ≤ 16777216)
theorem kept_but {K : Frag} {h h' : Heap} {x : Addr} (X : K.In h) (hx : K.lookup x = none) (k : ∀ b o, b ≠ x → h.get? b = some o → h'.get? b = some o) : K.In h' := fun a o e =>
  k a o (fun z => by rw [z, hx] at e; cases e) (X a o e)
theorem ldC {M : Model} {s : Shared} {name : Str} {scope : Scope} {L a : Addr} {cd : Value} {m : Str → Option Value} {x : Str} {pos : Pos} {v : Value} {Q : Value → Shared → Prop} {A : Around} {E : Value → Shared → Prop} (hn : s.heap.Ns L m) (hv : m x = some v) (h : Q v s)
    (hk : scope.kind = .function := by rfl) (hl : (envOfC name scope L a cd).kindOf x = some .local := by rfl) (hd : (x == ("__debug__" : Str)) = false := by decide) :
    wpAny M A (eval (.Name x pos) (envOfC name scope L a cd)) Q E s := wpAny_Name (wpAny_loadName_local hk hl hn hv h) hd
/-- what __init__ leaves of a fresh exception at x -/
structure InitEnd (h h' : Heap) (x C dx t1 : Addr) (v : Value) : Prop where
  keep : ∀ b o, b ≠ x → h.get? b = some o → h'.get? b = some o
  obj : h'.get? x = some { cls := .ref C, dict := some dx, data := .fields #[.ref t1, .none, .none, .none, .bool false, .none] }
  dbig : h.objs.size ≤ dx
  dne : dx ≠ x
  ns : h'.Ns1 dx (fun y => if y = "at" then some v else none)
/-- a made Low -/
structure OwnMade (h h' : Heap) (e C d : Addr) (v : Value) : Prop where
  keep : ∀ b o, h.get? b = some o → h'.get? b = some o
  new : h.objs.size ≤ e
  obj : ∃ oe vs, h'.get? e = some oe ∧ oe.cls = .ref C ∧ oe.dict = some d ∧ oe.data = .fields vs ∧ vs[1]? = some .none
  dbig : h.objs.size ≤ d
  dne : d ≠ e
  ns : h'.Ns1 d (fun y => if y = "at" then some v else none)
section
variable {prog : Program} {w : World} {A : Around} {E : Value → Shared → Prop} {R : Result → Shared → Prop} {s : Shared} {K : Frag} {mg : Str → Option Value} {C fI : Addr}
theorem km_init (T : KmTxt K mg C fI) {x t0 : Addr} {v : Value} (X : K.In s.heap) (hlim : s.heap.NoLimit) (hx : s.heap.get? x = some (excO C t0)) (hnx : K.lookup x = none) (hroom : A.depth < recursionLimit)
    (hq : ∀ h' tk dx, InitEnd s.heap h' x C dx t0 v → R (.ok (.ret .none)) { s with heap := h', toks := tk }) :
    codeAny (model prog w) A (.call (.ref fI) ⟨[.ref x, v], []⟩) R s := by
  obtain ⟨oc, od, doc, pm, an, cdv, ct, osl, p1, p2, q1, q2, q3, q4, ho, hcd⟩ := T.fn
  obtain ⟨nm, q, N, bs, bm, sn, sub, ab, col, dd, k0, k1, k2, k3, k5, hC, hbm⟩ := T.cls
  have hcl : clsIn K C = some { name := nm, bases := bs, mro := .ref C :: bm, ns := N, qualname := q, hasDict := true, slotNames := sn, subclasses := sub, abstract := ab, collection := col, hasDel := false } := by unfold clsIn; rw [hC] <;> rfl
  refine Att.call_fn (binds := [("self", .ref x), ("at", v)]) X hlim ho hcd hroom (BindsTo.of_eq (by first | rfl | with_unfolding_all rfl)) (by first | rfl | decide | with_unfolding_all rfl) (fun s₁ IC => ?_) rfl rfl rfl
  obtain ⟨h₁, tk₁, rfl⟩ := IC.toInCall.same
  have k : ∀ b o, s.heap.get? b = some o → h₁.get? b = some o := IC.toInCall.keep
  have hn := IC.toInCall.ns
  have hxL : s.heap.objs.size ≠ x := Nat.ne_of_gt (Heap.lt_size hx)
  have X₁ : K.In h₁ := X.keeps k
  have hx₁ := k _ _ hx
  -- self.by = by
  show wpAny _ _ (execs _ _) _ _ _
  refine wpAny_execs_cons (plainObj_wpAny_Assign_Attribute ?_)
  refine ldC (v := v) hn (by first | rfl | with_unfolding_all rfl | kernel_rfl) (ldC (v := .ref x) hn (by first | rfl | with_unfolding_all rfl | kernel_rfl) ?_)
  refine set_plain X₁ (ox := excO C t0) (od := none) ⟨hx₁, rfl, rfl, trivial⟩ T.sa ?_
  refine exc_osa X₁ hx₁ hcl (show refsVE (.ref C :: bm) = true from hbm) rfl T.noN (fun h₃ tk₃ dx k₃ dn dne hx₃ hn₃ => ?_)
  show wpAny _ _ (execs _ _) _ _ _
  have z : s.heap.objs.size < h₁.objs.size := hn.lt
  exact wpAny_execs_nil (hq h₃ tk₃ dx ⟨fun b o hb e => k₃ b o hb (k b o e), hx₃, Nat.le_of_lt (Nat.lt_of_lt_of_le z dn), dne, hn₃⟩)
theorem km_made (T : KmTxt K mg C fI) {v : Value} (X : K.In s.heap) (hlim : s.heap.NoLimit) (hroom : A.depth + 1 < recursionLimit)
    (hq : ∀ h' tk e d, OwnMade s.heap h' e C d v → R (.ok (.ret (.ref e))) { s with heap := h', toks := tk }) :
    codeAny (model prog w) A (.call (.ref C) ⟨[v], []⟩) R s := by
  obtain ⟨nm, q, N, bs, bm, sn, sub, ab, col, dd, k0, k1, k2, k3, k5, hC, hbm⟩ := T.cls
  obtain ⟨hp, g, dr, tk, os⟩ := s
  have k : ∀ b o, hp.get? b = some o → ((hp.push (kdv_tup [v])).push (excO C hp.objs.size)).get? b = some o := fun b o e => Heap.get?_push_of_some _ (Heap.get?_push_of_some _ e)
  have hget : ((hp.push (kdv_tup [v])).push (excO C hp.objs.size)).get? (hp.objs.size + 1) = some (excO C hp.objs.size) := by heap_get
  have hnx : K.lookup (hp.objs.size + 1) = none := by
    cases e : K.lookup (hp.objs.size + 1) with
    | none => rfl
    | some o =>
      have z : hp.get? (hp.objs.size + 1) = some o := X _ _ e
      exact absurd (Nat.lt_of_succ_lt (Heap.lt_size z)) (Nat.lt_irrefl _)
  refine call_own F.excBase_ValueError (fun X => refsVE_contains X bm hbm) (X _ _ hC) (looks_findIn X T.iC) (fun self => bind_fn X self T.tC) (one_size v) ?_
  refine km_init (s := ⟨(hp.push (kdv_tup [v])).push (excO C hp.objs.size), g, dr, tk, os⟩) T (X.keeps k) (hlim.keeps k) hget hnx ?_ fun h' tk' dx ⟨k', hx, dn, dne, hns⟩ => ?_
  · show A.depth + 1 < recursionLimit
    exact hroom
  · have old : ∀ b o, hp.get? b = some o → h'.get? b = some o := fun b o e => k' b o (Nat.ne_of_lt (Nat.lt_succ_of_lt (Heap.lt_size e))) (k b o e)
    have z : hp.objs.size + 1 + 1 ≤ dx := by
      first
        | (simpa only [Heap.size_push] using dn)
        | exact dn
        | (have q := dn; rw [Heap.size_push, Heap.size_push] at q; exact q)
    exact ⟨rfl, hq h' tk' (hp.objs.size + 1) dx ⟨old, Nat.le_succ _, ⟨_, _, hx, rfl, rfl, rfl, rfl⟩, Nat.le_trans (Nat.le_trans (Nat.le_succ _) (Nat.le_succ _)) z, dne, hns⟩⟩
end
end KmX
end PySem
namespace TR
open PySem PySem.Spec PyProof.Rows L2
theorem mkF_Km {K : PySem.W.Frag} {mg : Str → Option Value} {C fI : Addr} (T : PySem.KmX.KmTxt K mg C fI) : MkF K mg "NoMoment" "at" C :=
  ⟨T.gC, T.kC, T.noN, fun prog w A R s v X hl hr h => PySem.KmX.km_made T X hl hr fun h' tk e d M => h h' tk e d ⟨M.keep, M.new, let ⟨oe, vs, a, b, c, dd, _⟩ := M.obj; ⟨oe, vs, a, b, c, dd⟩, M.dbig, M.dne, M.ns⟩⟩
end TR
namespace PySem
namespace KnX
open PySem.W PySem.Calls PyProof.Rows PySem.HandSPX
/-! ### the text of __init__ -/
def iA (p1 p2 : Pos) : Arguments := { posonlyargs := [], args := [{ arg := "self", annotation := none, pos := p1 }, { arg := "index", annotation := none, pos := p2 }], vararg := none, kwonlyargs := [], kw_defaults := [], kwarg := none, defaults := [] }
def iB (q1 q2 q3 q4 : Pos) : List Stmt := [.Assign [.Attribute (.Name "self" q1) "index" q2] (.Name "index" q3) q4]
def iS : Scope := { kind := .function, names := [(PySem.Str.ofString "self", .local), (PySem.Str.ofString "index", .local)], isGenerator := false, isCoroutine := false, more := [] }
/-- what the written part says of Low, at C, and of its __init__, at fI -/
structure KnTxt (K : Frag) (mg : Str → Option Value) (C fI : Addr) : Prop where
  gC : mg "Failed" = some (.ref C)
  cls : ∃ nm q N bs bm sn sub ab col dd k0 k1 k2 k3 k5, K.lookup C = some (excClassObj nm q C N bs bm true sn sub ab col dd k0 k1 k2 k3 k5 "ValueError.__new__") ∧ refsVE bm = true
  sa : findIn K (.ref C) "__setattr__" = some (some (.builtin "object.__setattr__"))
  ga : findIn K (.ref C) "__getattribute__" = some (some (.builtin "BaseException.__getattribute__"))
  gg : findIn K (.ref C) "__getattr__" = some none
  noN : findIn K (.ref C) "index" = some none
  iC : findIn K (.ref C) "__init__" = some (some (.ref fI))
  tC : typeIn K (.ref fI) = some (.type "function")
  kC : keepIn K (.ref C) = true
  exC : subIn K (.ref C) (.type "BaseException") = some true
  tyC : typeIn K (.ref C) = some (.type "type")
  hdC : hasDictIn K C = true
  fn : ∃ (oc : Value) (od : Option Addr) (doc pm : Value) (an : Option Addr) (cdv ct : Value) (osl : Array (Option Value)) (p1 p2 q1 q2 q3 q4 : Pos),
    K.lookup fI = some ⟨oc, od, .func (fnOf "__init__" "Failed.__init__" (iA p1 p2) (iB q1 q2 q3 q4) iS .none .none doc pm an cdv ct), osl⟩ ∧ codeIn K cdv "Failed.__init__" = true
theorem one_size (v : Value) : [v].length ≤ sizeLine := by
  rw [sizeLine_eq]
  exact (by decide : 1 ≤ 16777216)
theorem kept_but {K : Frag} {h h' : Heap} {x : Addr} (X : K.In h) (hx : K.lookup x = none) (k : ∀ b o, b ≠ x → h.get? b = some o → h'.get? b = some o) : K.In h' := fun a o e =>
  k a o (fun z => by rw [z, hx] at e; cases e) (X a o e)
theorem ldC {M : Model} {s : Shared} {name : Str} {scope : Scope} {L a : Addr} {cd : Value} {m : Str → Option Value} {x : Str} {pos : Pos} {v : Value} {Q : Value → Shared → Prop} {A : Around} {E : Value → Shared → Prop} (hn : s.heap.Ns L m) (hv : m x = some v) (h : Q v s)
    (hk : scope.kind = .function := by rfl) (hl : (envOfC name scope L a cd).kindOf x = some .local := by rfl) (hd : (x == ("__debug__" : Str)) = false := by decide) :
    wpAny M A (eval (.Name x pos) (envOfC name scope L a cd)) Q E s := wpAny_Name (wpAny_loadName_local hk hl hn hv h) hd
/-- what __init__ leaves of a fresh exception at x -/
structure InitEnd (h h' : Heap) (x C dx t1 : Addr) (v : Value) : Prop where
  keep : ∀ b o, b ≠ x → h.get? b = some o → h'.get? b = some o
  obj : h'.get? x = some { cls := .ref C, dict := some dx, data := .fields #[.ref t1, .none, .none, .none, .bool false, .none] }
  dbig : h.objs.size ≤ dx
  dne : dx ≠ x
  ns : h'.Ns1 dx (fun y => if y = "index" then some v else none)
/-- a made Low -/
structure OwnMade (h h' : Heap) (e C d : Addr) (v : Value) : Prop where
  keep : ∀ b o, h.get? b = some o → h'.get? b = some o
  new : h.objs.size ≤ e
  obj : ∃ oe vs, h'.get? e = some oe ∧ oe.cls = .ref C ∧ oe.dict = some d ∧ oe.data = .fields vs ∧ vs[1]? = some .none
  dbig : h.objs.size ≤ d
  dne : d ≠ e
  ns : h'.Ns1 d (fun y => if y = "index" then some v else none)
section
variable {prog : Program} {w : World} {A : Around} {E : Value → Shared → Prop} {R : Result → Shared → Prop} {s : Shared} {K : Frag} {mg : Str → Option Value} {C fI : Addr}
theorem kn_init (T : KnTxt K mg C fI) {x t0 : Addr} {v : Value} (X : K.In s.heap) (hlim : s.heap.NoLimit) (hx : s.heap.get? x = some (excO C t0)) (hnx : K.lookup x = none) (hroom : A.depth < recursionLimit)
    (hq : ∀ h' tk dx, InitEnd s.heap h' x C dx t0 v → R (.ok (.ret .none)) { s with heap := h', toks := tk }) :
    codeAny (model prog w) A (.call (.ref fI) ⟨[.ref x, v], []⟩) R s := by
  obtain ⟨oc, od, doc, pm, an, cdv, ct, osl, p1, p2, q1, q2, q3, q4, ho, hcd⟩ := T.fn
  obtain ⟨nm, q, N, bs, bm, sn, sub, ab, col, dd, k0, k1, k2, k3, k5, hC, hbm⟩ := T.cls
  have hcl : clsIn K C = some { name := nm, bases := bs, mro := .ref C :: bm, ns := N, qualname := q, hasDict := true, slotNames := sn, subclasses := sub, abstract := ab, collection := col, hasDel := false } := by unfold clsIn; rw [hC] <;> rfl
  refine Att.call_fn (binds := [("self", .ref x), ("index", v)]) X hlim ho hcd hroom (BindsTo.of_eq (by first | rfl | with_unfolding_all rfl)) (by first | rfl | decide | with_unfolding_all rfl) (fun s₁ IC => ?_) rfl rfl rfl
  obtain ⟨h₁, tk₁, rfl⟩ := IC.toInCall.same
  have k : ∀ b o, s.heap.get? b = some o → h₁.get? b = some o := IC.toInCall.keep
  have hn := IC.toInCall.ns
  have hxL : s.heap.objs.size ≠ x := Nat.ne_of_gt (Heap.lt_size hx)
  have X₁ : K.In h₁ := X.keeps k
  have hx₁ := k _ _ hx
  -- self.by = by
  show wpAny _ _ (execs _ _) _ _ _
  refine wpAny_execs_cons (plainObj_wpAny_Assign_Attribute ?_)
  refine ldC (v := v) hn (by first | rfl | with_unfolding_all rfl | kernel_rfl) (ldC (v := .ref x) hn (by first | rfl | with_unfolding_all rfl | kernel_rfl) ?_)
  refine set_plain X₁ (ox := excO C t0) (od := none) ⟨hx₁, rfl, rfl, trivial⟩ T.sa ?_
  refine exc_osa X₁ hx₁ hcl (show refsVE (.ref C :: bm) = true from hbm) rfl T.noN (fun h₃ tk₃ dx k₃ dn dne hx₃ hn₃ => ?_)
  show wpAny _ _ (execs _ _) _ _ _
  have z : s.heap.objs.size < h₁.objs.size := hn.lt
  exact wpAny_execs_nil (hq h₃ tk₃ dx ⟨fun b o hb e => k₃ b o hb (k b o e), hx₃, Nat.le_of_lt (Nat.lt_of_lt_of_le z dn), dne, hn₃⟩)
theorem kn_made (T : KnTxt K mg C fI) {v : Value} (X : K.In s.heap) (hlim : s.heap.NoLimit) (hroom : A.depth + 1 < recursionLimit)
    (hq : ∀ h' tk e d, OwnMade s.heap h' e C d v → R (.ok (.ret (.ref e))) { s with heap := h', toks := tk }) :
    codeAny (model prog w) A (.call (.ref C) ⟨[v], []⟩) R s := by
  obtain ⟨nm, q, N, bs, bm, sn, sub, ab, col, dd, k0, k1, k2, k3, k5, hC, hbm⟩ := T.cls
  obtain ⟨hp, g, dr, tk, os⟩ := s
  have k : ∀ b o, hp.get? b = some o → ((hp.push (kdv_tup [v])).push (excO C hp.objs.size)).get? b = some o := fun b o e => Heap.get?_push_of_some _ (Heap.get?_push_of_some _ e)
  have hget : ((hp.push (kdv_tup [v])).push (excO C hp.objs.size)).get? (hp.objs.size + 1) = some (excO C hp.objs.size) := by heap_get
  have hnx : K.lookup (hp.objs.size + 1) = none := by
    cases e : K.lookup (hp.objs.size + 1) with
    | none => rfl
    | some o =>
      have z : hp.get? (hp.objs.size + 1) = some o := X _ _ e
      exact absurd (Nat.lt_of_succ_lt (Heap.lt_size z)) (Nat.lt_irrefl _)
  refine call_own F.excBase_ValueError (fun X => refsVE_contains X bm hbm) (X _ _ hC) (looks_findIn X T.iC) (fun self => bind_fn X self T.tC) (one_size v) ?_
  refine kn_init (s := ⟨(hp.push (kdv_tup [v])).push (excO C hp.objs.size), g, dr, tk, os⟩) T (X.keeps k) (hlim.keeps k) hget hnx ?_ fun h' tk' dx ⟨k', hx, dn, dne, hns⟩ => ?_
  · show A.depth + 1 < recursionLimit
    exact hroom
  · have old : ∀ b o, hp.get? b = some o → h'.get? b = some o := fun b o e => k' b o (Nat.ne_of_lt (Nat.lt_succ_of_lt (Heap.lt_size e))) (k b o e)
    have z : hp.objs.size + 1 + 1 ≤ dx := by
      first
        | (simpa only [Heap.size_push] using dn)
        | exact dn
        | (have q := dn; rw [Heap.size_push, Heap.size_push] at q; exact q)
    exact ⟨rfl, hq h' tk' (hp.objs.size + 1) dx ⟨old, Nat.le_succ _, ⟨_, _, hx, rfl, rfl, rfl, rfl⟩, Nat.le_trans (Nat.le_trans (Nat.le_succ _) (Nat.le_succ _)) z, dne, hns⟩⟩
end
end KnX
end PySem
namespace TR
open PySem PySem.Spec PyProof.Rows L2
theorem mkF_Kn {K : PySem.W.Frag} {mg : Str → Option Value} {C fI : Addr} (T : PySem.KnX.KnTxt K mg C fI) : MkF K mg "Failed" "index" C :=
  ⟨T.gC, T.kC, T.noN, fun prog w A R s v X hl hr h => PySem.KnX.kn_made T X hl hr fun h' tk e d M => h h' tk e d ⟨M.keep, M.new, let ⟨oe, vs, a, b, c, dd, _⟩ := M.obj; ⟨oe, vs, a, b, c, dd⟩, M.dbig, M.dne, M.ns⟩⟩
end TR
namespace PySem
namespace KoX
open PySem.W PySem.Calls PyProof.Rows PySem.HandSPX
/-! ### the text of __init__ -/
def iA (p1 p2 : Pos) : Arguments := { posonlyargs := [], args := [{ arg := "self", annotation := none, pos := p1 }, { arg := "obstruction", annotation := none, pos := p2 }], vararg := none, kwonlyargs := [], kw_defaults := [], kwarg := none, defaults := [] }
def iB (q1 q2 q3 q4 : Pos) : List Stmt := [.Assign [.Attribute (.Name "self" q1) "obstruction" q2] (.Name "obstruction" q3) q4]
def iS : Scope := { kind := .function, names := [(PySem.Str.ofString "self", .local), (PySem.Str.ofString "obstruction", .local)], isGenerator := false, isCoroutine := false, more := [] }
/-- what the written part says of Low, at C, and of its __init__, at fI -/
structure KoTxt (K : Frag) (mg : Str → Option Value) (C fI : Addr) : Prop where
  gC : mg "Blocked" = some (.ref C)
  cls : ∃ nm q N bs bm sn sub ab col dd k0 k1 k2 k3 k5, K.lookup C = some (excClassObj nm q C N bs bm true sn sub ab col dd k0 k1 k2 k3 k5 "ValueError.__new__") ∧ refsVE bm = true
  sa : findIn K (.ref C) "__setattr__" = some (some (.builtin "object.__setattr__"))
  ga : findIn K (.ref C) "__getattribute__" = some (some (.builtin "BaseException.__getattribute__"))
  gg : findIn K (.ref C) "__getattr__" = some none
  noN : findIn K (.ref C) "obstruction" = some none
  iC : findIn K (.ref C) "__init__" = some (some (.ref fI))
  tC : typeIn K (.ref fI) = some (.type "function")
  kC : keepIn K (.ref C) = true
  exC : subIn K (.ref C) (.type "BaseException") = some true
  tyC : typeIn K (.ref C) = some (.type "type")
  hdC : hasDictIn K C = true
  fn : ∃ (oc : Value) (od : Option Addr) (doc pm : Value) (an : Option Addr) (cdv ct : Value) (osl : Array (Option Value)) (p1 p2 q1 q2 q3 q4 : Pos),
    K.lookup fI = some ⟨oc, od, .func (fnOf "__init__" "Blocked.__init__" (iA p1 p2) (iB q1 q2 q3 q4) iS .none .none doc pm an cdv ct), osl⟩ ∧ codeIn K cdv "Blocked.__init__" = true
theorem one_size (v : Value) : [v].length ≤ sizeLine := by
  rw [sizeLine_eq]
  exact (by decide : 1 ≤ 16777216)
theorem kept_but {K : Frag} {h h' : Heap} {x : Addr} (X : K.In h) (hx : K.lookup x = none) (k : ∀ b o, b ≠ x → h.get? b = some o → h'.get? b = some o) : K.In h' := fun a o e =>
  k a o (fun z => by rw [z, hx] at e; cases e) (X a o e)
theorem ldC {M : Model} {s : Shared} {name : Str} {scope : Scope} {L a : Addr} {cd : Value} {m : Str → Option Value} {x : Str} {pos : Pos} {v : Value} {Q : Value → Shared → Prop} {A : Around} {E : Value → Shared → Prop} (hn : s.heap.Ns L m) (hv : m x = some v) (h : Q v s)
    (hk : scope.kind = .function := by rfl) (hl : (envOfC name scope L a cd).kindOf x = some .local := by rfl) (hd : (x == ("__debug__" : Str)) = false := by decide) :
    wpAny M A (eval (.Name x pos) (envOfC name scope L a cd)) Q E s := wpAny_Name (wpAny_loadName_local hk hl hn hv h) hd
/-- what __init__ leaves of a fresh exception at x -/
structure InitEnd (h h' : Heap) (x C dx t1 : Addr) (v : Value) : Prop where
  keep : ∀ b o, b ≠ x → h.get? b = some o → h'.get? b = some o
  obj : h'.get? x = some { cls := .ref C, dict := some dx, data := .fields #[.ref t1, .none, .none, .none, .bool false, .none] }
  dbig : h.objs.size ≤ dx
  dne : dx ≠ x
  ns : h'.Ns1 dx (fun y => if y = "obstruction" then some v else none)
/-- a made Low -/
structure OwnMade (h h' : Heap) (e C d : Addr) (v : Value) : Prop where
  keep : ∀ b o, h.get? b = some o → h'.get? b = some o
  new : h.objs.size ≤ e
  obj : ∃ oe vs, h'.get? e = some oe ∧ oe.cls = .ref C ∧ oe.dict = some d ∧ oe.data = .fields vs ∧ vs[1]? = some .none
  dbig : h.objs.size ≤ d
  dne : d ≠ e
  ns : h'.Ns1 d (fun y => if y = "obstruction" then some v else none)
section
variable {prog : Program} {w : World} {A : Around} {E : Value → Shared → Prop} {R : Result → Shared → Prop} {s : Shared} {K : Frag} {mg : Str → Option Value} {C fI : Addr}
theorem ko_init (T : KoTxt K mg C fI) {x t0 : Addr} {v : Value} (X : K.In s.heap) (hlim : s.heap.NoLimit) (hx : s.heap.get? x = some (excO C t0)) (hnx : K.lookup x = none) (hroom : A.depth < recursionLimit)
    (hq : ∀ h' tk dx, InitEnd s.heap h' x C dx t0 v → R (.ok (.ret .none)) { s with heap := h', toks := tk }) :
    codeAny (model prog w) A (.call (.ref fI) ⟨[.ref x, v], []⟩) R s := by
  obtain ⟨oc, od, doc, pm, an, cdv, ct, osl, p1, p2, q1, q2, q3, q4, ho, hcd⟩ := T.fn
  obtain ⟨nm, q, N, bs, bm, sn, sub, ab, col, dd, k0, k1, k2, k3, k5, hC, hbm⟩ := T.cls
  have hcl : clsIn K C = some { name := nm, bases := bs, mro := .ref C :: bm, ns := N, qualname := q, hasDict := true, slotNames := sn, subclasses := sub, abstract := ab, collection := col, hasDel := false } := by unfold clsIn; rw [hC] <;> rfl
  refine Att.call_fn (binds := [("self", .ref x), ("obstruction", v)]) X hlim ho hcd hroom (BindsTo.of_eq (by first | rfl | with_unfolding_all rfl)) (by first | rfl | decide | with_unfolding_all rfl) (fun s₁ IC => ?_) rfl rfl rfl
  obtain ⟨h₁, tk₁, rfl⟩ := IC.toInCall.same
  have k : ∀ b o, s.heap.get? b = some o → h₁.get? b = some o := IC.toInCall.keep
  have hn := IC.toInCall.ns
  have hxL : s.heap.objs.size ≠ x := Nat.ne_of_gt (Heap.lt_size hx)
  have X₁ : K.In h₁ := X.keeps k
  have hx₁ := k _ _ hx
  -- self.by = by
  show wpAny _ _ (execs _ _) _ _ _
  refine wpAny_execs_cons (plainObj_wpAny_Assign_Attribute ?_)
  refine ldC (v := v) hn (by first | rfl | with_unfolding_all rfl | kernel_rfl) (ldC (v := .ref x) hn (by first | rfl | with_unfolding_all rfl | kernel_rfl) ?_)
  refine set_plain X₁ (ox := excO C t0) (od := none) ⟨hx₁, rfl, rfl, trivial⟩ T.sa ?_
  refine exc_osa X₁ hx₁ hcl (show refsVE (.ref C :: bm) = true from hbm) rfl T.noN (fun h₃ tk₃ dx k₃ dn dne hx₃ hn₃ => ?_)
  show wpAny _ _ (execs _ _) _ _ _
  have z : s.heap.objs.size < h₁.objs.size := hn.lt
  exact wpAny_execs_nil (hq h₃ tk₃ dx ⟨fun b o hb e => k₃ b o hb (k b o e), hx₃, Nat.le_of_lt (Nat.lt_of_lt_of_le z dn), dne, hn₃⟩)
theorem ko_made (T : KoTxt K mg C fI) {v : Value} (X : K.In s.heap) (hlim : s.heap.NoLimit) (hroom : A.depth + 1 < recursionLimit)
    (hq : ∀ h' tk e d, OwnMade s.heap h' e C d v → R (.ok (.ret (.ref e))) { s with heap := h', toks := tk }) :
    codeAny (model prog w) A (.call (.ref C) ⟨[v], []⟩) R s := by
  obtain ⟨nm, q, N, bs, bm, sn, sub, ab, col, dd, k0, k1, k2, k3, k5, hC, hbm⟩ := T.cls
  obtain ⟨hp, g, dr, tk, os⟩ := s
  have k : ∀ b o, hp.get? b = some o → ((hp.push (kdv_tup [v])).push (excO C hp.objs.size)).get? b = some o := fun b o e => Heap.get?_push_of_some _ (Heap.get?_push_of_some _ e)
  have hget : ((hp.push (kdv_tup [v])).push (excO C hp.objs.size)).get? (hp.objs.size + 1) = some (excO C hp.objs.size) := by heap_get
  have hnx : K.lookup (hp.objs.size + 1) = none := by
    cases e : K.lookup (hp.objs.size + 1) with
    | none => rfl
    | some o =>
      have z : hp.get? (hp.objs.size + 1) = some o := X _ _ e
      exact absurd (Nat.lt_of_succ_lt (Heap.lt_size z)) (Nat.lt_irrefl _)
  refine call_own F.excBase_ValueError (fun X => refsVE_contains X bm hbm) (X _ _ hC) (looks_findIn X T.iC) (fun self => bind_fn X self T.tC) (one_size v) ?_
  refine ko_init (s := ⟨(hp.push (kdv_tup [v])).push (excO C hp.objs.size), g, dr, tk, os⟩) T (X.keeps k) (hlim.keeps k) hget hnx ?_ fun h' tk' dx ⟨k', hx, dn, dne, hns⟩ => ?_
  · show A.depth + 1 < recursionLimit
    exact hroom
  · have old : ∀ b o, hp.get? b = some o → h'.get? b = some o := fun b o e => k' b o (Nat.ne_of_lt (Nat.lt_succ_of_lt (Heap.lt_size e))) (k b o e)
    have z : hp.objs.size + 1 + 1 ≤ dx := by
      first
        | (simpa only [Heap.size_push] using dn)
        | exact dn
        | (have q := dn; rw [Heap.size_push, Heap.size_push] at q; exact q)
    exact ⟨rfl, hq h' tk' (hp.objs.size + 1) dx ⟨old, Nat.le_succ _, ⟨_, _, hx, rfl, rfl, rfl, rfl⟩, Nat.le_trans (Nat.le_trans (Nat.le_succ _) (Nat.le_succ _)) z, dne, hns⟩⟩
end
end KoX
end PySem
namespace TR
open PySem PySem.Spec PyProof.Rows L2
theorem mkF_Ko {K : PySem.W.Frag} {mg : Str → Option Value} {C fI : Addr} (T : PySem.KoX.KoTxt K mg C fI) : MkF K mg "Blocked" "obstruction" C :=
  ⟨T.gC, T.kC, T.noN, fun prog w A R s v X hl hr h => PySem.KoX.ko_made T X hl hr fun h' tk e d M => h h' tk e d ⟨M.keep, M.new, let ⟨oe, vs, a, b, c, dd, _⟩ := M.obj; ⟨oe, vs, a, b, c, dd⟩, M.dbig, M.dne, M.ns⟩⟩
end TR
namespace PySem
namespace KpX
open PySem.W PySem.Calls PyProof.Rows PySem.HandSPX
/-! ### the text of __init__ -/
def iA (p1 p2 : Pos) : Arguments := { posonlyargs := [], args := [{ arg := "self", annotation := none, pos := p1 }, { arg := "line", annotation := none, pos := p2 }], vararg := none, kwonlyargs := [], kw_defaults := [], kwarg := none, defaults := [] }
def iB (q1 q2 q3 q4 : Pos) : List Stmt := [.Assign [.Attribute (.Name "self" q1) "line" q2] (.Name "line" q3) q4]
def iS : Scope := { kind := .function, names := [(PySem.Str.ofString "self", .local), (PySem.Str.ofString "line", .local)], isGenerator := false, isCoroutine := false, more := [] }
/-- what the written part says of Low, at C, and of its __init__, at fI -/
structure KpTxt (K : Frag) (mg : Str → Option Value) (C fI : Addr) : Prop where
  gC : mg "BadText" = some (.ref C)
  cls : ∃ nm q N bs bm sn sub ab col dd k0 k1 k2 k3 k5, K.lookup C = some (excClassObj nm q C N bs bm true sn sub ab col dd k0 k1 k2 k3 k5 "ValueError.__new__") ∧ refsVE bm = true
  sa : findIn K (.ref C) "__setattr__" = some (some (.builtin "object.__setattr__"))
  ga : findIn K (.ref C) "__getattribute__" = some (some (.builtin "BaseException.__getattribute__"))
  gg : findIn K (.ref C) "__getattr__" = some none
  noN : findIn K (.ref C) "line" = some none
  iC : findIn K (.ref C) "__init__" = some (some (.ref fI))
  tC : typeIn K (.ref fI) = some (.type "function")
  kC : keepIn K (.ref C) = true
  exC : subIn K (.ref C) (.type "BaseException") = some true
  tyC : typeIn K (.ref C) = some (.type "type")
  hdC : hasDictIn K C = true
  fn : ∃ (oc : Value) (od : Option Addr) (doc pm : Value) (an : Option Addr) (cdv ct : Value) (osl : Array (Option Value)) (p1 p2 q1 q2 q3 q4 : Pos),
    K.lookup fI = some ⟨oc, od, .func (fnOf "__init__" "BadText.__init__" (iA p1 p2) (iB q1 q2 q3 q4) iS .none .none doc pm an cdv ct), osl⟩ ∧ codeIn K cdv "BadText.__init__" = true
theorem one_size (v : Value) : [v].length ≤ sizeLine := by
  rw [sizeLine_eq]
  exact (by decide : 1 ≤ 16777216)
theorem kept_but {K : Frag} {h h' : Heap} {x : Addr} (X : K.In h) (hx : K.lookup x = none) (k : ∀ b o, b ≠ x → h.get? b = some o → h'.get? b = some o) : K.In h' := fun a o e =>
  k a o (fun z => by rw [z, hx] at e; cases e) (X a o e)
theorem ldC {M : Model} {s : Shared} {name : Str} {scope : Scope} {L a : Addr} {cd : Value} {m : Str → Option Value} {x : Str} {pos : Pos} {v : Value} {Q : Value → Shared → Prop} {A : Around} {E : Value → Shared → Prop} (hn : s.heap.Ns L m) (hv : m x = some v) (h : Q v s)
    (hk : scope.kind = .function := by rfl) (hl : (envOfC name scope L a cd).kindOf x = some .local := by rfl) (hd : (x == ("__debug__" : Str)) = false := by decide) :
    wpAny M A (eval (.Name x pos) (envOfC name scope L a cd)) Q E s := wpAny_Name (wpAny_loadName_local hk hl hn hv h) hd
/-- what __init__ leaves of a fresh exception at x -/
structure InitEnd (h h' : Heap) (x C dx t1 : Addr) (v : Value) : Prop where
  keep : ∀ b o, b ≠ x → h.get? b = some o → h'.get? b = some o
  obj : h'.get? x = some { cls := .ref C, dict := some dx, data := .fields #[.ref t1, .none, .none, .none, .bool false, .none] }
  dbig : h.objs.size ≤ dx
  dne : dx ≠ x
  ns : h'.Ns1 dx (fun y => if y = "line" then some v else none)
/-- a made Low -/
structure OwnMade (h h' : Heap) (e C d : Addr) (v : Value) : Prop where
  keep : ∀ b o, h.get? b = some o → h'.get? b = some o
  new : h.objs.size ≤ e
  obj : ∃ oe vs, h'.get? e = some oe ∧ oe.cls = .ref C ∧ oe.dict = some d ∧ oe.data = .fields vs ∧ vs[1]? = some .none
  dbig : h.objs.size ≤ d
  dne : d ≠ e
  ns : h'.Ns1 d (fun y => if y = "line" then some v else none)
section
variable {prog : Program} {w : World} {A : Around} {E : Value → Shared → Prop} {R : Result → Shared → Prop} {s : Shared} {K : Frag} {mg : Str → Option Value} {C fI : Addr}
theorem kp_init (T : KpTxt K mg C fI) {x t0 : Addr} {v : Value} (X : K.In s.heap) (hlim : s.heap.NoLimit) (hx : s.heap.get? x = some (excO C t0)) (hnx : K.lookup x = none) (hroom : A.depth < recursionLimit)
    (hq : ∀ h' tk dx, InitEnd s.heap h' x C dx t0 v → R (.ok (.ret .none)) { s with heap := h', toks := tk }) :
    codeAny (model prog w) A (.call (.ref fI) ⟨[.ref x, v], []⟩) R s := by
  obtain ⟨oc, od, doc, pm, an, cdv, ct, osl, p1, p2, q1, q2, q3, q4, ho, hcd⟩ := T.fn
  obtain ⟨nm, q, N, bs, bm, sn, sub, ab, col, dd, k0, k1, k2, k3, k5, hC, hbm⟩ := T.cls
  have hcl : clsIn K C = some { name := nm, bases := bs, mro := .ref C :: bm, ns := N, qualname := q, hasDict := true, slotNames := sn, subclasses := sub, abstract := ab, collection := col, hasDel := false } := by unfold clsIn; rw [hC] <;> rfl
  refine Att.call_fn (binds := [("self", .ref x), ("line", v)]) X hlim ho hcd hroom (BindsTo.of_eq (by first | rfl | with_unfolding_all rfl)) (by first | rfl | decide | with_unfolding_all rfl) (fun s₁ IC => ?_) rfl rfl rfl
  obtain ⟨h₁, tk₁, rfl⟩ := IC.toInCall.same
  have k : ∀ b o, s.heap.get? b = some o → h₁.get? b = some o := IC.toInCall.keep
  have hn := IC.toInCall.ns
  have hxL : s.heap.objs.size ≠ x := Nat.ne_of_gt (Heap.lt_size hx)
  have X₁ : K.In h₁ := X.keeps k
  have hx₁ := k _ _ hx
  -- self.by = by
  show wpAny _ _ (execs _ _) _ _ _
  refine wpAny_execs_cons (plainObj_wpAny_Assign_Attribute ?_)
  refine ldC (v := v) hn (by first | rfl | with_unfolding_all rfl | kernel_rfl) (ldC (v := .ref x) hn (by first | rfl | with_unfolding_all rfl | kernel_rfl) ?_)
  refine set_plain X₁ (ox := excO C t0) (od := none) ⟨hx₁, rfl, rfl, trivial⟩ T.sa ?_
  refine exc_osa X₁ hx₁ hcl (show refsVE (.ref C :: bm) = true from hbm) rfl T.noN (fun h₃ tk₃ dx k₃ dn dne hx₃ hn₃ => ?_)
  show wpAny _ _ (execs _ _) _ _ _
  have z : s.heap.objs.size < h₁.objs.size := hn.lt
  exact wpAny_execs_nil (hq h₃ tk₃ dx ⟨fun b o hb e => k₃ b o hb (k b o e), hx₃, Nat.le_of_lt (Nat.lt_of_lt_of_le z dn), dne, hn₃⟩)
theorem kp_made (T : KpTxt K mg C fI) {v : Value} (X : K.In s.heap) (hlim : s.heap.NoLimit) (hroom : A.depth + 1 < recursionLimit)
    (hq : ∀ h' tk e d, OwnMade s.heap h' e C d v → R (.ok (.ret (.ref e))) { s with heap := h', toks := tk }) :
    codeAny (model prog w) A (.call (.ref C) ⟨[v], []⟩) R s := by
  obtain ⟨nm, q, N, bs, bm, sn, sub, ab, col, dd, k0, k1, k2, k3, k5, hC, hbm⟩ := T.cls
  obtain ⟨hp, g, dr, tk, os⟩ := s
  have k : ∀ b o, hp.get? b = some o → ((hp.push (kdv_tup [v])).push (excO C hp.objs.size)).get? b = some o := fun b o e => Heap.get?_push_of_some _ (Heap.get?_push_of_some _ e)
  have hget : ((hp.push (kdv_tup [v])).push (excO C hp.objs.size)).get? (hp.objs.size + 1) = some (excO C hp.objs.size) := by heap_get
  have hnx : K.lookup (hp.objs.size + 1) = none := by
    cases e : K.lookup (hp.objs.size + 1) with
    | none => rfl
    | some o =>
      have z : hp.get? (hp.objs.size + 1) = some o := X _ _ e
      exact absurd (Nat.lt_of_succ_lt (Heap.lt_size z)) (Nat.lt_irrefl _)
  refine call_own F.excBase_ValueError (fun X => refsVE_contains X bm hbm) (X _ _ hC) (looks_findIn X T.iC) (fun self => bind_fn X self T.tC) (one_size v) ?_
  refine kp_init (s := ⟨(hp.push (kdv_tup [v])).push (excO C hp.objs.size), g, dr, tk, os⟩) T (X.keeps k) (hlim.keeps k) hget hnx ?_ fun h' tk' dx ⟨k', hx, dn, dne, hns⟩ => ?_
  · show A.depth + 1 < recursionLimit
    exact hroom
  · have old : ∀ b o, hp.get? b = some o → h'.get? b = some o := fun b o e => k' b o (Nat.ne_of_lt (Nat.lt_succ_of_lt (Heap.lt_size e))) (k b o e)
    have z : hp.objs.size + 1 + 1 ≤ dx := by
      first
        | (simpa only [Heap.size_push] using dn)
        | exact dn
        | (have q := dn; rw [Heap.size_push, Heap.size_push] at q; exact q)
    exact ⟨rfl, hq h' tk' (hp.objs.size + 1) dx ⟨old, Nat.le_succ _, ⟨_, _, hx, rfl, rfl, rfl, rfl⟩, Nat.le_trans (Nat.le_trans (Nat.le_succ _) (Nat.le_succ _)) z, dne, hns⟩⟩
end
end KpX
end PySem
namespace TR
open PySem PySem.Spec PyProof.Rows L2
theorem mkF_Kp {K : PySem.W.Frag} {mg : Str → Option Value} {C fI : Addr} (T : PySem.KpX.KpTxt K mg C fI) : MkF K mg "BadText" "line" C :=
  ⟨T.gC, T.kC, T.noN, fun prog w A R s v X hl hr h => PySem.KpX.kp_made T X hl hr fun h' tk e d M => h h' tk e d ⟨M.keep, M.new, let ⟨oe, vs, a, b, c, dd, _⟩ := M.obj; ⟨oe, vs, a, b, c, dd⟩, M.dbig, M.dne, M.ns⟩⟩
end TR
namespace TR
open PySem PySem.Spec PyProof.Rows L2
theorem rep_vals {z : V} {u : Value} (r : RelV z u) : ∀ n, Vals (List.replicate n z) (List.replicate n u)
  | 0 => .nil
  | n + 1 => .cons r (rep_vals r n)
section
variable {X : Cx}
/-- xs + ys, lists; the new one is not the modules' table -/
theorem op_catM : OpR X (binaryOp .Add) (fun x y H Q => ∃ a b xs ys, x = .ref a ∧ y = .ref b ∧ H a = some (.lst xs) ∧ H b = some (.lst ys) ∧ xs.length + ys.length ≤ sizeLine ∧ ∀ p H', H p = none → p ≠ sysModules → Same H H' → H' p = some (.lst (xs ++ ys)) → Q (.ref p) H') := by
  intro pins s σ H x y v u Q I rx ry ⟨a, b, xs, ys, ex, ey, ha, hb, hlen, k⟩
  subst ex ey; cases rx; cases ry
  obtain ⟨_, us, m, ru, lu, eu⟩ := I.lstM ha
  obtain ⟨_, ws, m2, rw', lw, ew⟩ := I.lstM hb
  refine PySem.P.add_list eu ew ?_ (by rw [List.size_toArray, List.size_toArray, ← lu, ← lw]; exact hlen)
  rw [show us.toArray ++ ws.toArray = (us ++ ws).toArray by simp]
  exact ⟨.ref _, _, I.lnew (t' := s.toks) (ru.append rw') (by rw [List.length_append]; exact hlen), rfl, k _ _ I.fresh (Nat.ne_of_gt I.big) (same_upd I.fresh) upd_same⟩
/-- [v] * 16 -/
theorem op_rep16 : OpR X (binaryOp .Mult) (fun x y H Q => ∃ a v, x = .ref a ∧ y = .int 16 ∧ H a = some (.lst [v]) ∧ ∀ p H', H p = none → p ≠ sysModules → Same H H' → H' p = some (.lst (List.replicate 16 v)) → Q (.ref p) H') := by
  intro pins s σ H x y v u Q I rx ry ⟨a, z, ex, ey, ha, k⟩
  subst ex ey; cases rx
  obtain ⟨t, rfl⟩ := ry
  obtain ⟨_, us, m, ru, lu, eu⟩ := I.lstM ha
  cases ru with
  | cons r1 r2 =>
    rename_i u1 us'
    cases r2
    have c1 : ¬ (#[u1] : Array Value).size * (16 : Int).toNat > (2 ^ 63 - 1) / 8 := by show ¬ 1 * 16 > (2 ^ 63 - 1) / 8; decide
    have c2 : ¬ (!Builtin.List.listFitsIndex 16) = true := by decide
    have c3 : ¬ Builtin.List.listTooLong ((#[u1] : Array Value).size * (16 : Int).toNat) = true := by
      rw [notLongL (by show 1 * 16 ≤ sizeLine; decide)]; exact Bool.false_ne_true
    refine wpAny_binaryOp_repeat_ref (T := "list") (U := "int") (by decide) ⟨_, eu, rfl⟩ (fun s' => typeIs_int s' 16 t) noFill_list_mul F.fills_int_mul F.slot_int_rmul repeat_list F.slot_int_index.lookup (call_meets F.slot_int_rmul (typeIs_int s 16 t) F.entry_int_rmul (F.args_int_rmul_2 _ _) (int___rmul___int_list 16 t a #[u1] m)
      ⟨eu, rfl, ⟨_, eu, rfl⟩, call_meets F.slot_list_mul ⟨_, eu, rfl⟩ F.entry_list_mul (F.args_list_mul_2 _ _) (AutoListH.list___mul___list_int_3 a #[u1] m 16 t c2 c1 c3) ⟨eu, ?_⟩⟩)
    have rr : Vals (List.replicate 16 z) (List.replicate 16 u1) := rep_vals r1 16
    have ea : List.foldl (fun x1 x2 => x1 ++ x2) #[] (List.replicate (if (#[u1] : Array Value).isEmpty = true then 0 else (16 : Int).toNat) #[u1]) = (List.replicate 16 u1).toArray := by
      rw [if_neg (by simp)]
      have := foldl_rep [u1] 16 []
      rw [List.nil_append] at this
      refine Eq.trans this ?_
      rfl
    rw [ea]
    exact ⟨.ref _, _, I.lnew (t' := s.toks) rr (by rw [List.length_replicate]; decide), rfl, k _ _ I.fresh (Nat.ne_of_gt I.big) (same_upd I.fresh) upd_same⟩
end
/-! ### lists of truth values -/
theorem dpAll_bls {K : PySem.W.Frag} {H : Hp} : ∀ bs : List Bool, DpAll K H (bs.map V.bl) (bs.map PyData.bool)
  | [] => .nil
  | b :: r => .cons (.bl b) (dpAll_bls r)
theorem can_bls : ∀ bs : List Bool, PyData.canLayAll0 (bs.map PyData.bool) = true
  | [] => rfl
  | b :: r => by
    show (true && PyData.canLayAll0 (r.map PyData.bool)) = true
    rw [can_bls r]; rfl
theorem dep_bls : ∀ bs : List Bool, PyData.depthAll (bs.map PyData.bool) = 0
  | [] => rfl
  | b :: r => by
    show max 0 (PyData.depthAll (r.map PyData.bool)) = 0
    rw [dep_bls r]; rfl
theorem shaped_bls (bs : List Bool) : SeqAt.shaped (.list (bs.map PyData.bool)) = true := by
  show (PyData.canLayAll0 (bs.map PyData.bool) && decide (PyData.depthAll (bs.map PyData.bool) + 1 ≤ 64)) = true
  rw [can_bls, dep_bls]; rfl
theorem eqv_bls : ∀ bs : List Bool, PyData.eqvAll (bs.map PyData.bool) (bs.map PyData.bool) = true
  | [] => rfl
  | b :: r => by
    show ((b == b) && PyData.eqvAll (r.map PyData.bool) (r.map PyData.bool)) = true
    rw [eqv_bls r]; simp
/-! ### sixteen values shown -/
theorem shown16 {d : PyData} (h : Wf 2 2 d) : (PyData.list (List.replicate 16 d)).showable = true ∧ (PyData.list (List.replicate 16 d)).depth ≤ 50 ∧ (PyData.list (List.replicate 16 d)).shown.length ≤ sizeLine := by
  obtain ⟨q1, q2, q3⟩ := h.shown (by decide)
  have m : ∀ e ∈ List.replicate 16 d, e = d := fun e he => List.eq_of_mem_replicate he
  refine ⟨showAll _ fun e he => by rw [m e he]; exact q2, ?_, ?_⟩
  · show PyData.depthAll (List.replicate 16 d) + 1 ≤ 50
    have := depAll (D := 2) (List.replicate 16 d) fun e he => by rw [m e he]; exact q3
    omega
  · show (listText (PyData.shownAll (List.replicate 16 d))).length ≤ sizeLine
    have l1 := list_le (PyData.shownAll (List.replicate 16 d))
    have l2 := piled_le (B := bnd 2) (PyData.shownAll (List.replicate 16 d)) fun t ht => by
      obtain ⟨x, hx, rfl⟩ := shownAll_mem _ t ht
      rw [m x hx]; exact q1
    rw [shownAll_len, List.length_replicate] at l2
    exact Nat.le_trans (Nat.le_trans l1 (Nat.add_le_add_left l2 2)) (by decide +kernel)
theorem RpAll.rep {H : Hp} {ban : List Addr} {d : PyData} {v : V} (h : Rp H ban d v) : ∀ n, RpAll H ban (List.replicate n d) (List.replicate n v)
  | 0 => rfl
  | n + 1 => ⟨v, _, rfl, h, RpAll.rep h n⟩
/-! ### lists of exceptions -/
def Exs (H : Hp) (cs : Nat → Addr) : Nat → List V → Prop
  | _, [] => True
  | k, v :: r => (∃ e d, v = .ref e ∧ H e = some (ExF (cs k) d e) ∧ XdAt H d) ∧ Exs H cs (k + 1) r
theorem Exs.same {H H' : Hp} {cs : Nat → Addr} (s : Same H H') : ∀ {k : Nat} {vs : List V}, Exs H cs k vs → Exs H' cs k vs
  | _, [], _ => trivial
  | _, _ :: _, ⟨⟨e, d, ev, h1, h2⟩, h⟩ => ⟨⟨e, d, ev, s _ _ h1, h2.same s⟩, Exs.same s h⟩
theorem Exs.app {H : Hp} {cs : Nat → Addr} : ∀ {k : Nat} {vs ws : List V}, Exs H cs k vs → Exs H cs (k + vs.length) ws → Exs H cs k (vs ++ ws)
  | _, [], _, _, h => h
  | k, v :: r, ws, ⟨h1, h⟩, g => ⟨h1, Exs.app h (by rw [List.length_cons] at g; rw [show k + 1 + r.length = k + (r.length + 1) by omega]; exact g)⟩
theorem Exs.get {H : Hp} {cs : Nat → Addr} : ∀ {k : Nat} {vs : List V}, Exs H cs k vs → ∀ {i : Nat} {v : V}, vs[i]? = some v → ∃ e d, v = .ref e ∧ H e = some (ExF (cs (k + i)) d e) ∧ XdAt H d
  | _, [], _, i, v, g => by simp at g
  | k, u :: r, ⟨h1, h⟩, i, v, g => by
    cases i with
    | zero =>
      cases (Option.some.inj g)
      exact h1
    | succ i =>
      obtain ⟨e, d, a, b, c⟩ := Exs.get h (i := i) g
      exact ⟨e, d, a, by rw [show k + (i + 1) = k + 1 + i by omega]; exact b, c⟩
end TR
namespace TR
open PySem PySem.Spec PyProof.Rows L2
def topS (i : Nat) : Stmt := PySem.Challenge.pw_tasterow_k01_limits_and_exceptions.main.body.getD i (.Pass ⟨0, 0, 0, 0⟩)
abbrev sDeck : Stmt := topS 34
abbrev sNext : Stmt := topS 35
abbrev sOne : Stmt := topS 36
abbrev sOdd : Stmt := topS 37
abbrev sFlags : Stmt := topS 38
abbrev sWith : Stmt := topS 39
abbrev sFields : Stmt := topS 40
abbrev sLaw : Stmt := topS 41
end TR
namespace TR
open PySem PySem.Spec PyProof.Rows L2
theorem scDeck : FnScope ["_law_script", "_law_cells", "_law_cell"] ["_law_script"] (defScope sDeck) := ⟨rfl, rfl, rfl, by decide +kernel, rfl, by decide +kernel, by decide +kernel⟩
section
variable {P : Program} {w : World} {K : PySem.W.Frag} {mg : Str → Option Value} {base : Heap}
def spDeck (K : PySem.W.Frag) : Sp := fun vs H Q _ => ∃ (a : Addr) (ns : List Int), vs = [.ref a] ∧ SqL K H a (ns.map V.int) ∧ ns.length ≤ 63 ∧
  ∀ H' d p q, Same H H' → Deck H' d p q 0 → Q (.ref d) H'
theorem ok_deck {f : Addr} {fd : FuncData} {k : Nat} (F : Fun K "_law_deck" "_law_deck" sDeck f fd) (mabs : mg "abs" = none) (mlen : mg "len" = none) : FnOk P w K mg base CX0 (k + 1) f fd ["_law_script"] (spDeck K) := by
  refine F.ok scDeck (fun vs H Q E h => ?_) (fun cdv A outer s H vs Q E hr h => ?_)
  · obtain ⟨a, ns, rfl, _⟩ := h
    rfl
  · obtain ⟨a, ns, rfl, hS, hlen, q⟩ := h
    refine ⟨_, pss_cons (ps_setLc (i := 1) (own := [("_law_cell", 2)]) (g := gName 2) (tt := tYes) (by rfl) scDeck.nd rfl rfl (sw_true rfl rfl rfl (by decide +kernel)) (pi_list (pv 0))
        (blkOk_by (own := [("_law_cell", 2)]) (N := ["_law_script", "_law_cells", "_law_cell"]) (sc := defScope sDeck) (by decide +kernel)) (fun _ _ _ _ _ => pg_name (i := 2) scDeck.nd rfl (Or.inl rfl)) (fun _ _ _ _ _ => pts_nil)
        (fun _ _ _ _ _ => pe_callB call_abs (by rfl) mabs (by decide +kernel) (pa_cons (pv 2) pa_nil)))
      (pss_one (ps_ret (pe_lst (pa_cons
        (pe_lc (own := [("_law_cell", 2)]) (g := gName 2) (by rfl) scDeck.nd (pi_list (pv 1))
          (blkOk_by (own := [("_law_cell", 2)]) (N := ["_law_script", "_law_cells", "_law_cell"]) (sc := defScope sDeck) (by decide +kernel)) (fun _ _ _ _ _ => pg_name (i := 2) scDeck.nd rfl (Or.inl rfl))
          (fun _ _ _ _ _ => pts_one (pt_cmpR op_ge (pv 2) (pe_op op_pow pe_int pe_int) (nomark _)))
          (fun _ _ _ _ _ => pv 2))
        (pa_cons (pe_op op_cat (pv 1) (pe_lst (pa_cons (pe_op op_add (pe_callB call_len_seq (by rfl) mlen PySem.boot_len (pa_cons (pv 1) pa_nil)) pe_int) pa_nil)))
        (pa_cons pe_int pa_nil)))))), ?_⟩
    refine ⟨.ref a, rfl, a, rfl, ⟨_, hS⟩, fun D hD => lc_list (K := K) (a := a) (xs := ns.map V.int) (fun i H1 => Same H H1 ∧ ∃ zs : List Int, zs.length ≤ i ∧ H1 D = some (.lst (zs.map V.int))) ⟨same_upd hD, [], Nat.zero_le _, upd_same⟩ (fun i H1 _ h => h.1.seq hS) (fun i x H1 hx h => ?_) (fun H1 h => ?_)⟩
    · obtain ⟨sm, zs, hz, hd⟩ := h
      obtain ⟨z, hz1, rfl⟩ : ∃ z, ns[i]? = some z ∧ x = .int z := by
        rw [List.getElem?_map] at hx
        cases e : ns[i]? with
        | none => rw [e] at hx; cases hx
        | some z => rw [e] at hx; exact ⟨z, rfl, (Option.some.inj hx).symm⟩
      have hi : i < ns.length := (List.getElem?_eq_some_iff.mp hz1).1
      refine ⟨rfl, .int z, rfl, z, rfl, _, hd, ?_, same_upd2 sm hD, zs ++ [if z < 0 then -z else z], ?_, ?_⟩
      · rw [List.length_map]
        exact small1000 (by omega)
      · rw [List.length_append]
        show zs.length + 1 ≤ i + 1
        omega
      · rw [upd_same, List.map_append]
        rfl
    · obtain ⟨sm, zs, hz, hd⟩ := h
      rw [List.length_map] at hz
      refine ⟨.ref D, rfl, D, rfl, ⟨_, sqL hd⟩, fun p hp => lc_list (K := K) (a := D) (xs := zs.map V.int) (fun i H2 => Same H1 H2 ∧ ∃ ys : List Int, ys.length ≤ i ∧ H2 p = some (.lst (ys.map V.int))) ⟨same_upd hp, [], Nat.zero_le _, upd_same⟩ (fun i H2 _ h => h.1.seq (sqL hd)) (fun i x H2 hx h => ?_) (fun H2 h => ?_)⟩
      · obtain ⟨sm2, ys, hy, hd2⟩ := h
        obtain ⟨z, hz1, rfl⟩ : ∃ z, zs[i]? = some z ∧ x = .int z := by
          rw [List.getElem?_map] at hx
          cases e : zs[i]? with
          | none => rw [e] at hx; cases hx
          | some z => rw [e] at hx; exact ⟨z, rfl, (Option.some.inj hx).symm⟩
        have hi : i < zs.length := (List.getElem?_eq_some_iff.mp hz1).1
        refine ⟨rfl, .int z, rfl, 10, 18, rfl, rfl, ⟨by decide, by decide, by decide⟩, _, _, rfl, rfl, _, rfl, ite2 (fun _ => ?_) (fun _ => ?_)⟩
        · refine ⟨.int z, rfl, _, hd2, ?_, same_upd2 sm2 hp, ys ++ [z], ?_, ?_⟩
          · rw [List.length_map]
            exact small1000 (by omega)
          · rw [List.length_append]
            show ys.length + 1 ≤ i + 1
            omega
          · rw [upd_same, List.map_append]
            rfl
        · exact ⟨sm2, ys, by omega, hd2⟩
      · obtain ⟨sm2, ys, hy, hd2⟩ := h
        have hD2 : H2 D = some (.lst (zs.map V.int)) := sm2 _ _ hd
        rw [List.length_map] at hy
        refine ⟨.ref D, rfl, .ref D, rfl, D, _, rfl, .inl (sqL hD2), _, _, rfl, rfl, by show 1 ≤ sizeLine; decide, fun t ht => ?_⟩
        have nDt : D ≠ t := ne_of_none hD2 ht
        refine ⟨D, t, _, _, rfl, rfl, (by rw [upd_ne nDt]; exact hD2), upd_same, ?_, fun q' hq' => ?_⟩
        · rw [List.length_map]
          show zs.length + 1 ≤ sizeLine
          exact Nat.le_of_lt (small1000 (by omega))
        · have e : zs.map V.int ++ [V.int (((zs.map V.int).length : Int) + 5)] = (zs ++ [((zs.map V.int).length : Int) + 5]).map V.int := by
            rw [List.map_append]
            rfl
          refine ⟨by show 3 ≤ sizeLine; decide, fun d hd' => q _ d p q' ?_ ⟨ys.length, ⟨⟨ys, zs ++ [((zs.map V.int).length : Int) + 5], 0, upd_same, ?_, ?_, Int.le_refl _, Int.le_refl _, by simp, rfl⟩, ?_, ?_, ?_⟩⟩⟩
          · exact (sm.trans sm2).trans ((same_upd ht).trans ((same_upd hq').trans (same_upd hd')))
          · exact ((same_upd ht).trans ((same_upd hq').trans (same_upd hd'))) _ _ hd2
          · rw [← e]
            exact (same_upd hd') _ _ upd_same
          · exact (ne_of_none (((same_upd ht).trans (same_upd hq')) _ _ hd2) hd').symm
          · exact (ne_of_none (upd_same (H := upd H2 t _)) hd').symm
          · exact ne_of_none ((same_upd ht) _ _ hd2) hq'
end
end TR
namespace TR
open PySem PySem.Spec PyProof.Rows L2
theorem scNext : FnScope ["_law_deck_here", "_law_many", "_law_rest", "_law_cell", "_law_mixed"] ["_law_deck_here", "_law_many"] (defScope sNext) := ⟨rfl, rfl, rfl, by decide +kernel, rfl, by decide +kernel, by decide +kernel⟩
theorem ixN_zero {n : Nat} (h : 0 < n) : ixN n 0 = some 0 := by
  unfold ixN
  rw [if_pos (Int.le_refl _), if_pos (by omega)]
  rfl
section
variable {P : Program} {w : World} {K : PySem.W.Frag} {mg : Str → Option Value} {base : Heap}
def spNext : Sp := fun vs H Q _ => ∃ (d p q : Addr) (n : Nat) (m : Int), vs = [.ref d, .int m] ∧ Deck H d p q n ∧ n ≤ 1000000 ∧ 0 < m ∧ m < 1000000 ∧
  ∀ H' r, 0 ≤ r → r < m → Deck H' d p q (n + 1) → Keep d p H H' → Q (.int r) H'
theorem ok_next {f : Addr} {fd : FuncData} {k : Nat} (F : Fun K "_law_next" "_law_next" sNext f fd) (mlen : mg "len" = none) : FnOk P w K mg base CX0 (k + 1) f fd ["_law_deck_here", "_law_many"] spNext := by
  refine F.ok scNext (fun vs H Q E h => ?_) (fun cdv A outer s H vs Q E hr h => ?_)
  · obtain ⟨d, p, q, n, m, rfl, _⟩ := h
    rfl
  · obtain ⟨d, p, q, n, m, rfl, ⟨l0, D0⟩, hn, hm0, hm1, qq⟩ := h
    refine ⟨_, pss_cons (ps_while PassesOwn.never (pt_cmpR (op_neD hr.units) (pe_ix ix_list (pv 0) pe_int (fun _ _ => rfl)) (pe_lst pa_nil) (nomark _))
        (pss_cons (ps_set (i := 2) scNext.nd rfl (.inl rfl) (pe_ix ix_list (pe_ix ix_list (pv 0) pe_int (fun _ _ => rfl)) pe_int (fun _ _ => rfl)))
        (pss_cons (ps_if (pt_cmpR op_gt (pv 2) pe_int (nomark _))
          (pss_cons (ps_asg (pe_op op_fdiv (pv 2) (pv 1)) (pg_sub (pe_ix ix_list (pv 0) pe_int (fun _ _ => rfl)) pe_int set_list))
          (pss_one (ps_ret (pe_op op_mod (pv 2) (pv 1))))) pss_nil)
        (pss_one (ps_expr (pe_bm PySem.F.plainAttrs_list PySem.F.slot_list_pop PySem.F.type_list_pop mt_popAt (pe_ix ix_list (pv 0) pe_int (fun _ _ => rfl)) (pa_cons pe_int pa_nil)))))))
      (pss_cons (ps_asg (pe_op op_add (pe_ix ix_list (pv 0) pe_int (fun _ _ => rfl)) pe_int) (pg_sub (pv 0) pe_int set_list))
      (pss_cons (ps_set (i := 3) scNext.nd rfl (.inl rfl) (pe_op op_mod (pe_ix ix_list (pe_ix ix_list (pv 0) pe_int (fun _ _ => rfl)) (pe_op op_mod (pe_ix ix_list (pv 0) pe_int (fun _ _ => rfl)) (pe_callB call_len_seq (by rfl) mlen PySem.boot_len (pa_cons (pe_ix ix_list (pv 0) pe_int (fun _ _ => rfl)) pa_nil))) (fun _ _ => rfl)) pe_int))
      (pss_cons (ps_set (i := 4) scNext.nd rfl (.inl rfl) (pe_op op_add (pe_op op_add (pe_op op_mul (pv 3) (pe_op op_add pe_int (pe_op op_mul pe_int (pe_ix ix_list (pv 0) pe_int (fun _ _ => rfl))))) (pe_op op_mul (pe_op op_mul pe_int (pe_ix ix_list (pv 0) pe_int (fun _ _ => rfl))) (pe_ix ix_list (pv 0) pe_int (fun _ _ => rfl)))) pe_int))
      (pss_cons (ps_set (i := 4) scNext.nd rfl (.inl rfl) (pe_op op_mod (pv 4) pe_int))
      (pss_one (ps_ret (pe_op op_mod (pe_op op_fdiv (pe_op op_mod (pe_op op_mul (pv 4) (pv 4)) pe_int) pe_int) (pv 1)))))))), ?_⟩
    refine ⟨fun l σ H1 => ∃ y2, σ = [some (.ref d), some (.int m), y2, none, none] ∧ DeckL H1 d p q n l ∧ Keep d p H H1, ⟨l0, none, rfl, D0, Keep.refl _ _ _⟩, fun l σ H1 hW => ?_⟩
    obtain ⟨y2, rfl, ⟨⟨xs, cs, c, h1, h2, h3, h4, h5, h6, h7⟩, ndp, ndq, npq⟩, kp⟩ := hW
    refine ⟨.ref d, rfl, d, _, 0, .ref p, rfl, rfl, sqL h1, rfl, Nat.zero_le _, fun e he => ?_⟩
    have hp1 : upd H1 e (.lst []) p = some (.lst (xs.map V.int)) := by
      rw [upd_ne (ne_of_none h2 he)]
      exact h2
    have hd1 : upd H1 e (.lst []) d = some (.lst [.ref p, .ref q, .int c]) := by
      rw [upd_ne (ne_of_none h1 he)]
      exact h1
    have hq1 : upd H1 e (.lst []) q = some (.lst (cs.map V.int)) := by
      rw [upd_ne (ne_of_none h3 he)]
      exact h3
    have kp1 : Keep d p H (upd H1 e (.lst [])) := kp.trans (Same.keep (same_upd he))
    refine ⟨_, _, .lst (sqL hp1) (dpAll_ints xs), .lst (sqL upd_same) .nil, shaped_ints xs, rfl, _, rfl, ?_⟩
    rw [eqv_nil]
    cases xs with
    | cons x r =>
      refine iteT ?_
      refine ⟨fun σ H2 => ∃ y2, σ = [some (.ref d), some (.int m), y2, none, none] ∧ DeckL H2 d p q n r.length ∧ Keep d p H H2, fun σ' H' hN => ⟨r.length, by rw [← h7]; exact Nat.lt_succ_self _, hN⟩, ?_⟩
      refine ⟨.ref d, rfl, d, _, 0, .ref p, rfl, rfl, sqL hd1, rfl, p, _, 0, .int x, rfl, rfl, sqL hp1, atI_nat (j := 0) rfl, ?_⟩
      refine ⟨.int x, rfl, x, 0, rfl, rfl, _, rfl, ite2 (fun hx => ?_) (fun hx => ?_)⟩
      · refine ⟨.int x, rfl, .int m, rfl, x, m, rfl, rfl, ⟨hm0, by show m < 1073741824; omega⟩, .ref d, rfl, d, _, 0, .ref p, rfl, rfl, sqL hd1, rfl, p, _, 0, 0, rfl, rfl, hp1, ixN_zero (by simp), ?_⟩
        refine ⟨.int x, rfl, .int m, rfl, x, m, rfl, rfl, hm0, qq _ _ (Int.emod_nonneg _ (by omega)) (Int.emod_lt_of_pos _ hm0) ?_ (keep_upd kp1 (.inr rfl))⟩
        refine ⟨r.length + 1, ⟨⟨(x / m) :: r, cs, c, ?_, upd_same, ?_, h4, by omega, h6, rfl⟩, ndp, ndq, npq⟩⟩
        · rw [upd_ne ndp]
          exact hd1
        · rw [upd_ne npq.symm]
          exact hq1
      · refine ⟨.ref d, rfl, d, _, 0, .ref p, rfl, rfl, sqL hd1, rfl, .inl ⟨rfl, _, sqL hp1⟩, p, _, 0, 0, .int x, rfl, rfl, hp1, by decide, by decide, ?_, rfl, ?_⟩
        · show seqIndex? 0 ((V.int x :: r.map V.int).length) = some 0
          unfold seqIndex?
          simp
        · refine ⟨some (.int x), rfl, ⟨⟨r, cs, c, ?_, upd_same, ?_, h4, h5, h6, rfl⟩, ndp, ndq, npq⟩, keep_upd kp1 (.inr rfl)⟩
          · rw [upd_ne ndp]
            exact hd1
          · rw [upd_ne npq.symm]
            exact hq1
    | nil =>
      refine iteF ?_
      refine ⟨.ref d, rfl, d, _, 2, .int c, rfl, rfl, sqL hd1, rfl, c, 1, rfl, rfl, .ref d, rfl, d, _, 2, 2, rfl, rfl, hd1, rfl, ?_⟩
      have kp2 : Keep d p H (upd (upd H1 e (.lst [])) d (.lst [.ref p, .ref q, .int (c + 1)])) := keep_upd kp1 (.inl rfl)
      have hq2 : upd (upd H1 e (.lst [])) d (.lst [.ref p, .ref q, .int (c + 1)]) q = some (.lst (cs.map V.int)) := by
        rw [upd_ne ndq.symm]
        exact hq1
      have hp2 : upd (upd H1 e (.lst [])) d (.lst [.ref p, .ref q, .int (c + 1)]) p = some (.lst (([] : List Int).map V.int)) := by
        rw [upd_ne ndp.symm]
        exact hp1
      have hd2 : upd (upd H1 e (.lst [])) d (.lst [.ref p, .ref q, .int (c + 1)]) d = some (.lst [.ref p, .ref q, .int (c + 1)]) := upd_same
      have hcl : 0 < (cs.map V.int).length := by
        rw [List.length_map]
        exact List.length_pos_iff.mpr h6
      have hcl' : (0 : Int) < ((cs.map V.int).length : Int) := by omega
      have b0 : 0 ≤ (c + 1) % ((cs.map V.int).length : Int) := Int.emod_nonneg _ (by omega)
      have b1 : (c + 1) % ((cs.map V.int).length : Int) < ((cs.map V.int).length : Int) := Int.emod_lt_of_pos _ hcl'
      obtain ⟨j, hj⟩ := Int.eq_ofNat_of_zero_le b0
      have hjl : j < cs.length := by
        rw [List.length_map] at b1 hj
        omega
      have ga : (cs.map V.int)[j]? = some (.int cs[j]) := by
        rw [List.getElem?_map, List.getElem?_eq_getElem hjl]
        rfl
      have gb : atI (cs.map V.int) ((c + 1) % ((cs.map V.int).length : Int)) = some (.int cs[j]) := by
        rw [hj]
        exact atI_nat ga
      refine ⟨.ref d, rfl, d, _, 1, .ref q, rfl, rfl, sqL hd2, rfl, .ref d, rfl, d, _, 2, .int (c + 1), rfl, rfl, sqL hd2, rfl, .ref d, rfl, d, _, 1, .ref q, rfl, rfl, sqL hd2, rfl, q, _, rfl, .inl (sqL hq2), _, _, rfl, rfl, hcl', q, _, _, _, rfl, rfl, sqL hq2, gb, _, _, rfl, rfl, by show (0 : Int) < 2147483647; decide, ?_⟩
      have e1 : (0 : Int) ≤ cs[j] % 2147483647 := Int.emod_nonneg _ (by decide)
      have e2 : cs[j] % 2147483647 < 2147483647 := Int.emod_lt_of_pos _ (by decide)
      refine ⟨.int (cs[j] % 2147483647), rfl, .ref d, rfl, d, _, 2, .int (c + 1), rfl, rfl, sqL hd2, rfl, 48271, _, rfl, rfl, .inl ⟨by decide, by decide⟩, _, _, rfl, rfl, cs[j] % 2147483647, _, rfl, rfl, .inl ⟨by show -(2 : Int) ^ 64 < cs[j] % 2147483647; omega, by show cs[j] % 2147483647 < (2 : Int) ^ 64; omega⟩,
        .ref d, rfl, d, _, 2, .int (c + 1), rfl, rfl, sqL hd2, rfl, 30011, _, rfl, rfl, .inl ⟨by decide, by decide⟩, .ref d, rfl, d, _, 2, .int (c + 1), rfl, rfl, sqL hd2, rfl, _, _, rfl, rfl, .inr ⟨by show -(2 : Int) ^ 64 < c + 1; omega, by show c + 1 < (2 : Int) ^ 64; omega⟩, _, _, rfl, rfl, _, _, rfl, rfl, ?_⟩
      refine ⟨_, rfl, _, _, rfl, rfl, by show (0 : Int) < 2147483629; decide, ?_⟩
      have e3 : (0 : Int) ≤ (cs[j] % 2147483647 * (69621 + 48271 * (c + 1)) + 30011 * (c + 1) * (c + 1) + 47) % 2147483629 := Int.emod_nonneg _ (by decide)
      have e4 : (cs[j] % 2147483647 * (69621 + 48271 * (c + 1)) + 30011 * (c + 1) * (c + 1) + 47) % 2147483629 < 2147483629 := Int.emod_lt_of_pos _ (by decide)
      refine ⟨.int ((cs[j] % 2147483647 * (69621 + 48271 * (c + 1)) + 30011 * (c + 1) * (c + 1) + 47) % 2147483629), rfl, .int ((cs[j] % 2147483647 * (69621 + 48271 * (c + 1)) + 30011 * (c + 1) * (c + 1) + 47) % 2147483629), rfl, _, _, rfl, rfl, .inl ⟨by show -(2 : Int) ^ 64 < (cs[j] % 2147483647 * (69621 + 48271 * (c + 1)) + 30011 * (c + 1) * (c + 1) + 47) % 2147483629; omega, by show (cs[j] % 2147483647 * (69621 + 48271 * (c + 1)) + 30011 * (c + 1) * (c + 1) + 47) % 2147483629 < (2 : Int) ^ 64; omega⟩, _, _, rfl, rfl, by show (0 : Int) < 2147483587; decide, _, _, rfl, rfl, ⟨by decide, by decide⟩, .int m, rfl, _, m, rfl, rfl, hm0, ?_⟩
      exact qq _ _ (Int.emod_nonneg _ (by omega)) (Int.emod_lt_of_pos _ hm0) ⟨0, ⟨[], cs, c + 1, hd2, hp2, hq2, by omega, by omega, h6, rfl⟩, ndp, ndq, npq⟩ kp2
end
end TR
namespace TR
open PySem PySem.Spec PyProof.Rows L2
/-! ### rankings in the heap -/
def Tp (H : Hp) (a : Addr) (ns : List Int) : Prop := ∃ o : Obj, o.dict = none ∧ H a = some (.frz o (.tup (ns.map V.int)))
theorem Tp.sq {K : PySem.W.Frag} {H : Hp} {a : Addr} {ns : List Int} (t : Tp H a ns) : SqT K H a (ns.map V.int) := by
  obtain ⟨o, _, h⟩ := t
  exact .inl (.inr ⟨o, h⟩)
theorem Tp.same {H H' : Hp} {a : Addr} {ns : List Int} (t : Tp H a ns) (s : Same H H') : Tp H' a ns := by
  obtain ⟨o, d, h⟩ := t
  exact ⟨o, d, s _ _ h⟩
theorem Tp.keep {H H' : Hp} {a d p q : Addr} {n : Nat} {ns : List Int} (t : Tp H a ns) (D : Deck H d p q n) (s : Keep d p H H') : Tp H' a ns := by
  obtain ⟨o, hd, h⟩ := t
  obtain ⟨x, y, c, e1⟩ := D.hd
  obtain ⟨xs, e2⟩ := D.hp
  exact ⟨o, hd, s _ _ h (ne_of h e1 (by intro z; cases z)) (ne_of h e2 (by intro z; cases z))⟩
theorem Tp.new {H : Hp} {a : Addr} {ns : List Int} {o : Obj} (h : o.dict = none) : Tp (upd H a (.frz o (.tup (ns.map V.int)))) a ns := ⟨o, h, upd_same⟩
/-! ### lists of pairs -/
inductive Prs (H : Hp) : List V → List (Int × Int) → Prop
  | nil : Prs H [] []
  | cons {q : Addr} {a b : Int} {vs : List V} {ps : List (Int × Int)} : H q = some (.tup [.int a, .int b]) → Prs H vs ps → Prs H (.ref q :: vs) ((a, b) :: ps)
theorem Prs.same {H H' : Hp} {vs : List V} {ps : List (Int × Int)} (h : Prs H vs ps) (s : Same H H') : Prs H' vs ps := by
  induction h with
  | nil => exact .nil
  | cons e _ ih => exact .cons (s _ _ e) ih
theorem Prs.upd_lst {H : Hp} {vs : List V} {ps : List (Int × Int)} {D : Addr} {xs ys : List V} (h : Prs H vs ps) (e : H D = some (.lst xs)) : Prs (upd H D (.lst ys)) vs ps := by
  induction h with
  | nil => exact .nil
  | cons e2 _ ih => exact .cons (by rw [upd_ne (ne_of e2 e (by intro z; cases z))]; exact e2) ih
theorem Prs.append {H : Hp} {vs ws : List V} {ps qs : List (Int × Int)} (h : Prs H vs ps) (g : Prs H ws qs) : Prs H (vs ++ ws) (ps ++ qs) := by
  induction h with
  | nil => exact g
  | cons e _ ih => exact .cons e ih
theorem Prs.len {H : Hp} {vs : List V} {ps : List (Int × Int)} (h : Prs H vs ps) : vs.length = ps.length := by
  induction h with
  | nil => rfl
  | cons _ _ ih => rw [List.length_cons, List.length_cons, ih]
theorem Prs.get {H : Hp} {vs : List V} {ps : List (Int × Int)} (h : Prs H vs ps) : ∀ {i : Nat} {x : V}, vs[i]? = some x → ∃ q a b, x = .ref q ∧ ps[i]? = some (a, b) ∧ H q = some (.tup [.int a, .int b]) := by
  induction h with
  | nil => intro i x e; simp at e
  | cons e _ ih =>
    intro i x g
    cases i with
    | zero => exact ⟨_, _, _, (Option.some.inj g).symm, rfl, e⟩
    | succ i => exact ih g
def pd (p : Int × Int) : PyData := .tuple [.int p.1, .int p.2]
theorem Prs.dp {K : PySem.W.Frag} {H : Hp} {vs : List V} {ps : List (Int × Int)} (h : Prs H vs ps) : DpAll K H vs (ps.map pd) := by
  induction h with
  | nil => exact .nil
  | cons e _ ih => exact .cons (.tup (sqT e) (.cons (.int _) (.cons (.int _) .nil))) ih
/-- a walk over a range inside a comprehension, by a word over heaps -/
theorem walk_in {n : Nat} {lo : Int} {H4 : Hp} {Nx : Hp → Prop} {B : V → Hp → (Hp → Prop) → Prop} (Pv : Nat → Hp → Prop) (h0 : Pv 0 H4) (hs : ∀ j H, j < n → Pv j H → B (.int (lo + (j : Int))) H (Pv (j + 1))) (hd : ∀ H, Pv n H → Nx H) :
    ∃ W : Nat → Nat → Hp → Prop, (∃ m, W 0 m H4) ∧ ∀ j k H, W j k H → ((Itr lo n).stop j H ∧ Nx H) ∨ ((Itr lo n).go j H ∧ ∃ N : Hp → Prop, (∀ H', N H' → ∃ k', k' < k ∧ W (j + 1) k' H') ∧ ∀ x H', (Itr lo n).yld j H x H' → B x H' N) := by
  refine ⟨fun j k H => k = n - j ∧ j ≤ n ∧ Pv j H, ⟨n, by simp, Nat.zero_le _, h0⟩, ?_⟩
  rintro j k H ⟨rfl, hj, p⟩
  by_cases hlt : j < n
  · refine .inr ⟨hlt, Pv (j + 1), fun H' p' => ⟨n - (j + 1), by omega, rfl, hlt, p'⟩, fun x H' y => ?_⟩
    obtain ⟨e, e2⟩ := y
    subst e e2
    exact hs j _ hlt p
  · have e : j = n := by omega
    subst e
    exact .inl ⟨Nat.le_refl _, hd H p⟩
end TR
namespace TR
open PySem PySem.Spec PyProof.Rows L2
section
variable {P : Program} {w : World} {K : PySem.W.Frag} {mg : Str → Option Value} {base : Heap}
/-- a def's promise where no repr is under way -/
def RunG (P : Program) (w : World) (K : PySem.W.Frag) (mg : Str → Option Value) (base : Heap) (k : Nat) (f : Addr) (fd : FuncData) (ps : List Str) (sp : Sp) : Prop :=
  ∀ (A : Around) (outer : List Env) (s : Shared) (H : Hp) (args : Args) (us : List Value) (vs : List V) (Q : VK) (E : XK), A.guards = some [] → Room k A → Env0 P w K mg base A outer s H → BindsTo s fd args (ps.zip us) → Vals vs us → sp vs H Q E → codeAny (model P w) A (.call (.ref f) args) (CR CX0 outer P w H s Q E) s
theorem okG {x qual : Str} {st : Stmt} {f : Addr} {fd : FuncData} {N ps : List Str} {k : Nat} {sp : Sp} (F : Fun K x qual st f fd) (S : FnScope N ps (defScope st)) (len : ∀ vs H Q E, sp vs H Q E → vs.length = ps.length)
    (hbody : ∀ (cdv : Value) (A : Around) (outer : List Env) (s : Shared) (H : Hp) (vs : List V) (Q : VK) (E : XK), A.guards = some [] → Room k (A.deeper (envOfC qual (defScope st) s.heap.objs.size f cdv)) → sp vs H Q E →
      ∃ t, PSs (cxOf CX0 P w K mg base N qual (defScope st) f cdv A outer s H E).nox (defBody st) t ∧ t { nx := fun _ H' => Q .non H', rt := Q } (start N vs) H) : RunG P w K mg base (k + 1) f fd ps sp := by
  obtain ⟨oc, od, kV, doc, pm, an, cdv, ct, osl, rfl, lk, hcd⟩ := F.ex
  intro A outer s H args us vs Q E hgd hr e0 hb r hsp
  have hl := len _ _ _ _ hsp; have KX : K.In s.heap := e0.mod.kin.keeps fun b o e => (e0.bs b o e).1
  have lim : s.heap.NoLimit := e0.mod.nolimit.keeps fun b o e => (e0.bs b o e).1
  have kinds : ∀ y ∈ ps.zip us, (defScope st).names.lookup y.1 = some .local ∨ ((defScope st).names.lookup y.1 = some .cell ∧ ((cellsFrom (s.heap.objs.size + 1) (defScope st).names []).lookup y.1).isSome = true) := fun ⟨n, v⟩ hy => by
    rcases S.par n (List.of_mem_zip hy).1 with q | q; exact .inl q; exact .inr ⟨q, PySem.W.cellsFrom_some _ _ _ (.inl q)⟩
  refine codeAny_call_function hr.depth (KX _ _ lk) rfl S.co S.gen rfl (PySem.W.codeRec_of KX hcd) (hb _ _ _ _ (wpAny_newFunctionEnv_cells S.kind kinds fun env he s1 x => ?_))
  subst he; refine ⟨lim.keeps x.toInCall.keep, codeAny_func ?_⟩
  obtain ⟨t, ht, hq⟩ := hbody cdv A outer s H vs Q E hgd (hr.deeper _) hsp
  have I : Inv (cxOf CX0 P w K mg base N qual (defScope st) f cdv A outer s H E) [] (start N vs) H s1 := inv_start S hr.hd e0 hl r x
  refine wpAny_mono (ht.nox.run [] s1 (start N vs) H _ I hq) (fun fl s' hs => ?_) fun e s' hs => hs
  have fin : ∀ {σ' : L2.St} {H' : Hp} {v : V} {u : Value}, Inv (cxOf CX0 P w K mg base N qual (defScope st) f cdv A outer s H E) [] σ' H' s' → RelV v u → Q v H' → CE outer P w H s Q u s' := fun {σ' H' v u} J rv q => ⟨v, H', J.os, J.bare, J.base, J.hok, rv, q⟩
  cases fl with
  | ret u => obtain ⟨v, σ', H', J, rv, q⟩ := hs; exact fin J rv q
  | next => obtain ⟨σ', H', J, q⟩ := hs; exact fin (v := V.non) (u := Value.none) J rfl q
  | brk => obtain ⟨_, _, _, q⟩ := hs; exact False.elim q
  | cont => obtain ⟨_, _, _, q⟩ := hs; exact False.elim q
end
theorem law_callG {P : Program} {w : World} {K : PySem.W.Frag} {mg mb : Str → Option Value} {k : Nat} {fa a : Addr} {fd : FuncData} {x : Str} {sp : Sp} {s₁ : Shared} {vs : List Value} {ns : List Int} (KX : K.In s₁.heap) (hns : s₁.heap.Ns mainGlobals mg) (hb : s₁.heap.Ns builtinsNs mb) (hbb : ∀ x : Str, x ≠ "__name__" → mb x = bootBuiltins x)
    (hlim : s₁.heap.NoLimit) (hg : s₁.gens = #[]) (ha : s₁.heap.get? a = some { cls := .type "list", data := .seq vs.toArray }) (hi : IntsAre vs ns) (hl : ns.length ≤ sizeLine) (hr : Room k callerA) (F : ∀ base : Heap, K.In base → base.Ns mainGlobals mg → RunG P w K mg base k fa fd [x] sp)
    (hbind : ∀ (s : Shared) (u : Value), BindsTo s fd ⟨[u], []⟩ [(x, u)]) (hsp : ∀ H : Hp, Only H → SqL K H a (ns.map V.int) → sp [.ref a] H (fun v _ => v = .bl true) fun _ _ _ => False) :
    codeAny (model P w) callerA (.call (.ref fa) ⟨[.ref a], []⟩) (fun r s' => r = .ok (.ret (.bool true)) ∧ OldK s₁.heap s'.heap ∧ s'.os = s₁.os ∧ AllBare s'.gens) s₁ := by
  have rv := vals_ints hi; have lenV := hi.length
  have core : ∀ H : Hp, Only H → SqL K H a (ns.map V.int) → HOk P w H s₁.heap → (∀ b, H b ≠ none → b = a) → (H a ≠ none → K.lookup a = none) → codeAny (model P w) callerA (.call (.ref fa) ⟨[.ref a], []⟩) (fun r s' => r = .ok (.ret (.bool true)) ∧ OldK s₁.heap s'.heap ∧ s'.os = s₁.os ∧ AllBare s'.gens) s₁ := by
    intro H hO hS hok hA hK
    have b1 : ∀ {b : Addr} {o : Obj}, s₁.heap.get? b = some o → H b = none → (hidT s₁.heap H).get? b = some o := fun e n => hidT_get e n
    have n1 : ∀ {b : Addr} {o : Obj} {es : Array DictEntry} {ep : Nat}, s₁.heap.get? b = some o → o.data = .dict es ep → H b = none := fun {b o es ep} e d => by
      cases q : H b with
      | none => rfl
      | some u => have e' : b = a := hA b (by rw [q]; simp)
                  subst e'; rw [ha] at e; cases e; cases (show Data.seq vs.toArray _ = Data.dict es ep from d)
    have n2 : ∀ {b : Addr} {m : Str → Option Value}, s₁.heap.Ns b m → (hidT s₁.heap H).Ns b m := fun {b m} ⟨o, es, ep, e, d, r⟩ => ⟨o, es, ep, b1 e (n1 e d), d, r⟩
    have hKb : K.In (hidT s₁.heap H) := fun b o e => b1 (KX b o e) (by
      cases q : H b with
      | none => rfl
      | some u => have e' : b = a := hA b (by rw [q]; simp)
                  subst e'; rw [hK (by rw [q]; simp)] at e; cases e)
    have hM : Mod K mg (hidT s₁.heap H) := ⟨hKb, n2 hns, ⟨mb, n2 hb, hbb⟩, let ⟨mc, h1, h2⟩ := hlim; ⟨mc, n2 h1, h2⟩⟩
    have e0 : Env0 P w K mg (hidT s₁.heap H) callerA [] s₁ H := ⟨rfl, hM, fun b o e => of_hidT e, Nat.le_of_eq (hidT_size _ _), trivial, fun b hb => absurd (show b ∈ ([] : List Addr) from hb) (by simp), hok, .of_eq hg⟩
    refine codeAny_mono (F _ hKb (n2 hns) callerA [] s₁ H ⟨[.ref a], []⟩ [.ref a] [.ref a] _ _ rfl hr e0 (hbind s₁ (.ref a)) (.cons rfl .nil) (hsp H hO hS)) fun r s' h => ?_
    cases r with
    | error e => exact (show False from h).elim
    | ok fl =>
      cases fl with
      | next => exact False.elim h
      | brk => exact False.elim h
      | cont => exact False.elim h
      | ret u =>
        obtain ⟨v, H', os, bare, un, hok', r', q⟩ := h
        subst q; obtain rfl : u = Value.bool true := r'
        refine ⟨rfl, OldK.of_keep fun b o e => ?_, os, bare⟩
        cases q : H b with
        | none => exact un.keep b o e q (by intro z; exact absurd (show b ∈ ([] : List Addr) from z) (by simp)) (by simp)
        | some u =>
          rcases hO b with z | ⟨ob, xs, z⟩
          · rw [q] at z; cases z
          · obtain ⟨e1, _⟩ := hok b _ z; obtain ⟨e2, _⟩ := hok' b _ (un.frzs b ob _ z)
            rw [e] at e1; cases e1; exact e2
  cases hk : K.lookup a with
  | some o =>
    have e := KX a o hk; rw [ha] at e; cases e
    exact core (fun _ => none) (fun _ => .inl rfl) (.inr ⟨_, vs.toArray, _, hk, rfl, rfl, rfl, by rw [List.size_toArray, lenV]; exact hl, by simpa using rv⟩) (fun b u z => by cases (show (none : Option HO) = some u from z)) (fun b z => absurd rfl z) fun z => absurd rfl z
  | none =>
    refine core (fun b => if b = a then some (.frz { cls := .type "list", data := .seq vs.toArray } (.lst (ns.map V.int))) else none) (fun b => ?_) (.inl (.inr ⟨{ cls := .type "list", data := .seq vs.toArray }, if_pos rfl⟩)) (fun b u z => ?_) (fun b z => ?_) fun _ => hk
    · by_cases e : b = a
      · exact .inr ⟨_, _, if_pos e⟩
      · exact .inl (if_neg e)
    · by_cases e : b = a
      · cases (if_pos e).symm.trans z; subst e
        exact ⟨ha, by rw [List.length_map]; exact hl, vs, _, rv, ha⟩
      · cases (if_neg e).symm.trans z
    · by_cases e : b = a
      · exact e
      · exact absurd (if_neg e) z
theorem walk_ofG {l : PySem.W.OpenLaw} {n k : Nat} {q : Program} {loose : List Str} {XP : (Str → Option Value) → Heap → Prop} {YP : World → Heap → Prop} {d : DefRec} {K : Params → PySem.W.Frag} {sp : World → Sp} {x : Str} (hn : l.most = some n) (hn2 : n ≤ sizeLine) (hdf : d.params.defaults = []) (hr : Room k callerA) (hY : ∀ (w : World) (h : Heap), YP w h → (K w.params).In h)
    (F : ∀ (w : World) (mg : Str → Option Value) (fa : Addr) (h : Heap), (K w.params).In h → h.Ns mainGlobals mg → mg d.name = some (.ref fa) → ∃ fd : FuncData, (∀ (s : Shared) (u : Value), BindsTo s fd ⟨[u], []⟩ [(x, u)]) ∧ ∀ base : Heap, (K w.params).In base → base.Ns mainGlobals mg → RunG l.prog w (K w.params) mg base k fa fd [x] (sp w))
    (hsp : ∀ (w : World) (H : Hp) (a : Addr) (ns : List Int), ns.length ≤ n → Only H → SqL (K w.params) H a (ns.map V.int) → sp w [.ref a] H (fun v _ => v = .bl true) fun _ _ _ => False) : PySem.W.WalkO q loose XP YP l.row.toRowW d [] (fun f vs => PySem.call f vs) := by
  refine Att.attach_call hn hdf fun w s₀ s₁ mg mb fa o pm cd doc a vs ns G Y ho hd hcd hmg hobj hints hlen hg => ?_
  have KX := hY w _ Y; obtain ⟨fd, hb, hF⟩ := F w mg fa _ KX G.T.g hmg
  exact law_callG KX G.T.g G.T.b G.T.builtins G.T.nolimit hg hobj hints (Nat.le_trans hlen hn2) hr hF hb (fun H hO hS => hsp w H a ns hlen hO hS)
end TR
namespace TR
open PySem PySem.Spec PyProof.Rows L2
theorem scOdd : FnScope ["_law_deck_here", "_law_some"] ["_law_deck_here"] (defScope sOdd) := ⟨rfl, rfl, rfl, by decide +kernel, rfl, by decide +kernel, by decide +kernel⟩
def oddD : List PyData := [.none, .bool true, .bool false, .int 0, .int 1, .int (-1), .int 2, .int 8, .int 16, .int (10 ^ 12), .int (10 ^ 12 + 1), .int (10 ^ 59), .str "", .str "0", .str "triple", .tuple [], .tuple [.int 0], .tuple [.int 0, .int 1], .list [], .dict [], .list [.int 0], .tuple [.bool true], .tuple [.tuple []]]
theorem odd_wf : ∀ d ∈ oddD, Wf 2 2 d := by
  unfold oddD
  refine List.forall_mem_cons.mpr ⟨.inl trivial, List.forall_mem_cons.mpr ⟨.inl trivial, List.forall_mem_cons.mpr ⟨.inl trivial, List.forall_mem_cons.mpr ⟨.inl (by show _ ≤ 10 ^ 59 + 2; decide +kernel), List.forall_mem_cons.mpr ⟨.inl (by show _ ≤ 10 ^ 59 + 2; decide +kernel), List.forall_mem_cons.mpr ⟨.inl (by show _ ≤ 10 ^ 59 + 2; decide +kernel), List.forall_mem_cons.mpr ⟨.inl (by show _ ≤ 10 ^ 59 + 2; decide +kernel), List.forall_mem_cons.mpr ⟨.inl (by show _ ≤ 10 ^ 59 + 2; decide +kernel), List.forall_mem_cons.mpr ⟨.inl (by show _ ≤ 10 ^ 59 + 2; decide +kernel), List.forall_mem_cons.mpr ⟨.inl (by show _ ≤ 10 ^ 59 + 2; decide +kernel), List.forall_mem_cons.mpr ⟨.inl (by show _ ≤ 10 ^ 59 + 2; decide +kernel), List.forall_mem_cons.mpr ⟨.inl (by show _ ≤ 10 ^ 59 + 2; decide +kernel), List.forall_mem_cons.mpr ⟨.inl ⟨by decide +kernel, by decide +kernel⟩, List.forall_mem_cons.mpr ⟨.inl ⟨by decide +kernel, by decide +kernel⟩, List.forall_mem_cons.mpr ⟨.inl ⟨by decide +kernel, by decide +kernel⟩, List.forall_mem_cons.mpr ⟨.inr (.inr ⟨_, .inr rfl, by decide, by simp⟩), List.forall_mem_cons.mpr ⟨.inr (.inr ⟨_, .inr rfl, by decide, by intro e he; rw [List.mem_singleton] at he; subst he; exact .inl (by show _ ≤ 10 ^ 59 + 2; decide +kernel)⟩), List.forall_mem_cons.mpr ⟨.inr (.inr ⟨_, .inr rfl, by decide, by intro e he; simp only [List.mem_cons, List.not_mem_nil, or_false] at he; rcases he with rfl | rfl <;> exact .inl (by show _ ≤ 10 ^ 59 + 2; decide +kernel)⟩), List.forall_mem_cons.mpr ⟨.inr (.inr ⟨_, .inl rfl, by decide, by simp⟩), List.forall_mem_cons.mpr ⟨.inr (.inl rfl), List.forall_mem_cons.mpr ⟨.inr (.inr ⟨_, .inl rfl, by decide, by intro e he; rw [List.mem_singleton] at he; subst he; exact .inl (by show _ ≤ 10 ^ 59 + 2; decide +kernel)⟩), List.forall_mem_cons.mpr ⟨.inr (.inr ⟨_, .inr rfl, by decide, by intro e he; rw [List.mem_singleton] at he; subst he; exact .inl trivial⟩), List.forall_mem_cons.mpr ⟨.inr (.inr ⟨_, .inr rfl, by decide, by intro e he; rw [List.mem_singleton] at he; subst he; exact .inr (.inr ⟨[], .inr rfl, by decide, by simp⟩)⟩), (fun _ h => absurd h (by simp))⟩⟩⟩⟩⟩⟩⟩⟩⟩⟩⟩⟩⟩⟩⟩⟩⟩⟩⟩⟩⟩⟩⟩
theorem RpAll.keep {H H' : Hp} {ban : List Addr} {ds : List PyData} {xs : List V} {k p q : Addr} {n : Nat} (h : RpAll H ban ds xs) (D : Deck H k p q n) (s : Keep k p H H') (b1 : k ∈ ban) (b2 : p ∈ ban) : RpAll H' ban ds xs := by
  obtain ⟨x, y, c, e1⟩ := D.hd
  obtain ⟨zs, e2⟩ := D.hp
  refine RpAll.mv (fun a xs hn e => s _ _ e (fun z => hn (z ▸ b1)) (fun z => hn (z ▸ b2))) (fun a xs e => ?_) (fun a e => s _ _ e (ne_of e e1 (by intro z; cases z)) (ne_of e e2 (by intro z; cases z))) ds xs h
  rcases e with e | ⟨o, e⟩
  · exact .inl (s _ _ e (ne_of e e1 (by intro z; cases z)) (ne_of e e2 (by intro z; cases z)))
  · exact .inr ⟨o, s _ _ e (ne_of e e1 (by intro z; cases z)) (ne_of e e2 (by intro z; cases z))⟩
section
variable {P : Program} {w : World} {K : PySem.W.Frag} {mg : Str → Option Value} {base : Heap}
def spOdd : Sp := fun vs H Q _ => ∃ (d p q : Addr) (c : Nat), vs = [.ref d] ∧ Deck H d p q c ∧ c ≤ 1000000 ∧ ∀ H' x dd, Deck H' d p q (c + 1) → Keep d p H H' → Rp H' [d, p, sysModules] dd x → Wf 2 2 dd → Q x H'
theorem ok_odd {f fN : Addr} {fd dN : FuncData} {k : Nat} (F : Fun K "_law_odd" "_law_odd" sOdd f fd) (kN : PySem.W.keepIn K (.ref fN) = true) (bN : Binds K dN ["_law_deck_here", "_law_many"] []) (gN : mg "_law_next" = some (.ref fN)) (GN : FnOk P w K mg base CX0 (k + 1) fN dN ["_law_deck_here", "_law_many"] spNext) :
    FnOk P w K mg base CX0 (k + 2) f fd ["_law_deck_here"] spOdd := by
  refine F.ok scOdd (fun vs H Q E h => ?_) (fun cdv A outer s H vs Q E hr h => ?_)
  · obtain ⟨d, p, q, c, rfl, _⟩ := h
    rfl
  · obtain ⟨d, p, q, c, rfl, D0, hc, qq⟩ := h
    refine ⟨_, pss_cons (ps_set (i := 1) scOdd.nd rfl (.inl rfl) (pe_lstN (pa_cons (pe_non) (pa_cons (pe_bl) (pa_cons (pe_bl) (pa_cons (pe_int) (pa_cons (pe_int) (pa_cons (pe_un un_neg pe_int) (pa_cons (pe_int) (pa_cons (pe_int) (pa_cons (pe_int) (pa_cons (pe_op op_pow pe_int pe_int) (pa_cons (pe_op op_add (pe_op op_pow pe_int pe_int) pe_int) (pa_cons (pe_op op_pow pe_int pe_int) (pa_cons (pe_str) (pa_cons (pe_str) (pa_cons (pe_str) (pa_cons (pe_tupN pa_nil) (pa_cons (pe_tupN (pa_cons pe_int pa_nil)) pa_nil)))))))))))))))))))
      (pss_one (ps_ret (pe_ix ix_list (pe_op op_catN (pv 1) (pe_lstN (pa_cons (pe_tupN (pa_cons pe_int (pa_cons pe_int pa_nil))) (pa_cons (pe_lstN pa_nil) (pa_cons (pe_dnewN) (pa_cons (pe_lstN (pa_cons pe_int pa_nil)) (pa_cons (pe_tupN (pa_cons pe_bl pa_nil)) (pa_cons (pe_tupN (pa_cons (pe_tupN pa_nil) pa_nil)) pa_nil)))))))) (pe_call GN hr (by rfl) gN kN bN .nil pass0 (pa_cons (pv 0) (pa_cons pe_int pa_nil))) (fun _ _ => rfl)))), ?_⟩
    refine ⟨1, rfl, 10, 12, rfl, rfl, ⟨by decide, by decide, by decide⟩, 10, 12, rfl, rfl, ⟨by decide, by decide, by decide⟩, _, 1, rfl, rfl, 10, 59, rfl, rfl, ⟨by decide, by decide, by decide⟩, Nat.zero_le _, fun t1 H1 _ s1 e1 => ⟨by show 1 ≤ sizeLine; decide, fun t2 H2 _ s2 e2 => ⟨by show 17 ≤ sizeLine; decide, fun l0 H3 hl0 _ s3 e3 => ?_⟩⟩⟩
    refine ⟨.ref l0, rfl, by show 2 ≤ sizeLine; decide, fun t3 H4 _ s4 e4 => ⟨Nat.zero_le _, fun l1 H5 hl1 n1 s5 e5 => fun d1 H6 _ s6 e6 => ⟨by show 1 ≤ sizeLine; decide, fun l2 H7 hl2 n2 s7 e7 => ⟨by show 1 ≤ sizeLine; decide, fun t4 H8 _ s8 e8 => ⟨Nat.zero_le _, fun t5 H9 _ s9 e9 => ⟨by show 1 ≤ sizeLine; decide, fun t6 Ha _ sa ea => ⟨by show 6 ≤ sizeLine; decide, fun l3 Hb _ _ sb eb => ?_⟩⟩⟩⟩⟩⟩⟩
    have s9b := sa.trans sb
    have s8b := s9.trans s9b
    have s7b := s8.trans s8b
    have s6b := s7.trans s7b
    have s5b := s6.trans s6b
    have s4b := s5.trans s5b
    have s3b := s4.trans s4b
    have s2b := s3.trans s3b
    have s1b := s2.trans s2b
    have s0b := s1.trans s1b
    refine ⟨l0, l3, _, _, rfl, rfl, s3b _ _ e3, eb, by show 23 ≤ sizeLine; decide, fun l4 Hc hl4 sc ec => ?_⟩
    have D4 := D0.same (s1.trans (s2.trans (s3.trans s4)))
    have D6 := D4.same (s5.trans s6)
    have Db := D0.same s0b
    have b1 : l1 ∉ [d, p, sysModules] := by
      simp only [List.mem_cons, List.not_mem_nil, or_false, not_or]
      exact ⟨D4.ned hl1, D4.nep hl1, n1⟩
    have b2 : l2 ∉ [d, p, sysModules] := by
      simp only [List.mem_cons, List.not_mem_nil, or_false, not_or]
      exact ⟨D6.ned hl2, D6.nep hl2, n2⟩
    have Dc := Db.same sc
    have all : RpAll Hc [d, p, sysModules] oddD _ := ⟨.non, _, rfl, rfl, .bl true, _, rfl, rfl, .bl false, _, rfl, rfl, .int 0, _, rfl, rfl, .int 1, _, rfl, rfl, .int (-1), _, rfl, rfl, .int 2, _, rfl, rfl, .int 8, _, rfl, rfl, .int 16, _, rfl, rfl, .int (10 ^ 12), _, rfl, rfl, .int (10 ^ 12 + 1), _, rfl, rfl, .int (10 ^ 59), _, rfl, rfl, .str "", _, rfl, rfl, .str "0", _, rfl, rfl, .str "triple", _, rfl, rfl,
      .ref t1, _, rfl, ⟨t1, [], rfl, .inl (sc _ _ (s1b _ _ e1)), rfl⟩, .ref t2, _, rfl, ⟨t2, [.int 0], rfl, .inl (sc _ _ (s2b _ _ e2)), .int 0, [], rfl, rfl, rfl⟩, .ref t3, _, rfl, ⟨t3, [.int 0, .int 1], rfl, .inl (sc _ _ (s4b _ _ e4)), .int 0, _, rfl, rfl, .int 1, [], rfl, rfl, rfl⟩,
      .ref l1, _, rfl, ⟨l1, [], rfl, sc _ _ (s5b _ _ e5), b1, rfl⟩, .ref d1, _, rfl, ⟨rfl, d1, rfl, sc _ _ (s6b _ _ e6)⟩, .ref l2, _, rfl, ⟨l2, [.int 0], rfl, sc _ _ (s7b _ _ e7), b2, .int 0, [], rfl, rfl, rfl⟩, .ref t4, _, rfl, ⟨t4, [.bl true], rfl, .inl (sc _ _ (s8b _ _ e8)), .bl true, [], rfl, rfl, rfl⟩,
      .ref t6, [], rfl, ⟨t6, [.ref t5], rfl, .inl (sc _ _ (sb _ _ ea)), .ref t5, [], rfl, ⟨t5, [], rfl, .inl (sc _ _ (s9b _ _ e9)), rfl⟩, rfl⟩, rfl⟩
    refine ⟨.ref d, rfl, d, p, q, c, 23, rfl, Dc, by omega, by decide, by decide, fun Hd r r0 r1 Dd kd => ?_⟩
    obtain ⟨j, rfl⟩ := Int.eq_ofNat_of_zero_le r0
    have nld : l4 ≠ d := Db.ned hl4
    have nlp : l4 ≠ p := Db.nep hl4
    have ed := kd _ _ ec nld nlp
    have alld := all.keep Dc kd (by simp) (by simp)
    have el := alld.len
    have hj : j < oddD.length := by
      have : oddD.length = 23 := by decide
      omega
    rw [← el] at hj
    have gx := List.getElem?_eq_getElem hj
    obtain ⟨dd, hg, hrp⟩ := alld.get gx
    exact ⟨l4, _, (j : Int), _, rfl, rfl, sqL ed, atI_nat gx, qq Hd _ dd Dd ((Same.keep (s0b.trans sc)).trans kd) hrp (odd_wf dd (List.mem_of_getElem? hg))⟩
end
end TR
namespace TR
open PySem PySem.Spec PyProof.Rows L2
section
variable {P : Program} {w : World} {K : PySem.W.Frag} {mg : Str → Option Value} {base : Heap}
def spLaw (K : PySem.W.Frag) : Sp := fun vs H Q _ => ∃ (a : Addr) (ns : List Int), vs = [.ref a] ∧ SqL K H a (ns.map V.int) ∧ ns.length ≤ 63 ∧ ∀ H', Q (.bl true) H'
end
end TR
namespace TR
open PySem PySem.Spec PyProof.Rows L2
theorem scFlags : FnScope ["_law_error", "_law_first"] ["_law_error"] (defScope sFlags) := ⟨rfl, rfl, rfl, by decide +kernel, rfl, by decide +kernel, by decide +kernel⟩
def flag (i : Nat) : List Bool := [decide (i = 0), decide (i = 1), decide (i = 2), decide (i = 3), decide (i = 4), decide (i = 5), decide (i = 6), decide (i = 7), decide (i = 8), decide (i = 9), decide (i = 10), decide (i = 11), decide (i = 12), decide (i = 13), decide (i = 14), decide (i = 15), decide (i = 16), decide (i = 17), decide (i = 18), decide (i = 19), decide (i = 20), decide (i = 21), decide (i = 22), decide (i = 23), decide (i = 24)]
section
variable {P : Program} {w : World} {K : PySem.W.Frag} {mg : Str → Option Value} {base : Heap} {cs : Nat → Addr}
def spFlags (cs : Nat → Addr) : Sp := fun vs H Q _ => ∃ (a : Addr) (i : Nat) (d : Option Addr), vs = [.ref a] ∧ i < 25 ∧ H a = some (ExF (cs i) d a) ∧ XdAt H d ∧ ∀ H' l, Same H H' → H' l = some (.lst ((flag i).map V.bl)) → Q (.ref l) H'
theorem ok_flags {f : Addr} {fd : FuncData} {k : Nat} (F : Fun K "_law_flags" "_law_flags" sFlags f fd) (ec : ∀ i, i < 25 → ExcC K (cs i)) (kit : ∀ i j, i < 25 → j < 25 → PySem.W.kitOne K (.ref (cs i)) (.ref (cs j)) = some (decide (i = j))) (g0 : mg "NoRanking" = some (.ref (cs 0))) (g1 : mg "NoWeight" = some (.ref (cs 1))) (g2 : mg "NoTaster" = some (.ref (cs 2))) (g3 : mg "NoDish" = some (.ref (cs 3))) (g4 : mg "NoIndex" = some (.ref (cs 4))) (g5 : mg "NotSeatable" = some (.ref (cs 5))) (g6 : mg "NoSize" = some (.ref (cs 6))) (g7 : mg "TooMany" = some (.ref (cs 7))) (g8 : mg "BadDishes" = some (.ref (cs 8))) (g9 : mg "NoName" = some (.ref (cs 9))) (g10 : mg "UnknownName" = some (.ref (cs 10))) (g11 : mg "NameTaken" = some (.ref (cs 11))) (g12 : mg "NoMoment" = some (.ref (cs 12))) (g13 : mg "Failed" = some (.ref (cs 13))) (g14 : mg "Blocked" = some (.ref (cs 14))) (g15 : mg "BadText" = some (.ref (cs 15))) (g16 : mg "NoSeating" = some (.ref (cs 16))) (g17 : mg "NoMenu" = some (.ref (cs 17))) (g18 : mg "NoCuts" = some (.ref (cs 18))) (g19 : mg "NoSpan" = some (.ref (cs 19))) (g20 : mg "NoPlaces" = some (.ref (cs 20))) (g21 : mg "LastOne" = some (.ref (cs 21))) (g22 : mg "Empty" = some (.ref (cs 22))) (g23 : mg "NothingToUndo" = some (.ref (cs 23))) (g24 : mg "NoOperations" = some (.ref (cs 24))) (misi : mg "isinstance" = none) : FnOk P w K mg base CX0 (k + 1) f fd ["_law_error"] (spFlags cs) := by
  refine F.ok scFlags (fun vs H Q E h => ?_) (fun cdv A outer s H vs Q E hr h => ?_)
  · obtain ⟨a, i, d, rfl, _⟩ := h
    rfl
  · obtain ⟨a, i, d, rfl, hi, ha, hd, q⟩ := h
    refine ⟨_, (pss_cons (ps_set (i := 1) scFlags.nd rfl (.inl rfl) (pe_lstN (pa_cons (pe_callB call_isF (by rfl) misi (by decide +kernel) (pa_cons (pv 0) (pa_cons (pe_glob (v := .ref (cs 0)) (by rfl) g0 rfl) pa_nil))) (pa_cons (pe_callB call_isF (by rfl) misi (by decide +kernel) (pa_cons (pv 0) (pa_cons (pe_glob (v := .ref (cs 1)) (by rfl) g1 rfl) pa_nil))) (pa_cons (pe_callB call_isF (by rfl) misi (by decide +kernel) (pa_cons (pv 0) (pa_cons (pe_glob (v := .ref (cs 2)) (by rfl) g2 rfl) pa_nil))) pa_nil)))))
      (pss_cons (ps_set (i := 1) scFlags.nd rfl (.inl rfl) (pe_op op_catN (pv 1) (pe_lstN (pa_cons (pe_callB call_isF (by rfl) misi (by decide +kernel) (pa_cons (pv 0) (pa_cons (pe_glob (v := .ref (cs 3)) (by rfl) g3 rfl) pa_nil))) (pa_cons (pe_callB call_isF (by rfl) misi (by decide +kernel) (pa_cons (pv 0) (pa_cons (pe_glob (v := .ref (cs 4)) (by rfl) g4 rfl) pa_nil))) (pa_cons (pe_callB call_isF (by rfl) misi (by decide +kernel) (pa_cons (pv 0) (pa_cons (pe_glob (v := .ref (cs 5)) (by rfl) g5 rfl) pa_nil))) pa_nil))))))
      (pss_cons (ps_set (i := 1) scFlags.nd rfl (.inl rfl) (pe_op op_catN (pv 1) (pe_lstN (pa_cons (pe_callB call_isF (by rfl) misi (by decide +kernel) (pa_cons (pv 0) (pa_cons (pe_glob (v := .ref (cs 6)) (by rfl) g6 rfl) pa_nil))) (pa_cons (pe_callB call_isF (by rfl) misi (by decide +kernel) (pa_cons (pv 0) (pa_cons (pe_glob (v := .ref (cs 7)) (by rfl) g7 rfl) pa_nil))) (pa_cons (pe_callB call_isF (by rfl) misi (by decide +kernel) (pa_cons (pv 0) (pa_cons (pe_glob (v := .ref (cs 8)) (by rfl) g8 rfl) pa_nil))) pa_nil))))))
      (pss_cons (ps_set (i := 1) scFlags.nd rfl (.inl rfl) (pe_op op_catN (pv 1) (pe_lstN (pa_cons (pe_callB call_isF (by rfl) misi (by decide +kernel) (pa_cons (pv 0) (pa_cons (pe_glob (v := .ref (cs 9)) (by rfl) g9 rfl) pa_nil))) (pa_cons (pe_callB call_isF (by rfl) misi (by decide +kernel) (pa_cons (pv 0) (pa_cons (pe_glob (v := .ref (cs 10)) (by rfl) g10 rfl) pa_nil))) (pa_cons (pe_callB call_isF (by rfl) misi (by decide +kernel) (pa_cons (pv 0) (pa_cons (pe_glob (v := .ref (cs 11)) (by rfl) g11 rfl) pa_nil))) pa_nil))))))
      (pss_cons (ps_set (i := 1) scFlags.nd rfl (.inl rfl) (pe_op op_catN (pv 1) (pe_lstN (pa_cons (pe_callB call_isF (by rfl) misi (by decide +kernel) (pa_cons (pv 0) (pa_cons (pe_glob (v := .ref (cs 12)) (by rfl) g12 rfl) pa_nil))) (pa_cons (pe_callB call_isF (by rfl) misi (by decide +kernel) (pa_cons (pv 0) (pa_cons (pe_glob (v := .ref (cs 13)) (by rfl) g13 rfl) pa_nil))) (pa_cons (pe_callB call_isF (by rfl) misi (by decide +kernel) (pa_cons (pv 0) (pa_cons (pe_glob (v := .ref (cs 14)) (by rfl) g14 rfl) pa_nil))) pa_nil))))))
      (pss_cons (ps_set (i := 1) scFlags.nd rfl (.inl rfl) (pe_op op_catN (pv 1) (pe_lstN (pa_cons (pe_callB call_isF (by rfl) misi (by decide +kernel) (pa_cons (pv 0) (pa_cons (pe_glob (v := .ref (cs 15)) (by rfl) g15 rfl) pa_nil))) (pa_cons (pe_callB call_isF (by rfl) misi (by decide +kernel) (pa_cons (pv 0) (pa_cons (pe_glob (v := .ref (cs 16)) (by rfl) g16 rfl) pa_nil))) (pa_cons (pe_callB call_isF (by rfl) misi (by decide +kernel) (pa_cons (pv 0) (pa_cons (pe_glob (v := .ref (cs 17)) (by rfl) g17 rfl) pa_nil))) pa_nil))))))
      (pss_cons (ps_set (i := 1) scFlags.nd rfl (.inl rfl) (pe_op op_catN (pv 1) (pe_lstN (pa_cons (pe_callB call_isF (by rfl) misi (by decide +kernel) (pa_cons (pv 0) (pa_cons (pe_glob (v := .ref (cs 18)) (by rfl) g18 rfl) pa_nil))) (pa_cons (pe_callB call_isF (by rfl) misi (by decide +kernel) (pa_cons (pv 0) (pa_cons (pe_glob (v := .ref (cs 19)) (by rfl) g19 rfl) pa_nil))) (pa_cons (pe_callB call_isF (by rfl) misi (by decide +kernel) (pa_cons (pv 0) (pa_cons (pe_glob (v := .ref (cs 20)) (by rfl) g20 rfl) pa_nil))) pa_nil))))))
      (pss_cons (ps_set (i := 1) scFlags.nd rfl (.inl rfl) (pe_op op_catN (pv 1) (pe_lstN (pa_cons (pe_callB call_isF (by rfl) misi (by decide +kernel) (pa_cons (pv 0) (pa_cons (pe_glob (v := .ref (cs 21)) (by rfl) g21 rfl) pa_nil))) (pa_cons (pe_callB call_isF (by rfl) misi (by decide +kernel) (pa_cons (pv 0) (pa_cons (pe_glob (v := .ref (cs 22)) (by rfl) g22 rfl) pa_nil))) (pa_cons (pe_callB call_isF (by rfl) misi (by decide +kernel) (pa_cons (pv 0) (pa_cons (pe_glob (v := .ref (cs 23)) (by rfl) g23 rfl) pa_nil))) pa_nil))))))
      (pss_one (ps_ret (pe_op op_catN (pv 1) (pe_lstN (pa_cons (pe_callB call_isF (by rfl) misi (by decide +kernel) (pa_cons (pv 0) (pa_cons (pe_glob (v := .ref (cs 24)) (by rfl) g24 rfl) pa_nil))) pa_nil))))))))))))), ?_⟩
    refine ⟨.ref a, rfl, a, cs i, d, .ref (cs 0), _, _, rfl, ha, hd, ec i hi, .own _, kit i 0 hi (by decide), .ref a, rfl, a, cs i, d, .ref (cs 1), _, _, rfl, ha, hd, ec i hi, .own _, kit i 1 hi (by decide), .ref a, rfl, a, cs i, d, .ref (cs 2), _, _, rfl, ha, hd, ec i hi, .own _, kit i 2 hi (by decide), by show 3 ≤ sizeLine; decide, fun l0 H0 _ _ s0 e0 => ?_⟩
    have S := s0
    have ha := s0 _ _ ha
    have hd := hd.same s0
    refine ⟨.ref l0, rfl, .ref a, rfl, a, cs i, d, .ref (cs 3), _, _, rfl, ha, hd, ec i hi, .own _, kit i 3 hi (by decide), .ref a, rfl, a, cs i, d, .ref (cs 4), _, _, rfl, ha, hd, ec i hi, .own _, kit i 4 hi (by decide), .ref a, rfl, a, cs i, d, .ref (cs 5), _, _, rfl, ha, hd, ec i hi, .own _, kit i 5 hi (by decide), by show 3 ≤ sizeLine; decide, fun m1 G1 _ _ t1 f1 => ⟨l0, m1, _, _, rfl, rfl, t1 _ _ e0, f1, by show 6 ≤ sizeLine; decide, fun l1 H1 _ s1 e1 => ?_⟩⟩
    have S := S.trans (t1.trans s1)
    have ha := s1 _ _ (t1 _ _ ha)
    have hd := (hd.same t1).same s1
    refine ⟨.ref l1, rfl, .ref a, rfl, a, cs i, d, .ref (cs 6), _, _, rfl, ha, hd, ec i hi, .own _, kit i 6 hi (by decide), .ref a, rfl, a, cs i, d, .ref (cs 7), _, _, rfl, ha, hd, ec i hi, .own _, kit i 7 hi (by decide), .ref a, rfl, a, cs i, d, .ref (cs 8), _, _, rfl, ha, hd, ec i hi, .own _, kit i 8 hi (by decide), by show 3 ≤ sizeLine; decide, fun m2 G2 _ _ t2 f2 => ⟨l1, m2, _, _, rfl, rfl, t2 _ _ e1, f2, by show 9 ≤ sizeLine; decide, fun l2 H2 _ s2 e2 => ?_⟩⟩
    have S := S.trans (t2.trans s2)
    have ha := s2 _ _ (t2 _ _ ha)
    have hd := (hd.same t2).same s2
    refine ⟨.ref l2, rfl, .ref a, rfl, a, cs i, d, .ref (cs 9), _, _, rfl, ha, hd, ec i hi, .own _, kit i 9 hi (by decide), .ref a, rfl, a, cs i, d, .ref (cs 10), _, _, rfl, ha, hd, ec i hi, .own _, kit i 10 hi (by decide), .ref a, rfl, a, cs i, d, .ref (cs 11), _, _, rfl, ha, hd, ec i hi, .own _, kit i 11 hi (by decide), by show 3 ≤ sizeLine; decide, fun m3 G3 _ _ t3 f3 => ⟨l2, m3, _, _, rfl, rfl, t3 _ _ e2, f3, by show 12 ≤ sizeLine; decide, fun l3 H3 _ s3 e3 => ?_⟩⟩
    have S := S.trans (t3.trans s3)
    have ha := s3 _ _ (t3 _ _ ha)
    have hd := (hd.same t3).same s3
    refine ⟨.ref l3, rfl, .ref a, rfl, a, cs i, d, .ref (cs 12), _, _, rfl, ha, hd, ec i hi, .own _, kit i 12 hi (by decide), .ref a, rfl, a, cs i, d, .ref (cs 13), _, _, rfl, ha, hd, ec i hi, .own _, kit i 13 hi (by decide), .ref a, rfl, a, cs i, d, .ref (cs 14), _, _, rfl, ha, hd, ec i hi, .own _, kit i 14 hi (by decide), by show 3 ≤ sizeLine; decide, fun m4 G4 _ _ t4 f4 => ⟨l3, m4, _, _, rfl, rfl, t4 _ _ e3, f4, by show 15 ≤ sizeLine; decide, fun l4 H4 _ s4 e4 => ?_⟩⟩
    have S := S.trans (t4.trans s4)
    have ha := s4 _ _ (t4 _ _ ha)
    have hd := (hd.same t4).same s4
    refine ⟨.ref l4, rfl, .ref a, rfl, a, cs i, d, .ref (cs 15), _, _, rfl, ha, hd, ec i hi, .own _, kit i 15 hi (by decide), .ref a, rfl, a, cs i, d, .ref (cs 16), _, _, rfl, ha, hd, ec i hi, .own _, kit i 16 hi (by decide), .ref a, rfl, a, cs i, d, .ref (cs 17), _, _, rfl, ha, hd, ec i hi, .own _, kit i 17 hi (by decide), by show 3 ≤ sizeLine; decide, fun m5 G5 _ _ t5 f5 => ⟨l4, m5, _, _, rfl, rfl, t5 _ _ e4, f5, by show 18 ≤ sizeLine; decide, fun l5 H5 _ s5 e5 => ?_⟩⟩
    have S := S.trans (t5.trans s5)
    have ha := s5 _ _ (t5 _ _ ha)
    have hd := (hd.same t5).same s5
    refine ⟨.ref l5, rfl, .ref a, rfl, a, cs i, d, .ref (cs 18), _, _, rfl, ha, hd, ec i hi, .own _, kit i 18 hi (by decide), .ref a, rfl, a, cs i, d, .ref (cs 19), _, _, rfl, ha, hd, ec i hi, .own _, kit i 19 hi (by decide), .ref a, rfl, a, cs i, d, .ref (cs 20), _, _, rfl, ha, hd, ec i hi, .own _, kit i 20 hi (by decide), by show 3 ≤ sizeLine; decide, fun m6 G6 _ _ t6 f6 => ⟨l5, m6, _, _, rfl, rfl, t6 _ _ e5, f6, by show 21 ≤ sizeLine; decide, fun l6 H6 _ s6 e6 => ?_⟩⟩
    have S := S.trans (t6.trans s6)
    have ha := s6 _ _ (t6 _ _ ha)
    have hd := (hd.same t6).same s6
    refine ⟨.ref l6, rfl, .ref a, rfl, a, cs i, d, .ref (cs 21), _, _, rfl, ha, hd, ec i hi, .own _, kit i 21 hi (by decide), .ref a, rfl, a, cs i, d, .ref (cs 22), _, _, rfl, ha, hd, ec i hi, .own _, kit i 22 hi (by decide), .ref a, rfl, a, cs i, d, .ref (cs 23), _, _, rfl, ha, hd, ec i hi, .own _, kit i 23 hi (by decide), by show 3 ≤ sizeLine; decide, fun m7 G7 _ _ t7 f7 => ⟨l6, m7, _, _, rfl, rfl, t7 _ _ e6, f7, by show 24 ≤ sizeLine; decide, fun l7 H7 _ s7 e7 => ?_⟩⟩
    have S := S.trans (t7.trans s7)
    have ha := s7 _ _ (t7 _ _ ha)
    have hd := (hd.same t7).same s7
    refine ⟨.ref l7, rfl, .ref a, rfl, a, cs i, d, .ref (cs 24), _, _, rfl, ha, hd, ec i hi, .own _, kit i 24 hi (by decide), by show 1 ≤ sizeLine; decide, fun m8 G8 _ _ t8 f8 => ⟨l7, m8, _, _, rfl, rfl, t8 _ _ e7, f8, by show 25 ≤ sizeLine; decide, fun l8 H8 _ s8 e8 => ?_⟩⟩
    exact q _ _ (S.trans (t8.trans s8)) e8
end
end TR
namespace TR
open PySem PySem.Spec PyProof.Rows L2
theorem scFields : FnScope ["_law_one_here", "_law_some"] ["_law_one_here"] (defScope sFields) := ⟨rfl, rfl, rfl, by decide +kernel, rfl, by decide +kernel, by decide +kernel⟩
theorem scWith : FnScope ["_law_one_here", "_law_some"] ["_law_one_here"] (defScope sWith) := ⟨rfl, rfl, rfl, by decide +kernel, rfl, by decide +kernel, by decide +kernel⟩
section
variable {P : Program} {w : World} {K : PySem.W.Frag} {mg : Str → Option Value} {base : Heap} {cs : Nat → Addr}
def spFields : Sp := fun vs H Q _ => ∃ x : V, vs = [x] ∧ ∀ H' l, Same H H' → H l = none → l ≠ sysModules → H' l = some (.lst (List.replicate 16 x)) → Q (.ref l) H'
theorem ok_fields {f : Addr} {fd : FuncData} {k : Nat} (F : Fun K "_law_fields" "_law_fields" sFields f fd) (ec : ∀ i, i < 25 → ExcC K (cs i)) (T0 : MkF K mg "NoRanking" "ranking" (cs 0)) (T1 : MkF K mg "NoWeight" "weight" (cs 1)) (T2 : MkF K mg "NoTaster" "taster" (cs 2)) (T3 : MkF K mg "NoDish" "dish" (cs 3)) (T4 : MkF K mg "NoIndex" "index" (cs 4)) (T5 : MkF K mg "NotSeatable" "obstruction" (cs 5)) (T6 : MkF K mg "NoSize" "size" (cs 6)) (T7 : MkF K mg "TooMany" "limit" (cs 7)) (T8 : MkF K mg "BadDishes" "dishes" (cs 8)) (T9 : MkF K mg "NoName" "name" (cs 9)) (T10 : MkF K mg "UnknownName" "name" (cs 10)) (T11 : MkF K mg "NameTaken" "name" (cs 11)) (T12 : MkF K mg "NoMoment" "at" (cs 12)) (T13 : MkF K mg "Failed" "index" (cs 13)) (T14 : MkF K mg "Blocked" "obstruction" (cs 14)) (T15 : MkF K mg "BadText" "line" (cs 15)) : FnOk P w K mg base CX0 (k + 2) f fd ["_law_one_here"] spFields := by
  refine F.ok scFields (fun vs H Q E h => ?_) (fun cdv A outer s H vs Q E hr h => ?_)
  · obtain ⟨x, rfl, _⟩ := h
    rfl
  · obtain ⟨x, rfl, q⟩ := h
    refine ⟨_, (pss_cons (ps_set (i := 1) scFields.nd rfl (.inl rfl) (pe_lstN (pa_cons (pe_fldF (pe_mkF T0 hr (pa_cons (pv 0) pa_nil))) (pa_cons (pe_fldF (pe_mkF T1 hr (pa_cons (pv 0) pa_nil))) (pa_cons (pe_fldF (pe_mkF T2 hr (pa_cons (pv 0) pa_nil))) (pa_cons (pe_fldF (pe_mkF T3 hr (pa_cons (pv 0) pa_nil))) (pa_cons (pe_fldF (pe_mkF T4 hr (pa_cons (pv 0) pa_nil))) pa_nil)))))))
      (pss_cons (ps_set (i := 1) scFields.nd rfl (.inl rfl) (pe_op op_catN (pv 1) (pe_lstN (pa_cons (pe_fldF (pe_mkF T5 hr (pa_cons (pv 0) pa_nil))) (pa_cons (pe_fldF (pe_mkF T6 hr (pa_cons (pv 0) pa_nil))) (pa_cons (pe_fldF (pe_mkF T7 hr (pa_cons (pv 0) pa_nil))) (pa_cons (pe_fldF (pe_mkF T8 hr (pa_cons (pv 0) pa_nil))) pa_nil)))))))
      (pss_cons (ps_set (i := 1) scFields.nd rfl (.inl rfl) (pe_op op_catN (pv 1) (pe_lstN (pa_cons (pe_fldF (pe_mkF T9 hr (pa_cons (pv 0) pa_nil))) (pa_cons (pe_fldF (pe_mkF T10 hr (pa_cons (pv 0) pa_nil))) (pa_cons (pe_fldF (pe_mkF T11 hr (pa_cons (pv 0) pa_nil))) (pa_cons (pe_fldF (pe_mkF T12 hr (pa_cons (pv 0) pa_nil))) pa_nil)))))))
      (pss_one (ps_ret (pe_op op_catM (pv 1) (pe_lstN (pa_cons (pe_fldF (pe_mkF T13 hr (pa_cons (pv 0) pa_nil))) (pa_cons (pe_fldF (pe_mkF T14 hr (pa_cons (pv 0) pa_nil))) (pa_cons (pe_fldF (pe_mkF T15 hr (pa_cons (pv 0) pa_nil))) pa_nil)))))))))), ?_⟩
    have S : Same H H := Same.refl _
    refine ⟨x, rfl, x, rfl, fun e0 d0 H0 s0 h0 x0 => ⟨e0, cs 0, d0, x, rfl, h0, x0, ec 0 (by decide), T0.no, ?_⟩⟩
    have S := S.trans s0
    refine ⟨x, rfl, x, rfl, fun e1 d1 H1 s1 h1 x1 => ⟨e1, cs 1, d1, x, rfl, h1, x1, ec 1 (by decide), T1.no, ?_⟩⟩
    have S := S.trans s1
    refine ⟨x, rfl, x, rfl, fun e2 d2 H2 s2 h2 x2 => ⟨e2, cs 2, d2, x, rfl, h2, x2, ec 2 (by decide), T2.no, ?_⟩⟩
    have S := S.trans s2
    refine ⟨x, rfl, x, rfl, fun e3 d3 H3 s3 h3 x3 => ⟨e3, cs 3, d3, x, rfl, h3, x3, ec 3 (by decide), T3.no, ?_⟩⟩
    have S := S.trans s3
    refine ⟨x, rfl, x, rfl, fun e4 d4 H4 s4 h4 x4 => ⟨e4, cs 4, d4, x, rfl, h4, x4, ec 4 (by decide), T4.no, ?_⟩⟩
    have S := S.trans s4
    refine ⟨by show 5 ≤ sizeLine; decide, fun l0 G0 _ _ t0 el => ?_⟩
    have S := S.trans t0
    refine ⟨.ref l0, rfl, x, rfl, x, rfl, fun e5 d5 H5 s5 h5 x5 => ⟨e5, cs 5, d5, x, rfl, h5, x5, ec 5 (by decide), T5.no, ?_⟩⟩
    have S := S.trans s5
    have el := s5 _ _ el
    refine ⟨x, rfl, x, rfl, fun e6 d6 H6 s6 h6 x6 => ⟨e6, cs 6, d6, x, rfl, h6, x6, ec 6 (by decide), T6.no, ?_⟩⟩
    have S := S.trans s6
    have el := s6 _ _ el
    refine ⟨x, rfl, x, rfl, fun e7 d7 H7 s7 h7 x7 => ⟨e7, cs 7, d7, x, rfl, h7, x7, ec 7 (by decide), T7.no, ?_⟩⟩
    have S := S.trans s7
    have el := s7 _ _ el
    refine ⟨x, rfl, x, rfl, fun e8 d8 H8 s8 h8 x8 => ⟨e8, cs 8, d8, x, rfl, h8, x8, ec 8 (by decide), T8.no, ?_⟩⟩
    have S := S.trans s8
    have el := s8 _ _ el
    refine ⟨by show 4 ≤ sizeLine; decide, fun m1 G1 _ _ t1 f1 => ⟨l0, m1, _, _, rfl, rfl, t1 _ _ el, f1, by show 9 ≤ sizeLine; decide, fun l1 J1 _ u1 el => ?_⟩⟩
    have S := S.trans (t1.trans u1)
    refine ⟨.ref l1, rfl, x, rfl, x, rfl, fun e9 d9 H9 s9 h9 x9 => ⟨e9, cs 9, d9, x, rfl, h9, x9, ec 9 (by decide), T9.no, ?_⟩⟩
    have S := S.trans s9
    have el := s9 _ _ el
    refine ⟨x, rfl, x, rfl, fun e10 d10 H10 s10 h10 x10 => ⟨e10, cs 10, d10, x, rfl, h10, x10, ec 10 (by decide), T10.no, ?_⟩⟩
    have S := S.trans s10
    have el := s10 _ _ el
    refine ⟨x, rfl, x, rfl, fun e11 d11 H11 s11 h11 x11 => ⟨e11, cs 11, d11, x, rfl, h11, x11, ec 11 (by decide), T11.no, ?_⟩⟩
    have S := S.trans s11
    have el := s11 _ _ el
    refine ⟨x, rfl, x, rfl, fun e12 d12 H12 s12 h12 x12 => ⟨e12, cs 12, d12, x, rfl, h12, x12, ec 12 (by decide), T12.no, ?_⟩⟩
    have S := S.trans s12
    have el := s12 _ _ el
    refine ⟨by show 4 ≤ sizeLine; decide, fun m2 G2 _ _ t2 f2 => ⟨l1, m2, _, _, rfl, rfl, t2 _ _ el, f2, by show 13 ≤ sizeLine; decide, fun l2 J2 _ u2 el => ?_⟩⟩
    have S := S.trans (t2.trans u2)
    refine ⟨.ref l2, rfl, x, rfl, x, rfl, fun e13 d13 H13 s13 h13 x13 => ⟨e13, cs 13, d13, x, rfl, h13, x13, ec 13 (by decide), T13.no, ?_⟩⟩
    have S := S.trans s13
    have el := s13 _ _ el
    refine ⟨x, rfl, x, rfl, fun e14 d14 H14 s14 h14 x14 => ⟨e14, cs 14, d14, x, rfl, h14, x14, ec 14 (by decide), T14.no, ?_⟩⟩
    have S := S.trans s14
    have el := s14 _ _ el
    refine ⟨x, rfl, x, rfl, fun e15 d15 H15 s15 h15 x15 => ⟨e15, cs 15, d15, x, rfl, h15, x15, ec 15 (by decide), T15.no, ?_⟩⟩
    have S := S.trans s15
    have el := s15 _ _ el
    refine ⟨by show 3 ≤ sizeLine; decide, fun m3 G3 _ _ t3 f3 => ⟨l2, m3, _, _, rfl, rfl, t3 _ _ el, f3, by show 16 ≤ sizeLine; decide, fun l3 J3 hl nl u3 e => ?_⟩⟩
    exact q J3 l3 (S.trans (t3.trans u3)) ((S.trans t3).free hl) nl e
def spWith (cs : Nat → Addr) : Sp := fun vs H Q _ => ∃ x : V, vs = [x] ∧ ∀ H' l es, Same H H' → H' l = some (.lst es) → es.length = 16 → Exs H' cs 0 es → Q (.ref l) H'
set_option maxHeartbeats 0 in
theorem ok_with {f : Addr} {fd : FuncData} {k : Nat} (F : Fun K "_law_with_field" "_law_with_field" sWith f fd) (T0 : MkF K mg "NoRanking" "ranking" (cs 0)) (T1 : MkF K mg "NoWeight" "weight" (cs 1)) (T2 : MkF K mg "NoTaster" "taster" (cs 2)) (T3 : MkF K mg "NoDish" "dish" (cs 3)) (T4 : MkF K mg "NoIndex" "index" (cs 4)) (T5 : MkF K mg "NotSeatable" "obstruction" (cs 5)) (T6 : MkF K mg "NoSize" "size" (cs 6)) (T7 : MkF K mg "TooMany" "limit" (cs 7)) (T8 : MkF K mg "BadDishes" "dishes" (cs 8)) (T9 : MkF K mg "NoName" "name" (cs 9)) (T10 : MkF K mg "UnknownName" "name" (cs 10)) (T11 : MkF K mg "NameTaken" "name" (cs 11)) (T12 : MkF K mg "NoMoment" "at" (cs 12)) (T13 : MkF K mg "Failed" "index" (cs 13)) (T14 : MkF K mg "Blocked" "obstruction" (cs 14)) (T15 : MkF K mg "BadText" "line" (cs 15)) : FnOk P w K mg base CX0 (k + 2) f fd ["_law_one_here"] (spWith cs) := by
  refine F.ok scWith (fun vs H Q E h => ?_) (fun cdv A outer s H vs Q E hr h => ?_)
  · obtain ⟨x, rfl, _⟩ := h
    rfl
  · obtain ⟨x, rfl, q⟩ := h
    refine ⟨_, (pss_cons (ps_set (i := 1) scWith.nd rfl (.inl rfl) (pe_lstN (pa_cons (pe_mkF T0 hr (pa_cons (pv 0) pa_nil)) (pa_cons (pe_mkF T1 hr (pa_cons (pv 0) pa_nil)) (pa_cons (pe_mkF T2 hr (pa_cons (pv 0) pa_nil)) (pa_cons (pe_mkF T3 hr (pa_cons (pv 0) pa_nil)) (pa_cons (pe_mkF T4 hr (pa_cons (pv 0) pa_nil)) (pa_cons (pe_mkF T5 hr (pa_cons (pv 0) pa_nil)) (pa_cons (pe_mkF T6 hr (pa_cons (pv 0) pa_nil)) pa_nil)))))))))
      (pss_cons (ps_set (i := 1) scWith.nd rfl (.inl rfl) (pe_op op_catN (pv 1) (pe_lstN (pa_cons (pe_mkF T7 hr (pa_cons (pv 0) pa_nil)) (pa_cons (pe_mkF T8 hr (pa_cons (pv 0) pa_nil)) (pa_cons (pe_mkF T9 hr (pa_cons (pv 0) pa_nil)) (pa_cons (pe_mkF T10 hr (pa_cons (pv 0) pa_nil)) (pa_cons (pe_mkF T11 hr (pa_cons (pv 0) pa_nil)) (pa_cons (pe_mkF T12 hr (pa_cons (pv 0) pa_nil)) pa_nil)))))))))
      (pss_one (ps_ret (pe_op op_catN (pv 1) (pe_lstN (pa_cons (pe_mkF T13 hr (pa_cons (pv 0) pa_nil)) (pa_cons (pe_mkF T14 hr (pa_cons (pv 0) pa_nil)) (pa_cons (pe_mkF T15 hr (pa_cons (pv 0) pa_nil)) pa_nil))))))))), ?_⟩
    have S : Same H H := Same.refl _
    have X : Exs H cs 0 [] := trivial
    refine ⟨x, rfl, x, rfl, fun e0 d0 H0 s0 h0 x0 => ?_⟩
    have S := S.trans s0
    have X : Exs H0 cs 0 [.ref e0] := (X.same s0).app (ws := [.ref e0]) ⟨⟨e0, some d0, rfl, h0, _, x0⟩, trivial⟩
    refine ⟨x, rfl, x, rfl, fun e1 d1 H1 s1 h1 x1 => ?_⟩
    have S := S.trans s1
    have X : Exs H1 cs 0 [.ref e0, .ref e1] := (X.same s1).app (ws := [.ref e1]) ⟨⟨e1, some d1, rfl, h1, _, x1⟩, trivial⟩
    refine ⟨x, rfl, x, rfl, fun e2 d2 H2 s2 h2 x2 => ?_⟩
    have S := S.trans s2
    have X : Exs H2 cs 0 [.ref e0, .ref e1, .ref e2] := (X.same s2).app (ws := [.ref e2]) ⟨⟨e2, some d2, rfl, h2, _, x2⟩, trivial⟩
    refine ⟨x, rfl, x, rfl, fun e3 d3 H3 s3 h3 x3 => ?_⟩
    have S := S.trans s3
    have X : Exs H3 cs 0 [.ref e0, .ref e1, .ref e2, .ref e3] := (X.same s3).app (ws := [.ref e3]) ⟨⟨e3, some d3, rfl, h3, _, x3⟩, trivial⟩
    refine ⟨x, rfl, x, rfl, fun e4 d4 H4 s4 h4 x4 => ?_⟩
    have S := S.trans s4
    have X : Exs H4 cs 0 [.ref e0, .ref e1, .ref e2, .ref e3, .ref e4] := (X.same s4).app (ws := [.ref e4]) ⟨⟨e4, some d4, rfl, h4, _, x4⟩, trivial⟩
    refine ⟨x, rfl, x, rfl, fun e5 d5 H5 s5 h5 x5 => ?_⟩
    have S := S.trans s5
    have X : Exs H5 cs 0 [.ref e0, .ref e1, .ref e2, .ref e3, .ref e4, .ref e5] := (X.same s5).app (ws := [.ref e5]) ⟨⟨e5, some d5, rfl, h5, _, x5⟩, trivial⟩
    refine ⟨x, rfl, x, rfl, fun e6 d6 H6 s6 h6 x6 => ?_⟩
    have S := S.trans s6
    have X : Exs H6 cs 0 [.ref e0, .ref e1, .ref e2, .ref e3, .ref e4, .ref e5, .ref e6] := (X.same s6).app (ws := [.ref e6]) ⟨⟨e6, some d6, rfl, h6, _, x6⟩, trivial⟩
    refine ⟨by show 7 ≤ sizeLine; decide, fun l0 G0 _ _ t0 el => ?_⟩
    have S := S.trans t0
    have X := X.same t0
    refine ⟨.ref l0, rfl, x, rfl, x, rfl, fun e7 d7 H7 s7 h7 x7 => ?_⟩
    have S := S.trans s7
    have X : Exs H7 cs 0 [.ref e0, .ref e1, .ref e2, .ref e3, .ref e4, .ref e5, .ref e6, .ref e7] := (X.same s7).app (ws := [.ref e7]) ⟨⟨e7, some d7, rfl, h7, _, x7⟩, trivial⟩
    have el := s7 _ _ el
    refine ⟨x, rfl, x, rfl, fun e8 d8 H8 s8 h8 x8 => ?_⟩
    have S := S.trans s8
    have X : Exs H8 cs 0 [.ref e0, .ref e1, .ref e2, .ref e3, .ref e4, .ref e5, .ref e6, .ref e7, .ref e8] := (X.same s8).app (ws := [.ref e8]) ⟨⟨e8, some d8, rfl, h8, _, x8⟩, trivial⟩
    have el := s8 _ _ el
    refine ⟨x, rfl, x, rfl, fun e9 d9 H9 s9 h9 x9 => ?_⟩
    have S := S.trans s9
    have X : Exs H9 cs 0 [.ref e0, .ref e1, .ref e2, .ref e3, .ref e4, .ref e5, .ref e6, .ref e7, .ref e8, .ref e9] := (X.same s9).app (ws := [.ref e9]) ⟨⟨e9, some d9, rfl, h9, _, x9⟩, trivial⟩
    have el := s9 _ _ el
    refine ⟨x, rfl, x, rfl, fun e10 d10 H10 s10 h10 x10 => ?_⟩
    have S := S.trans s10
    have X : Exs H10 cs 0 [.ref e0, .ref e1, .ref e2, .ref e3, .ref e4, .ref e5, .ref e6, .ref e7, .ref e8, .ref e9, .ref e10] := (X.same s10).app (ws := [.ref e10]) ⟨⟨e10, some d10, rfl, h10, _, x10⟩, trivial⟩
    have el := s10 _ _ el
    refine ⟨x, rfl, x, rfl, fun e11 d11 H11 s11 h11 x11 => ?_⟩
    have S := S.trans s11
    have X : Exs H11 cs 0 [.ref e0, .ref e1, .ref e2, .ref e3, .ref e4, .ref e5, .ref e6, .ref e7, .ref e8, .ref e9, .ref e10, .ref e11] := (X.same s11).app (ws := [.ref e11]) ⟨⟨e11, some d11, rfl, h11, _, x11⟩, trivial⟩
    have el := s11 _ _ el
    refine ⟨x, rfl, x, rfl, fun e12 d12 H12 s12 h12 x12 => ?_⟩
    have S := S.trans s12
    have X : Exs H12 cs 0 [.ref e0, .ref e1, .ref e2, .ref e3, .ref e4, .ref e5, .ref e6, .ref e7, .ref e8, .ref e9, .ref e10, .ref e11, .ref e12] := (X.same s12).app (ws := [.ref e12]) ⟨⟨e12, some d12, rfl, h12, _, x12⟩, trivial⟩
    have el := s12 _ _ el
    refine ⟨by show 6 ≤ sizeLine; decide, fun m1 G1 _ _ t1 f1 => ⟨l0, m1, _, _, rfl, rfl, t1 _ _ el, f1, by show 13 ≤ sizeLine; decide, fun l1 J1 _ u1 el => ?_⟩⟩
    have S := S.trans (t1.trans u1)
    have X := X.same (t1.trans u1)
    refine ⟨.ref l1, rfl, x, rfl, x, rfl, fun e13 d13 H13 s13 h13 x13 => ?_⟩
    have S := S.trans s13
    have X : Exs H13 cs 0 [.ref e0, .ref e1, .ref e2, .ref e3, .ref e4, .ref e5, .ref e6, .ref e7, .ref e8, .ref e9, .ref e10, .ref e11, .ref e12, .ref e13] := (X.same s13).app (ws := [.ref e13]) ⟨⟨e13, some d13, rfl, h13, _, x13⟩, trivial⟩
    have el := s13 _ _ el
    refine ⟨x, rfl, x, rfl, fun e14 d14 H14 s14 h14 x14 => ?_⟩
    have S := S.trans s14
    have X : Exs H14 cs 0 [.ref e0, .ref e1, .ref e2, .ref e3, .ref e4, .ref e5, .ref e6, .ref e7, .ref e8, .ref e9, .ref e10, .ref e11, .ref e12, .ref e13, .ref e14] := (X.same s14).app (ws := [.ref e14]) ⟨⟨e14, some d14, rfl, h14, _, x14⟩, trivial⟩
    have el := s14 _ _ el
    refine ⟨x, rfl, x, rfl, fun e15 d15 H15 s15 h15 x15 => ?_⟩
    have S := S.trans s15
    have X : Exs H15 cs 0 [.ref e0, .ref e1, .ref e2, .ref e3, .ref e4, .ref e5, .ref e6, .ref e7, .ref e8, .ref e9, .ref e10, .ref e11, .ref e12, .ref e13, .ref e14, .ref e15] := (X.same s15).app (ws := [.ref e15]) ⟨⟨e15, some d15, rfl, h15, _, x15⟩, trivial⟩
    have el := s15 _ _ el
    refine ⟨by show 3 ≤ sizeLine; decide, fun m2 G2 _ _ t2 f2 => ⟨l1, m2, _, _, rfl, rfl, t2 _ _ el, f2, by show 16 ≤ sizeLine; decide, fun l2 J2 _ u2 e => ?_⟩⟩
    exact q J2 l2 _ (S.trans (t2.trans u2)) e rfl (X.same (t2.trans u2))
end
end TR
namespace TR
open PySem PySem.Spec PyProof.Rows L2
def kitTab (K : PySem.W.Frag) (cs : List Addr) (cB : Addr) : Bool := (List.range 25).all fun i => ((List.range 25).all fun j => PySem.W.kitOne K (.ref (cs.getD i 0)) (.ref (cs.getD j 0)) == some (decide (i = j))) && (PySem.W.kitOne K (.ref (cs.getD i 0)) (.ref cB) == some true && PySem.W.kitOne K (.ref (cs.getD i 0)) (.type "ValueError") == some true)
theorem kitTab_ok {K : PySem.W.Frag} {cs : List Addr} {cB : Addr} (h : kitTab K cs cB = true) : (∀ i j, i < 25 → j < 25 → PySem.W.kitOne K (.ref (cs.getD i 0)) (.ref (cs.getD j 0)) = some (decide (i = j))) ∧ (∀ i, i < 25 → PySem.W.kitOne K (.ref (cs.getD i 0)) (.ref cB) = some true) ∧ (∀ i, i < 25 → PySem.W.kitOne K (.ref (cs.getD i 0)) (.type "ValueError") = some true) := by
  have a : ∀ i, i < 25 → _ := fun i hi => Bool.and_eq_true_iff.mp (List.all_eq_true.mp h i (List.mem_range.mpr hi))
  refine ⟨fun i j hi hj => ?_, fun i hi => ?_, fun i hi => ?_⟩
  · exact beq_iff_eq.mp (List.all_eq_true.mp (a i hi).1 j (List.mem_range.mpr hj))
  · exact beq_iff_eq.mp (Bool.and_eq_true_iff.mp (a i hi).2).1
  · exact beq_iff_eq.mp (Bool.and_eq_true_iff.mp (a i hi).2).2
end TR
namespace TR
open PySem PySem.Spec PyProof.Rows L2
theorem scLaw : FnScope ["_law_script", "_law_deck_here", "_law_limits", "_law_turn", "_law_one_here", "_law_others", "_law_errors", "_law_at", "_law_error", "_law_k"] ["_law_script"] (defScope sLaw) := ⟨rfl, rfl, rfl, by decide +kernel, rfl, by decide +kernel, by decide +kernel⟩
theorem enum_walkL {K : PySem.W.Frag} {a : Addr} {xs : List V} : Walk (Ite K a) xs.length (fun H => SqL K H a xs) (YPair (fun i => some (.int ((i : Nat) : Int))) (fun i => xs[i]?)) :=
  ⟨fun i H hi h => ⟨xs, xs[i], h, List.getElem?_eq_getElem hi⟩, fun H h => ⟨xs, h, Nat.le_refl _⟩, fun i H v H' hi h y => by
    obtain ⟨T, x, e1, e2, e3, e4⟩ := y
    exact ⟨T, _, x, e1, e2, e3, rfl, e4 xs h⟩⟩
theorem flag_eq (i : Nat) : flag i = (List.range 25).map fun j => decide (i = j) := rfl
def limD : PyData := .list [.int 8, .int 16, .int (10 ^ 12), .int 60, .int 20, .int 100]
theorem limD_ok : limD.showable = true ∧ limD.depth ≤ 50 ∧ limD.shown.length ≤ sizeLine := by
  have h : Wf 6 1 limD := by
    refine .inr (.inr ⟨_, .inl rfl, by show 6 ≤ 6; decide, ?_⟩)
    refine List.forall_mem_cons.mpr ⟨by show _ ≤ 10 ^ 59 + 6; decide +kernel, List.forall_mem_cons.mpr ⟨by show _ ≤ 10 ^ 59 + 6; decide +kernel, List.forall_mem_cons.mpr ⟨by show _ ≤ 10 ^ 59 + 6; decide +kernel, List.forall_mem_cons.mpr ⟨by show _ ≤ 10 ^ 59 + 6; decide +kernel, List.forall_mem_cons.mpr ⟨by show _ ≤ 10 ^ 59 + 6; decide +kernel, List.forall_mem_cons.mpr ⟨by show _ ≤ 10 ^ 59 + 6; decide +kernel, fun _ h => absurd h (by simp)⟩⟩⟩⟩⟩⟩
  obtain ⟨q1, q2, q3⟩ := h.shown (by decide)
  exact ⟨q2, by omega, Nat.le_trans q1 (bnd_small (by decide))⟩
section
variable {P : Program} {w : World} {K : PySem.W.Frag} {mg : Str → Option Value} {base : Heap} {cs : Nat → Addr}
set_option maxHeartbeats 1000000 in
theorem ok_law {f fDk fO fFl fF fW cB : Addr} {fd dDk dO dFl dF dW : FuncData} {t1 t2 t3 t4 t5 t6 : Tok} (F : Fun K "law" "law" sLaw f fd)
    (kDk : PySem.W.keepIn K (.ref fDk) = true) (bDk : Binds K dDk ["_law_script"] []) (gDk : mg "_law_deck" = some (.ref fDk)) (GDk : FnOk P w K mg base CX0 5 fDk dDk ["_law_script"] (spDeck K))
    (kO : PySem.W.keepIn K (.ref fO) = true) (bO : Binds K dO ["_law_deck_here"] []) (gO : mg "_law_odd" = some (.ref fO)) (GO : FnOk P w K mg base CX0 5 fO dO ["_law_deck_here"] spOdd)
    (kFl : PySem.W.keepIn K (.ref fFl) = true) (bFl : Binds K dFl ["_law_error"] []) (gFl : mg "_law_flags" = some (.ref fFl)) (GFl : FnOk P w K mg base CX0 5 fFl dFl ["_law_error"] (spFlags cs))
    (kF : PySem.W.keepIn K (.ref fF) = true) (bF : Binds K dF ["_law_one_here"] []) (gF : mg "_law_fields" = some (.ref fF)) (GF : FnOk P w K mg base CX0 5 fF dF ["_law_one_here"] spFields)
    (kW : PySem.W.keepIn K (.ref fW) = true) (bW : Binds K dW ["_law_one_here"] []) (gW : mg "_law_with_field" = some (.ref fW)) (GW : FnOk P w K mg base CX0 5 fW dW ["_law_one_here"] (spWith cs))
    (l1 : mg "MAX_DISHES" = some (.int 8 t1)) (l2 : mg "MAX_TASTERS" = some (.int 16 t2)) (l3 : mg "MAX_WEIGHT" = some (.int 1000000000000 t3)) (l4 : mg "MAX_OPERATIONS" = some (.int 60 t4)) (l5 : mg "MAX_BATCH" = some (.int 20 t5)) (l6 : mg "LOG_SIZE" = some (.int 100 t6))
    (ec : ∀ i, i < 25 → ExcC K (cs i)) (gB : mg "TasteError" = some (.ref cB)) (kB : ∀ i, i < 25 → PySem.W.kitOne K (.ref (cs i)) (.ref cB) = some true) (kV : ∀ i, i < 25 → PySem.W.kitOne K (.ref (cs i)) (.type "ValueError") = some true)
    (q16 : PySem.W.excIn K (cs 16) [.type "ValueError", .type "Exception", .type "BaseException", .type "object"] "ValueError.__new__" = true) (g16 : mg "NoSeating" = some (.ref (cs 16))) (k16 : PySem.W.keepIn K (.ref (cs 16)) = true) (q17 : PySem.W.excIn K (cs 17) [.type "ValueError", .type "Exception", .type "BaseException", .type "object"] "ValueError.__new__" = true) (g17 : mg "NoMenu" = some (.ref (cs 17))) (k17 : PySem.W.keepIn K (.ref (cs 17)) = true) (q18 : PySem.W.excIn K (cs 18) [.type "ValueError", .type "Exception", .type "BaseException", .type "object"] "ValueError.__new__" = true) (g18 : mg "NoCuts" = some (.ref (cs 18))) (k18 : PySem.W.keepIn K (.ref (cs 18)) = true) (q19 : PySem.W.excIn K (cs 19) [.type "ValueError", .type "Exception", .type "BaseException", .type "object"] "ValueError.__new__" = true) (g19 : mg "NoSpan" = some (.ref (cs 19))) (k19 : PySem.W.keepIn K (.ref (cs 19)) = true) (q20 : PySem.W.excIn K (cs 20) [.type "ValueError", .type "Exception", .type "BaseException", .type "object"] "ValueError.__new__" = true) (g20 : mg "NoPlaces" = some (.ref (cs 20))) (k20 : PySem.W.keepIn K (.ref (cs 20)) = true) (q21 : PySem.W.excIn K (cs 21) [.type "ValueError", .type "Exception", .type "BaseException", .type "object"] "ValueError.__new__" = true) (g21 : mg "LastOne" = some (.ref (cs 21))) (k21 : PySem.W.keepIn K (.ref (cs 21)) = true) (q22 : PySem.W.excIn K (cs 22) [.type "ValueError", .type "Exception", .type "BaseException", .type "object"] "ValueError.__new__" = true) (g22 : mg "Empty" = some (.ref (cs 22))) (k22 : PySem.W.keepIn K (.ref (cs 22)) = true) (q23 : PySem.W.excIn K (cs 23) [.type "ValueError", .type "Exception", .type "BaseException", .type "object"] "ValueError.__new__" = true) (g23 : mg "NothingToUndo" = some (.ref (cs 23))) (k23 : PySem.W.keepIn K (.ref (cs 23)) = true) (q24 : PySem.W.excIn K (cs 24) [.type "ValueError", .type "Exception", .type "BaseException", .type "object"] "ValueError.__new__" = true) (g24 : mg "NoOperations" = some (.ref (cs 24))) (k24 : PySem.W.keepIn K (.ref (cs 24)) = true)
    (mr : mg "range" = none) (misi : mg "isinstance" = none) (mrp : mg "repr" = none) (me : mg "enumerate" = none) (mv : mg "ValueError" = none) : RunG P w K mg base 6 f fd ["_law_script"] (spLaw K) := by
  refine okG F scLaw (fun vs H Q E h => ?_) (fun cdv A outer s H vs Q E hg hr h => ?_)
  · obtain ⟨a, ns, rfl, _⟩ := h
    rfl
  · obtain ⟨a, ns, rfl, hS, hlen, qq⟩ := h
    refine ⟨_, (pss_cons (ps_set (i := 1) scLaw.nd rfl (.inl rfl) (pe_call GDk hr (by rfl) gDk kDk bDk .nil pass0 (pa_cons (pv 0) pa_nil)))
      (pss_cons (ps_set (i := 2) scLaw.nd rfl (.inl rfl) (pe_lstN (pa_cons (pe_glob (v := .int 8) (by rfl) l1 ⟨_, rfl⟩) (pa_cons (pe_glob (v := .int 16) (by rfl) l2 ⟨_, rfl⟩) (pa_cons (pe_glob (v := .int 1000000000000) (by rfl) l3 ⟨_, rfl⟩) (pa_cons (pe_glob (v := .int 60) (by rfl) l4 ⟨_, rfl⟩) (pa_cons (pe_glob (v := .int 20) (by rfl) l5 ⟨_, rfl⟩) (pa_cons (pe_glob (v := .int 100) (by rfl) l6 ⟨_, rfl⟩) pa_nil))))))))
      (pss_cons (ps_if (pt_cmpR op_ne (pe_callB (call_reprD hg hr.units) (by rfl) mrp (by decide +kernel) (pa_cons (pv 2) pa_nil)) (pe_callB (call_reprD hg hr.units) (by rfl) mrp (by decide +kernel) (pa_cons (pe_lstN (pa_cons pe_int (pa_cons pe_int (pa_cons (pe_op op_pow pe_int pe_int) (pa_cons pe_int (pa_cons pe_int (pa_cons pe_int pa_nil))))))) pa_nil)) (nomark _)) (pss_one (ps_ret pe_bl)) pss_nil)
      (pss_cons (ps_for PassesOwn.never rfl (pi_range1 (by rfl) mr (pa_cons pe_int pa_nil)) (pg_name (i := 3) scLaw.nd rfl (.inl rfl)) (pss_cons (ps_set (i := 4) scLaw.nd rfl (.inl rfl) (pe_call GO hr (by rfl) gO kO bO .nil pass0 (pa_cons (pv 1) pa_nil)))
      (pss_cons (ps_if (pt_cmpR op_ne (pe_callB (call_reprD hg hr.units) (by rfl) mrp (by decide +kernel) (pa_cons (pe_call GF hr (by rfl) gF kF bF .nil pass0 (pa_cons (pv 4) pa_nil)) pa_nil)) (pe_callB (call_reprD hg hr.units) (by rfl) mrp (by decide +kernel) (pa_cons (pe_op op_rep16 (pe_lstN (pa_cons (pv 4) pa_nil)) pe_int) pa_nil)) (nomark _)) (pss_one (ps_ret pe_bl)) pss_nil)
      (pss_cons (ps_set (i := 5) scLaw.nd rfl (.inl rfl) (pe_lstN (pa_cons (pe_mk0 PySem.F.excBase_ValueError q16 g16 k16 (by rfl)) (pa_cons (pe_mk0 PySem.F.excBase_ValueError q17 g17 k17 (by rfl)) (pa_cons (pe_mk0 PySem.F.excBase_ValueError q18 g18 k18 (by rfl)) (pa_cons (pe_mk0 PySem.F.excBase_ValueError q19 g19 k19 (by rfl)) (pa_cons (pe_mk0 PySem.F.excBase_ValueError q20 g20 k20 (by rfl)) (pa_cons (pe_mk0 PySem.F.excBase_ValueError q21 g21 k21 (by rfl)) (pa_cons (pe_mk0 PySem.F.excBase_ValueError q22 g22 k22 (by rfl)) (pa_cons (pe_mk0 PySem.F.excBase_ValueError q23 g23 k23 (by rfl)) pa_nil))))))))))
      (pss_cons (ps_set (i := 6) scLaw.nd rfl (.inl rfl) (pe_op op_catN (pe_op op_catN (pe_call GW hr (by rfl) gW kW bW .nil pass0 (pa_cons (pv 4) pa_nil)) (pv 5)) (pe_lstN (pa_cons (pe_mk0 PySem.F.excBase_ValueError q24 g24 k24 (by rfl)) pa_nil))))
      (pss_one (ps_for PassesOwn.never rfl (pi_enum (by rfl) me (pa_cons (pv 6) pa_nil)) (pg_tup (by rfl) (pgs_cons (pg_name (i := 7) scLaw.nd rfl (.inr rfl)) (pgs_cons (pg_name (i := 8) scLaw.nd rfl (.inl rfl)) pgs_nil))) (pss_cons (ps_if (pt_cmpR (op_neD hr.units) (pe_call GFl hr (by rfl) gFl kFl bFl .nil pass0 (pa_cons (pv 8) pa_nil)) (pe_lc (own := [("_law_k", 9)]) (g := gName 9) (tt := tYes) (by rfl) scLaw.nd (pi_range1 (by rfl) mr (pa_cons pe_int pa_nil)) (blkOk_by (own := [("_law_k", 9)]) (N := ["_law_script", "_law_deck_here", "_law_limits", "_law_turn", "_law_one_here", "_law_others", "_law_errors", "_law_at", "_law_error", "_law_k"]) (sc := defScope sLaw) (by decide +kernel)) (fun _ _ _ _ _ => pg_name (i := 9) scLaw.nd rfl (Or.inl rfl)) (fun _ _ _ _ _ => pts_nil) (fun _ _ _ _ _ => pe_cmpR op_eq (pv 9) (pv 7) (nomark _))) (nomark _)) (pss_one (ps_ret pe_bl)) pss_nil)
      (pss_one (ps_if (PW.pt (pw_or (pt_not (pt_val (pe_callB call_isF (by rfl) misi (by decide +kernel) (pa_cons (pv 8) (pa_cons (pe_glob (v := .ref cB) (by rfl) gB rfl) pa_nil))))) (pw_or1 (pt_not (pt_val (pe_callB call_isF (by rfl) misi (by decide +kernel) (pa_cons (pv 8) (pa_cons (pe_bltn (v := .ty "ValueError") (by rfl) mv (by decide +kernel) rfl) pa_nil)))))))) (pss_one (ps_ret pe_bl)) pss_nil))))))))))
      (pss_one (ps_ret pe_bl)))))), ?_⟩
    refine ⟨.ref a, rfl, a, ns, rfl, hS, hlen, fun H1 d p q s1 D1 => ?_⟩
    refine ⟨by show 6 ≤ sizeLine; decide, fun ll H2 hll nll s2 e2 => ?_⟩
    obtain ⟨q1, q2, q3⟩ := limD_ok
    have D2 := D1.same s2
    refine ⟨.ref ll, rfl, .ref ll, limD, [d, p, sysModules], rfl, by simp, ⟨ll, _, rfl, e2, by simp only [List.mem_cons, List.not_mem_nil, or_false, not_or]; exact ⟨D1.ned hll, D1.nep hll, nll⟩, _, _, rfl, rfl, _, _, rfl, rfl, _, _, rfl, rfl, _, _, rfl, rfl, _, _, rfl, rfl, _, _, rfl, rfl, rfl⟩, q1, q2, q3, ?_⟩
    refine ⟨10, 12, rfl, rfl, ⟨by decide, by decide, by decide⟩, by show 6 ≤ sizeLine; decide, fun lm H3 hlm nlm s3 e3 => ?_⟩
    refine ⟨.ref lm, limD, [d, p, sysModules], rfl, by simp, ⟨lm, _, rfl, e3, by simp only [List.mem_cons, List.not_mem_nil, or_false, not_or]; exact ⟨D2.ned hlm, D2.nep hlm, nlm⟩, _, _, rfl, rfl, _, _, rfl, rfl, _, _, rfl, rfl, _, _, rfl, rfl, _, _, rfl, rfl, _, _, rfl, rfl, rfl⟩, q1, q2, q3, rfl, _, rfl, iteNS rfl ?_⟩
    have D3 := D2.same s3
    refine ⟨4, rfl, by decide, by decide, for_range (n := 4) (lo := 0) (fun i σ H4 => (∃ y3 y4 y5 y6 y7 y8 y9, σ = [some (.ref a), some (.ref d), some (.ref ll), y3, y4, y5, y6, y7, y8, y9]) ∧ Deck H4 d p q i) ⟨⟨_, _, _, _, _, _, _, rfl⟩, D3⟩ (fun i σ H4 hi h => ?_) (fun σ H4 h => qq H4)⟩
    obtain ⟨⟨y3, y4, y5, y6, y7, y8, y9, rfl⟩, D4⟩ := h
    refine ⟨.ref d, rfl, d, p, q, i, rfl, D4, by omega, fun H5 x dd D5 k5 rp wf => ?_⟩
    obtain ⟨w1, w2, w3⟩ := shown16 wf
    refine ⟨x, rfl, x, rfl, fun H6 l6 s6 hl6 nl6 e6 => ?_⟩
    have D6 := D5.same s6
    refine ⟨.ref l6, .list (List.replicate 16 dd), [d, p, sysModules], rfl, by simp, ⟨l6, _, rfl, e6, by simp only [List.mem_cons, List.not_mem_nil, or_false, not_or]; exact ⟨D5.ned hl6, D5.nep hl6, nl6⟩, RpAll.rep (rp.same s6) 16⟩, w1, w2, w3, ?_⟩
    refine ⟨x, rfl, by show 1 ≤ sizeLine; decide, fun l7 H7 _ _ s7 e7 => ⟨l7, x, rfl, rfl, e7, fun l8 H8 hl8 nl8 s8 e8 => ?_⟩⟩
    have D7 := D6.same s7
    refine ⟨.ref l8, .list (List.replicate 16 dd), [d, p, sysModules], rfl, by simp, ⟨l8, _, rfl, e8, by simp only [List.mem_cons, List.not_mem_nil, or_false, not_or]; exact ⟨D7.ned hl8, D7.nep hl8, nl8⟩, RpAll.rep (((rp.same s6).same s7).same s8) 16⟩, w1, w2, w3, rfl, _, rfl, iteNS rfl ?_⟩
    have D8 := D7.same s8
    clear e6 e7 e8 rp
    have S : Same H8 H8 := Same.refl _
    have X : Exs H8 cs 16 [] := trivial
    refine fun e16 G16 s16 h16 => ?_
    have S := S.trans s16
    have X : Exs G16 cs 16 [.ref e16] := (X.same s16).app (ws := [.ref e16]) ⟨⟨e16, none, rfl, h16, trivial⟩, trivial⟩
    refine fun e17 G17 s17 h17 => ?_
    have S := S.trans s17
    have X : Exs G17 cs 16 [.ref e16, .ref e17] := (X.same s17).app (ws := [.ref e17]) ⟨⟨e17, none, rfl, h17, trivial⟩, trivial⟩
    refine fun e18 G18 s18 h18 => ?_
    have S := S.trans s18
    have X : Exs G18 cs 16 [.ref e16, .ref e17, .ref e18] := (X.same s18).app (ws := [.ref e18]) ⟨⟨e18, none, rfl, h18, trivial⟩, trivial⟩
    refine fun e19 G19 s19 h19 => ?_
    have S := S.trans s19
    have X : Exs G19 cs 16 [.ref e16, .ref e17, .ref e18, .ref e19] := (X.same s19).app (ws := [.ref e19]) ⟨⟨e19, none, rfl, h19, trivial⟩, trivial⟩
    refine fun e20 G20 s20 h20 => ?_
    have S := S.trans s20
    have X : Exs G20 cs 16 [.ref e16, .ref e17, .ref e18, .ref e19, .ref e20] := (X.same s20).app (ws := [.ref e20]) ⟨⟨e20, none, rfl, h20, trivial⟩, trivial⟩
    refine fun e21 G21 s21 h21 => ?_
    have S := S.trans s21
    have X : Exs G21 cs 16 [.ref e16, .ref e17, .ref e18, .ref e19, .ref e20, .ref e21] := (X.same s21).app (ws := [.ref e21]) ⟨⟨e21, none, rfl, h21, trivial⟩, trivial⟩
    refine fun e22 G22 s22 h22 => ?_
    have S := S.trans s22
    have X : Exs G22 cs 16 [.ref e16, .ref e17, .ref e18, .ref e19, .ref e20, .ref e21, .ref e22] := (X.same s22).app (ws := [.ref e22]) ⟨⟨e22, none, rfl, h22, trivial⟩, trivial⟩
    refine fun e23 G23 s23 h23 => ?_
    have S := S.trans s23
    have X : Exs G23 cs 16 [.ref e16, .ref e17, .ref e18, .ref e19, .ref e20, .ref e21, .ref e22, .ref e23] := (X.same s23).app (ws := [.ref e23]) ⟨⟨e23, none, rfl, h23, trivial⟩, trivial⟩
    refine ⟨by show 8 ≤ sizeLine; decide, fun lo Ha _ _ sa ea => ?_⟩
    have Da := D8.same (S.trans sa)
    have X := X.same sa
    refine ⟨x, rfl, x, rfl, fun Hb lw es sb eb hes Xb => ?_⟩
    refine ⟨.ref lo, rfl, lw, lo, es, _, rfl, rfl, eb, sb _ _ ea, by rw [hes]; show 16 + 8 ≤ sizeLine; decide, fun lc Hc _ sc ecl => ?_⟩
    refine fun e24 Hd sd h24 => ⟨by show 1 ≤ sizeLine; decide, fun lt He _ _ se ee => ?_⟩
    refine ⟨lc, lt, _, _, rfl, rfl, se _ _ (sd _ _ ecl), ee, by rw [List.length_append, hes]; show 16 + 8 + 1 ≤ sizeLine; decide, fun lf Hf _ sf ef => ?_⟩
    have sbf := sc.trans (sd.trans (se.trans sf))
    have saf := sb.trans sbf
    have Df := Da.same saf
    have X24 : Exs Hf cs 24 [.ref e24] := ⟨⟨e24, none, rfl, (se.trans sf) _ _ h24, trivial⟩, trivial⟩
    have Xall : Exs Hf cs 0 ((es ++ [V.ref e16, V.ref e17, V.ref e18, V.ref e19, V.ref e20, V.ref e21, V.ref e22, V.ref e23]) ++ [.ref e24]) := by
      refine Exs.app (Exs.app (Xb.same sbf) ?_) ?_
      · rw [hes]
        exact X.same saf
      · rw [List.length_append, hes]
        exact X24
    have elen : ((es ++ [V.ref e16, V.ref e17, V.ref e18, V.ref e19, V.ref e20, V.ref e21, V.ref e22, V.ref e23]) ++ [V.ref e24]).length = 25 := by
      rw [List.length_append, List.length_append, hes]
      rfl
    generalize (es ++ [V.ref e16, V.ref e17, V.ref e18, V.ref e19, V.ref e20, V.ref e21, V.ref e22, V.ref e23]) ++ [V.ref e24] = errs at ef Xall elen
    refine ⟨.ref lf, rfl, lf, _, rfl, sqL ef, ?_⟩
    refine for_it (enum_walkL (K := K) (a := lf) (xs := errs)) (fun m σ Hg => (∃ y3 y4 y5 y7 y8 y9, σ = [some (.ref a), some (.ref d), some (.ref ll), y3, y4, y5, some (.ref lf), y7, y8, y9]) ∧ Same Hf Hg)
      ⟨⟨_, _, _, _, _, _, rfl⟩, Same.refl _⟩ (fun m σ Hg _ h => h.2.seq (sqL ef)) (fun m z σ Hg Hh hm h y => ?_) (fun σ Hg h => ?_)
    · obtain ⟨⟨y3, y4, y5, y7, y8, y9, rfl⟩, sg⟩ := h
      obtain ⟨T, u, v, rfl, hT, rfl, hu, hv⟩ := y
      cases hu
      replace hv : errs[m]? = some v := hv
      have hm25 : m < 25 := by rw [← elen]; exact hm
      obtain ⟨er, de, rfl, her, hde⟩ := Xall.get hv
      rw [Nat.zero_add] at her
      have sh : Same Hf (upd Hg T (.tup [.int (m : Int), .ref er])) := sg.trans (same_upd hT)
      refine ⟨T, _, rfl, sqT upd_same, rfl, _, _, rfl, _, _, rfl, rfl, ?_⟩
      generalize upd Hg T (.tup [.int (m : Int), .ref er]) = Hh at sh ⊢
      refine ⟨.ref er, rfl, er, m, de, rfl, hm25, sh _ _ her, hde.same sh, fun Hi lr si ei => ?_⟩
      refine ⟨25, rfl, by decide, by decide, fun D hD => walk_in (n := 25) (lo := 0) (fun j Hj => Same Hi Hj ∧ Hj D = some (.lst (((List.range j).map fun t => decide (m = t)).map V.bl))) ⟨same_upd hD, upd_same⟩ (fun j Hj hj h => ?_) (fun Hj h => ?_)⟩
      · obtain ⟨sj, ej⟩ := h
        refine ⟨rfl, .int (0 + (j : Int)), rfl, .int (m : Int), rfl, rfl, _, ej, by rw [List.length_map, List.length_map, List.length_range]; exact small1000 (by omega), same_upd2 sj hD, ?_⟩
        rw [upd_same, map_succ, List.map_append]
        have eb : decide (V.int (0 + (j : Int)) = V.int (m : Int)) = decide (m = j) := decide_eq_decide.mpr ⟨fun h => by injection h with h; omega, fun h => by rw [h, Int.zero_add]⟩
        show some (HO.lst (_ ++ [V.bl (decide (V.int (0 + (j : Int)) = V.int (m : Int)))])) = _
        rw [eb]
        rfl
      · obtain ⟨sj, ej⟩ := h
        rw [← flag_eq] at ej
        refine ⟨_, _, .lst (sqL (sj _ _ ei)) (dpAll_bls (flag m)), .lst (sqL ej) (dpAll_bls (flag m)), shaped_bls _, shaped_bls _, _, rfl, ?_⟩
        rw [show PyData.eqv (.list ((flag m).map PyData.bool)) (.list ((flag m).map PyData.bool)) = true from eqv_bls (flag m)]
        refine iteF ?_
        have shj := sh.trans (si.trans sj)
        refine ⟨.ref er, rfl, er, cs m, de, .ref cB, _, true, rfl, shj _ _ her, hde.same shj, ec m hm25, .own _, kB m hm25, _, rfl, iteF ?_⟩
        refine ⟨.ref er, rfl, er, cs m, de, .ty "ValueError", _, true, rfl, shj _ _ her, hde.same shj, ec m hm25, .ty _, kV m hm25, _, rfl, iteF ?_⟩
        exact ⟨⟨_, _, _, _, _, _, rfl⟩, shj⟩
    · obtain ⟨⟨y3, y4, y5, y7, y8, y9, rfl⟩, sg⟩ := h
      exact ⟨⟨_, _, _, _, _, _, _, rfl⟩, (Df.same sg).mono (by omega)⟩
end
end TR
namespace TR
open PySem PySem.Spec PyProof.Rows L2
theorem all_mk {l : PySem.W.OpenLaw} {w : World} {K : PySem.W.Frag} {h : Heap} {mg : Str → Option Value} {fa f0 f1 f2 f3 f4 f5 f6 : Addr} (X : K.In h) (G : h.Ns mainGlobals mg) (hfa : mg "law" = some (.ref fa))
    {od0 an0 od1 an1 od2 an2 od3 an3 od4 an4 od5 an5 od6 an6 : Option Addr} {sl0 sl1 sl2 sl3 sl4 sl5 sl6 : Array (Option Value)} {oc0 kV0 dc0 pm0 cd0 ct0 oc1 kV1 dc1 pm1 cd1 ct1 oc2 kV2 dc2 pm2 cd2 ct2 oc3 kV3 dc3 pm3 cd3 ct3 oc4 kV4 dc4 pm4 cd4 ct4 oc5 kV5 dc5 pm5 cd5 ct5 oc6 kV6 dc6 pm6 cd6 ct6 : Value}
    (a0 : PySem.W.nsIn K mainGlobals "_law_deck" = some (some (.ref f0))) (l0 : K.lookup f0 = some ⟨oc0, od0, .func (PySem.W.fnOf "_law_deck" "_law_deck" (defArgs sDeck) (defBody sDeck) (defScope sDeck) .none kV0 dc0 pm0 an0 cd0 ct0), sl0⟩) (c0 : PySem.W.codeIn K cd0 "_law_deck" = true) (k0 : PySem.W.keepIn K (.ref f0) = true)
    (a1 : PySem.W.nsIn K mainGlobals "_law_next" = some (some (.ref f1))) (l1 : K.lookup f1 = some ⟨oc1, od1, .func (PySem.W.fnOf "_law_next" "_law_next" (defArgs sNext) (defBody sNext) (defScope sNext) .none kV1 dc1 pm1 an1 cd1 ct1), sl1⟩) (c1 : PySem.W.codeIn K cd1 "_law_next" = true) (k1 : PySem.W.keepIn K (.ref f1) = true)
    (a2 : PySem.W.nsIn K mainGlobals "_law_odd" = some (some (.ref f2))) (l2 : K.lookup f2 = some ⟨oc2, od2, .func (PySem.W.fnOf "_law_odd" "_law_odd" (defArgs sOdd) (defBody sOdd) (defScope sOdd) .none kV2 dc2 pm2 an2 cd2 ct2), sl2⟩) (c2 : PySem.W.codeIn K cd2 "_law_odd" = true) (k2 : PySem.W.keepIn K (.ref f2) = true)
    (a3 : PySem.W.nsIn K mainGlobals "_law_flags" = some (some (.ref f3))) (l3 : K.lookup f3 = some ⟨oc3, od3, .func (PySem.W.fnOf "_law_flags" "_law_flags" (defArgs sFlags) (defBody sFlags) (defScope sFlags) .none kV3 dc3 pm3 an3 cd3 ct3), sl3⟩) (c3 : PySem.W.codeIn K cd3 "_law_flags" = true) (k3 : PySem.W.keepIn K (.ref f3) = true)
    (a4 : PySem.W.nsIn K mainGlobals "_law_with_field" = some (some (.ref f4))) (l4 : K.lookup f4 = some ⟨oc4, od4, .func (PySem.W.fnOf "_law_with_field" "_law_with_field" (defArgs sWith) (defBody sWith) (defScope sWith) .none kV4 dc4 pm4 an4 cd4 ct4), sl4⟩) (c4 : PySem.W.codeIn K cd4 "_law_with_field" = true) (k4 : PySem.W.keepIn K (.ref f4) = true)
    (a5 : PySem.W.nsIn K mainGlobals "_law_fields" = some (some (.ref f5))) (l5 : K.lookup f5 = some ⟨oc5, od5, .func (PySem.W.fnOf "_law_fields" "_law_fields" (defArgs sFields) (defBody sFields) (defScope sFields) .none kV5 dc5 pm5 an5 cd5 ct5), sl5⟩) (c5 : PySem.W.codeIn K cd5 "_law_fields" = true) (k5 : PySem.W.keepIn K (.ref f5) = true)
    (a6 : PySem.W.nsIn K mainGlobals "law" = some (some (.ref f6))) (l6 : K.lookup f6 = some ⟨oc6, od6, .func (PySem.W.fnOf "law" "law" (defArgs sLaw) (defBody sLaw) (defScope sLaw) .none kV6 dc6 pm6 an6 cd6 ct6), sl6⟩) (c6 : PySem.W.codeIn K cd6 "law" = true) (k6 : PySem.W.keepIn K (.ref f6) = true)
    {tc0 : Tok} (zc0 : PySem.W.nsIn K mainGlobals "MAX_DISHES" = some (some (.int 8 tc0)))
    {tc1 : Tok} (zc1 : PySem.W.nsIn K mainGlobals "MAX_TASTERS" = some (some (.int 16 tc1)))
    {tc2 : Tok} (zc2 : PySem.W.nsIn K mainGlobals "MAX_WEIGHT" = some (some (.int 1000000000000 tc2)))
    {tc3 : Tok} (zc3 : PySem.W.nsIn K mainGlobals "MAX_OPERATIONS" = some (some (.int 60 tc3)))
    {tc4 : Tok} (zc4 : PySem.W.nsIn K mainGlobals "MAX_BATCH" = some (some (.int 20 tc4)))
    {tc5 : Tok} (zc5 : PySem.W.nsIn K mainGlobals "LOG_SIZE" = some (some (.int 100 tc5)))
    {cB cX0 cX1 cX2 cX3 cX4 cX5 cX6 cX7 cX8 cX9 cX10 cX11 cX12 cX13 cX14 cX15 cX16 cX17 cX18 cX19 cX20 cX21 cX22 cX23 cX24 iX0 iX1 iX2 iX3 iX4 iX5 iX6 iX7 iX8 iX9 iX10 iX11 iX12 iX13 iX14 iX15 : Addr}
    (eB : PySem.W.nsIn K mainGlobals "TasteError" = some (some (.ref cB)))
    (n0 : PySem.W.nsIn K mainGlobals "NoRanking" = some (some (.ref cX0)))
    (n1 : PySem.W.nsIn K mainGlobals "NoWeight" = some (some (.ref cX1)))
    (n2 : PySem.W.nsIn K mainGlobals "NoTaster" = some (some (.ref cX2)))
    (n3 : PySem.W.nsIn K mainGlobals "NoDish" = some (some (.ref cX3)))
    (n4 : PySem.W.nsIn K mainGlobals "NoIndex" = some (some (.ref cX4)))
    (n5 : PySem.W.nsIn K mainGlobals "NotSeatable" = some (some (.ref cX5)))
    (n6 : PySem.W.nsIn K mainGlobals "NoSize" = some (some (.ref cX6)))
    (n7 : PySem.W.nsIn K mainGlobals "TooMany" = some (some (.ref cX7)))
    (n8 : PySem.W.nsIn K mainGlobals "BadDishes" = some (some (.ref cX8)))
    (n9 : PySem.W.nsIn K mainGlobals "NoName" = some (some (.ref cX9)))
    (n10 : PySem.W.nsIn K mainGlobals "UnknownName" = some (some (.ref cX10)))
    (n11 : PySem.W.nsIn K mainGlobals "NameTaken" = some (some (.ref cX11)))
    (n12 : PySem.W.nsIn K mainGlobals "NoMoment" = some (some (.ref cX12)))
    (n13 : PySem.W.nsIn K mainGlobals "Failed" = some (some (.ref cX13)))
    (n14 : PySem.W.nsIn K mainGlobals "Blocked" = some (some (.ref cX14)))
    (n15 : PySem.W.nsIn K mainGlobals "BadText" = some (some (.ref cX15)))
    (n16 : PySem.W.nsIn K mainGlobals "NoSeating" = some (some (.ref cX16)))
    (n17 : PySem.W.nsIn K mainGlobals "NoMenu" = some (some (.ref cX17)))
    (n18 : PySem.W.nsIn K mainGlobals "NoCuts" = some (some (.ref cX18)))
    (n19 : PySem.W.nsIn K mainGlobals "NoSpan" = some (some (.ref cX19)))
    (n20 : PySem.W.nsIn K mainGlobals "NoPlaces" = some (some (.ref cX20)))
    (n21 : PySem.W.nsIn K mainGlobals "LastOne" = some (some (.ref cX21)))
    (n22 : PySem.W.nsIn K mainGlobals "Empty" = some (some (.ref cX22)))
    (n23 : PySem.W.nsIn K mainGlobals "NothingToUndo" = some (some (.ref cX23)))
    (n24 : PySem.W.nsIn K mainGlobals "NoOperations" = some (some (.ref cX24)))
    (ehn : PySem.W.specialIn K (.builtin "object.__class__") "__get__" = some (some (.builtin "getset_descriptor.__get__")))
    (eht : PySem.W.takesIn K (.builtin "object.__class__") = some true)
    (ga0_ : PySem.W.findIn K (.ref cX0) "__getattribute__" = some (some (.builtin "BaseException.__getattribute__")))
    (gg0_ : PySem.W.findIn K (.ref cX0) "__getattr__" = some none)
    (ex0_ : PySem.W.subIn K (.ref cX0) (.type "BaseException") = some true)
    (hd0_ : PySem.W.hasDictIn K cX0 = true)
    (ha0_ : PySem.W.findIn K (.ref cX0) "__class__" = some (some (.builtin "object.__class__")))
    (hm0_ : PySem.W.mroIn K cX0 (.type "object") = some true)
    (kp0_ : PySem.W.keepIn K (.ref cX0) = true)
    (ga1_ : PySem.W.findIn K (.ref cX1) "__getattribute__" = some (some (.builtin "BaseException.__getattribute__")))
    (gg1_ : PySem.W.findIn K (.ref cX1) "__getattr__" = some none)
    (ex1_ : PySem.W.subIn K (.ref cX1) (.type "BaseException") = some true)
    (hd1_ : PySem.W.hasDictIn K cX1 = true)
    (ha1_ : PySem.W.findIn K (.ref cX1) "__class__" = some (some (.builtin "object.__class__")))
    (hm1_ : PySem.W.mroIn K cX1 (.type "object") = some true)
    (kp1_ : PySem.W.keepIn K (.ref cX1) = true)
    (ga2_ : PySem.W.findIn K (.ref cX2) "__getattribute__" = some (some (.builtin "BaseException.__getattribute__")))
    (gg2_ : PySem.W.findIn K (.ref cX2) "__getattr__" = some none)
    (ex2_ : PySem.W.subIn K (.ref cX2) (.type "BaseException") = some true)
    (hd2_ : PySem.W.hasDictIn K cX2 = true)
    (ha2_ : PySem.W.findIn K (.ref cX2) "__class__" = some (some (.builtin "object.__class__")))
    (hm2_ : PySem.W.mroIn K cX2 (.type "object") = some true)
    (kp2_ : PySem.W.keepIn K (.ref cX2) = true)
    (ga3_ : PySem.W.findIn K (.ref cX3) "__getattribute__" = some (some (.builtin "BaseException.__getattribute__")))
    (gg3_ : PySem.W.findIn K (.ref cX3) "__getattr__" = some none)
    (ex3_ : PySem.W.subIn K (.ref cX3) (.type "BaseException") = some true)
    (hd3_ : PySem.W.hasDictIn K cX3 = true)
    (ha3_ : PySem.W.findIn K (.ref cX3) "__class__" = some (some (.builtin "object.__class__")))
    (hm3_ : PySem.W.mroIn K cX3 (.type "object") = some true)
    (kp3_ : PySem.W.keepIn K (.ref cX3) = true)
    (ga4_ : PySem.W.findIn K (.ref cX4) "__getattribute__" = some (some (.builtin "BaseException.__getattribute__")))
    (gg4_ : PySem.W.findIn K (.ref cX4) "__getattr__" = some none)
    (ex4_ : PySem.W.subIn K (.ref cX4) (.type "BaseException") = some true)
    (hd4_ : PySem.W.hasDictIn K cX4 = true)
    (ha4_ : PySem.W.findIn K (.ref cX4) "__class__" = some (some (.builtin "object.__class__")))
    (hm4_ : PySem.W.mroIn K cX4 (.type "object") = some true)
    (kp4_ : PySem.W.keepIn K (.ref cX4) = true)
    (ga5_ : PySem.W.findIn K (.ref cX5) "__getattribute__" = some (some (.builtin "BaseException.__getattribute__")))
    (gg5_ : PySem.W.findIn K (.ref cX5) "__getattr__" = some none)
    (ex5_ : PySem.W.subIn K (.ref cX5) (.type "BaseException") = some true)
    (hd5_ : PySem.W.hasDictIn K cX5 = true)
    (ha5_ : PySem.W.findIn K (.ref cX5) "__class__" = some (some (.builtin "object.__class__")))
    (hm5_ : PySem.W.mroIn K cX5 (.type "object") = some true)
    (kp5_ : PySem.W.keepIn K (.ref cX5) = true)
    (ga6_ : PySem.W.findIn K (.ref cX6) "__getattribute__" = some (some (.builtin "BaseException.__getattribute__")))
    (gg6_ : PySem.W.findIn K (.ref cX6) "__getattr__" = some none)
    (ex6_ : PySem.W.subIn K (.ref cX6) (.type "BaseException") = some true)
    (hd6_ : PySem.W.hasDictIn K cX6 = true)
    (ha6_ : PySem.W.findIn K (.ref cX6) "__class__" = some (some (.builtin "object.__class__")))
    (hm6_ : PySem.W.mroIn K cX6 (.type "object") = some true)
    (kp6_ : PySem.W.keepIn K (.ref cX6) = true)
    (ga7_ : PySem.W.findIn K (.ref cX7) "__getattribute__" = some (some (.builtin "BaseException.__getattribute__")))
    (gg7_ : PySem.W.findIn K (.ref cX7) "__getattr__" = some none)
    (ex7_ : PySem.W.subIn K (.ref cX7) (.type "BaseException") = some true)
    (hd7_ : PySem.W.hasDictIn K cX7 = true)
    (ha7_ : PySem.W.findIn K (.ref cX7) "__class__" = some (some (.builtin "object.__class__")))
    (hm7_ : PySem.W.mroIn K cX7 (.type "object") = some true)
    (kp7_ : PySem.W.keepIn K (.ref cX7) = true)
    (ga8_ : PySem.W.findIn K (.ref cX8) "__getattribute__" = some (some (.builtin "BaseException.__getattribute__")))
    (gg8_ : PySem.W.findIn K (.ref cX8) "__getattr__" = some none)
    (ex8_ : PySem.W.subIn K (.ref cX8) (.type "BaseException") = some true)
    (hd8_ : PySem.W.hasDictIn K cX8 = true)
    (ha8_ : PySem.W.findIn K (.ref cX8) "__class__" = some (some (.builtin "object.__class__")))
    (hm8_ : PySem.W.mroIn K cX8 (.type "object") = some true)
    (kp8_ : PySem.W.keepIn K (.ref cX8) = true)
    (ga9_ : PySem.W.findIn K (.ref cX9) "__getattribute__" = some (some (.builtin "BaseException.__getattribute__")))
    (gg9_ : PySem.W.findIn K (.ref cX9) "__getattr__" = some none)
    (ex9_ : PySem.W.subIn K (.ref cX9) (.type "BaseException") = some true)
    (hd9_ : PySem.W.hasDictIn K cX9 = true)
    (ha9_ : PySem.W.findIn K (.ref cX9) "__class__" = some (some (.builtin "object.__class__")))
    (hm9_ : PySem.W.mroIn K cX9 (.type "object") = some true)
    (kp9_ : PySem.W.keepIn K (.ref cX9) = true)
    (ga10_ : PySem.W.findIn K (.ref cX10) "__getattribute__" = some (some (.builtin "BaseException.__getattribute__")))
    (gg10_ : PySem.W.findIn K (.ref cX10) "__getattr__" = some none)
    (ex10_ : PySem.W.subIn K (.ref cX10) (.type "BaseException") = some true)
    (hd10_ : PySem.W.hasDictIn K cX10 = true)
    (ha10_ : PySem.W.findIn K (.ref cX10) "__class__" = some (some (.builtin "object.__class__")))
    (hm10_ : PySem.W.mroIn K cX10 (.type "object") = some true)
    (kp10_ : PySem.W.keepIn K (.ref cX10) = true)
    (ga11_ : PySem.W.findIn K (.ref cX11) "__getattribute__" = some (some (.builtin "BaseException.__getattribute__")))
    (gg11_ : PySem.W.findIn K (.ref cX11) "__getattr__" = some none)
    (ex11_ : PySem.W.subIn K (.ref cX11) (.type "BaseException") = some true)
    (hd11_ : PySem.W.hasDictIn K cX11 = true)
    (ha11_ : PySem.W.findIn K (.ref cX11) "__class__" = some (some (.builtin "object.__class__")))
    (hm11_ : PySem.W.mroIn K cX11 (.type "object") = some true)
    (kp11_ : PySem.W.keepIn K (.ref cX11) = true)
    (ga12_ : PySem.W.findIn K (.ref cX12) "__getattribute__" = some (some (.builtin "BaseException.__getattribute__")))
    (gg12_ : PySem.W.findIn K (.ref cX12) "__getattr__" = some none)
    (ex12_ : PySem.W.subIn K (.ref cX12) (.type "BaseException") = some true)
    (hd12_ : PySem.W.hasDictIn K cX12 = true)
    (ha12_ : PySem.W.findIn K (.ref cX12) "__class__" = some (some (.builtin "object.__class__")))
    (hm12_ : PySem.W.mroIn K cX12 (.type "object") = some true)
    (kp12_ : PySem.W.keepIn K (.ref cX12) = true)
    (ga13_ : PySem.W.findIn K (.ref cX13) "__getattribute__" = some (some (.builtin "BaseException.__getattribute__")))
    (gg13_ : PySem.W.findIn K (.ref cX13) "__getattr__" = some none)
    (ex13_ : PySem.W.subIn K (.ref cX13) (.type "BaseException") = some true)
    (hd13_ : PySem.W.hasDictIn K cX13 = true)
    (ha13_ : PySem.W.findIn K (.ref cX13) "__class__" = some (some (.builtin "object.__class__")))
    (hm13_ : PySem.W.mroIn K cX13 (.type "object") = some true)
    (kp13_ : PySem.W.keepIn K (.ref cX13) = true)
    (ga14_ : PySem.W.findIn K (.ref cX14) "__getattribute__" = some (some (.builtin "BaseException.__getattribute__")))
    (gg14_ : PySem.W.findIn K (.ref cX14) "__getattr__" = some none)
    (ex14_ : PySem.W.subIn K (.ref cX14) (.type "BaseException") = some true)
    (hd14_ : PySem.W.hasDictIn K cX14 = true)
    (ha14_ : PySem.W.findIn K (.ref cX14) "__class__" = some (some (.builtin "object.__class__")))
    (hm14_ : PySem.W.mroIn K cX14 (.type "object") = some true)
    (kp14_ : PySem.W.keepIn K (.ref cX14) = true)
    (ga15_ : PySem.W.findIn K (.ref cX15) "__getattribute__" = some (some (.builtin "BaseException.__getattribute__")))
    (gg15_ : PySem.W.findIn K (.ref cX15) "__getattr__" = some none)
    (ex15_ : PySem.W.subIn K (.ref cX15) (.type "BaseException") = some true)
    (hd15_ : PySem.W.hasDictIn K cX15 = true)
    (ha15_ : PySem.W.findIn K (.ref cX15) "__class__" = some (some (.builtin "object.__class__")))
    (hm15_ : PySem.W.mroIn K cX15 (.type "object") = some true)
    (kp15_ : PySem.W.keepIn K (.ref cX15) = true)
    (ga16_ : PySem.W.findIn K (.ref cX16) "__getattribute__" = some (some (.builtin "BaseException.__getattribute__")))
    (gg16_ : PySem.W.findIn K (.ref cX16) "__getattr__" = some none)
    (ex16_ : PySem.W.subIn K (.ref cX16) (.type "BaseException") = some true)
    (hd16_ : PySem.W.hasDictIn K cX16 = true)
    (ha16_ : PySem.W.findIn K (.ref cX16) "__class__" = some (some (.builtin "object.__class__")))
    (hm16_ : PySem.W.mroIn K cX16 (.type "object") = some true)
    (kp16_ : PySem.W.keepIn K (.ref cX16) = true)
    (ga17_ : PySem.W.findIn K (.ref cX17) "__getattribute__" = some (some (.builtin "BaseException.__getattribute__")))
    (gg17_ : PySem.W.findIn K (.ref cX17) "__getattr__" = some none)
    (ex17_ : PySem.W.subIn K (.ref cX17) (.type "BaseException") = some true)
    (hd17_ : PySem.W.hasDictIn K cX17 = true)
    (ha17_ : PySem.W.findIn K (.ref cX17) "__class__" = some (some (.builtin "object.__class__")))
    (hm17_ : PySem.W.mroIn K cX17 (.type "object") = some true)
    (kp17_ : PySem.W.keepIn K (.ref cX17) = true)
    (ga18_ : PySem.W.findIn K (.ref cX18) "__getattribute__" = some (some (.builtin "BaseException.__getattribute__")))
    (gg18_ : PySem.W.findIn K (.ref cX18) "__getattr__" = some none)
    (ex18_ : PySem.W.subIn K (.ref cX18) (.type "BaseException") = some true)
    (hd18_ : PySem.W.hasDictIn K cX18 = true)
    (ha18_ : PySem.W.findIn K (.ref cX18) "__class__" = some (some (.builtin "object.__class__")))
    (hm18_ : PySem.W.mroIn K cX18 (.type "object") = some true)
    (kp18_ : PySem.W.keepIn K (.ref cX18) = true)
    (ga19_ : PySem.W.findIn K (.ref cX19) "__getattribute__" = some (some (.builtin "BaseException.__getattribute__")))
    (gg19_ : PySem.W.findIn K (.ref cX19) "__getattr__" = some none)
    (ex19_ : PySem.W.subIn K (.ref cX19) (.type "BaseException") = some true)
    (hd19_ : PySem.W.hasDictIn K cX19 = true)
    (ha19_ : PySem.W.findIn K (.ref cX19) "__class__" = some (some (.builtin "object.__class__")))
    (hm19_ : PySem.W.mroIn K cX19 (.type "object") = some true)
    (kp19_ : PySem.W.keepIn K (.ref cX19) = true)
    (ga20_ : PySem.W.findIn K (.ref cX20) "__getattribute__" = some (some (.builtin "BaseException.__getattribute__")))
    (gg20_ : PySem.W.findIn K (.ref cX20) "__getattr__" = some none)
    (ex20_ : PySem.W.subIn K (.ref cX20) (.type "BaseException") = some true)
    (hd20_ : PySem.W.hasDictIn K cX20 = true)
    (ha20_ : PySem.W.findIn K (.ref cX20) "__class__" = some (some (.builtin "object.__class__")))
    (hm20_ : PySem.W.mroIn K cX20 (.type "object") = some true)
    (kp20_ : PySem.W.keepIn K (.ref cX20) = true)
    (ga21_ : PySem.W.findIn K (.ref cX21) "__getattribute__" = some (some (.builtin "BaseException.__getattribute__")))
    (gg21_ : PySem.W.findIn K (.ref cX21) "__getattr__" = some none)
    (ex21_ : PySem.W.subIn K (.ref cX21) (.type "BaseException") = some true)
    (hd21_ : PySem.W.hasDictIn K cX21 = true)
    (ha21_ : PySem.W.findIn K (.ref cX21) "__class__" = some (some (.builtin "object.__class__")))
    (hm21_ : PySem.W.mroIn K cX21 (.type "object") = some true)
    (kp21_ : PySem.W.keepIn K (.ref cX21) = true)
    (ga22_ : PySem.W.findIn K (.ref cX22) "__getattribute__" = some (some (.builtin "BaseException.__getattribute__")))
    (gg22_ : PySem.W.findIn K (.ref cX22) "__getattr__" = some none)
    (ex22_ : PySem.W.subIn K (.ref cX22) (.type "BaseException") = some true)
    (hd22_ : PySem.W.hasDictIn K cX22 = true)
    (ha22_ : PySem.W.findIn K (.ref cX22) "__class__" = some (some (.builtin "object.__class__")))
    (hm22_ : PySem.W.mroIn K cX22 (.type "object") = some true)
    (kp22_ : PySem.W.keepIn K (.ref cX22) = true)
    (ga23_ : PySem.W.findIn K (.ref cX23) "__getattribute__" = some (some (.builtin "BaseException.__getattribute__")))
    (gg23_ : PySem.W.findIn K (.ref cX23) "__getattr__" = some none)
    (ex23_ : PySem.W.subIn K (.ref cX23) (.type "BaseException") = some true)
    (hd23_ : PySem.W.hasDictIn K cX23 = true)
    (ha23_ : PySem.W.findIn K (.ref cX23) "__class__" = some (some (.builtin "object.__class__")))
    (hm23_ : PySem.W.mroIn K cX23 (.type "object") = some true)
    (kp23_ : PySem.W.keepIn K (.ref cX23) = true)
    (ga24_ : PySem.W.findIn K (.ref cX24) "__getattribute__" = some (some (.builtin "BaseException.__getattribute__")))
    (gg24_ : PySem.W.findIn K (.ref cX24) "__getattr__" = some none)
    (ex24_ : PySem.W.subIn K (.ref cX24) (.type "BaseException") = some true)
    (hd24_ : PySem.W.hasDictIn K cX24 = true)
    (ha24_ : PySem.W.findIn K (.ref cX24) "__class__" = some (some (.builtin "object.__class__")))
    (hm24_ : PySem.W.mroIn K cX24 (.type "object") = some true)
    (kp24_ : PySem.W.keepIn K (.ref cX24) = true)
    {nm0 qn0 : Str} {NN0 : Addr} {bs0 : List Value} {sn0 : List Str} {sub0 : List Value} {ab0 : Bool} {col0 : Option Bool} {dd0 : Option Addr} {xa0 xb0 xe0 xf0 xg0 : Option Value} {od0I an0I : Option Addr} {sl0I : Array (Option Value)} {oc0I dc0I pm0I cd0I ct0I : Value}
    (L0_ : K.lookup cX0 = some (excClassObj nm0 qn0 cX0 NN0 bs0 [.ref cB, .type "ValueError", .type "Exception", .type "BaseException", .type "object"] true sn0 sub0 ab0 col0 dd0 xa0 xb0 xe0 xf0 xg0 "ValueError.__new__"))
    (sa0_ : PySem.W.findIn K (.ref cX0) "__setattr__" = some (some (.builtin "object.__setattr__")))
    (no0_ : PySem.W.findIn K (.ref cX0) "ranking" = some none)
    (in0_ : PySem.W.findIn K (.ref cX0) "__init__" = some (some (.ref iX0)))
    (tf0_ : PySem.W.typeIn K (.ref iX0) = some (.type "function"))
    (lf0_ : K.lookup iX0 = some ⟨oc0I, od0I, .func (PySem.W.fnOf "__init__" "NoRanking.__init__" (PySem.KaX.iA ⟨6, 17, 6, 21⟩ ⟨6, 23, 6, 30⟩) (PySem.KaX.iB ⟨7, 8, 7, 12⟩ ⟨7, 8, 7, 20⟩ ⟨7, 23, 7, 30⟩ ⟨7, 8, 7, 30⟩) PySem.KaX.iS .none .none dc0I pm0I an0I cd0I ct0I), sl0I⟩)
    (cf0_ : PySem.W.codeIn K cd0I "NoRanking.__init__" = true)
    (ty0_ : PySem.W.typeIn K (.ref cX0) = some (.type "type"))
    {nm1 qn1 : Str} {NN1 : Addr} {bs1 : List Value} {sn1 : List Str} {sub1 : List Value} {ab1 : Bool} {col1 : Option Bool} {dd1 : Option Addr} {xa1 xb1 xe1 xf1 xg1 : Option Value} {od1I an1I : Option Addr} {sl1I : Array (Option Value)} {oc1I dc1I pm1I cd1I ct1I : Value}
    (L1_ : K.lookup cX1 = some (excClassObj nm1 qn1 cX1 NN1 bs1 [.ref cB, .type "ValueError", .type "Exception", .type "BaseException", .type "object"] true sn1 sub1 ab1 col1 dd1 xa1 xb1 xe1 xf1 xg1 "ValueError.__new__"))
    (sa1_ : PySem.W.findIn K (.ref cX1) "__setattr__" = some (some (.builtin "object.__setattr__")))
    (no1_ : PySem.W.findIn K (.ref cX1) "weight" = some none)
    (in1_ : PySem.W.findIn K (.ref cX1) "__init__" = some (some (.ref iX1)))
    (tf1_ : PySem.W.typeIn K (.ref iX1) = some (.type "function"))
    (lf1_ : K.lookup iX1 = some ⟨oc1I, od1I, .func (PySem.W.fnOf "__init__" "NoWeight.__init__" (PySem.KbX.iA ⟨10, 17, 10, 21⟩ ⟨10, 23, 10, 29⟩) (PySem.KbX.iB ⟨11, 8, 11, 12⟩ ⟨11, 8, 11, 19⟩ ⟨11, 22, 11, 28⟩ ⟨11, 8, 11, 28⟩) PySem.KbX.iS .none .none dc1I pm1I an1I cd1I ct1I), sl1I⟩)
    (cf1_ : PySem.W.codeIn K cd1I "NoWeight.__init__" = true)
    (ty1_ : PySem.W.typeIn K (.ref cX1) = some (.type "type"))
    {nm2 qn2 : Str} {NN2 : Addr} {bs2 : List Value} {sn2 : List Str} {sub2 : List Value} {ab2 : Bool} {col2 : Option Bool} {dd2 : Option Addr} {xa2 xb2 xe2 xf2 xg2 : Option Value} {od2I an2I : Option Addr} {sl2I : Array (Option Value)} {oc2I dc2I pm2I cd2I ct2I : Value}
    (L2_ : K.lookup cX2 = some (excClassObj nm2 qn2 cX2 NN2 bs2 [.ref cB, .type "ValueError", .type "Exception", .type "BaseException", .type "object"] true sn2 sub2 ab2 col2 dd2 xa2 xb2 xe2 xf2 xg2 "ValueError.__new__"))
    (sa2_ : PySem.W.findIn K (.ref cX2) "__setattr__" = some (some (.builtin "object.__setattr__")))
    (no2_ : PySem.W.findIn K (.ref cX2) "taster" = some none)
    (in2_ : PySem.W.findIn K (.ref cX2) "__init__" = some (some (.ref iX2)))
    (tf2_ : PySem.W.typeIn K (.ref iX2) = some (.type "function"))
    (lf2_ : K.lookup iX2 = some ⟨oc2I, od2I, .func (PySem.W.fnOf "__init__" "NoTaster.__init__" (PySem.KcX.iA ⟨14, 17, 14, 21⟩ ⟨14, 23, 14, 29⟩) (PySem.KcX.iB ⟨15, 8, 15, 12⟩ ⟨15, 8, 15, 19⟩ ⟨15, 22, 15, 28⟩ ⟨15, 8, 15, 28⟩) PySem.KcX.iS .none .none dc2I pm2I an2I cd2I ct2I), sl2I⟩)
    (cf2_ : PySem.W.codeIn K cd2I "NoTaster.__init__" = true)
    (ty2_ : PySem.W.typeIn K (.ref cX2) = some (.type "type"))
    {nm3 qn3 : Str} {NN3 : Addr} {bs3 : List Value} {sn3 : List Str} {sub3 : List Value} {ab3 : Bool} {col3 : Option Bool} {dd3 : Option Addr} {xa3 xb3 xe3 xf3 xg3 : Option Value} {od3I an3I : Option Addr} {sl3I : Array (Option Value)} {oc3I dc3I pm3I cd3I ct3I : Value}
    (L3_ : K.lookup cX3 = some (excClassObj nm3 qn3 cX3 NN3 bs3 [.ref cB, .type "ValueError", .type "Exception", .type "BaseException", .type "object"] true sn3 sub3 ab3 col3 dd3 xa3 xb3 xe3 xf3 xg3 "ValueError.__new__"))
    (sa3_ : PySem.W.findIn K (.ref cX3) "__setattr__" = some (some (.builtin "object.__setattr__")))
    (no3_ : PySem.W.findIn K (.ref cX3) "dish" = some none)
    (in3_ : PySem.W.findIn K (.ref cX3) "__init__" = some (some (.ref iX3)))
    (tf3_ : PySem.W.typeIn K (.ref iX3) = some (.type "function"))
    (lf3_ : K.lookup iX3 = some ⟨oc3I, od3I, .func (PySem.W.fnOf "__init__" "NoDish.__init__" (PySem.KdX.iA ⟨18, 17, 18, 21⟩ ⟨18, 23, 18, 27⟩) (PySem.KdX.iB ⟨19, 8, 19, 12⟩ ⟨19, 8, 19, 17⟩ ⟨19, 20, 19, 24⟩ ⟨19, 8, 19, 24⟩) PySem.KdX.iS .none .none dc3I pm3I an3I cd3I ct3I), sl3I⟩)
    (cf3_ : PySem.W.codeIn K cd3I "NoDish.__init__" = true)
    (ty3_ : PySem.W.typeIn K (.ref cX3) = some (.type "type"))
    {nm4 qn4 : Str} {NN4 : Addr} {bs4 : List Value} {sn4 : List Str} {sub4 : List Value} {ab4 : Bool} {col4 : Option Bool} {dd4 : Option Addr} {xa4 xb4 xe4 xf4 xg4 : Option Value} {od4I an4I : Option Addr} {sl4I : Array (Option Value)} {oc4I dc4I pm4I cd4I ct4I : Value}
    (L4_ : K.lookup cX4 = some (excClassObj nm4 qn4 cX4 NN4 bs4 [.ref cB, .type "ValueError", .type "Exception", .type "BaseException", .type "object"] true sn4 sub4 ab4 col4 dd4 xa4 xb4 xe4 xf4 xg4 "ValueError.__new__"))
    (sa4_ : PySem.W.findIn K (.ref cX4) "__setattr__" = some (some (.builtin "object.__setattr__")))
    (no4_ : PySem.W.findIn K (.ref cX4) "index" = some none)
    (in4_ : PySem.W.findIn K (.ref cX4) "__init__" = some (some (.ref iX4)))
    (tf4_ : PySem.W.typeIn K (.ref iX4) = some (.type "function"))
    (lf4_ : K.lookup iX4 = some ⟨oc4I, od4I, .func (PySem.W.fnOf "__init__" "NoIndex.__init__" (PySem.KeX.iA ⟨22, 17, 22, 21⟩ ⟨22, 23, 22, 28⟩) (PySem.KeX.iB ⟨23, 8, 23, 12⟩ ⟨23, 8, 23, 18⟩ ⟨23, 21, 23, 26⟩ ⟨23, 8, 23, 26⟩) PySem.KeX.iS .none .none dc4I pm4I an4I cd4I ct4I), sl4I⟩)
    (cf4_ : PySem.W.codeIn K cd4I "NoIndex.__init__" = true)
    (ty4_ : PySem.W.typeIn K (.ref cX4) = some (.type "type"))
    {nm5 qn5 : Str} {NN5 : Addr} {bs5 : List Value} {sn5 : List Str} {sub5 : List Value} {ab5 : Bool} {col5 : Option Bool} {dd5 : Option Addr} {xa5 xb5 xe5 xf5 xg5 : Option Value} {od5I an5I : Option Addr} {sl5I : Array (Option Value)} {oc5I dc5I pm5I cd5I ct5I : Value}
    (L5_ : K.lookup cX5 = some (excClassObj nm5 qn5 cX5 NN5 bs5 [.ref cB, .type "ValueError", .type "Exception", .type "BaseException", .type "object"] true sn5 sub5 ab5 col5 dd5 xa5 xb5 xe5 xf5 xg5 "ValueError.__new__"))
    (sa5_ : PySem.W.findIn K (.ref cX5) "__setattr__" = some (some (.builtin "object.__setattr__")))
    (no5_ : PySem.W.findIn K (.ref cX5) "obstruction" = some none)
    (in5_ : PySem.W.findIn K (.ref cX5) "__init__" = some (some (.ref iX5)))
    (tf5_ : PySem.W.typeIn K (.ref iX5) = some (.type "function"))
    (lf5_ : K.lookup iX5 = some ⟨oc5I, od5I, .func (PySem.W.fnOf "__init__" "NotSeatable.__init__" (PySem.KfX.iA ⟨26, 17, 26, 21⟩ ⟨26, 23, 26, 34⟩) (PySem.KfX.iB ⟨27, 8, 27, 12⟩ ⟨27, 8, 27, 24⟩ ⟨27, 27, 27, 38⟩ ⟨27, 8, 27, 38⟩) PySem.KfX.iS .none .none dc5I pm5I an5I cd5I ct5I), sl5I⟩)
    (cf5_ : PySem.W.codeIn K cd5I "NotSeatable.__init__" = true)
    (ty5_ : PySem.W.typeIn K (.ref cX5) = some (.type "type"))
    {nm6 qn6 : Str} {NN6 : Addr} {bs6 : List Value} {sn6 : List Str} {sub6 : List Value} {ab6 : Bool} {col6 : Option Bool} {dd6 : Option Addr} {xa6 xb6 xe6 xf6 xg6 : Option Value} {od6I an6I : Option Addr} {sl6I : Array (Option Value)} {oc6I dc6I pm6I cd6I ct6I : Value}
    (L6_ : K.lookup cX6 = some (excClassObj nm6 qn6 cX6 NN6 bs6 [.ref cB, .type "ValueError", .type "Exception", .type "BaseException", .type "object"] true sn6 sub6 ab6 col6 dd6 xa6 xb6 xe6 xf6 xg6 "ValueError.__new__"))
    (sa6_ : PySem.W.findIn K (.ref cX6) "__setattr__" = some (some (.builtin "object.__setattr__")))
    (no6_ : PySem.W.findIn K (.ref cX6) "size" = some none)
    (in6_ : PySem.W.findIn K (.ref cX6) "__init__" = some (some (.ref iX6)))
    (tf6_ : PySem.W.typeIn K (.ref iX6) = some (.type "function"))
    (lf6_ : K.lookup iX6 = some ⟨oc6I, od6I, .func (PySem.W.fnOf "__init__" "NoSize.__init__" (PySem.KgX.iA ⟨34, 17, 34, 21⟩ ⟨34, 23, 34, 27⟩) (PySem.KgX.iB ⟨35, 8, 35, 12⟩ ⟨35, 8, 35, 17⟩ ⟨35, 20, 35, 24⟩ ⟨35, 8, 35, 24⟩) PySem.KgX.iS .none .none dc6I pm6I an6I cd6I ct6I), sl6I⟩)
    (cf6_ : PySem.W.codeIn K cd6I "NoSize.__init__" = true)
    (ty6_ : PySem.W.typeIn K (.ref cX6) = some (.type "type"))
    {nm7 qn7 : Str} {NN7 : Addr} {bs7 : List Value} {sn7 : List Str} {sub7 : List Value} {ab7 : Bool} {col7 : Option Bool} {dd7 : Option Addr} {xa7 xb7 xe7 xf7 xg7 : Option Value} {od7I an7I : Option Addr} {sl7I : Array (Option Value)} {oc7I dc7I pm7I cd7I ct7I : Value}
    (L7_ : K.lookup cX7 = some (excClassObj nm7 qn7 cX7 NN7 bs7 [.ref cB, .type "ValueError", .type "Exception", .type "BaseException", .type "object"] true sn7 sub7 ab7 col7 dd7 xa7 xb7 xe7 xf7 xg7 "ValueError.__new__"))
    (sa7_ : PySem.W.findIn K (.ref cX7) "__setattr__" = some (some (.builtin "object.__setattr__")))
    (no7_ : PySem.W.findIn K (.ref cX7) "limit" = some none)
    (in7_ : PySem.W.findIn K (.ref cX7) "__init__" = some (some (.ref iX7)))
    (tf7_ : PySem.W.typeIn K (.ref iX7) = some (.type "function"))
    (lf7_ : K.lookup iX7 = some ⟨oc7I, od7I, .func (PySem.W.fnOf "__init__" "TooMany.__init__" (PySem.KhX.iA ⟨44, 17, 44, 21⟩ ⟨44, 23, 44, 28⟩) (PySem.KhX.iB ⟨45, 8, 45, 12⟩ ⟨45, 8, 45, 18⟩ ⟨45, 21, 45, 26⟩ ⟨45, 8, 45, 26⟩) PySem.KhX.iS .none .none dc7I pm7I an7I cd7I ct7I), sl7I⟩)
    (cf7_ : PySem.W.codeIn K cd7I "TooMany.__init__" = true)
    (ty7_ : PySem.W.typeIn K (.ref cX7) = some (.type "type"))
    {nm8 qn8 : Str} {NN8 : Addr} {bs8 : List Value} {sn8 : List Str} {sub8 : List Value} {ab8 : Bool} {col8 : Option Bool} {dd8 : Option Addr} {xa8 xb8 xe8 xf8 xg8 : Option Value} {od8I an8I : Option Addr} {sl8I : Array (Option Value)} {oc8I dc8I pm8I cd8I ct8I : Value}
    (L8_ : K.lookup cX8 = some (excClassObj nm8 qn8 cX8 NN8 bs8 [.ref cB, .type "ValueError", .type "Exception", .type "BaseException", .type "object"] true sn8 sub8 ab8 col8 dd8 xa8 xb8 xe8 xf8 xg8 "ValueError.__new__"))
    (sa8_ : PySem.W.findIn K (.ref cX8) "__setattr__" = some (some (.builtin "object.__setattr__")))
    (no8_ : PySem.W.findIn K (.ref cX8) "dishes" = some none)
    (in8_ : PySem.W.findIn K (.ref cX8) "__init__" = some (some (.ref iX8)))
    (tf8_ : PySem.W.typeIn K (.ref iX8) = some (.type "function"))
    (lf8_ : K.lookup iX8 = some ⟨oc8I, od8I, .func (PySem.W.fnOf "__init__" "BadDishes.__init__" (PySem.KiX.iA ⟨52, 17, 52, 21⟩ ⟨52, 23, 52, 29⟩) (PySem.KiX.iB ⟨53, 8, 53, 12⟩ ⟨53, 8, 53, 19⟩ ⟨53, 22, 53, 28⟩ ⟨53, 8, 53, 28⟩) PySem.KiX.iS .none .none dc8I pm8I an8I cd8I ct8I), sl8I⟩)
    (cf8_ : PySem.W.codeIn K cd8I "BadDishes.__init__" = true)
    (ty8_ : PySem.W.typeIn K (.ref cX8) = some (.type "type"))
    {nm9 qn9 : Str} {NN9 : Addr} {bs9 : List Value} {sn9 : List Str} {sub9 : List Value} {ab9 : Bool} {col9 : Option Bool} {dd9 : Option Addr} {xa9 xb9 xe9 xf9 xg9 : Option Value} {od9I an9I : Option Addr} {sl9I : Array (Option Value)} {oc9I dc9I pm9I cd9I ct9I : Value}
    (L9_ : K.lookup cX9 = some (excClassObj nm9 qn9 cX9 NN9 bs9 [.ref cB, .type "ValueError", .type "Exception", .type "BaseException", .type "object"] true sn9 sub9 ab9 col9 dd9 xa9 xb9 xe9 xf9 xg9 "ValueError.__new__"))
    (sa9_ : PySem.W.findIn K (.ref cX9) "__setattr__" = some (some (.builtin "object.__setattr__")))
    (no9_ : PySem.W.findIn K (.ref cX9) "name" = some none)
    (in9_ : PySem.W.findIn K (.ref cX9) "__init__" = some (some (.ref iX9)))
    (tf9_ : PySem.W.typeIn K (.ref iX9) = some (.type "function"))
    (lf9_ : K.lookup iX9 = some ⟨oc9I, od9I, .func (PySem.W.fnOf "__init__" "NoName.__init__" (PySem.KjX.iA ⟨56, 17, 56, 21⟩ ⟨56, 23, 56, 27⟩) (PySem.KjX.iB ⟨57, 8, 57, 12⟩ ⟨57, 8, 57, 17⟩ ⟨57, 20, 57, 24⟩ ⟨57, 8, 57, 24⟩) PySem.KjX.iS .none .none dc9I pm9I an9I cd9I ct9I), sl9I⟩)
    (cf9_ : PySem.W.codeIn K cd9I "NoName.__init__" = true)
    (ty9_ : PySem.W.typeIn K (.ref cX9) = some (.type "type"))
    {nm10 qn10 : Str} {NN10 : Addr} {bs10 : List Value} {sn10 : List Str} {sub10 : List Value} {ab10 : Bool} {col10 : Option Bool} {dd10 : Option Addr} {xa10 xb10 xe10 xf10 xg10 : Option Value} {od10I an10I : Option Addr} {sl10I : Array (Option Value)} {oc10I dc10I pm10I cd10I ct10I : Value}
    (L10_ : K.lookup cX10 = some (excClassObj nm10 qn10 cX10 NN10 bs10 [.ref cB, .type "ValueError", .type "Exception", .type "BaseException", .type "object"] true sn10 sub10 ab10 col10 dd10 xa10 xb10 xe10 xf10 xg10 "ValueError.__new__"))
    (sa10_ : PySem.W.findIn K (.ref cX10) "__setattr__" = some (some (.builtin "object.__setattr__")))
    (no10_ : PySem.W.findIn K (.ref cX10) "name" = some none)
    (in10_ : PySem.W.findIn K (.ref cX10) "__init__" = some (some (.ref iX10)))
    (tf10_ : PySem.W.typeIn K (.ref iX10) = some (.type "function"))
    (lf10_ : K.lookup iX10 = some ⟨oc10I, od10I, .func (PySem.W.fnOf "__init__" "UnknownName.__init__" (PySem.KkX.iA ⟨60, 17, 60, 21⟩ ⟨60, 23, 60, 27⟩) (PySem.KkX.iB ⟨61, 8, 61, 12⟩ ⟨61, 8, 61, 17⟩ ⟨61, 20, 61, 24⟩ ⟨61, 8, 61, 24⟩) PySem.KkX.iS .none .none dc10I pm10I an10I cd10I ct10I), sl10I⟩)
    (cf10_ : PySem.W.codeIn K cd10I "UnknownName.__init__" = true)
    (ty10_ : PySem.W.typeIn K (.ref cX10) = some (.type "type"))
    {nm11 qn11 : Str} {NN11 : Addr} {bs11 : List Value} {sn11 : List Str} {sub11 : List Value} {ab11 : Bool} {col11 : Option Bool} {dd11 : Option Addr} {xa11 xb11 xe11 xf11 xg11 : Option Value} {od11I an11I : Option Addr} {sl11I : Array (Option Value)} {oc11I dc11I pm11I cd11I ct11I : Value}
    (L11_ : K.lookup cX11 = some (excClassObj nm11 qn11 cX11 NN11 bs11 [.ref cB, .type "ValueError", .type "Exception", .type "BaseException", .type "object"] true sn11 sub11 ab11 col11 dd11 xa11 xb11 xe11 xf11 xg11 "ValueError.__new__"))
    (sa11_ : PySem.W.findIn K (.ref cX11) "__setattr__" = some (some (.builtin "object.__setattr__")))
    (no11_ : PySem.W.findIn K (.ref cX11) "name" = some none)
    (in11_ : PySem.W.findIn K (.ref cX11) "__init__" = some (some (.ref iX11)))
    (tf11_ : PySem.W.typeIn K (.ref iX11) = some (.type "function"))
    (lf11_ : K.lookup iX11 = some ⟨oc11I, od11I, .func (PySem.W.fnOf "__init__" "NameTaken.__init__" (PySem.KlX.iA ⟨64, 17, 64, 21⟩ ⟨64, 23, 64, 27⟩) (PySem.KlX.iB ⟨65, 8, 65, 12⟩ ⟨65, 8, 65, 17⟩ ⟨65, 20, 65, 24⟩ ⟨65, 8, 65, 24⟩) PySem.KlX.iS .none .none dc11I pm11I an11I cd11I ct11I), sl11I⟩)
    (cf11_ : PySem.W.codeIn K cd11I "NameTaken.__init__" = true)
    (ty11_ : PySem.W.typeIn K (.ref cX11) = some (.type "type"))
    {nm12 qn12 : Str} {NN12 : Addr} {bs12 : List Value} {sn12 : List Str} {sub12 : List Value} {ab12 : Bool} {col12 : Option Bool} {dd12 : Option Addr} {xa12 xb12 xe12 xf12 xg12 : Option Value} {od12I an12I : Option Addr} {sl12I : Array (Option Value)} {oc12I dc12I pm12I cd12I ct12I : Value}
    (L12_ : K.lookup cX12 = some (excClassObj nm12 qn12 cX12 NN12 bs12 [.ref cB, .type "ValueError", .type "Exception", .type "BaseException", .type "object"] true sn12 sub12 ab12 col12 dd12 xa12 xb12 xe12 xf12 xg12 "ValueError.__new__"))
    (sa12_ : PySem.W.findIn K (.ref cX12) "__setattr__" = some (some (.builtin "object.__setattr__")))
    (no12_ : PySem.W.findIn K (.ref cX12) "at" = some none)
    (in12_ : PySem.W.findIn K (.ref cX12) "__init__" = some (some (.ref iX12)))
    (tf12_ : PySem.W.typeIn K (.ref iX12) = some (.type "function"))
    (lf12_ : K.lookup iX12 = some ⟨oc12I, od12I, .func (PySem.W.fnOf "__init__" "NoMoment.__init__" (PySem.KmX.iA ⟨70, 17, 70, 21⟩ ⟨70, 23, 70, 25⟩) (PySem.KmX.iB ⟨71, 8, 71, 12⟩ ⟨71, 8, 71, 15⟩ ⟨71, 18, 71, 20⟩ ⟨71, 8, 71, 20⟩) PySem.KmX.iS .none .none dc12I pm12I an12I cd12I ct12I), sl12I⟩)
    (cf12_ : PySem.W.codeIn K cd12I "NoMoment.__init__" = true)
    (ty12_ : PySem.W.typeIn K (.ref cX12) = some (.type "type"))
    {nm13 qn13 : Str} {NN13 : Addr} {bs13 : List Value} {sn13 : List Str} {sub13 : List Value} {ab13 : Bool} {col13 : Option Bool} {dd13 : Option Addr} {xa13 xb13 xe13 xf13 xg13 : Option Value} {od13I an13I : Option Addr} {sl13I : Array (Option Value)} {oc13I dc13I pm13I cd13I ct13I : Value}
    (L13_ : K.lookup cX13 = some (excClassObj nm13 qn13 cX13 NN13 bs13 [.ref cB, .type "ValueError", .type "Exception", .type "BaseException", .type "object"] true sn13 sub13 ab13 col13 dd13 xa13 xb13 xe13 xf13 xg13 "ValueError.__new__"))
    (sa13_ : PySem.W.findIn K (.ref cX13) "__setattr__" = some (some (.builtin "object.__setattr__")))
    (no13_ : PySem.W.findIn K (.ref cX13) "index" = some none)
    (in13_ : PySem.W.findIn K (.ref cX13) "__init__" = some (some (.ref iX13)))
    (tf13_ : PySem.W.typeIn K (.ref iX13) = some (.type "function"))
    (lf13_ : K.lookup iX13 = some ⟨oc13I, od13I, .func (PySem.W.fnOf "__init__" "Failed.__init__" (PySem.KnX.iA ⟨76, 17, 76, 21⟩ ⟨76, 23, 76, 28⟩) (PySem.KnX.iB ⟨77, 8, 77, 12⟩ ⟨77, 8, 77, 18⟩ ⟨77, 21, 77, 26⟩ ⟨77, 8, 77, 26⟩) PySem.KnX.iS .none .none dc13I pm13I an13I cd13I ct13I), sl13I⟩)
    (cf13_ : PySem.W.codeIn K cd13I "Failed.__init__" = true)
    (ty13_ : PySem.W.typeIn K (.ref cX13) = some (.type "type"))
    {nm14 qn14 : Str} {NN14 : Addr} {bs14 : List Value} {sn14 : List Str} {sub14 : List Value} {ab14 : Bool} {col14 : Option Bool} {dd14 : Option Addr} {xa14 xb14 xe14 xf14 xg14 : Option Value} {od14I an14I : Option Addr} {sl14I : Array (Option Value)} {oc14I dc14I pm14I cd14I ct14I : Value}
    (L14_ : K.lookup cX14 = some (excClassObj nm14 qn14 cX14 NN14 bs14 [.ref cB, .type "ValueError", .type "Exception", .type "BaseException", .type "object"] true sn14 sub14 ab14 col14 dd14 xa14 xb14 xe14 xf14 xg14 "ValueError.__new__"))
    (sa14_ : PySem.W.findIn K (.ref cX14) "__setattr__" = some (some (.builtin "object.__setattr__")))
    (no14_ : PySem.W.findIn K (.ref cX14) "obstruction" = some none)
    (in14_ : PySem.W.findIn K (.ref cX14) "__init__" = some (some (.ref iX14)))
    (tf14_ : PySem.W.typeIn K (.ref iX14) = some (.type "function"))
    (lf14_ : K.lookup iX14 = some ⟨oc14I, od14I, .func (PySem.W.fnOf "__init__" "Blocked.__init__" (PySem.KoX.iA ⟨80, 17, 80, 21⟩ ⟨80, 23, 80, 34⟩) (PySem.KoX.iB ⟨81, 8, 81, 12⟩ ⟨81, 8, 81, 24⟩ ⟨81, 27, 81, 38⟩ ⟨81, 8, 81, 38⟩) PySem.KoX.iS .none .none dc14I pm14I an14I cd14I ct14I), sl14I⟩)
    (cf14_ : PySem.W.codeIn K cd14I "Blocked.__init__" = true)
    (ty14_ : PySem.W.typeIn K (.ref cX14) = some (.type "type"))
    {nm15 qn15 : Str} {NN15 : Addr} {bs15 : List Value} {sn15 : List Str} {sub15 : List Value} {ab15 : Bool} {col15 : Option Bool} {dd15 : Option Addr} {xa15 xb15 xe15 xf15 xg15 : Option Value} {od15I an15I : Option Addr} {sl15I : Array (Option Value)} {oc15I dc15I pm15I cd15I ct15I : Value}
    (L15_ : K.lookup cX15 = some (excClassObj nm15 qn15 cX15 NN15 bs15 [.ref cB, .type "ValueError", .type "Exception", .type "BaseException", .type "object"] true sn15 sub15 ab15 col15 dd15 xa15 xb15 xe15 xf15 xg15 "ValueError.__new__"))
    (sa15_ : PySem.W.findIn K (.ref cX15) "__setattr__" = some (some (.builtin "object.__setattr__")))
    (no15_ : PySem.W.findIn K (.ref cX15) "line" = some none)
    (in15_ : PySem.W.findIn K (.ref cX15) "__init__" = some (some (.ref iX15)))
    (tf15_ : PySem.W.typeIn K (.ref iX15) = some (.type "function"))
    (lf15_ : K.lookup iX15 = some ⟨oc15I, od15I, .func (PySem.W.fnOf "__init__" "BadText.__init__" (PySem.KpX.iA ⟨84, 17, 84, 21⟩ ⟨84, 23, 84, 27⟩) (PySem.KpX.iB ⟨85, 8, 85, 12⟩ ⟨85, 8, 85, 17⟩ ⟨85, 20, 85, 24⟩ ⟨85, 8, 85, 24⟩) PySem.KpX.iS .none .none dc15I pm15I an15I cd15I ct15I), sl15I⟩)
    (cf15_ : PySem.W.codeIn K cd15I "BadText.__init__" = true)
    (ty15_ : PySem.W.typeIn K (.ref cX15) = some (.type "type"))
    (xq16_ : PySem.W.excIn K cX16 [.type "ValueError", .type "Exception", .type "BaseException", .type "object"] "ValueError.__new__" = true)
    (xq17_ : PySem.W.excIn K cX17 [.type "ValueError", .type "Exception", .type "BaseException", .type "object"] "ValueError.__new__" = true)
    (xq18_ : PySem.W.excIn K cX18 [.type "ValueError", .type "Exception", .type "BaseException", .type "object"] "ValueError.__new__" = true)
    (xq19_ : PySem.W.excIn K cX19 [.type "ValueError", .type "Exception", .type "BaseException", .type "object"] "ValueError.__new__" = true)
    (xq20_ : PySem.W.excIn K cX20 [.type "ValueError", .type "Exception", .type "BaseException", .type "object"] "ValueError.__new__" = true)
    (xq21_ : PySem.W.excIn K cX21 [.type "ValueError", .type "Exception", .type "BaseException", .type "object"] "ValueError.__new__" = true)
    (xq22_ : PySem.W.excIn K cX22 [.type "ValueError", .type "Exception", .type "BaseException", .type "object"] "ValueError.__new__" = true)
    (xq23_ : PySem.W.excIn K cX23 [.type "ValueError", .type "Exception", .type "BaseException", .type "object"] "ValueError.__new__" = true)
    (xq24_ : PySem.W.excIn K cX24 [.type "ValueError", .type "Exception", .type "BaseException", .type "object"] "ValueError.__new__" = true)
    (kt : kitTab K [cX0, cX1, cX2, cX3, cX4, cX5, cX6, cX7, cX8, cX9, cX10, cX11, cX12, cX13, cX14, cX15, cX16, cX17, cX18, cX19, cX20, cX21, cX22, cX23, cX24] cB = true)
    (z0 : PySem.W.nsIn K mainGlobals "abs" = some none) (z1 : PySem.W.nsIn K mainGlobals "len" = some none) (z2 : PySem.W.nsIn K mainGlobals "range" = some none) (z3 : PySem.W.nsIn K mainGlobals "isinstance" = some none) (z4 : PySem.W.nsIn K mainGlobals "repr" = some none) (z5 : PySem.W.nsIn K mainGlobals "enumerate" = some none) (z6 : PySem.W.nsIn K mainGlobals "ValueError" = some none) :
    ∃ fd : FuncData, (∀ (s : Shared) (v : Value), BindsTo s fd ⟨[v], []⟩ [("_law_script", v)]) ∧ ∀ base : Heap, K.In base → base.Ns mainGlobals mg → RunG l.prog w K mg base 6 fa fd ["_law_script"] (spLaw K) := by
  have e := hfa.symm.trans (PySem.W.mg_of X G a6)
  cases e
  have F0 := fun_mk (st := sDeck) l0 c0 k0
  have F1 := fun_mk (st := sNext) l1 c1 k1
  have F2 := fun_mk (st := sOdd) l2 c2 k2
  have F3 := fun_mk (st := sFlags) l3 c3 k3
  have F4 := fun_mk (st := sWith) l4 c4 k4
  have F5 := fun_mk (st := sFields) l5 c5 k5
  have F6 := fun_mk (st := sLaw) l6 c6 k6
  have b0 := F0.binds (ps := ["_law_script"]) fun _ _ _ _ _ _ us hl => match us, hl with | [_], _ => rfl
  have b1 := F1.binds (ps := ["_law_deck_here", "_law_many"]) fun _ _ _ _ _ _ us hl => match us, hl with | [_, _], _ => rfl
  have b2 := F2.binds (ps := ["_law_deck_here"]) fun _ _ _ _ _ _ us hl => match us, hl with | [_], _ => rfl
  have b3 := F3.binds (ps := ["_law_error"]) fun _ _ _ _ _ _ us hl => match us, hl with | [_], _ => rfl
  have b4 := F4.binds (ps := ["_law_one_here"]) fun _ _ _ _ _ _ us hl => match us, hl with | [_], _ => rfl
  have b5 := F5.binds (ps := ["_law_one_here"]) fun _ _ _ _ _ _ us hl => match us, hl with | [_], _ => rfl
  have g0 := PySem.W.mg_of X G a0
  have g1 := PySem.W.mg_of X G a1
  have g2 := PySem.W.mg_of X G a2
  have g3 := PySem.W.mg_of X G a3
  have g4 := PySem.W.mg_of X G a4
  have g5 := PySem.W.mg_of X G a5
  have g6 := PySem.W.mg_of X G a6
  have m_abs := PySem.W.mg_none_of X G z0
  have m_len := PySem.W.mg_none_of X G z1
  have m_range := PySem.W.mg_none_of X G z2
  have m_isinstance := PySem.W.mg_none_of X G z3
  have m_repr := PySem.W.mg_none_of X G z4
  have m_enumerate := PySem.W.mg_none_of X G z5
  have m_ValueError := PySem.W.mg_none_of X G z6
  let cs : Nat → Addr := fun i => [cX0, cX1, cX2, cX3, cX4, cX5, cX6, cX7, cX8, cX9, cX10, cX11, cX12, cX13, cX14, cX15, cX16, cX17, cX18, cX19, cX20, cX21, cX22, cX23, cX24].getD i 0
  have ec : ∀ i, i < 25 → ExcC K (cs i) := fun i hi => match i, hi with
    | 0, _ => ⟨ga0_, gg0_, ex0_, hd0_, ha0_, ehn, eht, hm0_⟩
    | 1, _ => ⟨ga1_, gg1_, ex1_, hd1_, ha1_, ehn, eht, hm1_⟩
    | 2, _ => ⟨ga2_, gg2_, ex2_, hd2_, ha2_, ehn, eht, hm2_⟩
    | 3, _ => ⟨ga3_, gg3_, ex3_, hd3_, ha3_, ehn, eht, hm3_⟩
    | 4, _ => ⟨ga4_, gg4_, ex4_, hd4_, ha4_, ehn, eht, hm4_⟩
    | 5, _ => ⟨ga5_, gg5_, ex5_, hd5_, ha5_, ehn, eht, hm5_⟩
    | 6, _ => ⟨ga6_, gg6_, ex6_, hd6_, ha6_, ehn, eht, hm6_⟩
    | 7, _ => ⟨ga7_, gg7_, ex7_, hd7_, ha7_, ehn, eht, hm7_⟩
    | 8, _ => ⟨ga8_, gg8_, ex8_, hd8_, ha8_, ehn, eht, hm8_⟩
    | 9, _ => ⟨ga9_, gg9_, ex9_, hd9_, ha9_, ehn, eht, hm9_⟩
    | 10, _ => ⟨ga10_, gg10_, ex10_, hd10_, ha10_, ehn, eht, hm10_⟩
    | 11, _ => ⟨ga11_, gg11_, ex11_, hd11_, ha11_, ehn, eht, hm11_⟩
    | 12, _ => ⟨ga12_, gg12_, ex12_, hd12_, ha12_, ehn, eht, hm12_⟩
    | 13, _ => ⟨ga13_, gg13_, ex13_, hd13_, ha13_, ehn, eht, hm13_⟩
    | 14, _ => ⟨ga14_, gg14_, ex14_, hd14_, ha14_, ehn, eht, hm14_⟩
    | 15, _ => ⟨ga15_, gg15_, ex15_, hd15_, ha15_, ehn, eht, hm15_⟩
    | 16, _ => ⟨ga16_, gg16_, ex16_, hd16_, ha16_, ehn, eht, hm16_⟩
    | 17, _ => ⟨ga17_, gg17_, ex17_, hd17_, ha17_, ehn, eht, hm17_⟩
    | 18, _ => ⟨ga18_, gg18_, ex18_, hd18_, ha18_, ehn, eht, hm18_⟩
    | 19, _ => ⟨ga19_, gg19_, ex19_, hd19_, ha19_, ehn, eht, hm19_⟩
    | 20, _ => ⟨ga20_, gg20_, ex20_, hd20_, ha20_, ehn, eht, hm20_⟩
    | 21, _ => ⟨ga21_, gg21_, ex21_, hd21_, ha21_, ehn, eht, hm21_⟩
    | 22, _ => ⟨ga22_, gg22_, ex22_, hd22_, ha22_, ehn, eht, hm22_⟩
    | 23, _ => ⟨ga23_, gg23_, ex23_, hd23_, ha23_, ehn, eht, hm23_⟩
    | 24, _ => ⟨ga24_, gg24_, ex24_, hd24_, ha24_, ehn, eht, hm24_⟩
    | n + 25, h => absurd h (by omega)
  obtain ⟨kit, kB, kV⟩ := kitTab_ok kt
  have T0 : MkF K mg "NoRanking" "ranking" (cs 0) := mkF_Ka (C := cX0) { gC := PySem.W.mg_of X G n0, cls := ⟨nm0, qn0, NN0, bs0, _, sn0, sub0, ab0, col0, dd0, xa0, xb0, xe0, xf0, xg0, L0_, by first | rfl | decide +kernel⟩, sa := sa0_, ga := ga0_, gg := gg0_, noN := no0_, iC := in0_, tC := tf0_, kC := kp0_, exC := ex0_, tyC := ty0_, hdC := hd0_, fn := ⟨_, _, _, _, _, _, _, _, _, _, _, _, _, _, lf0_, cf0_⟩ }
  have T1 : MkF K mg "NoWeight" "weight" (cs 1) := mkF_Kb (C := cX1) { gC := PySem.W.mg_of X G n1, cls := ⟨nm1, qn1, NN1, bs1, _, sn1, sub1, ab1, col1, dd1, xa1, xb1, xe1, xf1, xg1, L1_, by first | rfl | decide +kernel⟩, sa := sa1_, ga := ga1_, gg := gg1_, noN := no1_, iC := in1_, tC := tf1_, kC := kp1_, exC := ex1_, tyC := ty1_, hdC := hd1_, fn := ⟨_, _, _, _, _, _, _, _, _, _, _, _, _, _, lf1_, cf1_⟩ }
  have T2 : MkF K mg "NoTaster" "taster" (cs 2) := mkF_Kc (C := cX2) { gC := PySem.W.mg_of X G n2, cls := ⟨nm2, qn2, NN2, bs2, _, sn2, sub2, ab2, col2, dd2, xa2, xb2, xe2, xf2, xg2, L2_, by first | rfl | decide +kernel⟩, sa := sa2_, ga := ga2_, gg := gg2_, noN := no2_, iC := in2_, tC := tf2_, kC := kp2_, exC := ex2_, tyC := ty2_, hdC := hd2_, fn := ⟨_, _, _, _, _, _, _, _, _, _, _, _, _, _, lf2_, cf2_⟩ }
  have T3 : MkF K mg "NoDish" "dish" (cs 3) := mkF_Kd (C := cX3) { gC := PySem.W.mg_of X G n3, cls := ⟨nm3, qn3, NN3, bs3, _, sn3, sub3, ab3, col3, dd3, xa3, xb3, xe3, xf3, xg3, L3_, by first | rfl | decide +kernel⟩, sa := sa3_, ga := ga3_, gg := gg3_, noN := no3_, iC := in3_, tC := tf3_, kC := kp3_, exC := ex3_, tyC := ty3_, hdC := hd3_, fn := ⟨_, _, _, _, _, _, _, _, _, _, _, _, _, _, lf3_, cf3_⟩ }
  have T4 : MkF K mg "NoIndex" "index" (cs 4) := mkF_Ke (C := cX4) { gC := PySem.W.mg_of X G n4, cls := ⟨nm4, qn4, NN4, bs4, _, sn4, sub4, ab4, col4, dd4, xa4, xb4, xe4, xf4, xg4, L4_, by first | rfl | decide +kernel⟩, sa := sa4_, ga := ga4_, gg := gg4_, noN := no4_, iC := in4_, tC := tf4_, kC := kp4_, exC := ex4_, tyC := ty4_, hdC := hd4_, fn := ⟨_, _, _, _, _, _, _, _, _, _, _, _, _, _, lf4_, cf4_⟩ }
  have T5 : MkF K mg "NotSeatable" "obstruction" (cs 5) := mkF_Kf (C := cX5) { gC := PySem.W.mg_of X G n5, cls := ⟨nm5, qn5, NN5, bs5, _, sn5, sub5, ab5, col5, dd5, xa5, xb5, xe5, xf5, xg5, L5_, by first | rfl | decide +kernel⟩, sa := sa5_, ga := ga5_, gg := gg5_, noN := no5_, iC := in5_, tC := tf5_, kC := kp5_, exC := ex5_, tyC := ty5_, hdC := hd5_, fn := ⟨_, _, _, _, _, _, _, _, _, _, _, _, _, _, lf5_, cf5_⟩ }
  have T6 : MkF K mg "NoSize" "size" (cs 6) := mkF_Kg (C := cX6) { gC := PySem.W.mg_of X G n6, cls := ⟨nm6, qn6, NN6, bs6, _, sn6, sub6, ab6, col6, dd6, xa6, xb6, xe6, xf6, xg6, L6_, by first | rfl | decide +kernel⟩, sa := sa6_, ga := ga6_, gg := gg6_, noN := no6_, iC := in6_, tC := tf6_, kC := kp6_, exC := ex6_, tyC := ty6_, hdC := hd6_, fn := ⟨_, _, _, _, _, _, _, _, _, _, _, _, _, _, lf6_, cf6_⟩ }
  have T7 : MkF K mg "TooMany" "limit" (cs 7) := mkF_Kh (C := cX7) { gC := PySem.W.mg_of X G n7, cls := ⟨nm7, qn7, NN7, bs7, _, sn7, sub7, ab7, col7, dd7, xa7, xb7, xe7, xf7, xg7, L7_, by first | rfl | decide +kernel⟩, sa := sa7_, ga := ga7_, gg := gg7_, noN := no7_, iC := in7_, tC := tf7_, kC := kp7_, exC := ex7_, tyC := ty7_, hdC := hd7_, fn := ⟨_, _, _, _, _, _, _, _, _, _, _, _, _, _, lf7_, cf7_⟩ }
  have T8 : MkF K mg "BadDishes" "dishes" (cs 8) := mkF_Ki (C := cX8) { gC := PySem.W.mg_of X G n8, cls := ⟨nm8, qn8, NN8, bs8, _, sn8, sub8, ab8, col8, dd8, xa8, xb8, xe8, xf8, xg8, L8_, by first | rfl | decide +kernel⟩, sa := sa8_, ga := ga8_, gg := gg8_, noN := no8_, iC := in8_, tC := tf8_, kC := kp8_, exC := ex8_, tyC := ty8_, hdC := hd8_, fn := ⟨_, _, _, _, _, _, _, _, _, _, _, _, _, _, lf8_, cf8_⟩ }
  have T9 : MkF K mg "NoName" "name" (cs 9) := mkF_Kj (C := cX9) { gC := PySem.W.mg_of X G n9, cls := ⟨nm9, qn9, NN9, bs9, _, sn9, sub9, ab9, col9, dd9, xa9, xb9, xe9, xf9, xg9, L9_, by first | rfl | decide +kernel⟩, sa := sa9_, ga := ga9_, gg := gg9_, noN := no9_, iC := in9_, tC := tf9_, kC := kp9_, exC := ex9_, tyC := ty9_, hdC := hd9_, fn := ⟨_, _, _, _, _, _, _, _, _, _, _, _, _, _, lf9_, cf9_⟩ }
  have T10 : MkF K mg "UnknownName" "name" (cs 10) := mkF_Kk (C := cX10) { gC := PySem.W.mg_of X G n10, cls := ⟨nm10, qn10, NN10, bs10, _, sn10, sub10, ab10, col10, dd10, xa10, xb10, xe10, xf10, xg10, L10_, by first | rfl | decide +kernel⟩, sa := sa10_, ga := ga10_, gg := gg10_, noN := no10_, iC := in10_, tC := tf10_, kC := kp10_, exC := ex10_, tyC := ty10_, hdC := hd10_, fn := ⟨_, _, _, _, _, _, _, _, _, _, _, _, _, _, lf10_, cf10_⟩ }
  have T11 : MkF K mg "NameTaken" "name" (cs 11) := mkF_Kl (C := cX11) { gC := PySem.W.mg_of X G n11, cls := ⟨nm11, qn11, NN11, bs11, _, sn11, sub11, ab11, col11, dd11, xa11, xb11, xe11, xf11, xg11, L11_, by first | rfl | decide +kernel⟩, sa := sa11_, ga := ga11_, gg := gg11_, noN := no11_, iC := in11_, tC := tf11_, kC := kp11_, exC := ex11_, tyC := ty11_, hdC := hd11_, fn := ⟨_, _, _, _, _, _, _, _, _, _, _, _, _, _, lf11_, cf11_⟩ }
  have T12 : MkF K mg "NoMoment" "at" (cs 12) := mkF_Km (C := cX12) { gC := PySem.W.mg_of X G n12, cls := ⟨nm12, qn12, NN12, bs12, _, sn12, sub12, ab12, col12, dd12, xa12, xb12, xe12, xf12, xg12, L12_, by first | rfl | decide +kernel⟩, sa := sa12_, ga := ga12_, gg := gg12_, noN := no12_, iC := in12_, tC := tf12_, kC := kp12_, exC := ex12_, tyC := ty12_, hdC := hd12_, fn := ⟨_, _, _, _, _, _, _, _, _, _, _, _, _, _, lf12_, cf12_⟩ }
  have T13 : MkF K mg "Failed" "index" (cs 13) := mkF_Kn (C := cX13) { gC := PySem.W.mg_of X G n13, cls := ⟨nm13, qn13, NN13, bs13, _, sn13, sub13, ab13, col13, dd13, xa13, xb13, xe13, xf13, xg13, L13_, by first | rfl | decide +kernel⟩, sa := sa13_, ga := ga13_, gg := gg13_, noN := no13_, iC := in13_, tC := tf13_, kC := kp13_, exC := ex13_, tyC := ty13_, hdC := hd13_, fn := ⟨_, _, _, _, _, _, _, _, _, _, _, _, _, _, lf13_, cf13_⟩ }
  have T14 : MkF K mg "Blocked" "obstruction" (cs 14) := mkF_Ko (C := cX14) { gC := PySem.W.mg_of X G n14, cls := ⟨nm14, qn14, NN14, bs14, _, sn14, sub14, ab14, col14, dd14, xa14, xb14, xe14, xf14, xg14, L14_, by first | rfl | decide +kernel⟩, sa := sa14_, ga := ga14_, gg := gg14_, noN := no14_, iC := in14_, tC := tf14_, kC := kp14_, exC := ex14_, tyC := ty14_, hdC := hd14_, fn := ⟨_, _, _, _, _, _, _, _, _, _, _, _, _, _, lf14_, cf14_⟩ }
  have T15 : MkF K mg "BadText" "line" (cs 15) := mkF_Kp (C := cX15) { gC := PySem.W.mg_of X G n15, cls := ⟨nm15, qn15, NN15, bs15, _, sn15, sub15, ab15, col15, dd15, xa15, xb15, xe15, xf15, xg15, L15_, by first | rfl | decide +kernel⟩, sa := sa15_, ga := ga15_, gg := gg15_, noN := no15_, iC := in15_, tC := tf15_, kC := kp15_, exC := ex15_, tyC := ty15_, hdC := hd15_, fn := ⟨_, _, _, _, _, _, _, _, _, _, _, _, _, _, lf15_, cf15_⟩ }
  have gX0 : mg "NoRanking" = some (.ref (cs 0)) := PySem.W.mg_of X G n0
  have gX1 : mg "NoWeight" = some (.ref (cs 1)) := PySem.W.mg_of X G n1
  have gX2 : mg "NoTaster" = some (.ref (cs 2)) := PySem.W.mg_of X G n2
  have gX3 : mg "NoDish" = some (.ref (cs 3)) := PySem.W.mg_of X G n3
  have gX4 : mg "NoIndex" = some (.ref (cs 4)) := PySem.W.mg_of X G n4
  have gX5 : mg "NotSeatable" = some (.ref (cs 5)) := PySem.W.mg_of X G n5
  have gX6 : mg "NoSize" = some (.ref (cs 6)) := PySem.W.mg_of X G n6
  have gX7 : mg "TooMany" = some (.ref (cs 7)) := PySem.W.mg_of X G n7
  have gX8 : mg "BadDishes" = some (.ref (cs 8)) := PySem.W.mg_of X G n8
  have gX9 : mg "NoName" = some (.ref (cs 9)) := PySem.W.mg_of X G n9
  have gX10 : mg "UnknownName" = some (.ref (cs 10)) := PySem.W.mg_of X G n10
  have gX11 : mg "NameTaken" = some (.ref (cs 11)) := PySem.W.mg_of X G n11
  have gX12 : mg "NoMoment" = some (.ref (cs 12)) := PySem.W.mg_of X G n12
  have gX13 : mg "Failed" = some (.ref (cs 13)) := PySem.W.mg_of X G n13
  have gX14 : mg "Blocked" = some (.ref (cs 14)) := PySem.W.mg_of X G n14
  have gX15 : mg "BadText" = some (.ref (cs 15)) := PySem.W.mg_of X G n15
  have gX16 : mg "NoSeating" = some (.ref (cs 16)) := PySem.W.mg_of X G n16
  have gX17 : mg "NoMenu" = some (.ref (cs 17)) := PySem.W.mg_of X G n17
  have gX18 : mg "NoCuts" = some (.ref (cs 18)) := PySem.W.mg_of X G n18
  have gX19 : mg "NoSpan" = some (.ref (cs 19)) := PySem.W.mg_of X G n19
  have gX20 : mg "NoPlaces" = some (.ref (cs 20)) := PySem.W.mg_of X G n20
  have gX21 : mg "LastOne" = some (.ref (cs 21)) := PySem.W.mg_of X G n21
  have gX22 : mg "Empty" = some (.ref (cs 22)) := PySem.W.mg_of X G n22
  have gX23 : mg "NothingToUndo" = some (.ref (cs 23)) := PySem.W.mg_of X G n23
  have gX24 : mg "NoOperations" = some (.ref (cs 24)) := PySem.W.mg_of X G n24
  refine ⟨PySem.W.fnOf "law" "law" (defArgs sLaw) (defBody sLaw) (defScope sLaw) .none kV6 dc6 pm6 an6 cd6 ct6, fun s v => .of_eq rfl, fun base _ _ => ?_⟩
  have GN : ∀ k, FnOk l.prog w K mg base CX0 (k + 1) f1 _ _ spNext := fun k => ok_next F1 m_len
  exact ok_law (cs := cs) F6 k0 b0 g0 (ok_deck F0 m_abs m_len) k2 b2 g2 (ok_odd F2 k1 b1 g1 (GN 3))
    k3 b3 g3 (ok_flags F3 ec kit gX0 gX1 gX2 gX3 gX4 gX5 gX6 gX7 gX8 gX9 gX10 gX11 gX12 gX13 gX14 gX15 gX16 gX17 gX18 gX19 gX20 gX21 gX22 gX23 gX24 m_isinstance) k5 b5 g5 (ok_fields F5 ec T0 T1 T2 T3 T4 T5 T6 T7 T8 T9 T10 T11 T12 T13 T14 T15) k4 b4 g4 (ok_with F4 T0 T1 T2 T3 T4 T5 T6 T7 T8 T9 T10 T11 T12 T13 T14 T15)
    (PySem.W.mg_of X G zc0) (PySem.W.mg_of X G zc1) (PySem.W.mg_of X G zc2) (PySem.W.mg_of X G zc3) (PySem.W.mg_of X G zc4) (PySem.W.mg_of X G zc5) ec (PySem.W.mg_of X G eB) kB kV xq16_ gX16 kp16_ xq17_ gX17 kp17_ xq18_ gX18 kp18_ xq19_ gX19 kp19_ xq20_ gX20 kp20_ xq21_ gX21 kp21_ xq22_ gX22 kp22_ xq23_ gX23 kp23_ xq24_ gX24 kp24_ m_range m_isinstance m_repr m_enumerate m_ValueError

end TR
open PySem PySem.W PyProof.Rows
set_option maxHeartbeats 0 in
theorem PySem.Challenge.cw_tasterow_k01_limits_and_exceptions_holds : PySem.Challenge.rw_tasterow_k01_limits_and_exceptions.Holds := by
  w_on; o_law; k_head; (case hw => w_witness2)
  k_fill
  refine TR.walk_ofG (l := PySem.Challenge.rw_tasterow_k01_limits_and_exceptions) (n := 63) (k := 6) (x := "_law_script") (sp := fun w => TR.spLaw _) rfl (by decide) rfl ⟨rfl, by decide, by decide⟩ (fun w h Y => PySem.W.kIn_of Y) ?F (fun _ _ a ns hl _ hS => ⟨a, ns, rfl, hS, hl, fun _ => rfl⟩)
  case F =>
    intro w mg fa h KX G hmg
    refine' TR.all_mk KX G hmg ?a0 ?l0 ?c0 ?k0 ?a1 ?l1 ?c1 ?k1 ?a2 ?l2 ?c2 ?k2 ?a3 ?l3 ?c3 ?k3 ?a4 ?l4 ?c4 ?k4 ?a5 ?l5 ?c5 ?k5 ?a6 ?l6 ?c6 ?k6 ?zc0 ?zc1 ?zc2 ?zc3 ?zc4 ?zc5 ?eB ?n0 ?n1 ?n2 ?n3 ?n4 ?n5 ?n6 ?n7 ?n8 ?n9 ?n10 ?n11 ?n12 ?n13 ?n14 ?n15 ?n16 ?n17 ?n18 ?n19 ?n20 ?n21 ?n22 ?n23 ?n24 ?ehn ?eht ?ga0_ ?gg0_ ?ex0_ ?hd0_ ?ha0_ ?hm0_ ?kp0_ ?ga1_ ?gg1_ ?ex1_ ?hd1_ ?ha1_ ?hm1_ ?kp1_ ?ga2_ ?gg2_ ?ex2_ ?hd2_ ?ha2_ ?hm2_ ?kp2_ ?ga3_ ?gg3_ ?ex3_ ?hd3_ ?ha3_ ?hm3_ ?kp3_ ?ga4_ ?gg4_ ?ex4_ ?hd4_ ?ha4_ ?hm4_ ?kp4_ ?ga5_ ?gg5_ ?ex5_ ?hd5_ ?ha5_ ?hm5_ ?kp5_ ?ga6_ ?gg6_ ?ex6_ ?hd6_ ?ha6_ ?hm6_ ?kp6_ ?ga7_ ?gg7_ ?ex7_ ?hd7_ ?ha7_ ?hm7_ ?kp7_ ?ga8_ ?gg8_ ?ex8_ ?hd8_ ?ha8_ ?hm8_ ?kp8_ ?ga9_ ?gg9_ ?ex9_ ?hd9_ ?ha9_ ?hm9_ ?kp9_ ?ga10_ ?gg10_ ?ex10_ ?hd10_ ?ha10_ ?hm10_ ?kp10_ ?ga11_ ?gg11_ ?ex11_ ?hd11_ ?ha11_ ?hm11_ ?kp11_ ?ga12_ ?gg12_ ?ex12_ ?hd12_ ?ha12_ ?hm12_ ?kp12_ ?ga13_ ?gg13_ ?ex13_ ?hd13_ ?ha13_ ?hm13_ ?kp13_ ?ga14_ ?gg14_ ?ex14_ ?hd14_ ?ha14_ ?hm14_ ?kp14_ ?ga15_ ?gg15_ ?ex15_ ?hd15_ ?ha15_ ?hm15_ ?kp15_ ?ga16_ ?gg16_ ?ex16_ ?hd16_ ?ha16_ ?hm16_ ?kp16_ ?ga17_ ?gg17_ ?ex17_ ?hd17_ ?ha17_ ?hm17_ ?kp17_ ?ga18_ ?gg18_ ?ex18_ ?hd18_ ?ha18_ ?hm18_ ?kp18_ ?ga19_ ?gg19_ ?ex19_ ?hd19_ ?ha19_ ?hm19_ ?kp19_ ?ga20_ ?gg20_ ?ex20_ ?hd20_ ?ha20_ ?hm20_ ?kp20_ ?ga21_ ?gg21_ ?ex21_ ?hd21_ ?ha21_ ?hm21_ ?kp21_ ?ga22_ ?gg22_ ?ex22_ ?hd22_ ?ha22_ ?hm22_ ?kp22_ ?ga23_ ?gg23_ ?ex23_ ?hd23_ ?ha23_ ?hm23_ ?kp23_ ?ga24_ ?gg24_ ?ex24_ ?hd24_ ?ha24_ ?hm24_ ?kp24_ ?L0_ ?sa0_ ?no0_ ?in0_ ?tf0_ ?lf0_ ?cf0_ ?ty0_ ?L1_ ?sa1_ ?no1_ ?in1_ ?tf1_ ?lf1_ ?cf1_ ?ty1_ ?L2_ ?sa2_ ?no2_ ?in2_ ?tf2_ ?lf2_ ?cf2_ ?ty2_ ?L3_ ?sa3_ ?no3_ ?in3_ ?tf3_ ?lf3_ ?cf3_ ?ty3_ ?L4_ ?sa4_ ?no4_ ?in4_ ?tf4_ ?lf4_ ?cf4_ ?ty4_ ?L5_ ?sa5_ ?no5_ ?in5_ ?tf5_ ?lf5_ ?cf5_ ?ty5_ ?L6_ ?sa6_ ?no6_ ?in6_ ?tf6_ ?lf6_ ?cf6_ ?ty6_ ?L7_ ?sa7_ ?no7_ ?in7_ ?tf7_ ?lf7_ ?cf7_ ?ty7_ ?L8_ ?sa8_ ?no8_ ?in8_ ?tf8_ ?lf8_ ?cf8_ ?ty8_ ?L9_ ?sa9_ ?no9_ ?in9_ ?tf9_ ?lf9_ ?cf9_ ?ty9_ ?L10_ ?sa10_ ?no10_ ?in10_ ?tf10_ ?lf10_ ?cf10_ ?ty10_ ?L11_ ?sa11_ ?no11_ ?in11_ ?tf11_ ?lf11_ ?cf11_ ?ty11_ ?L12_ ?sa12_ ?no12_ ?in12_ ?tf12_ ?lf12_ ?cf12_ ?ty12_ ?L13_ ?sa13_ ?no13_ ?in13_ ?tf13_ ?lf13_ ?cf13_ ?ty13_ ?L14_ ?sa14_ ?no14_ ?in14_ ?tf14_ ?lf14_ ?cf14_ ?ty14_ ?L15_ ?sa15_ ?no15_ ?in15_ ?tf15_ ?lf15_ ?cf15_ ?ty15_ ?xq16_ ?xq17_ ?xq18_ ?xq19_ ?xq20_ ?xq21_ ?xq22_ ?xq23_ ?xq24_ ?kt ?z0 ?z1 ?z2 ?z3 ?z4 ?z5 ?z6
    (case a0 => k_is); (case l0 => k_is); (case c0 => k_is); (case k0 => k_is); (case a1 => k_is); (case l1 => k_is); (case c1 => k_is); (case k1 => k_is); (case a2 => k_is); (case l2 => k_is); (case c2 => k_is); (case k2 => k_is); (case a3 => k_is); (case l3 => k_is); (case c3 => k_is); (case k3 => k_is); (case a4 => k_is); (case l4 => k_is); (case c4 => k_is); (case k4 => k_is); (case a5 => k_is); (case l5 => k_is); (case c5 => k_is); (case k5 => k_is); (case a6 => k_is); (case l6 => k_is); (case c6 => k_is); (case k6 => k_is); (case zc0 => k_is); (case zc1 => k_is); (case zc2 => k_is); (case zc3 => k_is); (case zc4 => k_is); (case zc5 => k_is); (case eB => k_is); (case n0 => k_is); (case n1 => k_is); (case n2 => k_is); (case n3 => k_is); (case n4 => k_is); (case n5 => k_is); (case n6 => k_is); (case n7 => k_is); (case n8 => k_is); (case n9 => k_is); (case n10 => k_is); (case n11 => k_is); (case n12 => k_is); (case n13 => k_is); (case n14 => k_is); (case n15 => k_is); (case n16 => k_is); (case n17 => k_is); (case n18 => k_is); (case n19 => k_is); (case n20 => k_is); (case n21 => k_is); (case n22 => k_is); (case n23 => k_is); (case n24 => k_is); (case ehn => k_is); (case eht => k_is); (case ga0_ => k_is); (case gg0_ => k_is); (case ex0_ => k_is); (case hd0_ => k_is); (case ha0_ => k_is); (case hm0_ => k_is); (case kp0_ => k_is); (case ga1_ => k_is); (case gg1_ => k_is); (case ex1_ => k_is); (case hd1_ => k_is); (case ha1_ => k_is); (case hm1_ => k_is); (case kp1_ => k_is); (case ga2_ => k_is); (case gg2_ => k_is); (case ex2_ => k_is); (case hd2_ => k_is); (case ha2_ => k_is); (case hm2_ => k_is); (case kp2_ => k_is); (case ga3_ => k_is); (case gg3_ => k_is); (case ex3_ => k_is); (case hd3_ => k_is); (case ha3_ => k_is); (case hm3_ => k_is); (case kp3_ => k_is); (case ga4_ => k_is); (case gg4_ => k_is); (case ex4_ => k_is); (case hd4_ => k_is); (case ha4_ => k_is); (case hm4_ => k_is); (case kp4_ => k_is); (case ga5_ => k_is); (case gg5_ => k_is); (case ex5_ => k_is); (case hd5_ => k_is); (case ha5_ => k_is); (case hm5_ => k_is); (case kp5_ => k_is); (case ga6_ => k_is); (case gg6_ => k_is); (case ex6_ => k_is); (case hd6_ => k_is); (case ha6_ => k_is); (case hm6_ => k_is); (case kp6_ => k_is); (case ga7_ => k_is); (case gg7_ => k_is); (case ex7_ => k_is); (case hd7_ => k_is); (case ha7_ => k_is); (case hm7_ => k_is); (case kp7_ => k_is); (case ga8_ => k_is); (case gg8_ => k_is); (case ex8_ => k_is); (case hd8_ => k_is); (case ha8_ => k_is); (case hm8_ => k_is); (case kp8_ => k_is); (case ga9_ => k_is); (case gg9_ => k_is); (case ex9_ => k_is); (case hd9_ => k_is); (case ha9_ => k_is); (case hm9_ => k_is); (case kp9_ => k_is); (case ga10_ => k_is); (case gg10_ => k_is); (case ex10_ => k_is); (case hd10_ => k_is); (case ha10_ => k_is); (case hm10_ => k_is); (case kp10_ => k_is); (case ga11_ => k_is); (case gg11_ => k_is); (case ex11_ => k_is); (case hd11_ => k_is); (case ha11_ => k_is); (case hm11_ => k_is); (case kp11_ => k_is); (case ga12_ => k_is); (case gg12_ => k_is); (case ex12_ => k_is); (case hd12_ => k_is); (case ha12_ => k_is); (case hm12_ => k_is); (case kp12_ => k_is); (case ga13_ => k_is); (case gg13_ => k_is); (case ex13_ => k_is); (case hd13_ => k_is); (case ha13_ => k_is); (case hm13_ => k_is); (case kp13_ => k_is); (case ga14_ => k_is); (case gg14_ => k_is); (case ex14_ => k_is); (case hd14_ => k_is); (case ha14_ => k_is); (case hm14_ => k_is); (case kp14_ => k_is); (case ga15_ => k_is); (case gg15_ => k_is); (case ex15_ => k_is); (case hd15_ => k_is); (case ha15_ => k_is); (case hm15_ => k_is); (case kp15_ => k_is); (case ga16_ => k_is); (case gg16_ => k_is); (case ex16_ => k_is); (case hd16_ => k_is); (case ha16_ => k_is); (case hm16_ => k_is); (case kp16_ => k_is); (case ga17_ => k_is); (case gg17_ => k_is); (case ex17_ => k_is); (case hd17_ => k_is); (case ha17_ => k_is); (case hm17_ => k_is); (case kp17_ => k_is); (case ga18_ => k_is); (case gg18_ => k_is); (case ex18_ => k_is); (case hd18_ => k_is); (case ha18_ => k_is); (case hm18_ => k_is); (case kp18_ => k_is); (case ga19_ => k_is); (case gg19_ => k_is); (case ex19_ => k_is); (case hd19_ => k_is); (case ha19_ => k_is); (case hm19_ => k_is); (case kp19_ => k_is); (case ga20_ => k_is); (case gg20_ => k_is); (case ex20_ => k_is); (case hd20_ => k_is); (case ha20_ => k_is); (case hm20_ => k_is); (case kp20_ => k_is); (case ga21_ => k_is); (case gg21_ => k_is); (case ex21_ => k_is); (case hd21_ => k_is); (case ha21_ => k_is); (case hm21_ => k_is); (case kp21_ => k_is); (case ga22_ => k_is); (case gg22_ => k_is); (case ex22_ => k_is); (case hd22_ => k_is); (case ha22_ => k_is); (case hm22_ => k_is); (case kp22_ => k_is); (case ga23_ => k_is); (case gg23_ => k_is); (case ex23_ => k_is); (case hd23_ => k_is); (case ha23_ => k_is); (case hm23_ => k_is); (case kp23_ => k_is); (case ga24_ => k_is); (case gg24_ => k_is); (case ex24_ => k_is); (case hd24_ => k_is); (case ha24_ => k_is); (case hm24_ => k_is); (case kp24_ => k_is); (case L0_ => k_is); (case sa0_ => k_is); (case no0_ => k_is); (case in0_ => k_is); (case tf0_ => k_is); (case lf0_ => k_is); (case cf0_ => k_is); (case ty0_ => k_is); (case L1_ => k_is); (case sa1_ => k_is); (case no1_ => k_is); (case in1_ => k_is); (case tf1_ => k_is); (case lf1_ => k_is); (case cf1_ => k_is); (case ty1_ => k_is); (case L2_ => k_is); (case sa2_ => k_is); (case no2_ => k_is); (case in2_ => k_is); (case tf2_ => k_is); (case lf2_ => k_is); (case cf2_ => k_is); (case ty2_ => k_is); (case L3_ => k_is); (case sa3_ => k_is); (case no3_ => k_is); (case in3_ => k_is); (case tf3_ => k_is); (case lf3_ => k_is); (case cf3_ => k_is); (case ty3_ => k_is); (case L4_ => k_is); (case sa4_ => k_is); (case no4_ => k_is); (case in4_ => k_is); (case tf4_ => k_is); (case lf4_ => k_is); (case cf4_ => k_is); (case ty4_ => k_is); (case L5_ => k_is); (case sa5_ => k_is); (case no5_ => k_is); (case in5_ => k_is); (case tf5_ => k_is); (case lf5_ => k_is); (case cf5_ => k_is); (case ty5_ => k_is); (case L6_ => k_is); (case sa6_ => k_is); (case no6_ => k_is); (case in6_ => k_is); (case tf6_ => k_is); (case lf6_ => k_is); (case cf6_ => k_is); (case ty6_ => k_is); (case L7_ => k_is); (case sa7_ => k_is); (case no7_ => k_is); (case in7_ => k_is); (case tf7_ => k_is); (case lf7_ => k_is); (case cf7_ => k_is); (case ty7_ => k_is); (case L8_ => k_is); (case sa8_ => k_is); (case no8_ => k_is); (case in8_ => k_is); (case tf8_ => k_is); (case lf8_ => k_is); (case cf8_ => k_is); (case ty8_ => k_is); (case L9_ => k_is); (case sa9_ => k_is); (case no9_ => k_is); (case in9_ => k_is); (case tf9_ => k_is); (case lf9_ => k_is); (case cf9_ => k_is); (case ty9_ => k_is); (case L10_ => k_is); (case sa10_ => k_is); (case no10_ => k_is); (case in10_ => k_is); (case tf10_ => k_is); (case lf10_ => k_is); (case cf10_ => k_is); (case ty10_ => k_is); (case L11_ => k_is); (case sa11_ => k_is); (case no11_ => k_is); (case in11_ => k_is); (case tf11_ => k_is); (case lf11_ => k_is); (case cf11_ => k_is); (case ty11_ => k_is); (case L12_ => k_is); (case sa12_ => k_is); (case no12_ => k_is); (case in12_ => k_is); (case tf12_ => k_is); (case lf12_ => k_is); (case cf12_ => k_is); (case ty12_ => k_is); (case L13_ => k_is); (case sa13_ => k_is); (case no13_ => k_is); (case in13_ => k_is); (case tf13_ => k_is); (case lf13_ => k_is); (case cf13_ => k_is); (case ty13_ => k_is); (case L14_ => k_is); (case sa14_ => k_is); (case no14_ => k_is); (case in14_ => k_is); (case tf14_ => k_is); (case lf14_ => k_is); (case cf14_ => k_is); (case ty14_ => k_is); (case L15_ => k_is); (case sa15_ => k_is); (case no15_ => k_is); (case in15_ => k_is); (case tf15_ => k_is); (case lf15_ => k_is); (case cf15_ => k_is); (case ty15_ => k_is); (case xq16_ => kernel_rfl); (case xq17_ => kernel_rfl); (case xq18_ => kernel_rfl); (case xq19_ => kernel_rfl); (case xq20_ => kernel_rfl); (case xq21_ => kernel_rfl); (case xq22_ => kernel_rfl); (case xq23_ => kernel_rfl); (case xq24_ => kernel_rfl); (case kt => kernel_rfl); (case z0 => k_is); (case z1 => k_is); (case z2 => k_is); (case z3 => k_is); (case z4 => k_is); (case z5 => k_is); (case z6 => k_is)
