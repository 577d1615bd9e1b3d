import PyProof.Rows.All
import Wide.All
import OpenK.AllK
import Wide.FinOn
import PySem.Challenge.RW_tasterow_k26_whole_medians_decide
import HandS.ForMost
import HandS.Conv
import HandS.Strs
import HandS.TupAny
import HandS.Style
import HandS.IsInst
import HandS.EndBits
import HandS.Walk
import HandS.SortInts
import HandS.SortOrd
import HandS.Deep
import HandS.Wide
import HandS.ForExc
import HandS.ExcIs
import HandS.ExcValue
import HandS.HotCalls
import HandS.NoneIn
import HandS.SetFor
import HandS.TupMul
import HandS.NamedTupSort
import HandS.SetKeys
import HandS.Flow
import HandS.Strs
import HandS.Set
import HandS.SetFor
import HandS.Zip
import HandS.TupSets
import KE.GoesEnum
import KE.KExcIs
import KE.RegKIsAll
import KE.DataMinMax
import KE.SortData
import PyProof.Claim2Refuses
import KE.DataFind
import KE.DataMinKey
import KE.KDictSum
import KE.KUnpackStar
import HandS.SetBool
import KE.KDictZip
import KE.KeyNested
import KE.KDictKeyed
import KE.KDictWalk
import HandS.TupLen
import HandS.Lambda
import HandS.EndTab
import HandS.Nested
import KE.SortKeyHeap
import KE.KNestM
set_option Elab.async false
set_option linter.all false
set_option maxRecDepth 100000
namespace TR
open PySem PySem.Spec PyProof.Rows L2
/-! ### heaps -/
theorem same_upd {H : Hp} {p : Addr} {o : HO} (h : H p = none) : Same H (upd H p o) := fun b x e => by
  rw [upd_ne (ne_of_none e h)]
  exact e
theorem same_upd2 {H H1 : Hp} {p : Addr} {o : HO} (s : Same H H1) (h : H p = none) : Same H (upd H1 p o) := fun b x e => by
  rw [upd_ne (ne_of_none e h)]
  exact s b x e
theorem sqL {K : PySem.W.Frag} {H : Hp} {a : Addr} {xs : List V} (h : H a = some (.lst xs)) : SqL K H a xs := .inl (.inl h)
/-- all but the deck's two changing lists is as it was -/
def Keep (d p : Addr) (H H' : Hp) : Prop := ∀ b o, H b = some o → b ≠ d → b ≠ p → H' b = some o
theorem Keep.refl (d p : Addr) (H : Hp) : Keep d p H H := fun _ _ h _ _ => h
theorem Keep.trans {d p : Addr} {H H1 H2 : Hp} (a : Keep d p H H1) (b : Keep d p H1 H2) : Keep d p H H2 := fun c o h n m => b c o (a c o h n m) n m
theorem Same.keep {d p : Addr} {H H1 : Hp} (a : Same H H1) : Keep d p H H1 := fun c o h _ _ => a c o h
theorem keep_upd {d p x : Addr} {H H1 : Hp} {o : HO} (a : Keep d p H H1) (h : x = d ∨ x = p) : Keep d p H (upd H1 x o) := fun c u e n m => by
  rw [upd_ne (by rintro rfl; rcases h with h | h; exact n h; exact m h)]
  exact a c u e n m
/-! ### data -/
theorem dpAll_ints {K : PySem.W.Frag} {H : Hp} : ∀ xs : List Int, DpAll K H (xs.map V.int) (xs.map PyData.int)
  | [] => .nil
  | x :: r => .cons (.int x) (dpAll_ints r)
theorem can_ints : ∀ xs : List Int, PyData.canLayAll0 (xs.map PyData.int) = true
  | [] => rfl
  | x :: r => by
    show (true && PyData.canLayAll0 (r.map PyData.int)) = true
    rw [can_ints r]
    rfl
theorem dep_ints : ∀ xs : List Int, PyData.depthAll (xs.map PyData.int) = 0
  | [] => rfl
  | x :: r => by
    show max 0 (PyData.depthAll (r.map PyData.int)) = 0
    rw [dep_ints r]
    rfl
theorem shaped_ints (xs : List Int) : SeqAt.shaped (.list (xs.map PyData.int)) = true := by
  show (PyData.canLayAll0 (xs.map PyData.int) && decide (PyData.depthAll (xs.map PyData.int) + 1 ≤ 64)) = true
  rw [can_ints, dep_ints]
  rfl
theorem eqv_nil (xs : List Int) : PyData.eqv (.list (xs.map PyData.int)) (.list []) = xs.isEmpty := by
  cases xs with
  | nil => rfl
  | cons x r => rfl
/-! ### the deck -/
structure DeckL (H : Hp) (d p q : Addr) (n : Nat) (m : Nat) : Prop where
  ex : ∃ (xs cs : List Int) (c : Int), H d = some (.lst [.ref p, .ref q, .int c]) ∧ H p = some (.lst (xs.map V.int)) ∧ H q = some (.lst (cs.map V.int)) ∧
    0 ≤ c ∧ c ≤ (n : Int) ∧ cs ≠ [] ∧ xs.length = m
  dp : d ≠ p
  dq : d ≠ q
  pq : p ≠ q
def Deck (H : Hp) (d p q : Addr) (n : Nat) : Prop := ∃ m, DeckL H d p q n m
theorem DeckL.same {H H' : Hp} {d p q : Addr} {n m : Nat} (D : DeckL H d p q n m) (s : Same H H') : DeckL H' d p q n m := by
  obtain ⟨xs, cs, c, h1, h2, h3, h4⟩ := D.ex
  exact ⟨⟨xs, cs, c, s _ _ h1, s _ _ h2, s _ _ h3, h4⟩, D.dp, D.dq, D.pq⟩
theorem Deck.same {H H' : Hp} {d p q : Addr} {n : Nat} (D : Deck H d p q n) (s : Same H H') : Deck H' d p q n := by
  obtain ⟨m, D⟩ := D
  exact ⟨m, D.same s⟩
theorem Deck.mono {H : Hp} {d p q : Addr} {n k : Nat} (D : Deck H d p q n) (h : n ≤ k) : Deck H d p q k := by
  obtain ⟨m, ⟨xs, cs, c, h1, h2, h3, h4, h5, h6⟩, a, b, e⟩ := D
  exact ⟨m, ⟨xs, cs, c, h1, h2, h3, h4, by omega, h6⟩, a, b, e⟩
theorem Deck.hd {H : Hp} {d p q : Addr} {n : Nat} (D : Deck H d p q n) : ∃ a b c, H d = some (.lst [.ref a, .ref b, .int c]) := by
  obtain ⟨m, ⟨xs, cs, c, h1, _⟩, _⟩ := D
  exact ⟨_, _, _, h1⟩
theorem Deck.hp {H : Hp} {d p q : Addr} {n : Nat} (D : Deck H d p q n) : ∃ xs : List Int, H p = some (.lst (xs.map V.int)) := by
  obtain ⟨m, ⟨xs, cs, c, h1, h2, _⟩, _⟩ := D
  exact ⟨_, h2⟩
/-- a tuple that stands as the very object, without a dict of its own -/
def TF (H : Hp) (a : Addr) (xs : List V) : Prop := ∃ o : Obj, o.dict = none ∧ H a = some (.frz o (.tup xs))
theorem TF.rd {H : Hp} {a : Addr} {xs : List V} (h : TF H a xs) : Rd H a (.tup xs) := by
  obtain ⟨o, _, e⟩ := h
  exact .inr ⟨o, e⟩
theorem TF.same {H H' : Hp} {a : Addr} {xs : List V} (h : TF H a xs) (s : Same H H') : TF H' a xs := by
  obtain ⟨o, d, e⟩ := h
  exact ⟨o, d, s _ _ e⟩
theorem TF.keep {H H' : Hp} {a d p q : Addr} {n : Nat} {xs : List V} (h : TF H a xs) (D : Deck H d p q n) (s : Keep d p H H') : TF H' a xs := by
  obtain ⟨x, y, c, e1⟩ := D.hd
  obtain ⟨zs, e2⟩ := D.hp
  obtain ⟨o, hd, e⟩ := h
  exact ⟨o, hd, s _ _ e (ne_of e e1 (by intro z; cases z)) (ne_of e e2 (by intro z; cases z))⟩
theorem TF.updl {H : Hp} {a D : Addr} {us xs ys : List V} (h : TF H a us) (e : H D = some (.lst xs)) : TF (upd H D (.lst ys)) a us := by
  obtain ⟨o, hd, g⟩ := h
  exact ⟨o, hd, by rw [upd_ne (ne_of g e (by intro z; cases z))]; exact g⟩
theorem TF.new {H : Hp} {a : Addr} {xs : List V} {o : Obj} (h : o.dict = none) : TF (upd H a (.frz o (.tup xs))) a xs := ⟨o, h, upd_same⟩
theorem tf_same {H H' : Hp} {a : Addr} {xs : List V} (s : Same H H') (h : TF H a xs) : TF H' a xs := h.same s
end TR
namespace TR
/-! ### rankings as lists of ints -/
def rng (n : Nat) : List Int := (List.range n).map fun i : Nat => (i : Int)
def Rank (n : Nat) (ns : List Int) : Prop := ns.Perm (rng n)
theorem rng_len (n : Nat) : (rng n).length = n := by
  unfold rng; rw [List.length_map, List.length_range]
theorem mem_rng {n : Nat} {x : Int} : x ∈ rng n ↔ 0 ≤ x ∧ x < (n : Int) := by
  unfold rng
  rw [List.mem_map]
  constructor
  · rintro ⟨i, hi, rfl⟩
    have := List.mem_range.mp hi
    omega
  · rintro ⟨h0, h1⟩
    exact ⟨x.toNat, List.mem_range.mpr (by omega), by omega⟩
theorem rng_nodup (n : Nat) : (rng n).Nodup := by
  unfold rng List.Nodup
  rw [List.pairwise_map]
  exact List.nodup_range.imp (by intro a b h e; exact h (by omega))
theorem Rank.len {n : Nat} {ns : List Int} (h : Rank n ns) : ns.length = n := (List.Perm.length_eq h).trans (rng_len n)
theorem Rank.mem {n : Nat} {ns : List Int} (h : Rank n ns) {x : Int} (h0 : 0 ≤ x) (h1 : x < (n : Int)) : x ∈ ns := (List.Perm.mem_iff h).mpr (mem_rng.mpr ⟨h0, h1⟩)
theorem Rank.bnd {n : Nat} {ns : List Int} (h : Rank n ns) {x : Int} (m : x ∈ ns) : 0 ≤ x ∧ x < (n : Int) := mem_rng.mp ((List.Perm.mem_iff h).mp m)
theorem Rank.nodup {n : Nat} {ns : List Int} (h : Rank n ns) : ns.Nodup := (List.Perm.nodup_iff h).mpr (rng_nodup n)
/-! ### preference -/
def pref (ns : List Int) (a b : Int) : Bool := decide (ns.idxOf a < ns.idxOf b)
theorem idx_at {ns : List Int} (nd : ns.Nodup) {i : Nat} {x : Int} (h : ns[i]? = some x) : ns.idxOf x = i := by
  obtain ⟨hi, e⟩ := List.getElem?_eq_some_iff.mp h
  have m : x ∈ ns := e ▸ List.getElem_mem hi
  have hl : ns.idxOf x < ns.length := List.idxOf_lt_length_of_mem m
  have e2 : ns[ns.idxOf x] = x := List.getElem_idxOf hl
  exact (List.getElem_inj nd).mp (e2.trans e.symm)
theorem at_idx {ns : List Int} {x : Int} (m : x ∈ ns) : ns[ns.idxOf x]? = some x := by
  have hl : ns.idxOf x < ns.length := List.idxOf_lt_length_of_mem m
  rw [List.getElem?_eq_getElem hl, List.getElem_idxOf hl]
theorem idx_inj {ns : List Int} {x y : Int} (m : x ∈ ns) (e : ns.idxOf x = ns.idxOf y) : x = y ∨ y ∉ ns := by
  by_cases h : y ∈ ns
  · left
    have a := at_idx m
    have b := at_idx h
    rw [e, b] at a
    exact (Option.some.inj a).symm
  · exact .inr h
/-! ### pairs and differences -/
def prow (n a : Nat) : List (Int × Int) := (List.range (n - (a + 1))).map fun j : Nat => ((a : Int), ((a : Int) + 1 + (j : Int)))
def pairs (n : Nat) : List (Int × Int) := (List.range n).flatMap (prow n)
theorem mem_pairs {n : Nat} {p : Int × Int} (h : p ∈ pairs n) : 0 ≤ p.1 ∧ p.1 < p.2 ∧ p.2 < (n : Int) := by
  unfold pairs prow at h
  obtain ⟨a, ha, hp⟩ := List.mem_flatMap.mp h
  obtain ⟨j, hj, rfl⟩ := List.mem_map.mp hp
  have h1 := List.mem_range.mp ha
  have h2 := List.mem_range.mp hj
  dsimp only
  omega
def agr (one other : List Int) (p : Int × Int) : Bool := pref one p.1 p.2 == pref other p.1 p.2
def diffs (n : Nat) (one other : List Int) : List (Int × Int) := (pairs n).filter fun p => !agr one other p
theorem agr_symm (one other : List Int) (p : Int × Int) : agr one other p = agr other one p := by
  unfold agr
  cases pref one p.1 p.2 <;> cases pref other p.1 p.2 <;> rfl
theorem diffs_symm (n : Nat) (one other : List Int) : diffs n one other = diffs n other one := by
  unfold diffs
  congr 1
  funext p
  rw [agr_symm]
/-! ### exchanging neighbours, drawing -/
end TR
namespace TR
open PySem PySem.Spec PyProof.Rows L2
theorem flat_ints (ys : List Int) : (ys.map V.int).all flatV = true := by
  rw [List.all_map]; exact List.all_eq_true.mpr fun _ _ => rfl
def rTupIdx (K : PySem.W.Frag) : V → List V → Hp → VK → Prop := fun x xs H Q => ∃ p, ∃ ys : List Int, ∃ z j, x = .ref p ∧ xs = [.int z] ∧ SqT K H p (ys.map V.int) ∧ ys[j]? = some z ∧ (∀ m, m < j → ys[m]? ≠ some z) ∧ Q (.int (j : Nat)) H
section
variable {X : Cx}
/-- t.index(k), t a tuple of ints: the first place -/
theorem mt_tupIdx : MtR X "tuple.index" (fun x xs H Q => ∃ p, ∃ ys : List Int, ∃ z j, x = .ref p ∧ xs = [.int z] ∧ SqT X.K H p (ys.map V.int) ∧ ys[j]? = some z ∧ (∀ m, m < j → ys[m]? ≠ some z) ∧ Q (.int (j : Nat)) H) := by
  intro pins s σ H x xs v us Q I rx rs h
  obtain ⟨p, ys, z, j, rfl, rfl, hS, hy, hno, q⟩ := h
  cases rx
  obtain ⟨u, rfl, t, rfl⟩ := vals1 rs
  obtain ⟨its, r, pl, hz⟩ := I.tuple hS
  obtain ⟨⟨c1, dd, dt, sl⟩, ho, hc, n, hd⟩ := pl
  simp only at hc hd; subst hc; subst hd
  have hl : its.toArray.size = ys.length := by
    rw [List.size_toArray, ← r.length]; exact List.length_map _
  have hj : j < its.toArray.size := hl.symm ▸ (List.getElem?_eq_some_iff.mp hy).1
  have pick : ∀ (m : Nat) (hm : m < its.toArray.size), ∃ y t', ys[m]? = some y ∧ its.toArray[m] = Value.int y t' := fun m hm => by
    have hm2 : m < ys.length := hl ▸ hm
    obtain ⟨w, hw, t', hw'⟩ := r.get (i := m) (x := .int ys[m]) (by simp [hm2])
    refine ⟨ys[m], t', List.getElem?_eq_getElem hm2, ?_⟩
    have e := (List.getElem?_eq_some_iff.mp hw).2
    rw [← hw', ← e]; simp
  refine call_meets PySem.F.slot_tuple_index ⟨_, ho, rfl⟩ PySem.F.entry_tuple_index (PySem.F.args_tuple_index_2 _ _) (TI.tuple_indexAt p its.toArray n dd sl (.int z t) (eqU (.int z)) j hj ?_ ?_)
    ⟨ho, fun w hw => mem_eqAt (x := .int z) ⟨t, rfl⟩ rfl r (flat_ints ys) w (by simpa using hw), ⟨.int (j : Nat), H, I.tok _, ⟨_, rfl⟩, q⟩⟩
  · obtain ⟨y, t', h1, h2⟩ := pick j hj
    rw [hy] at h1; cases h1; rw [h2]
    show (z == z) = true; exact beq_self_eq_true z
  · intro m hm hmj
    obtain ⟨y, t', h1, h2⟩ := pick m hm
    rw [h2]; show (y == z) = false
    exact beq_eq_false_iff_ne.mpr fun e => hno m hmj (e ▸ h1)
end
section
variable {prog : Program} {w : World} {A : Around} {E : Value → Shared → Prop} {s : Shared}
end
section
variable {X : Cx}
/-- tuple(a list): the new tuple, as the very object -/
theorem call_tupleF : CallR X (.type "tuple") (fun xs H Q => ∃ p ys, xs = [.ref p] ∧ SqL X.K H p ys ∧ ∀ l o, H l = none → o.dict = none → Q (.ref l) (upd H l (.frz o (.tup ys)))) := by
  intro pins s σ H xs us Q I r ⟨p, ys, ex, hS, q⟩
  subst ex
  obtain ⟨u, rfl, rx⟩ := vals1 r
  cases rx
  obtain ⟨its, r', pl, hz⟩ := I.list hS
  have hlen := r'.length
  refine call_tuple_list pl.isList (fun h' kp => ?_) (by simp only [List.size_toArray] <;> omega)
  have I1 : Inv X pins σ H { s with heap := h' } := I.kept (t' := s.toks) kp
  exact ⟨.ref h'.objs.size, _, I1.laid (t' := s.toks) (o := .frz { cls := .type "tuple", data := .seq its.toArray } (.tup ys)) (fun b o e => Heap.get?_push_of_some _ e) (Nat.le_refl _) ⟨Heap.get?_push_size _ rfl, hz, its, r', IsTup.new _ _⟩, rfl, q _ _ (I1.hok.fresh (Nat.le_refl _)) rfl⟩
/-- t + u -/
def rCatF (K : PySem.W.Frag) : R2 := fun x y H Q => ∃ a b xs ys, x = .ref a ∧ y = .ref b ∧ SqT K H a xs ∧ SqT K H b ys ∧ xs.length + ys.length ≤ sizeLine ∧
  (xs = [] → Q (.ref b) H) ∧ (xs ≠ [] → ys = [] → Q (.ref a) H) ∧ (xs ≠ [] → ys ≠ [] → ∀ p o, H p = none → o.dict = none → Q (.ref p) (upd H p (.frz o (.tup (xs ++ ys)))))
theorem op_catF : OpR X (binaryOp .Add) (rCatF X.K) := by
  intro pins s σ H x y v u Q I rx ry ⟨a, b, xs, ys, ex, ey, ha, hb, hz, q0, q1, q2⟩
  subst ex ey; cases rx; cases ry
  obtain ⟨its, r1, p1, _⟩ := I.tuple ha
  obtain ⟨its2, r2, p2, _⟩ := I.tuple hb
  by_cases hx : xs = []
  · subst hx; cases r1
    exact cat_tup0 p1 p2 ⟨.ref b, H, I, rfl, q0 rfl⟩
  · refine HT.cat_tup p1 p2 (fun z => hx (r1.nil_iff.mp z)) (fun z => ⟨.ref a, H, I, rfl, q1 hx (r2.nil_iff.mp z)⟩) (fun z => ?_) (by rw [← r1.length, ← r2.length]; exact hz)
    exact ⟨.ref s.heap.objs.size, _, I.laid (t' := s.toks) (o := .frz { cls := .type "tuple", data := .seq (its ++ its2).toArray } (.tup (xs ++ ys))) (fun b ob q => Heap.get?_push_of_some _ q) (Nat.le_refl _)
      ⟨Heap.get?_push_size _ rfl, by rw [List.length_append]; exact hz, _, r1.append r2, IsTup.new _ _⟩, rfl, q2 hx (fun w => z (r2.nil_iff.mpr w)) _ _ (I.hok.fresh (Nat.le_refl _)) rfl⟩
/-- t[lo:hi] -/
def rSlF (K : PySem.W.Frag) : V → Option Int → Option Int → Hp → VK → Prop := fun x lo hi H Q => ∃ a xs, x = .ref a ∧ SqT K H a xs ∧
  (HT.sIx xs.length 0 lo = 0 ∧ HT.sIx xs.length xs.length hi = xs.length → Q (.ref a) H) ∧
  (¬ (HT.sIx xs.length 0 lo = 0 ∧ HT.sIx xs.length xs.length hi = xs.length) → ∀ p o, H p = none → o.dict = none → Q (.ref p) (upd H p (.frz o (.tup (cutV xs lo hi)))))
theorem sl_tupF : SlR X (rSlF X.K) := by
  intro pins s σ H x v vl vu lo hi sl Q I rx hs pl pu ⟨a, xs, ex, hx, q1, q2⟩
  subst ex; cases rx
  obtain ⟨its, r, ht, hz⟩ := I.tuple hx
  have hlen : its.toArray.size = xs.length := List.size_toArray.trans r.length.symm
  refine ⟨"tuple", _, PyProof.Rows.slot_tuple_getitem.lookup, ht.typeIs, ?_⟩
  by_cases hw : HT.sIx xs.length 0 lo = 0 ∧ HT.sIx xs.length xs.length hi = xs.length
  · exact getItem_tuple_whole ht hs pl pu (by rw [hlen]; exact hw) ⟨.ref a, H, I, rfl, q1 hw⟩
  · refine HT.getItem_tuple_cut ht hs pl pu (by rw [hlen]; exact hw) ?_ (by rw [hlen]; exact hz)
    rw [hlen]
    exact ⟨.ref s.heap.objs.size, _, I.laid (t' := s.toks) (o := .frz { cls := .type "tuple", data := .seq ((its.toArray.toList.drop (HT.sIx xs.length 0 lo)).take (HT.sIx xs.length xs.length hi - HT.sIx xs.length 0 lo)).toArray } (.tup (cutV xs lo hi))) (fun b ob q => Heap.get?_push_of_some _ q) (Nat.le_refl _)
      ⟨Heap.get?_push_size _ rfl, Nat.le_trans (cutV_length xs lo hi) hz, _, (r.drop (HT.sIx xs.length 0 lo)).take (HT.sIx xs.length xs.length hi - HT.sIx xs.length 0 lo), IsTup.new _ _⟩, rfl, q2 hw _ _ (I.hok.fresh (Nat.le_refl _)) rfl⟩
/-- t.m(e, ..), t a tuple that stands as the very object, without a dict of its own -/
def tBMT (r : V → List V → Hp → VK → Prop) (to : TE) (t : TA) : TE := fun σ H Q => to σ H fun x H1 => (∃ p ob ys, x = .ref p ∧ ob.dict = none ∧ H1 p = some (.frz ob (.tup ys))) ∧ t σ H1 fun xs H2 => r x xs H2 Q
theorem pe_bmT {o e : Expr} {es : List Expr} {to : TE} {t : TA} {name : Str} {apos cpos : Pos} {id : String} {r : V → List V → Hp → VK → Prop} (slot : Slot "tuple" name id) (hty : typeOf (.builtin id) = pure (.type "method_descriptor")) (hm : MtR X id r) (ho : PE X o to) (ha : PA X (e :: es) t)
    (hbase : attributeBase o name X.env (eval o X.env) = eval o X.env := by rfl)
    (hfew : ((backTo cpos (starEach (e :: es) X.env)).all (fun x => !x.1) && (backToKw cpos (keywordEach [] X.env)).all (fun x => x.1.isSome) && decide ((e :: es).length + ([] : List Keyword).length + (if ([] : List Keyword).isEmpty then 0 else 1) < 30)) = true := by rfl)
    (hline : (apos.endLine == cpos.line) = true := by rfl) (hs : starEach (e :: es) X.env = (false, eval e X.env) :: starEach es X.env := by rfl) (hplain : (backTo cpos (starEach es X.env)).any (·.1) = false := by rfl) :
    PE X (.Call (.Attribute o name apos) (e :: es) [] cpos) (tBMT r to t) := by
  refine ⟨fun pins s σ H Q I h => wpAny_Call_method_late hbase hfew hline rfl (thn (ho.run pins s σ H _ I h) fun v s1 ⟨x, H1, I1, r1, ⟨p, ob, ys, ex, hd, hp⟩, q1⟩ => ?_)⟩
  subst ex
  cases (show v = Value.ref p from r1)
  obtain ⟨g, z, its, rv, o', g', c', _⟩ := (show ObjOk X.prog X.w H1 s1.heap p (.frz ob (.tup ys)) from I1.hok p _ hp)
  refine ⟨"tuple", id, PySem.F.plainAttrs_tuple, slot, hty, ⟨o', g', c'⟩, fun a e => by cases e; exact ⟨ob, g, hd⟩, ?_⟩
  have hA := ha.run cpos pins s1 σ H1 _ I1 q1
  rw [hs] at hA ⊢
  refine Calls.callWith_builtin (by show (false || (backTo cpos (starEach es X.env)).any (·.1)) = false; rw [hplain] <;> rfl) (Calls.evalArgs_plain (thn hA fun us s2 ⟨vs, H2, I2, r2, q2⟩ => ?_))
  exact hm pins s2 σ H2 (.ref p) vs (.ref p) us Q I2 rfl r2 q2
end
end TR
namespace TR
open PySem PySem.Spec PyProof.Rows L2
section
variable {prog : Program} {w : World} {A : Around} {E : Value → Shared → Prop} {s : Shared}
/-- what a tuple is collected into -/
theorem collect_tup {t : Addr} {vs : List Value} {Q : List Value → Shared → Prop} (ht : IsTup s.heap t vs.toArray) (h : Q vs { s with heap := (s.heap.push (seqObj "list" #[] 0)).update s.heap.objs.size (Obj.mapSeq (· ++ vs.toArray)) }) (hsz : vs.length ≤ sizeLine) : wpAny (model prog w) A (collect (.ref t)) Q E s := by
  obtain ⟨o, ho, hc, n, hd⟩ := id ht
  have ho2 : (s.heap.push (seqObj "list" #[] 0)).get? t = some o := Heap.get?_push_of_some _ ho
  unfold collect; refine wpAny_bind (wpAny_runValue (codeAny_builtin entry_proto_collect' ?_))
  show wpAny _ _ (do again (.builtin "list.__iadd__" ⟨[← newList [], .ref t], []⟩)) _ _ s
  refine wpAny_bind (wpAny_newList (wpAny_pure ⟨Code.quiet_builtin _ (by decide +kernel), codeAny_builtin entry_list_iadd' ?_⟩) (Nat.zero_le _))
  show wpAny _ _ (Builtin.List.listExtendWith (.ref s.heap.objs.size) (.ref t) (.ref s.heap.objs.size)) _ _ { s with heap := s.heap.push (seqObj "list" #[] 0) }
  unfold Builtin.List.listExtendWith; refine wpAny_bind (wpAny_typeOf (T := "tuple") ⟨o, ho2, hc⟩ ?_)
  have hy : (Value.type "tuple" == Value.type "tuple") = true := rfl
  rw [if_pos (by rw [hy]; simp)]; refine wpAny_bind (listItems_at ho2 hd ?_)
  refine wpAny_bind (listItems_at (xs := #[]) (n := 0) (Heap.get?_push_size _ rfl) rfl ?_); rw [if_neg (by simp)]
  refine wpAny_bind (listUpdate_at (xs := #[]) (n := 0) (Heap.get?_push_size _ rfl) rfl (wpAny_pure ?_) (Nat.zero_le _) (by show (#[] ++ vs.toArray).size ≤ sizeLine + 1; simp only [Array.size_append, List.size_toArray, List.length_nil]; omega))
  show wpAny (model prog w) A (load s.heap.objs.size >>= fun ob => match ob.data with | .seq xs _ => pure xs.toList | _ => unsupported "internal:collect") Q E { s with heap := (s.heap.push (seqObj "list" #[] 0)).update s.heap.objs.size (Obj.mapSeq (· ++ vs.toArray)) }
  refine wpAny_bind (wpAny_load (get?_update_seq (Heap.get?_push_size _ rfl) _) ?_)
  show wpAny _ _ (pure ((#[] : Array Value) ++ vs.toArray).toList) Q E _; rw [show ((#[] : Array Value) ++ vs.toArray).toList = vs by simp]; exact wpAny_pure h
/-- sorted of a tuple -/
theorem sorted_tupO {t : Addr} {vs : List Value} {ltv : Value → Value → Bool} {Q : Value → Shared → Prop} (O : SrtO.Swo ltv) (ht : IsTup s.heap t vs.toArray) (hz : vs.length ≤ sizeLine)
    (hS : 2 ≤ vs.length → ∀ (g : Heap) (a : Addr), g.get? a = some (seqObj "list" vs.toArray 0) → (∀ b o, s.heap.get? b = some o → b ≠ a ∧ g.get? b = some o) → SrtO.SortableO prog w A.in1.in1 { s with heap := g } a vs ltv)
    (h : ∀ out : List Value, SrtO.Srtd ltv out → SrtO.Stb ltv out vs → Q (.ref (s.heap.objs.size + 1)) { s with heap := sortedAll s.heap vs out.toArray }) : wpAny (model prog w) A (call (.builtin "sorted") [.ref t]) Q E s := by
  refine Calls.call_function_entry kind_sorted plain_sorted entry_sorted (args_sorted1 _) ?_
  unfold Builtin.«sorted»; refine wpAny_bind (m := checkCount "sorted" 1 1 _) (wpAny_pure (wpAny_bind (collect_tup ht (wpAny_bind (wpAny_newList ?_ hz)) hz)))
  have hn : ((s.heap.push (seqObj "list" #[] 0)).update s.heap.objs.size (Obj.mapSeq (· ++ vs.toArray))).objs.size = s.heap.objs.size + 1 := by rw [Heap.size_update]; simp [Heap.push]
  have hL : (((s.heap.push (seqObj "list" #[] 0)).update s.heap.objs.size (Obj.mapSeq (· ++ vs.toArray))).push (seqObj "list" vs.toArray 0)).get? (s.heap.objs.size + 1) = some (seqObj "list" vs.toArray 0) := hn ▸ Heap.get?_push_size _ rfl
  have kp : ∀ b o, s.heap.get? b = some o → b ≠ s.heap.objs.size + 1 ∧ (((s.heap.push (seqObj "list" #[] 0)).update s.heap.objs.size (Obj.mapSeq (· ++ vs.toArray))).push (seqObj "list" vs.toArray 0)).get? b = some o := fun b o q =>
    ⟨Nat.ne_of_lt (Nat.lt_succ_of_lt (Heap.lt_size q)), Heap.get?_push_of_some _ (by rw [Heap.get?_update_ne _ _ _ _ (Nat.ne_of_lt (Heap.lt_size q))]; exact Heap.get?_push_of_some _ q)⟩
  show wpAny _ _ _ _ _ { s with heap := ((s.heap.push (seqObj "list" #[] 0)).update s.heap.objs.size (Obj.mapSeq (· ++ vs.toArray))).push (seqObj "list" vs.toArray 0) }; rw [hn]
  refine wpAny_bind (wpAny_holding (wpAny_call_entry slot_list_sort ⟨_, hL, rfl⟩ entry_list_sort (SrtO.list_sort_ord O hL hz (fun h2 => hS h2 _ _ hL kp) fun out a b => ⟨_, rfl, wpAny_pure ⟨_, rfl, h out a b⟩⟩) (args_list_sort _)))
end
section
variable {X : Cx}
/-- sorted(t), t a tuple of ints -/
def rSortedTI (K : PySem.W.Frag) : List V → Hp → VK → Prop := fun vs H Q => ∃ (a : Addr) (ns : List Int), vs = [V.ref a] ∧ SqT K H a (ns.map V.int) ∧ ∀ (ms : List Int) (p : Addr), ms.Perm ns → ms.Pairwise (· ≤ ·) → H p = none → Q (.ref p) (upd H p (.lst (ms.map V.int)))
theorem cr_sortedTI : CallR X (.builtin "sorted") (rSortedTI X.K) := by
  intro pins s σ H vs us Q I r ⟨a, ns, ev, hs, q⟩
  subst ev
  obtain ⟨its, rv, ht, hz⟩ := I.tuple hs
  rw [Vals.ref1 r]; have hi := rv.ints
  refine sorted_tupO SrtO.swo_int ht (by rw [← rv.length]; exact hz) (fun h2 g a' _ _ => SrtO.ints_sortable hi h2) fun out h1 h2 => ?_
  obtain ⟨k1, k2, k3⟩ := SrtO.ints_out hi h1 h2; obtain ⟨ep, he⟩ := PyProof.Rows.sortedAll_at s.heap its out.toArray
  have hl : ((out.map SrtO.iv).map V.int).length ≤ sizeLine := by rw [List.length_map, k2.length_eq]; rw [List.length_map] at hz; exact hz
  exact ⟨.ref _, upd H (s.heap.objs.size + 1) (.lst ((out.map SrtO.iv).map V.int)), I.laid (t' := s.toks) (fun _ _ => PyProof.Rows.sortedAll_old) (Nat.le_succ _) ⟨hl, out, ep, vals_of_ints k1, he⟩, rfl, q _ _ k2 k3 (I.hok.fresh (Nat.le_succ _))⟩
end
end TR
namespace TR
open PySem PySem.Spec PyProof.Rows L2
/-! ### values of any kind, as data; ban: where no list of them stands -/
mutual
def Rp (H : Hp) (ban : List Addr) : PyData → V → Prop
  | .none, v => v = .non
  | .bool b, v => v = .bl b
  | .int i, v => v = .int i
  | .str x, v => v = .str x
  | .list ds, v => ∃ a xs, v = .ref a ∧ H a = some (.lst xs) ∧ a ∉ ban ∧ RpAll H ban ds xs
  | .tuple ds, v => ∃ a xs, v = .ref a ∧ TF H a xs ∧ RpAll H ban ds xs
  | .dict kvs, v => kvs = [] ∧ ∃ a, v = .ref a ∧ H a = some (.dK []) ∧ a ∉ ban
def RpAll (H : Hp) (ban : List Addr) : List PyData → List V → Prop
  | [], xs => xs = []
  | d :: ds, xs => ∃ v r, xs = v :: r ∧ Rp H ban d v ∧ RpAll H ban ds r
end
mutual
theorem Rp.mv {H H' : Hp} {ban : List Addr} (mL : ∀ a xs, a ∉ ban → H a = some (.lst xs) → H' a = some (.lst xs)) (mT : ∀ a xs, TF H a xs → TF H' a xs) (mD : ∀ a, a ∉ ban → H a = some (.dK []) → H' a = some (.dK [])) : ∀ (d : PyData) (v : V), Rp H ban d v → Rp H' ban d v
  | .none, _, h => h
  | .bool _, _, h => h
  | .int _, _, h => h
  | .str _, _, h => h
  | .list ds, _, h => by
    obtain ⟨a, xs, e, h1, h2, h3⟩ := h
    exact ⟨a, xs, e, mL a xs h2 h1, h2, RpAll.mv mL mT mD ds xs h3⟩
  | .tuple ds, _, h => by
    obtain ⟨a, xs, e, h1, h3⟩ := h
    exact ⟨a, xs, e, mT a xs h1, RpAll.mv mL mT mD ds xs h3⟩
  | .dict kvs, _, h => by
    obtain ⟨e0, a, e, h1, hb⟩ := h
    exact ⟨e0, a, e, mD a hb h1, hb⟩
theorem RpAll.mv {H H' : Hp} {ban : List Addr} (mL : ∀ a xs, a ∉ ban → H a = some (.lst xs) → H' a = some (.lst xs)) (mT : ∀ a xs, TF H a xs → TF H' a xs) (mD : ∀ a, a ∉ ban → H a = some (.dK []) → H' a = some (.dK [])) : ∀ (ds : List PyData) (xs : List V), RpAll H ban ds xs → RpAll H' ban ds xs
  | [], _, h => h
  | d :: ds, _, h => by
    obtain ⟨v, r, e, h1, h2⟩ := h
    exact ⟨v, r, e, Rp.mv mL mT mD d v h1, RpAll.mv mL mT mD ds r h2⟩
end
theorem Rp.same {H H' : Hp} {ban : List Addr} {d : PyData} {v : V} (h : Rp H ban d v) (s : Same H H') : Rp H' ban d v := Rp.mv (fun a xs _ e => s _ _ e) (fun a xs e => tf_same s e) (fun a _ e => s _ _ e) d v h
theorem RpAll.same {H H' : Hp} {ban : List Addr} {ds : List PyData} {xs : List V} (h : RpAll H ban ds xs) (s : Same H H') : RpAll H' ban ds xs := RpAll.mv (fun a xs _ e => s _ _ e) (fun a xs e => tf_same s e) (fun a _ e => s _ _ e) ds xs h
theorem Rp.keep {H H' : Hp} {ban : List Addr} {d : PyData} {v : V} {k p q : Addr} {n : Nat} (h : Rp H ban d v) (D : Deck H k p q n) (s : Keep k p H H') (b1 : k ∈ ban) (b2 : p ∈ ban) : Rp H' ban d v := by
  obtain ⟨x, y, c, e1⟩ := D.hd
  obtain ⟨zs, e2⟩ := D.hp
  refine Rp.mv (fun a xs hn e => s _ _ e (fun z => hn (z ▸ b1)) (fun z => hn (z ▸ b2))) (fun a xs e => e.keep D s) (fun a _ e => s _ _ e (ne_of e e1 (by intro z; cases z)) (ne_of e e2 (by intro z; cases z))) d v h
theorem RpAll.len {H : Hp} {ban : List Addr} : ∀ {ds : List PyData} {xs : List V}, RpAll H ban ds xs → xs.length = ds.length
  | [], _, h => by rw [show _ = [] from h]; rfl
  | d :: ds, _, h => by
    obtain ⟨v, r, rfl, _, h2⟩ := h
    rw [List.length_cons, List.length_cons, RpAll.len h2]
theorem RpAll.get {H : Hp} {ban : List Addr} : ∀ {ds : List PyData} {xs : List V}, RpAll H ban ds xs → ∀ {i : Nat} {x : V}, xs[i]? = some x → ∃ d, ds[i]? = some d ∧ Rp H ban d x
  | [], _, h, i, x, e => by rw [show _ = [] from h] at e; simp at e
  | d :: ds, _, h, i, x, e => by
    obtain ⟨v, r, rfl, h1, h2⟩ := h
    cases i with
    | zero =>
      cases (Option.some.inj e)
      exact ⟨d, rfl, h1⟩
    | succ i => exact RpAll.get h2 e
theorem RpAll.app {H : Hp} {ban : List Addr} : ∀ {ds es : List PyData} {xs ys : List V}, RpAll H ban ds xs → RpAll H ban es ys → RpAll H ban (ds ++ es) (xs ++ ys)
  | [], _, _, _, h, g => by rw [show _ = [] from h]; exact g
  | d :: ds, _, _, _, h, g => by
    obtain ⟨v, r, rfl, h1, h2⟩ := h
    exact ⟨v, _, rfl, h1, RpAll.app h2 g⟩
theorem RpAll.take {H : Hp} {ban : List Addr} : ∀ {ds : List PyData} {xs : List V} (k : Nat), RpAll H ban ds xs → RpAll H ban (ds.take k) (xs.take k)
  | _, _, 0, _ => rfl
  | [], _, k + 1, h => by rw [show _ = [] from h]; rfl
  | d :: ds, _, k + 1, h => by
    obtain ⟨v, r, rfl, h1, h2⟩ := h
    exact ⟨v, _, rfl, h1, RpAll.take k h2⟩
theorem RpAll.drop {H : Hp} {ban : List Addr} : ∀ {ds : List PyData} {xs : List V} (k : Nat), RpAll H ban ds xs → RpAll H ban (ds.drop k) (xs.drop k)
  | _, _, 0, h => h
  | [], _, k + 1, h => by rw [show _ = [] from h]; rfl
  | d :: ds, _, k + 1, h => by
    obtain ⟨v, r, rfl, h1, h2⟩ := h
    exact RpAll.drop k h2
theorem RpAll.ints {H : Hp} {ban : List Addr} : ∀ ns : List Int, RpAll H ban (ns.map PyData.int) (ns.map V.int)
  | [] => rfl
  | n :: r => ⟨_, _, rfl, rfl, RpAll.ints r⟩
/-! ### what is small enough to be shown -/
def leafOk (L : Nat) : PyData → Prop
  | .none => True
  | .bool _ => True
  | .int i => i.natAbs ≤ 10 ^ 59 + L
  | .str x => x.length ≤ 69 ∧ ∀ c ∈ x.cps.toList, c < 16 ^ 8
  | _ => False
def Wf (L : Nat) : Nat → PyData → Prop
  | 0, d => leafOk L d
  | D + 1, d => leafOk L d ∨ d = .dict [] ∨ ∃ ds, (d = .list ds ∨ d = .tuple ds) ∧ ds.length ≤ L ∧ ∀ e ∈ ds, Wf L D e
theorem leafOk.mono {L L' : Nat} (h : L ≤ L') : ∀ {d : PyData}, leafOk L d → leafOk L' d
  | .none, _ => trivial
  | .bool _, _ => trivial
  | .int i, g => Nat.le_trans g (Nat.add_le_add_left h _)
  | .str _, g => g
theorem Wf.mono {L L' : Nat} (h : L ≤ L') : ∀ {D D' : Nat} {d : PyData}, D ≤ D' → Wf L D d → Wf L' D' d
  | 0, 0, _, _, g => leafOk.mono h g
  | 0, _ + 1, _, _, g => .inl (leafOk.mono h g)
  | _ + 1, 0, _, k, _ => absurd k (by omega)
  | D + 1, D' + 1, _, k, g => by
    rcases g with g | g | ⟨ds, e, l, c⟩
    · exact .inl (leafOk.mono h g)
    · exact .inr (.inl g)
    · exact .inr (.inr ⟨ds, e, Nat.le_trans l h, fun x hx => Wf.mono h (by omega) (c x hx)⟩)
def bnd : Nat → Nat
  | 0 => 700
  | D + 1 => 3 + 11 * (bnd D + 2)
theorem bnd_ge : ∀ D, 700 ≤ bnd D
  | 0 => Nat.le_refl _
  | D + 1 => by
    have := bnd_ge D
    show 700 ≤ 3 + 11 * (bnd D + 2)
    omega
theorem small_int {L : Nat} (h : L ≤ 41) {i : Int} (g : i.natAbs ≤ 10 ^ 59 + L) : i.natAbs < 10 ^ 60 := by
  have e : (10 : Nat) ^ 60 = 10 * 10 ^ 59 := by decide
  have e2 : (41 : Nat) < 10 ^ 59 := by decide
  omega
theorem small_log {i : Int} (g : i.natAbs < 10 ^ 60) : i.natAbs.log2 < 1920 := by
  by_cases h : i.natAbs = 0
  · rw [h]; decide
  · refine (Nat.log2_lt h).mpr (Nat.lt_trans g (by decide +kernel))
theorem leaf_shown {L : Nat} (h : L ≤ 41) : ∀ {d : PyData}, leafOk L d → d.shown.length ≤ 700 ∧ d.showable = true ∧ d.depth = 0
  | .none, _ => ⟨by decide +kernel, rfl, rfl⟩
  | .bool b, _ => ⟨by cases b <;> decide +kernel, rfl, rfl⟩
  | .int i, g => by
    have g2 := small_int h g
    refine ⟨?_, decide_eq_true (small_log g2), rfl⟩
    show (Str.ofString (toString i)).length ≤ 700
    have := int_text_length_le10 (k := 60) (by decide) g2
    rw [PySem.ofString_length]
    omega
  | .str x, g => by
    refine ⟨?_, rfl, rfl⟩
    show (reprText x).length ≤ 700
    have := StrLaws.reprText_len x g.2
    have := g.1
    omega
theorem piled_le {B : Nat} : ∀ ts : List Str, (∀ t ∈ ts, t.length ≤ B) → piled ts ≤ ts.length * (B + 2)
  | [], _ => Nat.zero_le _
  | t :: r, h => by
    have := piled_le r fun x hx => h x (List.mem_cons_of_mem _ hx)
    have := h t (List.mem_cons_self ..)
    rw [piled_cons, List.length_cons, Nat.succ_mul]
    omega
theorem text_le : ∀ (ts : List Str) (k : Nat) (acc : Str), (textFrom k acc ts).length ≤ acc.length + piled ts
  | [], _, _ => Nat.le_refl _
  | t :: r, k, acc => by
    have := text_le r (k + 1) (acc ++ (if k > 0 then ", " else "" : String) ++ t)
    rw [Str.length_append, Str.length_append] at this
    have e : ((if k > 0 then ", " else "" : String) : Str).length ≤ 2 := by
      split <;> decide +kernel
    rw [piled_cons]
    show (textFrom (k + 1) (acc ++ (if k > 0 then ", " else "" : String) ++ t) r).length ≤ _
    omega
theorem list_le (ts : List Str) : (listText ts).length ≤ 2 + piled ts := by
  have := text_le ts 0 "["
  unfold listText
  rw [Str.length_append]
  have e1 : ("[" : Str).length = 1 := by decide +kernel
  have e2 : ("]" : Str).length = 1 := by decide +kernel
  omega
theorem tup_le (ts : List Str) : (tupleText ts).length ≤ 3 + piled ts := by
  unfold tupleText
  rw [Str.length_append, Str.length_append]
  have e1 : ("(" : Str).length = 1 := by decide +kernel
  have e2 : ((if (ts.length == 1) = true then ",)" else ")" : String) : Str).length ≤ 2 := by
    split <;> decide +kernel
  have e3 : (Str.join ", " ts).length ≤ piled ts := by
    cases ts with
    | nil => decide +kernel
    | cons t r =>
      have := join_length_add (t :: r) (by simp)
      omega
  omega
theorem shownAll_len : ∀ ds : List PyData, (PyData.shownAll ds).length = ds.length
  | [] => rfl
  | d :: r => by
    show (PyData.shownAll r).length + 1 = r.length + 1
    rw [shownAll_len r]
theorem shownAll_mem : ∀ (ds : List PyData) (t : Str), t ∈ PyData.shownAll ds → ∃ d ∈ ds, t = d.shown
  | [], _, h => by cases h
  | d :: r, t, h => by
    rcases List.mem_cons.mp h with e | h
    · exact ⟨d, List.mem_cons_self .., e⟩
    · obtain ⟨x, hx, e⟩ := shownAll_mem r t h
      exact ⟨x, List.mem_cons_of_mem _ hx, e⟩
theorem showAll : ∀ ds : List PyData, (∀ d ∈ ds, d.showable = true) → PyData.showableAll ds = true
  | [], _ => rfl
  | d :: r, h => by
    show (d.showable && PyData.showableAll r) = true
    rw [h d (List.mem_cons_self ..), showAll r fun x hx => h x (List.mem_cons_of_mem _ hx)]
    rfl
theorem depAll {D : Nat} : ∀ ds : List PyData, (∀ d ∈ ds, d.depth ≤ D) → PyData.depthAll ds ≤ D
  | [], _ => Nat.zero_le _
  | d :: r, h => by
    show max d.depth (PyData.depthAll r) ≤ D
    exact Nat.max_le.mpr ⟨h d (List.mem_cons_self ..), depAll r fun x hx => h x (List.mem_cons_of_mem _ hx)⟩
theorem Wf.shown {L : Nat} (h : L ≤ 11) : ∀ {D : Nat} {d : PyData}, Wf L D d → d.shown.length ≤ bnd D ∧ d.showable = true ∧ d.depth ≤ D
  | 0, _, g => by
    obtain ⟨a, b, c⟩ := leaf_shown (by omega) g
    exact ⟨a, b, by omega⟩
  | D + 1, d, g => by
    have hb : 700 ≤ bnd (D + 1) := bnd_ge (D + 1)
    rcases g with g | rfl | ⟨ds, e, l, c⟩
    · obtain ⟨a, b, c⟩ := leaf_shown (by omega) g
      exact ⟨Nat.le_trans a hb, b, by omega⟩
    · exact ⟨Nat.le_trans (by decide +kernel) hb, rfl, by show 0 + 1 ≤ D + 1; omega⟩
    · have ih := fun x hx => Wf.shown h (c x hx)
      have p1 : piled (PyData.shownAll ds) ≤ 11 * (bnd D + 2) := by
        refine Nat.le_trans (piled_le (B := bnd D) _ fun t ht => ?_) ?_
        · obtain ⟨x, hx, rfl⟩ := shownAll_mem ds t ht
          exact (ih x hx).1
        · rw [shownAll_len]
          exact Nat.mul_le_mul_right _ (by omega)
      have p2 := showAll ds fun x hx => (ih x hx).2.1
      have p3 := depAll ds fun x hx => (ih x hx).2.2
      rcases e with rfl | rfl
      · refine ⟨?_, p2, ?_⟩
        · show (listText (PyData.shownAll ds)).length ≤ 3 + 11 * (bnd D + 2)
          have := list_le (PyData.shownAll ds)
          omega
        · show PyData.depthAll ds + 1 ≤ D + 1
          omega
      · refine ⟨?_, p2, ?_⟩
        · show (tupleText (PyData.shownAll ds)).length ≤ 3 + 11 * (bnd D + 2)
          have := tup_le (PyData.shownAll ds)
          omega
        · show PyData.depthAll ds + 1 ≤ D + 1
          omega
/-! ### how many parts, and how long shown -/
mutual
def sz : PyData → Nat
  | .none => 1
  | .bool _ => 1
  | .int _ => 1
  | .str _ => 1
  | .list ds => 1 + szAll ds
  | .tuple ds => 1 + szAll ds
  | .dict _ => 1
def szAll : List PyData → Nat
  | [] => 0
  | d :: r => sz d + szAll r
end
theorem szAll_le {B : Nat} : ∀ ds : List PyData, (∀ d ∈ ds, sz d ≤ B) → szAll ds ≤ ds.length * B
  | [], _ => Nat.zero_le _
  | d :: r, h => by
    have h1 := h d (List.mem_cons_self ..)
    have h2 := szAll_le r fun x hx => h x (List.mem_cons_of_mem _ hx)
    show sz d + szAll r ≤ (r.length + 1) * B
    rw [Nat.succ_mul]
    omega
def zb (L : Nat) : Nat → Nat
  | 0 => 1
  | D + 1 => 1 + L * zb L D
theorem leaf_sz {L : Nat} : ∀ {d : PyData}, leafOk L d → sz d = 1
  | .none, _ => rfl
  | .bool _, _ => rfl
  | .int _, _ => rfl
  | .str _, _ => rfl
theorem Wf.sz {L : Nat} : ∀ {D : Nat} {d : PyData}, Wf L D d → sz d ≤ zb L D
  | 0, _, g => Nat.le_of_eq (leaf_sz g)
  | D + 1, d, g => by
    have h1 : 1 ≤ zb L (D + 1) := by show 1 ≤ 1 + L * zb L D; omega
    rcases g with g | rfl | ⟨ds, e, l, c⟩
    · rw [leaf_sz g]; exact h1
    · exact h1
    · have h2 := szAll_le ds fun x hx => Wf.sz (c x hx)
      have h3 : ds.length * zb L D ≤ L * zb L D := Nat.mul_le_mul_right _ l
      rcases e with rfl | rfl
      · show 1 + szAll ds ≤ 1 + L * zb L D
        omega
      · show 1 + szAll ds ≤ 1 + L * zb L D
        omega
end TR
namespace TR
open PySem PySem.Spec PyProof.Rows L2
section
variable {X : Cx} {pins : List (Addr × Obj)} {σ : L2.St} {H : Hp} {s : Shared}
end
section
variable {X : Cx}
/-- xs == [] -/
theorem op_eqL0 (hu : X.A.units < cLine) : OpR X (compareOp .Eq) (fun x y H Q => ∃ a b xs, x = .ref a ∧ y = .ref b ∧ SqL X.K H a xs ∧ SqL X.K H b [] ∧ Q (.bl xs.isEmpty) H) := by
  intro pins s σ H x y v u Q I rx ry ⟨a, b, xs, ex, ey, ha, hb, q⟩
  subst ex ey; cases rx; cases ry
  obtain ⟨its, r1, p1, _⟩ := I.list ha
  obtain ⟨its2, r2, p2, _⟩ := I.list hb
  cases r2
  cases r1 with
  | nil => exact SeqAt.RcAt.lists (e := fun _ => true) p1.isList p2.isList rfl hu (fun j j1 _ => absurd j1 (by simp)) _ _ _ _ ⟨.bl true, H, I, rfl, q⟩
  | cons _ _ => exact SeqAt.RcAt.lists_lengths p1.isList p2.isList (by simp) hu _ _ _ _ ⟨.bl false, H, I, rfl, q⟩
/-- xs != [] -/
theorem op_neL0 (hu : X.A.units < cLine) : OpR X (compareOp .NotEq) (fun x y H Q => ∃ a b xs, x = .ref a ∧ y = .ref b ∧ SqL X.K H a xs ∧ SqL X.K H b [] ∧ Q (.bl (!xs.isEmpty)) H) := by
  intro pins s σ H x y v u Q I rx ry ⟨a, b, xs, ex, ey, ha, hb, q⟩
  subst ex ey; cases rx; cases ry
  obtain ⟨its, r1, p1, _⟩ := I.list ha
  obtain ⟨its2, r2, p2, _⟩ := I.list hb
  cases r2
  cases r1 with
  | nil => exact SeqAt.RcNeAt.lists (e := fun _ => true) p1.isList p2.isList rfl hu (fun j j1 _ => absurd j1 (by simp)) _ _ _ _ ⟨.bl false, H, I, rfl, q⟩
  | cons _ _ => exact SeqAt.RcNeAt.lists_lengths p1.isList p2.isList (by simp) hu _ _ _ _ ⟨.bl true, H, I, rfl, q⟩
/-- t != () -/
theorem op_neT0 (hu : X.A.units < cLine) : OpR X (compareOp .NotEq) (fun x y H Q => ∃ a b xs, x = .ref a ∧ y = .ref b ∧ SqT X.K H a xs ∧ SqT X.K H b [] ∧ Q (.bl (!xs.isEmpty)) H) := by
  intro pins s σ H x y v u Q I rx ry ⟨a, b, xs, ex, ey, ha, hb, q⟩
  subst ex ey; cases rx; cases ry
  obtain ⟨its, r1, p1, _⟩ := I.tuple ha
  obtain ⟨its2, r2, p2, _⟩ := I.tuple hb
  cases r2
  have h := SeqAt.RcNeAt.tuples (A := X.A) (s := s) (e := fun _ => true) p1 p2 hu (fun j _ j2 => absurd j2 (by simp))
  cases r1 with
  | nil => exact h _ _ _ _ ⟨.bl false, H, I, rfl, q⟩
  | cons _ _ => exact h _ _ _ _ ⟨.bl true, H, I, rfl, q⟩
/-- b + i, b - i, b a bool -/
theorem op_add_bi : OpR X (binaryOp .Add) (fun x y H Q => ∃ k i, x = .bl k ∧ y = .int i ∧ Q (.int ((if k = true then (1 : Int) else 0) + i)) H) := by
  intro pins s σ H x y v u Q I rx ry ⟨k, i, ex, ey, q⟩
  subst ex ey; cases rx; obtain ⟨t, rfl⟩ := ry
  exact PySem.IntBool.add_bool_int ⟨.int _, H, I.tok _, ⟨_, rfl⟩, q⟩
theorem op_sub_bi : OpR X (binaryOp .Sub) (fun x y H Q => ∃ k i, x = .bl k ∧ y = .int i ∧ Q (.int ((if k = true then (1 : Int) else 0) - i)) H) := by
  intro pins s σ H x y v u Q I rx ry ⟨k, i, ex, ey, q⟩
  subst ex ey; cases rx; obtain ⟨t, rfl⟩ := ry
  exact PySem.IntBool.sub_bool_int ⟨.int _, H, I.tok _, ⟨_, rfl⟩, q⟩
/-- two rules for one operator: by what stands there -/
theorem OpR.either {f : Value → Value → Sem Value} {r1 r2 : R2} (h1 : OpR X f r1) (h2 : OpR X f r2) : OpR X f (fun x y H Q => r1 x y H Q ∨ r2 x y H Q) := by
  intro pins s σ H x y v u Q I rx ry h
  rcases h with h | h
  · exact h1 pins s σ H x y v u Q I rx ry h
  · exact h2 pins s σ H x y v u Q I rx ry h
end
/-! ### the type of a value -/
def tyD : PyData → String
  | .none => "NoneType"
  | .bool _ => "bool"
  | .int _ => "int"
  | .str _ => "str"
  | .list _ => "list"
  | .tuple _ => "tuple"
  | .dict _ => "dict"
theorem tyRp {K : PySem.W.Frag} {H : Hp} {ban : List Addr} : ∀ {d : PyData} {v : V}, Rp H ban d v → TyX K H v (.type (tyD d))
  | .none, _, h => by rw [show _ = V.non from h]; exact .base .non
  | .bool b, _, h => by rw [show _ = V.bl b from h]; exact .base (.bl b)
  | .int i, _, h => by rw [show _ = V.int i from h]; exact .base (.int i)
  | .str x, _, h => by rw [show _ = V.str x from h]; exact .base (.str x)
  | .list ds, _, h => by
    obtain ⟨a, xs, rfl, h1, _⟩ := h
    exact .base (.lst h1)
  | .tuple ds, _, h => by
    obtain ⟨a, xs, rfl, ⟨o, _, h1⟩, _⟩ := h
    exact .fTuple h1
  | .dict kvs, _, h => by
    obtain ⟨_, a, rfl, h1, _⟩ := h
    exact .base (.dK h1)
end TR
namespace TR
open PySem PySem.Spec PyProof.Rows L2
section
variable {X : Cx}
/-! ### new objects, told by what holds behind them -/
def tTupN (t : TA) : TE := fun σ H Q => t σ H fun xs H1 => xs.length ≤ sizeLine ∧ ∀ p H', H1 p = none → Same H1 H' → TF H' p xs → Q (.ref p) H'
theorem pe_tupN {es : List Expr} {t : TA} {pos : Pos} {x1} (h : PA X es t) : PE X (.Tuple es x1 pos) (tTupN t) := by
  refine ⟨fun pins s σ H Q I hq => wpAny_Tuple_spliced (thn (h.run pos pins s σ H _ I hq) fun us s1 ⟨xs, H1, I1, r, z, q⟩ => ⟨by rw [← r.length]; exact z, ?_⟩)⟩
  have hf : H1 s1.heap.objs.size = none := I1.hok.fresh (Nat.le_refl _)
  exact ⟨.ref s1.heap.objs.size, _, I1.laid (t' := s1.toks) (o := .frz { cls := .type "tuple", data := .seq us.toArray } (.tup xs)) (fun b u e => Heap.get?_push_of_some _ e) (Nat.le_refl _) ⟨Heap.get?_push_size _ rfl, z, us, r, IsTup.new _ _⟩, rfl, q _ _ hf (same_upd hf) (TF.new rfl)⟩
def tLstN (t : TA) : TE := fun σ H Q => t σ H fun xs H1 => xs.length ≤ sizeLine ∧ ∀ p H', H1 p = none → p ≠ sysModules → Same H1 H' → H' p = some (.lst xs) → Q (.ref p) H'
theorem pe_lstN {es : List Expr} {t : TA} {pos : Pos} (h : PA X es t) : PE X (.List es pos) (tLstN t) := by
  refine ⟨fun pins s σ H Q I hq => wpAny_List_spliced (thn (h.run pos pins s σ H _ I hq) fun us s1 ⟨xs, H1, I1, r, z, q⟩ => ⟨by rw [← r.length]; exact z, ?_⟩)⟩
  have hf : H1 s1.heap.objs.size = none := I1.hok.fresh (Nat.le_refl _)
  exact ⟨.ref s1.heap.objs.size, _, I1.laid (t' := s1.toks) (o := .lst xs) (fun b u e => Heap.get?_push_of_some _ e) (Nat.le_refl _) ⟨z, us, 0, r, Heap.get?_push_size _ rfl⟩, rfl, q _ _ hf (Nat.ne_of_gt I1.big) (same_upd hf) upd_same⟩
/-- xs + ys, lists -/
theorem op_catN : OpR X (binaryOp .Add) (fun x y H Q => ∃ a b xs ys, x = .ref a ∧ y = .ref b ∧ H a = some (.lst xs) ∧ H b = some (.lst ys) ∧ xs.length + ys.length ≤ sizeLine ∧ ∀ p H', H p = none → Same H H' → H' p = some (.lst (xs ++ ys)) → Q (.ref p) H') := by
  intro pins s σ H x y v u Q I rx ry ⟨a, b, xs, ys, ex, ey, ha, hb, hz, q⟩
  exact op_cat pins s σ H x y v u Q I rx ry ⟨a, b, xs, ys, ex, ey, ha, hb, hz, fun p hp => q p _ hp (same_upd hp) upd_same⟩
/-- t + u, tuples: some tuple of both -/
theorem op_catTN : OpR X (binaryOp .Add) (fun x y H Q => ∃ a b xs ys, x = .ref a ∧ y = .ref b ∧ TF H a xs ∧ TF H b ys ∧ xs.length + ys.length ≤ sizeLine ∧ ∀ p H', Same H H' → TF H' p (xs ++ ys) → Q (.ref p) H') := by
  intro pins s σ H x y v u Q I rx ry ⟨a, b, xs, ys, ex, ey, ha, hb, hz, q⟩
  refine op_catF pins s σ H x y v u Q I rx ry ⟨a, b, xs, ys, ex, ey, .inl ha.rd, .inl hb.rd, hz, fun e => ?_, fun _ e => ?_, fun _ _ p o hp ho => q p _ (same_upd hp) (TF.new ho)⟩
  · subst e; exact q b H (Same.refl _) hb
  · subst e; exact q a H (Same.refl _) (by rw [List.append_nil]; exact ha)
theorem cut_whole {xs : List V} {lo hi : Option Int} (h : HT.sIx xs.length 0 lo = 0 ∧ HT.sIx xs.length xs.length hi = xs.length) : cutV xs lo hi = xs := by
  unfold cutV
  rw [h.1, h.2]
  exact List.take_of_length_le (by simp)
/-- t[lo:hi]: some tuple of the part -/
theorem sl_tupN : SlR X (fun x lo hi H Q => ∃ a xs, x = .ref a ∧ TF H a xs ∧ ∀ p H', Same H H' → TF H' p (cutV xs lo hi) → Q (.ref p) H') := by
  intro pins s σ H x v vl vu lo hi sl Q I rx hs pl pu ⟨a, xs, ex, hx, q⟩
  refine sl_tupF pins s σ H x v vl vu lo hi sl Q I rx hs pl pu ⟨a, xs, ex, .inl hx.rd, fun hw => ?_, fun _ p o hp ho => q p _ (same_upd hp) (TF.new ho)⟩
  exact q a H (Same.refl _) (by rw [cut_whole hw]; exact hx)
end
end TR
namespace TR
open PySem PySem.Spec PyProof.Rows L2
section
variable {X : Cx}
end
end TR
namespace TR
open PySem PySem.Spec PyProof.Rows L2
/-! ### the layer of data: what a slot holds, what a state is -/
structure XD where
  cls : Addr
  fld : Option (Str × PyData)
inductive AV where
  | dat (d : PyData)
  | own (ds : List PyData)
  | dct (kvs : List (PyData × PyData))
  | dcn (kvs : List (PyData × PyData))
  | dcl (kvs : List (PyData × List Int))
  | lck (t : Bool) (kvs : List (PyData × PyData))
  | bor (d : PyData)
  | deck
  | exc (x : XD)
structure AS where
  sl : List (Option AV)
  n : Nat
abbrev XP := XD → AS → Prop
inductive Op where
  | val (d : PyData)
  | slot (i : Nat)
  | deck
abbrev AE := XP → AS → (PyData → AS → Prop) → Prop
abbrev AO := XP → AS → (Op → AS → Prop) → Prop
abbrev AT := XP → AS → (Bool → AS → Prop) → Prop
abbrev AA := XP → AS → (List Op → AS → Prop) → Prop
structure AEnds where
  nx : AS → Prop
  rt : PyData → Nat → Prop
  bk : AS → Prop := fun _ => False
  ct : AS → Prop := fun _ => False
abbrev AST := XP → AEnds → AS → Prop
/-! ### how it stands in the heap -/
/-- what is held for a while: data, or an object that nobody changes -/
inductive Hd where
  | dat (d : PyData) (v : V)
  | ob (a : Addr) (o : HO)
/-- the deck's third list, and the tables of code objects with the names that they tell -/
abbrev DQ := Addr × List (Addr × Str)
def DeckT (H : Hp) (d p : Addr) (q : DQ) (n : Nat) : Prop := Deck H d p q.1 n ∧ LamX.Tabs q.2 H
theorem DeckT.same {H H' : Hp} {d p : Addr} {q : DQ} {n : Nat} (h : DeckT H d p q n) (m : Same H H') : DeckT H' d p q n := ⟨h.1.same m, h.2.ext m⟩
structure Fx where
  B : List Addr
  dk0 : Option (Addr × Addr × DQ)
  H0 : Hp
  T : List Hd
  Z : List (Addr × HO)
  ex : Option (Addr × Addr × Option Addr)
  cs : List Addr
  tt : List (Addr × Str)
/-- what is wanted of an exception; the one that is handled -/
structure EC where
  x : L2.St → XK
  ex : Option (Addr × Addr × Option Addr)
  cs : List Addr
  tt : List (Addr × Str)
abbrev EC.z (Ec : EC) : EC := ⟨fun _ _ _ _ => False, Ec.ex, Ec.cs, Ec.tt⟩
abbrev eE (E : XK) : EC := ⟨fun _ => E, none, [], []⟩
abbrev eT (T : List (Addr × Str)) (E : XK) : EC := ⟨fun _ => E, none, [], T⟩
structure OE where
  dk : Option (Addr × Addr × DQ)
  R : List (Nat × Addr)
def OE.add (E : OE) (i : Nat) (l : Addr) : OE := ⟨E.dk, (i, l) :: E.R⟩
def dkl : Option (Addr × Addr × DQ) → List Addr
  | none => []
  | some (d, p, q) => d :: p :: q.1 :: q.2.map (·.1)
def chg (E : OE) : List Addr := dkl E.dk ++ E.R.map (·.2)
def ban (Φ : Fx) (E : OE) : List Addr := chg E ++ (Φ.Z.map (·.1) ++ Φ.B)
def Le (E' E : OE) : Prop := E'.dk = E.dk ∧ ∀ x ∈ E'.R, x ∈ E.R
theorem Le.refl (E : OE) : Le E E := ⟨rfl, fun _ h => h⟩
theorem Le.trans {a b c : OE} (h : Le a b) (g : Le b c) : Le a c := ⟨h.1.trans g.1, fun x hx => g.2 x (h.2 x hx)⟩
theorem Le.chg {E' E : OE} (h : Le E' E) : ∀ a ∈ chg E', a ∈ TR.chg E := fun a ha => by
  unfold TR.chg at ha ⊢
  rw [h.1] at ha
  rcases List.mem_append.mp ha with h1 | h1
  · exact List.mem_append_left _ h1
  · obtain ⟨x, hx, rfl⟩ := List.mem_map.mp h1
    exact List.mem_append_right _ (List.mem_map.mpr ⟨x, h.2 x hx, rfl⟩)
theorem ban_sub {Φ : Fx} {E' E : OE} (h : ∀ a ∈ chg E', a ∈ chg E) : ∀ a ∈ ban Φ E', a ∈ TR.ban Φ E := fun a ha => by
  unfold TR.ban at ha ⊢
  rcases List.mem_append.mp ha with h2 | h2
  · exact List.mem_append_left _ (h a h2)
  · exact List.mem_append_right _ h2
theorem Le.ban {Φ : Fx} {E' E : OE} (h : Le E' E) : ∀ a ∈ ban Φ E', a ∈ TR.ban Φ E := ban_sub h.chg
def KB (E : OE) (H H' : Hp) : Prop := ∀ b o, H b = some o → b ∉ chg E → H' b = some o
theorem KB.refl (E : OE) (H : Hp) : KB E H H := fun _ _ h _ => h
theorem KB.trans {E E1 : OE} {H H1 H2 : Hp} (a : KB E H H1) (l : Le E1 E) (b : KB E1 H1 H2) : KB E H H2 := fun c o h n => b c o (a c o h n) fun m => n (l.chg c m)
theorem KB.of_same {E : OE} {H H1 : Hp} (s : Same H H1) : KB E H H1 := fun _ _ h _ => s _ _ h
/-- a list may stand where nothing else of the data may -/
def RpX (H : Hp) (bn : List Addr) (d : PyData) (v : V) : Prop := Rp H bn d v ∨ ∃ a ds xs, d = .list ds ∧ v = .ref a ∧ H a = some (.lst xs) ∧ RpAll H bn ds xs
/-- an exception: its class, its field's value -/
def XRep (H : Hp) (bn : List Addr) (x : XD) (da : Option Addr) : Prop := match x.fld with
  | none => da = none
  | some (f, d) => ∃ e v, da = some e ∧ H e = some (.xd [(f, v)]) ∧ Rp H bn d v
/-- what stands where things may change -/
def Mu : HO → Prop
  | .lst _ => True
  | .dK _ => True
  | .ext φ => ∀ c q, HO.ext φ ≠ LamX.CodeO c q
  | .tbl _ => True
  | _ => False
def keyD : PyData → Option Key
  | .int i => some (.inl i)
  | .str x => some (.inr x)
  | _ => none
/-- the entries of a dict -/
def KRel (H : Hp) (bn : List Addr) (kvs : List (PyData × PyData)) (ks : List (Key × V)) : Prop := Paired (fun p q => keyD p.1 = some q.1 ∧ Rp H bn p.2 q.2) kvs ks
/-- dicts whose keys are tuples of ints and truth values: the key, its tuple, the value -/
def entI (x : List Int × Addr × Value) : DictEntry := { hash := reduceHash (Builtin.Tuple.tupleHashOf (x.1.map hashInt)), key := .ref x.2.1, val := x.2.2 }
def RawD (h : Heap) (d : Addr) (xs : List (List Int × Addr × Value)) : Prop := ∃ o es ep, h.get? d = some o ∧ o.ExactDict ∧ o.data = .dict es ep ∧ es.toList = xs.map entI ∧ (xs.map (·.1)).Nodup
def KVN (kvs : List (List Int × Addr × V)) (xs : List (List Int × Addr × Value)) : Prop := Paired (fun p q => p.1 = q.1 ∧ p.2.1 = q.2.1 ∧ RelV p.2.2 q.2.2) kvs xs
def DN (d : Addr) (kvs : List (List Int × Addr × V)) : HO := .ext fun h => kvs.length ≤ sizeLine ∧ (d == sysModules) = false ∧ ∃ xs, KVN kvs xs ∧ RawD h d xs
/-- what stands for a dict with tuple keys is no code object -/
theorem mu_DN {d : Addr} {ks : List (List Int × Addr × V)} : Mu (DN d ks) := fun c q e => by
  unfold LamX.CodeO at e
  injection e with e
  let ob : Obj := { cls := .none, data := .fields #[Value.none, Value.str q (0 : Nat)] }
  let h0 : Heap := ⟨Array.replicate (c + 1) ob, {}⟩
  have at_ : ∀ b o, h0.get? b = some o → o = ob := fun b o g => by
    unfold Heap.get? at g
    split at g
    · cases g
    · rw [show h0.objs = Array.replicate (c + 1) ob from rfl, Array.getElem?_replicate] at g
      split at g
      · exact (Option.some.inj g).symm
      · cases g
  have hc : h0.get? c = some ob := by
    unfold Heap.get?
    rw [show h0.objs[c]? = some ob from by rw [show h0.objs = Array.replicate (c + 1) ob from rfl, Array.getElem?_replicate, if_pos (Nat.lt_succ_self c)]]
  have := congrFun e h0
  have pc : ∃ (oc : Obj) (vs : Array Value) (t : Tok), h0.get? c = some oc ∧ oc.data = Data.fields vs ∧ vs[1]? = some (Value.str q t) := ⟨ob, _, (0 : Nat), hc, rfl, rfl⟩
  obtain ⟨_, _, xs, _, o, es, ep, g1, _, g3, _⟩ := Eq.mpr this pc
  rw [at_ _ _ g1] at g3
  cases g3
def leafI : PyData → Option Int
  | .int i => some i
  | .bool b => some (if b = true then 1 else 0)
  | _ => none
def keyTs : List PyData → Option (List Int)
  | [] => some []
  | d :: ds => match leafI d, keyTs ds with
    | some i, some r => some (i :: r)
    | _, _ => none
def keyT : PyData → Option (List Int)
  | .tuple ds => keyTs ds
  | _ => none
def NRel (H : Hp) (bn : List Addr) (kvs : List (PyData × PyData)) (ks : List (List Int × Addr × V)) : Prop := Paired (fun p q => keyT p.1 = some q.1 ∧ Rp H bn p.1 (.ref q.2.1) ∧ Rp H bn p.2 q.2.2) kvs ks
def Hl (H : Hp) (bn : List Addr) : Hd → Prop
  | .dat d v => Rp H bn d v
  | .ob a o => H a = some o ∧ a ∉ bn
/-- a dict with tuple keys whose values are lists of ints that are built here -/
def GRel (M : Addr → Prop) (H : Hp) (bn : List Addr) (kvs : List (PyData × List Int)) (ks : List (List Int × Addr × V)) : Prop := Paired (fun p q => keyT p.1 = some q.1 ∧ Rp H bn p.1 (.ref q.2.1) ∧ ∃ b, q.2.2 = .ref b ∧ M b ∧ H b = some (.lst (p.2.map V.int))) kvs ks
/-- a dict that is locked: with int or text keys, or with tuple keys -/
def LRel (H : Hp) (bn : List Addr) (a : Addr) : Bool → List (PyData × PyData) → Prop
  | false, kvs => ∃ o ks, H a = some (.frz o (.dK ks)) ∧ KRel H bn kvs ks
  | true, kvs => ∃ o ks, H a = some (.frz o (DN a ks)) ∧ NRel H bn kvs ks
def RelS (Φ : Fx) (E : OE) (H : Hp) (i : Nat) : AV → V → Prop
  | .dat d, v => Rp H (ban Φ E) d v
  | .own ds, v => ∃ a xs, v = .ref a ∧ (i, a) ∈ E.R ∧ H a = some (.lst xs) ∧ RpAll H (ban Φ E) ds xs
  | .dct kvs, v => ∃ a ks, v = .ref a ∧ (i, a) ∈ E.R ∧ H a = some (.dK ks) ∧ KRel H (ban Φ E) kvs ks
  | .dcn kvs, v => ∃ a ks, v = .ref a ∧ (i, a) ∈ E.R ∧ H a = some (DN a ks) ∧ NRel H (ban Φ E) kvs ks
  | .dcl kvs, v => ∃ a ks, v = .ref a ∧ (i, a) ∈ E.R ∧ H a = some (DN a ks) ∧ (ks.map (·.2.2)).Nodup ∧ GRel (fun b => (i, b) ∈ E.R) H (ban Φ E) kvs ks
  | .lck t kvs, v => ∃ a, v = .ref a ∧ a ∉ ban Φ E ∧ Φ.H0 a = none ∧ LRel H (ban Φ E) a t kvs
  | .bor d, v => Rp H (ban Φ E) d v ∨ ∃ a ds xs, d = .list ds ∧ v = .ref a ∧ H a = some (.lst xs) ∧ a ∈ Φ.B ∧ RpAll H (ban Φ E) ds xs
  | .deck, v => ∃ d p q, E.dk = some (d, p, q) ∧ v = .ref d
  | .exc x, v => ∃ a da, Φ.ex = some (a, x.cls, da) ∧ v = .ref a ∧ XRep H (ban Φ E) x da ∧ x.cls ∈ Φ.cs
structure Rel (Φ : Fx) (E : OE) (s : AS) (σ : L2.St) (H : Hp) : Prop where
  len : s.sl.length = σ.length
  val : ∀ i x, s.sl[i]? = some (some x) → ∃ v, σ[i]? = some (some v) ∧ RelS Φ E H i x v
  dk : ∀ d p q, E.dk = some (d, p, q) → DeckT H d p q s.n ∧ ∀ a ∈ dkl E.dk, a ∉ Φ.B ∧ (a ∈ dkl Φ.dk0 ∨ Φ.H0 a = none)
  own : ∀ i a, (i, a) ∈ E.R → (∃ o, H a = some o ∧ Mu o) ∧ a ∉ Φ.B ∧ a ∉ dkl E.dk ∧ Φ.H0 a = none
  inj : ∀ i j a, (i, a) ∈ E.R → (j, a) ∈ E.R → i = j
  fr : ∀ b o, Φ.H0 b = some o → b ∉ dkl Φ.dk0 → H b = some o
  dk0 : ∀ t, Φ.dk0 = some t → E.dk = some t
  alive : ∀ b ∈ Φ.B, (∃ o, Φ.H0 b = some o) ∧ b ∉ dkl Φ.dk0
  held : ∀ x ∈ Φ.T, Hl H (ban Φ E) x
  zz : ∀ x ∈ Φ.Z, H x.1 = some x.2 ∧ x.1 ∉ chg E ∧ Φ.H0 x.1 = none
  znd : (Φ.Z.map (·.1)).Nodup
  tt : Φ.tt = [] ∨ ∃ d p q, E.dk = some (d, p, (q, Φ.tt))
mutual
theorem Rp.bn {H : Hp} {b b' : List Addr} (h : ∀ a xs, H a = some (.lst xs) → a ∉ b → a ∉ b') (hd : ∀ a, H a = some (.dK []) → a ∉ b → a ∉ b') : ∀ (d : PyData) (v : V), Rp H b d v → Rp H b' d v
  | .none, _, r => r
  | .bool _, _, r => r
  | .int _, _, r => r
  | .str _, _, r => r
  | .list ds, _, r => by
    obtain ⟨a, xs, e, h1, h2, h3⟩ := r
    exact ⟨a, xs, e, h1, h a xs h1 h2, RpAll.bn h hd ds xs h3⟩
  | .tuple ds, _, r => by
    obtain ⟨a, xs, e, h1, h3⟩ := r
    exact ⟨a, xs, e, h1, RpAll.bn h hd ds xs h3⟩
  | .dict kvs, _, r => by
    obtain ⟨e0, a, e, h1, h2⟩ := r
    exact ⟨e0, a, e, h1, fun m => hd a h1 h2 m⟩
theorem RpAll.bn {H : Hp} {b b' : List Addr} (h : ∀ a xs, H a = some (.lst xs) → a ∉ b → a ∉ b') (hd : ∀ a, H a = some (.dK []) → a ∉ b → a ∉ b') : ∀ (ds : List PyData) (xs : List V), RpAll H b ds xs → RpAll H b' ds xs
  | [], _, r => r
  | d :: ds, _, r => by
    obtain ⟨v, t, e, h1, h2⟩ := r
    exact ⟨v, t, e, Rp.bn h hd d v h1, RpAll.bn h hd ds t h2⟩
end
theorem Rp.wk {H : Hp} {b b' : List Addr} (h : ∀ a ∈ b', a ∈ b) {d : PyData} {v : V} (r : Rp H b d v) : Rp H b' d v := Rp.bn (fun a _ _ n m => n (h a m)) (fun a _ n m => n (h a m)) d v r
theorem RpAll.wk {H : Hp} {b b' : List Addr} (h : ∀ a ∈ b', a ∈ b) {ds : List PyData} {xs : List V} (r : RpAll H b ds xs) : RpAll H b' ds xs := RpAll.bn (fun a _ _ n m => n (h a m)) (fun a _ n m => n (h a m)) ds xs r
theorem Rp.fresh {H : Hp} {b b' : List Addr} (h : ∀ a ∈ b', a ∈ b ∨ H a = none) {d : PyData} {v : V} (r : Rp H b d v) : Rp H b' d v := Rp.bn (fun a _ e n m => by
  rcases h a m with z | z
  · exact n z
  · rw [z] at e; cases e) (fun a e n m => by
  rcases h a m with z | z
  · exact n z
  · rw [z] at e; cases e) d v r
theorem RpAll.fresh {H : Hp} {b b' : List Addr} (h : ∀ a ∈ b', a ∈ b ∨ H a = none) {ds : List PyData} {xs : List V} (r : RpAll H b ds xs) : RpAll H b' ds xs := RpAll.bn (fun a _ e n m => by
  rcases h a m with z | z
  · exact n z
  · rw [z] at e; cases e) (fun a e n m => by
  rcases h a m with z | z
  · exact n z
  · rw [z] at e; cases e) ds xs r
theorem XRep.wk {H : Hp} {b b' : List Addr} (h : ∀ a ∈ b', a ∈ b) {x : XD} {da : Option Addr} (r : XRep H b x da) : XRep H b' x da := by
  unfold XRep at r ⊢
  split
  · next e => rw [e] at r; exact r
  · next f d e =>
    rw [e] at r
    obtain ⟨e, v, h1, h2, h3⟩ := r
    exact ⟨e, v, h1, h2, h3.wk h⟩
theorem XRep.same {H H' : Hp} {b : List Addr} {x : XD} {da : Option Addr} (r : XRep H b x da) (s : Same H H') : XRep H' b x da := by
  unfold XRep at r ⊢
  split
  · next e => rw [e] at r; exact r
  · next f d e =>
    rw [e] at r
    obtain ⟨e, v, h1, h2, h3⟩ := r
    exact ⟨e, v, h1, s _ _ h2, h3.same s⟩
theorem XRep.fresh {H : Hp} {b b' : List Addr} (h : ∀ a ∈ b', a ∈ b ∨ H a = none) {x : XD} {da : Option Addr} (r : XRep H b x da) : XRep H b' x da := by
  unfold XRep at r ⊢
  split
  · next e => rw [e] at r; exact r
  · next f d e =>
    rw [e] at r
    obtain ⟨e, v, h1, h2, h3⟩ := r
    exact ⟨e, v, h1, h2, h3.fresh h⟩
/-- lists stand where things may change -/
def LstAt (E : OE) (H : Hp) : Prop := ∀ a ∈ chg E, ∃ o, H a = some o ∧ Mu o
theorem Rel.lst {Φ : Fx} {E : OE} {s : AS} {σ : L2.St} {H : Hp} (r : Rel Φ E s σ H) : LstAt E H := fun a ha => by
  rcases List.mem_append.mp ha with h | h
  · cases e : E.dk with
    | none => rw [e] at h; cases h
    | some t =>
      obtain ⟨d, p, q⟩ := t
      rw [e] at h
      obtain ⟨D, _⟩ := r.dk d p q e
      obtain ⟨⟨_, ⟨xs, cs, c, h1, h2, h3, _⟩, _⟩, tb⟩ := D
      rcases List.mem_cons.mp h with rfl | h
      · exact ⟨_, h1, trivial⟩
      · rcases List.mem_cons.mp h with rfl | h
        · exact ⟨_, h2, trivial⟩
        · rcases List.mem_cons.mp h with rfl | h
          · exact ⟨_, h3, trivial⟩
          · obtain ⟨x, hx, rfl⟩ := List.mem_map.mp h
            obtain ⟨ps, e, _⟩ := tb x hx
            exact ⟨_, e, trivial⟩
  · obtain ⟨⟨i, b⟩, hx, rfl⟩ := List.mem_map.mp h
    exact (r.own i b hx).1
theorem TF.kb {E : OE} {H H' : Hp} {a : Addr} {xs : List V} (h : TF H a xs) (L : LstAt E H) (k : KB E H H') : TF H' a xs := by
  obtain ⟨o, hd, e⟩ := h
  refine ⟨o, hd, k _ _ e fun m => ?_⟩
  obtain ⟨ys, e2, mu⟩ := L a m
  rw [e] at e2; cases e2; exact mu.elim
theorem Rp.kb {Φ : Fx} {E : OE} {H H' : Hp} {d : PyData} {v : V} (h : Rp H (ban Φ E) d v) (L : LstAt E H) (k : KB E H H') : Rp H' (ban Φ E) d v := by
  refine Rp.mv (fun a xs hn e => k _ _ e fun m => hn ?_) (fun a xs e => e.kb L k) (fun a hn e => k _ _ e fun m => hn ?_) d v h
  · exact List.mem_append_left _ m
  · exact List.mem_append_left _ m
theorem RpAll.kb {Φ : Fx} {E : OE} {H H' : Hp} {ds : List PyData} {xs : List V} (h : RpAll H (ban Φ E) ds xs) (L : LstAt E H) (k : KB E H H') : RpAll H' (ban Φ E) ds xs := by
  refine RpAll.mv (fun a xs hn e => k _ _ e fun m => hn ?_) (fun a xs e => e.kb L k) (fun a hn e => k _ _ e fun m => hn ?_) ds xs h
  · exact List.mem_append_left _ m
  · exact List.mem_append_left _ m
theorem XRep.kb {Φ : Fx} {E : OE} {H H' : Hp} {x : XD} {da : Option Addr} (r : XRep H (ban Φ E) x da) (L : LstAt E H) (k : KB E H H') : XRep H' (ban Φ E) x da := by
  unfold XRep at r ⊢
  split
  · next e => rw [e] at r; exact r
  · next f d e =>
    rw [e] at r
    obtain ⟨e, v, h1, h2, h3⟩ := r
    refine ⟨e, v, h1, k _ _ h2 fun m => ?_, h3.kb L k⟩
    obtain ⟨ys, e2, mu⟩ := L e m
    rw [h2] at e2; cases e2; exact mu.elim
theorem KRel.mono {H H' : Hp} {b b' : List Addr} (h : ∀ d v, Rp H b d v → Rp H' b' d v) : ∀ {kvs : List (PyData × PyData)} {ks : List (Key × V)}, KRel H b kvs ks → KRel H' b' kvs ks
  | [], _, .nil => .nil
  | _ :: _, _, .cons e t => .cons ⟨e.1, h _ _ e.2⟩ (KRel.mono h t)
theorem KRel.same {H H' : Hp} {b : List Addr} {kvs : List (PyData × PyData)} {ks : List (Key × V)} (r : KRel H b kvs ks) (s : Same H H') : KRel H' b kvs ks := r.mono fun _ _ h => h.same s
theorem KRel.wk {H : Hp} {b b' : List Addr} (h : ∀ a ∈ b', a ∈ b) {kvs : List (PyData × PyData)} {ks : List (Key × V)} (r : KRel H b kvs ks) : KRel H b' kvs ks := r.mono fun _ _ h2 => h2.wk h
theorem KRel.fresh {H : Hp} {b b' : List Addr} (h : ∀ a ∈ b', a ∈ b ∨ H a = none) {kvs : List (PyData × PyData)} {ks : List (Key × V)} (r : KRel H b kvs ks) : KRel H b' kvs ks := r.mono fun _ _ h2 => Rp.fresh h h2
theorem KRel.kb {Φ : Fx} {E : OE} {H H' : Hp} {kvs : List (PyData × PyData)} {ks : List (Key × V)} (r : KRel H (ban Φ E) kvs ks) (L : LstAt E H) (k : KB E H H') : KRel H' (ban Φ E) kvs ks := r.mono fun _ _ h => h.kb L k
theorem NRel.mono {H H' : Hp} {b b' : List Addr} (h : ∀ d v, Rp H b d v → Rp H' b' d v) : ∀ {kvs : List (PyData × PyData)} {ks : List (List Int × Addr × V)}, NRel H b kvs ks → NRel H' b' kvs ks
  | [], _, .nil => .nil
  | _ :: _, _, .cons e t => .cons ⟨e.1, h _ _ e.2.1, h _ _ e.2.2⟩ (NRel.mono h t)
theorem NRel.same {H H' : Hp} {b : List Addr} {kvs : List (PyData × PyData)} {ks : List (List Int × Addr × V)} (r : NRel H b kvs ks) (s : Same H H') : NRel H' b kvs ks := r.mono fun _ _ h => h.same s
theorem NRel.wk {H : Hp} {b b' : List Addr} (h : ∀ a ∈ b', a ∈ b) {kvs : List (PyData × PyData)} {ks : List (List Int × Addr × V)} (r : NRel H b kvs ks) : NRel H b' kvs ks := r.mono fun _ _ h2 => h2.wk h
theorem NRel.fresh {H : Hp} {b b' : List Addr} (h : ∀ a ∈ b', a ∈ b ∨ H a = none) {kvs : List (PyData × PyData)} {ks : List (List Int × Addr × V)} (r : NRel H b kvs ks) : NRel H b' kvs ks := r.mono fun _ _ h2 => Rp.fresh h h2
theorem NRel.kb {Φ : Fx} {E : OE} {H H' : Hp} {kvs : List (PyData × PyData)} {ks : List (List Int × Addr × V)} (r : NRel H (ban Φ E) kvs ks) (L : LstAt E H) (k : KB E H H') : NRel H' (ban Φ E) kvs ks := r.mono fun _ _ h => h.kb L k
theorem rp_leaf {H : Hp} {b b' : List Addr} : ∀ {d : PyData} {i : Int} {v : V}, leafI d = some i → Rp H b d v → Rp H b' d v
  | .int _, _, _, _, r => r
  | .bool _, _, _, _, r => r
  | .none, _, _, e, _ => by cases e
  | .str _, _, _, e, _ => by cases e
  | .list _, _, _, e, _ => by cases e
  | .tuple _, _, _, e, _ => by cases e
  | .dict _, _, _, e, _ => by cases e
theorem rp_leafs {H : Hp} {b b' : List Addr} : ∀ {ds : List PyData} {k : List Int} {xs : List V}, keyTs ds = some k → RpAll H b ds xs → RpAll H b' ds xs
  | [], _, _, _, r => r
  | d :: ds, k, _, e, r => by
    obtain ⟨v, r', rfl, h1, h2⟩ := r
    unfold keyTs at e
    split at e
    · next i q e1 e2 =>
      cases e
      exact ⟨v, r', rfl, rp_leaf e1 h1, rp_leafs e2 h2⟩
    · cases e
theorem rp_key {H : Hp} {b b' : List Addr} {d : PyData} {k : List Int} {v : V} (e : keyT d = some k) (r : Rp H b d v) : Rp H b' d v := by
  cases d with
  | tuple ds =>
    obtain ⟨c, xs, rfl, t, ra⟩ := r
    exact ⟨c, xs, rfl, t, rp_leafs e ra⟩
  | _ => cases e
theorem GRel.mono {M M' : Addr → Prop} {H H' : Hp} {b b' : List Addr} (h : ∀ d v, Rp H b d v → Rp H' b' d v) (g : ∀ a xs, M a → H a = some (.lst xs) → M' a ∧ H' a = some (.lst xs)) : ∀ {kvs : List (PyData × List Int)} {ks : List (List Int × Addr × V)}, GRel M H b kvs ks → GRel M' H' b' kvs ks
  | [], _, .nil => .nil
  | _ :: _, _, .cons e t => .cons (by
    obtain ⟨e1, e2, c, e3, e4, e5⟩ := e
    obtain ⟨g1, g2⟩ := g c _ e4 e5
    exact ⟨e1, h _ _ e2, c, e3, g1, g2⟩) (GRel.mono h g t)
theorem LRel.mono {H H' : Hp} {b b' : List Addr} {a : Addr} (h : ∀ d v, Rp H b d v → Rp H' b' d v) (g : ∀ o u, H a = some (.frz o u) → H' a = some (.frz o u)) : ∀ {t : Bool} {kvs : List (PyData × PyData)}, LRel H b a t kvs → LRel H' b' a t kvs
  | false, _, ⟨o, ks, e, r⟩ => ⟨o, ks, g _ _ e, r.mono h⟩
  | true, _, ⟨o, ks, e, r⟩ => ⟨o, ks, g _ _ e, r.mono h⟩
theorem Hl.same {H H' : Hp} {b : List Addr} {x : Hd} (h : Hl H b x) (s : Same H H') : Hl H' b x := by
  cases x with
  | dat d v => exact Rp.same (show Rp H b d v from h) s
  | ob a o => exact ⟨s _ _ h.1, h.2⟩
theorem Hl.wk {H : Hp} {b b' : List Addr} (g : ∀ a ∈ b', a ∈ b) {x : Hd} (h : Hl H b x) : Hl H b' x := by
  cases x with
  | dat d v => exact Rp.wk g (show Rp H b d v from h)
  | ob a o => exact ⟨h.1, fun m => h.2 (g a m)⟩
theorem Hl.fresh {H : Hp} {b b' : List Addr} (g : ∀ a ∈ b', a ∈ b ∨ H a = none) {x : Hd} (h : Hl H b x) : Hl H b' x := by
  cases x with
  | dat d v => exact Rp.fresh g (show Rp H b d v from h)
  | ob a o => exact ⟨h.1, fun m => by
      rcases g a m with z | z
      · exact h.2 z
      · rw [h.1] at z; cases z⟩
theorem Hl.kb {Φ : Fx} {E : OE} {H H' : Hp} {x : Hd} (h : Hl H (ban Φ E) x) (L : LstAt E H) (k : KB E H H') : Hl H' (ban Φ E) x := by
  cases x with
  | dat d v => exact Rp.kb (show Rp H (ban Φ E) d v from h) L k
  | ob a o => exact ⟨k _ _ h.1 fun m => h.2 (List.mem_append_left _ m), h.2⟩
/-- all that was there is there -/
theorem RelS.same {Φ : Fx} {E : OE} {H H' : Hp} {i : Nat} (s : Same H H') : ∀ {x : AV} {v : V}, RelS Φ E H i x v → RelS Φ E H' i x v
  | .dat _, _, h => Rp.same h s
  | .own _, _, h => by
    obtain ⟨a, xs, e, m, h1, h2⟩ := h
    exact ⟨a, xs, e, m, s _ _ h1, h2.same s⟩
  | .dct _, _, h => by
    obtain ⟨a, ks, e, m, h1, h2⟩ := h
    exact ⟨a, ks, e, m, s _ _ h1, h2.same s⟩
  | .dcn _, _, h => by
    obtain ⟨a, ks, e, m, h1, h2⟩ := h
    exact ⟨a, ks, e, m, s _ _ h1, h2.same s⟩
  | .dcl _, _, h => by
    obtain ⟨a, ks, e, m, h1, hn, h2⟩ := h
    exact ⟨a, ks, e, m, s _ _ h1, hn, h2.mono (fun _ _ h => h.same s) fun _ _ m h => ⟨m, s _ _ h⟩⟩
  | .lck _ _, _, h => by
    obtain ⟨a, e, h1, h2, h3⟩ := h
    exact ⟨a, e, h1, h2, h3.mono (fun _ _ h => h.same s) fun _ _ h => s _ _ h⟩
  | .bor _, _, h => by
    rcases h with h | ⟨a, ds, xs, e, e2, h1, h3, h4⟩
    · exact .inl (Rp.same h s)
    · exact .inr ⟨a, ds, xs, e, e2, s _ _ h1, h3, h4.same s⟩
  | .deck, _, h => h
  | .exc _, _, h => by
    obtain ⟨a, da, e, z, h1, h2⟩ := h
    exact ⟨a, da, e, z, h1.same s, h2⟩
theorem Rel.same {Φ : Fx} {E : OE} {s : AS} {σ : L2.St} {H H' : Hp} (r : Rel Φ E s σ H) (m : Same H H') : Rel Φ E s σ H' where
  len := r.len
  val := fun i x h => by
    obtain ⟨v, h1, h2⟩ := r.val i x h
    exact ⟨v, h1, h2.same m⟩
  dk := fun d p q h => by
    obtain ⟨h1, h2⟩ := r.dk d p q h
    exact ⟨h1.same m, h2⟩
  own := fun i a h => by
    obtain ⟨⟨xs, h1, mu⟩, h2⟩ := r.own i a h
    exact ⟨⟨xs, m _ _ h1, mu⟩, h2⟩
  inj := r.inj
  fr := fun b o h1 h2 => m _ _ (r.fr b o h1 h2)
  dk0 := r.dk0
  alive := r.alive
  held := fun x hx => (r.held x hx).same m
  zz := fun x hx => ⟨m _ _ (r.zz x hx).1, (r.zz x hx).2⟩
  znd := r.znd
  tt := r.tt
/-- a new address is nowhere banned -/
theorem Rel.newban {Φ : Fx} {E : OE} {s : AS} {σ : L2.St} {H : Hp} (r : Rel Φ E s σ H) {p : Addr} (hp : H p = none) : p ∉ ban Φ E := fun m => by
  rcases List.mem_append.mp m with h | h
  · obtain ⟨xs, e, _⟩ := r.lst p h
    rw [hp] at e; cases e
  · rcases List.mem_append.mp h with h | h
    · obtain ⟨x, hx, rfl⟩ := List.mem_map.mp h
      rw [(r.zz x hx).1] at hp; cases hp
    · obtain ⟨⟨o, e⟩, h2⟩ := r.alive p h
      rw [r.fr p o e h2] at hp; cases hp
theorem Rel.alive' {Φ : Fx} {E : OE} {s : AS} {σ : L2.St} {H : Hp} (r : Rel Φ E s σ H) {b : Addr} (hb : b ∈ Φ.B) : ∃ o, H b = some o := by
  obtain ⟨⟨o, e⟩, h2⟩ := r.alive b hb
  exact ⟨o, r.fr b o e h2⟩
/-! ### operands -/
def res (s : AS) : Op → Option PyData
  | .val d => some d
  | .slot i => match s.sl[i]? with
    | some (some (.dat d)) => some d
    | some (some (.own ds)) => some (.list ds)
    | some (some (.bor d)) => some d
    | _ => none
  | .deck => none
def RpO (Φ : Fx) (E : OE) (σ : L2.St) (H : Hp) : Op → V → Prop
  | .val d, v => Rp H (ban Φ E) d v
  | .slot i, v => σ[i]? = some (some v)
  | .deck, v => ∃ d p q, E.dk = some (d, p, q) ∧ v = .ref d
theorem RpO.kb {Φ : Fx} {E E' : OE} {σ : L2.St} {H H' : Hp} (L : LstAt E H) (k : KB E H H') (l : Le E' E) : ∀ {o : Op} {v : V}, RpO Φ E σ H o v → RpO Φ E' σ H' o v
  | .val _, _, h => Rp.wk l.ban (Rp.kb h L k)
  | .slot _, _, h => h
  | .deck, _, h => by
    obtain ⟨d, p, q, e, z⟩ := h
    exact ⟨d, p, q, l.1.trans e, z⟩
theorem RpX.same {H H' : Hp} {bn : List Addr} {d : PyData} {v : V} (s : Same H H') (h : RpX H bn d v) : RpX H' bn d v := by
  rcases h with h | ⟨a, ds, xs, e, e2, h1, h3⟩
  · exact .inl (Rp.same h s)
  · exact .inr ⟨a, ds, xs, e, e2, s _ _ h1, h3.same s⟩
/-- an operand, as it stands when it is used -/
theorem Rel.res {Φ : Fx} {E : OE} {s : AS} {σ : L2.St} {H : Hp} (r : Rel Φ E s σ H) : ∀ {o : Op} {v : V} {d : PyData}, RpO Φ E σ H o v → res s o = some d → RpX H (ban Φ E) d v
  | .val _, _, _, h, e => by cases e; exact .inl h
  | .slot i, v, d, h, e => by
    simp only [TR.res] at e
    split at e
    · next x hx =>
      cases e
      obtain ⟨v', h1, h2⟩ := r.val i _ hx
      rw [show σ[i]? = some (some v) from h] at h1; cases h1
      exact .inl h2
    · next ds hx =>
      cases e
      obtain ⟨v', h1, h2⟩ := r.val i _ hx
      rw [show σ[i]? = some (some v) from h] at h1; cases h1
      obtain ⟨a, xs, e1, m, h3, h4⟩ := h2
      exact .inr ⟨a, ds, xs, rfl, e1, h3, h4⟩
    · next x hx =>
      cases e
      obtain ⟨v', h1, h2⟩ := r.val i _ hx
      rw [show σ[i]? = some (some v) from h] at h1; cases h1
      rcases h2 with h2 | ⟨a, ds, xs, e, e2, g1, g3, g4⟩
      · exact .inl h2
      · exact .inr ⟨a, ds, xs, e, e2, g1, g4⟩
    · cases e
  | .deck, _, _, _, e => by cases e
/-! ### what the readings say of the heap -/
structure RetOk (Φ : Fx) (r : PyData) (n : Nat) (v : V) (H : Hp) : Prop where
  fr : ∀ b o, Φ.H0 b = some o → b ∉ dkl Φ.dk0 → H b = some o
  dk : ∀ d p q, Φ.dk0 = some (d, p, q) → DeckT H d p q n
  rp : Rp H (dkl Φ.dk0 ++ Φ.B) r v
def XSim (Φ : Fx) (xp : XP) (Ec : EC) : Prop := (Φ.ex = Ec.ex ∧ Φ.cs = Ec.cs ∧ Φ.tt = Ec.tt) ∧ ∀ x E s σ H da, Rel Φ E s σ H → XRep H (ban Φ E) x da → xp x s → Ec.x σ (.ref x.cls) da H
def cE (Ec : EC) (a : AE) : TE := fun σ H Q => ∃ Φ E xp s Qa, Rel Φ E s σ H ∧ XSim Φ xp Ec ∧ a xp s Qa ∧ ∀ d E' s' v H', Le E' E → Rel Φ E' s' σ H' → KB E H H' → Rp H' (ban Φ E') d v → Qa d s' → Q v H'
def cO (Ec : EC) (a : AO) : TE := fun σ H Q => ∃ Φ E xp s Qa, Rel Φ E s σ H ∧ XSim Φ xp Ec ∧ a xp s Qa ∧ ∀ o E' s' v H', Le E' E → Rel Φ E' s' σ H' → KB E H H' → RpO Φ E' σ H' o v → Qa o s' → Q v H'
def cT (Ec : EC) (a : AT) : TT := fun σ H Q => ∃ Φ E xp s Qa, Rel Φ E s σ H ∧ XSim Φ xp Ec ∧ a xp s Qa ∧ ∀ b E' s' H', Le E' E → Rel Φ E' s' σ H' → KB E H H' → Qa b s' → Q b H'
def cA (Ec : EC) (a : AA) : TA := fun σ H Q => ∃ Φ E xp s Qa, Rel Φ E s σ H ∧ XSim Φ xp Ec ∧ a xp s Qa ∧ ∀ os E' s' vs H', Le E' E → Rel Φ E' s' σ H' → KB E H H' → Paired (RpO Φ E' σ H') os vs → Qa os s' → Q vs H'
/-- a new list, for slot i: nothing else leads to it -/
def cF (i : Nat) (Ec : EC) (a : AE) : TE := fun σ H Q => ∃ Φ E xp s Qa, Rel Φ E s σ H ∧ XSim Φ xp Ec ∧ a xp s Qa ∧ ∀ ds E' s' l xs H', Le E' E → Rel Φ E' s' σ H' → Rel Φ (E'.add i l) s' σ H' → KB E H H' → H' l = some (.lst xs) → RpAll H' (ban Φ (E'.add i l)) ds xs → l ∉ ban Φ E' → Qa (.list ds) s' → Q (.ref l) H'
structure SimD (Φ : Fx) (Da : AEnds) (D : Ends) : Prop where
  nx : ∀ E s σ H, Rel Φ E s σ H → Da.nx s → D.nx σ H
  bk : ∀ E s σ H, Rel Φ E s σ H → Da.bk s → D.bk σ H
  ct : ∀ E s σ H, Rel Φ E s σ H → Da.ct s → D.ct σ H
  rt : ∀ r n v H, RetOk Φ r n v H → Da.rt r n → D.rt v H
def cS (Ec : EC) (a : AST) : TS := fun D σ H => ∃ Φ E xp s Da, Rel Φ E s σ H ∧ XSim Φ xp Ec ∧ a xp Da s ∧ SimD Φ Da D
end TR
namespace TR
open PySem PySem.Spec PyProof.Rows L2
theorem mem_ban_add {Φ : Fx} {E : OE} {i : Nat} {l a : Addr} (h : a ∈ ban Φ (E.add i l)) : a = l ∨ a ∈ ban Φ E := by
  unfold ban chg OE.add at h
  unfold ban chg
  simp only [List.map_cons, List.mem_cons, List.mem_append] at h ⊢
  rcases h with (h | h | h) | h
  · exact .inr (.inl (.inl h))
  · exact .inl h
  · exact .inr (.inl (.inr h))
  · exact .inr (.inr h)
theorem ban_add {Φ : Fx} {E : OE} {i : Nat} {l a : Addr} (h : a ∈ ban Φ E) : a ∈ ban Φ (E.add i l) := by
  unfold ban chg at h
  unfold ban chg OE.add
  simp only [List.map_cons, List.mem_cons, List.mem_append] at h ⊢
  rcases h with (h | h) | h
  · exact .inl (.inl h)
  · exact .inl (.inr (.inr h))
  · exact .inr h
theorem ban_add_self {Φ : Fx} {E : OE} {i : Nat} {l : Addr} : l ∈ ban Φ (E.add i l) := by
  unfold ban chg OE.add
  simp
theorem Rel.noH0 {Φ : Fx} {E : OE} {s : AS} {σ : L2.St} {H : Hp} (r : Rel Φ E s σ H) {p : Addr} (hp : H p = none) : Φ.H0 p = none := by
  cases e : Φ.H0 p with
  | none => rfl
  | some o =>
    by_cases m : p ∈ dkl Φ.dk0
    · cases e0 : Φ.dk0 with
      | none => rw [e0] at m; cases m
      | some t =>
        have e1 := r.dk0 t e0
        have : p ∈ chg E := List.mem_append_left _ (by rw [e1, ← e0]; exact m)
        obtain ⟨xs, h, _⟩ := r.lst p this
        rw [hp] at h; cases h
    · rw [r.fr p o e m] at hp; cases hp
/-- a new list is made: it is banned from all that was there -/
theorem Rel.add {Φ : Fx} {E : OE} {s : AS} {σ : L2.St} {H H' : Hp} (r : Rel Φ E s σ H) (i : Nat) {p : Addr} (hp : H p = none) (m : Same H H') {o : HO} (e : H' p = some o) (mu : Mu o := by first | trivial | exact mu_DN) : Rel Φ (E.add i p) s σ H' := by
  have hB : p ∉ ban Φ E := r.newban hp
  have fx : ∀ a ∈ ban Φ (E.add i p), a ∈ ban Φ E ∨ H a = none := fun a ha => by
    rcases mem_ban_add ha with h | h
    · rw [h]; exact .inr hp
    · exact .inl h
  have hpE : ∀ j a, (j, a) ∈ E.R → a ≠ p := fun j a h z => by
    obtain ⟨⟨xs, h1, _⟩, _⟩ := r.own j a h
    rw [z, hp] at h1; cases h1
  have hdk : p ∉ dkl E.dk := fun z => hB (List.mem_append_left _ (List.mem_append_left _ z))
  refine ⟨r.len, fun j x h => ?_, fun d q t h => ?_, fun j a h => ?_, fun j k a h1 h2 => ?_, fun b o h1 h2 => m _ _ (r.fr b o h1 h2), r.dk0, r.alive, fun x hx => (Hl.fresh fx (r.held x hx)).same m, fun x hx => ?_, r.znd, r.tt⟩
  · obtain ⟨v, h1, h2⟩ := r.val j x h
    refine ⟨v, h1, ?_⟩
    cases x with
    | dat d => exact (Rp.fresh fx (show Rp H (ban Φ E) d v from h2)).same m
    | own ds =>
      obtain ⟨a, ys, e1, m1, h3, h4⟩ := h2
      exact ⟨a, ys, e1, List.mem_cons_of_mem _ m1, m _ _ h3, (RpAll.fresh fx h4).same m⟩
    | dct kvs =>
      obtain ⟨a, ks, e1, m1, h3, h4⟩ := h2
      exact ⟨a, ks, e1, List.mem_cons_of_mem _ m1, m _ _ h3, (KRel.fresh fx h4).same m⟩
    | dcn kvs =>
      obtain ⟨a, ks, e1, m1, h3, h4⟩ := h2
      exact ⟨a, ks, e1, List.mem_cons_of_mem _ m1, m _ _ h3, (NRel.fresh fx h4).same m⟩
    | dcl kvs =>
      obtain ⟨a, ks, e1, m1, h3, hn, h4⟩ := h2
      exact ⟨a, ks, e1, List.mem_cons_of_mem _ m1, m _ _ h3, hn, h4.mono (fun _ _ h => (Rp.fresh fx h).same m) fun _ _ m1 h => ⟨List.mem_cons_of_mem _ m1, m _ _ h⟩⟩
    | lck t kvs =>
      obtain ⟨a, e1, h3, h5, h4⟩ := h2
      refine ⟨a, e1, fun z => ?_, h5, h4.mono (fun _ _ h => (Rp.fresh fx h).same m) fun _ _ h => m _ _ h⟩
      rcases mem_ban_add z with z | z
      · subst z
        cases t <;> (obtain ⟨_, _, q, _⟩ := h4; rw [hp] at q; cases q)
      · exact h3 z
    | bor d =>
      rcases h2 with h2 | ⟨a, ds, ys, e1, e2, h3, h5, h6⟩
      · exact .inl ((Rp.fresh fx h2).same m)
      · exact .inr ⟨a, ds, ys, e1, e2, m _ _ h3, h5, (RpAll.fresh fx h6).same m⟩
    | deck => exact h2
    | exc x =>
      obtain ⟨a, da, e1, e2, h3, h4⟩ := h2
      exact ⟨a, da, e1, e2, (XRep.fresh fx h3).same m, h4⟩
  · obtain ⟨h1, h2⟩ := r.dk d q t h
    exact ⟨h1.same m, h2⟩
  · rcases List.mem_cons.mp h with h | h
    · cases h
      refine ⟨⟨o, e, mu⟩, fun z => hB (List.mem_append_right _ (List.mem_append_right _ z)), hdk, r.noH0 hp⟩
    · obtain ⟨⟨ys, h1, mu1⟩, h2⟩ := r.own j a h
      exact ⟨⟨ys, m _ _ h1, mu1⟩, h2⟩
  · rcases List.mem_cons.mp h1 with h1 | h1
    · rcases List.mem_cons.mp h2 with h2 | h2
      · cases h1; cases h2; rfl
      · cases h1; exact absurd rfl (hpE _ _ h2)
    · rcases List.mem_cons.mp h2 with h2 | h2
      · cases h2; exact absurd rfl (hpE _ _ h1)
      · exact r.inj j k a h1 h2
  · obtain ⟨z1, z2, z3⟩ := r.zz x hx
    refine ⟨m _ _ z1, fun z => ?_, z3⟩
    rcases List.mem_append.mp z with z | z
    · exact z2 (List.mem_append_left _ z)
    · rcases List.mem_cons.mp z with z | z
      · rw [z, hp] at z1; cases z1
      · exact z2 (List.mem_append_right _ z)
theorem unT {A B : Prop} (h : if true = true then A else B) : A := by
  rw [if_pos rfl] at h
  exact h
theorem unF {A B : Prop} (h : if false = true then A else B) : B := by
  rw [if_neg Bool.false_ne_true] at h
  exact h
/-! ### weaker readings -/
section
variable {X : Cx}
theorem _root_.L2.PE.sub {e : Expr} {t t' : TE} (h : PE X e t) (g : ∀ σ H Q, t' σ H Q → t σ H Q) : PE X e t' := ⟨fun pins s σ H Q I q => h.run pins s σ H Q I (g σ H Q q)⟩
theorem _root_.L2.PT.sub {e : Expr} {t t' : TT} (h : PT X e t) (g : ∀ σ H Q, t' σ H Q → t σ H Q) : PT X e t' := ⟨fun pins s σ H Q I q => h.run pins s σ H Q I (g σ H Q q)⟩
theorem _root_.L2.PW.sub {e : Expr} {t t' : TT} (h : PW X e t) (g : ∀ σ H Q, t' σ H Q → t σ H Q) : PW X e t' := ⟨fun w pins s σ H Q I q => h.run w pins s σ H Q I (g σ H Q q)⟩
theorem _root_.L2.PA.sub {es : List Expr} {t t' : TA} (h : PA X es t) (g : ∀ σ H Q, t' σ H Q → t σ H Q) : PA X es t' := ⟨fun p pins s σ H Q I q => h.run p pins s σ H Q I (g σ H Q q)⟩
theorem _root_.L2.PS.sub {e : Stmt} {t t' : TS} (h : PS X e t) (g : ∀ D σ H, t' D σ H → t D σ H) : PS X e t' := ⟨fun pins s σ H D I q => h.run pins s σ H D I (g D σ H q)⟩
theorem _root_.L2.PSs.sub {e : List Stmt} {t t' : TS} (h : PSs X e t) (g : ∀ D σ H, t' D σ H → t D σ H) : PSs X e t' := ⟨fun pins s σ H D I q => h.run pins s σ H D I (g D σ H q)⟩
theorem _root_.L2.PI.sub {tg e : Expr} {t t' : TI} (h : PI X tg e t) (g : ∀ σ H Q, t' σ H Q → t σ H Q) : PI X tg e t' := ⟨fun pins s σ H Q I q => h.run pins s σ H Q I (g σ H Q q)⟩
end
/-! ### operands at use -/
def rs (s : AS) (o : Op) (k : PyData → Prop) : Prop := match res s o with
  | some d => k d
  | none => False
theorem rs_get {s : AS} {o : Op} {k : PyData → Prop} (h : rs s o k) : ∃ d, res s o = some d ∧ k d := by
  unfold rs at h
  cases e : res s o with
  | none => rw [e] at h; exact h.elim
  | some d => rw [e] at h; exact ⟨d, rfl, h⟩
/-- where nothing stands, nothing is banned -/
def NB (H : Hp) (bn : List Addr) : Prop := ∀ p, H p = none → p ∉ bn
theorem Rel.nb {Φ : Fx} {E : OE} {s : AS} {σ : L2.St} {H : Hp} (r : Rel Φ E s σ H) : NB H (ban Φ E) := fun _ h1 => r.newban h1
section
variable {X : Cx} {Ec : EC}
/-! ### constants, names -/
def aC (d : PyData) : AE := fun _ s Q => Q d s
theorem ae_C {e : Expr} {v : V} {d : PyData} (h : PE X e (tC v)) (hd : ∀ H bn, Rp H bn d v) : PE X e (cE Ec (aC d)) := h.sub fun σ H Q ⟨Φ, E, xp, s, Qa, r, _, q, k⟩ => k d E s v H (.refl _) r (.refl _ _) (hd _ _) q
theorem ae_int {i j pos} : PE X (.Constant (.int i) j pos) (cE Ec (aC (.int i))) := ae_C pe_int fun _ _ => rfl
theorem ae_bl {b j pos} : PE X (.Constant (.bool b) j pos) (cE Ec (aC (.bool b))) := ae_C pe_bl fun _ _ => rfl
theorem ae_non {j pos} : PE X (.Constant .none j pos) (cE Ec (aC .none)) := ae_C pe_non fun _ _ => rfl
def aVar (i : Nat) : AE := fun _ s Q => match s.sl[i]? with
  | some (some (.dat d)) => Q d s
  | _ => False
theorem ae_var (i : Nat) {e : Expr} (h : PE X e (tVar i)) : PE X e (cE Ec (aVar i)) := h.sub fun σ H Q ⟨Φ, E, xp, s, Qa, r, _, q, k⟩ => by
  unfold aVar at q
  split at q
  · next d hd =>
    obtain ⟨v, h1, h2⟩ := r.val i _ hd
    exact ⟨v, h1, k d E s v H (.refl _) r (.refl _ _) h2 q⟩
  · exact q.elim
/-- as an operand: whatever it holds -/
def oVar (i : Nat) : AO := fun _ s Q => match s.sl[i]? with
  | some (some (.dat d)) => Q (.val d) s
  | some (some .deck) => Q .deck s
  | some (some _) => Q (.slot i) s
  | _ => False
theorem ao_var (i : Nat) {e : Expr} (h : PE X e (tVar i)) : PE X e (cO Ec (oVar i)) := h.sub fun σ H Q ⟨Φ, E, xp, s, Qa, r, _, q, k⟩ => by
  unfold oVar at q
  split at q
  · next d hd =>
    obtain ⟨v, h1, h2⟩ := r.val i _ hd
    exact ⟨v, h1, k (.val d) E s v H (.refl _) r (.refl _ _) h2 q⟩
  · next hd =>
    obtain ⟨v, h1, h2⟩ := r.val i _ hd
    exact ⟨v, h1, k .deck E s v H (.refl _) r (.refl _ _) h2 q⟩
  · next hd =>
    obtain ⟨v, h1, h2⟩ := r.val i _ hd
    exact ⟨v, h1, k (.slot i) E s v H (.refl _) r (.refl _ _) h1 q⟩
  · exact q.elim
/-- the list is given away: it is no more changed -/
def aFrz (i : Nat) : AE := fun _ s Q => match s.sl[i]? with
  | some (some (.dat d)) => Q d s
  | some (some (.own ds)) => Q (.list ds) { s with sl := s.sl.set i (some (.dat (.list ds))) }
  | _ => False
def oV (a : AE) : AO := fun xp s Q => a xp s fun d s' => Q (.val d) s'
theorem ao_V {e : Expr} {a : AE} (h : PE X e (cE Ec a)) : PE X e (cO Ec (oV a)) := h.sub fun σ H Q ⟨Φ, E, xp, s, Qa, r, x, q, k⟩ => ⟨Φ, E, xp, s, _, r, x, q, fun d E' s' v H' l r' kb rp q' => k (.val d) E' s' v H' l r' kb rp q'⟩
/-! ### two operands, one -/
def DOp (r : R2) (f : PyData → PyData → (PyData → Prop) → Prop) : Prop := ∀ (bn : List Addr) (H : Hp) (d1 d2 : PyData) (v1 v2 : V) (Q : PyData → Prop) (Qc : VK), NB H bn → RpX H bn d1 v1 → RpX H bn d2 v2 → f d1 d2 Q → (∀ d v H', Same H H' → Rp H' bn d v → Q d → Qc v H') → r v1 v2 H Qc
def a2 (f : PyData → PyData → (PyData → Prop) → Prop) (aa ab : AO) : AE := fun xp s Q => aa xp s fun o1 s1 => ab xp s1 fun o2 s2 => rs s2 o1 fun d1 => rs s2 o2 fun d2 => f d1 d2 fun d => Q d s2
theorem a2_ok {r : R2} {f : PyData → PyData → (PyData → Prop) → Prop} (hd : DOp r f) {aa ab : AO} {σ : L2.St} {H : Hp} {Q : VK} (h : cE Ec (a2 f aa ab) σ H Q) : tOp r (cO Ec aa) (cO Ec ab) σ H Q := by
  obtain ⟨Φ, E, xp, s, Qa, r0, x0, q, k⟩ := h
  refine ⟨Φ, E, xp, s, _, r0, x0, q, fun o1 E1 s1 v1 H1 l1 r1 k1 p1 q1 => ?_⟩
  refine ⟨Φ, E1, xp, s1, _, r1, x0, q1, fun o2 E2 s2 v2 H2 l2 r2 k2 p2 q2 => ?_⟩
  obtain ⟨d1, e1, q2⟩ := rs_get q2
  obtain ⟨d2, e2, q2⟩ := rs_get q2
  have p1' := p1.kb r1.lst k2 l2
  refine hd (ban Φ E2) H2 d1 d2 v1 v2 _ Q r2.nb (r2.res p1' e1) (r2.res p2 e2) q2 fun d v H3 m rp q3 => ?_
  exact k d E2 s2 v H3 (l2.trans l1) (r2.same m) ((k1.trans l1 k2).trans (Le.refl _) (KB.of_same m)) rp q3
theorem ae_op {op : Operator} {r : R2} {f : PyData → PyData → (PyData → Prop) → Prop} {a b : Expr} {aa ab : AO} {pos : Pos} (hd : DOp r f) (ho : OpR X (binaryOp op) r) (ha : PE X a (cO Ec aa)) (hb : PE X b (cO Ec ab)) : PE X (.BinOp a op b pos) (cE Ec (a2 f aa ab)) := (pe_op ho ha hb).sub fun _ _ _ => a2_ok hd
theorem ae_cmp {op : CmpOp} {r : R2} {f : PyData → PyData → (PyData → Prop) → Prop} {a b : Expr} {aa ab : AO} {pos : Pos} (hd : DOp r f) (ho : OpR X (compareOp op) r) (ha : PE X a (cO Ec aa)) (hb : PE X b (cO Ec ab)) (hm : behindInMarks op b = false) : PE X (.Compare a [op] [b] pos) (cE Ec (a2 f aa ab)) := (pe_cmpR ho ha hb hm).sub fun _ _ _ => a2_ok hd
/-! ### tests -/
def tV (a : AE) : AT := fun xp s Q => a xp s fun d s' => match d with
  | .bool b => Q b s'
  | _ => False
theorem cmp_test {op : CmpOp} {r : R2} {f : PyData → PyData → (PyData → Prop) → Prop} {a b : Expr} {aa ab : AO} {pos : Pos} (hd : DOp r f) (ho : OpR X (compareOp op) r) (ha : PE X a (cO Ec aa)) (hb : PE X b (cO Ec ab)) (hm : behindInMarks op b = false) : PT X (.Compare a [op] [b] pos) (cT Ec (tV (a2 f aa ab))) := by
  refine (pt_cmpR ho ha hb hm).sub fun σ H Q h => ?_
  obtain ⟨Φ, E, xp, s, Qa, r0, x0, q, k⟩ := h
  refine a2_ok hd (Q := fun x H' => ∃ k, x = .bl k ∧ Q k H') ⟨Φ, E, xp, s, _, r0, x0, q, fun d E' s' v H' l r' kb rp q' => ?_⟩
  cases d with
  | bool b =>
    obtain rfl : v = .bl b := rp
    exact ⟨b, rfl, k b E' s' H' l r' kb q'⟩
  | none => exact q'.elim
  | int _ => exact q'.elim
  | str _ => exact q'.elim
  | list _ => exact q'.elim
  | tuple _ => exact q'.elim
  | dict _ => exact q'.elim
def tAndA (a b : AT) : AT := fun xp s Q => a xp s fun c s1 => if c = true then b xp s1 Q else Q false s1
def tOrA (a b : AT) : AT := fun xp s Q => a xp s fun c s1 => if c = true then Q true s1 else b xp s1 Q
def tNotA (a : AT) : AT := fun xp s Q => a xp s fun c s1 => Q (!c) s1
theorem at_not {a : Expr} {ta : AT} {pos : Pos} (h : PT X a (cT Ec ta)) : PT X (.UnaryOp .Not a pos) (cT Ec (tNotA ta)) := (pt_not h).sub fun σ H Q ⟨Φ, E, xp, s, Qa, r0, x0, q, k⟩ => ⟨Φ, E, xp, s, _, r0, x0, q, fun b E' s' H' l r' kb q' => k (!b) E' s' H' l r' kb q'⟩
theorem aw_and1 {a : Expr} {ta : AT} {pos : Pos} (h : PT X a (cT Ec ta)) : PW X (.BoolOp .And [a] pos) (cT Ec ta) := pw_and1 h
theorem aw_or1 {a : Expr} {ta : AT} {pos : Pos} (h : PT X a (cT Ec ta)) : PW X (.BoolOp .Or [a] pos) (cT Ec ta) := pw_or1 h
theorem aw_and {a b : Expr} {rest : List Expr} {ta tb : AT} {pos : Pos} (h : PT X a (cT Ec ta)) (g : PW X (.BoolOp .And (b :: rest) pos) (cT Ec tb)) : PW X (.BoolOp .And (a :: b :: rest) pos) (cT Ec (tAndA ta tb)) := by
  refine (pw_and h g).sub fun σ H Q ⟨Φ, E, xp, s, Qa, r0, x0, q, k⟩ => ⟨Φ, E, xp, s, _, r0, x0, q, fun c E' s' H' l r' kb q' => ?_⟩
  cases c with
  | true => exact iteT ⟨Φ, E', xp, s', Qa, r', x0, unT q', fun b E2 s2 H2 l2 r2 k2 q2 => k b E2 s2 H2 (l2.trans l) r2 (kb.trans l k2) q2⟩
  | false => exact iteF (k false E' s' H' l r' kb (unF q'))
theorem aw_or {a b : Expr} {rest : List Expr} {ta tb : AT} {pos : Pos} (h : PT X a (cT Ec ta)) (g : PW X (.BoolOp .Or (b :: rest) pos) (cT Ec tb)) : PW X (.BoolOp .Or (a :: b :: rest) pos) (cT Ec (tOrA ta tb)) := by
  refine (pw_or h g).sub fun σ H Q ⟨Φ, E, xp, s, Qa, r0, x0, q, k⟩ => ⟨Φ, E, xp, s, _, r0, x0, q, fun c E' s' H' l r' kb q' => ?_⟩
  cases c with
  | true => exact iteT (k true E' s' H' l r' kb (unT q'))
  | false => exact iteF ⟨Φ, E', xp, s', Qa, r', x0, unF q', fun b E2 s2 H2 l2 r2 k2 q2 => k b E2 s2 H2 (l2.trans l) r2 (kb.trans l k2) q2⟩
/-! ### and, or, not, if as values -/
def aB (d : PyData) (k : Bool → Prop) : Prop := match d with
  | .bool b => k b
  | _ => False
theorem aB_get {H : Hp} {bn : List Addr} {d : PyData} {v : V} {k : Bool → Prop} (h : aB d k) (r : Rp H bn d v) : ∃ b, v = .bl b ∧ k b := by
  cases d with
  | bool b => exact ⟨b, r, h⟩
  | none => exact h.elim
  | int _ => exact h.elim
  | str _ => exact h.elim
  | list _ => exact h.elim
  | tuple _ => exact h.elim
  | dict _ => exact h.elim
def aAnd (a b : AE) : AE := fun xp s Q => a xp s fun d s1 => aB d fun c => if c = true then b xp s1 Q else Q (.bool false) s1
def aOr (a b : AE) : AE := fun xp s Q => a xp s fun d s1 => aB d fun c => if c = true then Q (.bool true) s1 else b xp s1 Q
def aNot (a : AE) : AE := fun xp s Q => a xp s fun d s1 => aB d fun c => Q (.bool (!c)) s1
theorem ae_one {op} {a : Expr} {ta : AE} {pos : Pos} (h : PE X a (cE Ec ta)) : PE X (.BoolOp op [a] pos) (cE Ec ta) := pe_one h
theorem ae_and {a b : Expr} {rest : List Expr} {ta tb : AE} {pos : Pos} (h : PE X a (cE Ec ta)) (g : PE X (.BoolOp .And (b :: rest) pos) (cE Ec tb)) : PE X (.BoolOp .And (a :: b :: rest) pos) (cE Ec (aAnd ta tb)) := by
  refine (pe_and h g).sub fun σ H Q ⟨Φ, E, xp, s, Qa, r0, x0, q, k⟩ => ⟨Φ, E, xp, s, _, r0, x0, q, fun d E' s' v H' l r' kb rp q' => ?_⟩
  obtain ⟨c, rfl, q'⟩ := aB_get q' rp
  refine ⟨c, rfl, ?_⟩
  cases c with
  | true => exact iteT ⟨Φ, E', xp, s', Qa, r', x0, unT q', fun b E2 s2 v2 H2 l2 r2 k2 p2 q2 => k b E2 s2 v2 H2 (l2.trans l) r2 (kb.trans l k2) p2 q2⟩
  | false => exact iteF (k (.bool false) E' s' _ H' l r' kb rfl (unF q'))
theorem ae_not {a : Expr} {ta : AE} {pos : Pos} (h : PE X a (cE Ec ta)) : PE X (.UnaryOp .Not a pos) (cE Ec (aNot ta)) := by
  refine (pe_not h).sub fun σ H Q ⟨Φ, E, xp, s, Qa, r0, x0, q, k⟩ => ⟨Φ, E, xp, s, _, r0, x0, q, fun d E' s' v H' l r' kb rp q' => ?_⟩
  obtain ⟨c, rfl, q'⟩ := aB_get q' rp
  exact ⟨c, rfl, k (.bool (!c)) E' s' _ H' l r' kb rfl q'⟩
def aIfE (t : AT) (a b : AE) : AE := fun xp s Q => t xp s fun c s1 => if c = true then a xp s1 Q else b xp s1 Q
theorem ae_if {c a b : Expr} {tc : AT} {ta tb : AE} {pos : Pos} (hc : PT X c (cT Ec tc)) (ha : PE X a (cE Ec ta)) (hb : PE X b (cE Ec tb)) : PE X (.IfExp c a b pos) (cE Ec (aIfE tc ta tb)) := by
  refine (pe_ifExp hc ha hb).sub fun σ H Q ⟨Φ, E, xp, s, Qa, r0, x0, q, k⟩ => ⟨Φ, E, xp, s, _, r0, x0, q, fun c E' s' H' l r' kb q' => ?_⟩
  cases c with
  | true => exact iteT ⟨Φ, E', xp, s', Qa, r', x0, unT q', fun b E2 s2 v2 H2 l2 r2 k2 p2 q2 => k b E2 s2 v2 H2 (l2.trans l) r2 (kb.trans l k2) p2 q2⟩
  | false => exact iteF ⟨Φ, E', xp, s', Qa, r', x0, unF q', fun b E2 s2 v2 H2 l2 r2 k2 p2 q2 => k b E2 s2 v2 H2 (l2.trans l) r2 (kb.trans l k2) p2 q2⟩
/-! ### lists of operands -/
def lNil : AA := fun _ s Q => Q [] s
def lCons (a : AO) (r : AA) : AA := fun xp s Q => a xp s fun o s1 => r xp s1 fun os s2 => Q (o :: os) s2
theorem la_nil : PA X [] (cA Ec lNil) := pa_nil.sub fun σ H Q ⟨Φ, E, xp, s, Qa, r0, x0, q, k⟩ => k [] E s [] H (.refl _) r0 (.refl _ _) .nil q
theorem la_cons {e : Expr} {es : List Expr} {a : AO} {r : AA} (ha : PE X e (cO Ec a)) (hr : PA X es (cA Ec r)) (hs : starEach (e :: es) X.env = (false, eval e X.env) :: starEach es X.env := by rfl) : PA X (e :: es) (cA Ec (lCons a r)) := by
  refine (pa_cons ha hr hs).sub fun σ H Q ⟨Φ, E, xp, s, Qa, r0, x0, q, k⟩ => ⟨Φ, E, xp, s, _, r0, x0, q, fun o E1 s1 v H1 l r1 kb rp q1 => ?_⟩
  exact ⟨Φ, E1, xp, s1, _, r1, x0, q1, fun os E2 s2 vs H2 l2 r2 k2 p2 q2 => k (o :: os) E2 s2 (v :: vs) H2 (l2.trans l) r2 (kb.trans l k2) (.cons (rp.kb r1.lst k2 l2) p2) q2⟩
/-- all are data, none a list that is still built -/
def vals : List Op → Option (List PyData)
  | [] => some []
  | .val d :: r => (vals r).map (d :: ·)
  | _ :: _ => none
def rv : List Op → (List PyData → Prop) → Prop
  | [], k => k []
  | .val d :: r, k => rv r fun ds => k (d :: ds)
  | _ :: _, _ => False
theorem rv_get : ∀ {os : List Op} {k : List PyData → Prop}, rv os k → ∃ ds, vals os = some ds ∧ k ds
  | [], k, h => ⟨[], rfl, h⟩
  | .val d :: r, k, h => by
    obtain ⟨ds, e, q⟩ := rv_get (os := r) (k := fun ds => k (d :: ds)) h
    exact ⟨d :: ds, by unfold vals; rw [e]; rfl, q⟩
  | .slot _ :: _, _, h => h.elim
  | .deck :: _, _, h => h.elim
theorem vals_rp {Φ : Fx} {E : OE} {σ : L2.St} {H : Hp} : ∀ {os : List Op} {vs : List V} {ds : List PyData}, Paired (RpO Φ E σ H) os vs → vals os = some ds → RpAll H (ban Φ E) ds vs
  | [], _, _, .nil, e => by cases e; rfl
  | .val d :: r, _, _, .cons h t, e => by
    unfold vals at e
    cases e2 : vals r with
    | none => rw [e2] at e; cases e
    | some ds =>
      rw [e2] at e; cases e
      exact ⟨_, _, rfl, h, vals_rp t e2⟩
  | .slot _ :: _, _, _, _, e => by cases e
  | .deck :: _, _, _, _, e => by cases e
def aTup (aa : AA) : AE := fun xp s Q => aa xp s fun os s1 => rv os fun ds => ds.length ≤ sizeLine ∧ Q (.tuple ds) s1
theorem ae_tup {es : List Expr} {aa : AA} {pos : Pos} {x1} (h : PA X es (cA Ec aa)) : PE X (.Tuple es x1 pos) (cE Ec (aTup aa)) := by
  refine (pe_tupN h).sub fun σ H Q ⟨Φ, E, xp, s, Qa, r0, x0, q, k⟩ => ⟨Φ, E, xp, s, _, r0, x0, q, fun os E1 s1 vs H1 l r1 kb rp q1 => ?_⟩
  obtain ⟨ds, e, hl, q1⟩ := rv_get q1
  have ra := vals_rp rp e
  refine ⟨by rw [ra.len]; exact hl, fun p H' hp m tf => ?_⟩
  exact k (.tuple ds) E1 s1 _ H' l (r1.same m) (kb.trans (Le.refl _) (KB.of_same m) : KB E H H') ⟨p, vs, rfl, tf, ra.same m⟩ q1
def aLst (aa : AA) : AE := fun xp s Q => aa xp s fun os s1 => rv os fun ds => ds.length ≤ sizeLine ∧ Q (.list ds) s1
theorem af_lst (i : Nat) {es : List Expr} {aa : AA} {pos : Pos} (h : PA X es (cA Ec aa)) : PE X (.List es pos) (cF i Ec (aLst aa)) := by
  refine (pe_lstN h).sub fun σ H Q ⟨Φ, E, xp, s, Qa, r0, x0, q, k⟩ => ⟨Φ, E, xp, s, _, r0, x0, q, fun os E1 s1 vs H1 l r1 kb rp q1 => ?_⟩
  obtain ⟨ds, e, hl, q1⟩ := rv_get q1
  have ra := vals_rp rp e
  refine ⟨by rw [ra.len]; exact hl, fun p H' hp hs m ep => ?_⟩
  refine k ds E1 s1 p vs H' l (r1.same m) (r1.add i hp m ep) (fun b o h1 h2 => m _ _ (kb b o h1 h2)) ep (RpAll.same (RpAll.fresh (fun a ha => ?_) ra) m) (r1.newban hp) q1
  rcases mem_ban_add ha with h | h
  · rw [h]; exact .inr hp
  · exact .inl h
theorem ae_F {e : Expr} {i : Nat} {a : AE} (h : PE X e (cF i Ec a)) : PE X e (cE Ec a) := h.sub fun σ H Q ⟨Φ, E, xp, s, Qa, r0, x0, q, k⟩ => ⟨Φ, E, xp, s, _, r0, x0, q, fun ds E1 s1 p xs H1 l r1 _ kb ep ra nb q1 => k (.list ds) E1 s1 _ H1 l r1 kb ⟨p, xs, rfl, ep, nb, ra.wk fun _ h => ban_add h⟩ q1⟩
end
end TR
namespace TR
open PySem PySem.Spec PyProof.Rows L2
def AS.set (s : AS) (i : Nat) (x : AV) : AS := { s with sl := s.sl.set i (some x) }
section
variable {Φ : Fx} {E : OE} {s : AS} {σ : L2.St} {H : Hp}
theorem Rel.setX (r : Rel Φ E s σ H) (i : Nat) {x : AV} {v : V} (h : RelS Φ E H i x v) : Rel Φ E (s.set i x) (σ.set i (some v)) H := by
  refine ⟨by show (s.sl.set i (some x)).length = _; rw [List.length_set, List.length_set]; exact r.len, fun j y hy => ?_, r.dk, r.own, r.inj, r.fr, r.dk0, r.alive, r.held, r.zz, r.znd, r.tt⟩
  by_cases e : i = j
  · subst e
    have hl : i < s.sl.length := by
      have := (List.getElem?_eq_some_iff.mp hy).1
      rw [show (s.set i x).sl = s.sl.set i (some x) from rfl, List.length_set] at this
      exact this
    have hy2 : (s.sl.set i (some x))[i]? = some (some y) := hy
    rw [List.getElem?_set_self hl] at hy2
    cases hy2
    exact ⟨v, List.getElem?_set_self (by rw [← r.len]; exact hl), h⟩
  · have hy2 : (s.sl.set i (some x))[j]? = some (some y) := hy
    rw [List.getElem?_set_ne e] at hy2
    obtain ⟨w, h1, h2⟩ := r.val j y hy2
    exact ⟨w, by rw [List.getElem?_set_ne e]; exact h1, h2⟩
theorem Rel.ret (r : Rel Φ E s σ H) {d : PyData} {v : V} (h : Rp H (ban Φ E) d v) : RetOk Φ d s.n v H := by
  refine ⟨r.fr, fun d p q e => (r.dk d p q (r.dk0 _ e)).1, Rp.wk (fun a ha => ?_) h⟩
  rcases List.mem_append.mp ha with z | z
  · cases e : Φ.dk0 with
    | none => rw [e] at z; cases z
    | some t =>
      refine List.mem_append_left _ (List.mem_append_left _ ?_)
      rw [r.dk0 t e, ← e]; exact z
  · exact List.mem_append_right _ (List.mem_append_right _ z)
theorem Rel.retOwn (r : Rel Φ E s σ H) {i : Nat} {ds : List PyData} {v : V} (h : RelS Φ E H i (.own ds) v) : RetOk Φ (.list ds) s.n v H := by
  obtain ⟨a, xs, rfl, m, h1, h2⟩ := h
  refine ⟨r.fr, fun d p q e => (r.dk d p q (r.dk0 _ e)).1, a, xs, rfl, h1, fun ha => ?_, RpAll.wk (fun b hb => ?_) h2⟩
  · obtain ⟨_, g1, g2, g3⟩ := r.own i a m
    rcases List.mem_append.mp ha with z | z
    · cases e : Φ.dk0 with
      | none => rw [e] at z; cases z
      | some t => rw [e, ← r.dk0 t e] at z; exact g2 z
    · exact g1 z
  · rcases List.mem_append.mp hb with z | z
    · cases e : Φ.dk0 with
      | none => rw [e] at z; cases z
      | some t =>
        refine List.mem_append_left _ (List.mem_append_left _ ?_)
        rw [r.dk0 t e, ← e]; exact z
    · exact List.mem_append_right _ (List.mem_append_right _ z)
end
section
variable {X : Cx} {Ec : EC}
/-! ### blocks -/
def sNx : AST := fun _ D s => D.nx s
def sSeq (a b : AST) : AST := fun xp D s => a xp { D with nx := b xp D } s
theorem as_nil : PSs X [] (cS Ec sNx) := pss_nil.sub fun D σ H ⟨Φ, E, xp, s, Da, r, x, q, m⟩ => m.nx E s σ H r q
theorem as_cons {st : Stmt} {rest : List Stmt} {a b : AST} (h : PS X st (cS Ec a)) (g : PSs X rest (cS Ec b)) : PSs X (st :: rest) (cS Ec (sSeq a b)) := (pss_cons h g).sub fun D σ H ⟨Φ, E, xp, s, Da, r, x, q, m⟩ => ⟨Φ, E, xp, s, _, r, x, q, fun E' s' σ' H' r' q' => ⟨Φ, E', xp, s', Da, r', x, q', m⟩, m.bk, m.ct, m.rt⟩
theorem as_one {st : Stmt} {a : AST} (h : PS X st (cS Ec a)) : PSs X [st] (cS Ec a) := pss_one h
def sBreak : AST := fun _ D s => D.bk s
def sCont : AST := fun _ D s => D.ct s
/-! ### one statement -/
def sDrop (a : AE) : AST := fun xp D s => a xp s fun _ s1 => D.nx s1
theorem as_expr {e : Expr} {a : AE} {pos : Pos} (h : PE X e (cE Ec a)) (hs : swapsWith e none pos.line X.env = pure false := by rfl) : PS X (.Expr e pos) (cS Ec (sDrop a)) := (ps_expr h hs).sub fun D σ H ⟨Φ, E, xp, s, Da, r, x, q, m⟩ => ⟨Φ, E, xp, s, _, r, x, q, fun d E' s' v H' _ r' _ _ q' => m.nx E' s' σ H' r' q'⟩
def sRet (a : AE) : AST := fun xp D s => a xp s fun d s1 => D.rt d s1.n
theorem as_ret {e : Expr} {a : AE} {pos : Pos} (h : PE X e (cE Ec a)) : PS X (.Return (some e) pos) (cS Ec (sRet a)) := (ps_ret h).sub fun D σ H ⟨Φ, E, xp, s, Da, r, x, q, m⟩ => ⟨Φ, E, xp, s, _, r, x, q, fun d E' s' v H' _ r' _ p q' => m.rt d s'.n v H' (r'.ret p) q'⟩
def sRetN : AST := fun _ D s => D.rt .none s.n
/-- return of a name: also of a list that was built here -/
def sRetV (i : Nat) : AST := fun _ D s => match s.sl[i]? with
  | some (some (.dat d)) => D.rt d s.n
  | some (some (.own ds)) => D.rt (.list ds) s.n
  | _ => False
theorem as_retV (i : Nat) {e : Expr} {pos : Pos} (h : PE X e (tVar i)) : PS X (.Return (some e) pos) (cS Ec (sRetV i)) := (ps_ret h).sub fun D σ H ⟨Φ, E, xp, s, Da, r, x, q, m⟩ => by
  unfold sRetV at q
  split at q
  · next d hd =>
    obtain ⟨v, h1, h2⟩ := r.val i _ hd
    exact ⟨v, h1, m.rt d s.n v H (r.ret h2) q⟩
  · next ds hd =>
    obtain ⟨v, h1, h2⟩ := r.val i _ hd
    exact ⟨v, h1, m.rt (.list ds) s.n v H (r.retOwn h2) q⟩
  · exact q.elim
def sIf (t : AT) (a b : AST) : AST := fun xp D s => t xp s fun c s1 => if c = true then a xp D s1 else b xp D s1
theorem as_if {c : Expr} {p q : List Stmt} {t : AT} {a b : AST} {pos : Pos} (hc : PT X c (cT Ec t)) (ha : PSs X p (cS Ec a)) (hb : PSs X q (cS Ec b)) : PS X (.If c p q pos) (cS Ec (sIf t a b)) := by
  refine (ps_if hc ha hb).sub fun D σ H ⟨Φ, E, xp, s, Da, r, x, q, m⟩ => ⟨Φ, E, xp, s, _, r, x, q, fun c E' s' H' _ r' _ q' => ?_⟩
  cases c with
  | true => exact iteT ⟨Φ, E', xp, s', Da, r', x, unT q', m⟩
  | false => exact iteF ⟨Φ, E', xp, s', Da, r', x, unF q', m⟩
/-! ### x = e -/
def sSet (i : Nat) (a : AE) : AST := fun xp D s => a xp s fun d s1 => D.nx (s1.set i (.dat d))
theorem as_asgT {i : Nat} {st : Stmt} {te : TE} {a : AE} (h : PS X st (tAsg te (gName i))) (g : ∀ σ H Q, cE Ec a σ H Q → te σ H Q) : PS X st (cS Ec (sSet i a)) := h.sub fun D σ H ⟨Φ, E, xp, s, Da, r, x, q, m⟩ => g _ _ _ ⟨Φ, E, xp, s, _, r, x, q, fun d E' s' v H' _ r' _ p q' => m.nx E' _ _ H' (r'.setX i (x := .dat d) p) q'⟩
/-- a new list, which will be changed -/
def sSetO (i : Nat) (a : AE) : AST := fun xp D s => a xp s fun d s1 => match d with
  | .list ds => D.nx (s1.set i (.own ds))
  | _ => False
theorem as_asgO {i : Nat} {st : Stmt} {te : TE} {a : AE} (h : PS X st (tAsg te (gName i))) (g : ∀ σ H Q, cF i Ec a σ H Q → te σ H Q) : PS X st (cS Ec (sSetO i a)) := h.sub fun D σ H ⟨Φ, E, xp, s, Da, r, x, q, m⟩ => g _ _ _ ⟨Φ, E, xp, s, _, r, x, q, fun ds E' s' l xs H' _ _ r' _ el ra _ q' => m.nx (E'.add i l) _ _ H' (r'.setX i (x := .own ds) ⟨l, xs, rfl, List.mem_cons_self, el, ra⟩) q'⟩
theorem as_set {i : Nat} {y : Str} {e : Expr} {a : AE} {pos pos' : Pos} (hN : X.N.Nodup) (hi : X.N[i]? = some y) (hx : Loc X.env.scope y) (he : PE X e (cE Ec a)) (hs : swapsWith e (some (.Name y pos')) pos.line X.env = pure false := by rfl) (hf : X.fn y = true ∨ X.env.scope.names.lookup y = some .local := by first | exact .inl rfl | exact .inr rfl | assumption) : PS X (.Assign [.Name y pos'] e pos) (cS Ec (sSet i a)) := as_asgT (ps_set hN hi hx he hs hf) fun _ _ _ h => h
theorem as_setO {i : Nat} {y : Str} {e : Expr} {a : AE} {pos pos' : Pos} (hN : X.N.Nodup) (hi : X.N[i]? = some y) (hx : Loc X.env.scope y) (he : PE X e (cF i Ec a)) (hs : swapsWith e (some (.Name y pos')) pos.line X.env = pure false := by rfl) (hf : X.fn y = true ∨ X.env.scope.names.lookup y = some .local := by first | exact .inl rfl | exact .inr rfl | assumption) : PS X (.Assign [.Name y pos'] e pos) (cS Ec (sSetO i a)) := as_asgO (ps_set hN hi hx he hs hf) fun _ _ _ h => h
/-! ### targets -/
abbrev AB := PyData → AS → (AS → Prop) → Prop
abbrev ABs := List PyData → AS → (AS → Prop) → Prop
def Off (sl : List Nat) (σ σ' : L2.St) : Prop := σ'.length = σ.length ∧ ∀ j, j ∉ sl → σ'[j]? = σ[j]?
theorem Off.trans {a b : List Nat} {σ σ1 σ2 : L2.St} (h : Off a σ σ1) (g : Off b σ1 σ2) : Off (a ++ b) σ σ2 := ⟨g.1.trans h.1, fun j hj => (g.2 j fun m => hj (List.mem_append_right _ m)).trans (h.2 j fun m => hj (List.mem_append_left _ m))⟩
/-- a pair that a walk makes is taken apart at once -/
def RpW (w : Bool) (H : Hp) (bn : List Addr) (d : PyData) (v : V) : Prop := match w with
  | false => Rp H bn d v
  | true => ∃ T xs ds, d = .tuple ds ∧ v = .ref T ∧ H T = some (.tup xs) ∧ RpAll H bn ds xs
def cG (w : Bool) (sl : List Nat) (b : AB) : TG := fun v σ H Q => ∃ Φ E s d Qa, Rel Φ E s σ H ∧ RpW w H (ban Φ E) d v ∧ b d s Qa ∧ ∀ s' σ', Rel Φ E s' σ' H → Off sl σ σ' → Qa s' → Q σ' H
def cGs (sl : List Nat) (b : ABs) : TGs := fun vs σ H Q => ∃ Φ E s ds Qa, Rel Φ E s σ H ∧ RpAll H (ban Φ E) ds vs ∧ b ds s Qa ∧ ∀ s' σ', Rel Φ E s' σ' H → Off sl σ σ' → Qa s' → Q σ' H
theorem _root_.L2.PG.sub {e : Expr} {t t' : TG} (h : PG X e t) (g : ∀ v σ H Q, t' v σ H Q → t v σ H Q) : PG X e t' := ⟨fun pins s σ H v u Q I r q => h.run pins s σ H v u Q I r (g _ _ _ _ q)⟩
theorem _root_.L2.PGs.sub {e : List Expr} {t t' : TGs} (h : PGs X e t) (g : ∀ v σ H Q, t' v σ H Q → t v σ H Q) : PGs X e t' := ⟨fun pins s σ H v u Q I r q => h.run pins s σ H v u Q I r (g _ _ _ _ q)⟩
def bNm (i : Nat) : AB := fun d s Q => Q (s.set i (.dat d))
theorem off_set {i : Nat} {σ : L2.St} {v : V} : Off [i] σ (σ.set i (some v)) := ⟨List.length_set, fun j hj => List.getElem?_set_ne fun e => hj (by rw [e]; simp)⟩
theorem ag_name {i : Nat} {e : Expr} (h : PG X e (gName i)) : PG X e (cG false [i] (bNm i)) := h.sub fun v σ H Q ⟨Φ, E, s, d, Qa, r, p, q, k⟩ => k _ _ (r.setX i (x := .dat d) p) off_set q
def bNil : ABs := fun ds s Q => ds = [] ∧ Q s
def bCons (b : AB) (c : ABs) : ABs := fun ds s Q => match ds with
  | d :: r => b d s fun s1 => c r s1 Q
  | [] => False
theorem ags_nil : PGs X [] (cGs [] bNil) := pgs_nil.sub fun v σ H Q ⟨Φ, E, s, ds, Qa, r, p, q, k⟩ => by
  obtain ⟨rfl, q⟩ := q
  exact ⟨p, k s σ r ⟨rfl, fun _ _ => rfl⟩ q⟩
theorem ags_cons {e : Expr} {es : List Expr} {a b : List Nat} {f : AB} {g : ABs} (h1 : PG X e (cG false a f)) (h2 : PGs X es (cGs b g)) (hs : (assignEach (e :: es) X.env).map (·.2) = assign e X.env :: (assignEach es X.env).map (·.2) := by rfl) : PGs X (e :: es) (cGs (a ++ b) (bCons f g)) := by
  refine (pgs_cons h1 h2 hs).sub fun v σ H Q ⟨Φ, E, s, ds, Qa, r, p, q, k⟩ => ?_
  cases ds with
  | nil => exact q.elim
  | cons d t =>
    obtain ⟨w, u, rfl, p1, p2⟩ := p
    exact ⟨w, u, rfl, Φ, E, s, d, _, r, p1, q, fun s1 σ1 r1 o1 q1 => ⟨Φ, E, s1, t, Qa, r1, p2, q1, fun s2 σ2 r2 o2 q2 => k s2 σ2 r2 (o1.trans o2) q2⟩⟩
def bTup (n : Nat) (b : ABs) : AB := fun d s Q => match d with
  | .tuple ds => ds.length = n ∧ b ds s Q
  | _ => False
theorem ag_tup {w : Bool} {es : List Expr} {k n : Nat} {a : List Nat} {b : ABs} {pos : Pos} (hc : X.calm = true) (h : PGs X es (cGs a b)) (hn : (assignEach es X.env).length = n := by rfl) (hst : (assignEach es X.env).findIdx? (·.1) = none := by rfl) : PG X (.Tuple es k pos) (cG w a (bTup n b)) := by
  refine (pg_tup hc h hn hst).sub fun v σ H Q ⟨Φ, E, s, d, Qa, r, p, q, k⟩ => ?_
  cases d with
  | tuple ds =>
    obtain ⟨hl, q⟩ := q
    cases w with
    | false =>
      obtain ⟨x, xs, rfl, tf, ra⟩ := p
      exact ⟨x, xs, rfl, .inl tf.rd, by rw [ra.len]; exact hl, Φ, E, s, ds, Qa, r, ra, q, k⟩
    | true =>
      obtain ⟨x, xs, ds', e, rfl, tf, ra⟩ := p
      cases e
      exact ⟨x, xs, rfl, SqT.of tf, by rw [ra.len]; exact hl, Φ, E, s, ds, Qa, r, ra, q, k⟩
  | none => exact q.elim
  | bool _ => exact q.elim
  | int _ => exact q.elim
  | str _ => exact q.elim
  | list _ => exact q.elim
  | dict _ => exact q.elim
def sAsg (a : AE) (b : AB) : AST := fun xp D s => a xp s fun d s1 => b d s1 D.nx
theorem as_asg {tg e : Expr} {a : AE} {sl : List Nat} {b : AB} {pos : Pos} (he : PE X e (cE Ec a)) (hg : PG X tg (cG false sl b)) (hs : swapsWithSole [tg] e pos.line X.env = pure false := by rfl) (hw : swappedStores [tg] e X.env = pure none := by rfl) (h1 : (assignEach [tg] X.env).map (·.2) = [assign tg X.env] := by rfl) : PS X (.Assign [tg] e pos) (cS Ec (sAsg a b)) := (ps_asg he hg hs hw h1).sub fun D σ H ⟨Φ, E, xp, s, Da, r, x, q, m⟩ => ⟨Φ, E, xp, s, _, r, x, q, fun d E' s' v H' _ r' _ p q' => ⟨Φ, E', s', d, Da.nx, r', p, q', fun s2 σ2 r2 _ q2 => m.nx E' s2 σ2 H' r2 q2⟩⟩
/-- a, b = e, f -/
def sPar (i j : Nat) (aa : AA) : AST := fun xp D s => aa xp s fun os s1 => rv os fun ds => match ds with
  | [d, e] => D.nx ((s1.set i (.dat d)).set j (.dat e))
  | _ => False
theorem as_par {i j : Nat} {st : Stmt} {aa : AA} (h : PS X st (tPar i j (cA Ec aa))) : PS X st (cS Ec (sPar i j aa)) := by
  refine h.sub fun D σ H ⟨Φ, E, xp, s, Da, r, x, q, m⟩ => ⟨Φ, E, xp, s, _, r, x, q, fun os E' s' vs H' _ r' _ p q' => ?_⟩
  obtain ⟨ds, e, q'⟩ := rv_get q'
  have ra := vals_rp p e
  match ds, q', ra with
  | [d, e], q', ra =>
    obtain ⟨v, t, rfl, p1, w, u, rfl, p2, rfl⟩ := ra
    exact ⟨v, w, rfl, m.nx E' _ _ H' ((r'.setX i (x := .dat d) p1).setX j (x := .dat e) p2) q'⟩
/-- x op= e -/
def sAug (f : PyData → PyData → (PyData → Prop) → Prop) (i : Nat) (ab : AO) : AST := fun xp D s => match s.sl[i]? with
  | some (some (.dat d1)) => ab xp s fun o s1 => rs s1 o fun d2 => f d1 d2 fun d => D.nx (s1.set i (.dat d))
  | _ => False
theorem as_aug {i : Nat} {st : Stmt} {r : TIp} {f : PyData → PyData → (PyData → Prop) → Prop} {ab : AO} (hd : DOp r f) (h : PS X st (tAug i (cO Ec ab) r)) : PS X st (cS Ec (sAug f i ab)) := by
  refine h.sub fun D σ H ⟨Φ, E, xp, s, Da, r, x, q, m⟩ => ?_
  unfold sAug at q
  split at q
  · next d1 hd1 =>
    obtain ⟨v1, h1, p1⟩ := r.val i _ hd1
    refine ⟨v1, h1, Φ, E, xp, s, _, r, x, q, fun o E' s' v2 H' l r' k p q' => ?_⟩
    obtain ⟨d2, e2, q'⟩ := rs_get q'
    refine hd (ban Φ E') H' d1 d2 v1 v2 _ _ r'.nb (.inl (Rp.wk l.ban (Rp.kb (show Rp H (ban Φ E) d1 v1 from p1) r.lst k))) (r'.res p e2) q' fun d v H2 m2 rp q2 => ?_
    exact m.nx E' _ _ H2 ((r'.same m2).setX i (x := .dat d) rp) q2
  · exact q.elim
/-! ### while -/
def whN (t : AT) (b : AST) (xp : XP) (D : AEnds) : Nat → AS → Prop
  | 0, _ => False
  | k + 1, s => t xp s fun c s1 => if c = true then b xp { D with nx := whN t b xp D k, ct := whN t b xp D k, bk := D.nx } s1 else D.nx s1
def sWhile (t : AT) (b : AST) : AST := fun xp D s => ∃ k, whN t b xp D k s
theorem as_while {c : Expr} {body : List Stmt} {t : AT} {b : AST} {pos : Pos} (hp : PassesOwn (model X.prog X.w) X.A X.env X.xe) (hc : PT X c (cT Ec t)) (hb : PSs X body (cS Ec b)) : PS X (.While c body [] pos) (cS Ec (sWhile t b)) := by
  refine (ps_while hp hc hb).sub fun D σ H ⟨Φ, E, xp, s, Da, r, x, ⟨k0, q⟩, m⟩ => ?_
  refine ⟨fun k σ H => ∃ E s, Rel Φ E s σ H ∧ whN t b xp Da k s, ⟨k0, E, s, r, q⟩, fun k σ H ⟨E, s, r, q⟩ => ?_⟩
  cases k with
  | zero => exact q.elim
  | succ k =>
    refine ⟨Φ, E, xp, s, _, r, x, q, fun c E' s' H' _ r' _ q' => ?_⟩
    cases c with
    | true =>
      refine iteT ⟨fun σ H => ∃ E s, Rel Φ E s σ H ∧ whN t b xp Da k s, fun σ' H' h => ⟨k, Nat.lt_succ_self _, h⟩, Φ, E', xp, s', _, r', x, unT q', ?_⟩
      exact ⟨fun E s σ H r q => ⟨E, s, r, q⟩, m.nx, fun E s σ H r q => ⟨E, s, r, q⟩, m.rt⟩
    | false => exact iteF (m.nx E' s' σ H' r' (unF q'))
/-! ### what is walked -/
inductive AIt where
  | fix (L : List PyData)
  | slt (i : Nat) (d : PyData)
def items : PyData → List PyData
  | .list L => L
  | .tuple L => L
  | _ => []
def AIt.its : AIt → List PyData
  | .fix L => L
  | .slt _ d => items d
def AIt.chk (s : AS) : AIt → Prop
  | .fix _ => True
  | .slt i d => res s (.slot i) = some d
abbrev AI := XP → AS → (AIt → AS → Prop) → Prop
def chkσ (σ σ1 : L2.St) (s : AS) : AIt → Prop
  | .fix _ => True
  | .slt i d => σ1[i]? = σ[i]? ∧ res s (.slot i) = some d
def JOk (w : Bool) (σ : L2.St) (J : It) (it : AIt) (hold : List Hd) : Prop := ∀ Φ E s σ1 H, Rel Φ E s σ1 H → (∀ x ∈ hold, Hl H (ban Φ E) x) → chkσ σ σ1 s it → ∀ i,
  (∀ d, it.its[i]? = some d → J.go i H ∧ ∀ x H2, J.yld i H x H2 → Same H H2 ∧ RpW w H2 (ban Φ E) d x) ∧ (it.its.length = i → J.stop i H)
def cI (w : Bool) (Ec : EC) (a : AI) : TI := fun σ H R => ∃ Φ E xp s Qa, Rel Φ E s σ H ∧ XSim Φ xp Ec ∧ a xp s Qa ∧ ∀ it E' s' J H' hold, Le E' E → Rel Φ E' s' σ H' → KB E H H' → JOk w σ J it hold → (∀ x ∈ hold, Hl H' (ban Φ E') x) → Qa it s' → R J H'
theorem Rel.hold {Φ : Fx} {E : OE} {s : AS} {σ : L2.St} {H : Hp} (r : Rel Φ E s σ H) {h : List Hd} (hh : ∀ x ∈ h, Hl H (ban Φ E) x) : Rel { Φ with T := h ++ Φ.T } E s σ H :=
  ⟨r.len, fun i x e => by
    obtain ⟨v, h1, h2⟩ := r.val i x e
    refine ⟨v, h1, ?_⟩
    cases x <;> exact h2, r.dk, r.own, r.inj, r.fr, r.dk0, r.alive, fun x hx => by
    rcases List.mem_append.mp hx with z | z
    · exact hh x z
    · exact r.held x z, r.zz, r.znd, r.tt⟩
theorem Rel.unhold {Φ : Fx} {E : OE} {s : AS} {σ : L2.St} {H : Hp} {h : List Hd} (r : Rel { Φ with T := h ++ Φ.T } E s σ H) : Rel Φ E s σ H ∧ ∀ x ∈ h, Hl H (ban Φ E) x :=
  ⟨⟨r.len, fun i x e => by
    obtain ⟨v, h1, h2⟩ := r.val i x e
    refine ⟨v, h1, ?_⟩
    cases x <;> exact h2, r.dk, r.own, r.inj, r.fr, r.dk0, r.alive, fun x hx => r.held x (List.mem_append_right _ hx), r.zz, r.znd, r.tt⟩, fun x hx => r.held x (List.mem_append_left _ hx)⟩
/-! ### for -/
def forL (b : AB) (body : AST) (xp : XP) (D : AEnds) : List PyData → AS → Prop
  | [], s => D.nx s
  | x :: xs, s => b x s fun s1 => body xp { D with nx := forL b body xp D xs, ct := forL b body xp D xs, bk := D.nx } s1
def sFor (ai : AI) (b : AB) (body : AST) : AST := fun xp D s => ai xp s fun it s1 => match it with
  | .fix L => forL b body xp D L s1
  | .slt _ _ => False
theorem as_for {w : Bool} {tg iter : Expr} {body : List Stmt} {ai : AI} {sl : List Nat} {b : AB} {bd : AST} {pos : Pos} (hp : PassesOwn (model X.prog X.w) X.A X.env X.xe) (hc : X.calm = true) (hi : PI X tg iter (cI w Ec ai)) (hg : PG X tg (cG w sl b)) (hb : PSs X body (cS Ec bd))
    (hs : ∀ x, foldedSetIterable iter X.env x = pure x := by intro _; rfl) : PS X (.For tg iter body [] pos) (cS Ec (sFor ai b bd)) := by
  refine (ps_for hp hc hi hg hb hs).sub fun D σ H ⟨Φ, E, xp, s, Da, r, xs0, q, m⟩ => ⟨Φ, E, xp, s, _, r, xs0, q, fun it E1 s1 J H1 hold l1 r1 k1 jo hh q1 => ?_⟩
  cases it with
  | slt i L => exact q1.elim
  | fix L =>
    refine ⟨fun i mm σ H => mm = L.length - i ∧ i ≤ L.length ∧ ∃ E s, Rel { Φ with T := hold ++ Φ.T } E s σ H ∧ forL b bd xp Da (L.drop i) s, ⟨L.length, by simp, Nat.zero_le _, E1, s1, r1.hold hh, by rw [List.drop_zero]; exact q1⟩, ?_⟩
    rintro i mm σ2 H2 ⟨rfl, hi, E2, s2, r2, q2⟩
    obtain ⟨r2', hh2⟩ := r2.unhold
    obtain ⟨jgo, jst⟩ := jo Φ E2 s2 σ2 H2 r2' hh2 trivial i
    by_cases hlt : i < L.length
    · obtain ⟨go, yl⟩ := jgo L[i] (List.getElem?_eq_getElem hlt)
      rw [List.drop_eq_getElem_cons hlt] at q2
      refine .inr ⟨go, fun σ H => ∃ E s, Rel { Φ with T := hold ++ Φ.T } E s σ H ∧ forL b bd xp Da (L.drop (i + 1)) s, fun σ' H' h => ⟨L.length - (i + 1), by omega, rfl, hlt, h⟩, fun x H3 y => ?_⟩
      obtain ⟨sm, rp⟩ := yl x H3 y
      refine ⟨{ Φ with T := hold ++ Φ.T }, E2, s2, L[i], _, r2.same sm, rp, q2, fun s3 σ3 r3 _ q3 => ⟨{ Φ with T := hold ++ Φ.T }, E2, xp, s3, _, r3, ⟨xs0.1, fun y E s σ H da r xr hx => xs0.2 y E s σ H da r.unhold.1 xr hx⟩, q3, fun E s σ H r q => ⟨E, s, r, q⟩, fun E s σ H r q => m.nx E s σ H r.unhold.1 q, fun E s σ H r q => ⟨E, s, r, q⟩, fun r n v H ro q => m.rt r n v H ⟨ro.fr, ro.dk, ro.rp⟩ q⟩⟩
    · have e : i = L.length := by omega
      subst e
      rw [List.drop_length] at q2
      exact .inl ⟨jst rfl, m.nx E2 s2 σ2 H2 r2' q2⟩
end
end TR
namespace TR
open PySem PySem.Spec PyProof.Rows L2
def x0 : XP := fun _ _ => False
abbrev e00 : EC := ⟨fun _ _ _ _ => False, none, [], []⟩
abbrev Fx.z (Φ : Fx) (D : Addr) (xs : List V) : Fx := { Φ with Z := (D, .lst xs) :: Φ.Z }
section
variable {Φ : Fx} {E : OE} {s : AS} {σ : L2.St} {H : Hp} {D : Addr} {xs : List V}
theorem ban_z {a : Addr} (h : a ∈ ban (Φ.z D xs) E) : a = D ∨ a ∈ ban Φ E := by
  unfold ban at h ⊢
  simp only [List.map_cons, List.mem_append, List.mem_cons] at h ⊢
  rcases h with h | (h | h) | h
  · exact .inr (.inl h)
  · exact .inl h
  · exact .inr (.inr (.inl h))
  · exact .inr (.inr (.inr h))
theorem z_ban {a : Addr} (h : a ∈ ban Φ E) : a ∈ ban (Φ.z D xs) E := by
  unfold ban at h ⊢
  simp only [List.map_cons, List.mem_append, List.mem_cons] at h ⊢
  rcases h with h | h | h
  · exact .inl h
  · exact .inr (.inl (.inr h))
  · exact .inr (.inr h)
theorem z_mem : D ∈ ban (Φ.z D xs) E := by
  unfold ban
  simp
theorem RelS.map {Φ' : Fx} {E' : OE} {H' : Hp} {i : Nat} (hE : ∀ x ∈ E.R, x ∈ E'.R) (hd : E'.dk = E.dk) (hB : ∀ b ∈ Φ.B, b ∈ Φ'.B) (h1 : ∀ d v, Rp H (ban Φ E) d v → Rp H' (ban Φ' E') d v) (h2 : ∀ ds vs, RpAll H (ban Φ E) ds vs → RpAll H' (ban Φ' E') ds vs)
    (h3 : ∀ a o, (∃ j, (j, a) ∈ E.R) ∨ a ∈ Φ.B → H a = some o → H' a = some o) (hX : Φ'.ex = Φ.ex) (hCs : Φ'.cs = Φ.cs) (hH0 : Φ'.H0 = Φ.H0) (h5 : ∀ a o, a ∉ ban Φ E → H a = some o → a ∉ ban Φ' E' ∧ H' a = some o) (h4 : ∀ x da, XRep H (ban Φ E) x da → XRep H' (ban Φ' E') x da) : ∀ {x : AV} {v : V}, RelS Φ E H i x v → RelS Φ' E' H' i x v
  | .dat _, _, h => h1 _ _ h
  | .own _, _, h => by
    obtain ⟨a, ys, e, m, g1, g2⟩ := h
    exact ⟨a, ys, e, hE _ m, h3 a _ (.inl ⟨_, m⟩) g1, h2 _ _ g2⟩
  | .dct _, _, h => by
    obtain ⟨a, ks, e, m, g1, g2⟩ := h
    exact ⟨a, ks, e, hE _ m, h3 a _ (.inl ⟨_, m⟩) g1, g2.mono h1⟩
  | .dcn _, _, h => by
    obtain ⟨a, ks, e, m, g1, g2⟩ := h
    exact ⟨a, ks, e, hE _ m, h3 a _ (.inl ⟨_, m⟩) g1, g2.mono h1⟩
  | .dcl _, _, h => by
    obtain ⟨a, ks, e, m, g1, hn, g2⟩ := h
    exact ⟨a, ks, e, hE _ m, h3 a _ (.inl ⟨_, m⟩) g1, hn, g2.mono h1 fun b xs m h => ⟨hE _ m, h3 b _ (.inl ⟨_, m⟩) h⟩⟩
  | .lck t _, _, h => by
    obtain ⟨a, e, g1, g2, g3⟩ := h
    have x : ∃ o, H a = some o := by cases t <;> (obtain ⟨_, _, q, _⟩ := g3; exact ⟨_, q⟩)
    exact ⟨a, e, (h5 a _ g1 x.choose_spec).1, hH0 ▸ g2, g3.mono h1 fun o u h => (h5 a _ g1 h).2⟩
  | .bor _, _, h => by
    rcases h with h | ⟨a, ds, ys, e, e2, g1, g3, g4⟩
    · exact .inl (h1 _ _ h)
    · exact .inr ⟨a, ds, ys, e, e2, h3 a _ (.inr g3) g1, hB _ g3, h2 _ _ g4⟩
  | .deck, _, h => by
    obtain ⟨d, p, q, e, z⟩ := h
    exact ⟨d, p, q, hd.trans e, z⟩
  | .exc _, _, h => by
    obtain ⟨a, da, e, z, g1, g2⟩ := h
    exact ⟨a, da, hX ▸ e, z, h4 _ _ g1, hCs ▸ g2⟩
/-- a new list is held -/
theorem Rel.addZ {H' : Hp} (r : Rel Φ E s σ H) (hD : H D = none) (m : Same H H') (e : H' D = some (.lst xs)) : Rel (Φ.z D xs) E s σ H' := by
  have fx : ∀ a ∈ ban (Φ.z D xs) E, a ∈ ban Φ E ∨ H a = none := fun a ha => by
    rcases ban_z ha with h | h
    · rw [h]; exact .inr hD
    · exact .inl h
  have nb := r.newban hD
  refine ⟨r.len, fun i x h => ?_, fun d p q h => ?_, fun i a h => ?_, r.inj, fun b o h1 h2 => m _ _ (r.fr b o h1 h2), r.dk0, r.alive, fun x hx => (Hl.fresh fx (r.held x hx)).same m, fun x hx => ?_, ?_, r.tt⟩
  · obtain ⟨v, h1, h2⟩ := r.val i x h
    exact ⟨v, h1, RelS.map (Φ := Φ) (Φ' := Φ.z D xs) (E' := E) (H' := H') (fun _ h => h) rfl (fun _ h => h) (fun d v h => (Rp.fresh fx h).same m) (fun d v h => (RpAll.fresh fx h).same m) (fun a ys _ h => m _ _ h) rfl rfl rfl (fun a o n h => ⟨fun z => (ban_z z).elim (fun z => by rw [z, hD] at h; cases h) n, m _ _ h⟩) (fun x da h => (XRep.fresh fx h).same m) h2⟩
  · obtain ⟨h1, h2⟩ := r.dk d p q h
    exact ⟨h1.same m, h2⟩
  · obtain ⟨⟨ys, h1, mu⟩, h2⟩ := r.own i a h
    exact ⟨⟨ys, m _ _ h1, mu⟩, h2⟩
  · rcases List.mem_cons.mp hx with h | h
    · subst h
      exact ⟨e, fun z => nb (List.mem_append_left _ z), r.noH0 hD⟩
    · obtain ⟨z1, z2⟩ := r.zz x h
      exact ⟨m _ _ z1, z2⟩
  · refine List.nodup_cons.mpr ⟨fun z => ?_, r.znd⟩
    obtain ⟨x, hx, e2⟩ := List.mem_map.mp z
    have e3 : x.1 = D := e2
    rw [← e3, (r.zz x hx).1] at hD; cases hD
theorem Rel.subZ (r : Rel (Φ.z D xs) E s σ H) : Rel Φ E s σ H := by
  refine ⟨r.len, fun i x h => ?_, r.dk, r.own, r.inj, r.fr, r.dk0, r.alive, fun x hx => (r.held x hx).wk fun _ h => z_ban h, fun x hx => r.zz x (List.mem_cons_of_mem _ hx), (List.nodup_cons.mp r.znd).2, r.tt⟩
  obtain ⟨v, h1, h2⟩ := r.val i x h
  exact ⟨v, h1, RelS.map (Φ := Φ.z D xs) (Φ' := Φ) (E' := E) (H' := H) (fun _ h => h) rfl (fun _ h => h) (fun d v h => h.wk fun _ h => z_ban h) (fun d v h => h.wk fun _ h => z_ban h) (fun a ys _ h => h) rfl rfl rfl (fun a o n h => ⟨fun z => n (z_ban z), h⟩) (fun x da h => h.wk fun _ h => z_ban h) h2⟩
theorem Mu.ne {H : Hp} {a b : Addr} {o u : HO} (h : H a = some o) (g : H b = some u) (mu : Mu u) (n : Mu o → False) : a ≠ b := fun e => by subst e; rw [h] at g; cases g; exact n mu
theorem Rp.updl {bn : List Addr} {o u : HO} (hD : D ∈ bn) (e : H D = some o) {d : PyData} {v : V} (h : Rp H bn d v) (mu : Mu o := by first | trivial | exact mu_DN) : Rp (upd H D u) bn d v :=
  Rp.mv (fun a zs n h => by rw [upd_ne (fun z => n (by rw [z]; exact hD))]; exact h) (fun a zs ⟨o2, hd, h⟩ => ⟨o2, hd, by rw [upd_ne (Mu.ne h e mu fun z => z)]; exact h⟩) (fun a n h => by rw [upd_ne (fun z => n (by rw [z]; exact hD))]; exact h) d v h
theorem RpAll.updl {bn : List Addr} {o u : HO} (hD : D ∈ bn) (e : H D = some o) {d : List PyData} {v : List V} (h : RpAll H bn d v) (mu : Mu o := by first | trivial | exact mu_DN) : RpAll (upd H D u) bn d v :=
  RpAll.mv (fun a zs n h => by rw [upd_ne (fun z => n (by rw [z]; exact hD))]; exact h) (fun a zs ⟨o2, hd, h⟩ => ⟨o2, hd, by rw [upd_ne (Mu.ne h e mu fun z => z)]; exact h⟩) (fun a n h => by rw [upd_ne (fun z => n (by rw [z]; exact hD))]; exact h) d v h
theorem Hl.updl {bn : List Addr} {o u : HO} (hD : D ∈ bn) (e : H D = some o) {x : Hd} (h : Hl H bn x) (mu : Mu o := by first | trivial | exact mu_DN) : Hl (upd H D u) bn x := by
  cases x with
  | dat d v => exact Rp.updl hD e (show Rp H bn d v from h) mu
  | ob a o => exact ⟨by rw [upd_ne fun z => h.2 (by rw [z]; exact hD)]; exact h.1, h.2⟩
theorem XRep.updl {bn : List Addr} {o u : HO} (hD : D ∈ bn) (e : H D = some o) {x : XD} {da : Option Addr} (h : XRep H bn x da) (mu : Mu o := by first | trivial | exact mu_DN) : XRep (upd H D u) bn x da := by
  unfold XRep at h ⊢
  split
  · next e0 => rw [e0] at h; exact h
  · next f d e0 =>
    rw [e0] at h
    obtain ⟨g, v, h1, h2, h3⟩ := h
    exact ⟨g, v, h1, by rw [upd_ne (Mu.ne h2 e mu fun z => z)]; exact h2, h3.updl hD e mu⟩
theorem Deck.updl' {d p q : Addr} {n : Nat} {u : HO} (h : Deck H d p q n) (h1 : D ≠ d) (h2 : D ≠ p) (h3 : D ≠ q) : Deck (upd H D u) d p q n := by
  obtain ⟨m, ⟨as, cs, c, g1, g2, g3, g4⟩, a, b, e⟩ := h
  exact ⟨m, ⟨as, cs, c, by rw [upd_ne h1.symm]; exact g1, by rw [upd_ne h2.symm]; exact g2, by rw [upd_ne h3.symm]; exact g3, g4⟩, a, b, e⟩
/-- no code object stands at a -/
def NoCo (H : Hp) (a : Addr) : Prop := ∀ c q, H a ≠ some (LamX.CodeO c q)
theorem Mu.nc {a : Addr} {o : HO} (e : H a = some o) (mu : Mu o) : NoCo H a := fun c q z => by
  rw [e] at z
  cases z
  exact mu c q rfl
theorem tabs_updl {T : List (Addr × Str)} {u : HO} (h : LamX.Tabs T H) (hD : D ∉ T.map (·.1)) (nc : NoCo H D) : LamX.Tabs T (upd H D u) := fun x hx => by
  obtain ⟨ps, h1, h2, h3⟩ := h x hx
  refine ⟨ps, by rw [upd_ne fun z => hD (List.mem_map.mpr ⟨x, hx, z⟩)]; exact h1, h2, fun pos cv hc => ?_⟩
  obtain ⟨c, e1, e2⟩ := h3 pos cv hc
  exact ⟨c, e1, by rw [upd_ne fun z => nc c x.2 (by rw [← z]; exact e2)]; exact e2⟩
theorem DeckT.updl' {d p : Addr} {q : DQ} {n : Nat} {u : HO} (h : DeckT H d p q n) (h1 : D ≠ d) (h2 : D ≠ p) (h3 : D ≠ q.1) (h4 : D ∉ q.2.map (·.1)) (nc : NoCo H D) : DeckT (upd H D u) d p q n := ⟨h.1.updl' h1 h2 h3, tabs_updl h.2 h4 nc⟩
/-- the held list grows -/
theorem Rel.updZ {ys : List V} (r : Rel (Φ.z D xs) E s σ H) : Rel (Φ.z D ys) E s σ (upd H D (.lst ys)) := by
  obtain ⟨eD, nD, hD0⟩ := r.zz (D, .lst xs) List.mem_cons_self
  have ne : ∀ a, a ∈ chg E → a ≠ D := fun a ha z => nD (z ▸ ha)
  have up : ∀ {a : Addr} {o : HO}, a ≠ D → H a = some o → upd H D (.lst ys) a = some o := fun h e => by rw [upd_ne h]; exact e
  refine ⟨r.len, fun i x h => ?_, fun d p q h => ?_, fun i a h => ?_, r.inj, fun b o h1 h2 => up (fun z => ?_) (r.fr b o h1 h2), r.dk0, r.alive, fun x hx => Hl.updl z_mem eD (r.held x hx), fun x hx => ?_, r.znd, r.tt⟩
  · obtain ⟨v, h1, h2⟩ := r.val i x h
    refine ⟨v, h1, RelS.map (Φ := Φ.z D xs) (Φ' := Φ.z D ys) (E' := E) (fun _ h => h) rfl (fun _ h => h) (fun d v h => Rp.updl z_mem eD h) (fun d v h => RpAll.updl z_mem eD h) (fun a zs ha h => up (fun z => ?_) h) rfl rfl rfl (fun a o n h => ⟨n, up (fun z => n (by rw [z]; exact z_mem)) h⟩) (fun x da h => XRep.updl z_mem eD h) h2⟩
    rcases ha with ⟨j, ha⟩ | ha
    · exact ne a (List.mem_append_right _ (List.mem_map.mpr ⟨_, ha, rfl⟩)) z
    · obtain ⟨⟨o, e⟩, _⟩ := r.alive a ha
      rw [z, hD0] at e; cases e
  · obtain ⟨h1, h2⟩ := r.dk d p q h
    refine ⟨h1.updl' ?_ ?_ ?_ (fun z => ?_) (Mu.nc eD trivial), h2⟩
    · exact (ne d (List.mem_append_left _ (by rw [h]; simp [dkl]))).symm
    · exact (ne p (List.mem_append_left _ (by rw [h]; simp [dkl]))).symm
    · exact (ne q.1 (List.mem_append_left _ (by rw [h]; simp [dkl]))).symm
    · exact ne D (List.mem_append_left _ (by rw [h]; exact List.mem_cons_of_mem _ (List.mem_cons_of_mem _ (List.mem_cons_of_mem _ z)))) rfl
  · obtain ⟨⟨zs, h1, mu⟩, h2⟩ := r.own i a h
    exact ⟨⟨zs, up (ne a (List.mem_append_right _ (List.mem_map.mpr ⟨_, h, rfl⟩))) h1, mu⟩, h2⟩
  · rw [z, hD0] at h1; cases h1
  · rcases List.mem_cons.mp hx with h | h
    · subst h
      exact ⟨upd_same, nD, hD0⟩
    · by_cases z : x.1 = D
      · exact absurd (List.mem_map.mpr ⟨x, h, z⟩) (List.nodup_cons.mp r.znd).1
      · obtain ⟨z1, z2⟩ := r.zz x (List.mem_cons_of_mem _ h)
        exact ⟨up z z1, z2⟩
/-- the held list becomes a slot's own -/
theorem Rel.ownZ (r : Rel (Φ.z D xs) E s σ H) (j : Nat) : Rel Φ (E.add j D) s σ H := by
  obtain ⟨eD, nD, hD0⟩ := r.zz (D, .lst xs) List.mem_cons_self
  have hb : ∀ a ∈ ban Φ (E.add j D), a ∈ ban (Φ.z D xs) E := fun a ha => by
    rcases mem_ban_add ha with h | h
    · rw [h]; exact z_mem
    · exact z_ban h
  refine ⟨r.len, fun i x h => ?_, r.dk, fun i a h => ?_, fun i k a h1 h2 => ?_, r.fr, r.dk0, r.alive, fun x hx => (r.held x hx).wk hb, fun x hx => ?_, (List.nodup_cons.mp r.znd).2, r.tt⟩
  · obtain ⟨v, h1, h2⟩ := r.val i x h
    exact ⟨v, h1, RelS.map (Φ := Φ.z D xs) (Φ' := Φ) (E := E) (E' := E.add j D) (H := H) (H' := H) (fun _ h => List.mem_cons_of_mem _ h) rfl (fun _ h => h) (fun d v h => h.wk hb) (fun d v h => h.wk hb) (fun a ys _ h => h) rfl rfl rfl (fun a o n h => ⟨fun z => n (hb _ z), h⟩) (fun x da h => h.wk hb) h2⟩
  · rcases List.mem_cons.mp h with h | h
    · cases h
      refine ⟨⟨_, eD, trivial⟩, fun z => ?_, fun z => nD (List.mem_append_left _ z), hD0⟩
      obtain ⟨⟨o, e⟩, _⟩ := r.alive D z
      rw [show Φ.H0 D = none from hD0] at e; cases e
    · exact r.own i a h
  · have own : ∀ i, (i, D) ∈ E.R → False := fun i h => nD (List.mem_append_right _ (List.mem_map.mpr ⟨_, h, rfl⟩))
    rcases List.mem_cons.mp h1 with h1 | h1
    · rcases List.mem_cons.mp h2 with h2 | h2
      · cases h1; cases h2; rfl
      · cases h1; exact (own _ h2).elim
    · rcases List.mem_cons.mp h2 with h2 | h2
      · cases h2; exact (own _ h1).elim
      · exact r.inj i k a h1 h2
  · obtain ⟨z1, z2, z3⟩ := r.zz x (List.mem_cons_of_mem _ hx)
    refine ⟨z1, fun z => ?_, z3⟩
    rcases List.mem_append.mp z with z | z
    · exact z2 (List.mem_append_left _ z)
    · rcases List.mem_cons.mp z with z | z
      · exact (List.nodup_cons.mp r.znd).1 (List.mem_map.mpr ⟨x, hx, z⟩)
      · exact z2 (List.mem_append_right _ z)
/-! ### slots forgotten, slots restored -/
def wl (l : List (Option AV)) : List Nat → List (Option AV)
  | [] => l
  | v :: vs => (wl l vs).set v none
def AS.wipe (s : AS) (vs : List Nat) : AS := { s with sl := wl s.sl vs }
theorem wl_len (l : List (Option AV)) : ∀ vs : List Nat, (wl l vs).length = l.length
  | [] => rfl
  | v :: vs => by unfold wl; rw [List.length_set, wl_len l vs]
theorem wl_some {l : List (Option AV)} {i : Nat} {x : AV} : ∀ {vs : List Nat}, (wl l vs)[i]? = some (some x) → l[i]? = some (some x) ∧ i ∉ vs
  | [], h => ⟨h, by simp⟩
  | v :: vs, h => by
    unfold wl at h
    by_cases hi : v = i
    · subst hi
      by_cases hv : v < (wl l vs).length
      · rw [List.getElem?_set_self hv] at h; cases h
      · rw [List.getElem?_eq_none (by simpa using hv)] at h; cases h
    · rw [List.getElem?_set_ne hi] at h
      obtain ⟨h1, h2⟩ := wl_some h
      exact ⟨h1, by simp only [List.mem_cons, not_or]; exact ⟨fun e => hi e.symm, h2⟩⟩
theorem wipe_off {σ : L2.St} {i : Nat} : ∀ {vs : List Nat}, i ∉ vs → (wipe σ vs)[i]? = σ[i]?
  | [], _ => rfl
  | v :: vs, h => by
    simp only [List.mem_cons, not_or] at h
    unfold wipe
    rw [List.getElem?_set_ne (fun e => h.1 e.symm)]
    exact wipe_off h.2
theorem Rel.wipe (r : Rel Φ E s σ H) (vs : List Nat) : Rel Φ E (s.wipe vs) (L2.wipe σ vs) H := by
  refine ⟨by rw [wipe_length, ← r.len]; exact wl_len _ _, fun i x h => ?_, r.dk, r.own, r.inj, r.fr, r.dk0, r.alive, r.held, r.zz, r.znd, r.tt⟩
  obtain ⟨h1, h2⟩ := wl_some h
  obtain ⟨v, g1, g2⟩ := r.val i x h1
  exact ⟨v, by rw [wipe_off h2]; exact g1, g2⟩
def kd : Option AV → Option AV
  | some (.dat d) => some (.dat d)
  | _ => none
def bkl (l0 l4 : List (Option AV)) : List Nat → List (Option AV)
  | [] => l4
  | v :: vs => (bkl l0 l4 vs).set v (kd (l0.getD v none))
def back (vs : List Nat) (s s4 : AS) : AS := { s4 with sl := bkl s.sl s4.sl vs }
theorem bkl_len (l0 l4 : List (Option AV)) : ∀ vs : List Nat, (bkl l0 l4 vs).length = l4.length
  | [] => rfl
  | v :: vs => by unfold bkl; rw [List.length_set, bkl_len l0 l4 vs]
theorem kd_some {o : Option AV} {x : AV} (h : kd o = some x) : ∃ d, x = .dat d ∧ o = some (.dat d) := by
  unfold kd at h
  split at h
  · next d => cases h; exact ⟨d, rfl, rfl⟩
  · cases h
theorem bkl_some {l0 l4 : List (Option AV)} {i : Nat} {x : AV} : ∀ {vs : List Nat}, (bkl l0 l4 vs)[i]? = some (some x) → (i ∉ vs ∧ l4[i]? = some (some x)) ∨ ∃ d, x = .dat d ∧ l0[i]? = some (some (.dat d))
  | [], h => .inl ⟨by simp, h⟩
  | v :: vs, h => by
    unfold bkl at h
    by_cases hi : v = i
    · subst hi
      by_cases hv : v < (bkl l0 l4 vs).length
      · rw [List.getElem?_set_self hv] at h
        obtain ⟨d, e1, e2⟩ := kd_some (Option.some.inj h)
        refine .inr ⟨d, e1, ?_⟩
        rw [List.getD_eq_getElem?_getD] at e2
        cases e3 : l0[v]? with
        | none => rw [e3] at e2; cases e2
        | some o => rw [e3] at e2; rw [show o = some (.dat d) from e2]
      · rw [List.getElem?_eq_none (by simpa using hv)] at h; cases h
    · rw [List.getElem?_set_ne hi] at h
      rcases bkl_some h with ⟨h1, h2⟩ | h1
      · exact .inl ⟨by simp only [List.mem_cons, not_or]; exact ⟨fun e => hi e.symm, h1⟩, h2⟩
      · exact .inr h1
theorem Rel.back {E4 : OE} {s4 : AS} {σ2 : L2.St} {H4 : Hp} {vs : List Nat} (r : Rel Φ E s σ H) (r4 : Rel Φ E4 s4 σ2 H4) (hw : L2.wipe σ2 vs = L2.wipe σ vs) (k : KB E H H4) (l : Le E4 E) : Rel Φ E4 (TR.back vs s s4) σ H4 := by
  have hlen : σ2.length = σ.length := by rw [← wipe_length σ2 vs, hw, wipe_length]
  refine ⟨by rw [← hlen, ← r4.len]; exact bkl_len _ _ _, fun i x h => ?_, r4.dk, r4.own, r4.inj, r4.fr, r4.dk0, r4.alive, r4.held, r4.zz, r4.znd, r4.tt⟩
  rcases bkl_some h with ⟨h1, h2⟩ | ⟨d, rfl, h2⟩
  · obtain ⟨v, g1, g2⟩ := r4.val i x h2
    refine ⟨v, ?_, g2⟩
    rw [← wipe_off (σ := σ) h1, ← hw, wipe_off h1]
    exact g1
  · obtain ⟨v, g1, g2⟩ := r.val i _ h2
    exact ⟨v, g1, Rp.wk l.ban (Rp.kb (show Rp H (ban Φ E) d v from g2) r.lst k)⟩
end
theorem off_wipe {sl vs : List Nat} {σ σ' : L2.St} (h : Off sl σ σ') (hs : ∀ i ∈ sl, i ∈ vs) : L2.wipe σ' vs = L2.wipe σ vs := by
  refine List.ext_getElem? fun i => ?_
  by_cases hi : i ∈ vs
  · have key : ∀ (τ : L2.St) (vs : List Nat), i ∈ vs → i < τ.length → (L2.wipe τ vs)[i]? = some none := by
      intro τ vs
      induction vs with
      | nil => intro h; cases h
      | cons v vs ih =>
        intro h hl
        unfold L2.wipe
        by_cases e : v = i
        · subst e
          exact List.getElem?_set_self (by rw [wipe_length]; exact hl)
        · rw [List.getElem?_set_ne e]
          rcases List.mem_cons.mp h with z | z
          · exact absurd z.symm e
          · exact ih z hl
    by_cases hl : i < σ.length
    · rw [key _ _ hi (by rw [h.1]; exact hl), key _ _ hi hl]
    · rw [List.getElem?_eq_none (by rw [wipe_length, h.1]; omega), List.getElem?_eq_none (by rw [wipe_length]; omega)]
  · rw [wipe_off hi, wipe_off hi, h.2 i fun m => hi (hs i m)]
theorem off_refl_wipe {vs sl : List Nat} {σ σ2 : L2.St} (h : Off sl (L2.wipe σ vs) σ2) (hs : ∀ i ∈ sl, i ∈ vs) : L2.wipe σ2 vs = L2.wipe σ vs := by
  have h1 := off_wipe h hs
  rw [h1]
  refine List.ext_getElem? fun i => ?_
  by_cases hi : i ∈ vs
  · cases e : (L2.wipe (L2.wipe σ vs) vs)[i]? with
    | none =>
      have := List.getElem?_eq_none_iff.mp e
      rw [wipe_length, wipe_length] at this
      rw [List.getElem?_eq_none (by rw [wipe_length]; exact this)]
    | some o =>
      cases o with
      | some x => exact absurd hi (wipe_some e).2
      | none =>
        cases e2 : (L2.wipe σ vs)[i]? with
        | none =>
          have := List.getElem?_eq_none_iff.mp e2
          rw [wipe_length] at this
          rw [List.getElem?_eq_none (by rw [wipe_length, wipe_length]; exact this)] at e
          cases e
        | some o =>
          cases o with
          | some x => exact absurd hi (wipe_some e2).2
          | none => rfl
  · rw [wipe_off hi]
end TR
namespace TR
open PySem PySem.Spec PyProof.Rows L2
/-! ### list comprehensions -/
def lcL (it : AIt) (b : AB) (t : AT) (a : AE) (vs : List Nat) (Q : PyData → AS → Prop) : List PyData → List PyData → AS → Prop
  | [], acc, s => it.chk s ∧ Q (.list acc) s
  | x :: xs, acc, s => it.chk s ∧ b x (s.wipe vs) fun s2 => t x0 s2 fun c s3 => if c = true then a x0 s3 fun y s4 => acc.length < sizeLine ∧ lcL it b t a vs Q xs (acc ++ [y]) (back vs s s4) else lcL it b t a vs Q xs acc (back vs s s3)
def aLc (ai : AI) (b : AB) (t : AT) (a : AE) (vs : List Nat) : AE := fun xp s Q => ai xp s fun it s1 => lcL it b t a vs Q it.its [] s1
def tYesA : AT := fun _ s Q => Q true s
theorem yes_ok {σ : L2.St} {H : Hp} {Q : Bool → Hp → Prop} {Ec : EC} (h : cT Ec tYesA σ H Q) : tYes σ H Q := by
  obtain ⟨Φ, E, xp, s, Qa, r, x, q, k⟩ := h
  exact k true E s H (.refl _) r (.refl _ _) q
theorem lc_ok {w : Bool} {Ec : EC} {ai : AI} {b : AB} {t : AT} {a : AE} {vs sl : List Nat} {j : Nat} (hsl : ∀ i ∈ sl, i ∈ vs) {σ : L2.St} {H : Hp} {Q : VK} (h : cF j Ec (aLc ai b t a vs) σ H Q) : tLc (cI w Ec ai) (cG w sl b) (cT Ec.z t) (cE Ec.z a) vs σ H Q := by
  obtain ⟨Φ, E, xp, s, Qa, r, xs, q, k⟩ := h
  refine ⟨Φ, E, xp, s, _, r, xs, q, fun it E1 s1 J H1 hold l1 r1 k1 jo hh q1 => fun D hD => ?_⟩
  generalize hL : it.its = L at q1
  have sm0 : Same H1 (upd H1 D (.lst [])) := same_upd hD
  have fx : ∀ a ∈ ban (Φ.z D []) E1, a ∈ ban Φ E1 ∨ H1 a = none := fun a ha => by
    rcases ban_z ha with h | h
    · rw [h]; exact .inr hD
    · exact .inl h
  refine ⟨fun i m H => m = L.length - i ∧ i ≤ L.length ∧ ∃ E s acc av, Le E E1 ∧ Rel (Φ.z D av) E s σ H ∧ KB E1 H1 H ∧ RpAll H (ban (Φ.z D av) E) acc av ∧ (∀ x ∈ hold, Hl H (ban (Φ.z D av) E) x) ∧ lcL it b t a vs Qa (L.drop i) acc s,
    ⟨L.length, by simp, Nat.zero_le _, E1, s1, [], [], .refl _, r1.addZ hD sm0 upd_same, KB.of_same sm0, rfl, fun x hx => (Hl.fresh fx (hh x hx)).same sm0, by rw [List.drop_zero]; exact q1⟩, ?_⟩
  rintro i m H2 ⟨rfl, hi, E2, s2, acc, av, l2, r2, k2, ra, hh2, q2⟩
  have chk : it.chk s2 := by
    by_cases hlt : i < L.length
    · rw [List.drop_eq_getElem_cons hlt] at q2; exact q2.1
    · rw [List.drop_eq_nil_of_le (by omega)] at q2; exact q2.1
  have chk2 : chkσ σ σ s2 it := by
    cases it with
    | fix L => trivial
    | slt i L => exact ⟨rfl, chk⟩
  obtain ⟨jgo, jst⟩ := jo (Φ.z D av) E2 s2 σ H2 r2 hh2 chk2 i
  by_cases hlt : i < L.length
  · obtain ⟨go, yl⟩ := jgo L[i] (by rw [hL]; exact List.getElem?_eq_getElem hlt)
    rw [List.drop_eq_getElem_cons hlt] at q2
    refine .inr ⟨go, fun H => ∃ E s acc av, Le E E1 ∧ Rel (Φ.z D av) E s σ H ∧ KB E1 H1 H ∧ RpAll H (ban (Φ.z D av) E) acc av ∧ (∀ x ∈ hold, Hl H (ban (Φ.z D av) E) x) ∧ lcL it b t a vs Qa (L.drop (i + 1)) acc s, fun H' h => ⟨L.length - (i + 1), by omega, rfl, hlt, h⟩, fun x H3 y => ?_⟩
    obtain ⟨sm, rp⟩ := yl x H3 y
    have r3 := r2.same sm
    have k3 : KB E2 H2 H3 := KB.of_same sm
    refine ⟨Φ.z D av, E2, s2.wipe vs, L[i], _, r3.wipe vs, rp, q2.2, fun s4 σ4 r4 o4 q4 => ?_⟩
    have hw := off_refl_wipe o4 hsl
    refine ⟨hw, Φ.z D av, E2, x0, s4, _, r4, ⟨xs.1, fun _ _ _ _ _ _ _ _ h => h⟩, q4, fun c E5 s5 H5 l5 r5 k5 q5 => ?_⟩
    cases c with
    | false =>
      refine iteF ?_
      have kk : KB E2 H2 H5 := k3.trans (.refl _) k5
      exact ⟨E5, _, acc, av, l5.trans l2, r2.back r5 hw kk l5, k2.trans l2 kk, (ra.kb r2.lst kk).wk l5.ban, fun x hx => ((hh2 x hx).kb r2.lst kk).wk l5.ban, unF q5⟩
    | true =>
      refine iteT ⟨Φ.z D av, E5, x0, s5, _, r5, ⟨xs.1, fun _ _ _ _ _ _ _ _ h => h⟩, unT q5, fun d E6 s6 v H6 l6 r6 k6 p6 q6 => ?_⟩
      obtain ⟨hlen, q6⟩ := q6
      have kk : KB E2 H2 H6 := (k3.trans (.refl _) k5).trans l5 k6
      have ll := l6.trans l5
      have eD : H6 D = some (.lst av) := (r6.zz (D, .lst av) List.mem_cons_self).1
      refine ⟨av, eD, by rw [(RpAll.len ra)]; exact hlen, ?_⟩
      have rb := r2.back r6 hw kk ll
      have eb : ∀ (ys : List V) (E : OE), ban (Φ.z D ys) E = ban (Φ.z D av) E := fun _ _ => rfl
      refine ⟨E6, _, acc ++ [d], av ++ [v], ll.trans l2, rb.updZ, ?_, ?_, fun x hx => ?_, q6⟩
      · intro c o h1 h2
        have := k2.trans l2 kk c o h1 h2
        rw [upd_ne (ne_of_none h1 hD)]
        exact this
      · rw [eb]
        exact RpAll.updl z_mem eD (RpAll.app ((ra.kb r2.lst kk).wk ll.ban) ⟨v, [], rfl, p6, rfl⟩)
      · rw [eb]
        exact Hl.updl z_mem eD (((hh2 x hx).kb r2.lst kk).wk ll.ban)
  · have e : i = L.length := by omega
    subst e
    rw [List.drop_length] at q2
    refine .inl ⟨jst (by rw [hL]), ?_⟩
    have eD : H2 D = some (.lst av) := (r2.zz (D, .lst av) List.mem_cons_self).1
    have nD : D ∉ ban Φ E2 := fun z => by
      have hz := (r2.zz (D, .lst av) List.mem_cons_self).2.1
      rcases List.mem_append.mp z with z | z
      · exact hz z
      · rcases List.mem_append.mp z with z | z
        · exact (List.nodup_cons.mp r2.znd).1 z
        · obtain ⟨⟨o, e⟩, _⟩ := r2.alive D z
          rw [show Φ.H0 D = none from (r2.zz (D, .lst av) List.mem_cons_self).2.2] at e; cases e
    refine k acc E2 s2 D av H2 (l2.trans l1) r2.subZ (r2.ownZ j) (fun c o h1 h2 => (k1.trans l1 k2) c o h1 h2) eD (ra.wk fun a ha => ?_) nD q2.2
    rcases mem_ban_add ha with h | h
    · rw [h]; exact z_mem
    · exact z_ban h
end TR
namespace TR
open PySem PySem.Spec PyProof.Rows L2
/-! ### two clauses -/
def lcI (it : AIt) (b : AB) (t : AT) (a : AE) (vs : List Nat) (K : List PyData → AS → Prop) : List PyData → List PyData → AS → Prop
  | [], acc, s => it.chk s ∧ K acc s
  | x :: xs, acc, s => it.chk s ∧ b x (s.wipe vs) fun s2 => t x0 s2 fun c s3 => if c = true then a x0 s3 fun y s4 => acc.length < sizeLine ∧ lcI it b t a vs K xs (acc ++ [y]) (back vs s s4) else lcI it b t a vs K xs acc (back vs s s3)
def lc2L (it : AIt) (b : AB) (t : AT) (ai1 : AI) (b1 : AB) (t1 : AT) (a : AE) (vs vs1 : List Nat) (Q : PyData → AS → Prop) : List PyData → List PyData → AS → Prop
  | [], acc, s => it.chk s ∧ Q (.list acc) s
  | x :: xs, acc, s => it.chk s ∧ b x (s.wipe vs) fun s2 => t x0 s2 fun c s3 => if c = true then ai1 x0 s3 fun it1 s4 => lcI it1 b1 t1 a vs1 (fun acc' s5 => lc2L it b t ai1 b1 t1 a vs vs1 Q xs acc' (back vs s s5)) it1.its acc s4 else lc2L it b t ai1 b1 t1 a vs vs1 Q xs acc (back vs s s3)
def aLc2 (ai : AI) (b : AB) (t : AT) (ai1 : AI) (b1 : AB) (t1 : AT) (a : AE) (vs vs1 : List Nat) : AE := fun xp s Q => ai xp s fun it s1 => lc2L it b t ai1 b1 t1 a vs vs1 Q it.its [] s1
def KZ (E : OE) (D : Addr) (H H' : Hp) : Prop := ∀ b o, H b = some o → b ∉ chg E → b ≠ D → H' b = some o
theorem KZ.of {E : OE} {D : Addr} {H H' : Hp} (k : KB E H H') : KZ E D H H' := fun b o h n _ => k b o h n
theorem KZ.trans {E E1 : OE} {D : Addr} {H H1 H2 : Hp} (a : KZ E D H H1) (l : Le E1 E) (b : KZ E1 D H1 H2) : KZ E D H H2 := fun c o h n m => b c o (a c o h n m) (fun z => n (l.chg c z)) m
theorem KZ.upd {E : OE} {D : Addr} {H H' : Hp} {o : HO} (k : KZ E D H H') : KZ E D H (upd H' D o) := fun b u h n m => by
  rw [upd_ne m]
  exact k b u h n m
section
variable {Φ : Fx} {E : OE} {H H' : Hp} {D : Addr} {xs : List V}
theorem Rp.kz {d : PyData} {v : V} (h : Rp H (ban (Φ.z D xs) E) d v) (L : LstAt E H) (e : H D = some (.lst xs)) (k : KZ E D H H') : Rp H' (ban (Φ.z D xs) E) d v := by
  refine Rp.mv (fun a zs hn g => k _ _ g (fun m => hn ?_) (fun z => hn ?_)) (fun a zs g => ?_) (fun a hn g => k _ _ g (fun m => hn (List.mem_append_left _ m)) fun z => hn (by rw [z]; exact z_mem)) d v h
  · exact List.mem_append_left _ m
  · rw [z]; exact z_mem
  · obtain ⟨o, hd, g1⟩ := g
    replace g1 : H a = some (.frz o (.tup zs)) := g1
    refine ⟨o, hd, k _ _ g1 (fun m => ?_) fun z => ?_⟩
    · obtain ⟨ys, e2, mu⟩ := L a m
      rw [g1] at e2; cases e2; exact mu.elim
    · rw [z, e] at g1; cases g1
theorem Hl.kz {x : Hd} (h : Hl H (ban (Φ.z D xs) E) x) (L : LstAt E H) (e : H D = some (.lst xs)) (k : KZ E D H H') : Hl H' (ban (Φ.z D xs) E) x := by
  cases x with
  | dat d v => exact Rp.kz (show Rp H (ban (Φ.z D xs) E) d v from h) L e k
  | ob a o => exact ⟨k _ _ h.1 (fun m => h.2 (List.mem_append_left _ m)) fun z => h.2 (by rw [z]; exact z_mem), h.2⟩
theorem Rel.backZ {s s4 : AS} {σ σ2 : L2.St} {E4 : OE} {ys : List V} {vs : List Nat} (r : Rel (Φ.z D xs) E s σ H) (r4 : Rel (Φ.z D ys) E4 s4 σ2 H') (hw : L2.wipe σ2 vs = L2.wipe σ vs) (k : KZ E D H H') (l : Le E4 E) : Rel (Φ.z D ys) E4 (TR.back vs s s4) σ H' := by
  have hlen : σ2.length = σ.length := by rw [← wipe_length σ2 vs, hw, wipe_length]
  refine ⟨by rw [← hlen, ← r4.len]; exact bkl_len _ _ _, fun i x h => ?_, r4.dk, r4.own, r4.inj, r4.fr, r4.dk0, r4.alive, r4.held, r4.zz, r4.znd, r4.tt⟩
  rcases bkl_some h with ⟨h1, h2⟩ | ⟨d, rfl, h2⟩
  · obtain ⟨v, g1, g2⟩ := r4.val i x h2
    refine ⟨v, ?_, g2⟩
    rw [← wipe_off (σ := σ) h1, ← hw, wipe_off h1]
    exact g1
  · obtain ⟨v, g1, g2⟩ := r.val i _ h2
    exact ⟨v, g1, Rp.wk (b := ban (Φ.z D xs) E) l.ban (Rp.kz (Φ := Φ) (xs := xs) (show Rp H (ban (Φ.z D xs) E) d v from g2) r.lst (r.zz (D, .lst xs) List.mem_cons_self).1 k)⟩
end
theorem lcI_ok {w : Bool} {Ec : EC} {b : AB} {t : AT} {a : AE} {vs sl : List Nat} (hsl : ∀ i ∈ sl, i ∈ vs) {σ : L2.St} {Φ : Fx} {D : Addr} {E1 : OE} {s1 : AS} {acc1 : List PyData} {av1 : List V} {H1 : Hp} {J : It} {it : AIt} {hold : List Hd} {K : List PyData → AS → Prop} {Nx : Hp → Prop}
    (xs0 : ∀ D xs, XSim (Φ.z D xs) x0 Ec.z) (r1 : Rel (Φ.z D av1) E1 s1 σ H1) (ra1 : RpAll H1 (ban (Φ.z D av1) E1) acc1 av1) (jo : JOk w σ J it hold) (hh1 : ∀ x ∈ hold, Hl H1 (ban (Φ.z D av1) E1) x) (q1 : lcI it b t a vs K it.its acc1 s1)
    (hK : ∀ E s acc av H, Le E E1 → Rel (Φ.z D av) E s σ H → KZ E1 D H1 H → RpAll H (ban (Φ.z D av) E) acc av → K acc s → Nx H) :
    ∃ W1 : Nat → Nat → Hp → Prop, (∃ m, W1 0 m H1) ∧ ∀ j k H, W1 j k H →
      (J.stop j H ∧ Nx H) ∨ (J.go j H ∧ ∃ Nx1 : Hp → Prop, (∀ H', Nx1 H' → ∃ k', k' < k ∧ W1 (j + 1) k' H') ∧ ∀ x H', J.yld j H x H' → cG w sl b x (wipe σ vs) H' fun σ3 H5 => wipe σ3 vs = wipe σ vs ∧ cT Ec.z t σ3 H5 fun b H6 =>
        if b = true then cE Ec.z a σ3 H6 fun y H7 => ∃ acc, H7 D = some (.lst acc) ∧ acc.length < sizeLine ∧ Nx1 (upd H7 D (.lst (acc ++ [y]))) else Nx1 H6) := by
  generalize hL : it.its = L at q1
  refine ⟨fun i m H => m = L.length - i ∧ i ≤ L.length ∧ ∃ E s acc av, Le E E1 ∧ Rel (Φ.z D av) E s σ H ∧ KZ E1 D H1 H ∧ RpAll H (ban (Φ.z D av) E) acc av ∧ (∀ x ∈ hold, Hl H (ban (Φ.z D av) E) x) ∧ lcI it b t a vs K (L.drop i) acc s,
    ⟨L.length, by simp, Nat.zero_le _, E1, s1, acc1, av1, .refl _, r1, fun _ _ h _ _ => h, ra1, hh1, by rw [List.drop_zero]; exact q1⟩, ?_⟩
  rintro i m H2 ⟨rfl, hi, E2, s2, acc, av, l2, r2, k2, ra, hh2, q2⟩
  have chk : it.chk s2 := by
    by_cases hlt : i < L.length
    · rw [List.drop_eq_getElem_cons hlt] at q2; exact q2.1
    · rw [List.drop_eq_nil_of_le (by omega)] at q2; exact q2.1
  have chk2 : chkσ σ σ s2 it := by
    cases it with
    | fix L => trivial
    | slt i L => exact ⟨rfl, chk⟩
  obtain ⟨jgo, jst⟩ := jo (Φ.z D av) E2 s2 σ H2 r2 hh2 chk2 i
  by_cases hlt : i < L.length
  · obtain ⟨go, yl⟩ := jgo L[i] (by rw [hL]; exact List.getElem?_eq_getElem hlt)
    rw [List.drop_eq_getElem_cons hlt] at q2
    refine .inr ⟨go, fun H => ∃ E s acc av, Le E E1 ∧ Rel (Φ.z D av) E s σ H ∧ KZ E1 D H1 H ∧ RpAll H (ban (Φ.z D av) E) acc av ∧ (∀ x ∈ hold, Hl H (ban (Φ.z D av) E) x) ∧ lcI it b t a vs K (L.drop (i + 1)) acc s, fun H' h => ⟨L.length - (i + 1), by omega, rfl, hlt, h⟩, fun x H3 y => ?_⟩
    obtain ⟨sm, rp⟩ := yl x H3 y
    have r3 := r2.same sm
    have k3 : KB E2 H2 H3 := KB.of_same sm
    refine ⟨Φ.z D av, E2, s2.wipe vs, L[i], _, r3.wipe vs, rp, q2.2, fun s4 σ4 r4 o4 q4 => ?_⟩
    have hw := off_refl_wipe o4 hsl
    refine ⟨hw, Φ.z D av, E2, x0, s4, _, r4, (xs0 _ _), q4, fun c E5 s5 H5 l5 r5 k5 q5 => ?_⟩
    cases c with
    | false =>
      refine iteF ?_
      have kk : KB E2 H2 H5 := k3.trans (.refl _) k5
      exact ⟨E5, _, acc, av, l5.trans l2, r2.back r5 hw kk l5, k2.trans l2 (.of kk), (ra.kb r2.lst kk).wk l5.ban, fun x hx => ((hh2 x hx).kb r2.lst kk).wk l5.ban, unF q5⟩
    | true =>
      refine iteT ⟨Φ.z D av, E5, x0, s5, _, r5, (xs0 _ _), unT q5, fun d E6 s6 v H6 l6 r6 k6 p6 q6 => ?_⟩
      obtain ⟨hlen, q6⟩ := q6
      have kk : KB E2 H2 H6 := (k3.trans (.refl _) k5).trans l5 k6
      have ll := l6.trans l5
      have eD : H6 D = some (.lst av) := (r6.zz (D, .lst av) List.mem_cons_self).1
      refine ⟨av, eD, by rw [(RpAll.len ra)]; exact hlen, ?_⟩
      have rb := r2.back r6 hw kk ll
      have eb : ∀ (ys : List V) (E : OE), ban (Φ.z D ys) E = ban (Φ.z D av) E := fun _ _ => rfl
      refine ⟨E6, _, acc ++ [d], av ++ [v], ll.trans l2, rb.updZ, (k2.trans l2 (.of kk)).upd, ?_, fun x hx => ?_, q6⟩
      · rw [eb]
        exact RpAll.updl z_mem eD (RpAll.app ((ra.kb r2.lst kk).wk ll.ban) ⟨v, [], rfl, p6, rfl⟩)
      · rw [eb]
        exact Hl.updl z_mem eD (((hh2 x hx).kb r2.lst kk).wk ll.ban)
  · have e : i = L.length := by omega
    subst e
    rw [List.drop_length] at q2
    exact .inl ⟨jst (by rw [hL]), hK E2 s2 acc av H2 l2 r2 k2 ra q2.2⟩
theorem lc2_ok {w w1 : Bool} {Ec : EC} {ai ai1 : AI} {b b1 : AB} {t t1 : AT} {a : AE} {vs vs1 sl sl1 : List Nat} {j : Nat} (hsl : ∀ i ∈ sl, i ∈ vs) (hsl1 : ∀ i ∈ sl1, i ∈ vs1) {σ : L2.St} {H : Hp} {Q : VK} (h : cF j Ec (aLc2 ai b t ai1 b1 t1 a vs vs1) σ H Q) : tLc2 (cI w Ec ai) (cG w sl b) (cT Ec.z t) (cI w1 Ec.z ai1) (cG w1 sl1 b1) (cT Ec.z t1) (cE Ec.z a) vs vs1 σ H Q := by
  obtain ⟨Φ, E, xp, s, Qa, r, xs, q, k⟩ := h
  have xz : ∀ D ys, XSim (Φ.z D ys) x0 Ec.z := fun D ys => ⟨xs.1, fun _ _ _ _ _ _ _ _ h => h⟩
  refine ⟨Φ, E, xp, s, _, r, xs, q, fun it E1 s1 J H1 hold l1 r1 k1 jo hh q1 => fun D hD => ?_⟩
  generalize hL : it.its = L at q1
  have sm0 : Same H1 (upd H1 D (.lst [])) := same_upd hD
  have fx : ∀ a ∈ ban (Φ.z D []) E1, a ∈ ban Φ E1 ∨ H1 a = none := fun a ha => by
    rcases ban_z ha with h | h
    · rw [h]; exact .inr hD
    · exact .inl h
  refine ⟨fun i m H => m = L.length - i ∧ i ≤ L.length ∧ ∃ E s acc av, Le E E1 ∧ Rel (Φ.z D av) E s σ H ∧ KZ E1 D H1 H ∧ RpAll H (ban (Φ.z D av) E) acc av ∧ (∀ x ∈ hold, Hl H (ban (Φ.z D av) E) x) ∧ lc2L it b t ai1 b1 t1 a vs vs1 Qa (L.drop i) acc s,
    ⟨L.length, by simp, Nat.zero_le _, E1, s1, [], [], .refl _, r1.addZ hD sm0 upd_same, .of (KB.of_same sm0), rfl, fun x hx => (Hl.fresh fx (hh x hx)).same sm0, by rw [List.drop_zero]; exact q1⟩, ?_⟩
  rintro i m H2 ⟨rfl, hi, E2, s2, acc, av, l2, r2, k2, ra, hh2, q2⟩
  have chk : it.chk s2 := by
    by_cases hlt : i < L.length
    · rw [List.drop_eq_getElem_cons hlt] at q2; exact q2.1
    · rw [List.drop_eq_nil_of_le (by omega)] at q2; exact q2.1
  have chk2 : chkσ σ σ s2 it := by
    cases it with
    | fix L => trivial
    | slt i L => exact ⟨rfl, chk⟩
  obtain ⟨jgo, jst⟩ := jo (Φ.z D av) E2 s2 σ H2 r2 hh2 chk2 i
  have eD2 : H2 D = some (.lst av) := (r2.zz (D, .lst av) List.mem_cons_self).1
  by_cases hlt : i < L.length
  · obtain ⟨go, yl⟩ := jgo L[i] (by rw [hL]; exact List.getElem?_eq_getElem hlt)
    rw [List.drop_eq_getElem_cons hlt] at q2
    refine .inr ⟨go, fun H => ∃ E s acc av, Le E E1 ∧ Rel (Φ.z D av) E s σ H ∧ KZ E1 D H1 H ∧ RpAll H (ban (Φ.z D av) E) acc av ∧ (∀ x ∈ hold, Hl H (ban (Φ.z D av) E) x) ∧ lc2L it b t ai1 b1 t1 a vs vs1 Qa (L.drop (i + 1)) acc s, fun H' h => ⟨L.length - (i + 1), by omega, rfl, hlt, h⟩, fun x H3 y => ?_⟩
    obtain ⟨sm, rp⟩ := yl x H3 y
    have r3 := r2.same sm
    have k3 : KB E2 H2 H3 := KB.of_same sm
    refine ⟨Φ.z D av, E2, s2.wipe vs, L[i], _, r3.wipe vs, rp, q2.2, fun s4 σ4 r4 o4 q4 => ?_⟩
    have hw := off_refl_wipe o4 hsl
    refine ⟨hw, Φ.z D av, E2, x0, s4, _, r4, (xz _ _), q4, fun c E5 s5 H5 l5 r5 k5 q5 => ?_⟩
    have kk : KB E2 H2 H5 := k3.trans (.refl _) k5
    cases c with
    | false =>
      refine iteF ?_
      exact ⟨E5, _, acc, av, l5.trans l2, r2.back r5 hw kk l5, k2.trans l2 (.of kk), (ra.kb r2.lst kk).wk l5.ban, fun x hx => ((hh2 x hx).kb r2.lst kk).wk l5.ban, unF q5⟩
    | true =>
      refine iteT ⟨Φ.z D av, E5, x0, s5, _, r5, (xz _ _), unT q5, fun it1 E6 s6 J1 H6 hold1 l6 r6 k6 jo1 hh6 q6 => ?_⟩
      have kk6 : KB E2 H2 H6 := kk.trans l5 k6
      have ll := l6.trans l5
      refine lcI_ok hsl1 xz r6 ((ra.kb r2.lst kk6).wk ll.ban) jo1 hh6 q6 fun E7 s7 acc7 av7 H7 l7 r7 k7 ra7 q7 => ?_
      have kz : KZ E2 D H2 H7 := (KZ.of kk6).trans ll k7
      have l27 := l7.trans ll
      have eb : ∀ (E : OE), ban (Φ.z D av7) E = ban (Φ.z D av) E := fun _ => rfl
      refine ⟨E7, _, acc7, av7, l27.trans l2, r2.backZ r7 hw kz l27, k2.trans l2 kz, ra7, fun x hx => ?_, q7⟩
      rw [eb]
      exact ((hh2 x hx).kz r2.lst eD2 kz).wk l27.ban
  · have e : i = L.length := by omega
    subst e
    rw [List.drop_length] at q2
    refine .inl ⟨jst (by rw [hL]), ?_⟩
    have nD : D ∉ ban Φ E2 := fun z => by
      have hz := (r2.zz (D, .lst av) List.mem_cons_self).2.1
      rcases List.mem_append.mp z with z | z
      · exact hz z
      · rcases List.mem_append.mp z with z | z
        · exact (List.nodup_cons.mp r2.znd).1 z
        · obtain ⟨⟨o, e⟩, _⟩ := r2.alive D z
          rw [show Φ.H0 D = none from (r2.zz (D, .lst av) List.mem_cons_self).2.2] at e; cases e
    refine k acc E2 s2 D av H2 (l2.trans l1) r2.subZ (r2.ownZ j) (fun c o h1 h2 => k2 c o (k1 c o h1 h2) (fun z => h2 (l1.chg c z)) (ne_of_none (k1 c o h1 h2) hD)) eD2 (ra.wk fun a ha => ?_) nD q2.2
    rcases mem_ban_add ha with h | h
    · rw [h]; exact z_mem
    · exact z_ban h
end TR
namespace TR
open PySem PySem.Spec PyProof.Rows L2
section
variable {Φ : Fx} {E : OE} {s : AS} {σ : L2.St} {H : Hp}
/-- a list is given away -/
theorem Rel.frz (r : Rel Φ E s σ H) {i : Nat} {ds : List PyData} (h : s.sl[i]? = some (some (.own ds))) : ∃ v E', σ[i]? = some (some v) ∧ Le E' E ∧ Rel Φ E' (s.set i (.dat (.list ds))) σ H ∧ Rp H (ban Φ E') (.list ds) v := by
  obtain ⟨v, hv, a, xs, rfl, m, ea, ra⟩ := r.val i _ h
  have le : Le ⟨E.dk, E.R.filter (fun x => decide (x.2 ≠ a))⟩ E := ⟨rfl, fun x hx => (List.mem_filter.mp hx).1⟩
  generalize hE : (⟨E.dk, E.R.filter (fun x => decide (x.2 ≠ a))⟩ : OE) = E' at le
  have hR : ∀ x, x ∈ E'.R ↔ x ∈ E.R ∧ x.2 ≠ a := fun x => by rw [← hE]; simp
  have hdk : E'.dk = E.dk := le.1
  obtain ⟨_, g1, g2, g3⟩ := r.own i a m
  have ac : a ∈ chg E := List.mem_append_right _ (List.mem_map.mpr ⟨_, m, rfl⟩)
  have nb : a ∉ ban Φ E' := fun z => by
    rcases List.mem_append.mp z with z | z
    · rcases List.mem_append.mp z with z | z
      · rw [hdk] at z; exact g2 z
      · obtain ⟨x, hx, e⟩ := List.mem_map.mp z
        exact ((hR x).mp hx).2 e
    · rcases List.mem_append.mp z with z | z
      · obtain ⟨x, hx, e⟩ := List.mem_map.mp z
        exact (r.zz x hx).2.1 (by rw [e]; exact ac)
      · exact g1 z
  have rp : Rp H (ban Φ E') (.list ds) (.ref a) := ⟨a, xs, rfl, ea, nb, ra.wk le.ban⟩
  refine ⟨.ref a, E', hv, le, ?_, rp⟩
  refine ⟨by show (s.sl.set i _).length = _; rw [List.length_set]; exact r.len, fun j x hx => ?_, fun d p q e => ?_, fun j b hb => ?_, fun j k b h1 h2 => r.inj j k b ((hR _).mp h1).1 ((hR _).mp h2).1, r.fr, fun t e => hdk.trans (r.dk0 t e), r.alive, fun x hx => (r.held x hx).wk le.ban, fun x hx => ?_, r.znd, by rw [hdk]; exact r.tt⟩
  · by_cases e : i = j
    · subst e
      have hl := (List.getElem?_eq_some_iff.mp h).1
      have hx2 : (s.sl.set i (some (.dat (.list ds))))[i]? = some (some x) := hx
      rw [List.getElem?_set_self hl] at hx2
      cases hx2
      exact ⟨_, hv, rp⟩
    · have hx2 : (s.sl.set i (some (.dat (.list ds))))[j]? = some (some x) := hx
      rw [List.getElem?_set_ne e] at hx2
      obtain ⟨w, h1, h2⟩ := r.val j x hx2
      refine ⟨w, h1, ?_⟩
      cases x with
      | dat d => exact Rp.wk le.ban (show Rp H (ban Φ E) d w from h2)
      | own es =>
        obtain ⟨b, ys, e1, m1, h3, h4⟩ := h2
        exact ⟨b, ys, e1, (hR _).mpr ⟨m1, fun z => e (r.inj i j a m (z ▸ m1))⟩, h3, h4.wk le.ban⟩
      | dct kvs =>
        obtain ⟨b, ks, e1, m1, h3, h4⟩ := h2
        exact ⟨b, ks, e1, (hR _).mpr ⟨m1, fun z => e (r.inj i j a m (z ▸ m1))⟩, h3, h4.wk le.ban⟩
      | dcn kvs =>
        obtain ⟨b, ks, e1, m1, h3, h4⟩ := h2
        exact ⟨b, ks, e1, (hR _).mpr ⟨m1, fun z => e (r.inj i j a m (z ▸ m1))⟩, h3, h4.wk le.ban⟩
      | dcl kvs =>
        obtain ⟨b, ks, e1, m1, h3, hn, h4⟩ := h2
        exact ⟨b, ks, e1, (hR _).mpr ⟨m1, fun z => e (r.inj i j a m (z ▸ m1))⟩, h3, hn, h4.mono (fun _ _ h => h.wk le.ban) fun c _ m2 h => ⟨(hR _).mpr ⟨m2, fun z => e (r.inj i j a m (z ▸ m2))⟩, h⟩⟩
      | lck t kvs =>
        obtain ⟨b, e1, h3, h5, h4⟩ := h2
        exact ⟨b, e1, fun z => h3 (le.ban _ z), h5, h4.mono (fun _ _ h => h.wk le.ban) fun _ _ h => h⟩
      | bor d =>
        rcases h2 with h2 | ⟨b, es, ys, e1, e2, h3, h5, h6⟩
        · exact .inl (h2.wk le.ban)
        · exact .inr ⟨b, es, ys, e1, e2, h3, h5, h6.wk le.ban⟩
      | deck =>
        obtain ⟨d, p, q, e1, e2⟩ := h2
        exact ⟨d, p, q, hdk.trans e1, e2⟩
      | exc x =>
        obtain ⟨b, da, e1, e2, h3, h4⟩ := h2
        exact ⟨b, da, e1, e2, h3.wk le.ban, h4⟩
  · rw [hdk] at e
    obtain ⟨h1, h2⟩ := r.dk d p q e
    exact ⟨h1, fun b hb => h2 b (by rw [← hdk]; exact hb)⟩
  · obtain ⟨h1, h2, h3, h4⟩ := r.own j b ((hR _).mp hb).1
    exact ⟨h1, h2, by rw [hdk]; exact h3, h4⟩
  · obtain ⟨z1, z2, z3⟩ := r.zz x hx
    exact ⟨z1, fun z => z2 (le.chg _ z), z3⟩
end
section
variable {X : Cx} {Ec : EC}
/-! ### what is walked: lists, tuples -/
theorem pi_seq {tg l : Expr} {tl : TE} (hl : PE X l tl) : PI X tg l (fun σ H R => tl σ H fun x H1 => ∃ a xs, x = .ref a ∧ ((SqL X.K H1 a xs ∧ R (Itl X.K a) H1) ∨ (SqT X.K H1 a xs ∧ R (Itt X.K a) H1))) := by
  constructor
  intro pins s σ H R I0 h0
  refine thn (hl.run pins s σ H _ I0 h0) ?_
  rintro v t ⟨x, G, I, rx, a, xs, rfl, hx⟩
  cases rx
  have big : ∀ b ∈ [t.heap.objs.size], FpOk X pins G b := fun b hb => by
    rw [List.mem_singleton.mp hb]
    exact I.fpOk (Nat.le_refl _) (I.hok.fresh (Nat.le_refl _))
  rcases hx with ⟨hq, q⟩ | ⟨hq, q⟩
  · obtain ⟨its, _, pl, _⟩ := I.list hq
    exact wpAny_pyIter_list pl.isList ⟨_, [t.heap.objs.size], _, _, G, rfl, I.kept (t' := t.toks) fun b o e => Heap.get?_push_of_some _ e, turn_list a _, ⟨_, Heap.get?_push_size _ rfl, rfl, rfl⟩, big, q⟩
  · obtain ⟨its, _, pl, _⟩ := I.tuple hq
    exact wpAny_pyIter_tuple (show t.heap.IsTuple a its.toArray from pl) ⟨_, [t.heap.objs.size], _, _, G, rfl, I.kept (t' := t.toks) fun b o e => Heap.get?_push_of_some _ e, turn_tuple a _, ⟨_, Heap.get?_push_size _ rfl, rfl, rfl⟩, big, q⟩
def iSeq (ao : AO) : AI := fun xp s Q => ao xp s fun o s1 => match o with
  | .val (.list L) => Q (.fix L) s1
  | .val (.tuple L) => Q (.fix L) s1
  | .slot i => (match res s1 (.slot i) with
    | some (.list L) => Q (.slt i (.list L)) s1
    | some (.tuple L) => Q (.slt i (.tuple L)) s1
    | _ => False)
  | _ => False
theorem RpAll.at {H : Hp} {bn : List Addr} {ds : List PyData} {xs : List V} (h : RpAll H bn ds xs) {i : Nat} {d : PyData} (e : ds[i]? = some d) : ∃ x, xs[i]? = some x ∧ Rp H bn d x := by
  have hl := h.len
  have hi : i < xs.length := by rw [hl]; exact (List.getElem?_eq_some_iff.mp e).1
  obtain ⟨d', h1, h2⟩ := h.get (List.getElem?_eq_getElem hi)
  rw [e] at h1
  cases h1
  exact ⟨_, List.getElem?_eq_getElem hi, h2⟩
theorem jo_list {K : PySem.W.Frag} {bn : List Addr} {H : Hp} {L : List PyData} {a : Addr} {xs : List V} (e : H a = some (.lst xs)) (ra : RpAll H bn L xs) (i : Nat) : (∀ d, L[i]? = some d → (Itl K a).go i H ∧ ∀ x H2, (Itl K a).yld i H x H2 → Same H H2 ∧ Rp H2 bn d x) ∧ (L.length = i → (Itl K a).stop i H) := by
  refine ⟨fun d hd => ?_, fun hi => ⟨xs, sqL e, by rw [ra.len]; exact Nat.le_of_eq hi⟩⟩
  obtain ⟨x, hx, hp⟩ := ra.at hd
  refine ⟨⟨xs, x, sqL e, hx⟩, fun y H2 ⟨e2, hy⟩ => ?_⟩
  subst e2
  have := hy xs (sqL e)
  rw [hx] at this
  cases this
  exact ⟨.refl _, hp⟩
theorem jo_tup {K : PySem.W.Frag} {bn : List Addr} {H : Hp} {L : List PyData} {a : Addr} {xs : List V} (e : TF H a xs) (ra : RpAll H bn L xs) (i : Nat) : (∀ d, L[i]? = some d → (Itt K a).go i H ∧ ∀ x H2, (Itt K a).yld i H x H2 → Same H H2 ∧ Rp H2 bn d x) ∧ (L.length = i → (Itt K a).stop i H) := by
  refine ⟨fun d hd => ?_, fun hi => ⟨xs, .inl e.rd, by rw [ra.len]; exact Nat.le_of_eq hi⟩⟩
  obtain ⟨x, hx, hp⟩ := ra.at hd
  refine ⟨⟨xs, x, .inl e.rd, hx⟩, fun y H2 ⟨e2, hy⟩ => ?_⟩
  subst e2
  have := hy xs (.inl e.rd)
  rw [hx] at this
  cases this
  exact ⟨.refl _, hp⟩
theorem ai_seq {tg l : Expr} {ao : AO} (hl : PE X l (cO Ec ao)) : PI X tg l (cI false Ec (iSeq ao)) := by
  refine (pi_seq hl).sub fun σ H R ⟨Φ, E, xp, s, Qa, r, x, q, k⟩ => ⟨Φ, E, xp, s, _, r, x, q, fun o E1 s1 v H1 l1 r1 k1 p1 q1 => ?_⟩
  have lst : ∀ L, o = .val (.list L) → Qa (.fix L) s1 → ∃ a xs, v = .ref a ∧ ((SqL X.K H1 a xs ∧ R (Itl X.K a) H1) ∨ (SqT X.K H1 a xs ∧ R (Itt X.K a) H1)) := fun L e q => by
    subst e
    obtain ⟨a, xs, rfl, ea, nb, ra⟩ := (show Rp H1 (ban Φ E1) (.list L) v from p1)
    refine ⟨a, xs, rfl, .inl ⟨sqL ea, k (.fix L) E1 s1 _ H1 [.dat (.list L) (.ref a)] l1 r1 k1 (fun Φ E s σ1 H _ hh _ i => ?_) (fun x hx => ?_) q⟩⟩
    · obtain ⟨b, ys, e, eb, _, rb⟩ := hh (.dat (.list L) (.ref a)) List.mem_cons_self
      cases e
      exact jo_list eb rb i
    · rw [List.mem_singleton.mp hx]
      exact p1
  have tup : ∀ L, o = .val (.tuple L) → Qa (.fix L) s1 → ∃ a xs, v = .ref a ∧ ((SqL X.K H1 a xs ∧ R (Itl X.K a) H1) ∨ (SqT X.K H1 a xs ∧ R (Itt X.K a) H1)) := fun L e q => by
    subst e
    obtain ⟨a, xs, rfl, ea, ra⟩ := (show Rp H1 (ban Φ E1) (.tuple L) v from p1)
    refine ⟨a, xs, rfl, .inr ⟨.inl ea.rd, k (.fix L) E1 s1 _ H1 [.dat (.tuple L) (.ref a)] l1 r1 k1 (fun Φ E s σ1 H _ hh _ i => ?_) (fun x hx => ?_) q⟩⟩
    · obtain ⟨b, ys, e, eb, rb⟩ := hh (.dat (.tuple L) (.ref a)) List.mem_cons_self
      cases e
      exact jo_tup eb rb i
    · rw [List.mem_singleton.mp hx]
      exact p1
  split at q1
  · exact lst _ rfl q1
  · exact tup _ rfl q1
  · next i =>
    split at q1
    · next L hL =>
      have aux : ∀ {Φ : Fx} {E : OE} {s : AS} {σ1 : L2.St} {G : Hp}, Rel Φ E s σ1 G → σ1[i]? = some (some v) → (res s (.slot i)) = some (.list L) → ∃ a xs, v = .ref a ∧ G a = some (.lst xs) ∧ RpAll G (ban Φ E) L xs := fun r h1 h2 => by
        rcases r.res (o := .slot i) h1 h2 with ⟨a, xs, e, ea, _, ra⟩ | ⟨a, ds, xs, e0, e, ea, ra⟩
        · exact ⟨a, xs, e, ea, ra⟩
        · cases e0; exact ⟨a, xs, e, ea, ra⟩
      obtain ⟨a, xs, rfl, ea, ra⟩ := aux r1 p1 hL
      refine ⟨a, xs, rfl, .inl ⟨sqL ea, k (.slt i (.list L)) E1 s1 _ H1 [] l1 r1 k1 (fun Φ E s σ1 H rr hh ⟨c1, c2⟩ j => ?_) (fun x hx => by cases hx) q1⟩⟩
      obtain ⟨b, ys, e, eb, rb⟩ := aux rr (by rw [c1]; exact p1) c2
      cases e
      exact jo_list eb rb j
    · next L hL =>
      have aux : ∀ {Φ : Fx} {E : OE} {s : AS} {σ1 : L2.St} {G : Hp}, Rel Φ E s σ1 G → σ1[i]? = some (some v) → (res s (.slot i)) = some (.tuple L) → ∃ a xs, v = .ref a ∧ TF G a xs ∧ RpAll G (ban Φ E) L xs := fun r h1 h2 => by
        rcases r.res (o := .slot i) h1 h2 with ⟨a, xs, e, ea, ra⟩ | ⟨a, ds, xs, e0, e, ea, ra⟩
        · exact ⟨a, xs, e, ea, ra⟩
        · cases e0
      obtain ⟨a, xs, rfl, ea, ra⟩ := aux r1 p1 hL
      refine ⟨a, xs, rfl, .inr ⟨.inl ea.rd, k (.slt i (.tuple L)) E1 s1 _ H1 [] l1 r1 k1 (fun Φ E s σ1 H rr hh ⟨c1, c2⟩ j => ?_) (fun x hx => by cases hx) q1⟩⟩
      obtain ⟨b, ys, e, eb, rb⟩ := aux rr (by rw [c1]; exact p1) c2
      cases e
      exact jo_tup eb rb j
    · exact q1.elim
  · exact q1.elim
/-! ### ranges -/
def rngD (lo : Int) (n : Nat) : List PyData := (List.range n).map fun k => .int (lo + (k : Nat))
theorem jo_range {w : Bool} {σ : L2.St} (hw : w = false) (lo : Int) (n : Nat) : JOk w σ (Itr lo n) (.fix (rngD lo n)) [] := fun Φ E s σ1 H _ _ _ i => by
  subst hw
  refine ⟨fun d hd => ?_, fun hi => ?_⟩
  · have hd2 : (rngD lo n)[i]? = some d := hd
    unfold rngD at hd2
    rw [List.getElem?_map] at hd2
    obtain ⟨k, hk, rfl⟩ := Option.map_eq_some_iff.mp hd2
    obtain ⟨hl, e⟩ := List.getElem?_eq_some_iff.mp hk
    rw [List.length_range] at hl
    rw [List.getElem_range] at e
    subst e
    exact ⟨hl, fun x H2 ⟨e1, e2⟩ => by subst e1 e2; exact ⟨.refl _, rfl⟩⟩
  · have : (rngD lo n).length ≤ i := Nat.le_of_eq hi
    unfold rngD at this
    rw [List.length_map, List.length_range] at this
    exact this
def iRange1 (aa : AA) : AI := fun xp s Q => aa xp s fun os s1 => rv os fun ds => match ds with
  | [.int j] => -(2 ^ 62) ≤ j ∧ j < 2 ^ 62 ∧ Q (.fix (rngD 0 j.toNat)) s1
  | _ => False
def iRange2 (aa : AA) : AI := fun xp s Q => aa xp s fun os s1 => rv os fun ds => match ds with
  | [.int i, .int j] => (-(2 ^ 62) ≤ i ∧ i < 2 ^ 62 ∧ -(2 ^ 62) ≤ j ∧ j < 2 ^ 62) ∧ Q (.fix (rngD i (j - i).toNat)) s1
  | _ => False
theorem ai_range1 {tg a : Expr} {aa : AA} {p pos : Pos} (hg : Gl X "range") (hm : X.mg "range" = none) (ha : PA X [a] (cA Ec aa)) (hs : starEach [a] X.env = [(false, eval a X.env)] := by rfl) : PI X tg (.Call (.Name "range" p) [a] [] pos) (cI false Ec (iRange1 aa)) := by
  refine (pi_range1 hg hm ha hs).sub fun σ H R ⟨Φ, E, xp, s, Qa, r, x, q, k⟩ => ⟨Φ, E, xp, s, _, r, x, q, fun os E1 s1 vs H1 l1 r1 k1 p1 q1 => ?_⟩
  obtain ⟨ds, e, q1⟩ := rv_get q1
  have ra := vals_rp p1 e
  split at q1
  · next j =>
    obtain ⟨v, t, rfl, rfl, rfl⟩ := ra
    obtain ⟨h1, h2, q1⟩ := q1
    exact ⟨j, rfl, h1, h2, k _ E1 s1 _ H1 [] l1 r1 k1 (jo_range rfl _ _) (fun x hx => by cases hx) q1⟩
  · exact q1.elim
theorem ai_range2 {tg a b : Expr} {aa : AA} {p pos : Pos} (hg : Gl X "range") (hm : X.mg "range" = none) (ha : PA X [a, b] (cA Ec aa)) (hs : starEach [a, b] X.env = [(false, eval a X.env), (false, eval b X.env)] := by rfl) (hs2 : starEach [b] X.env = [(false, eval b X.env)] := by rfl) : PI X tg (.Call (.Name "range" p) [a, b] [] pos) (cI false Ec (iRange2 aa)) := by
  refine (pi_range2 hg hm ha hs hs2).sub fun σ H R ⟨Φ, E, xp, s, Qa, r, x, q, k⟩ => ⟨Φ, E, xp, s, _, r, x, q, fun os E1 s1 vs H1 l1 r1 k1 p1 q1 => ?_⟩
  obtain ⟨ds, e, q1⟩ := rv_get q1
  have ra := vals_rp p1 e
  split at q1
  · next i j =>
    obtain ⟨v, t, rfl, rfl, v2, t2, rfl, rfl, rfl⟩ := ra
    obtain ⟨h1, q1⟩ := q1
    exact ⟨i, j, rfl, h1, k _ E1 s1 _ H1 [] l1 r1 k1 (jo_range rfl _ _) (fun x hx => by cases hx) q1⟩
  · exact q1.elim
/-! ### comprehensions as values and in assignments -/
theorem af_lc {w : Bool} (j : Nat) {elt tg iter : Expr} {ifs : List Expr} {scope : Scope} {own : List (Str × Nat)} {pos : Pos} {ai : AI} {sl : List Nat} {b : AB} {t : AT} {a : AE} (hc : X.calm = true) (hN : X.N.Nodup) (hi : PI X tg iter (cI w Ec ai)) (ok : BlkOk X.N X.env.scope scope own)
    (hg : ∀ (s : Shared) (H : Hp) (C : Addr) (cl : List (Str × Addr)) (fp : List Addr), PG (X.blk s H scope (compEnvC scope cl C X.env) fp) tg (cG w sl b)) (ht : ∀ (s : Shared) (H : Hp) (C : Addr) (cl : List (Str × Addr)) (fp : List Addr), PTs (X.blk s H scope (compEnvC scope cl C X.env) fp) ifs (cT Ec.z t))
    (he : ∀ (s : Shared) (H : Hp) (C : Addr) (cl : List (Str × Addr)) (fp : List Addr), PE (X.blk s H scope (compEnvC scope cl C X.env) fp) elt (cE Ec.z a)) (hsl : ∀ i ∈ sl, i ∈ own.map (·.2) := by decide) (hs : ∀ x, foldedSetIterable iter X.env x = pure x := by intro _; rfl) :
    PE X (.ListComp elt [⟨tg, iter, ifs, 0⟩] scope pos) (cF j Ec (aLc ai b t a (own.map (·.2)))) := (pe_lc hc hN hi ok hg ht he hs).sub fun _ _ _ h => lc_ok hsl h
theorem ts_nil : PTs X [] (cT Ec tYesA) := ⟨fun pins s σ H Q I h => pts_nil.run pins s σ H Q I (yes_ok h)⟩
theorem ts_one {c : Expr} {t : AT} (h : PT X c (cT Ec t)) : PTs X [c] (cT Ec t) := pts_one h
theorem cF_E {i : Nat} {a : AE} {σ : L2.St} {H : Hp} {Q : VK} (h : cE Ec a σ H Q) : cF i Ec a σ H Q := by
  obtain ⟨Φ, E, xp, s, Qa, r0, x0, q, k⟩ := h
  exact ⟨Φ, E, xp, s, Qa, r0, x0, q, fun ds E1 s1 p xs H1 l r1 _ kb ep ra nb q1 => k (.list ds) E1 s1 _ H1 l r1 kb ⟨p, xs, rfl, ep, nb, ra.wk fun _ h => ban_add h⟩ q1⟩
end
end TR
namespace TR
open PySem PySem.Spec PyProof.Rows L2
/-! ### defs: their parameters, their promise -/
inductive Md where
  | dat | bor | deck
  deriving DecidableEq
abbrev AF := List PyData → Nat → (PyData → Nat → Prop) → (XD → Nat → Prop) → Prop
def mkA : Md → PyData → AV
  | .dat, d => .dat d
  | .bor, d => .bor d
  | .deck, _ => .deck
def mkAs : List Md → List PyData → List (Option AV)
  | m :: ms, d :: ds => some (mkA m d) :: mkAs ms ds
  | _, _ => []
def startA (ms : List Md) (k : Nat) (ds : List PyData) (n : Nat) : AS := ⟨mkAs ms ds ++ List.replicate k none, n⟩
inductive ArgsRel (Φ : Fx) (H : Hp) : List Md → List PyData → List V → Prop
  | nil : ArgsRel Φ H [] [] []
  | cons {m : Md} {ms : List Md} {d : PyData} {ds : List PyData} {v : V} {vs : List V} (h : RelS Φ ⟨Φ.dk0, []⟩ H 0 (mkA m d) v) (t : ArgsRel Φ H ms ds vs) : ArgsRel Φ H (m :: ms) (d :: ds) (v :: vs)
structure Pre (Φ : Fx) (H : Hp) (n : Nat) (T : List (Addr × Str) := []) : Prop where
  h0 : Φ.H0 = H
  tt : Φ.tt = T
  tk : Φ.tt = [] ∨ ∃ d p q, Φ.dk0 = some (d, p, (q, Φ.tt))
  t : Φ.T = []
  z : Φ.Z = []
  ex : Φ.ex = none
  cs : Φ.cs = []
  alive : ∀ b ∈ Φ.B, (∃ o, H b = some o) ∧ b ∉ dkl Φ.dk0
  dk : ∀ d p q, Φ.dk0 = some (d, p, q) → DeckT H d p q n
structure XRet (Φ : Fx) (x : XD) (n : Nat) (da : Option Addr) (H : Hp) : Prop where
  fr : ∀ b o, Φ.H0 b = some o → b ∉ dkl Φ.dk0 → H b = some o
  dk : ∀ d p q, Φ.dk0 = some (d, p, q) → DeckT H d p q n
  rp : XRep H (dkl Φ.dk0 ++ Φ.B) x da
def spAT (T : List (Addr × Str)) (ms : List Md) (F : AF) : Sp := fun vs H Q Ec => ∃ Φ ds n Qa xa, Pre Φ H n T ∧ ArgsRel Φ H ms ds vs ∧ F ds n Qa xa ∧ (∀ r m v H', RetOk Φ r m v H' → Qa r m → Q v H') ∧ ∀ x m da H', XRet Φ x m da H' → xa x m → Ec (.ref x.cls) da H'
abbrev spA (ms : List Md) (F : AF) : Sp := spAT [] ms F
theorem ArgsRel.len {Φ : Fx} {H : Hp} : ∀ {ms : List Md} {ds : List PyData} {vs : List V}, ArgsRel Φ H ms ds vs → vs.length = ms.length ∧ (mkAs ms ds).length = ms.length
  | _, _, _, .nil => ⟨rfl, rfl⟩
  | _, _, _, .cons h t => by
    obtain ⟨h1, h2⟩ := t.len
    exact ⟨by simp [h1], by simp [mkAs, h2]⟩
theorem RelS.any {Φ : Fx} {t : Option (Addr × Addr × DQ)} {H : Hp} {i j : Nat} {m : Md} {d : PyData} {v : V} (h : RelS Φ ⟨t, []⟩ H i (mkA m d) v) : RelS Φ ⟨t, []⟩ H j (mkA m d) v := by
  cases m <;> exact h
theorem ArgsRel.val {Φ : Fx} {H : Hp} : ∀ {ms : List Md} {ds : List PyData} {vs : List V}, ArgsRel Φ H ms ds vs → ∀ {i : Nat} {x : AV}, (mkAs ms ds)[i]? = some (some x) → ∃ v, vs[i]? = some v ∧ RelS Φ ⟨Φ.dk0, []⟩ H i x v
  | _, _, _, .nil, i, x, h => by simp [mkAs] at h
  | _, _, _, .cons h t, i, x, e => by
    cases i with
    | zero =>
      simp [mkAs] at e
      subst e
      exact ⟨_, rfl, h⟩
    | succ i =>
      simp only [mkAs, List.getElem?_cons_succ] at e
      obtain ⟨v, h1, h2⟩ := t.val e
      refine ⟨v, h1, ?_⟩
      cases x with
      | dat _ => exact h2
      | bor _ => exact h2
      | deck => exact h2
      | own _ => obtain ⟨a, xs, _, m, _⟩ := h2; cases m
      | dct _ => obtain ⟨a, xs, _, m, _⟩ := h2; cases m
      | dcn _ => obtain ⟨a, xs, _, m, _⟩ := h2; cases m
      | dcl _ => obtain ⟨a, xs, _, m, _⟩ := h2; cases m
      | lck _ _ => exact h2
      | exc _ => exact h2
theorem start_rel {T : List (Addr × Str)} {Φ : Fx} {H : Hp} {n : Nat} {N : List Str} {ms : List Md} {ds : List PyData} {vs : List V} {k : Nat} (p : Pre Φ H n T) (a : ArgsRel Φ H ms ds vs) (hk : ms.length + k = N.length) : Rel Φ ⟨Φ.dk0, []⟩ (startA ms k ds n) (L2.start N vs) H := by
  obtain ⟨l1, l2⟩ := a.len
  have hl : (mkAs ms ds ++ List.replicate k none).length = (L2.start N vs).length := by
    simp [L2.start, l1, l2]; omega
  refine ⟨hl, fun i x h => ?_, fun d q r e => ⟨p.dk d q r e, fun b hb => ⟨fun z => (p.alive b z).2 hb, .inl hb⟩⟩, fun i b h => (nomatch h), fun i j b h => (nomatch h), fun b o h _ => p.h0 ▸ h, fun t e => e, fun b hb => p.h0 ▸ p.alive b hb, fun x hx => (by rw [p.t] at hx; cases hx), fun x hx => (by rw [p.z] at hx; cases hx), (by rw [p.z]; exact List.nodup_nil), p.tk⟩
  have h2 : (mkAs ms ds ++ List.replicate k none)[i]? = some (some x) := h
  by_cases hi : i < (mkAs ms ds).length
  · rw [List.getElem?_append_left hi] at h2
    obtain ⟨v, h3, h4⟩ := a.val h2
    refine ⟨v, ?_, h4⟩
    unfold L2.start
    rw [List.getElem?_append_left (by rw [List.length_map, l1, ← l2]; exact hi), List.getElem?_map, h3]
    rfl
  · rw [List.getElem?_append_right (by omega)] at h2
    obtain ⟨hlt, e⟩ := List.getElem?_eq_some_iff.mp h2
    rw [List.getElem_replicate] at e
    cases e
section
variable {P : Program} {w : World} {K : PySem.W.Frag} {mg : Str → Option Value} {base : Heap}
def fnF (ms : List Md) (k : Nat) (b : AST) : AF := fun ds n Qa xa => b (fun x s => xa x s.n) { nx := fun s => Qa .none s.n, rt := Qa } (startA ms k ds n)
theorem fn_body {T : List (Addr × Str)} {ms : List Md} {k : Nat} {N : List Str} {b : AST} {vs : List V} {H : Hp} {Q : VK} {Ec : XK} (hk : ms.length + k = N.length) (h : spAT T ms (fnF ms k b) vs H Q Ec) : cS (eT T Ec) b { nx := fun _ H' => Q .non H', rt := Q } (L2.start N vs) H := by
  obtain ⟨Φ, ds, n, Qa, xa, p, a, f, hq, hx⟩ := h
  have bn : ∀ {E : OE} {s : AS} {σ : L2.St} {G : Hp}, Rel Φ E s σ G → ∀ b ∈ dkl Φ.dk0 ++ Φ.B, b ∈ ban Φ E := fun r b hb => by
    rcases List.mem_append.mp hb with z | z
    · cases e : Φ.dk0 with
      | none => rw [e] at z; cases z
      | some t =>
        refine List.mem_append_left _ (List.mem_append_left _ ?_)
        rw [r.dk0 t e, ← e]; exact z
    · exact List.mem_append_right _ (List.mem_append_right _ z)
  refine ⟨Φ, ⟨Φ.dk0, []⟩, _, _, _, start_rel p a hk, ⟨⟨p.ex, p.cs, p.tt⟩, fun x E s σ G da r xr q => ?_⟩, f, fun E s σ G r q => hq _ _ _ G (r.ret (d := .none) rfl) q, fun _ _ _ _ _ q => q.elim, fun _ _ _ _ _ q => q.elim, fun r m v G ro q => hq r m v G ro q⟩
  exact hx x s.n da G ⟨r.fr, fun d p q e => (r.dk d p q (r.dk0 _ e)).1, xr.wk (bn r)⟩ q
theorem fn_ok {T : List (Addr × Str)} {ms : List Md} {nk k : Nat} {N ps : List Str} {b : AST} {x qual : Str} {st : Stmt} {f : Addr} {fd : FuncData} (F : Fun K x qual st f fd) (S : FnScope N ps (defScope st)) (hk : ms.length + nk = N.length) (hp : ms.length = ps.length)
    (hbody : ∀ (cdv : Value) (A : Around) (outer : List Env) (s : Shared) (H : Hp) (E : XK), Room k (A.deeper (envOfC qual (defScope st) s.heap.objs.size f cdv)) → PSs (cxOf CX0 P w K mg base N qual (defScope st) f cdv A outer s H E).nox (defBody st) (cS (eT T E) b)) : FnOk P w K mg base CX0 (k + 1) f fd ps (spAT T ms (fnF ms nk b)) := by
  refine F.ok S (fun vs H Q E h => ?_) fun cdv A outer s H vs Q E hr h => ⟨_, hbody cdv A outer s H E hr, fn_body hk h⟩
  obtain ⟨Φ, ds, n, Qa, xa, _, a, _⟩ := h
  rw [a.len.1, hp]
theorem fn_never {T : List (Addr × Str)} {ms : List Md} {f : Addr} {fd : FuncData} {ps : List Str} {CX : CXT} {k : Nat} : FnOk P w K mg base CX k f fd ps (spAT T ms fun _ _ _ _ => False) := ⟨fun vs H Q E ⟨_, _, _, _, _, _, _, h, _⟩ => h.elim, fun _ _ _ _ _ _ _ _ _ _ _ _ _ ⟨_, _, _, _, _, _, _, h, _⟩ => h.elim⟩
end
/-- where it does not raise -/
def calm (F : AF) : AF := fun ds n Qa _ => F ds n Qa fun _ _ => False
/-! ### calls -/
def resM : List Md → AS → List Op → Option (List PyData)
  | [], _, [] => some []
  | .dat :: ms, s, .val d :: os => (resM ms s os).map (d :: ·)
  | .bor :: ms, s, o :: os => match res s o with
    | some d => (resM ms s os).map (d :: ·)
    | none => none
  | .deck :: ms, s, .deck :: os => (resM ms s os).map (PyData.none :: ·)
  | _, _, _ => none
def rm : List Md → AS → List Op → (List PyData → Prop) → Prop
  | [], _, [], k => k []
  | .dat :: ms, s, .val d :: os, k => rm ms s os fun ds => k (d :: ds)
  | .bor :: ms, s, o :: os, k => rs s o fun d => rm ms s os fun ds => k (d :: ds)
  | .deck :: ms, s, .deck :: os, k => rm ms s os fun ds => k (PyData.none :: ds)
  | _, _, _, _ => False
theorem rm_get : ∀ {ms : List Md} {s : AS} {os : List Op} {k : List PyData → Prop}, rm ms s os k → ∃ ds, resM ms s os = some ds ∧ k ds
  | [], _, [], k, h => ⟨[], rfl, h⟩
  | .dat :: ms, s, .val d :: os, k, h => by
    obtain ⟨ds, e, q⟩ := rm_get (ms := ms) (s := s) (os := os) (k := fun ds => k (d :: ds)) h
    exact ⟨d :: ds, by unfold resM; rw [e]; rfl, q⟩
  | .bor :: ms, s, o :: os, k, h => by
    obtain ⟨d, e1, h⟩ := rs_get (show rs s o (fun d => rm ms s os fun ds => k (d :: ds)) from h)
    obtain ⟨ds, e, q⟩ := rm_get h
    exact ⟨d :: ds, by unfold resM; rw [e1, e]; rfl, q⟩
  | .deck :: ms, s, .deck :: os, k, h => by
    obtain ⟨ds, e, q⟩ := rm_get (ms := ms) (s := s) (os := os) (k := fun ds => k (PyData.none :: ds)) h
    exact ⟨PyData.none :: ds, by unfold resM; rw [e]; rfl, q⟩
  | [], _, _ :: _, _, h => h.elim
  | .dat :: _, _, [], _, h => h.elim
  | .dat :: _, _, .slot _ :: _, _, h => h.elim
  | .dat :: _, _, .deck :: _, _, h => h.elim
  | .bor :: _, _, [], _, h => h.elim
  | .deck :: _, _, [], _, h => h.elim
  | .deck :: _, _, .val _ :: _, _, h => h.elim
  | .deck :: _, _, .slot _ :: _, _, h => h.elim
def aCall (ms : List Md) (F : AF) (aa : AA) : AE := fun xp s Q => aa xp s fun os s1 => rm ms s1 os fun ds => F ds s1.n (fun r n => Q r { s1 with n := n }) (fun x n => xp x { s1 with n := n })
def aCall0 (ms : List Md) (F : AF) (aa : AA) : AE := fun xp s Q => aa xp s fun os s1 => rm ms s1 os fun ds => F ds 0 (fun r _ => Q r s1) (fun x _ => xp x s1)
section
variable {Φ : Fx} {E : OE} {s : AS} {σ : L2.St} {H : Hp}
theorem Rel.after {H' : Hp} {m : Nat} (r : Rel Φ E s σ H) (h : ∀ b o, H b = some o → b ∉ dkl E.dk → H' b = some o) (hd : ∀ d p q, E.dk = some (d, p, q) → DeckT H' d p q m) : Rel Φ E { s with n := m } σ H' := by
  have kb : KB E H H' := fun b o e n => h b o e fun z => n (List.mem_append_left _ z)
  refine ⟨r.len, fun i x e => ?_, fun d p q e => ⟨hd d p q e, (r.dk d p q e).2⟩, fun i a m => ?_, r.inj, fun b o h1 h2 => h _ _ (r.fr b o h1 h2) fun z => ?_, r.dk0, r.alive, fun x hx => (r.held x hx).kb r.lst kb, fun x hx => ?_, r.znd, r.tt⟩
  · obtain ⟨v, h1, h2⟩ := r.val i x e
    refine ⟨v, h1, ?_⟩
    cases x with
    | dat d => exact Rp.kb (show Rp H (ban Φ E) d v from h2) r.lst kb
    | own ds =>
      obtain ⟨a, xs, e1, m1, h3, h4⟩ := h2
      exact ⟨a, xs, e1, m1, h _ _ h3 (r.own i a m1).2.2.1, h4.kb r.lst kb⟩
    | dct kvs =>
      obtain ⟨a, ks, e1, m1, h3, h4⟩ := h2
      exact ⟨a, ks, e1, m1, h _ _ h3 (r.own i a m1).2.2.1, h4.kb r.lst kb⟩
    | dcn kvs =>
      obtain ⟨a, ks, e1, m1, h3, h4⟩ := h2
      exact ⟨a, ks, e1, m1, h _ _ h3 (r.own i a m1).2.2.1, h4.kb r.lst kb⟩
    | dcl kvs =>
      obtain ⟨a, ks, e1, m1, h3, hn, h4⟩ := h2
      exact ⟨a, ks, e1, m1, h _ _ h3 (r.own i a m1).2.2.1, hn, h4.mono (fun _ _ h => h.kb r.lst kb) fun b _ m2 h5 => ⟨m2, h _ _ h5 (r.own i b m2).2.2.1⟩⟩
    | lck t kvs =>
      obtain ⟨a, e1, h3, h5, h4⟩ := h2
      exact ⟨a, e1, h3, h5, h4.mono (fun _ _ h => h.kb r.lst kb) fun _ _ h => kb _ _ h fun z => h3 (List.mem_append_left _ z)⟩
    | bor d =>
      rcases h2 with h2 | ⟨a, ds, xs, e1, e2, h3, h5, h6⟩
      · exact .inl (h2.kb r.lst kb)
      · refine .inr ⟨a, ds, xs, e1, e2, h _ _ h3 fun z => ?_, h5, h6.kb r.lst kb⟩
        cases e : E.dk with
        | none => rw [e] at z; cases z
        | some t => obtain ⟨d, p, q⟩ := t; exact ((r.dk d p q e).2 a z).1 h5
    | deck => exact h2
    | exc x =>
      obtain ⟨b, da, e1, e2, h3, h4⟩ := h2
      exact ⟨b, da, e1, e2, h3.kb r.lst kb, h4⟩
  · obtain ⟨⟨xs, h1, mu⟩, h2⟩ := r.own i a m
    exact ⟨⟨xs, h _ _ h1 h2.2.1, mu⟩, h2⟩
  · cases e : E.dk with
    | none => rw [e] at z; cases z
    | some t =>
      obtain ⟨d, p, q⟩ := t
      rcases ((r.dk d p q e).2 b z).2 with y | y
      · exact h2 y
      · rw [y] at h1; cases h1
  · obtain ⟨z1, z2⟩ := r.zz x hx
    exact ⟨h _ _ z1 fun z => z2.1 (List.mem_append_left _ z), z2⟩
/-- the callee's surroundings -/
def Fx.inner (Φ : Fx) (E : OE) (H : Hp) (T : List (Addr × Str) := []) : Fx := ⟨E.R.map (·.2) ++ (Φ.Z.map (·.1) ++ Φ.B), E.dk, H, [], [], none, [], T⟩
def Fx.inner0 (Φ : Fx) (E : OE) (H : Hp) : Fx := ⟨ban Φ E, none, H, [], [], none, [], []⟩
theorem inner_ban {T : List (Addr × Str)} : ban (Φ.inner E H T) ⟨(Φ.inner E H T).dk0, []⟩ = ban Φ E := by
  show (dkl E.dk ++ []) ++ ([] ++ (E.R.map (·.2) ++ (Φ.Z.map (·.1) ++ Φ.B))) = (dkl E.dk ++ E.R.map (·.2)) ++ (Φ.Z.map (·.1) ++ Φ.B)
  rw [List.append_nil, List.nil_append, List.append_assoc]
theorem inner0_ban : ban (Φ.inner0 E H) ⟨(Φ.inner0 E H).dk0, []⟩ = ban Φ E := by
  show ([] ++ []) ++ ([] ++ ban Φ E) = ban Φ E
  rfl
theorem Rel.pre {T : List (Addr × Str)} (r : Rel Φ E s σ H) (hT : T = [] ∨ Φ.tt = T) : Pre (Φ.inner E H T) H s.n T := by
  refine ⟨rfl, rfl, hT.elim .inl fun e => e ▸ r.tt, rfl, rfl, rfl, rfl, fun b hb => ?_, fun d p q e => (r.dk d p q e).1⟩
  rcases List.mem_append.mp hb with z | z
  · obtain ⟨⟨i, a⟩, hx, rfl⟩ := List.mem_map.mp z
    obtain ⟨⟨xs, h1, _⟩, h2⟩ := r.own i a hx
    exact ⟨⟨_, h1⟩, h2.2.1⟩
  · rcases List.mem_append.mp z with z | z
    · obtain ⟨x, hx, rfl⟩ := List.mem_map.mp z
      obtain ⟨z1, z2, _⟩ := r.zz x hx
      exact ⟨⟨_, z1⟩, fun y => z2 (List.mem_append_left _ y)⟩
    · refine ⟨r.alive' z, fun y => ?_⟩
      have y2 : b ∈ dkl E.dk := y
      cases e : E.dk with
      | none => rw [e] at y2; cases y2
      | some t => obtain ⟨d, p, q⟩ := t; exact ((r.dk d p q e).2 b y2).1 z
theorem Rel.pre0 (r : Rel Φ E s σ H) : Pre (Φ.inner0 E H) H 0 := by
  refine ⟨rfl, rfl, .inl rfl, rfl, rfl, rfl, rfl, fun b hb => ⟨?_, fun z => (nomatch z)⟩, fun d p q e => (nomatch e)⟩
  have hb2 : b ∈ ban Φ E := hb
  cases e : H b with
  | some o => exact ⟨o, rfl⟩
  | none => exact absurd hb2 (r.newban e)
theorem args_rel (r : Rel Φ E s σ H) {Φ' : Fx} (hb : ban Φ' ⟨Φ'.dk0, []⟩ = ban Φ E) (hB : ∀ a ∈ Φ.B, a ∈ Φ'.B) (hR : ∀ i a, (i, a) ∈ E.R → a ∈ Φ'.B) : ∀ {ms : List Md} {os : List Op} {vs : List V} {ds : List PyData}, (Md.deck ∈ ms → Φ'.dk0 = E.dk) → Paired (RpO Φ E σ H) os vs → resM ms s os = some ds → ArgsRel Φ' H ms ds vs
  | [], _, _, _, _, .nil, e => by cases e; exact .nil
  | [], _, _, _, _, .cons _ _, e => by cases e
  | .dat :: ms, .val d :: os, _, _, hd, .cons h t, e => by
    unfold resM at e
    cases e2 : resM ms s os with
    | none => rw [e2] at e; cases e
    | some ds =>
      rw [e2] at e; cases e
      refine .cons ?_ (args_rel r hb hB hR (fun m => hd (List.mem_cons_of_mem _ m)) t e2)
      show Rp H (ban Φ' ⟨Φ'.dk0, []⟩) d _
      rw [hb]; exact h
  | .bor :: ms, o :: os, v0 :: _, _, hd, .cons h t, e => by
    unfold resM at e
    cases e3 : res s o with
    | none => rw [e3] at e; cases e
    | some d =>
      rw [e3] at e
      cases e2 : resM ms s os with
      | none => rw [e2] at e; cases e
      | some ds =>
        rw [e2] at e; cases e
        refine .cons ?_ (args_rel r hb hB hR (fun m => hd (List.mem_cons_of_mem _ m)) t e2)
        show Rp H (ban Φ' ⟨Φ'.dk0, []⟩) d v0 ∨ ∃ a ds xs, d = .list ds ∧ v0 = .ref a ∧ H a = some (.lst xs) ∧ a ∈ Φ'.B ∧ RpAll H (ban Φ' ⟨Φ'.dk0, []⟩) ds xs
        rw [hb]
        cases o with
        | val d' => cases e3; exact .inl h
        | deck => cases e3
        | slot i =>
          simp only [TR.res] at e3
          split at e3
          · next x hx =>
            cases e3
            obtain ⟨v', h1, h2⟩ := r.val i _ hx
            rw [show σ[i]? = some (some _) from h] at h1; cases h1
            exact .inl h2
          · next ds' hx =>
            cases e3
            obtain ⟨v', h1, h2⟩ := r.val i _ hx
            rw [show σ[i]? = some (some _) from h] at h1; cases h1
            obtain ⟨a, xs, e1, m, h3, h4⟩ := h2
            exact .inr ⟨a, ds', xs, rfl, e1, h3, hR i a m, h4⟩
          · next x hx =>
            cases e3
            obtain ⟨v', h1, h2⟩ := r.val i _ hx
            rw [show σ[i]? = some (some _) from h] at h1; cases h1
            rcases h2 with h2 | ⟨a, ds', xs, e, e2, g1, g3, g4⟩
            · exact .inl h2
            · exact .inr ⟨a, ds', xs, e, e2, g1, hB _ g3, g4⟩
          · cases e3
  | .deck :: ms, .deck :: os, _, _, hd, .cons h t, e => by
    unfold resM at e
    cases e2 : resM ms s os with
    | none => rw [e2] at e; cases e
    | some ds =>
      rw [e2] at e; cases e
      refine .cons ?_ (args_rel r hb hB hR (fun m => hd (List.mem_cons_of_mem _ m)) t e2)
      obtain ⟨d, p, q, e1, e3⟩ := h
      exact ⟨d, p, q, (hd List.mem_cons_self).trans e1, e3⟩
  | .dat :: ms, .slot _ :: os, _, _, _, _, e => by cases e
  | .dat :: ms, .deck :: os, _, _, _, _, e => by cases e
  | .deck :: ms, .slot _ :: os, _, _, _, _, e => by cases e
  | .deck :: ms, .val _ :: os, _, _, _, _, e => by cases e
  | .dat :: ms, [], _, _, _, _, e => by cases e
  | .bor :: ms, [], _, _, _, _, e => by cases e
  | .deck :: ms, [], _, _, _, _, e => by cases e
end
theorem call_ok {T : List (Addr × Str)} {Ec : EC} {ms : List Md} {F : AF} {aa : AA} {σ : L2.St} {H : Hp} {Q : VK} (h : cE Ec (aCall ms F aa) σ H Q) (hT : T = [] ∨ Ec.tt = T) : cA Ec aa σ H fun vs H1 => spAT T ms F vs H1 Q (Ec.x σ) := by
  obtain ⟨Φ, E, xp, s, Qa, r, x, q, k⟩ := h
  refine ⟨Φ, E, xp, s, _, r, x, q, fun os E1 s1 vs H1 l1 r1 k1 p1 q1 => ?_⟩
  obtain ⟨ds, e, q1⟩ := rm_get q1
  have fr : ∀ {G : Hp}, (∀ b o, H1 b = some o → b ∉ dkl E1.dk → G b = some o) → KB E1 H1 G := fun h b o e n => h b o e fun z => n (List.mem_append_left _ z)
  have bq : ∀ a ∈ ban Φ E1, a ∈ dkl (Φ.inner E1 H1 T).dk0 ++ (Φ.inner E1 H1 T).B := fun a ha => by
    have ha2 : a ∈ (dkl E1.dk ++ E1.R.map (·.2)) ++ (Φ.Z.map (·.1) ++ Φ.B) := ha
    rw [List.append_assoc] at ha2
    exact ha2
  refine ⟨Φ.inner E1 H1 T, ds, s1.n, _, _, r1.pre (hT.imp_right fun e => x.1.2.2.trans e), args_rel r1 inner_ban (fun a ha => List.mem_append_right _ (List.mem_append_right _ ha)) (fun i a m => List.mem_append_left _ (List.mem_map.mpr ⟨_, m, rfl⟩)) (fun _ => rfl) p1 e, q1, fun y m v G ro qy => ?_, fun y m da G ro qy => ?_⟩
  · exact k y E1 _ v G l1 (r1.after ro.fr ro.dk) (k1.trans l1 (fr ro.fr)) (Rp.wk bq ro.rp) qy
  · exact x.2 y E1 _ σ G da (r1.after ro.fr ro.dk) (ro.rp.wk bq) qy
theorem call0_ok {Ec : EC} {ms : List Md} {F : AF} {aa : AA} {σ : L2.St} {H : Hp} {Q : VK} (hm : Md.deck ∉ ms) (h : cE Ec (aCall0 ms F aa) σ H Q) : cA Ec aa σ H fun vs H1 => spA ms F vs H1 Q (Ec.x σ) := by
  obtain ⟨Φ, E, xp, s, Qa, r, x, q, k⟩ := h
  refine ⟨Φ, E, xp, s, _, r, x, q, fun os E1 s1 vs H1 l1 r1 k1 p1 q1 => ?_⟩
  obtain ⟨ds, e, q1⟩ := rm_get q1
  have sm : ∀ {G : Hp}, (∀ b o, H1 b = some o → b ∉ dkl none → G b = some o) → Same H1 G := fun h b o e => h b o e fun z => (nomatch z)
  refine ⟨Φ.inner0 E1 H1, ds, 0, _, _, r1.pre0, args_rel r1 inner0_ban (fun a ha => List.mem_append_right _ (List.mem_append_right _ ha)) (fun i a m => List.mem_append_left _ (List.mem_append_right _ (List.mem_map.mpr ⟨_, m, rfl⟩))) (fun z => absurd z hm) p1 e, q1, fun y m v G ro qy => ?_, fun y m da G ro qy => ?_⟩
  · exact k y E1 _ v G l1 (r1.same (sm ro.fr)) (k1.trans l1 (.of_same (sm ro.fr))) (Rp.wk (fun a ha => ha) ro.rp) qy
  · exact x.2 y E1 _ σ G da (r1.same (sm ro.fr)) (ro.rp.wk fun a ha => ha) qy
section
variable {X : Cx} {k : Nat} {f : Addr} {fd : FuncData} {ps : List Str} {ms : List Md} {F : AF} {x : Str} {p pos : Pos} {e : Expr} {es : List Expr} {aa : AA}
/-- a def that raises nothing: with the deck, without -/
theorem ae_call {Ec : EC} {T : List (Addr × Str)} (G : FnOk X.prog X.w X.K X.mg X.base CX0 k f fd ps (spAT T ms F)) (hr : Room k X.A) (hg : Gl X x) (hm : X.mg x = some (.ref f)) (hk : PySem.W.keepIn X.K (.ref f) = true) (hb : Binds X.K fd ps []) (ha : PA X (e :: es) (cA Ec aa)) (hdb : (x == ("__debug__" : Str)) = false := by decide) (he : starEach (e :: es) X.env = (false, eval e X.env) :: starEach es X.env := by rfl) (hpl : (backTo pos (starEach es X.env)).any (·.1) = false := by rfl) (hT : T = [] ∨ Ec.tt = T := by first | exact .inl rfl | exact .inr rfl) :
    PE X (.Call (.Name x p) (e :: es) [] pos) (cE Ec (aCall ms (calm F) aa)) := by
  refine (pe_call (dvs := []) (ds := []) G hr hg hm hk hb .nil pass0 ha hdb he hpl).sub fun σ H Q h => ?_
  have key := call_ok h hT
  obtain ⟨Φ, E, xp, s, Qa, r, x, q, k⟩ := key
  refine ⟨Φ, E, xp, s, Qa, r, x, q, fun os E1 s1 vs H1 l1 r1 k1 p1 q1 => ?_⟩
  obtain ⟨Φ', ds, n, Qb, xa, h1, h2, h3, h4, h5⟩ := k os E1 s1 vs H1 l1 r1 k1 p1 q1
  rw [List.append_nil]
  exact ⟨Φ', ds, n, Qb, _, h1, h2, h3, h4, fun _ _ _ _ _ z => z⟩
theorem ae_call0 {Ec : EC} (G : FnOk X.prog X.w X.K X.mg X.base CX0 k f fd ps (spA ms F)) (hd : Md.deck ∉ ms) (hr : Room k X.A) (hg : Gl X x) (hm : X.mg x = some (.ref f)) (hk : PySem.W.keepIn X.K (.ref f) = true) (hb : Binds X.K fd ps []) (ha : PA X (e :: es) (cA Ec aa)) (hdb : (x == ("__debug__" : Str)) = false := by decide) (he : starEach (e :: es) X.env = (false, eval e X.env) :: starEach es X.env := by rfl) (hpl : (backTo pos (starEach es X.env)).any (·.1) = false := by rfl) :
    PE X (.Call (.Name x p) (e :: es) [] pos) (cE Ec (aCall0 ms (calm F) aa)) := by
  refine (pe_call (dvs := []) (ds := []) G hr hg hm hk hb .nil pass0 ha hdb he hpl).sub fun σ H Q h => ?_
  have key := call0_ok hd h
  obtain ⟨Φ, E, xp, s, Qa, r, x, q, k⟩ := key
  refine ⟨Φ, E, xp, s, Qa, r, x, q, fun os E1 s1 vs H1 l1 r1 k1 p1 q1 => ?_⟩
  obtain ⟨Φ', ds, n, Qb, xa, h1, h2, h3, h4, h5⟩ := k os E1 s1 vs H1 l1 r1 k1 p1 q1
  rw [List.append_nil]
  exact ⟨Φ', ds, n, Qb, _, h1, h2, h3, h4, fun _ _ _ _ _ z => z⟩
end
end TR
namespace TR
open PySem PySem.Spec PyProof.Rows L2
/-! ### what a value is, by its data -/
section
variable {H : Hp} {bn : List Addr} {v : V}
theorem RpX.int {i : Int} (h : RpX H bn (.int i) v) : v = .int i := by
  rcases h with h | ⟨_, _, _, e, _⟩
  · exact h
  · cases e
theorem RpX.bool {b : Bool} (h : RpX H bn (.bool b) v) : v = .bl b := by
  rcases h with h | ⟨_, _, _, e, _⟩
  · exact h
  · cases e
theorem RpX.str {x : Str} (h : RpX H bn (.str x) v) : v = .str x := by
  rcases h with h | ⟨_, _, _, e, _⟩
  · exact h
  · cases e
theorem RpX.non (h : RpX H bn .none v) : v = .non := by
  rcases h with h | ⟨_, _, _, e, _⟩
  · exact h
  · cases e
theorem RpX.tup {ds : List PyData} (h : RpX H bn (.tuple ds) v) : ∃ a xs, v = .ref a ∧ TF H a xs ∧ RpAll H bn ds xs := by
  rcases h with h | ⟨_, _, _, e, _⟩
  · exact h
  · cases e
theorem RpX.lst {ds : List PyData} (h : RpX H bn (.list ds) v) : ∃ a xs, v = .ref a ∧ H a = some (.lst xs) ∧ RpAll H bn ds xs := by
  rcases h with ⟨a, xs, e, h1, _, h2⟩ | ⟨a, ds', xs, e, e2, h1, h2⟩
  · exact ⟨a, xs, e, h1, h2⟩
  · cases e; exact ⟨a, xs, e2, h1, h2⟩
theorem rp_newL {H' : Hp} {ds : List PyData} {xs : List V} {p : Addr} (nb : NB H bn) (hp : H p = none) (m : Same H H') (e : H' p = some (.lst xs)) (ra : RpAll H bn ds xs) : Rp H' bn (.list ds) (.ref p) := ⟨p, xs, rfl, e, nb p hp, ra.same m⟩
end
section
variable {X : Cx} {pins : List (Addr × Obj)} {σ : L2.St} {H : Hp} {s : Shared}
mutual
theorem Rp.rds {ban : List Addr} (I : Inv X pins σ H s) : ∀ (d : PyData) (v : V) (u : Value), Rp H ban d v → RelV v u → ∃ as, Reads s.heap u d as
  | .none, _, _, h, r => by cases (show _ = V.non from h); cases r; exact ⟨_, .none⟩
  | .bool b, _, _, h, r => by cases (show _ = V.bl b from h); cases r; exact ⟨_, .bool b⟩
  | .int i, _, _, h, r => by cases (show _ = V.int i from h); obtain ⟨t, rfl⟩ := r; exact ⟨_, .int i t⟩
  | .str x, _, _, h, r => by cases (show _ = V.str x from h); obtain ⟨t, rfl⟩ := r; exact ⟨_, .str x t⟩
  | .list ds, _, _, h, r => by
    obtain ⟨a, xs, rfl, h1, _, h3⟩ := h
    cases r
    obtain ⟨z, its, n, rv, e⟩ := (show ObjOk X.prog X.w H s.heap a (.lst xs) from I.hok a _ h1)
    obtain ⟨as, g⟩ := RpAll.rds I ds xs its h3 rv
    exact ⟨a :: as, .list e rfl rfl (by simpa using g)⟩
  | .tuple ds, _, _, h, r => by
    obtain ⟨a, xs, rfl, h1, h3⟩ := h
    cases r
    obtain ⟨z, its, rv, o, e, c, n, hd⟩ := h1.rd.ok I.hok
    obtain ⟨as, g⟩ := RpAll.rds I ds xs its h3 rv
    exact ⟨as, .tuple e c hd (by simpa using g)⟩
  | .dict kvs, _, _, h, r => by
    obtain ⟨rfl, a, rfl, h1, _⟩ := h
    cases r
    obtain ⟨z, hs, vs, kv, o, es, ep, e, ex, hd, _, ps, _⟩ := dk_of I.hok h1
    cases kv
    have hes : es = #[] := by
      cases es with
      | mk l =>
        cases (show Pairs _ l [] from ps)
        rfl
    subst hes
    exact ⟨[a], .dict (as := []) (bs := []) e ex.1 hd .nil .nil⟩
theorem RpAll.rds {ban : List Addr} (I : Inv X pins σ H s) : ∀ (ds : List PyData) (xs : List V) (us : List Value), RpAll H ban ds xs → Vals xs us → ∃ as, ReadsAll s.heap us ds as
  | [], _, _, h, r => by cases (show _ = [] from h); cases r; exact ⟨_, .nil⟩
  | d :: ds, _, _, h, r => by
    obtain ⟨v, t, rfl, h1, h2⟩ := h
    cases r with
    | cons r1 r2 =>
      obtain ⟨as, q1⟩ := Rp.rds I d _ _ h1 r1
      obtain ⟨bs, q2⟩ := RpAll.rds I ds _ _ h2 r2
      exact ⟨as ++ bs, .cons q1 q2⟩
end
theorem RpX.rds {ban : List Addr} (I : Inv X pins σ H s) {d : PyData} {v : V} {u : Value} (h : RpX H ban d v) (r : RelV v u) : ∃ as, Reads s.heap u d as := by
  rcases h with h | ⟨a, ds, xs, rfl, rfl, h1, h3⟩
  · exact Rp.rds I d v u h r
  · cases r
    obtain ⟨z, its, n, rv, e⟩ := (show ObjOk X.prog X.w H s.heap a (.lst xs) from I.hok a _ h1)
    obtain ⟨as, g⟩ := RpAll.rds I ds xs its h3 rv
    exact ⟨a :: as, .list e rfl rfl (by simpa using g)⟩
end
/-! ### arithmetic and + -/
def b2n (b : Bool) : Int := if b = true then 1 else 0
def vAdd : PyData → PyData → (PyData → Prop) → Prop
  | .int a, .int b, Q => Q (.int (a + b))
  | .bool a, .int b, Q => Q (.int (b2n a + b))
  | .int a, .bool b, Q => Q (.int (a + b2i b))
  | .tuple xs, .tuple ys, Q => xs.length + ys.length ≤ sizeLine ∧ Q (.tuple (xs ++ ys))
  | .list xs, .list ys, Q => xs.length + ys.length ≤ sizeLine ∧ Q (.list (xs ++ ys))
  | .str a, .str b, Q => a.length + b.length ≤ sizeLine ∧ Q (.str (a ++ b))
  | _, _, _ => False
section
variable {X : Cx}
def rAddA : R2 := fun x y H Q => (rI0 fun i j => .int (i + j)) x y H Q ∨ (∃ k i, x = .bl k ∧ y = .int i ∧ Q (.int (b2n k + i)) H) ∨ (∃ i k, x = .int i ∧ y = .bl k ∧ Q (.int (i + b2i k)) H) ∨
  (∃ a b xs ys, x = .ref a ∧ y = .ref b ∧ TF H a xs ∧ TF H b ys ∧ xs.length + ys.length ≤ sizeLine ∧ ∀ p H', Same H H' → TF H' p (xs ++ ys) → Q (.ref p) H') ∨
  (∃ a b xs ys, x = .ref a ∧ y = .ref b ∧ H a = some (.lst xs) ∧ H b = some (.lst ys) ∧ xs.length + ys.length ≤ sizeLine ∧ ∀ p H', H p = none → Same H H' → H' p = some (.lst (xs ++ ys)) → Q (.ref p) H') ∨
  ∃ i j, x = .str i ∧ y = .str j ∧ i.length + j.length ≤ sizeLine ∧ Q (.str (i ++ j)) H
theorem op_addA : OpR X (binaryOp .Add) rAddA := op_add.or (op_add_bi.or (op_add_ib.or (op_catTN.or (op_catN.or op_add_str))))
theorem dop_add : DOp rAddA vAdd := by
  intro bn H d1 d2 v1 v2 Q Qc nb p1 p2 q k
  unfold vAdd at q
  split at q
  · rw [p1.int, p2.int]; exact .inl ⟨_, _, rfl, rfl, k (.int _) _ H (.refl _) rfl q⟩
  · rw [p1.bool, p2.int]; exact .inr (.inl ⟨_, _, rfl, rfl, k (.int _) _ H (.refl _) rfl q⟩)
  · rw [p1.int, p2.bool]; exact .inr (.inr (.inl ⟨_, _, rfl, rfl, k (.int _) _ H (.refl _) rfl q⟩))
  · obtain ⟨a, xs, rfl, t1, r1⟩ := p1.tup
    obtain ⟨b, ys, rfl, t2, r2⟩ := p2.tup
    exact .inr (.inr (.inr (.inl ⟨a, b, xs, ys, rfl, rfl, t1, t2, by rw [r1.len, r2.len]; exact q.1, fun p H' m tf => k (.tuple _) _ H' m ⟨p, _, rfl, tf, (r1.app r2).same m⟩ q.2⟩)))
  · obtain ⟨a, xs, rfl, t1, r1⟩ := p1.lst
    obtain ⟨b, ys, rfl, t2, r2⟩ := p2.lst
    exact .inr (.inr (.inr (.inr (.inl ⟨a, b, xs, ys, rfl, rfl, t1, t2, by rw [r1.len, r2.len]; exact q.1, fun p H' hp m e => k _ _ H' m (rp_newL nb hp m e (r1.app r2)) q.2⟩))))
  · rw [p1.str, p2.str]; exact .inr (.inr (.inr (.inr (.inr ⟨_, _, rfl, rfl, q.1, k (.str _) _ H (.refl _) rfl q.2⟩))))
  · exact q.elim
def vSub : PyData → PyData → (PyData → Prop) → Prop
  | .int a, .int b, Q => Q (.int (a - b))
  | .bool a, .int b, Q => Q (.int (b2n a - b))
  | _, _, _ => False
def rSubA : R2 := fun x y H Q => (rI0 fun i j => .int (i - j)) x y H Q ∨ (∃ k i, x = .bl k ∧ y = .int i ∧ Q (.int (b2n k - i)) H)
theorem op_subA : OpR X (binaryOp .Sub) rSubA := op_sub.or op_sub_bi
theorem dop_sub : DOp rSubA vSub := by
  intro bn H d1 d2 v1 v2 Q Qc nb p1 p2 q k
  unfold vSub at q
  split at q
  · rw [p1.int, p2.int]; exact .inl ⟨_, _, rfl, rfl, k (.int _) _ H (.refl _) rfl q⟩
  · rw [p1.bool, p2.int]; exact .inr ⟨_, _, rfl, rfl, k (.int _) _ H (.refl _) rfl q⟩
  · exact q.elim
/-- a pair of ints -/
def vII (C : Int → Int → Prop) (g : Int → Int → PyData) : PyData → PyData → (PyData → Prop) → Prop
  | .int a, .int b, Q => C a b ∧ Q (g a b)
  | _, _, _ => False
theorem dop_ii {C : Int → Int → Prop} {g : Int → Int → Int} : DOp (rI C fun i j => .int (g i j)) (vII C fun i j => .int (g i j)) := by
  intro bn H d1 d2 v1 v2 Q Qc nb p1 p2 q k
  unfold vII at q
  split at q
  · rw [p1.int, p2.int]; exact ⟨_, _, rfl, rfl, q.1, k (.int _) _ H (.refl _) rfl q.2⟩
  · exact q.elim
def vMod := vII (fun _ j => 0 < j) fun i j => .int (i % j)
def vDiv := vII CDivW fun i j => .int (i / j)
def vPow := vII CPow fun i j => .int (i ^ j.toNat)
theorem dop_pow : DOp (rI CPow fun i j => .int (i ^ j.toNat)) vPow := dop_ii
def vMul : PyData → PyData → (PyData → Prop) → Prop
  | .int a, .int b, Q => CMul a b ∧ Q (.int (a * b))
  | _, _, _ => False
theorem dop_mul : DOp (rI CMul fun i j => .int (i * j)) vMul := by
  intro bn H d1 d2 v1 v2 Q Qc nb p1 p2 q k
  unfold vMul at q
  split at q
  · rw [p1.int, p2.int]; exact ⟨_, _, rfl, rfl, q.1, k (.int _) _ H (.refl _) rfl q.2⟩
  · exact q.elim
/-! ### comparisons -/
/-- == of data of any kind -/
def vEq (d1 d2 : PyData) (Q : PyData → Prop) : Prop := SeqAt.shaped d1 = true ∧ SeqAt.shaped d2 = true ∧ Q (.bool (PyData.eqv d1 d2))
def vNe (d1 d2 : PyData) (Q : PyData → Prop) : Prop := SeqAt.shaped d1 = true ∧ SeqAt.shaped d2 = true ∧ Q (.bool (!PyData.eqv d1 d2))
def rCmpA (C : PyData → PyData → Prop) (g : PyData → PyData → Bool) : R2 := fun x y H Q => ∃ d e bn, RpX H bn d x ∧ RpX H bn e y ∧ C d e ∧ Q (.bl (g d e)) H
theorem op_eqA (hu : X.A.units + 64 < cLine) : OpR X (compareOp .Eq) (rCmpA (fun d e => SeqAt.shaped d = true ∧ SeqAt.shaped e = true) PyData.eqv) := by
  intro pins s σ H x y v u Q I rx ry ⟨d, e, bn, hd, he, ⟨sd, se⟩, q⟩
  obtain ⟨as, r1⟩ := hd.rds I rx
  obtain ⟨bs, r2⟩ := he.rds I ry
  exact SeqAt.compareEq_shaped r1 r2 sd se hu ⟨.bl _, H, I, rfl, q⟩
theorem op_neA (hu : X.A.units + 64 < cLine) : OpR X (compareOp .NotEq) (rCmpA (fun d e => SeqAt.shaped d = true ∧ SeqAt.shaped e = true) fun d e => !PyData.eqv d e) := by
  intro pins s σ H x y v u Q I rx ry ⟨d, e, bn, hd, he, ⟨sd, se⟩, q⟩
  obtain ⟨as, r1⟩ := hd.rds I rx
  obtain ⟨bs, r2⟩ := he.rds I ry
  exact SeqAt.compareNe_shaped r1 r2 sd se hu ⟨.bl _, H, I, rfl, q⟩
theorem dop_cmp {C : PyData → PyData → Prop} {g : PyData → PyData → Bool} {f : PyData → PyData → (PyData → Prop) → Prop} (hf : ∀ d e Q, f d e Q → C d e ∧ Q (.bool (g d e))) : DOp (rCmpA C g) f := by
  intro bn H d1 d2 v1 v2 Q Qc nb p1 p2 q k
  obtain ⟨c, q⟩ := hf _ _ _ q
  exact ⟨d1, d2, bn, p1, p2, c, k (.bool _) _ H (.refl _) rfl q⟩
theorem dop_eq : DOp (rCmpA (fun d e => SeqAt.shaped d = true ∧ SeqAt.shaped e = true) PyData.eqv) vEq := dop_cmp fun _ _ _ h => ⟨⟨h.1, h.2.1⟩, h.2.2⟩
theorem dop_ne : DOp (rCmpA (fun d e => SeqAt.shaped d = true ∧ SeqAt.shaped e = true) fun d e => !PyData.eqv d e) vNe := dop_cmp fun _ _ _ h => ⟨⟨h.1, h.2.1⟩, h.2.2⟩
/-- <, <=, >, >=: ints, and data that are alike -/
def AlkC (d e : PyData) : Prop := PySem.W.alike d e = true ∧ d ≠ .none ∧ d.depth ≤ 60
def vLt : PyData → PyData → (PyData → Prop) → Prop
  | .int a, .int b, Q => Q (.bool (decide (a < b)))
  | d, e, Q => AlkC d e ∧ Q (.bool (PySem.W.dataLt d e))
def vLe : PyData → PyData → (PyData → Prop) → Prop
  | .int a, .int b, Q => Q (.bool (decide (a ≤ b)))
  | d, e, Q => AlkC d e ∧ Q (.bool (!PySem.W.dataLt e d))
def vGt : PyData → PyData → (PyData → Prop) → Prop
  | .int a, .int b, Q => Q (.bool (decide (b < a)))
  | d, e, Q => AlkC d e ∧ Q (.bool (PySem.W.dataLt e d))
def vGe : PyData → PyData → (PyData → Prop) → Prop
  | .int a, .int b, Q => Q (.bool (decide (b ≤ a)))
  | d, e, Q => AlkC d e ∧ Q (.bool (!PySem.W.dataLt d e))
theorem alk_units {d e : PyData} (h : AlkC d e) (hu : X.A.units + 64 < cLine) : X.A.units + min d.depth e.depth < cLine := by
  have := h.2.2
  omega
theorem op_ltA (hu : X.A.units + 64 < cLine) : OpR X (compareOp .Lt) (fun x y H Q => (rI0 fun i j => .bl (decide (i < j))) x y H Q ∨ rCmpA AlkC PySem.W.dataLt x y H Q) := op_lt.or fun pins s σ H x y v u Q I rx ry ⟨d, e, bn, hd, he, c, q⟩ => by
  obtain ⟨as, r1⟩ := hd.rds I rx
  obtain ⟨bs, r2⟩ := he.rds I ry
  exact PySem.W.rcLt_alike d e X.A s v u as bs r1 r2 c.1 c.2.1 (alk_units c hu) _ _ _ _ ⟨.bl _, H, I, rfl, q⟩
theorem op_leA (hu : X.A.units + 64 < cLine) : OpR X (compareOp .LtE) (fun x y H Q => (rI0 fun i j => .bl (decide (i ≤ j))) x y H Q ∨ rCmpA AlkC (fun d e => !PySem.W.dataLt e d) x y H Q) := op_le.or fun pins s σ H x y v u Q I rx ry ⟨d, e, bn, hd, he, c, q⟩ => by
  obtain ⟨as, r1⟩ := hd.rds I rx
  obtain ⟨bs, r2⟩ := he.rds I ry
  exact PySem.W.rcLe_alike d e X.A s v u as bs r1 r2 c.1 c.2.1 (alk_units c hu) _ _ _ _ ⟨.bl _, H, I, rfl, q⟩
theorem op_gtA (hu : X.A.units + 64 < cLine) : OpR X (compareOp .Gt) (fun x y H Q => (rI0 fun i j => .bl (decide (j < i))) x y H Q ∨ rCmpA AlkC (fun d e => PySem.W.dataLt e d) x y H Q) := op_gt.or fun pins s σ H x y v u Q I rx ry ⟨d, e, bn, hd, he, c, q⟩ => by
  obtain ⟨as, r1⟩ := hd.rds I rx
  obtain ⟨bs, r2⟩ := he.rds I ry
  exact PySem.W.rcGt_alike d e X.A s v u as bs r1 r2 c.1 c.2.1 (alk_units c hu) _ _ _ _ ⟨.bl _, H, I, rfl, q⟩
theorem dop_ord {g : Int → Int → Bool} {h : PyData → PyData → Bool} {f : PyData → PyData → (PyData → Prop) → Prop} (hf : ∀ d e Q, f d e Q → (∃ i j, d = .int i ∧ e = .int j ∧ Q (.bool (g i j))) ∨ (AlkC d e ∧ Q (.bool (h d e)))) : DOp (fun x y H Q => (rI0 fun i j => .bl (g i j)) x y H Q ∨ rCmpA AlkC h x y H Q) f := by
  intro bn H d1 d2 v1 v2 Q Qc nb p1 p2 q k
  rcases hf _ _ _ q with ⟨i, j, rfl, rfl, z⟩ | ⟨c, z⟩
  · rw [p1.int, p2.int]; exact .inl ⟨_, _, rfl, rfl, k (.bool _) _ H (.refl _) rfl z⟩
  · exact .inr ⟨d1, d2, bn, p1, p2, c, k (.bool _) _ H (.refl _) rfl z⟩
theorem dop_lt : DOp (fun x y H Q => (rI0 fun i j => .bl (decide (i < j))) x y H Q ∨ rCmpA AlkC PySem.W.dataLt x y H Q) vLt := dop_ord (g := fun i j => decide (i < j)) fun d e Q q => by
  unfold vLt at q
  split at q
  · exact .inl ⟨_, _, rfl, rfl, q⟩
  · exact .inr q
theorem dop_le : DOp (fun x y H Q => (rI0 fun i j => .bl (decide (i ≤ j))) x y H Q ∨ rCmpA AlkC (fun d e => !PySem.W.dataLt e d) x y H Q) vLe := dop_ord (g := fun i j => decide (i ≤ j)) fun d e Q q => by
  unfold vLe at q
  split at q
  · exact .inl ⟨_, _, rfl, rfl, q⟩
  · exact .inr q
theorem dop_gt : DOp (fun x y H Q => (rI0 fun i j => .bl (decide (j < i))) x y H Q ∨ rCmpA AlkC (fun d e => PySem.W.dataLt e d) x y H Q) vGt := dop_ord (g := fun i j => decide (j < i)) fun d e Q q => by
  unfold vGt at q
  split at q
  · exact .inl ⟨_, _, rfl, rfl, q⟩
  · exact .inr q
/-- is, is not: with None, of bools -/
def isNon : PyData → Bool
  | .none => true
  | _ => false
def isD : PyData → PyData → Option Bool
  | d, .none => some (isNon d)
  | .bool a, .bool b => some (a == b)
  | .none, .bool _ => some false
  | _, _ => none
def vIs (d e : PyData) (Q : PyData → Prop) : Prop := match isD d e with
  | some b => Q (.bool b)
  | none => False
theorem is_bool {M : Model} {A : Around} {E : Value → Shared → Prop} {Q : Value → Shared → Prop} {s : Shared} {a b : Bool} (h : Q (.bool (a == b)) s) : wpAny M A (compareOp .Is (.bool a) (.bool b)) Q E s := by
  cases a <;> cases b <;> exact wpAny_pure h
def rIsA (n : Bool) : R2 := fun x y H Q => (y = .non ∧ Q (.bl (if n = true then !decide (x = .non) else decide (x = .non))) H) ∨ (∃ a b, x = .bl a ∧ y = .bl b ∧ Q (.bl (if n = true then !(a == b) else (a == b))) H) ∨ (x = .non ∧ ∃ b, y = .bl b ∧ Q (.bl n) H)
theorem op_isA : OpR X (compareOp .Is) (rIsA false) := by
  intro pins s σ H x y v u Q I rx ry h
  rcases h with ⟨e, q⟩ | ⟨a, b, e1, e2, q⟩ | ⟨e1, b, e2, q⟩
  · exact op_isN pins s σ H x y v u Q I rx ry ⟨e, q⟩
  · subst e1 e2; cases rx; cases ry
    exact is_bool ⟨.bl _, H, I, rfl, q⟩
  · subst e1 e2; cases rx; cases ry
    cases b <;> exact wpAny_pure ⟨.bl _, H, I, rfl, q⟩
theorem non_of {H : Hp} {bn : List Addr} {d : PyData} {v : V} (h : RpX H bn d v) : decide (v = .non) = isNon d := by
  cases d with
  | none => rw [h.non]; rfl
  | bool _ => rw [h.bool]; rfl
  | int _ => rw [h.int]; rfl
  | str _ => rw [h.str]; rfl
  | list _ => obtain ⟨a, _, e, _⟩ := h.lst; rw [e]; rfl
  | tuple _ => obtain ⟨a, _, e, _⟩ := h.tup; rw [e]; rfl
  | dict _ =>
    rcases h with ⟨_, a, e, _⟩ | ⟨_, _, _, e, _⟩
    · rw [e]; rfl
    · cases e
theorem dop_isA {n : Bool} {f : PyData → PyData → (PyData → Prop) → Prop} (hf : ∀ d e Q, f d e Q → ∃ b, isD d e = some b ∧ Q (.bool (if n = true then !b else b))) : DOp (rIsA n) f := by
  intro bn H d1 d2 v1 v2 Q Qc nb p1 p2 q k
  obtain ⟨b, e, z⟩ := hf _ _ _ q
  unfold isD at e
  split at e
  · next d1 =>
    cases e
    rw [p2.non]
    refine .inl ⟨rfl, ?_⟩
    rw [non_of p1]
    exact k (.bool _) _ H (.refl _) rfl z
  · cases e
    rw [p1.bool, p2.bool]
    exact .inr (.inl ⟨_, _, rfl, rfl, k (.bool _) _ H (.refl _) rfl z⟩)
  · cases e
    rw [p1.non, p2.bool]
    refine .inr (.inr ⟨rfl, _, rfl, k (.bool _) _ H (.refl _) rfl ?_⟩)
    cases n <;> exact z
  · cases e
theorem dop_is : DOp (rIsA false) vIs := dop_isA fun d e Q q => by
  unfold vIs at q
  split at q
  · next b h => exact ⟨b, h, q⟩
  · exact q.elim
/-- in, not in: a list or a tuple of data -/
def InC (d e : PyData) : Prop := SeqAt.shaped d = true ∧ SeqAt.shaped e = true ∧ (match e with | .list _ => True | .tuple _ => True | _ => False)
def inD (d e : PyData) : Bool := (items e).any fun y => PyData.eqv y d
def vIn : PyData → PyData → (PyData → Prop) → Prop
  | d, .list es, Q => SeqAt.shaped d = true ∧ SeqAt.shaped (.list es) = true ∧ Q (.bool (es.any fun y => PyData.eqv y d))
  | d, .tuple es, Q => SeqAt.shaped d = true ∧ SeqAt.shaped (.tuple es) = true ∧ Q (.bool (es.any fun y => PyData.eqv y d))
  | _, _, _ => False
def vNotIn : PyData → PyData → (PyData → Prop) → Prop
  | d, .list es, Q => SeqAt.shaped d = true ∧ SeqAt.shaped (.list es) = true ∧ Q (.bool (!es.any fun y => PyData.eqv y d))
  | d, .tuple es, Q => SeqAt.shaped d = true ∧ SeqAt.shaped (.tuple es) = true ∧ Q (.bool (!es.any fun y => PyData.eqv y d))
  | _, _, _ => False
theorem in_room {d : PyData} {es : List PyData} (sd : SeqAt.shaped d = true) (hu : X.A.units + 65 < cLine) : X.A.units + 1 + min (PyData.depthAll es) d.depth < cLine := by
  have h : (d.canLay0 && decide (d.depth ≤ 64)) = true := sd
  rw [Bool.and_eq_true] at h
  have := of_decide_eq_true h.2
  omega
theorem lay_of {d : PyData} (sd : SeqAt.shaped d = true) : d.canLay0 = true := by
  have h : (d.canLay0 && decide (d.depth ≤ 64)) = true := sd
  rw [Bool.and_eq_true] at h
  exact h.1
theorem op_inA (hu : X.A.units + 65 < cLine) : OpR X (compareOp .In) (rCmpA InC inD) := by
  intro pins s σ H x y v u Q I rx ry ⟨d, e, bn, hd, he, ⟨sd, se, c⟩, q⟩
  obtain ⟨as, r1⟩ := hd.rds I rx
  obtain ⟨bs, r2⟩ := he.rds I ry
  cases e with
  | list es => exact SeqAt.in_list_reads r2 r1 (lay_of se) (lay_of sd) (in_room sd hu) ⟨.bl _, H, I, rfl, q⟩
  | tuple es => exact SeqAt.in_tuple_reads r2 r1 (lay_of se) (lay_of sd) (in_room sd hu) ⟨.bl _, H, I, rfl, q⟩
  | none => exact c.elim
  | bool _ => exact c.elim
  | int _ => exact c.elim
  | str _ => exact c.elim
  | dict _ => exact c.elim
theorem op_notInA (hu : X.A.units + 65 < cLine) : OpR X (compareOp .NotIn) (rCmpA InC fun d e => !inD d e) := by
  intro pins s σ H x y v u Q I rx ry ⟨d, e, bn, hd, he, ⟨sd, se, c⟩, q⟩
  obtain ⟨as, r1⟩ := hd.rds I rx
  obtain ⟨bs, r2⟩ := he.rds I ry
  cases e with
  | list es => exact SeqAt.notIn_list_reads r2 r1 (lay_of se) (lay_of sd) (in_room sd hu) ⟨.bl _, H, I, rfl, q⟩
  | tuple es => exact SeqAt.notIn_tuple_reads r2 r1 (lay_of se) (lay_of sd) (in_room sd hu) ⟨.bl _, H, I, rfl, q⟩
  | none => exact c.elim
  | bool _ => exact c.elim
  | int _ => exact c.elim
  | str _ => exact c.elim
  | dict _ => exact c.elim
theorem dop_in : DOp (rCmpA InC inD) vIn := dop_cmp fun d e Q q => by
  unfold vIn at q
  split at q
  · exact ⟨⟨q.1, q.2.1, trivial⟩, q.2.2⟩
  · exact ⟨⟨q.1, q.2.1, trivial⟩, q.2.2⟩
  · exact q.elim
theorem dop_notIn : DOp (rCmpA InC fun d e => !inD d e) vNotIn := dop_cmp fun d e Q q => by
  unfold vNotIn at q
  split at q
  · exact ⟨⟨q.1, q.2.1, trivial⟩, q.2.2⟩
  · exact ⟨⟨q.1, q.2.1, trivial⟩, q.2.2⟩
  · exact q.elim
/-! ### x[i], x[lo:hi], x[::-1] -/
def vIx : PyData → PyData → (PyData → Prop) → Prop
  | .list ds, .int i, Q => match atI ds i with
    | some d => Q d
    | none => False
  | .tuple ds, .int i, Q => match atI ds i with
    | some d => Q d
    | none => False
  | .str z, .int i, Q => z.length ≤ sizeLine ∧ match atI z.cps.toList i with
    | some c => Q (.str ⟨#[c]⟩)
    | none => False
  | _, _, _ => False
theorem RpAll.ati {H : Hp} {bn : List Addr} {ds : List PyData} {xs : List V} (h : RpAll H bn ds xs) {i : Int} {d : PyData} (e : atI ds i = some d) : ∃ x, atI xs i = some x ∧ Rp H bn d x := by
  unfold atI at e ⊢
  rw [h.len]
  cases e2 : ixN ds.length i with
  | none => rw [e2] at e; cases e
  | some j =>
    rw [e2] at e
    obtain ⟨x, h1, h2⟩ := h.at (show ds[j]? = some d from e)
    exact ⟨x, h1, h2⟩
theorem dop_ix {K : PySem.W.Frag} : DOp (rIx K) vIx := by
  intro bn H d1 d2 v1 v2 Q Qc nb p1 p2 q k
  unfold vIx at q
  split at q
  · obtain ⟨a, xs, rfl, t1, r1⟩ := p1.lst
    rw [p2.int]
    split at q
    · next d e =>
      obtain ⟨x, e1, p⟩ := r1.ati e
      exact .inl ⟨a, xs, _, x, rfl, rfl, sqL t1, e1, k d x H (.refl _) p q⟩
    · exact q.elim
  · obtain ⟨a, xs, rfl, t1, r1⟩ := p1.tup
    rw [p2.int]
    split at q
    · next d e =>
      obtain ⟨x, e1, p⟩ := r1.ati e
      exact .inr (.inl ⟨a, xs, _, x, rfl, rfl, .inl t1.rd, e1, k d x H (.refl _) p q⟩)
    · exact q.elim
  · rw [p1.str, p2.int]
    obtain ⟨hz, q⟩ := q
    split at q
    · next c e => exact .inr (.inr ⟨_, _, c, rfl, rfl, hz, e, k (.str _) _ H (.refl _) rfl q⟩)
    · exact q.elim
  · exact q.elim
theorem ae_ix {Ec : EC} {a b : Expr} {aa ab : AO} {pos : Pos} (ha : PE X a (cO Ec aa)) (hb : PE X b (cO Ec ab)) (hs : PlainIx b) : PE X (.Subscript a b pos) (cE Ec (a2 vIx aa ab)) := (pe_ix ix_seq ha hb hs).sub fun _ _ _ => a2_ok dop_ix
/-- slices -/
abbrev APt := XP → AS → (Option Int → AS → Prop) → Prop
def cPt (Ec : EC) (a : APt) : TO := fun σ H Q => ∃ Φ E xp s Qa, Rel Φ E s σ H ∧ XSim Φ xp Ec ∧ a xp s Qa ∧ ∀ o E' s' H', Le E' E → Rel Φ E' s' σ H' → KB E H H' → Qa o s' → Q o H'
theorem _root_.L2.PO.sub {e : Option Expr} {t t' : TO} (h : PO X e t) (g : ∀ σ H Q, t' σ H Q → t σ H Q) : PO X e t' := ⟨fun pins s σ H Q I q => h.run pins s σ H Q I (g σ H Q q)⟩
def ptNone : APt := fun _ s Q => Q none s
def ptSome (a : AE) : APt := fun xp s Q => a xp s fun d s1 => match d with
  | .int i => Q (some i) s1
  | _ => False
theorem pt_none {Ec : EC} : PO X none (cPt Ec ptNone) := po_none.sub fun σ H Q ⟨Φ, E, xp, s, Qa, r, x, q, k⟩ => k none E s H (.refl _) r (.refl _ _) q
theorem pt_some {Ec : EC} {e : Expr} {a : AE} (h : PE X e (cE Ec a)) : PO X (some e) (cPt Ec (ptSome a)) := by
  refine (po_some h).sub fun σ H Q ⟨Φ, E, xp, s, Qa, r, x, q, k⟩ => ⟨Φ, E, xp, s, _, r, x, q, fun d E' s' v H' l r' kb p q' => ?_⟩
  split at q'
  · next i =>
    obtain rfl : v = .int i := p
    exact ⟨i, rfl, k _ E' s' H' l r' kb q'⟩
  · exact q'.elim
def cutD (xs : List PyData) (lo hi : Option Int) : List PyData := (xs.drop (HT.sIx xs.length 0 lo)).take (HT.sIx xs.length xs.length hi - HT.sIx xs.length 0 lo)
theorem RpAll.cut {H : Hp} {bn : List Addr} {ds : List PyData} {xs : List V} (h : RpAll H bn ds xs) (lo hi : Option Int) : RpAll H bn (cutD ds lo hi) (cutV xs lo hi) := by
  unfold cutD cutV
  rw [h.len]
  exact (h.drop _).take _
def vSl (d : PyData) (lo hi : Option Int) (Q : PyData → Prop) : Prop := match d with
  | .tuple ds => Q (.tuple (cutD ds lo hi))
  | .list ds => Q (.list (cutD ds lo hi))
  | _ => False
def aSl (ao : AO) (lo hi : APt) : AE := fun xp s Q => ao xp s fun o s1 => lo xp s1 fun l s2 => hi xp s2 fun h s3 => rs s3 o fun d => vSl d l h fun r => Q r s3
def rSlA (K : PySem.W.Frag) : V → Option Int → Option Int → Hp → VK → Prop := fun x lo hi H Q => (∃ a xs, x = .ref a ∧ TF H a xs ∧ ∀ p H', Same H H' → TF H' p (cutV xs lo hi) → Q (.ref p) H') ∨ rSlL K x lo hi H Q
theorem ae_sl {Ec : EC} {e : Expr} {lo hi : Option Expr} {ao : AO} {al ah : APt} {p2 pos : Pos} (he : PE X e (cO Ec ao)) (hl : PO X lo (cPt Ec al)) (hh : PO X hi (cPt Ec ah)) : PE X (.Subscript e (.Slice lo hi none p2) pos) (cE Ec (aSl ao al ah)) := by
  refine (pe_slice (r := rSlA X.K) (sl_tupN.or sl_list) he hl hh).sub fun σ H Q ⟨Φ, E, xp, s, Qa, r, x, q, k⟩ => ⟨Φ, E, xp, s, _, r, x, q, fun o E1 s1 v H1 l1 r1 k1 p1 q1 => ⟨Φ, E1, xp, s1, _, r1, x, q1, fun lo E2 s2 H2 l2 r2 k2 q2 => ⟨Φ, E2, xp, s2, _, r2, x, q2, fun hi E3 s3 H3 l3 r3 k3 q3 => ?_⟩⟩⟩
  obtain ⟨d, e, q3⟩ := rs_get q3
  have p3 := r3.res ((p1.kb r1.lst k2 l2).kb r2.lst k3 l3) e
  have kk : KB E H H3 := (k1.trans l1 k2).trans (l2.trans l1) k3
  have ll := l3.trans (l2.trans l1)
  unfold vSl at q3
  split at q3
  · obtain ⟨a, xs, rfl, t, ra⟩ := p3.tup
    exact .inl ⟨a, xs, rfl, t, fun p H' m tf => k (.tuple _) E3 s3 _ H' ll (r3.same m) (kk.trans (Le.refl _) (KB.of_same m)) ⟨p, _, rfl, tf, (ra.cut _ _).same m⟩ q3⟩
  · obtain ⟨a, xs, rfl, t, ra⟩ := p3.lst
    refine .inr ⟨a, xs, rfl, sqL t, fun p hp => ?_⟩
    have m : Same H3 (upd H3 p (.lst (cutV xs lo hi))) := same_upd hp
    exact k (.list _) E3 s3 _ _ ll (r3.same m) (kk.trans (Le.refl _) (KB.of_same m)) (rp_newL r3.nb hp m upd_same (ra.cut _ _)) q3
  · exact q3.elim
/-- x[::-1] -/
def vRev : PyData → (PyData → Prop) → Prop
  | .tuple ds, Q => Q (.tuple ds.reverse)
  | _, _ => False
def aRev (ao : AO) : AE := fun xp s Q => ao xp s fun o s1 => rs s1 o fun d => vRev d fun r => Q r s1
end
end TR
namespace TR
open PySem PySem.Spec PyProof.Rows L2
def rsA (s : AS) : List Op → Option (List PyData)
  | [] => some []
  | o :: os => match res s o with
    | some d => (rsA s os).map (d :: ·)
    | none => none
def rsl (s : AS) : List Op → (List PyData → Prop) → Prop
  | [], k => k []
  | o :: os, k => rs s o fun d => rsl s os fun ds => k (d :: ds)
theorem rsl_get {s : AS} : ∀ {os : List Op} {k : List PyData → Prop}, rsl s os k → ∃ ds, rsA s os = some ds ∧ k ds
  | [], k, h => ⟨[], rfl, h⟩
  | o :: os, k, h => by
    obtain ⟨d, e1, h⟩ := rs_get (show rs s o (fun d => rsl s os fun ds => k (d :: ds)) from h)
    obtain ⟨ds, e, q⟩ := rsl_get h
    exact ⟨d :: ds, by unfold rsA; rw [e1, e]; rfl, q⟩
theorem rsA_rp {Φ : Fx} {E : OE} {s : AS} {σ : L2.St} {H : Hp} (r : Rel Φ E s σ H) : ∀ {os : List Op} {vs : List V} {ds : List PyData}, Paired (RpO Φ E σ H) os vs → rsA s os = some ds → Paired (RpX H (ban Φ E)) ds vs
  | [], _, _, .nil, e => by cases e; exact .nil
  | o :: os, _, _, .cons h t, e => by
    unfold rsA at e
    cases e1 : res s o with
    | none => rw [e1] at e; cases e
    | some d =>
      rw [e1] at e
      cases e2 : rsA s os with
      | none => rw [e2] at e; cases e
      | some ds =>
        rw [e2] at e; cases e
        exact .cons (r.res h e1) (rsA_rp r t e2)
def DCall (r : List V → Hp → VK → Prop) (f : List PyData → (PyData → Prop) → Prop) : Prop := ∀ (bn : List Addr) (H : Hp) (ds : List PyData) (vs : List V) (Q : PyData → Prop) (Qc : VK), NB H bn → Paired (RpX H bn) ds vs → f ds Q → (∀ d v H', Same H H' → Rp H' bn d v → Q d → Qc v H') → r vs H Qc
def aBlt (f : List PyData → (PyData → Prop) → Prop) (aa : AA) : AE := fun xp s Q => aa xp s fun os s1 => rsl s1 os fun ds => f ds fun d => Q d s1
section
variable {X : Cx} {Ec : EC}
theorem ae_blt {r : List V → Hp → VK → Prop} {f : List PyData → (PyData → Prop) → Prop} {aa : AA} {e : Expr} (hd : DCall r f) (h : PE X e (tCB r (cA Ec aa))) : PE X e (cE Ec (aBlt f aa)) := by
  refine h.sub fun σ H Q ⟨Φ, E, xp, s, Qa, r0, x, q, k⟩ => ⟨Φ, E, xp, s, _, r0, x, q, fun os E1 s1 vs H1 l1 r1 k1 p1 q1 => ?_⟩
  obtain ⟨ds, e, q1⟩ := rsl_get q1
  exact hd (ban Φ E1) H1 ds vs _ Q r1.nb (rsA_rp r1 p1 e) q1 fun d v H2 m rp q2 => k d E1 s1 v H2 l1 (r1.same m) (k1.trans l1 (KB.of_same m)) rp q2
/-- a new list -/
def DCallF (r : List V → Hp → VK → Prop) (f : List PyData → (PyData → Prop) → Prop) : Prop := ∀ (bn : List Addr) (H : Hp) (ds : List PyData) (vs : List V) (Q : PyData → Prop) (Qc : VK), NB H bn → Paired (RpX H bn) ds vs → f ds Q → (∀ es xs p H', H p = none → Same H H' → H' p = some (.lst xs) → RpAll H bn es xs → Q (.list es) → Qc (.ref p) H') → r vs H Qc
theorem af_blt (i : Nat) {r : List V → Hp → VK → Prop} {f : List PyData → (PyData → Prop) → Prop} {aa : AA} {e : Expr} (hd : DCallF r f) (h : PE X e (tCB r (cA Ec aa))) : PE X e (cF i Ec (aBlt f aa)) := by
  refine h.sub fun σ H Q ⟨Φ, E, xp, s, Qa, r0, x, q, k⟩ => ⟨Φ, E, xp, s, _, r0, x, q, fun os E1 s1 vs H1 l1 r1 k1 p1 q1 => ?_⟩
  obtain ⟨ds, e, q1⟩ := rsl_get q1
  refine hd (ban Φ E1) H1 ds vs _ Q r1.nb (rsA_rp r1 p1 e) q1 fun es xs p H2 hp m ep ra q2 => k es E1 s1 p xs H2 l1 (r1.same m) (r1.add i hp m ep) (k1.trans l1 (KB.of_same m)) ep (RpAll.same (RpAll.fresh (fun a ha => ?_) ra) m) (r1.newban hp) q2
  rcases mem_ban_add ha with h | h
  · rw [h]; exact .inr hp
  · exact .inl h
/-! ### len, tuple, list, sum, all -/
def fLen : List PyData → (PyData → Prop) → Prop
  | [.list ds], Q => Q (.int (ds.length : Nat))
  | [.tuple ds], Q => Q (.int (ds.length : Nat))
  | [.str x], Q => x.length ≤ sizeLine ∧ Q (.int (x.length : Nat))
  | _, _ => False
theorem dc_len {K : PySem.W.Frag} : DCall (fun xs H Q => ∃ x n, xs = [x] ∧ LenV K x H n ∧ Q (.int (n : Nat)) H) fLen := by
  intro bn H ds vs Q Qc nb p q k
  unfold fLen at q
  split at q
  · cases p with | cons p t => cases t; obtain ⟨a, xs, rfl, e, ra⟩ := p.lst; exact ⟨_, _, rfl, .inl ⟨xs, sqL e, ra.len.symm⟩, k (.int _) _ H (.refl _) rfl q⟩
  · cases p with | cons p t => cases t; obtain ⟨a, xs, rfl, e, ra⟩ := p.tup; exact ⟨_, _, rfl, .inr ⟨xs, .inl e.rd, ra.len.symm⟩, k (.int _) _ H (.refl _) rfl q⟩
  · cases p with | cons p t => cases t; rw [p.str]; exact ⟨_, _, rfl, ⟨q.1, rfl⟩, k (.int _) _ H (.refl _) rfl q.2⟩
  · exact q.elim
def fTuple : List PyData → (PyData → Prop) → Prop
  | [.list ds], Q => Q (.tuple ds)
  | _, _ => False
theorem dc_tuple {K : PySem.W.Frag} : DCall (fun xs H Q => ∃ p ys, xs = [.ref p] ∧ SqL K H p ys ∧ ∀ l o, H l = none → o.dict = none → Q (.ref l) (upd H l (.frz o (.tup ys)))) fTuple := by
  intro bn H ds vs Q Qc nb p q k
  unfold fTuple at q
  split at q
  · cases p with | cons p t => cases t; obtain ⟨a, xs, rfl, e, ra⟩ := p.lst; exact ⟨a, xs, rfl, sqL e, fun l o hl ho => k (.tuple _) _ _ (same_upd hl) ⟨l, xs, rfl, TF.new ho, ra.same (same_upd hl)⟩ q⟩
  · exact q.elim
def fList : List PyData → (PyData → Prop) → Prop
  | [.tuple ds], Q => Q (.list ds)
  | _, _ => False
/-- all are ints -/
def intsOf : List PyData → Option (List Int)
  | [] => some []
  | .int i :: r => (intsOf r).map (i :: ·)
  | _ :: _ => none
def boolsOf : List PyData → Option (List Bool)
  | [] => some []
  | .bool i :: r => (boolsOf r).map (i :: ·)
  | _ :: _ => none
theorem intsOf_map : ∀ {ds : List PyData} {ns : List Int}, intsOf ds = some ns → ds = ns.map .int
  | [], _, e => by cases e; rfl
  | .int i :: r, _, e => by
    unfold intsOf at e
    cases e2 : intsOf r with
    | none => rw [e2] at e; cases e
    | some ns => rw [e2] at e; cases e; rw [intsOf_map e2]; rfl
  | .none :: _, _, e => by cases e
  | .bool _ :: _, _, e => by cases e
  | .str _ :: _, _, e => by cases e
  | .list _ :: _, _, e => by cases e
  | .tuple _ :: _, _, e => by cases e
  | .dict _ :: _, _, e => by cases e
theorem boolsOf_map : ∀ {ds : List PyData} {ns : List Bool}, boolsOf ds = some ns → ds = ns.map .bool
  | [], _, e => by cases e; rfl
  | .bool i :: r, _, e => by
    unfold boolsOf at e
    cases e2 : boolsOf r with
    | none => rw [e2] at e; cases e
    | some ns => rw [e2] at e; cases e; rw [boolsOf_map e2]; rfl
  | .none :: _, _, e => by cases e
  | .int _ :: _, _, e => by cases e
  | .str _ :: _, _, e => by cases e
  | .list _ :: _, _, e => by cases e
  | .tuple _ :: _, _, e => by cases e
  | .dict _ :: _, _, e => by cases e
theorem ints_of : ∀ ns : List Int, intsOf (ns.map .int) = some ns
  | [] => rfl
  | n :: r => by show (intsOf (r.map .int)).map (n :: ·) = _; rw [ints_of r]; rfl
theorem bools_of : ∀ ns : List Bool, boolsOf (ns.map .bool) = some ns
  | [] => rfl
  | n :: r => by show (boolsOf (r.map .bool)).map (n :: ·) = _; rw [bools_of r]; rfl
theorem rpAll_ints {H : Hp} {bn : List Addr} : ∀ {ns : List Int} {xs : List V}, RpAll H bn (ns.map .int) xs → xs = ns.map V.int
  | [], _, h => h
  | n :: r, _, h => by
    obtain ⟨v, t, rfl, h1, h2⟩ := h
    rw [show v = .int n from h1, rpAll_ints h2]; rfl
theorem rpAll_bools {H : Hp} {bn : List Addr} : ∀ {ns : List Bool} {xs : List V}, RpAll H bn (ns.map .bool) xs → xs = ns.map V.bl
  | [], _, h => h
  | n :: r, _, h => by
    obtain ⟨v, t, rfl, h1, h2⟩ := h
    rw [show v = .bl n from h1, rpAll_bools h2]; rfl
def fSum : List PyData → (PyData → Prop) → Prop
  | [.list ds], Q => match intsOf ds with
    | some ns => Q (.int ns.sum)
    | none => False
  | _, _ => False
theorem dc_sum {K : PySem.W.Frag} : DCall (rSum K) fSum := by
  intro bn H ds vs Q Qc nb p q k
  unfold fSum at q
  split at q
  · split at q
    · next ns e =>
      cases p with
      | cons p t =>
        cases t
        obtain ⟨a, xs, rfl, ea, ra⟩ := p.lst
        rw [intsOf_map e] at ra
        rw [rpAll_ints ra] at ea
        exact ⟨a, ns, rfl, sqL ea, k (.int _) _ H (.refl _) rfl q⟩
    · exact q.elim
  · exact q.elim
def fAll : List PyData → (PyData → Prop) → Prop
  | [.list ds], Q => match boolsOf ds with
    | some ns => Q (.bool (ns.all id))
    | none => False
  | _, _ => False
theorem dc_all {K : PySem.W.Frag} : DCall (rAll K) fAll := by
  intro bn H ds vs Q Qc nb p q k
  unfold fAll at q
  split at q
  · split at q
    · next ns e =>
      cases p with
      | cons p t =>
        cases t
        obtain ⟨a, xs, rfl, ea, ra⟩ := p.lst
        rw [boolsOf_map e] at ra
        rw [rpAll_bools ra] at ea
        exact ⟨a, ns, rfl, sqL ea, k (.bool _) _ H (.refl _) rfl q⟩
    · exact q.elim
  · exact q.elim
/-! ### isinstance -/
def isiD (T : String) (d : PyData) : Option Bool := kitB (tyD d) T
def aIsi (T : String) (ao : AO) : AE := fun xp s Q => ao xp s fun o s1 => rs s1 o fun d => match isiD T d with
  | some b => Q (.bool b) s1
  | none => False
theorem tyRpX {K : PySem.W.Frag} {H : Hp} {bn : List Addr} {d : PyData} {v : V} (h : RpX H bn d v) : TyX K H v (.type (tyD d)) := by
  rcases h with h | ⟨a, ds, xs, rfl, rfl, h1, _⟩
  · exact tyRp h
  · exact .base (.lst h1)
theorem ae_isi {T : String} {e t : Expr} {ao : AO} {p pos : Pos} (hg : Gl X "isinstance") (hm : X.mg "isinstance" = none) (he : PE X e (cO Ec ao)) (ht : PE X t (tC (.ty T))) (hs : starEach [e, t] X.env = (false, eval e X.env) :: starEach [t] X.env := by rfl) (hs2 : starEach [t] X.env = (false, eval t X.env) :: starEach [] X.env := by rfl) (hpl : (backTo pos (starEach [t] X.env)).any (·.1) = false := by rfl) :
    PE X (.Call (.Name "isinstance" p) [e, t] [] pos) (cE Ec (aIsi T ao)) := by
  refine (pe_callB call_isi hg hm (by decide +kernel) (pa_cons he (pa_cons ht pa_nil hs2) hs) (by decide) (by decide) hs hpl).sub fun σ H Q ⟨Φ, E, xp, s, Qa, r, x, q, k⟩ => ⟨Φ, E, xp, s, _, r, x, q, fun o E1 s1 v H1 l1 r1 k1 p1 q1 => ?_⟩
  obtain ⟨d, e, q1⟩ := rs_get q1
  split at q1
  · next b hb =>
    exact ⟨v, .ty T, _, _, b, rfl, .ty T, tyRpX (r1.res p1 e), kit_ty hb, k (.bool b) E1 s1 _ H1 l1 r1 k1 rfl q1⟩
  · exact q1.elim
end
end TR
namespace TR
open PySem PySem.Spec PyProof.Rows L2
section
variable {X : Cx} {Ec : EC}
/-! ### a < b < c -/
def a3 (f g : PyData → PyData → (PyData → Prop) → Prop) (aa ab ac : AO) : AE := fun xp s Q => aa xp s fun o1 s1 => ab xp s1 fun o2 s2 => rs s2 o1 fun d1 => rs s2 o2 fun d2 => f d1 d2 fun z => aB z fun k => if k = true then ac xp s2 fun o3 s3 => rs s3 o2 fun e2 => rs s3 o3 fun e3 => g e2 e3 fun r => Q r s3 else Q (.bool false) s2
theorem a3_ok {r r' : R2} {f g : PyData → PyData → (PyData → Prop) → Prop} (hf : DOp r f) (hg : DOp r' g) {aa ab ac : AO} {σ : L2.St} {H : Hp} {Q : VK} (h : cE Ec (a3 f g aa ab ac) σ H Q) : tChain r r' (cO Ec aa) (cO Ec ab) (cO Ec ac) σ H Q := by
  obtain ⟨Φ, E, xp, s, Qa, r0, x0, q, k⟩ := h
  refine ⟨Φ, E, xp, s, _, r0, x0, q, fun o1 E1 s1 v1 H1 l1 r1 k1 p1 q1 => ⟨Φ, E1, xp, s1, _, r1, x0, q1, fun o2 E2 s2 v2 H2 l2 r2 k2 p2 q2 => ?_⟩⟩
  obtain ⟨d1, e1, q2⟩ := rs_get q2
  obtain ⟨d2, e2, q2⟩ := rs_get q2
  refine hf (ban Φ E2) H2 d1 d2 v1 v2 _ _ r2.nb (r2.res (p1.kb r1.lst k2 l2) e1) (r2.res p2 e2) q2 fun d v H3 m rp q3 => ?_
  obtain ⟨b, rfl, q3⟩ := aB_get q3 rp
  have kk : KB E H H3 := (k1.trans l1 k2).trans (Le.refl _) (KB.of_same m)
  refine ⟨b, rfl, ?_⟩
  cases b with
  | false => exact iteF (k (.bool false) E2 s2 _ H3 (l2.trans l1) (r2.same m) kk rfl (unF q3))
  | true =>
    refine iteT ⟨Φ, E2, xp, s2, _, r2.same m, x0, unT q3, fun o3 E4 s4 v4 H4 l4 r4 k4 p4 q4 => ?_⟩
    obtain ⟨e2', f2, q4⟩ := rs_get q4
    obtain ⟨e3, f3, q4⟩ := rs_get q4
    have p2' : RpO Φ E2 σ H3 o2 v2 := p2.kb r2.lst (KB.of_same m) (Le.refl _)
    refine hg (ban Φ E4) H4 e2' e3 v2 v4 _ Q r4.nb (r4.res (p2'.kb (r2.same m).lst k4 l4) f2) (r4.res p4 f3) q4 fun d v H5 m5 rp5 q5 => ?_
    exact k d E4 s4 v H5 (l4.trans (l2.trans l1)) (r4.same m5) ((kk.trans (l2.trans l1) k4).trans (Le.refl _) (KB.of_same m5)) rp5 q5
theorem ae_chain {op op' : CmpOp} {r r' : R2} {f g : PyData → PyData → (PyData → Prop) → Prop} {a b c : Expr} {aa ab ac : AO} {pos : Pos} (hf : DOp r f) (hg : DOp r' g) (ho : OpR X (compareOp op) r) (ho' : OpR X (compareOp op') r') (ha : PE X a (cO Ec aa)) (hb : PE X b (cO Ec ab)) (hc : PE X c (cO Ec ac)) (hm : lastMarks [op, op'] [b, c] = false := by with_unfolding_all rfl) : PE X (.Compare a [op, op'] [b, c] pos) (cE Ec (a3 f g aa ab ac)) := (pe_chain ho ho' ha hb hc hm).sub fun _ _ _ h => a3_ok hf hg h
theorem at_chain {op op' : CmpOp} {r r' : R2} {f g : PyData → PyData → (PyData → Prop) → Prop} {a b c : Expr} {aa ab ac : AO} {pos : Pos} (hf : DOp r f) (hg : DOp r' g) (ho : OpR X (compareOp op) r) (ho' : OpR X (compareOp op') r') (ha : PE X a (cO Ec aa)) (hb : PE X b (cO Ec ab)) (hc : PE X c (cO Ec ac)) (hm : lastMarks [op, op'] [b, c] = false := by with_unfolding_all rfl) : PT X (.Compare a [op, op'] [b, c] pos) (cT Ec (tV (a3 f g aa ab ac))) := by
  refine (pt_chain ho ho' ha hb hc hm).sub fun σ H Q ⟨Φ, E, xp, s, Qa, r0, x0, q, k⟩ => ?_
  refine a3_ok hf hg (Q := fun x H' => ∃ k, x = .bl k ∧ Q k H') ⟨Φ, E, xp, s, _, r0, x0, q, fun d E' s' v H' l r' kb rp q' => ?_⟩
  cases d with
  | bool b =>
    obtain rfl : v = .bl b := rp
    exact ⟨b, rfl, k b E' s' H' l r' kb q'⟩
  | none => exact q'.elim
  | int _ => exact q'.elim
  | str _ => exact q'.elim
  | list _ => exact q'.elim
  | tuple _ => exact q'.elim
  | dict _ => exact q'.elim
/-! ### the truth of a value -/
def truD : PyData → Option Bool
  | .none => some false
  | .bool b => some b
  | .int i => some (i != 0)
  | .list ds => some (!ds.isEmpty)
  | .tuple ds => some (!ds.isEmpty)
  | _ => none
def tTruA (ao : AO) : AT := fun xp s Q => ao xp s fun o s1 => rs s1 o fun d => match truD d with
  | some b => Q b s1
  | none => False
theorem emp_len {ds : List PyData} {xs : List V} (h : xs.length = ds.length) : (!ds.isEmpty) = !xs.isEmpty := by
  cases ds <;> cases xs <;> first | rfl | (simp at h)
theorem at_tru {a : Expr} {ao : AO} (ha : PE X a (cO Ec ao)) (he : ∀ whole, isTrue a X.env whole = (do let v ← whole; standAt a.pos; holding [v] (truthy v)) := by intro _; rfl) : PT X a (cT Ec (tTruA ao)) := by
  refine (pt_truth ha he).sub fun σ H Q ⟨Φ, E, xp, s, Qa, r, x, q, k⟩ => ⟨Φ, E, xp, s, _, r, x, q, fun o E1 s1 v H1 l1 r1 k1 p1 q1 => ?_⟩
  obtain ⟨d, e, q1⟩ := rs_get q1
  have p := r1.res p1 e
  unfold truD at q1
  split at q1
  · next b hb =>
    refine ⟨b, ?_, k b E1 s1 H1 l1 r1 k1 q1⟩
    split at hb
    · cases hb; rw [p.non]; rfl
    · cases hb; rw [p.bool]; rfl
    · cases hb; rw [p.int]; rfl
    · cases hb
      obtain ⟨a, xs, rfl, ea, ra⟩ := p.lst
      exact .inl ⟨xs, sqL ea, emp_len ra.len⟩
    · cases hb
      obtain ⟨a, xs, rfl, ea, ra⟩ := p.tup
      exact .inr (.inl ⟨xs, .inl ea.rd, emp_len ra.len⟩)
    · cases hb
  · exact q1.elim
/-! ### a list that is built -/
theorem Rel.mut {Φ : Fx} {E : OE} {s : AS} {σ : L2.St} {H : Hp} (r : Rel Φ E s σ H) {i : Nat} {a : Addr} {xs ys : List V} {es : List PyData} (hi : i < s.sl.length) (hσ : σ[i]? = some (some (.ref a))) (m : (i, a) ∈ E.R) (e : H a = some (.lst xs)) (ra : RpAll H (ban Φ E) es ys) : Rel Φ E (s.set i (.own es)) σ (upd H a (.lst ys)) ∧ KB E H (upd H a (.lst ys)) := by
  have ac : a ∈ chg E := List.mem_append_right _ (List.mem_map.mpr ⟨_, m, rfl⟩)
  have ab : a ∈ ban Φ E := List.mem_append_left _ ac
  obtain ⟨_, g1, g2, g3⟩ := r.own i a m
  have up : ∀ {b : Addr} {o : HO}, b ≠ a → H b = some o → upd H a (.lst ys) b = some o := fun h e => by rw [upd_ne h]; exact e
  have kb : KB E H (upd H a (.lst ys)) := fun b o h n => up (fun z => n (z ▸ ac)) h
  refine ⟨⟨by show (s.sl.set i _).length = _; rw [List.length_set]; exact r.len, fun j x hx => ?_, fun d p q h => ?_, fun j b h => ?_, r.inj, fun b o h1 h2 => up (fun z => ?_) (r.fr b o h1 h2), r.dk0, r.alive, fun x hx => Hl.updl ab e (r.held x hx), fun x hx => ?_, r.znd, r.tt⟩, kb⟩
  · by_cases ej : i = j
    · subst ej
      have hx2 : (s.sl.set i (some (.own es)))[i]? = some (some x) := hx
      rw [List.getElem?_set_self hi] at hx2
      cases hx2
      exact ⟨_, hσ, a, ys, rfl, m, upd_same, RpAll.updl ab e ra⟩
    · have hx2 : (s.sl.set i (some (.own es)))[j]? = some (some x) := hx
      rw [List.getElem?_set_ne ej] at hx2
      obtain ⟨v, h1, h2⟩ := r.val j x hx2
      refine ⟨v, h1, ?_⟩
      cases x with
      | dat d => exact Rp.updl ab e (show Rp H (ban Φ E) d v from h2)
      | deck => exact h2
      | exc x =>
        obtain ⟨b, da, e1, e2, h3, h4⟩ := h2
        exact ⟨b, da, e1, e2, XRep.updl ab e h3, h4⟩
      | own _ =>
        obtain ⟨b, zs, e1, m1, h3, h4⟩ := h2
        exact ⟨b, zs, e1, m1, up (fun z => ej (r.inj i j a m (z ▸ m1))) h3, RpAll.updl ab e h4⟩
      | dct _ =>
        obtain ⟨b, ks, e1, m1, h3, h4⟩ := h2
        exact ⟨b, ks, e1, m1, up (fun z => ej (r.inj i j a m (z ▸ m1))) h3, h4.mono fun _ _ h => Rp.updl ab e h⟩
      | dcn _ =>
        obtain ⟨b, ks, e1, m1, h3, h4⟩ := h2
        exact ⟨b, ks, e1, m1, up (fun z => ej (r.inj i j a m (z ▸ m1))) h3, h4.mono fun _ _ h => Rp.updl ab e h⟩
      | dcl _ =>
        obtain ⟨b, ks, e1, m1, h3, hn, h4⟩ := h2
        exact ⟨b, ks, e1, m1, up (fun z => ej (r.inj i j a m (z ▸ m1))) h3, hn, h4.mono (fun _ _ h => Rp.updl ab e h) fun c _ m2 h => ⟨m2, up (fun z => ej (r.inj i j a m (z ▸ m2))) h⟩⟩
      | lck _ _ =>
        obtain ⟨b, e1, h3, h5, h4⟩ := h2
        exact ⟨b, e1, h3, h5, h4.mono (fun _ _ h => Rp.updl ab e h) fun _ _ h => up (fun z => h3 (by rw [z]; exact ab)) h⟩
      | bor _ =>
        rcases h2 with h2 | ⟨b, ds, zs, e1, e2, h3, h5, h6⟩
        · exact .inl (Rp.updl ab e h2)
        · exact .inr ⟨b, ds, zs, e1, e2, up (fun z => g1 (z ▸ h5)) h3, h5, RpAll.updl ab e h6⟩
  · obtain ⟨h1, h2⟩ := r.dk d p q h
    rw [h] at g2
    simp only [dkl, List.mem_cons, List.not_mem_nil, or_false, not_or] at g2
    exact ⟨h1.updl' g2.1 g2.2.1 g2.2.2.1 g2.2.2.2 (Mu.nc e trivial), h2⟩
  · by_cases z : b = a
    · subst z
      exact ⟨⟨_, upd_same, trivial⟩, (r.own j b h).2⟩
    · obtain ⟨⟨zs, h1, mu⟩, h2⟩ := r.own j b h
      exact ⟨⟨zs, up z h1, mu⟩, h2⟩
  · rw [z, g3] at h1; cases h1
  · obtain ⟨z1, z2, z3⟩ := r.zz x hx
    exact ⟨up (fun z => z2 (z ▸ ac)) z1, z2, z3⟩
/-- x.m(e, ..), x a list that is built here -/
def DMut (r : V → List V → Hp → VK → Prop) (f : List PyData → List PyData → (PyData → List PyData → Prop) → Prop) : Prop := ∀ (bn : List Addr) (H : Hp) (a : Addr) (xs vs : List V) (ds es : List PyData) (Q : PyData → List PyData → Prop) (Qc : VK), H a = some (.lst xs) → RpAll H bn ds xs → RpAll H bn es vs → f ds es Q →
  (∀ d v ds' ys, Rp H bn d v → RpAll H bn ds' ys → Q d ds' → Qc v (upd H a (.lst ys))) → r (.ref a) vs H Qc
def aMut (f : List PyData → List PyData → (PyData → List PyData → Prop) → Prop) (i : Nat) (aa : AA) : AE := fun xp s Q => match s.sl[i]? with
  | some (some (.own _)) => aa xp s fun os s1 => rv os fun es => (match s1.sl[i]? with
    | some (some (.own ds)) => f ds es fun d ds' => Q d (s1.set i (.own ds'))
    | _ => False)
  | _ => False
theorem mut_ok {r : V → List V → Hp → VK → Prop} {f : List PyData → List PyData → (PyData → List PyData → Prop) → Prop} (hf : DMut r f) {i : Nat} {aa : AA} {σ : L2.St} {H : Hp} {Q : VK} (h : cE Ec (aMut f i aa) σ H Q) : ∃ a xs, σ[i]? = some (some (.ref a)) ∧ H a = some (.lst xs) ∧ cA Ec aa σ H fun vs H2 => r (.ref a) vs H2 Q := by
  obtain ⟨Φ, E, xp, s, Qa, r, x, q, k⟩ := h
  unfold aMut at q
  split at q
  · next ds0 h0 =>
    obtain ⟨v, hv, b0, ys0, e0, m0, f0, ra0⟩ := r.val i _ h0
    subst e0
    refine ⟨b0, ys0, hv, f0, Φ, E, xp, s, _, r, x, q, fun os E1 s1 vs H1 l1 r1 k1 p1 q1 => ?_⟩
    obtain ⟨es, e, q1⟩ := rv_get q1
    have ra := vals_rp p1 e
    split at q1
    · next ds1 h1 =>
      obtain ⟨v, hv1, b1, ys1, e1, m1, f1, ra1⟩ := r1.val i _ h1
      rw [hv] at hv1
      cases hv1
      cases e1
      refine hf (ban Φ E1) H1 b0 ys1 vs ds1 es _ Q f1 ra1 ra q1 fun d v ds' ys rp ry q2 => ?_
      obtain ⟨r2, k2⟩ := r1.mut (i := i) (List.getElem?_eq_some_iff.mp h1).1 hv m1 f1 ry
      exact k d E1 _ v _ l1 r2 (k1.trans l1 k2) (Rp.updl (List.mem_append_left _ (List.mem_append_right _ (List.mem_map.mpr ⟨_, m1, rfl⟩))) f1 rp) q2
    · exact q1.elim
  · exact q.elim
theorem ae_mut {e : Expr} {i : Nat} {aa : AA} {r : V → List V → Hp → VK → Prop} {f : List PyData → List PyData → (PyData → List PyData → Prop) → Prop} (hf : DMut r f) (h : PE X e (tBM X.K "list" r (tVar i) (cA Ec aa))) : PE X e (cE Ec (aMut f i aa)) := by
  refine h.sub fun σ H Q h => ?_
  obtain ⟨a, xs, h1, h2, h3⟩ := mut_ok hf h
  exact ⟨.ref a, h1, .inl ⟨rfl, xs, sqL h2⟩, h3⟩
def mApp : List PyData → List PyData → (PyData → List PyData → Prop) → Prop
  | ds, [d], Q => ds.length < sizeLine ∧ Q .none (ds ++ [d])
  | _, _, _ => False
theorem dm_app : DMut rAppend mApp := by
  intro bn H a xs vs ds es Q Qc e ra rv q k
  unfold mApp at q
  split at q
  · obtain ⟨v, t, rfl, p, rfl⟩ := rv
    exact ⟨a, xs, v, rfl, rfl, e, by rw [ra.len]; exact q.1, k .none _ _ _ rfl (RpAll.app (es := [_]) ra ⟨v, [], rfl, p, rfl⟩) q.2⟩
  · exact q.elim
def mExt : List PyData → List PyData → (PyData → List PyData → Prop) → Prop
  | ds, [.list es], Q => ds.length + es.length ≤ sizeLine ∧ Q .none (ds ++ es)
  | _, _, _ => False
theorem dm_ext : DMut rExtend mExt := by
  intro bn H a xs vs ds es Q Qc e ra rv q k
  unfold mExt at q
  split at q
  · obtain ⟨v, t, rfl, ⟨b, ys, rfl, eb, _, rb⟩, rfl⟩ := rv
    exact ⟨a, b, xs, ys, rfl, rfl, e, eb, by rw [ra.len, rb.len]; exact q.1, k .none _ _ _ rfl (RpAll.app ra rb) q.2⟩
  · exact q.elim
theorem RpAll.erase {H : Hp} {bn : List Addr} : ∀ {ds : List PyData} {xs : List V} (i : Nat), RpAll H bn ds xs → RpAll H bn (ds.eraseIdx i) (xs.eraseIdx i)
  | [], _, i, h => by rw [show _ = [] from h]; rfl
  | d :: ds, _, 0, h => by
    obtain ⟨v, r, rfl, _, h2⟩ := h
    exact h2
  | d :: ds, _, i + 1, h => by
    obtain ⟨v, r, rfl, h1, h2⟩ := h
    exact ⟨v, _, rfl, h1, RpAll.erase i h2⟩
def mPopAt : List PyData → List PyData → (PyData → List PyData → Prop) → Prop
  | ds, [.int i], Q => match ixN ds.length i with
    | some k => (match ds[k]? with
      | some d => Q d (ds.eraseIdx k)
      | none => False)
    | none => False
  | _, _, _ => False
theorem RpAll.sz {H : Hp} {bn : List Addr} {ds : List PyData} {xs : List V} (h : RpAll H bn ds xs) : xs.length = ds.length := h.len
theorem dm_popAt : DMut (fun x vs H Q => (∀ l xs, x = .ref l → H l = some (.lst xs) → xs.length < 2 ^ 62) → rPopAt x vs H Q) mPopAt := by
  intro bn H a xs vs ds es Q Qc e ra rv q k hz
  have hz := hz a xs rfl e
  unfold mPopAt at q
  split at q
  · next i =>
    obtain ⟨v, t, rfl, rfl, rfl⟩ := rv
    split at q
    · next j hj =>
      obtain ⟨h1, h2, h3, h4⟩ := ixN_seq hj
      split at q
      · next d hd =>
        obtain ⟨y, hy, py⟩ := ra.at hd
        rw [ra.len] at hz
        exact ⟨a, xs, i, j, y, rfl, rfl, e, by omega, by omega, by rw [ra.len]; exact h1, hy, k d y _ _ py (ra.erase j) q⟩
      · exact q.elim
    · exact q.elim
  · exact q.elim
theorem mt_popAtA : MtM X "list.pop" (fun x vs H Q => (∀ l xs, x = .ref l → H l = some (.lst xs) → xs.length < 2 ^ 62) → rPopAt x vs H Q) := by
  intro pins s σ H x vs v us Q I rx rv h
  refine mt_popAt pins s σ H x vs v us Q I rx rv (h fun l xs e eh => ?_)
  obtain ⟨z, _⟩ := I.lstM eh
  have : (sizeLine : Nat) < 2 ^ 62 := by rw [sizeLine_eq]; decide
  omega
/-! ### t.index(k) -/
def vIdx : PyData → List PyData → (PyData → Prop) → Prop
  | .tuple ds, [.int z], Q => match intsOf ds with
    | some ns => (match ns.findIdx? (· == z) with
      | some j => Q (.int (j : Nat))
      | none => False)
    | none => False
  | _, _, _ => False
def aIdx (ao : AO) (aa : AA) : AE := fun xp s Q => ao xp s fun o s1 => (match o with
  | .val (.tuple _) => True
  | _ => False) ∧ aa xp s1 fun os s2 => rs s2 o fun d => rsl s2 os fun es => vIdx d es fun r => Q r s2
theorem ae_idx {e : Expr} {ao : AO} {aa : AA} (h : PE X e (tBMT (rTupIdx X.K) (cO Ec ao) (cA Ec aa))) : PE X e (cE Ec (aIdx ao aa)) := by
  refine h.sub fun σ H Q ⟨Φ, E, xp, s, Qa, r, x, q, k⟩ => ⟨Φ, E, xp, s, _, r, x, q, fun o E1 s1 v H1 l1 r1 k1 p1 q1 => ?_⟩
  obtain ⟨hv, q1⟩ := q1
  split at hv
  · next ds =>
    obtain ⟨a, xs, rfl, ⟨ob, hd, ha⟩, ra⟩ := (show Rp H1 (ban Φ E1) (.tuple ds) v from p1)
    refine ⟨⟨a, ob, xs, rfl, hd, ha⟩, Φ, E1, xp, s1, _, r1, x, q1, fun os E2 s2 vs H2 l2 r2 k2 p2 q2 => ?_⟩
    obtain ⟨d, e, q2⟩ := rs_get q2
    obtain ⟨es, e2, q2⟩ := rsl_get q2
    have p1' := r2.res (RpO.kb (o := .val (.tuple ds)) (v := .ref a) r1.lst k2 l2 p1) e
    have pe := rsA_rp r2 p2 e2
    unfold vIdx at q2
    split at q2
    · split at q2
      · next ns hns =>
        split at q2
        · next j hj =>
          obtain ⟨b, ys, eb, tb, rb⟩ := p1'.tup
          cases eb
          rw [intsOf_map hns] at rb
          cases pe with
          | cons pz t =>
            cases t
            obtain ⟨hjl, hjz, hjn⟩ := List.findIdx?_eq_some_iff_getElem.mp hj
            refine ⟨a, ns, _, j, rfl, by rw [pz.int], .inl (by rw [← rpAll_ints rb]; exact tb.rd), ?_, fun m hm hz => ?_, k (.int _) E2 s2 _ H2 (l2.trans l1) r2 (k1.trans l1 k2) rfl q2⟩
            · rw [List.getElem?_eq_getElem hjl, beq_iff_eq.mp hjz]
            · have hml : m < ns.length := by omega
              rw [List.getElem?_eq_getElem hml] at hz
              have := hjn m hm
              rw [Option.some.inj hz] at this
              simp at this
        · exact q2.elim
      · exact q2.elim
    · exact q2.elim
  · exact hv.elim
end
end TR
namespace TR
open PySem PySem.Spec PyProof.Rows L2
theorem u65 {A : Around} {k : Nat} (hr : Room k A) : A.units + 65 < cLine := by
  have := hr.un
  omega
section
variable {X : Cx} {Ec : EC}
/-! ### -x -/
def aNeg (ao : AO) : AE := fun xp s Q => ao xp s fun o s1 => rs s1 o fun d => match d with
  | .int i => Q (.int (-i)) s1
  | _ => False
theorem ae_neg {e : Expr} {ao : AO} {pos : Pos} (h : PE X e (cO Ec ao)) : PE X (.UnaryOp .USub e pos) (cE Ec (aNeg ao)) := by
  refine (pe_un un_neg h).sub fun σ H Q ⟨Φ, E, xp, s, Qa, r, x, q, k⟩ => ⟨Φ, E, xp, s, _, r, x, q, fun o E1 s1 v H1 l1 r1 k1 p1 q1 => ?_⟩
  obtain ⟨d, e, q1⟩ := rs_get q1
  split at q1
  · next i =>
    rw [(r1.res p1 e).int]
    exact ⟨i, rfl, k (.int _) E1 s1 _ H1 l1 r1 k1 rfl q1⟩
  · exact q1.elim
/-! ### op= -/
def vAddI := vII (fun _ _ => True) fun i j => .int (i + j)
def vSubI := vII (fun _ _ => True) fun i j => .int (i - j)
theorem dop_i0 {g : Int → Int → Int} : DOp (rI0 fun i j => .int (g i j)) (vII (fun _ _ => True) fun i j => .int (g i j)) := by
  intro bn H d1 d2 v1 v2 Q Qc nb p1 p2 q k
  unfold vII at q
  split at q
  · rw [p1.int, p2.int]; exact ⟨_, _, rfl, rfl, k (.int _) _ H (.refl _) rfl q.2⟩
  · exact q.elim
theorem dop_iadd : DOp (rI0 fun i j => .int (i + j)) vAddI := dop_i0
/-! ### lists joined: a new list -/
def vCatL : PyData → PyData → (PyData → Prop) → Prop
  | .list xs, .list ys, Q => xs.length + ys.length ≤ sizeLine ∧ Q (.list (xs ++ ys))
  | _, _, _ => False
theorem af_cat (i : Nat) {a b : Expr} {aa ab : AO} {pos : Pos} (ha : PE X a (cO Ec aa)) (hb : PE X b (cO Ec ab)) : PE X (.BinOp a .Add b pos) (cF i Ec (a2 vCatL aa ab)) := by
  refine (pe_op op_catN ha hb).sub fun σ H Q ⟨Φ, E, xp, s, Qa, r0, x0, q, k⟩ => ⟨Φ, E, xp, s, _, r0, x0, q, fun o1 E1 s1 v1 H1 l1 r1 k1 p1 q1 => ⟨Φ, E1, xp, s1, _, r1, x0, q1, fun o2 E2 s2 v2 H2 l2 r2 k2 p2 q2 => ?_⟩⟩
  obtain ⟨d1, e1, q2⟩ := rs_get q2
  obtain ⟨d2, e2, q2⟩ := rs_get q2
  have g1 := r2.res (p1.kb r1.lst k2 l2) e1
  have g2 := r2.res p2 e2
  unfold vCatL at q2
  split at q2
  · obtain ⟨a, xs, rfl, t1, w1⟩ := g1.lst
    obtain ⟨b, ys, rfl, t2, w2⟩ := g2.lst
    refine ⟨a, b, xs, ys, rfl, rfl, t1, t2, by rw [w1.len, w2.len]; exact q2.1, fun p H3 hp m e => k _ E2 s2 p _ H3 (l2.trans l1) (r2.same m) (r2.add i hp m e) ((k1.trans l1 k2).trans (Le.refl _) (KB.of_same m)) e (RpAll.same (RpAll.fresh (fun a ha => ?_) (w1.app w2)) m) (r2.newban hp) q2.2⟩
    rcases mem_ban_add ha with h | h
    · rw [h]; exact .inr hp
    · exact .inl h
  · exact q2.elim
/-! ### list(range(..)), tuple(range(..)) -/
abbrev ARg := XP → AS → (Int → Int → AS → Prop) → Prop
def cRg (Ec : EC) (a : ARg) : L2.St → Hp → (Int → Int → Hp → Prop) → Prop := fun σ H Q => ∃ Φ E xp s Qa, Rel Φ E s σ H ∧ XSim Φ xp Ec ∧ a xp s Qa ∧ ∀ i j E' s' H', Le E' E → Rel Φ E' s' σ H' → KB E H H' → Qa i j s' → Q i j H'
def rg1 (a : AE) : ARg := fun xp s Q => a xp s fun d s1 => match d with
  | .int j => Q 0 j s1
  | _ => False
def rg2 (a b : AE) : ARg := fun xp s Q => a xp s fun d s1 => b xp s1 fun e s2 => match d, e with
  | .int i, .int j => Q i j s2
  | _, _ => False
theorem rg1_ok {a : AE} {σ : L2.St} {H : Hp} {Q : Int → Int → Hp → Prop} (h : cRg Ec (rg1 a) σ H Q) : tRg1 (cE Ec a) σ H Q := by
  obtain ⟨Φ, E, xp, s, Qa, r, x, q, k⟩ := h
  refine ⟨Φ, E, xp, s, _, r, x, q, fun d E1 s1 v H1 l1 r1 k1 p1 q1 => ?_⟩
  split at q1
  · next j =>
    obtain rfl : v = .int j := p1
    exact ⟨j, rfl, k 0 j E1 s1 H1 l1 r1 k1 q1⟩
  · exact q1.elim
def aTupRg (a : ARg) : AE := fun xp s Q => a xp s fun i j s1 => RgOk i j ∧ Q (.tuple (rngD i (j - i).toNat)) s1
def aListRg (a : ARg) : AE := fun xp s Q => a xp s fun i j s1 => RgOk i j ∧ Q (.list (rngD i (j - i).toNat)) s1
theorem rp_rng {H : Hp} {bn : List Addr} (i j : Int) : RpAll H bn (rngD i (j - i).toNat) (rgV i j) := by
  unfold rngD rgV
  generalize List.range (j - i).toNat = l
  induction l with
  | nil => rfl
  | cons x l ih => exact ⟨_, _, rfl, rfl, ih⟩
theorem listRg_ok {i : Nat} {a : ARg} {σ : L2.St} {H : Hp} {Q : VK} (h : cF i Ec (aListRg a) σ H Q) : cRg Ec a σ H fun i j H1 => RgOk i j ∧ ∀ q, H1 q = none → Q (.ref q) (upd H1 q (.lst (rgV i j))) := by
  obtain ⟨Φ, E, xp, s, Qa, r, x, q, k⟩ := h
  refine ⟨Φ, E, xp, s, _, r, x, q, fun i j E1 s1 H1 l1 r1 k1 q1 => ⟨q1.1, fun p hp => ?_⟩⟩
  have m : Same H1 (upd H1 p (.lst (rgV i j))) := same_upd hp
  exact k _ E1 s1 p _ _ l1 (r1.same m) (r1.add _ hp m upd_same) (k1.trans l1 (KB.of_same m)) upd_same (rp_rng _ _) (r1.newban hp) q1.2
theorem af_listRg1 (i : Nat) {e : Expr} {a : AE} {p pos : Pos} (hc : X.calm = true) (hg : Gl X "list") (hm : X.mg "list" = none) (he : PRg X e (tRg1 (cE Ec a))) (na : starEach [e] X.env = (false, eval e X.env) :: starEach [] X.env := by rfl) : PE X (.Call (.Name "list" p) [e] [] pos) (cF i Ec (aListRg (rg1 a))) := (pe_listRg hc hg hm he na).sub fun σ H Q h => rg1_ok (listRg_ok h)
/-! ### x = [.. for ..] on one line -/
theorem as_setLc {w : Bool} (i : Nat) {y : Str} {py : Pos} {elt tg iter : Expr} {ifs : List Expr} {scope : Scope} {own : List (Str × Nat)} {pos spos : Pos} {ai : AI} {sl : List Nat} {b : AB} {t : AT} {a : AE} (hy : X.N[i]? = some y) (hyl : X.env.scope.names.lookup y = some .local)
    (hsw : swapsWith (.ListComp elt [⟨tg, iter, ifs, 0⟩] scope pos) (some (.Name y py)) spos.line X.env = pure true) (hc : X.calm = true) (hN : X.N.Nodup) (hi : PI X tg iter (cI w Ec ai)) (ok : BlkOk X.N X.env.scope scope own)
    (hg : ∀ (s : Shared) (H : Hp) (C : Addr) (cl : List (Str × Addr)) (fp : List Addr), PG (X.blk s H scope (compEnvC scope cl C X.env) fp) tg (cG w sl b)) (ht : ∀ (s : Shared) (H : Hp) (C : Addr) (cl : List (Str × Addr)) (fp : List Addr), PTs (X.blk s H scope (compEnvC scope cl C X.env) fp) ifs (cT Ec.z t))
    (he : ∀ (s : Shared) (H : Hp) (C : Addr) (cl : List (Str × Addr)) (fp : List Addr), PE (X.blk s H scope (compEnvC scope cl C X.env) fp) elt (cE Ec.z a)) (hsl : ∀ i ∈ sl, i ∈ own.map (·.2) := by decide) (hs : ∀ x, foldedSetIterable iter X.env x = pure x := by intro _; rfl) :
    PS X (.Assign [.Name y py] (.ListComp elt [⟨tg, iter, ifs, 0⟩] scope pos) spos) (cS Ec (sSet i (aLc ai b t a (own.map (·.2))))) := as_asgT (ps_setLc hc hN hy hyl hsw hi ok hg ht he hs) fun _ _ _ h => lc_ok (j := i) hsl (cF_E h)
theorem as_setLc2 {w w1 : Bool} (i : Nat) {y : Str} {py : Pos} {elt tg iter tg1 iter1 : Expr} {ifs ifs1 : List Expr} {scope : Scope} {own : List (Str × Nat)} {vs1 : List Nat} {pos spos : Pos} {ai ai1 : AI} {sl sl1 : List Nat} {b b1 : AB} {t t1 : AT} {a : AE} (hy : X.N[i]? = some y) (hyl : X.env.scope.names.lookup y = some .local)
    (hsw : swapsWith (.ListComp elt [⟨tg, iter, ifs, 0⟩, ⟨tg1, iter1, ifs1, 0⟩] scope pos) (some (.Name y py)) spos.line X.env = pure true) (hc : X.calm = true) (hN : X.N.Nodup) (hi : PI X tg iter (cI w Ec ai)) (ok : BlkOk X.N X.env.scope scope own) (hv : ∀ i ∈ vs1, i ∈ own.map (·.2))
    (hg : ∀ (s : Shared) (H : Hp) (C : Addr) (cl : List (Str × Addr)) (fp : List Addr), PG (X.blk s H scope (compEnvC scope cl C X.env) fp) tg (cG w sl b)) (ht : ∀ (s : Shared) (H : Hp) (C : Addr) (cl : List (Str × Addr)) (fp : List Addr), PTs (X.blk s H scope (compEnvC scope cl C X.env) fp) ifs (cT Ec.z t))
    (hi1 : ∀ (s : Shared) (H : Hp) (C : Addr) (cl : List (Str × Addr)) (fp : List Addr), PI (X.blk s H scope (compEnvC scope cl C X.env) fp) tg1 iter1 (cI w1 Ec.z ai1))
    (hg1 : ∀ (s : Shared) (H : Hp) (C : Addr) (cl : List (Str × Addr)) (fp : List Addr), PG (X.blk s H scope (compEnvC scope cl C X.env) fp) tg1 (cG w1 sl1 b1)) (ht1 : ∀ (s : Shared) (H : Hp) (C : Addr) (cl : List (Str × Addr)) (fp : List Addr), PTs (X.blk s H scope (compEnvC scope cl C X.env) fp) ifs1 (cT Ec.z t1))
    (he : ∀ (s : Shared) (H : Hp) (C : Addr) (cl : List (Str × Addr)) (fp : List Addr), PE (X.blk s H scope (compEnvC scope cl C X.env) fp) elt (cE Ec.z a)) (hsl : ∀ i ∈ sl, i ∈ own.map (·.2) := by decide) (hsl1 : ∀ i ∈ sl1, i ∈ vs1 := by decide) (hs : ∀ x, foldedSetIterable iter X.env x = pure x := by intro _; rfl) (hs1 : ∀ env x, foldedSetIterable iter1 env x = pure x := by intro _ _; rfl) :
    PS X (.Assign [.Name y py] (.ListComp elt [⟨tg, iter, ifs, 0⟩, ⟨tg1, iter1, ifs1, 0⟩] scope pos) spos) (cS Ec (sSet i (aLc2 ai b t ai1 b1 t1 a (own.map (·.2)) vs1))) := as_asgT (ps_setLc2 hc hN hy hyl hsw hi ok hv hg ht hi1 hg1 ht1 he hs hs1) fun _ _ _ h => lc2_ok (j := i) hsl hsl1 (cF_E h)
/-! ### small calls -/
def fMin2 : List PyData → (PyData → Prop) → Prop
  | [.int i, .int j], Q => Q (.int (if j < i then j else i))
  | _, _ => False
theorem dc_min2 : DCall (fun xs H Q => ∃ i j, xs = [.int i, .int j] ∧ Q (.int (if j < i then j else i)) H) fMin2 := by
  intro bn H ds vs Q Qc nb p q k
  unfold fMin2 at q
  split at q
  · cases p with | cons p t => cases t with | cons p2 t => cases t; rw [p.int, p2.int]; exact ⟨_, _, rfl, k (.int _) _ H (.refl _) rfl q⟩
  · exact q.elim
end
end TR
namespace TR
open PySem PySem.Spec PyProof.Rows L2
section
variable {Φ : Fx} {E : OE} {s : AS} {σ : L2.St} {H : Hp}
theorem GRel.rekey {M : Addr → Prop} {H : Hp} {b b' : List Addr} : ∀ {kvs : List (PyData × List Int)} {ks : List (List Int × Addr × V)}, GRel M H b kvs ks → GRel M H b' kvs ks
  | [], _, .nil => .nil
  | _ :: _, _, .cons ⟨e1, e2, r⟩ t => .cons ⟨e1, rp_key e1 e2, r⟩ (GRel.rekey t)
/-- a new list that a slot is to hold, held for the while -/
theorem Rel.toZ {i : Nat} {l : Addr} {xs : List V} (r : Rel Φ E s σ H) (r2 : Rel Φ (E.add i l) s σ H) (e : H l = some (.lst xs)) (nb : l ∉ ban Φ E) : Rel (Φ.z l xs) E s σ H := by
  have hb : ∀ a ∈ ban (Φ.z l xs) E, a ∈ ban Φ (E.add i l) := fun a ha => by
    rcases ban_z ha with h | h
    · rw [h]; exact ban_add_self
    · exact ban_add h
  have ho := r2.own i l List.mem_cons_self
  refine ⟨r.len, fun j x h => ?_, r.dk, r.own, r.inj, r.fr, r.dk0, r.alive, fun x hx => (r2.held x hx).wk hb, fun x hx => ?_, ?_, r.tt⟩
  · obtain ⟨v, h1, h2⟩ := r.val j x h
    obtain ⟨v', h1', h2'⟩ := r2.val j x h
    rw [h1] at h1'
    cases h1'
    refine ⟨v, h1, ?_⟩
    cases x with
    | dat d => exact Rp.wk hb (show Rp H (ban Φ (E.add i l)) d v from h2')
    | own ds =>
      obtain ⟨a, ys, e1, m, g1, g2⟩ := h2
      obtain ⟨b, zs, e2, m2, g3, g4⟩ := h2'
      rw [e1] at e2
      cases e2
      exact ⟨a, zs, e1, m, g3, g4.wk hb⟩
    | dct kvs =>
      obtain ⟨a, ks, e1, m, g1, g2⟩ := h2
      obtain ⟨b, ls, e2, m2, g3, g4⟩ := h2'
      rw [e1] at e2
      cases e2
      exact ⟨a, ls, e1, m, g3, g4.wk hb⟩
    | dcn kvs =>
      obtain ⟨a, ks, e1, m, g1, g2⟩ := h2
      obtain ⟨b, ls, e2, m2, g3, g4⟩ := h2'
      rw [e1] at e2
      cases e2
      exact ⟨a, ls, e1, m, g3, g4.wk hb⟩
    | dcl kvs =>
      obtain ⟨a, ks, e1, m, g1, hn, g2⟩ := h2
      exact ⟨a, ks, e1, m, g1, hn, g2.rekey⟩
    | lck t kvs =>
      obtain ⟨a, e1, g1, g3, g2⟩ := h2'
      exact ⟨a, e1, fun z => g1 (hb _ z), g3, g2.mono (fun _ _ h => h.wk hb) fun _ _ h => h⟩
    | bor d =>
      rcases h2' with h2' | ⟨a, ds, ys, e1, e2, g1, g3, g4⟩
      · exact .inl (h2'.wk hb)
      · exact .inr ⟨a, ds, ys, e1, e2, g1, g3, g4.wk hb⟩
    | deck => exact h2
    | exc x =>
      obtain ⟨b, da, e1, e2, h3, h4⟩ := h2'
      exact ⟨b, da, e1, e2, h3.wk hb, h4⟩
  · rcases List.mem_cons.mp hx with h | h
    · subst h
      exact ⟨e, fun z => nb (List.mem_append_left _ z), ho.2.2.2⟩
    · exact r.zz x h
  · refine List.nodup_cons.mpr ⟨fun z => ?_, r.znd⟩
    exact nb (List.mem_append_right _ (List.mem_append_left _ z))
end
section
variable {X : Cx} {Ec : EC}
theorem XSim.z {Φ : Fx} {xp : XP} {D : Addr} {xs : List V} (x : XSim Φ xp Ec) : XSim (Φ.z D xs) xp Ec := ⟨x.1, fun y E s σ H da r xr h => x.2 y E s σ H da r.subZ (xr.wk fun _ h => z_ban h) h⟩
/-- a, b = new list, new list -/
def sParOO (i j : Nat) (a b : AE) : AST := fun xp D s => a xp s fun d s1 => b xp s1 fun e s2 => match d, e with
  | .list ds, .list es => (intsOf ds).isSome = true ∧ D.nx ((s2.set i (.own ds)).set j (.own es))
  | _, _ => False
theorem as_parOO {i j : Nat} {st : Stmt} {a b : AE} (hij : i ≠ j) (h : PS X st (tPar i j (tCons (cF i Ec a) (tCons (cF j Ec b) tNil)))) : PS X st (cS Ec (sParOO i j a b)) := by
  refine h.sub fun D σ H ⟨Φ, E, xp, s, Da, r, x, q, m⟩ => ⟨Φ, E, xp, s, _, r, x, q, fun ds E1 s1 l xs H1 l1 r1 r1' k1 e1 ra1 nb1 q1 => ?_⟩
  have rz := r1.toZ r1' e1 nb1
  refine ⟨Φ.z l xs, E1, xp, s1, _, rz, x.z, q1, fun es E2 s2 l' ys H2 l2 r2 r2' k2 e2 ra2 nb2 q2 => ?_⟩
  refine ⟨.ref l, .ref l', rfl, ?_⟩
  have e12 : H2 l = some (.lst xs) := (r2'.zz (l, .lst xs) List.mem_cons_self).1
  have ro := r2'.ownZ i
  obtain ⟨hi, q2⟩ := q2
  obtain ⟨ns, hns⟩ := Option.isSome_iff_exists.mp hi
  have ed := intsOf_map hns
  subst ed
  have ex := rpAll_ints ra1
  subst ex
  have rd : RpAll H2 (ban Φ ((E2.add j l').add i l)) (ns.map .int) (ns.map V.int) := RpAll.ints ns
  have hb : ∀ a ∈ ban Φ ((E2.add j l').add i l), a ∈ ban (Φ.z l (ns.map V.int)) (E2.add j l') := fun a ha => by
    rcases mem_ban_add ha with h | h
    · rw [h]; exact z_mem
    · exact z_ban h
  have s1 := ro.setX i (x := .own (ns.map .int)) (v := .ref l) ⟨l, _, rfl, List.mem_cons_self, e12, rd⟩
  have s2 := s1.setX j (x := .own es) (v := .ref l') ⟨l', ys, rfl, List.mem_cons_of_mem _ List.mem_cons_self, e2, ra2.wk hb⟩
  exact m.nx _ _ _ H2 s2 q2
/-- a, b = new list, value -/
def sParOV (i j : Nat) (a b : AE) : AST := fun xp D s => a xp s fun d s1 => b xp s1 fun e s2 => match d with
  | .list ds => (intsOf ds).isSome = true ∧ D.nx ((s2.set i (.own ds)).set j (.dat e))
  | _ => False
/-! ### {}, isinstance(x, (T, U)) -/
def aDict0 : AE := fun _ s Q => Q (.dict []) s
theorem kit_both {K : PySem.W.Frag} {t a b : String} {r1 r2 : Bool} (h1 : kitB t a = some r1) (h2 : kitB t b = some r2) : PySem.W.kitAny K (.type t) [Value.type a, Value.type b] = some (r1 || r2) := by
  unfold PySem.W.kitAny
  rw [kit_ty h1]
  cases r1 with
  | true => rfl
  | false =>
    show PySem.W.kitAny K (.type t) [Value.type b] = some r2
    unfold PySem.W.kitAny
    rw [kit_ty h2]
    cases r2 <;> rfl
def aIsi2 (T U : String) (ao : AO) : AE := fun xp s Q => ao xp s fun o s1 => rs s1 o fun d => match isiD T d, isiD U d with
  | some b, some c => Q (.bool (b || c)) s1
  | _, _ => False
theorem ae_isi2 {T U : String} {e t : Expr} {ao : AO} {p pos : Pos} (hg : Gl X "isinstance") (hm : X.mg "isinstance" = none) (he : PE X e (cO Ec ao)) (ht : PE X t (tTup (tCons (tC (.ty T)) (tCons (tC (.ty U)) tNil)))) (hs : starEach [e, t] X.env = (false, eval e X.env) :: starEach [t] X.env := by rfl) (hs2 : starEach [t] X.env = (false, eval t X.env) :: starEach [] X.env := by rfl) (hpl : (backTo pos (starEach [t] X.env)).any (·.1) = false := by rfl) :
    PE X (.Call (.Name "isinstance" p) [e, t] [] pos) (cE Ec (aIsi2 T U ao)) := by
  refine (pe_callB call_isiT hg hm (by decide +kernel) (pa_cons he (pa_cons ht pa_nil hs2) hs) (by decide) (by decide) hs hpl).sub fun σ H Q ⟨Φ, E, xp, s, Qa, r, x, q, k⟩ => ⟨Φ, E, xp, s, _, r, x, q, fun o E1 s1 v H1 l1 r1 k1 p1 q1 => ?_⟩
  obtain ⟨d, e, q1⟩ := rs_get q1
  split at q1
  · next b c hb hc =>
    refine ⟨by show 2 ≤ sizeLine; decide, fun tp htp => ?_⟩
    have m : Same H1 (upd H1 tp (.tup [.ty T, .ty U])) := same_upd htp
    exact ⟨v, tp, _, _, _, _, rfl, upd_same, .cons (.ty T) (.cons (.ty U) .nil), tyRpX ((r1.res p1 e).same m), kit_both hb hc, k (.bool _) E1 s1 _ _ l1 (r1.same m) (k1.trans l1 (KB.of_same m)) rfl q1⟩
  · exact q1.elim
end
end TR
namespace TR
open PySem PySem.Spec PyProof.Rows L2
section
variable {Q : PyData → Prop} {a b : Int} {xs ys : List PyData}
theorem vAdd_i : vAdd (.int a) (.int b) Q = Q (.int (a + b)) := rfl
theorem vAdd_t : vAdd (.tuple xs) (.tuple ys) Q = (xs.length + ys.length ≤ sizeLine ∧ Q (.tuple (xs ++ ys))) := rfl
theorem vAdd_l : vAdd (.list xs) (.list ys) Q = (xs.length + ys.length ≤ sizeLine ∧ Q (.list (xs ++ ys))) := rfl
theorem vCatL_l : vCatL (.list xs) (.list ys) Q = (xs.length + ys.length ≤ sizeLine ∧ Q (.list (xs ++ ys))) := rfl
theorem vSub_i : vSub (.int a) (.int b) Q = Q (.int (a - b)) := rfl
theorem vMul_i : vMul (.int a) (.int b) Q = (CMul a b ∧ Q (.int (a * b))) := rfl
theorem vMod_i : vMod (.int a) (.int b) Q = (0 < b ∧ Q (.int (a % b))) := rfl
theorem vDiv_i : vDiv (.int a) (.int b) Q = (CDivW a b ∧ Q (.int (a / b))) := rfl
theorem vAddI_i : vAddI (.int a) (.int b) Q = (True ∧ Q (.int (a + b))) := rfl
theorem vSubI_i : vSubI (.int a) (.int b) Q = (True ∧ Q (.int (a - b))) := rfl
theorem vLt_i : vLt (.int a) (.int b) Q = Q (.bool (decide (a < b))) := rfl
theorem vLe_i : vLe (.int a) (.int b) Q = Q (.bool (decide (a ≤ b))) := rfl
theorem vGt_i : vGt (.int a) (.int b) Q = Q (.bool (decide (b < a))) := rfl
theorem vGe_i : vGe (.int a) (.int b) Q = Q (.bool (decide (b ≤ a))) := rfl
theorem vIx_t : vIx (.tuple xs) (.int a) Q = (match atI xs a with | some d => Q d | none => False) := rfl
theorem vIx_l : vIx (.list xs) (.int a) Q = (match atI xs a with | some d => Q d | none => False) := rfl
theorem fLen_l : fLen [.list xs] Q = Q (.int (xs.length : Nat)) := rfl
theorem fLen_t : fLen [.tuple xs] Q = Q (.int (xs.length : Nat)) := rfl
theorem fTuple_l : fTuple [.list xs] Q = Q (.tuple xs) := rfl
theorem fList_t : fList [.tuple xs] Q = Q (.list xs) := rfl
end
theorem mApp_1 {ds : List PyData} {d : PyData} {Q : PyData → List PyData → Prop} : mApp ds [d] Q = (ds.length < sizeLine ∧ Q .none (ds ++ [d])) := rfl
theorem mExt_1 {ds es : List PyData} {Q : PyData → List PyData → Prop} : mExt ds [.list es] Q = (ds.length + es.length ≤ sizeLine ∧ Q .none (ds ++ es)) := rfl
theorem at_0 {α : Type} {a : α} {l : List α} : atI (a :: l) 0 = some a := atI_nat (j := 0) rfl
theorem at_1 {α : Type} {a b : α} {l : List α} : atI (a :: b :: l) 1 = some b := atI_nat (j := 1) rfl
theorem at_2 {α : Type} {a b c : α} {l : List α} : atI (a :: b :: c :: l) 2 = some c := atI_nat (j := 2) rfl
/-- while, by an invariant and a measure -/
theorem while_inv {t : AT} {b : AST} {xp : XP} {D : AEnds} (I : Nat → AS → Prop) (h : ∀ k s, I k s → ∀ N : AS → Prop, (∀ j s', j < k → I j s' → N s') → t xp s fun c s1 => if c = true then b xp { D with nx := N, ct := N, bk := D.nx } s1 else D.nx s1) {k : Nat} {s : AS} (i : I k s) : sWhile t b xp D s := by
  have key : ∀ m j s, j ≤ m → I j s → whN t b xp D (m + 1) s := by
    intro m
    induction m with
    | zero =>
      intro j s hj i
      obtain rfl : j = 0 := by omega
      exact h 0 s i _ fun j' s' hj' _ => absurd hj' (by omega)
    | succ m ih =>
      intro j s hj i
      exact h j s i _ fun j' s' hj' i' => ih j' s' (by omega) i'
  exact ⟨k + 1, key k k s (Nat.le_refl _) i⟩
end TR
namespace TR
open PySem PySem.Spec PyProof.Rows L2
/-! ### own exceptions as values -/
/-- what the making of an exception with one field leaves -/
structure Made (fn : Str) (h h' : Heap) (e C d : Addr) (v : Value) : Prop where
  keep : ∀ b o, h.get? b = some o → h'.get? b = some o
  new : h.objs.size ≤ e
  obj : ∃ oe vs, h'.get? e = some oe ∧ oe.cls = .ref C ∧ oe.dict = some d ∧ oe.data = .fields vs
  dbig : h.objs.size ≤ d
  dne : d ≠ e
  ns : h'.Ns1 d (fun y => if y = fn then some v else none)
/-- a class whose __init__ stores its one argument in the field fn -/
structure MkF (K : PySem.W.Frag) (mg : Str → Option Value) (cn fn : Str) (C : Addr) : Prop where
  gC : mg cn = some (.ref C)
  kC : PySem.W.keepIn K (.ref C) = true
  no : PySem.W.findIn K (.ref C) fn = some none
  made : ∀ (prog : Program) (w : World) (A : Around) (R : Result → Shared → Prop) (s : Shared) (v : Value), K.In s.heap → s.heap.NoLimit → A.depth + 1 < recursionLimit →
    (∀ h' tk e d, Made fn s.heap h' e C d v → R (.ok (.ret (.ref e))) { s with heap := h', toks := tk }) → codeAny (model prog w) A (.call (.ref C) ⟨[v], []⟩) R s
section
variable {X : Cx}
/-- where an exception's dict stands -/
def XdAt (H : Hp) : Option Addr → Prop
  | none => True
  | some dd => ∃ fs, H dd = some (.xd fs)
theorem XdAt.same {H H' : Hp} (s : Same H H') : ∀ {d : Option Addr}, XdAt H d → XdAt H' d
  | none, _ => trivial
  | some _, ⟨fs, h⟩ => ⟨fs, s _ _ h⟩
end
end TR
namespace TR
open PySem PySem.Spec PyProof.Rows L2
/-! ### a def that is handed the exception which the caller's suite holds -/
abbrev SpE := Value → Option Addr → Addr → Sp
structure FnE (P : Program) (w : World) (K : PySem.W.Frag) (mg : Str → Option Value) (base : Heap) (k : Nat) (f : Addr) (fd : FuncData) (ps : List Str) (sp : SpE) : Prop where
  len : ∀ c d a vs H Q E, sp c d a vs H Q E → vs.length = ps.length
  run : ∀ (A : Around) (l : List Env) (s : Shared) (H : Hp) (args : Args) (us : List Value) (vs : List V) (Q : VK) (p : Addr × Obj) (cls : Value) (d : Option Addr), L2H.RoomH k A → L2H.PinOk l H s p → Zc cls d p.2 → (∃ v, p.2.data = .fields v) →
    Env0 P w K mg base A l s H → BindsTo s fd args (ps.zip us) → Vals vs us → sp cls d p.1 vs H Q E0 → codeAny (model P w) A (.call (.ref f) args) (CR CX0 l P w H s Q E0) s
section
variable {P : Program} {w : World} {K : PySem.W.Frag} {mg : Str → Option Value} {base : Heap}
end
/-! ### in the body of such a def, and in the suite -/
section
variable {X : Cx}
end
end TR
namespace TR
open PySem PySem.Spec PyProof.Rows L2
/-- a class without __init__ of its own, which is raised -/
structure Mk0 (K : PySem.W.Frag) (mg : Str → Option Value) (cn : Str) (C : Addr) : Prop where
  g : mg cn = some (.ref C)
  k : PySem.W.keepIn K (.ref C) = true
  q : PySem.W.excIn K C [.type "ValueError", .type "Exception", .type "BaseException", .type "object"] "ValueError.__new__" = true
  b : PySem.W.subIn K (.ref C) (.type "BaseException") = some true
  t : PySem.W.typeIn K (.ref C) = some (.type "type")
end TR
namespace TR
open PySem PySem.Spec PyProof.Rows L2
/-- the classes that may be caught: what is known of them -/
structure XTab (K : PySem.W.Frag) (cs : List Addr) (cB : Addr) : Prop where
  ec : ∀ C ∈ cs, ExcC K C
  kit : ∀ C ∈ cs, ∀ D ∈ cs, PySem.W.kitOne K (.ref C) (.ref D) = some (decide (C = D))
  ve : ∀ C ∈ cs, PySem.W.kitOne K (.ref C) (.type "ValueError") = some true
  te : ∀ C ∈ cs, PySem.W.exmOne K (.ref C) (.ref cB) = some true
section
variable {X : Cx} {Ec : EC}
/-! ### raise -/
def sNever : AST := fun _ _ _ => False
theorem as_never {st : Stmt} : PS X st (cS Ec sNever) := ps_never.sub fun D σ H ⟨Φ, E, xp, s, Da, r, x, q, m⟩ => q
/-! ### try -/
/-! ### the exception in the suite -/
end
end TR
namespace TR
open PySem PySem.Spec PyProof.Rows L2
section
variable {P : Program} {w : World} {K : PySem.W.Frag} {mg : Str → Option Value} {base : Heap}
end
end TR
namespace TR
open PySem PySem.Spec PyProof.Rows L2
theorem Wf.tup {L D : Nat} {ds : List PyData} (l : ds.length ≤ L) (c : ∀ e ∈ ds, Wf L D e) : Wf L (D + 1) (.tuple ds) := .inr (.inr ⟨ds, .inr rfl, l, c⟩)
theorem Wf.lst {L D : Nat} {ds : List PyData} (l : ds.length ≤ L) (c : ∀ e ∈ ds, Wf L D e) : Wf L (D + 1) (.list ds) := .inr (.inr ⟨ds, .inl rfl, l, c⟩)
end TR
namespace TR
open PySem PySem.Spec PyProof.Rows L2
section
variable {X : Cx}
end
end TR
namespace TR
open PySem PySem.Spec PyProof.Rows L2
section
variable {X : Cx} {pins : List (Addr × Obj)} {σ : L2.St} {H : Hp} {s : Shared}
mutual
theorem Rp.rd0 {ban : List Addr} (I : Inv X pins σ H s) : ∀ (d : PyData) (v : V) (u : Value), Rp H ban d v → RelV v u → ∃ as, Reads s.heap u d as
  | .none, _, _, h, r => by cases (show _ = V.non from h); cases r; exact ⟨_, .none⟩
  | .bool b, _, _, h, r => by cases (show _ = V.bl b from h); cases r; exact ⟨_, .bool b⟩
  | .int i, _, _, h, r => by cases (show _ = V.int i from h); obtain ⟨t, rfl⟩ := r; exact ⟨_, .int i t⟩
  | .str x, _, _, h, r => by cases (show _ = V.str x from h); obtain ⟨t, rfl⟩ := r; exact ⟨_, .str x t⟩
  | .list ds, _, _, h, r => by
    obtain ⟨a, xs, rfl, h1, _, h3⟩ := h
    cases r
    obtain ⟨z, its, n, rv, e⟩ := (show ObjOk X.prog X.w H s.heap a (.lst xs) from I.hok a _ h1)
    obtain ⟨as, g⟩ := RpAll.rd0 I ds xs its h3 rv
    exact ⟨a :: as, .list e rfl rfl (by simpa using g)⟩
  | .tuple ds, _, _, h, r => by
    obtain ⟨a, xs, rfl, h1, h3⟩ := h
    cases r
    obtain ⟨z, its, rv, o, e, c, n, hd⟩ := h1.rd.ok I.hok
    obtain ⟨as, g⟩ := RpAll.rd0 I ds xs its h3 rv
    exact ⟨as, .tuple e c hd (by simpa using g)⟩
  | .dict kvs, _, _, h, r => by
    obtain ⟨rfl, a, rfl, h1, _⟩ := h
    cases r
    obtain ⟨z, hs', vs, kv, o, es, ep, e, ex, hd, _, ps, _⟩ := dk_of I.hok h1
    cases kv
    have hes : es = #[] := by
      cases es with
      | mk l =>
        cases (show Pairs _ l [] from ps)
        rfl
    subst hes
    exact ⟨[a], .dict (as := []) (bs := []) e ex.1 hd .nil .nil⟩
theorem RpAll.rd0 {ban : List Addr} (I : Inv X pins σ H s) : ∀ (ds : List PyData) (xs : List V) (us : List Value), RpAll H ban ds xs → Vals xs us → ∃ as, ReadsAll s.heap us ds as
  | [], _, _, h, r => by cases (show _ = [] from h); cases r; exact ⟨_, .nil⟩
  | d :: ds, _, _, h, r => by
    obtain ⟨v, t, rfl, h1, h2⟩ := h
    cases r with
    | cons r1 r2 =>
      obtain ⟨as, q1⟩ := Rp.rd0 I d _ _ h1 r1
      obtain ⟨bs, q2⟩ := RpAll.rd0 I ds _ _ h2 r2
      exact ⟨as ++ bs, .cons q1 q2⟩
end
/-- what repr writes of a list, of a tuple, of {} -/
theorem rk_list {h : Heap} {P : Program} {w : World} {a : Addr} {o : Obj} {its : List Value} {n : Nat} {ds : List PyData} {as bs : List Addr} (h1 : h.get? a = some o) (h2 : o.cls = .type "list") (h3 : o.data = .seq its.toArray n) (h4 : ReadsAll h its ds as) (hb : ReadAtMost h (PyData.depthAll ds) bs) (hk : ReprAllK P w bs h (PyData.depthAll ds) its (PyData.shownAll ds)) :
    a ∉ bs ∧ ReadAtMost h (PyData.list ds).depth (a :: bs) ∧ ReprK P w (a :: bs) h (PyData.list ds).depth (.ref a) (PyData.list ds).shown := by
  have r : Reads h (.ref a) (.list ds) (a :: as) := .list h1 h2 h3 (by simpa using h4)
  have hna : a ∉ bs := not_mem_of_deeper r (by simp only [PyData.depth]; omega) hb
  refine ⟨hna, ReadAtMost.cons r (by simp only [PyData.depth]; omega) hb, ?_⟩
  simp only [PyData.depth, PyData.shown]
  cases its with
  | nil =>
    cases h4
    simp only [PyData.shownAll, listText_nil]
    exact ReprK.listEmpty h1 h2 h3
  | cons x l => exact ReprK.list h1 h2 h3 hna (by simpa using hk.length_eq) (fun i y e => hk.item i y (by simpa using e))
mutual
theorem Rp.rk {ban : List Addr} (I : Inv X pins σ H s) : ∀ (d : PyData) (v : V) (u : Value), Rp H ban d v → RelV v u → d.showable = true → d.shown.length ≤ sizeLine → ∃ bs, ReadAtMost s.heap d.depth bs ∧ ReprK X.prog X.w bs s.heap d.depth u d.shown
  | .none, _, _, h, r, hs, hz => by cases (show _ = V.non from h); cases r; exact ReprK.of_reads .none hs (fun h => nomatch h) hz
  | .bool b, _, _, h, r, hs, hz => by cases (show _ = V.bl b from h); cases r; exact ReprK.of_reads (.bool b) hs (fun h => nomatch h) hz
  | .int i, _, _, h, r, hs, hz => by cases (show _ = V.int i from h); obtain ⟨t, rfl⟩ := r; exact ReprK.of_reads (.int i t) hs (fun h => nomatch h) hz
  | .str x, _, _, h, r, hs, hz => by cases (show _ = V.str x from h); obtain ⟨t, rfl⟩ := r; exact ReprK.of_reads (.str x t) hs (fun h => nomatch h) hz
  | .list ds, _, _, h, r, hs, hz => by
    obtain ⟨a, xs, rfl, h1, _, h3⟩ := h
    cases r
    obtain ⟨z, its, n, rv, e⟩ := (show ObjOk X.prog X.w H s.heap a (.lst xs) from I.hok a _ h1)
    obtain ⟨as, g⟩ := RpAll.rd0 I ds xs its h3 rv
    have hz' : (listText (PyData.shownAll ds)).length ≤ sizeLine := by simpa only [PyData.shown] using hz
    obtain ⟨bs, hb, hk⟩ := RpAll.rk I ds xs its h3 rv (by simpa [PyData.showable] using hs) fun t ht => Nat.le_trans (listText_mem_le ht) hz'
    exact ⟨_, (rk_list e rfl rfl g hb hk).2⟩
  | .tuple ds, _, _, h, r, hs, hz => by
    obtain ⟨a, xs, rfl, h1, h3⟩ := h
    cases r
    obtain ⟨z, its, rv, o, e, c, n, hd⟩ := h1.rd.ok I.hok
    obtain ⟨as, g⟩ := RpAll.rd0 I ds xs its h3 rv
    have hz' : (tupleText (PyData.shownAll ds)).length ≤ sizeLine := by simpa only [PyData.shown] using hz
    obtain ⟨bs, hb, hk⟩ := RpAll.rk I ds xs its h3 rv (by simpa [PyData.showable] using hs) fun t ht => Nat.le_trans (tupleText_mem_le ht) hz'
    have r : Reads s.heap (.ref a) (.tuple ds) as := .tuple e c hd (by simpa using g)
    have hna : a ∉ bs := not_mem_of_deeper r (by simp only [PyData.depth]; omega) hb
    refine ⟨a :: bs, ReadAtMost.cons r (by simp only [PyData.depth]; omega) hb, ?_⟩
    simp only [PyData.depth, PyData.shown]
    exact ReprK.tuple e c hd hna (by simpa using hk)
  | .dict kvs, _, _, h, r, hs, hz => by
    obtain ⟨rfl, a, rfl, h1, _⟩ := h
    cases r
    obtain ⟨z, hs', vs, kv, o, es, ep, e, ex, hd, _, ps, _⟩ := dk_of I.hok h1
    cases kv
    have hes : es = #[] := by
      cases es with
      | mk l =>
        cases (show Pairs _ l [] from ps)
        rfl
    subst hes
    exact ReprK.of_reads (.dict (as := []) (bs := []) e ex.1 hd .nil .nil) hs (fun _ => by
      simp only [List.append_nil, List.mem_cons, List.not_mem_nil, or_false]
      exact fun z => (beq_eq_false_iff_ne.mp hs') z.symm) hz
theorem RpAll.rk {ban : List Addr} (I : Inv X pins σ H s) : ∀ (ds : List PyData) (xs : List V) (us : List Value), RpAll H ban ds xs → Vals xs us → PyData.showableAll ds = true → (∀ t ∈ PyData.shownAll ds, t.length ≤ sizeLine) → ∃ bs, ReadAtMost s.heap (PyData.depthAll ds) bs ∧ ReprAllK X.prog X.w bs s.heap (PyData.depthAll ds) us (PyData.shownAll ds)
  | [], _, _, h, r, _, _ => by
    cases (show _ = [] from h); cases r
    exact ⟨[], (fun _ h => nomatch h), by simp only [PyData.shownAll]; exact .nil⟩
  | d :: ds, _, _, h, r, hs, hz => by
    obtain ⟨v, t, rfl, h1, h2⟩ := h
    have hs' : d.showable = true ∧ PyData.showableAll ds = true := by simpa [PyData.showableAll] using hs
    cases r with
    | cons r1 r2 =>
      obtain ⟨b1, hb1, k1⟩ := Rp.rk I d _ _ h1 r1 hs'.1 (hz _ (by simp only [PyData.shownAll]; exact List.mem_cons_self ..))
      obtain ⟨b2, hb2, k2⟩ := RpAll.rk I ds _ _ h2 r2 hs'.2 (fun t ht => hz t (by simp only [PyData.shownAll]; exact List.mem_cons_of_mem _ ht))
      refine ⟨b1 ++ b2, ?_, ?_⟩
      · simp only [PyData.depthAll]
        exact (hb1.mono (Nat.le_max_left _ _)).append (hb2.mono (Nat.le_max_right _ _))
      · simp only [PyData.depthAll, PyData.shownAll]
        exact .cons ((k1.more fun b hb => List.mem_append_left _ hb).level_le (Nat.le_max_left _ _)) (k2.more_le (fun b hb => List.mem_append_right _ hb) (Nat.le_max_right _ _))
end
end
section
variable {X : Cx} {Ec : EC}
end
/-! ### the law's def, where it shows by repr -/
section
variable {P : Program} {w : World} {K : PySem.W.Frag} {mg : Str → Option Value} {base : Heap}
end
end TR
namespace TR
open PySem PySem.Spec PyProof.Rows L2
section
variable {X : Cx} {k : Nat} {f : Addr} {fd : FuncData} {ps : List Str} {ms : List Md} {F : AF} {x : Str} {p pos : Pos} {e : Expr} {es : List Expr} {aa : AA}
end
end TR
namespace TR
open PySem PySem.Spec PyProof.Rows L2
section
variable {X : Cx} {pins : List (Addr × Obj)} {σ : L2.St} {H : Hp} {s : Shared}
theorem each_rp {bn : List Addr} (I : Inv X pins σ H s) : ∀ {ds : List PyData} {xs : List V} {us : List Value}, RpAll H bn ds xs → Vals xs us → PySem.W.EachIs (fun u (b : PyData × V) => RelV b.2 u ∧ Rp H bn b.1 b.2) us (ds.zip xs) ∧ PySem.W.EachIs (fun u (b : PyData × V) => ∃ as, Reads s.heap u b.1 as) us (ds.zip xs)
  | [], _, _, h, r => by cases (show _ = [] from h); cases r; exact ⟨.nil, .nil⟩
  | d :: ds, _, _, h, r => by
    obtain ⟨v, t, rfl, h1, h2⟩ := h
    cases r with
    | cons r1 r2 =>
      obtain ⟨g1, g2⟩ := each_rp I h2 r2
      exact ⟨.cons ⟨r1, h1⟩ g1, .cons (Rp.rd0 I d _ _ h1 r1) g2⟩
theorem each_out {bn : List Addr} : ∀ {us : List Value} {bs : List (PyData × V)}, PySem.W.EachIs (fun u (b : PyData × V) => RelV b.2 u ∧ Rp H bn b.1 b.2) us bs → Vals (bs.map (·.2)) us ∧ RpAll H bn (bs.map (·.1)) (bs.map (·.2))
  | _, _, .nil => ⟨.nil, rfl⟩
  | _, _, .cons h t => by
    obtain ⟨g1, g2⟩ := each_out t
    exact ⟨.cons h.1 g1, _, _, rfl, h.2, g2⟩
theorem zip_fst : ∀ {ds : List PyData} {xs : List V} {bn : List Addr}, RpAll H bn ds xs → (ds.zip xs).map (·.1) = ds
  | [], _, _, _ => rfl
  | d :: ds, _, _, h => by
    obtain ⟨v, t, rfl, _, h2⟩ := h
    show d :: (ds.zip t).map (·.1) = _
    rw [zip_fst h2]
end
section
variable {X : Cx}
def SrtOk (ds : List PyData) : Prop := PySem.W.AllAlike ds ∧ PySem.W.Sortable ds ∧ ∀ d ∈ ds, d.depth ≤ 50
abbrev srt (ds : List PyData) : List PyData := ds.mergeSort (PySem.W.dataLe false fun d => d)
def rSortedA (K : PySem.W.Frag) : List V → Hp → VK → Prop := fun vs H Q => rSortedTI K vs H Q ∨ ∃ (l : Addr) (xs : List V) (ds : List PyData) (bn : List Addr), vs = [.ref l] ∧ H l = some (.lst xs) ∧ RpAll H bn ds xs ∧ SrtOk ds ∧ ∀ ys p, RpAll H bn (srt ds) ys → H p = none → Q (.ref p) (upd H p (.lst ys))
theorem cr_sortedA (hu : X.A.units + 65 < cLine) : CallR X (.builtin "sorted") (rSortedA X.K) := by
  intro pins s σ H vs us Q I r h
  rcases h with h | ⟨l, xs, ds, bn, ev, hl, ra, ⟨hal, hso, hdp⟩, q⟩
  · exact cr_sortedTI pins s σ H vs us Q I r h
  subst ev
  rw [Vals.ref1 r]
  obtain ⟨z, its, n, rv, e⟩ := (show ObjOk X.prog X.w H s.heap l (.lst xs) from I.hok l _ hl)
  obtain ⟨g1, g2⟩ := each_rp I ra rv
  have zf := zip_fst ra
  refine PySem.W.sorted_data (enc := fun b : PyData × V => b.1) (bs := ds.zip xs) ⟨_, e, rfl, n, rfl⟩ g1 g2 (by rw [zf]; exact hal) (by rw [zf]; exact hso) (by rw [List.length_zip]; omega) (fun b hb => ?_) fun out h1 h2 => ?_
  · have : b.1 ∈ ds := zf ▸ List.mem_map_of_mem hb
    have := hdp _ this
    omega
  · obtain ⟨k1, k2⟩ := each_out h2
    obtain ⟨ep, he⟩ := PyProof.Rows.sortedAll_at s.heap its out.toArray
    have em : ((ds.zip xs).mergeSort (PySem.W.dataLe false fun b : PyData × V => b.1)).map (·.1) = srt ds := by
      have := List.map_mergeSort (r := PySem.W.dataLe false fun b : PyData × V => b.1) (s := PySem.W.dataLe false fun d : PyData => d) (f := (·.1)) (l := ds.zip xs) fun a _ b _ => rfl
      rw [this, zf]
    rw [em] at k2
    have hlen : (((ds.zip xs).mergeSort (PySem.W.dataLe false fun b : PyData × V => b.1)).map (·.2)).length ≤ sizeLine := by
      rw [List.length_map, List.length_mergeSort, List.length_zip]; omega
    exact ⟨.ref _, upd H (s.heap.objs.size + 1) (.lst _), I.laid (t' := s.toks) (fun _ _ => PyProof.Rows.sortedAll_old) (Nat.le_succ _) ⟨hlen, out, ep, k1, he⟩, rfl, q _ _ k2 (I.hok.fresh (Nat.le_succ _))⟩
def fSorted : List PyData → (PyData → Prop) → Prop
  | [.list ds], Q => SrtOk ds ∧ Q (.list (srt ds))
  | [.tuple ds], Q => ∃ ns : List Int, ds = ns.map PyData.int ∧ ∀ ms : List Int, ms.Perm ns → ms.Pairwise (· ≤ ·) → Q (.list (ms.map PyData.int))
  | _, _ => False
theorem rp_ints {H : Hp} {bn : List Addr} : ∀ {ns : List Int} {xs : List V}, RpAll H bn (ns.map PyData.int) xs → xs = ns.map V.int
  | [], _, h => h
  | n :: ns, _, h => by
    obtain ⟨v, t, rfl, h1, h2⟩ := h
    rw [rp_ints h2, show v = V.int n from h1]
    rfl
theorem ints_rp {H : Hp} {bn : List Addr} : ∀ {ns : List Int}, RpAll H bn (ns.map PyData.int) (ns.map V.int)
  | [] => rfl
  | _ :: _ => ⟨_, _, rfl, rfl, ints_rp⟩
theorem dc_sorted {K : PySem.W.Frag} : DCallF (rSortedA K) fSorted := by
  intro bn H ds vs Q Qc nb p q k
  unfold fSorted at q
  split at q
  · cases p with
    | cons p t =>
      cases t
      obtain ⟨a, xs, rfl, e, ra⟩ := p.lst
      exact .inr ⟨a, xs, _, bn, rfl, e, ra, q.1, fun ys p r hp => k _ ys p _ hp (same_upd hp) upd_same r q.2⟩
  · cases p with
    | cons p t =>
      cases t
      obtain ⟨a, xs, rfl, e, ra⟩ := p.tup
      obtain ⟨ns, rfl, q⟩ := q
      cases rp_ints ra
      exact .inl ⟨a, ns, rfl, .inl e.rd, fun ms p h1 h2 hp => k _ _ p _ hp (same_upd hp) upd_same ints_rp (q ms h1 h2)⟩
  · exact q.elim
/-! ### min, max of a list -/
theorem rp_get {H : Hp} {bn : List Addr} : ∀ {ds : List PyData} {xs : List V} {us : List Value} {i : Nat} {u : Value}, RpAll H bn ds xs → Vals xs us → us[i]? = some u → ∃ d x, ds[i]? = some d ∧ xs[i]? = some x ∧ Rp H bn d x ∧ RelV x u
  | [], _, _, _, _, h, r, e => by cases (show _ = [] from h); cases r; cases e
  | d :: ds, _, _, i, _, h, r, e => by
    obtain ⟨v, t, rfl, h1, h2⟩ := h
    cases r with
    | cons r1 r2 =>
      cases i with
      | zero => cases e; exact ⟨_, _, rfl, rfl, h1, r1⟩
      | succ i => obtain ⟨a, b, g⟩ := rp_get h2 r2 e; exact ⟨a, b, g⟩
end
end TR
namespace TR
open PySem PySem.Spec PyProof.Rows L2
section
variable {X : Cx} {Ec : EC}
end
end TR
namespace TR
open PySem PySem.Spec PyProof.Rows L2
/-! ### == and != of two texts -/
end TR
namespace TR
open PySem PySem.Spec PyProof.Rows L2
/-! ### data: small facts -/
theorem lim {n : Nat} (h : n ≤ 1000) : n ≤ sizeLine := Nat.le_of_lt (small1000 h)
theorem pow_i {a b : Int} {Q : PyData → Prop} (h : CPow a b) : vPow (.int a) (.int b) Q = Q (.int (a ^ b.toNat)) := by
  show (CPow a b ∧ Q (.int (a ^ b.toNat))) = _
  rw [eq_iff_iff]
  exact ⟨fun h => h.2, fun q => ⟨h, q⟩⟩
theorem pow_12 {Q : PyData → Prop} : vPow (.int 10) (.int 12) Q = Q (.int 1000000000000) := pow_i (by unfold CPow; decide)
theorem at_get {α : Type} {l : List α} {k : Nat} (h : k < l.length) : atI l (k : Int) = some l[k] := atI_nat (List.getElem?_eq_getElem h)
theorem at_some {l : List PyData} {r : Int} (h0 : 0 ≤ r) (h1 : r < (l.length : Int)) : ∃ d, atI l r = some d ∧ d ∈ l := by
  obtain ⟨k, rfl⟩ := Int.eq_ofNat_of_zero_le h0
  have hk : k < l.length := by omega
  exact ⟨l[k], at_get hk, List.getElem_mem hk⟩
theorem at_last {α : Type} {l : List α} {a : α} : atI (l ++ [a]) (-1) = some a := by
  unfold atI ixN
  rw [if_neg (by decide), if_pos (by rw [List.length_append, List.length_singleton]; omega)]
  show (l ++ [a])[_]? = _
  rw [show ((-1 : Int) + ((l ++ [a]).length : Nat)).toNat = l.length by rw [List.length_append, List.length_singleton]; omega]
  simp
theorem rng_d (n : Nat) : rngD 0 n = (rng n).map .int := by
  unfold rngD rng
  rw [List.map_map]
  refine List.map_congr_left fun k _ => ?_
  show PyData.int (0 + (k : Int)) = .int k
  rw [Int.zero_add]
theorem rng_d' (n : Nat) : rngD 0 ((n : Int) - 0).toNat = (rng n).map .int := by
  rw [show ((n : Int) - 0).toNat = n by omega, rng_d]
theorem ints_some (l : List Int) : (intsOf (l.map .int)).isSome = true := by rw [ints_of]; rfl
/-- what may be compared -/
def Sd (k : Nat) (d : PyData) : Prop := d.canLay0 = true ∧ d.depth ≤ k
theorem Sd.shaped {k : Nat} {d : PyData} (h : Sd k d) (hk : k ≤ 64 := by decide) : SeqAt.shaped d = true := by
  show (d.canLay0 && decide (d.depth ≤ 64)) = true
  rw [h.1, decide_eq_true (Nat.le_trans h.2 hk)]
  rfl
theorem Sd.mono {k m : Nat} {d : PyData} (h : Sd k d) (hk : k ≤ m) : Sd m d := ⟨h.1, Nat.le_trans h.2 hk⟩
theorem sd_int {k : Nat} (i : Int) : Sd k (.int i) := ⟨rfl, Nat.zero_le _⟩
theorem sd_bool {k : Nat} (b : Bool) : Sd k (.bool b) := ⟨rfl, Nat.zero_le _⟩
theorem sd_all {k : Nat} : ∀ {ds : List PyData}, (∀ d ∈ ds, Sd k d) → PyData.canLayAll0 ds = true ∧ PyData.depthAll ds ≤ k
  | [], _ => ⟨rfl, Nat.zero_le _⟩
  | d :: ds, h => by
    obtain ⟨h1, h2⟩ := sd_all fun e he => h e (List.mem_cons_of_mem _ he)
    obtain ⟨g1, g2⟩ := h d List.mem_cons_self
    refine ⟨?_, Nat.max_le.mpr ⟨g2, h2⟩⟩
    show (d.canLay0 && PyData.canLayAll0 ds) = true
    rw [g1, h1]; rfl
theorem sd_list {k : Nat} {ds : List PyData} (h : ∀ d ∈ ds, Sd k d) : Sd (k + 1) (.list ds) := by
  obtain ⟨h1, h2⟩ := sd_all h
  exact ⟨h1, by show PyData.depthAll ds + 1 ≤ _; omega⟩
theorem sd_tup {k : Nat} {ds : List PyData} (h : ∀ d ∈ ds, Sd k d) : Sd (k + 1) (.tuple ds) := by
  obtain ⟨h1, h2⟩ := sd_all h
  exact ⟨h1, by show PyData.depthAll ds + 1 ≤ _; omega⟩
/-! ### sorted ints -/
theorem sorted_uniq : ∀ {a b : List Int}, a.Perm b → a.Pairwise (· ≤ ·) → b.Pairwise (· ≤ ·) → a = b
  | [], _, p, _, _ => p.nil_eq
  | x :: a, [], p, _, _ => absurd p.length_eq (by simp)
  | x :: a, y :: b, p, ha, hb => by
    have hx : x = y := by
      have m1 : x ∈ y :: b := p.mem_iff.mp List.mem_cons_self
      have m2 : y ∈ x :: a := p.mem_iff.mpr List.mem_cons_self
      rcases List.mem_cons.mp m1 with e | m1
      · exact e
      rcases List.mem_cons.mp m2 with e | m2
      · exact e.symm
      have h1 := (List.pairwise_cons.mp hb).1 x m1
      have h2 := (List.pairwise_cons.mp ha).1 y m2
      omega
    subst hx
    rw [sorted_uniq p.cons_inv (List.pairwise_cons.mp ha).2 (List.pairwise_cons.mp hb).2]
def isort (ns : List Int) : List Int := ns.mergeSort fun a b => decide (a ≤ b)
theorem isort_perm (ns : List Int) : (isort ns).Perm ns := List.mergeSort_perm _ _
theorem isort_sorted (ns : List Int) : (isort ns).Pairwise (· ≤ ·) := by
  have := List.pairwise_mergeSort (le := fun a b : Int => decide (a ≤ b)) (fun a b c h1 h2 => by simp at *; omega) (fun a b => by simp; omega) ns
  exact this.imp fun h => by simpa using h
theorem sortedT_ok {ns : List Int} {Q : PyData → Prop} (q : Q (.list ((isort ns).map .int))) : fSorted [.tuple (ns.map .int)] Q := ⟨ns, rfl, fun ms p s => by rw [sorted_uniq (p.trans (isort_perm ns).symm) s (isort_sorted ns)]; exact q⟩
theorem sPar_v {i j : Nat} {a b : AE} {xp : XP} {D : AEnds} {s : AS} : sPar i j (lCons (oV a) (lCons (oV b) lNil)) xp D s = a xp s fun x s1 => b xp s1 fun y s2 => D.nx ((s2.set i (.dat x)).set j (.dat y)) := rfl
end TR
namespace TR
open PySem PySem.Spec PyProof.Rows L2
/-! ### dicts that are built here: keys ints or texts -/
section
variable {Φ : Fx} {E : OE} {s : AS} {σ : L2.St} {H : Hp}
end
section
variable {X : Cx} {Ec : EC}
end
end TR
namespace TR
open PySem PySem.Spec PyProof.Rows L2
/-! ### methods of lists that change nothing: count, index -/
section
variable {X : Cx} {Ec : EC}
/-! ### sorted(set(x)), x ints -/
end
end TR
namespace TR
open PySem PySem.Spec PyProof.Rows L2
theorem _root_.L2H.RoomH.units {k : Nat} {A : Around} (r : L2H.RoomH k A) : A.units + 64 < cLine := by have := r.un; omega
/-! ### a def of one parameter, the exception that the caller's suite holds -/
section
variable {P : Program} {w : World} {K : PySem.W.Frag} {mg : Str → Option Value} {base : Heap}
end
section
variable {X : Cx} {Ec : EC}
end
end TR
namespace PySem
open Sem (wp)
set_option maxHeartbeats 1000000 in
theorem meets_enum_new1 {v : Value} {o : Obj} {H : Heap → Prop} (B : Begins v o H) :
    Meets (Builtin.«enumerate.__new__» ⟨[.type "enumerate", v], []⟩) (fun _ R s => H s.heap ∧
      R (.ok (.ret (.ref (s.heap.push o).objs.size))) { s with heap := (s.heap.push o).push { cls := .type "enumerate", data := .fields #[.none, .bool false, .ref s.heap.objs.size, rawInt 0, .none, .none] } }) :=
  .of_wp fun prog w A R s h => by
    obtain ⟨hp, g, d, tk, os⟩ := s; obtain ⟨h1, h⟩ := h
    have hsub := sub_enumerate
    have q1 : ∀ {A' : Around} {E : Value → Shared → Prop} {Q : Value → Shared → Prop}, Q (.ref hp.objs.size) ⟨hp.push o, g, d, tk, os⟩ → wpAny (model prog w) A' (pyIter v) Q E ⟨hp, g, d, tk, os⟩ :=
      fun q => B.iter prog w _ _ ⟨hp, g, d, tk, os⟩ _ h1 q
    wp_walk using q1
    refine wpAny_stack_any fun st => wpAny_pure ?_
    split
    · rename_i c _ _ _ _ _
      cases (c == Value.type "enumerate")
      · wp_walk using q1
        exact ⟨_, rfl, h⟩
      · wp_walk using q1
        exact ⟨_, rfl, h⟩
    · wp_walk using q1
      exact ⟨_, rfl, h⟩
section
variable {prog : Program} {w : World} {A : Around} {E : Value → Shared → Prop} {s : Shared}
theorem call_enum1 {v : Value} {o : Obj} {H : Heap → Prop} {Q : Value → Shared → Prop} (B : Begins v o H) (h1 : H s.heap)
    (h : ∀ h', IsEnum h' (s.heap.objs.size + 1) s.heap.objs.size 0 .none → h'.get? s.heap.objs.size = some o → h'.objs.size = s.heap.objs.size + 2 →
      (∀ b o, s.heap.get? b = some o → h'.get? b = some o) → Q (.ref (s.heap.objs.size + 1)) { s with heap := h' }) :
    wpAny (model prog w) A (call (.type "enumerate") [v]) Q E s := by
  refine callType_new F.called_enumerate (by decide) (F.typeCall_enumerate_1 _) (F.newCall_enumerate_1 _) (fun obj => F.args_object_init_2 obj _) F.entry_enumerate_new
    (meets_enum_new1 B) ⟨h1, ?_⟩
  have hz : (s.heap.push o).objs.size = s.heap.objs.size + 1 := Heap.size_push ..
  show _ ∧ _
  rw [hz]
  have he : IsEnum ((s.heap.push o).push { cls := .type "enumerate", data := .fields #[.none, .bool false, .ref s.heap.objs.size, rawInt 0, .none, .none] }) (s.heap.objs.size + 1) s.heap.objs.size 0 .none := by
    have := Heap.get?_push_size (s.heap.push o) (o := { cls := .type "enumerate", data := .fields #[.none, .bool false, .ref s.heap.objs.size, rawInt 0, .none, .none] }) rfl
    rw [hz] at this; exact this
  refine ⟨⟨_, he, rfl⟩, h _ he (Heap.get?_push_of_some _ (Heap.get?_push_size _ B.free)) (by rw [Heap.size_push, hz]) fun b o x => Heap.get?_push_of_some _ (Heap.get?_push_of_some _ x)⟩
end
end PySem
namespace TR
open PySem PySem.Spec PyProof.Rows L2
/-! ### enumerate(tuple) -/
/-- the tuple at a, each item in a new pair -/
def IteT (K : PySem.W.Frag) (a : Addr) : It :=
  ⟨fun i H => ∃ (xs : List V) (x : V), SqT K H a xs ∧ xs[i]? = some x, fun i H v H' => ∃ T x, v = .ref T ∧ H T = none ∧ H' = upd H T (.tup [.int (i : Nat), x]) ∧ ∀ xs, SqT K H a xs → xs[i]? = some x, fun i H => ∃ xs : List V, SqT K H a xs ∧ xs.length = i⟩
theorem tupIter_ne {h : Heap} {it a : Addr} {i : Nat} {items : Array Value} (hit : h.IsTupleIter it a i) (ht : h.IsTuple a items) : a ≠ it := by
  rintro rfl
  obtain ⟨o, ho, _, hd⟩ := hit
  obtain ⟨o', ho', _, n, hd'⟩ := ht
  rw [ho] at ho'; cases ho'
  rw [hd] at hd'; cases hd'
theorem enum_ne {h : Heap} {e it a : Addr} {c : Int} {old : Value} {items : Array Value} (he : IsEnum h e it c old) (ht : h.IsTuple a items) : e ≠ a := by
  rintro rfl
  obtain ⟨o', ho', _, n, hd'⟩ := ht
  have he' : h.get? e = some _ := he
  rw [he'] at ho'; cases ho'
  cases hd'
theorem turn_enumT {P : Program} {w : World} {K : PySem.W.Frag} {elts : List Expr} {kk : Nat} {tpos : Pos} (a e it : Addr) :
    Turn P w K (.Tuple elts kk tpos) (IteT K a) [e, it] e (fun i h => (∃ old, IsEnum h e it ((i : Nat) : Int) old) ∧ h.IsTupleIter it a i ∧ e ≠ it) where
  mem := by simp
  obj := fun i h st b hb => by
    obtain ⟨⟨old, he⟩, ⟨o, ho, hc, hd⟩, _⟩ := st
    have e' : b = e ∨ b = it := by simpa using hb
    rcases e' with z | z
    · rw [z]; exact ⟨_, he, fun v q => nomatch q⟩
    · rw [z]; exact ⟨o, ho, fun v q => by rw [hd] at q; cases q⟩
  keep := fun i h h' st k => let ⟨⟨old, he⟩, hi, hne⟩ := st; ⟨⟨old, k e (by simp) _ he⟩, hi.at fun o q => k it (by simp) o q, hne⟩
  item := by
    intro X hP hw hK hc i pins s σ H E I hf st hg
    subst hP hw hK
    obtain ⟨⟨old, he⟩, hit, hne⟩ := st
    obtain ⟨xs, x, hq, hx⟩ := hg
    obtain ⟨its, rv, p, hz⟩ := I.tuple hq
    have p : s.heap.IsTuple a its.toArray := p
    obtain ⟨u, hu, ru⟩ := rv.get hx
    have hel : e < s.heap.objs.size := Heap.lt_size he
    have hil : it < s.heap.objs.size := by obtain ⟨_, q, _⟩ := id hit; exact Heap.lt_size q
    have hil2 : i < its.toArray.size := by
      rw [List.size_toArray]; exact (List.getElem?_eq_some_iff.mp hu).1
    refine wpAny_pyNext_enum_itemD (Draws.tuple (A := X.A.in1) (I.ok.hd hc) it a (tupIter_ne hit p) its.toArray) he ⟨hit, p⟩ hil2 hne (by
      intro m
      rcases List.mem_cons.mp m with z | m
      · exact hne z
      · exact enum_ne he p (List.mem_singleton.mp m)) fun u' h' tk hPu ho hst' hT hsz hk => ?_
    obtain ⟨hit', _⟩ := hst'
    have eu : u' = u := by
      have h2 : its.toArray[i]? = some u := by simpa using hu
      rw [h2] at hPu
      exact (Option.some.inj hPu).symm
    subst eu
    refine ⟨_, rfl, wpAny_letOwnedTupleGo_enum (s := { s with heap := h', toks := tk + 1 }) ho fun h'' he' sb => ?_⟩
    have hT2 : h''.get? s.heap.objs.size = some { cls := .type "tuple", data := .seq #[.int i tk, u'] } := (sb.2 _ (Nat.ne_of_gt hel)).trans hT
    have new : ObjOk X.prog X.w (upd H s.heap.objs.size (.tup [.int (i : Nat), x])) h'' s.heap.objs.size (.tup [.int (i : Nat), x]) :=
      ⟨by show 2 ≤ sizeLine; decide, [.int i tk, u'], .cons ⟨_, rfl⟩ (.cons ru .nil), ⟨_, hT2, rfl, _, rfl⟩⟩
    have I1 : Inv X pins σ (upd H s.heap.objs.size (.tup [.int (i : Nat), x])) { s with heap := h'', toks := tk + 1 } :=
      I.turnedNew (ch := [e, it]) (fun b ob hb q => (sb.2 b (fun z => hb (by simp [z]))).trans (hk b ob (fun z => hb (by simp [z])) (fun z => hb (by simp [z])) q)) hf (Nat.le_refl _) new
    refine ⟨.ref s.heap.objs.size, _, I1, rfl, ⟨_, x, rfl, I.hok.fresh (Nat.le_refl _), rfl, fun ys hy => by rw [I.tuple_inj hy hq]; exact hx⟩, ⟨⟨u', ?_⟩, hit'.at fun o q => (sb.2 it (Ne.symm hne)).trans q, hne⟩, fun b hb => ?_⟩
    · have e1 : ((i + 1 : Nat) : Int) = (i : Int) + 1 := by omega
      rw [e1]; exact he'
    · have hb' : b < s.heap.objs.size := by
        have e' : b = e ∨ b = it := by simpa using hb
        rcases e' with z | z
        · rw [z]; exact hel
        · rw [z]; exact hil
      rw [upd_ne (Nat.ne_of_lt hb')]
      exact (hf b hb).1
  done := by
    intro X hP hw hK hc i pins s σ H E I hf st hg
    subst hP hw hK
    obtain ⟨⟨old, he⟩, hit, hne⟩ := st
    obtain ⟨xs, hq, hx⟩ := hg
    obtain ⟨its, rv, p, hz⟩ := I.tuple hq
    have p : s.heap.IsTuple a its.toArray := p
    obtain ⟨f0, f1, f2, f3, f4, f5⟩ := hf it (by simp)
    have hl := rv.length
    have hi : i = its.toArray.size := by rw [List.size_toArray]; omega
    subst hi
    exact wpAny_pyNext_enum_endD (Draws.tuple (A := X.A.in1) (I.ok.hd hc) it a (tupIter_ne hit p) its.toArray) he ⟨hit, p⟩ fun h' eb => ⟨rfl, I.turned (t' := s.toks) (fun b o hb q => eb b o hb q) f0 f1 f3 f4 f5⟩
  self := fun A i s Q E st h => let ⟨⟨_, he⟩, _⟩ := st; wpAny_pyIter_enum he h
def iEnumT (K : PySem.W.Frag) (ta : TA) : TI := fun σ H R => ta σ H fun vs H1 => ∃ a xs, vs = [.ref a] ∧ SqT K H1 a xs ∧ R (IteT K a) H1
theorem pi_enumT {X : Cx} {e : Expr} {ta : TA} {p pos tpos : Pos} {elts : List Expr} {kk : Nat} (hg : Gl X "enumerate") (hm : X.mg "enumerate" = none) (ha : PA X [e] ta) (hs : starEach [e] X.env = [(false, eval e X.env)] := by rfl) :
    PI X (.Tuple elts kk tpos) (.Call (.Name "enumerate" p) [e] [] pos) (iEnumT X.K ta) := by
  refine ⟨fun pins s σ H R I h => ?_⟩
  refine Call_ (ld_blt I hg hm boot_enumerate (PyProof.Rows.callWith_type1 (thn (ha.run pos pins s σ H _ I h) fun us s1 ⟨vs, H1, I1, r1, q1⟩ => ?_) hs rfl))
  obtain ⟨a, xs, ex, hq, q⟩ := q1
  subst ex
  cases r1 with
  | cons r rr =>
    cases rr
    cases r
    obtain ⟨its, rv, p', hz⟩ := I1.tuple hq
    refine call_enum1 (begins_tuple a its.toArray) p' fun h' he hit hsz hk => wpAny_pyIter_enum he ?_
    have I2 : Inv X pins σ H1 { s1 with heap := h' } := I1.kept (t' := s1.toks) hk
    refine ⟨s1.heap.objs.size + 1, [s1.heap.objs.size + 1, s1.heap.objs.size], _, _, H1, rfl, I2, turn_enumT a (s1.heap.objs.size + 1) s1.heap.objs.size, ⟨⟨.none, he⟩, ⟨_, hit, rfl, rfl⟩, Nat.succ_ne_self _⟩, fun b hb => ?_, q⟩
    have e' : b = s1.heap.objs.size + 1 ∨ b = s1.heap.objs.size := by simpa using hb
    have hle : s1.heap.objs.size ≤ b := by
      rcases e' with z | z
      · rw [z]; exact Nat.le_add_right _ _
      · rw [z]; exact Nat.le_refl _
    exact I1.fpOk hle (I1.hok.fresh hle)
end TR
namespace TR
open PySem PySem.Spec PyProof.Rows L2
/-! ### enumerate of a tuple, of a list; str of an int -/
def enD (L : List PyData) : List PyData := L.zipIdx.map fun p => .tuple [.int (p.2 : Nat), p.1]
theorem enD_at {L : List PyData} {i : Nat} {d : PyData} (h : (enD L)[i]? = some d) : ∃ e, L[i]? = some e ∧ d = .tuple [.int (i : Nat), e] := by
  unfold enD at h
  rw [List.getElem?_map, List.getElem?_zipIdx] at h
  cases e : L[i]? with
  | none => rw [e] at h; cases h
  | some x =>
    rw [e] at h
    simp at h
    exact ⟨x, rfl, h.symm⟩
theorem enD_len (L : List PyData) : (enD L).length = L.length := by unfold enD; rw [List.length_map, List.length_zipIdx]
section
variable {X : Cx} {Ec : EC}
def iEnT (a : AE) : AI := fun xp s Q => a xp s fun d s1 => match d with
  | .tuple L => Q (.fix (enD L)) s1
  | _ => False
theorem jo_en {H : Hp} {bn : List Addr} {L : List PyData} {xs : List V} {T : Addr} {i : Nat} {d : PyData} {x : V} {H2 : Hp} (ra : RpAll H bn L xs) (hd : (enD L)[i]? = some d) (hT : H T = none) (e : H2 = upd H T (.tup [.int (i : Nat), x])) (hx : xs[i]? = some x) : Same H H2 ∧ RpW true H2 bn d (.ref T) := by
  obtain ⟨y, hy, rfl⟩ := enD_at hd
  obtain ⟨z, hz, rp⟩ := ra.at hy
  rw [hx] at hz
  cases hz
  subst e
  have m : Same H (upd H T (.tup [.int (i : Nat), x])) := same_upd hT
  exact ⟨m, T, [.int (i : Nat), x], _, rfl, rfl, upd_same, ⟨_, _, rfl, rfl, _, _, rfl, rp.same m, rfl⟩⟩
theorem ai_enT {e : Expr} {a : AE} {p pos tpos : Pos} {elts : List Expr} {kk : Nat} (hg : Gl X "enumerate") (hm : X.mg "enumerate" = none) (ha : PE X e (cE Ec a)) (hs : starEach [e] X.env = [(false, eval e X.env)] := by rfl) (hs2 : starEach [e] X.env = (false, eval e X.env) :: starEach [] X.env := by rfl) : PI X (.Tuple elts kk tpos) (.Call (.Name "enumerate" p) [e] [] pos) (cI true Ec (iEnT a)) := (pi_enumT hg hm (pa_cons ha pa_nil hs2) hs).sub fun σ H R ⟨Φ, E, xp, s, Qa, r, x, q, k⟩ => by
  refine ⟨Φ, E, xp, s, _, r, x, q, fun d E1 s1 v H1 l1 r1 k1 p1 q1 => ?_⟩
  split at q1
  · next L =>
    obtain ⟨b, xs, rfl, ea, ra⟩ := p1
    refine ⟨b, xs, rfl, .inl ea.rd, k (.fix (enD L)) E1 s1 _ H1 [(.dat (.tuple L) (.ref b))] l1 r1 k1 (fun Φ E s σ1 H _ hh _ i => ?_) (fun x hx => ?_) q1⟩
    · obtain ⟨c, ys, e, eb, rb⟩ := hh (.dat (.tuple L) (.ref b)) List.mem_cons_self
      cases e
      have sq : SqT X.K H b ys := .inl eb.rd
      refine ⟨fun d hd => ?_, fun hi => ⟨ys, sq, by rw [rb.len, ← enD_len]; first | exact hi | exact Nat.le_of_eq hi⟩⟩
      obtain ⟨y, hy, _⟩ := enD_at hd
      obtain ⟨z, hz, _⟩ := rb.at hy
      refine ⟨⟨ys, z, sq, hz⟩, fun v H2 ⟨T, w, e1, e2, e3, e4⟩ => ?_⟩
      subst e1
      exact jo_en rb hd e2 e3 (e4 ys sq)
    · rw [List.mem_singleton.mp hx]
      exact ⟨b, xs, rfl, ea, ra⟩
  · exact q1.elim
end
/-! ### x == [], x == (), whatever stands in x -/
section
variable {X : Cx}
theorem op_eqT0 (hu : X.A.units < cLine) : OpR X (compareOp .Eq) (fun x y H Q => ∃ a b xs, x = .ref a ∧ y = .ref b ∧ SqT X.K H a xs ∧ SqT X.K H b [] ∧ Q (.bl xs.isEmpty) H) := by
  intro pins s σ H x y v u Q I rx ry ⟨a, b, xs, ex, ey, ha, hb, q⟩
  subst ex ey; cases rx; cases ry
  obtain ⟨its, r1, p1, _⟩ := I.tuple ha
  obtain ⟨its2, r2, p2, _⟩ := I.tuple hb
  cases r2
  have h := SeqAt.RcAt.tuples (A := X.A) (s := s) (e := fun _ => true) p1 p2 hu (fun j _ j2 => absurd j2 (by simp))
  cases r1 with
  | nil => exact h _ _ _ _ ⟨.bl true, H, I, rfl, q⟩
  | cons _ _ => exact h _ _ _ _ ⟨.bl false, H, I, rfl, q⟩
end
def vEqE : PyData → PyData → (PyData → Prop) → Prop
  | .list ds, .list [], Q => Q (.bool ds.isEmpty)
  | .tuple ds, .tuple [], Q => Q (.bool ds.isEmpty)
  | _, _, _ => False
def vNeE : PyData → PyData → (PyData → Prop) → Prop
  | .list ds, .list [], Q => Q (.bool (!ds.isEmpty))
  | .tuple ds, .tuple [], Q => Q (.bool (!ds.isEmpty))
  | _, _, _ => False
def rEmp (K : PySem.W.Frag) (g : Bool → Bool) : R2 := fun x y H Q => (∃ a b xs, x = .ref a ∧ y = .ref b ∧ SqL K H a xs ∧ SqL K H b [] ∧ Q (.bl (g xs.isEmpty)) H) ∨ ∃ a b xs, x = .ref a ∧ y = .ref b ∧ SqT K H a xs ∧ SqT K H b [] ∧ Q (.bl (g xs.isEmpty)) H
theorem op_eqE {X : Cx} (hu : X.A.units + 64 < cLine) : OpR X (compareOp .Eq) (rEmp X.K id) := (op_eqL0 (by omega)).or (op_eqT0 (by omega))
theorem op_neE {X : Cx} (hu : X.A.units + 64 < cLine) : OpR X (compareOp .NotEq) (rEmp X.K (!·)) := (op_neL0 (by omega)).or (op_neT0 (by omega))
theorem emp_len2 {ds : List PyData} {xs : List V} (h : xs.length = ds.length) : xs.isEmpty = ds.isEmpty := by
  cases ds <;> cases xs <;> first | rfl | (simp at h)
theorem dop_emp {K : PySem.W.Frag} {g : Bool → Bool} {f : PyData → PyData → (PyData → Prop) → Prop} (hf : ∀ d e Q, f d e Q → (∃ ds, (d = .list ds ∧ e = .list [] ∨ d = .tuple ds ∧ e = .tuple []) ∧ Q (.bool (g ds.isEmpty)))) : DOp (rEmp K g) f := by
  intro bn H d1 d2 v1 v2 Q Qc nb p1 p2 q k
  obtain ⟨ds, ⟨rfl, rfl⟩ | ⟨rfl, rfl⟩, q2⟩ := hf _ _ _ q
  · obtain ⟨a, xs, rfl, ea, ra⟩ := p1.lst
    obtain ⟨b, ys, rfl, eb, rb⟩ := p2.lst
    cases rb
    exact .inl ⟨a, b, xs, rfl, rfl, sqL ea, sqL eb, by rw [emp_len2 ra.len]; exact k (.bool _) _ H (.refl _) rfl q2⟩
  · obtain ⟨a, xs, rfl, ea, ra⟩ := p1.tup
    obtain ⟨b, ys, rfl, eb, rb⟩ := p2.tup
    cases rb
    exact .inr ⟨a, b, xs, rfl, rfl, .inl ea.rd, .inl eb.rd, by rw [emp_len2 ra.len]; exact k (.bool _) _ H (.refl _) rfl q2⟩
theorem dop_eqE {K : PySem.W.Frag} : DOp (rEmp K id) vEqE := dop_emp fun d e Q q => by
  unfold vEqE at q
  split at q
  · exact ⟨_, .inl ⟨rfl, rfl⟩, q⟩
  · exact ⟨_, .inr ⟨rfl, rfl⟩, q⟩
  · exact q.elim
theorem dop_neE {K : PySem.W.Frag} : DOp (rEmp K (!·)) vNeE := dop_emp fun d e Q q => by
  unfold vNeE at q
  split at q
  · exact ⟨_, .inl ⟨rfl, rfl⟩, q⟩
  · exact ⟨_, .inr ⟨rfl, rfl⟩, q⟩
  · exact q.elim
end TR
namespace TR
open PySem PySem.Spec PyProof.Rows L2
/-! ### max(list, key=len) -/
def LenAt (h : Heap) (v : Value) (n : Nat) : Prop := (n : Int) < 2 ^ 63 ∧ ∃ (p : Addr) (vs : Array Value), v = .ref p ∧ vs.size = n ∧ (h.IsList p vs ∨ IsTup h p vs)
theorem LenAt.keep {h h' : Heap} {v : Value} {n : Nat} (x : LenAt h v n) (k : ∀ b o, h.get? b = some o → h'.get? b = some o) : LenAt h' v n := by
  obtain ⟨a, p, vs, e, e2, q⟩ := x
  refine ⟨a, p, vs, e, e2, q.imp (fun ⟨o, ho, r⟩ => ⟨o, k _ _ ho, r⟩) fun z => z.keeps k⟩
section
variable {prog : Program} {w : World} {A : Around} {s : Shared} {E : Value → Shared → Prop}
end
section
variable {X : Cx}
end
/-! ### min(a, b) of data -/
section
variable {prog : Program} {w : World} {A : Around} {s : Shared} {E : Value → Shared → Prop}
theorem call_min_twoH {a b : Value} {Q : Value → Shared → Prop}
    (h : wpAny (model prog w) A.in1 (pyIter (.ref s.heap.objs.size)) (fun it s₂ => ∃ I fp wr G n P St H bt, it = .ref I ∧ WalksS prog w A.in1 I fp wr G n P St ∧ St 0 s₂ ∧ (∀ b ∈ fp, b < s₂.heap.objs.size) ∧ 0 < n ∧
      (∀ b o, H.get? b = some o → b ∉ wr) ∧ (∀ b o, H.get? b = some o → s₂.heap.get? b = some o) ∧ PySem.CmpIn prog w A.in1 .Lt H P bt ∧ ∀ v s', P (PySem.argBest bt (n - 1)) v → Moved wr G s₂ s' → Q v s') E
      { s with heap := s.heap.push { cls := .type "tuple", data := .seq #[a, b] } }) :
    wpAny (model prog w) A (call (.builtin "min") [a, b]) Q E s := by
  have hname : (toString "min" ++ toString ".loop" : String) = "min.loop" := by decide
  refine call_function_tree F.kind_min F.plain_min F.entry_min (F.args_min2 _ _) ?_
  show wpAny _ A.in1 (Builtin.Builtins.bindParams "min" ["key", "default"] 0 ⟨[], []⟩ >>= _) _ _ s
  refine wpAny_bind (wpAny_of_eq (show Builtin.Builtins.bindParams "min" ["key", "default"] 0 ⟨[], []⟩ = pure [none, none] from rfl) ?_)
  show wpAny _ A.in1 (newTuple [a, b] >>= _) _ _ s
  refine wpAny_bind (wpAny_newObj_type ?_)
  refine wpAny_bind (wpAny_mono h (fun it s₂ h₂ => ?_) fun _ _ e => e)
  obtain ⟨I, fp, wr, G, n, P, St, H, bt, rfl, W, hst, hfp, hn, hw, hkeep, hcmp, hQ⟩ := h₂
  refine wpAny_bind (wpAny_newObj_type ?_)
  have hSf : s₂.heap.objs.size ∉ fp := fun hm => Nat.lt_irrefl _ (hfp _ hm)
  rw [hname]
  refine wpAny_pure ⟨plainId_quiet F.plain_min_loop _, codeAny_min_loop_firstH W H hw bt hcmp s₂.heap.objs.size hSf (fresh_in hkeep) _ hn (fun b o e => Heap.get?_push_of_some _ (hkeep b o e)) (W.frame 0 s₂ _ s₂.toks hst (Nat.le_refl _) fun b _ o e => Heap.get?_push_of_some _ e) (Heap.get?_push_size _ rfl) fun v s' hP hm => ?_⟩
  exact hQ v s' hP (Moved.drop_new (tk := s₂.toks) hm (Nat.le_refl _))
theorem min_two_data {a b : Value} {x y : PyData} {as : List Addr} {Q : Value → Shared → Prop} (hh : A.handled = none) (hr : ReadsAll s.heap [a, b] [x, y] as) (ha : PySem.W.AlikeAll [x, y]) (hu : A.units + 1 + PyData.depthAll [x, y] < cLine)
    (h : ∀ (i : Nat) v h' tk bs, [a, b][i]? = some v → Reads h' v (PySem.W.minD x [y]) bs → (∀ b o, s.heap.get? b = some o → h'.get? b = some o) → Q v { s with heap := h', toks := tk }) :
    wpAny (model prog w) A (call (.builtin "min") [a, b]) Q E s := by
  refine call_min_twoH ?_
  have hT : (s.heap.push { cls := .type "tuple", data := .seq #[a, b] }).IsTuple s.heap.objs.size #[a, b] := ⟨_, Heap.get?_push_size _ rfl, rfl, 0, rfl⟩
  have kp : ∀ c o, s.heap.get? c = some o → (s.heap.push { cls := .type "tuple", data := .seq #[a, b] }).get? c = some o := fun c o e => Heap.get?_push_of_some _ e
  have hr1 : ReadsAll (s.heap.push { cls := .type "tuple", data := .seq #[a, b] }) (#[a, b] : Array Value).toList [x, y] as := ReadsAll.keeps kp hr
  refine PySem.W.iter_tupleW (A := A.in1) hh hT fun s₂ e W st hfp hw hk => ?_
  refine ⟨_, _, _, _, _, _, _, (s.heap.push { cls := .type "tuple", data := .seq #[a, b] }), _, rfl, W, st, hfp, by simp, hw, hk, PySem.W.cmpIn_lt (s := { s with heap := s.heap.push { cls := .type "tuple", data := .seq #[a, b] } }) (A := A.in1) hr1 ha (by show A.units + 1 + _ < _; exact hu), fun v s' hP m => ?_⟩
  obtain ⟨h', tk, rfl, hk'⟩ := PySem.W.moved_old (s := { s with heap := s.heap.push { cls := .type "tuple", data := .seq #[a, b] } }) e rfl m
  obtain ⟨bs, r, _, _, _⟩ := PySem.W.readsAll_atA hr1 _ v hP
  have e2 := (PySem.W.argBest_fold PySem.W.dataLt PyData.none x [y] 1 (Nat.le_refl _)).2
  rw [show [y].take 1 = [y] from rfl] at e2
  have hP2 : [a, b][PySem.argBest (fun i j => PySem.W.dataLt ([x, y].getD i PyData.none) ([x, y].getD j PyData.none)) 1]? = some v := by
    rw [← Array.getElem?_toList] at hP
    exact hP
  refine h _ v h' tk bs hP2 (PySem.W.reads_keeps hk' (by unfold PySem.W.minD; rw [← e2]; exact r)) fun c o ec => hk' c o (kp c o ec)
end
section
variable {X : Cx}
def rMin2A : List V → Hp → VK → Prop := fun vs H Q => ∃ (v1 v2 : V) (d1 d2 : PyData) (bn : List Addr), vs = [v1, v2] ∧ Rp H bn d1 v1 ∧ Rp H bn d2 v2 ∧ PySem.W.AlikeAll [d1, d2] ∧ PyData.depthAll [d1, d2] ≤ 50 ∧ ∀ y, Rp H bn (PySem.W.minD d1 [d2]) y → Q y H
theorem cr_min2A (hc : X.calm = true) (hu : X.A.units + 65 < cLine) : CallR X (.builtin "min") rMin2A := by
  intro pins s σ H vs us Q I r ⟨v1, v2, d1, d2, bn, ev, r1, r2, hal, hdp, q⟩
  subst ev
  have ra : RpAll H bn [d1, d2] [v1, v2] := ⟨v1, [v2], rfl, r1, v2, [], rfl, r2, rfl⟩
  obtain ⟨as, rd⟩ := RpAll.rd0 I _ _ us ra r
  obtain ⟨u1, u2, rfl, _, _⟩ := vals2 r
  refine min_two_data (I.ok.hd hc) rd hal (by omega) fun i v h' tk bs e1 e2 kp => ?_
  obtain ⟨a, x, _, _, rp, rl⟩ := rp_get ra r (i := i) (u := v) (by simpa using e1)
  obtain ⟨cs, r1⟩ := Rp.rd0 I a x v rp rl
  obtain ⟨e3, _⟩ := reads_det (fun b o e _ => kp b o e) r1 e2
  exact ⟨x, H, I.kept (t' := tk) kp, rl, q x (e3 ▸ rp)⟩
def fMin2A : List PyData → (PyData → Prop) → Prop
  | [.tuple a, .tuple b], Q => PySem.W.AlikeAll [.tuple a, .tuple b] ∧ PyData.depthAll [.tuple a, .tuple b] ≤ 50 ∧ Q (PySem.W.minD (.tuple a) [.tuple b])
  | _, _ => False
theorem dc_min2A : DCall rMin2A fMin2A := by
  intro bn H ds vs Q Qc nb p q k
  unfold fMin2A at q
  split at q
  · cases p with
    | cons p t =>
      cases t with
      | cons p2 t2 =>
        cases t2
        refine ⟨_, _, _, _, bn, rfl, ?_, ?_, q.1, q.2.1, fun y r => k _ y H (.refl _) r q.2.2⟩
        · rcases p with h | ⟨_, _, _, e, _⟩
          · exact h
          · cases e
        · rcases p2 with h | ⟨_, _, _, e, _⟩
          · exact h
          · cases e
  · exact q.elim
end
/-! ### max by len, as an expression -/
section
variable {X : Cx} {x ln nm : Str} {p pos lp kp : Pos} {e : Expr} {t : TA} {r : List V → Hp → VK → Prop}
end
def tl : PyData → Bool
  | .tuple _ => true
  | .list _ => true
  | _ => false
end TR
namespace TR
open PySem PySem.Spec PyProof.Rows L2
end TR
namespace TR
open PySem PySem.Spec PyProof.Rows L2
/-! ### x or y, as a value -/
section
variable {X : Cx} {Ec : EC}
end
end TR
namespace TR
open PySem PySem.Spec PyProof.Rows L2
/-! ### a < b < c < d, as a value -/
section
variable {X : Cx}
end
section
variable {X : Cx} {Ec : EC}
def a4 (f g h : PyData → PyData → (PyData → Prop) → Prop) (aa ab ac ad : AO) : AE := fun xp s Q => aa xp s fun o1 s1 => ab xp s1 fun o2 s2 => rs s2 o1 fun d1 => rs s2 o2 fun d2 => f d1 d2 fun z => aB z fun k => if k = true then ac xp s2 fun o3 s3 => rs s3 o2 fun e2 => rs s3 o3 fun e3 => g e2 e3 fun z2 => aB z2 fun k2 => if k2 = true then ad xp s3 fun o4 s4 => rs s4 o3 fun g3 => rs s4 o4 fun g4 => h g3 g4 fun r => Q r s4 else Q (.bool false) s3 else Q (.bool false) s2
end
end TR
namespace TR
open PySem PySem.Spec PyProof.Rows L2
/-! ### {k1: v1, k2: v2}.get(x, z), the keys texts, the values ints -/
section
variable {X : Cx} {Ec : EC}
end
end TR
namespace TR
open PySem PySem.Spec PyProof.Rows L2
section
variable {X : Cx}
end
end TR
namespace TR
open PySem PySem.Spec PyProof.Rows L2
/-! ### sorted(set(t)), t a tuple of ints -/
section
variable {X : Cx} {x y : Str} {p1 p2 c1 c2 : Pos} {e : Expr} {t : TA}
end
end TR
namespace TR
open PySem PySem.Spec PyProof.Rows L2
/-! ### set(l), l a list of ints -/
section
variable {P : Program} {w : World} {A : Around} {E : Value → Shared → Prop} {s : Shared}
end
section
variable {X : Cx}
end
/-! ### sorted(set(x)), x a list or a tuple of ints -/
section
variable {X : Cx} {x y : Str} {p1 p2 c1 c2 : Pos} {e : Expr} {t : TA}
end
end TR
namespace TR
open PySem PySem.Spec PyProof.Rows L2
/-! ### // by a divisor of either sign -/
section
variable {X : Cx}
end
end TR
namespace TR
open PySem PySem.Spec PyProof.Rows L2
/-! ### zip of two lists, of two tuples -/
section
variable {X : Cx} {Ec : EC}
end
end TR
namespace TR
open PySem PySem.Spec PyProof.Rows L2
/-! ### native values: how they stand as data -/
abbrev eD : PyData → PyData := fun d => d
abbrev eN : Unit → PyData := fun _ => .none
abbrev eQ {α : Type} (f : α → PyData) (l : List α) : PyData := .tuple (l.map f)
abbrev eL {α : Type} (f : α → PyData) (l : List α) : PyData := .list (l.map f)
abbrev eP {α β : Type} (f : α → PyData) (g : β → PyData) (p : α × β) : PyData := .tuple [f p.1, g p.2]
def eM {α : Type} (f : α → PyData) : Option α → PyData
  | none => .none
  | some x => f x
/-! ### what is computed, and the state behind it -/
def EV (a : AE) (s : AS) (d : PyData) (s' : AS) : Prop := ∀ xp Q, Q d s' → a xp s Q
def OV (a : AO) (s : AS) (o : Op) (s' : AS) : Prop := ∀ xp Q, Q o s' → a xp s Q
def TV (a : AT) (s : AS) (b : Bool) (s' : AS) : Prop := ∀ xp Q, Q b s' → a xp s Q
def LV (a : AA) (s : AS) (os : List Op) (s' : AS) : Prop := ∀ xp Q, Q os s' → a xp s Q
def IV (a : AI) (s : AS) (it : AIt) (s' : AS) : Prop := ∀ xp Q, Q it s' → a xp s Q
def BV (b : AB) (d : PyData) (s s' : AS) : Prop := ∀ Q : AS → Prop, Q s' → b d s Q
def VF (f : PyData → PyData → (PyData → Prop) → Prop) (d e r : PyData) : Prop := ∀ Q : PyData → Prop, Q r → f d e Q
def FV (f : List PyData → (PyData → Prop) → Prop) (ds : List PyData) (r : PyData) : Prop := ∀ Q : PyData → Prop, Q r → f ds Q
def PFn (F : AF) (ds : List PyData) (r : PyData) : Prop := ∀ n (Q : PyData → Nat → Prop) X, Q r n → F ds n Q X
section
variable {s s1 s2 s3 : AS} {d e r : PyData} {i : Nat}
theorem ev_c : EV (aC d) s d s := fun _ _ h => h
theorem ev_var (i : Nat) (h : s.sl[i]? = some (some (.dat d))) : EV (aVar i) s d s := fun _ _ q => by
  unfold aVar; rw [h]; exact q
theorem ov_dat (i : Nat) (h : s.sl[i]? = some (some (.dat d))) : OV (oVar i) s (.val d) s := fun _ _ q => by
  unfold oVar; rw [h]; exact q
theorem ov_own (i : Nat) {ds : List PyData} (h : s.sl[i]? = some (some (.own ds))) : OV (oVar i) s (.slot i) s := fun _ _ q => by
  unfold oVar; rw [h]; exact q
theorem ov_V {a : AE} (h : EV a s d s1) : OV (oV a) s (.val d) s1 := fun xp _ q => h xp _ q
theorem rs_of {o : Op} (h : res s o = some d) {k : PyData → Prop} (q : k d) : rs s o k := by unfold rs; rw [h]; exact q
theorem ev_a2 {f : PyData → PyData → (PyData → Prop) → Prop} {aa ab : AO} {o1 o2 : Op} (h1 : OV aa s o1 s1) (h2 : OV ab s1 o2 s2) (r1 : res s2 o1 = some d) (r2 : res s2 o2 = some e) (hf : VF f d e r) : EV (a2 f aa ab) s r s2 := fun xp Q q => h1 xp _ (h2 xp _ (rs_of r1 (rs_of r2 (hf _ q))))
theorem ev_a3 {f g : PyData → PyData → (PyData → Prop) → Prop} {aa ab ac : AO} {o1 o2 o3 : Op} {d3 : PyData} {b1 b2 : Bool} (h1 : OV aa s o1 s) (h2 : OV ab s o2 s) (r1 : res s o1 = some d) (r2 : res s o2 = some e) (hf : VF f d e (.bool b1)) (h3 : b1 = true → OV ac s o3 s) (r3 : res s o3 = some d3) (hg : b1 = true → VF g e d3 (.bool b2)) : EV (a3 f g aa ab ac) s (.bool (b1 && b2)) s := fun xp Q q => h1 xp _ (h2 xp _ (rs_of r1 (rs_of r2 (hf _ (by
  show aB (.bool b1) _
  unfold aB
  cases b1 with
  | true => exact iteT (h3 rfl xp _ (rs_of r2 (rs_of r3 (hg rfl _ q))))
  | false => exact iteF q)))))
theorem tv_V {a : AE} {b : Bool} (h : EV a s (.bool b) s1) : TV (tV a) s b s1 := fun xp _ q => h xp _ q
theorem tv_yes : TV tYesA s true s := fun _ _ q => q
theorem tv_tru {a : AO} {o : Op} {b : Bool} (h : OV a s o s1) (r : res s1 o = some d) (t : truD d = some b) : TV (tTruA a) s b s1 := fun xp _ q => h xp _ (rs_of r (by rw [t]; exact q))
theorem tv_not {t : AT} {b : Bool} (h : TV t s b s1) : TV (tNotA t) s (!b) s1 := fun xp _ q => h xp _ q
theorem tv_and {t u : AT} {b c : Bool} (h : TV t s b s) (g : b = true → TV u s c s) : TV (tAndA t u) s (b && c) s := fun xp _ q => h xp _ (by
  cases b with
  | true => exact iteT (g rfl xp _ q)
  | false => exact iteF q)
theorem tv_or {t u : AT} {b c : Bool} (h : TV t s b s) (g : b = false → TV u s c s) : TV (tOrA t u) s (b || c) s := fun xp _ q => h xp _ (by
  cases b with
  | true => exact iteT q
  | false => exact iteF (g rfl xp _ q))
theorem ev_and {t u : AE} {b c : Bool} (h : EV t s (.bool b) s) (g : b = true → EV u s (.bool c) s) : EV (aAnd t u) s (.bool (b && c)) s := fun xp _ q => h xp _ (by
  show aB (.bool b) _
  unfold aB
  cases b with
  | true => exact iteT (g rfl xp _ q)
  | false => exact iteF q)
theorem ev_not {t : AE} {b : Bool} (h : EV t s (.bool b) s1) : EV (aNot t) s (.bool (!b)) s1 := fun xp _ q => h xp _ q
theorem ev_if {α : Type} (f : α → PyData) {t : AT} {a b : AE} {c : Bool} {x y : α} (h : TV t s c s) (ha : c = true → EV a s (f x) s) (hb : c = false → EV b s (f y) s) : EV (aIfE t a b) s (f (bif c then x else y)) s := fun xp _ q => h xp _ (by
  cases c with
  | true => exact iteT (ha rfl xp _ q)
  | false => exact iteF (hb rfl xp _ q))
theorem lv_nil : LV lNil s [] s := fun _ _ q => q
theorem lv_cons {a : AO} {r : AA} {o : Op} {os : List Op} (h : OV a s o s1) (g : LV r s1 os s2) : LV (lCons a r) s (o :: os) s2 := fun xp _ q => h xp _ (g xp _ q)
theorem ev_tup {a : AA} {os : List Op} {ds : List PyData} (h : LV a s os s1) (hv : ∀ k, k ds → rv os k) (hl : Nat.ble ds.length 1000 = true) : EV (aTup a) s (.tuple ds) s1 := fun xp _ q => h xp _ (hv _ ⟨lim (Nat.le_of_ble_eq_true hl), q⟩)
theorem ev_lst {a : AA} {os : List Op} {ds : List PyData} (h : LV a s os s1) (hv : ∀ k, k ds → rv os k) (hl : Nat.ble ds.length 1000 = true) : EV (aLst a) s (.list ds) s1 := fun xp _ q => h xp _ (hv _ ⟨lim (Nat.le_of_ble_eq_true hl), q⟩)
theorem ev_call0 {ms : List Md} {F : AF} {a : AA} {os : List Op} {ds : List PyData} (h : LV a s os s1) (hr : ∀ k, k ds → rm ms s1 os k) (hF : PFn F ds r) : EV (aCall0 ms (calm F) a) s r s1 := fun xp _ q => h xp _ (hr _ (hF _ _ _ q))
theorem ev_callG {ms : List Md} {F : AF} {a : AA} {os : List Op} {ds : List PyData} (h : LV a s os s1) (hr : ∀ k, k ds → rm ms s1 os k) (hF : PFn F ds r) : EV (aCall ms (calm F) a) s r s1 := fun xp _ q => h xp _ (hr _ (hF _ _ _ q))
theorem ev_blt {f : List PyData → (PyData → Prop) → Prop} {a : AA} {os : List Op} {ds : List PyData} (h : LV a s os s1) (hr : ∀ k, k ds → rsl s1 os k) (hf : FV f ds r) : EV (aBlt f a) s r s1 := fun xp _ q => h xp _ (hr _ (hf _ q))
theorem rsl_cons {o : Op} {os : List Op} {ds : List PyData} (h : res s o = some d) (g : ∀ k : List PyData → Prop, k ds → rsl s os k) : ∀ k : List PyData → Prop, k (d :: ds) → rsl s (o :: os) k := fun k q => rs_of h (g (fun ds => k (d :: ds)) q)
theorem ev_isi {T : String} {a : AO} {o : Op} {b : Bool} (h : OV a s o s1) (r : res s1 o = some d) (t : isiD T d = some b) : EV (aIsi T a) s (.bool b) s1 := fun xp _ q => h xp _ (rs_of r (by rw [t]; exact q))
theorem ev_neg {a : AO} {o : Op} {x : Int} (h : OV a s o s1) (r : res s1 o = some (.int x)) : EV (aNeg a) s (.int (-x)) s1 := fun xp _ q => h xp _ (rs_of r q)
/-! ### slices -/
def PV (p : APt) (s : AS) (o : Option Int) (s' : AS) : Prop := ∀ xp Q, Q o s' → p xp s Q
theorem pv_n : PV ptNone s none s := fun _ _ q => q
theorem pv_s {a : AE} {x : Int} (h : EV a s (.int x) s1) : PV (ptSome a) s (some x) s1 := fun xp _ q => h xp _ q
def cutN {α : Type} (xs : List α) (lo hi : Option Int) : List α := (xs.drop (HT.sIx xs.length 0 lo)).take (HT.sIx xs.length xs.length hi - HT.sIx xs.length 0 lo)
theorem cutD_map {α : Type} (f : α → PyData) (l : List α) (lo hi : Option Int) : cutD (l.map f) lo hi = (cutN l lo hi).map f := by
  unfold cutD cutN
  rw [List.length_map, List.map_take, List.map_drop]
theorem ev_slQ {α : Type} {f : α → PyData} {l : List α} {a : AO} {o : Op} {p q : APt} {lo hi : Option Int} (h : OV a s o s1) (hp : PV p s1 lo s2) (hq : PV q s2 hi s3) (r : res s3 o = some (eQ f l)) : EV (aSl a p q) s (eQ f (cutN l lo hi)) s3 := fun xp _ k => h xp _ (hp xp _ (hq xp _ (rs_of r (by
  show _
  unfold vSl
  simp only [cutD_map]
  exact k))))
/-! ### index -/
theorem ev_idx {a : AO} {aa : AA} {os : List Op} {l : List Int} {x : Int} (h : OV a s (.val (eQ .int l)) s1) (g : LV aa s1 os s2) (hr : ∀ k : List PyData → Prop, k [.int x] → rsl s2 os k) (hx : x ∈ l) : EV (aIdx a aa) s (.int ((l.idxOf x : Nat) : Int)) s2 := fun xp _ k => h xp _ ⟨True.intro, g xp _ (rs_of (d := eQ .int l) rfl (hr _ (by
  show vIdx (.tuple (l.map .int)) [.int x] _
  unfold vIdx
  have e : l.findIdx? (· == x) = some (l.idxOf x) := by
    rw [List.findIdx?_eq_some_of_exists (by exact ⟨x, hx, by simp⟩)]
    rfl
  simp only [ints_of, e]
  exact k)))⟩
end
/-! ### operators -/
section
variable {a b : Int}
theorem vf_addI : VF vAdd (.int a) (.int b) (.int (a + b)) := fun _ q => q
theorem vf_subI : VF vSub (.int a) (.int b) (.int (a - b)) := fun _ q => q
theorem vf_mulI (h : CMul a b) : VF vMul (.int a) (.int b) (.int (a * b)) := fun _ q => ⟨h, q⟩
theorem vf_addII : VF vAddI (.int a) (.int b) (.int (a + b)) := fun _ q => ⟨True.intro, q⟩
theorem vf_addQ {α : Type} {f : α → PyData} {x y : List α} (h : x.length + y.length ≤ sizeLine) : VF vAdd (eQ f x) (eQ f y) (eQ f (x ++ y)) := fun _ q => ⟨by rw [List.length_map, List.length_map]; exact h, by rw [← List.map_append]; exact q⟩
theorem vf_addL {α : Type} {f : α → PyData} {x y : List α} (h : x.length + y.length ≤ sizeLine) : VF vAdd (eL f x) (eL f y) (eL f (x ++ y)) := fun _ q => ⟨by rw [List.length_map, List.length_map]; exact h, by rw [← List.map_append]; exact q⟩
theorem vf_catL {α : Type} {f : α → PyData} {x y : List α} (h : x.length + y.length ≤ sizeLine) : VF vCatL (eL f x) (eL f y) (eL f (x ++ y)) := fun _ q => ⟨by rw [List.length_map, List.length_map]; exact h, by rw [← List.map_append]; exact q⟩
theorem vf_ltI : VF vLt (.int a) (.int b) (.bool (decide (a < b))) := fun _ q => q
theorem vf_leI : VF vLe (.int a) (.int b) (.bool (decide (a ≤ b))) := fun _ q => q
theorem vf_gtI : VF vGt (.int a) (.int b) (.bool (decide (b < a))) := fun _ q => q
end
/-- native equality is the data's -/
def Lw {α : Type} [DecidableEq α] (f : α → PyData) : Prop := ∀ a b, PyData.eqv (f a) (f b) = decide (a = b)
theorem lw_I : Lw PyData.int := fun _ _ => rfl
theorem lw_B : Lw PyData.bool := fun a b => by cases a <;> cases b <;> rfl
theorem lw_all {α : Type} [DecidableEq α] {f : α → PyData} (h : Lw f) : ∀ a b : List α, PyData.eqvAll (a.map f) (b.map f) = decide (a = b)
  | [], [] => rfl
  | [], _ :: _ => rfl
  | _ :: _, [] => rfl
  | x :: a, y :: b => by
    show (PyData.eqv (f x) (f y) && PyData.eqvAll (a.map f) (b.map f)) = _
    rw [h, lw_all h a b]
    by_cases e : x = y
    · subst e; simp
    · simp [e]
theorem lw_Q {α : Type} [DecidableEq α] {f : α → PyData} (h : Lw f) : Lw (eQ f) := fun a b => lw_all h a b
theorem lw_L {α : Type} [DecidableEq α] {f : α → PyData} (h : Lw f) : Lw (eL f) := fun a b => lw_all h a b
theorem lw_P {α β : Type} [DecidableEq α] [DecidableEq β] {f : α → PyData} {g : β → PyData} (h : Lw f) (k : Lw g) : Lw (eP f g) := fun a b => by
  show (PyData.eqv (f a.1) (f b.1) && (PyData.eqv (g a.2) (g b.2) && true)) = _
  rw [h, k, Bool.and_true]
  obtain ⟨a1, a2⟩ := a
  obtain ⟨b1, b2⟩ := b
  by_cases e : a1 = b1 <;> by_cases e2 : a2 = b2 <;> simp [e, e2]
/-- may be compared -/
def Sh (k : Nat) {α : Type} (f : α → PyData) : Prop := ∀ a, Sd k (f a)
theorem sh_I {k : Nat} : Sh k PyData.int := fun i => sd_int i
theorem sh_B {k : Nat} : Sh k PyData.bool := fun i => sd_bool i
theorem sh_Q {k : Nat} {α : Type} {f : α → PyData} (h : Sh k f) : Sh (k + 1) (eQ f) := fun l => sd_tup fun d hd => by
  obtain ⟨x, _, rfl⟩ := List.mem_map.mp hd
  exact h x
theorem sh_L {k : Nat} {α : Type} {f : α → PyData} (h : Sh k f) : Sh (k + 1) (eL f) := fun l => sd_list fun d hd => by
  obtain ⟨x, _, rfl⟩ := List.mem_map.mp hd
  exact h x
theorem sh_P {k : Nat} {α β : Type} {f : α → PyData} {g : β → PyData} (h : Sh k f) (h2 : Sh k g) : Sh (k + 1) (eP f g) := fun p => sd_tup fun d hd => by
  rcases List.mem_cons.mp hd with rfl | hd
  · exact h _
  · rw [List.mem_singleton.mp hd]; exact h2 _
theorem Sh.shp {k : Nat} {α : Type} {f : α → PyData} (h : Sh k f) (hk : Nat.ble k 64 = true) (a : α) : SeqAt.shaped (f a) = true := (h a).shaped (Nat.le_of_ble_eq_true hk)
section
variable {α : Type} [DecidableEq α] {f : α → PyData} {a b : α} {k : Nat}
theorem vf_eq (hl : Lw f) (hs : Sh k f) (hk : Nat.ble k 64 = true) : VF vEq (f a) (f b) (.bool (decide (a = b))) := fun _ q => ⟨hs.shp hk a, hs.shp hk b, by rw [hl a b]; exact q⟩
theorem vf_ne (hl : Lw f) (hs : Sh k f) (hk : Nat.ble k 64 = true) : VF vNe (f a) (f b) (.bool (!decide (a = b))) := fun _ q => ⟨hs.shp hk a, hs.shp hk b, by rw [hl a b]; exact q⟩
theorem any_mem {l : List α} (hl : Lw f) : ((l.map f).any fun y => PyData.eqv y (f a)) = decide (a ∈ l) := by
  rw [List.any_map]
  induction l with
  | nil => simp
  | cons x l ih =>
    rw [List.any_cons, ih]
    show (PyData.eqv (f x) (f a) || _) = _
    rw [hl]
    by_cases e : x = a
    · subst e; simp
    · have e2 : ¬ a = x := fun h => e h.symm
      simp [e, e2]
theorem vf_inQ {l : List α} (hl : Lw f) (hs : Sh k f) (hk : Nat.ble (k + 1) 64 = true) (hk2 : Nat.ble k 64 = true) : VF vIn (f a) (eQ f l) (.bool (decide (a ∈ l))) := fun _ q => ⟨hs.shp hk2 a, (sh_Q hs).shp hk l, by rw [any_mem hl]; exact q⟩
theorem vf_ninQ {l : List α} (hl : Lw f) (hs : Sh k f) (hk : Nat.ble (k + 1) 64 = true) (hk2 : Nat.ble k 64 = true) : VF vNotIn (f a) (eQ f l) (.bool (!decide (a ∈ l))) := fun _ q => ⟨hs.shp hk2 a, (sh_Q hs).shp hk l, by rw [any_mem hl]; exact q⟩
theorem vf_ninL {l : List α} (hl : Lw f) (hs : Sh k f) (hk : Nat.ble (k + 1) 64 = true) (hk2 : Nat.ble k 64 = true) : VF vNotIn (f a) (eL f l) (.bool (!decide (a ∈ l))) := fun _ q => ⟨hs.shp hk2 a, (sh_L hs).shp hk l, by rw [any_mem hl]; exact q⟩
end
section
variable {d e : PyData}
theorem vf_eqD (h : SeqAt.shaped d = true ∧ SeqAt.shaped e = true) : VF vEq d e (.bool (PyData.eqv d e)) := fun _ q => ⟨h.1, h.2, q⟩
theorem vf_isN : VF vIs d .none (.bool (isNon d)) := fun _ q => by
  unfold vIs isD; cases d <;> exact q
/-- an option that stands as none or as its value -/
def Nn {α : Type} (f : α → PyData) : Prop := ∀ x, isNon (f x) = false
theorem non_M {α : Type} {f : α → PyData} (h : Nn f) (o : Option α) : isNon (eM f o) = o.isNone := by
  cases o with
  | none => rfl
  | some x => exact h x
theorem vf_isM {α : Type} {f : α → PyData} (h : Nn f) {o : Option α} : VF vIs (eM f o) .none (.bool o.isNone) := by
  rw [← non_M h]; exact vf_isN
/-! ### items -/
def gt {α : Type} [Inhabited α] (l : List α) (k : Int) : α := l.getD k.toNat default
def gl {α : Type} [Inhabited α] (l : List α) : α := l.getLastD default
def Ixr {α : Type} (l : List α) (k : Int) : Prop := 0 ≤ k ∧ k < (l.length : Int)
theorem at_map {α : Type} [Inhabited α] {f : α → PyData} {l : List α} {k : Int} (h : Ixr l k) : atI (l.map f) k = some (f (gt l k)) := by
  obtain ⟨h0, h1⟩ := h
  obtain ⟨j, rfl⟩ := Int.eq_ofNat_of_zero_le h0
  have hj : j < l.length := by omega
  rw [at_get (by rw [List.length_map]; exact hj)]
  unfold gt
  rw [List.getElem_map, Int.toNat_natCast, List.getD_eq_getElem?_getD, List.getElem?_eq_getElem hj]
  rfl
theorem at_lastN {α : Type} [Inhabited α] {f : α → PyData} {l : List α} (h : l ≠ []) : atI (l.map f) (-1) = some (f (gl l)) := by
  obtain ⟨x, r, rfl⟩ : ∃ r x, l = r ++ [x] := ⟨l.dropLast, l.getLast h, (List.dropLast_concat_getLast h).symm⟩
  rw [List.map_append]
  have e : gl (x ++ [r]) = r := by unfold gl; rw [List.getLastD_eq_getLast?]; simp
  rw [e]
  exact at_last
theorem vf_ixT {ds : List PyData} {k : Int} {r : PyData} (h : atI ds k = some r) : VF vIx (.tuple ds) (.int k) r := fun _ q => by
  show (match atI ds k with | some d => _ | none => False)
  rw [h]; exact q
theorem vf_ixL' {ds : List PyData} {k : Int} {r : PyData} (h : atI ds k = some r) : VF vIx (.list ds) (.int k) r := fun _ q => by
  show (match atI ds k with | some d => _ | none => False)
  rw [h]; exact q
theorem vf_ixQ {α : Type} [Inhabited α] {f : α → PyData} {l : List α} {k : Int} (h : Ixr l k) : VF vIx (eQ f l) (.int k) (f (gt l k)) := vf_ixT (at_map h)
theorem vf_ixL {α : Type} [Inhabited α] {f : α → PyData} {l : List α} {k : Int} (h : Ixr l k) : VF vIx (eL f l) (.int k) (f (gt l k)) := vf_ixL' (at_map h)
theorem vf_ixQl {α : Type} [Inhabited α] {f : α → PyData} {l : List α} (h : l ≠ []) : VF vIx (eQ f l) (.int (-1)) (f (gl l)) := vf_ixT (at_lastN h)
theorem vf_ixLl {α : Type} [Inhabited α] {f : α → PyData} {l : List α} (h : l ≠ []) : VF vIx (eL f l) (.int (-1)) (f (gl l)) := vf_ixL' (at_lastN h)
/-! ### builtins -/
theorem fv_lenQ {α : Type} {f : α → PyData} {l : List α} : FV fLen [eQ f l] (.int ((l.length : Nat) : Int)) := fun _ q => by
  rw [fLen_t, List.length_map]; exact q
theorem fv_lenL {α : Type} {f : α → PyData} {l : List α} : FV fLen [eL f l] (.int ((l.length : Nat) : Int)) := fun _ q => by
  rw [fLen_l, List.length_map]; exact q
theorem fv_tupleL {α : Type} {f : α → PyData} {l : List α} : FV fTuple [eL f l] (eQ f l) := fun _ q => q
theorem fv_sum {l : List Int} : FV fSum [eL .int l] (.int l.sum) := fun _ q => by
  show _
  unfold fSum; simp only [ints_of]; exact q
theorem fv_all {l : List Bool} : FV fAll [eL .bool l] (.bool (l.all id)) := fun _ q => by
  show _
  unfold fAll; simp only [bools_of]; exact q
def srtN {α : Type} (f : α → PyData) (l : List α) : List α := l.mergeSort fun a b => PySem.W.dataLe false (fun d => d) (f a) (f b)
theorem fv_sortedL {α : Type} {f : α → PyData} {l : List α} (h : SrtOk (l.map f)) : FV fSorted [eL f l] (eL f (srtN f l)) := fun _ q => ⟨h, by
  have : srt (l.map f) = (srtN f l).map f := by
    unfold srt srtN
    exact (List.map_mergeSort (f := f) (l := l) fun a _ b _ => rfl).symm
  rw [this]; exact q⟩
theorem fv_sortedQ {l : List Int} : FV fSorted [eQ .int l] (eL .int (isort l)) := fun _ q => sortedT_ok q
theorem tru_Q {α : Type} {f : α → PyData} {l : List α} : truD (eQ f l) = some (!l.isEmpty) := by cases l <;> rfl
theorem tru_B {b : Bool} : truD (.bool b) = some b := rfl
end
/-! ### types of data -/
def isTup : PyData → Bool
  | .tuple _ => true
  | _ => false
def isLst : PyData → Bool
  | .list _ => true
  | _ => false
def isBoo : PyData → Bool
  | .bool _ => true
  | _ => false
def isNum : PyData → Bool
  | .int _ => true
  | .bool _ => true
  | _ => false
theorem isi_tuple {d : PyData} : isiD "tuple" d = some (isTup d) := by cases d <;> rfl
theorem isi_bool {d : PyData} : isiD "bool" d = some (isBoo d) := by cases d <;> rfl
theorem isi_int {d : PyData} : isiD "int" d = some (isNum d) := by cases d <;> rfl
/-! ### what is walked -/
def irange (lo hi : Int) : List Int := (List.range (hi - lo).toNat).map fun k => lo + (k : Nat)
theorem rngD_map (lo hi : Int) : rngD lo (hi - lo).toNat = (irange lo hi).map .int := by
  unfold rngD irange
  rw [List.map_map]
  rfl
theorem rngD_map0 (hi : Int) : rngD 0 hi.toNat = (irange 0 hi).map .int := by
  rw [← rngD_map, Int.sub_zero]
def Rg (j : Int) : Prop := -(2 ^ 62) ≤ j ∧ j < 2 ^ 62
section
variable {s s1 s2 : AS}
theorem iv_range1 {a : AA} {os : List Op} {j : Int} (h : LV a s os s1) (hv : ∀ k : List PyData → Prop, k [.int j] → rv os k) (hj : Rg j) : IV (iRange1 a) s (.fix ((irange 0 j).map .int)) s1 := fun xp _ q => h xp _ (hv _ ⟨hj.1, hj.2, by rw [rngD_map0]; exact q⟩)
theorem iv_range2 {a : AA} {os : List Op} {i j : Int} (h : LV a s os s1) (hv : ∀ k : List PyData → Prop, k [.int i, .int j] → rv os k) (hj : Rg i ∧ Rg j) : IV (iRange2 a) s (.fix ((irange i j).map .int)) s1 := fun xp _ q => h xp _ (hv _ ⟨⟨hj.1.1, hj.1.2, hj.2.1, hj.2.2⟩, by rw [rngD_map]; exact q⟩)
theorem iv_valQ {α : Type} {f : α → PyData} {l : List α} {a : AO} (h : OV a s (.val (eQ f l)) s1) : IV (iSeq a) s (.fix (l.map f)) s1 := fun xp _ q => h xp _ q
theorem iv_valL {α : Type} {f : α → PyData} {l : List α} {a : AO} (h : OV a s (.val (eL f l)) s1) : IV (iSeq a) s (.fix (l.map f)) s1 := fun xp _ q => h xp _ q
theorem iv_valD {d : PyData} {a : AO} (h : OV a s (.val d) s1) (hd : isTup d = true ∨ isLst d = true) : IV (iSeq a) s (.fix ((items d).map eD)) s1 := fun xp _ q => h xp _ (by
  rw [show (items d).map eD = items d from List.map_id' _] at q
  rcases hd with hd | hd <;> cases d <;> first | exact q | cases hd)
theorem bv_nm (i : Nat) {d : PyData} : BV (bNm i) d s (s.set i (.dat d)) := fun _ q => q
theorem lc_go {α : Type} {it : AIt} {b : AB} {t : AT} {a : AE} {vs : List Nat} (f : α → PyData) (p : α → Bool) {β : Type} (e : β → PyData) (v : α → β) (s2 s3 : α → AS) (hc : it.chk s1) (Q : PyData → AS → Prop) : ∀ (l : List α) (acc : List PyData), acc.length + l.length ≤ sizeLine →
    (∀ x ∈ l, BV b (f x) (s1.wipe vs) (s2 x)) → (∀ x ∈ l, TV t (s2 x) (p x) (s2 x)) → (∀ x ∈ l, p x = true → EV a (s2 x) (e (v x)) (s3 x)) → (∀ x ∈ l, back vs s1 (s2 x) = s1 ∧ back vs s1 (s3 x) = s1) →
    Q (.list (acc ++ ((l.filter p).map v).map e)) s1 → lcL it b t a vs Q (l.map f) acc s1
  | [], acc, _, _, _, _, _, q => ⟨hc, by rw [List.filter_nil, List.map_nil, List.map_nil, List.append_nil] at q; exact q⟩
  | x :: l, acc, hl, hb, ht, ha, hk, q => by
    rw [List.length_cons] at hl
    refine ⟨hc, hb x List.mem_cons_self _ (ht x List.mem_cons_self _ _ ?_)⟩
    cases hp : p x with
    | true =>
      refine iteT (ha x List.mem_cons_self hp _ _ ⟨by omega, ?_⟩)
      rw [(hk x List.mem_cons_self).2]
      refine lc_go f p e v s2 s3 hc Q l _ (by rw [List.length_append]; simp only [List.length_cons, List.length_nil]; omega) (fun y hy => hb y (List.mem_cons_of_mem _ hy)) (fun y hy => ht y (List.mem_cons_of_mem _ hy)) (fun y hy => ha y (List.mem_cons_of_mem _ hy)) (fun y hy => hk y (List.mem_cons_of_mem _ hy)) ?_
      rw [List.filter_cons_of_pos hp, List.map_cons, List.map_cons] at q
      rw [List.append_assoc]
      exact q
    | false =>
      refine iteF ?_
      rw [(hk x List.mem_cons_self).1]
      refine lc_go f p e v s2 s3 hc Q l _ (by omega) (fun y hy => hb y (List.mem_cons_of_mem _ hy)) (fun y hy => ht y (List.mem_cons_of_mem _ hy)) (fun y hy => ha y (List.mem_cons_of_mem _ hy)) (fun y hy => hk y (List.mem_cons_of_mem _ hy)) ?_
      rw [List.filter_cons_of_neg (by rw [hp]; exact Bool.false_ne_true)] at q
      exact q
theorem ev_lcF {α β : Type} (f : α → PyData) (p : α → Bool) (e : β → PyData) (v : α → β) (s2 s3 : α → AS) {l : List α} {it : AIt} {ai : AI} {b : AB} {t : AT} {a : AE} {vs : List Nat} (hi : IV ai s it s1) (hl : l.length ≤ sizeLine) (hit : it.its = l.map f) (hc : it.chk s1)
    (hb : ∀ x ∈ l, BV b (f x) (s1.wipe vs) (s2 x)) (ht : ∀ x ∈ l, TV t (s2 x) (p x) (s2 x)) (ha : ∀ x ∈ l, p x = true → EV a (s2 x) (e (v x)) (s3 x)) (hk : ∀ x ∈ l, back vs s1 (s2 x) = s1 ∧ back vs s1 (s3 x) = s1) : EV (aLc ai b t a vs) s (eL e ((l.filter p).map v)) s1 := fun xp Q q => hi xp _ (by
  rw [hit]
  exact lc_go f p e v s2 s3 hc Q l [] (by simpa using hl) hb ht ha hk q)
theorem ev_lcM {α β : Type} (f : α → PyData) (e : β → PyData) (v : α → β) (s2 s3 : α → AS) {l : List α} {it : AIt} {ai : AI} {b : AB} {a : AE} {vs : List Nat} (hi : IV ai s it s1) (hl : l.length ≤ sizeLine) (hit : it.its = l.map f) (hc : it.chk s1)
    (hb : ∀ x ∈ l, BV b (f x) (s1.wipe vs) (s2 x)) (ha : ∀ x ∈ l, EV a (s2 x) (e (v x)) (s3 x)) (hk : ∀ x ∈ l, back vs s1 (s2 x) = s1 ∧ back vs s1 (s3 x) = s1) : EV (aLc ai b tYesA a vs) s (eL e (l.map v)) s1 := by
  have := ev_lcF f (fun _ => true) e v s2 s3 (t := tYesA) (a := a) hi hl hit hc hb (fun _ _ => tv_yes) (fun x hx _ => ha x hx) hk
  rw [List.filter_eq_self.mpr fun _ _ => rfl] at this
  exact this
end
end TR
namespace TR
open PySem PySem.Spec PyProof.Rows L2
/-! ### statements, with native values -/
instance : Inhabited PyData := ⟨.none⟩
section
variable {s s1 s2 : AS} {d e r : PyData} {i : Nat} {xp : XP} {D : AEnds} {rest a' b' : AST}
theorem g_bv {b : AB} {s' : AS} {Q : AS → Prop} (h : BV b d s s') (q : Q s') : b d s Q := h _ q
theorem ev_cast {a : AE} {d d' : PyData} (h : EV a s d s1) (e : d = d') : EV a s d' s1 := e ▸ h
theorem c_ret {a : AE} (h : EV a s d s1) (hq : D.rt d s1.n) : sRet a xp D s := h xp _ hq
theorem c_retV (i : Nat) (h : s.sl[i]? = some (some (.dat d))) (hq : D.rt d s.n) : sRetV i xp D s := by unfold sRetV; rw [h]; exact hq
theorem c_retVO (i : Nat) {ds : List PyData} (h : s.sl[i]? = some (some (.own ds))) (hq : D.rt (.list ds) s.n) : sRetV i xp D s := by unfold sRetV; rw [h]; exact hq
theorem c_seq (h : a' xp { D with nx := b' xp D } s) : sSeq a' b' xp D s := h
theorem c_set {a : AE} (h : EV a s d s1) (e : s1.set i (.dat d) = s2) (k : D.nx s2) : sSet i a xp D s := h xp _ (e ▸ k)
theorem c_setO {a : AE} {ds : List PyData} (h : EV a s (.list ds) s1) (e : s1.set i (.own ds) = s2) (k : D.nx s2) : sSetO i a xp D s := h xp _ (show D.nx (s1.set i (.own ds)) from e ▸ k)
theorem c_asg {a : AE} {b : AB} (h : EV a s d s1) (hb : BV b d s1 s2) (k : D.nx s2) : sAsg a b xp D s := h xp _ (hb _ k)
theorem c_drop {a : AE} (h : EV a s d s1) (k : D.nx s1) : sDrop a xp D s := h xp _ k
theorem c_pass (k : D.nx s) : sNx xp D s := k
theorem c_if {t : AT} {c : Bool} (h : TV t s c s1) (ha : c = true → a' xp D s1) (hb : c = false → b' xp D s1) : sIf t a' b' xp D s := h xp _ (by
  cases c with
  | true => exact iteT (ha rfl)
  | false => exact iteF (hb rfl))
/-- both ways go on -/
theorem c_ifJ {t : AT} {c : Bool} (J : Bool → AS) (h : TV t s c s1) (ha : c = true → ∀ D' : AEnds, D'.nx (J true) → a' xp D' s1) (hb : c = false → ∀ D' : AEnds, D'.nx (J false) → b' xp D' s1) (k : D.nx (J c)) : sIf t a' b' xp D s := h xp _ (by
  cases c with
  | true => exact iteT (ha rfl D k)
  | false => exact iteF (hb rfl D k))
theorem c_par {j : Nat} {aa : AA} {os : List Op} (h : LV aa s os s1) (hv : ∀ k : List PyData → Prop, k [d, e] → rv os k) (hs : (s1.set i (.dat d)).set j (.dat e) = s2) (k : D.nx s2) : sPar i j aa xp D s := h xp _ (hv _ (by subst hs; exact k))
theorem c_aug {f : PyData → PyData → (PyData → Prop) → Prop} {ab : AO} {o : Op} (h0 : s.sl[i]? = some (some (.dat d))) (h : OV ab s o s1) (hr : res s1 o = some e) (hf : VF f d e r) (hs : s1.set i (.dat r) = s2) (k : D.nx s2) : sAug f i ab xp D s := by
  unfold sAug
  rw [h0]
  exact h xp _ (rs_of hr (hf _ (by subst hs; exact k)))
theorem ev_app {α : Type} {f : α → PyData} {l : List α} {x : α} {aa : AA} {os : List Op} (h0 : s.sl[i]? = some (some (.own (l.map f)))) (h : LV aa s os s1) (h1 : s1.sl[i]? = some (some (.own (l.map f)))) (hv : ∀ k : List PyData → Prop, k [f x] → rv os k) (hs : s1.set i (.own ((l ++ [x]).map f)) = s2) (hl : l.length < sizeLine) : EV (aMut mApp i aa) s .none s2 := fun xp _ q => by
  unfold aMut
  rw [h0]
  refine h xp _ (hv _ ?_)
  simp only [h1]
  refine ⟨by rw [List.length_map]; exact hl, ?_⟩
  rw [← hs, List.map_append] at q
  exact q
theorem ev_ext {α : Type} {f : α → PyData} {l m : List α} {aa : AA} {os : List Op} (h0 : s.sl[i]? = some (some (.own (l.map f)))) (h : LV aa s os s1) (h1 : s1.sl[i]? = some (some (.own (l.map f)))) (hv : ∀ k : List PyData → Prop, k [eL f m] → rv os k) (hs : s1.set i (.own ((l ++ m).map f)) = s2) (hl : l.length + m.length ≤ sizeLine) : EV (aMut mExt i aa) s .none s2 := fun xp _ q => by
  unfold aMut
  rw [h0]
  refine h xp _ (hv _ ?_)
  simp only [h1]
  refine ⟨by rw [List.length_map, List.length_map]; exact hl, ?_⟩
  rw [← hs, List.map_append] at q
  exact q
theorem ifT {α : Type} {P : AEnds} {f : α → PyData} {c : Bool} {x y : α} {n : Nat} (h : c = true) (q : P.rt (f (bif c then x else y)) n) : P.rt (f x) n := by subst h; exact q
theorem ifF {α : Type} {P : AEnds} {f : α → PyData} {c : Bool} {x y : α} {n : Nat} (h : c = false) (q : P.rt (f (bif c then x else y)) n) : P.rt (f y) n := by subst h; exact q
/-! tuples taken apart -/
theorem bv_q2 {α : Type} [Inhabited α] {f : α → PyData} {l : List α} {i j : Nat} (h : l.length = 2) : BV (bTup 2 (bCons (bNm i) (bCons (bNm j) bNil))) (eQ f l) s ((s.set i (.dat (f (gt l 0)))).set j (.dat (f (gt l 1)))) := fun _ q => by
  match l, h with
  | [a, b], _ => exact ⟨rfl, rfl, q⟩
theorem BV.to {b : AB} {d : PyData} {s s1 s2 : AS} (h : BV b d s s1) (e : s1 = s2) : BV b d s s2 := e ▸ h
end
/-! ### data taken as what it is -/
def dI : PyData → Int
  | .int i => i
  | _ => 0
def dQ {α : Type} (f : PyData → α) (d : PyData) : List α := (items d).map f
def om {α : Type} [Inhabited α] (o : Option α) : α := o.getD default
theorem om_c {α : Type} [Inhabited α] {f : α → PyData} {o : Option α} (h : o.isSome = true) : eM f o = f (om o) := by
  cases o with
  | none => cases h
  | some x => rfl
/-! ### exceptions as values -/
structure XN where
  k : Nat
  fld : Option (Str × PyData)
def XN.xd (cc : Nat → Addr) (x : XN) : XD := ⟨cc x.k, x.fld⟩
def isOk {α : Type} : Except XN α → Bool
  | .ok _ => true
  | .error _ => false
def getX {α : Type} [Inhabited α] : Except XN α → α
  | .ok r => r
  | .error _ => default
/-- a def that may raise -/
def PFx {α : Type} (cc : Nat → Addr) (F : AF) (ds : List PyData) (f : α → PyData) (v : Except XN α) : Prop := ∀ n (Q : PyData → Nat → Prop) X, (match v with | .ok r => Q (f r) n | .error x => X (x.xd cc) n) → F ds n Q X
theorem PFx.ok {α : Type} [Inhabited α] {cc : Nat → Addr} {F : AF} {ds : List PyData} {f : α → PyData} {v : Except XN α} (h : PFx cc F ds f v) (o : isOk v = true) : PFn F ds (f (getX v)) := fun n Q X q => h n Q X (by
  cases v with
  | ok r => exact q
  | error _ => cases o)
section
variable {cc : Nat → Addr} {s s1 s2 : AS} {d e r : PyData} {i : Nat} {xp : XP} {D : AEnds} {rest a' b' : AST} {x : XN}
/-! try -/
def Inj (cc : Nat → Addr) (N : Nat) : Prop := ∀ i j, i < N → j < N → cc i = cc j → i = j
end
/-! ### for -/
def forV {α σ ρ : Type} (body : (σ → ρ) → α → σ → ρ) (after : σ → ρ) : List α → σ → ρ
  | [], w => after w
  | x :: l, w => body (fun w' => forV body after l w') x w
theorem forL_ok {α σ ρ : Type} {R : ρ → Prop} {b : AB} {body : AST} {xp : XP} {D : AEnds} (f : α → PyData) (Inv : σ → AS → Prop) {bC : (σ → Prop) → α → σ → Prop} {aC : σ → Prop} {bV : (σ → ρ) → α → σ → ρ} {aV : σ → ρ}
    (hb : ∀ x w s k kC (N : AS → Prop), Inv w s → bC kC x w → R (bV k x w) → (∀ w' s', Inv w' s' → kC w' → R (k w') → N s') → b (f x) s fun s1 => body xp { D with nx := N, ct := N, bk := D.nx } s1)
    (ha : ∀ w s, Inv w s → aC w → R (aV w) → D.nx s) : ∀ (l : List α) (w : σ) (s : AS), Inv w s → forV bC aC l w → R (forV bV aV l w) → forL b body xp D (l.map f) s
  | [], w, s, i, c, q => ha w s i c q
  | x :: l, w, s, i, c, q => hb x w s _ _ _ i c q fun w' s' i' c' q' => forL_ok f Inv hb ha l w' s' i' c' q'
theorem c_for {α σ ρ : Type} {R : ρ → Prop} {ai : AI} {b : AB} {body : AST} {xp : XP} {D : AEnds} {s s1 : AS} (f : α → PyData) (Inv : σ → AS → Prop) {l : List α} {w : σ} {bC : (σ → Prop) → α → σ → Prop} {aC : σ → Prop} {bV : (σ → ρ) → α → σ → ρ} {aV : σ → ρ} (hi : IV ai s (.fix (l.map f)) s1) (hw : Inv w s1) (hC : forV bC aC l w) (hq : R (forV bV aV l w))
    (hb : ∀ x w s k kC (N : AS → Prop), Inv w s → bC kC x w → R (bV k x w) → (∀ w' s', Inv w' s' → kC w' → R (k w') → N s') → b (f x) s fun s1 => body xp { D with nx := N, ct := N, bk := D.nx } s1)
    (ha : ∀ w s, Inv w s → aC w → R (aV w) → D.nx s) : sFor ai b body xp D s := hi xp _ (forL_ok f Inv hb ha l w s1 hw hC hq)
end TR
namespace TR
open PySem PySem.Spec PyProof.Rows L2
section
variable {s s1 s2 : AS} {d d' : PyData}
theorem c_aft {b : AST} {xp : XP} {D : AEnds} (h : b xp D s) : ({ D with nx := b xp D } : AEnds).nx s := h
theorem ov_cast {a : AO} (h : OV a s (.val d) s1) (e : d = d') : OV a s (.val d') s1 := e ▸ h
theorem ev_neg1 : EV (aNeg (oV (aC (.int 1)))) s (.int (-1)) s := fun _ _ q => q
theorem vf_ltD {d e : PyData} (hn : ∀ a b, d = .int a → e = .int b → False) (h : AlkC d e) : VF vLt d e (.bool (PySem.W.dataLt d e)) := fun _ q => by
  unfold vLt
  split
  · exact (hn _ _ rfl rfl).elim
  · exact ⟨h, q⟩
theorem ev_listRg1 {a : AE} {j : Int} (h : EV a s (.int j) s1) (hr : RgOk 0 j) : EV (aListRg (rg1 a)) s (eL .int (irange 0 j)) s1 := fun xp _ q => h xp _ ⟨hr, by rw [rngD_map]; exact q⟩
/-! two clauses -/
theorem lcI_go {α β : Type} {it : AIt} {b : AB} {t : AT} {a : AE} {vs : List Nat} (f : α → PyData) (p : α → Bool) (e : β → PyData) (v : α → β) (s2 s3 : α → AS) (hc : it.chk s1) (K : List PyData → AS → Prop) : ∀ (l : List α) (acc : List PyData), acc.length + (l.filter p).length ≤ sizeLine →
    (∀ x ∈ l, BV b (f x) (s1.wipe vs) (s2 x)) → (∀ x ∈ l, TV t (s2 x) (p x) (s2 x)) → (∀ x ∈ l, p x = true → EV a (s2 x) (e (v x)) (s3 x)) → (∀ x ∈ l, back vs s1 (s2 x) = s1 ∧ back vs s1 (s3 x) = s1) →
    K (acc ++ ((l.filter p).map v).map e) s1 → lcI it b t a vs K (l.map f) acc s1
  | [], acc, _, _, _, _, _, q => ⟨hc, by rw [List.filter_nil, List.map_nil, List.map_nil, List.append_nil] at q; exact q⟩
  | x :: l, acc, hl, hb, ht, ha, hk, q => by
    refine ⟨hc, hb x List.mem_cons_self _ (ht x List.mem_cons_self _ _ ?_)⟩
    cases hp : p x with
    | true =>
      rw [List.filter_cons_of_pos hp, List.length_cons] at hl
      refine iteT (ha x List.mem_cons_self hp _ _ ⟨by omega, ?_⟩)
      rw [(hk x List.mem_cons_self).2]
      refine lcI_go f p e v s2 s3 hc K l _ (by rw [List.length_append]; simp only [List.length_cons, List.length_nil]; omega) (fun y hy => hb y (List.mem_cons_of_mem _ hy)) (fun y hy => ht y (List.mem_cons_of_mem _ hy)) (fun y hy => ha y (List.mem_cons_of_mem _ hy)) (fun y hy => hk y (List.mem_cons_of_mem _ hy)) ?_
      rw [List.filter_cons_of_pos hp, List.map_cons, List.map_cons] at q
      rw [List.append_assoc]
      exact q
    | false =>
      rw [List.filter_cons_of_neg (by rw [hp]; exact Bool.false_ne_true)] at hl q
      refine iteF ?_
      rw [(hk x List.mem_cons_self).1]
      exact lcI_go f p e v s2 s3 hc K l _ hl (fun y hy => hb y (List.mem_cons_of_mem _ hy)) (fun y hy => ht y (List.mem_cons_of_mem _ hy)) (fun y hy => ha y (List.mem_cons_of_mem _ hy)) (fun y hy => hk y (List.mem_cons_of_mem _ hy)) q
/-- both clauses with tests; s2: behind the first target; s4: the same, behind the inner walk; s5, s6: inner -/
theorem lc2_go {α β γ : Type} {it : AIt} {b b1 : AB} {t t1 : AT} {ai1 : AI} {a : AE} {vs vs1 : List Nat} (f : α → PyData) (f1 : β → PyData) (p : α → Bool) (p1 : α → β → Bool) (inner : α → List β) (e : γ → PyData) (v : α → β → γ) (s2 : α → AS) (s5 s6 : α → β → AS) (hc : it.chk s1) (Q : PyData → AS → Prop)
    (it1 : α → AIt) : ∀ (l : List α) (acc : List PyData), acc.length + ((l.filter p).flatMap fun x => (inner x).filter (p1 x)).length ≤ sizeLine →
    (∀ x ∈ l, BV b (f x) (s1.wipe vs) (s2 x)) → (∀ x ∈ l, TV t (s2 x) (p x) (s2 x)) → (∀ x ∈ l, p x = true → IV ai1 (s2 x) (it1 x) (s2 x)) → (∀ x ∈ l, p x = true → (it1 x).its = (inner x).map f1 ∧ (it1 x).chk (s2 x)) →
    (∀ x ∈ l, p x = true → ∀ y ∈ inner x, BV b1 (f1 y) ((s2 x).wipe vs1) (s5 x y)) → (∀ x ∈ l, p x = true → ∀ y ∈ inner x, TV t1 (s5 x y) (p1 x y) (s5 x y)) → (∀ x ∈ l, p x = true → ∀ y ∈ inner x, p1 x y = true → EV a (s5 x y) (e (v x y)) (s6 x y)) →
    (∀ x ∈ l, ∀ y ∈ inner x, back vs1 (s2 x) (s5 x y) = s2 x ∧ back vs1 (s2 x) (s6 x y) = s2 x) → (∀ x ∈ l, back vs s1 (s2 x) = s1) →
    Q (.list (acc ++ ((l.filter p).flatMap fun x => ((inner x).filter (p1 x)).map (v x)).map e)) s1 → lc2L it b t ai1 b1 t1 a vs vs1 Q (l.map f) acc s1
  | [], acc, _, _, _, _, _, _, _, _, _, _, q => ⟨hc, by simpa using q⟩
  | x :: l, acc, hl, hb, ht, hi, hs, hb1, ht1, ha, hk1, hk, q => by
    have tl : ∀ {P : α → Prop}, (∀ y ∈ x :: l, P y) → ∀ y ∈ l, P y := fun h y hy => h y (List.mem_cons_of_mem _ hy)
    refine ⟨hc, hb x List.mem_cons_self _ (ht x List.mem_cons_self _ _ ?_)⟩
    cases hp : p x with
    | true =>
      rw [List.filter_cons_of_pos hp, List.flatMap_cons, List.length_append] at hl
      rw [List.filter_cons_of_pos hp, List.flatMap_cons, List.map_append, ← List.append_assoc] at q
      refine iteT (hi x List.mem_cons_self hp _ _ ?_)
      rw [(hs x List.mem_cons_self hp).1]
      refine lcI_go f1 (p1 x) e (v x) (s5 x) (s6 x) (hs x List.mem_cons_self hp).2 _ (inner x) acc (by omega) (hb1 x List.mem_cons_self hp) (ht1 x List.mem_cons_self hp) (ha x List.mem_cons_self hp) (hk1 x List.mem_cons_self) ?_
      rw [hk x List.mem_cons_self]
      exact lc2_go f f1 p p1 inner e v s2 s5 s6 hc Q it1 l _ (by rw [List.length_append, List.length_map, List.length_map]; omega) (tl hb) (tl ht) (tl hi) (tl hs) (tl hb1) (tl ht1) (tl ha) (tl hk1) (tl hk) q
    | false =>
      rw [List.filter_cons_of_neg (by rw [hp]; exact Bool.false_ne_true)] at hl q
      refine iteF ?_
      rw [hk x List.mem_cons_self]
      exact lc2_go f f1 p p1 inner e v s2 s5 s6 hc Q it1 l _ hl (tl hb) (tl ht) (tl hi) (tl hs) (tl hb1) (tl ht1) (tl ha) (tl hk1) (tl hk) q
theorem ev_lc2 {α β γ : Type} (f : α → PyData) (f1 : β → PyData) (p : α → Bool) (p1 : α → β → Bool) (inner : α → List β) (e : γ → PyData) (v : α → β → γ) (s2 : α → AS) (s5 s6 : α → β → AS) (it1 : α → AIt) {l : List α} {it : AIt} {ai ai1 : AI} {b b1 : AB} {t t1 : AT} {a : AE} {vs vs1 : List Nat} (hi0 : IV ai s it s1) (hl : ((l.filter p).flatMap fun x => (inner x).filter (p1 x)).length ≤ sizeLine) (hit : it.its = l.map f) (hc : it.chk s1)
    (hb : ∀ x ∈ l, BV b (f x) (s1.wipe vs) (s2 x)) (ht : ∀ x ∈ l, TV t (s2 x) (p x) (s2 x)) (hi : ∀ x ∈ l, p x = true → IV ai1 (s2 x) (it1 x) (s2 x)) (hs : ∀ x ∈ l, p x = true → (it1 x).its = (inner x).map f1 ∧ (it1 x).chk (s2 x))
    (hb1 : ∀ x ∈ l, p x = true → ∀ y ∈ inner x, BV b1 (f1 y) ((s2 x).wipe vs1) (s5 x y)) (ht1 : ∀ x ∈ l, p x = true → ∀ y ∈ inner x, TV t1 (s5 x y) (p1 x y) (s5 x y)) (ha : ∀ x ∈ l, p x = true → ∀ y ∈ inner x, p1 x y = true → EV a (s5 x y) (e (v x y)) (s6 x y))
    (hk1 : ∀ x ∈ l, ∀ y ∈ inner x, back vs1 (s2 x) (s5 x y) = s2 x ∧ back vs1 (s2 x) (s6 x y) = s2 x) (hk : ∀ x ∈ l, back vs s1 (s2 x) = s1) :
    EV (aLc2 ai b t ai1 b1 t1 a vs vs1) s (eL e ((l.filter p).flatMap fun x => ((inner x).filter (p1 x)).map (v x))) s1 := fun xp Q q => hi0 xp _ (by
  rw [hit]
  exact lc2_go f f1 p p1 inner e v s2 s5 s6 hc Q it1 l [] (by simpa using hl) hb ht hi hs hb1 ht1 ha hk1 hk q)
end
/-! min and max -/
def MmOk (ds : List PyData) : Prop := PySem.W.AlikeAll ds ∧ PyData.depthAll ds ≤ 50
end TR
namespace TR
open PySem PySem.Spec PyProof.Rows L2
/-! ### defs that draw: native weakest preconditions -/
section
variable {s s1 : AS} {xp : XP} {D : AEnds} {d e : PyData}
theorem ov_deck (i : Nat) (h : s.sl[i]? = some (some .deck)) : OV (oVar i) s .deck s := fun _ _ q => by
  unfold oVar; rw [h]; exact q
theorem g_ev {a : AE} {s' : AS} {Q : PyData → AS → Prop} (h : EV a s d s') (q : Q d s') : a xp s Q := h xp _ q
theorem g_ov {a : AO} {o : Op} {s' : AS} {Q : Op → AS → Prop} (h : OV a s o s') (q : Q o s') : a xp s Q := h xp _ q
theorem g_tv {a : AT} {b : Bool} {s' : AS} {Q : Bool → AS → Prop} (h : TV a s b s') (q : Q b s') : a xp s Q := h xp _ q
theorem g_lnil {Q : List Op → AS → Prop} (h : Q [] s) : lNil xp s Q := h
theorem g_lcons {a : AO} {r : AA} {Q : List Op → AS → Prop} (h : a xp s fun o s1 => r xp s1 fun os s2 => Q (o :: os) s2) : lCons a r xp s Q := h
theorem g_V {a : AE} {Q : Op → AS → Prop} (h : a xp s fun d s' => Q (.val d) s') : oV a xp s Q := h
theorem g_call {ms : List Md} {F : AF} {aa : AA} {Q : PyData → AS → Prop} (h : aa xp s fun os s1 => rm ms s1 os fun ds => F ds s1.n (fun r n => Q r { s1 with n := n }) fun _ _ => False) : aCall ms (calm F) aa xp s Q := h
theorem g_rm {ms : List Md} {os : List Op} {ds : List PyData} {k : List PyData → Prop} (hr : ∀ k : List PyData → Prop, k ds → rm ms s os k) (h : k ds) : rm ms s os k := hr _ h
theorem g_rv {os : List Op} {ds : List PyData} {k : List PyData → Prop} (hr : ∀ k : List PyData → Prop, k ds → rv os k) (h : k ds) : rv os k := hr _ h
theorem g_rsl {os : List Op} {ds : List PyData} {k : List PyData → Prop} (hr : ∀ k : List PyData → Prop, k ds → rsl s os k) (h : k ds) : rsl s os k := hr _ h
theorem g_a2 {f : PyData → PyData → (PyData → Prop) → Prop} {aa ab : AO} {Q : PyData → AS → Prop} (h : aa xp s fun o1 s1 => ab xp s1 fun o2 s2 => rs s2 o1 fun d1 => rs s2 o2 fun d2 => f d1 d2 fun d => Q d s2) : a2 f aa ab xp s Q := h
theorem g_op {f : PyData → PyData → (PyData → Prop) → Prop} {o1 o2 : Op} {r : PyData} {Q : PyData → Prop} (h1 : res s o1 = some d) (h2 : res s o2 = some e) (hf : VF f d e r) (h : Q r) : rs s o1 fun d1 => rs s o2 fun d2 => f d1 d2 Q := rs_of h1 (rs_of h2 (hf _ h))
theorem g_tup {aa : AA} {Q : PyData → AS → Prop} (h : aa xp s fun os s1 => rv os fun ds => ds.length ≤ sizeLine ∧ Q (.tuple ds) s1) : aTup aa xp s Q := h
theorem g_lst {aa : AA} {Q : PyData → AS → Prop} (h : aa xp s fun os s1 => rv os fun ds => ds.length ≤ sizeLine ∧ Q (.list ds) s1) : aLst aa xp s Q := h
theorem g_sz {ds : List PyData} (hl : Nat.ble ds.length 1000 = true) : ds.length ≤ sizeLine := lim (Nat.le_of_ble_eq_true hl)
theorem g_blt {f : List PyData → (PyData → Prop) → Prop} {aa : AA} {Q : PyData → AS → Prop} (h : aa xp s fun os s1 => rsl s1 os fun ds => f ds fun d => Q d s1) : aBlt f aa xp s Q := h
theorem g_fv {f : List PyData → (PyData → Prop) → Prop} {ds : List PyData} {r : PyData} {Q : PyData → Prop} (hf : FV f ds r) (h : Q r) : f ds Q := hf _ h
theorem g_ite {c : Bool} {A B : Prop} (h1 : c = true → A) (h2 : c = false → B) : if c = true then A else B := by
  cases c with
  | true => exact iteT (h1 rfl)
  | false => exact iteF (h2 rfl)
/-! statements -/
theorem s_set {i : Nat} {a : AE} (h : a xp s fun d s1 => D.nx (s1.set i (.dat d))) : sSet i a xp D s := h
theorem s_setO {i : Nat} {a : AE} (h : a xp s fun d s1 => match d with | .list ds => D.nx (s1.set i (.own ds)) | _ => False) : sSetO i a xp D s := h
theorem s_ret {a : AE} (h : a xp s fun d s1 => D.rt d s1.n) : sRet a xp D s := h
theorem s_if {t : AT} {a' b' : AST} (h : t xp s fun c s1 => if c = true then a' xp D s1 else b' xp D s1) : sIf t a' b' xp D s := h
end
/-! loops -/
def forW {α σ : Type} (body : (σ → Nat → Prop) → α → σ → Nat → Prop) (after : σ → Nat → Prop) : List α → σ → Nat → Prop
  | [], w, n => after w n
  | x :: l, w, n => body (fun w' n' => forW body after l w' n') x w n
theorem forW_ok {α σ : Type} {b : AB} {body : AST} {xp : XP} {D : AEnds} (f : α → PyData) (Inv : σ → Nat → AS → Prop) {bW : (σ → Nat → Prop) → α → σ → Nat → Prop} {aW : σ → Nat → Prop}
    (hb : ∀ x w n s k (N : AS → Prop), Inv w n s → bW k x w n → (∀ w' n' s', Inv w' n' s' → k w' n' → N s') → b (f x) s fun s1 => body xp { D with nx := N, ct := N, bk := D.nx } s1)
    (ha : ∀ w n s, Inv w n s → aW w n → D.nx s) : ∀ (l : List α) (w : σ) (n : Nat) (s : AS), Inv w n s → forW bW aW l w n → forL b body xp D (l.map f) s
  | [], w, n, s, i, c => ha w n s i c
  | x :: l, w, n, s, i, c => hb x w n s _ _ i c fun w' n' s' i' c' => forW_ok f Inv hb ha l w' n' s' i' c'
theorem s_for {α σ : Type} {ai : AI} {b : AB} {body : AST} {xp : XP} {D : AEnds} {s s1 : AS} {n : Nat} (f : α → PyData) (Inv : σ → Nat → AS → Prop) {l : List α} {w : σ} {bW : (σ → Nat → Prop) → α → σ → Nat → Prop} {aW : σ → Nat → Prop} (hi : IV ai s (.fix (l.map f)) s1) (hw : Inv w n s1) (hW : forW bW aW l w n)
    (hb : ∀ x w n s k (N : AS → Prop), Inv w n s → bW k x w n → (∀ w' n' s', Inv w' n' s' → k w' n' → N s') → b (f x) s fun s1 => body xp { D with nx := N, ct := N, bk := D.nx } s1)
    (ha : ∀ w n s, Inv w n s → aW w n → D.nx s) : sFor ai b body xp D s := hi xp _ (forW_ok f Inv hb ha l w n s1 hw hW)
def lcW {α β : Type} (item : α → Nat → (β → Nat → Prop) → Prop) : List α → List β → Nat → (List β → Nat → Prop) → Prop
  | [], acc, n, K => K acc n
  | x :: l, acc, n, K => item x n fun y n' => lcW item l (acc ++ [y]) n' K
theorem lcw_go {α β : Type} {it : AIt} {b : AB} {a : AE} {vs : List Nat} (f : α → PyData) (e : β → PyData) (st : Nat → AS) (s3 : α → Nat → AS) {item : α → Nat → (β → Nat → Prop) → Prop} {K : List β → Nat → Prop} {Q : PyData → AS → Prop} (hc : ∀ n, it.chk (st n)) (hk : ∀ ys n', K ys n' → Q (.list (ys.map e)) (st n')) : ∀ (l : List α) (acc : List β) (n : Nat), acc.length + l.length ≤ sizeLine →
    (∀ x ∈ l, ∀ n K, item x n K → ∀ K' : PyData → AS → Prop, (∀ y n', K y n' → K' (e y) (s3 x n')) → b (f x) ((st n).wipe vs) fun s2 => a x0 s2 K') → (∀ x ∈ l, ∀ n n', back vs (st n) (s3 x n') = st n') → lcW item l acc n K → lcL it b tYesA a vs Q (l.map f) (acc.map e) (st n)
  | [], acc, n, _, _, _, w => ⟨hc n, hk acc n w⟩
  | x :: l, acc, n, hl, hi, hb, w => by
    rw [List.length_cons] at hl
    refine ⟨hc n, hi x List.mem_cons_self n _ w _ fun y n' w' => ⟨by rw [List.length_map]; omega, ?_⟩⟩
    rw [hb x List.mem_cons_self n n']
    have := lcw_go f e st s3 hc hk l (acc ++ [y]) n' (by rw [List.length_append]; simp only [List.length_cons, List.length_nil]; omega) (fun z hz => hi z (List.mem_cons_of_mem _ hz)) (fun z hz => hb z (List.mem_cons_of_mem _ hz)) w'
    rw [List.map_append] at this
    exact this
theorem g_lc {α β : Type} {ai : AI} {it : AIt} {b : AB} {a : AE} {vs : List Nat} {xp : XP} {s : AS} {n : Nat} (f : α → PyData) (e : β → PyData) (st : Nat → AS) (s3 : α → Nat → AS) {l : List α} {item : α → Nat → (β → Nat → Prop) → Prop} {K : List β → Nat → Prop} {Q : PyData → AS → Prop} (h0 : IV ai s it (st n)) (hit : it.its = l.map f) (hc : ∀ n, it.chk (st n)) (hl : l.length ≤ sizeLine)
    (hi : ∀ x ∈ l, ∀ n K, item x n K → ∀ K' : PyData → AS → Prop, (∀ y n', K y n' → K' (e y) (s3 x n')) → b (f x) ((st n).wipe vs) fun s2 => a x0 s2 K') (hb : ∀ x ∈ l, ∀ n n', back vs (st n) (s3 x n') = st n') (w : lcW item l [] n K) (hk : ∀ ys n', K ys n' → Q (.list (ys.map e)) (st n')) : aLc ai b tYesA a vs xp s Q := h0 xp _ (by
  rw [hit]
  exact lcw_go f e st s3 hc hk l [] n (by simpa using hl) hi hb w)
/-- a draw -/
def w__law_next (m : Int) (n : Nat) (K : Int → Nat → Prop) : Prop := n ≤ 1000000 ∧ 0 < m ∧ m ≤ 4000000000000 ∧ ∀ r, 0 ≤ r → r < m → K r (n + 1)
end TR
namespace TR
open PySem PySem.Spec PyProof.Rows L2
theorem n_st {D : AEnds} {s s' : AS} (e : s = s') (h : D.nx s') : D.nx s := e ▸ h
def w__law_one {α : Type} (l : List α) (n : Nat) (K : α → Nat → Prop) : Prop := (n ≤ 1000000 ∧ l ≠ [] ∧ l.length ≤ 1000) ∧ ∀ x ∈ l, K x (n + 1)
end TR
namespace TR
open PySem PySem.Spec PyProof.Rows L2
/-! ### enumerate, count; the exception as an argument -/
def enN {α : Type} (l : List α) : List (Int × α) := l.zipIdx.map fun p => (((p.2 : Nat) : Int), p.1)
theorem enN_map {α : Type} (f : α → PyData) (l : List α) : enD (l.map f) = (enN l).map (eP PyData.int f) := by
  unfold enD enN
  rw [List.zipIdx_map, List.map_map, List.map_map]
  rfl
section
variable {s s1 s2 : AS} {d e : PyData}
theorem iv_enT {α : Type} {f : α → PyData} {l : List α} {a : AE} (h : EV a s (eQ f l) s1) : IV (iEnT a) s (.fix ((enN l).map (eP PyData.int f))) s1 := fun xp _ q => h xp _ (by
  show _ 
  dsimp only
  rw [enN_map]; exact q)
end
end TR
namespace TR
open PySem PySem.Spec PyProof.Rows L2
theorem shp {k : Nat} {d : PyData} (h : Sd k d) (hk : Nat.ble k 64 = true) : SeqAt.shaped d = true := by
  show (d.canLay0 && decide (d.depth ≤ 64)) = true
  rw [h.1, decide_eq_true (Nat.le_trans h.2 (Nat.le_of_ble_eq_true hk))]
  rfl
end TR
namespace TR
open PySem PySem.Spec PyProof.Rows L2
end TR
namespace TR
open PySem PySem.Spec PyProof.Rows L2
theorem emp_map {α : Type} (f : α → PyData) (l : List α) : (l.map f).isEmpty = l.isEmpty := by cases l <;> rfl
section
variable {α β : Type} {f : α → PyData} {g : β → PyData} {l : List α} {d : PyData}
theorem vf_neEL : VF vNeE (eL f l) (eL g []) (.bool (!l.isEmpty)) := fun Q q => (emp_map f l ▸ q : Q (.bool (!(l.map f).isEmpty)))
end
end TR
namespace TR
open PySem PySem.Spec PyProof.Rows L2
/-! ### min of two; max by len -/
def fMin2B : List PyData → (PyData → Prop) → Prop
  | [.int i, .int j], Q => Q (.int (if j < i then j else i))
  | [.tuple a, .tuple b], Q => PySem.W.AlikeAll [.tuple a, .tuple b] ∧ PyData.depthAll [.tuple a, .tuple b] ≤ 50 ∧ Q (PySem.W.minD (.tuple a) [.tuple b])
  | _, _ => False
def rMin2B : List V → Hp → VK → Prop := fun xs H Q => (∃ i j, xs = [.int i, .int j] ∧ Q (.int (if j < i then j else i)) H) ∨ rMin2A xs H Q
theorem dc_min2B : DCall rMin2B fMin2B := by
  intro bn H ds vs Q Qc nb p q k
  unfold fMin2B at q
  split at q
  · exact .inl (dc_min2 bn H _ vs Q Qc nb p q k)
  · exact .inr (dc_min2A bn H _ vs Q Qc nb p q k)
  · exact q.elim
theorem cr_min2B {X : Cx} (hc : X.calm = true) (hu : X.A.units + 65 < cLine) : CallR X (.builtin "min") rMin2B := CallR.or (call_min2 hc) (cr_min2A hc hu)
def min2N {α : Type} (f : α → PyData) (a b : α) : α := if PySem.W.dataLt (f b) (f a) then b else a
theorem fv_min2Q {α : Type} {f : α → PyData} {a b : List α} (h : MmOk [eQ f a, eQ f b]) : FV fMin2B [eQ f a, eQ f b] (eQ f (min2N (eQ f) a b)) := fun Q q => by
  refine ⟨h.1, h.2, ?_⟩
  have e : PySem.W.minD (eQ f a) [eQ f b] = eQ f (min2N (eQ f) a b) := by
    unfold min2N
    show (if PySem.W.dataLt (eQ f b) (eQ f a) = true then eQ f b else eQ f a) = _
    split <;> rfl
  exact e.symm ▸ q
end TR
namespace TR
open PySem PySem.Spec PyProof.Rows L2
/-! ### while, by fuel -/
instance : Inhabited XN := ⟨⟨0, none⟩⟩
/-! ### two calls that may raise, in the ways of an if -/
def mapX {α β : Type} (f : α → β) : Except XN α → Except XN β
  | .ok r => .ok (f r)
  | .error x => .error x
theorem PFx.map {α : Type} {cc : Nat → Addr} {F : AF} {ds : List PyData} {f : α → PyData} {v : Except XN α} (h : PFx cc F ds f v) : PFx cc F ds eD (mapX f v) := fun n Q X q => h n Q X (by
  cases v with
  | ok r => exact q
  | error x => exact q)
section
variable {cc : Nat → Addr} {s s1 s2 : AS} {d e r : PyData} {i : Nat} {xp : XP} {D : AEnds} {x : XN}
/-! ### draws: walks of a range whose end is drawn -/
/-! ### draws in the condition of a comprehension -/
end
end TR
namespace TR
open PySem PySem.Spec PyProof.Rows L2
/-! ### zip, native -/
section
variable {s s1 : AS}
end
end TR
namespace TR
open PySem PySem.Spec PyProof.Rows L2
end TR
namespace TR
open PySem PySem.Spec PyProof.Rows L2
end TR
namespace TR
open PySem PySem.Spec PyProof.Rows L2
/-! ### a, b, c = x, y, z: plain locals -/
section
variable {X : Cx} {Ec : EC}
end
end TR
namespace TR
open PySem PySem.Spec PyProof.Rows L2
end TR
namespace TR
open PySem PySem.Spec PyProof.Rows L2
end TR
namespace TR
open PySem PySem.Spec PyProof.Rows L2
/-! ### x[i] = v, x a list that is built here; len(set(x)), x ints without repeats -/
section
variable {X : Cx} {Ec : EC}
end
/-! ### len(set(x)) -/
section
variable {X : Cx} {Ec : EC}
end
end TR
namespace TR
open PySem PySem.Spec PyProof.Rows L2
section
variable {s s1 s2 s3 : AS} {i : Nat} {xp : XP} {D : AEnds}
end
end TR
namespace TR
open PySem PySem.Spec PyProof.Rows L2
/-! ### sorted(set(l)), l a list of tuples of ints below 64, all of one length -/
section
variable {X : Cx} {x y : Str} {p1 p2 c1 c2 : Pos} {e : Expr} {t : TA}
end
/-! native -/
end TR
namespace TR
open PySem PySem.Spec PyProof.Rows L2
/-! ### len(set(x)), x ints, also with repeats; a walk of what a drawing call gives -/
section
variable {X : Cx} {Ec : EC}
end
section
variable {s s1 : AS}
end
/-! walks of drawn lists -/
end TR
namespace TR
open PySem PySem.Spec PyProof.Rows L2
/-! ### l[::-1], l a list -/
section
variable {X : Cx}
end
section
variable {s s1 : AS}
end
end TR
namespace TR
open PySem PySem.Spec PyProof.Rows L2
/-- x in l, for items that are no ints -/
def memB {α : Type} [DecidableEq α] (a : α) (l : List α) : Bool := decide (a ∈ l)
theorem memB_iff {α : Type} [DecidableEq α] {a : α} {l : List α} : memB a l = true ↔ a ∈ l := decide_eq_true_iff
end TR
namespace TR
open PySem PySem.Spec PyProof.Rows L2
/-! ### dicts with int keys that are built, native; list.index -/
section
variable {s s1 s2 : AS}
end
end TR
namespace TR
open PySem PySem.Spec PyProof.Rows L2
/-! ### first, *rest = a list -/
section
variable {X : Cx}
end
section
variable {X : Cx} {Ec : EC}
end
section
variable {s s1 : AS}
end
end TR
namespace TR
open PySem PySem.Spec PyProof.Rows L2
/-! ### sorted(d.values()), d a dict that is built here -/
def valsO (p d : Addr) : HO := .ext fun h => h.IsValuesView p d
theorem valsO_ok {P : Program} {w : World} {H : Hp} {h : Heap} {p d : Addr} (e : h.get? p = some { cls := .type "dict_values", data := .fields #[.ref d] }) : ObjOk P w H h p (valsO p d) :=
  ⟨⟨_, e, rfl, rfl⟩, ⟨_, e⟩, fun _ _ ⟨o, ho, r⟩ k => ⟨o, k o ho, r⟩⟩
section
variable {X : Cx}
end
section
variable {X : Cx} {Ec : EC}
end
section
variable {s : AS}
end
end TR
namespace TR
open PySem PySem.Spec PyProof.Rows L2
/-! ### sets of pairs of truth values, few of them -/
abbrev IsB (P : Program) (w : World) (h : Heap) (k : List Bool) (a : Addr) : Prop := IsTupleKey (PpSet.boolK P w) h k a
abbrev bhs (k : List Bool) : Int := reduceHash (Builtin.Tuple.tupleHashOf (k.map PpSet.hB))
section
variable {P : Program} {w : World} {A : Around} {E : Value → Shared → Prop} {s : Shared}
end
/-- the set at a has these pairs, at most four -/
structure FewB (P : Program) (w : World) (h : Heap) (a : Addr) (L : List (Addr × List Bool)) (es : Array (Int × Value)) (ep : Nat) (t : SetTable) : Prop where
  obj : ∃ o, h.get? a = some o ∧ o.ExactSet ∧ o.data = .set es ep t
  row : es.toList = L.map fun p => (bhs p.2, Value.ref p.1)
  tbo : TabOk t (L.map fun p => bhs p.2)
  dis : (L.map (·.2)).Nodup
  tps : ∀ p ∈ L, IsB P w h p.2 p.1 ∧ p.2.length = 2
  pln : t.plain = true
  ldd : w.params.followText "set-order" = true ∨ t.led = true
  msk : t.mask = 7
  few : L.length ≤ 4
section
variable {P : Program} {w : World} {A : Around} {E : Value → Shared → Prop} {s : Shared} {a : Addr} {L : List (Addr × List Bool)} {es : Array (Int × Value)} {ep : Nat} {t : SetTable}
theorem FewB.size (R : FewB P w s.heap a L es ep t) : es.size = L.length := by
  have := congrArg List.length R.row
  rwa [Array.length_toList, List.length_map] at this
theorem FewB.at (R : FewB P w s.heap a L es ep t) {i : Nat} {p : Addr × List Bool} (h : L[i]? = some p) : es[i]? = some (bhs p.2, Value.ref p.1) := by
  rw [← Array.getElem?_toList, R.row, List.getElem?_map, h]; rfl
theorem FewB.stands (R : FewB P w s.heap a L es ep t) : ¬ t.gaveWay = true := by
  unfold SetTable.gaveWay
  rw [R.msk]
  decide
theorem FewB.keep {h h' : Heap} (R : FewB P w h a L es ep t) (k : ∀ b o, h.get? b = some o → h'.get? b = some o) : FewB P w h' a L es ep t :=
  have ⟨o, ho, r⟩ := R.obj
  ⟨⟨o, k _ _ ho, r⟩, R.row, R.tbo, R.dis, fun p hp => ⟨have ⟨u, its, n, hu, q⟩ := (R.tps p hp).1; ⟨u, its, n, k _ _ hu, q⟩, (R.tps p hp).2⟩, R.pln, R.ldd, R.msk, R.few⟩
end
end TR
namespace TR
open PySem PySem.Spec PyProof.Rows L2
/-! ### set(l), l a list of at most four pairs of truth values -/
structure GotB (ks : List (Addr × List Bool)) (i : Nat) (L : List (Addr × List Bool)) : Prop where
  mem : ∀ k, k ∈ L.map (·.2) ↔ k ∈ (ks.take i).map (·.2)
  len : L.length ≤ i
  sub : ∀ p ∈ L, p ∈ ks
section
variable {P : Program} {w : World} {A : Around} {E : Value → Shared → Prop}
end
end TR
namespace TR
open PySem PySem.Spec PyProof.Rows L2
/-! ### list(zip(a, b)): the pairs are kept, so zip makes a new one each time -/
structure ZL (z TI TO i1 i2 l1 l2 S : Addr) (xs ys : Array Value) (i : Nat) (h : Heap) : Prop where
  ti : IsPair h TI (.ref i1) (.ref i2)
  a : h.IsListIter i1 l1 i
  b : h.IsListIter i2 l2 i
  la : h.IsList l1 xs
  lb : h.IsList l2 ys
  zz : (IsZip h z TI TO .none ∧ ∃ a b, IsPair h TO a b) ∨ ∃ T f oT, IsZipHeld h z TI TO T f ∧ h.get? T = some oT ∧ T ≠ z ∧ T ≠ i1 ∧ T ≠ i2 ∧ T ≠ S
  to : ∃ o, h.get? TO = some o
section
variable {P : Program} {w : World} {A : Around}
end
end TR
namespace TR
open PySem PySem.Spec PyProof.Rows L2
/-! ### len(set(list(zip(a, b)))), a and b lists of at most four truth values -/
abbrev tw (p : Bool × Bool) : List Bool := [p.1, p.2]
section
variable {P : Program} {w : World} {A : Around} {E : Value → Shared → Prop} {s : Shared}
end
theorem val_bls : ∀ {bs : List Bool} {us : List Value}, Vals (bs.map V.bl) us → us = bs.map Value.bool
  | [], _, h => by cases h; rfl
  | b :: bs, _, h => by
    cases h with
    | cons r t =>
      rw [val_bls t]
      cases r
      rfl
section
variable {X : Cx}
end
section
variable {X : Cx} {Ec : EC}
theorem rp_bls {H : Hp} {bn : List Addr} : ∀ {bs : List Bool} {xs : List V}, RpAll H bn (bs.map PyData.bool) xs → xs = bs.map V.bl
  | [], _, h => h
  | b :: bs, _, ⟨v, t, e, h1, h2⟩ => by
    rw [e, rp_bls h2, show v = V.bl b from h1]
    rfl
end
section
variable {s s1 : AS}
end
end TR
namespace TR
open PySem PySem.Spec PyProof.Rows L2
/-! ### len({(a, b) for x in l}), the pairs truth values, at most four turns; the set itself is never tracked -/
abbrev BP := Addr × (Bool × Bool)
abbrev keyBP (p : BP) : Addr × List Bool := (p.1, tw p.2)
/-- the set at D has just these pairs -/
def SetIn (P : Program) (w : World) (D : Addr) (ps : List BP) (h : Heap) : Prop := ∃ L es ep t, FewB P w h D L es ep t ∧ GotB (ps.map keyBP) ps.length L
section
variable {P : Program} {w : World} {A : Around} {E : Value → Shared → Prop} {s : Shared}
end
end TR
namespace TR
open PySem PySem.Spec PyProof.Rows L2
section
variable {X : Cx}
theorem SetIn.obj {D : Addr} {ps : List BP} {h : Heap} {P : Program} {w : World} (st : SetIn P w D ps h) : ∃ o, h.get? D = some o ∧ ∀ v, o.data ≠ .cell v := by
  obtain ⟨L, es, ep, t, R, g⟩ := st
  obtain ⟨o, ho, _, hd⟩ := R.obj
  exact ⟨o, ho, fun v e => by rw [hd] at e; cases e⟩
end
end TR
namespace TR
open PySem PySem.Spec PyProof.Rows L2
section
variable {X : Cx} {Ec : EC}
end
end TR
namespace TR
open PySem PySem.Spec PyProof.Rows L2
section
variable {s s1 : AS}
end
end TR
namespace TR
open PySem PySem.Spec PyProof.Rows L2
/-! ### a tuple of any shape, turned round -/
end TR
namespace TR
open PySem PySem.Spec
/-! ### == of any data with a text -/
end TR
namespace TR
open PySem PySem.Spec PyProof.Rows L2
end TR
namespace TR
open PySem PySem.Spec PyProof.Rows L2
/-! ### dicts whose keys are tuples of ints and truth values: the hand layer -/
section
variable {P : Program} {w : World}
abbrev numK (k : List Int) : NestedKey := .tup (k.map .num)
theorem hashes_num (w : World) : ∀ k : List Int, NestedKey.hashes w (k.map .num) = k.map hashInt
  | [] => by rw [List.map_nil, List.map_nil, NestedKey.hashes]
  | i :: k => by rw [List.map_cons, List.map_cons, NestedKey.hashes, hashes_num w k, NestedKey.hash]
theorem numK_inj {a b : List Int} (h : numK a = numK b) : a = b := by
  injection h with h
  have : Function.Injective NestedKey.num := fun x y e => by injection e
  exact (List.map_inj_right fun x y e => this e).mp h
theorem depth_nums : ∀ k : List Int, NestedKey.depthAll (k.map .num) = 0
  | [] => by rw [List.map_nil, NestedKey.depthAll]
  | i :: k => by rw [List.map_cons, NestedKey.depthAll, NestedKey.depth, depth_nums k]; rfl
/-- the library's own entries -/
abbrev upK (x : List Int × Addr × Value) : NestedKey × Addr × Value := (numK x.1, x.2)
theorem ent_up (x : List Int × Addr × Value) : entryOfKey (nestedKind P w) (upK x) = entI x := by
  obtain ⟨k, a, v⟩ := x
  show DictEntry.mk (NestedKey.hash w (numK k)) _ _ = DictEntry.mk _ _ _
  rw [NestedKey.hash, hashes_num]
theorem ents_up (xs : List (List Int × Addr × Value)) : (xs.map upK).map (entryOfKey (nestedKind P w)) = xs.map entI := by
  rw [List.map_map]
  exact List.map_congr_left fun x _ => ent_up x
theorem nodup_upK {xs : List (List Int × Addr × Value)} : ((xs.map upK).map (·.1)).Nodup ↔ (xs.map (·.1)).Nodup := by
  have e : (xs.map upK).map (·.1) = (xs.map (·.1)).map numK := by rw [List.map_map, List.map_map]; rfl
  rw [e]
  constructor
  · intro h
    exact List.Pairwise.of_map numK (fun a b h e => h (by rw [e])) h
  · intro h
    exact List.Pairwise.map numK (fun a b h e => h (numK_inj e)) h
def atKI (xs : List (List Int × Addr × Value)) (k : List Int) : Option (Addr × Value) := (xs.find? fun x => decide (x.1 = k)).map (·.2)
theorem atKey_up (xs : List (List Int × Addr × Value)) (k : List Int) : atKey (xs.map upK) (numK k) = atKI xs k := by
  unfold atKey atKI
  induction xs with
  | nil => rfl
  | cons x xs ih =>
    rw [List.map_cons]
    by_cases h : x.1 = k
    · rw [List.find?_cons_of_pos (by show decide (numK x.1 = numK k) = true; rw [h]; exact decide_eq_true rfl), List.find?_cons_of_pos (p := fun x : List Int × Addr × Value => decide (x.1 = k)) (decide_eq_true h)]
      rfl
    · rw [List.find?_cons_of_neg (by show ¬ decide (numK x.1 = numK k) = true; rw [decide_eq_true_iff]; exact fun e => h (numK_inj e)), List.find?_cons_of_neg (by rw [decide_eq_true_iff]; exact h)]
      exact ih
/-- an item of a key -/
def leafV (i : Int) (v : V) : Prop := v = .int i ∨ ∃ b : Bool, v = .bl b ∧ i = if b = true then 1 else 0
def KAt (H : Hp) (k : List Int) (a : Addr) : Prop := ∃ xs, TF H a xs ∧ Paired leafV k xs
theorem KAt.same {H H' : Hp} {k : List Int} {a : Addr} (h : KAt H k a) (s : Same H H') : KAt H' k a := let ⟨xs, t, p⟩ := h; ⟨xs, t.same s, p⟩
theorem nested_all {h : Heap} : ∀ {k : List Int} {xs : List V} {its : List Value}, Paired leafV k xs → Vals xs its → NestedAll h (k.map .num) its
  | [], _, _, .nil, .nil => .nil
  | _ :: _, _, _, .cons l t, .cons r q => .cons (by
      rcases l with rfl | ⟨b, rfl, e⟩
      · obtain ⟨t, rfl⟩ := r
        exact .int _ t
      · cases r
        exact .bool e) (nested_all t q)
section
variable {X : Cx} {pins : List (Addr × Obj)} {σ : L2.St} {H : Hp} {s : Shared} {a : Addr}
theorem kat_is (I : Inv X pins σ H s) {k : List Int} (h : KAt H k a) : (nestedKind X.prog X.w).is s.heap (numK k) a := by
  obtain ⟨xs, ⟨o, _, e⟩, p⟩ := h
  obtain ⟨_, _, its, r, o2, h1, h2, n, h3⟩ := (show ObjOk X.prog X.w H s.heap a (.frz o (.tup xs)) from I.hok a _ e)
  refine ⟨.tup h1 h2 h3 (by rw [List.toList_toArray]; exact nested_all p r), ?_⟩
  show NestedKey.depth (numK k) ≤ 8
  rw [NestedKey.depth, depth_nums]
  decide
def KeysAt (H : Hp) (kvs : List (List Int × Addr × V)) : Prop := ∀ e ∈ kvs, KAt H e.1 e.2.1
theorem kvn_mem {kvs : List (List Int × Addr × V)} {xs : List (List Int × Addr × Value)} (r : KVN kvs xs) : ∀ x ∈ xs, ∃ e ∈ kvs, e.1 = x.1 ∧ e.2.1 = x.2.1 := by
  induction r with
  | nil => exact fun x h => nomatch h
  | cons h t ih =>
    intro x hx
    rcases List.mem_cons.mp hx with rfl | hx
    · exact ⟨_, List.mem_cons_self, h.1, h.2.1⟩
    · obtain ⟨e, he, r⟩ := ih x hx
      exact ⟨e, List.mem_cons_of_mem _ he, r⟩
theorem dn_of {kvs : List (List Int × Addr × V)} (I : Inv X pins σ H s) (e : H a = some (DN a kvs)) (hk : KeysAt H kvs) : kvs.length ≤ sizeLine ∧ (a == sysModules) = false ∧ ∃ xs, KVN kvs xs ∧ s.heap.DictOfH (nestedKind X.prog X.w) a (xs.map upK) := by
  obtain ⟨z, y, xs, r, o, es, ep, h1, h2, h3, h4, h5⟩ := (show ObjOk X.prog X.w H s.heap a (DN a kvs) from I.hok a _ e).1
  refine ⟨z, y, xs, r, o, es, ep, h1, h2, h3, by rw [ents_up]; exact h4, fun x hx => ?_, nodup_upK.mpr h5⟩
  obtain ⟨x0, hx0, rfl⟩ := List.mem_map.mp hx
  obtain ⟨e, he, e1, e2⟩ := kvn_mem r x0 hx0
  have := kat_is I (hk e he)
  rw [e1, e2] at this
  exact this
theorem dn_ok {P : Program} {w : World} {H' : Hp} {h : Heap} {kvs : List (List Int × Addr × V)} {xs : List (List Int × Addr × Value)} (z : kvs.length ≤ sizeLine) (y : (a == sysModules) = false) (r : KVN kvs xs) (d : RawD h a xs) : ObjOk P w H' h a (DN a kvs) := by
  obtain ⟨o, es, ep, h1, h2⟩ := id d
  exact ⟨⟨z, y, xs, r, d⟩, ⟨o, h1⟩, fun h1 h2 ⟨z, y, xs, r, o, es, ep, g1, g2⟩ k => ⟨z, y, xs, r, o, es, ep, k o g1, g2⟩⟩
theorem dn_empty {P : Program} {w : World} {H : Hp} (h : Heap) (hb : sysModules < h.objs.size) : ObjOk P w H (h.push { cls := .type "dict", data := .dict #[] }) h.objs.size (DN h.objs.size []) :=
  dn_ok (Nat.zero_le _) (beq_eq_false_iff_ne.mpr (Ne.symm (Nat.ne_of_lt hb))) .nil ⟨_, #[], 0, Heap.get?_push_size _ rfl, ⟨rfl, rfl, rfl⟩, rfl, rfl, List.nodup_nil⟩
def tNewI : TE := fun _ H Q => ∀ p, H p = none → Q (.ref p) (upd H p (DN p []))
theorem pe_newI {pos : Pos} : PE X (.Dict [] [] pos) tNewI := ⟨fun pins s σ H Q I h =>
  wpAny_Dict_empty ⟨.ref s.heap.objs.size, _, I.laid (a := s.heap.objs.size) (o := DN s.heap.objs.size []) (t' := s.toks) (fun _ _ q => Heap.get?_push_of_some _ q) (Nat.le_refl _) (dn_empty s.heap I.big), rfl, h _ (I.hok.fresh (Nat.le_refl _))⟩⟩
def valI (kvs : List (List Int × Addr × V)) (k : List Int) : Option (Addr × V) := (kvs.find? fun x => decide (x.1 = k)).map (·.2)
theorem kvn_val (k : List Int) {kvs : List (List Int × Addr × V)} {xs : List (List Int × Addr × Value)} (r : KVN kvs xs) : (valI kvs k = none ∧ atKI xs k = none) ∨ ∃ a v u, valI kvs k = some (a, v) ∧ atKI xs k = some (a, u) ∧ RelV v u := by
  induction r with
  | nil => exact .inl ⟨rfl, rfl⟩
  | @cons p q ps qs h t ih =>
    unfold valI atKI at *
    by_cases e : p.1 = k
    · refine .inr ⟨p.2.1, p.2.2, q.2.2, ?_, ?_, h.2.2⟩
      · rw [List.find?_cons_of_pos (p := fun x : List Int × Addr × V => decide (x.1 = k)) (decide_eq_true e)]; rfl
      · rw [List.find?_cons_of_pos (by rw [decide_eq_true_iff, ← h.1]; exact e)]
        show some q.2 = _
        rw [h.2.1]
    · rw [List.find?_cons_of_neg (by rw [decide_eq_true_iff]; exact e), List.find?_cons_of_neg (by rw [decide_eq_true_iff, ← h.1]; exact e)]
      exact ih
theorem kvn_app {kvs : List (List Int × Addr × V)} {xs : List (List Int × Addr × Value)} {k : List Int} {b : Addr} {v : V} {u : Value} (h : RelV v u) (r : KVN kvs xs) : KVN (kvs ++ [(k, b, v)]) (xs ++ [(k, b, u)]) := by
  unfold KVN at r
  induction r with
  | nil => exact .cons ⟨rfl, rfl, h⟩ .nil
  | cons e _ ih => exact .cons e ih
theorem stored_new {xs : List (List Int × Addr × Value)} {k : List Int} {b : Addr} {u : Value} (h : atKI xs k = none) : storedH (xs.map upK) (numK k) b u = (xs ++ [(k, b, u)]).map upK := by
  unfold storedH
  rw [atKey_up, h, if_neg (by simp), List.map_append]
  rfl
theorem raw_of {h : Heap} {xs : List (List Int × Addr × Value)} (d : h.DictOfH (nestedKind X.prog X.w) a (xs.map upK)) : RawD h a xs := by
  obtain ⟨o, es, ep, h1, h2, h3, h4, _, h5⟩ := d
  exact ⟨o, es, ep, h1, h2, h3, by rw [← ents_up (P := X.prog) (w := X.w)]; exact h4, nodup_upK.mp h5⟩
theorem d_setdN {A : Around} {E : Value → Shared → Prop} {Q : Value → Shared → Prop} {kvs : List (List Int × Addr × V)} {k : List Int} {b : Addr} {d : V} {r : Value} (hu : A.units + 9 < cLine) (I : Inv X pins σ H s) (e : H a = some (DN a kvs)) (hk : KeysAt H kvs) (kb : KAt H k b) (rd : RelV d r) (hl : kvs.length < sizeLine)
    (h1 : ∀ c v, valI kvs k = some (c, v) → ∀ (w' : Value) (s' : Shared), Inv X pins σ H s' → RelV v w' → Q w' s') (h2 : valI kvs k = none → ∀ (w' : Value) (s' : Shared), Inv X pins σ (upd H a (DN a (kvs ++ [(k, b, d)]))) s' → RelV d w' → Q w' s') :
    wpAny (model X.prog X.w) A (call (.builtin "dict.setdefault") [.ref a, .ref b, r]) Q E s := by
  obtain ⟨z, y, xs, rel, dd⟩ := dn_of I e hk
  have lx : (xs.map upK).length ≤ sizeLine := by rw [List.length_map, ← Paired.length rel]; exact z
  refine call_setdefault_heap (hsz := lx) (knd := nestedKind X.prog X.w) (show A.in1.units + 8 < cLine by have : A.in1.units = A.units + 1 := rfl; omega) (kat_is I kb) y dd (fun p hp => ?_) fun hn h' dd' hs => ?_
  · rw [atKey_up] at hp
    rcases kvn_val k rel with ⟨_, n2⟩ | ⟨c, v, u, g1, g2, g3⟩
    · rw [n2] at hp; cases hp
    · rw [g2] at hp; cases hp
      exact h1 c v g1 _ _ (I.tok _) g3
  · rw [atKey_up] at hn
    rcases kvn_val k rel with ⟨n1, _⟩ | ⟨c, v, u, g1, g2, g3⟩
    · rw [stored_new hn] at dd'
      have rw1 := raw_of dd'
      have he : ∃ q, h'.get? a = some q := let ⟨q, _, _, hq, _⟩ := rw1; ⟨q, hq⟩
      exact h2 n1 _ _ (d_write (t' := s.toks + (nestedKind X.prog X.w).draws (numK k)) I (by rw [e]; exact True.intro) hs he (dn_ok (by rw [List.length_append]; exact hl) y (kvn_app rd rel) rw1)) rd
    · rw [g2] at hn; cases hn
def IsDN (H : Hp) (a : Addr) : Prop := ∃ kvs, H a = some (DN a kvs)
theorem isDN_at (I : Inv X pins σ H s) (d : IsDN H a) : s.TypeIs (.ref a) "dict" ∧ (∀ b, Value.ref a = .ref b → ∃ ob, s.heap.get? b = some ob ∧ ob.dict = none) ∧ (a == sysModules) = false := by
  obtain ⟨kvs, e⟩ := d
  obtain ⟨z, y, xs, r, o, es, ep, h1, h2, h3, _⟩ := (show ObjOk X.prog X.w H s.heap a (DN a kvs) from I.hok a _ e).1
  refine ⟨⟨o, h1, h2.1⟩, fun b q => ?_, y⟩
  cases q
  exact ⟨o, h1, h2.2.1⟩
end
/-- d.setdefault(y, z) -/
def tDSetdN (td ty tx : TE) : TE := fun σ H Q => td σ H fun x H1 => ∃ a, x = .ref a ∧ IsDN H1 a ∧ ty σ H1 fun y H2 => tx σ H2 fun z H3 => ∃ (kvs : List (List Int × Addr × V)) (k : List Int) (b : Addr), H3 a = some (DN a kvs) ∧ KeysAt H3 kvs ∧ y = .ref b ∧ KAt H3 k b ∧ kvs.length < sizeLine ∧
  (∀ c v, valI kvs k = some (c, v) → Q v H3) ∧ (valI kvs k = none → Q z (upd H3 a (DN a (kvs ++ [(k, b, z)]))))
section
variable {X : Cx} {o e f : Expr} {td ty tx : TE} {apos cpos : Pos}
theorem pe_dsetdN (hu0 : X.A.units + 65 < cLine) (ho : PE X o td) (he : PE X e ty) (hf : PE X f tx) (m : M2 X o "setdefault" apos e f cpos) : PE X (.Call (.Attribute o "setdefault" apos) [e, f] [] cpos) (tDSetdN td ty tx) := by
  refine ⟨fun pins s σ H Q I h => ?_⟩
  refine wpAny_Call_method m.base m.few m.line PySem.F.plainAttrs_dict PySem.F.slot_dict_setdefault PySem.F.type_dict_setdefault (thn (ho.run pins s σ H _ I h) fun u s1 ⟨x, H1, I1, rx, a, ex, d, q1⟩ => ?_)
  subst ex
  obtain rfl : u = Value.ref a := rx
  obtain ⟨t1, t2, _⟩ := isDN_at I1 d
  refine ⟨t1, t2, ?_⟩
  rw [m.trees]
  refine Calls.callWith_builtin rfl (Calls.evalArgs_plain (Calls.spliced_cons (thn (he.run pins s1 σ H1 _ I1 q1) fun iv s2 ⟨y, H2, I2, ry, q2⟩ =>
    Calls.spliced_cons (thn (hf.run pins s2 σ H2 _ I2 q2) fun fv s3 ⟨z, H3, I3, rz, kvs, k, b, ea, hk, ey, kb, hl, q3, q4⟩ => Calls.spliced_nil ?_))))
  subst ey
  obtain rfl : iv = Value.ref b := ry
  exact d_setdN (by omega) I3 ea hk kb rz hl (fun c v hv w' s4 I4 rw' => ⟨v, _, I4, rw', q3 c v hv⟩) fun hn w' s4 I4 rw' => ⟨z, _, I4, rw', q4 hn⟩
end
end
end TR
namespace TR
open PySem PySem.Spec PyProof.Rows L2
/-! ### the layer of data -/
def keyTP (d : PyData) (f : List Int → Prop) : Prop := match keyT d with
  | some k => f k
  | none => False
theorem keyTP_get {d : PyData} {f : List Int → Prop} (h : keyTP d f) : ∃ k, keyT d = some k ∧ f k := by
  unfold keyTP at h
  split at h
  · next k e => exact ⟨k, e, h⟩
  · exact h.elim
theorem leaf_at {H : Hp} {bn : List Addr} : ∀ {d : PyData} {i : Int} {v : V}, leafI d = some i → Rp H bn d v → leafV i v
  | .int _, _, _, e, r => by cases e; exact .inl r
  | .bool b, _, _, e, r => by cases e; exact .inr ⟨b, r, rfl⟩
  | .none, _, _, e, _ => by cases e
  | .str _, _, _, e, _ => by cases e
  | .list _, _, _, e, _ => by cases e
  | .tuple _, _, _, e, _ => by cases e
  | .dict _, _, _, e, _ => by cases e
theorem leafs_at {H : Hp} {bn : List Addr} : ∀ {ds : List PyData} {k : List Int} {xs : List V}, keyTs ds = some k → RpAll H bn ds xs → Paired leafV k xs
  | [], _, _, e, r => by
    cases e
    rw [show _ = _ from r]
    exact .nil
  | d :: ds, k, _, e, r => by
    obtain ⟨v, r', rfl, h1, h2⟩ := r
    unfold keyTs at e
    split at e
    · next i q e1 e2 =>
      cases e
      exact .cons (leaf_at e1 h1) (leafs_at e2 h2)
    · cases e
theorem key_at {H : Hp} {bn : List Addr} {d : PyData} {k : List Int} {v : V} (e : keyT d = some k) (r : Rp H bn d v) : ∃ b, v = .ref b ∧ KAt H k b := by
  cases d with
  | tuple ds =>
    obtain ⟨b, xs, rfl, t, ra⟩ := r
    exact ⟨b, rfl, xs, t, leafs_at e ra⟩
  | _ => cases e
section
variable {X : Cx} {Ec : EC}
end
end TR
namespace TR
open PySem PySem.Spec PyProof.Rows L2
/-! ### the values of a dict with tuple keys -/
/-- d.values() -/
def tValsN (td : TE) : TE := fun σ H Q => td σ H fun x H1 => ∃ a kvs, x = .ref a ∧ H1 a = some (DN a kvs) ∧ ∀ p, H1 p = none → Q (.ref p) (upd H1 p (valsO p a))
section
variable {X : Cx}
theorem pe_valsN {o : Expr} {td : TE} {apos cpos : Pos} (ho : PE X o td) (hbase : attributeBase o "values" X.env (eval o X.env) = eval o X.env := by rfl) (hline : (apos.endLine == cpos.line) = true := by rfl) : PE X (.Call (.Attribute o "values" apos) [] [] cpos) (tValsN td) := by
  refine ⟨fun pins s σ H Q I h => ?_⟩
  refine wpAny_Call_method (T := "dict") (id := "dict.values") hbase rfl hline F.plainAttrs_dict F.slot_dict_values F.type_dict_values (thn (ho.run pins s σ H _ I h) fun u s1 ⟨x, H1, I1, rx, a, kvs, ex, hd, q⟩ => ?_)
  subst ex
  obtain rfl : u = Value.ref a := rx
  obtain ⟨hz, lo, ws, kv, o, es, ep, g1, g2, g3, _⟩ := (show ObjOk X.prog X.w H1 s1.heap a (DN a kvs) from I1.hok a _ hd).1
  refine ⟨⟨o, g1, g2.1⟩, fun b q => by cases q; exact ⟨o, g1, g2.2.1⟩, ?_⟩
  show wpAny _ _ (callWith cpos (.builtin "dict.values") [.ref a] [] []) _ X.xe s1
  refine method_meetsIn F.slot_dict_values F.entry_dict_values rfl (PySem.evalArgs_none ⟨rfl, ⟨o, g1, g2.1⟩, F.args_dict_values_1 _, _, meets_dict_values_raw a lo, ⟨es, ep, o, g1, g2, g3⟩, ?_⟩)
  exact ⟨.ref s1.heap.objs.size, upd H1 s1.heap.objs.size (valsO s1.heap.objs.size a), I1.laid (t' := s1.toks) (fun _ _ e => Heap.get?_push_of_some _ e) (Nat.le_refl _) (valsO_ok (Heap.get?_push_size _ rfl)), rfl, q _ (I1.hok.fresh (Nat.le_refl _))⟩
end
section
variable {X : Cx} {Ec : EC}
end
end TR
namespace TR
open PySem PySem.Spec PyProof.Rows L2
/-! ### dicts with tuple keys that are built, native -/
structure KeyE {κ : Type} (g : κ → PyData) : Prop where
  ex : ∀ x, ∃ k, keyT (g x) = some k
  inj : ∀ x y k, keyT (g x) = some k → keyT (g y) = some k → x = y
theorem keyTs_ints : ∀ r : List Int, keyTs (r.map PyData.int) = some r
  | [] => rfl
  | i :: r => by
    rw [List.map_cons]
    unfold keyTs
    rw [keyTs_ints r]
    rfl
theorem keyE_RK : KeyE (eQ PyData.int) where
  ex := fun r => ⟨r, keyTs_ints r⟩
  inj := fun x y k h1 h2 => by
    have h1 : keyTs (x.map PyData.int) = some k := h1
    have h2 : keyTs (y.map PyData.int) = some k := h2
    rw [keyTs_ints] at h1 h2
    exact (Option.some.inj h1).trans (Option.some.inj h2).symm
def lkG {κ α : Type} [DecidableEq κ] (l : List (κ × α)) (k : κ) : Option α := (l.find? fun p => decide (p.1 = k)).map (·.2)
section
variable {s s1 s2 : AS}
end
end TR
namespace TR
open PySem PySem.Spec PyProof.Rows L2
/-! ### len(set(t)), t a tuple of ints -/
section
variable {X : Cx} {Ec : EC}
end
section
variable {s s1 : AS}
end
end TR
namespace TR
open PySem PySem.Spec PyProof.Rows L2
/-! ### any tuple + a tuple -/
end TR
namespace TR
open PySem PySem.Spec PyProof.Rows L2
/-! ### dicts with tuple keys whose values are lists of ints that are built -/
def slotL (s : AS) (i : Nat) (k : List (PyData × List Int) → Prop) : Prop := match s.sl[i]? with
  | some (some (.dcl kvs)) => k kvs
  | _ => False
theorem slotL_get {s : AS} {i : Nat} {k : List (PyData × List Int) → Prop} (h : slotL s i k) : ∃ kvs, s.sl[i]? = some (some (.dcl kvs)) ∧ k kvs := by
  unfold slotL at h
  split at h
  · next kvs e => exact ⟨kvs, e, h⟩
  · exact h.elim
def slotI (s : AS) (i : Nat) (k : Int → Prop) : Prop := match s.sl[i]? with
  | some (some (.dat (.int z))) => k z
  | _ => False
theorem slotI_get {s : AS} {i : Nat} {k : Int → Prop} (h : slotI s i k) : ∃ z, s.sl[i]? = some (some (.dat (.int z))) ∧ k z := by
  unfold slotI at h
  split at h
  · next z e => exact ⟨z, e, h⟩
  · exact h.elim
def glPut (k : List Int) (z : Int) : List (PyData × List Int) → List (PyData × List Int)
  | [] => []
  | p :: l => if keyT p.1 = some k then (p.1, p.2 ++ [z]) :: l else p :: glPut k z l
def glFind (kvs : List (PyData × List Int)) (k : List Int) : Option (List Int) := (kvs.find? fun p => decide (keyT p.1 = some k)).map (·.2)
theorem grel_len {M : Addr → Prop} {H : Hp} {bn : List Addr} {kvs : List (PyData × List Int)} {ks : List (List Int × Addr × V)} (r : GRel M H bn kvs ks) : ks.length = kvs.length := (Paired.length r).symm
theorem grel_keys {M : Addr → Prop} {H : Hp} {bn : List Addr} {kvs : List (PyData × List Int)} {ks : List (List Int × Addr × V)} (r : GRel M H bn kvs ks) : KeysAt H ks := by
  unfold GRel at r
  induction r with
  | nil => exact fun e h => nomatch h
  | cons h _ ih =>
    intro e he
    rcases List.mem_cons.mp he with rfl | he
    · obtain ⟨b, eb, kb⟩ := key_at h.1 h.2.1
      cases eb
      exact kb
    · exact ih e he
theorem grel_vals {M : Addr → Prop} {H : Hp} {bn : List Addr} {kvs : List (PyData × List Int)} {ks : List (List Int × Addr × V)} (r : GRel M H bn kvs ks) : ∀ v ∈ ks.map (·.2.2), ∃ b xs, v = .ref b ∧ M b ∧ H b = some (.lst xs) := by
  unfold GRel at r
  induction r with
  | nil => exact fun e h => nomatch h
  | cons h _ ih =>
    intro v hv
    rcases List.mem_cons.mp hv with rfl | hv
    · obtain ⟨_, _, b, e, m, x⟩ := h
      exact ⟨b, _, e, m, x⟩
    · exact ih v hv
theorem grel_none {M : Addr → Prop} {H : Hp} {bn : List Addr} {k : List Int} {kvs : List (PyData × List Int)} {ks : List (List Int × Addr × V)} (r : GRel M H bn kvs ks) : valI ks k = none → glFind kvs k = none := by
  unfold GRel at r
  induction r with
  | nil => exact fun _ => rfl
  | @cons p q ps qs h t ih =>
    intro hn
    unfold glFind valI at *
    by_cases e : q.1 = k
    · rw [List.find?_cons_of_pos (p := fun x : List Int × Addr × V => decide (x.1 = k)) (decide_eq_true e)] at hn
      cases hn
    · rw [List.find?_cons_of_neg (by rw [decide_eq_true_iff]; exact e)] at hn
      rw [List.find?_cons_of_neg (by rw [decide_eq_true_iff, h.1]; exact fun z => e (Option.some.inj z))]
      exact ih hn
theorem paired_imp {α β : Type} {R S : α → β → Prop} {xs : List α} {ys : List β} (h : Paired R xs ys) (g : ∀ x y, y ∈ ys → R x y → S x y) : Paired S xs ys := by
  induction h with
  | nil => exact .nil
  | cons e t ih => exact .cons (g _ _ List.mem_cons_self e) (ih fun x y hy => g x y (List.mem_cons_of_mem _ hy))
theorem valI_mem {ks : List (List Int × Addr × V)} {k : List Int} {c : Addr} {v : V} (h : valI ks k = some (c, v)) : ∃ e ∈ ks, e.2.2 = v := by
  unfold valI at h
  obtain ⟨e, he, h2⟩ := Option.map_eq_some_iff.mp h
  exact ⟨e, List.mem_of_find?_eq_some he, by rw [h2]⟩
theorem grel_put {M : Addr → Prop} {H : Hp} {bn : List Addr} {k : List Int} {z : Int} {c : Addr} {v : V} {kvs : List (PyData × List Int)} {ks : List (List Int × Addr × V)} (r : GRel M H bn kvs ks) (nd : (ks.map (·.2.2)).Nodup) (hv : valI ks k = some (c, v)) :
    ∃ l b, glFind kvs k = some l ∧ v = .ref b ∧ M b ∧ H b = some (.lst (l.map V.int)) ∧ ∀ H' : Hp, ((∀ b', b' ≠ b → M b' → ∀ o, H b' = some o → H' b' = some o) → H' b = some (.lst ((l ++ [z]).map V.int)) → (∀ d v, Rp H bn d v → Rp H' bn d v) → GRel M H' bn (glPut k z kvs) ks) := by
  unfold GRel at r
  induction r with
  | nil => cases hv
  | @cons p q ps qs h t ih =>
    obtain ⟨h1, h2, b, h3, h4, h5⟩ := h
    rw [List.map_cons, List.nodup_cons] at nd
    by_cases e : q.1 = k
    · have hv2 := hv
      unfold valI at hv2
      rw [List.find?_cons_of_pos (p := fun x : List Int × Addr × V => decide (x.1 = k)) (decide_eq_true e)] at hv2
      have e2 : q.2 = (c, v) := Option.some.inj hv2
      refine ⟨p.2, b, ?_, by rw [← h3, e2], h4, h5, fun H' g1 g2 g3 => ?_⟩
      · unfold glFind
        rw [List.find?_cons_of_pos (by rw [decide_eq_true_iff, h1, e])]
        rfl
      · unfold glPut
        rw [if_pos (by rw [h1, e])]
        refine .cons ⟨h1, g3 _ _ h2, b, h3, h4, g2⟩ ?_
        have t2 : GRel M H bn ps qs := t
        exact paired_imp t2 fun p' q' hq ⟨k1, k2, b', k3, k4, k5⟩ => ⟨k1, g3 _ _ k2, b', k3, k4, g1 b' (fun z => nd.1 (List.mem_map.mpr ⟨q', hq, by rw [k3, h3, z]⟩)) k4 _ k5⟩
    · have hv2 : valI qs k = some (c, v) := by
        unfold valI at hv ⊢
        rw [List.find?_cons_of_neg (by rw [decide_eq_true_iff]; exact e)] at hv
        exact hv
      obtain ⟨l, b2, g1, g2, g3, g4, g5⟩ := ih nd.2 hv2
      refine ⟨l, b2, ?_, g2, g3, g4, fun H' f1 f2 f3 => ?_⟩
      · unfold glFind at g1 ⊢
        rw [List.find?_cons_of_neg (by rw [decide_eq_true_iff, h1]; exact fun z => e (Option.some.inj z))]
        exact g1
      · unfold glPut
        rw [if_neg (by rw [h1]; exact fun z => e (Option.some.inj z))]
        refine .cons ⟨h1, f3 _ _ h2, b, h3, h4, f1 b (fun z => nd.1 ?_) h4 _ h5⟩ (g5 H' f1 f2 f3)
        obtain ⟨e0, hm, he⟩ := valI_mem hv2
        exact List.mem_map.mpr ⟨e0, hm, by rw [he, g2, h3, z]⟩
theorem grel_app {M : Addr → Prop} {H : Hp} {bn : List Addr} {kd : PyData} {l : List Int} {k : List Int} {a b : Addr} {kvs : List (PyData × List Int)} {ks : List (List Int × Addr × V)} (hk : keyT kd = some k) (rk : Rp H bn kd (.ref a)) (m : M b) (e : H b = some (.lst (l.map V.int))) (r : GRel M H bn kvs ks) : GRel M H bn (kvs ++ [(kd, l)]) (ks ++ [(k, a, .ref b)]) := by
  unfold GRel at r
  induction r with
  | nil => exact .cons ⟨hk, rk, b, rfl, m, e⟩ .nil
  | cons e _ ih => exact .cons e ih
section
variable {Φ : Fx} {E : OE} {s : AS} {σ : L2.St} {H : Hp}
theorem RelS.other {i j : Nat} {a : Addr} {o u : HO} {x : AV} {v : V} (h2 : RelS Φ E H j x v) (ej : i ≠ j) (r : Rel Φ E s σ H) (m : (i, a) ∈ E.R) (e : H a = some o) (mo : Mu o) : RelS Φ E (upd H a u) j x v := by
  have ac : a ∈ chg E := List.mem_append_right _ (List.mem_map.mpr ⟨_, m, rfl⟩)
  have ab : a ∈ ban Φ E := List.mem_append_left _ ac
  obtain ⟨_, g1, g2, g3⟩ := r.own i a m
  have up : ∀ {b : Addr} {o : HO}, b ≠ a → H b = some o → upd H a u b = some o := fun h e => by rw [upd_ne h]; exact e
  cases x with
  | dat d => exact Rp.updl ab e (show Rp H (ban Φ E) d v from h2) mo
  | deck => exact h2
  | exc x =>
    obtain ⟨b, da, e1, e2, h3, h4⟩ := h2
    exact ⟨b, da, e1, e2, XRep.updl ab e h3 mo, h4⟩
  | own _ =>
    obtain ⟨b, zs, e1, m1, h3, h4⟩ := h2
    exact ⟨b, zs, e1, m1, up (fun z => ej (r.inj i j a m (z ▸ m1))) h3, RpAll.updl ab e h4 mo⟩
  | dct _ =>
    obtain ⟨b, ks, e1, m1, h3, h4⟩ := h2
    exact ⟨b, ks, e1, m1, up (fun z => ej (r.inj i j a m (z ▸ m1))) h3, h4.mono fun _ _ h => Rp.updl ab e h mo⟩
  | dcn _ =>
    obtain ⟨b, ks, e1, m1, h3, h4⟩ := h2
    exact ⟨b, ks, e1, m1, up (fun z => ej (r.inj i j a m (z ▸ m1))) h3, h4.mono fun _ _ h => Rp.updl ab e h mo⟩
  | dcl _ =>
    obtain ⟨b, ks, e1, m1, h3, hn, h4⟩ := h2
    exact ⟨b, ks, e1, m1, up (fun z => ej (r.inj i j a m (z ▸ m1))) h3, hn, h4.mono (fun _ _ h => Rp.updl ab e h mo) fun c _ m2 h => ⟨m2, up (fun z => ej (r.inj i j a m (z ▸ m2))) h⟩⟩
  | lck _ _ =>
    obtain ⟨b, e1, h3, h5, h4⟩ := h2
    exact ⟨b, e1, h3, h5, h4.mono (fun _ _ h => Rp.updl ab e h mo) fun _ _ h => up (fun z => h3 (by rw [z]; exact ab)) h⟩
  | bor _ =>
    rcases h2 with h2 | ⟨b, ds, zs, e1, e2, h3, h5, h6⟩
    · exact .inl (Rp.updl ab e h2 mo)
    · exact .inr ⟨b, ds, zs, e1, e2, up (fun z => g1 (z ▸ h5)) h3, h5, RpAll.updl ab e h6 mo⟩
/-- a list that a slot leads to is changed -/
theorem Rel.mutW (r : Rel Φ E s σ H) {i : Nat} {a : Addr} {o u : HO} {x : AV} {w : V} (hi : i < s.sl.length) (hσ : σ[i]? = some (some w)) (m : (i, a) ∈ E.R) (e : H a = some o) (mo : Mu o) (mu : Mu u) (rx : RelS Φ E (upd H a u) i x w) : Rel Φ E (s.set i x) σ (upd H a u) ∧ KB E H (upd H a u) := by
  have ac : a ∈ chg E := List.mem_append_right _ (List.mem_map.mpr ⟨_, m, rfl⟩)
  have ab : a ∈ ban Φ E := List.mem_append_left _ ac
  obtain ⟨_, g1, g2, g3⟩ := r.own i a m
  have up : ∀ {b : Addr} {o : HO}, b ≠ a → H b = some o → upd H a u b = some o := fun h e => by rw [upd_ne h]; exact e
  have kb : KB E H (upd H a u) := fun b o h n => up (fun z => n (z ▸ ac)) h
  refine ⟨⟨by show (s.sl.set i _).length = _; rw [List.length_set]; exact r.len, fun j y hy => ?_, fun d p q h => ?_, fun j b h => ?_, r.inj, fun b o h1 h2 => up (fun z => ?_) (r.fr b o h1 h2), r.dk0, r.alive, fun x hx => Hl.updl ab e (r.held x hx) mo, fun x hx => ?_, r.znd, r.tt⟩, kb⟩
  · by_cases ej : i = j
    · subst ej
      have hx2 : (s.sl.set i (some x))[i]? = some (some y) := hy
      rw [List.getElem?_set_self hi] at hx2
      cases hx2
      exact ⟨_, hσ, rx⟩
    · have hx2 : (s.sl.set i (some x))[j]? = some (some y) := hy
      rw [List.getElem?_set_ne ej] at hx2
      obtain ⟨v, h1, h2⟩ := r.val j y hx2
      exact ⟨v, h1, h2.other ej r m e mo⟩
  · obtain ⟨h1, h2⟩ := r.dk d p q h
    rw [h] at g2
    simp only [dkl, List.mem_cons, List.not_mem_nil, or_false, not_or] at g2
    exact ⟨h1.updl' g2.1 g2.2.1 g2.2.2.1 g2.2.2.2 (Mu.nc e mo), h2⟩
  · by_cases z : b = a
    · subst z
      exact ⟨⟨_, upd_same, mu⟩, (r.own j b h).2⟩
    · obtain ⟨⟨zs, h1, mu2⟩, h2⟩ := r.own j b h
      exact ⟨⟨zs, up z h1, mu2⟩, h2⟩
  · rw [z, g3] at h1; cases h1
  · obtain ⟨z1, z2, z3⟩ := r.zz x hx
    exact ⟨up (fun z => z2 (z ▸ ac)) z1, z2, z3⟩
theorem slot_dcl {Φ : Fx} {E1 : OE} {s1 : AS} {σ : L2.St} {H1 : Hp} {i : Nat} {kvs : List (PyData × List Int)} {a : Addr} (hv : σ[i]? = some (some (.ref a))) (r1 : Rel Φ E1 s1 σ H1) (h1 : s1.sl[i]? = some (some (.dcl kvs))) : ∃ ks, (i, a) ∈ E1.R ∧ H1 a = some (DN a ks) ∧ (ks.map (·.2.2)).Nodup ∧ GRel (fun b => (i, b) ∈ E1.R) H1 (ban Φ E1) kvs ks := by
  obtain ⟨v, hv1, b, ks, e1, m1, f1, nd, gr⟩ := r1.val i _ h1
  rw [hv] at hv1
  cases hv1
  cases e1
  exact ⟨ks, m1, f1, nd, gr⟩
/-- all that a slot leads to is given away, one object changed by the way -/
theorem Rel.lockL (r : Rel Φ E s σ H) {i : Nat} {a : Addr} {o u : HO} (m : (i, a) ∈ E.R) (e : H a = some o) (mo : Mu o) : ∃ E', Le E' E ∧ Rel Φ E' (s.wipe [i]) σ (upd H a u) ∧ KB E H (upd H a u) ∧ ∀ b, (i, b) ∈ E.R → b ∉ ban Φ E' := by
  have le : Le ⟨E.dk, E.R.filter (fun x => decide (x.1 ≠ i))⟩ E := ⟨rfl, fun x hx => (List.mem_filter.mp hx).1⟩
  generalize hE : (⟨E.dk, E.R.filter (fun x => decide (x.1 ≠ i))⟩ : OE) = E' at le
  have hR : ∀ x, x ∈ E'.R ↔ x ∈ E.R ∧ x.1 ≠ i := fun x => by rw [← hE]; simp
  have hdk : E'.dk = E.dk := le.1
  have ac : a ∈ chg E := List.mem_append_right _ (List.mem_map.mpr ⟨_, m, rfl⟩)
  have ab : a ∈ ban Φ E := List.mem_append_left _ ac
  obtain ⟨_, g1, g2, g3⟩ := r.own i a m
  have up : ∀ {b : Addr} {o : HO}, b ≠ a → H b = some o → upd H a u b = some o := fun h e => by rw [upd_ne h]; exact e
  have kb : KB E H (upd H a u) := fun b o h n => up (fun z => n (z ▸ ac)) h
  have nb : ∀ b, (i, b) ∈ E.R → b ∉ ban Φ E' := fun b mb z => by
    obtain ⟨_, k1, k2, k3⟩ := r.own i b mb
    have bc : b ∈ chg E := List.mem_append_right _ (List.mem_map.mpr ⟨_, mb, rfl⟩)
    rcases List.mem_append.mp z with z | z
    · rcases List.mem_append.mp z with z | z
      · rw [hdk] at z; exact k2 z
      · obtain ⟨x, hx, e⟩ := List.mem_map.mp z
        obtain ⟨h1, h2⟩ := (hR x).mp hx
        exact h2 (r.inj _ _ b (by rw [← e]; exact h1) mb)
    · rcases List.mem_append.mp z with z | z
      · obtain ⟨x, hx, e⟩ := List.mem_map.mp z
        exact (r.zz x hx).2.1 (by rw [e]; exact bc)
      · exact k1 z
  refine ⟨E', le, ?_, kb, nb⟩
  refine ⟨by show (wl s.sl [i]).length = _; rw [wl_len]; exact r.len, fun j x hx => ?_, fun d p q h => ?_, fun j b hb => ?_, fun j k b h1 h2 => r.inj j k b ((hR _).mp h1).1 ((hR _).mp h2).1, fun b o h1 h2 => up (fun z => ?_) (r.fr b o h1 h2), fun t e => hdk.trans (r.dk0 t e), r.alive, fun x hx => (Hl.updl ab e (r.held x hx) mo).wk le.ban, fun x hx => ?_, r.znd, by rw [hdk]; exact r.tt⟩
  · obtain ⟨hx2, nj⟩ := wl_some hx
    have ej : i ≠ j := fun z => nj (by rw [z]; exact List.mem_cons_self)
    obtain ⟨v, h1, h2⟩ := r.val j x hx2
    refine ⟨v, h1, ?_⟩
    have h2 := h2.other ej r (u := u) m e mo
    cases x with
    | dat d => exact Rp.wk le.ban (show Rp _ (ban Φ E) d v from h2)
    | own es =>
      obtain ⟨b, ys, e1, m1, h3, h4⟩ := h2
      exact ⟨b, ys, e1, (hR _).mpr ⟨m1, fun z => ej z.symm⟩, h3, h4.wk le.ban⟩
    | dct kvs =>
      obtain ⟨b, ks, e1, m1, h3, h4⟩ := h2
      exact ⟨b, ks, e1, (hR _).mpr ⟨m1, fun z => ej z.symm⟩, h3, h4.wk le.ban⟩
    | dcn kvs =>
      obtain ⟨b, ks, e1, m1, h3, h4⟩ := h2
      exact ⟨b, ks, e1, (hR _).mpr ⟨m1, fun z => ej z.symm⟩, h3, h4.wk le.ban⟩
    | dcl kvs =>
      obtain ⟨b, ks, e1, m1, h3, hn, h4⟩ := h2
      exact ⟨b, ks, e1, (hR _).mpr ⟨m1, fun z => ej z.symm⟩, h3, hn, h4.mono (fun _ _ h => h.wk le.ban) fun c _ m2 h => ⟨(hR _).mpr ⟨m2, fun z => ej z.symm⟩, h⟩⟩
    | lck t kvs =>
      obtain ⟨b, e1, h3, h5, h4⟩ := h2
      exact ⟨b, e1, fun z => h3 (le.ban _ z), h5, h4.mono (fun _ _ h => h.wk le.ban) fun _ _ h => h⟩
    | bor d =>
      rcases h2 with h2 | ⟨b, es, ys, e1, e2, h3, h5, h6⟩
      · exact .inl (h2.wk le.ban)
      · exact .inr ⟨b, es, ys, e1, e2, h3, h5, h6.wk le.ban⟩
    | deck =>
      obtain ⟨d, p, q, e1, e2⟩ := h2
      exact ⟨d, p, q, hdk.trans e1, e2⟩
    | exc x =>
      obtain ⟨b, da, e1, e2, h3, h4⟩ := h2
      exact ⟨b, da, e1, e2, h3.wk le.ban, h4⟩
  · rw [hdk] at h
    obtain ⟨h1, h2⟩ := r.dk d p q h
    rw [h] at g2
    simp only [dkl, List.mem_cons, List.not_mem_nil, or_false, not_or] at g2
    exact ⟨h1.updl' g2.1 g2.2.1 g2.2.2.1 g2.2.2.2 (Mu.nc e mo), fun b hb => h2 b (by rw [← hdk]; exact hb)⟩
  · obtain ⟨h0, hi⟩ := (hR _).mp hb
    obtain ⟨⟨zs, h1, mu2⟩, h2, h3, h4⟩ := r.own j b h0
    exact ⟨⟨zs, up (fun z => hi (r.inj j i a (z ▸ h0) m)) h1, mu2⟩, h2, by rw [hdk]; exact h3, h4⟩
  · rw [z, g3] at h1; cases h1
  · obtain ⟨z1, z2, z3⟩ := r.zz x hx
    exact ⟨up (fun z => z2 (z ▸ ac)) z1, fun z => z2 (le.chg _ z), z3⟩
end
section
variable {X : Cx} {Ec : EC}
def sNewL (i : Nat) : AST := fun _ D s => D.nx (s.set i (.dcl []))
theorem as_newL {i : Nat} {st : Stmt} (h : PS X st (tAsg tNewI (gName i))) : PS X st (cS Ec (sNewL i)) := h.sub fun D σ H ⟨Φ, E, xp, s, Da, r, x, q, m⟩ => fun p hp => m.nx (E.add i p) _ _ _ ((r.add i hp (same_upd hp) (upd_same (H := H) (a := p) (o := DN p []))).setX i (x := .dcl []) ⟨p, [], rfl, List.mem_cons_self, upd_same, List.nodup_nil, .nil⟩) q
/-- d.setdefault(k, []).append(v), v a variable -/
def sDApp (i j : Nat) (aa : AE) : AST := fun xp D s => slotL s i fun _ => aa xp s fun d s1 => slotL s1 i fun kvs => keyTP d fun k => slotI s1 j fun z => kvs.length < sizeLine ∧ match glFind kvs k with
  | some l => l.length < sizeLine ∧ D.nx (s1.set i (.dcl (glPut k z kvs)))
  | none => D.nx (s1.set i (.dcl (kvs ++ [(d, [z])])))
theorem as_dapp {i j : Nat} {st : Stmt} {aa : AE} (h : PS X st (tDrop (tBM X.K "list" rAppend (tDSetdN (tVar i) (cE Ec aa) (tLstN tNil)) (tCons (tVar j) tNil)))) : PS X st (cS Ec (sDApp i j aa)) := h.sub fun D σ H ⟨Φ, E, xp, s, Da, r, x, q, m⟩ => by
  obtain ⟨kvs0, h0, q⟩ := slotL_get q
  obtain ⟨v, hv, a, ks0, rfl, m0, f0, nd0, gr0⟩ := r.val i _ h0
  refine ⟨.ref a, hv, a, rfl, ⟨ks0, f0⟩, Φ, E, xp, s, _, r, x, q, fun d E1 s1 v1 H1 l1 r1 k1 p1 q1 => ?_⟩
  obtain ⟨kvs, h1, q1⟩ := slotL_get q1
  obtain ⟨key, hk, q1⟩ := keyTP_get q1
  obtain ⟨z, hz, hl, q1⟩ := slotI_get q1
  obtain ⟨ks, m1, f1, nd1, gr1⟩ := slot_dcl hv r1 h1
  have hlen := (List.getElem?_eq_some_iff.mp h1).1
  refine ⟨Nat.zero_le _, fun p H2 hp _ sm ep => ?_⟩
  have r2 := r1.same sm
  have gr2 : GRel (fun b => (i, b) ∈ E1.R) H2 (ban Φ E1) kvs ks := gr1.mono (fun _ _ h => h.same sm) fun _ _ m h => ⟨m, sm _ _ h⟩
  have f2 := sm _ _ f1
  have p2 := p1.same sm
  obtain ⟨b, rfl, kb⟩ := key_at hk p2
  obtain ⟨vz, hvz, ez⟩ := r2.val j _ hz
  have ez : vz = .int z := ez
  subst ez
  have ab : a ∈ ban Φ E1 := List.mem_append_left _ (List.mem_append_right _ (List.mem_map.mpr ⟨_, m1, rfl⟩))
  refine ⟨ks, key, b, f2, grel_keys gr2, rfl, kb, by rw [grel_len gr2]; exact hl, fun c v hc => ?_, fun hn => ?_⟩
  · obtain ⟨l, bb, g1, rfl, g3, g4, g5⟩ := grel_put (z := z) gr2 nd1 hc
    rw [g1] at q1
    obtain ⟨ll, q1⟩ := q1
    refine ⟨.inl ⟨rfl, _, sqL g4⟩, .int z, hvz, bb, _, .int z, rfl, rfl, g4, by rw [List.length_map]; exact ll, ?_⟩
    have bbb : bb ∈ ban Φ E1 := List.mem_append_left _ (List.mem_append_right _ (List.mem_map.mpr ⟨_, g3, rfl⟩))
    have em : (l.map V.int ++ [V.int z]) = (l ++ [z]).map V.int := by rw [List.map_append]; rfl
    rw [em]
    have gr3 := g5 (upd H2 bb (.lst ((l ++ [z]).map V.int))) (fun b' ne _ o h => by rw [upd_ne ne]; exact h) upd_same fun _ _ h => Rp.updl bbb g4 h
    have ne : a ≠ bb := fun e => by rw [e, g4] at f2; cases f2
    obtain ⟨r3, _⟩ := r2.mutW (i := i) (u := .lst ((l ++ [z]).map V.int)) (x := .dcl (glPut key z kvs)) hlen hv g3 g4 trivial trivial ⟨a, ks, rfl, m1, by rw [upd_ne ne]; exact f2, nd1, gr3⟩
    exact m.nx E1 _ σ _ r3 q1
  · have hf := grel_none gr2 hn
    rw [hf] at q1
    have ne : p ≠ a := fun e => by rw [e, f1] at hp; cases hp
    have rA := r1.add i hp sm ep
    have mA : (i, a) ∈ (E1.add i p).R := List.mem_cons_of_mem _ m1
    have mp : (i, p) ∈ (E1.add i p).R := List.mem_cons_self
    have ab' : a ∈ ban Φ (E1.add i p) := ban_add ab
    have pb' : p ∈ ban Φ (E1.add i p) := ban_add_self
    have vp : V.ref p ∉ ks.map (·.2.2) := fun hm => by
      obtain ⟨b', xs', e1, _, e3⟩ := grel_vals gr1 _ hm
      cases e1
      rw [hp] at e3
      cases e3
    have nd2 : ((ks ++ [(key, b, V.ref p)]).map (·.2.2)).Nodup := by
      rw [List.map_append, List.nodup_append]
      refine ⟨nd1, by simp, fun x hx y hy e => ?_⟩
      have hy : y = V.ref p := List.mem_singleton.mp hy
      exact vp (by rw [← hy, ← e]; exact hx)
    have ep3 : upd H2 a (DN a (ks ++ [(key, b, .ref p)])) p = some (.lst []) := by rw [upd_ne ne]; exact ep
    have grA : GRel (fun b => (i, b) ∈ (E1.add i p).R) H2 (ban Φ (E1.add i p)) kvs ks := (gr2.mono (M' := fun b => (i, b) ∈ (E1.add i p).R) (fun _ _ h => h) fun _ _ m h => ⟨List.mem_cons_of_mem _ m, h⟩).rekey
    have neb : ∀ b', (i, b') ∈ (E1.add i p).R → ∀ xs, H2 b' = some (.lst xs) → b' ≠ a := fun b' _ xs h e => by rw [e, f2] at h; cases h
    have gr3 : GRel (fun b => (i, b) ∈ (E1.add i p).R) (upd H2 a (DN a (ks ++ [(key, b, .ref p)]))) (ban Φ (E1.add i p)) (kvs ++ [(d, [])]) (ks ++ [(key, b, .ref p)]) :=
      grel_app hk (Rp.updl ab' f2 (rp_key hk p2)) mp ep3 (grA.mono (fun _ _ h => Rp.updl ab' f2 h) fun b' xs m h => ⟨m, by rw [upd_ne (neb b' m xs h)]; exact h⟩)
    obtain ⟨rB, _⟩ := rA.mutW (i := i) (u := DN a (ks ++ [(key, b, .ref p)])) (x := .dcl (kvs ++ [(d, [])])) hlen hv mA f2 mu_DN mu_DN ⟨a, _, rfl, mA, upd_same, nd2, gr3⟩
    refine ⟨.inl ⟨rfl, _, sqL ep3⟩, .int z, hvz, p, [], .int z, rfl, rfl, ep3, by decide, ?_⟩
    have gr4 : GRel (fun b => (i, b) ∈ (E1.add i p).R) (upd (upd H2 a (DN a (ks ++ [(key, b, .ref p)]))) p (.lst [.int z])) (ban Φ (E1.add i p)) (kvs ++ [(d, [z])]) (ks ++ [(key, b, .ref p)]) := by
      refine grel_app hk (Rp.updl pb' ep3 (Rp.updl ab' f2 (rp_key hk p2))) mp upd_same ?_
      unfold GRel at grA ⊢
      refine paired_imp grA fun x y hy ⟨e1, e2, b', e3, e4, e5⟩ => ⟨e1, Rp.updl pb' ep3 (Rp.updl ab' f2 e2), b', e3, e4, ?_⟩
      rw [upd_ne fun z => vp (List.mem_map.mpr ⟨y, hy, by rw [e3, z]⟩), upd_ne (neb b' e4 _ e5)]
      exact e5
    have hl3 : i < (s1.set i (.dcl (kvs ++ [(d, [])]))).sl.length := by show i < (s1.sl.set i _).length; rw [List.length_set]; exact hlen
    obtain ⟨rC, _⟩ := rB.mutW (i := i) (u := .lst [.int z]) (x := .dcl (kvs ++ [(d, [z])])) hl3 hv mp ep3 trivial trivial ⟨a, _, rfl, mA, by rw [upd_ne (Ne.symm ne)]; exact upd_same, nd2, gr4⟩
    have es : (s1.set i (.dcl (kvs ++ [(d, [])]))).set i (.dcl (kvs ++ [(d, [z])])) = s1.set i (.dcl (kvs ++ [(d, [z])])) := by
      unfold AS.set
      show (⟨_, _⟩ : AS) = _
      rw [List.set_set]
    rw [es] at rC
    exact m.nx _ _ σ _ rC q1
end
end TR
namespace TR
open PySem PySem.Spec PyProof.Rows L2
/-! ### walks of dicts with tuple keys, locked the while -/
section
variable {X : Cx} {pins : List (Addr × Obj)} {σ : L2.St} {H : Hp} {s : Shared} {d : Addr} {o : Obj} {kvs : List (List Int × Addr × V)}
theorem frzN (I : Inv X pins σ H s) (h : H d = some (.frz o (DN d kvs))) : s.heap.get? d = some o ∧ (d == sysModules) = false ∧ ∃ xs es ep, KVN kvs xs ∧ o.ExactDict ∧ o.data = .dict es ep ∧ es.toList = xs.map entI := by
  obtain ⟨h1, h2⟩ := (show ObjOk X.prog X.w H s.heap d (.frz o (DN d kvs)) from I.hok d _ h)
  obtain ⟨z, y, xs, r, o', es, ep, g1, g2, g3, g4, _⟩ := (show ObjOk X.prog X.w H s.heap d (DN d kvs) from h2).1
  rw [h1] at g1
  cases g1
  exact ⟨h1, y, xs, es, ep, r, g2, g3, g4⟩
theorem kvn_get {kvs : List (List Int × Addr × V)} {xs : List (List Int × Addr × Value)} (r : KVN kvs xs) : ∀ {i : Nat} {e : List Int × Addr × V}, kvs[i]? = some e → ∃ x, xs[i]? = some x ∧ e.2.1 = x.2.1 ∧ RelV e.2.2 x.2.2 := by
  unfold KVN at r
  induction r with
  | nil => intro i e h; cases h
  | cons h t ih =>
    intro i e he
    cases i with
    | zero =>
      cases he
      exact ⟨_, rfl, h.2.1, h.2.2⟩
    | succ i => exact ih he
theorem ent_get {es : Array DictEntry} {xs : List (List Int × Addr × Value)} (g : es.toList = xs.map entI) {i : Nat} {x : List Int × Addr × Value} (h : xs[i]? = some x) : ∃ hi : i < es.size, es[i] = entI x := by
  have e : es.toList[i]? = some (entI x) := by rw [g, List.getElem?_map, h]; rfl
  rw [Array.getElem?_toList] at e
  obtain ⟨hi, e⟩ := Array.getElem?_eq_some_iff.mp e
  exact ⟨hi, e⟩
end
def Itvn (d : Addr) (o : Obj) (kvs : List (List Int × Addr × V)) : It :=
  ⟨fun i H => H d = some (.frz o (DN d kvs)) ∧ i < kvs.length, fun i H x H' => H' = H ∧ ∃ e, kvs[i]? = some e ∧ x = e.2.2, fun i H => H d = some (.frz o (DN d kvs)) ∧ kvs.length ≤ i⟩
section
variable {P : Program} {w : World} {K : PySem.W.Frag} {tg : Expr} {d : Addr} {o : Obj} {es : Array DictEntry} {ep : Nat} {kvs : List (List Int × Addr × V)}
theorem turn_valsN (it : Addr) (hod : o.data = .dict es ep) (hsz : es.size = kvs.length) : Turn P w K tg (Itvn d o kvs) [it] it (fun i h => h.IsValIter it d i es.size ep) where
  mem := by simp
  obj := fun i h st b hb => by
    have e : b = it := by simpa using hb
    subst e
    obtain ⟨oi, e, c, dd⟩ := st
    exact ⟨oi, e, fun v z => by rw [dd] at z; cases z⟩
  keep := fun i h h' st k => st.at fun oi e => k it (by simp) oi e
  item := by
    intro X hP hw hK hc i pins s σ H E I hf st hg
    subst hP hw hK
    obtain ⟨hd, hi⟩ := hg
    obtain ⟨f0, f1, f2, f3, f4, f5⟩ := hf it (by simp)
    obtain ⟨h1, h2, xs, es', ep', kv, g1, g2, g3⟩ := frzN I hd
    obtain ⟨rfl, rfl⟩ := dict_ep hod g2
    have hm : s.heap.DictRaw d es' ep' := ⟨o, h1, g1, g2⟩
    obtain ⟨x, hx, _, rx⟩ := kvn_get kv (List.getElem?_eq_getElem hi)
    obtain ⟨hi', ex⟩ := ent_get g3 hx
    refine wpAny_pyNext_values_item_raw st hm hi' fun h' st' sb => ?_
    have I1 : Inv X pins σ H { s with heap := h' } := I.turned (t' := s.toks) (fun b ob hb e => (sb.2 b hb).trans e) f0 f1 f3 f4 f5
    obtain ⟨oi, e, c, dd⟩ := id st'
    refine ⟨es'[i].val, rfl, go_of (s := { s with heap := h' }) e c dd (by decide) ⟨kvs[i].2.2, H, I1, by rw [ex]; exact rx, ⟨rfl, _, List.getElem?_eq_getElem hi, rfl⟩, st', fun b hb => (hf b hb).1⟩⟩
  done := by
    intro X hP hw hK hc i pins s σ H E I hf st hg
    subst hP hw hK
    obtain ⟨hd, hi⟩ := hg
    obtain ⟨f0, f1, f2, f3, f4, f5⟩ := hf it (by simp)
    obtain ⟨h1, h2, xs, es', ep', kv, g1, g2, g3⟩ := frzN I hd
    obtain ⟨rfl, rfl⟩ := dict_ep hod g2
    exact wpAny_pyNext_values_end_raw (I.ok.hd hc) st ⟨o, h1, g1, g2⟩ (by omega) fun h' eb => ⟨rfl, I.turned (t' := s.toks) (fun b ob hb e => eb b ob hb e) f0 f1 f3 f4 f5⟩
  self := fun A i s Q E st h => wpAny_pyIter_valiter st h
end
section
variable {X : Cx}
theorem size_kvn {kvs : List (List Int × Addr × V)} {xs : List (List Int × Addr × Value)} {es : Array DictEntry} (r : KVN kvs xs) (g : es.toList = xs.map entI) : es.size = kvs.length := by
  rw [← Array.length_toList, g, List.length_map]
  exact (Paired.length r).symm
theorem pi_valsN {tg o : Expr} {j : Nat} {apos cpos : Pos} (ho : PE X o (tVar j)) (hbase : attributeBase o "values" X.env (eval o X.env) = eval o X.env := by rfl) (hline : (apos.endLine == cpos.line) = true := by rfl) : PI X tg (.Call (.Attribute o "values" apos) [] [] cpos) (fun σ H R => tVar j σ H fun x H1 => ∃ a kvs, x = .ref a ∧ H1 a = some (DN a kvs) ∧ ∀ p od, H1 p = none → R (Itvn a od kvs) (upd (upd H1 p (valsO p a)) a (.frz od (DN a kvs)))) := by
  refine ⟨fun pins s σ H R I h => ?_⟩
  refine thn ((pe_valsN (apos := apos) (cpos := cpos) ho hbase hline).run pins s σ H (fun x H2 => ∃ p a kvs, x = .ref p ∧ H2 p = some (valsO p a) ∧ H2 a = some (DN a kvs) ∧ ∀ od, R (Itvn a od kvs) (upd H2 a (.frz od (DN a kvs)))) I ?_) fun u s1 ⟨x, H1, I1, rx, p, a, kvs, ex, hp, ha, q⟩ => ?_
  · obtain ⟨v, hv, a, kvs, ex, ha, q⟩ := h
    exact ⟨v, hv, a, kvs, ex, ha, fun p hp => ⟨p, a, kvs, rfl, upd_same, by rw [upd_ne (ne_of_none ha hp)]; exact ha, fun od => q p od hp⟩⟩
  · subst ex
    obtain rfl : u = Value.ref p := rx
    have view : s1.heap.IsValuesView p a := (show ObjOk X.prog X.w H1 s1.heap p (valsO p a) from I1.hok p _ hp).1
    obtain ⟨od, I2⟩ := I1.lock ha trivial
    obtain ⟨h1, h2, xs, es, ep, kv, g1, g2, g3⟩ := frzN I2 (d := a) (o := od) (kvs := kvs) upd_same
    have sz := size_kvn kv g3
    exact wpAny_pyIter_values_raw view ⟨od, h1, g1, g2⟩ (pi_one (tk := s1.toks) I2 _ (turn_valsN _ g2 sz) ⟨_, Heap.get?_push_size _ rfl, rfl, rfl⟩ (q od))
end
end TR
namespace TR
open PySem PySem.Spec PyProof.Rows L2
theorem paired_get {α β : Type} {R : α → β → Prop} {xs : List α} {ys : List β} (h : Paired R xs ys) : ∀ {i : Nat} {x : α}, xs[i]? = some x → ∃ y, ys[i]? = some y ∧ R x y := by
  induction h with
  | nil => intro i x h; cases h
  | cons e t ih =>
    intro i x h
    cases i with
    | zero => cases h; exact ⟨_, rfl, e⟩
    | succ i => exact ih h
section
variable {X : Cx} {Ec : EC}
def iValsL (i : Nat) : AI := fun _ s Q => slotL s i fun kvs => Q (.fix (kvs.map fun p => .list (p.2.map .int))) (s.wipe [i])
theorem ai_valsL (i : Nat) {tg e : Expr} (h : PI X tg e (fun σ H R => tVar i σ H fun x H1 => ∃ a kvs, x = .ref a ∧ H1 a = some (DN a kvs) ∧ ∀ p od, H1 p = none → R (Itvn a od kvs) (upd (upd H1 p (valsO p a)) a (.frz od (DN a kvs))))) : PI X tg e (cI false Ec (iValsL i)) := h.sub fun σ H R ⟨Φ, E, xp, s, Qa, r, x, q, k⟩ => by
  obtain ⟨kvs, h0, q⟩ := slotL_get q
  obtain ⟨v, hv, a, ks, rfl, m0, f0, nd, gr⟩ := r.val i _ h0
  refine ⟨.ref a, hv, a, ks, rfl, f0, fun p od hp => ?_⟩
  have sm : Same H (upd H p (valsO p a)) := same_upd hp
  have r1 := r.same sm
  have f1 := sm _ _ f0
  have gr1 : GRel (fun b => (i, b) ∈ E.R) (upd H p (valsO p a)) (ban Φ E) kvs ks := gr.mono (fun _ _ h => h.same sm) (fun _ _ m h => ⟨m, sm _ _ h⟩)
  have ab : a ∈ ban Φ E := List.mem_append_left _ (List.mem_append_right _ (List.mem_map.mpr ⟨_, m0, rfl⟩))
  obtain ⟨E', le, r2, kb, nb⟩ := r1.lockL (u := .frz od (DN a ks)) m0 f1 mu_DN
  have gr2 : GRel (fun b => b ∉ ban Φ E') (upd (upd H p (valsO p a)) a (.frz od (DN a ks))) (ban Φ E) kvs ks := gr1.mono (fun _ _ h => Rp.updl ab f1 h) fun b xs m h => ⟨nb b m, by rw [upd_ne fun z => by rw [z, f1] at h; cases h]; exact h⟩
  have hl : ks.length = kvs.length := grel_len gr
  refine k (.fix (kvs.map fun p => .list (p.2.map .int))) E' _ (Itvn a od ks) _ (.ob a (.frz od (DN a ks)) :: (kvs.zip ks).map fun p => .dat (.list (p.1.2.map .int)) p.2.2.2) le r2 ((KB.of_same sm).trans (.refl _) kb) (fun Φ' E2 s2 σ2 H2 _ hh _ j => ?_) (fun x hx => ?_) q
  · have ho : H2 a = some (.frz od (DN a ks)) := (hh _ List.mem_cons_self).1
    refine ⟨fun d hd => ?_, fun hj => ⟨ho, ?_⟩⟩
    · have hd : (kvs.map fun p => PyData.list (p.2.map .int))[j]? = some d := hd
      rw [List.getElem?_map] at hd
      obtain ⟨kv, hkv, rfl⟩ := Option.map_eq_some_iff.mp hd
      have hj : j < kvs.length := (List.getElem?_eq_some_iff.mp hkv).1
      have hj2 : j < ks.length := by omega
      refine ⟨⟨ho, hj2⟩, fun y H3 ⟨e1, e, e2, e3⟩ => ?_⟩
      subst e1 e3
      refine ⟨.refl _, ?_⟩
      have := hh (.dat (.list (kv.2.map .int)) e.2.2) (List.mem_cons_of_mem _ (List.mem_map.mpr ⟨(kv, e), ?_, rfl⟩))
      · exact this
      · exact List.mem_of_getElem? (i := j) (by rw [List.getElem?_zip_eq_some]; exact ⟨hkv, e2⟩)
    · have hj : (kvs.map fun p => PyData.list (p.2.map .int)).length = j := hj
      rw [List.length_map] at hj
      omega
  · rcases List.mem_cons.mp hx with rfl | hx
    · exact ⟨upd_same, nb a m0⟩
    · obtain ⟨⟨kv, e⟩, hm, rfl⟩ := List.mem_map.mp hx
      obtain ⟨j, hj⟩ := List.getElem?_of_mem hm
      obtain ⟨h1, h2⟩ := List.getElem?_zip_eq_some.mp hj
      obtain ⟨e', h3, _, _, b, h4, h5, h6⟩ := paired_get gr2 h1
      rw [h2] at h3
      cases h3
      show Rp _ _ (.list (kv.2.map .int)) e.2.2
      rw [h4]
      exact ⟨b, _, rfl, h6, h5, ints_rp⟩
end
/-! native -/
abbrev dkL {κ : Type} (g : κ → PyData) (p : κ × List Int) : PyData × List Int := (g p.1, p.2)
def ptG {κ : Type} [DecidableEq κ] (k : κ) (z : Int) : List (κ × List Int) → List (κ × List Int)
  | [] => []
  | p :: l => if p.1 = k then (p.1, p.2 ++ [z]) :: l else p :: ptG k z l
/-- d.setdefault(k, []).append(z) -/
def apG {κ : Type} [DecidableEq κ] (l : List (κ × List Int)) (k : κ) (z : Int) : List (κ × List Int) := match lkG l k with
  | some _ => ptG k z l
  | none => l ++ [(k, [z])]
theorem lk_dcl {κ : Type} [DecidableEq κ] {g : κ → PyData} (E : KeyE g) {k : κ} {kk : List Int} (hk : keyT (g k) = some kk) : ∀ l : List (κ × List Int), glFind (l.map (dkL g)) kk = lkG l k
  | [] => rfl
  | p :: l => by
    have ih := lk_dcl E hk l
    unfold glFind lkG at *
    rw [List.map_cons]
    by_cases h : p.1 = k
    · rw [List.find?_cons_of_pos (by show decide (keyT (g p.1) = some kk) = true; rw [h, hk]; exact decide_eq_true rfl), List.find?_cons_of_pos (p := fun p : κ × List Int => decide (p.1 = k)) (decide_eq_true h)]
      rfl
    · rw [List.find?_cons_of_neg (by show ¬ decide (keyT (g p.1) = some kk) = true; rw [decide_eq_true_iff]; exact fun z => h (E.inj _ _ _ z hk)), List.find?_cons_of_neg (p := fun p : κ × List Int => decide (p.1 = k)) (by rw [decide_eq_true_iff]; exact h)]
      exact ih
theorem put_dcl {κ : Type} [DecidableEq κ] {g : κ → PyData} (E : KeyE g) {k : κ} {kk : List Int} (hk : keyT (g k) = some kk) (z : Int) : ∀ l : List (κ × List Int), glPut kk z (l.map (dkL g)) = (ptG k z l).map (dkL g)
  | [] => rfl
  | p :: l => by
    have ih := put_dcl E hk z l
    rw [List.map_cons]
    unfold glPut ptG
    by_cases h : p.1 = k
    · rw [if_pos (by show keyT (g p.1) = _; rw [h, hk]), if_pos h]
      rfl
    · rw [if_neg (show ¬ keyT (g p.1) = some kk from fun z => h (E.inj _ _ _ z hk)), if_neg h, ih]
      rfl
section
variable {s s1 s2 : AS}
theorem c_newL {i : Nat} {xp : XP} {D : AEnds} (k : D.nx s1) (e : s.set i (.dcl []) = s1 := by rfl) : sNewL i xp D s := by subst e; exact k
theorem c_dapp {κ : Type} [DecidableEq κ] {g : κ → PyData} {l : List (κ × List Int)} (E : KeyE g) (i j : Nat) {aa : AE} {k : κ} {z : Int} {xp : XP} {D : AEnds} (ha : EV aa s (g k) s1) (h : s.sl[i]? = some (some (.dcl (l.map (dkL g))))) (h1 : s1.sl[i]? = some (some (.dcl (l.map (dkL g))))) (hj : s1.sl[j]? = some (some (.dat (.int z)))) (hl : l.length < sizeLine ∧ ∀ p ∈ l, p.2.length < sizeLine)
    (q : D.nx s2) (e : s1.set i (.dcl ((apG l k z).map (dkL g))) = s2 := by rfl) : sDApp i j aa xp D s := by
  subst e
  unfold sDApp slotL
  rw [h]
  refine ha xp _ ?_
  rw [h1]
  obtain ⟨kk, hk⟩ := E.ex k
  show keyTP (g k) _
  unfold keyTP slotI
  rw [hk, hj]
  refine ⟨by rw [List.length_map]; exact hl.1, ?_⟩
  rw [lk_dcl E hk]
  unfold apG at q
  cases e : lkG l k with
  | none =>
    rw [e] at q
    show D.nx (s1.set i (.dcl (l.map (dkL g) ++ [(g k, [z])])))
    rw [List.map_append] at q
    exact q
  | some w =>
    rw [e] at q
    refine ⟨?_, ?_⟩
    · unfold lkG at e
      obtain ⟨p, hp, rfl⟩ := Option.map_eq_some_iff.mp e
      exact hl.2 _ (List.mem_of_find?_eq_some hp)
    · rw [put_dcl E hk]
      exact q
theorem iv_valsL {κ : Type} {g : κ → PyData} {l : List (κ × List Int)} (i : Nat) (h : s.sl[i]? = some (some (.dcl (l.map (dkL g))))) (e : s.wipe [i] = s1 := by rfl) : IV (iValsL i) s (.fix ((l.map fun p : κ × List Int => p.2).map (eL PyData.int))) s1 := fun xp Q q => by
  subst e
  unfold iValsL slotL
  rw [h]
  show Q _ _
  rw [List.map_map] at q ⊢
  exact q
end
end TR
namespace TR
open PySem PySem.Spec PyProof.Rows L2
/-! ### min, max of a tuple -/
section
variable {X : Cx}
end
section
variable {s : AS}
end
end TR
namespace TR
open PySem PySem.Spec PyProof.Rows L2
/-! ### t.count(x), t a tuple -/
section
variable {X : Cx} {Ec : EC}
end
section
variable {s s1 s2 : AS}
end
end TR
namespace TR
open PySem PySem.Spec PyProof.Rows L2
/-! ### list(zip(a, b)), a and b tuples -/
section
variable {P : Program} {w : World} {A : Around} {E : Value → Shared → Prop} {s : Shared}
end
structure ZLT (z TI TO i1 i2 l1 l2 S : Addr) (xs ys : Array Value) (i : Nat) (h : Heap) : Prop where
  ti : IsPair h TI (.ref i1) (.ref i2)
  a : h.IsTupleIter i1 l1 i
  b : h.IsTupleIter i2 l2 i
  la : h.IsTuple l1 xs
  lb : h.IsTuple l2 ys
  zz : (IsZip h z TI TO .none ∧ ∃ a b, IsPair h TO a b) ∨ ∃ T f oT, IsZipHeld h z TI TO T f ∧ h.get? T = some oT ∧ T ≠ z ∧ T ≠ i1 ∧ T ≠ i2 ∧ T ≠ S
  to : ∃ o, h.get? TO = some o
section
variable {P : Program} {w : World} {A : Around}
end
end TR
namespace TR
open PySem PySem.Spec PyProof.Rows L2
/-! ### len(set(list(zip(a, b)))), a and b tuples of at most four truth values -/
section
variable {P : Program} {w : World} {A : Around} {E : Value → Shared → Prop} {s : Shared}
end
section
variable {X : Cx}
end
section
variable {X : Cx} {Ec : EC}
end
section
variable {s s1 : AS}
end
end TR
namespace TR
open PySem PySem.Spec PyProof.Rows L2 LamX
/-! ### a lambda: the function that is made, and its call -/
structure LF where
  qual : Str
  params : Arguments
  body : Expr
  scope : Scope
  cl : List (Str × Addr)
  c : Addr
abbrev LF.fd (F : LF) (pm ctv : Value) : FuncData := PySem.W.kla_fn "<lambda>" F.qual F.params F.body F.scope F.cl pm (.ref F.c) ctv
/-- as a def with the same names and cells, of no body -/
abbrev LF.nf (F : LF) : NdefX.NF := ⟨"<lambda>", F.qual, F.params, [], F.scope, F.cl, F.c⟩
def LamO (f : Addr) (F : LF) : HO := .ext fun h => ∃ pm ctv : Value, h.get? f = some ({ cls := .type "function", data := .func (F.fd pm ctv) } : Obj)
theorem lamO_at {P : Program} {w : World} {H : Hp} {h : Heap} {f : Addr} {F : LF} (hok : HOk P w H h) (e : H f = some (LamO f F)) : ∃ pm ctv : Value, h.get? f = some ({ cls := .type "function", data := .func (F.fd pm ctv) } : Obj) := (hok f _ e).1
section
variable {X : Cx} {pins : List (Addr × Obj)} {σ : L2.St} {H : Hp} {s : Shared}
theorem inv_lam {F : LF} {t' : Nat} {pm ctv : Value} (I : Inv X pins σ H s) : Inv X pins σ (upd H s.heap.objs.size (LamO s.heap.objs.size F)) { s with heap := s.heap.push ({ cls := .type "function", data := .func (F.fd pm ctv) } : Obj), toks := t' } := by
  have at_ : (s.heap.push ({ cls := .type "function", data := .func (F.fd pm ctv) } : Obj)).get? s.heap.objs.size = some ({ cls := .type "function", data := .func (F.fd pm ctv) } : Obj) := Heap.get?_push_size _ rfl
  exact I.laid (fun b u e => Heap.get?_push_of_some _ e) (Nat.le_refl _) ⟨⟨pm, ctv, at_⟩, ⟨_, at_⟩, fun _ _ ⟨p, t, z⟩ st => ⟨p, t, st _ z⟩⟩
/-- what is kept where the table at P may grow -/
def KeepT (P : Addr) (H H' : Hp) : Prop := ∀ b o, H b = some o → b ≠ P → H' b = some o
theorem lam_new {T : List (Addr × Str)} {c P : Addr} {q : Str} {params : Arguments} {body : Expr} {scope : Scope} {pos : Pos} {E : Value → Shared → Prop} {Q : Value → Shared → Prop} (I : Inv X pins σ H s) (TB : TabB X.base X.mg c P) (hcode : X.env.code = .ref c) (hq : X.env.qual ++ "<lambda>" = q)
    (hm : (P, q) ∈ T) (hu : ∀ p ∈ T, p.1 = P → p.2 = q) (hT : Tabs T H) (hdef : defaultsOf params X.env = ([], [])) (hfree : ∀ y ∈ scope.names, y.2 = .free → ∃ c, X.env.cells.lookup y.1 = some c)
    (h : ∀ f c' H1 s', Inv X pins σ H1 s' → KeepT P H H1 → Tabs T H1 → H f = none → H1 f = some (LamO f ⟨q, params, body, scope, cloFrom X.env.cells scope.names [], c'⟩) → H1 c' = some (CodeO c' q) → Q (.ref f) s') : wpAny (model X.prog X.w) X.A (eval (.Lambda params body scope pos) X.env) Q E s := by
  obtain ⟨ps, tP, ok, tells⟩ := hT _ hm
  have raw := I.hok P _ tP
  have bm := TB.bm.keeps I.bk
  have cd := TB.code.keeps I.bk
  have gl := I.mod.glob.keeps I.bk
  have cok := closure_ok hfree
  refine PySem.W.kla_eval hdef ?_
  rw [hq]
  cases hc : codeAmong pos ps.toList with
  | none =>
    refine PySem.W.kla_makeFunction cok I.ok.glob gl hcode cd raw ok hc TB.gP bm fun c' ctv h' tk hx hge hlt hrec htb => ?_
    obtain ⟨_, oc, vs, t, e0, r1, r2, r3⟩ := hrec
    cases e0
    have nC : H c' = none := I.hok.fresh hge
    have nPc : P ≠ c' := ne_of_none tP nC
    have J := inv_table (t' := tk) (q := q) (more := #[rawInt pos.line, rawInt pos.col, .ref c']) I tP (fun b o hb e => hx b o hb e) htb hge ⟨oc, vs, t, r1, r2, r3⟩
    generalize hH : upd (upd H P (.tbl (ps ++ #[rawInt pos.line, rawInt pos.col, .ref c']))) c' (CodeO c' q) = G at J
    have up : KeepT P H G := fun b o e n => by rw [← hH, upd_ne (ne_of_none e nC), upd_ne n]; exact e
    have gc : G c' = some (CodeO c' q) := by rw [← hH]; exact upd_same
    have gP : G P = some (.tbl (ps ++ #[rawInt pos.line, rawInt pos.col, .ref c'])) := by rw [← hH, upd_ne nPc]; exact upd_same
    have co : ∀ {b n}, H b = some (CodeO b n) → G b = some (CodeO b n) := fun e => up _ _ e fun z => by rw [z, tP] at e; cases e
    have TG : Tabs T G := fun x hx => by
      by_cases hb : x.1 = P
      · refine ⟨_, by rw [hb]; exact gP, ?_, fun p cv hcv => ?_⟩
        · rw [Array.toList_append]
          exact PySem.TriplesOk_snoc _ _ _ _ ok
        · rw [Array.toList_append] at hcv
          rw [hu x hx hb]
          rcases among_app _ ok hcv with z | z
          · obtain ⟨c0, a1, a2⟩ := tells p cv z
            exact ⟨c0, a1, co a2⟩
          · exact ⟨c', z, gc⟩
      · obtain ⟨ps', a1, a2, a3⟩ := hT x hx
        refine ⟨ps', up _ _ a1 hb, a2, fun p cv hcv => ?_⟩
        obtain ⟨c0, b1, b2⟩ := a3 p cv hcv
        exact ⟨c0, b1, co b2⟩
    have K := inv_lam (F := ⟨q, params, body, scope, cloFrom X.env.cells scope.names [], c'⟩) (t' := tk) (pm := (X.mg "__name__").getD .none) (ctv := ctv) J
    have nF : G h'.objs.size = none := J.hok.fresh (Nat.le_refl _)
    have sm : Same G (upd G h'.objs.size (LamO h'.objs.size ⟨q, params, body, scope, cloFrom X.env.cells scope.names [], c'⟩)) := same_upd nF
    exact h h'.objs.size c' _ _ K (fun b o e n => sm _ _ (up b o e n)) (TG.ext sm) (I.hok.fresh (Nat.le_trans hge (Nat.le_of_lt hlt))) upd_same (sm _ _ gc)
  | some cv =>
    obtain ⟨c', e0, gc⟩ := tells pos cv hc
    subst e0
    refine PySem.W.kla_makeFunctionHit cok I.ok.glob gl hcode cd raw ok hc bm fun ctv h' tk hx hsz => ?_
    have J : Inv X pins σ H { s with heap := h', toks := tk } := I.kept hx
    have nF : H h'.objs.size = none := I.hok.fresh hsz
    have K := inv_lam (F := ⟨q, params, body, scope, cloFrom X.env.cells scope.names [], c'⟩) (t' := tk) (pm := (X.mg "__name__").getD .none) (ctv := ctv) J
    have sm : Same H (upd H h'.objs.size (LamO h'.objs.size ⟨q, params, body, scope, cloFrom X.env.cells scope.names [], c'⟩)) := same_upd nF
    exact h h'.objs.size c' _ _ K (fun b o e _ => sm _ _ e) (hT.ext sm) nF upd_same (sm _ _ gc)
end
/-- f(u, ..), f a lambda, by its body -/
theorem lam_call {P : Program} {w : World} {K : PySem.W.Frag} {mg : Str → Option Value} {base : Heap} {k : Nat} {N ps fr : List Str} {F : LF} {f : Addr} {A : Around} {outer : List Env} {s : Shared} {H : Hp} {us : List Value} {vs : List V} {ws : List (Option V)} {Q : VK} {E : XK} (S : NdefX.NScope N ps fr F.scope)
    (hb : ∀ pm ctv : Value, bindArgs (F.fd pm ctv) ⟨us, []⟩ = pure (ps.zip us)) (hr : Room (k + 1) A) (e0 : Env0 P w K mg base A outer s H) (hf : H f = some (LamO f F)) (hc : H F.c = some (CodeO F.c F.qual)) (C : NdefX.CellsAt F.cl fr ws s.heap H) (r : Vals vs us) (hl : vs.length = ps.length)
    (hbody : Room k (A.deeper (NdefX.envF F.nf f s.heap.objs.size)) → ∃ t, PE (NdefX.ncx CX0 P w K mg base N F.nf f A outer s H E) F.body t ∧ t (NdefX.startF N vs ws) H Q) : codeAny (model P w) A (.call (.ref f) ⟨us, []⟩) (CR CX0 outer P w H s Q E) s := by
  have lim : s.heap.NoLimit := e0.mod.nolimit.keeps fun b o e => (e0.bs b o e).1
  obtain ⟨pm, ctv, ho⟩ := lamO_at e0.hok hf
  refine PySem.W.kla_callFunE hr.depth ho rfl S.co S.gen rfl (NdefX.codeO_at e0.hok hc) ?_
  rw [hb pm ctv]
  refine wpAny_pure (wpAny_newFunctionEnv S.nocell (fun ⟨n, _⟩ hy => S.par n (List.of_mem_zip hy).1) (fun g hns hsb => ⟨lim.fresh _ hsb, ?_⟩) S.kind)
  obtain ⟨t, ht, hq⟩ := hbody (hr.deeper _)
  have I : Inv (NdefX.ncx CX0 P w K mg base N F.nf f A outer s H E) [] (NdefX.startF N vs ws) H { s with heap := g, toks := s.toks + (ps.zip us).length } := NdefX.inv_startN S hr.hd e0 hl r C hns fun b o e => hsb.extBut b o (Nat.ne_of_lt (Heap.lt_size e)) (Heap.get?_push_of_some _ e)
  refine PySem.W.kla_codeExpr (wpAny_mono (ht.run [] _ (NdefX.startF N vs ws) H Q I hq) (fun v s' hs => ?_) fun e s' hs => hs)
  obtain ⟨v', H', J, rv, q⟩ := hs
  exact ⟨v', H', J.os, J.bare, J.base, J.hok, rv, q⟩
end TR
namespace TR
open PySem PySem.Spec PyProof.Rows L2 LamX
/-! ### sorted(t, key=f), t a tuple, f a lambda that gives an int -/
section
variable {X : Cx} {pins : List (Addr × Obj)} {σ : L2.St} {H : Hp} {s : Shared}
theorem fpOk_frs {a : Addr} (I : Inv X pins σ H s) (f : FpOk X pins H a) : a ∉ frs X.stack := fun z => by
  rcases List.mem_cons.mp (I.stkSub a z) with e | e
  · exact f.2.1 e
  · exact f.2.2.1 e
theorem fpOk_at {a : Addr} {G : Hp} (f : FpOk X pins H a) (h : G a = none) : FpOk X pins G a := ⟨h, f.2⟩
/-- an object of ours that nobody tracked is tracked from now on -/
theorem inv_track {a : Addr} {o : HO} (I : Inv X pins σ H s) (f : FpOk X pins H a) (new : ObjOk X.prog X.w (upd H a o) s.heap a o) : Inv X pins σ (upd H a o) s := by
  have hn := f.1
  have far : ∀ {b : Addr} {u : HO}, H b = some u → upd H a o b = some u := fun e => by rw [upd_ne (ne_of_none e hn)]; exact e
  refine I.step (h' := s.heap) (g' := s.gens) (t' := s.toks) (d' := s.drawn) (ch := [a]) (fun b hb => ?_) (fun _ _ _ _ _ e _ => e) (fun b ob _ _ _ e _ => ⟨ob.slots, e⟩) (fun b ob hc _ n => ?_) (fun b ob _ e => ⟨ob, e⟩) (fun b xs e => far e) (fun b ob u e => far e) (fun b ps e => ⟨#[], by rw [far e]; simp⟩) (fun m hm => hm) (I.hok.laidN (fun _ _ e => e) hn new) I.bare
  · rw [List.mem_singleton.mp hb]
    exact ⟨f.2.2.2.1, f.2.1, f.2.2.2.2.1, f.2.2.2.2.2⟩
  · rw [upd_ne fun z => hc (by rw [z]; exact List.mem_singleton.mpr rfl)]
    exact n
/-- the calls of f that a sort makes -/
def KeyTurn (X : Cx) (A : Around) (pins : List (Addr × Obj)) (σ : L2.St) (H : Hp) (f : Addr) (x : V × Int) : Prop := ∀ (v : Value) (s' : Shared) (H' : Hp), RelV x.1 v → Inv X pins σ H' s' → Same H H' → codeAny (model X.prog X.w) A (.call (.ref f) ⟨[v], []⟩) (CR CX0 X.stack X.prog X.w H' s' (fun y G => y = .int x.2 ∧ Same H' G) E0) s'
abbrev kInt (x : V × Int) : PyData := .int x.2
theorem kint_alike {bs : List (V × Int)} : PySem.W.AllAlike (bs.map kInt) ∧ PySem.W.Sortable (bs.map kInt) := by
  refine ⟨fun d hd d' hd' => ?_, .inr fun d hd => ?_⟩
  · obtain ⟨x, _, rfl⟩ := List.mem_map.mp hd
    obtain ⟨y, _, rfl⟩ := List.mem_map.mp hd'
    rfl
  · obtain ⟨x, _, rfl⟩ := List.mem_map.mp hd
    exact ⟨(by intro z; cases z), fun xs z => (by cases z)⟩
theorem each_at {α β : Type} {R : α → β → Prop} {as : List α} {bs : List β} (h : PySem.W.EachIs R as bs) : ∀ {j : Nat} {x : α}, as[j]? = some x → ∃ y, bs[j]? = some y ∧ R x y := by
  induction h with
  | nil => intro j x e; cases e
  | cons r _ ih =>
    intro j x e
    cases j with
    | zero => cases e; exact ⟨_, rfl, r⟩
    | succ j => exact ih e
theorem each_push {α β : Type} {R : α → β → Prop} {as : List α} {bs : List β} {a : α} {b : β} (r : R a b) (h : PySem.W.EachIs R as bs) : PySem.W.EachIs R (as ++ [a]) (bs ++ [b]) := by
  induction h with
  | nil => exact .cons r .nil
  | cons r1 _ ih => exact .cons r1 ih
theorem each_size {α β : Type} {R : α → β → Prop} {as : List α} {bs : List β} (h : PySem.W.EachIs R as bs) : as.length = bs.length := by
  induction h with
  | nil => rfl
  | cons _ _ ih => rw [List.length_cons, List.length_cons, ih]
abbrev srtI (bs : List (V × Int)) : List (V × Int) := bs.mergeSort (PySem.W.dataLe false kInt)
/-- the loop over the items, then the sort itself -/
theorem key_rest {A : Around} {E : Value → Shared → Prop} {R : PySem.Fin → Shared → Prop} {a kS f : Addr} {its : List Value} {bs : List (V × Int)} {e1 : Nat} (I : Inv X pins σ H s) (ev : PySem.W.EachIs (fun v x => RelV x.1 v) its bs) (hz : its.length ≤ 4000) (hu : A.units + 8 < cLine) (fa : FpOk X pins H a) (fk : FpOk X pins H kS) (hka : kS ≠ a)
    (hk : s.heap.get? kS = some (seqObj "list" #[] 0)) (ha : s.heap.get? a = some (seqObj "list" #[] e1)) (turn : ∀ x ∈ bs, KeyTurn X A pins σ H f x)
    (h : ∀ s' H' c out, Inv X pins σ H' s' → Same H H' → H' a = none → s'.heap.get? a = some (seqObj "list" (List.toArray out) c) → PySem.W.EachIs (fun v x => RelV x.1 v) out (srtI bs) → R (.done (.ret .none)) s') : wpAny (model X.prog X.w) A (ksk_rest a (.ref f) false its.toArray e1 (.ref kS)) R E s := by
  have lz : ∀ {n : Nat}, n ≤ 4000 → n ≤ sizeLine := fun h => Nat.le_trans h (by rw [sizeLine_eq]; decide)
  have len := each_size ev
  have na : a ∉ frs X.stack := fpOk_frs I fa
  have nk : kS ∉ frs X.stack := fpOk_frs I fk
  unfold ksk_rest
  refine wpAny_bind (wpAny_rule ?_)
  first
    | rw [List.forIn_toArray]
    | (rw [← Array.forIn_toList]; simp only [List.toList_toArray])
    | rw [← Array.forIn_toList]
  refine wpAny_bind (ksk_fold (fun j t => ∃ H' kA e, Inv X pins σ H' t ∧ Same H H' ∧ H' kS = none ∧ H' a = none ∧ t.heap.get? kS = some (seqObj "list" kA e) ∧ t.heap.get? a = some (seqObj "list" #[] e1) ∧ PySem.W.EachIs (fun v (x : V × Int) => ∃ tk, v = Value.int x.2 tk) kA.toList (bs.take j)) its 0 s ⟨H, #[], 0, I, fun _ _ e => e, fk.1, fa.1, hk, ha, by rw [List.take_zero]; exact .nil⟩ ?one ?all)
  case one =>
    rintro j v t hv ⟨H1, kA, e, J, sm, k0, a0, hk1, ha1, ek⟩
    rw [Nat.zero_add] at ek ⊢
    obtain ⟨x, hx, rv⟩ := each_at ev hv
    have lk : kA.size ≤ 4000 := by
      have := each_size ek
      rw [Array.length_toList, List.length_take] at this
      omega
    have cl : wpAny (model X.prog X.w) A (call (.ref f) [v]) (CE X.stack X.prog X.w H1 t (fun y G => y = .int x.2 ∧ Same H1 G)) (fun _ _ => False) t := wpAny_call (codeAny_mono (turn x (List.mem_of_getElem? hx) v t H1 rv J sm) fun r t2 hr => by
      cases r with
      | error _ => exact (show False from hr).elim
      | ok fl =>
        cases fl with
        | ret u => exact hr
        | next => exact False.elim hr
        | brk => exact False.elim hr
        | cont => exact False.elim hr)
    refine wpAny_bind (wpAny_attempt (wpAny_mono cl (fun u t2 hq => ?_) (fun _ _ hF => hF.elim)))
    · obtain ⟨y, G, os, bare, un, hok, ry, ey, smG⟩ := hq
      subst ey
      obtain ⟨tk, eu⟩ := (show ∃ tk, u = Value.int x.2 tk from ry)
      obtain ⟨_, G', J2, _, _, eG⟩ := J.after (Q := fun y' G' => y' = V.int x.2 ∧ G' = G) ⟨_, G, os, bare, un, hok, ry, rfl, rfl⟩
      subst eG
      have hk2 := un.keep kS _ hk1 k0 nk (by simp)
      have ha2 := un.keep a _ ha1 a0 na (by simp)
      have k2 : G' kS = none := un.free kS _ hk1 k0 (by simp)
      have a2 : G' a = none := un.free a _ ha1 a0 (by simp)
      try dsimp only
      have sb := Heap.SameBut.update t2.heap kS (Obj.mapSeq (·.push u))
      obtain ⟨e', hk3⟩ : ∃ e', (t2.heap.update kS (Obj.mapSeq (·.push u))).get? kS = some (seqObj "list" (kA.push u) e') := ⟨_, get?_update_seq hk2 (·.push u)⟩
      refine wpAny_bind (listUpdate_at hk2 rfl ?_ (lz lk) (by rw [Array.size_push]; exact Nat.succ_le_succ (lz lk)))
      have J3 : Inv X pins σ G' { t2 with heap := t2.heap.update kS (Obj.mapSeq (·.push u)) } := J2.turnedL (t' := t2.toks) (ch := [kS]) (fun b o hb z => (sb.2 b (fun q => hb (by rw [q]; exact List.mem_singleton.mpr rfl))).trans z) (fun b hb => by rw [List.mem_singleton.mp hb]; exact fpOk_at fk k2)
      refine wpAny_pure ⟨rfl, G', kA.push u, e', J3, sm.trans smG, k2, a2, hk3, (sb.2 a hka.symm).trans ha2, ?_⟩
      have et : bs.take (j + 1) = bs.take j ++ [x] := by rw [List.take_add_one, hx]; rfl
      rw [et, Array.toList_push]
      exact each_push ⟨tk, eu⟩ ek
  case all =>
    rintro t ⟨H1, kA, e, J, sm, k0, a0, hk1, ha1, ek⟩
    rw [Nat.zero_add, List.take_of_length_le (by omega)] at ek
    have ls : kA.size = its.length := by rw [← Array.length_toList, each_size ek, len]
    have rd : PySem.W.EachIs (fun v d => ∃ as, Reads t.heap v d as) kA.toList (bs.map kInt) := by
      have : ∀ {l : List Value} {r : List (V × Int)}, PySem.W.EachIs (fun v (x : V × Int) => ∃ tk, v = Value.int x.2 tk) l r → PySem.W.EachIs (fun v d => ∃ as, Reads t.heap v d as) l (r.map kInt) := fun h => by
        induction h with
        | nil => exact .nil
        | cons q _ ih =>
          obtain ⟨tk, rfl⟩ := q
          exact .cons ⟨[], Reads.int _ _⟩ ih
      exact this ek
    obtain ⟨al, so⟩ := kint_alike (bs := bs)
    try dsimp only
    refine wpAny_bind (listItems_at hk1 rfl ?_)
    have hid : ∀ b o, (hidT t.heap fun b => if b = kS then some (.tup []) else none).get? b = some o → t.heap.get? b = some o ∧ b ≠ kS := fun b o z => by
      obtain ⟨z1, z2⟩ := of_hidT z
      exact ⟨z1, fun q => by rw [if_pos q] at z2; cases z2⟩
    have unh : ∀ b o, b ≠ kS → t.heap.get? b = some o → (hidT t.heap fun b => if b = kS then some (.tup []) else none).get? b = some o := fun b o hb z => hidT_get z (if_neg hb)
    refine PySem.W.keyH_end (κ := PySem.W.dataKind t.heap (bs.map kInt)) (h₁ := hidT t.heap fun b => if b = kS then some (.tup []) else none) (fun b o _ z => (hid b o z).1) ?_ hk1 ha1 hka (PySem.W.SortsAt.data rd al so fun d hd => ?_) ls (lz hz) fun h' tk c kp g => ?_
    · cases q : (hidT t.heap fun b => if b = kS then some (.tup []) else none).get? kS with
      | none => rfl
      | some o => exact absurd rfl (hid _ _ q).2
    · obtain ⟨x, _, rfl⟩ := List.mem_map.mp hd
      show A.units + 0 < cLine
      omega
    · have J2 : Inv X pins σ H1 { t with heap := h', toks := tk } := J.turnedL (t' := tk) (ch := [a, kS]) (fun b o hb z => kp b o (fun q => hb (by rw [q]; exact List.mem_cons_self)) (unh b o (fun q => hb (by rw [q]; exact List.mem_cons_of_mem _ List.mem_cons_self)) z)) (fun b hb => by
        rcases List.mem_cons.mp hb with q | q
        · rw [q]; exact fpOk_at fa a0
        · rw [List.mem_singleton.mp q]; exact fpOk_at fk k0)
      exact h _ H1 c _ J2 sm a0 g (PySem.W.keyedOut_each kInt ⟨t.heap, kA.toList, al, rfl, rd⟩ ev)
theorem key_sorted {t f : Addr} {its : List Value} {bs : List (V × Int)} {Q : VK} (I : Inv X pins σ H s) (ht : IsTup s.heap t its.toArray) (ev : PySem.W.EachIs (fun v x => RelV x.1 v) its bs) (hz : its.length ≤ 4000) (hu : X.A.units + 16 < cLine) (turn : ∀ x ∈ bs, KeyTurn X X.A.in1.in1 pins σ H f x)
    (q : ∀ H' p, Same H H' → H' p = none → Q (.ref p) (upd H' p (.lst ((srtI bs).map (·.1))))) : wpAny (model X.prog X.w) X.A (call (.builtin "sorted") [.ref t] [(Str.ofString "key", .ref f)]) (EP X pins σ Q) X.xe s := by
  have lz : ∀ {n : Nat}, n ≤ 4000 → n ≤ sizeLine := fun h => Nat.le_trans h (by rw [sizeLine_eq]; decide)
  refine PyProof.Rows.call_function_entry_kw kind_sorted plain_sorted entry_sorted (ksk_s1 _ _) ?_
  unfold Builtin.«sorted»
  refine wpAny_bind (m := checkCount "sorted" 1 1 _) (wpAny_pure (wpAny_bind (collect_tup ht (wpAny_bind (wpAny_newList ?_ (lz hz))) (lz hz))))
  generalize g1 : (s.heap.push (seqObj "list" #[] 0)).update s.heap.objs.size (Obj.mapSeq (· ++ its.toArray)) = h1
  have z1 : h1.objs.size = s.heap.objs.size + 1 := by rw [← g1, Heap.size_update]; simp [Heap.push]
  have k1 : ∀ b o, s.heap.get? b = some o → h1.get? b = some o := fun b o e => by
    rw [← g1, Heap.get?_update_ne _ _ _ _ (Nat.ne_of_lt (Heap.lt_size e))]
    exact Heap.get?_push_of_some _ e
  generalize g2 : h1.push (seqObj "list" its.toArray 0) = h2
  have z2 : h2.objs.size = h1.objs.size + 1 := by rw [← g2]; exact Heap.size_push ..
  have k2 : ∀ b o, h1.get? b = some o → h2.get? b = some o := fun b o e => by rw [← g2]; exact Heap.get?_push_of_some _ e
  have hL : h2.get? h1.objs.size = some (seqObj "list" its.toArray 0) := by rw [← g2]; exact Heap.get?_push_size _ rfl
  show wpAny _ _ _ _ _ { s with heap := h2 }
  refine wpAny_bind (wpAny_holding (PyProof.Rows.wpAny_call_entry_kw slot_list_sort ⟨_, hL, rfl⟩ entry_list_sort ?_ (ksk_l1 _ _)))
  rw [ksk_t1]
  unfold ksk_tree
  refine wpAny_bind (listItems_at hL rfl ?_)
  refine wpAny_bind (listUpdate_at hL rfl ?_ (by rw [List.size_toArray]; exact lz hz) (Nat.zero_le _))
  obtain ⟨e1, hL2⟩ : ∃ e1, (h2.update h1.objs.size (Obj.mapSeq fun _ => (#[] : Array Value))).get? h1.objs.size = some (seqObj "list" #[] e1) := ⟨_, get?_update_seq hL fun _ => #[]⟩
  refine wpAny_bind (seqEpoch_at hL2 rfl ?_)
  refine wpAny_bind (wpAny_newTuple ?_ (by show its.length ≤ _; exact lz hz))
  refine wpAny_bind (wpAny_newList ?_ (Nat.zero_le _))
  refine wpAny_holding ?_
  generalize g3 : h2.update h1.objs.size (Obj.mapSeq fun _ => (#[] : Array Value)) = h3 at hL2
  have z3 : h3.objs.size = h2.objs.size := by rw [← g3, Heap.size_update]
  have k3 : ∀ b o, b ≠ h1.objs.size → h2.get? b = some o → h3.get? b = some o := fun b o hb e => by
    rw [← g3, Heap.get?_update_ne _ _ _ _ hb]
    exact e
  show wpAny _ _ (ksk_rest h1.objs.size (.ref f) false its.toArray e1 (.ref (h3.push (seqObj "tuple" its.toArray 0)).objs.size)) _ _ { s with heap := (h3.push (seqObj "tuple" its.toArray 0)).push (seqObj "list" #[] 0) }
  generalize g4 : h3.push (seqObj "tuple" its.toArray 0) = h4
  have z4 : h4.objs.size = h3.objs.size + 1 := by rw [← g4]; exact Heap.size_push ..
  have k4 : ∀ b o, h3.get? b = some o → h4.get? b = some o := fun b o e => by rw [← g4]; exact Heap.get?_push_of_some _ e
  have up : ∀ b o, s.heap.get? b = some o → (h4.push (seqObj "list" #[] 0)).get? b = some o := fun b o e => Heap.get?_push_of_some _ (k4 b o (k3 b o (Nat.ne_of_lt (by rw [z1]; exact Nat.lt_succ_of_lt (Heap.lt_size e))) (k2 b o (k1 b o e))))
  have J : Inv X pins σ H { s with heap := h4.push (seqObj "list" #[] 0) } := I.kept (t' := s.toks) up
  have la : s.heap.objs.size ≤ h1.objs.size := by rw [z1]; exact Nat.le_succ _
  have lk : s.heap.objs.size ≤ h4.objs.size := by omega
  have fa : FpOk X pins H h1.objs.size := I.fpOk la (I.hok.fresh la)
  have fk : FpOk X pins H h4.objs.size := I.fpOk lk (I.hok.fresh lk)
  refine key_rest J ev hz (by show X.A.units + 1 + 1 + 8 < _; omega) fa fk (Nat.ne_of_gt (show h1.objs.size < h4.objs.size by omega)) (Heap.get?_push_size _ rfl) (Heap.get?_push_of_some _ (k4 _ _ hL2)) turn fun s' H' c out J2 sm a0 g eo => ⟨_, rfl, ?_⟩
  have fa2 := fpOk_at fa a0
  have rv : ∀ {l : List Value} {r : List (V × Int)}, PySem.W.EachIs (fun v x => RelV x.1 v) l r → Vals (r.map (·.1)) l := fun h => by
    induction h with
    | nil => exact .nil
    | cons q _ ih => exact .cons q ih
  have ln : ((srtI bs).map (·.1)).length ≤ sizeLine := by
    rw [List.length_map, List.length_mergeSort, ← each_size ev]
    exact lz hz
  have J3 := inv_track (o := .lst ((srtI bs).map (·.1))) J2 fa2 ⟨ln, out, c, rv eo, g⟩
  exact wpAny_pure ⟨_, rfl, .ref h1.objs.size, _, J3, rfl, q H' _ sm a0⟩
end
end TR
namespace TR
open PySem PySem.Spec PyProof.Rows L2 LamX
/-! ### sorted(data, key=lambda ..), as an expression -/
def kdS (s : AS) (j : Nat) : Option AV := kd (s.sl.getD j none)
/-- where a lambda's body begins: its item, what it captured -/
def lamS (N : List Str) (js : List Nat) (s : AS) (d : PyData) : AS := ⟨some (.dat d) :: (js.map (kdS s) ++ List.replicate (N.length - 1 - js.length) none), 0⟩
section
variable {Φ : Fx} {E : OE} {s : AS} {σ : L2.St} {H : Hp}
theorem lam_rel (r : Rel Φ E s σ H) {d : PyData} {v : V} (rp : Rp H (ban Φ E) d v) (N : List Str) (js : List Nat) : Rel (Φ.inner0 E H) ⟨none, []⟩ (lamS N js s d) (NdefX.startF N [v] (js.map (NdefX.slotAt σ))) H := by
  have p := r.pre0
  have es : NdefX.startF N [v] (js.map (NdefX.slotAt σ)) = some v :: (js.map (NdefX.slotAt σ) ++ List.replicate (N.length - 1 - (js.map (NdefX.slotAt σ)).length) none) := rfl
  refine ⟨?_, fun i x h => ?_, fun d p q e => (nomatch e), fun i b h => (nomatch h), fun i j b h => (nomatch h), fun b o h _ => h, fun t e => (nomatch e), fun b hb => p.alive b hb, fun x hx => (nomatch hx), fun x hx => (nomatch hx), List.nodup_nil, .inl rfl⟩
  · rw [es]
    unfold lamS
    simp
  · rw [es]
    cases i with
    | zero =>
      have h : some (some (AV.dat d)) = some (some x) := h
      cases h
      refine ⟨v, rfl, ?_⟩
      show Rp H (ban (Φ.inner0 E H) ⟨(Φ.inner0 E H).dk0, []⟩) d v
      rw [inner0_ban]
      exact rp
    | succ i =>
      have h : (js.map (kdS s) ++ List.replicate (N.length - 1 - js.length) none)[i]? = some (some x) := h
      by_cases hi : i < js.length
      · rw [List.getElem?_append_left (by rw [List.length_map]; exact hi), List.getElem?_map, List.getElem?_eq_getElem hi] at h
        have h : some (kdS s js[i]) = some (some x) := h
        obtain ⟨e, rfl, e2⟩ := kd_some (show kd (s.sl.getD js[i] none) = some x from Option.some.inj h)
        have e3 : s.sl[js[i]]? = some (some (.dat e)) := by
          rw [List.getD_eq_getElem?_getD] at e2
          cases q : s.sl[js[i]]? with
          | none => rw [q] at e2; cases e2
          | some o => rw [q] at e2; rw [show o = some (.dat e) from e2]
        obtain ⟨u, h1, h2⟩ := r.val _ _ e3
        refine ⟨u, ?_, ?_⟩
        · show (js.map (NdefX.slotAt σ) ++ List.replicate (N.length - 1 - (js.map (NdefX.slotAt σ)).length) none)[i]? = _
          rw [List.getElem?_append_left (by rw [List.length_map]; exact hi), List.getElem?_map, List.getElem?_eq_getElem hi]
          show some (NdefX.slotAt σ js[i]) = _
          rw [NdefX.slotAt_of h1]
        · show Rp H (ban (Φ.inner0 E H) ⟨(Φ.inner0 E H).dk0, []⟩) e u
          rw [inner0_ban]
          exact h2
      · rw [List.getElem?_append_right (by rw [List.length_map]; omega)] at h
        obtain ⟨hlt, e⟩ := List.getElem?_eq_some_iff.mp h
        rw [List.getElem_replicate] at e
        cases e
/-- a table of code objects has grown -/
theorem grown_mem {T : List (Addr × Str)} {P : Addr} {q : Str} (r : Rel Φ E s σ H) (hT : Φ.tt = T) (hm : (P, q) ∈ T) : Tabs T H ∧ P ∈ chg E := by
  rcases r.tt with e | ⟨d, p, t, e⟩
  · rw [hT] at e
    rw [e] at hm
    cases hm
  · rw [hT] at e
    obtain ⟨⟨_, tb⟩, _⟩ := r.dk d p _ e
    exact ⟨tb, List.mem_append_left _ (by rw [e]; exact List.mem_cons_of_mem _ (List.mem_cons_of_mem _ (List.mem_cons_of_mem _ (List.mem_map.mpr ⟨_, hm, rfl⟩))))⟩
theorem Rel.grown {T : List (Addr × Str)} {P : Addr} {q : Str} {H' : Hp} (r : Rel Φ E s σ H) (hT : Φ.tt = T) (hm : (P, q) ∈ T) (kp : KeepT P H H') (T2 : Tabs T H') : Rel Φ E s σ H' ∧ KB E H H' := by
  obtain ⟨tb, pe⟩ := grown_mem r hT hm
  have kb : KB E H H' := fun b o e n => kp b o e fun z => n (by rw [z]; exact pe)
  refine ⟨r.after (m := s.n) (fun b o e n => kp b o e fun z => ?_) fun d p t e => ?_, kb⟩
  · rcases r.tt with e2 | ⟨d, p, t, e2⟩
    · rw [hT] at e2; rw [e2] at hm; cases hm
    · rw [hT] at e2
      exact n (by rw [e2, z]; exact List.mem_cons_of_mem _ (List.mem_cons_of_mem _ (List.mem_cons_of_mem _ (List.mem_map.mpr ⟨_, hm, rfl⟩))))
  · rcases r.tt with e2 | ⟨d2, p2, t2, e2⟩
    · rw [hT] at e2; rw [e2] at hm; cases hm
    · rw [hT] at e2
      rw [e2] at e
      cases e
      obtain ⟨⟨⟨m, ⟨as, cs, c, g1, g2, g3, g4⟩, a, b, e⟩, _⟩, _⟩ := r.dk _ _ _ e2
      obtain ⟨ps, tP, _⟩ := tb _ hm
      have ne : ∀ {b : Addr} {xs : List V}, H b = some (.lst xs) → b ≠ P := fun h z => by rw [z, tP] at h; cases h
      exact ⟨⟨m, ⟨as, cs, c, kp _ _ g1 (ne g1), kp _ _ g2 (ne g2), kp _ _ g3 (ne g3), g4⟩, a, b, e⟩, T2⟩
end
/-! the sorted data -/
abbrev kIntD (x : PyData × Int) : PyData := .int x.2
def srtD (bs : List (PyData × Int)) : List PyData := (bs.mergeSort (PySem.W.dataLe false kIntD)).map (·.1)
abbrev kIntT (x : (PyData × V) × Int) : PyData := .int x.2
theorem rp_pairs {H : Hp} {bn : List Addr} : ∀ {l : List ((PyData × V) × Int)}, (∀ t ∈ l, Rp H bn t.1.1 t.1.2) → RpAll H bn (l.map fun t => t.1.1) (l.map fun t => t.1.2)
  | [], _ => rfl
  | t :: l, h => ⟨t.1.2, _, rfl, h t List.mem_cons_self, rp_pairs fun u hu => h u (List.mem_cons_of_mem _ hu)⟩
theorem rp_zip {H : Hp} {bn : List Addr} : ∀ {ds : List PyData} {xs : List V} {is : List Int}, RpAll H bn ds xs → is.length = ds.length → ∃ l : List ((PyData × V) × Int), (∀ t ∈ l, Rp H bn t.1.1 t.1.2) ∧ ds.zip is = l.map (fun t => (t.1.1, t.2)) ∧ xs.zip is = l.map fun t => (t.1.2, t.2)
  | [], _, _, h, _ => ⟨[], fun _ h => (nomatch h), by rw [show _ = [] from h]; exact ⟨rfl, rfl⟩⟩
  | d :: ds, _, [], _, e => (nomatch e)
  | d :: ds, _, i :: is, ⟨v, t, e, h1, h2⟩, hl => by
    subst e
    obtain ⟨l, a, b, c⟩ := rp_zip h2 (Nat.succ.inj hl)
    refine ⟨((d, v), i) :: l, fun t ht => ?_, ?_, ?_⟩
    · rcases List.mem_cons.mp ht with e | ht
      · rw [e]; exact h1
      · exact a t ht
    · rw [List.zip_cons_cons, b]; rfl
    · rw [List.zip_cons_cons, c]; rfl
theorem rp_srt {H : Hp} {bn : List Addr} {ds : List PyData} {xs : List V} {is : List Int} (h : RpAll H bn ds xs) (hl : is.length = ds.length) : RpAll H bn (srtD (ds.zip is)) ((srtI (xs.zip is)).map (·.1)) := by
  obtain ⟨l, a, b, c⟩ := rp_zip h hl
  unfold srtD srtI
  rw [b, c, ← List.map_mergeSort (r := PySem.W.dataLe false kIntT) (f := fun t : (PyData × V) × Int => (t.1.1, t.2)) (fun _ _ _ _ => rfl), ← List.map_mergeSort (r := PySem.W.dataLe false kIntT) (f := fun t : (PyData × V) × Int => (t.1.2, t.2)) (fun _ _ _ _ => rfl), List.map_map, List.map_map]
  exact rp_pairs fun t ht => a t (List.mem_mergeSort.mp ht)
theorem vals_each : ∀ {xs : List V} {its : List Value} {is : List Int}, Vals xs its → is.length = xs.length → PySem.W.EachIs (fun v (x : V × Int) => RelV x.1 v) its (xs.zip is)
  | [], _, _, .nil, _ => .nil
  | _ :: _, _, [], _, e => (nomatch e)
  | _ :: _, _, _ :: _, .cons r t, e => .cons r (vals_each t (Nat.succ.inj e))
/-- sorted(e, key=lambda x: b) -/
def aSortK (N : List Str) (js : List Nat) (ab aa : AE) : AE := fun xp s Q => aa xp s fun d s1 => ∃ (ds : List PyData) (is : List Int), d = .tuple ds ∧ ds.length ≤ 4000 ∧ Paired (fun d i => ab x0 (lamS N js s1 d) fun r _ => r = .int i) ds is ∧ Q (.list (srtD (ds.zip is))) s1
theorem paired_len {α β : Type} {R : α → β → Prop} : ∀ {as : List α} {bs : List β}, Paired R as bs → bs.length = as.length
  | [], _, .nil => rfl
  | _ :: _, _, .cons _ t => congrArg (· + 1) (paired_len t)
theorem paired_at {H : Hp} {bn : List Addr} {R : PyData → Int → Prop} : ∀ {ds : List PyData} {xs : List V} {is : List Int}, RpAll H bn ds xs → Paired R ds is → ∀ x ∈ xs.zip is, ∃ d, Rp H bn d x.1 ∧ R d x.2
  | [], _, _, h, .nil, x, hx => by rw [show _ = [] from h] at hx; cases hx
  | d :: ds, _, _ :: _, ⟨v, t, e, h1, h2⟩, .cons r p, x, hx => by
    subst e
    rcases List.mem_cons.mp hx with e | hx
    · rw [e]; exact ⟨d, h1, r⟩
    · exact paired_at h2 p x hx
section
variable {X : Cx} {Ec : EC} {T : List (Addr × Str)} {c P : Addr} {q : Str} {x pname : Str} {p pos lpos kpos : Pos} {e : Expr} {params : Arguments} {body : Expr} {scope : Scope} {N fr : List Str} {js : List Nat} {aa ab : AE} {K : Nat}
theorem ae_sortK (TB : TabB X.base X.mg c P) (hcode : X.env.code = .ref c) (hq : X.env.qual ++ "<lambda>" = q) (hm : (P, q) ∈ T) (hu : ∀ p ∈ T, p.1 = P → p.2 = q) (hT : Ec.tt = T) (hg : Gl X x) (hmx : X.mg x = none) (hv : bootBuiltins x = some (.builtin "sorted"))
    (hnd : NdefX.ndefB X.env.scope scope fr = true) (S : NdefX.NScope N [pname] fr scope) (hjs : js.map (fun j => X.N[j]?) = fr.map some) (hr0 : Room K X.A) (h3 : 3 ≤ K) (ha : PE X e (cE Ec aa))
    (hbody : ∀ (f c' : Addr) (A : Around) (s : Shared) (H : Hp), Room (K - 3) (A.deeper (NdefX.envF (LF.nf ⟨q, params, body, scope, cloFrom X.env.cells scope.names [], c'⟩) f s.heap.objs.size)) → PE (NdefX.ncx CX0 X.prog X.w X.K X.mg X.base N (LF.nf ⟨q, params, body, scope, cloFrom X.env.cells scope.names [], c'⟩) f A X.stack s H E0) body (cE e00 ab))
    (hdef : defaultsOf params X.env = ([], []) := by rfl) (hb : ∀ (cl : List (Str × Addr)) (c' : Addr) (pm ctv v : Value), bindArgs (LF.fd ⟨q, params, body, scope, cl, c'⟩ pm ctv) ⟨[v], []⟩ = pure ([pname].zip [v]) := by intros; rfl) (hn : x ≠ "__name__" := by decide) (hdb : (x == ("__debug__" : Str)) = false := by decide)
    (hs : starEach [e] X.env = (false, eval e X.env) :: starEach [] X.env := by rfl) (he : backTo pos (starEach [e] X.env) = (false, eval e X.env) :: backTo pos (starEach [] X.env) := by rfl) (hpl : (backTo pos (starEach [e] X.env)).any (·.1) = false := by rfl) :
    PE X (.Call (.Name x p) [e] [⟨some (Str.ofString "key"), .Lambda params body scope lpos, kpos⟩] pos) (cE Ec (aSortK N js ab aa)) := by
  refine ⟨fun pins s σ H Q I h => ?_⟩
  have hr : Room (K - 3 + 3) X.A := by rw [show K - 3 + 3 = K by omega]; exact hr0
  obtain ⟨Φ, E, xp, st, Qa, r, xs, q0, kk⟩ := h
  refine wpAny_Call_Name_kw (ld_blt I hg hmx hv ?_ hn hdb)
  have pa := pa_cons ha pa_nil hs
  refine PyProof.Rows.callWith_kw (thn (pa.run pos pins s σ H (fun vs H1 => ∃ v d E1 s1, vs = [v] ∧ Le E1 E ∧ Rel Φ E1 s1 σ H1 ∧ KB E H H1 ∧ Rp H1 (ban Φ E1) d v ∧ ∃ (ds : List PyData) (is : List Int), d = .tuple ds ∧ ds.length ≤ 4000 ∧ Paired (fun d i => ab x0 (lamS N js s1 d) fun r _ => r = .int i) ds is ∧ Qa (.list (srtD (ds.zip is))) s1) I ⟨Φ, E, xp, st, _, r, xs, q0, fun d E1 s1 v H1 l1 r1 k1 p1 q1 => ⟨v, d, E1, s1, rfl, l1, r1, k1, p1, q1⟩⟩) fun us s1 ⟨vs, H1, I1, rv, hq1⟩ => ?_) he hpl rfl rfl
  obtain ⟨v, d, E1, st1, ev, l1, r1, k1, p1, ds, is, ed, hz, hp, hQ⟩ := hq1
  subst ev ed
  obtain ⟨u, rfl, ru⟩ := rv.one
  have tt : Φ.tt = T := xs.1.2.2.trans hT
  have TH1 := (grown_mem r1 tt hm).1
  have hfr : ∀ y ∈ scope.names, y.2 = .free → X.env.scope.names.lookup y.1 = some .cell ∨ X.env.scope.names.lookup y.1 = some .free := NdefX.ndef_free hnd
  have hfree : ∀ y ∈ scope.names, y.2 = .free → ∃ c, X.env.cells.lookup y.1 = some c := fun y hy e => (hfr y hy e).elim (fun z => I1.ok.has _ (.inl z)) fun z => I1.ok.has _ (.inr z)
  show wpAny _ _ (evalAll [(do let v ← eval (.Lambda params body scope lpos) X.env; standAt pos; pure v)]) _ _ s1
  refine wpAny_evalAll_cons (wpAny_bind (lam_new I1 TB hcode hq hm hu TH1 hdef hfree fun f c' H2 s2 I2 kp T2 fn fo fc => wpAny_bind (wpAny_standAt (wpAny_pure (wpAny_evalAll_nil ?_)))))
  obtain ⟨r2, kb2⟩ := r1.grown tt hm kp T2
  have p2 := p1.kb r1.lst kb2
  obtain ⟨a, ys, rfl, tf, ra⟩ := p2
  cases ru
  obtain ⟨its, rvs, pl, hlen⟩ := I2.tuple (.inl tf.rd)
  have ln := ra.len
  have li := paired_len hp
  refine key_sorted (its := its) (bs := ys.zip is) I2 pl (vals_each rvs (by omega)) (by have := rvs.length; omega) (by have := hr.un; omega) (fun y hy v s' H' rv' J sm => ?_) fun H' b sm hb' => ?_
  · obtain ⟨d, rp, rb⟩ := paired_at ra hp y hy
    have rH := r2.same sm
    refine lam_call (k := K - 3) (N := N) (ps := [pname]) (fr := fr) (F := ⟨q, params, body, scope, cloFrom X.env.cells scope.names [], c'⟩) (f := f) (vs := [y.1]) (ws := js.map (NdefX.slotAt σ)) S (fun pm ctv => hb _ _ pm ctv v) ((hr.in1).in1) J.env0.in1.in1 (sm _ _ fo) (sm _ _ fc) (NdefX.cells_of J (NdefX.Caps.made J.ok hfr (NdefX.ndef_fr hnd) hjs)) (.cons rv' .nil) rfl fun hroom => ⟨_, hbody f c' _ s' H' hroom, ?_⟩
    refine ⟨Φ.inner0 E1 H', ⟨none, []⟩, x0, lamS N js st1 d, _, lam_rel rH (rp.same sm) N js, ⟨⟨rfl, rfl, rfl⟩, fun _ _ _ _ _ _ _ _ h => h⟩, rb, fun dd E2 s3 w H3 le r3 kb3 rp3 q3 => ?_⟩
    subst q3
    exact ⟨rp3, fun b o e => kb3 b o e fun z => (nomatch z)⟩
  · have S2 : Same H' (upd H' b (.lst ((srtI (ys.zip is)).map (·.1)))) := same_upd hb'
    have rF := (r2.same sm).same S2
    refine kk (.list (srtD (ds.zip is))) E1 st1 (.ref b) _ l1 rF ((k1.trans l1 (kb2.trans (.refl _) (.of_same (sm.trans S2))))) ⟨b, _, rfl, upd_same, (r2.same sm).newban hb', ?_⟩ hQ
    exact rp_srt (ra.same (sm.trans S2)) li
end
/-! natively -/
def srtK {α : Type} (g : α → Int) (l : List α) : List α := l.mergeSort (PySem.W.dataLe false fun a => PyData.int (g a))
theorem srtD_map {α : Type} (f : α → PyData) (g : α → Int) (l : List α) : srtD ((l.map f).zip (l.map g)) = (srtK g l).map f := by
  have e : (l.map f).zip (l.map g) = l.map fun a => (f a, g a) := by
    induction l with
    | nil => rfl
    | cons a l ih => rw [List.map_cons, List.map_cons, List.zip_cons_cons, ih]; rfl
  unfold srtD srtK
  rw [e, ← List.map_mergeSort (r := PySem.W.dataLe false fun a => PyData.int (g a)) (f := fun a => (f a, g a)) (fun _ _ _ _ => rfl), List.map_map]
  rfl
theorem paired_maps {α : Type} {R : PyData → Int → Prop} (f : α → PyData) (g : α → Int) : ∀ {l : List α}, (∀ a ∈ l, R (f a) (g a)) → Paired R (l.map f) (l.map g)
  | [], _ => .nil
  | a :: l, h => .cons (h a List.mem_cons_self) (paired_maps f g fun b hb => h b (List.mem_cons_of_mem _ hb))
section
variable {s s1 : AS}
theorem ev_sortK {α : Type} {f : α → PyData} (g : α → Int) {l : List α} {N : List Str} {js : List Nat} {aa ab : AE} (h : EV aa s (eQ f l) s1) (hb : ∀ y ∈ l, EV ab (lamS N js s1 (f y)) (.int (g y)) (lamS N js s1 (f y))) (hl : l.length ≤ 4000) : EV (aSortK N js ab aa) s (eL f (srtK g l)) s1 := fun xp Q q => h xp _ ⟨l.map f, l.map g, rfl, by rw [List.length_map]; exact hl, paired_maps f g fun a ha => hb a ha x0 _ rfl, by rw [srtD_map]; exact q⟩
end
/-! a def that makes lambdas: its code object is known -/
section
variable {P : Program} {w : World} {K : PySem.W.Frag} {mg : Str → Option Value} {base : Heap}
theorem fn_okC {T : List (Addr × Str)} {ms : List Md} {nk k : Nat} {N ps : List Str} {b : AST} {x qual : Str} {st : Stmt} {f c : Addr} {fd : FuncData} (F : Fun K x qual st f fd) (hfc : fd.code = .ref c) (S : FnScope N ps (defScope st)) (hk : ms.length + nk = N.length) (hp : ms.length = ps.length)
    (hbody : ∀ (cdv : Value), cdv = .ref c → ∀ (A : Around) (outer : List Env) (s : Shared) (H : Hp) (E : XK), Room k (A.deeper (envOfC qual (defScope st) s.heap.objs.size f cdv)) → PSs (cxOf CX0 P w K mg base N qual (defScope st) f cdv A outer s H E).nox (defBody st) (cS (eT T E) b)) : FnOk P w K mg base CX0 (k + 1) f fd ps (spAT T ms (fnF ms nk b)) := by
  obtain ⟨o1, o2, v1, v2, v3, v4, cv, v5, o3, e, look, code⟩ := F.ex
  subst e
  have ec : cv = .ref c := hfc
  refine fn_of look code S (fun vs H Q E h => ?_) fun A outer s H vs Q E hr h => ⟨_, (hbody cv ec A outer s H E hr).nox, fn_body hk h⟩
  obtain ⟨Φ, ds, n, Qa, xa, _, a, _⟩ := h
  rw [a.len.1, hp]
end
end TR
namespace TR
open PySem PySem.Spec PyProof.Rows L2
/-! ### x *= y of ints -/
section
variable {X : Cx}
end
end TR
namespace TR
open PySem PySem.Spec PyProof.Rows L2 PpSet
/-! ### len(set(l)), l a list of at most 60 truth values -/
structure GotV (w : World) (h : Heap) (S : Addr) (bs : List Bool) (i : Nat) : Prop where
  ex : ∃ M n, SetB w h S M n ∧ n ≤ i ∧ ∀ k, M k = true ↔ k ∈ bs.take i
section
variable {P : Program} {w : World} {A : Around} {E : Value → Shared → Prop}
theorem loopV {R : Result → Shared → Prop} {I l S : Addr} {items : Array Value} (hh : A.in1.handled = none) (hne : l ≠ I) (SI : S ≠ I) (Sl : S ≠ l) (bs : List Bool) (hit : items.toList = bs.map Value.bool) (h4 : bs.length ≤ 60) (h0 : Heap) (hS0 : h0.get? S = none) (hI0 : h0.get? I = none) :
    ∀ (k i : Nat) (s : Shared), items.size - i = k → i ≤ items.size → (s.heap.IsListIter I l i ∧ s.heap.IsList l items) → (∀ b o, h0.get? b = some o → s.heap.get? b = some o) → GotV w s.heap S bs i →
      (∀ h' tk, GotV w h' S bs bs.length → (∀ b o, h0.get? b = some o → h'.get? b = some o) → R (.ok (.ret .none)) { s with heap := h', toks := tk }) →
      codeAny (model P w) A (.builtin "set.update.loop" ⟨[.ref S, .ref I], []⟩) R s := by
  have W := Walks.list (prog := P) (w := w) (A := A.in1) hh I l hne items
  have hsz : items.size = bs.length := by
    have := congrArg List.length hit
    rwa [Array.length_toList, List.length_map] at this
  intro k
  induction k with
  | zero =>
    intro i s hk' hi hst kp ⟨M, n, F1, hn, hm⟩ hR
    have e : i = items.size := by omega
    subst e
    refine codeAny_builtin F.entry_set_update_loop ?_
    rw [Around.under_plainId F.plain_set_update_loop _]
    show wpAny _ A.in1 (pyNext (.ref I) >>= _) _ _ s
    refine wpAny_bind (W.done s _ _ hst fun h' tk kk => ?_)
    show wpAny _ A.in1 (ret Value.none) _ _ _
    have up : ∀ b o, b ≠ I → s.heap.get? b = some o → h'.get? b = some o := fun b o hb e => kk b o (fun m => hb (List.mem_singleton.mp m)) e
    have up0 : ∀ b o, h0.get? b = some o → h'.get? b = some o := fun b o e => up b o (fun z => by rw [z, hI0] at e; cases e) (kp b o e)
    exact wpAny_pure (hR h' tk ⟨M, n, F1.at fun o e => up _ o SI e, by omega, by rw [← hsz]; exact hm⟩ up0)
  | succ k ih =>
    intro i s hk' hi hst kp ⟨M, n, F1, hn, hm⟩ hR
    have lt : i < items.size := by omega
    refine codeAny_builtin F.entry_set_update_loop ?_
    rw [Around.under_plainId F.plain_set_update_loop _]
    show wpAny _ A.in1 (pyNext (.ref I) >>= _) _ _ s
    refine wpAny_bind (W.item i s _ _ lt hst fun v h' tk hP hst' kk => ?_)
    obtain ⟨p, hp, rfl⟩ : ∃ p, bs[i]? = some p ∧ v = .bool p := by
      have q : items.toList[i]? = some v := by rw [Array.getElem?_toList]; exact hP
      rw [hit, List.getElem?_map] at q
      obtain ⟨p, hp, e⟩ := Option.map_eq_some_iff.mp q
      exact ⟨p, hp, e.symm⟩
    have up : ∀ b o, b ≠ I → s.heap.get? b = some o → h'.get? b = some o := fun b o hb e => kk b o (fun m => hb (List.mem_singleton.mp m)) e
    have up0 : ∀ b o, h0.get? b = some o → h'.get? b = some o := fun b o e => up b o (fun z => by rw [z, hI0] at e; cases e) (kp b o e)
    have F2 : SetB w h' S M n := F1.at fun o e => up _ o SI e
    show wpAny _ A.in1 (holding [Value.bool p] (setAdd S (.bool p)) >>= _) _ _ _
    refine wpAny_bind (wpAny_holding ?_)
    unfold setAdd
    refine wpAny_holding (wpAny_bind ((boolK P w).pyHash (boolK_is P w p) ?_))
    refine setB_add_hashed F2 (by unfold scanBound; omega) fun h2 sb F3 => ?_
    have up2 : ∀ b o, h0.get? b = some o → h2.get? b = some o := fun b o e => (sb.2 b (fun z => by rw [z, hS0] at e; cases e)).trans (up0 b o e)
    refine wpAny_pure ⟨plainId_quiet F.plain_set_update_loop _, ih (i + 1) _ (by omega) lt ⟨hst'.1.at fun o e => (sb.2 I (Ne.symm SI)).trans e, hst'.2.at fun o e => (sb.2 l (Ne.symm Sl)).trans e⟩ up2 ⟨_, _, F3, by split <;> omega, fun j => ?_⟩ fun h3 tk3 => hR h3 tk3⟩
    rw [List.take_add_one, hp, Bool.or_eq_true, decide_eq_true_iff, hm j]
    show j ∈ bs.take i ∨ j = p ↔ j ∈ bs.take i ++ [p]
    rw [List.mem_append, List.mem_singleton]
set_option maxHeartbeats 3200000 in
theorem set_bools {s : Shared} {l : Addr} {items : Array Value} {bs : List Bool} {Q : Value → Shared → Prop} (hh : A.handled = none) (hl : s.heap.IsList l items) (hit : items.toList = bs.map Value.bool) (h4 : bs.length ≤ 60)
    (h : ∀ h' tk, GotV w h' s.heap.objs.size bs bs.length → (∀ b o, s.heap.get? b = some o → h'.get? b = some o) → Q (.ref s.heap.objs.size) { s with heap := h', toks := tk }) : wpAny (model P w) A (call (.type "set") [.ref l]) Q E s := by
  obtain ⟨mc, mt, hmro⟩ := F.called_set.mro
  have k1 := F.called_set.made
  have k2 := F.called_set.sub
  have k3 := F.called_set.notType
  have k4 := F.called_set.canCreate
  have k5 := F.typeCall_set_1 (.ref l)
  have sz : items.size = bs.length := by
    have := congrArg List.length hit
    rwa [Array.length_toList, List.length_map] at this
  refine wpAny_call (codeAny_of_tree ?_)
  show wpAny _ _ (callAny (.type "set") _) _ _ _
  refine wpAny_pure ⟨Code.quiet_builtin _ (by decide +kernel), codeAny_builtin F.entry_type_call ?_⟩
  rw [Around.under_plain (weight_type_call_type "set" [.ref l] []) rfl]
  repeat (any_goals (first | assumption | wp_step))
  refine codeAny_mono (code_set_led1 (.ref l) (E := E) (Q₁ := fun v s1 => v = .ref s.heap.objs.size ∧ s1 = { s with heap := s.heap.push { cls := .type "set", dict := none, data := .set #[] 0 (.fresh 0 0 (!w.params.followText "set-order")) } }) ⟨rfl, rfl⟩) fun r s1 hr => ?_
  cases r with
  | error e => exact hr
  | ok fl =>
    cases fl with
    | next => exact hr.elim
    | brk => exact hr.elim
    | cont => exact hr.elim
    | ret obj =>
      obtain ⟨rfl, rfl⟩ := hr
      generalize hh1 : s.heap.push { cls := .type "set", dict := none, data := .set #[] 0 (.fresh 0 0 (!w.params.followText "set-order")) } = h1
      have gS : h1.get? s.heap.objs.size = some { cls := .type "set", dict := none, data := .set #[] 0 (.fresh 0 0 (!w.params.followText "set-order")) } := by rw [← hh1]; exact Heap.get?_push_size _ rfl
      have up1 : ∀ b o, s.heap.get? b = some o → h1.get? b = some o := fun b o e => by rw [← hh1]; exact Heap.get?_push_of_some _ e
      have z1 : h1.objs.size = s.heap.objs.size + 1 := by rw [← hh1]; exact Heap.size_push ..
      have tyS : Shared.TypeIs { s with heap := h1 } (.ref s.heap.objs.size) "set" := ⟨_, gS, rfl⟩
      have k6 := F.called_set.init.lookup
      have k7 := F.called_set.init.bind (.ref s.heap.objs.size)
      repeat (any_goals (first | assumption | wp_step))
      refine codeAny_mono (codeAny_call_builtin (R := wants (fun v s2 => v = .none ∧ ∃ h' tk, s2 = { s with heap := h', toks := tk } ∧ GotV w h' s.heap.objs.size bs bs.length ∧ ∀ b o, s.heap.get? b = some o → h'.get? b = some o) E) F.called_set.init.plain F.entry_set_init (check_set_init_1 tyS ?_)) fun r2 s2 hr2 => ?_
      · have hl1 : h1.IsList l items := hl.at fun o e => up1 _ o e
        obtain ⟨ol, hol, hcl, nl, hdl⟩ := hl1
        obtain ⟨ocls, odict, odata, oslots⟩ := ol
        simp only at hcl hdl
        subst hcl; subst hdl
        have j1 := F.sub_list_set
        have j2 := F.sub_list_frozenset
        have j3 : (Value.type "list" == Value.type "dict") = false := by decide
        have hl2 : h1.IsList l items := ⟨_, hol, rfl, nl, rfl⟩
        unfold Builtin.«set.__init__» noKeywords Builtin.Frozenset.updateFrom
        generalize hPI : pyIter = PI
        wp_walk
        subst hPI
        refine wpAny_pyIter_list hl2 ?_
        refine wpAny_bind (wpAny_runValue ?_)
        have ltl : l < s.heap.objs.size := let ⟨_, e, _⟩ := hl; Heap.lt_size e
        have nn : ∀ b, s.heap.objs.size ≤ b → s.heap.get? b = none := fun b hb => Heap.get?_none_of_le hb
        have ltl2 : @LT.lt Nat _ l s.heap.objs.size := ltl
        refine loopV (A := A.in1.in1) (S := s.heap.objs.size) (I := h1.objs.size) (l := l) (items := items) (by simp [hh]) (by rw [z1]; intro e; have e : @Eq Nat _ _ := e; omega) (by rw [z1]; exact Nat.ne_of_lt (Nat.lt_succ_self _)) (fun e => absurd ltl (by rw [← e]; exact Nat.lt_irrefl _)) bs hit h4 s.heap (nn _ (Nat.le_refl _)) (nn _ (by rw [z1]; exact Nat.le_succ _)) (items.size - 0) 0 _ rfl (Nat.zero_le _)
          ⟨⟨_, Heap.get?_push_size _ rfl, rfl, rfl⟩, hl2.at fun o e => Heap.get?_push_of_some _ e⟩ (fun b o e => Heap.get?_push_of_some _ (up1 b o e)) ⟨_, _, (by rw [← hh1]; exact (setB_fresh w).at fun o e => Heap.get?_push_of_some _ e), Nat.le_refl _, fun k => by simp⟩ fun h' tk F3 up3 => ?_
        refine wpAny_pure ?_
        show wpAny _ _ (ret Value.none) _ _ _
        exact wpAny_pure ⟨rfl, h', tk, rfl, F3, up3⟩
      · cases r2 with
        | error e => exact hr2
        | ok fl2 =>
          cases fl2 with
          | next => exact hr2.elim
          | brk => exact hr2.elim
          | cont => exact hr2.elim
          | ret r =>
            obtain ⟨rfl, h', tk, rfl, F3, up3⟩ := hr2
            repeat (any_goals (first | assumption | wp_step))
            exact h _ _ F3 up3
end
/-- how many different ones -/
def dfB (bs : List Bool) : Nat := (if true ∈ bs then 1 else 0) + if false ∈ bs then 1 else 0
theorem dfB_eq {bs l : List Bool} (nd : l.Nodup) (h : ∀ k, k ∈ bs ↔ k ∈ l) : l.length = dfB bs := by
  unfold dfB
  have key : ∀ l : List Bool, l.Nodup → l.length = (if true ∈ l then 1 else 0) + if false ∈ l then 1 else 0 := fun l nd => by
    match l, nd with
    | [], _ => rfl
    | [true], _ => rfl
    | [false], _ => rfl
    | [true, false], _ => rfl
    | [false, true], _ => rfl
    | true :: true :: _, nd => simp at nd
    | false :: false :: _, nd => simp at nd
    | a :: b :: c :: l, nd =>
      exfalso
      simp only [List.nodup_cons, List.mem_cons, not_or] at nd
      obtain ⟨⟨n1, n2, _⟩, ⟨n3, _⟩, _⟩ := nd
      revert n1 n2 n3
      cases a <;> cases b <;> cases c <;> simp
  rw [key l nd]
  simp only [h]
section
variable {X : Cx}
def tLenSB (K : PySem.W.Frag) (ta : TE) : TE := fun σ H Q => ta σ H fun x H1 => ∃ (l : Addr) (bs : List Bool), x = V.ref l ∧ SqL K H1 l (bs.map V.bl) ∧ bs.length ≤ 60 ∧ Q (.int ((dfB bs : Nat) : Int)) H1
theorem pe_lenSB {a : Expr} {ta : TE} {p p2 q pos : Pos} (hg : Gl X "len") (hm : X.mg "len" = none) (hg2 : Gl X "set") (hm2 : X.mg "set" = none) (ha : PE X a ta) (hc : X.calm = true := by rfl)
    (na : starEach [a] X.env = (false, eval a X.env) :: starEach [] X.env := by rfl) : PE X (.Call (.Name "len" p) [.Call (.Name "set" p2) [a] [] q] [] pos) (tLenSB X.K ta) := by
  refine ⟨fun pins s σ H Q I h => ?_⟩
  refine Call_ (ld_blt I hg hm PySem.boot_len ?_)
  refine PyProof.Rows.callWith_builtin1 (PyProof.Rows.args_cons ?_ rfl) rfl rfl
  refine Call_ (ld_blt I hg2 hm2 PyProof.Rows.boot_set ?_)
  refine PyProof.Rows.callWith_type1 (PyProof.Rows.args_cons (thn (ha.run pins s σ H _ I h) fun v s1 ⟨x, H1, I1, r1, q1⟩ => PyProof.Rows.args_nil ?_) na) na rfl
  obtain ⟨l, bs, rfl, hq, hl, q1⟩ := q1
  cases r1
  obtain ⟨its, r, pl, hz⟩ := I1.list hq
  have e := val_bls r
  subst e
  refine set_bools (bs := bs) (I1.ok.hd hc) pl.isList (by simp) hl fun h' tk hS hk => ?_
  refine PyProof.Rows.args_nil ?_
  obtain ⟨M, n, ⟨o, es, ep, t, ho, hex, hd, g, nd, hm3, hb, hf, hn, hr, hle⟩, _, hmem⟩ := hS
  have I2 : Inv X pins σ H1 { s1 with heap := h', toks := tk } := I1.kept hk
  have cnt : es.size = dfB bs := by
    rw [← dfB_eq nd fun k => ?_, List.length_map, Array.length_toList]
    rw [← hm3 k, hmem k, List.take_length]
  have d2 : dfB bs ≤ 2 := by unfold dfB; split <;> split <;> decide
  exact call_len_set ho hex hd hf (by omega) ⟨.int ((dfB bs : Nat) : Int), H1, I2.tok _, ⟨_, by rw [cnt]⟩, q1⟩
def aLenSB (aa : AE) : AE := fun xp s Q => aa xp s fun d s1 => ∃ bs : List Bool, d = .list (bs.map PyData.bool) ∧ bs.length ≤ 60 ∧ Q (.int ((dfB bs : Nat) : Int)) s1
end
section
variable {X : Cx} {Ec : EC}
theorem ae_lenSB {a : Expr} {aa : AE} {p p2 q pos : Pos} (hg : Gl X "len") (hm : X.mg "len" = none) (hg2 : Gl X "set") (hm2 : X.mg "set" = none) (ha : PE X a (cE Ec aa)) (hc : X.calm = true := by rfl)
    (na : starEach [a] X.env = (false, eval a X.env) :: starEach [] X.env := by rfl) : PE X (.Call (.Name "len" p) [.Call (.Name "set" p2) [a] [] q] [] pos) (cE Ec (aLenSB aa)) := (pe_lenSB hg hm hg2 hm2 ha hc na).sub fun σ H Q ⟨Φ, E, xp, s, Qa, r, x, q, k⟩ => by
  refine ⟨Φ, E, xp, s, _, r, x, q, fun d E1 s1 v1 H1 l1 r1 k1 p1 q1 => ?_⟩
  obtain ⟨bs, rfl, hl, q1⟩ := q1
  obtain ⟨b, xs, rfl, ea, nb, ra⟩ := p1
  cases rp_bls ra
  exact ⟨b, bs, rfl, sqL ea, hl, k (.int ((dfB bs : Nat) : Int)) E1 s1 _ H1 l1 r1 k1 rfl q1⟩
end
section
variable {s s1 : AS}
theorem ev_lenSB {l : List Bool} {a : AE} (h : EV a s (eL PyData.bool l) s1) (hl : l.length ≤ 60) : EV (aLenSB a) s (.int ((dfB l : Nat) : Int)) s1 := fun xp _ q => h xp _ ⟨l, rfl, hl, q⟩
end
end TR
namespace TR
open PySem PySem.Spec PyProof.Rows L2
def topS (i : Nat) : Stmt := PySem.Challenge.pw_tasterow_k26_whole_medians_decide.main.body.getD i (.Pass ⟨0, 0, 0, 0⟩)
abbrev s_TasteError : Stmt := topS 1
abbrev s_NoDish : Stmt := topS 2
abbrev s_NotSeatable : Stmt := topS 3
abbrev s_is_whole : Stmt := topS 5
abbrev s_is_within : Stmt := topS 6
abbrev s_is_order : Stmt := topS 7
abbrev s_ascending_tuples : Stmt := topS 8
abbrev s_all_pairs : Stmt := topS 10
abbrev s_prefers : Stmt := topS 11
abbrev s_agree : Stmt := topS 12
abbrev s_differences : Stmt := topS 13
abbrev s_distance : Stmt := topS 14
abbrev s_rankings_of : Stmt := topS 16
abbrev s_total_weight : Stmt := topS 17
abbrev s_groups : Stmt := topS 18
abbrev s_is_dish_number : Stmt := topS 19
abbrev s_check_two_dishes : Stmt := topS 20
abbrev s_sides : Stmt := topS 22
abbrev s_changes_once : Stmt := topS 23
abbrev s_is_seating : Stmt := topS 24
abbrev s_row_from : Stmt := topS 25
abbrev s_find_seating : Stmt := topS 26
abbrev s_views_of : Stmt := topS 28
abbrev s_find_triple : Stmt := topS 29
abbrev s_find_quadruple : Stmt := topS 30
abbrev s_find_conflict : Stmt := topS 31
abbrev s_possible_conflicts : Stmt := topS 32
abbrev s_find_obstruction : Stmt := topS 33
abbrev s_first_seating : Stmt := topS 34
abbrev s_group_order : Stmt := topS 36
abbrev s_support : Stmt := topS 38
abbrev s_lead : Stmt := topS 39
abbrev s_majority : Stmt := topS 40
abbrev s_ties : Stmt := topS 41
abbrev s_middle_rankings : Stmt := topS 42
abbrev s_group_part : Stmt := topS 43
abbrev s_medians : Stmt := topS 44
abbrev sDeck : Stmt := topS 46
abbrev sNext : Stmt := topS 47
abbrev s__law_one : Stmt := topS 48
abbrev s__law_same : Stmt := topS 49
abbrev s__law_people : Stmt := topS 50
abbrev s__law_list : Stmt := topS 51
abbrev s__law_exchanged : Stmt := topS 52
abbrev s__law_road : Stmt := topS 53
abbrev s__law_seated : Stmt := topS 54
abbrev s__law_pairs : Stmt := topS 55
abbrev s__law_right : Stmt := topS 56
abbrev s_law : Stmt := topS 57
end TR
namespace TR
open PySem PySem.Spec PyProof.Rows L2
section
variable {P : Program} {w : World} {K : PySem.W.Frag} {mg : Str → Option Value} {base : Heap}
def spLaw (K : PySem.W.Frag) : Sp := fun vs H Q _ => ∃ (a : Addr) (ns : List Int), vs = [.ref a] ∧ SqL K H a (ns.map V.int) ∧ ns.length ≤ 63 ∧ ∀ H', Q (.bl true) H'
end
end TR
namespace TR
open PySem PySem.Spec PyProof.Rows L2
theorem scDeck : FnScope ["_law_script", "_law_cells", "_law_cell"] ["_law_script"] (defScope sDeck) := ⟨rfl, rfl, rfl, by decide +kernel, rfl, by decide +kernel, by decide +kernel⟩
section
variable {P : Program} {w : World} {K : PySem.W.Frag} {mg : Str → Option Value} {base : Heap}
def spDeck (K : PySem.W.Frag) : Sp := fun vs H Q _ => ∃ (a : Addr) (ns : List Int), vs = [.ref a] ∧ SqL K H a (ns.map V.int) ∧ ns.length ≤ 63 ∧
  ∀ H' d p q, Same H H' → Deck H' d p q 0 → Q (.ref d) H'
theorem ok_deck {f : Addr} {fd : FuncData} {k : Nat} (F : Fun K "_law_deck" "_law_deck" sDeck f fd) (mabs : mg "abs" = none) (mlen : mg "len" = none) : FnOk P w K mg base CX0 (k + 1) f fd ["_law_script"] (spDeck K) := by
  refine F.ok scDeck (fun vs H Q E h => ?_) (fun cdv A outer s H vs Q E hr h => ?_)
  · obtain ⟨a, ns, rfl, _⟩ := h
    rfl
  · obtain ⟨a, ns, rfl, hS, hlen, q⟩ := h
    refine ⟨_, pss_cons (ps_setLc (i := 1) (own := [("_law_cell", 2)]) (g := gName 2) (tt := tYes) (by rfl) scDeck.nd rfl rfl (sw_true rfl rfl rfl (by decide +kernel)) (pi_list (pv 0))
        (blkOk_by (own := [("_law_cell", 2)]) (N := ["_law_script", "_law_cells", "_law_cell"]) (sc := defScope sDeck) (by decide +kernel)) (fun _ _ _ _ _ => pg_name (i := 2) scDeck.nd rfl (Or.inl rfl)) (fun _ _ _ _ _ => pts_nil)
        (fun _ _ _ _ _ => pe_callB call_abs (by rfl) mabs (by decide +kernel) (pa_cons (pv 2) pa_nil)))
      (pss_one (ps_ret (pe_lst (pa_cons
        (pe_lc (own := [("_law_cell", 2)]) (g := gName 2) (by rfl) scDeck.nd (pi_list (pv 1))
          (blkOk_by (own := [("_law_cell", 2)]) (N := ["_law_script", "_law_cells", "_law_cell"]) (sc := defScope sDeck) (by decide +kernel)) (fun _ _ _ _ _ => pg_name (i := 2) scDeck.nd rfl (Or.inl rfl))
          (fun _ _ _ _ _ => pts_one (pt_cmpR op_ge (pv 2) (pe_op op_pow pe_int pe_int) (nomark _)))
          (fun _ _ _ _ _ => pv 2))
        (pa_cons (pe_op op_cat (pv 1) (pe_lst (pa_cons (pe_op op_add (pe_callB call_len_seq (by rfl) mlen PySem.boot_len (pa_cons (pv 1) pa_nil)) pe_int) pa_nil)))
        (pa_cons pe_int pa_nil)))))), ?_⟩
    refine ⟨.ref a, rfl, a, rfl, ⟨_, hS⟩, fun D hD => lc_list (K := K) (a := a) (xs := ns.map V.int) (fun i H1 => Same H H1 ∧ ∃ zs : List Int, zs.length ≤ i ∧ H1 D = some (.lst (zs.map V.int))) ⟨same_upd hD, [], Nat.zero_le _, upd_same⟩ (fun i H1 _ h => h.1.seq hS) (fun i x H1 hx h => ?_) (fun H1 h => ?_)⟩
    · obtain ⟨sm, zs, hz, hd⟩ := h
      obtain ⟨z, hz1, rfl⟩ : ∃ z, ns[i]? = some z ∧ x = .int z := by
        rw [List.getElem?_map] at hx
        cases e : ns[i]? with
        | none => rw [e] at hx; cases hx
        | some z => rw [e] at hx; exact ⟨z, rfl, (Option.some.inj hx).symm⟩
      have hi : i < ns.length := (List.getElem?_eq_some_iff.mp hz1).1
      refine ⟨rfl, .int z, rfl, z, rfl, _, hd, ?_, same_upd2 sm hD, zs ++ [if z < 0 then -z else z], ?_, ?_⟩
      · rw [List.length_map]
        exact small1000 (by omega)
      · rw [List.length_append]
        show zs.length + 1 ≤ i + 1
        omega
      · rw [upd_same, List.map_append]
        rfl
    · obtain ⟨sm, zs, hz, hd⟩ := h
      rw [List.length_map] at hz
      refine ⟨.ref D, rfl, D, rfl, ⟨_, sqL hd⟩, fun p hp => lc_list (K := K) (a := D) (xs := zs.map V.int) (fun i H2 => Same H1 H2 ∧ ∃ ys : List Int, ys.length ≤ i ∧ H2 p = some (.lst (ys.map V.int))) ⟨same_upd hp, [], Nat.zero_le _, upd_same⟩ (fun i H2 _ h => h.1.seq (sqL hd)) (fun i x H2 hx h => ?_) (fun H2 h => ?_)⟩
      · obtain ⟨sm2, ys, hy, hd2⟩ := h
        obtain ⟨z, hz1, rfl⟩ : ∃ z, zs[i]? = some z ∧ x = .int z := by
          rw [List.getElem?_map] at hx
          cases e : zs[i]? with
          | none => rw [e] at hx; cases hx
          | some z => rw [e] at hx; exact ⟨z, rfl, (Option.some.inj hx).symm⟩
        have hi : i < zs.length := (List.getElem?_eq_some_iff.mp hz1).1
        refine ⟨rfl, .int z, rfl, 10, 18, rfl, rfl, ⟨by decide, by decide, by decide⟩, _, _, rfl, rfl, _, rfl, ite2 (fun _ => ?_) (fun _ => ?_)⟩
        · refine ⟨.int z, rfl, _, hd2, ?_, same_upd2 sm2 hp, ys ++ [z], ?_, ?_⟩
          · rw [List.length_map]
            exact small1000 (by omega)
          · rw [List.length_append]
            show ys.length + 1 ≤ i + 1
            omega
          · rw [upd_same, List.map_append]
            rfl
        · exact ⟨sm2, ys, by omega, hd2⟩
      · obtain ⟨sm2, ys, hy, hd2⟩ := h
        have hD2 : H2 D = some (.lst (zs.map V.int)) := sm2 _ _ hd
        rw [List.length_map] at hy
        refine ⟨.ref D, rfl, .ref D, rfl, D, _, rfl, .inl (sqL hD2), _, _, rfl, rfl, by show 1 ≤ sizeLine; decide, fun t ht => ?_⟩
        have nDt : D ≠ t := ne_of_none hD2 ht
        refine ⟨D, t, _, _, rfl, rfl, (by rw [upd_ne nDt]; exact hD2), upd_same, ?_, fun q' hq' => ?_⟩
        · rw [List.length_map]
          show zs.length + 1 ≤ sizeLine
          exact Nat.le_of_lt (small1000 (by omega))
        · have e : zs.map V.int ++ [V.int (((zs.map V.int).length : Int) + 5)] = (zs ++ [((zs.map V.int).length : Int) + 5]).map V.int := by
            rw [List.map_append]
            rfl
          refine ⟨by show 3 ≤ sizeLine; decide, fun d hd' => q _ d p q' ?_ ⟨ys.length, ⟨⟨ys, zs ++ [((zs.map V.int).length : Int) + 5], 0, upd_same, ?_, ?_, Int.le_refl _, Int.le_refl _, by simp, rfl⟩, ?_, ?_, ?_⟩⟩⟩
          · exact (sm.trans sm2).trans ((same_upd ht).trans ((same_upd hq').trans (same_upd hd')))
          · exact ((same_upd ht).trans ((same_upd hq').trans (same_upd hd'))) _ _ hd2
          · rw [← e]
            exact (same_upd hd') _ _ upd_same
          · exact (ne_of_none (((same_upd ht).trans (same_upd hq')) _ _ hd2) hd').symm
          · exact (ne_of_none (upd_same (H := upd H2 t _)) hd').symm
          · exact ne_of_none ((same_upd ht) _ _ hd2) hq'
end
end TR
namespace TR
open PySem PySem.Spec PyProof.Rows L2
theorem scNext : FnScope ["_law_deck_here", "_law_many", "_law_rest", "_law_cell", "_law_mixed"] ["_law_deck_here", "_law_many"] (defScope sNext) := ⟨rfl, rfl, rfl, by decide +kernel, rfl, by decide +kernel, by decide +kernel⟩
theorem ixN_zero {n : Nat} (h : 0 < n) : ixN n 0 = some 0 := by
  unfold ixN
  rw [if_pos (Int.le_refl _), if_pos (by omega)]
  rfl
section
variable {P : Program} {w : World} {K : PySem.W.Frag} {mg : Str → Option Value} {base : Heap}
def spNext : Sp := fun vs H Q _ => ∃ (d p q : Addr) (n : Nat) (m : Int), vs = [.ref d, .int m] ∧ Deck H d p q n ∧ n ≤ 1000000 ∧ 0 < m ∧ m ≤ 4000000000000 ∧
  ∀ H' r, 0 ≤ r → r < m → Deck H' d p q (n + 1) → Keep d p H H' → Q (.int r) H'
theorem ok_next {f : Addr} {fd : FuncData} {k : Nat} (F : Fun K "_law_next" "_law_next" sNext f fd) (mlen : mg "len" = none) : FnOk P w K mg base CX0 (k + 1) f fd ["_law_deck_here", "_law_many"] spNext := by
  refine F.ok scNext (fun vs H Q E h => ?_) (fun cdv A outer s H vs Q E hr h => ?_)
  · obtain ⟨d, p, q, n, m, rfl, _⟩ := h
    rfl
  · obtain ⟨d, p, q, n, m, rfl, ⟨l0, D0⟩, hn, hm0, hm1, qq⟩ := h
    refine ⟨_, pss_cons (ps_while PassesOwn.never (pt_cmpR (op_neD hr.units) (pe_ix ix_list (pv 0) pe_int (fun _ _ => rfl)) (pe_lst pa_nil) (nomark _))
        (pss_cons (ps_set (i := 2) scNext.nd rfl (.inl rfl) (pe_ix ix_list (pe_ix ix_list (pv 0) pe_int (fun _ _ => rfl)) pe_int (fun _ _ => rfl)))
        (pss_cons (ps_if (pt_cmpR op_gt (pv 2) pe_int (nomark _))
          (pss_cons (ps_asg (pe_op op_fdivW (pv 2) (pv 1)) (pg_sub (pe_ix ix_list (pv 0) pe_int (fun _ _ => rfl)) pe_int set_list))
          (pss_one (ps_ret (pe_op op_mod (pv 2) (pv 1))))) pss_nil)
        (pss_one (ps_expr (pe_bm PySem.F.plainAttrs_list PySem.F.slot_list_pop PySem.F.type_list_pop mt_popAt (pe_ix ix_list (pv 0) pe_int (fun _ _ => rfl)) (pa_cons pe_int pa_nil)))))))
      (pss_cons (ps_asg (pe_op op_add (pe_ix ix_list (pv 0) pe_int (fun _ _ => rfl)) pe_int) (pg_sub (pv 0) pe_int set_list))
      (pss_cons (ps_set (i := 3) scNext.nd rfl (.inl rfl) (pe_op op_mod (pe_ix ix_list (pe_ix ix_list (pv 0) pe_int (fun _ _ => rfl)) (pe_op op_mod (pe_ix ix_list (pv 0) pe_int (fun _ _ => rfl)) (pe_callB call_len_seq (by rfl) mlen PySem.boot_len (pa_cons (pe_ix ix_list (pv 0) pe_int (fun _ _ => rfl)) pa_nil))) (fun _ _ => rfl)) pe_int))
      (pss_cons (ps_set (i := 4) scNext.nd rfl (.inl rfl) (pe_op op_add (pe_op op_add (pe_op op_mul (pv 3) (pe_op op_add pe_int (pe_op op_mul pe_int (pe_ix ix_list (pv 0) pe_int (fun _ _ => rfl))))) (pe_op op_mul (pe_op op_mul pe_int (pe_ix ix_list (pv 0) pe_int (fun _ _ => rfl))) (pe_ix ix_list (pv 0) pe_int (fun _ _ => rfl)))) pe_int))
      (pss_cons (ps_set (i := 4) scNext.nd rfl (.inl rfl) (pe_op op_mod (pv 4) pe_int))
      (pss_one (ps_ret (pe_op op_mod (pe_op op_fdiv (pe_op op_mod (pe_op op_mul (pv 4) (pv 4)) pe_int) pe_int) (pv 1)))))))), ?_⟩
    refine ⟨fun l σ H1 => ∃ y2, σ = [some (.ref d), some (.int m), y2, none, none] ∧ DeckL H1 d p q n l ∧ Keep d p H H1, ⟨l0, none, rfl, D0, Keep.refl _ _ _⟩, fun l σ H1 hW => ?_⟩
    obtain ⟨y2, rfl, ⟨⟨xs, cs, c, h1, h2, h3, h4, h5, h6, h7⟩, ndp, ndq, npq⟩, kp⟩ := hW
    refine ⟨.ref d, rfl, d, _, 0, .ref p, rfl, rfl, sqL h1, rfl, Nat.zero_le _, fun e he => ?_⟩
    have hp1 : upd H1 e (.lst []) p = some (.lst (xs.map V.int)) := by
      rw [upd_ne (ne_of_none h2 he)]
      exact h2
    have hd1 : upd H1 e (.lst []) d = some (.lst [.ref p, .ref q, .int c]) := by
      rw [upd_ne (ne_of_none h1 he)]
      exact h1
    have hq1 : upd H1 e (.lst []) q = some (.lst (cs.map V.int)) := by
      rw [upd_ne (ne_of_none h3 he)]
      exact h3
    have kp1 : Keep d p H (upd H1 e (.lst [])) := kp.trans (Same.keep (same_upd he))
    refine ⟨_, _, .lst (sqL hp1) (dpAll_ints xs), .lst (sqL upd_same) .nil, shaped_ints xs, rfl, _, rfl, ?_⟩
    rw [eqv_nil]
    cases xs with
    | cons x r =>
      refine iteT ?_
      refine ⟨fun σ H2 => ∃ y2, σ = [some (.ref d), some (.int m), y2, none, none] ∧ DeckL H2 d p q n r.length ∧ Keep d p H H2, fun σ' H' hN => ⟨r.length, by rw [← h7]; exact Nat.lt_succ_self _, hN⟩, ?_⟩
      refine ⟨.ref d, rfl, d, _, 0, .ref p, rfl, rfl, sqL hd1, rfl, p, _, 0, .int x, rfl, rfl, sqL hp1, atI_nat (j := 0) rfl, ?_⟩
      refine ⟨.int x, rfl, x, 0, rfl, rfl, _, rfl, ite2 (fun hx => ?_) (fun hx => ?_)⟩
      · refine ⟨.int x, rfl, .int m, rfl, x, m, rfl, rfl, wide_div (b := 42) hm0 (by show m.natAbs < 4398046511104; omega) (by decide) (by decide), .ref d, rfl, d, _, 0, .ref p, rfl, rfl, sqL hd1, rfl, p, _, 0, 0, rfl, rfl, hp1, ixN_zero (by simp), ?_⟩
        refine ⟨.int x, rfl, .int m, rfl, x, m, rfl, rfl, hm0, qq _ _ (Int.emod_nonneg _ (by omega)) (Int.emod_lt_of_pos _ hm0) ?_ (keep_upd kp1 (.inr rfl))⟩
        refine ⟨r.length + 1, ⟨⟨(x / m) :: r, cs, c, ?_, upd_same, ?_, h4, by omega, h6, rfl⟩, ndp, ndq, npq⟩⟩
        · rw [upd_ne ndp]
          exact hd1
        · rw [upd_ne npq.symm]
          exact hq1
      · refine ⟨.ref d, rfl, d, _, 0, .ref p, rfl, rfl, sqL hd1, rfl, .inl ⟨rfl, _, sqL hp1⟩, p, _, 0, 0, .int x, rfl, rfl, hp1, by decide, by decide, ?_, rfl, ?_⟩
        · show seqIndex? 0 ((V.int x :: r.map V.int).length) = some 0
          unfold seqIndex?
          simp
        · refine ⟨some (.int x), rfl, ⟨⟨r, cs, c, ?_, upd_same, ?_, h4, h5, h6, rfl⟩, ndp, ndq, npq⟩, keep_upd kp1 (.inr rfl)⟩
          · rw [upd_ne ndp]
            exact hd1
          · rw [upd_ne npq.symm]
            exact hq1
    | nil =>
      refine iteF ?_
      refine ⟨.ref d, rfl, d, _, 2, .int c, rfl, rfl, sqL hd1, rfl, c, 1, rfl, rfl, .ref d, rfl, d, _, 2, 2, rfl, rfl, hd1, rfl, ?_⟩
      have kp2 : Keep d p H (upd (upd H1 e (.lst [])) d (.lst [.ref p, .ref q, .int (c + 1)])) := keep_upd kp1 (.inl rfl)
      have hq2 : upd (upd H1 e (.lst [])) d (.lst [.ref p, .ref q, .int (c + 1)]) q = some (.lst (cs.map V.int)) := by
        rw [upd_ne ndq.symm]
        exact hq1
      have hp2 : upd (upd H1 e (.lst [])) d (.lst [.ref p, .ref q, .int (c + 1)]) p = some (.lst (([] : List Int).map V.int)) := by
        rw [upd_ne ndp.symm]
        exact hp1
      have hd2 : upd (upd H1 e (.lst [])) d (.lst [.ref p, .ref q, .int (c + 1)]) d = some (.lst [.ref p, .ref q, .int (c + 1)]) := upd_same
      have hcl : 0 < (cs.map V.int).length := by
        rw [List.length_map]
        exact List.length_pos_iff.mpr h6
      have hcl' : (0 : Int) < ((cs.map V.int).length : Int) := by omega
      have b0 : 0 ≤ (c + 1) % ((cs.map V.int).length : Int) := Int.emod_nonneg _ (by omega)
      have b1 : (c + 1) % ((cs.map V.int).length : Int) < ((cs.map V.int).length : Int) := Int.emod_lt_of_pos _ hcl'
      obtain ⟨j, hj⟩ := Int.eq_ofNat_of_zero_le b0
      have hjl : j < cs.length := by
        rw [List.length_map] at b1 hj
        omega
      have ga : (cs.map V.int)[j]? = some (.int cs[j]) := by
        rw [List.getElem?_map, List.getElem?_eq_getElem hjl]
        rfl
      have gb : atI (cs.map V.int) ((c + 1) % ((cs.map V.int).length : Int)) = some (.int cs[j]) := by
        rw [hj]
        exact atI_nat ga
      refine ⟨.ref d, rfl, d, _, 1, .ref q, rfl, rfl, sqL hd2, rfl, .ref d, rfl, d, _, 2, .int (c + 1), rfl, rfl, sqL hd2, rfl, .ref d, rfl, d, _, 1, .ref q, rfl, rfl, sqL hd2, rfl, q, _, rfl, .inl (sqL hq2), _, _, rfl, rfl, hcl', q, _, _, _, rfl, rfl, sqL hq2, gb, _, _, rfl, rfl, by show (0 : Int) < 2147483647; decide, ?_⟩
      have e1 : (0 : Int) ≤ cs[j] % 2147483647 := Int.emod_nonneg _ (by decide)
      have e2 : cs[j] % 2147483647 < 2147483647 := Int.emod_lt_of_pos _ (by decide)
      refine ⟨.int (cs[j] % 2147483647), rfl, .ref d, rfl, d, _, 2, .int (c + 1), rfl, rfl, sqL hd2, rfl, 48271, _, rfl, rfl, .inl ⟨by decide, by decide⟩, _, _, rfl, rfl, cs[j] % 2147483647, _, rfl, rfl, .inl ⟨by show -(2 : Int) ^ 64 < cs[j] % 2147483647; omega, by show cs[j] % 2147483647 < (2 : Int) ^ 64; omega⟩,
        .ref d, rfl, d, _, 2, .int (c + 1), rfl, rfl, sqL hd2, rfl, 30011, _, rfl, rfl, .inl ⟨by decide, by decide⟩, .ref d, rfl, d, _, 2, .int (c + 1), rfl, rfl, sqL hd2, rfl, _, _, rfl, rfl, .inr ⟨by show -(2 : Int) ^ 64 < c + 1; omega, by show c + 1 < (2 : Int) ^ 64; omega⟩, _, _, rfl, rfl, _, _, rfl, rfl, ?_⟩
      refine ⟨_, rfl, _, _, rfl, rfl, by show (0 : Int) < 2147483629; decide, ?_⟩
      have e3 : (0 : Int) ≤ (cs[j] % 2147483647 * (69621 + 48271 * (c + 1)) + 30011 * (c + 1) * (c + 1) + 47) % 2147483629 := Int.emod_nonneg _ (by decide)
      have e4 : (cs[j] % 2147483647 * (69621 + 48271 * (c + 1)) + 30011 * (c + 1) * (c + 1) + 47) % 2147483629 < 2147483629 := Int.emod_lt_of_pos _ (by decide)
      refine ⟨.int ((cs[j] % 2147483647 * (69621 + 48271 * (c + 1)) + 30011 * (c + 1) * (c + 1) + 47) % 2147483629), rfl, .int ((cs[j] % 2147483647 * (69621 + 48271 * (c + 1)) + 30011 * (c + 1) * (c + 1) + 47) % 2147483629), rfl, _, _, rfl, rfl, .inl ⟨by show -(2 : Int) ^ 64 < (cs[j] % 2147483647 * (69621 + 48271 * (c + 1)) + 30011 * (c + 1) * (c + 1) + 47) % 2147483629; omega, by show (cs[j] % 2147483647 * (69621 + 48271 * (c + 1)) + 30011 * (c + 1) * (c + 1) + 47) % 2147483629 < (2 : Int) ^ 64; omega⟩, _, _, rfl, rfl, by show (0 : Int) < 2147483587; decide, _, _, rfl, rfl, ⟨by decide, by decide⟩, .int m, rfl, _, m, rfl, rfl, hm0, ?_⟩
      exact qq _ _ (Int.emod_nonneg _ (by omega)) (Int.emod_lt_of_pos _ hm0) ⟨0, ⟨[], cs, c + 1, hd2, hp2, hq2, by omega, by omega, h6, rfl⟩, ndp, ndq, npq⟩ kp2
end
end TR
namespace TR
open PySem PySem.Spec PyProof.Rows L2
/-! ### the deck -/
theorem tabs_keep {H H' : Hp} {d p q : Addr} {n : Nat} {T : List (Addr × Str)} (D : Deck H d p q n) (t : LamX.Tabs T H) (k : Keep d p H H') : LamX.Tabs T H' := fun x hx => by
  obtain ⟨_, ⟨xs, cs, c, h1, h2, _⟩, _⟩ := D
  have far : ∀ {b : Addr} {o : HO}, H b = some o → (∀ l, o ≠ .lst l) → H' b = some o := fun e ne => k _ _ e (fun z => by rw [z, h1] at e; exact ne _ (Option.some.inj e).symm) (fun z => by rw [z, h2] at e; exact ne _ (Option.some.inj e).symm)
  obtain ⟨ps, e1, e2, e3⟩ := t x hx
  refine ⟨ps, far e1 (fun _ z => by cases z), e2, fun pos cv hc => ?_⟩
  obtain ⟨c, g1, g2⟩ := e3 pos cv hc
  exact ⟨c, g1, far g2 (fun _ z => by unfold LamX.CodeO at z; cases z)⟩
def F__law_next : AF := fun ds n Qa _ => match ds with
  | [_, .int m] => n ≤ 1000000 ∧ 0 < m ∧ m ≤ 4000000000000 ∧ ∀ r, 0 ≤ r → r < m → Qa (.int r) (n + 1)
  | _ => False
section
variable {P : Program} {w : World} {K : PySem.W.Frag} {mg : Str → Option Value} {base : Heap}
theorem okA__law_next {m : Nat} {f : Addr} {fd : FuncData} (F : Fun K "_law_next" "_law_next" sNext f fd) (m_len : mg "len" = none) : FnOk P w K mg base CX0 (m + 1) f fd ["_law_deck_here", "_law_many"] (spA [.deck, .dat] F__law_next) := by
  refine (ok_next F m_len).imp fun vs H Q E ⟨Φ, ds, n, Qa, xa, p, a, f, hq, hx⟩ => ?_
  cases a with
  | cons h1 t =>
    cases t with
    | cons h2 t =>
      cases t
      obtain ⟨d, pp, q, e, rfl⟩ := h1
      have e' : Φ.dk0 = some (d, pp, q) := e
      unfold F__law_next at f
      split at f
      · next m he =>
        cases he
        obtain ⟨f1, f2, f3, f4⟩ := f
        obtain rfl : _ = V.int m := h2
        refine ⟨d, pp, q.1, n, m, rfl, (p.dk d pp q e').1, f1, f2, f3, fun H' r h0 h1 D K => hq (.int r) _ _ H' ⟨fun b o hb hn => ?_, fun d2 p2 q2 e2 => ?_, rfl⟩ (f4 r h0 h1)⟩
        · rw [e'] at hn
          simp only [dkl, List.mem_cons, List.not_mem_nil, or_false, not_or] at hn
          exact K b o (p.h0 ▸ hb) hn.1 hn.2.1
        · rw [e'] at e2
          cases e2
          exact ⟨D, tabs_keep (p.dk d pp q e').1 (p.dk d pp q e').2 (fun b o h => K b o (p.h0 ▸ h))⟩
      · exact f.elim
/-! ### the law itself -/
theorem law_start {T : List (Addr × Str)} {H1 : Hp} {N : List Str} {a d p q : Addr} {k : Nat} (hk : k + 2 = N.length) (D : Deck H1 d p q 0) (tb : LamX.Tabs T H1) : Rel ⟨[], none, fun _ => none, [], [], none, [], T⟩ ⟨some (d, p, (q, T)), []⟩ ⟨none :: some .deck :: List.replicate k none, 0⟩ ((L2.start N [.ref a]).set 1 (some (.ref d))) H1 := by
  have hl : ((L2.start N [.ref a]).set 1 (some (.ref d))).length = N.length := by
    rw [List.length_set]
    simp [L2.start]
    omega
  refine ⟨by rw [hl, ← hk]; simp, fun i x h => ?_, fun d' p' q' e => ?_, fun i b h => (nomatch h), fun i j b h => (nomatch h), fun b o h _ => (nomatch h), fun t e => (nomatch e), fun b hb => (nomatch hb), fun x hx => (nomatch hx), fun x hx => (nomatch hx), List.nodup_nil, .inr ⟨d, p, q, rfl⟩⟩
  · have h2 : (none :: some AV.deck :: List.replicate k none)[i]? = some (some x) := h
    cases i with
    | zero => cases h2
    | succ i =>
      cases i with
      | zero =>
        cases h2
        exact ⟨.ref d, List.getElem?_set_self (by simp [L2.start]; omega), d, p, (q, T), rfl, rfl⟩
      | succ i =>
        simp only [List.getElem?_cons_succ] at h2
        obtain ⟨hlt, e⟩ := List.getElem?_eq_some_iff.mp h2
        rw [List.getElem_replicate] at e
        cases e
  · cases e
    exact ⟨⟨D, tb⟩, fun b hb => ⟨fun z => (nomatch z), .inr rfl⟩⟩
abbrev e0T (T : List (Addr × Str)) : EC := ⟨fun _ _ _ _ => False, none, [], T⟩
def spLawT (K : PySem.W.Frag) (T : List (Addr × Str)) : Sp := fun vs H Q E => spLaw K vs H Q E ∧ LamX.Tabs T H
def lawF (k : Nat) (b : AST) : Prop := b x0 { nx := fun _ => False, rt := fun r _ => r = .bool true } ⟨none :: some .deck :: List.replicate k none, 0⟩
theorem law_body {T : List (Addr × Str)} {b : AST} {N : List Str} {k : Nat} {vs : List V} {H : Hp} {Q : VK} {E : XK} (hk : k + 2 = N.length) (hb : lawF k b) (h : spLawT K T vs H Q E) : tSeq (tAsg (tCall (spDeck K) [] E0 (tCons (tVar 0) tNil)) (gName 1)) (cS (e0T T) b) { nx := fun _ H' => Q .non H', rt := Q } (L2.start N vs) H := by
  obtain ⟨⟨a, ns, rfl, hS, hl, q⟩, tb⟩ := h
  refine ⟨.ref a, ?_, a, ns, rfl, hS, hl, fun H' d p q' sm D => ?_⟩
  · unfold L2.start
    rw [List.getElem?_append_left (by simp)]
    rfl
  · exact ⟨_, _, x0, _, _, law_start hk D (tb.ext sm), ⟨⟨rfl, rfl, rfl⟩, fun _ _ _ _ _ _ _ _ h => h⟩, hb, fun _ _ _ _ _ h => h.elim, fun _ _ _ _ _ h => h.elim, fun _ _ _ _ _ h => h.elim, fun r n v H ro e => by
      subst e
      obtain rfl : v = .bl true := ro.rp
      exact q H⟩
theorem law_okT {T : List (Addr × Str)} {b : AST} {N : List Str} {k m : Nat} {st : Stmt} {f : Addr} {fd : FuncData} (F : Fun K "law" "law" st f fd) (S : FnScope N ["_law_script"] (defScope st)) (hk : k + 2 = N.length) (hb : lawF k b)
    (hbody : ∀ (cdv : Value) (A : Around) (outer : List Env) (s : Shared) (H : Hp) (E : XK), Room m (A.deeper (envOfC "law" (defScope st) s.heap.objs.size f cdv)) → PSs (cxOf CX0 P w K mg base N "law" (defScope st) f cdv A outer s H E).nox (defBody st) (tSeq (tAsg (tCall (spDeck K) [] E0 (tCons (tVar 0) tNil)) (gName 1)) (cS (e0T T) b))) : FnOk P w K mg base CX0 (m + 1) f fd ["_law_script"] (spLawT K T) := by
  refine F.ok S (fun vs H Q E h => ?_) fun cdv A outer s H vs Q E hr h => ⟨_, hbody cdv A outer s H E hr, law_body hk hb h⟩
  obtain ⟨⟨a, ns, rfl, _⟩, _⟩ := h
  rfl
end
end TR
namespace TR
open PySem PySem.Spec PyProof.Rows L2
theorem scA_is_whole : FnScope ["value"] ["value"] (defScope s_is_whole) := ⟨rfl, rfl, rfl, by decide +kernel, rfl, by decide +kernel, by decide +kernel⟩
def b_is_whole : AST := (sRet (aAnd (aIsi "int" (oVar 0)) (aNot (aIsi "bool" (oVar 0)))))
def F_is_whole : AF := fnF [.dat] 0 (b_is_whole)
theorem okA_is_whole {P : Program} {w : World} {K : PySem.W.Frag} {mg : Str → Option Value} {base : Heap} {f  : Addr} {fd  : FuncData} {m : Nat} (F : Fun K "is_whole" "is_whole" s_is_whole f fd)
    (m_isinstance : mg "isinstance" = none) (m_bool : mg "bool" = none) (m_int : mg "int" = none) : FnOk P w K mg base CX0 (m + 1) f fd ["value"] (spA [.dat] F_is_whole) :=
  fn_ok F scA_is_whole rfl rfl fun cdv A outer s H E hr =>
    (as_one (as_ret (ae_and (ae_isi (T := "int") (by rfl) m_isinstance (ao_var 0 (pv 0)) (pe_bltn (v := .ty "int") (by rfl) m_int (by decide +kernel) rfl)) (ae_one (ae_not (ae_isi (T := "bool") (by rfl) m_isinstance (ao_var 0 (pv 0)) (pe_bltn (v := .ty "bool") (by rfl) m_bool (by decide +kernel) rfl)))))))

theorem scA_is_within : FnScope ["value", "low", "high"] ["value", "low", "high"] (defScope s_is_within) := ⟨rfl, rfl, rfl, by decide +kernel, rfl, by decide +kernel, by decide +kernel⟩
def b_is_within (P_is_whole : AF) : AST := (sRet (aAnd (aCall0 [.dat] (calm P_is_whole) (lCons (oV (aVar 0)) lNil)) (a3 vLe vLe (oVar 1) (oVar 0) (oVar 2))))
def F_is_within : AF := fnF [.dat, .dat, .dat] 0 (b_is_within F_is_whole)
theorem okA_is_within {P : Program} {w : World} {K : PySem.W.Frag} {mg : Str → Option Value} {base : Heap} {f f_is_whole : Addr} {fd d_is_whole : FuncData} {m : Nat} (F : Fun K "is_within" "is_within" s_is_within f fd)
    (k_is_whole : PySem.W.keepIn K (.ref f_is_whole) = true) (b_is_whole : Binds K d_is_whole ["value"] []) (g_is_whole : mg "is_whole" = some (.ref f_is_whole)) (G_is_whole : FnOk P w K mg base CX0 m f_is_whole d_is_whole ["value"] (spA [.dat] F_is_whole))
     : FnOk P w K mg base CX0 (m + 1) f fd ["value", "low", "high"] (spA [.dat, .dat, .dat] F_is_within) :=
  fn_ok F scA_is_within rfl rfl fun cdv A outer s H E hr =>
    (as_one (as_ret (ae_and (ae_call0 G_is_whole (by decide) hr (by rfl) g_is_whole k_is_whole b_is_whole (la_cons (ao_V (ae_var 0 (pv 0))) la_nil)) (ae_one (ae_chain dop_le dop_le (op_leA hr.units) (op_leA hr.units) (ao_var 1 (pv 1)) (ao_var 0 (pv 0)) (ao_var 2 (pv 2)))))))

theorem scA_is_order : FnScope ["size", "value", "part"] ["size", "value"] (defScope s_is_order) := ⟨rfl, rfl, rfl, by decide +kernel, rfl, by decide +kernel, by decide +kernel⟩
def b_is_order (P_is_whole : AF) : AST := (sSeq (sIf (tOrA (tNotA (tTruA (oV (aIsi "tuple" (oVar 1))))) (tNotA (tTruA (oV (aBlt fAll (lCons (oV (aLc (iSeq (oVar 1)) (bNm 2) tYesA (aCall0 [.dat] (calm P_is_whole) (lCons (oV (aVar 2)) lNil)) [2])) lNil))))))
    (sRet (aC (.bool false)))
    sNx)
    (sRet (a2 vEq (oV (aBlt fSorted (lCons (oVar 1) lNil))) (oV (aListRg (rg1 (aVar 0)))))))
def F_is_order : AF := fnF [.dat, .dat] 1 (b_is_order F_is_whole)
theorem okA_is_order {P : Program} {w : World} {K : PySem.W.Frag} {mg : Str → Option Value} {base : Heap} {f f_is_whole : Addr} {fd d_is_whole : FuncData} {m : Nat} (F : Fun K "is_order" "is_order" s_is_order f fd)
    (k_is_whole : PySem.W.keepIn K (.ref f_is_whole) = true) (b_is_whole : Binds K d_is_whole ["value"] []) (g_is_whole : mg "is_whole" = some (.ref f_is_whole)) (G_is_whole : FnOk P w K mg base CX0 m f_is_whole d_is_whole ["value"] (spA [.dat] F_is_whole))
    (m_all : mg "all" = none) (m_isinstance : mg "isinstance" = none) (m_tuple : mg "tuple" = none) (m_sorted : mg "sorted" = none) (m_range : mg "range" = none) (m_list : mg "list" = none) : FnOk P w K mg base CX0 (m + 1) f fd ["size", "value"] (spA [.dat, .dat] F_is_order) :=
  fn_ok F scA_is_order rfl rfl fun cdv A outer s H E hr =>
    (as_cons (as_if (PW.pt (aw_or (at_not (at_tru (ao_V (ae_isi (T := "tuple") (by rfl) m_isinstance (ao_var 1 (pv 1)) (pe_bltn (v := .ty "tuple") (by rfl) m_tuple (by decide +kernel) rfl))))) (aw_or1 (at_not (at_tru (ao_V (ae_blt dc_all (pe_callB (cr_all (by rfl)) (by rfl) m_all (by decide +kernel) (la_cons (ao_V (ae_F (af_lc 0 (own := [("part", 2)]) (by rfl) scA_is_order.nd (ai_seq (ao_var 1 (pv 1))) (blkOk_by (own := [("part", 2)]) (N := ["size", "value", "part"]) (sc := defScope s_is_order) (by decide +kernel)) (fun _ _ _ _ _ => (ag_name (pg_name (i := 2) scA_is_order.nd rfl (Or.inl rfl)))) (fun _ _ _ _ _ => ts_nil) (fun _ _ _ _ _ => (ae_call0 G_is_whole (by decide) hr (by rfl) g_is_whole k_is_whole b_is_whole (la_cons (ao_V (ae_var 2 (pv 2))) la_nil)))))) la_nil))))))))) (as_one (as_ret ae_bl)) as_nil)
      (as_one (as_ret (ae_cmp dop_eq (op_eqA hr.units) (ao_V (ae_F (af_blt 0 dc_sorted (pe_callB (cr_sortedA (u65 hr)) (by rfl) m_sorted (by decide +kernel) (la_cons (ao_var 1 (pv 1)) la_nil))))) (ao_V (ae_F (af_listRg1 0 (by rfl) (by rfl) m_list (prg_1 (by rfl) m_range (ae_var 0 (pv 0)))))) (nomark _)))))

theorem scA_ascending_tuples : FnScope ["size", "length", "rows", "step", "row", "more"] ["size", "length"] (defScope s_ascending_tuples) := ⟨rfl, rfl, rfl, by decide +kernel, rfl, by decide +kernel, by decide +kernel⟩
def b_ascending_tuples : AST := (sSeq (sSet 2 (aLst (lCons (oV (aTup lNil)) lNil)))
    (sSeq (sFor (iRange1 (lCons (oVar 1) lNil)) (bNm 3)
    (sSet 2 (aLc2 (iSeq (oVar 2)) (bNm 4) tYesA (iRange2 (lCons (oV (aIfE (tTruA (oVar 4)) (a2 vAdd (oV (a2 vIx (oVar 4) (oV (aNeg (oV (aC (.int 1))))))) (oV (aC (.int 1)))) (aC (.int 0)))) (lCons (oVar 0) lNil))) (bNm 5) tYesA (a2 vAdd (oVar 4) (oV (aTup (lCons (oV (aVar 5)) lNil)))) [4, 5] [5])))
    (sRetV 2)))
def F_ascending_tuples : AF := fnF [.dat, .dat] 4 (b_ascending_tuples)
theorem okA_ascending_tuples {P : Program} {w : World} {K : PySem.W.Frag} {mg : Str → Option Value} {base : Heap} {f  : Addr} {fd  : FuncData} {m : Nat} (F : Fun K "ascending_tuples" "ascending_tuples" s_ascending_tuples f fd)
    (m_range : mg "range" = none) : FnOk P w K mg base CX0 (m + 1) f fd ["size", "length"] (spA [.dat, .dat] F_ascending_tuples) :=
  fn_ok F scA_ascending_tuples rfl rfl fun cdv A outer s H E hr =>
    (as_cons (as_set (i := 2) scA_ascending_tuples.nd rfl (.inl rfl) (ae_F (af_lst 0 (la_cons (ao_V (ae_tup la_nil)) la_nil))))
      (as_cons (as_for PassesOwn.never rfl (ai_range1 (by rfl) m_range (la_cons (ao_var 1 (pv 1)) la_nil)) (ag_name (pg_name (i := 3) scA_ascending_tuples.nd rfl (.inl rfl))) (as_one (as_setLc2 2 rfl rfl (sw_true rfl rfl rfl (by decide +kernel)) (own := [("row", 4), ("more", 5)]) (vs1 := [5]) (by rfl) scA_ascending_tuples.nd (ai_seq (ao_var 2 (pv 2))) (blkOk_by (own := [("row", 4), ("more", 5)]) (N := ["size", "length", "rows", "step", "row", "more"]) (sc := defScope s_ascending_tuples) (by decide +kernel)) (by decide) (fun _ _ _ _ _ => (ag_name (pg_name (i := 4) scA_ascending_tuples.nd rfl (Or.inl rfl)))) (fun _ _ _ _ _ => ts_nil) (fun _ _ _ _ _ => (ai_range2 (by rfl) m_range (la_cons (ao_V (ae_if (at_tru (ao_var 4 (pv 4))) (ae_op dop_add op_addA (ao_V (ae_ix (ao_var 4 (pv 4)) (ao_V (ae_neg (ao_V ae_int))) (fun _ _ => rfl))) (ao_V ae_int)) ae_int)) (la_cons (ao_var 0 (pv 0)) la_nil)))) (fun _ _ _ _ _ => (ag_name (pg_name (i := 5) scA_ascending_tuples.nd rfl (Or.inl rfl)))) (fun _ _ _ _ _ => ts_nil) (fun _ _ _ _ _ => (ae_op dop_add op_addA (ao_var 4 (pv 4)) (ao_V (ae_tup (la_cons (ao_V (ae_var 5 (pv 5))) la_nil))))))))
      (as_one (as_retV 2 (pv 2)))))

theorem scA_all_pairs : FnScope ["dishes"] ["dishes"] (defScope s_all_pairs) := ⟨rfl, rfl, rfl, by decide +kernel, rfl, by decide +kernel, by decide +kernel⟩
def b_all_pairs (P_ascending_tuples : AF) : AST := (sRet (aCall0 [.dat, .dat] (calm P_ascending_tuples) (lCons (oV (aVar 0)) (lCons (oV (aC (.int 2))) lNil))))
def F_all_pairs : AF := fnF [.dat] 0 (b_all_pairs F_ascending_tuples)
theorem okA_all_pairs {P : Program} {w : World} {K : PySem.W.Frag} {mg : Str → Option Value} {base : Heap} {f f_ascending_tuples : Addr} {fd d_ascending_tuples : FuncData} {m : Nat} (F : Fun K "all_pairs" "all_pairs" s_all_pairs f fd)
    (k_ascending_tuples : PySem.W.keepIn K (.ref f_ascending_tuples) = true) (b_ascending_tuples : Binds K d_ascending_tuples ["size", "length"] []) (g_ascending_tuples : mg "ascending_tuples" = some (.ref f_ascending_tuples)) (G_ascending_tuples : FnOk P w K mg base CX0 m f_ascending_tuples d_ascending_tuples ["size", "length"] (spA [.dat, .dat] F_ascending_tuples))
     : FnOk P w K mg base CX0 (m + 1) f fd ["dishes"] (spA [.dat] F_all_pairs) :=
  fn_ok F scA_all_pairs rfl rfl fun cdv A outer s H E hr =>
    (as_one (as_ret (ae_call0 G_ascending_tuples (by decide) hr (by rfl) g_ascending_tuples k_ascending_tuples b_ascending_tuples (la_cons (ao_V (ae_var 0 (pv 0))) (la_cons (ao_V ae_int) la_nil)))))

theorem scA_prefers : FnScope ["ranking", "one", "other"] ["ranking", "one", "other"] (defScope s_prefers) := ⟨rfl, rfl, rfl, by decide +kernel, rfl, by decide +kernel, by decide +kernel⟩
def b_prefers : AST := (sRet (a2 vLt (oV (aIdx (oVar 0) (lCons (oVar 1) lNil))) (oV (aIdx (oVar 0) (lCons (oVar 2) lNil)))))
def F_prefers : AF := fnF [.dat, .dat, .dat] 0 (b_prefers)
theorem okA_prefers {P : Program} {w : World} {K : PySem.W.Frag} {mg : Str → Option Value} {base : Heap} {f  : Addr} {fd  : FuncData} {m : Nat} (F : Fun K "prefers" "prefers" s_prefers f fd)
     : FnOk P w K mg base CX0 (m + 1) f fd ["ranking", "one", "other"] (spA [.dat, .dat, .dat] F_prefers) :=
  fn_ok F scA_prefers rfl rfl fun cdv A outer s H E hr =>
    (as_one (as_ret (ae_cmp dop_lt (op_ltA hr.units) (ao_V (ae_idx (pe_bmT (r := rTupIdx K) PySem.F.slot_tuple_index PySem.F.type_tuple_index mt_tupIdx (ao_var 0 (pv 0)) (la_cons (ao_var 1 (pv 1)) la_nil)))) (ao_V (ae_idx (pe_bmT (r := rTupIdx K) PySem.F.slot_tuple_index PySem.F.type_tuple_index mt_tupIdx (ao_var 0 (pv 0)) (la_cons (ao_var 2 (pv 2)) la_nil)))) (nomark _))))

theorem scA_agree : FnScope ["one", "other", "pair", "low", "high"] ["one", "other", "pair"] (defScope s_agree) := ⟨rfl, rfl, rfl, by decide +kernel, rfl, by decide +kernel, by decide +kernel⟩
def b_agree (P_prefers : AF) : AST := (sSeq (sAsg (aVar 2) (bTup 2 (bCons (bNm 3) (bCons (bNm 4) bNil))))
    (sRet (a2 vEq (oV (aCall0 [.dat, .dat, .dat] (calm P_prefers) (lCons (oV (aVar 0)) (lCons (oV (aVar 3)) (lCons (oV (aVar 4)) lNil))))) (oV (aCall0 [.dat, .dat, .dat] (calm P_prefers) (lCons (oV (aVar 1)) (lCons (oV (aVar 3)) (lCons (oV (aVar 4)) lNil))))))))
def F_agree : AF := fnF [.dat, .dat, .dat] 2 (b_agree F_prefers)
theorem okA_agree {P : Program} {w : World} {K : PySem.W.Frag} {mg : Str → Option Value} {base : Heap} {f f_prefers : Addr} {fd d_prefers : FuncData} {m : Nat} (F : Fun K "agree" "agree" s_agree f fd)
    (k_prefers : PySem.W.keepIn K (.ref f_prefers) = true) (b_prefers : Binds K d_prefers ["ranking", "one", "other"] []) (g_prefers : mg "prefers" = some (.ref f_prefers)) (G_prefers : FnOk P w K mg base CX0 m f_prefers d_prefers ["ranking", "one", "other"] (spA [.dat, .dat, .dat] F_prefers))
     : FnOk P w K mg base CX0 (m + 1) f fd ["one", "other", "pair"] (spA [.dat, .dat, .dat] F_agree) :=
  fn_ok F scA_agree rfl rfl fun cdv A outer s H E hr =>
    (as_cons (as_asg (ae_var 2 (pv 2)) (ag_tup (by rfl) (ags_cons (ag_name (pg_name (i := 3) scA_agree.nd rfl (.inl rfl))) (ags_cons (ag_name (pg_name (i := 4) scA_agree.nd rfl (.inl rfl))) ags_nil))))
      (as_one (as_ret (ae_cmp dop_eq (op_eqA hr.units) (ao_V (ae_call0 G_prefers (by decide) hr (by rfl) g_prefers k_prefers b_prefers (la_cons (ao_V (ae_var 0 (pv 0))) (la_cons (ao_V (ae_var 3 (pv 3))) (la_cons (ao_V (ae_var 4 (pv 4))) la_nil))))) (ao_V (ae_call0 G_prefers (by decide) hr (by rfl) g_prefers k_prefers b_prefers (la_cons (ao_V (ae_var 1 (pv 1))) (la_cons (ao_V (ae_var 3 (pv 3))) (la_cons (ao_V (ae_var 4 (pv 4))) la_nil))))) (nomark _)))))

theorem scA_differences : FnScope ["one", "other", "pair"] ["one", "other"] (defScope s_differences) := ⟨rfl, rfl, rfl, by decide +kernel, rfl, by decide +kernel, by decide +kernel⟩
def b_differences (P_all_pairs : AF) (P_agree : AF) : AST := (sRet (aBlt fTuple (lCons (oV (aLc (iSeq (oV (aCall0 [.dat] (calm P_all_pairs) (lCons (oV (aBlt fLen (lCons (oVar 0) lNil))) lNil)))) (bNm 2) (tNotA (tTruA (oV (aCall0 [.dat, .dat, .dat] (calm P_agree) (lCons (oV (aVar 0)) (lCons (oV (aVar 1)) (lCons (oV (aVar 2)) lNil))))))) (aVar 2) [2])) lNil)))
def F_differences : AF := fnF [.dat, .dat] 1 (b_differences F_all_pairs F_agree)
theorem okA_differences {P : Program} {w : World} {K : PySem.W.Frag} {mg : Str → Option Value} {base : Heap} {f f_all_pairs f_agree : Addr} {fd d_all_pairs d_agree : FuncData} {m : Nat} (F : Fun K "differences" "differences" s_differences f fd)
    (k_all_pairs : PySem.W.keepIn K (.ref f_all_pairs) = true) (b_all_pairs : Binds K d_all_pairs ["dishes"] []) (g_all_pairs : mg "all_pairs" = some (.ref f_all_pairs)) (G_all_pairs : FnOk P w K mg base CX0 m f_all_pairs d_all_pairs ["dishes"] (spA [.dat] F_all_pairs))
    (k_agree : PySem.W.keepIn K (.ref f_agree) = true) (b_agree : Binds K d_agree ["one", "other", "pair"] []) (g_agree : mg "agree" = some (.ref f_agree)) (G_agree : FnOk P w K mg base CX0 m f_agree d_agree ["one", "other", "pair"] (spA [.dat, .dat, .dat] F_agree))
    (m_tuple : mg "tuple" = none) (m_len : mg "len" = none) : FnOk P w K mg base CX0 (m + 1) f fd ["one", "other"] (spA [.dat, .dat] F_differences) :=
  fn_ok F scA_differences rfl rfl fun cdv A outer s H E hr =>
    (as_one (as_ret (ae_blt dc_tuple (pe_callTy call_tupleF (by rfl) m_tuple (by decide +kernel) (la_cons (ao_V (ae_F (af_lc 0 (own := [("pair", 2)]) (by rfl) scA_differences.nd (ai_seq (ao_V (ae_call0 G_all_pairs (by decide) hr (by rfl) g_all_pairs k_all_pairs b_all_pairs (la_cons (ao_V (ae_blt dc_len (pe_callB call_len (by rfl) m_len PySem.boot_len (la_cons (ao_var 0 (pv 0)) la_nil)))) la_nil)))) (blkOk_by (own := [("pair", 2)]) (N := ["one", "other", "pair"]) (sc := defScope s_differences) (by decide +kernel)) (fun _ _ _ _ _ => (ag_name (pg_name (i := 2) scA_differences.nd rfl (Or.inl rfl)))) (fun _ _ _ _ _ => (ts_one (at_not (at_tru (ao_V (ae_call0 G_agree (by decide) hr (by rfl) g_agree k_agree b_agree (la_cons (ao_V (ae_var 0 (pv 0))) (la_cons (ao_V (ae_var 1 (pv 1))) (la_cons (ao_V (ae_var 2 (pv 2))) la_nil))))))))) (fun _ _ _ _ _ => (ae_var 2 (pv 2)))))) la_nil)))))

theorem scA_distance : FnScope ["one", "other"] ["one", "other"] (defScope s_distance) := ⟨rfl, rfl, rfl, by decide +kernel, rfl, by decide +kernel, by decide +kernel⟩
def b_distance (P_differences : AF) : AST := (sRet (aBlt fLen (lCons (oV (aCall0 [.dat, .dat] (calm P_differences) (lCons (oV (aVar 0)) (lCons (oV (aVar 1)) lNil)))) lNil)))
def F_distance : AF := fnF [.dat, .dat] 0 (b_distance F_differences)
theorem okA_distance {P : Program} {w : World} {K : PySem.W.Frag} {mg : Str → Option Value} {base : Heap} {f f_differences : Addr} {fd d_differences : FuncData} {m : Nat} (F : Fun K "distance" "distance" s_distance f fd)
    (k_differences : PySem.W.keepIn K (.ref f_differences) = true) (b_differences : Binds K d_differences ["one", "other"] []) (g_differences : mg "differences" = some (.ref f_differences)) (G_differences : FnOk P w K mg base CX0 m f_differences d_differences ["one", "other"] (spA [.dat, .dat] F_differences))
    (m_len : mg "len" = none) : FnOk P w K mg base CX0 (m + 1) f fd ["one", "other"] (spA [.dat, .dat] F_distance) :=
  fn_ok F scA_distance rfl rfl fun cdv A outer s H E hr =>
    (as_one (as_ret (ae_blt dc_len (pe_callB call_len (by rfl) m_len PySem.boot_len (la_cons (ao_V (ae_call0 G_differences (by decide) hr (by rfl) g_differences k_differences b_differences (la_cons (ao_V (ae_var 0 (pv 0))) (la_cons (ao_V (ae_var 1 (pv 1))) la_nil)))) la_nil)))))

theorem scA_rankings_of : FnScope ["table", "ranking", "weight"] ["table"] (defScope s_rankings_of) := ⟨rfl, rfl, rfl, by decide +kernel, rfl, by decide +kernel, by decide +kernel⟩
def b_rankings_of : AST := (sRet (aBlt fTuple (lCons (oV (aLc (iSeq (oV (a2 vIx (oVar 0) (oV (aC (.int 1)))))) (bTup 2 (bCons (bNm 1) (bCons (bNm 2) bNil))) tYesA (aVar 1) [1, 2])) lNil)))
def F_rankings_of : AF := fnF [.dat] 2 (b_rankings_of)
theorem okA_rankings_of {P : Program} {w : World} {K : PySem.W.Frag} {mg : Str → Option Value} {base : Heap} {f  : Addr} {fd  : FuncData} {m : Nat} (F : Fun K "rankings_of" "rankings_of" s_rankings_of f fd)
    (m_tuple : mg "tuple" = none) : FnOk P w K mg base CX0 (m + 1) f fd ["table"] (spA [.dat] F_rankings_of) :=
  fn_ok F scA_rankings_of rfl rfl fun cdv A outer s H E hr =>
    (as_one (as_ret (ae_blt dc_tuple (pe_callTy call_tupleF (by rfl) m_tuple (by decide +kernel) (la_cons (ao_V (ae_F (af_lc 0 (own := [("ranking", 1), ("weight", 2)]) (by rfl) scA_rankings_of.nd (ai_seq (ao_V (ae_ix (ao_var 0 (pv 0)) (ao_V ae_int) (fun _ _ => rfl)))) (blkOk_by (own := [("ranking", 1), ("weight", 2)]) (N := ["table", "ranking", "weight"]) (sc := defScope s_rankings_of) (by decide +kernel)) (fun _ _ _ _ _ => (ag_tup (by rfl) (ags_cons (ag_name (pg_name (i := 1) scA_rankings_of.nd rfl (Or.inl rfl))) (ags_cons (ag_name (pg_name (i := 2) scA_rankings_of.nd rfl (Or.inl rfl))) ags_nil)))) (fun _ _ _ _ _ => ts_nil) (fun _ _ _ _ _ => (ae_var 1 (pv 1)))))) la_nil)))))

theorem scA_total_weight : FnScope ["table", "ranking", "weight"] ["table"] (defScope s_total_weight) := ⟨rfl, rfl, rfl, by decide +kernel, rfl, by decide +kernel, by decide +kernel⟩
def b_total_weight : AST := (sRet (aBlt fSum (lCons (oV (aLc (iSeq (oV (a2 vIx (oVar 0) (oV (aC (.int 1)))))) (bTup 2 (bCons (bNm 1) (bCons (bNm 2) bNil))) tYesA (aVar 2) [1, 2])) lNil)))
def F_total_weight : AF := fnF [.dat] 2 (b_total_weight)
theorem okA_total_weight {P : Program} {w : World} {K : PySem.W.Frag} {mg : Str → Option Value} {base : Heap} {f  : Addr} {fd  : FuncData} {m : Nat} (F : Fun K "total_weight" "total_weight" s_total_weight f fd)
    (m_sum : mg "sum" = none) : FnOk P w K mg base CX0 (m + 1) f fd ["table"] (spA [.dat] F_total_weight) :=
  fn_ok F scA_total_weight rfl rfl fun cdv A outer s H E hr =>
    (as_one (as_ret (ae_blt dc_sum (pe_callB (cr_sum (by rfl)) (by rfl) m_sum (by decide +kernel) (la_cons (ao_V (ae_F (af_lc 0 (own := [("ranking", 1), ("weight", 2)]) (by rfl) scA_total_weight.nd (ai_seq (ao_V (ae_ix (ao_var 0 (pv 0)) (ao_V ae_int) (fun _ _ => rfl)))) (blkOk_by (own := [("ranking", 1), ("weight", 2)]) (N := ["table", "ranking", "weight"]) (sc := defScope s_total_weight) (by decide +kernel)) (fun _ _ _ _ _ => (ag_tup (by rfl) (ags_cons (ag_name (pg_name (i := 1) scA_total_weight.nd rfl (Or.inl rfl))) (ags_cons (ag_name (pg_name (i := 2) scA_total_weight.nd rfl (Or.inl rfl))) ags_nil)))) (fun _ _ _ _ _ => ts_nil) (fun _ _ _ _ _ => (ae_var 2 (pv 2)))))) la_nil)))))

theorem scA_groups : FnScope ["table", "members", "taster", "ranking", "group"] ["table"] (defScope s_groups) := ⟨rfl, rfl, rfl, by decide +kernel, rfl, by decide +kernel, by decide +kernel⟩
def b_groups (P_rankings_of : AF) : AST := (sSeq (sNewL 1)
    (sSeq (sFor (iEnT (aCall0 [.dat] (calm P_rankings_of) (lCons (oV (aVar 0)) lNil))) (bTup 2 (bCons (bNm 2) (bCons (bNm 3) bNil)))
    (sDApp 1 2 (aVar 3)))
    (sRet (aBlt fTuple (lCons (oV (aLc (iValsL 1) (bNm 4) tYesA (aBlt fTuple (lCons (oVar 4) lNil)) [4])) lNil)))))
def F_groups : AF := fnF [.dat] 4 (b_groups F_rankings_of)
theorem okA_groups {P : Program} {w : World} {K : PySem.W.Frag} {mg : Str → Option Value} {base : Heap} {f f_rankings_of : Addr} {fd d_rankings_of : FuncData} {m : Nat} (F : Fun K "groups" "groups" s_groups f fd)
    (k_rankings_of : PySem.W.keepIn K (.ref f_rankings_of) = true) (b_rankings_of : Binds K d_rankings_of ["table"] []) (g_rankings_of : mg "rankings_of" = some (.ref f_rankings_of)) (G_rankings_of : FnOk P w K mg base CX0 m f_rankings_of d_rankings_of ["table"] (spA [.dat] F_rankings_of))
    (m_enumerate : mg "enumerate" = none) (m_tuple : mg "tuple" = none) : FnOk P w K mg base CX0 (m + 1) f fd ["table"] (spA [.dat] F_groups) :=
  fn_ok F scA_groups rfl rfl fun cdv A outer s H E hr =>
    (as_cons (as_newL (i := 1) (ps_asg pe_newI (pg_name (i := 1) scA_groups.nd rfl (.inl rfl))))
      (as_cons (as_for PassesOwn.never rfl (ai_enT (by rfl) m_enumerate (ae_call0 G_rankings_of (by decide) hr (by rfl) g_rankings_of k_rankings_of b_rankings_of (la_cons (ao_V (ae_var 0 (pv 0))) la_nil))) (ag_tup (by rfl) (ags_cons (ag_name (pg_name (i := 2) scA_groups.nd rfl (.inl rfl))) (ags_cons (ag_name (pg_name (i := 3) scA_groups.nd rfl (.inl rfl))) ags_nil))) (as_one (as_dapp (i := 1) (j := 2) (ps_expr (pe_bm PySem.F.plainAttrs_list PySem.F.slot_list_append PySem.F.type_list_append mt_append (pe_dsetdN (u65 hr) (pv 1) (ae_var 3 (pv 3)) (pe_lstN pa_nil) ⟨by rfl, by rfl, by rfl, by rfl⟩) (pa_cons (pv 2) pa_nil))))))
      (as_one (as_ret (ae_blt dc_tuple (pe_callTy call_tupleF (by rfl) m_tuple (by decide +kernel) (la_cons (ao_V (ae_F (af_lc 0 (own := [("group", 4)]) (by rfl) scA_groups.nd (ai_valsL 1 (pi_valsN (pv 1))) (blkOk_by (own := [("group", 4)]) (N := ["table", "members", "taster", "ranking", "group"]) (sc := defScope s_groups) (by decide +kernel)) (fun _ _ _ _ _ => (ag_name (pg_name (i := 4) scA_groups.nd rfl (Or.inl rfl)))) (fun _ _ _ _ _ => ts_nil) (fun _ _ _ _ _ => (ae_blt dc_tuple (pe_callTy call_tupleF (by rfl) m_tuple (by decide +kernel) (la_cons (ao_var 4 (pv 4)) la_nil))))))) la_nil)))))))

theorem scA_is_dish_number : FnScope ["dishes", "value"] ["dishes", "value"] (defScope s_is_dish_number) := ⟨rfl, rfl, rfl, by decide +kernel, rfl, by decide +kernel, by decide +kernel⟩
def b_is_dish_number (P_is_within : AF) : AST := (sRet (aCall0 [.dat, .dat, .dat] (calm P_is_within) (lCons (oV (aVar 1)) (lCons (oV (aC (.int 0))) (lCons (oV (a2 vSub (oVar 0) (oV (aC (.int 1))))) lNil)))))
def F_is_dish_number : AF := fnF [.dat, .dat] 0 (b_is_dish_number F_is_within)
theorem okA_is_dish_number {P : Program} {w : World} {K : PySem.W.Frag} {mg : Str → Option Value} {base : Heap} {f f_is_within : Addr} {fd d_is_within : FuncData} {m : Nat} (F : Fun K "is_dish_number" "is_dish_number" s_is_dish_number f fd)
    (k_is_within : PySem.W.keepIn K (.ref f_is_within) = true) (b_is_within : Binds K d_is_within ["value", "low", "high"] []) (g_is_within : mg "is_within" = some (.ref f_is_within)) (G_is_within : FnOk P w K mg base CX0 m f_is_within d_is_within ["value", "low", "high"] (spA [.dat, .dat, .dat] F_is_within))
     : FnOk P w K mg base CX0 (m + 1) f fd ["dishes", "value"] (spA [.dat, .dat] F_is_dish_number) :=
  fn_ok F scA_is_dish_number rfl rfl fun cdv A outer s H E hr =>
    (as_one (as_ret (ae_call0 G_is_within (by decide) hr (by rfl) g_is_within k_is_within b_is_within (la_cons (ao_V (ae_var 1 (pv 1))) (la_cons (ao_V ae_int) (la_cons (ao_V (ae_op dop_sub op_subA (ao_var 0 (pv 0)) (ao_V ae_int))) la_nil))))))

theorem scA_check_two_dishes : FnScope ["dishes", "one", "other"] ["dishes", "one", "other"] (defScope s_check_two_dishes) := ⟨rfl, rfl, rfl, by decide +kernel, rfl, by decide +kernel, by decide +kernel⟩
def b_check_two_dishes (P_is_dish_number : AF) : AST := (sSeq (sIf (tNotA (tTruA (oV (aCall0 [.dat, .dat] (calm P_is_dish_number) (lCons (oV (aVar 0)) (lCons (oV (aVar 1)) lNil))))))
    sNever
    sNx)
    (sIf (tOrA (tNotA (tTruA (oV (aCall0 [.dat, .dat] (calm P_is_dish_number) (lCons (oV (aVar 0)) (lCons (oV (aVar 2)) lNil)))))) (tV (a2 vEq (oVar 1) (oVar 2))))
    sNever
    sNx))
def F_check_two_dishes : AF := fnF [.dat, .dat, .dat] 0 (b_check_two_dishes F_is_dish_number)
theorem okA_check_two_dishes {P : Program} {w : World} {K : PySem.W.Frag} {mg : Str → Option Value} {base : Heap} {f f_is_dish_number : Addr} {fd d_is_dish_number : FuncData} {m : Nat} (F : Fun K "check_two_dishes" "check_two_dishes" s_check_two_dishes f fd)
    (k_is_dish_number : PySem.W.keepIn K (.ref f_is_dish_number) = true) (b_is_dish_number : Binds K d_is_dish_number ["dishes", "value"] []) (g_is_dish_number : mg "is_dish_number" = some (.ref f_is_dish_number)) (G_is_dish_number : FnOk P w K mg base CX0 m f_is_dish_number d_is_dish_number ["dishes", "value"] (spA [.dat, .dat] F_is_dish_number))
     : FnOk P w K mg base CX0 (m + 1) f fd ["dishes", "one", "other"] (spA [.dat, .dat, .dat] F_check_two_dishes) :=
  fn_ok F scA_check_two_dishes rfl rfl fun cdv A outer s H E hr =>
    (as_cons (as_if (at_not (at_tru (ao_V (ae_call0 G_is_dish_number (by decide) hr (by rfl) g_is_dish_number k_is_dish_number b_is_dish_number (la_cons (ao_V (ae_var 0 (pv 0))) (la_cons (ao_V (ae_var 1 (pv 1))) la_nil)))))) (as_one as_never) as_nil)
      (as_one (as_if (PW.pt (aw_or (at_not (at_tru (ao_V (ae_call0 G_is_dish_number (by decide) hr (by rfl) g_is_dish_number k_is_dish_number b_is_dish_number (la_cons (ao_V (ae_var 0 (pv 0))) (la_cons (ao_V (ae_var 2 (pv 2))) la_nil)))))) (aw_or1 (cmp_test dop_eq (op_eqA hr.units) (ao_var 1 (pv 1)) (ao_var 2 (pv 2)) (nomark _))))) (as_one as_never) as_nil)))

theorem scA_sides : FnScope ["table", "pair", "low", "high", "ranking"] ["table", "pair"] (defScope s_sides) := ⟨rfl, rfl, rfl, by decide +kernel, rfl, by decide +kernel, by decide +kernel⟩
def b_sides (P_rankings_of : AF) (P_prefers : AF) : AST := (sSeq (sAsg (aVar 1) (bTup 2 (bCons (bNm 2) (bCons (bNm 3) bNil))))
    (sRet (aLc (iSeq (oV (aCall0 [.dat] (calm P_rankings_of) (lCons (oV (aVar 0)) lNil)))) (bNm 4) tYesA (aCall0 [.dat, .dat, .dat] (calm P_prefers) (lCons (oV (aVar 4)) (lCons (oV (aVar 2)) (lCons (oV (aVar 3)) lNil)))) [4])))
def F_sides : AF := fnF [.dat, .dat] 3 (b_sides F_rankings_of F_prefers)
theorem okA_sides {P : Program} {w : World} {K : PySem.W.Frag} {mg : Str → Option Value} {base : Heap} {f f_rankings_of f_prefers : Addr} {fd d_rankings_of d_prefers : FuncData} {m : Nat} (F : Fun K "sides" "sides" s_sides f fd)
    (k_rankings_of : PySem.W.keepIn K (.ref f_rankings_of) = true) (b_rankings_of : Binds K d_rankings_of ["table"] []) (g_rankings_of : mg "rankings_of" = some (.ref f_rankings_of)) (G_rankings_of : FnOk P w K mg base CX0 m f_rankings_of d_rankings_of ["table"] (spA [.dat] F_rankings_of))
    (k_prefers : PySem.W.keepIn K (.ref f_prefers) = true) (b_prefers : Binds K d_prefers ["ranking", "one", "other"] []) (g_prefers : mg "prefers" = some (.ref f_prefers)) (G_prefers : FnOk P w K mg base CX0 m f_prefers d_prefers ["ranking", "one", "other"] (spA [.dat, .dat, .dat] F_prefers))
     : FnOk P w K mg base CX0 (m + 1) f fd ["table", "pair"] (spA [.dat, .dat] F_sides) :=
  fn_ok F scA_sides rfl rfl fun cdv A outer s H E hr =>
    (as_cons (as_asg (ae_var 1 (pv 1)) (ag_tup (by rfl) (ags_cons (ag_name (pg_name (i := 2) scA_sides.nd rfl (.inr rfl))) (ags_cons (ag_name (pg_name (i := 3) scA_sides.nd rfl (.inr rfl))) ags_nil))))
      (as_one (as_ret (ae_F (af_lc 0 (own := [("ranking", 4)]) (by rfl) scA_sides.nd (ai_seq (ao_V (ae_call0 G_rankings_of (by decide) hr (by rfl) g_rankings_of k_rankings_of b_rankings_of (la_cons (ao_V (ae_var 0 (pv 0))) la_nil)))) (blkOk_by (own := [("ranking", 4)]) (N := ["table", "pair", "low", "high", "ranking"]) (sc := defScope s_sides) (by decide +kernel)) (fun _ _ _ _ _ => (ag_name (pg_name (i := 4) scA_sides.nd rfl (Or.inl rfl)))) (fun _ _ _ _ _ => ts_nil) (fun _ _ _ _ _ => (ae_call0 G_prefers (by decide) hr (by rfl) g_prefers k_prefers b_prefers (la_cons (ao_V (ae_var 4 (pv 4))) (la_cons (ao_V (ae_var 2 (pv 2))) (la_cons (ao_V (ae_var 3 (pv 3))) la_nil))))))))))

theorem scA_changes_once : FnScope ["table", "row", "pair", "marks", "along", "taster", "at"] ["table", "row", "pair"] (defScope s_changes_once) := ⟨rfl, rfl, rfl, by decide +kernel, rfl, by decide +kernel, by decide +kernel⟩
def b_changes_once (P_sides : AF) : AST := (sSeq (sSet 3 (aCall0 [.dat, .dat] (calm P_sides) (lCons (oV (aVar 0)) (lCons (oV (aVar 2)) lNil))))
    (sSeq (sSet 4 (aLc (iSeq (oVar 1)) (bNm 5) tYesA (a2 vIx (oVar 3) (oVar 5)) [5]))
    (sRet (a2 vLe (oV (aBlt fLen (lCons (oV (aLc (iRange2 (lCons (oV (aC (.int 1))) (lCons (oV (aBlt fLen (lCons (oVar 4) lNil))) lNil))) (bNm 6) (tV (a2 vNe (oV (a2 vIx (oVar 4) (oV (a2 vSub (oVar 6) (oV (aC (.int 1))))))) (oV (a2 vIx (oVar 4) (oVar 6))))) (aVar 6) [6])) lNil))) (oV (aC (.int 1)))))))
def F_changes_once : AF := fnF [.dat, .dat, .dat] 4 (b_changes_once F_sides)
theorem okA_changes_once {P : Program} {w : World} {K : PySem.W.Frag} {mg : Str → Option Value} {base : Heap} {f f_sides : Addr} {fd d_sides : FuncData} {m : Nat} (F : Fun K "changes_once" "changes_once" s_changes_once f fd)
    (k_sides : PySem.W.keepIn K (.ref f_sides) = true) (b_sides : Binds K d_sides ["table", "pair"] []) (g_sides : mg "sides" = some (.ref f_sides)) (G_sides : FnOk P w K mg base CX0 m f_sides d_sides ["table", "pair"] (spA [.dat, .dat] F_sides))
    (m_len : mg "len" = none) (m_range : mg "range" = none) : FnOk P w K mg base CX0 (m + 1) f fd ["table", "row", "pair"] (spA [.dat, .dat, .dat] F_changes_once) :=
  fn_ok F scA_changes_once rfl rfl fun cdv A outer s H E hr =>
    (as_cons (as_set (i := 3) scA_changes_once.nd rfl (.inr rfl) (ae_call0 G_sides (by decide) hr (by rfl) g_sides k_sides b_sides (la_cons (ao_V (ae_var 0 (pv 0))) (la_cons (ao_V (ae_var 2 (pv 2))) la_nil))))
      (as_cons (as_set (i := 4) scA_changes_once.nd rfl (.inr rfl) (ae_F (af_lc 0 (own := [("taster", 5)]) (by rfl) scA_changes_once.nd (ai_seq (ao_var 1 (pv 1))) (blkOk_by (own := [("taster", 5)]) (N := ["table", "row", "pair", "marks", "along", "taster", "at"]) (sc := defScope s_changes_once) (by decide +kernel)) (fun _ _ _ _ _ => (ag_name (pg_name (i := 5) scA_changes_once.nd rfl (Or.inl rfl)))) (fun _ _ _ _ _ => ts_nil) (fun _ _ _ _ _ => (ae_ix (ao_var 3 (pv 3)) (ao_var 5 (pv 5)) (fun _ _ => rfl))))))
      (as_one (as_ret (ae_cmp dop_le (op_leA hr.units) (ao_V (ae_blt dc_len (pe_callB call_len (by rfl) m_len PySem.boot_len (la_cons (ao_V (ae_F (af_lc 0 (own := [("at", 6)]) (by rfl) scA_changes_once.nd (ai_range2 (by rfl) m_range (la_cons (ao_V ae_int) (la_cons (ao_V (ae_blt dc_len (pe_callB call_len (by rfl) m_len PySem.boot_len (la_cons (ao_var 4 (pv 4)) la_nil)))) la_nil))) (blkOk_by (own := [("at", 6)]) (N := ["table", "row", "pair", "marks", "along", "taster", "at"]) (sc := defScope s_changes_once) (by decide +kernel)) (fun _ _ _ _ _ => (ag_name (pg_name (i := 6) scA_changes_once.nd rfl (Or.inl rfl)))) (fun _ _ _ _ _ => (ts_one (cmp_test dop_ne (op_neA hr.units) (ao_V (ae_ix (ao_var 4 (pv 4)) (ao_V (ae_op dop_sub op_subA (ao_var 6 (pv 6)) (ao_V ae_int))) (fun _ _ => rfl))) (ao_V (ae_ix (ao_var 4 (pv 4)) (ao_var 6 (pv 6)) (fun _ _ => rfl))) (nomark _)))) (fun _ _ _ _ _ => (ae_var 6 (pv 6)))))) la_nil)))) (ao_V ae_int) (nomark _))))))

theorem scA_is_seating : FnScope ["table", "value", "dishes", "tasters", "pair"] ["table", "value"] (defScope s_is_seating) := ⟨rfl, rfl, rfl, by decide +kernel, rfl, by decide +kernel, by decide +kernel⟩
def b_is_seating (P_is_order : AF) (P_all_pairs : AF) (P_changes_once : AF) : AST := (sSeq (sAsg (aVar 0) (bTup 2 (bCons (bNm 2) (bCons (bNm 3) bNil))))
    (sSeq (sIf (tNotA (tTruA (oV (aCall0 [.dat, .dat] (calm P_is_order) (lCons (oV (aBlt fLen (lCons (oVar 3) lNil))) (lCons (oV (aVar 1)) lNil))))))
    (sRet (aC (.bool false)))
    sNx)
    (sRet (aBlt fAll (lCons (oV (aLc (iSeq (oV (aCall0 [.dat] (calm P_all_pairs) (lCons (oV (aVar 2)) lNil)))) (bNm 4) tYesA (aCall0 [.dat, .dat, .dat] (calm P_changes_once) (lCons (oV (aVar 0)) (lCons (oV (aVar 1)) (lCons (oV (aVar 4)) lNil)))) [4])) lNil)))))
def F_is_seating : AF := fnF [.dat, .dat] 3 (b_is_seating F_is_order F_all_pairs F_changes_once)
theorem okA_is_seating {P : Program} {w : World} {K : PySem.W.Frag} {mg : Str → Option Value} {base : Heap} {f f_is_order f_all_pairs f_changes_once : Addr} {fd d_is_order d_all_pairs d_changes_once : FuncData} {m : Nat} (F : Fun K "is_seating" "is_seating" s_is_seating f fd)
    (k_is_order : PySem.W.keepIn K (.ref f_is_order) = true) (b_is_order : Binds K d_is_order ["size", "value"] []) (g_is_order : mg "is_order" = some (.ref f_is_order)) (G_is_order : FnOk P w K mg base CX0 m f_is_order d_is_order ["size", "value"] (spA [.dat, .dat] F_is_order))
    (k_all_pairs : PySem.W.keepIn K (.ref f_all_pairs) = true) (b_all_pairs : Binds K d_all_pairs ["dishes"] []) (g_all_pairs : mg "all_pairs" = some (.ref f_all_pairs)) (G_all_pairs : FnOk P w K mg base CX0 m f_all_pairs d_all_pairs ["dishes"] (spA [.dat] F_all_pairs))
    (k_changes_once : PySem.W.keepIn K (.ref f_changes_once) = true) (b_changes_once : Binds K d_changes_once ["table", "row", "pair"] []) (g_changes_once : mg "changes_once" = some (.ref f_changes_once)) (G_changes_once : FnOk P w K mg base CX0 m f_changes_once d_changes_once ["table", "row", "pair"] (spA [.dat, .dat, .dat] F_changes_once))
    (m_len : mg "len" = none) (m_all : mg "all" = none) : FnOk P w K mg base CX0 (m + 1) f fd ["table", "value"] (spA [.dat, .dat] F_is_seating) :=
  fn_ok F scA_is_seating rfl rfl fun cdv A outer s H E hr =>
    (as_cons (as_asg (ae_var 0 (pv 0)) (ag_tup (by rfl) (ags_cons (ag_name (pg_name (i := 2) scA_is_seating.nd rfl (.inl rfl))) (ags_cons (ag_name (pg_name (i := 3) scA_is_seating.nd rfl (.inl rfl))) ags_nil))))
      (as_cons (as_if (at_not (at_tru (ao_V (ae_call0 G_is_order (by decide) hr (by rfl) g_is_order k_is_order b_is_order (la_cons (ao_V (ae_blt dc_len (pe_callB call_len (by rfl) m_len PySem.boot_len (la_cons (ao_var 3 (pv 3)) la_nil)))) (la_cons (ao_V (ae_var 1 (pv 1))) la_nil)))))) (as_one (as_ret ae_bl)) as_nil)
      (as_one (as_ret (ae_blt dc_all (pe_callB (cr_all (by rfl)) (by rfl) m_all (by decide +kernel) (la_cons (ao_V (ae_F (af_lc 0 (own := [("pair", 4)]) (by rfl) scA_is_seating.nd (ai_seq (ao_V (ae_call0 G_all_pairs (by decide) hr (by rfl) g_all_pairs k_all_pairs b_all_pairs (la_cons (ao_V (ae_var 2 (pv 2))) la_nil)))) (blkOk_by (own := [("pair", 4)]) (N := ["table", "value", "dishes", "tasters", "pair"]) (sc := defScope s_is_seating) (by decide +kernel)) (fun _ _ _ _ _ => (ag_name (pg_name (i := 4) scA_is_seating.nd rfl (Or.inl rfl)))) (fun _ _ _ _ _ => ts_nil) (fun _ _ _ _ _ => (ae_call0 G_changes_once (by decide) hr (by rfl) g_changes_once k_changes_once b_changes_once (la_cons (ao_V (ae_var 0 (pv 0))) (la_cons (ao_V (ae_var 1 (pv 1))) (la_cons (ao_V (ae_var 4 (pv 4))) la_nil)))))))) la_nil)))))))

theorem scA_row_from : FnScope ["table", "start", "rankings", "far", "taster", "ranking", "steps"] ["table", "start"] (defScope s_row_from) := ⟨rfl, rfl, rfl, by decide +kernel, rfl, by decide +kernel, by decide +kernel⟩
def b_row_from (P_rankings_of : AF) (P_distance : AF) : AST := (sSeq (sSet 2 (aCall0 [.dat] (calm P_rankings_of) (lCons (oV (aVar 0)) lNil)))
    (sSeq (sSet 3 (aLc (iEnT (aVar 2)) (bTup 2 (bCons (bNm 4) (bCons (bNm 5) bNil))) tYesA (aTup (lCons (oV (aCall0 [.dat, .dat] (calm P_distance) (lCons (oV (a2 vIx (oVar 2) (oVar 1))) (lCons (oV (aVar 5)) lNil)))) (lCons (oV (aVar 4)) lNil))) [4, 5]))
    (sRet (aBlt fTuple (lCons (oV (aLc (iSeq (oV (aBlt fSorted (lCons (oVar 3) lNil)))) (bTup 2 (bCons (bNm 6) (bCons (bNm 4) bNil))) tYesA (aVar 4) [6, 4])) lNil)))))
def F_row_from : AF := fnF [.dat, .dat] 5 (b_row_from F_rankings_of F_distance)
theorem okA_row_from {P : Program} {w : World} {K : PySem.W.Frag} {mg : Str → Option Value} {base : Heap} {f f_rankings_of f_distance : Addr} {fd d_rankings_of d_distance : FuncData} {m : Nat} (F : Fun K "row_from" "row_from" s_row_from f fd)
    (k_rankings_of : PySem.W.keepIn K (.ref f_rankings_of) = true) (b_rankings_of : Binds K d_rankings_of ["table"] []) (g_rankings_of : mg "rankings_of" = some (.ref f_rankings_of)) (G_rankings_of : FnOk P w K mg base CX0 m f_rankings_of d_rankings_of ["table"] (spA [.dat] F_rankings_of))
    (k_distance : PySem.W.keepIn K (.ref f_distance) = true) (b_distance : Binds K d_distance ["one", "other"] []) (g_distance : mg "distance" = some (.ref f_distance)) (G_distance : FnOk P w K mg base CX0 m f_distance d_distance ["one", "other"] (spA [.dat, .dat] F_distance))
    (m_enumerate : mg "enumerate" = none) (m_tuple : mg "tuple" = none) (m_sorted : mg "sorted" = none) : FnOk P w K mg base CX0 (m + 1) f fd ["table", "start"] (spA [.dat, .dat] F_row_from) :=
  fn_ok F scA_row_from rfl rfl fun cdv A outer s H E hr =>
    (as_cons (as_set (i := 2) scA_row_from.nd rfl (.inr rfl) (ae_call0 G_rankings_of (by decide) hr (by rfl) g_rankings_of k_rankings_of b_rankings_of (la_cons (ao_V (ae_var 0 (pv 0))) la_nil)))
      (as_cons (as_setLc 3 rfl rfl (sw_true rfl rfl rfl (by decide +kernel)) (own := [("taster", 4), ("ranking", 5)]) (by rfl) scA_row_from.nd (ai_enT (by rfl) m_enumerate (ae_var 2 (pv 2))) (blkOk_by (own := [("taster", 4), ("ranking", 5)]) (N := ["table", "start", "rankings", "far", "taster", "ranking", "steps"]) (sc := defScope s_row_from) (by decide +kernel)) (fun _ _ _ _ _ => (ag_tup (by rfl) (ags_cons (ag_name (pg_name (i := 4) scA_row_from.nd rfl (Or.inl rfl))) (ags_cons (ag_name (pg_name (i := 5) scA_row_from.nd rfl (Or.inl rfl))) ags_nil)))) (fun _ _ _ _ _ => ts_nil) (fun _ _ _ _ _ => (ae_tup (la_cons (ao_V (ae_call0 G_distance (by decide) hr (by rfl) g_distance k_distance b_distance (la_cons (ao_V (ae_ix (ao_var 2 (pv 2)) (ao_var 1 (pv 1)) (fun _ _ => rfl))) (la_cons (ao_V (ae_var 5 (pv 5))) la_nil)))) (la_cons (ao_V (ae_var 4 (pv 4))) la_nil)))))
      (as_one (as_ret (ae_blt dc_tuple (pe_callTy call_tupleF (by rfl) m_tuple (by decide +kernel) (la_cons (ao_V (ae_F (af_lc 0 (own := [("steps", 6), ("taster", 4)]) (by rfl) scA_row_from.nd (ai_seq (ao_V (ae_F (af_blt 0 dc_sorted (pe_callB (cr_sortedA (u65 hr)) (by rfl) m_sorted (by decide +kernel) (la_cons (ao_var 3 (pv 3)) la_nil)))))) (blkOk_by (own := [("steps", 6), ("taster", 4)]) (N := ["table", "start", "rankings", "far", "taster", "ranking", "steps"]) (sc := defScope s_row_from) (by decide +kernel)) (fun _ _ _ _ _ => (ag_tup (by rfl) (ags_cons (ag_name (pg_name (i := 6) scA_row_from.nd rfl (Or.inl rfl))) (ags_cons (ag_name (pg_name (i := 4) scA_row_from.nd rfl (Or.inl rfl))) ags_nil)))) (fun _ _ _ _ _ => ts_nil) (fun _ _ _ _ _ => (ae_var 4 (pv 4)))))) la_nil)))))))

theorem scA_find_seating : FnScope ["table", "row", "seating"] ["table"] (defScope s_find_seating) := ⟨rfl, rfl, rfl, by decide +kernel, rfl, by decide +kernel, by decide +kernel⟩
def b_find_seating (P_row_from : AF) (P_is_seating : AF) : AST := (sSeq (sSet 1 (aCall0 [.dat, .dat] (calm P_row_from) (lCons (oV (aVar 0)) (lCons (oV (a2 vIx (oV (aCall0 [.dat, .dat] (calm P_row_from) (lCons (oV (aVar 0)) (lCons (oV (aC (.int 0))) lNil)))) (oV (aNeg (oV (aC (.int 1))))))) lNil))))
    (sSeq (sSet 2 (aBlt fMin2B (lCons (oVar 1) (lCons (oV (aCall0 [.dat, .dat] (calm P_row_from) (lCons (oV (aVar 0)) (lCons (oV (a2 vIx (oVar 1) (oV (aNeg (oV (aC (.int 1))))))) lNil)))) lNil))))
    (sRet (aIfE (tTruA (oV (aCall0 [.dat, .dat] (calm P_is_seating) (lCons (oV (aVar 0)) (lCons (oV (aVar 2)) lNil))))) (aVar 2) (aC .none)))))
def F_find_seating : AF := fnF [.dat] 2 (b_find_seating F_row_from F_is_seating)
theorem okA_find_seating {P : Program} {w : World} {K : PySem.W.Frag} {mg : Str → Option Value} {base : Heap} {f f_row_from f_is_seating : Addr} {fd d_row_from d_is_seating : FuncData} {m : Nat} (F : Fun K "find_seating" "find_seating" s_find_seating f fd)
    (k_row_from : PySem.W.keepIn K (.ref f_row_from) = true) (b_row_from : Binds K d_row_from ["table", "start"] []) (g_row_from : mg "row_from" = some (.ref f_row_from)) (G_row_from : FnOk P w K mg base CX0 m f_row_from d_row_from ["table", "start"] (spA [.dat, .dat] F_row_from))
    (k_is_seating : PySem.W.keepIn K (.ref f_is_seating) = true) (b_is_seating : Binds K d_is_seating ["table", "value"] []) (g_is_seating : mg "is_seating" = some (.ref f_is_seating)) (G_is_seating : FnOk P w K mg base CX0 m f_is_seating d_is_seating ["table", "value"] (spA [.dat, .dat] F_is_seating))
    (m_min : mg "min" = none) : FnOk P w K mg base CX0 (m + 1) f fd ["table"] (spA [.dat] F_find_seating) :=
  fn_ok F scA_find_seating rfl rfl fun cdv A outer s H E hr =>
    (as_cons (as_set (i := 1) scA_find_seating.nd rfl (.inl rfl) (ae_call0 G_row_from (by decide) hr (by rfl) g_row_from k_row_from b_row_from (la_cons (ao_V (ae_var 0 (pv 0))) (la_cons (ao_V (ae_ix (ao_V (ae_call0 G_row_from (by decide) hr (by rfl) g_row_from k_row_from b_row_from (la_cons (ao_V (ae_var 0 (pv 0))) (la_cons (ao_V ae_int) la_nil)))) (ao_V (ae_neg (ao_V ae_int))) (fun _ _ => rfl))) la_nil))))
      (as_cons (as_set (i := 2) scA_find_seating.nd rfl (.inl rfl) (ae_blt dc_min2B (pe_callB (cr_min2B (by rfl) (u65 hr)) (by rfl) m_min (by decide +kernel) (la_cons (ao_var 1 (pv 1)) (la_cons (ao_V (ae_call0 G_row_from (by decide) hr (by rfl) g_row_from k_row_from b_row_from (la_cons (ao_V (ae_var 0 (pv 0))) (la_cons (ao_V (ae_ix (ao_var 1 (pv 1)) (ao_V (ae_neg (ao_V ae_int))) (fun _ _ => rfl))) la_nil)))) la_nil)))))
      (as_one (as_ret (ae_if (at_tru (ao_V (ae_call0 G_is_seating (by decide) hr (by rfl) g_is_seating k_is_seating b_is_seating (la_cons (ao_V (ae_var 0 (pv 0))) (la_cons (ao_V (ae_var 2 (pv 2))) la_nil))))) (ae_var 2 (pv 2)) ae_non)))))

theorem scA_views_of : FnScope ["table", "pair"] ["table"] (defScope s_views_of) := ⟨rfl, rfl, rfl, by decide +kernel, rfl, by decide +kernel, by decide +kernel⟩
def b_views_of (P_all_pairs : AF) (P_sides : AF) : AST := (sRet (aLc (iSeq (oV (aCall0 [.dat] (calm P_all_pairs) (lCons (oV (a2 vIx (oVar 0) (oV (aC (.int 0))))) lNil)))) (bNm 1) tYesA (aTup (lCons (oV (aVar 1)) (lCons (oV (aCall0 [.dat, .dat] (calm P_sides) (lCons (oV (aVar 0)) (lCons (oV (aVar 1)) lNil)))) lNil))) [1]))
def F_views_of : AF := fnF [.dat] 1 (b_views_of F_all_pairs F_sides)
theorem okA_views_of {P : Program} {w : World} {K : PySem.W.Frag} {mg : Str → Option Value} {base : Heap} {f f_all_pairs f_sides : Addr} {fd d_all_pairs d_sides : FuncData} {m : Nat} (F : Fun K "views_of" "views_of" s_views_of f fd)
    (k_all_pairs : PySem.W.keepIn K (.ref f_all_pairs) = true) (b_all_pairs : Binds K d_all_pairs ["dishes"] []) (g_all_pairs : mg "all_pairs" = some (.ref f_all_pairs)) (G_all_pairs : FnOk P w K mg base CX0 m f_all_pairs d_all_pairs ["dishes"] (spA [.dat] F_all_pairs))
    (k_sides : PySem.W.keepIn K (.ref f_sides) = true) (b_sides : Binds K d_sides ["table", "pair"] []) (g_sides : mg "sides" = some (.ref f_sides)) (G_sides : FnOk P w K mg base CX0 m f_sides d_sides ["table", "pair"] (spA [.dat, .dat] F_sides))
     : FnOk P w K mg base CX0 (m + 1) f fd ["table"] (spA [.dat] F_views_of) :=
  fn_ok F scA_views_of rfl rfl fun cdv A outer s H E hr =>
    (as_one (as_ret (ae_F (af_lc 0 (own := [("pair", 1)]) (by rfl) scA_views_of.nd (ai_seq (ao_V (ae_call0 G_all_pairs (by decide) hr (by rfl) g_all_pairs k_all_pairs b_all_pairs (la_cons (ao_V (ae_ix (ao_var 0 (pv 0)) (ao_V ae_int) (fun _ _ => rfl))) la_nil)))) (blkOk_by (own := [("pair", 1)]) (N := ["table", "pair"]) (sc := defScope s_views_of) (by decide +kernel)) (fun _ _ _ _ _ => (ag_name (pg_name (i := 1) scA_views_of.nd rfl (Or.inl rfl)))) (fun _ _ _ _ _ => ts_nil) (fun _ _ _ _ _ => (ae_tup (la_cons (ao_V (ae_var 1 (pv 1))) (la_cons (ao_V (ae_call0 G_sides (by decide) hr (by rfl) g_sides k_sides b_sides (la_cons (ao_V (ae_var 0 (pv 0))) (la_cons (ao_V (ae_var 1 (pv 1))) la_nil)))) la_nil))))))))

def F_find_triple : AF := fun _ _ _ _ => False
theorem okA_find_triple {P : Program} {w : World} {K : PySem.W.Frag} {mg : Str → Option Value} {base : Heap} {f : Addr} {fd : FuncData} {m : Nat} (F : Fun K "find_triple" "find_triple" s_find_triple f fd) : FnOk P w K mg base CX0 (m + 1) f fd ["views", "tasters"] (spA [.dat, .dat] F_find_triple) := fn_never

def F_find_quadruple : AF := fun _ _ _ _ => False
theorem okA_find_quadruple {P : Program} {w : World} {K : PySem.W.Frag} {mg : Str → Option Value} {base : Heap} {f : Addr} {fd : FuncData} {m : Nat} (F : Fun K "find_quadruple" "find_quadruple" s_find_quadruple f fd) : FnOk P w K mg base CX0 (m + 1) f fd ["views", "tasters"] (spA [.dat, .dat] F_find_quadruple) := fn_never

theorem scA_find_conflict : FnScope ["views", "tasters"] ["views", "tasters"] (defScope s_find_conflict) := ⟨rfl, rfl, rfl, by decide +kernel, rfl, by decide +kernel, by decide +kernel⟩
def b_find_conflict (P_find_triple : AF) (P_find_quadruple : AF) : AST := (sRet (aIfE (tV (a2 vEq (oV (aBlt fLen (lCons (oVar 1) lNil))) (oV (aC (.int 3))))) (aCall0 [.dat, .dat] (calm P_find_triple) (lCons (oV (aVar 0)) (lCons (oV (aVar 1)) lNil))) (aCall0 [.dat, .dat] (calm P_find_quadruple) (lCons (oV (aVar 0)) (lCons (oV (aVar 1)) lNil)))))
def F_find_conflict : AF := fnF [.dat, .dat] 0 (b_find_conflict F_find_triple F_find_quadruple)
theorem okA_find_conflict {P : Program} {w : World} {K : PySem.W.Frag} {mg : Str → Option Value} {base : Heap} {f f_find_triple f_find_quadruple : Addr} {fd d_find_triple d_find_quadruple : FuncData} {m : Nat} (F : Fun K "find_conflict" "find_conflict" s_find_conflict f fd)
    (k_find_triple : PySem.W.keepIn K (.ref f_find_triple) = true) (b_find_triple : Binds K d_find_triple ["views", "tasters"] []) (g_find_triple : mg "find_triple" = some (.ref f_find_triple)) (G_find_triple : FnOk P w K mg base CX0 m f_find_triple d_find_triple ["views", "tasters"] (spA [.dat, .dat] F_find_triple))
    (k_find_quadruple : PySem.W.keepIn K (.ref f_find_quadruple) = true) (b_find_quadruple : Binds K d_find_quadruple ["views", "tasters"] []) (g_find_quadruple : mg "find_quadruple" = some (.ref f_find_quadruple)) (G_find_quadruple : FnOk P w K mg base CX0 m f_find_quadruple d_find_quadruple ["views", "tasters"] (spA [.dat, .dat] F_find_quadruple))
    (m_len : mg "len" = none) : FnOk P w K mg base CX0 (m + 1) f fd ["views", "tasters"] (spA [.dat, .dat] F_find_conflict) :=
  fn_ok F scA_find_conflict rfl rfl fun cdv A outer s H E hr =>
    (as_one (as_ret (ae_if (cmp_test dop_eq (op_eqA hr.units) (ao_V (ae_blt dc_len (pe_callB call_len (by rfl) m_len PySem.boot_len (la_cons (ao_var 1 (pv 1)) la_nil)))) (ao_V ae_int) (nomark _)) (ae_call0 G_find_triple (by decide) hr (by rfl) g_find_triple k_find_triple b_find_triple (la_cons (ao_V (ae_var 0 (pv 0))) (la_cons (ao_V (ae_var 1 (pv 1))) la_nil))) (ae_call0 G_find_quadruple (by decide) hr (by rfl) g_find_quadruple k_find_quadruple b_find_quadruple (la_cons (ao_V (ae_var 0 (pv 0))) (la_cons (ao_V (ae_var 1 (pv 1))) la_nil))))))

theorem scA_possible_conflicts : FnScope ["table", "size"] ["table"] (defScope s_possible_conflicts) := ⟨rfl, rfl, rfl, by decide +kernel, rfl, by decide +kernel, by decide +kernel⟩
def b_possible_conflicts (P_ascending_tuples : AF) : AST := (sSeq (sSet 1 (aBlt fLen (lCons (oV (a2 vIx (oVar 0) (oV (aC (.int 1))))) lNil)))
    (sRet (a2 vAdd (oV (aCall0 [.dat, .dat] (calm P_ascending_tuples) (lCons (oV (aVar 1)) (lCons (oV (aC (.int 3))) lNil)))) (oV (aCall0 [.dat, .dat] (calm P_ascending_tuples) (lCons (oV (aVar 1)) (lCons (oV (aC (.int 4))) lNil)))))))
def F_possible_conflicts : AF := fnF [.dat] 1 (b_possible_conflicts F_ascending_tuples)
theorem okA_possible_conflicts {P : Program} {w : World} {K : PySem.W.Frag} {mg : Str → Option Value} {base : Heap} {f f_ascending_tuples : Addr} {fd d_ascending_tuples : FuncData} {m : Nat} (F : Fun K "possible_conflicts" "possible_conflicts" s_possible_conflicts f fd)
    (k_ascending_tuples : PySem.W.keepIn K (.ref f_ascending_tuples) = true) (b_ascending_tuples : Binds K d_ascending_tuples ["size", "length"] []) (g_ascending_tuples : mg "ascending_tuples" = some (.ref f_ascending_tuples)) (G_ascending_tuples : FnOk P w K mg base CX0 m f_ascending_tuples d_ascending_tuples ["size", "length"] (spA [.dat, .dat] F_ascending_tuples))
    (m_len : mg "len" = none) : FnOk P w K mg base CX0 (m + 1) f fd ["table"] (spA [.dat] F_possible_conflicts) :=
  fn_ok F scA_possible_conflicts rfl rfl fun cdv A outer s H E hr =>
    (as_cons (as_set (i := 1) scA_possible_conflicts.nd rfl (.inl rfl) (ae_blt dc_len (pe_callB call_len (by rfl) m_len PySem.boot_len (la_cons (ao_V (ae_ix (ao_var 0 (pv 0)) (ao_V ae_int) (fun _ _ => rfl))) la_nil))))
      (as_one (as_ret (ae_op dop_add op_addA (ao_V (ae_call0 G_ascending_tuples (by decide) hr (by rfl) g_ascending_tuples k_ascending_tuples b_ascending_tuples (la_cons (ao_V (ae_var 1 (pv 1))) (la_cons (ao_V ae_int) la_nil)))) (ao_V (ae_call0 G_ascending_tuples (by decide) hr (by rfl) g_ascending_tuples k_ascending_tuples b_ascending_tuples (la_cons (ao_V (ae_var 1 (pv 1))) (la_cons (ao_V ae_int) la_nil))))))))

def F_find_obstruction : AF := fun _ _ _ _ => False
theorem okA_find_obstruction {P : Program} {w : World} {K : PySem.W.Frag} {mg : Str → Option Value} {base : Heap} {f : Addr} {fd : FuncData} {m : Nat} (F : Fun K "find_obstruction" "find_obstruction" s_find_obstruction f fd) : FnOk P w K mg base CX0 (m + 1) f fd ["table"] (spA [.dat] F_find_obstruction) := fn_never

theorem scA_first_seating : FnScope ["table", "seating"] ["table"] (defScope s_first_seating) := ⟨rfl, rfl, rfl, by decide +kernel, rfl, by decide +kernel, by decide +kernel⟩
def b_first_seating (P_find_seating : AF) : AST := (sSeq (sSet 1 (aCall0 [.dat] (calm P_find_seating) (lCons (oV (aVar 0)) lNil)))
    (sSeq (sIf (tV (a2 vIs (oVar 1) (oV (aC .none))))
    sNever
    sNx)
    (sRetV 1)))
def F_first_seating : AF := fnF [.dat] 1 (b_first_seating F_find_seating)
theorem okA_first_seating {P : Program} {w : World} {K : PySem.W.Frag} {mg : Str → Option Value} {base : Heap} {f f_find_seating : Addr} {fd d_find_seating : FuncData} {m : Nat} (F : Fun K "first_seating" "first_seating" s_first_seating f fd)
    (k_find_seating : PySem.W.keepIn K (.ref f_find_seating) = true) (b_find_seating : Binds K d_find_seating ["table"] []) (g_find_seating : mg "find_seating" = some (.ref f_find_seating)) (G_find_seating : FnOk P w K mg base CX0 m f_find_seating d_find_seating ["table"] (spA [.dat] F_find_seating))
     : FnOk P w K mg base CX0 (m + 1) f fd ["table"] (spA [.dat] F_first_seating) :=
  fn_ok F scA_first_seating rfl rfl fun cdv A outer s H E hr =>
    (as_cons (as_set (i := 1) scA_first_seating.nd rfl (.inl rfl) (ae_call0 G_find_seating (by decide) hr (by rfl) g_find_seating k_find_seating b_find_seating (la_cons (ao_V (ae_var 0 (pv 0))) la_nil)))
      (as_cons (as_if (cmp_test dop_is op_isA (ao_var 1 (pv 1)) (ao_V ae_non) (nomark _)) (as_one as_never) as_nil)
      (as_one (as_retV 1 (pv 1)))))

theorem scA_group_order : FnScope ["table", "seating"] ["table"] (defScope s_group_order) := ⟨rfl, rfl, rfl, by decide +kernel, rfl, by decide +kernel, by decide +kernel⟩
def b_group_order (P_first_seating : AF) (P_groups : AF) : AST := (sSeq (sSet 1 (aCall0 [.dat] (calm P_first_seating) (lCons (oV (aVar 0)) lNil)))
    (sRet (aBlt fTuple (lCons (oV (aSortK ["group", "seating"] [1] (aIdx (oVar 1) (lCons (oV (a2 vIx (oVar 0) (oV (aC (.int 0))))) lNil)) (aCall0 [.dat] (calm P_groups) (lCons (oV (aVar 0)) lNil)))) lNil))))
def F_group_order : AF := fnF [.dat] 1 (b_group_order F_first_seating F_groups)
theorem okA_group_order {P : Program} {w : World} {K : PySem.W.Frag} {mg : Str → Option Value} {base : Heap} {f f_first_seating f_groups : Addr} {fd d_first_seating d_groups : FuncData} {T : List (Addr × Str)} {ct_ Pt_ : Addr} {m : Nat} (F : Fun K "group_order" "group_order" s_group_order f fd)
    (k_first_seating : PySem.W.keepIn K (.ref f_first_seating) = true) (b_first_seating : Binds K d_first_seating ["table"] []) (g_first_seating : mg "first_seating" = some (.ref f_first_seating)) (G_first_seating : FnOk P w K mg base CX0 m f_first_seating d_first_seating ["table"] (spA [.dat] F_first_seating))
    (k_groups : PySem.W.keepIn K (.ref f_groups) = true) (b_groups : Binds K d_groups ["table"] []) (g_groups : mg "groups" = some (.ref f_groups)) (G_groups : FnOk P w K mg base CX0 m f_groups d_groups ["table"] (spA [.dat] F_groups))
    (TB : LamX.TabB base mg ct_ Pt_) (hfc : fd.code = .ref ct_) (hmT : (Pt_, ("group_order.<locals>.<lambda>" : Str)) ∈ T) (huT : ∀ p ∈ T, p.1 = Pt_ → p.2 = ("group_order.<locals>.<lambda>" : Str)) (h3 : 3 ≤ m)
    (m_tuple : mg "tuple" = none) (m_sorted : mg "sorted" = none) : FnOk P w K mg base CX0 (m + 1) f fd ["table"] (spAT T [.dat] F_group_order) :=
  fn_okC F hfc scA_group_order rfl rfl fun cdv hcd A outer s H E hr =>
    (as_cons (as_set (i := 1) scA_group_order.nd rfl (.inr rfl) (ae_call0 G_first_seating (by decide) hr (by rfl) g_first_seating k_first_seating b_first_seating (la_cons (ao_V (ae_var 0 (pv 0))) la_nil)))
      (as_one (as_ret (ae_blt dc_tuple (pe_callTy call_tupleF (by rfl) m_tuple (by decide +kernel) (la_cons (ao_V (ae_sortK (N := ["group", "seating"]) (fr := ["seating"]) (js := [1]) (pname := "group") TB hcd (by first | rfl | decide +kernel) hmT huT rfl (by rfl) m_sorted (by decide +kernel) (show NdefX.ndefB (defScope s_group_order) _ _ = true by decide +kernel) (NdefX.nscope_by (by decide +kernel)) rfl hr h3 (ae_call0 G_groups (by decide) hr (by rfl) g_groups k_groups b_groups (la_cons (ao_V (ae_var 0 (pv 0))) la_nil)) (fun f_ c_ A_ s_ H_ hr => (ae_idx (pe_bmT (r := rTupIdx K) PySem.F.slot_tuple_index PySem.F.type_tuple_index mt_tupIdx (ao_var 1 (pv 1)) (la_cons (ao_V (ae_ix (ao_var 0 (pv 0)) (ao_V ae_int) (fun _ _ => rfl))) la_nil)))))) la_nil))))))

theorem scA_support : FnScope ["table", "one", "other", "ranking", "weight"] ["table", "one", "other"] (defScope s_support) := ⟨rfl, rfl, rfl, by decide +kernel, rfl, by decide +kernel, by decide +kernel⟩
def b_support (P_check_two_dishes : AF) (P_prefers : AF) : AST := (sSeq (sDrop (aCall0 [.dat, .dat, .dat] (calm P_check_two_dishes) (lCons (oV (a2 vIx (oVar 0) (oV (aC (.int 0))))) (lCons (oV (aVar 1)) (lCons (oV (aVar 2)) lNil)))))
    (sRet (aBlt fSum (lCons (oV (aLc (iSeq (oV (a2 vIx (oVar 0) (oV (aC (.int 1)))))) (bTup 2 (bCons (bNm 3) (bCons (bNm 4) bNil))) (tTruA (oV (aCall0 [.dat, .dat, .dat] (calm P_prefers) (lCons (oV (aVar 3)) (lCons (oV (aVar 1)) (lCons (oV (aVar 2)) lNil)))))) (aVar 4) [3, 4])) lNil))))
def F_support : AF := fnF [.dat, .dat, .dat] 2 (b_support F_check_two_dishes F_prefers)
theorem okA_support {P : Program} {w : World} {K : PySem.W.Frag} {mg : Str → Option Value} {base : Heap} {f f_check_two_dishes f_prefers : Addr} {fd d_check_two_dishes d_prefers : FuncData} {m : Nat} (F : Fun K "support" "support" s_support f fd)
    (k_check_two_dishes : PySem.W.keepIn K (.ref f_check_two_dishes) = true) (b_check_two_dishes : Binds K d_check_two_dishes ["dishes", "one", "other"] []) (g_check_two_dishes : mg "check_two_dishes" = some (.ref f_check_two_dishes)) (G_check_two_dishes : FnOk P w K mg base CX0 m f_check_two_dishes d_check_two_dishes ["dishes", "one", "other"] (spA [.dat, .dat, .dat] F_check_two_dishes))
    (k_prefers : PySem.W.keepIn K (.ref f_prefers) = true) (b_prefers : Binds K d_prefers ["ranking", "one", "other"] []) (g_prefers : mg "prefers" = some (.ref f_prefers)) (G_prefers : FnOk P w K mg base CX0 m f_prefers d_prefers ["ranking", "one", "other"] (spA [.dat, .dat, .dat] F_prefers))
    (m_sum : mg "sum" = none) : FnOk P w K mg base CX0 (m + 1) f fd ["table", "one", "other"] (spA [.dat, .dat, .dat] F_support) :=
  fn_ok F scA_support rfl rfl fun cdv A outer s H E hr =>
    (as_cons (as_expr (ae_call0 G_check_two_dishes (by decide) hr (by rfl) g_check_two_dishes k_check_two_dishes b_check_two_dishes (la_cons (ao_V (ae_ix (ao_var 0 (pv 0)) (ao_V ae_int) (fun _ _ => rfl))) (la_cons (ao_V (ae_var 1 (pv 1))) (la_cons (ao_V (ae_var 2 (pv 2))) la_nil)))))
      (as_one (as_ret (ae_blt dc_sum (pe_callB (cr_sum (by rfl)) (by rfl) m_sum (by decide +kernel) (la_cons (ao_V (ae_F (af_lc 0 (own := [("ranking", 3), ("weight", 4)]) (by rfl) scA_support.nd (ai_seq (ao_V (ae_ix (ao_var 0 (pv 0)) (ao_V ae_int) (fun _ _ => rfl)))) (blkOk_by (own := [("ranking", 3), ("weight", 4)]) (N := ["table", "one", "other", "ranking", "weight"]) (sc := defScope s_support) (by decide +kernel)) (fun _ _ _ _ _ => (ag_tup (by rfl) (ags_cons (ag_name (pg_name (i := 3) scA_support.nd rfl (Or.inl rfl))) (ags_cons (ag_name (pg_name (i := 4) scA_support.nd rfl (Or.inl rfl))) ags_nil)))) (fun _ _ _ _ _ => (ts_one (at_tru (ao_V (ae_call0 G_prefers (by decide) hr (by rfl) g_prefers k_prefers b_prefers (la_cons (ao_V (ae_var 3 (pv 3))) (la_cons (ao_V (ae_var 1 (pv 1))) (la_cons (ao_V (ae_var 2 (pv 2))) la_nil)))))))) (fun _ _ _ _ _ => (ae_var 4 (pv 4)))))) la_nil))))))

theorem scA_lead : FnScope ["table", "one", "other"] ["table", "one", "other"] (defScope s_lead) := ⟨rfl, rfl, rfl, by decide +kernel, rfl, by decide +kernel, by decide +kernel⟩
def b_lead (P_support : AF) (P_total_weight : AF) : AST := (sRet (a2 vSub (oV (a2 vMul (oV (aC (.int 2))) (oV (aCall0 [.dat, .dat, .dat] (calm P_support) (lCons (oV (aVar 0)) (lCons (oV (aVar 1)) (lCons (oV (aVar 2)) lNil))))))) (oV (aCall0 [.dat] (calm P_total_weight) (lCons (oV (aVar 0)) lNil)))))
def F_lead : AF := fnF [.dat, .dat, .dat] 0 (b_lead F_support F_total_weight)
theorem okA_lead {P : Program} {w : World} {K : PySem.W.Frag} {mg : Str → Option Value} {base : Heap} {f f_support f_total_weight : Addr} {fd d_support d_total_weight : FuncData} {m : Nat} (F : Fun K "lead" "lead" s_lead f fd)
    (k_support : PySem.W.keepIn K (.ref f_support) = true) (b_support : Binds K d_support ["table", "one", "other"] []) (g_support : mg "support" = some (.ref f_support)) (G_support : FnOk P w K mg base CX0 m f_support d_support ["table", "one", "other"] (spA [.dat, .dat, .dat] F_support))
    (k_total_weight : PySem.W.keepIn K (.ref f_total_weight) = true) (b_total_weight : Binds K d_total_weight ["table"] []) (g_total_weight : mg "total_weight" = some (.ref f_total_weight)) (G_total_weight : FnOk P w K mg base CX0 m f_total_weight d_total_weight ["table"] (spA [.dat] F_total_weight))
     : FnOk P w K mg base CX0 (m + 1) f fd ["table", "one", "other"] (spA [.dat, .dat, .dat] F_lead) :=
  fn_ok F scA_lead rfl rfl fun cdv A outer s H E hr =>
    (as_one (as_ret (ae_op dop_sub op_subA (ao_V (ae_op dop_mul op_mul (ao_V ae_int) (ao_V (ae_call0 G_support (by decide) hr (by rfl) g_support k_support b_support (la_cons (ao_V (ae_var 0 (pv 0))) (la_cons (ao_V (ae_var 1 (pv 1))) (la_cons (ao_V (ae_var 2 (pv 2))) la_nil))))))) (ao_V (ae_call0 G_total_weight (by decide) hr (by rfl) g_total_weight k_total_weight b_total_weight (la_cons (ao_V (ae_var 0 (pv 0))) la_nil))))))

theorem scA_majority : FnScope ["table", "pairs", "both", "one", "other", "low", "high"] ["table"] (defScope s_majority) := ⟨rfl, rfl, rfl, by decide +kernel, rfl, by decide +kernel, by decide +kernel⟩
def b_majority (P_all_pairs : AF) (P_lead : AF) : AST := (sSeq (sSet 1 (aCall0 [.dat] (calm P_all_pairs) (lCons (oV (a2 vIx (oVar 0) (oV (aC (.int 0))))) lNil)))
    (sSeq (sSet 2 (aBlt fSorted (lCons (oV (a2 vCatL (oVar 1) (oV (aLc (iSeq (oVar 1)) (bTup 2 (bCons (bNm 5) (bCons (bNm 6) bNil))) tYesA (aTup (lCons (oV (aVar 6)) (lCons (oV (aVar 5)) lNil))) [5, 6])))) lNil)))
    (sRet (aBlt fTuple (lCons (oV (aLc (iSeq (oVar 2)) (bTup 2 (bCons (bNm 3) (bCons (bNm 4) bNil))) (tV (a2 vGt (oV (aCall0 [.dat, .dat, .dat] (calm P_lead) (lCons (oV (aVar 0)) (lCons (oV (aVar 3)) (lCons (oV (aVar 4)) lNil))))) (oV (aC (.int 0))))) (aTup (lCons (oV (aVar 3)) (lCons (oV (aVar 4)) lNil))) [3, 4])) lNil)))))
def F_majority : AF := fnF [.dat] 6 (b_majority F_all_pairs F_lead)
theorem okA_majority {P : Program} {w : World} {K : PySem.W.Frag} {mg : Str → Option Value} {base : Heap} {f f_all_pairs f_lead : Addr} {fd d_all_pairs d_lead : FuncData} {m : Nat} (F : Fun K "majority" "majority" s_majority f fd)
    (k_all_pairs : PySem.W.keepIn K (.ref f_all_pairs) = true) (b_all_pairs : Binds K d_all_pairs ["dishes"] []) (g_all_pairs : mg "all_pairs" = some (.ref f_all_pairs)) (G_all_pairs : FnOk P w K mg base CX0 m f_all_pairs d_all_pairs ["dishes"] (spA [.dat] F_all_pairs))
    (k_lead : PySem.W.keepIn K (.ref f_lead) = true) (b_lead : Binds K d_lead ["table", "one", "other"] []) (g_lead : mg "lead" = some (.ref f_lead)) (G_lead : FnOk P w K mg base CX0 m f_lead d_lead ["table", "one", "other"] (spA [.dat, .dat, .dat] F_lead))
    (m_sorted : mg "sorted" = none) (m_tuple : mg "tuple" = none) : FnOk P w K mg base CX0 (m + 1) f fd ["table"] (spA [.dat] F_majority) :=
  fn_ok F scA_majority rfl rfl fun cdv A outer s H E hr =>
    (as_cons (as_set (i := 1) scA_majority.nd rfl (.inl rfl) (ae_call0 G_all_pairs (by decide) hr (by rfl) g_all_pairs k_all_pairs b_all_pairs (la_cons (ao_V (ae_ix (ao_var 0 (pv 0)) (ao_V ae_int) (fun _ _ => rfl))) la_nil)))
      (as_cons (as_set (i := 2) scA_majority.nd rfl (.inl rfl) (ae_F (af_blt 0 dc_sorted (pe_callB (cr_sortedA (u65 hr)) (by rfl) m_sorted (by decide +kernel) (la_cons (ao_V (ae_F (af_cat 0 (ao_var 1 (pv 1)) (ao_V (ae_F (af_lc 0 (own := [("low", 5), ("high", 6)]) (by rfl) scA_majority.nd (ai_seq (ao_var 1 (pv 1))) (blkOk_by (own := [("low", 5), ("high", 6)]) (N := ["table", "pairs", "both", "one", "other", "low", "high"]) (sc := defScope s_majority) (by decide +kernel)) (fun _ _ _ _ _ => (ag_tup (by rfl) (ags_cons (ag_name (pg_name (i := 5) scA_majority.nd rfl (Or.inl rfl))) (ags_cons (ag_name (pg_name (i := 6) scA_majority.nd rfl (Or.inl rfl))) ags_nil)))) (fun _ _ _ _ _ => ts_nil) (fun _ _ _ _ _ => (ae_tup (la_cons (ao_V (ae_var 6 (pv 6))) (la_cons (ao_V (ae_var 5 (pv 5))) la_nil)))))))))) la_nil)))))
      (as_one (as_ret (ae_blt dc_tuple (pe_callTy call_tupleF (by rfl) m_tuple (by decide +kernel) (la_cons (ao_V (ae_F (af_lc 0 (own := [("one", 3), ("other", 4)]) (by rfl) scA_majority.nd (ai_seq (ao_var 2 (pv 2))) (blkOk_by (own := [("one", 3), ("other", 4)]) (N := ["table", "pairs", "both", "one", "other", "low", "high"]) (sc := defScope s_majority) (by decide +kernel)) (fun _ _ _ _ _ => (ag_tup (by rfl) (ags_cons (ag_name (pg_name (i := 3) scA_majority.nd rfl (Or.inl rfl))) (ags_cons (ag_name (pg_name (i := 4) scA_majority.nd rfl (Or.inl rfl))) ags_nil)))) (fun _ _ _ _ _ => (ts_one (cmp_test dop_gt (op_gtA hr.units) (ao_V (ae_call0 G_lead (by decide) hr (by rfl) g_lead k_lead b_lead (la_cons (ao_V (ae_var 0 (pv 0))) (la_cons (ao_V (ae_var 3 (pv 3))) (la_cons (ao_V (ae_var 4 (pv 4))) la_nil))))) (ao_V ae_int) (nomark _)))) (fun _ _ _ _ _ => (ae_tup (la_cons (ao_V (ae_var 3 (pv 3))) (la_cons (ao_V (ae_var 4 (pv 4))) la_nil))))))) la_nil)))))))

theorem scA_ties : FnScope ["table", "low", "high"] ["table"] (defScope s_ties) := ⟨rfl, rfl, rfl, by decide +kernel, rfl, by decide +kernel, by decide +kernel⟩
def b_ties (P_all_pairs : AF) (P_lead : AF) : AST := (sRet (aBlt fTuple (lCons (oV (aLc (iSeq (oV (aCall0 [.dat] (calm P_all_pairs) (lCons (oV (a2 vIx (oVar 0) (oV (aC (.int 0))))) lNil)))) (bTup 2 (bCons (bNm 1) (bCons (bNm 2) bNil))) (tV (a2 vEq (oV (aCall0 [.dat, .dat, .dat] (calm P_lead) (lCons (oV (aVar 0)) (lCons (oV (aVar 1)) (lCons (oV (aVar 2)) lNil))))) (oV (aC (.int 0))))) (aTup (lCons (oV (aVar 1)) (lCons (oV (aVar 2)) lNil))) [1, 2])) lNil)))
def F_ties : AF := fnF [.dat] 2 (b_ties F_all_pairs F_lead)
theorem okA_ties {P : Program} {w : World} {K : PySem.W.Frag} {mg : Str → Option Value} {base : Heap} {f f_all_pairs f_lead : Addr} {fd d_all_pairs d_lead : FuncData} {m : Nat} (F : Fun K "ties" "ties" s_ties f fd)
    (k_all_pairs : PySem.W.keepIn K (.ref f_all_pairs) = true) (b_all_pairs : Binds K d_all_pairs ["dishes"] []) (g_all_pairs : mg "all_pairs" = some (.ref f_all_pairs)) (G_all_pairs : FnOk P w K mg base CX0 m f_all_pairs d_all_pairs ["dishes"] (spA [.dat] F_all_pairs))
    (k_lead : PySem.W.keepIn K (.ref f_lead) = true) (b_lead : Binds K d_lead ["table", "one", "other"] []) (g_lead : mg "lead" = some (.ref f_lead)) (G_lead : FnOk P w K mg base CX0 m f_lead d_lead ["table", "one", "other"] (spA [.dat, .dat, .dat] F_lead))
    (m_tuple : mg "tuple" = none) : FnOk P w K mg base CX0 (m + 1) f fd ["table"] (spA [.dat] F_ties) :=
  fn_ok F scA_ties rfl rfl fun cdv A outer s H E hr =>
    (as_one (as_ret (ae_blt dc_tuple (pe_callTy call_tupleF (by rfl) m_tuple (by decide +kernel) (la_cons (ao_V (ae_F (af_lc 0 (own := [("low", 1), ("high", 2)]) (by rfl) scA_ties.nd (ai_seq (ao_V (ae_call0 G_all_pairs (by decide) hr (by rfl) g_all_pairs k_all_pairs b_all_pairs (la_cons (ao_V (ae_ix (ao_var 0 (pv 0)) (ao_V ae_int) (fun _ _ => rfl))) la_nil)))) (blkOk_by (own := [("low", 1), ("high", 2)]) (N := ["table", "low", "high"]) (sc := defScope s_ties) (by decide +kernel)) (fun _ _ _ _ _ => (ag_tup (by rfl) (ags_cons (ag_name (pg_name (i := 1) scA_ties.nd rfl (Or.inl rfl))) (ags_cons (ag_name (pg_name (i := 2) scA_ties.nd rfl (Or.inl rfl))) ags_nil)))) (fun _ _ _ _ _ => (ts_one (cmp_test dop_eq (op_eqA hr.units) (ao_V (ae_call0 G_lead (by decide) hr (by rfl) g_lead k_lead b_lead (la_cons (ao_V (ae_var 0 (pv 0))) (la_cons (ao_V (ae_var 1 (pv 1))) (la_cons (ao_V (ae_var 2 (pv 2))) la_nil))))) (ao_V ae_int) (nomark _)))) (fun _ _ _ _ _ => (ae_tup (la_cons (ao_V (ae_var 1 (pv 1))) (la_cons (ao_V (ae_var 2 (pv 2))) la_nil))))))) la_nil)))))

theorem scA_middle_rankings : FnScope ["parts", "ranking", "weight", "total", "found", "passed"] ["parts"] (defScope s_middle_rankings) := ⟨rfl, rfl, rfl, by decide +kernel, rfl, by decide +kernel, by decide +kernel⟩
def b_middle_rankings : AST := (sSeq (sSet 3 (aBlt fSum (lCons (oV (aLc (iSeq (oVar 0)) (bTup 2 (bCons (bNm 1) (bCons (bNm 2) bNil))) tYesA (aVar 2) [1, 2])) lNil)))
    (sSeq (sSetO 4 (aLst lNil))
    (sSeq (sSet 5 (aC (.int 0)))
    (sSeq (sFor (iSeq (oV (aVar 0))) (bTup 2 (bCons (bNm 1) (bCons (bNm 2) bNil)))
    (sSeq (sIf (tV (a3 vLe vLe (oV (a2 vMul (oV (aC (.int 2))) (oVar 5))) (oVar 3) (oV (a2 vMul (oV (aC (.int 2))) (oV (a2 vAdd (oVar 5) (oVar 2)))))))
    (sDrop (aMut mApp 4 (lCons (oV (aVar 1)) lNil)))
    sNx)
    (sAug vAddI 5 (oVar 2))))
    (sRet (aBlt fTuple (lCons (oV (aBlt fSorted (lCons (oVar 4) lNil))) lNil)))))))
def F_middle_rankings : AF := fnF [.dat] 5 (b_middle_rankings)
theorem okA_middle_rankings {P : Program} {w : World} {K : PySem.W.Frag} {mg : Str → Option Value} {base : Heap} {f  : Addr} {fd  : FuncData} {m : Nat} (F : Fun K "middle_rankings" "middle_rankings" s_middle_rankings f fd)
    (m_sum : mg "sum" = none) (m_tuple : mg "tuple" = none) (m_sorted : mg "sorted" = none) : FnOk P w K mg base CX0 (m + 1) f fd ["parts"] (spA [.dat] F_middle_rankings) :=
  fn_ok F scA_middle_rankings rfl rfl fun cdv A outer s H E hr =>
    (as_cons (as_set (i := 3) scA_middle_rankings.nd rfl (.inl rfl) (ae_blt dc_sum (pe_callB (cr_sum (by rfl)) (by rfl) m_sum (by decide +kernel) (la_cons (ao_V (ae_F (af_lc 0 (own := [("ranking", 1), ("weight", 2)]) (by rfl) scA_middle_rankings.nd (ai_seq (ao_var 0 (pv 0))) (blkOk_by (own := [("ranking", 1), ("weight", 2)]) (N := ["parts", "ranking", "weight", "total", "found", "passed"]) (sc := defScope s_middle_rankings) (by decide +kernel)) (fun _ _ _ _ _ => (ag_tup (by rfl) (ags_cons (ag_name (pg_name (i := 1) scA_middle_rankings.nd rfl (Or.inl rfl))) (ags_cons (ag_name (pg_name (i := 2) scA_middle_rankings.nd rfl (Or.inl rfl))) ags_nil)))) (fun _ _ _ _ _ => ts_nil) (fun _ _ _ _ _ => (ae_var 2 (pv 2)))))) la_nil))))
      (as_cons (as_setO (i := 4) scA_middle_rankings.nd rfl (.inl rfl) (af_lst 4 la_nil))
      (as_cons (as_set (i := 5) scA_middle_rankings.nd rfl (.inl rfl) ae_int)
      (as_cons (as_for PassesOwn.never rfl (ai_seq (ao_V (ae_var 0 (pv 0)))) (ag_tup (by rfl) (ags_cons (ag_name (pg_name (i := 1) scA_middle_rankings.nd rfl (.inl rfl))) (ags_cons (ag_name (pg_name (i := 2) scA_middle_rankings.nd rfl (.inl rfl))) ags_nil))) (as_cons (as_if (at_chain dop_le dop_le (op_leA hr.units) (op_leA hr.units) (ao_V (ae_op dop_mul op_mul (ao_V ae_int) (ao_var 5 (pv 5)))) (ao_var 3 (pv 3)) (ao_V (ae_op dop_mul op_mul (ao_V ae_int) (ao_V (ae_op dop_add op_addA (ao_var 5 (pv 5)) (ao_var 2 (pv 2))))))) (as_one (as_expr (ae_mut dm_app (pe_bm PySem.F.plainAttrs_list PySem.F.slot_list_append PySem.F.type_list_append mt_append (pv 4) (la_cons (ao_V (ae_var 1 (pv 1))) la_nil))))) as_nil)
      (as_one (as_aug dop_iadd (ps_aug (i := 5) scA_middle_rankings.nd rfl (.inl rfl) (ao_var 2 (pv 2)) ip_add)))))
      (as_one (as_ret (ae_blt dc_tuple (pe_callTy call_tupleF (by rfl) m_tuple (by decide +kernel) (la_cons (ao_V (ae_F (af_blt 0 dc_sorted (pe_callB (cr_sortedA (u65 hr)) (by rfl) m_sorted (by decide +kernel) (la_cons (ao_var 4 (pv 4)) la_nil))))) la_nil)))))))))

theorem scA_group_part : FnScope ["table", "group", "tasters", "taster"] ["table", "group"] (defScope s_group_part) := ⟨rfl, rfl, rfl, by decide +kernel, rfl, by decide +kernel, by decide +kernel⟩
def b_group_part : AST := (sSeq (sSet 2 (a2 vIx (oVar 0) (oV (aC (.int 1)))))
    (sRet (aTup (lCons (oV (a2 vIx (oV (a2 vIx (oVar 2) (oV (a2 vIx (oVar 1) (oV (aC (.int 0))))))) (oV (aC (.int 0))))) (lCons (oV (aBlt fSum (lCons (oV (aLc (iSeq (oVar 1)) (bNm 3) tYesA (a2 vIx (oV (a2 vIx (oVar 2) (oVar 3))) (oV (aC (.int 1)))) [3])) lNil))) lNil)))))
def F_group_part : AF := fnF [.dat, .dat] 2 (b_group_part)
theorem okA_group_part {P : Program} {w : World} {K : PySem.W.Frag} {mg : Str → Option Value} {base : Heap} {f  : Addr} {fd  : FuncData} {m : Nat} (F : Fun K "group_part" "group_part" s_group_part f fd)
    (m_sum : mg "sum" = none) : FnOk P w K mg base CX0 (m + 1) f fd ["table", "group"] (spA [.dat, .dat] F_group_part) :=
  fn_ok F scA_group_part rfl rfl fun cdv A outer s H E hr =>
    (as_cons (as_set (i := 2) scA_group_part.nd rfl (.inr rfl) (ae_ix (ao_var 0 (pv 0)) (ao_V ae_int) (fun _ _ => rfl)))
      (as_one (as_ret (ae_tup (la_cons (ao_V (ae_ix (ao_V (ae_ix (ao_var 2 (pv 2)) (ao_V (ae_ix (ao_var 1 (pv 1)) (ao_V ae_int) (fun _ _ => rfl))) (fun _ _ => rfl))) (ao_V ae_int) (fun _ _ => rfl))) (la_cons (ao_V (ae_blt dc_sum (pe_callB (cr_sum (by rfl)) (by rfl) m_sum (by decide +kernel) (la_cons (ao_V (ae_F (af_lc 0 (own := [("taster", 3)]) (by rfl) scA_group_part.nd (ai_seq (ao_var 1 (pv 1))) (blkOk_by (own := [("taster", 3)]) (N := ["table", "group", "tasters", "taster"]) (sc := defScope s_group_part) (by decide +kernel)) (fun _ _ _ _ _ => (ag_name (pg_name (i := 3) scA_group_part.nd rfl (Or.inl rfl)))) (fun _ _ _ _ _ => ts_nil) (fun _ _ _ _ _ => (ae_ix (ao_V (ae_ix (ao_var 2 (pv 2)) (ao_var 3 (pv 3)) (fun _ _ => rfl))) (ao_V ae_int) (fun _ _ => rfl)))))) la_nil)))) la_nil))))))

theorem scA_medians : FnScope ["table", "group"] ["table"] (defScope s_medians) := ⟨rfl, rfl, rfl, by decide +kernel, rfl, by decide +kernel, by decide +kernel⟩
def b_medians (P_middle_rankings : AF) (P_group_order : AF) (P_group_part : AF) : AST := (sRet (aCall0 [.dat] (calm P_middle_rankings) (lCons (oV (aLc (iSeq (oV (aCall [.dat] (calm P_group_order) (lCons (oV (aVar 0)) lNil)))) (bNm 1) tYesA (aCall0 [.dat, .dat] (calm P_group_part) (lCons (oV (aVar 0)) (lCons (oV (aVar 1)) lNil))) [1])) lNil)))
def F_medians : AF := fnF [.dat] 1 (b_medians F_middle_rankings F_group_order F_group_part)
theorem okA_medians {P : Program} {w : World} {K : PySem.W.Frag} {mg : Str → Option Value} {base : Heap} {f f_middle_rankings f_group_order f_group_part : Addr} {fd d_middle_rankings d_group_order d_group_part : FuncData} {T : List (Addr × Str)} {m : Nat} (F : Fun K "medians" "medians" s_medians f fd)
    (k_middle_rankings : PySem.W.keepIn K (.ref f_middle_rankings) = true) (b_middle_rankings : Binds K d_middle_rankings ["parts"] []) (g_middle_rankings : mg "middle_rankings" = some (.ref f_middle_rankings)) (G_middle_rankings : FnOk P w K mg base CX0 m f_middle_rankings d_middle_rankings ["parts"] (spA [.dat] F_middle_rankings))
    (k_group_order : PySem.W.keepIn K (.ref f_group_order) = true) (b_group_order : Binds K d_group_order ["table"] []) (g_group_order : mg "group_order" = some (.ref f_group_order)) (G_group_order : FnOk P w K mg base CX0 m f_group_order d_group_order ["table"] (spAT T [.dat] F_group_order))
    (k_group_part : PySem.W.keepIn K (.ref f_group_part) = true) (b_group_part : Binds K d_group_part ["table", "group"] []) (g_group_part : mg "group_part" = some (.ref f_group_part)) (G_group_part : FnOk P w K mg base CX0 m f_group_part d_group_part ["table", "group"] (spA [.dat, .dat] F_group_part))
     : FnOk P w K mg base CX0 (m + 1) f fd ["table"] (spAT T [.dat] F_medians) :=
  fn_ok F scA_medians rfl rfl fun cdv A outer s H E hr =>
    (as_one (as_ret (ae_call0 G_middle_rankings (by decide) hr (by rfl) g_middle_rankings k_middle_rankings b_middle_rankings (la_cons (ao_V (ae_F (af_lc 0 (own := [("group", 1)]) (by rfl) scA_medians.nd (ai_seq (ao_V (ae_call G_group_order hr (by rfl) g_group_order k_group_order b_group_order (la_cons (ao_V (ae_var 0 (pv 0))) la_nil)))) (blkOk_by (own := [("group", 1)]) (N := ["table", "group"]) (sc := defScope s_medians) (by decide +kernel)) (fun _ _ _ _ _ => (ag_name (pg_name (i := 1) scA_medians.nd rfl (Or.inl rfl)))) (fun _ _ _ _ _ => ts_nil) (fun _ _ _ _ _ => (ae_call0 G_group_part (by decide) hr (by rfl) g_group_part k_group_part b_group_part (la_cons (ao_V (ae_var 0 (pv 0))) (la_cons (ao_V (ae_var 1 (pv 1))) la_nil))))))) la_nil))))

theorem scA__law_one : FnScope ["_law_deck_here", "_law_some"] ["_law_deck_here", "_law_some"] (defScope s__law_one) := ⟨rfl, rfl, rfl, by decide +kernel, rfl, by decide +kernel, by decide +kernel⟩
def b__law_one (P__law_next : AF) : AST := (sRet (a2 vIx (oVar 1) (oV (aCall [.deck, .dat] (calm P__law_next) (lCons (oVar 0) (lCons (oV (aBlt fLen (lCons (oVar 1) lNil))) lNil))))))
def F__law_one : AF := fnF [.deck, .bor] 0 (b__law_one F__law_next)
theorem okA__law_one {P : Program} {w : World} {K : PySem.W.Frag} {mg : Str → Option Value} {base : Heap} {f f__law_next : Addr} {fd d__law_next : FuncData} {m : Nat} (F : Fun K "_law_one" "_law_one" s__law_one f fd)
    (k__law_next : PySem.W.keepIn K (.ref f__law_next) = true) (b__law_next : Binds K d__law_next ["_law_deck_here", "_law_many"] []) (g__law_next : mg "_law_next" = some (.ref f__law_next)) (G__law_next : FnOk P w K mg base CX0 m f__law_next d__law_next ["_law_deck_here", "_law_many"] (spA [.deck, .dat] F__law_next))
    (m_len : mg "len" = none) : FnOk P w K mg base CX0 (m + 1) f fd ["_law_deck_here", "_law_some"] (spA [.deck, .bor] F__law_one) :=
  fn_ok F scA__law_one rfl rfl fun cdv A outer s H E hr =>
    (as_one (as_ret (ae_ix (ao_var 1 (pv 1)) (ao_V (ae_call G__law_next hr (by rfl) g__law_next k__law_next b__law_next (la_cons (ao_var 0 (pv 0)) (la_cons (ao_V (ae_blt dc_len (pe_callB call_len (by rfl) m_len PySem.boot_len (la_cons (ao_var 1 (pv 1)) la_nil)))) la_nil)))) (fun _ _ => rfl))))

theorem scA__law_same : FnScope ["_law_found", "_law_due", "_law_k"] ["_law_found", "_law_due"] (defScope s__law_same) := ⟨rfl, rfl, rfl, by decide +kernel, rfl, by decide +kernel, by decide +kernel⟩
def b__law_same (R_ : AF) : AST := (sSeq (sIf (tTruA (oV (aIsi2 "tuple" "list" (oVar 1))))
    (sSeq (sIf (tV (a2 vNe (oV (aIsi "tuple" (oVar 0))) (oV (aIsi "tuple" (oVar 1)))))
    (sRet (aC (.bool false)))
    sNx)
    (sSeq (sIf (tV (a2 vNe (oV (aIsi "list" (oVar 0))) (oV (aIsi "list" (oVar 1)))))
    (sRet (aC (.bool false)))
    sNx)
    (sSeq (sIf (tV (a2 vNe (oV (aBlt fLen (lCons (oVar 0) lNil))) (oV (aBlt fLen (lCons (oVar 1) lNil)))))
    (sRet (aC (.bool false)))
    sNx)
    (sRet (a2 vEqE (oV (aLc (iRange1 (lCons (oV (aBlt fLen (lCons (oVar 1) lNil))) lNil)) (bNm 2) (tNotA (tTruA (oV (aCall0 [.dat, .dat] (calm R_) (lCons (oV (a2 vIx (oVar 0) (oVar 2))) (lCons (oV (a2 vIx (oVar 1) (oVar 2))) lNil)))))) (aVar 2) [2])) (oV (aLst lNil)))))))
    sNx)
    (sSeq (sIf (tTruA (oV (aIsi "dict" (oVar 1))))
    (sRet (aAnd (aIsi "dict" (oVar 0)) (a2 vEq (oVar 0) (oVar 1))))
    sNx)
    (sSeq (sIf (tV (a2 vIs (oVar 1) (oV (aC .none))))
    (sRet (a2 vIs (oVar 0) (oV (aC .none))))
    sNx)
    (sSeq (sIf (tTruA (oV (aIsi "str" (oVar 1))))
    (sRet (aAnd (aIsi "str" (oVar 0)) (a2 vEq (oVar 0) (oVar 1))))
    sNx)
    (sRet (aAnd (aIsi "int" (oVar 0)) (aAnd (a2 vEq (oV (aIsi "bool" (oVar 0))) (oV (aIsi "bool" (oVar 1)))) (a2 vEq (oVar 0) (oVar 1)))))))))
def F__law_same : Nat → AF
  | 0 => fun _ _ _ _ => False
  | m + 1 => fnF [.dat, .dat] 1 (b__law_same (F__law_same m))
theorem okA__law_same {P : Program} {w : World} {K : PySem.W.Frag} {mg : Str → Option Value} {base : Heap} {f  : Addr} {fd  : FuncData} (F : Fun K "_law_same" "_law_same" s__law_same f fd)
    (k__law_same : PySem.W.keepIn K (.ref f) = true) (b__law_same : Binds K fd ["_law_found", "_law_due"] []) (g__law_same : mg "_law_same" = some (.ref f)) (m_isinstance : mg "isinstance" = none) (m_tuple : mg "tuple" = none) (m_list : mg "list" = none) (m_len : mg "len" = none) (m_range : mg "range" = none) (m_dict : mg "dict" = none) (m_str : mg "str" = none) (m_bool : mg "bool" = none) (m_int : mg "int" = none) : ∀ m, FnOk P w K mg base CX0 m f fd ["_law_found", "_law_due"] (spA [.dat, .dat] (F__law_same m))
  | 0 => fn_never
  | m + 1 => by
    have G__law_same := okA__law_same (P := P) (w := w) (base := base) F k__law_same b__law_same g__law_same m_isinstance m_tuple m_list m_len m_range m_dict m_str m_bool m_int m
    exact fn_ok F scA__law_same rfl rfl fun cdv A outer s H E hr =>
    (as_cons (as_if (at_tru (ao_V (ae_isi2 (T := "tuple") (U := "list") (by rfl) m_isinstance (ao_var 1 (pv 1)) (pe_tup (pa_cons (pe_bltn (v := .ty "tuple") (by rfl) m_tuple (by decide +kernel) rfl) (pa_cons (pe_bltn (v := .ty "list") (by rfl) m_list (by decide +kernel) rfl) pa_nil)))))) (as_cons (as_if (cmp_test dop_ne (op_neA hr.units) (ao_V (ae_isi (T := "tuple") (by rfl) m_isinstance (ao_var 0 (pv 0)) (pe_bltn (v := .ty "tuple") (by rfl) m_tuple (by decide +kernel) rfl))) (ao_V (ae_isi (T := "tuple") (by rfl) m_isinstance (ao_var 1 (pv 1)) (pe_bltn (v := .ty "tuple") (by rfl) m_tuple (by decide +kernel) rfl))) (nomark _)) (as_one (as_ret ae_bl)) as_nil)
      (as_cons (as_if (cmp_test dop_ne (op_neA hr.units) (ao_V (ae_isi (T := "list") (by rfl) m_isinstance (ao_var 0 (pv 0)) (pe_bltn (v := .ty "list") (by rfl) m_list (by decide +kernel) rfl))) (ao_V (ae_isi (T := "list") (by rfl) m_isinstance (ao_var 1 (pv 1)) (pe_bltn (v := .ty "list") (by rfl) m_list (by decide +kernel) rfl))) (nomark _)) (as_one (as_ret ae_bl)) as_nil)
      (as_cons (as_if (cmp_test dop_ne (op_neA hr.units) (ao_V (ae_blt dc_len (pe_callB call_len (by rfl) m_len PySem.boot_len (la_cons (ao_var 0 (pv 0)) la_nil)))) (ao_V (ae_blt dc_len (pe_callB call_len (by rfl) m_len PySem.boot_len (la_cons (ao_var 1 (pv 1)) la_nil)))) (nomark _)) (as_one (as_ret ae_bl)) as_nil)
      (as_one (as_ret (ae_cmp dop_eqE (op_eqE hr.units) (ao_V (ae_F (af_lc 0 (own := [("_law_k", 2)]) (by rfl) scA__law_same.nd (ai_range1 (by rfl) m_range (la_cons (ao_V (ae_blt dc_len (pe_callB call_len (by rfl) m_len PySem.boot_len (la_cons (ao_var 1 (pv 1)) la_nil)))) la_nil)) (blkOk_by (own := [("_law_k", 2)]) (N := ["_law_found", "_law_due", "_law_k"]) (sc := defScope s__law_same) (by decide +kernel)) (fun _ _ _ _ _ => (ag_name (pg_name (i := 2) scA__law_same.nd rfl (Or.inl rfl)))) (fun _ _ _ _ _ => (ts_one (at_not (at_tru (ao_V (ae_call0 G__law_same (by decide) hr (by rfl) g__law_same k__law_same b__law_same (la_cons (ao_V (ae_ix (ao_var 0 (pv 0)) (ao_var 2 (pv 2)) (fun _ _ => rfl))) (la_cons (ao_V (ae_ix (ao_var 1 (pv 1)) (ao_var 2 (pv 2)) (fun _ _ => rfl))) la_nil)))))))) (fun _ _ _ _ _ => (ae_var 2 (pv 2)))))) (ao_V (ae_F (af_lst 0 la_nil))) (nomark _))))))) as_nil)
      (as_cons (as_if (at_tru (ao_V (ae_isi (T := "dict") (by rfl) m_isinstance (ao_var 1 (pv 1)) (pe_bltn (v := .ty "dict") (by rfl) m_dict (by decide +kernel) rfl)))) (as_one (as_ret (ae_and (ae_isi (T := "dict") (by rfl) m_isinstance (ao_var 0 (pv 0)) (pe_bltn (v := .ty "dict") (by rfl) m_dict (by decide +kernel) rfl)) (ae_one (ae_cmp dop_eq (op_eqA hr.units) (ao_var 0 (pv 0)) (ao_var 1 (pv 1)) (nomark _)))))) as_nil)
      (as_cons (as_if (cmp_test dop_is op_isA (ao_var 1 (pv 1)) (ao_V ae_non) (nomark _)) (as_one (as_ret (ae_cmp dop_is op_isA (ao_var 0 (pv 0)) (ao_V ae_non) (nomark _)))) as_nil)
      (as_cons (as_if (at_tru (ao_V (ae_isi (T := "str") (by rfl) m_isinstance (ao_var 1 (pv 1)) (pe_bltn (v := .ty "str") (by rfl) m_str (by decide +kernel) rfl)))) (as_one (as_ret (ae_and (ae_isi (T := "str") (by rfl) m_isinstance (ao_var 0 (pv 0)) (pe_bltn (v := .ty "str") (by rfl) m_str (by decide +kernel) rfl)) (ae_one (ae_cmp dop_eq (op_eqA hr.units) (ao_var 0 (pv 0)) (ao_var 1 (pv 1)) (nomark _)))))) as_nil)
      (as_one (as_ret (ae_and (ae_isi (T := "int") (by rfl) m_isinstance (ao_var 0 (pv 0)) (pe_bltn (v := .ty "int") (by rfl) m_int (by decide +kernel) rfl)) (ae_and (ae_cmp dop_eq (op_eqA hr.units) (ao_V (ae_isi (T := "bool") (by rfl) m_isinstance (ao_var 0 (pv 0)) (pe_bltn (v := .ty "bool") (by rfl) m_bool (by decide +kernel) rfl))) (ao_V (ae_isi (T := "bool") (by rfl) m_isinstance (ao_var 1 (pv 1)) (pe_bltn (v := .ty "bool") (by rfl) m_bool (by decide +kernel) rfl))) (nomark _)) (ae_one (ae_cmp dop_eq (op_eqA hr.units) (ao_var 0 (pv 0)) (ao_var 1 (pv 1)) (nomark _)))))))))))

theorem scA__law_people : FnScope ["_law_deck_here"] ["_law_deck_here"] (defScope s__law_people) := ⟨rfl, rfl, rfl, by decide +kernel, rfl, by decide +kernel, by decide +kernel⟩
def b__law_people (P__law_next : AF) : AST := (sRet (a2 vIx (oV (aLst (lCons (oV (aC (.int 1))) (lCons (oV (aC (.int 1))) (lCons (oV (a2 vAdd (oV (aC (.int 1))) (oV (aCall [.deck, .dat] (calm P__law_next) (lCons (oVar 0) (lCons (oV (aC (.int 5))) lNil)))))) (lCons (oV (a2 vAdd (oV (aC (.int 1))) (oV (aCall [.deck, .dat] (calm P__law_next) (lCons (oVar 0) (lCons (oV (a2 vPow (oV (aC (.int 10))) (oV (aC (.int 12))))) lNil)))))) (lCons (oV (a2 vPow (oV (aC (.int 10))) (oV (aC (.int 12))))) lNil))))))) (oV (aCall [.deck, .dat] (calm P__law_next) (lCons (oVar 0) (lCons (oV (aC (.int 5))) lNil))))))
def F__law_people : AF := fnF [.deck] 0 (b__law_people F__law_next)
theorem okA__law_people {P : Program} {w : World} {K : PySem.W.Frag} {mg : Str → Option Value} {base : Heap} {f f__law_next : Addr} {fd d__law_next : FuncData} {m : Nat} (F : Fun K "_law_people" "_law_people" s__law_people f fd)
    (k__law_next : PySem.W.keepIn K (.ref f__law_next) = true) (b__law_next : Binds K d__law_next ["_law_deck_here", "_law_many"] []) (g__law_next : mg "_law_next" = some (.ref f__law_next)) (G__law_next : FnOk P w K mg base CX0 m f__law_next d__law_next ["_law_deck_here", "_law_many"] (spA [.deck, .dat] F__law_next))
     : FnOk P w K mg base CX0 (m + 1) f fd ["_law_deck_here"] (spA [.deck] F__law_people) :=
  fn_ok F scA__law_people rfl rfl fun cdv A outer s H E hr =>
    (as_one (as_ret (ae_ix (ao_V (ae_F (af_lst 0 (la_cons (ao_V ae_int) (la_cons (ao_V ae_int) (la_cons (ao_V (ae_op dop_add op_addA (ao_V ae_int) (ao_V (ae_call G__law_next hr (by rfl) g__law_next k__law_next b__law_next (la_cons (ao_var 0 (pv 0)) (la_cons (ao_V ae_int) la_nil)))))) (la_cons (ao_V (ae_op dop_add op_addA (ao_V ae_int) (ao_V (ae_call G__law_next hr (by rfl) g__law_next k__law_next b__law_next (la_cons (ao_var 0 (pv 0)) (la_cons (ao_V (ae_op dop_pow op_pow (ao_V ae_int) (ao_V ae_int))) la_nil)))))) (la_cons (ao_V (ae_op dop_pow op_pow (ao_V ae_int) (ao_V ae_int))) la_nil)))))))) (ao_V (ae_call G__law_next hr (by rfl) g__law_next k__law_next b__law_next (la_cons (ao_var 0 (pv 0)) (la_cons (ao_V ae_int) la_nil)))) (fun _ _ => rfl))))

theorem scA__law_list : FnScope ["_law_deck_here", "_law_dishes", "_law_left", "_law_found"] ["_law_deck_here", "_law_dishes"] (defScope s__law_list) := ⟨rfl, rfl, rfl, by decide +kernel, rfl, by decide +kernel, by decide +kernel⟩
def b__law_list (P__law_next : AF) : AST := (sSeq (sParOO 2 3 (aListRg (rg1 (aVar 1))) (aLst lNil))
    (sSeq (sWhile (tV (a2 vNeE (oVar 2) (oV (aLst lNil))))
    (sDrop (aMut mApp 3 (lCons (oV (aMut mPopAt 2 (lCons (oV (aCall [.deck, .dat] (calm P__law_next) (lCons (oVar 0) (lCons (oV (aBlt fLen (lCons (oVar 2) lNil))) lNil)))) lNil))) lNil))))
    (sRet (aBlt fTuple (lCons (oVar 3) lNil)))))
def F__law_list : AF := fnF [.deck, .dat] 2 (b__law_list F__law_next)
theorem okA__law_list {P : Program} {w : World} {K : PySem.W.Frag} {mg : Str → Option Value} {base : Heap} {f f__law_next : Addr} {fd d__law_next : FuncData} {m : Nat} (F : Fun K "_law_list" "_law_list" s__law_list f fd)
    (k__law_next : PySem.W.keepIn K (.ref f__law_next) = true) (b__law_next : Binds K d__law_next ["_law_deck_here", "_law_many"] []) (g__law_next : mg "_law_next" = some (.ref f__law_next)) (G__law_next : FnOk P w K mg base CX0 m f__law_next d__law_next ["_law_deck_here", "_law_many"] (spA [.deck, .dat] F__law_next))
    (m_range : mg "range" = none) (m_list : mg "list" = none) (m_len : mg "len" = none) (m_tuple : mg "tuple" = none) : FnOk P w K mg base CX0 (m + 1) f fd ["_law_deck_here", "_law_dishes"] (spA [.deck, .dat] F__law_list) :=
  fn_ok F scA__law_list rfl rfl fun cdv A outer s H E hr =>
    (as_cons (as_parOO (by decide) (ps_par (i := 2) (j := 3) (by rfl) scA__law_list.nd rfl rfl (by decide) rfl rfl (pa_cons (af_listRg1 2 (by rfl) (by rfl) m_list (prg_1 (by rfl) m_range (ae_var 1 (pv 1)))) (pa_cons (af_lst 3 la_nil) pa_nil)) (by rfl)))
      (as_cons (as_while PassesOwn.never (cmp_test dop_neE (op_neE hr.units) (ao_var 2 (pv 2)) (ao_V (ae_F (af_lst 0 la_nil))) (nomark _)) (as_one (as_expr (ae_mut dm_app (pe_bm PySem.F.plainAttrs_list PySem.F.slot_list_append PySem.F.type_list_append mt_append (pv 3) (la_cons (ao_V (ae_mut dm_popAt (pe_bm PySem.F.plainAttrs_list PySem.F.slot_list_pop PySem.F.type_list_pop mt_popAtA (pv 2) (la_cons (ao_V (ae_call G__law_next hr (by rfl) g__law_next k__law_next b__law_next (la_cons (ao_var 0 (pv 0)) (la_cons (ao_V (ae_blt dc_len (pe_callB call_len (by rfl) m_len PySem.boot_len (la_cons (ao_var 2 (pv 2)) la_nil)))) la_nil)))) la_nil)))) la_nil))))))
      (as_one (as_ret (ae_blt dc_tuple (pe_callTy call_tupleF (by rfl) m_tuple (by decide +kernel) (la_cons (ao_var 3 (pv 3)) la_nil)))))))

theorem scA__law_exchanged : FnScope ["_law_row", "_law_k"] ["_law_row", "_law_k"] (defScope s__law_exchanged) := ⟨rfl, rfl, rfl, by decide +kernel, rfl, by decide +kernel, by decide +kernel⟩
def b__law_exchanged : AST := (sRet (a2 vAdd (oV (a2 vAdd (oV (aSl (oVar 0) ptNone (ptSome (aVar 1)))) (oV (aTup (lCons (oV (a2 vIx (oVar 0) (oV (a2 vAdd (oVar 1) (oV (aC (.int 1))))))) (lCons (oV (a2 vIx (oVar 0) (oVar 1))) lNil)))))) (oV (aSl (oVar 0) (ptSome (a2 vAdd (oVar 1) (oV (aC (.int 2))))) ptNone))))
def F__law_exchanged : AF := fnF [.dat, .dat] 0 (b__law_exchanged)
theorem okA__law_exchanged {P : Program} {w : World} {K : PySem.W.Frag} {mg : Str → Option Value} {base : Heap} {f  : Addr} {fd  : FuncData} {m : Nat} (F : Fun K "_law_exchanged" "_law_exchanged" s__law_exchanged f fd)
     : FnOk P w K mg base CX0 (m + 1) f fd ["_law_row", "_law_k"] (spA [.dat, .dat] F__law_exchanged) :=
  fn_ok F scA__law_exchanged rfl rfl fun cdv A outer s H E hr =>
    (as_one (as_ret (ae_op dop_add op_addA (ao_V (ae_op dop_add op_addA (ao_V (ae_sl (ao_var 0 (pv 0)) pt_none (pt_some (ae_var 1 (pv 1))))) (ao_V (ae_tup (la_cons (ao_V (ae_ix (ao_var 0 (pv 0)) (ao_V (ae_op dop_add op_addA (ao_var 1 (pv 1)) (ao_V ae_int))) (fun _ _ => rfl))) (la_cons (ao_V (ae_ix (ao_var 0 (pv 0)) (ao_var 1 (pv 1)) (fun _ _ => rfl))) la_nil)))))) (ao_V (ae_sl (ao_var 0 (pv 0)) (pt_some (ae_op dop_add op_addA (ao_var 1 (pv 1)) (ao_V ae_int))) pt_none)))))

theorem scA__law_road : FnScope ["_law_deck_here", "_law_dishes", "_law_steps", "_law_found", "_law_done", "_law_turn", "_law_row", "_law_k", "_law_pairs_here", "_law_some"] ["_law_deck_here", "_law_dishes", "_law_steps"] (defScope s__law_road) := ⟨rfl, rfl, rfl, by decide +kernel, rfl, by decide +kernel, by decide +kernel⟩
def b__law_road (P__law_list : AF) (P__law_one : AF) (P__law_exchanged : AF) : AST := (sSeq (sSetO 3 (aLst (lCons (oV (aCall [.deck, .dat] (calm P__law_list) (lCons (oVar 0) (lCons (oV (aVar 1)) lNil)))) lNil)))
    (sSeq (sSetO 4 (aLst lNil))
    (sSeq (sFor (iRange1 (lCons (oVar 2) lNil)) (bNm 5)
    (sSeq (sSet 6 (a2 vIx (oVar 3) (oV (aNeg (oV (aC (.int 1)))))))
    (sSeq (sSet 8 (aLc (iRange1 (lCons (oV (a2 vSub (oVar 1) (oV (aC (.int 1))))) lNil)) (bNm 7) tYesA (aBlt fTuple (lCons (oV (aBlt fSorted (lCons (oV (aSl (oVar 6) (ptSome (aVar 7)) (ptSome (a2 vAdd (oVar 7) (oV (aC (.int 2))))))) lNil))) lNil)) [7]))
    (sSeq (sSet 9 (aLc (iRange1 (lCons (oV (a2 vSub (oVar 1) (oV (aC (.int 1))))) lNil)) (bNm 7) (tV (a2 vNotIn (oV (a2 vIx (oVar 8) (oVar 7))) (oVar 4))) (aVar 7) [7]))
    (sIf (tV (a2 vNeE (oVar 9) (oV (aLst lNil))))
    (sSeq (sSet 7 (aCall [.deck, .bor] (calm P__law_one) (lCons (oVar 0) (lCons (oVar 9) lNil))))
    (sSeq (sDrop (aMut mApp 4 (lCons (oV (a2 vIx (oVar 8) (oVar 7))) lNil)))
    (sDrop (aMut mApp 3 (lCons (oV (aCall0 [.dat, .dat] (calm P__law_exchanged) (lCons (oV (aVar 6)) (lCons (oV (aVar 7)) lNil)))) lNil)))))
    sNx)))))
    (sRetV 3))))
def F__law_road : AF := fnF [.deck, .dat, .dat] 7 (b__law_road F__law_list F__law_one F__law_exchanged)
theorem okA__law_road {P : Program} {w : World} {K : PySem.W.Frag} {mg : Str → Option Value} {base : Heap} {f f__law_list f__law_one f__law_exchanged : Addr} {fd d__law_list d__law_one d__law_exchanged : FuncData} {m : Nat} (F : Fun K "_law_road" "_law_road" s__law_road f fd)
    (k__law_list : PySem.W.keepIn K (.ref f__law_list) = true) (b__law_list : Binds K d__law_list ["_law_deck_here", "_law_dishes"] []) (g__law_list : mg "_law_list" = some (.ref f__law_list)) (G__law_list : FnOk P w K mg base CX0 m f__law_list d__law_list ["_law_deck_here", "_law_dishes"] (spA [.deck, .dat] F__law_list))
    (k__law_one : PySem.W.keepIn K (.ref f__law_one) = true) (b__law_one : Binds K d__law_one ["_law_deck_here", "_law_some"] []) (g__law_one : mg "_law_one" = some (.ref f__law_one)) (G__law_one : FnOk P w K mg base CX0 m f__law_one d__law_one ["_law_deck_here", "_law_some"] (spA [.deck, .bor] F__law_one))
    (k__law_exchanged : PySem.W.keepIn K (.ref f__law_exchanged) = true) (b__law_exchanged : Binds K d__law_exchanged ["_law_row", "_law_k"] []) (g__law_exchanged : mg "_law_exchanged" = some (.ref f__law_exchanged)) (G__law_exchanged : FnOk P w K mg base CX0 m f__law_exchanged d__law_exchanged ["_law_row", "_law_k"] (spA [.dat, .dat] F__law_exchanged))
    (m_range : mg "range" = none) (m_tuple : mg "tuple" = none) (m_sorted : mg "sorted" = none) : FnOk P w K mg base CX0 (m + 1) f fd ["_law_deck_here", "_law_dishes", "_law_steps"] (spA [.deck, .dat, .dat] F__law_road) :=
  fn_ok F scA__law_road rfl rfl fun cdv A outer s H E hr =>
    (as_cons (as_setO (i := 3) scA__law_road.nd rfl (.inl rfl) (af_lst 3 (la_cons (ao_V (ae_call G__law_list hr (by rfl) g__law_list k__law_list b__law_list (la_cons (ao_var 0 (pv 0)) (la_cons (ao_V (ae_var 1 (pv 1))) la_nil)))) la_nil)))
      (as_cons (as_setO (i := 4) scA__law_road.nd rfl (.inr rfl) (af_lst 4 la_nil))
      (as_cons (as_for PassesOwn.never rfl (ai_range1 (by rfl) m_range (la_cons (ao_var 2 (pv 2)) la_nil)) (ag_name (pg_name (i := 5) scA__law_road.nd rfl (.inl rfl))) (as_cons (as_set (i := 6) scA__law_road.nd rfl (.inr rfl) (ae_ix (ao_var 3 (pv 3)) (ao_V (ae_neg (ao_V ae_int))) (fun _ _ => rfl)))
      (as_cons (as_set (i := 8) scA__law_road.nd rfl (.inr rfl) (ae_F (af_lc 0 (own := [("_law_k", 7)]) (by rfl) scA__law_road.nd (ai_range1 (by rfl) m_range (la_cons (ao_V (ae_op dop_sub op_subA (ao_var 1 (pv 1)) (ao_V ae_int))) la_nil)) (blkOk_by (own := [("_law_k", 7)]) (N := ["_law_deck_here", "_law_dishes", "_law_steps", "_law_found", "_law_done", "_law_turn", "_law_row", "_law_k", "_law_pairs_here", "_law_some"]) (sc := defScope s__law_road) (by decide +kernel)) (fun _ _ _ _ _ => (ag_name (pg_name (i := 7) scA__law_road.nd rfl (Or.inl rfl)))) (fun _ _ _ _ _ => ts_nil) (fun _ _ _ _ _ => (ae_blt dc_tuple (pe_callTy call_tupleF (by rfl) m_tuple (by decide +kernel) (la_cons (ao_V (ae_F (af_blt 0 dc_sorted (pe_callB (cr_sortedA (u65 hr)) (by rfl) m_sorted (by decide +kernel) (la_cons (ao_V (ae_sl (ao_var 6 (pv 6)) (pt_some (ae_var 7 (pv 7))) (pt_some (ae_op dop_add op_addA (ao_var 7 (pv 7)) (ao_V ae_int))))) la_nil))))) la_nil)))))))
      (as_cons (as_setLc 9 rfl rfl (sw_true rfl rfl rfl (by decide +kernel)) (own := [("_law_k", 7)]) (by rfl) scA__law_road.nd (ai_range1 (by rfl) m_range (la_cons (ao_V (ae_op dop_sub op_subA (ao_var 1 (pv 1)) (ao_V ae_int))) la_nil)) (blkOk_by (own := [("_law_k", 7)]) (N := ["_law_deck_here", "_law_dishes", "_law_steps", "_law_found", "_law_done", "_law_turn", "_law_row", "_law_k", "_law_pairs_here", "_law_some"]) (sc := defScope s__law_road) (by decide +kernel)) (fun _ _ _ _ _ => (ag_name (pg_name (i := 7) scA__law_road.nd rfl (Or.inl rfl)))) (fun _ _ _ _ _ => (ts_one (cmp_test dop_notIn (op_notInA (u65 hr)) (ao_V (ae_ix (ao_var 8 (pv 8)) (ao_var 7 (pv 7)) (fun _ _ => rfl))) (ao_var 4 (pv 4)) (by rfl)))) (fun _ _ _ _ _ => (ae_var 7 (pv 7))))
      (as_one (as_if (cmp_test dop_neE (op_neE hr.units) (ao_var 9 (pv 9)) (ao_V (ae_F (af_lst 0 la_nil))) (nomark _)) (as_cons (as_set (i := 7) scA__law_road.nd rfl (.inl rfl) (ae_call G__law_one hr (by rfl) g__law_one k__law_one b__law_one (la_cons (ao_var 0 (pv 0)) (la_cons (ao_var 9 (pv 9)) la_nil))))
      (as_cons (as_expr (ae_mut dm_app (pe_bm PySem.F.plainAttrs_list PySem.F.slot_list_append PySem.F.type_list_append mt_append (pv 4) (la_cons (ao_V (ae_ix (ao_var 8 (pv 8)) (ao_var 7 (pv 7)) (fun _ _ => rfl))) la_nil))))
      (as_one (as_expr (ae_mut dm_app (pe_bm PySem.F.plainAttrs_list PySem.F.slot_list_append PySem.F.type_list_append mt_append (pv 3) (la_cons (ao_V (ae_call0 G__law_exchanged (by decide) hr (by rfl) g__law_exchanged k__law_exchanged b__law_exchanged (la_cons (ao_V (ae_var 6 (pv 6))) (la_cons (ao_V (ae_var 7 (pv 7))) la_nil)))) la_nil))))))) as_nil))))))
      (as_one (as_retV 3 (pv 3))))))

theorem scA__law_seated : FnScope ["_law_deck_here", "_law_dishes", "_law_many", "_law_road_here", "_law_k"] ["_law_deck_here", "_law_dishes", "_law_many"] (defScope s__law_seated) := ⟨rfl, rfl, rfl, by decide +kernel, rfl, by decide +kernel, by decide +kernel⟩
def b__law_seated (P__law_road : AF) (P__law_next : AF) (P__law_people : AF) (P__law_one : AF) : AST := (sSeq (sSet 3 (aCall [.deck, .dat, .dat] (calm P__law_road) (lCons (oVar 0) (lCons (oV (aVar 1)) (lCons (oV (a2 vIx (oV (aLst (lCons (oV (aC (.int 2))) (lCons (oV (aC (.int 5))) (lCons (oV (aC (.int 28))) lNil))))) (oV (aCall [.deck, .dat] (calm P__law_next) (lCons (oVar 0) (lCons (oV (aC (.int 3))) lNil)))))) lNil)))))
    (sRet (aTup (lCons (oV (aVar 1)) (lCons (oV (aBlt fTuple (lCons (oV (aLc (iRange1 (lCons (oVar 2) lNil)) (bNm 4) tYesA (aTup (lCons (oV (aCall [.deck, .bor] (calm P__law_one) (lCons (oVar 0) (lCons (oVar 3) lNil)))) (lCons (oV (aCall [.deck] (calm P__law_people) (lCons (oVar 0) lNil))) lNil))) [4])) lNil))) lNil)))))
def F__law_seated : AF := fnF [.deck, .dat, .dat] 2 (b__law_seated F__law_road F__law_next F__law_people F__law_one)
theorem okA__law_seated {P : Program} {w : World} {K : PySem.W.Frag} {mg : Str → Option Value} {base : Heap} {f f__law_road f__law_next f__law_people f__law_one : Addr} {fd d__law_road d__law_next d__law_people d__law_one : FuncData} {m : Nat} (F : Fun K "_law_seated" "_law_seated" s__law_seated f fd)
    (k__law_road : PySem.W.keepIn K (.ref f__law_road) = true) (b__law_road : Binds K d__law_road ["_law_deck_here", "_law_dishes", "_law_steps"] []) (g__law_road : mg "_law_road" = some (.ref f__law_road)) (G__law_road : FnOk P w K mg base CX0 m f__law_road d__law_road ["_law_deck_here", "_law_dishes", "_law_steps"] (spA [.deck, .dat, .dat] F__law_road))
    (k__law_next : PySem.W.keepIn K (.ref f__law_next) = true) (b__law_next : Binds K d__law_next ["_law_deck_here", "_law_many"] []) (g__law_next : mg "_law_next" = some (.ref f__law_next)) (G__law_next : FnOk P w K mg base CX0 m f__law_next d__law_next ["_law_deck_here", "_law_many"] (spA [.deck, .dat] F__law_next))
    (k__law_people : PySem.W.keepIn K (.ref f__law_people) = true) (b__law_people : Binds K d__law_people ["_law_deck_here"] []) (g__law_people : mg "_law_people" = some (.ref f__law_people)) (G__law_people : FnOk P w K mg base CX0 m f__law_people d__law_people ["_law_deck_here"] (spA [.deck] F__law_people))
    (k__law_one : PySem.W.keepIn K (.ref f__law_one) = true) (b__law_one : Binds K d__law_one ["_law_deck_here", "_law_some"] []) (g__law_one : mg "_law_one" = some (.ref f__law_one)) (G__law_one : FnOk P w K mg base CX0 m f__law_one d__law_one ["_law_deck_here", "_law_some"] (spA [.deck, .bor] F__law_one))
    (m_tuple : mg "tuple" = none) (m_range : mg "range" = none) : FnOk P w K mg base CX0 (m + 1) f fd ["_law_deck_here", "_law_dishes", "_law_many"] (spA [.deck, .dat, .dat] F__law_seated) :=
  fn_ok F scA__law_seated rfl rfl fun cdv A outer s H E hr =>
    (as_cons (as_set (i := 3) scA__law_seated.nd rfl (.inr rfl) (ae_call G__law_road hr (by rfl) g__law_road k__law_road b__law_road (la_cons (ao_var 0 (pv 0)) (la_cons (ao_V (ae_var 1 (pv 1))) (la_cons (ao_V (ae_ix (ao_V (ae_F (af_lst 0 (la_cons (ao_V ae_int) (la_cons (ao_V ae_int) (la_cons (ao_V ae_int) la_nil)))))) (ao_V (ae_call G__law_next hr (by rfl) g__law_next k__law_next b__law_next (la_cons (ao_var 0 (pv 0)) (la_cons (ao_V ae_int) la_nil)))) (fun _ _ => rfl))) la_nil)))))
      (as_one (as_ret (ae_tup (la_cons (ao_V (ae_var 1 (pv 1))) (la_cons (ao_V (ae_blt dc_tuple (pe_callTy call_tupleF (by rfl) m_tuple (by decide +kernel) (la_cons (ao_V (ae_F (af_lc 0 (own := [("_law_k", 4)]) (by rfl) scA__law_seated.nd (ai_range1 (by rfl) m_range (la_cons (ao_var 2 (pv 2)) la_nil)) (blkOk_by (own := [("_law_k", 4)]) (N := ["_law_deck_here", "_law_dishes", "_law_many", "_law_road_here", "_law_k"]) (sc := defScope s__law_seated) (by decide +kernel)) (fun _ _ _ _ _ => (ag_name (pg_name (i := 4) scA__law_seated.nd rfl (Or.inl rfl)))) (fun _ _ _ _ _ => ts_nil) (fun _ _ _ _ _ => (ae_tup (la_cons (ao_V (ae_call G__law_one hr (by rfl) g__law_one k__law_one b__law_one (la_cons (ao_var 0 (pv 0)) (la_cons (ao_var 3 (pv 3)) la_nil)))) (la_cons (ao_V (ae_call G__law_people hr (by rfl) g__law_people k__law_people b__law_people (la_cons (ao_var 0 (pv 0)) la_nil))) la_nil))))))) la_nil)))) la_nil))))))

theorem scA__law_pairs : FnScope ["_law_dishes", "_law_found", "_law_a", "_law_b"] ["_law_dishes"] (defScope s__law_pairs) := ⟨rfl, rfl, rfl, by decide +kernel, rfl, by decide +kernel, by decide +kernel⟩
def b__law_pairs : AST := (sSeq (sSetO 1 (aLst lNil))
    (sSeq (sFor (iRange1 (lCons (oVar 0) lNil)) (bNm 2)
    (sDrop (aMut mExt 1 (lCons (oV (aLc (iRange2 (lCons (oV (a2 vAdd (oVar 2) (oV (aC (.int 1))))) (lCons (oVar 0) lNil))) (bNm 3) tYesA (aTup (lCons (oV (aVar 2)) (lCons (oV (aVar 3)) lNil))) [3])) lNil))))
    (sRetV 1)))
def F__law_pairs : AF := fnF [.dat] 3 (b__law_pairs)
theorem okA__law_pairs {P : Program} {w : World} {K : PySem.W.Frag} {mg : Str → Option Value} {base : Heap} {f  : Addr} {fd  : FuncData} {m : Nat} (F : Fun K "_law_pairs" "_law_pairs" s__law_pairs f fd)
    (m_range : mg "range" = none) : FnOk P w K mg base CX0 (m + 1) f fd ["_law_dishes"] (spA [.dat] F__law_pairs) :=
  fn_ok F scA__law_pairs rfl rfl fun cdv A outer s H E hr =>
    (as_cons (as_setO (i := 1) scA__law_pairs.nd rfl (.inl rfl) (af_lst 1 la_nil))
      (as_cons (as_for PassesOwn.never rfl (ai_range1 (by rfl) m_range (la_cons (ao_var 0 (pv 0)) la_nil)) (ag_name (pg_name (i := 2) scA__law_pairs.nd rfl (.inr rfl))) (as_one (as_expr (ae_mut dm_ext (pe_bm PySem.F.plainAttrs_list PySem.F.slot_list_extend PySem.F.type_list_extend mt_extend (pv 1) (la_cons (ao_V (ae_F (af_lc 0 (own := [("_law_b", 3)]) (by rfl) scA__law_pairs.nd (ai_range2 (by rfl) m_range (la_cons (ao_V (ae_op dop_add op_addA (ao_var 2 (pv 2)) (ao_V ae_int))) (la_cons (ao_var 0 (pv 0)) la_nil))) (blkOk_by (own := [("_law_b", 3)]) (N := ["_law_dishes", "_law_found", "_law_a", "_law_b"]) (sc := defScope s__law_pairs) (by decide +kernel)) (fun _ _ _ _ _ => (ag_name (pg_name (i := 3) scA__law_pairs.nd rfl (Or.inl rfl)))) (fun _ _ _ _ _ => ts_nil) (fun _ _ _ _ _ => (ae_tup (la_cons (ao_V (ae_var 2 (pv 2))) (la_cons (ao_V (ae_var 3 (pv 3))) la_nil))))))) la_nil))))))
      (as_one (as_retV 1 (pv 1)))))

theorem scA__law_right : FnScope ["_law_table", "_law_middle", "_law_beaten", "_law_even", "_law_a", "_law_b", "_law_ways", "_law_told", "_law_row"] ["_law_table"] (defScope s__law_right) := ⟨rfl, rfl, rfl, by decide +kernel, rfl, by decide +kernel, by decide +kernel⟩
def b__law_right (P_medians : AF) (P_rankings_of : AF) (P_ties : AF) (P_majority : AF) (P__law_pairs : AF) (P_support : AF) (P_total_weight : AF) : AST := (sSeq (sSet 1 (aCall [.dat] (calm P_medians) (lCons (oV (aVar 0)) lNil)))
    (sSeq (sIf (tOrA (tV (a2 vNotIn (oV (aBlt fLen (lCons (oVar 1) lNil))) (oV (aTup (lCons (oV (aC (.int 1))) (lCons (oV (aC (.int 2))) lNil)))))) (tV (a2 vNeE (oV (aLc (iSeq (oVar 1)) (bNm 8) (tV (a2 vNotIn (oVar 8) (oV (aCall0 [.dat] (calm P_rankings_of) (lCons (oV (aVar 0)) lNil))))) (aVar 8) [8])) (oV (aLst lNil)))))
    (sRet (aC (.bool false)))
    sNx)
    (sSeq (sPar 2 3 (lCons (oV (aCall0 [.dat] (calm P_majority) (lCons (oV (aVar 0)) lNil))) (lCons (oV (aCall0 [.dat] (calm P_ties) (lCons (oV (aVar 0)) lNil))) lNil)))
    (sSeq (sFor (iSeq (oV (aCall0 [.dat] (calm P__law_pairs) (lCons (oV (a2 vIx (oVar 0) (oV (aC (.int 0))))) lNil)))) (bTup 2 (bCons (bNm 4) (bCons (bNm 5) bNil)))
    (sSeq (sSet 6 (aLc (iSeq (oVar 1)) (bNm 8) tYesA (a2 vLt (oV (aIdx (oVar 8) (lCons (oVar 4) lNil))) (oV (aIdx (oVar 8) (lCons (oVar 5) lNil)))) [8]))
    (sSeq (sSet 7 (aLst (lCons (oV (a2 vIn (oV (aTup (lCons (oV (aVar 4)) (lCons (oV (aVar 5)) lNil)))) (oVar 2))) (lCons (oV (a2 vIn (oV (aTup (lCons (oV (aVar 5)) (lCons (oV (aVar 4)) lNil)))) (oVar 2))) (lCons (oV (a2 vIn (oV (aTup (lCons (oV (aVar 4)) (lCons (oV (aVar 5)) lNil)))) (oVar 3))) lNil)))))
    (sSeq (sIf (tV (a2 vNe (oVar 7) (oV (aLst (lCons (oV (a2 vNotIn (oV (aC (.bool false))) (oVar 6))) (lCons (oV (a2 vNotIn (oV (aC (.bool true))) (oVar 6))) (lCons (oV (a2 vEq (oV (aLenSB (aVar 6))) (oV (aC (.int 2))))) lNil)))))))
    (sRet (aC (.bool false)))
    sNx)
    (sIf (tV (a2 vNe (oV (a2 vAdd (oV (aCall0 [.dat, .dat, .dat] (calm P_support) (lCons (oV (aVar 0)) (lCons (oV (aVar 4)) (lCons (oV (aVar 5)) lNil))))) (oV (aCall0 [.dat, .dat, .dat] (calm P_support) (lCons (oV (aVar 0)) (lCons (oV (aVar 5)) (lCons (oV (aVar 4)) lNil))))))) (oV (aCall0 [.dat] (calm P_total_weight) (lCons (oV (aVar 0)) lNil)))))
    (sRet (aC (.bool false)))
    sNx)))))
    (sSeq (sIf (tV (a2 vEq (oV (aBlt fLen (lCons (oVar 1) lNil))) (oV (aC (.int 1)))))
    (sRet (a2 vEq (oV (aBlt fLen (lCons (oVar 2) lNil))) (oV (aBlt fLen (lCons (oV (aCall0 [.dat] (calm P__law_pairs) (lCons (oV (a2 vIx (oVar 0) (oV (aC (.int 0))))) lNil))) lNil)))))
    sNx)
    (sRet (a2 vLt (oV (a2 vIx (oVar 1) (oV (aC (.int 0))))) (oV (a2 vIx (oVar 1) (oV (aC (.int 1))))))))))))
def F__law_right : AF := fnF [.dat] 8 (b__law_right F_medians F_rankings_of F_ties F_majority F__law_pairs F_support F_total_weight)
theorem okA__law_right {P : Program} {w : World} {K : PySem.W.Frag} {mg : Str → Option Value} {base : Heap} {f f_medians f_rankings_of f_ties f_majority f__law_pairs f_support f_total_weight : Addr} {fd d_medians d_rankings_of d_ties d_majority d__law_pairs d_support d_total_weight : FuncData} {T : List (Addr × Str)} {m : Nat} (F : Fun K "_law_right" "_law_right" s__law_right f fd)
    (k_medians : PySem.W.keepIn K (.ref f_medians) = true) (b_medians : Binds K d_medians ["table"] []) (g_medians : mg "medians" = some (.ref f_medians)) (G_medians : FnOk P w K mg base CX0 m f_medians d_medians ["table"] (spAT T [.dat] F_medians))
    (k_rankings_of : PySem.W.keepIn K (.ref f_rankings_of) = true) (b_rankings_of : Binds K d_rankings_of ["table"] []) (g_rankings_of : mg "rankings_of" = some (.ref f_rankings_of)) (G_rankings_of : FnOk P w K mg base CX0 m f_rankings_of d_rankings_of ["table"] (spA [.dat] F_rankings_of))
    (k_ties : PySem.W.keepIn K (.ref f_ties) = true) (b_ties : Binds K d_ties ["table"] []) (g_ties : mg "ties" = some (.ref f_ties)) (G_ties : FnOk P w K mg base CX0 m f_ties d_ties ["table"] (spA [.dat] F_ties))
    (k_majority : PySem.W.keepIn K (.ref f_majority) = true) (b_majority : Binds K d_majority ["table"] []) (g_majority : mg "majority" = some (.ref f_majority)) (G_majority : FnOk P w K mg base CX0 m f_majority d_majority ["table"] (spA [.dat] F_majority))
    (k__law_pairs : PySem.W.keepIn K (.ref f__law_pairs) = true) (b__law_pairs : Binds K d__law_pairs ["_law_dishes"] []) (g__law_pairs : mg "_law_pairs" = some (.ref f__law_pairs)) (G__law_pairs : FnOk P w K mg base CX0 m f__law_pairs d__law_pairs ["_law_dishes"] (spA [.dat] F__law_pairs))
    (k_support : PySem.W.keepIn K (.ref f_support) = true) (b_support : Binds K d_support ["table", "one", "other"] []) (g_support : mg "support" = some (.ref f_support)) (G_support : FnOk P w K mg base CX0 m f_support d_support ["table", "one", "other"] (spA [.dat, .dat, .dat] F_support))
    (k_total_weight : PySem.W.keepIn K (.ref f_total_weight) = true) (b_total_weight : Binds K d_total_weight ["table"] []) (g_total_weight : mg "total_weight" = some (.ref f_total_weight)) (G_total_weight : FnOk P w K mg base CX0 m f_total_weight d_total_weight ["table"] (spA [.dat] F_total_weight))
    (m_len : mg "len" = none) (m_set : mg "set" = none) : FnOk P w K mg base CX0 (m + 1) f fd ["_law_table"] (spAT T [.dat] F__law_right) :=
  fn_ok F scA__law_right rfl rfl fun cdv A outer s H E hr =>
    (as_cons (as_set (i := 1) scA__law_right.nd rfl (.inl rfl) (ae_call G_medians hr (by rfl) g_medians k_medians b_medians (la_cons (ao_V (ae_var 0 (pv 0))) la_nil)))
      (as_cons (as_if (PW.pt (aw_or (cmp_test dop_notIn (op_notInA (u65 hr)) (ao_V (ae_blt dc_len (pe_callB call_len (by rfl) m_len PySem.boot_len (la_cons (ao_var 1 (pv 1)) la_nil)))) (ao_V (ae_tup (la_cons (ao_V ae_int) (la_cons (ao_V ae_int) la_nil)))) (by rfl)) (aw_or1 (cmp_test dop_neE (op_neE hr.units) (ao_V (ae_F (af_lc 0 (own := [("_law_row", 8)]) (by rfl) scA__law_right.nd (ai_seq (ao_var 1 (pv 1))) (blkOk_by (own := [("_law_row", 8)]) (N := ["_law_table", "_law_middle", "_law_beaten", "_law_even", "_law_a", "_law_b", "_law_ways", "_law_told", "_law_row"]) (sc := defScope s__law_right) (by decide +kernel)) (fun _ _ _ _ _ => (ag_name (pg_name (i := 8) scA__law_right.nd rfl (Or.inl rfl)))) (fun _ _ _ _ _ => (ts_one (cmp_test dop_notIn (op_notInA (u65 hr)) (ao_var 8 (pv 8)) (ao_V (ae_call0 G_rankings_of (by decide) hr (by rfl) g_rankings_of k_rankings_of b_rankings_of (la_cons (ao_V (ae_var 0 (pv 0))) la_nil))) (by rfl)))) (fun _ _ _ _ _ => (ae_var 8 (pv 8)))))) (ao_V (ae_F (af_lst 0 la_nil))) (nomark _))))) (as_one (as_ret ae_bl)) as_nil)
      (as_cons (as_par (ps_par (i := 2) (j := 3) (by rfl) scA__law_right.nd rfl rfl (by decide) rfl rfl (la_cons (ao_V (ae_call0 G_majority (by decide) hr (by rfl) g_majority k_majority b_majority (la_cons (ao_V (ae_var 0 (pv 0))) la_nil))) (la_cons (ao_V (ae_call0 G_ties (by decide) hr (by rfl) g_ties k_ties b_ties (la_cons (ao_V (ae_var 0 (pv 0))) la_nil))) la_nil)) (by rfl)))
      (as_cons (as_for PassesOwn.never rfl (ai_seq (ao_V (ae_call0 G__law_pairs (by decide) hr (by rfl) g__law_pairs k__law_pairs b__law_pairs (la_cons (ao_V (ae_ix (ao_var 0 (pv 0)) (ao_V ae_int) (fun _ _ => rfl))) la_nil)))) (ag_tup (by rfl) (ags_cons (ag_name (pg_name (i := 4) scA__law_right.nd rfl (.inr rfl))) (ags_cons (ag_name (pg_name (i := 5) scA__law_right.nd rfl (.inr rfl))) ags_nil))) (as_cons (as_setLc 6 rfl rfl (sw_true rfl rfl rfl (by decide +kernel)) (own := [("_law_row", 8)]) (by rfl) scA__law_right.nd (ai_seq (ao_var 1 (pv 1))) (blkOk_by (own := [("_law_row", 8)]) (N := ["_law_table", "_law_middle", "_law_beaten", "_law_even", "_law_a", "_law_b", "_law_ways", "_law_told", "_law_row"]) (sc := defScope s__law_right) (by decide +kernel)) (fun _ _ _ _ _ => (ag_name (pg_name (i := 8) scA__law_right.nd rfl (Or.inl rfl)))) (fun _ _ _ _ _ => ts_nil) (fun _ _ _ _ _ => (ae_cmp dop_lt (op_ltA hr.units) (ao_V (ae_idx (pe_bmT (r := rTupIdx K) PySem.F.slot_tuple_index PySem.F.type_tuple_index mt_tupIdx (ao_var 8 (pv 8)) (la_cons (ao_var 4 (pv 4)) la_nil)))) (ao_V (ae_idx (pe_bmT (r := rTupIdx K) PySem.F.slot_tuple_index PySem.F.type_tuple_index mt_tupIdx (ao_var 8 (pv 8)) (la_cons (ao_var 5 (pv 5)) la_nil)))) (nomark _))))
      (as_cons (as_set (i := 7) scA__law_right.nd rfl (.inl rfl) (ae_F (af_lst 0 (la_cons (ao_V (ae_cmp dop_in (op_inA (u65 hr)) (ao_V (ae_tup (la_cons (ao_V (ae_var 4 (pv 4))) (la_cons (ao_V (ae_var 5 (pv 5))) la_nil)))) (ao_var 2 (pv 2)) (by rfl))) (la_cons (ao_V (ae_cmp dop_in (op_inA (u65 hr)) (ao_V (ae_tup (la_cons (ao_V (ae_var 5 (pv 5))) (la_cons (ao_V (ae_var 4 (pv 4))) la_nil)))) (ao_var 2 (pv 2)) (by rfl))) (la_cons (ao_V (ae_cmp dop_in (op_inA (u65 hr)) (ao_V (ae_tup (la_cons (ao_V (ae_var 4 (pv 4))) (la_cons (ao_V (ae_var 5 (pv 5))) la_nil)))) (ao_var 3 (pv 3)) (by rfl))) la_nil))))))
      (as_cons (as_if (cmp_test dop_ne (op_neA hr.units) (ao_var 7 (pv 7)) (ao_V (ae_F (af_lst 0 (la_cons (ao_V (ae_cmp dop_notIn (op_notInA (u65 hr)) (ao_V ae_bl) (ao_var 6 (pv 6)) (by rfl))) (la_cons (ao_V (ae_cmp dop_notIn (op_notInA (u65 hr)) (ao_V ae_bl) (ao_var 6 (pv 6)) (by rfl))) (la_cons (ao_V (ae_cmp dop_eq (op_eqA hr.units) (ao_V (ae_lenSB (by rfl) m_len (by rfl) m_set (ae_var 6 (pv 6)))) (ao_V ae_int) (nomark _))) la_nil)))))) (nomark _)) (as_one (as_ret ae_bl)) as_nil)
      (as_one (as_if (cmp_test dop_ne (op_neA hr.units) (ao_V (ae_op dop_add op_addA (ao_V (ae_call0 G_support (by decide) hr (by rfl) g_support k_support b_support (la_cons (ao_V (ae_var 0 (pv 0))) (la_cons (ao_V (ae_var 4 (pv 4))) (la_cons (ao_V (ae_var 5 (pv 5))) la_nil))))) (ao_V (ae_call0 G_support (by decide) hr (by rfl) g_support k_support b_support (la_cons (ao_V (ae_var 0 (pv 0))) (la_cons (ao_V (ae_var 5 (pv 5))) (la_cons (ao_V (ae_var 4 (pv 4))) la_nil))))))) (ao_V (ae_call0 G_total_weight (by decide) hr (by rfl) g_total_weight k_total_weight b_total_weight (la_cons (ao_V (ae_var 0 (pv 0))) la_nil))) (nomark _)) (as_one (as_ret ae_bl)) as_nil))))))
      (as_cons (as_if (cmp_test dop_eq (op_eqA hr.units) (ao_V (ae_blt dc_len (pe_callB call_len (by rfl) m_len PySem.boot_len (la_cons (ao_var 1 (pv 1)) la_nil)))) (ao_V ae_int) (nomark _)) (as_one (as_ret (ae_cmp dop_eq (op_eqA hr.units) (ao_V (ae_blt dc_len (pe_callB call_len (by rfl) m_len PySem.boot_len (la_cons (ao_var 2 (pv 2)) la_nil)))) (ao_V (ae_blt dc_len (pe_callB call_len (by rfl) m_len PySem.boot_len (la_cons (ao_V (ae_call0 G__law_pairs (by decide) hr (by rfl) g__law_pairs k__law_pairs b__law_pairs (la_cons (ao_V (ae_ix (ao_var 0 (pv 0)) (ao_V ae_int) (fun _ _ => rfl))) la_nil))) la_nil)))) (nomark _)))) as_nil)
      (as_one (as_ret (ae_cmp dop_lt (op_ltA hr.units) (ao_V (ae_ix (ao_var 1 (pv 1)) (ao_V ae_int) (fun _ _ => rfl))) (ao_V (ae_ix (ao_var 1 (pv 1)) (ao_V ae_int) (fun _ _ => rfl))) (nomark _)))))))))

theorem scA_law : FnScope ["_law_script", "_law_deck_here", "_law_turn", "_law_table", "_law_tasters", "_law_row", "_law_people_here"] ["_law_script"] (defScope s_law) := ⟨rfl, rfl, rfl, by decide +kernel, rfl, by decide +kernel, by decide +kernel⟩
def b_law (P__law_seated : AF) (P__law_next : AF) (P__law_right : AF) : AST := (sSeq (sFor (iRange1 (lCons (oV (aC (.int 6))) lNil)) (bNm 2)
    (sSeq (sSet 3 (aCall [.deck, .dat, .dat] (calm P__law_seated) (lCons (oVar 1) (lCons (oV (a2 vAdd (oV (aC (.int 1))) (oV (aCall [.deck, .dat] (calm P__law_next) (lCons (oVar 1) (lCons (oV (aC (.int 8))) lNil)))))) (lCons (oV (a2 vAdd (oV (aC (.int 1))) (oV (aCall [.deck, .dat] (calm P__law_next) (lCons (oVar 1) (lCons (oV (aC (.int 16))) lNil)))))) lNil)))))
    (sSeq (sIf (tNotA (tTruA (oV (aCall [.dat] (calm P__law_right) (lCons (oV (aVar 3)) lNil)))))
    (sRet (aC (.bool false)))
    sNx)
    (sSeq (sSet 4 (aBlt fTuple (lCons (oV (aLc (iSeq (oV (a2 vIx (oVar 3) (oV (aC (.int 1)))))) (bTup 2 (bCons (bNm 5) (bCons (bNm 6) bNil))) tYesA (aTup (lCons (oV (aVar 5)) (lCons (oV (aC (.int 1))) lNil))) [5, 6])) lNil)))
    (sSeq (sIf (tOrA (tNotA (tTruA (oV (aCall [.dat] (calm P__law_right) (lCons (oV (aTup (lCons (oV (a2 vIx (oVar 3) (oV (aC (.int 0))))) (lCons (oV (aVar 4)) lNil)))) lNil))))) (tNotA (tTruA (oV (aCall [.dat] (calm P__law_right) (lCons (oV (aTup (lCons (oV (a2 vIx (oVar 3) (oV (aC (.int 0))))) (lCons (oV (a2 vAdd (oV (aSl (oVar 4) ptNone (ptSome (aC (.int 1))))) (oV (aSl (oVar 4) (ptSome (aNeg (oV (aC (.int 1))))) ptNone)))) lNil)))) lNil))))))
    (sRet (aC (.bool false)))
    sNx)
    (sIf (tAndA (tV (a2 vLt (oV (aBlt fLen (lCons (oVar 4) lNil))) (oV (aC (.int 9))))) (tNotA (tTruA (oV (aCall [.dat] (calm P__law_right) (lCons (oV (aTup (lCons (oV (a2 vIx (oVar 3) (oV (aC (.int 0))))) (lCons (oV (a2 vAdd (oVar 4) (oVar 4))) lNil)))) lNil))))))
    (sRet (aC (.bool false)))
    sNx))))))
    (sRet (aC (.bool true))))
theorem okA_law {P : Program} {w : World} {K : PySem.W.Frag} {mg : Str → Option Value} {base : Heap} {f f__law_deck f__law_seated f__law_next f__law_right : Addr} {fd d__law_deck d__law_seated d__law_next d__law_right : FuncData} {T : List (Addr × Str)} {m : Nat} (F : Fun K "law" "law" s_law f fd)
    (k__law_deck : PySem.W.keepIn K (.ref f__law_deck) = true) (b__law_deck : Binds K d__law_deck ["_law_script"] []) (g__law_deck : mg "_law_deck" = some (.ref f__law_deck)) (G__law_deck : FnOk P w K mg base CX0 m f__law_deck d__law_deck ["_law_script"] (spDeck K))
    (k__law_seated : PySem.W.keepIn K (.ref f__law_seated) = true) (b__law_seated : Binds K d__law_seated ["_law_deck_here", "_law_dishes", "_law_many"] []) (g__law_seated : mg "_law_seated" = some (.ref f__law_seated)) (G__law_seated : FnOk P w K mg base CX0 m f__law_seated d__law_seated ["_law_deck_here", "_law_dishes", "_law_many"] (spA [.deck, .dat, .dat] F__law_seated))
    (k__law_next : PySem.W.keepIn K (.ref f__law_next) = true) (b__law_next : Binds K d__law_next ["_law_deck_here", "_law_many"] []) (g__law_next : mg "_law_next" = some (.ref f__law_next)) (G__law_next : FnOk P w K mg base CX0 m f__law_next d__law_next ["_law_deck_here", "_law_many"] (spA [.deck, .dat] F__law_next))
    (k__law_right : PySem.W.keepIn K (.ref f__law_right) = true) (b__law_right : Binds K d__law_right ["_law_table"] []) (g__law_right : mg "_law_right" = some (.ref f__law_right)) (G__law_right : FnOk P w K mg base CX0 m f__law_right d__law_right ["_law_table"] (spAT T [.dat] F__law_right))
    (m_range : mg "range" = none) (m_tuple : mg "tuple" = none) (m_len : mg "len" = none) (hb : lawF 5 (b_law F__law_seated F__law_next F__law_right)) : FnOk P w K mg base CX0 (m + 1) f fd ["_law_script"] (spLawT K T) :=
  law_okT F scA_law rfl hb fun cdv A outer s H E hr =>
    pss_cons (ps_asg (pe_call G__law_deck hr (by rfl) g__law_deck k__law_deck b__law_deck .nil pass0 (pa_cons (pv 0) pa_nil)) (pg_name (i := 1) scA_law.nd rfl (.inl rfl)))
      (as_cons (as_for PassesOwn.never rfl (ai_range1 (by rfl) m_range (la_cons (ao_V ae_int) la_nil)) (ag_name (pg_name (i := 2) scA_law.nd rfl (.inl rfl))) (as_cons (as_set (i := 3) scA_law.nd rfl (.inl rfl) (ae_call G__law_seated hr (by rfl) g__law_seated k__law_seated b__law_seated (la_cons (ao_var 1 (pv 1)) (la_cons (ao_V (ae_op dop_add op_addA (ao_V ae_int) (ao_V (ae_call G__law_next hr (by rfl) g__law_next k__law_next b__law_next (la_cons (ao_var 1 (pv 1)) (la_cons (ao_V ae_int) la_nil)))))) (la_cons (ao_V (ae_op dop_add op_addA (ao_V ae_int) (ao_V (ae_call G__law_next hr (by rfl) g__law_next k__law_next b__law_next (la_cons (ao_var 1 (pv 1)) (la_cons (ao_V ae_int) la_nil)))))) la_nil)))))
      (as_cons (as_if (at_not (at_tru (ao_V (ae_call G__law_right hr (by rfl) g__law_right k__law_right b__law_right (la_cons (ao_V (ae_var 3 (pv 3))) la_nil))))) (as_one (as_ret ae_bl)) as_nil)
      (as_cons (as_set (i := 4) scA_law.nd rfl (.inl rfl) (ae_blt dc_tuple (pe_callTy call_tupleF (by rfl) m_tuple (by decide +kernel) (la_cons (ao_V (ae_F (af_lc 0 (own := [("_law_row", 5), ("_law_people_here", 6)]) (by rfl) scA_law.nd (ai_seq (ao_V (ae_ix (ao_var 3 (pv 3)) (ao_V ae_int) (fun _ _ => rfl)))) (blkOk_by (own := [("_law_row", 5), ("_law_people_here", 6)]) (N := ["_law_script", "_law_deck_here", "_law_turn", "_law_table", "_law_tasters", "_law_row", "_law_people_here"]) (sc := defScope s_law) (by decide +kernel)) (fun _ _ _ _ _ => (ag_tup (by rfl) (ags_cons (ag_name (pg_name (i := 5) scA_law.nd rfl (Or.inl rfl))) (ags_cons (ag_name (pg_name (i := 6) scA_law.nd rfl (Or.inl rfl))) ags_nil)))) (fun _ _ _ _ _ => ts_nil) (fun _ _ _ _ _ => (ae_tup (la_cons (ao_V (ae_var 5 (pv 5))) (la_cons (ao_V ae_int) la_nil))))))) la_nil))))
      (as_cons (as_if (PW.pt (aw_or (at_not (at_tru (ao_V (ae_call G__law_right hr (by rfl) g__law_right k__law_right b__law_right (la_cons (ao_V (ae_tup (la_cons (ao_V (ae_ix (ao_var 3 (pv 3)) (ao_V ae_int) (fun _ _ => rfl))) (la_cons (ao_V (ae_var 4 (pv 4))) la_nil)))) la_nil))))) (aw_or1 (at_not (at_tru (ao_V (ae_call G__law_right hr (by rfl) g__law_right k__law_right b__law_right (la_cons (ao_V (ae_tup (la_cons (ao_V (ae_ix (ao_var 3 (pv 3)) (ao_V ae_int) (fun _ _ => rfl))) (la_cons (ao_V (ae_op dop_add op_addA (ao_V (ae_sl (ao_var 4 (pv 4)) pt_none (pt_some ae_int))) (ao_V (ae_sl (ao_var 4 (pv 4)) (pt_some (ae_neg (ao_V ae_int))) pt_none)))) la_nil)))) la_nil)))))))) (as_one (as_ret ae_bl)) as_nil)
      (as_one (as_if (PW.pt (aw_and (cmp_test dop_lt (op_ltA hr.units) (ao_V (ae_blt dc_len (pe_callB call_len (by rfl) m_len PySem.boot_len (la_cons (ao_var 4 (pv 4)) la_nil)))) (ao_V ae_int) (nomark _)) (aw_and1 (at_not (at_tru (ao_V (ae_call G__law_right hr (by rfl) g__law_right k__law_right b__law_right (la_cons (ao_V (ae_tup (la_cons (ao_V (ae_ix (ao_var 3 (pv 3)) (ao_V ae_int) (fun _ _ => rfl))) (la_cons (ao_V (ae_op dop_add op_addA (ao_var 4 (pv 4)) (ao_var 4 (pv 4)))) la_nil)))) la_nil)))))))) (as_one (as_ret ae_bl)) as_nil)))))))
      (as_one (as_ret ae_bl)))

end TR
namespace TR
open PySem PySem.Spec PyProof.Rows L2
def v_is_whole (a0 : PyData) : Bool := ((isNum a0) && (!(isBoo a0)))
def nb_is_whole : AST := (sRet (aAnd (aIsi "int" (oVar 0)) (aNot (aIsi "bool" (oVar 0)))))
theorem okS_is_whole {xp : XP} {D : AEnds} {n : Nat} (a0 : PyData)  (hq : D.rt (PyData.bool (v_is_whole a0)) n) : nb_is_whole xp D ⟨[some (.dat a0)], n⟩ := by
  unfold v_is_whole at hq; unfold nb_is_whole
  exact (c_ret (ev_and (ev_isi (ov_dat 0 rfl) rfl isi_int) (fun h1_ => (ev_not (ev_isi (ov_dat 0 rfl) rfl isi_bool)))) hq)
theorem okV_is_whole (a0 : PyData) : PFn F_is_whole [a0] (PyData.bool (v_is_whole a0)) := fun n Q X q => by
  unfold F_is_whole
  exact okS_is_whole (xp := fun x s => X x s.n) (D := { nx := fun s => Q .none s.n, rt := Q }) a0 q

def v_is_within (a0 : PyData) (a1 : Int) (a2 : Int) : Bool := ((v_is_whole a0) && ((decide (a1 ≤ (dI a0))) && (decide ((dI a0) ≤ a2))))
def C_is_within (a0 : PyData) (a1 : Int) (a2 : Int) : Prop := ((v_is_whole a0) = true → a0 = (PyData.int (dI a0)))
def nb_is_within : AST := (sRet (aAnd (aCall0 [.dat] (calm F_is_whole) (lCons (oV (aVar 0)) lNil)) (a3 vLe vLe (oVar 1) (oVar 0) (oVar 2))))
theorem okS_is_within {xp : XP} {D : AEnds} {n : Nat} (a0 : PyData) (a1 : Int) (a2 : Int)  (hC : C_is_within a0 a1 a2) (hq : D.rt (PyData.bool (v_is_within a0 a1 a2)) n) : nb_is_within xp D ⟨[some (.dat a0), some (.dat (PyData.int a1)), some (.dat (PyData.int a2))], n⟩ := by
  unfold C_is_within at hC; unfold v_is_within at hq; unfold nb_is_within
  exact (c_ret (ev_and (ev_call0 (lv_cons (ov_V (ev_var 0 rfl)) lv_nil) (fun _ q => q) (okV_is_whole a0)) (fun h1_ => (ev_a3 (ov_dat 1 rfl) (ov_cast (ov_dat 0 rfl) (hC h1_)) rfl rfl vf_leI (fun h2_ => (ov_dat 2 rfl)) rfl (fun h2_ => vf_leI)))) hq)
theorem okV_is_within (a0 : PyData) (a1 : Int) (a2 : Int) (hC : C_is_within a0 a1 a2) : PFn F_is_within [a0, (PyData.int a1), (PyData.int a2)] (PyData.bool (v_is_within a0 a1 a2)) := fun n Q X q => by
  unfold F_is_within
  exact okS_is_within (xp := fun x s => X x s.n) (D := { nx := fun s => Q .none s.n, rt := Q }) a0 a1 a2 hC q

def v_is_order (a0 : Int) (a1 : PyData) : Bool := (bif ((!(isTup a1)) || (!(((items a1).map fun x2_ : PyData => (v_is_whole x2_)).all id))) then false else (decide ((isort ((dQ dI) a1)) = (irange 0 a0))))
def C_is_order (a0 : Int) (a1 : PyData) : Prop := (((!(isTup a1)) = false → ((isTup a1 = true ∨ isLst a1 = true) ∧ (items a1).length ≤ sizeLine)) ∧ (((!(isTup a1)) || (!(((items a1).map fun x2_ : PyData => (v_is_whole x2_)).all id))) = false → (a1 = (eQ PyData.int ((dQ dI) a1)) ∧ RgOk 0 a0)))
def nb_is_order : AST := (sSeq (sIf (tOrA (tNotA (tTruA (oV (aIsi "tuple" (oVar 1))))) (tNotA (tTruA (oV (aBlt fAll (lCons (oV (aLc (iSeq (oVar 1)) (bNm 2) tYesA (aCall0 [.dat] (calm F_is_whole) (lCons (oV (aVar 2)) lNil)) [2])) lNil))))))
    (sRet (aC (.bool false)))
    sNx)
    (sRet (a2 vEq (oV (aBlt fSorted (lCons (oVar 1) lNil))) (oV (aListRg (rg1 (aVar 0)))))))
theorem okS_is_order {xp : XP} {D : AEnds} {n : Nat} (a0 : Int) (a1 : PyData)  (hC : C_is_order a0 a1) (hq : D.rt (PyData.bool (v_is_order a0 a1)) n) : nb_is_order xp D ⟨[some (.dat (PyData.int a0)), some (.dat a1), none], n⟩ := by
  unfold C_is_order at hC; unfold v_is_order at hq; unfold nb_is_order
  exact (c_seq (c_if (tv_or (tv_not (tv_tru (ov_V (ev_isi (ov_dat 1 rfl) rfl isi_tuple)) rfl tru_B)) (fun h1_ => (tv_not (tv_tru (ov_V (ev_blt (lv_cons (ov_V (ev_lcM eD PyData.bool (fun x2_ : PyData => (v_is_whole x2_)) (fun x2_ : PyData => (⟨[some (.dat (PyData.int a0)), some (.dat a1), some (.dat x2_)], n⟩ : AS)) (fun x2_ : PyData => (⟨[some (.dat (PyData.int a0)), some (.dat a1), some (.dat x2_)], n⟩ : AS)) (iv_valD (ov_dat 1 rfl) (hC.1 h1_).1) (hC.1 h1_).2 rfl True.intro (fun x2_ hx3_ => ((bv_nm 2).to rfl)) (fun x2_ hx3_ => (ev_call0 (lv_cons (ov_V (ev_var 2 rfl)) lv_nil) (fun _ q => q) (okV_is_whole x2_))) (fun _ _ => ⟨rfl, rfl⟩))) lv_nil) (rsl_cons rfl (fun _ q => q)) fv_all)) rfl tru_B)))) (fun h4_ => (c_ret ev_c (ifT (P := D) (f := PyData.bool) h4_ hq))) (fun h4_ => (c_pass (c_aft (c_ret (ev_a2 (ov_V (ev_blt (lv_cons (ov_cast (ov_dat 1 rfl) (hC.2 h4_).1) lv_nil) (rsl_cons rfl (fun _ q => q)) fv_sortedQ)) (ov_V (ev_listRg1 (ev_var 0 rfl) (hC.2 h4_).2)) rfl rfl (vf_eq (f := (eL PyData.int)) (lw_L lw_I) (sh_L (sh_I (k := 0))) rfl)) (ifF (P := D) (f := PyData.bool) h4_ hq)))))))
theorem okV_is_order (a0 : Int) (a1 : PyData) (hC : C_is_order a0 a1) : PFn F_is_order [(PyData.int a0), a1] (PyData.bool (v_is_order a0 a1)) := fun n Q X q => by
  unfold F_is_order
  exact okS_is_order (xp := fun x s => X x s.n) (D := { nx := fun s => Q .none s.n, rt := Q }) a0 a1 hC q

def v_ascending_tuples_s1 (a0 : Int) (a1 : Int) (a2 : (List (List Int))) : (List (List Int)) := (forV (fun (k3_ : ((List (List Int))) → (List (List Int))) (x2_ : Int) (w1_ : (List (List Int))) => (k3_ (((w1_.filter (fun x5_ : (List Int) => true)).flatMap fun x5_ : (List Int) => (((irange (bif (!x5_.isEmpty) then ((gl x5_) + (1 : Int)) else (0 : Int)) a0)).filter (fun y7_ : Int => true)).map fun y7_ : Int => (x5_ ++ [y7_]))))) (fun (w1_ : (List (List Int))) => w1_) (irange 0 a1) (a2))
def C_ascending_tuples_s1 (a0 : Int) (a1 : Int) (a2 : (List (List Int))) : Prop := (Rg a1 ∧ forV (fun (kC4_ : ((List (List Int))) → Prop) (x2_ : Int) (w1_ : (List (List Int))) => (((w1_.filter (fun x5_ : (List Int) => true)).flatMap fun x5_ : (List Int) => ((irange (bif (!x5_.isEmpty) then ((gl x5_) + (1 : Int)) else (0 : Int)) a0)).filter (fun y7_ : Int => true)).length ≤ sizeLine ∧ (∀ x5_ ∈ w1_, (((!x5_.isEmpty) = true → x5_ ≠ []) ∧ (Rg (bif (!x5_.isEmpty) then ((gl x5_) + (1 : Int)) else (0 : Int)) ∧ Rg a0) ∧ (∀ y7_ ∈ (irange (bif (!x5_.isEmpty) then ((gl x5_) + (1 : Int)) else (0 : Int)) a0), x5_.length + [y7_].length ≤ sizeLine))) ∧ kC4_ (((w1_.filter (fun x5_ : (List Int) => true)).flatMap fun x5_ : (List Int) => (((irange (bif (!x5_.isEmpty) then ((gl x5_) + (1 : Int)) else (0 : Int)) a0)).filter (fun y7_ : Int => true)).map fun y7_ : Int => (x5_ ++ [y7_]))))) (fun (w1_ : (List (List Int))) => True) (irange 0 a1) (a2))
def nb_ascending_tuples_s1 : AST := (sSeq (sFor (iRange1 (lCons (oVar 1) lNil)) (bNm 3)
    (sSet 2 (aLc2 (iSeq (oVar 2)) (bNm 4) tYesA (iRange2 (lCons (oV (aIfE (tTruA (oVar 4)) (a2 vAdd (oV (a2 vIx (oVar 4) (oV (aNeg (oV (aC (.int 1))))))) (oV (aC (.int 1)))) (aC (.int 0)))) (lCons (oVar 0) lNil))) (bNm 5) tYesA (a2 vAdd (oVar 4) (oV (aTup (lCons (oV (aVar 5)) lNil)))) [4, 5] [5])))
    (sRetV 2))
theorem okS_ascending_tuples_s1 {xp : XP} {D : AEnds} {n : Nat} (a0 : Int) (a1 : Int) (a2 : (List (List Int)))  (hC : C_ascending_tuples_s1 a0 a1 a2) (hq : D.rt (eL (eQ PyData.int) (v_ascending_tuples_s1 a0 a1 a2)) n) : nb_ascending_tuples_s1 xp D ⟨[some (.dat (PyData.int a0)), some (.dat (PyData.int a1)), some (.dat (eL (eQ PyData.int) a2)), none, none, none], n⟩ := by
  unfold C_ascending_tuples_s1 at hC; unfold v_ascending_tuples_s1 at hq; unfold nb_ascending_tuples_s1
  exact (c_seq (c_for (R := fun r => D.rt (eL (eQ PyData.int) r) n) PyData.int (fun (w1_ : (List (List Int))) (s : AS) => ∃ (q3 : Option AV), s = ⟨[some (.dat (PyData.int a0)), some (.dat (PyData.int a1)), some (.dat (eL (eQ PyData.int) w1_)), q3, none, none], n⟩) (iv_range1 (lv_cons (ov_dat 1 rfl) lv_nil) (fun _ q => q) hC.1) ⟨none, rfl⟩ hC.2 hq (fun x2_ w1_ s_ k3_ kC4_ N_ hi_ hC_ hq_ hN_ => by
    obtain ⟨q3, e_⟩ := hi_
    subst e_
    exact (g_bv ((bv_nm 3).to rfl) (c_set (ev_lc2 (eQ PyData.int) PyData.int (fun x5_ : (List Int) => true) (fun (x5_ : (List Int)) (y7_ : Int) => true) (fun x5_ : (List Int) => (irange (bif (!x5_.isEmpty) then ((gl x5_) + (1 : Int)) else (0 : Int)) a0)) (eQ PyData.int) (fun (x5_ : (List Int)) (y7_ : Int) => (x5_ ++ [y7_])) (fun x5_ : (List Int) => (⟨[some (.dat (PyData.int a0)), some (.dat (PyData.int a1)), some (.dat (eL (eQ PyData.int) w1_)), some (.dat (PyData.int x2_)), some (.dat (eQ PyData.int x5_)), none], n⟩ : AS)) (fun (x5_ : (List Int)) (y7_ : Int) => (⟨[some (.dat (PyData.int a0)), some (.dat (PyData.int a1)), some (.dat (eL (eQ PyData.int) w1_)), some (.dat (PyData.int x2_)), some (.dat (eQ PyData.int x5_)), some (.dat (PyData.int y7_))], n⟩ : AS)) (fun (x5_ : (List Int)) (y7_ : Int) => (⟨[some (.dat (PyData.int a0)), some (.dat (PyData.int a1)), some (.dat (eL (eQ PyData.int) w1_)), some (.dat (PyData.int x2_)), some (.dat (eQ PyData.int x5_)), some (.dat (PyData.int y7_))], n⟩ : AS)) (fun x5_ : (List Int) => AIt.fix (((irange (bif (!x5_.isEmpty) then ((gl x5_) + (1 : Int)) else (0 : Int)) a0)).map PyData.int)) (iv_valL (f := (eQ PyData.int)) (l := w1_) (ov_dat 2 rfl)) hC_.1 rfl True.intro (fun x5_ hx6_ => ((bv_nm 4).to rfl)) (fun x5_ hx6_ => tv_yes) (fun x5_ hx6_ h9_ => (iv_range2 (lv_cons (ov_V (ev_if (x := ((gl x5_) + (1 : Int))) (y := (0 : Int)) PyData.int (tv_tru (ov_dat 4 rfl) rfl (tru_Q (f := PyData.int))) (fun h10_ => (ev_a2 (ov_V (ev_a2 (ov_dat 4 rfl) (ov_V ev_neg1) rfl rfl (vf_ixQl (f := PyData.int) ((hC_.2.1 x5_ hx6_).1 h10_)))) (ov_V ev_c) rfl rfl vf_addI)) (fun h10_ => ev_c))) (lv_cons (ov_dat 0 rfl) lv_nil)) (fun _ q => q) (hC_.2.1 x5_ hx6_).2.1)) (fun x5_ hx6_ h9_ => ⟨rfl, True.intro⟩) (fun x5_ hx6_ h9_ y7_ hy8_ => ((bv_nm 5).to rfl)) (fun x5_ hx6_ h9_ y7_ hy8_ => tv_yes) (fun x5_ hx6_ h9_ y7_ hy8_ h11_ => (ev_a2 (ov_dat 4 rfl) (ov_V (ev_tup (lv_cons (ov_V (ev_var 5 rfl)) lv_nil) (fun _ q => q) rfl)) rfl rfl (vf_addQ (f := PyData.int) ((hC_.2.1 x5_ hx6_).2.2 y7_ hy8_)))) (fun _ _ _ _ => ⟨rfl, rfl⟩) (fun _ _ => rfl)) rfl (hN_ (((w1_.filter (fun x5_ : (List Int) => true)).flatMap fun x5_ : (List Int) => (((irange (bif (!x5_.isEmpty) then ((gl x5_) + (1 : Int)) else (0 : Int)) a0)).filter (fun y7_ : Int => true)).map fun y7_ : Int => (x5_ ++ [y7_]))) _ ⟨some (.dat (PyData.int x2_)), rfl⟩ hC_.2.2 hq_)))) (fun w1_ s_ hi_ hA_ hqa_ => by
    obtain ⟨q3, e_⟩ := hi_
    subst e_
    exact (c_aft (c_retV 2 rfl hqa_)))))
def v_ascending_tuples (a0 : Int) (a1 : Int) : (List (List Int)) := (v_ascending_tuples_s1 a0 a1 ([[]] : (List (List Int))))
def C_ascending_tuples (a0 : Int) (a1 : Int) : Prop := C_ascending_tuples_s1 a0 a1 ([[]] : (List (List Int)))
def nb_ascending_tuples : AST := (sSeq (sSet 2 (aLst (lCons (oV (aTup lNil)) lNil)))
    (sSeq (sFor (iRange1 (lCons (oVar 1) lNil)) (bNm 3)
    (sSet 2 (aLc2 (iSeq (oVar 2)) (bNm 4) tYesA (iRange2 (lCons (oV (aIfE (tTruA (oVar 4)) (a2 vAdd (oV (a2 vIx (oVar 4) (oV (aNeg (oV (aC (.int 1))))))) (oV (aC (.int 1)))) (aC (.int 0)))) (lCons (oVar 0) lNil))) (bNm 5) tYesA (a2 vAdd (oVar 4) (oV (aTup (lCons (oV (aVar 5)) lNil)))) [4, 5] [5])))
    (sRetV 2)))
theorem okS_ascending_tuples {xp : XP} {D : AEnds} {n : Nat} (a0 : Int) (a1 : Int)  (hC : C_ascending_tuples a0 a1) (hq : D.rt (eL (eQ PyData.int) (v_ascending_tuples a0 a1)) n) : nb_ascending_tuples xp D ⟨[some (.dat (PyData.int a0)), some (.dat (PyData.int a1)), none, none, none, none], n⟩ := by
  unfold C_ascending_tuples at hC; unfold v_ascending_tuples at hq; unfold nb_ascending_tuples
  exact (c_seq (c_set (ev_lst (lv_cons (ov_V (ev_tup lv_nil (fun _ q => q) rfl)) lv_nil) (fun _ q => q) rfl) rfl (c_aft (okS_ascending_tuples_s1 a0 a1 ([[]] : (List (List Int)))  hC hq))))
theorem okV_ascending_tuples (a0 : Int) (a1 : Int) (hC : C_ascending_tuples a0 a1) : PFn F_ascending_tuples [(PyData.int a0), (PyData.int a1)] (eL (eQ PyData.int) (v_ascending_tuples a0 a1)) := fun n Q X q => by
  unfold F_ascending_tuples
  exact okS_ascending_tuples (xp := fun x s => X x s.n) (D := { nx := fun s => Q .none s.n, rt := Q }) a0 a1 hC q

def v_all_pairs (a0 : Int) : (List (List Int)) := (v_ascending_tuples a0 (2 : Int))
def C_all_pairs (a0 : Int) : Prop := C_ascending_tuples a0 (2 : Int)
def nb_all_pairs : AST := (sRet (aCall0 [.dat, .dat] (calm F_ascending_tuples) (lCons (oV (aVar 0)) (lCons (oV (aC (.int 2))) lNil))))
theorem okS_all_pairs {xp : XP} {D : AEnds} {n : Nat} (a0 : Int)  (hC : C_all_pairs a0) (hq : D.rt (eL (eQ PyData.int) (v_all_pairs a0)) n) : nb_all_pairs xp D ⟨[some (.dat (PyData.int a0))], n⟩ := by
  unfold C_all_pairs at hC; unfold v_all_pairs at hq; unfold nb_all_pairs
  exact (c_ret (ev_call0 (lv_cons (ov_V (ev_var 0 rfl)) (lv_cons (ov_V ev_c) lv_nil)) (fun _ q => q) (okV_ascending_tuples a0 (2 : Int) hC)) hq)
theorem okV_all_pairs (a0 : Int) (hC : C_all_pairs a0) : PFn F_all_pairs [(PyData.int a0)] (eL (eQ PyData.int) (v_all_pairs a0)) := fun n Q X q => by
  unfold F_all_pairs
  exact okS_all_pairs (xp := fun x s => X x s.n) (D := { nx := fun s => Q .none s.n, rt := Q }) a0 hC q

def v_prefers (a0 : (List Int)) (a1 : Int) (a2 : Int) : Bool := (decide (((a0.idxOf a1 : Nat) : Int) < ((a0.idxOf a2 : Nat) : Int)))
def C_prefers (a0 : (List Int)) (a1 : Int) (a2 : Int) : Prop := (a1 ∈ a0 ∧ a2 ∈ a0)
def nb_prefers : AST := (sRet (a2 vLt (oV (aIdx (oVar 0) (lCons (oVar 1) lNil))) (oV (aIdx (oVar 0) (lCons (oVar 2) lNil)))))
theorem okS_prefers {xp : XP} {D : AEnds} {n : Nat} (a0 : (List Int)) (a1 : Int) (a2 : Int)  (hC : C_prefers a0 a1 a2) (hq : D.rt (PyData.bool (v_prefers a0 a1 a2)) n) : nb_prefers xp D ⟨[some (.dat (eQ PyData.int a0)), some (.dat (PyData.int a1)), some (.dat (PyData.int a2))], n⟩ := by
  unfold C_prefers at hC; unfold v_prefers at hq; unfold nb_prefers
  exact (c_ret (ev_a2 (ov_V (ev_idx (ov_dat 0 rfl) (lv_cons (ov_dat 1 rfl) lv_nil) (rsl_cons rfl (fun _ q => q)) hC.1)) (ov_V (ev_idx (ov_dat 0 rfl) (lv_cons (ov_dat 2 rfl) lv_nil) (rsl_cons rfl (fun _ q => q)) hC.2)) rfl rfl vf_ltI) hq)
theorem okV_prefers (a0 : (List Int)) (a1 : Int) (a2 : Int) (hC : C_prefers a0 a1 a2) : PFn F_prefers [(eQ PyData.int a0), (PyData.int a1), (PyData.int a2)] (PyData.bool (v_prefers a0 a1 a2)) := fun n Q X q => by
  unfold F_prefers
  exact okS_prefers (xp := fun x s => X x s.n) (D := { nx := fun s => Q .none s.n, rt := Q }) a0 a1 a2 hC q

def v_agree (a0 : (List Int)) (a1 : (List Int)) (a2 : (List Int)) : Bool := (decide ((v_prefers a0 (gt a2 0) (gt a2 1)) = (v_prefers a1 (gt a2 0) (gt a2 1))))
def C_agree (a0 : (List Int)) (a1 : (List Int)) (a2 : (List Int)) : Prop := (a2.length = 2 ∧ C_prefers a0 (gt a2 0) (gt a2 1) ∧ C_prefers a1 (gt a2 0) (gt a2 1))
def nb_agree : AST := (sSeq (sAsg (aVar 2) (bTup 2 (bCons (bNm 3) (bCons (bNm 4) bNil))))
    (sRet (a2 vEq (oV (aCall0 [.dat, .dat, .dat] (calm F_prefers) (lCons (oV (aVar 0)) (lCons (oV (aVar 3)) (lCons (oV (aVar 4)) lNil))))) (oV (aCall0 [.dat, .dat, .dat] (calm F_prefers) (lCons (oV (aVar 1)) (lCons (oV (aVar 3)) (lCons (oV (aVar 4)) lNil))))))))
theorem okS_agree {xp : XP} {D : AEnds} {n : Nat} (a0 : (List Int)) (a1 : (List Int)) (a2 : (List Int))  (hC : C_agree a0 a1 a2) (hq : D.rt (PyData.bool (v_agree a0 a1 a2)) n) : nb_agree xp D ⟨[some (.dat (eQ PyData.int a0)), some (.dat (eQ PyData.int a1)), some (.dat (eQ PyData.int a2)), none, none], n⟩ := by
  unfold C_agree at hC; unfold v_agree at hq; unfold nb_agree
  exact (c_seq (c_asg (ev_var 2 rfl) ((bv_q2 hC.1).to rfl) (c_aft (c_ret (ev_a2 (ov_V (ev_call0 (lv_cons (ov_V (ev_var 0 rfl)) (lv_cons (ov_V (ev_var 3 rfl)) (lv_cons (ov_V (ev_var 4 rfl)) lv_nil))) (fun _ q => q) (okV_prefers a0 (gt a2 0) (gt a2 1) hC.2.1))) (ov_V (ev_call0 (lv_cons (ov_V (ev_var 1 rfl)) (lv_cons (ov_V (ev_var 3 rfl)) (lv_cons (ov_V (ev_var 4 rfl)) lv_nil))) (fun _ q => q) (okV_prefers a1 (gt a2 0) (gt a2 1) hC.2.2))) rfl rfl (vf_eq (f := PyData.bool) lw_B (sh_B (k := 0)) rfl)) hq))))
theorem okV_agree (a0 : (List Int)) (a1 : (List Int)) (a2 : (List Int)) (hC : C_agree a0 a1 a2) : PFn F_agree [(eQ PyData.int a0), (eQ PyData.int a1), (eQ PyData.int a2)] (PyData.bool (v_agree a0 a1 a2)) := fun n Q X q => by
  unfold F_agree
  exact okS_agree (xp := fun x s => X x s.n) (D := { nx := fun s => Q .none s.n, rt := Q }) a0 a1 a2 hC q

def v_differences (a0 : (List Int)) (a1 : (List Int)) : (List (List Int)) := (((v_all_pairs ((a0.length : Nat) : Int)).filter fun x1_ : (List Int) => (!(v_agree a0 a1 x1_))).map fun x1_ : (List Int) => x1_)
def C_differences (a0 : (List Int)) (a1 : (List Int)) : Prop := (C_all_pairs ((a0.length : Nat) : Int) ∧ (v_all_pairs ((a0.length : Nat) : Int)).length ≤ sizeLine ∧ (∀ x1_ ∈ (v_all_pairs ((a0.length : Nat) : Int)), C_agree a0 a1 x1_))
def nb_differences : AST := (sRet (aBlt fTuple (lCons (oV (aLc (iSeq (oV (aCall0 [.dat] (calm F_all_pairs) (lCons (oV (aBlt fLen (lCons (oVar 0) lNil))) lNil)))) (bNm 2) (tNotA (tTruA (oV (aCall0 [.dat, .dat, .dat] (calm F_agree) (lCons (oV (aVar 0)) (lCons (oV (aVar 1)) (lCons (oV (aVar 2)) lNil))))))) (aVar 2) [2])) lNil)))
theorem okS_differences {xp : XP} {D : AEnds} {n : Nat} (a0 : (List Int)) (a1 : (List Int))  (hC : C_differences a0 a1) (hq : D.rt (eQ (eQ PyData.int) (v_differences a0 a1)) n) : nb_differences xp D ⟨[some (.dat (eQ PyData.int a0)), some (.dat (eQ PyData.int a1)), none], n⟩ := by
  unfold C_differences at hC; unfold v_differences at hq; unfold nb_differences
  exact (c_ret (ev_blt (lv_cons (ov_V (ev_lcF (eQ PyData.int) (fun x1_ : (List Int) => (!(v_agree a0 a1 x1_))) (eQ PyData.int) (fun x1_ : (List Int) => x1_) (fun x1_ : (List Int) => (⟨[some (.dat (eQ PyData.int a0)), some (.dat (eQ PyData.int a1)), some (.dat (eQ PyData.int x1_))], n⟩ : AS)) (fun x1_ : (List Int) => (⟨[some (.dat (eQ PyData.int a0)), some (.dat (eQ PyData.int a1)), some (.dat (eQ PyData.int x1_))], n⟩ : AS)) (iv_valL (f := (eQ PyData.int)) (l := (v_all_pairs ((a0.length : Nat) : Int))) (ov_V (ev_call0 (lv_cons (ov_V (ev_blt (lv_cons (ov_dat 0 rfl) lv_nil) (rsl_cons rfl (fun _ q => q)) (fv_lenQ (f := PyData.int)))) lv_nil) (fun _ q => q) (okV_all_pairs ((a0.length : Nat) : Int) hC.1)))) hC.2.1 rfl True.intro (fun x1_ hx2_ => ((bv_nm 2).to rfl)) (fun x1_ hx2_ => (tv_not (tv_tru (ov_V (ev_call0 (lv_cons (ov_V (ev_var 0 rfl)) (lv_cons (ov_V (ev_var 1 rfl)) (lv_cons (ov_V (ev_var 2 rfl)) lv_nil))) (fun _ q => q) (okV_agree a0 a1 x1_ (hC.2.2 x1_ hx2_)))) rfl tru_B))) (fun x1_ hx2_ h3_ => (ev_var 2 rfl)) (fun _ _ => ⟨rfl, rfl⟩))) lv_nil) (rsl_cons rfl (fun _ q => q)) (fv_tupleL (f := (eQ PyData.int)))) hq)
theorem okV_differences (a0 : (List Int)) (a1 : (List Int)) (hC : C_differences a0 a1) : PFn F_differences [(eQ PyData.int a0), (eQ PyData.int a1)] (eQ (eQ PyData.int) (v_differences a0 a1)) := fun n Q X q => by
  unfold F_differences
  exact okS_differences (xp := fun x s => X x s.n) (D := { nx := fun s => Q .none s.n, rt := Q }) a0 a1 hC q

def v_distance (a0 : (List Int)) (a1 : (List Int)) : Int := (((v_differences a0 a1).length : Nat) : Int)
def C_distance (a0 : (List Int)) (a1 : (List Int)) : Prop := C_differences a0 a1
def nb_distance : AST := (sRet (aBlt fLen (lCons (oV (aCall0 [.dat, .dat] (calm F_differences) (lCons (oV (aVar 0)) (lCons (oV (aVar 1)) lNil)))) lNil)))
theorem okS_distance {xp : XP} {D : AEnds} {n : Nat} (a0 : (List Int)) (a1 : (List Int))  (hC : C_distance a0 a1) (hq : D.rt (PyData.int (v_distance a0 a1)) n) : nb_distance xp D ⟨[some (.dat (eQ PyData.int a0)), some (.dat (eQ PyData.int a1))], n⟩ := by
  unfold C_distance at hC; unfold v_distance at hq; unfold nb_distance
  exact (c_ret (ev_blt (lv_cons (ov_V (ev_call0 (lv_cons (ov_V (ev_var 0 rfl)) (lv_cons (ov_V (ev_var 1 rfl)) lv_nil)) (fun _ q => q) (okV_differences a0 a1 hC))) lv_nil) (rsl_cons rfl (fun _ q => q)) (fv_lenQ (f := (eQ PyData.int)))) hq)
theorem okV_distance (a0 : (List Int)) (a1 : (List Int)) (hC : C_distance a0 a1) : PFn F_distance [(eQ PyData.int a0), (eQ PyData.int a1)] (PyData.int (v_distance a0 a1)) := fun n Q X q => by
  unfold F_distance
  exact okS_distance (xp := fun x s => X x s.n) (D := { nx := fun s => Q .none s.n, rt := Q }) a0 a1 hC q

def v_rankings_of (a0 : (Int × (List ((List Int) × Int)))) : (List (List Int)) := (a0.2.map fun x1_ : ((List Int) × Int) => x1_.1)
def C_rankings_of (a0 : (Int × (List ((List Int) × Int)))) : Prop := a0.2.length ≤ sizeLine
def nb_rankings_of : AST := (sRet (aBlt fTuple (lCons (oV (aLc (iSeq (oV (a2 vIx (oVar 0) (oV (aC (.int 1)))))) (bTup 2 (bCons (bNm 1) (bCons (bNm 2) bNil))) tYesA (aVar 1) [1, 2])) lNil)))
theorem okS_rankings_of {xp : XP} {D : AEnds} {n : Nat} (a0 : (Int × (List ((List Int) × Int))))  (hC : C_rankings_of a0) (hq : D.rt (eQ (eQ PyData.int) (v_rankings_of a0)) n) : nb_rankings_of xp D ⟨[some (.dat (eP PyData.int (eQ (eP (eQ PyData.int) PyData.int)) a0)), none, none], n⟩ := by
  unfold C_rankings_of at hC; unfold v_rankings_of at hq; unfold nb_rankings_of
  exact (c_ret (ev_blt (lv_cons (ov_V (ev_lcM (eP (eQ PyData.int) PyData.int) (eQ PyData.int) (fun x1_ : ((List Int) × Int) => x1_.1) (fun x1_ : ((List Int) × Int) => (⟨[some (.dat (eP PyData.int (eQ (eP (eQ PyData.int) PyData.int)) a0)), some (.dat (eQ PyData.int x1_.1)), some (.dat (PyData.int x1_.2))], n⟩ : AS)) (fun x1_ : ((List Int) × Int) => (⟨[some (.dat (eP PyData.int (eQ (eP (eQ PyData.int) PyData.int)) a0)), some (.dat (eQ PyData.int x1_.1)), some (.dat (PyData.int x1_.2))], n⟩ : AS)) (iv_valQ (f := (eP (eQ PyData.int) PyData.int)) (l := a0.2) (ov_V (ev_a2 (ov_dat 0 rfl) (ov_V ev_c) rfl rfl (vf_ixT at_1)))) hC rfl True.intro (fun x1_ hx2_ => (fun _ q => ⟨rfl, rfl, q⟩)) (fun x1_ hx2_ => (ev_var 1 rfl)) (fun _ _ => ⟨rfl, rfl⟩))) lv_nil) (rsl_cons rfl (fun _ q => q)) (fv_tupleL (f := (eQ PyData.int)))) hq)
theorem okV_rankings_of (a0 : (Int × (List ((List Int) × Int)))) (hC : C_rankings_of a0) : PFn F_rankings_of [(eP PyData.int (eQ (eP (eQ PyData.int) PyData.int)) a0)] (eQ (eQ PyData.int) (v_rankings_of a0)) := fun n Q X q => by
  unfold F_rankings_of
  exact okS_rankings_of (xp := fun x s => X x s.n) (D := { nx := fun s => Q .none s.n, rt := Q }) a0 hC q

def v_total_weight (a0 : (Int × (List ((List Int) × Int)))) : Int := (a0.2.map fun x1_ : ((List Int) × Int) => x1_.2).sum
def C_total_weight (a0 : (Int × (List ((List Int) × Int)))) : Prop := a0.2.length ≤ sizeLine
def nb_total_weight : AST := (sRet (aBlt fSum (lCons (oV (aLc (iSeq (oV (a2 vIx (oVar 0) (oV (aC (.int 1)))))) (bTup 2 (bCons (bNm 1) (bCons (bNm 2) bNil))) tYesA (aVar 2) [1, 2])) lNil)))
theorem okS_total_weight {xp : XP} {D : AEnds} {n : Nat} (a0 : (Int × (List ((List Int) × Int))))  (hC : C_total_weight a0) (hq : D.rt (PyData.int (v_total_weight a0)) n) : nb_total_weight xp D ⟨[some (.dat (eP PyData.int (eQ (eP (eQ PyData.int) PyData.int)) a0)), none, none], n⟩ := by
  unfold C_total_weight at hC; unfold v_total_weight at hq; unfold nb_total_weight
  exact (c_ret (ev_blt (lv_cons (ov_V (ev_lcM (eP (eQ PyData.int) PyData.int) PyData.int (fun x1_ : ((List Int) × Int) => x1_.2) (fun x1_ : ((List Int) × Int) => (⟨[some (.dat (eP PyData.int (eQ (eP (eQ PyData.int) PyData.int)) a0)), some (.dat (eQ PyData.int x1_.1)), some (.dat (PyData.int x1_.2))], n⟩ : AS)) (fun x1_ : ((List Int) × Int) => (⟨[some (.dat (eP PyData.int (eQ (eP (eQ PyData.int) PyData.int)) a0)), some (.dat (eQ PyData.int x1_.1)), some (.dat (PyData.int x1_.2))], n⟩ : AS)) (iv_valQ (f := (eP (eQ PyData.int) PyData.int)) (l := a0.2) (ov_V (ev_a2 (ov_dat 0 rfl) (ov_V ev_c) rfl rfl (vf_ixT at_1)))) hC rfl True.intro (fun x1_ hx2_ => (fun _ q => ⟨rfl, rfl, q⟩)) (fun x1_ hx2_ => (ev_var 2 rfl)) (fun _ _ => ⟨rfl, rfl⟩))) lv_nil) (rsl_cons rfl (fun _ q => q)) fv_sum) hq)
theorem okV_total_weight (a0 : (Int × (List ((List Int) × Int)))) (hC : C_total_weight a0) : PFn F_total_weight [(eP PyData.int (eQ (eP (eQ PyData.int) PyData.int)) a0)] (PyData.int (v_total_weight a0)) := fun n Q X q => by
  unfold F_total_weight
  exact okS_total_weight (xp := fun x s => X x s.n) (D := { nx := fun s => Q .none s.n, rt := Q }) a0 hC q

def v_groups_s1 (a0 : (Int × (List ((List Int) × Int)))) (a1 : (List ((List Int) × (List Int)))) : (List (List Int)) := (forV (fun (k3_ : ((List ((List Int) × (List Int)))) → (List (List Int))) (x2_ : (Int × (List Int))) (w1_ : (List ((List Int) × (List Int)))) => (k3_ ((apG w1_ x2_.2 x2_.1)))) (fun (w1_ : (List ((List Int) × (List Int)))) => ((w1_.map fun p_ : ((List Int) × (List Int)) => p_.2).map fun x5_ : (List Int) => x5_)) (enN (v_rankings_of a0)) (a1))
def C_groups_s1 (a0 : (Int × (List ((List Int) × Int)))) (a1 : (List ((List Int) × (List Int)))) : Prop := (C_rankings_of a0 ∧ forV (fun (kC4_ : ((List ((List Int) × (List Int)))) → Prop) (x2_ : (Int × (List Int))) (w1_ : (List ((List Int) × (List Int)))) => ((w1_.length < sizeLine ∧ ∀ p_ ∈ w1_, p_.2.length < sizeLine) ∧ kC4_ ((apG w1_ x2_.2 x2_.1)))) (fun (w1_ : (List ((List Int) × (List Int)))) => (w1_.map fun p_ : ((List Int) × (List Int)) => p_.2).length ≤ sizeLine) (enN (v_rankings_of a0)) (a1))
def nb_groups_s1 : AST := (sSeq (sFor (iEnT (aCall0 [.dat] (calm F_rankings_of) (lCons (oV (aVar 0)) lNil))) (bTup 2 (bCons (bNm 2) (bCons (bNm 3) bNil)))
    (sDApp 1 2 (aVar 3)))
    (sRet (aBlt fTuple (lCons (oV (aLc (iValsL 1) (bNm 4) tYesA (aBlt fTuple (lCons (oVar 4) lNil)) [4])) lNil))))
theorem okS_groups_s1 {xp : XP} {D : AEnds} {n : Nat} (a0 : (Int × (List ((List Int) × Int)))) (a1 : (List ((List Int) × (List Int))))  (hC : C_groups_s1 a0 a1) (hq : D.rt (eQ (eQ PyData.int) (v_groups_s1 a0 a1)) n) : nb_groups_s1 xp D ⟨[some (.dat (eP PyData.int (eQ (eP (eQ PyData.int) PyData.int)) a0)), some (.dcl (a1.map (dkL (eQ PyData.int)))), none, none, none], n⟩ := by
  unfold C_groups_s1 at hC; unfold v_groups_s1 at hq; unfold nb_groups_s1
  exact (c_seq (c_for (R := fun r => D.rt (eQ (eQ PyData.int) r) n) (eP PyData.int (eQ PyData.int)) (fun (w1_ : (List ((List Int) × (List Int)))) (s : AS) => ∃ (q2 : Option AV) (q3 : Option AV), s = ⟨[some (.dat (eP PyData.int (eQ (eP (eQ PyData.int) PyData.int)) a0)), some (.dcl (w1_.map (dkL (eQ PyData.int)))), q2, q3, none], n⟩) (iv_enT (f := (eQ PyData.int)) (ev_call0 (lv_cons (ov_V (ev_var 0 rfl)) lv_nil) (fun _ q => q) (okV_rankings_of a0 hC.1))) ⟨none, none, rfl⟩ hC.2 hq (fun x2_ w1_ s_ k3_ kC4_ N_ hi_ hC_ hq_ hN_ => by
    obtain ⟨q2, q3, e_⟩ := hi_
    subst e_
    exact (g_bv (fun _ q => ⟨rfl, rfl, q⟩) (c_dapp (g := (eQ PyData.int)) (l := w1_) (k := x2_.2) (z := x2_.1) keyE_RK 1 2 (ev_var 3 rfl) rfl rfl rfl hC_.1 (hN_ ((apG w1_ x2_.2 x2_.1)) _ ⟨some (.dat (PyData.int x2_.1)), some (.dat (eQ PyData.int x2_.2)), rfl⟩ hC_.2 hq_)))) (fun w1_ s_ hi_ hA_ hqa_ => by
    obtain ⟨q2, q3, e_⟩ := hi_
    subst e_
    exact (c_aft (c_ret (ev_blt (lv_cons (ov_V (ev_lcM (eL PyData.int) (eQ PyData.int) (fun x5_ : (List Int) => x5_) (fun x5_ : (List Int) => (⟨[some (.dat (eP PyData.int (eQ (eP (eQ PyData.int) PyData.int)) a0)), none, q2, q3, some (.dat (eL PyData.int x5_))], n⟩ : AS)) (fun x5_ : (List Int) => (⟨[some (.dat (eP PyData.int (eQ (eP (eQ PyData.int) PyData.int)) a0)), none, q2, q3, some (.dat (eL PyData.int x5_))], n⟩ : AS)) (iv_valsL (g := (eQ PyData.int)) (l := w1_) 1 rfl) hA_ rfl True.intro (fun x5_ hx6_ => ((bv_nm 4).to rfl)) (fun x5_ hx6_ => (ev_blt (lv_cons (ov_dat 4 rfl) lv_nil) (rsl_cons rfl (fun _ q => q)) (fv_tupleL (f := PyData.int)))) (fun _ _ => ⟨rfl, rfl⟩))) lv_nil) (rsl_cons rfl (fun _ q => q)) (fv_tupleL (f := (eQ PyData.int)))) hqa_)))))
def v_groups (a0 : (Int × (List ((List Int) × Int)))) : (List (List Int)) := (v_groups_s1 a0 [])
def C_groups (a0 : (Int × (List ((List Int) × Int)))) : Prop := C_groups_s1 a0 []
def nb_groups : AST := (sSeq (sNewL 1)
    (sSeq (sFor (iEnT (aCall0 [.dat] (calm F_rankings_of) (lCons (oV (aVar 0)) lNil))) (bTup 2 (bCons (bNm 2) (bCons (bNm 3) bNil)))
    (sDApp 1 2 (aVar 3)))
    (sRet (aBlt fTuple (lCons (oV (aLc (iValsL 1) (bNm 4) tYesA (aBlt fTuple (lCons (oVar 4) lNil)) [4])) lNil)))))
theorem okS_groups {xp : XP} {D : AEnds} {n : Nat} (a0 : (Int × (List ((List Int) × Int))))  (hC : C_groups a0) (hq : D.rt (eQ (eQ PyData.int) (v_groups a0)) n) : nb_groups xp D ⟨[some (.dat (eP PyData.int (eQ (eP (eQ PyData.int) PyData.int)) a0)), none, none, none, none], n⟩ := by
  unfold C_groups at hC; unfold v_groups at hq; unfold nb_groups
  exact (c_seq (c_newL (s1 := ⟨[some (.dat (eP PyData.int (eQ (eP (eQ PyData.int) PyData.int)) a0)), some (.dcl ([].map (dkL (eQ PyData.int)))), none, none, none], n⟩) (c_aft (okS_groups_s1 a0 []  hC hq))))
theorem okV_groups (a0 : (Int × (List ((List Int) × Int)))) (hC : C_groups a0) : PFn F_groups [(eP PyData.int (eQ (eP (eQ PyData.int) PyData.int)) a0)] (eQ (eQ PyData.int) (v_groups a0)) := fun n Q X q => by
  unfold F_groups
  exact okS_groups (xp := fun x s => X x s.n) (D := { nx := fun s => Q .none s.n, rt := Q }) a0 hC q

def v_is_dish_number (a0 : Int) (a1 : PyData) : Bool := (v_is_within a1 (0 : Int) (a0 - (1 : Int)))
def C_is_dish_number (a0 : Int) (a1 : PyData) : Prop := C_is_within a1 (0 : Int) (a0 - (1 : Int))
def nb_is_dish_number : AST := (sRet (aCall0 [.dat, .dat, .dat] (calm F_is_within) (lCons (oV (aVar 1)) (lCons (oV (aC (.int 0))) (lCons (oV (a2 vSub (oVar 0) (oV (aC (.int 1))))) lNil)))))
theorem okS_is_dish_number {xp : XP} {D : AEnds} {n : Nat} (a0 : Int) (a1 : PyData)  (hC : C_is_dish_number a0 a1) (hq : D.rt (PyData.bool (v_is_dish_number a0 a1)) n) : nb_is_dish_number xp D ⟨[some (.dat (PyData.int a0)), some (.dat a1)], n⟩ := by
  unfold C_is_dish_number at hC; unfold v_is_dish_number at hq; unfold nb_is_dish_number
  exact (c_ret (ev_call0 (lv_cons (ov_V (ev_var 1 rfl)) (lv_cons (ov_V ev_c) (lv_cons (ov_V (ev_a2 (ov_dat 0 rfl) (ov_V ev_c) rfl rfl vf_subI)) lv_nil))) (fun _ q => q) (okV_is_within a1 (0 : Int) (a0 - (1 : Int)) hC)) hq)
theorem okV_is_dish_number (a0 : Int) (a1 : PyData) (hC : C_is_dish_number a0 a1) : PFn F_is_dish_number [(PyData.int a0), a1] (PyData.bool (v_is_dish_number a0 a1)) := fun n Q X q => by
  unfold F_is_dish_number
  exact okS_is_dish_number (xp := fun x s => X x s.n) (D := { nx := fun s => Q .none s.n, rt := Q }) a0 a1 hC q

def v_check_two_dishes_s1 (a0 : Int) (a1 : PyData) (a2 : PyData) : Unit := (bif ((!(v_is_dish_number a0 a2)) || (PyData.eqv a1 a2)) then default else ())
def C_check_two_dishes_s1 (a0 : Int) (a1 : PyData) (a2 : PyData) : Prop := (C_is_dish_number a0 a2 ∧ ((!(v_is_dish_number a0 a2)) = false → (SeqAt.shaped a1 = true ∧ SeqAt.shaped a2 = true)) ∧ (((!(v_is_dish_number a0 a2)) || (PyData.eqv a1 a2)) = true → False))
def nb_check_two_dishes_s1 : AST := (sIf (tOrA (tNotA (tTruA (oV (aCall0 [.dat, .dat] (calm F_is_dish_number) (lCons (oV (aVar 0)) (lCons (oV (aVar 2)) lNil)))))) (tV (a2 vEq (oVar 1) (oVar 2))))
    sNever
    sNx)
theorem okS_check_two_dishes_s1 {xp : XP} {D : AEnds} {n : Nat} (a0 : Int) (a1 : PyData) (a2 : PyData)  (hC : C_check_two_dishes_s1 a0 a1 a2) (hN : ∀ s : AS, s.n = n → D.rt .none n → D.nx s) (hq : D.rt .none n) : nb_check_two_dishes_s1 xp D ⟨[some (.dat (PyData.int a0)), some (.dat a1), some (.dat a2)], n⟩ := by
  unfold C_check_two_dishes_s1 at hC; try unfold v_check_two_dishes_s1 at hq; unfold nb_check_two_dishes_s1
  exact (c_if (tv_or (tv_not (tv_tru (ov_V (ev_call0 (lv_cons (ov_V (ev_var 0 rfl)) (lv_cons (ov_V (ev_var 2 rfl)) lv_nil)) (fun _ q => q) (okV_is_dish_number a0 a2 hC.1))) rfl tru_B)) (fun h2_ => (tv_V (ev_a2 (ov_dat 1 rfl) (ov_dat 2 rfl) rfl rfl (vf_eqD (hC.2.1 h2_)))))) (fun h3_ => (False.elim (hC.2.2 h3_))) (fun h3_ => (c_pass (hN _ rfl ((fun _ (q : D.rt .none n) => q) h3_ hq)))))
def v_check_two_dishes (a0 : Int) (a1 : PyData) (a2 : PyData) : Unit := (bif (!(v_is_dish_number a0 a1)) then default else (v_check_two_dishes_s1 a0 a1 a2))
def C_check_two_dishes (a0 : Int) (a1 : PyData) (a2 : PyData) : Prop := (C_is_dish_number a0 a1 ∧ ((!(v_is_dish_number a0 a1)) = true → False) ∧ ((!(v_is_dish_number a0 a1)) = false → C_check_two_dishes_s1 a0 a1 a2))
def nb_check_two_dishes : AST := (sSeq (sIf (tNotA (tTruA (oV (aCall0 [.dat, .dat] (calm F_is_dish_number) (lCons (oV (aVar 0)) (lCons (oV (aVar 1)) lNil))))))
    sNever
    sNx)
    (sIf (tOrA (tNotA (tTruA (oV (aCall0 [.dat, .dat] (calm F_is_dish_number) (lCons (oV (aVar 0)) (lCons (oV (aVar 2)) lNil)))))) (tV (a2 vEq (oVar 1) (oVar 2))))
    sNever
    sNx))
theorem okS_check_two_dishes {xp : XP} {D : AEnds} {n : Nat} (a0 : Int) (a1 : PyData) (a2 : PyData)  (hC : C_check_two_dishes a0 a1 a2) (hN : ∀ s : AS, s.n = n → D.rt .none n → D.nx s) (hq : D.rt .none n) : nb_check_two_dishes xp D ⟨[some (.dat (PyData.int a0)), some (.dat a1), some (.dat a2)], n⟩ := by
  unfold C_check_two_dishes at hC; try unfold v_check_two_dishes at hq; unfold nb_check_two_dishes
  exact (c_seq (c_if (tv_not (tv_tru (ov_V (ev_call0 (lv_cons (ov_V (ev_var 0 rfl)) (lv_cons (ov_V (ev_var 1 rfl)) lv_nil)) (fun _ q => q) (okV_is_dish_number a0 a1 hC.1))) rfl tru_B)) (fun h1_ => (False.elim (hC.2.1 h1_))) (fun h1_ => (c_pass (c_aft (okS_check_two_dishes_s1 a0 a1 a2  (hC.2.2 h1_) hN ((fun _ (q : D.rt .none n) => q) h1_ hq)))))))
theorem okV_check_two_dishes (a0 : Int) (a1 : PyData) (a2 : PyData) (hC : C_check_two_dishes a0 a1 a2) : PFn F_check_two_dishes [(PyData.int a0), a1, a2] .none := fun n Q X q => by
  unfold F_check_two_dishes
  exact okS_check_two_dishes (xp := fun x s => X x s.n) (D := { nx := fun s => Q .none s.n, rt := Q }) a0 a1 a2 hC (fun s e q => by show Q .none s.n; rw [e]; exact q) q

def v_sides (a0 : (Int × (List ((List Int) × Int)))) (a1 : (List Int)) : (List Bool) := ((v_rankings_of a0).map fun x1_ : (List Int) => (v_prefers x1_ (gt a1 0) (gt a1 1)))
def C_sides (a0 : (Int × (List ((List Int) × Int)))) (a1 : (List Int)) : Prop := (a1.length = 2 ∧ C_rankings_of a0 ∧ (v_rankings_of a0).length ≤ sizeLine ∧ (∀ x1_ ∈ (v_rankings_of a0), C_prefers x1_ (gt a1 0) (gt a1 1)))
def nb_sides : AST := (sSeq (sAsg (aVar 1) (bTup 2 (bCons (bNm 2) (bCons (bNm 3) bNil))))
    (sRet (aLc (iSeq (oV (aCall0 [.dat] (calm F_rankings_of) (lCons (oV (aVar 0)) lNil)))) (bNm 4) tYesA (aCall0 [.dat, .dat, .dat] (calm F_prefers) (lCons (oV (aVar 4)) (lCons (oV (aVar 2)) (lCons (oV (aVar 3)) lNil)))) [4])))
theorem okS_sides {xp : XP} {D : AEnds} {n : Nat} (a0 : (Int × (List ((List Int) × Int)))) (a1 : (List Int))  (hC : C_sides a0 a1) (hq : D.rt (eL PyData.bool (v_sides a0 a1)) n) : nb_sides xp D ⟨[some (.dat (eP PyData.int (eQ (eP (eQ PyData.int) PyData.int)) a0)), some (.dat (eQ PyData.int a1)), none, none, none], n⟩ := by
  unfold C_sides at hC; unfold v_sides at hq; unfold nb_sides
  exact (c_seq (c_asg (ev_var 1 rfl) ((bv_q2 hC.1).to rfl) (c_aft (c_ret (ev_lcM (eQ PyData.int) PyData.bool (fun x1_ : (List Int) => (v_prefers x1_ (gt a1 0) (gt a1 1))) (fun x1_ : (List Int) => (⟨[some (.dat (eP PyData.int (eQ (eP (eQ PyData.int) PyData.int)) a0)), some (.dat (eQ PyData.int a1)), some (.dat (PyData.int (gt a1 0))), some (.dat (PyData.int (gt a1 1))), some (.dat (eQ PyData.int x1_))], n⟩ : AS)) (fun x1_ : (List Int) => (⟨[some (.dat (eP PyData.int (eQ (eP (eQ PyData.int) PyData.int)) a0)), some (.dat (eQ PyData.int a1)), some (.dat (PyData.int (gt a1 0))), some (.dat (PyData.int (gt a1 1))), some (.dat (eQ PyData.int x1_))], n⟩ : AS)) (iv_valQ (f := (eQ PyData.int)) (l := (v_rankings_of a0)) (ov_V (ev_call0 (lv_cons (ov_V (ev_var 0 rfl)) lv_nil) (fun _ q => q) (okV_rankings_of a0 hC.2.1)))) hC.2.2.1 rfl True.intro (fun x1_ hx2_ => ((bv_nm 4).to rfl)) (fun x1_ hx2_ => (ev_call0 (lv_cons (ov_V (ev_var 4 rfl)) (lv_cons (ov_V (ev_var 2 rfl)) (lv_cons (ov_V (ev_var 3 rfl)) lv_nil))) (fun _ q => q) (okV_prefers x1_ (gt a1 0) (gt a1 1) (hC.2.2.2 x1_ hx2_)))) (fun _ _ => ⟨rfl, rfl⟩)) hq))))
theorem okV_sides (a0 : (Int × (List ((List Int) × Int)))) (a1 : (List Int)) (hC : C_sides a0 a1) : PFn F_sides [(eP PyData.int (eQ (eP (eQ PyData.int) PyData.int)) a0), (eQ PyData.int a1)] (eL PyData.bool (v_sides a0 a1)) := fun n Q X q => by
  unfold F_sides
  exact okS_sides (xp := fun x s => X x s.n) (D := { nx := fun s => Q .none s.n, rt := Q }) a0 a1 hC q

def v_changes_once_s1 (a1 : (List Int)) (a3 : (List Bool)) : Bool := (decide ((((((irange (1 : Int) (((a1.map fun x1_ : Int => (gt a3 x1_)).length : Nat) : Int)).filter fun x3_ : Int => (!(decide ((gt (a1.map fun x1_ : Int => (gt a3 x1_)) (x3_ - (1 : Int))) = (gt (a1.map fun x1_ : Int => (gt a3 x1_)) x3_))))).map fun x3_ : Int => x3_).length : Nat) : Int) ≤ (1 : Int)))
def C_changes_once_s1 (a1 : (List Int)) (a3 : (List Bool)) : Prop := (a1.length ≤ sizeLine ∧ (∀ x1_ ∈ a1, Ixr a3 x1_) ∧ (Rg (1 : Int) ∧ Rg (((a1.map fun x1_ : Int => (gt a3 x1_)).length : Nat) : Int)) ∧ (irange (1 : Int) (((a1.map fun x1_ : Int => (gt a3 x1_)).length : Nat) : Int)).length ≤ sizeLine ∧ (∀ x3_ ∈ (irange (1 : Int) (((a1.map fun x1_ : Int => (gt a3 x1_)).length : Nat) : Int)), (Ixr (a1.map fun x1_ : Int => (gt a3 x1_)) (x3_ - (1 : Int)) ∧ Ixr (a1.map fun x1_ : Int => (gt a3 x1_)) x3_)))
def nb_changes_once_s1 : AST := (sSeq (sSet 4 (aLc (iSeq (oVar 1)) (bNm 5) tYesA (a2 vIx (oVar 3) (oVar 5)) [5]))
    (sRet (a2 vLe (oV (aBlt fLen (lCons (oV (aLc (iRange2 (lCons (oV (aC (.int 1))) (lCons (oV (aBlt fLen (lCons (oVar 4) lNil))) lNil))) (bNm 6) (tV (a2 vNe (oV (a2 vIx (oVar 4) (oV (a2 vSub (oVar 6) (oV (aC (.int 1))))))) (oV (a2 vIx (oVar 4) (oVar 6))))) (aVar 6) [6])) lNil))) (oV (aC (.int 1))))))
theorem okS_changes_once_s1 {xp : XP} {D : AEnds} {n : Nat} (a1 : (List Int)) (a3 : (List Bool)) (j0 : Option AV) (j2 : Option AV) (hC : C_changes_once_s1 a1 a3) (hq : D.rt (PyData.bool (v_changes_once_s1 a1 a3)) n) : nb_changes_once_s1 xp D ⟨[j0, some (.dat (eQ PyData.int a1)), j2, some (.dat (eL PyData.bool a3)), none, none, none], n⟩ := by
  unfold C_changes_once_s1 at hC; unfold v_changes_once_s1 at hq; unfold nb_changes_once_s1
  exact (c_seq (c_set (ev_lcM PyData.int PyData.bool (fun x1_ : Int => (gt a3 x1_)) (fun x1_ : Int => (⟨[j0, some (.dat (eQ PyData.int a1)), j2, some (.dat (eL PyData.bool a3)), none, some (.dat (PyData.int x1_)), none], n⟩ : AS)) (fun x1_ : Int => (⟨[j0, some (.dat (eQ PyData.int a1)), j2, some (.dat (eL PyData.bool a3)), none, some (.dat (PyData.int x1_)), none], n⟩ : AS)) (iv_valQ (f := PyData.int) (l := a1) (ov_dat 1 rfl)) hC.1 rfl True.intro (fun x1_ hx2_ => ((bv_nm 5).to rfl)) (fun x1_ hx2_ => (ev_a2 (ov_dat 3 rfl) (ov_dat 5 rfl) rfl rfl (vf_ixL (f := PyData.bool) (hC.2.1 x1_ hx2_)))) (fun _ _ => ⟨rfl, rfl⟩)) rfl (c_aft (c_ret (ev_a2 (ov_V (ev_blt (lv_cons (ov_V (ev_lcF PyData.int (fun x3_ : Int => (!(decide ((gt (a1.map fun x1_ : Int => (gt a3 x1_)) (x3_ - (1 : Int))) = (gt (a1.map fun x1_ : Int => (gt a3 x1_)) x3_))))) PyData.int (fun x3_ : Int => x3_) (fun x3_ : Int => (⟨[j0, some (.dat (eQ PyData.int a1)), j2, some (.dat (eL PyData.bool a3)), some (.dat (eL PyData.bool (a1.map fun x1_ : Int => (gt a3 x1_)))), none, some (.dat (PyData.int x3_))], n⟩ : AS)) (fun x3_ : Int => (⟨[j0, some (.dat (eQ PyData.int a1)), j2, some (.dat (eL PyData.bool a3)), some (.dat (eL PyData.bool (a1.map fun x1_ : Int => (gt a3 x1_)))), none, some (.dat (PyData.int x3_))], n⟩ : AS)) (iv_range2 (lv_cons (ov_V ev_c) (lv_cons (ov_V (ev_blt (lv_cons (ov_dat 4 rfl) lv_nil) (rsl_cons rfl (fun _ q => q)) (fv_lenL (f := PyData.bool)))) lv_nil)) (fun _ q => q) hC.2.2.1) hC.2.2.2.1 rfl True.intro (fun x3_ hx4_ => ((bv_nm 6).to rfl)) (fun x3_ hx4_ => (tv_V (ev_a2 (ov_V (ev_a2 (ov_dat 4 rfl) (ov_V (ev_a2 (ov_dat 6 rfl) (ov_V ev_c) rfl rfl vf_subI)) rfl rfl (vf_ixL (f := PyData.bool) (hC.2.2.2.2 x3_ hx4_).1))) (ov_V (ev_a2 (ov_dat 4 rfl) (ov_dat 6 rfl) rfl rfl (vf_ixL (f := PyData.bool) (hC.2.2.2.2 x3_ hx4_).2))) rfl rfl (vf_ne (f := PyData.bool) lw_B (sh_B (k := 0)) rfl)))) (fun x3_ hx4_ h5_ => (ev_var 6 rfl)) (fun _ _ => ⟨rfl, rfl⟩))) lv_nil) (rsl_cons rfl (fun _ q => q)) (fv_lenL (f := PyData.int)))) (ov_V ev_c) rfl rfl vf_leI) hq))))
def v_changes_once (a0 : (Int × (List ((List Int) × Int)))) (a1 : (List Int)) (a2 : (List Int)) : Bool := (v_changes_once_s1 a1 (v_sides a0 a2))
def C_changes_once (a0 : (Int × (List ((List Int) × Int)))) (a1 : (List Int)) (a2 : (List Int)) : Prop := (C_sides a0 a2 ∧ C_changes_once_s1 a1 (v_sides a0 a2))
def nb_changes_once : AST := (sSeq (sSet 3 (aCall0 [.dat, .dat] (calm F_sides) (lCons (oV (aVar 0)) (lCons (oV (aVar 2)) lNil))))
    (sSeq (sSet 4 (aLc (iSeq (oVar 1)) (bNm 5) tYesA (a2 vIx (oVar 3) (oVar 5)) [5]))
    (sRet (a2 vLe (oV (aBlt fLen (lCons (oV (aLc (iRange2 (lCons (oV (aC (.int 1))) (lCons (oV (aBlt fLen (lCons (oVar 4) lNil))) lNil))) (bNm 6) (tV (a2 vNe (oV (a2 vIx (oVar 4) (oV (a2 vSub (oVar 6) (oV (aC (.int 1))))))) (oV (a2 vIx (oVar 4) (oVar 6))))) (aVar 6) [6])) lNil))) (oV (aC (.int 1)))))))
theorem okS_changes_once {xp : XP} {D : AEnds} {n : Nat} (a0 : (Int × (List ((List Int) × Int)))) (a1 : (List Int)) (a2 : (List Int))  (hC : C_changes_once a0 a1 a2) (hq : D.rt (PyData.bool (v_changes_once a0 a1 a2)) n) : nb_changes_once xp D ⟨[some (.dat (eP PyData.int (eQ (eP (eQ PyData.int) PyData.int)) a0)), some (.dat (eQ PyData.int a1)), some (.dat (eQ PyData.int a2)), none, none, none, none], n⟩ := by
  unfold C_changes_once at hC; unfold v_changes_once at hq; unfold nb_changes_once
  exact (c_seq (c_set (ev_call0 (lv_cons (ov_V (ev_var 0 rfl)) (lv_cons (ov_V (ev_var 2 rfl)) lv_nil)) (fun _ q => q) (okV_sides a0 a2 hC.1)) rfl (c_aft (okS_changes_once_s1 a1 (v_sides a0 a2) (some (.dat (eP PyData.int (eQ (eP (eQ PyData.int) PyData.int)) a0))) (some (.dat (eQ PyData.int a2))) hC.2 hq))))
theorem okV_changes_once (a0 : (Int × (List ((List Int) × Int)))) (a1 : (List Int)) (a2 : (List Int)) (hC : C_changes_once a0 a1 a2) : PFn F_changes_once [(eP PyData.int (eQ (eP (eQ PyData.int) PyData.int)) a0), (eQ PyData.int a1), (eQ PyData.int a2)] (PyData.bool (v_changes_once a0 a1 a2)) := fun n Q X q => by
  unfold F_changes_once
  exact okS_changes_once (xp := fun x s => X x s.n) (D := { nx := fun s => Q .none s.n, rt := Q }) a0 a1 a2 hC q

def v_is_seating_s1 (a0 : (Int × (List ((List Int) × Int)))) (a1 : PyData) (a2 : Int) (a3 : (List ((List Int) × Int))) : Bool := (bif (!(v_is_order ((a3.length : Nat) : Int) a1)) then false else (((v_all_pairs a2).map fun x2_ : (List Int) => (v_changes_once a0 ((dQ dI) a1) x2_)).all id))
def C_is_seating_s1 (a0 : (Int × (List ((List Int) × Int)))) (a1 : PyData) (a2 : Int) (a3 : (List ((List Int) × Int))) : Prop := (C_is_order ((a3.length : Nat) : Int) a1 ∧ ((!(v_is_order ((a3.length : Nat) : Int) a1)) = false → (C_all_pairs a2 ∧ (v_all_pairs a2).length ≤ sizeLine ∧ (∀ x2_ ∈ (v_all_pairs a2), (a1 = (eQ PyData.int ((dQ dI) a1)) ∧ C_changes_once a0 ((dQ dI) a1) x2_)))))
def nb_is_seating_s1 : AST := (sSeq (sIf (tNotA (tTruA (oV (aCall0 [.dat, .dat] (calm F_is_order) (lCons (oV (aBlt fLen (lCons (oVar 3) lNil))) (lCons (oV (aVar 1)) lNil))))))
    (sRet (aC (.bool false)))
    sNx)
    (sRet (aBlt fAll (lCons (oV (aLc (iSeq (oV (aCall0 [.dat] (calm F_all_pairs) (lCons (oV (aVar 2)) lNil)))) (bNm 4) tYesA (aCall0 [.dat, .dat, .dat] (calm F_changes_once) (lCons (oV (aVar 0)) (lCons (oV (aVar 1)) (lCons (oV (aVar 4)) lNil)))) [4])) lNil))))
theorem okS_is_seating_s1 {xp : XP} {D : AEnds} {n : Nat} (a0 : (Int × (List ((List Int) × Int)))) (a1 : PyData) (a2 : Int) (a3 : (List ((List Int) × Int)))  (hC : C_is_seating_s1 a0 a1 a2 a3) (hq : D.rt (PyData.bool (v_is_seating_s1 a0 a1 a2 a3)) n) : nb_is_seating_s1 xp D ⟨[some (.dat (eP PyData.int (eQ (eP (eQ PyData.int) PyData.int)) a0)), some (.dat a1), some (.dat (PyData.int a2)), some (.dat (eQ (eP (eQ PyData.int) PyData.int) a3)), none], n⟩ := by
  unfold C_is_seating_s1 at hC; unfold v_is_seating_s1 at hq; unfold nb_is_seating_s1
  exact (c_seq (c_if (tv_not (tv_tru (ov_V (ev_call0 (lv_cons (ov_V (ev_blt (lv_cons (ov_dat 3 rfl) lv_nil) (rsl_cons rfl (fun _ q => q)) (fv_lenQ (f := (eP (eQ PyData.int) PyData.int))))) (lv_cons (ov_V (ev_var 1 rfl)) lv_nil)) (fun _ q => q) (okV_is_order ((a3.length : Nat) : Int) a1 hC.1))) rfl tru_B)) (fun h1_ => (c_ret ev_c (ifT (P := D) (f := PyData.bool) h1_ hq))) (fun h1_ => (c_pass (c_aft (c_ret (ev_blt (lv_cons (ov_V (ev_lcM (eQ PyData.int) PyData.bool (fun x2_ : (List Int) => (v_changes_once a0 ((dQ dI) a1) x2_)) (fun x2_ : (List Int) => (⟨[some (.dat (eP PyData.int (eQ (eP (eQ PyData.int) PyData.int)) a0)), some (.dat a1), some (.dat (PyData.int a2)), some (.dat (eQ (eP (eQ PyData.int) PyData.int) a3)), some (.dat (eQ PyData.int x2_))], n⟩ : AS)) (fun x2_ : (List Int) => (⟨[some (.dat (eP PyData.int (eQ (eP (eQ PyData.int) PyData.int)) a0)), some (.dat a1), some (.dat (PyData.int a2)), some (.dat (eQ (eP (eQ PyData.int) PyData.int) a3)), some (.dat (eQ PyData.int x2_))], n⟩ : AS)) (iv_valL (f := (eQ PyData.int)) (l := (v_all_pairs a2)) (ov_V (ev_call0 (lv_cons (ov_V (ev_var 2 rfl)) lv_nil) (fun _ q => q) (okV_all_pairs a2 (hC.2 h1_).1)))) (hC.2 h1_).2.1 rfl True.intro (fun x2_ hx3_ => ((bv_nm 4).to rfl)) (fun x2_ hx3_ => (ev_call0 (lv_cons (ov_V (ev_var 0 rfl)) (lv_cons (ov_V (ev_cast (ev_var 1 rfl) ((hC.2 h1_).2.2 x2_ hx3_).1)) (lv_cons (ov_V (ev_var 4 rfl)) lv_nil))) (fun _ q => q) (okV_changes_once a0 ((dQ dI) a1) x2_ ((hC.2 h1_).2.2 x2_ hx3_).2))) (fun _ _ => ⟨rfl, rfl⟩))) lv_nil) (rsl_cons rfl (fun _ q => q)) fv_all) (ifF (P := D) (f := PyData.bool) h1_ hq)))))))
def v_is_seating (a0 : (Int × (List ((List Int) × Int)))) (a1 : PyData) : Bool := (v_is_seating_s1 a0 a1 a0.1 a0.2)
def C_is_seating (a0 : (Int × (List ((List Int) × Int)))) (a1 : PyData) : Prop := C_is_seating_s1 a0 a1 a0.1 a0.2
def nb_is_seating : AST := (sSeq (sAsg (aVar 0) (bTup 2 (bCons (bNm 2) (bCons (bNm 3) bNil))))
    (sSeq (sIf (tNotA (tTruA (oV (aCall0 [.dat, .dat] (calm F_is_order) (lCons (oV (aBlt fLen (lCons (oVar 3) lNil))) (lCons (oV (aVar 1)) lNil))))))
    (sRet (aC (.bool false)))
    sNx)
    (sRet (aBlt fAll (lCons (oV (aLc (iSeq (oV (aCall0 [.dat] (calm F_all_pairs) (lCons (oV (aVar 2)) lNil)))) (bNm 4) tYesA (aCall0 [.dat, .dat, .dat] (calm F_changes_once) (lCons (oV (aVar 0)) (lCons (oV (aVar 1)) (lCons (oV (aVar 4)) lNil)))) [4])) lNil)))))
theorem okS_is_seating {xp : XP} {D : AEnds} {n : Nat} (a0 : (Int × (List ((List Int) × Int)))) (a1 : PyData)  (hC : C_is_seating a0 a1) (hq : D.rt (PyData.bool (v_is_seating a0 a1)) n) : nb_is_seating xp D ⟨[some (.dat (eP PyData.int (eQ (eP (eQ PyData.int) PyData.int)) a0)), some (.dat a1), none, none, none], n⟩ := by
  unfold C_is_seating at hC; unfold v_is_seating at hq; unfold nb_is_seating
  exact (c_seq (c_asg (ev_var 0 rfl) (fun _ q => ⟨rfl, rfl, q⟩) (c_aft (okS_is_seating_s1 a0 a1 a0.1 a0.2  hC hq))))
theorem okV_is_seating (a0 : (Int × (List ((List Int) × Int)))) (a1 : PyData) (hC : C_is_seating a0 a1) : PFn F_is_seating [(eP PyData.int (eQ (eP (eQ PyData.int) PyData.int)) a0), a1] (PyData.bool (v_is_seating a0 a1)) := fun n Q X q => by
  unfold F_is_seating
  exact okS_is_seating (xp := fun x s => X x s.n) (D := { nx := fun s => Q .none s.n, rt := Q }) a0 a1 hC q

def v_row_from_s1 (a1 : Int) (a2 : (List (List Int))) : (List Int) := ((srtN (eP PyData.int PyData.int) ((enN a2).map fun x1_ : (Int × (List Int)) => ((v_distance (gt a2 a1) x1_.2), x1_.1))).map fun x3_ : (Int × Int) => x3_.2)
def C_row_from_s1 (a1 : Int) (a2 : (List (List Int))) : Prop := ((enN a2).length ≤ sizeLine ∧ (∀ x1_ ∈ (enN a2), (Ixr a2 a1 ∧ C_distance (gt a2 a1) x1_.2)) ∧ SrtOk (((enN a2).map fun x1_ : (Int × (List Int)) => ((v_distance (gt a2 a1) x1_.2), x1_.1)).map (eP PyData.int PyData.int)) ∧ (srtN (eP PyData.int PyData.int) ((enN a2).map fun x1_ : (Int × (List Int)) => ((v_distance (gt a2 a1) x1_.2), x1_.1))).length ≤ sizeLine)
def nb_row_from_s1 : AST := (sSeq (sSet 3 (aLc (iEnT (aVar 2)) (bTup 2 (bCons (bNm 4) (bCons (bNm 5) bNil))) tYesA (aTup (lCons (oV (aCall0 [.dat, .dat] (calm F_distance) (lCons (oV (a2 vIx (oVar 2) (oVar 1))) (lCons (oV (aVar 5)) lNil)))) (lCons (oV (aVar 4)) lNil))) [4, 5]))
    (sRet (aBlt fTuple (lCons (oV (aLc (iSeq (oV (aBlt fSorted (lCons (oVar 3) lNil)))) (bTup 2 (bCons (bNm 6) (bCons (bNm 4) bNil))) tYesA (aVar 4) [6, 4])) lNil))))
theorem okS_row_from_s1 {xp : XP} {D : AEnds} {n : Nat} (a1 : Int) (a2 : (List (List Int))) (j0 : Option AV) (hC : C_row_from_s1 a1 a2) (hq : D.rt (eQ PyData.int (v_row_from_s1 a1 a2)) n) : nb_row_from_s1 xp D ⟨[j0, some (.dat (PyData.int a1)), some (.dat (eQ (eQ PyData.int) a2)), none, none, none, none], n⟩ := by
  unfold C_row_from_s1 at hC; unfold v_row_from_s1 at hq; unfold nb_row_from_s1
  exact (c_seq (c_set (ev_lcM (eP PyData.int (eQ PyData.int)) (eP PyData.int PyData.int) (fun x1_ : (Int × (List Int)) => ((v_distance (gt a2 a1) x1_.2), x1_.1)) (fun x1_ : (Int × (List Int)) => (⟨[j0, some (.dat (PyData.int a1)), some (.dat (eQ (eQ PyData.int) a2)), none, some (.dat (PyData.int x1_.1)), some (.dat (eQ PyData.int x1_.2)), none], n⟩ : AS)) (fun x1_ : (Int × (List Int)) => (⟨[j0, some (.dat (PyData.int a1)), some (.dat (eQ (eQ PyData.int) a2)), none, some (.dat (PyData.int x1_.1)), some (.dat (eQ PyData.int x1_.2)), none], n⟩ : AS)) (iv_enT (f := (eQ PyData.int)) (ev_var 2 rfl)) hC.1 rfl True.intro (fun x1_ hx2_ => (fun _ q => ⟨rfl, rfl, q⟩)) (fun x1_ hx2_ => (ev_tup (lv_cons (ov_V (ev_call0 (lv_cons (ov_V (ev_a2 (ov_dat 2 rfl) (ov_dat 1 rfl) rfl rfl (vf_ixQ (f := (eQ PyData.int)) (hC.2.1 x1_ hx2_).1))) (lv_cons (ov_V (ev_var 5 rfl)) lv_nil)) (fun _ q => q) (okV_distance (gt a2 a1) x1_.2 (hC.2.1 x1_ hx2_).2))) (lv_cons (ov_V (ev_var 4 rfl)) lv_nil)) (fun _ q => q) rfl)) (fun _ _ => ⟨rfl, rfl⟩)) rfl (c_aft (c_ret (ev_blt (lv_cons (ov_V (ev_lcM (eP PyData.int PyData.int) PyData.int (fun x3_ : (Int × Int) => x3_.2) (fun x3_ : (Int × Int) => (⟨[j0, some (.dat (PyData.int a1)), some (.dat (eQ (eQ PyData.int) a2)), some (.dat (eL (eP PyData.int PyData.int) ((enN a2).map fun x1_ : (Int × (List Int)) => ((v_distance (gt a2 a1) x1_.2), x1_.1)))), some (.dat (PyData.int x3_.2)), none, some (.dat (PyData.int x3_.1))], n⟩ : AS)) (fun x3_ : (Int × Int) => (⟨[j0, some (.dat (PyData.int a1)), some (.dat (eQ (eQ PyData.int) a2)), some (.dat (eL (eP PyData.int PyData.int) ((enN a2).map fun x1_ : (Int × (List Int)) => ((v_distance (gt a2 a1) x1_.2), x1_.1)))), some (.dat (PyData.int x3_.2)), none, some (.dat (PyData.int x3_.1))], n⟩ : AS)) (iv_valL (f := (eP PyData.int PyData.int)) (l := (srtN (eP PyData.int PyData.int) ((enN a2).map fun x1_ : (Int × (List Int)) => ((v_distance (gt a2 a1) x1_.2), x1_.1)))) (ov_V (ev_blt (lv_cons (ov_dat 3 rfl) lv_nil) (rsl_cons rfl (fun _ q => q)) (fv_sortedL (f := (eP PyData.int PyData.int)) hC.2.2.1)))) hC.2.2.2 rfl True.intro (fun x3_ hx4_ => (fun _ q => ⟨rfl, rfl, q⟩)) (fun x3_ hx4_ => (ev_var 4 rfl)) (fun _ _ => ⟨rfl, rfl⟩))) lv_nil) (rsl_cons rfl (fun _ q => q)) (fv_tupleL (f := PyData.int))) hq))))
def v_row_from (a0 : (Int × (List ((List Int) × Int)))) (a1 : Int) : (List Int) := (v_row_from_s1 a1 (v_rankings_of a0))
def C_row_from (a0 : (Int × (List ((List Int) × Int)))) (a1 : Int) : Prop := (C_rankings_of a0 ∧ C_row_from_s1 a1 (v_rankings_of a0))
def nb_row_from : AST := (sSeq (sSet 2 (aCall0 [.dat] (calm F_rankings_of) (lCons (oV (aVar 0)) lNil)))
    (sSeq (sSet 3 (aLc (iEnT (aVar 2)) (bTup 2 (bCons (bNm 4) (bCons (bNm 5) bNil))) tYesA (aTup (lCons (oV (aCall0 [.dat, .dat] (calm F_distance) (lCons (oV (a2 vIx (oVar 2) (oVar 1))) (lCons (oV (aVar 5)) lNil)))) (lCons (oV (aVar 4)) lNil))) [4, 5]))
    (sRet (aBlt fTuple (lCons (oV (aLc (iSeq (oV (aBlt fSorted (lCons (oVar 3) lNil)))) (bTup 2 (bCons (bNm 6) (bCons (bNm 4) bNil))) tYesA (aVar 4) [6, 4])) lNil)))))
theorem okS_row_from {xp : XP} {D : AEnds} {n : Nat} (a0 : (Int × (List ((List Int) × Int)))) (a1 : Int)  (hC : C_row_from a0 a1) (hq : D.rt (eQ PyData.int (v_row_from a0 a1)) n) : nb_row_from xp D ⟨[some (.dat (eP PyData.int (eQ (eP (eQ PyData.int) PyData.int)) a0)), some (.dat (PyData.int a1)), none, none, none, none, none], n⟩ := by
  unfold C_row_from at hC; unfold v_row_from at hq; unfold nb_row_from
  exact (c_seq (c_set (ev_call0 (lv_cons (ov_V (ev_var 0 rfl)) lv_nil) (fun _ q => q) (okV_rankings_of a0 hC.1)) rfl (c_aft (okS_row_from_s1 a1 (v_rankings_of a0) (some (.dat (eP PyData.int (eQ (eP (eQ PyData.int) PyData.int)) a0))) hC.2 hq))))
theorem okV_row_from (a0 : (Int × (List ((List Int) × Int)))) (a1 : Int) (hC : C_row_from a0 a1) : PFn F_row_from [(eP PyData.int (eQ (eP (eQ PyData.int) PyData.int)) a0), (PyData.int a1)] (eQ PyData.int (v_row_from a0 a1)) := fun n Q X q => by
  unfold F_row_from
  exact okS_row_from (xp := fun x s => X x s.n) (D := { nx := fun s => Q .none s.n, rt := Q }) a0 a1 hC q

def v_find_seating_s1 (a0 : (Int × (List ((List Int) × Int)))) (a1 : (List Int)) : (Option (List Int)) := (bif (v_is_seating a0 (eQ PyData.int (min2N (eQ PyData.int) a1 (v_row_from a0 (gl a1))))) then (some (min2N (eQ PyData.int) a1 (v_row_from a0 (gl a1)))) else none)
def C_find_seating_s1 (a0 : (Int × (List ((List Int) × Int)))) (a1 : (List Int)) : Prop := (a1 ≠ [] ∧ C_row_from a0 (gl a1) ∧ MmOk [(eQ PyData.int a1), (eQ PyData.int (v_row_from a0 (gl a1)))] ∧ C_is_seating a0 (eQ PyData.int (min2N (eQ PyData.int) a1 (v_row_from a0 (gl a1)))))
def nb_find_seating_s1 : AST := (sSeq (sSet 2 (aBlt fMin2B (lCons (oVar 1) (lCons (oV (aCall0 [.dat, .dat] (calm F_row_from) (lCons (oV (aVar 0)) (lCons (oV (a2 vIx (oVar 1) (oV (aNeg (oV (aC (.int 1))))))) lNil)))) lNil))))
    (sRet (aIfE (tTruA (oV (aCall0 [.dat, .dat] (calm F_is_seating) (lCons (oV (aVar 0)) (lCons (oV (aVar 2)) lNil))))) (aVar 2) (aC .none))))
theorem okS_find_seating_s1 {xp : XP} {D : AEnds} {n : Nat} (a0 : (Int × (List ((List Int) × Int)))) (a1 : (List Int))  (hC : C_find_seating_s1 a0 a1) (hq : D.rt (eM (eQ PyData.int) (v_find_seating_s1 a0 a1)) n) : nb_find_seating_s1 xp D ⟨[some (.dat (eP PyData.int (eQ (eP (eQ PyData.int) PyData.int)) a0)), some (.dat (eQ PyData.int a1)), none], n⟩ := by
  unfold C_find_seating_s1 at hC; unfold v_find_seating_s1 at hq; unfold nb_find_seating_s1
  exact (c_seq (c_set (ev_blt (lv_cons (ov_dat 1 rfl) (lv_cons (ov_V (ev_call0 (lv_cons (ov_V (ev_var 0 rfl)) (lv_cons (ov_V (ev_a2 (ov_dat 1 rfl) (ov_V ev_neg1) rfl rfl (vf_ixQl (f := PyData.int) hC.1))) lv_nil)) (fun _ q => q) (okV_row_from a0 (gl a1) hC.2.1))) lv_nil)) (rsl_cons rfl (rsl_cons rfl (fun _ q => q))) (fv_min2Q (f := PyData.int) hC.2.2.1)) rfl (c_aft (c_ret (ev_if (x := (some (min2N (eQ PyData.int) a1 (v_row_from a0 (gl a1))))) (y := none) (eM (eQ PyData.int)) (tv_tru (ov_V (ev_call0 (lv_cons (ov_V (ev_var 0 rfl)) (lv_cons (ov_V (ev_var 2 rfl)) lv_nil)) (fun _ q => q) (okV_is_seating a0 (eQ PyData.int (min2N (eQ PyData.int) a1 (v_row_from a0 (gl a1)))) hC.2.2.2))) rfl tru_B) (fun h1_ => (ev_var 2 rfl)) (fun h1_ => ev_c)) hq))))
def v_find_seating (a0 : (Int × (List ((List Int) × Int)))) : (Option (List Int)) := (v_find_seating_s1 a0 (v_row_from a0 (gl (v_row_from a0 (0 : Int)))))
def C_find_seating (a0 : (Int × (List ((List Int) × Int)))) : Prop := (C_row_from a0 (0 : Int) ∧ (v_row_from a0 (0 : Int)) ≠ [] ∧ C_row_from a0 (gl (v_row_from a0 (0 : Int))) ∧ C_find_seating_s1 a0 (v_row_from a0 (gl (v_row_from a0 (0 : Int)))))
def nb_find_seating : AST := (sSeq (sSet 1 (aCall0 [.dat, .dat] (calm F_row_from) (lCons (oV (aVar 0)) (lCons (oV (a2 vIx (oV (aCall0 [.dat, .dat] (calm F_row_from) (lCons (oV (aVar 0)) (lCons (oV (aC (.int 0))) lNil)))) (oV (aNeg (oV (aC (.int 1))))))) lNil))))
    (sSeq (sSet 2 (aBlt fMin2B (lCons (oVar 1) (lCons (oV (aCall0 [.dat, .dat] (calm F_row_from) (lCons (oV (aVar 0)) (lCons (oV (a2 vIx (oVar 1) (oV (aNeg (oV (aC (.int 1))))))) lNil)))) lNil))))
    (sRet (aIfE (tTruA (oV (aCall0 [.dat, .dat] (calm F_is_seating) (lCons (oV (aVar 0)) (lCons (oV (aVar 2)) lNil))))) (aVar 2) (aC .none)))))
theorem okS_find_seating {xp : XP} {D : AEnds} {n : Nat} (a0 : (Int × (List ((List Int) × Int))))  (hC : C_find_seating a0) (hq : D.rt (eM (eQ PyData.int) (v_find_seating a0)) n) : nb_find_seating xp D ⟨[some (.dat (eP PyData.int (eQ (eP (eQ PyData.int) PyData.int)) a0)), none, none], n⟩ := by
  unfold C_find_seating at hC; unfold v_find_seating at hq; unfold nb_find_seating
  exact (c_seq (c_set (ev_call0 (lv_cons (ov_V (ev_var 0 rfl)) (lv_cons (ov_V (ev_a2 (ov_V (ev_call0 (lv_cons (ov_V (ev_var 0 rfl)) (lv_cons (ov_V ev_c) lv_nil)) (fun _ q => q) (okV_row_from a0 (0 : Int) hC.1))) (ov_V ev_neg1) rfl rfl (vf_ixQl (f := PyData.int) hC.2.1))) lv_nil)) (fun _ q => q) (okV_row_from a0 (gl (v_row_from a0 (0 : Int))) hC.2.2.1)) rfl (c_aft (okS_find_seating_s1 a0 (v_row_from a0 (gl (v_row_from a0 (0 : Int))))  hC.2.2.2 hq))))
theorem okV_find_seating (a0 : (Int × (List ((List Int) × Int)))) (hC : C_find_seating a0) : PFn F_find_seating [(eP PyData.int (eQ (eP (eQ PyData.int) PyData.int)) a0)] (eM (eQ PyData.int) (v_find_seating a0)) := fun n Q X q => by
  unfold F_find_seating
  exact okS_find_seating (xp := fun x s => X x s.n) (D := { nx := fun s => Q .none s.n, rt := Q }) a0 hC q

def v_views_of (a0 : (Int × (List ((List Int) × Int)))) : (List ((List Int) × (List Bool))) := ((v_all_pairs a0.1).map fun x1_ : (List Int) => (x1_, (v_sides a0 x1_)))
def C_views_of (a0 : (Int × (List ((List Int) × Int)))) : Prop := (C_all_pairs a0.1 ∧ (v_all_pairs a0.1).length ≤ sizeLine ∧ (∀ x1_ ∈ (v_all_pairs a0.1), C_sides a0 x1_))
def nb_views_of : AST := (sRet (aLc (iSeq (oV (aCall0 [.dat] (calm F_all_pairs) (lCons (oV (a2 vIx (oVar 0) (oV (aC (.int 0))))) lNil)))) (bNm 1) tYesA (aTup (lCons (oV (aVar 1)) (lCons (oV (aCall0 [.dat, .dat] (calm F_sides) (lCons (oV (aVar 0)) (lCons (oV (aVar 1)) lNil)))) lNil))) [1]))
theorem okS_views_of {xp : XP} {D : AEnds} {n : Nat} (a0 : (Int × (List ((List Int) × Int))))  (hC : C_views_of a0) (hq : D.rt (eL (eP (eQ PyData.int) (eL PyData.bool)) (v_views_of a0)) n) : nb_views_of xp D ⟨[some (.dat (eP PyData.int (eQ (eP (eQ PyData.int) PyData.int)) a0)), none], n⟩ := by
  unfold C_views_of at hC; unfold v_views_of at hq; unfold nb_views_of
  exact (c_ret (ev_lcM (eQ PyData.int) (eP (eQ PyData.int) (eL PyData.bool)) (fun x1_ : (List Int) => (x1_, (v_sides a0 x1_))) (fun x1_ : (List Int) => (⟨[some (.dat (eP PyData.int (eQ (eP (eQ PyData.int) PyData.int)) a0)), some (.dat (eQ PyData.int x1_))], n⟩ : AS)) (fun x1_ : (List Int) => (⟨[some (.dat (eP PyData.int (eQ (eP (eQ PyData.int) PyData.int)) a0)), some (.dat (eQ PyData.int x1_))], n⟩ : AS)) (iv_valL (f := (eQ PyData.int)) (l := (v_all_pairs a0.1)) (ov_V (ev_call0 (lv_cons (ov_V (ev_a2 (ov_dat 0 rfl) (ov_V ev_c) rfl rfl (vf_ixT at_0))) lv_nil) (fun _ q => q) (okV_all_pairs a0.1 hC.1)))) hC.2.1 rfl True.intro (fun x1_ hx2_ => ((bv_nm 1).to rfl)) (fun x1_ hx2_ => (ev_tup (lv_cons (ov_V (ev_var 1 rfl)) (lv_cons (ov_V (ev_call0 (lv_cons (ov_V (ev_var 0 rfl)) (lv_cons (ov_V (ev_var 1 rfl)) lv_nil)) (fun _ q => q) (okV_sides a0 x1_ (hC.2.2 x1_ hx2_)))) lv_nil)) (fun _ q => q) rfl)) (fun _ _ => ⟨rfl, rfl⟩)) hq)
theorem okV_views_of (a0 : (Int × (List ((List Int) × Int)))) (hC : C_views_of a0) : PFn F_views_of [(eP PyData.int (eQ (eP (eQ PyData.int) PyData.int)) a0)] (eL (eP (eQ PyData.int) (eL PyData.bool)) (v_views_of a0)) := fun n Q X q => by
  unfold F_views_of
  exact okS_views_of (xp := fun x s => X x s.n) (D := { nx := fun s => Q .none s.n, rt := Q }) a0 hC q

def v_find_triple (a0 : (List ((List Int) × (List Bool)))) (a1 : (List Int)) : PyData := default
def C_find_triple (a0 : (List ((List Int) × (List Bool)))) (a1 : (List Int)) : Prop := False
theorem okV_find_triple (a0 : (List ((List Int) × (List Bool)))) (a1 : (List Int)) (hC : C_find_triple a0 a1) : PFn F_find_triple [(eL (eP (eQ PyData.int) (eL PyData.bool)) a0), (eQ PyData.int a1)] (v_find_triple a0 a1) := fun _ _ _ _ => hC.elim

def v_find_quadruple (a0 : (List ((List Int) × (List Bool)))) (a1 : (List Int)) : PyData := default
def C_find_quadruple (a0 : (List ((List Int) × (List Bool)))) (a1 : (List Int)) : Prop := False
theorem okV_find_quadruple (a0 : (List ((List Int) × (List Bool)))) (a1 : (List Int)) (hC : C_find_quadruple a0 a1) : PFn F_find_quadruple [(eL (eP (eQ PyData.int) (eL PyData.bool)) a0), (eQ PyData.int a1)] (v_find_quadruple a0 a1) := fun _ _ _ _ => hC.elim

def v_find_conflict (a0 : (List ((List Int) × (List Bool)))) (a1 : (List Int)) : PyData := (bif (decide (((a1.length : Nat) : Int) = (3 : Int))) then (v_find_triple a0 a1) else (v_find_quadruple a0 a1))
def C_find_conflict (a0 : (List ((List Int) × (List Bool)))) (a1 : (List Int)) : Prop := (((decide (((a1.length : Nat) : Int) = (3 : Int))) = true → C_find_triple a0 a1) ∧ ((decide (((a1.length : Nat) : Int) = (3 : Int))) = false → C_find_quadruple a0 a1))
def nb_find_conflict : AST := (sRet (aIfE (tV (a2 vEq (oV (aBlt fLen (lCons (oVar 1) lNil))) (oV (aC (.int 3))))) (aCall0 [.dat, .dat] (calm F_find_triple) (lCons (oV (aVar 0)) (lCons (oV (aVar 1)) lNil))) (aCall0 [.dat, .dat] (calm F_find_quadruple) (lCons (oV (aVar 0)) (lCons (oV (aVar 1)) lNil)))))
theorem okS_find_conflict {xp : XP} {D : AEnds} {n : Nat} (a0 : (List ((List Int) × (List Bool)))) (a1 : (List Int))  (hC : C_find_conflict a0 a1) (hq : D.rt (v_find_conflict a0 a1) n) : nb_find_conflict xp D ⟨[some (.dat (eL (eP (eQ PyData.int) (eL PyData.bool)) a0)), some (.dat (eQ PyData.int a1))], n⟩ := by
  unfold C_find_conflict at hC; unfold v_find_conflict at hq; unfold nb_find_conflict
  exact (c_ret (ev_if (x := (v_find_triple a0 a1)) (y := (v_find_quadruple a0 a1)) eD (tv_V (ev_a2 (ov_V (ev_blt (lv_cons (ov_dat 1 rfl) lv_nil) (rsl_cons rfl (fun _ q => q)) (fv_lenQ (f := PyData.int)))) (ov_V ev_c) rfl rfl (vf_eq (f := PyData.int) lw_I (sh_I (k := 0)) rfl))) (fun h1_ => (ev_call0 (lv_cons (ov_V (ev_var 0 rfl)) (lv_cons (ov_V (ev_var 1 rfl)) lv_nil)) (fun _ q => q) (okV_find_triple a0 a1 (hC.1 h1_)))) (fun h1_ => (ev_call0 (lv_cons (ov_V (ev_var 0 rfl)) (lv_cons (ov_V (ev_var 1 rfl)) lv_nil)) (fun _ q => q) (okV_find_quadruple a0 a1 (hC.2 h1_))))) hq)
theorem okV_find_conflict (a0 : (List ((List Int) × (List Bool)))) (a1 : (List Int)) (hC : C_find_conflict a0 a1) : PFn F_find_conflict [(eL (eP (eQ PyData.int) (eL PyData.bool)) a0), (eQ PyData.int a1)] (v_find_conflict a0 a1) := fun n Q X q => by
  unfold F_find_conflict
  exact okS_find_conflict (xp := fun x s => X x s.n) (D := { nx := fun s => Q .none s.n, rt := Q }) a0 a1 hC q

def v_possible_conflicts (a0 : (Int × (List ((List Int) × Int)))) : (List (List Int)) := ((v_ascending_tuples ((a0.2.length : Nat) : Int) (3 : Int)) ++ (v_ascending_tuples ((a0.2.length : Nat) : Int) (4 : Int)))
def C_possible_conflicts (a0 : (Int × (List ((List Int) × Int)))) : Prop := (C_ascending_tuples ((a0.2.length : Nat) : Int) (3 : Int) ∧ C_ascending_tuples ((a0.2.length : Nat) : Int) (4 : Int) ∧ (v_ascending_tuples ((a0.2.length : Nat) : Int) (3 : Int)).length + (v_ascending_tuples ((a0.2.length : Nat) : Int) (4 : Int)).length ≤ sizeLine)
def nb_possible_conflicts : AST := (sSeq (sSet 1 (aBlt fLen (lCons (oV (a2 vIx (oVar 0) (oV (aC (.int 1))))) lNil)))
    (sRet (a2 vAdd (oV (aCall0 [.dat, .dat] (calm F_ascending_tuples) (lCons (oV (aVar 1)) (lCons (oV (aC (.int 3))) lNil)))) (oV (aCall0 [.dat, .dat] (calm F_ascending_tuples) (lCons (oV (aVar 1)) (lCons (oV (aC (.int 4))) lNil)))))))
theorem okS_possible_conflicts {xp : XP} {D : AEnds} {n : Nat} (a0 : (Int × (List ((List Int) × Int))))  (hC : C_possible_conflicts a0) (hq : D.rt (eL (eQ PyData.int) (v_possible_conflicts a0)) n) : nb_possible_conflicts xp D ⟨[some (.dat (eP PyData.int (eQ (eP (eQ PyData.int) PyData.int)) a0)), none], n⟩ := by
  unfold C_possible_conflicts at hC; unfold v_possible_conflicts at hq; unfold nb_possible_conflicts
  exact (c_seq (c_set (ev_blt (lv_cons (ov_V (ev_a2 (ov_dat 0 rfl) (ov_V ev_c) rfl rfl (vf_ixT at_1))) lv_nil) (rsl_cons rfl (fun _ q => q)) (fv_lenQ (f := (eP (eQ PyData.int) PyData.int)))) rfl (c_aft (c_ret (ev_a2 (ov_V (ev_call0 (lv_cons (ov_V (ev_var 1 rfl)) (lv_cons (ov_V ev_c) lv_nil)) (fun _ q => q) (okV_ascending_tuples ((a0.2.length : Nat) : Int) (3 : Int) hC.1))) (ov_V (ev_call0 (lv_cons (ov_V (ev_var 1 rfl)) (lv_cons (ov_V ev_c) lv_nil)) (fun _ q => q) (okV_ascending_tuples ((a0.2.length : Nat) : Int) (4 : Int) hC.2.1))) rfl rfl (vf_addL (f := (eQ PyData.int)) hC.2.2)) hq))))
theorem okV_possible_conflicts (a0 : (Int × (List ((List Int) × Int)))) (hC : C_possible_conflicts a0) : PFn F_possible_conflicts [(eP PyData.int (eQ (eP (eQ PyData.int) PyData.int)) a0)] (eL (eQ PyData.int) (v_possible_conflicts a0)) := fun n Q X q => by
  unfold F_possible_conflicts
  exact okS_possible_conflicts (xp := fun x s => X x s.n) (D := { nx := fun s => Q .none s.n, rt := Q }) a0 hC q

def v_find_obstruction (a0 : (Int × (List ((List Int) × Int)))) : PyData := default
def C_find_obstruction (a0 : (Int × (List ((List Int) × Int)))) : Prop := False
theorem okV_find_obstruction (a0 : (Int × (List ((List Int) × Int)))) (hC : C_find_obstruction a0) : PFn F_find_obstruction [(eP PyData.int (eQ (eP (eQ PyData.int) PyData.int)) a0)] (v_find_obstruction a0) := fun _ _ _ _ => hC.elim

def v_first_seating_s1 (a0 : (Int × (List ((List Int) × Int)))) (a1 : (Option (List Int))) : (List Int) := (bif (a1.isNone) then default else (om a1))
def C_first_seating_s1 (a0 : (Int × (List ((List Int) × Int)))) (a1 : (Option (List Int))) : Prop := (((a1.isNone) = true → False) ∧ ((a1.isNone) = false → a1.isSome = true))
def nb_first_seating_s1 : AST := (sSeq (sIf (tV (a2 vIs (oVar 1) (oV (aC .none))))
    sNever
    sNx)
    (sRetV 1))
theorem okS_first_seating_s1 {xp : XP} {D : AEnds} {n : Nat} (a0 : (Int × (List ((List Int) × Int)))) (a1 : (Option (List Int)))  (hC : C_first_seating_s1 a0 a1) (hq : D.rt (eQ PyData.int (v_first_seating_s1 a0 a1)) n) : nb_first_seating_s1 xp D ⟨[some (.dat (eP PyData.int (eQ (eP (eQ PyData.int) PyData.int)) a0)), some (.dat (eM (eQ PyData.int) a1))], n⟩ := by
  unfold C_first_seating_s1 at hC; unfold v_first_seating_s1 at hq; unfold nb_first_seating_s1
  exact (c_seq (c_if (tv_V (ev_a2 (ov_dat 1 rfl) (ov_V ev_c) rfl rfl (vf_isM (fun _ => rfl)))) (fun h1_ => (False.elim (hC.1 h1_))) (fun h1_ => (c_pass (c_aft (c_retV 1 rfl (by rw [(om_c (hC.2 h1_))]; exact (ifF (P := D) (f := (eQ PyData.int)) h1_ hq))))))))
def v_first_seating (a0 : (Int × (List ((List Int) × Int)))) : (List Int) := (v_first_seating_s1 a0 (v_find_seating a0))
def C_first_seating (a0 : (Int × (List ((List Int) × Int)))) : Prop := (C_find_seating a0 ∧ C_first_seating_s1 a0 (v_find_seating a0))
def nb_first_seating : AST := (sSeq (sSet 1 (aCall0 [.dat] (calm F_find_seating) (lCons (oV (aVar 0)) lNil)))
    (sSeq (sIf (tV (a2 vIs (oVar 1) (oV (aC .none))))
    sNever
    sNx)
    (sRetV 1)))
theorem okS_first_seating {xp : XP} {D : AEnds} {n : Nat} (a0 : (Int × (List ((List Int) × Int))))  (hC : C_first_seating a0) (hq : D.rt (eQ PyData.int (v_first_seating a0)) n) : nb_first_seating xp D ⟨[some (.dat (eP PyData.int (eQ (eP (eQ PyData.int) PyData.int)) a0)), none], n⟩ := by
  unfold C_first_seating at hC; unfold v_first_seating at hq; unfold nb_first_seating
  exact (c_seq (c_set (ev_call0 (lv_cons (ov_V (ev_var 0 rfl)) lv_nil) (fun _ q => q) (okV_find_seating a0 hC.1)) rfl (c_aft (okS_first_seating_s1 a0 (v_find_seating a0)  hC.2 hq))))
theorem okV_first_seating (a0 : (Int × (List ((List Int) × Int)))) (hC : C_first_seating a0) : PFn F_first_seating [(eP PyData.int (eQ (eP (eQ PyData.int) PyData.int)) a0)] (eQ PyData.int (v_first_seating a0)) := fun n Q X q => by
  unfold F_first_seating
  exact okS_first_seating (xp := fun x s => X x s.n) (D := { nx := fun s => Q .none s.n, rt := Q }) a0 hC q

def v_group_order (a0 : (Int × (List ((List Int) × Int)))) : (List (List Int)) := (srtK (fun x1_ : (List Int) => (((v_first_seating a0).idxOf (gt x1_ (0 : Int)) : Nat) : Int)) (v_groups a0))
def C_group_order (a0 : (Int × (List ((List Int) × Int)))) : Prop := (C_first_seating a0 ∧ C_groups a0 ∧ (v_groups a0).length ≤ 4000 ∧ (∀ x1_ ∈ (v_groups a0), (Ixr x1_ (0 : Int) ∧ (gt x1_ (0 : Int)) ∈ (v_first_seating a0))))
def nb_group_order : AST := (sSeq (sSet 1 (aCall0 [.dat] (calm F_first_seating) (lCons (oV (aVar 0)) lNil)))
    (sRet (aBlt fTuple (lCons (oV (aSortK ["group", "seating"] [1] (aIdx (oVar 1) (lCons (oV (a2 vIx (oVar 0) (oV (aC (.int 0))))) lNil)) (aCall0 [.dat] (calm F_groups) (lCons (oV (aVar 0)) lNil)))) lNil))))
theorem okS_group_order {xp : XP} {D : AEnds} {n : Nat} (a0 : (Int × (List ((List Int) × Int))))  (hC : C_group_order a0) (hq : D.rt (eQ (eQ PyData.int) (v_group_order a0)) n) : nb_group_order xp D ⟨[some (.dat (eP PyData.int (eQ (eP (eQ PyData.int) PyData.int)) a0)), none], n⟩ := by
  unfold C_group_order at hC; unfold v_group_order at hq; unfold nb_group_order
  exact (c_seq (c_set (ev_call0 (lv_cons (ov_V (ev_var 0 rfl)) lv_nil) (fun _ q => q) (okV_first_seating a0 hC.1)) rfl (c_aft (c_ret (ev_blt (lv_cons (ov_V (ev_sortK (f := (eQ PyData.int)) (fun x1_ : (List Int) => (((v_first_seating a0).idxOf (gt x1_ (0 : Int)) : Nat) : Int)) (ev_call0 (lv_cons (ov_V (ev_var 0 rfl)) lv_nil) (fun _ q => q) (okV_groups a0 hC.2.1)) (fun x1_ hx2_ => (ev_idx (ov_dat 1 rfl) (lv_cons (ov_V (ev_a2 (ov_dat 0 rfl) (ov_V ev_c) rfl rfl (vf_ixQ (f := PyData.int) (hC.2.2.2 x1_ hx2_).1))) lv_nil) (rsl_cons rfl (fun _ q => q)) (hC.2.2.2 x1_ hx2_).2)) hC.2.2.1)) lv_nil) (rsl_cons rfl (fun _ q => q)) (fv_tupleL (f := (eQ PyData.int)))) hq))))
theorem okV_group_order (a0 : (Int × (List ((List Int) × Int)))) (hC : C_group_order a0) : PFn F_group_order [(eP PyData.int (eQ (eP (eQ PyData.int) PyData.int)) a0)] (eQ (eQ PyData.int) (v_group_order a0)) := fun n Q X q => by
  unfold F_group_order
  exact okS_group_order (xp := fun x s => X x s.n) (D := { nx := fun s => Q .none s.n, rt := Q }) a0 hC q

def v_support (a0 : (Int × (List ((List Int) × Int)))) (a1 : PyData) (a2 : PyData) : Int := ((a0.2.filter fun x1_ : ((List Int) × Int) => (v_prefers x1_.1 (dI a1) (dI a2))).map fun x1_ : ((List Int) × Int) => x1_.2).sum
def C_support (a0 : (Int × (List ((List Int) × Int)))) (a1 : PyData) (a2 : PyData) : Prop := (C_check_two_dishes a0.1 a1 a2 ∧ a0.2.length ≤ sizeLine ∧ (∀ x1_ ∈ a0.2, (a1 = (PyData.int (dI a1)) ∧ a2 = (PyData.int (dI a2)) ∧ C_prefers x1_.1 (dI a1) (dI a2))))
def nb_support : AST := (sSeq (sDrop (aCall0 [.dat, .dat, .dat] (calm F_check_two_dishes) (lCons (oV (a2 vIx (oVar 0) (oV (aC (.int 0))))) (lCons (oV (aVar 1)) (lCons (oV (aVar 2)) lNil)))))
    (sRet (aBlt fSum (lCons (oV (aLc (iSeq (oV (a2 vIx (oVar 0) (oV (aC (.int 1)))))) (bTup 2 (bCons (bNm 3) (bCons (bNm 4) bNil))) (tTruA (oV (aCall0 [.dat, .dat, .dat] (calm F_prefers) (lCons (oV (aVar 3)) (lCons (oV (aVar 1)) (lCons (oV (aVar 2)) lNil)))))) (aVar 4) [3, 4])) lNil))))
theorem okS_support {xp : XP} {D : AEnds} {n : Nat} (a0 : (Int × (List ((List Int) × Int)))) (a1 : PyData) (a2 : PyData)  (hC : C_support a0 a1 a2) (hq : D.rt (PyData.int (v_support a0 a1 a2)) n) : nb_support xp D ⟨[some (.dat (eP PyData.int (eQ (eP (eQ PyData.int) PyData.int)) a0)), some (.dat a1), some (.dat a2), none, none], n⟩ := by
  unfold C_support at hC; unfold v_support at hq; unfold nb_support
  exact (c_seq (c_drop (ev_call0 (lv_cons (ov_V (ev_a2 (ov_dat 0 rfl) (ov_V ev_c) rfl rfl (vf_ixT at_0))) (lv_cons (ov_V (ev_var 1 rfl)) (lv_cons (ov_V (ev_var 2 rfl)) lv_nil))) (fun _ q => q) (okV_check_two_dishes a0.1 a1 a2 hC.1)) (c_aft (c_ret (ev_blt (lv_cons (ov_V (ev_lcF (eP (eQ PyData.int) PyData.int) (fun x1_ : ((List Int) × Int) => (v_prefers x1_.1 (dI a1) (dI a2))) PyData.int (fun x1_ : ((List Int) × Int) => x1_.2) (fun x1_ : ((List Int) × Int) => (⟨[some (.dat (eP PyData.int (eQ (eP (eQ PyData.int) PyData.int)) a0)), some (.dat a1), some (.dat a2), some (.dat (eQ PyData.int x1_.1)), some (.dat (PyData.int x1_.2))], n⟩ : AS)) (fun x1_ : ((List Int) × Int) => (⟨[some (.dat (eP PyData.int (eQ (eP (eQ PyData.int) PyData.int)) a0)), some (.dat a1), some (.dat a2), some (.dat (eQ PyData.int x1_.1)), some (.dat (PyData.int x1_.2))], n⟩ : AS)) (iv_valQ (f := (eP (eQ PyData.int) PyData.int)) (l := a0.2) (ov_V (ev_a2 (ov_dat 0 rfl) (ov_V ev_c) rfl rfl (vf_ixT at_1)))) hC.2.1 rfl True.intro (fun x1_ hx2_ => (fun _ q => ⟨rfl, rfl, q⟩)) (fun x1_ hx2_ => (tv_tru (ov_V (ev_call0 (lv_cons (ov_V (ev_var 3 rfl)) (lv_cons (ov_V (ev_cast (ev_var 1 rfl) (hC.2.2 x1_ hx2_).1)) (lv_cons (ov_V (ev_cast (ev_var 2 rfl) (hC.2.2 x1_ hx2_).2.1)) lv_nil))) (fun _ q => q) (okV_prefers x1_.1 (dI a1) (dI a2) (hC.2.2 x1_ hx2_).2.2))) rfl tru_B)) (fun x1_ hx2_ h3_ => (ev_var 4 rfl)) (fun _ _ => ⟨rfl, rfl⟩))) lv_nil) (rsl_cons rfl (fun _ q => q)) fv_sum) hq))))
theorem okV_support (a0 : (Int × (List ((List Int) × Int)))) (a1 : PyData) (a2 : PyData) (hC : C_support a0 a1 a2) : PFn F_support [(eP PyData.int (eQ (eP (eQ PyData.int) PyData.int)) a0), a1, a2] (PyData.int (v_support a0 a1 a2)) := fun n Q X q => by
  unfold F_support
  exact okS_support (xp := fun x s => X x s.n) (D := { nx := fun s => Q .none s.n, rt := Q }) a0 a1 a2 hC q

def v_lead (a0 : (Int × (List ((List Int) × Int)))) (a1 : Int) (a2 : Int) : Int := (((2 : Int) * (v_support a0 (PyData.int a1) (PyData.int a2))) - (v_total_weight a0))
def C_lead (a0 : (Int × (List ((List Int) × Int)))) (a1 : Int) (a2 : Int) : Prop := (C_support a0 (PyData.int a1) (PyData.int a2) ∧ CMul (2 : Int) (v_support a0 (PyData.int a1) (PyData.int a2)) ∧ C_total_weight a0)
def nb_lead : AST := (sRet (a2 vSub (oV (a2 vMul (oV (aC (.int 2))) (oV (aCall0 [.dat, .dat, .dat] (calm F_support) (lCons (oV (aVar 0)) (lCons (oV (aVar 1)) (lCons (oV (aVar 2)) lNil))))))) (oV (aCall0 [.dat] (calm F_total_weight) (lCons (oV (aVar 0)) lNil)))))
theorem okS_lead {xp : XP} {D : AEnds} {n : Nat} (a0 : (Int × (List ((List Int) × Int)))) (a1 : Int) (a2 : Int)  (hC : C_lead a0 a1 a2) (hq : D.rt (PyData.int (v_lead a0 a1 a2)) n) : nb_lead xp D ⟨[some (.dat (eP PyData.int (eQ (eP (eQ PyData.int) PyData.int)) a0)), some (.dat (PyData.int a1)), some (.dat (PyData.int a2))], n⟩ := by
  unfold C_lead at hC; unfold v_lead at hq; unfold nb_lead
  exact (c_ret (ev_a2 (ov_V (ev_a2 (ov_V ev_c) (ov_V (ev_call0 (lv_cons (ov_V (ev_var 0 rfl)) (lv_cons (ov_V (ev_var 1 rfl)) (lv_cons (ov_V (ev_var 2 rfl)) lv_nil))) (fun _ q => q) (okV_support a0 (PyData.int a1) (PyData.int a2) hC.1))) rfl rfl (vf_mulI hC.2.1))) (ov_V (ev_call0 (lv_cons (ov_V (ev_var 0 rfl)) lv_nil) (fun _ q => q) (okV_total_weight a0 hC.2.2))) rfl rfl vf_subI) hq)
theorem okV_lead (a0 : (Int × (List ((List Int) × Int)))) (a1 : Int) (a2 : Int) (hC : C_lead a0 a1 a2) : PFn F_lead [(eP PyData.int (eQ (eP (eQ PyData.int) PyData.int)) a0), (PyData.int a1), (PyData.int a2)] (PyData.int (v_lead a0 a1 a2)) := fun n Q X q => by
  unfold F_lead
  exact okS_lead (xp := fun x s => X x s.n) (D := { nx := fun s => Q .none s.n, rt := Q }) a0 a1 a2 hC q

def v_majority_s1 (a0 : (Int × (List ((List Int) × Int)))) (a1 : (List (List Int))) : (List (Int × Int)) := (((srtN (eQ PyData.int) (a1 ++ (a1.map fun x3_ : (List Int) => [(gt x3_ 1), (gt x3_ 0)]))).filter fun x5_ : (List Int) => (decide ((0 : Int) < (v_lead a0 (gt x5_ 0) (gt x5_ 1))))).map fun x5_ : (List Int) => ((gt x5_ 0), (gt x5_ 1)))
def C_majority_s1 (a0 : (Int × (List ((List Int) × Int)))) (a1 : (List (List Int))) : Prop := (a1.length ≤ sizeLine ∧ (∀ x3_ ∈ a1, x3_.length = 2) ∧ a1.length + (a1.map fun x3_ : (List Int) => [(gt x3_ 1), (gt x3_ 0)]).length ≤ sizeLine ∧ SrtOk ((a1 ++ (a1.map fun x3_ : (List Int) => [(gt x3_ 1), (gt x3_ 0)])).map (eQ PyData.int)) ∧ (srtN (eQ PyData.int) (a1 ++ (a1.map fun x3_ : (List Int) => [(gt x3_ 1), (gt x3_ 0)]))).length ≤ sizeLine ∧ (∀ x5_ ∈ (srtN (eQ PyData.int) (a1 ++ (a1.map fun x3_ : (List Int) => [(gt x3_ 1), (gt x3_ 0)]))), (x5_.length = 2 ∧ C_lead a0 (gt x5_ 0) (gt x5_ 1))))
def nb_majority_s1 : AST := (sSeq (sSet 2 (aBlt fSorted (lCons (oV (a2 vCatL (oVar 1) (oV (aLc (iSeq (oVar 1)) (bTup 2 (bCons (bNm 5) (bCons (bNm 6) bNil))) tYesA (aTup (lCons (oV (aVar 6)) (lCons (oV (aVar 5)) lNil))) [5, 6])))) lNil)))
    (sRet (aBlt fTuple (lCons (oV (aLc (iSeq (oVar 2)) (bTup 2 (bCons (bNm 3) (bCons (bNm 4) bNil))) (tV (a2 vGt (oV (aCall0 [.dat, .dat, .dat] (calm F_lead) (lCons (oV (aVar 0)) (lCons (oV (aVar 3)) (lCons (oV (aVar 4)) lNil))))) (oV (aC (.int 0))))) (aTup (lCons (oV (aVar 3)) (lCons (oV (aVar 4)) lNil))) [3, 4])) lNil))))
theorem okS_majority_s1 {xp : XP} {D : AEnds} {n : Nat} (a0 : (Int × (List ((List Int) × Int)))) (a1 : (List (List Int)))  (hC : C_majority_s1 a0 a1) (hq : D.rt (eQ (eP PyData.int PyData.int) (v_majority_s1 a0 a1)) n) : nb_majority_s1 xp D ⟨[some (.dat (eP PyData.int (eQ (eP (eQ PyData.int) PyData.int)) a0)), some (.dat (eL (eQ PyData.int) a1)), none, none, none, none, none], n⟩ := by
  unfold C_majority_s1 at hC; unfold v_majority_s1 at hq; unfold nb_majority_s1
  exact (c_seq (c_set (ev_blt (lv_cons (ov_V (ev_a2 (ov_dat 1 rfl) (ov_V (ev_lcM (eQ PyData.int) (eQ PyData.int) (fun x3_ : (List Int) => [(gt x3_ 1), (gt x3_ 0)]) (fun x3_ : (List Int) => (⟨[some (.dat (eP PyData.int (eQ (eP (eQ PyData.int) PyData.int)) a0)), some (.dat (eL (eQ PyData.int) a1)), none, none, none, some (.dat (PyData.int (gt x3_ 0))), some (.dat (PyData.int (gt x3_ 1)))], n⟩ : AS)) (fun x3_ : (List Int) => (⟨[some (.dat (eP PyData.int (eQ (eP (eQ PyData.int) PyData.int)) a0)), some (.dat (eL (eQ PyData.int) a1)), none, none, none, some (.dat (PyData.int (gt x3_ 0))), some (.dat (PyData.int (gt x3_ 1)))], n⟩ : AS)) (iv_valL (f := (eQ PyData.int)) (l := a1) (ov_dat 1 rfl)) hC.1 rfl True.intro (fun x3_ hx4_ => ((bv_q2 (hC.2.1 x3_ hx4_)).to rfl)) (fun x3_ hx4_ => (ev_tup (lv_cons (ov_V (ev_var 6 rfl)) (lv_cons (ov_V (ev_var 5 rfl)) lv_nil)) (fun _ q => q) rfl)) (fun _ _ => ⟨rfl, rfl⟩))) rfl rfl (vf_catL (f := (eQ PyData.int)) hC.2.2.1))) lv_nil) (rsl_cons rfl (fun _ q => q)) (fv_sortedL (f := (eQ PyData.int)) hC.2.2.2.1)) rfl (c_aft (c_ret (ev_blt (lv_cons (ov_V (ev_lcF (eQ PyData.int) (fun x5_ : (List Int) => (decide ((0 : Int) < (v_lead a0 (gt x5_ 0) (gt x5_ 1))))) (eP PyData.int PyData.int) (fun x5_ : (List Int) => ((gt x5_ 0), (gt x5_ 1))) (fun x5_ : (List Int) => (⟨[some (.dat (eP PyData.int (eQ (eP (eQ PyData.int) PyData.int)) a0)), some (.dat (eL (eQ PyData.int) a1)), some (.dat (eL (eQ PyData.int) (srtN (eQ PyData.int) (a1 ++ (a1.map fun x3_ : (List Int) => [(gt x3_ 1), (gt x3_ 0)]))))), some (.dat (PyData.int (gt x5_ 0))), some (.dat (PyData.int (gt x5_ 1))), none, none], n⟩ : AS)) (fun x5_ : (List Int) => (⟨[some (.dat (eP PyData.int (eQ (eP (eQ PyData.int) PyData.int)) a0)), some (.dat (eL (eQ PyData.int) a1)), some (.dat (eL (eQ PyData.int) (srtN (eQ PyData.int) (a1 ++ (a1.map fun x3_ : (List Int) => [(gt x3_ 1), (gt x3_ 0)]))))), some (.dat (PyData.int (gt x5_ 0))), some (.dat (PyData.int (gt x5_ 1))), none, none], n⟩ : AS)) (iv_valL (f := (eQ PyData.int)) (l := (srtN (eQ PyData.int) (a1 ++ (a1.map fun x3_ : (List Int) => [(gt x3_ 1), (gt x3_ 0)])))) (ov_dat 2 rfl)) hC.2.2.2.2.1 rfl True.intro (fun x5_ hx6_ => ((bv_q2 (hC.2.2.2.2.2 x5_ hx6_).1).to rfl)) (fun x5_ hx6_ => (tv_V (ev_a2 (ov_V (ev_call0 (lv_cons (ov_V (ev_var 0 rfl)) (lv_cons (ov_V (ev_var 3 rfl)) (lv_cons (ov_V (ev_var 4 rfl)) lv_nil))) (fun _ q => q) (okV_lead a0 (gt x5_ 0) (gt x5_ 1) (hC.2.2.2.2.2 x5_ hx6_).2))) (ov_V ev_c) rfl rfl vf_gtI))) (fun x5_ hx6_ h7_ => (ev_tup (lv_cons (ov_V (ev_var 3 rfl)) (lv_cons (ov_V (ev_var 4 rfl)) lv_nil)) (fun _ q => q) rfl)) (fun _ _ => ⟨rfl, rfl⟩))) lv_nil) (rsl_cons rfl (fun _ q => q)) (fv_tupleL (f := (eP PyData.int PyData.int)))) hq))))
def v_majority (a0 : (Int × (List ((List Int) × Int)))) : (List (Int × Int)) := (v_majority_s1 a0 (v_all_pairs a0.1))
def C_majority (a0 : (Int × (List ((List Int) × Int)))) : Prop := (C_all_pairs a0.1 ∧ C_majority_s1 a0 (v_all_pairs a0.1))
def nb_majority : AST := (sSeq (sSet 1 (aCall0 [.dat] (calm F_all_pairs) (lCons (oV (a2 vIx (oVar 0) (oV (aC (.int 0))))) lNil)))
    (sSeq (sSet 2 (aBlt fSorted (lCons (oV (a2 vCatL (oVar 1) (oV (aLc (iSeq (oVar 1)) (bTup 2 (bCons (bNm 5) (bCons (bNm 6) bNil))) tYesA (aTup (lCons (oV (aVar 6)) (lCons (oV (aVar 5)) lNil))) [5, 6])))) lNil)))
    (sRet (aBlt fTuple (lCons (oV (aLc (iSeq (oVar 2)) (bTup 2 (bCons (bNm 3) (bCons (bNm 4) bNil))) (tV (a2 vGt (oV (aCall0 [.dat, .dat, .dat] (calm F_lead) (lCons (oV (aVar 0)) (lCons (oV (aVar 3)) (lCons (oV (aVar 4)) lNil))))) (oV (aC (.int 0))))) (aTup (lCons (oV (aVar 3)) (lCons (oV (aVar 4)) lNil))) [3, 4])) lNil)))))
theorem okS_majority {xp : XP} {D : AEnds} {n : Nat} (a0 : (Int × (List ((List Int) × Int))))  (hC : C_majority a0) (hq : D.rt (eQ (eP PyData.int PyData.int) (v_majority a0)) n) : nb_majority xp D ⟨[some (.dat (eP PyData.int (eQ (eP (eQ PyData.int) PyData.int)) a0)), none, none, none, none, none, none], n⟩ := by
  unfold C_majority at hC; unfold v_majority at hq; unfold nb_majority
  exact (c_seq (c_set (ev_call0 (lv_cons (ov_V (ev_a2 (ov_dat 0 rfl) (ov_V ev_c) rfl rfl (vf_ixT at_0))) lv_nil) (fun _ q => q) (okV_all_pairs a0.1 hC.1)) rfl (c_aft (okS_majority_s1 a0 (v_all_pairs a0.1)  hC.2 hq))))
theorem okV_majority (a0 : (Int × (List ((List Int) × Int)))) (hC : C_majority a0) : PFn F_majority [(eP PyData.int (eQ (eP (eQ PyData.int) PyData.int)) a0)] (eQ (eP PyData.int PyData.int) (v_majority a0)) := fun n Q X q => by
  unfold F_majority
  exact okS_majority (xp := fun x s => X x s.n) (D := { nx := fun s => Q .none s.n, rt := Q }) a0 hC q

def v_ties (a0 : (Int × (List ((List Int) × Int)))) : (List (Int × Int)) := (((v_all_pairs a0.1).filter fun x1_ : (List Int) => (decide ((v_lead a0 (gt x1_ 0) (gt x1_ 1)) = (0 : Int)))).map fun x1_ : (List Int) => ((gt x1_ 0), (gt x1_ 1)))
def C_ties (a0 : (Int × (List ((List Int) × Int)))) : Prop := (C_all_pairs a0.1 ∧ (v_all_pairs a0.1).length ≤ sizeLine ∧ (∀ x1_ ∈ (v_all_pairs a0.1), (x1_.length = 2 ∧ C_lead a0 (gt x1_ 0) (gt x1_ 1))))
def nb_ties : AST := (sRet (aBlt fTuple (lCons (oV (aLc (iSeq (oV (aCall0 [.dat] (calm F_all_pairs) (lCons (oV (a2 vIx (oVar 0) (oV (aC (.int 0))))) lNil)))) (bTup 2 (bCons (bNm 1) (bCons (bNm 2) bNil))) (tV (a2 vEq (oV (aCall0 [.dat, .dat, .dat] (calm F_lead) (lCons (oV (aVar 0)) (lCons (oV (aVar 1)) (lCons (oV (aVar 2)) lNil))))) (oV (aC (.int 0))))) (aTup (lCons (oV (aVar 1)) (lCons (oV (aVar 2)) lNil))) [1, 2])) lNil)))
theorem okS_ties {xp : XP} {D : AEnds} {n : Nat} (a0 : (Int × (List ((List Int) × Int))))  (hC : C_ties a0) (hq : D.rt (eQ (eP PyData.int PyData.int) (v_ties a0)) n) : nb_ties xp D ⟨[some (.dat (eP PyData.int (eQ (eP (eQ PyData.int) PyData.int)) a0)), none, none], n⟩ := by
  unfold C_ties at hC; unfold v_ties at hq; unfold nb_ties
  exact (c_ret (ev_blt (lv_cons (ov_V (ev_lcF (eQ PyData.int) (fun x1_ : (List Int) => (decide ((v_lead a0 (gt x1_ 0) (gt x1_ 1)) = (0 : Int)))) (eP PyData.int PyData.int) (fun x1_ : (List Int) => ((gt x1_ 0), (gt x1_ 1))) (fun x1_ : (List Int) => (⟨[some (.dat (eP PyData.int (eQ (eP (eQ PyData.int) PyData.int)) a0)), some (.dat (PyData.int (gt x1_ 0))), some (.dat (PyData.int (gt x1_ 1)))], n⟩ : AS)) (fun x1_ : (List Int) => (⟨[some (.dat (eP PyData.int (eQ (eP (eQ PyData.int) PyData.int)) a0)), some (.dat (PyData.int (gt x1_ 0))), some (.dat (PyData.int (gt x1_ 1)))], n⟩ : AS)) (iv_valL (f := (eQ PyData.int)) (l := (v_all_pairs a0.1)) (ov_V (ev_call0 (lv_cons (ov_V (ev_a2 (ov_dat 0 rfl) (ov_V ev_c) rfl rfl (vf_ixT at_0))) lv_nil) (fun _ q => q) (okV_all_pairs a0.1 hC.1)))) hC.2.1 rfl True.intro (fun x1_ hx2_ => ((bv_q2 (hC.2.2 x1_ hx2_).1).to rfl)) (fun x1_ hx2_ => (tv_V (ev_a2 (ov_V (ev_call0 (lv_cons (ov_V (ev_var 0 rfl)) (lv_cons (ov_V (ev_var 1 rfl)) (lv_cons (ov_V (ev_var 2 rfl)) lv_nil))) (fun _ q => q) (okV_lead a0 (gt x1_ 0) (gt x1_ 1) (hC.2.2 x1_ hx2_).2))) (ov_V ev_c) rfl rfl (vf_eq (f := PyData.int) lw_I (sh_I (k := 0)) rfl)))) (fun x1_ hx2_ h3_ => (ev_tup (lv_cons (ov_V (ev_var 1 rfl)) (lv_cons (ov_V (ev_var 2 rfl)) lv_nil)) (fun _ q => q) rfl)) (fun _ _ => ⟨rfl, rfl⟩))) lv_nil) (rsl_cons rfl (fun _ q => q)) (fv_tupleL (f := (eP PyData.int PyData.int)))) hq)
theorem okV_ties (a0 : (Int × (List ((List Int) × Int)))) (hC : C_ties a0) : PFn F_ties [(eP PyData.int (eQ (eP (eQ PyData.int) PyData.int)) a0)] (eQ (eP PyData.int PyData.int) (v_ties a0)) := fun n Q X q => by
  unfold F_ties
  exact okS_ties (xp := fun x s => X x s.n) (D := { nx := fun s => Q .none s.n, rt := Q }) a0 hC q

def v_middle_rankings_s3 (a0 : (List ((List Int) × Int))) (a3 : Int) (a4 : (List (List Int))) (a5 : Int) : (List (List Int)) := (forV (fun (k5_ : ((List (List Int)) × Int) → (List (List Int))) (x4_ : ((List Int) × Int)) (w3_ : (List (List Int)) × Int) => (k5_ ((bif ((decide (((2 : Int) * w3_.2) ≤ a3)) && (decide (a3 ≤ ((2 : Int) * (w3_.2 + x4_.2))))) then (w3_.1 ++ [x4_.1]) else w3_.1), (w3_.2 + x4_.2)))) (fun (w3_ : (List (List Int)) × Int) => (srtN (eQ PyData.int) w3_.1)) a0 (a4, a5))
def C_middle_rankings_s3 (a0 : (List ((List Int) × Int))) (a3 : Int) (a4 : (List (List Int))) (a5 : Int) : Prop := forV (fun (kC6_ : ((List (List Int)) × Int) → Prop) (x4_ : ((List Int) × Int)) (w3_ : (List (List Int)) × Int) => (CMul (2 : Int) w3_.2 ∧ ((decide (((2 : Int) * w3_.2) ≤ a3)) = true → CMul (2 : Int) (w3_.2 + x4_.2)) ∧ (((decide (((2 : Int) * w3_.2) ≤ a3)) && (decide (a3 ≤ ((2 : Int) * (w3_.2 + x4_.2))))) = true → w3_.1.length < sizeLine) ∧ kC6_ ((bif ((decide (((2 : Int) * w3_.2) ≤ a3)) && (decide (a3 ≤ ((2 : Int) * (w3_.2 + x4_.2))))) then (w3_.1 ++ [x4_.1]) else w3_.1), (w3_.2 + x4_.2)))) (fun (w3_ : (List (List Int)) × Int) => SrtOk (w3_.1.map (eQ PyData.int))) a0 (a4, a5)
def nb_middle_rankings_s3 : AST := (sSeq (sFor (iSeq (oV (aVar 0))) (bTup 2 (bCons (bNm 1) (bCons (bNm 2) bNil)))
    (sSeq (sIf (tV (a3 vLe vLe (oV (a2 vMul (oV (aC (.int 2))) (oVar 5))) (oVar 3) (oV (a2 vMul (oV (aC (.int 2))) (oV (a2 vAdd (oVar 5) (oVar 2)))))))
    (sDrop (aMut mApp 4 (lCons (oV (aVar 1)) lNil)))
    sNx)
    (sAug vAddI 5 (oVar 2))))
    (sRet (aBlt fTuple (lCons (oV (aBlt fSorted (lCons (oVar 4) lNil))) lNil))))
theorem okS_middle_rankings_s3 {xp : XP} {D : AEnds} {n : Nat} (a0 : (List ((List Int) × Int))) (a3 : Int) (a4 : (List (List Int))) (a5 : Int)  (hC : C_middle_rankings_s3 a0 a3 a4 a5) (hq : D.rt (eQ (eQ PyData.int) (v_middle_rankings_s3 a0 a3 a4 a5)) n) : nb_middle_rankings_s3 xp D ⟨[some (.dat (eL (eP (eQ PyData.int) PyData.int) a0)), none, none, some (.dat (PyData.int a3)), some (.own (a4.map (eQ PyData.int))), some (.dat (PyData.int a5))], n⟩ := by
  unfold C_middle_rankings_s3 at hC; unfold v_middle_rankings_s3 at hq; unfold nb_middle_rankings_s3
  exact (c_seq (c_for (R := fun r => D.rt (eQ (eQ PyData.int) r) n) (eP (eQ PyData.int) PyData.int) (fun (w3_ : (List (List Int)) × Int) (s : AS) => ∃ (q1 : Option PyData) (q2 : Option PyData), s = ⟨[some (.dat (eL (eP (eQ PyData.int) PyData.int) a0)), (q1.map AV.dat), (q2.map AV.dat), some (.dat (PyData.int a3)), some (.own (w3_.1.map (eQ PyData.int))), some (.dat (PyData.int w3_.2))], n⟩) (iv_valL (f := (eP (eQ PyData.int) PyData.int)) (l := a0) (ov_V (ev_var 0 rfl))) ⟨none, none, rfl⟩ hC hq (fun x4_ w3_ s_ k5_ kC6_ N_ hi_ hC_ hq_ hN_ => by
    obtain ⟨q1, q2, e_⟩ := hi_
    subst e_
    exact (g_bv (fun _ q => ⟨rfl, rfl, q⟩) (c_seq (c_ifJ (fun b9_ : Bool => (⟨[some (.dat (eL (eP (eQ PyData.int) PyData.int) a0)), some (.dat (eQ PyData.int x4_.1)), some (.dat (PyData.int x4_.2)), some (.dat (PyData.int a3)), some (.own ((bif b9_ then (w3_.1 ++ [x4_.1]) else w3_.1).map (eQ PyData.int))), some (.dat (PyData.int w3_.2))], n⟩ : AS)) (tv_V (ev_a3 (ov_V (ev_a2 (ov_V ev_c) (ov_dat 5 rfl) rfl rfl (vf_mulI hC_.1))) (ov_dat 3 rfl) rfl rfl vf_leI (fun h7_ => (ov_V (ev_a2 (ov_V ev_c) (ov_V (ev_a2 (ov_dat 5 rfl) (ov_dat 2 rfl) rfl rfl vf_addI)) rfl rfl (vf_mulI (hC_.2.1 h7_))))) rfl (fun h7_ => vf_leI))) (fun h8_ D_ k_ => (c_drop (ev_app (f := (eQ PyData.int)) (l := w3_.1) (x := x4_.1) rfl (lv_cons (ov_V (ev_var 1 rfl)) lv_nil) rfl (fun _ q => q) rfl (hC_.2.2.1 h8_)) k_)) (fun h8_ D_ k_ => (c_pass k_)) (c_aft (c_aug rfl (ov_dat 2 rfl) rfl vf_addII rfl (hN_ ((bif ((decide (((2 : Int) * w3_.2) ≤ a3)) && (decide (a3 ≤ ((2 : Int) * (w3_.2 + x4_.2))))) then (w3_.1 ++ [x4_.1]) else w3_.1), (w3_.2 + x4_.2)) _ ⟨(some (eQ PyData.int x4_.1)), (some (PyData.int x4_.2)), rfl⟩ hC_.2.2.2 hq_))))))) (fun w3_ s_ hi_ hA_ hqa_ => by
    obtain ⟨q1, q2, e_⟩ := hi_
    subst e_
    exact (c_aft (c_ret (ev_blt (lv_cons (ov_V (ev_blt (lv_cons (ov_own 4 rfl) lv_nil) (rsl_cons rfl (fun _ q => q)) (fv_sortedL (f := (eQ PyData.int)) hA_))) lv_nil) (rsl_cons rfl (fun _ q => q)) (fv_tupleL (f := (eQ PyData.int)))) hqa_)))))
def v_middle_rankings_s2 (a0 : (List ((List Int) × Int))) (a3 : Int) (a4 : (List (List Int))) : (List (List Int)) := (v_middle_rankings_s3 a0 a3 a4 (0 : Int))
def C_middle_rankings_s2 (a0 : (List ((List Int) × Int))) (a3 : Int) (a4 : (List (List Int))) : Prop := C_middle_rankings_s3 a0 a3 a4 (0 : Int)
def nb_middle_rankings_s2 : AST := (sSeq (sSet 5 (aC (.int 0)))
    (sSeq (sFor (iSeq (oV (aVar 0))) (bTup 2 (bCons (bNm 1) (bCons (bNm 2) bNil)))
    (sSeq (sIf (tV (a3 vLe vLe (oV (a2 vMul (oV (aC (.int 2))) (oVar 5))) (oVar 3) (oV (a2 vMul (oV (aC (.int 2))) (oV (a2 vAdd (oVar 5) (oVar 2)))))))
    (sDrop (aMut mApp 4 (lCons (oV (aVar 1)) lNil)))
    sNx)
    (sAug vAddI 5 (oVar 2))))
    (sRet (aBlt fTuple (lCons (oV (aBlt fSorted (lCons (oVar 4) lNil))) lNil)))))
theorem okS_middle_rankings_s2 {xp : XP} {D : AEnds} {n : Nat} (a0 : (List ((List Int) × Int))) (a3 : Int) (a4 : (List (List Int)))  (hC : C_middle_rankings_s2 a0 a3 a4) (hq : D.rt (eQ (eQ PyData.int) (v_middle_rankings_s2 a0 a3 a4)) n) : nb_middle_rankings_s2 xp D ⟨[some (.dat (eL (eP (eQ PyData.int) PyData.int) a0)), none, none, some (.dat (PyData.int a3)), some (.own (a4.map (eQ PyData.int))), none], n⟩ := by
  unfold C_middle_rankings_s2 at hC; unfold v_middle_rankings_s2 at hq; unfold nb_middle_rankings_s2
  exact (c_seq (c_set ev_c rfl (c_aft (okS_middle_rankings_s3 a0 a3 a4 (0 : Int)  hC hq))))
def v_middle_rankings_s1 (a0 : (List ((List Int) × Int))) (a3 : Int) : (List (List Int)) := (v_middle_rankings_s2 a0 a3 [])
def C_middle_rankings_s1 (a0 : (List ((List Int) × Int))) (a3 : Int) : Prop := C_middle_rankings_s2 a0 a3 []
def nb_middle_rankings_s1 : AST := (sSeq (sSetO 4 (aLst lNil))
    (sSeq (sSet 5 (aC (.int 0)))
    (sSeq (sFor (iSeq (oV (aVar 0))) (bTup 2 (bCons (bNm 1) (bCons (bNm 2) bNil)))
    (sSeq (sIf (tV (a3 vLe vLe (oV (a2 vMul (oV (aC (.int 2))) (oVar 5))) (oVar 3) (oV (a2 vMul (oV (aC (.int 2))) (oV (a2 vAdd (oVar 5) (oVar 2)))))))
    (sDrop (aMut mApp 4 (lCons (oV (aVar 1)) lNil)))
    sNx)
    (sAug vAddI 5 (oVar 2))))
    (sRet (aBlt fTuple (lCons (oV (aBlt fSorted (lCons (oVar 4) lNil))) lNil))))))
theorem okS_middle_rankings_s1 {xp : XP} {D : AEnds} {n : Nat} (a0 : (List ((List Int) × Int))) (a3 : Int)  (hC : C_middle_rankings_s1 a0 a3) (hq : D.rt (eQ (eQ PyData.int) (v_middle_rankings_s1 a0 a3)) n) : nb_middle_rankings_s1 xp D ⟨[some (.dat (eL (eP (eQ PyData.int) PyData.int) a0)), none, none, some (.dat (PyData.int a3)), none, none], n⟩ := by
  unfold C_middle_rankings_s1 at hC; unfold v_middle_rankings_s1 at hq; unfold nb_middle_rankings_s1
  exact (c_seq (c_setO (ev_lst lv_nil (fun _ q => q) rfl) rfl (c_aft (okS_middle_rankings_s2 a0 a3 []  hC hq))))
def v_middle_rankings (a0 : (List ((List Int) × Int))) : (List (List Int)) := (v_middle_rankings_s1 a0 (a0.map fun x1_ : ((List Int) × Int) => x1_.2).sum)
def C_middle_rankings (a0 : (List ((List Int) × Int))) : Prop := (a0.length ≤ sizeLine ∧ C_middle_rankings_s1 a0 (a0.map fun x1_ : ((List Int) × Int) => x1_.2).sum)
def nb_middle_rankings : AST := (sSeq (sSet 3 (aBlt fSum (lCons (oV (aLc (iSeq (oVar 0)) (bTup 2 (bCons (bNm 1) (bCons (bNm 2) bNil))) tYesA (aVar 2) [1, 2])) lNil)))
    (sSeq (sSetO 4 (aLst lNil))
    (sSeq (sSet 5 (aC (.int 0)))
    (sSeq (sFor (iSeq (oV (aVar 0))) (bTup 2 (bCons (bNm 1) (bCons (bNm 2) bNil)))
    (sSeq (sIf (tV (a3 vLe vLe (oV (a2 vMul (oV (aC (.int 2))) (oVar 5))) (oVar 3) (oV (a2 vMul (oV (aC (.int 2))) (oV (a2 vAdd (oVar 5) (oVar 2)))))))
    (sDrop (aMut mApp 4 (lCons (oV (aVar 1)) lNil)))
    sNx)
    (sAug vAddI 5 (oVar 2))))
    (sRet (aBlt fTuple (lCons (oV (aBlt fSorted (lCons (oVar 4) lNil))) lNil)))))))
theorem okS_middle_rankings {xp : XP} {D : AEnds} {n : Nat} (a0 : (List ((List Int) × Int)))  (hC : C_middle_rankings a0) (hq : D.rt (eQ (eQ PyData.int) (v_middle_rankings a0)) n) : nb_middle_rankings xp D ⟨[some (.dat (eL (eP (eQ PyData.int) PyData.int) a0)), none, none, none, none, none], n⟩ := by
  unfold C_middle_rankings at hC; unfold v_middle_rankings at hq; unfold nb_middle_rankings
  exact (c_seq (c_set (ev_blt (lv_cons (ov_V (ev_lcM (eP (eQ PyData.int) PyData.int) PyData.int (fun x1_ : ((List Int) × Int) => x1_.2) (fun x1_ : ((List Int) × Int) => (⟨[some (.dat (eL (eP (eQ PyData.int) PyData.int) a0)), some (.dat (eQ PyData.int x1_.1)), some (.dat (PyData.int x1_.2)), none, none, none], n⟩ : AS)) (fun x1_ : ((List Int) × Int) => (⟨[some (.dat (eL (eP (eQ PyData.int) PyData.int) a0)), some (.dat (eQ PyData.int x1_.1)), some (.dat (PyData.int x1_.2)), none, none, none], n⟩ : AS)) (iv_valL (f := (eP (eQ PyData.int) PyData.int)) (l := a0) (ov_dat 0 rfl)) hC.1 rfl True.intro (fun x1_ hx2_ => (fun _ q => ⟨rfl, rfl, q⟩)) (fun x1_ hx2_ => (ev_var 2 rfl)) (fun _ _ => ⟨rfl, rfl⟩))) lv_nil) (rsl_cons rfl (fun _ q => q)) fv_sum) rfl (c_aft (okS_middle_rankings_s1 a0 (a0.map fun x1_ : ((List Int) × Int) => x1_.2).sum  hC.2 hq))))
theorem okV_middle_rankings (a0 : (List ((List Int) × Int))) (hC : C_middle_rankings a0) : PFn F_middle_rankings [(eL (eP (eQ PyData.int) PyData.int) a0)] (eQ (eQ PyData.int) (v_middle_rankings a0)) := fun n Q X q => by
  unfold F_middle_rankings
  exact okS_middle_rankings (xp := fun x s => X x s.n) (D := { nx := fun s => Q .none s.n, rt := Q }) a0 hC q

def v_group_part (a0 : (Int × (List ((List Int) × Int)))) (a1 : (List Int)) : ((List Int) × Int) := ((gt a0.2 (gt a1 (0 : Int))).1, (a1.map fun x1_ : Int => (gt a0.2 x1_).2).sum)
def C_group_part (a0 : (Int × (List ((List Int) × Int)))) (a1 : (List Int)) : Prop := (Ixr a1 (0 : Int) ∧ Ixr a0.2 (gt a1 (0 : Int)) ∧ a1.length ≤ sizeLine ∧ (∀ x1_ ∈ a1, Ixr a0.2 x1_))
def nb_group_part : AST := (sSeq (sSet 2 (a2 vIx (oVar 0) (oV (aC (.int 1)))))
    (sRet (aTup (lCons (oV (a2 vIx (oV (a2 vIx (oVar 2) (oV (a2 vIx (oVar 1) (oV (aC (.int 0))))))) (oV (aC (.int 0))))) (lCons (oV (aBlt fSum (lCons (oV (aLc (iSeq (oVar 1)) (bNm 3) tYesA (a2 vIx (oV (a2 vIx (oVar 2) (oVar 3))) (oV (aC (.int 1)))) [3])) lNil))) lNil)))))
theorem okS_group_part {xp : XP} {D : AEnds} {n : Nat} (a0 : (Int × (List ((List Int) × Int)))) (a1 : (List Int))  (hC : C_group_part a0 a1) (hq : D.rt (eP (eQ PyData.int) PyData.int (v_group_part a0 a1)) n) : nb_group_part xp D ⟨[some (.dat (eP PyData.int (eQ (eP (eQ PyData.int) PyData.int)) a0)), some (.dat (eQ PyData.int a1)), none, none], n⟩ := by
  unfold C_group_part at hC; unfold v_group_part at hq; unfold nb_group_part
  exact (c_seq (c_set (ev_a2 (ov_dat 0 rfl) (ov_V ev_c) rfl rfl (vf_ixT at_1)) rfl (c_aft (c_ret (ev_tup (lv_cons (ov_V (ev_a2 (ov_V (ev_a2 (ov_dat 2 rfl) (ov_V (ev_a2 (ov_dat 1 rfl) (ov_V ev_c) rfl rfl (vf_ixQ (f := PyData.int) hC.1))) rfl rfl (vf_ixQ (f := (eP (eQ PyData.int) PyData.int)) hC.2.1))) (ov_V ev_c) rfl rfl (vf_ixT at_0))) (lv_cons (ov_V (ev_blt (lv_cons (ov_V (ev_lcM PyData.int PyData.int (fun x1_ : Int => (gt a0.2 x1_).2) (fun x1_ : Int => (⟨[some (.dat (eP PyData.int (eQ (eP (eQ PyData.int) PyData.int)) a0)), some (.dat (eQ PyData.int a1)), some (.dat (eQ (eP (eQ PyData.int) PyData.int) a0.2)), some (.dat (PyData.int x1_))], n⟩ : AS)) (fun x1_ : Int => (⟨[some (.dat (eP PyData.int (eQ (eP (eQ PyData.int) PyData.int)) a0)), some (.dat (eQ PyData.int a1)), some (.dat (eQ (eP (eQ PyData.int) PyData.int) a0.2)), some (.dat (PyData.int x1_))], n⟩ : AS)) (iv_valQ (f := PyData.int) (l := a1) (ov_dat 1 rfl)) hC.2.2.1 rfl True.intro (fun x1_ hx2_ => ((bv_nm 3).to rfl)) (fun x1_ hx2_ => (ev_a2 (ov_V (ev_a2 (ov_dat 2 rfl) (ov_dat 3 rfl) rfl rfl (vf_ixQ (f := (eP (eQ PyData.int) PyData.int)) (hC.2.2.2 x1_ hx2_)))) (ov_V ev_c) rfl rfl (vf_ixT at_1))) (fun _ _ => ⟨rfl, rfl⟩))) lv_nil) (rsl_cons rfl (fun _ q => q)) fv_sum)) lv_nil)) (fun _ q => q) rfl) hq))))
theorem okV_group_part (a0 : (Int × (List ((List Int) × Int)))) (a1 : (List Int)) (hC : C_group_part a0 a1) : PFn F_group_part [(eP PyData.int (eQ (eP (eQ PyData.int) PyData.int)) a0), (eQ PyData.int a1)] (eP (eQ PyData.int) PyData.int (v_group_part a0 a1)) := fun n Q X q => by
  unfold F_group_part
  exact okS_group_part (xp := fun x s => X x s.n) (D := { nx := fun s => Q .none s.n, rt := Q }) a0 a1 hC q

def v_medians (a0 : (Int × (List ((List Int) × Int)))) : (List (List Int)) := (v_middle_rankings ((v_group_order a0).map fun x1_ : (List Int) => (v_group_part a0 x1_)))
def C_medians (a0 : (Int × (List ((List Int) × Int)))) : Prop := (C_group_order a0 ∧ (v_group_order a0).length ≤ sizeLine ∧ (∀ x1_ ∈ (v_group_order a0), C_group_part a0 x1_) ∧ C_middle_rankings ((v_group_order a0).map fun x1_ : (List Int) => (v_group_part a0 x1_)))
def nb_medians : AST := (sRet (aCall0 [.dat] (calm F_middle_rankings) (lCons (oV (aLc (iSeq (oV (aCall [.dat] (calm F_group_order) (lCons (oV (aVar 0)) lNil)))) (bNm 1) tYesA (aCall0 [.dat, .dat] (calm F_group_part) (lCons (oV (aVar 0)) (lCons (oV (aVar 1)) lNil))) [1])) lNil)))
theorem okS_medians {xp : XP} {D : AEnds} {n : Nat} (a0 : (Int × (List ((List Int) × Int))))  (hC : C_medians a0) (hq : D.rt (eQ (eQ PyData.int) (v_medians a0)) n) : nb_medians xp D ⟨[some (.dat (eP PyData.int (eQ (eP (eQ PyData.int) PyData.int)) a0)), none], n⟩ := by
  unfold C_medians at hC; unfold v_medians at hq; unfold nb_medians
  exact (c_ret (ev_call0 (lv_cons (ov_V (ev_lcM (eQ PyData.int) (eP (eQ PyData.int) PyData.int) (fun x1_ : (List Int) => (v_group_part a0 x1_)) (fun x1_ : (List Int) => (⟨[some (.dat (eP PyData.int (eQ (eP (eQ PyData.int) PyData.int)) a0)), some (.dat (eQ PyData.int x1_))], n⟩ : AS)) (fun x1_ : (List Int) => (⟨[some (.dat (eP PyData.int (eQ (eP (eQ PyData.int) PyData.int)) a0)), some (.dat (eQ PyData.int x1_))], n⟩ : AS)) (iv_valQ (f := (eQ PyData.int)) (l := (v_group_order a0)) (ov_V (ev_callG (lv_cons (ov_V (ev_var 0 rfl)) lv_nil) (fun _ q => q) (okV_group_order a0 hC.1)))) hC.2.1 rfl True.intro (fun x1_ hx2_ => ((bv_nm 1).to rfl)) (fun x1_ hx2_ => (ev_call0 (lv_cons (ov_V (ev_var 0 rfl)) (lv_cons (ov_V (ev_var 1 rfl)) lv_nil)) (fun _ q => q) (okV_group_part a0 x1_ (hC.2.2.1 x1_ hx2_)))) (fun _ _ => ⟨rfl, rfl⟩))) lv_nil) (fun _ q => q) (okV_middle_rankings ((v_group_order a0).map fun x1_ : (List Int) => (v_group_part a0 x1_)) hC.2.2.2)) hq)
theorem okV_medians (a0 : (Int × (List ((List Int) × Int)))) (hC : C_medians a0) : PFn F_medians [(eP PyData.int (eQ (eP (eQ PyData.int) PyData.int)) a0)] (eQ (eQ PyData.int) (v_medians a0)) := fun n Q X q => by
  unfold F_medians
  exact okS_medians (xp := fun x s => X x s.n) (D := { nx := fun s => Q .none s.n, rt := Q }) a0 hC q

def v__law_exchanged (a0 : (List Int)) (a1 : Int) : (List Int) := (((cutN a0 none (some a1)) ++ [(gt a0 (a1 + (1 : Int))), (gt a0 a1)]) ++ (cutN a0 (some (a1 + (2 : Int))) none))
def C__law_exchanged (a0 : (List Int)) (a1 : Int) : Prop := (Ixr a0 (a1 + (1 : Int)) ∧ Ixr a0 a1 ∧ (cutN a0 none (some a1)).length + [(gt a0 (a1 + (1 : Int))), (gt a0 a1)].length ≤ sizeLine ∧ ((cutN a0 none (some a1)) ++ [(gt a0 (a1 + (1 : Int))), (gt a0 a1)]).length + (cutN a0 (some (a1 + (2 : Int))) none).length ≤ sizeLine)
def nb__law_exchanged : AST := (sRet (a2 vAdd (oV (a2 vAdd (oV (aSl (oVar 0) ptNone (ptSome (aVar 1)))) (oV (aTup (lCons (oV (a2 vIx (oVar 0) (oV (a2 vAdd (oVar 1) (oV (aC (.int 1))))))) (lCons (oV (a2 vIx (oVar 0) (oVar 1))) lNil)))))) (oV (aSl (oVar 0) (ptSome (a2 vAdd (oVar 1) (oV (aC (.int 2))))) ptNone))))
theorem okS__law_exchanged {xp : XP} {D : AEnds} {n : Nat} (a0 : (List Int)) (a1 : Int)  (hC : C__law_exchanged a0 a1) (hq : D.rt (eQ PyData.int (v__law_exchanged a0 a1)) n) : nb__law_exchanged xp D ⟨[some (.dat (eQ PyData.int a0)), some (.dat (PyData.int a1))], n⟩ := by
  unfold C__law_exchanged at hC; unfold v__law_exchanged at hq; unfold nb__law_exchanged
  exact (c_ret (ev_a2 (ov_V (ev_a2 (ov_V (ev_slQ (f := PyData.int) (ov_dat 0 rfl) pv_n (pv_s (ev_var 1 rfl)) rfl)) (ov_V (ev_tup (lv_cons (ov_V (ev_a2 (ov_dat 0 rfl) (ov_V (ev_a2 (ov_dat 1 rfl) (ov_V ev_c) rfl rfl vf_addI)) rfl rfl (vf_ixQ (f := PyData.int) hC.1))) (lv_cons (ov_V (ev_a2 (ov_dat 0 rfl) (ov_dat 1 rfl) rfl rfl (vf_ixQ (f := PyData.int) hC.2.1))) lv_nil)) (fun _ q => q) rfl)) rfl rfl (vf_addQ (f := PyData.int) hC.2.2.1))) (ov_V (ev_slQ (f := PyData.int) (ov_dat 0 rfl) (pv_s (ev_a2 (ov_dat 1 rfl) (ov_V ev_c) rfl rfl vf_addI)) pv_n rfl)) rfl rfl (vf_addQ (f := PyData.int) hC.2.2.2)) hq)
theorem okV__law_exchanged (a0 : (List Int)) (a1 : Int) (hC : C__law_exchanged a0 a1) : PFn F__law_exchanged [(eQ PyData.int a0), (PyData.int a1)] (eQ PyData.int (v__law_exchanged a0 a1)) := fun n Q X q => by
  unfold F__law_exchanged
  exact okS__law_exchanged (xp := fun x s => X x s.n) (D := { nx := fun s => Q .none s.n, rt := Q }) a0 a1 hC q

def v__law_pairs_s1 (a0 : Int) (a1 : (List (Int × Int))) : (List (Int × Int)) := (forV (fun (k3_ : ((List (Int × Int))) → (List (Int × Int))) (x2_ : Int) (w1_ : (List (Int × Int))) => (k3_ ((w1_ ++ ((irange (x2_ + (1 : Int)) a0).map fun x5_ : Int => (x2_, x5_)))))) (fun (w1_ : (List (Int × Int))) => w1_) (irange 0 a0) (a1))
def C__law_pairs_s1 (a0 : Int) (a1 : (List (Int × Int))) : Prop := (Rg a0 ∧ forV (fun (kC4_ : ((List (Int × Int))) → Prop) (x2_ : Int) (w1_ : (List (Int × Int))) => ((Rg (x2_ + (1 : Int)) ∧ Rg a0) ∧ (irange (x2_ + (1 : Int)) a0).length ≤ sizeLine ∧ w1_.length + ((irange (x2_ + (1 : Int)) a0).map fun x5_ : Int => (x2_, x5_)).length ≤ sizeLine ∧ kC4_ ((w1_ ++ ((irange (x2_ + (1 : Int)) a0).map fun x5_ : Int => (x2_, x5_)))))) (fun (w1_ : (List (Int × Int))) => True) (irange 0 a0) (a1))
def nb__law_pairs_s1 : AST := (sSeq (sFor (iRange1 (lCons (oVar 0) lNil)) (bNm 2)
    (sDrop (aMut mExt 1 (lCons (oV (aLc (iRange2 (lCons (oV (a2 vAdd (oVar 2) (oV (aC (.int 1))))) (lCons (oVar 0) lNil))) (bNm 3) tYesA (aTup (lCons (oV (aVar 2)) (lCons (oV (aVar 3)) lNil))) [3])) lNil))))
    (sRetV 1))
theorem okS__law_pairs_s1 {xp : XP} {D : AEnds} {n : Nat} (a0 : Int) (a1 : (List (Int × Int)))  (hC : C__law_pairs_s1 a0 a1) (hq : D.rt (eL (eP PyData.int PyData.int) (v__law_pairs_s1 a0 a1)) n) : nb__law_pairs_s1 xp D ⟨[some (.dat (PyData.int a0)), some (.own (a1.map (eP PyData.int PyData.int))), none, none], n⟩ := by
  unfold C__law_pairs_s1 at hC; unfold v__law_pairs_s1 at hq; unfold nb__law_pairs_s1
  exact (c_seq (c_for (R := fun r => D.rt (eL (eP PyData.int PyData.int) r) n) PyData.int (fun (w1_ : (List (Int × Int))) (s : AS) => ∃ (q2 : Option AV), s = ⟨[some (.dat (PyData.int a0)), some (.own (w1_.map (eP PyData.int PyData.int))), q2, none], n⟩) (iv_range1 (lv_cons (ov_dat 0 rfl) lv_nil) (fun _ q => q) hC.1) ⟨none, rfl⟩ hC.2 hq (fun x2_ w1_ s_ k3_ kC4_ N_ hi_ hC_ hq_ hN_ => by
    obtain ⟨q2, e_⟩ := hi_
    subst e_
    exact (g_bv ((bv_nm 2).to rfl) (c_drop (ev_ext (f := (eP PyData.int PyData.int)) (l := w1_) (m := ((irange (x2_ + (1 : Int)) a0).map fun x5_ : Int => (x2_, x5_))) rfl (lv_cons (ov_V (ev_lcM PyData.int (eP PyData.int PyData.int) (fun x5_ : Int => (x2_, x5_)) (fun x5_ : Int => (⟨[some (.dat (PyData.int a0)), some (.own (w1_.map (eP PyData.int PyData.int))), some (.dat (PyData.int x2_)), some (.dat (PyData.int x5_))], n⟩ : AS)) (fun x5_ : Int => (⟨[some (.dat (PyData.int a0)), some (.own (w1_.map (eP PyData.int PyData.int))), some (.dat (PyData.int x2_)), some (.dat (PyData.int x5_))], n⟩ : AS)) (iv_range2 (lv_cons (ov_V (ev_a2 (ov_dat 2 rfl) (ov_V ev_c) rfl rfl vf_addI)) (lv_cons (ov_dat 0 rfl) lv_nil)) (fun _ q => q) hC_.1) hC_.2.1 rfl True.intro (fun x5_ hx6_ => ((bv_nm 3).to rfl)) (fun x5_ hx6_ => (ev_tup (lv_cons (ov_V (ev_var 2 rfl)) (lv_cons (ov_V (ev_var 3 rfl)) lv_nil)) (fun _ q => q) rfl)) (fun _ _ => ⟨rfl, rfl⟩))) lv_nil) rfl (fun _ q => q) rfl hC_.2.2.1) (hN_ ((w1_ ++ ((irange (x2_ + (1 : Int)) a0).map fun x5_ : Int => (x2_, x5_)))) _ ⟨some (.dat (PyData.int x2_)), rfl⟩ hC_.2.2.2 hq_)))) (fun w1_ s_ hi_ hA_ hqa_ => by
    obtain ⟨q2, e_⟩ := hi_
    subst e_
    exact (c_aft (c_retVO 1 rfl hqa_)))))
def v__law_pairs (a0 : Int) : (List (Int × Int)) := (v__law_pairs_s1 a0 [])
def C__law_pairs (a0 : Int) : Prop := C__law_pairs_s1 a0 []
def nb__law_pairs : AST := (sSeq (sSetO 1 (aLst lNil))
    (sSeq (sFor (iRange1 (lCons (oVar 0) lNil)) (bNm 2)
    (sDrop (aMut mExt 1 (lCons (oV (aLc (iRange2 (lCons (oV (a2 vAdd (oVar 2) (oV (aC (.int 1))))) (lCons (oVar 0) lNil))) (bNm 3) tYesA (aTup (lCons (oV (aVar 2)) (lCons (oV (aVar 3)) lNil))) [3])) lNil))))
    (sRetV 1)))
theorem okS__law_pairs {xp : XP} {D : AEnds} {n : Nat} (a0 : Int)  (hC : C__law_pairs a0) (hq : D.rt (eL (eP PyData.int PyData.int) (v__law_pairs a0)) n) : nb__law_pairs xp D ⟨[some (.dat (PyData.int a0)), none, none, none], n⟩ := by
  unfold C__law_pairs at hC; unfold v__law_pairs at hq; unfold nb__law_pairs
  exact (c_seq (c_setO (ev_lst lv_nil (fun _ q => q) rfl) rfl (c_aft (okS__law_pairs_s1 a0 []  hC hq))))
theorem okV__law_pairs (a0 : Int) (hC : C__law_pairs a0) : PFn F__law_pairs [(PyData.int a0)] (eL (eP PyData.int PyData.int) (v__law_pairs a0)) := fun n Q X q => by
  unfold F__law_pairs
  exact okS__law_pairs (xp := fun x s => X x s.n) (D := { nx := fun s => Q .none s.n, rt := Q }) a0 hC q

def v__law_right_s4 (a0 : (Int × (List ((List Int) × Int)))) (a1 : (List (List Int))) (a2 : (List (Int × Int))) : Bool := (bif (decide (((a1.length : Nat) : Int) = (1 : Int))) then (decide (((a2.length : Nat) : Int) = (((v__law_pairs a0.1).length : Nat) : Int))) else (PySem.W.dataLt (eQ PyData.int (gt a1 (0 : Int))) (eQ PyData.int (gt a1 (1 : Int)))))
def C__law_right_s4 (a0 : (Int × (List ((List Int) × Int)))) (a1 : (List (List Int))) (a2 : (List (Int × Int))) : Prop := (((decide (((a1.length : Nat) : Int) = (1 : Int))) = true → C__law_pairs a0.1) ∧ ((decide (((a1.length : Nat) : Int) = (1 : Int))) = false → (Ixr a1 (0 : Int) ∧ Ixr a1 (1 : Int) ∧ AlkC (eQ PyData.int (gt a1 (0 : Int))) (eQ PyData.int (gt a1 (1 : Int))))))
def nb__law_right_s4 : AST := (sSeq (sIf (tV (a2 vEq (oV (aBlt fLen (lCons (oVar 1) lNil))) (oV (aC (.int 1)))))
    (sRet (a2 vEq (oV (aBlt fLen (lCons (oVar 2) lNil))) (oV (aBlt fLen (lCons (oV (aCall0 [.dat] (calm F__law_pairs) (lCons (oV (a2 vIx (oVar 0) (oV (aC (.int 0))))) lNil))) lNil)))))
    sNx)
    (sRet (a2 vLt (oV (a2 vIx (oVar 1) (oV (aC (.int 0))))) (oV (a2 vIx (oVar 1) (oV (aC (.int 1))))))))
theorem okS__law_right_s4 {xp : XP} {D : AEnds} {n : Nat} (a0 : (Int × (List ((List Int) × Int)))) (a1 : (List (List Int))) (a2 : (List (Int × Int))) (j3 : Option AV) (j4 : Option AV) (j5 : Option AV) (j6 : Option AV) (j7 : Option AV) (hC : C__law_right_s4 a0 a1 a2) (hq : D.rt (PyData.bool (v__law_right_s4 a0 a1 a2)) n) : nb__law_right_s4 xp D ⟨[some (.dat (eP PyData.int (eQ (eP (eQ PyData.int) PyData.int)) a0)), some (.dat (eQ (eQ PyData.int) a1)), some (.dat (eQ (eP PyData.int PyData.int) a2)), j3, j4, j5, j6, j7, none], n⟩ := by
  unfold C__law_right_s4 at hC; unfold v__law_right_s4 at hq; unfold nb__law_right_s4
  exact (c_seq (c_if (tv_V (ev_a2 (ov_V (ev_blt (lv_cons (ov_dat 1 rfl) lv_nil) (rsl_cons rfl (fun _ q => q)) (fv_lenQ (f := (eQ PyData.int))))) (ov_V ev_c) rfl rfl (vf_eq (f := PyData.int) lw_I (sh_I (k := 0)) rfl))) (fun h14_ => (c_ret (ev_a2 (ov_V (ev_blt (lv_cons (ov_dat 2 rfl) lv_nil) (rsl_cons rfl (fun _ q => q)) (fv_lenQ (f := (eP PyData.int PyData.int))))) (ov_V (ev_blt (lv_cons (ov_V (ev_call0 (lv_cons (ov_V (ev_a2 (ov_dat 0 rfl) (ov_V ev_c) rfl rfl (vf_ixT at_0))) lv_nil) (fun _ q => q) (okV__law_pairs a0.1 (hC.1 h14_)))) lv_nil) (rsl_cons rfl (fun _ q => q)) (fv_lenL (f := (eP PyData.int PyData.int))))) rfl rfl (vf_eq (f := PyData.int) lw_I (sh_I (k := 0)) rfl)) (ifT (P := D) (f := PyData.bool) h14_ hq))) (fun h14_ => (c_pass (c_aft (c_ret (ev_a2 (ov_V (ev_a2 (ov_dat 1 rfl) (ov_V ev_c) rfl rfl (vf_ixQ (f := (eQ PyData.int)) (hC.2 h14_).1))) (ov_V (ev_a2 (ov_dat 1 rfl) (ov_V ev_c) rfl rfl (vf_ixQ (f := (eQ PyData.int)) (hC.2 h14_).2.1))) rfl rfl (vf_ltD (by intro _ _ h; cases h) (hC.2 h14_).2.2)) (ifF (P := D) (f := PyData.bool) h14_ hq)))))))
def v__law_right_s3 (a0 : (Int × (List ((List Int) × Int)))) (a1 : (List (List Int))) (a2 : (List (Int × Int))) (a3 : (List (Int × Int))) : Bool := (forV (fun (k8_ : (Unit) → Bool) (x7_ : (Int × Int)) (w6_ : Unit) => (bif (!(decide ([(memB (x7_.1, x7_.2) a2), (memB (x7_.2, x7_.1) a2), (memB (x7_.1, x7_.2) a3)] = [(!memB false (a1.map fun x10_ : (List Int) => (decide (((x10_.idxOf x7_.1 : Nat) : Int) < ((x10_.idxOf x7_.2 : Nat) : Int))))), (!memB true (a1.map fun x10_ : (List Int) => (decide (((x10_.idxOf x7_.1 : Nat) : Int) < ((x10_.idxOf x7_.2 : Nat) : Int))))), (decide (((dfB (a1.map fun x10_ : (List Int) => (decide (((x10_.idxOf x7_.1 : Nat) : Int) < ((x10_.idxOf x7_.2 : Nat) : Int)))) : Nat) : Int) = (2 : Int)))]))) then false else (bif (!(decide (((v_support a0 (PyData.int x7_.1) (PyData.int x7_.2)) + (v_support a0 (PyData.int x7_.2) (PyData.int x7_.1))) = (v_total_weight a0)))) then false else (k8_ ())))) (fun (w6_ : Unit) => (v__law_right_s4 a0 a1 a2)) (v__law_pairs a0.1) ())
def C__law_right_s3 (a0 : (Int × (List ((List Int) × Int)))) (a1 : (List (List Int))) (a2 : (List (Int × Int))) (a3 : (List (Int × Int))) : Prop := (C__law_pairs a0.1 ∧ forV (fun (kC9_ : (Unit) → Prop) (x7_ : (Int × Int)) (w6_ : Unit) => (a1.length ≤ sizeLine ∧ (∀ x10_ ∈ a1, (x7_.1 ∈ x10_ ∧ x7_.2 ∈ x10_)) ∧ (a1.map fun x10_ : (List Int) => (decide (((x10_.idxOf x7_.1 : Nat) : Int) < ((x10_.idxOf x7_.2 : Nat) : Int)))).length ≤ 60 ∧ ((!(decide ([(memB (x7_.1, x7_.2) a2), (memB (x7_.2, x7_.1) a2), (memB (x7_.1, x7_.2) a3)] = [(!memB false (a1.map fun x10_ : (List Int) => (decide (((x10_.idxOf x7_.1 : Nat) : Int) < ((x10_.idxOf x7_.2 : Nat) : Int))))), (!memB true (a1.map fun x10_ : (List Int) => (decide (((x10_.idxOf x7_.1 : Nat) : Int) < ((x10_.idxOf x7_.2 : Nat) : Int))))), (decide (((dfB (a1.map fun x10_ : (List Int) => (decide (((x10_.idxOf x7_.1 : Nat) : Int) < ((x10_.idxOf x7_.2 : Nat) : Int)))) : Nat) : Int) = (2 : Int)))]))) = false → (C_support a0 (PyData.int x7_.1) (PyData.int x7_.2) ∧ C_support a0 (PyData.int x7_.2) (PyData.int x7_.1) ∧ C_total_weight a0 ∧ ((!(decide (((v_support a0 (PyData.int x7_.1) (PyData.int x7_.2)) + (v_support a0 (PyData.int x7_.2) (PyData.int x7_.1))) = (v_total_weight a0)))) = false → kC9_ ()))))) (fun (w6_ : Unit) => C__law_right_s4 a0 a1 a2) (v__law_pairs a0.1) ())
def nb__law_right_s3 : AST := (sSeq (sFor (iSeq (oV (aCall0 [.dat] (calm F__law_pairs) (lCons (oV (a2 vIx (oVar 0) (oV (aC (.int 0))))) lNil)))) (bTup 2 (bCons (bNm 4) (bCons (bNm 5) bNil)))
    (sSeq (sSet 6 (aLc (iSeq (oVar 1)) (bNm 8) tYesA (a2 vLt (oV (aIdx (oVar 8) (lCons (oVar 4) lNil))) (oV (aIdx (oVar 8) (lCons (oVar 5) lNil)))) [8]))
    (sSeq (sSet 7 (aLst (lCons (oV (a2 vIn (oV (aTup (lCons (oV (aVar 4)) (lCons (oV (aVar 5)) lNil)))) (oVar 2))) (lCons (oV (a2 vIn (oV (aTup (lCons (oV (aVar 5)) (lCons (oV (aVar 4)) lNil)))) (oVar 2))) (lCons (oV (a2 vIn (oV (aTup (lCons (oV (aVar 4)) (lCons (oV (aVar 5)) lNil)))) (oVar 3))) lNil)))))
    (sSeq (sIf (tV (a2 vNe (oVar 7) (oV (aLst (lCons (oV (a2 vNotIn (oV (aC (.bool false))) (oVar 6))) (lCons (oV (a2 vNotIn (oV (aC (.bool true))) (oVar 6))) (lCons (oV (a2 vEq (oV (aLenSB (aVar 6))) (oV (aC (.int 2))))) lNil)))))))
    (sRet (aC (.bool false)))
    sNx)
    (sIf (tV (a2 vNe (oV (a2 vAdd (oV (aCall0 [.dat, .dat, .dat] (calm F_support) (lCons (oV (aVar 0)) (lCons (oV (aVar 4)) (lCons (oV (aVar 5)) lNil))))) (oV (aCall0 [.dat, .dat, .dat] (calm F_support) (lCons (oV (aVar 0)) (lCons (oV (aVar 5)) (lCons (oV (aVar 4)) lNil))))))) (oV (aCall0 [.dat] (calm F_total_weight) (lCons (oV (aVar 0)) lNil)))))
    (sRet (aC (.bool false)))
    sNx)))))
    (sSeq (sIf (tV (a2 vEq (oV (aBlt fLen (lCons (oVar 1) lNil))) (oV (aC (.int 1)))))
    (sRet (a2 vEq (oV (aBlt fLen (lCons (oVar 2) lNil))) (oV (aBlt fLen (lCons (oV (aCall0 [.dat] (calm F__law_pairs) (lCons (oV (a2 vIx (oVar 0) (oV (aC (.int 0))))) lNil))) lNil)))))
    sNx)
    (sRet (a2 vLt (oV (a2 vIx (oVar 1) (oV (aC (.int 0))))) (oV (a2 vIx (oVar 1) (oV (aC (.int 1)))))))))
theorem okS__law_right_s3 {xp : XP} {D : AEnds} {n : Nat} (a0 : (Int × (List ((List Int) × Int)))) (a1 : (List (List Int))) (a2 : (List (Int × Int))) (a3 : (List (Int × Int)))  (hC : C__law_right_s3 a0 a1 a2 a3) (hq : D.rt (PyData.bool (v__law_right_s3 a0 a1 a2 a3)) n) : nb__law_right_s3 xp D ⟨[some (.dat (eP PyData.int (eQ (eP (eQ PyData.int) PyData.int)) a0)), some (.dat (eQ (eQ PyData.int) a1)), some (.dat (eQ (eP PyData.int PyData.int) a2)), some (.dat (eQ (eP PyData.int PyData.int) a3)), none, none, none, none, none], n⟩ := by
  unfold C__law_right_s3 at hC; unfold v__law_right_s3 at hq; unfold nb__law_right_s3
  exact (c_seq (c_for (R := fun r => D.rt (PyData.bool r) n) (eP PyData.int PyData.int) (fun (w6_ : Unit) (s : AS) => ∃ (q4 : Option AV) (q5 : Option AV) (q6 : Option AV) (q7 : Option AV), s = ⟨[some (.dat (eP PyData.int (eQ (eP (eQ PyData.int) PyData.int)) a0)), some (.dat (eQ (eQ PyData.int) a1)), some (.dat (eQ (eP PyData.int PyData.int) a2)), some (.dat (eQ (eP PyData.int PyData.int) a3)), q4, q5, q6, q7, none], n⟩) (iv_valL (f := (eP PyData.int PyData.int)) (l := (v__law_pairs a0.1)) (ov_V (ev_call0 (lv_cons (ov_V (ev_a2 (ov_dat 0 rfl) (ov_V ev_c) rfl rfl (vf_ixT at_0))) lv_nil) (fun _ q => q) (okV__law_pairs a0.1 hC.1)))) ⟨none, none, none, none, rfl⟩ hC.2 hq (fun x7_ w6_ s_ k8_ kC9_ N_ hi_ hC_ hq_ hN_ => by
    obtain ⟨q4, q5, q6, q7, e_⟩ := hi_
    subst e_
    exact (g_bv (fun _ q => ⟨rfl, rfl, q⟩) (c_seq (c_set (ev_lcM (eQ PyData.int) PyData.bool (fun x10_ : (List Int) => (decide (((x10_.idxOf x7_.1 : Nat) : Int) < ((x10_.idxOf x7_.2 : Nat) : Int)))) (fun x10_ : (List Int) => (⟨[some (.dat (eP PyData.int (eQ (eP (eQ PyData.int) PyData.int)) a0)), some (.dat (eQ (eQ PyData.int) a1)), some (.dat (eQ (eP PyData.int PyData.int) a2)), some (.dat (eQ (eP PyData.int PyData.int) a3)), some (.dat (PyData.int x7_.1)), some (.dat (PyData.int x7_.2)), q6, q7, some (.dat (eQ PyData.int x10_))], n⟩ : AS)) (fun x10_ : (List Int) => (⟨[some (.dat (eP PyData.int (eQ (eP (eQ PyData.int) PyData.int)) a0)), some (.dat (eQ (eQ PyData.int) a1)), some (.dat (eQ (eP PyData.int PyData.int) a2)), some (.dat (eQ (eP PyData.int PyData.int) a3)), some (.dat (PyData.int x7_.1)), some (.dat (PyData.int x7_.2)), q6, q7, some (.dat (eQ PyData.int x10_))], n⟩ : AS)) (iv_valQ (f := (eQ PyData.int)) (l := a1) (ov_dat 1 rfl)) hC_.1 rfl True.intro (fun x10_ hx11_ => ((bv_nm 8).to rfl)) (fun x10_ hx11_ => (ev_a2 (ov_V (ev_idx (ov_dat 8 rfl) (lv_cons (ov_dat 4 rfl) lv_nil) (rsl_cons rfl (fun _ q => q)) (hC_.2.1 x10_ hx11_).1)) (ov_V (ev_idx (ov_dat 8 rfl) (lv_cons (ov_dat 5 rfl) lv_nil) (rsl_cons rfl (fun _ q => q)) (hC_.2.1 x10_ hx11_).2)) rfl rfl vf_ltI)) (fun _ _ => ⟨rfl, rfl⟩)) rfl (c_aft (c_seq (c_set (ev_lst (lv_cons (ov_V (ev_a2 (ov_V (ev_tup (lv_cons (ov_V (ev_var 4 rfl)) (lv_cons (ov_V (ev_var 5 rfl)) lv_nil)) (fun _ q => q) rfl)) (ov_dat 2 rfl) rfl rfl (vf_inQ (f := (eP PyData.int PyData.int)) (lw_P lw_I lw_I) (sh_P (sh_I (k := 0)) (sh_I (k := 0))) rfl rfl))) (lv_cons (ov_V (ev_a2 (ov_V (ev_tup (lv_cons (ov_V (ev_var 5 rfl)) (lv_cons (ov_V (ev_var 4 rfl)) lv_nil)) (fun _ q => q) rfl)) (ov_dat 2 rfl) rfl rfl (vf_inQ (f := (eP PyData.int PyData.int)) (lw_P lw_I lw_I) (sh_P (sh_I (k := 0)) (sh_I (k := 0))) rfl rfl))) (lv_cons (ov_V (ev_a2 (ov_V (ev_tup (lv_cons (ov_V (ev_var 4 rfl)) (lv_cons (ov_V (ev_var 5 rfl)) lv_nil)) (fun _ q => q) rfl)) (ov_dat 3 rfl) rfl rfl (vf_inQ (f := (eP PyData.int PyData.int)) (lw_P lw_I lw_I) (sh_P (sh_I (k := 0)) (sh_I (k := 0))) rfl rfl))) lv_nil))) (fun _ q => q) rfl) rfl (c_aft (c_seq (c_if (tv_V (ev_a2 (ov_dat 7 rfl) (ov_V (ev_lst (lv_cons (ov_V (ev_a2 (ov_V ev_c) (ov_dat 6 rfl) rfl rfl (vf_ninL (f := PyData.bool) lw_B (sh_B (k := 0)) rfl rfl))) (lv_cons (ov_V (ev_a2 (ov_V ev_c) (ov_dat 6 rfl) rfl rfl (vf_ninL (f := PyData.bool) lw_B (sh_B (k := 0)) rfl rfl))) (lv_cons (ov_V (ev_a2 (ov_V (ev_lenSB (ev_var 6 rfl) hC_.2.2.1)) (ov_V ev_c) rfl rfl (vf_eq (f := PyData.int) lw_I (sh_I (k := 0)) rfl))) lv_nil))) (fun _ q => q) rfl)) rfl rfl (vf_ne (f := (eL PyData.bool)) (a := [(memB (x7_.1, x7_.2) a2), (memB (x7_.2, x7_.1) a2), (memB (x7_.1, x7_.2) a3)]) (b := [(!memB false (a1.map fun x10_ : (List Int) => (decide (((x10_.idxOf x7_.1 : Nat) : Int) < ((x10_.idxOf x7_.2 : Nat) : Int))))), (!memB true (a1.map fun x10_ : (List Int) => (decide (((x10_.idxOf x7_.1 : Nat) : Int) < ((x10_.idxOf x7_.2 : Nat) : Int))))), (decide (((dfB (a1.map fun x10_ : (List Int) => (decide (((x10_.idxOf x7_.1 : Nat) : Int) < ((x10_.idxOf x7_.2 : Nat) : Int)))) : Nat) : Int) = (2 : Int)))]) (lw_L lw_B) (sh_L (sh_B (k := 0))) rfl))) (fun h12_ => (c_ret ev_c (ifT (P := D) (f := PyData.bool) h12_ hq_))) (fun h12_ => (c_pass (c_aft (c_if (tv_V (ev_a2 (ov_V (ev_a2 (ov_V (ev_call0 (lv_cons (ov_V (ev_var 0 rfl)) (lv_cons (ov_V (ev_var 4 rfl)) (lv_cons (ov_V (ev_var 5 rfl)) lv_nil))) (fun _ q => q) (okV_support a0 (PyData.int x7_.1) (PyData.int x7_.2) (hC_.2.2.2 h12_).1))) (ov_V (ev_call0 (lv_cons (ov_V (ev_var 0 rfl)) (lv_cons (ov_V (ev_var 5 rfl)) (lv_cons (ov_V (ev_var 4 rfl)) lv_nil))) (fun _ q => q) (okV_support a0 (PyData.int x7_.2) (PyData.int x7_.1) (hC_.2.2.2 h12_).2.1))) rfl rfl vf_addI)) (ov_V (ev_call0 (lv_cons (ov_V (ev_var 0 rfl)) lv_nil) (fun _ q => q) (okV_total_weight a0 (hC_.2.2.2 h12_).2.2.1))) rfl rfl (vf_ne (f := PyData.int) lw_I (sh_I (k := 0)) rfl))) (fun h13_ => (c_ret ev_c (ifT (P := D) (f := PyData.bool) h13_ (ifF (P := D) (f := PyData.bool) h12_ hq_)))) (fun h13_ => (c_pass (hN_ () _ ⟨some (.dat (PyData.int x7_.1)), some (.dat (PyData.int x7_.2)), some (.dat (eL PyData.bool (a1.map fun x10_ : (List Int) => (decide (((x10_.idxOf x7_.1 : Nat) : Int) < ((x10_.idxOf x7_.2 : Nat) : Int)))))), some (.dat (eL PyData.bool [(memB (x7_.1, x7_.2) a2), (memB (x7_.2, x7_.1) a2), (memB (x7_.1, x7_.2) a3)])), rfl⟩ ((hC_.2.2.2 h12_).2.2.2 h13_) (ifF (P := D) (f := PyData.bool) h13_ (ifF (P := D) (f := PyData.bool) h12_ hq_))))))))))))))))))) (fun w6_ s_ hi_ hA_ hqa_ => by
    obtain ⟨q4, q5, q6, q7, e_⟩ := hi_
    subst e_
    exact (c_aft (okS__law_right_s4 a0 a1 a2 (some (.dat (eQ (eP PyData.int PyData.int) a3))) (q4) (q5) (q6) (q7) hA_ hqa_)))))
def v__law_right_s2 (a0 : (Int × (List ((List Int) × Int)))) (a1 : (List (List Int))) : Bool := (v__law_right_s3 a0 a1 (v_majority a0) (v_ties a0))
def C__law_right_s2 (a0 : (Int × (List ((List Int) × Int)))) (a1 : (List (List Int))) : Prop := (C_majority a0 ∧ C_ties a0 ∧ C__law_right_s3 a0 a1 (v_majority a0) (v_ties a0))
def nb__law_right_s2 : AST := (sSeq (sPar 2 3 (lCons (oV (aCall0 [.dat] (calm F_majority) (lCons (oV (aVar 0)) lNil))) (lCons (oV (aCall0 [.dat] (calm F_ties) (lCons (oV (aVar 0)) lNil))) lNil)))
    (sSeq (sFor (iSeq (oV (aCall0 [.dat] (calm F__law_pairs) (lCons (oV (a2 vIx (oVar 0) (oV (aC (.int 0))))) lNil)))) (bTup 2 (bCons (bNm 4) (bCons (bNm 5) bNil)))
    (sSeq (sSet 6 (aLc (iSeq (oVar 1)) (bNm 8) tYesA (a2 vLt (oV (aIdx (oVar 8) (lCons (oVar 4) lNil))) (oV (aIdx (oVar 8) (lCons (oVar 5) lNil)))) [8]))
    (sSeq (sSet 7 (aLst (lCons (oV (a2 vIn (oV (aTup (lCons (oV (aVar 4)) (lCons (oV (aVar 5)) lNil)))) (oVar 2))) (lCons (oV (a2 vIn (oV (aTup (lCons (oV (aVar 5)) (lCons (oV (aVar 4)) lNil)))) (oVar 2))) (lCons (oV (a2 vIn (oV (aTup (lCons (oV (aVar 4)) (lCons (oV (aVar 5)) lNil)))) (oVar 3))) lNil)))))
    (sSeq (sIf (tV (a2 vNe (oVar 7) (oV (aLst (lCons (oV (a2 vNotIn (oV (aC (.bool false))) (oVar 6))) (lCons (oV (a2 vNotIn (oV (aC (.bool true))) (oVar 6))) (lCons (oV (a2 vEq (oV (aLenSB (aVar 6))) (oV (aC (.int 2))))) lNil)))))))
    (sRet (aC (.bool false)))
    sNx)
    (sIf (tV (a2 vNe (oV (a2 vAdd (oV (aCall0 [.dat, .dat, .dat] (calm F_support) (lCons (oV (aVar 0)) (lCons (oV (aVar 4)) (lCons (oV (aVar 5)) lNil))))) (oV (aCall0 [.dat, .dat, .dat] (calm F_support) (lCons (oV (aVar 0)) (lCons (oV (aVar 5)) (lCons (oV (aVar 4)) lNil))))))) (oV (aCall0 [.dat] (calm F_total_weight) (lCons (oV (aVar 0)) lNil)))))
    (sRet (aC (.bool false)))
    sNx)))))
    (sSeq (sIf (tV (a2 vEq (oV (aBlt fLen (lCons (oVar 1) lNil))) (oV (aC (.int 1)))))
    (sRet (a2 vEq (oV (aBlt fLen (lCons (oVar 2) lNil))) (oV (aBlt fLen (lCons (oV (aCall0 [.dat] (calm F__law_pairs) (lCons (oV (a2 vIx (oVar 0) (oV (aC (.int 0))))) lNil))) lNil)))))
    sNx)
    (sRet (a2 vLt (oV (a2 vIx (oVar 1) (oV (aC (.int 0))))) (oV (a2 vIx (oVar 1) (oV (aC (.int 1))))))))))
theorem okS__law_right_s2 {xp : XP} {D : AEnds} {n : Nat} (a0 : (Int × (List ((List Int) × Int)))) (a1 : (List (List Int)))  (hC : C__law_right_s2 a0 a1) (hq : D.rt (PyData.bool (v__law_right_s2 a0 a1)) n) : nb__law_right_s2 xp D ⟨[some (.dat (eP PyData.int (eQ (eP (eQ PyData.int) PyData.int)) a0)), some (.dat (eQ (eQ PyData.int) a1)), none, none, none, none, none, none, none], n⟩ := by
  unfold C__law_right_s2 at hC; unfold v__law_right_s2 at hq; unfold nb__law_right_s2
  exact (c_seq (c_par (lv_cons (ov_V (ev_call0 (lv_cons (ov_V (ev_var 0 rfl)) lv_nil) (fun _ q => q) (okV_majority a0 hC.1))) (lv_cons (ov_V (ev_call0 (lv_cons (ov_V (ev_var 0 rfl)) lv_nil) (fun _ q => q) (okV_ties a0 hC.2.1))) lv_nil)) (fun _ q => q) rfl (c_aft (okS__law_right_s3 a0 a1 (v_majority a0) (v_ties a0)  hC.2.2 hq))))
def v__law_right_s1 (a0 : (Int × (List ((List Int) × Int)))) (a1 : (List (List Int))) : Bool := (bif ((!decide (((a1.length : Nat) : Int) ∈ [(1 : Int), (2 : Int)])) || (!((a1.filter fun x2_ : (List Int) => (!memB x2_ (v_rankings_of a0))).map fun x2_ : (List Int) => x2_).isEmpty)) then false else (v__law_right_s2 a0 a1))
def C__law_right_s1 (a0 : (Int × (List ((List Int) × Int)))) (a1 : (List (List Int))) : Prop := (((!decide (((a1.length : Nat) : Int) ∈ [(1 : Int), (2 : Int)])) = false → (a1.length ≤ sizeLine ∧ (∀ x2_ ∈ a1, C_rankings_of a0))) ∧ (((!decide (((a1.length : Nat) : Int) ∈ [(1 : Int), (2 : Int)])) || (!((a1.filter fun x2_ : (List Int) => (!memB x2_ (v_rankings_of a0))).map fun x2_ : (List Int) => x2_).isEmpty)) = false → C__law_right_s2 a0 a1))
def nb__law_right_s1 : AST := (sSeq (sIf (tOrA (tV (a2 vNotIn (oV (aBlt fLen (lCons (oVar 1) lNil))) (oV (aTup (lCons (oV (aC (.int 1))) (lCons (oV (aC (.int 2))) lNil)))))) (tV (a2 vNeE (oV (aLc (iSeq (oVar 1)) (bNm 8) (tV (a2 vNotIn (oVar 8) (oV (aCall0 [.dat] (calm F_rankings_of) (lCons (oV (aVar 0)) lNil))))) (aVar 8) [8])) (oV (aLst lNil)))))
    (sRet (aC (.bool false)))
    sNx)
    (sSeq (sPar 2 3 (lCons (oV (aCall0 [.dat] (calm F_majority) (lCons (oV (aVar 0)) lNil))) (lCons (oV (aCall0 [.dat] (calm F_ties) (lCons (oV (aVar 0)) lNil))) lNil)))
    (sSeq (sFor (iSeq (oV (aCall0 [.dat] (calm F__law_pairs) (lCons (oV (a2 vIx (oVar 0) (oV (aC (.int 0))))) lNil)))) (bTup 2 (bCons (bNm 4) (bCons (bNm 5) bNil)))
    (sSeq (sSet 6 (aLc (iSeq (oVar 1)) (bNm 8) tYesA (a2 vLt (oV (aIdx (oVar 8) (lCons (oVar 4) lNil))) (oV (aIdx (oVar 8) (lCons (oVar 5) lNil)))) [8]))
    (sSeq (sSet 7 (aLst (lCons (oV (a2 vIn (oV (aTup (lCons (oV (aVar 4)) (lCons (oV (aVar 5)) lNil)))) (oVar 2))) (lCons (oV (a2 vIn (oV (aTup (lCons (oV (aVar 5)) (lCons (oV (aVar 4)) lNil)))) (oVar 2))) (lCons (oV (a2 vIn (oV (aTup (lCons (oV (aVar 4)) (lCons (oV (aVar 5)) lNil)))) (oVar 3))) lNil)))))
    (sSeq (sIf (tV (a2 vNe (oVar 7) (oV (aLst (lCons (oV (a2 vNotIn (oV (aC (.bool false))) (oVar 6))) (lCons (oV (a2 vNotIn (oV (aC (.bool true))) (oVar 6))) (lCons (oV (a2 vEq (oV (aLenSB (aVar 6))) (oV (aC (.int 2))))) lNil)))))))
    (sRet (aC (.bool false)))
    sNx)
    (sIf (tV (a2 vNe (oV (a2 vAdd (oV (aCall0 [.dat, .dat, .dat] (calm F_support) (lCons (oV (aVar 0)) (lCons (oV (aVar 4)) (lCons (oV (aVar 5)) lNil))))) (oV (aCall0 [.dat, .dat, .dat] (calm F_support) (lCons (oV (aVar 0)) (lCons (oV (aVar 5)) (lCons (oV (aVar 4)) lNil))))))) (oV (aCall0 [.dat] (calm F_total_weight) (lCons (oV (aVar 0)) lNil)))))
    (sRet (aC (.bool false)))
    sNx)))))
    (sSeq (sIf (tV (a2 vEq (oV (aBlt fLen (lCons (oVar 1) lNil))) (oV (aC (.int 1)))))
    (sRet (a2 vEq (oV (aBlt fLen (lCons (oVar 2) lNil))) (oV (aBlt fLen (lCons (oV (aCall0 [.dat] (calm F__law_pairs) (lCons (oV (a2 vIx (oVar 0) (oV (aC (.int 0))))) lNil))) lNil)))))
    sNx)
    (sRet (a2 vLt (oV (a2 vIx (oVar 1) (oV (aC (.int 0))))) (oV (a2 vIx (oVar 1) (oV (aC (.int 1)))))))))))
theorem okS__law_right_s1 {xp : XP} {D : AEnds} {n : Nat} (a0 : (Int × (List ((List Int) × Int)))) (a1 : (List (List Int)))  (hC : C__law_right_s1 a0 a1) (hq : D.rt (PyData.bool (v__law_right_s1 a0 a1)) n) : nb__law_right_s1 xp D ⟨[some (.dat (eP PyData.int (eQ (eP (eQ PyData.int) PyData.int)) a0)), some (.dat (eQ (eQ PyData.int) a1)), none, none, none, none, none, none, none], n⟩ := by
  unfold C__law_right_s1 at hC; unfold v__law_right_s1 at hq; unfold nb__law_right_s1
  exact (c_seq (c_if (tv_or (tv_V (ev_a2 (ov_V (ev_blt (lv_cons (ov_dat 1 rfl) lv_nil) (rsl_cons rfl (fun _ q => q)) (fv_lenQ (f := (eQ PyData.int))))) (ov_V (ev_tup (lv_cons (ov_V ev_c) (lv_cons (ov_V ev_c) lv_nil)) (fun _ q => q) rfl)) rfl rfl (vf_ninQ (f := PyData.int) lw_I (sh_I (k := 0)) rfl rfl))) (fun h1_ => (tv_V (ev_a2 (ov_V (ev_lcF (eQ PyData.int) (fun x2_ : (List Int) => (!memB x2_ (v_rankings_of a0))) (eQ PyData.int) (fun x2_ : (List Int) => x2_) (fun x2_ : (List Int) => (⟨[some (.dat (eP PyData.int (eQ (eP (eQ PyData.int) PyData.int)) a0)), some (.dat (eQ (eQ PyData.int) a1)), none, none, none, none, none, none, some (.dat (eQ PyData.int x2_))], n⟩ : AS)) (fun x2_ : (List Int) => (⟨[some (.dat (eP PyData.int (eQ (eP (eQ PyData.int) PyData.int)) a0)), some (.dat (eQ (eQ PyData.int) a1)), none, none, none, none, none, none, some (.dat (eQ PyData.int x2_))], n⟩ : AS)) (iv_valQ (f := (eQ PyData.int)) (l := a1) (ov_dat 1 rfl)) (hC.1 h1_).1 rfl True.intro (fun x2_ hx3_ => ((bv_nm 8).to rfl)) (fun x2_ hx3_ => (tv_V (ev_a2 (ov_dat 8 rfl) (ov_V (ev_call0 (lv_cons (ov_V (ev_var 0 rfl)) lv_nil) (fun _ q => q) (okV_rankings_of a0 ((hC.1 h1_).2 x2_ hx3_)))) rfl rfl (vf_ninQ (f := (eQ PyData.int)) (lw_Q lw_I) (sh_Q (sh_I (k := 0))) rfl rfl)))) (fun x2_ hx3_ h4_ => (ev_var 8 rfl)) (fun _ _ => ⟨rfl, rfl⟩))) (ov_V (ev_lst lv_nil (fun _ q => q) rfl)) rfl rfl (vf_neEL (f := (eQ PyData.int)) (g := PyData.int)))))) (fun h5_ => (c_ret ev_c (ifT (P := D) (f := PyData.bool) h5_ hq))) (fun h5_ => (c_pass (c_aft (okS__law_right_s2 a0 a1  (hC.2 h5_) (ifF (P := D) (f := PyData.bool) h5_ hq)))))))
def v__law_right (a0 : (Int × (List ((List Int) × Int)))) : Bool := (v__law_right_s1 a0 (v_medians a0))
def C__law_right (a0 : (Int × (List ((List Int) × Int)))) : Prop := (C_medians a0 ∧ C__law_right_s1 a0 (v_medians a0))
def nb__law_right : AST := (sSeq (sSet 1 (aCall [.dat] (calm F_medians) (lCons (oV (aVar 0)) lNil)))
    (sSeq (sIf (tOrA (tV (a2 vNotIn (oV (aBlt fLen (lCons (oVar 1) lNil))) (oV (aTup (lCons (oV (aC (.int 1))) (lCons (oV (aC (.int 2))) lNil)))))) (tV (a2 vNeE (oV (aLc (iSeq (oVar 1)) (bNm 8) (tV (a2 vNotIn (oVar 8) (oV (aCall0 [.dat] (calm F_rankings_of) (lCons (oV (aVar 0)) lNil))))) (aVar 8) [8])) (oV (aLst lNil)))))
    (sRet (aC (.bool false)))
    sNx)
    (sSeq (sPar 2 3 (lCons (oV (aCall0 [.dat] (calm F_majority) (lCons (oV (aVar 0)) lNil))) (lCons (oV (aCall0 [.dat] (calm F_ties) (lCons (oV (aVar 0)) lNil))) lNil)))
    (sSeq (sFor (iSeq (oV (aCall0 [.dat] (calm F__law_pairs) (lCons (oV (a2 vIx (oVar 0) (oV (aC (.int 0))))) lNil)))) (bTup 2 (bCons (bNm 4) (bCons (bNm 5) bNil)))
    (sSeq (sSet 6 (aLc (iSeq (oVar 1)) (bNm 8) tYesA (a2 vLt (oV (aIdx (oVar 8) (lCons (oVar 4) lNil))) (oV (aIdx (oVar 8) (lCons (oVar 5) lNil)))) [8]))
    (sSeq (sSet 7 (aLst (lCons (oV (a2 vIn (oV (aTup (lCons (oV (aVar 4)) (lCons (oV (aVar 5)) lNil)))) (oVar 2))) (lCons (oV (a2 vIn (oV (aTup (lCons (oV (aVar 5)) (lCons (oV (aVar 4)) lNil)))) (oVar 2))) (lCons (oV (a2 vIn (oV (aTup (lCons (oV (aVar 4)) (lCons (oV (aVar 5)) lNil)))) (oVar 3))) lNil)))))
    (sSeq (sIf (tV (a2 vNe (oVar 7) (oV (aLst (lCons (oV (a2 vNotIn (oV (aC (.bool false))) (oVar 6))) (lCons (oV (a2 vNotIn (oV (aC (.bool true))) (oVar 6))) (lCons (oV (a2 vEq (oV (aLenSB (aVar 6))) (oV (aC (.int 2))))) lNil)))))))
    (sRet (aC (.bool false)))
    sNx)
    (sIf (tV (a2 vNe (oV (a2 vAdd (oV (aCall0 [.dat, .dat, .dat] (calm F_support) (lCons (oV (aVar 0)) (lCons (oV (aVar 4)) (lCons (oV (aVar 5)) lNil))))) (oV (aCall0 [.dat, .dat, .dat] (calm F_support) (lCons (oV (aVar 0)) (lCons (oV (aVar 5)) (lCons (oV (aVar 4)) lNil))))))) (oV (aCall0 [.dat] (calm F_total_weight) (lCons (oV (aVar 0)) lNil)))))
    (sRet (aC (.bool false)))
    sNx)))))
    (sSeq (sIf (tV (a2 vEq (oV (aBlt fLen (lCons (oVar 1) lNil))) (oV (aC (.int 1)))))
    (sRet (a2 vEq (oV (aBlt fLen (lCons (oVar 2) lNil))) (oV (aBlt fLen (lCons (oV (aCall0 [.dat] (calm F__law_pairs) (lCons (oV (a2 vIx (oVar 0) (oV (aC (.int 0))))) lNil))) lNil)))))
    sNx)
    (sRet (a2 vLt (oV (a2 vIx (oVar 1) (oV (aC (.int 0))))) (oV (a2 vIx (oVar 1) (oV (aC (.int 1))))))))))))
theorem okS__law_right {xp : XP} {D : AEnds} {n : Nat} (a0 : (Int × (List ((List Int) × Int))))  (hC : C__law_right a0) (hq : D.rt (PyData.bool (v__law_right a0)) n) : nb__law_right xp D ⟨[some (.dat (eP PyData.int (eQ (eP (eQ PyData.int) PyData.int)) a0)), none, none, none, none, none, none, none, none], n⟩ := by
  unfold C__law_right at hC; unfold v__law_right at hq; unfold nb__law_right
  exact (c_seq (c_set (ev_callG (lv_cons (ov_V (ev_var 0 rfl)) lv_nil) (fun _ q => q) (okV_medians a0 hC.1)) rfl (c_aft (okS__law_right_s1 a0 (v_medians a0)  hC.2 hq))))
theorem okV__law_right (a0 : (Int × (List ((List Int) × Int)))) (hC : C__law_right a0) : PFn F__law_right [(eP PyData.int (eQ (eP (eQ PyData.int) PyData.int)) a0)] (PyData.bool (v__law_right a0)) := fun n Q X q => by
  unfold F__law_right
  exact okS__law_right (xp := fun x s => X x s.n) (D := { nx := fun s => Q .none s.n, rt := Q }) a0 hC q
end TR
namespace TR
/-! ### swaps of neighbours, the way from one ranking to another -/
def swp (ns : List Int) (k : Nat) : List Int := ns.take k ++ ([ns.getD (k + 1) 0, ns.getD k 0] ++ ns.drop (k + 2))
theorem getD_of {ns : List Int} {k : Nat} (h : k < ns.length) : ns.getD k 0 = ns[k] := by
  rw [List.getD_eq_getElem?_getD, List.getElem?_eq_getElem h]
  rfl
theorem swp_split {ns : List Int} {k : Nat} (h : k + 1 < ns.length) : ns = ns.take k ++ (ns.getD k 0 :: ns.getD (k + 1) 0 :: ns.drop (k + 2)) := by
  rw [getD_of h, getD_of (by omega)]
  have a1 : ns.drop k = ns[k] :: ns.drop (k + 1) := List.drop_eq_getElem_cons (by omega)
  have a2 : ns.drop (k + 1) = ns[k + 1] :: ns.drop (k + 2) := List.drop_eq_getElem_cons h
  rw [← a2, ← a1, List.take_append_drop]
theorem swp_rank {n : Nat} {ns : List Int} {k : Nat} (r : Rank n ns) (h : k + 1 < n) : Rank n (swp ns k) := by
  have hl := r.len
  refine List.Perm.trans ?_ r
  refine List.Perm.trans ?_ (List.Perm.of_eq (swp_split (ns := ns) (k := k) (by omega)).symm)
  exact List.Perm.append_left _ (List.Perm.swap _ _ _)
/-! ### inversions -/
/-! ### no wrong place: the end -/
/-! ### the way -/
end TR
namespace TR
open PySem PySem.Spec PyProof.Rows L2
abbrev rkD (r : List Int) : PyData := .tuple (r.map .int)
abbrev Tas := List (List Int × Int)
structure WfT (D M n : Nat) (ts : Tas) : Prop where
  n1 : 1 ≤ n
  nD : n ≤ D
  l1 : 1 ≤ ts.length
  lM : ts.length ≤ M
  all : ∀ t ∈ ts, Rank n t.1 ∧ 1 ≤ t.2 ∧ t.2 ≤ 1000000000000
theorem erase_map {α β : Type} (f : α → β) : ∀ (l : List α) (j : Nat), (l.map f).eraseIdx j = (l.eraseIdx j).map f
  | [], _ => rfl
  | _ :: _, 0 => rfl
  | x :: r, j + 1 => by
    show f x :: (r.map f).eraseIdx j = f x :: (r.eraseIdx j).map f
    rw [erase_map f r j]
theorem erase_perm {α : Type} : ∀ {l : List α} {j : Nat} (h : j < l.length), (l[j] :: l.eraseIdx j).Perm l
  | _ :: _, 0, _ => List.Perm.refl _
  | x :: l, j + 1, h => by
    show (l[j]'(by simpa using h) :: x :: l.eraseIdx j).Perm (x :: l)
    exact (List.Perm.swap x _ _).trans ((erase_perm (by simpa using h)).cons x)
theorem pop_at {ls : List Int} {j : Nat} (h : j < ls.length) {K : PyData → List PyData → Prop} : mPopAt (ls.map .int) [.int (j : Int)] K = K (.int ls[j]) ((ls.eraseIdx j).map .int) := by
  unfold mPopAt
  have e : ixN (ls.map PyData.int).length (j : Int) = some j := by
    unfold ixN
    rw [if_pos (by omega), if_pos (by rw [List.length_map]; omega), Int.toNat_natCast]
  have e2 : (ls.map PyData.int)[j]? = some (.int ls[j]) := by rw [List.getElem?_map, List.getElem?_eq_getElem h]; rfl
  simp only [e, e2, erase_map]
section
variable {n : Nat} {Q : PyData → Nat → Prop} {X : XD → Nat → Prop} {d0 : PyData}
theorem next_ok {m : Int} (hn : n ≤ 1000000) (h0 : 0 < m) (h1 : m ≤ 4000000000000) (q : ∀ r, 0 ≤ r → r < m → Q (.int r) (n + 1)) : F__law_next [d0, .int m] n Q X := ⟨hn, h0, h1, q⟩
theorem one_ok {ds : List PyData} (hn : n ≤ 1000000) (h : ds ≠ []) (hl : ds.length ≤ 1000) (q : ∀ d ∈ ds, Q d (n + 1)) : F__law_one [d0, .list ds] n Q X := by
  simp only [F__law_one, b__law_one, fnF, startA, mkAs, mkA, sNx, sSeq, sDrop, sRet, sRetN, sRetV, sIf, sSet, sSetO, sAsg, sPar_v, sParOO, sParOV, sAug, sFor, sBreak, sCont, aC, aVar, oVar, aFrz, oV, a2, a3, tV, tTruA, truD, tAndA, tOrA, tNotA, aB, aAnd, aOr, aNot, aIfE, lNil, lCons, rv, rs, res, aTup, aLst, bNm, bNil, bCons, bTup, AS.set, iSeq, iRange1, iRange2, aLc, aLc2, aCall, aCall0, calm, rm, aBlt, rsl, aIsi, aIsi2, aDict0, aIdx, aMut, aNeg, rg1, rg2, aTupRg, aListRg, aSl, ptNone, ptSome, aRev, AIt.its, AIt.chk, items, tYesA, vIx_t, vIx_l, vAdd_i, vAdd_t, vAdd_l, vSub_i, vMul_i, vMod_i, vDiv_i, vLt_i, vLe_i, vGt_i, vGe_i, vCatL_l, vAddI_i, vSubI_i, fLen_l, fLen_t, fTuple_l, fList_t, mApp_1, mExt_1, List.set_cons_zero, List.set_cons_succ, List.getElem?_cons_zero, List.getElem?_cons_succ, List.replicate, List.cons_append, List.nil_append, List.length_cons, List.length_nil, at_0, at_1, at_2, if_true, if_false, true_and, and_true]
  have hp : 0 < ds.length := List.length_pos_iff.mpr h
  refine next_ok hn (by omega) (by omega) fun r h0 h1 => ?_
  simp only [fnF, startA, mkAs, mkA, sNx, sSeq, sDrop, sRet, sRetN, sRetV, sIf, sSet, sSetO, sAsg, sPar_v, sParOO, sParOV, sAug, sFor, sBreak, sCont, aC, aVar, oVar, aFrz, oV, a2, a3, tV, tTruA, truD, tAndA, tOrA, tNotA, aB, aAnd, aOr, aNot, aIfE, lNil, lCons, rv, rs, res, aTup, aLst, bNm, bNil, bCons, bTup, AS.set, iSeq, iRange1, iRange2, aLc, aLc2, aCall, aCall0, calm, rm, aBlt, rsl, aIsi, aIsi2, aDict0, aIdx, aMut, aNeg, rg1, rg2, aTupRg, aListRg, aSl, ptNone, ptSome, aRev, AIt.its, AIt.chk, items, tYesA, vIx_t, vIx_l, vAdd_i, vAdd_t, vAdd_l, vSub_i, vMul_i, vMod_i, vDiv_i, vLt_i, vLe_i, vGt_i, vGe_i, vCatL_l, vAddI_i, vSubI_i, fLen_l, fLen_t, fTuple_l, fList_t, mApp_1, mExt_1, List.set_cons_zero, List.set_cons_succ, List.getElem?_cons_zero, List.getElem?_cons_succ, List.replicate, List.cons_append, List.nil_append, List.length_cons, List.length_nil, at_0, at_1, at_2, if_true, if_false, true_and, and_true]
  obtain ⟨d, e, m⟩ := at_some h0 h1
  rw [e]
  exact q d m
theorem people_ok (hn : n + 3 ≤ 1000000) (q : ∀ w : Int, 1 ≤ w → w ≤ 1000000000000 → Q (.int w) (n + 3)) : F__law_people [d0] n Q X := by
  simp only [F__law_people, b__law_people, fnF, startA, mkAs, mkA, sNx, sSeq, sDrop, sRet, sRetN, sRetV, sIf, sSet, sSetO, sAsg, sPar_v, sParOO, sParOV, sAug, sFor, sBreak, sCont, aC, aVar, oVar, aFrz, oV, a2, a3, tV, tTruA, truD, tAndA, tOrA, tNotA, aB, aAnd, aOr, aNot, aIfE, lNil, lCons, rv, rs, res, aTup, aLst, bNm, bNil, bCons, bTup, AS.set, iSeq, iRange1, iRange2, aLc, aLc2, aCall, aCall0, calm, rm, aBlt, rsl, aIsi, aIsi2, aDict0, aIdx, aMut, aNeg, rg1, rg2, aTupRg, aListRg, aSl, ptNone, ptSome, aRev, AIt.its, AIt.chk, items, tYesA, vIx_t, vIx_l, vAdd_i, vAdd_t, vAdd_l, vSub_i, vMul_i, vMod_i, vDiv_i, vLt_i, vLe_i, vGt_i, vGe_i, vCatL_l, vAddI_i, vSubI_i, fLen_l, fLen_t, fTuple_l, fList_t, mApp_1, mExt_1, List.set_cons_zero, List.set_cons_succ, List.getElem?_cons_zero, List.getElem?_cons_succ, List.replicate, List.cons_append, List.nil_append, List.length_cons, List.length_nil, at_0, at_1, at_2, if_true, if_false, true_and, and_true]
  refine next_ok (by omega) (by omega) (by omega) fun a a0 a1 => ?_
  simp only [fnF, startA, mkAs, mkA, sNx, sSeq, sDrop, sRet, sRetN, sRetV, sIf, sSet, sSetO, sAsg, sPar_v, sParOO, sParOV, sAug, sFor, sBreak, sCont, aC, aVar, oVar, aFrz, oV, a2, a3, tV, tTruA, truD, tAndA, tOrA, tNotA, aB, aAnd, aOr, aNot, aIfE, lNil, lCons, rv, rs, res, aTup, aLst, bNm, bNil, bCons, bTup, AS.set, iSeq, iRange1, iRange2, aLc, aLc2, aCall, aCall0, calm, rm, aBlt, rsl, aIsi, aIsi2, aDict0, aIdx, aMut, aNeg, rg1, rg2, aTupRg, aListRg, aSl, ptNone, ptSome, aRev, AIt.its, AIt.chk, items, tYesA, vIx_t, vIx_l, vAdd_i, vAdd_t, vAdd_l, vSub_i, vMul_i, vMod_i, vDiv_i, vLt_i, vLe_i, vGt_i, vGe_i, vCatL_l, vAddI_i, vSubI_i, fLen_l, fLen_t, fTuple_l, fList_t, mApp_1, mExt_1, List.set_cons_zero, List.set_cons_succ, List.getElem?_cons_zero, List.getElem?_cons_succ, List.replicate, List.cons_append, List.nil_append, List.length_cons, List.length_nil, at_0, at_1, at_2, if_true, if_false, true_and, and_true, pow_12]
  refine next_ok (by omega) (by omega) (by omega) fun b b0 b1 => ?_
  simp only [fnF, startA, mkAs, mkA, sNx, sSeq, sDrop, sRet, sRetN, sRetV, sIf, sSet, sSetO, sAsg, sPar_v, sParOO, sParOV, sAug, sFor, sBreak, sCont, aC, aVar, oVar, aFrz, oV, a2, a3, tV, tTruA, truD, tAndA, tOrA, tNotA, aB, aAnd, aOr, aNot, aIfE, lNil, lCons, rv, rs, res, aTup, aLst, bNm, bNil, bCons, bTup, AS.set, iSeq, iRange1, iRange2, aLc, aLc2, aCall, aCall0, calm, rm, aBlt, rsl, aIsi, aIsi2, aDict0, aIdx, aMut, aNeg, rg1, rg2, aTupRg, aListRg, aSl, ptNone, ptSome, aRev, AIt.its, AIt.chk, items, tYesA, vIx_t, vIx_l, vAdd_i, vAdd_t, vAdd_l, vSub_i, vMul_i, vMod_i, vDiv_i, vLt_i, vLe_i, vGt_i, vGe_i, vCatL_l, vAddI_i, vSubI_i, fLen_l, fLen_t, fTuple_l, fList_t, mApp_1, mExt_1, List.set_cons_zero, List.set_cons_succ, List.getElem?_cons_zero, List.getElem?_cons_succ, List.replicate, List.cons_append, List.nil_append, List.length_cons, List.length_nil, at_0, at_1, at_2, if_true, if_false, true_and, and_true, pow_12]
  refine ⟨lim (by omega), next_ok (by omega) (by omega) (by omega) fun c c0 c1 => ?_⟩
  simp only [fnF, startA, mkAs, mkA, sNx, sSeq, sDrop, sRet, sRetN, sRetV, sIf, sSet, sSetO, sAsg, sPar_v, sParOO, sParOV, sAug, sFor, sBreak, sCont, aC, aVar, oVar, aFrz, oV, a2, a3, tV, tTruA, truD, tAndA, tOrA, tNotA, aB, aAnd, aOr, aNot, aIfE, lNil, lCons, rv, rs, res, aTup, aLst, bNm, bNil, bCons, bTup, AS.set, iSeq, iRange1, iRange2, aLc, aLc2, aCall, aCall0, calm, rm, aBlt, rsl, aIsi, aIsi2, aDict0, aIdx, aMut, aNeg, rg1, rg2, aTupRg, aListRg, aSl, ptNone, ptSome, aRev, AIt.its, AIt.chk, items, tYesA, vIx_t, vIx_l, vAdd_i, vAdd_t, vAdd_l, vSub_i, vMul_i, vMod_i, vDiv_i, vLt_i, vLe_i, vGt_i, vGe_i, vCatL_l, vAddI_i, vSubI_i, fLen_l, fLen_t, fTuple_l, fList_t, mApp_1, mExt_1, List.set_cons_zero, List.set_cons_succ, List.getElem?_cons_zero, List.getElem?_cons_succ, List.replicate, List.cons_append, List.nil_append, List.length_cons, List.length_nil, at_0, at_1, at_2, if_true, if_false, true_and, and_true]
  have : c = 0 ∨ c = 1 ∨ c = 2 ∨ c = 3 ∨ c = 4 := by omega
  rcases this with rfl | rfl | rfl | rfl | rfl
  · exact q _ (by omega) (by omega)
  · exact q _ (by omega) (by omega)
  · exact q _ (by omega) (by omega)
  · exact q _ (by omega) (by omega)
  · exact q _ (by omega) (by omega)
theorem list_ok16 {m : Nat} (hm : m ≤ 16) (hn : n + m ≤ 1000000) (q : ∀ r, Rank m r → Q (rkD r) (n + m)) : F__law_list [d0, .int m] n Q X := by
  simp only [F__law_list, b__law_list, fnF, startA, mkAs, mkA, sNx, sSeq, sDrop, sRet, sRetN, sRetV, sIf, sSet, sSetO, sAsg, sPar_v, sParOO, sParOV, sAug, sFor, sBreak, sCont, aC, aVar, oVar, aFrz, oV, a2, a3, tV, tTruA, truD, tAndA, tOrA, tNotA, aB, aAnd, aOr, aNot, aIfE, lNil, lCons, rv, rs, res, aTup, aLst, bNm, bNil, bCons, bTup, AS.set, iSeq, iRange1, iRange2, aLc, aLc2, aCall, aCall0, calm, rm, aBlt, rsl, aIsi, aIsi2, aDict0, aIdx, aMut, aNeg, rg1, rg2, aTupRg, aListRg, aSl, ptNone, ptSome, aRev, AIt.its, AIt.chk, items, tYesA, vIx_t, vIx_l, vAdd_i, vAdd_t, vAdd_l, vSub_i, vMul_i, vMod_i, vDiv_i, vLt_i, vLe_i, vGt_i, vGe_i, vCatL_l, vAddI_i, vSubI_i, fLen_l, fLen_t, fTuple_l, fList_t, mApp_1, mExt_1, List.set_cons_zero, List.set_cons_succ, List.getElem?_cons_zero, List.getElem?_cons_succ, List.replicate, List.cons_append, List.nil_append, List.length_cons, List.length_nil, at_0, at_1, at_2, if_true, if_false, true_and, and_true, rng_d']
  refine ⟨.of_le (by omega) (by omega) (by omega) (by omega), lim (by omega), ints_some _, ?_⟩
  refine while_inv (fun k s => ∃ ls fs : List Int, k = ls.length ∧ (ls ++ fs).Perm (rng m) ∧ s = ⟨[some .deck, some (.dat (.int m)), some (.own (ls.map .int)), some (.own (fs.map .int))], n + fs.length⟩) (fun k s ⟨ls, fs, hk, hp, e⟩ N hN => ?_) (k := m) ⟨rng m, [], (rng_len m).symm, by rw [List.append_nil], rfl⟩
  subst e
  have hl : ls.length + fs.length = m := by
    have := hp.length_eq
    rw [List.length_append, rng_len] at this
    exact this
  simp only [fnF, startA, mkAs, mkA, sNx, sSeq, sDrop, sRet, sRetN, sRetV, sIf, sSet, sSetO, sAsg, sPar_v, sParOO, sParOV, sAug, sFor, sBreak, sCont, aC, aVar, oVar, aFrz, oV, a2, a3, tV, tTruA, truD, tAndA, tOrA, tNotA, aB, aAnd, aOr, aNot, aIfE, lNil, lCons, rv, rs, res, aTup, aLst, bNm, bNil, bCons, bTup, AS.set, iSeq, iRange1, iRange2, aLc, aLc2, aCall, aCall0, calm, rm, aBlt, rsl, aIsi, aIsi2, aDict0, aIdx, aMut, aNeg, rg1, rg2, aTupRg, aListRg, aSl, ptNone, ptSome, aRev, AIt.its, AIt.chk, items, tYesA, vIx_t, vIx_l, vAdd_i, vAdd_t, vAdd_l, vSub_i, vMul_i, vMod_i, vDiv_i, vLt_i, vLe_i, vGt_i, vGe_i, vCatL_l, vAddI_i, vSubI_i, fLen_l, fLen_t, fTuple_l, fList_t, mApp_1, mExt_1, List.set_cons_zero, List.set_cons_succ, List.getElem?_cons_zero, List.getElem?_cons_succ, List.replicate, List.cons_append, List.nil_append, List.length_cons, List.length_nil, at_0, at_1, at_2, if_true, if_false, true_and, and_true, vNeE]
  refine ⟨lim (by omega), ?_⟩
  cases ls with
  | nil =>
    simp only [List.map_nil, List.isEmpty_nil, Bool.not_true, if_false, Bool.false_eq_true, fnF, startA, mkAs, mkA, sNx, sSeq, sDrop, sRet, sRetN, sRetV, sIf, sSet, sSetO, sAsg, sPar_v, sParOO, sParOV, sAug, sFor, sBreak, sCont, aC, aVar, oVar, aFrz, oV, a2, a3, tV, tTruA, truD, tAndA, tOrA, tNotA, aB, aAnd, aOr, aNot, aIfE, lNil, lCons, rv, rs, res, aTup, aLst, bNm, bNil, bCons, bTup, AS.set, iSeq, iRange1, iRange2, aLc, aLc2, aCall, aCall0, calm, rm, aBlt, rsl, aIsi, aIsi2, aDict0, aIdx, aMut, aNeg, rg1, rg2, aTupRg, aListRg, aSl, ptNone, ptSome, aRev, AIt.its, AIt.chk, items, tYesA, vIx_t, vIx_l, vAdd_i, vAdd_t, vAdd_l, vSub_i, vMul_i, vMod_i, vDiv_i, vLt_i, vLe_i, vGt_i, vGe_i, vCatL_l, vAddI_i, vSubI_i, fLen_l, fLen_t, fTuple_l, fList_t, mApp_1, mExt_1, List.set_cons_zero, List.set_cons_succ, List.getElem?_cons_zero, List.getElem?_cons_succ, List.replicate, List.cons_append, List.nil_append, List.length_cons, List.length_nil, at_0, at_1, at_2, if_true, if_false, true_and, and_true]
    have : n + fs.length = n + m := by simp at hl; omega
    rw [this]
    exact q fs hp
  | cons x ls =>
    simp only [List.map_cons, List.isEmpty_cons, Bool.not_false, if_true, fnF, startA, mkAs, mkA, sNx, sSeq, sDrop, sRet, sRetN, sRetV, sIf, sSet, sSetO, sAsg, sPar_v, sParOO, sParOV, sAug, sFor, sBreak, sCont, aC, aVar, oVar, aFrz, oV, a2, a3, tV, tTruA, truD, tAndA, tOrA, tNotA, aB, aAnd, aOr, aNot, aIfE, lNil, lCons, rv, rs, res, aTup, aLst, bNm, bNil, bCons, bTup, AS.set, iSeq, iRange1, iRange2, aLc, aLc2, aCall, aCall0, calm, rm, aBlt, rsl, aIsi, aIsi2, aDict0, aIdx, aMut, aNeg, rg1, rg2, aTupRg, aListRg, aSl, ptNone, ptSome, aRev, AIt.its, AIt.chk, items, tYesA, vIx_t, vIx_l, vAdd_i, vAdd_t, vAdd_l, vSub_i, vMul_i, vMod_i, vDiv_i, vLt_i, vLe_i, vGt_i, vGe_i, vCatL_l, vAddI_i, vSubI_i, fLen_l, fLen_t, fTuple_l, fList_t, mApp_1, mExt_1, List.set_cons_zero, List.set_cons_succ, List.getElem?_cons_zero, List.getElem?_cons_succ, List.replicate, List.cons_append, List.nil_append, List.length_cons, List.length_nil, at_0, at_1, at_2, if_true, if_false, true_and, and_true]
    refine next_ok (by omega) (by omega) (by rw [List.length_map]; simp at hl; omega) fun r h0 h1 => ?_
    obtain ⟨j, rfl⟩ := Int.eq_ofNat_of_zero_le h0
    have hj : j < (x :: ls).length := by rw [List.length_map] at h1; rw [List.length_cons]; omega
    have ep := pop_at (ls := x :: ls) hj (K := fun d ds' => (List.map PyData.int fs).length < sizeLine ∧ N ⟨[some .deck, some (.dat (.int m)), some (.own ds'), some (.own (List.map PyData.int fs ++ [d]))], n + fs.length + 1⟩)
    rw [List.map_cons] at ep
    rw [ep]
    refine ⟨small1000 (by rw [List.length_map]; omega), hN _ _ ?_ ⟨(x :: ls).eraseIdx j, fs ++ [(x :: ls)[j]], rfl, ?_, ?_⟩⟩
    · rw [hk, List.length_eraseIdx_of_lt hj]
      simp
    · refine List.Perm.trans ?_ hp
      rw [← List.append_assoc]
      refine (List.perm_append_singleton _ _).trans ?_
      rw [← List.cons_append]
      exact (erase_perm hj).append_right fs
    · simp [Nat.add_assoc]
end
end TR
namespace TR
open PySem PySem.Spec PyProof.Rows L2
/-! ### draws, by hand -/
section
variable {n : Nat} {Q : PyData → Nat → Prop} {X : XD → Nat → Prop}
theorem okW__law_next {K : Int → Nat → Prop} (m : Int) (hw : w__law_next m n K) (hk : ∀ r k, K r k → Q (.int r) k) : F__law_next [.none, .int m] n Q X := ⟨hw.1, hw.2.1, hw.2.2.1, fun r h0 h1 => hk _ _ (hw.2.2.2 r h0 h1)⟩
theorem okW__law_one {α : Type} {K : α → Nat → Prop} (f : α → PyData) (l : List α) (hw : w__law_one l n K) (hk : ∀ r k, K r k → Q (f r) k) : F__law_one [.none, eL f l] n Q X := one_ok hw.1.1 (by simpa using hw.1.2.1) (by rw [List.length_map]; exact hw.1.2.2) fun d hd => by
  obtain ⟨x, hx, rfl⟩ := List.mem_map.mp hd
  exact hk _ _ (hw.2 x hx)
def w__law_people (n : Nat) (K : Int → Nat → Prop) : Prop := n + 3 ≤ 1000000 ∧ ∀ w : Int, 1 ≤ w → w ≤ 1000000000000 → K w (n + 3)
theorem okW__law_people {K : Int → Nat → Prop} (hw : w__law_people n K) (hk : ∀ r k, K r k → Q (.int r) k) : F__law_people [.none] n Q X := people_ok hw.1 fun w h0 h1 => hk _ _ (hw.2 w h0 h1)
def w__law_list (m : Int) (n : Nat) (K : List Int → Nat → Prop) : Prop := (0 ≤ m ∧ m ≤ 16 ∧ n ≤ 900000) ∧ ∀ r, Rank m.toNat r → K r (n + m.toNat)
theorem okW__law_list {K : List Int → Nat → Prop} (m : Int) (hw : w__law_list m n K) (hk : ∀ r k, K r k → Q (eQ .int r) k) : F__law_list [.none, .int m] n Q X := by
  obtain ⟨⟨h0, h1, h2⟩, h3⟩ := hw
  obtain ⟨k, rfl⟩ := Int.eq_ofNat_of_zero_le h0
  exact list_ok16 (by omega) (by omega) fun r hr => hk _ _ (by simpa using h3 r (by simpa using hr))
end
end TR
namespace TR
open PySem PySem.Spec PyProof.Rows L2
end TR
namespace TR
open PySem PySem.Spec PyProof.Rows L2
set_option maxHeartbeats 4000000 in
def w__law_road_s5 (k5_ : ((List (List Int)) × (List (List Int))) → Nat → Prop) (a1 : Int) (a2 : Int) (b3 : (List (List Int))) (b4 : (List (List Int))) (b6 : (List Int)) (b8 : (List (List Int))) (b9 : (List Int)) (n : Nat) (K : (List (List Int)) → Nat → Prop) : Prop := (((!b9.isEmpty) = true → (w__law_one b9 n fun (r17_ : Int) (n18_ : Nat) => ((Ixr b8 r17_ ∧ b4.length < sizeLine) ∧ ((C__law_exchanged b6 r17_ ∧ b3.length < sizeLine) ∧ (k5_ ((b3 ++ [(v__law_exchanged b6 r17_)]), (b4 ++ [(gt b8 r17_)])) n18_))))) ∧ ((!b9.isEmpty) = false → (k5_ (b3, b4) n)))
def nb__law_road_s5 : AST := (sIf (tV (a2 vNeE (oVar 9) (oV (aLst lNil))))
    (sSeq (sSet 7 (aCall [.deck, .bor] (calm F__law_one) (lCons (oVar 0) (lCons (oVar 9) lNil))))
    (sSeq (sDrop (aMut mApp 4 (lCons (oV (a2 vIx (oVar 8) (oVar 7))) lNil)))
    (sDrop (aMut mApp 3 (lCons (oV (aCall0 [.dat, .dat] (calm F__law_exchanged) (lCons (oV (aVar 6)) (lCons (oV (aVar 7)) lNil)))) lNil)))))
    sNx)
set_option maxHeartbeats 4000000 in
theorem okW__law_road_s5 {xp : XP} {D : AEnds} {n : Nat} {K : (List (List Int)) → Nat → Prop} {N BK : AS → Prop} (k5_ : ((List (List Int)) × (List (List Int))) → Nat → Prop) (a1 : Int) (a2 : Int) (b3 : (List (List Int))) (b4 : (List (List Int))) (b6 : (List Int)) (b8 : (List (List Int))) (b9 : (List Int)) (y5 : Option AV) (jdy7 : Option PyData) (hw : w__law_road_s5 k5_ a1 a2 b3 b4 b6 b8 b9 n K) (hN7_ : ∀ w n s, (fun (w3_ : (List (List Int)) × (List (List Int))) (n6_ : Nat) (s : AS) => ∃ (q10_5 : Option AV) (q10_6 : Option AV) (jdq10_7 : Option PyData) (q10_8 : Option AV) (q10_9 : Option AV), s = ⟨[some .deck, some (.dat (PyData.int a1)), some (.dat (PyData.int a2)), some (.own (w3_.1.map (eQ PyData.int))), some (.own (w3_.2.map (eQ PyData.int))), q10_5, q10_6, (jdq10_7.map AV.dat), q10_8, q10_9], n6_⟩) w n s → k5_ w n → N s) (hk : ∀ r k, K r k → D.rt (eL (eQ PyData.int) r) k) : nb__law_road_s5 xp { D with nx := N, ct := N, bk := BK } ⟨[some .deck, some (.dat (PyData.int a1)), some (.dat (PyData.int a2)), some (.own (b3.map (eQ PyData.int))), some (.own (b4.map (eQ PyData.int))), y5, some (.dat (eQ PyData.int b6)), (jdy7.map AV.dat), some (.dat (eL (eQ PyData.int) b8)), some (.dat (eL PyData.int b9))], n⟩ := by
  unfold w__law_road_s5 at hw; unfold nb__law_road_s5
  exact (s_if (g_tv (tv_V (ev_a2 (ov_dat 9 rfl) (ov_V (ev_lst lv_nil (fun _ q => q) rfl)) rfl rfl (vf_neEL (f := PyData.int) (g := PyData.int)))) (g_ite (fun h16_ => (c_seq (s_set (g_call (g_lcons (g_ov (ov_deck 0 rfl) (g_lcons (g_ov (ov_dat 9 rfl) (g_lnil (g_rm (fun _ q => q) (okW__law_one PyData.int b9 (hw.1 h16_) (fun r17_ n18_ hw19_ => (n_st (s' := ⟨[some .deck, some (.dat (PyData.int a1)), some (.dat (PyData.int a2)), some (.own (b3.map (eQ PyData.int))), some (.own (b4.map (eQ PyData.int))), y5, some (.dat (eQ PyData.int b6)), some (.dat (PyData.int r17_)), some (.dat (eL (eQ PyData.int) b8)), some (.dat (eL PyData.int b9))], n18_⟩) rfl (c_aft (c_seq (c_drop (ev_app (f := (eQ PyData.int)) (l := b4) (x := (gt b8 r17_)) rfl (lv_cons (ov_V (ev_a2 (ov_dat 8 rfl) (ov_dat 7 rfl) rfl rfl (vf_ixL (f := (eQ PyData.int)) hw19_.1.1))) lv_nil) rfl (fun _ q => q) rfl hw19_.1.2) (c_aft (c_drop (ev_app (f := (eQ PyData.int)) (l := b3) (x := (v__law_exchanged b6 r17_)) rfl (lv_cons (ov_V (ev_call0 (lv_cons (ov_V (ev_var 6 rfl)) (lv_cons (ov_V (ev_var 7 rfl)) lv_nil)) (fun _ q => q) (okV__law_exchanged b6 r17_ hw19_.2.1.1))) lv_nil) rfl (fun _ q => q) rfl hw19_.2.1.2) (hN7_ ((b3 ++ [(v__law_exchanged b6 r17_)]), (b4 ++ [(gt b8 r17_)])) n18_ _ ⟨y5, some (.dat (eQ PyData.int b6)), (some (PyData.int r17_)), some (.dat (eL (eQ PyData.int) b8)), some (.dat (eL PyData.int b9)), rfl⟩ hw19_.2.2))))))))))))))))))) (fun h16_ => (c_pass (hN7_ (b3, b4) n _ ⟨y5, some (.dat (eQ PyData.int b6)), jdy7, some (.dat (eL (eQ PyData.int) b8)), some (.dat (eL PyData.int b9)), rfl⟩ (hw.2 h16_)))))))
set_option maxHeartbeats 4000000 in
def w__law_road_s4 (k5_ : ((List (List Int)) × (List (List Int))) → Nat → Prop) (a1 : Int) (a2 : Int) (b3 : (List (List Int))) (b4 : (List (List Int))) (b6 : (List Int)) (b8 : (List (List Int))) (n : Nat) (K : (List (List Int)) → Nat → Prop) : Prop := ((Rg (a1 - (1 : Int)) ∧ (irange 0 (a1 - (1 : Int))).length ≤ sizeLine ∧ (∀ x13_ ∈ (irange 0 (a1 - (1 : Int))), Ixr b8 x13_)) ∧ (w__law_road_s5 k5_ a1 a2 b3 b4 b6 b8 (((irange 0 (a1 - (1 : Int))).filter fun x13_ : Int => (!memB (gt b8 x13_) b4)).map fun x13_ : Int => x13_) n K))
def nb__law_road_s4 : AST := (sSeq (sSet 9 (aLc (iRange1 (lCons (oV (a2 vSub (oVar 1) (oV (aC (.int 1))))) lNil)) (bNm 7) (tV (a2 vNotIn (oV (a2 vIx (oVar 8) (oVar 7))) (oVar 4))) (aVar 7) [7]))
    (sIf (tV (a2 vNeE (oVar 9) (oV (aLst lNil))))
    (sSeq (sSet 7 (aCall [.deck, .bor] (calm F__law_one) (lCons (oVar 0) (lCons (oVar 9) lNil))))
    (sSeq (sDrop (aMut mApp 4 (lCons (oV (a2 vIx (oVar 8) (oVar 7))) lNil)))
    (sDrop (aMut mApp 3 (lCons (oV (aCall0 [.dat, .dat] (calm F__law_exchanged) (lCons (oV (aVar 6)) (lCons (oV (aVar 7)) lNil)))) lNil)))))
    sNx))
set_option maxHeartbeats 4000000 in
theorem okW__law_road_s4 {xp : XP} {D : AEnds} {n : Nat} {K : (List (List Int)) → Nat → Prop} {N BK : AS → Prop} (k5_ : ((List (List Int)) × (List (List Int))) → Nat → Prop) (a1 : Int) (a2 : Int) (b3 : (List (List Int))) (b4 : (List (List Int))) (b6 : (List Int)) (b8 : (List (List Int))) (y5 : Option AV) (jdy7 : Option PyData) (y9 : Option AV) (hw : w__law_road_s4 k5_ a1 a2 b3 b4 b6 b8 n K) (hN7_ : ∀ w n s, (fun (w3_ : (List (List Int)) × (List (List Int))) (n6_ : Nat) (s : AS) => ∃ (q10_5 : Option AV) (q10_6 : Option AV) (jdq10_7 : Option PyData) (q10_8 : Option AV) (q10_9 : Option AV), s = ⟨[some .deck, some (.dat (PyData.int a1)), some (.dat (PyData.int a2)), some (.own (w3_.1.map (eQ PyData.int))), some (.own (w3_.2.map (eQ PyData.int))), q10_5, q10_6, (jdq10_7.map AV.dat), q10_8, q10_9], n6_⟩) w n s → k5_ w n → N s) (hk : ∀ r k, K r k → D.rt (eL (eQ PyData.int) r) k) : nb__law_road_s4 xp { D with nx := N, ct := N, bk := BK } ⟨[some .deck, some (.dat (PyData.int a1)), some (.dat (PyData.int a2)), some (.own (b3.map (eQ PyData.int))), some (.own (b4.map (eQ PyData.int))), y5, some (.dat (eQ PyData.int b6)), (jdy7.map AV.dat), some (.dat (eL (eQ PyData.int) b8)), y9], n⟩ := by
  unfold w__law_road_s4 at hw; unfold nb__law_road_s4
  exact (c_seq (s_set (g_ev (ev_lcF PyData.int (fun x13_ : Int => (!memB (gt b8 x13_) b4)) PyData.int (fun x13_ : Int => x13_) (fun x13_ : Int => (⟨[some .deck, some (.dat (PyData.int a1)), some (.dat (PyData.int a2)), some (.own (b3.map (eQ PyData.int))), some (.own (b4.map (eQ PyData.int))), y5, some (.dat (eQ PyData.int b6)), some (.dat (PyData.int x13_)), some (.dat (eL (eQ PyData.int) b8)), y9], n⟩ : AS)) (fun x13_ : Int => (⟨[some .deck, some (.dat (PyData.int a1)), some (.dat (PyData.int a2)), some (.own (b3.map (eQ PyData.int))), some (.own (b4.map (eQ PyData.int))), y5, some (.dat (eQ PyData.int b6)), some (.dat (PyData.int x13_)), some (.dat (eL (eQ PyData.int) b8)), y9], n⟩ : AS)) (iv_range1 (lv_cons (ov_V (ev_a2 (ov_dat 1 rfl) (ov_V ev_c) rfl rfl vf_subI)) lv_nil) (fun _ q => q) hw.1.1) hw.1.2.1 rfl True.intro (fun x13_ hx14_ => ((bv_nm 7).to rfl)) (fun x13_ hx14_ => (tv_V (ev_a2 (ov_V (ev_a2 (ov_dat 8 rfl) (ov_dat 7 rfl) rfl rfl (vf_ixL (f := (eQ PyData.int)) (hw.1.2.2 x13_ hx14_)))) (ov_own 4 rfl) rfl rfl (vf_ninL (f := (eQ PyData.int)) (lw_Q lw_I) (sh_Q (sh_I (k := 0))) rfl rfl)))) (fun x13_ hx14_ h15_ => (ev_var 7 rfl)) (fun _ _ => ⟨(by cases jdy7 <;> rfl), (by cases jdy7 <;> rfl)⟩)) (n_st (s' := ⟨[some .deck, some (.dat (PyData.int a1)), some (.dat (PyData.int a2)), some (.own (b3.map (eQ PyData.int))), some (.own (b4.map (eQ PyData.int))), y5, some (.dat (eQ PyData.int b6)), (jdy7.map AV.dat), some (.dat (eL (eQ PyData.int) b8)), some (.dat (eL PyData.int (((irange 0 (a1 - (1 : Int))).filter fun x13_ : Int => (!memB (gt b8 x13_) b4)).map fun x13_ : Int => x13_)))], n⟩) rfl (c_aft (okW__law_road_s5 k5_ a1 a2 b3 b4 b6 b8 (((irange 0 (a1 - (1 : Int))).filter fun x13_ : Int => (!memB (gt b8 x13_) b4)).map fun x13_ : Int => x13_) (y5) (jdy7) hw.2 hN7_ hk))))))
set_option maxHeartbeats 4000000 in
def w__law_road_s3 (k5_ : ((List (List Int)) × (List (List Int))) → Nat → Prop) (a1 : Int) (a2 : Int) (b3 : (List (List Int))) (b4 : (List (List Int))) (b6 : (List Int)) (n : Nat) (K : (List (List Int)) → Nat → Prop) : Prop := ((Rg (a1 - (1 : Int)) ∧ (irange 0 (a1 - (1 : Int))).length ≤ sizeLine) ∧ (w__law_road_s4 k5_ a1 a2 b3 b4 b6 ((irange 0 (a1 - (1 : Int))).map fun x11_ : Int => (isort (cutN b6 (some x11_) (some (x11_ + (2 : Int)))))) n K))
def nb__law_road_s3 : AST := (sSeq (sSet 8 (aLc (iRange1 (lCons (oV (a2 vSub (oVar 1) (oV (aC (.int 1))))) lNil)) (bNm 7) tYesA (aBlt fTuple (lCons (oV (aBlt fSorted (lCons (oV (aSl (oVar 6) (ptSome (aVar 7)) (ptSome (a2 vAdd (oVar 7) (oV (aC (.int 2))))))) lNil))) lNil)) [7]))
    (sSeq (sSet 9 (aLc (iRange1 (lCons (oV (a2 vSub (oVar 1) (oV (aC (.int 1))))) lNil)) (bNm 7) (tV (a2 vNotIn (oV (a2 vIx (oVar 8) (oVar 7))) (oVar 4))) (aVar 7) [7]))
    (sIf (tV (a2 vNeE (oVar 9) (oV (aLst lNil))))
    (sSeq (sSet 7 (aCall [.deck, .bor] (calm F__law_one) (lCons (oVar 0) (lCons (oVar 9) lNil))))
    (sSeq (sDrop (aMut mApp 4 (lCons (oV (a2 vIx (oVar 8) (oVar 7))) lNil)))
    (sDrop (aMut mApp 3 (lCons (oV (aCall0 [.dat, .dat] (calm F__law_exchanged) (lCons (oV (aVar 6)) (lCons (oV (aVar 7)) lNil)))) lNil)))))
    sNx)))
set_option maxHeartbeats 4000000 in
theorem okW__law_road_s3 {xp : XP} {D : AEnds} {n : Nat} {K : (List (List Int)) → Nat → Prop} {N BK : AS → Prop} (k5_ : ((List (List Int)) × (List (List Int))) → Nat → Prop) (a1 : Int) (a2 : Int) (b3 : (List (List Int))) (b4 : (List (List Int))) (b6 : (List Int)) (y5 : Option AV) (jdy7 : Option PyData) (y8 : Option AV) (y9 : Option AV) (hw : w__law_road_s3 k5_ a1 a2 b3 b4 b6 n K) (hN7_ : ∀ w n s, (fun (w3_ : (List (List Int)) × (List (List Int))) (n6_ : Nat) (s : AS) => ∃ (q10_5 : Option AV) (q10_6 : Option AV) (jdq10_7 : Option PyData) (q10_8 : Option AV) (q10_9 : Option AV), s = ⟨[some .deck, some (.dat (PyData.int a1)), some (.dat (PyData.int a2)), some (.own (w3_.1.map (eQ PyData.int))), some (.own (w3_.2.map (eQ PyData.int))), q10_5, q10_6, (jdq10_7.map AV.dat), q10_8, q10_9], n6_⟩) w n s → k5_ w n → N s) (hk : ∀ r k, K r k → D.rt (eL (eQ PyData.int) r) k) : nb__law_road_s3 xp { D with nx := N, ct := N, bk := BK } ⟨[some .deck, some (.dat (PyData.int a1)), some (.dat (PyData.int a2)), some (.own (b3.map (eQ PyData.int))), some (.own (b4.map (eQ PyData.int))), y5, some (.dat (eQ PyData.int b6)), (jdy7.map AV.dat), y8, y9], n⟩ := by
  unfold w__law_road_s3 at hw; unfold nb__law_road_s3
  exact (c_seq (s_set (g_ev (ev_lcM PyData.int (eQ PyData.int) (fun x11_ : Int => (isort (cutN b6 (some x11_) (some (x11_ + (2 : Int)))))) (fun x11_ : Int => (⟨[some .deck, some (.dat (PyData.int a1)), some (.dat (PyData.int a2)), some (.own (b3.map (eQ PyData.int))), some (.own (b4.map (eQ PyData.int))), y5, some (.dat (eQ PyData.int b6)), some (.dat (PyData.int x11_)), y8, y9], n⟩ : AS)) (fun x11_ : Int => (⟨[some .deck, some (.dat (PyData.int a1)), some (.dat (PyData.int a2)), some (.own (b3.map (eQ PyData.int))), some (.own (b4.map (eQ PyData.int))), y5, some (.dat (eQ PyData.int b6)), some (.dat (PyData.int x11_)), y8, y9], n⟩ : AS)) (iv_range1 (lv_cons (ov_V (ev_a2 (ov_dat 1 rfl) (ov_V ev_c) rfl rfl vf_subI)) lv_nil) (fun _ q => q) hw.1.1) hw.1.2 rfl True.intro (fun x11_ hx12_ => ((bv_nm 7).to rfl)) (fun x11_ hx12_ => (ev_blt (lv_cons (ov_V (ev_blt (lv_cons (ov_V (ev_slQ (f := PyData.int) (ov_dat 6 rfl) (pv_s (ev_var 7 rfl)) (pv_s (ev_a2 (ov_dat 7 rfl) (ov_V ev_c) rfl rfl vf_addI)) rfl)) lv_nil) (rsl_cons rfl (fun _ q => q)) fv_sortedQ)) lv_nil) (rsl_cons rfl (fun _ q => q)) (fv_tupleL (f := PyData.int)))) (fun _ _ => ⟨(by cases jdy7 <;> rfl), (by cases jdy7 <;> rfl)⟩)) (n_st (s' := ⟨[some .deck, some (.dat (PyData.int a1)), some (.dat (PyData.int a2)), some (.own (b3.map (eQ PyData.int))), some (.own (b4.map (eQ PyData.int))), y5, some (.dat (eQ PyData.int b6)), (jdy7.map AV.dat), some (.dat (eL (eQ PyData.int) ((irange 0 (a1 - (1 : Int))).map fun x11_ : Int => (isort (cutN b6 (some x11_) (some (x11_ + (2 : Int)))))))), y9], n⟩) rfl (c_aft (okW__law_road_s4 k5_ a1 a2 b3 b4 b6 ((irange 0 (a1 - (1 : Int))).map fun x11_ : Int => (isort (cutN b6 (some x11_) (some (x11_ + (2 : Int)))))) (y5) (jdy7) (y9) hw.2 hN7_ hk))))))
set_option maxHeartbeats 4000000 in
def w__law_road_s2 (a1 : Int) (a2 : Int) (a3 : (List (List Int))) (a4 : (List (List Int))) (n : Nat) (K : (List (List Int)) → Nat → Prop) : Prop := (Rg a2 ∧ (forW (fun (k5_ : ((List (List Int)) × (List (List Int))) → Nat → Prop) (x4_ : Int) (w3_ : (List (List Int)) × (List (List Int))) (n6_ : Nat) => (w3_.1 ≠ [] ∧ (w__law_road_s3 k5_ a1 a2 w3_.1 w3_.2 (gl w3_.1) n6_ K))) (fun (w3_ : (List (List Int)) × (List (List Int))) (n6_ : Nat) => (K w3_.1 n6_)) (irange 0 a2) (a3, a4) n))
def nb__law_road_s2 : AST := (sSeq (sFor (iRange1 (lCons (oVar 2) lNil)) (bNm 5)
    (sSeq (sSet 6 (a2 vIx (oVar 3) (oV (aNeg (oV (aC (.int 1)))))))
    (sSeq (sSet 8 (aLc (iRange1 (lCons (oV (a2 vSub (oVar 1) (oV (aC (.int 1))))) lNil)) (bNm 7) tYesA (aBlt fTuple (lCons (oV (aBlt fSorted (lCons (oV (aSl (oVar 6) (ptSome (aVar 7)) (ptSome (a2 vAdd (oVar 7) (oV (aC (.int 2))))))) lNil))) lNil)) [7]))
    (sSeq (sSet 9 (aLc (iRange1 (lCons (oV (a2 vSub (oVar 1) (oV (aC (.int 1))))) lNil)) (bNm 7) (tV (a2 vNotIn (oV (a2 vIx (oVar 8) (oVar 7))) (oVar 4))) (aVar 7) [7]))
    (sIf (tV (a2 vNeE (oVar 9) (oV (aLst lNil))))
    (sSeq (sSet 7 (aCall [.deck, .bor] (calm F__law_one) (lCons (oVar 0) (lCons (oVar 9) lNil))))
    (sSeq (sDrop (aMut mApp 4 (lCons (oV (a2 vIx (oVar 8) (oVar 7))) lNil)))
    (sDrop (aMut mApp 3 (lCons (oV (aCall0 [.dat, .dat] (calm F__law_exchanged) (lCons (oV (aVar 6)) (lCons (oV (aVar 7)) lNil)))) lNil)))))
    sNx)))))
    (sRetV 3))
set_option maxHeartbeats 4000000 in
theorem okW__law_road_s2 {xp : XP} {D : AEnds} {n : Nat} {K : (List (List Int)) → Nat → Prop} (a1 : Int) (a2 : Int) (a3 : (List (List Int))) (a4 : (List (List Int)))  (hw : w__law_road_s2 a1 a2 a3 a4 n K) (hk : ∀ r k, K r k → D.rt (eL (eQ PyData.int) r) k) : nb__law_road_s2 xp D ⟨[some .deck, some (.dat (PyData.int a1)), some (.dat (PyData.int a2)), some (.own (a3.map (eQ PyData.int))), some (.own (a4.map (eQ PyData.int))), none, none, none, none, none], n⟩ := by
  unfold w__law_road_s2 at hw; unfold nb__law_road_s2
  exact (c_seq (s_for PyData.int (fun (w3_ : (List (List Int)) × (List (List Int))) (n6_ : Nat) (s : AS) => ∃ (q10_5 : Option AV) (q10_6 : Option AV) (jdq10_7 : Option PyData) (q10_8 : Option AV) (q10_9 : Option AV), s = ⟨[some .deck, some (.dat (PyData.int a1)), some (.dat (PyData.int a2)), some (.own (w3_.1.map (eQ PyData.int))), some (.own (w3_.2.map (eQ PyData.int))), q10_5, q10_6, (jdq10_7.map AV.dat), q10_8, q10_9], n6_⟩) (iv_range1 (lv_cons (ov_dat 2 rfl) lv_nil) (fun _ q => q) hw.1) ⟨none, none, none, none, none, rfl⟩ hw.2 (fun x4_ w3_ n6_ s_ k5_ N_ hi_ hw8_ hN7_ => by
    obtain ⟨q10_5, q10_6, jdq10_7, q10_8, q10_9, e_⟩ := hi_
    subst e_
    exact (g_bv ((bv_nm 5).to rfl) (c_seq (s_set (g_ev (ev_a2 (ov_own 3 rfl) (ov_V ev_neg1) rfl rfl (vf_ixLl (f := (eQ PyData.int)) hw8_.1)) (n_st (s' := ⟨[some .deck, some (.dat (PyData.int a1)), some (.dat (PyData.int a2)), some (.own (w3_.1.map (eQ PyData.int))), some (.own (w3_.2.map (eQ PyData.int))), some (.dat (PyData.int x4_)), some (.dat (eQ PyData.int (gl w3_.1))), (jdq10_7.map AV.dat), q10_8, q10_9], n6_⟩) rfl (c_aft (okW__law_road_s3 k5_ a1 a2 w3_.1 w3_.2 (gl w3_.1) (some (.dat (PyData.int x4_))) (jdq10_7) (q10_8) (q10_9) hw8_.2 hN7_ hk)))))))) (fun w3_ n6_ s_ hi_ ha9_ => by
    obtain ⟨q10_5, q10_6, jdq10_7, q10_8, q10_9, e_⟩ := hi_
    subst e_
    exact (c_aft (c_retVO 3 rfl (hk w3_.1 n6_ ha9_))))))
set_option maxHeartbeats 4000000 in
def w__law_road_s1 (a1 : Int) (a2 : Int) (a3 : (List (List Int))) (n : Nat) (K : (List (List Int)) → Nat → Prop) : Prop := (w__law_road_s2 a1 a2 a3 [] n K)
def nb__law_road_s1 : AST := (sSeq (sSetO 4 (aLst lNil))
    (sSeq (sFor (iRange1 (lCons (oVar 2) lNil)) (bNm 5)
    (sSeq (sSet 6 (a2 vIx (oVar 3) (oV (aNeg (oV (aC (.int 1)))))))
    (sSeq (sSet 8 (aLc (iRange1 (lCons (oV (a2 vSub (oVar 1) (oV (aC (.int 1))))) lNil)) (bNm 7) tYesA (aBlt fTuple (lCons (oV (aBlt fSorted (lCons (oV (aSl (oVar 6) (ptSome (aVar 7)) (ptSome (a2 vAdd (oVar 7) (oV (aC (.int 2))))))) lNil))) lNil)) [7]))
    (sSeq (sSet 9 (aLc (iRange1 (lCons (oV (a2 vSub (oVar 1) (oV (aC (.int 1))))) lNil)) (bNm 7) (tV (a2 vNotIn (oV (a2 vIx (oVar 8) (oVar 7))) (oVar 4))) (aVar 7) [7]))
    (sIf (tV (a2 vNeE (oVar 9) (oV (aLst lNil))))
    (sSeq (sSet 7 (aCall [.deck, .bor] (calm F__law_one) (lCons (oVar 0) (lCons (oVar 9) lNil))))
    (sSeq (sDrop (aMut mApp 4 (lCons (oV (a2 vIx (oVar 8) (oVar 7))) lNil)))
    (sDrop (aMut mApp 3 (lCons (oV (aCall0 [.dat, .dat] (calm F__law_exchanged) (lCons (oV (aVar 6)) (lCons (oV (aVar 7)) lNil)))) lNil)))))
    sNx)))))
    (sRetV 3)))
set_option maxHeartbeats 4000000 in
theorem okW__law_road_s1 {xp : XP} {D : AEnds} {n : Nat} {K : (List (List Int)) → Nat → Prop} (a1 : Int) (a2 : Int) (a3 : (List (List Int)))  (hw : w__law_road_s1 a1 a2 a3 n K) (hk : ∀ r k, K r k → D.rt (eL (eQ PyData.int) r) k) : nb__law_road_s1 xp D ⟨[some .deck, some (.dat (PyData.int a1)), some (.dat (PyData.int a2)), some (.own (a3.map (eQ PyData.int))), none, none, none, none, none, none], n⟩ := by
  unfold w__law_road_s1 at hw; unfold nb__law_road_s1
  exact (c_seq (s_setO (g_ev (ev_lst lv_nil (fun _ q => q) rfl) (n_st (s' := ⟨[some .deck, some (.dat (PyData.int a1)), some (.dat (PyData.int a2)), some (.own (a3.map (eQ PyData.int))), some (.own ([].map (eQ PyData.int))), none, none, none, none, none], n⟩) rfl (c_aft (okW__law_road_s2 a1 a2 a3 []  hw hk))))))
set_option maxHeartbeats 4000000 in
def w__law_road (a1 : Int) (a2 : Int) (n : Nat) (K : (List (List Int)) → Nat → Prop) : Prop := (w__law_list a1 n fun (r1_ : (List Int)) (n2_ : Nat) => (w__law_road_s1 a1 a2 [r1_] n2_ K))
def nb__law_road : AST := (sSeq (sSetO 3 (aLst (lCons (oV (aCall [.deck, .dat] (calm F__law_list) (lCons (oVar 0) (lCons (oV (aVar 1)) lNil)))) lNil)))
    (sSeq (sSetO 4 (aLst lNil))
    (sSeq (sFor (iRange1 (lCons (oVar 2) lNil)) (bNm 5)
    (sSeq (sSet 6 (a2 vIx (oVar 3) (oV (aNeg (oV (aC (.int 1)))))))
    (sSeq (sSet 8 (aLc (iRange1 (lCons (oV (a2 vSub (oVar 1) (oV (aC (.int 1))))) lNil)) (bNm 7) tYesA (aBlt fTuple (lCons (oV (aBlt fSorted (lCons (oV (aSl (oVar 6) (ptSome (aVar 7)) (ptSome (a2 vAdd (oVar 7) (oV (aC (.int 2))))))) lNil))) lNil)) [7]))
    (sSeq (sSet 9 (aLc (iRange1 (lCons (oV (a2 vSub (oVar 1) (oV (aC (.int 1))))) lNil)) (bNm 7) (tV (a2 vNotIn (oV (a2 vIx (oVar 8) (oVar 7))) (oVar 4))) (aVar 7) [7]))
    (sIf (tV (a2 vNeE (oVar 9) (oV (aLst lNil))))
    (sSeq (sSet 7 (aCall [.deck, .bor] (calm F__law_one) (lCons (oVar 0) (lCons (oVar 9) lNil))))
    (sSeq (sDrop (aMut mApp 4 (lCons (oV (a2 vIx (oVar 8) (oVar 7))) lNil)))
    (sDrop (aMut mApp 3 (lCons (oV (aCall0 [.dat, .dat] (calm F__law_exchanged) (lCons (oV (aVar 6)) (lCons (oV (aVar 7)) lNil)))) lNil)))))
    sNx)))))
    (sRetV 3))))
set_option maxHeartbeats 4000000 in
theorem okW__law_road_b {xp : XP} {D : AEnds} {n : Nat} {K : (List (List Int)) → Nat → Prop} (a1 : Int) (a2 : Int)  (hw : w__law_road a1 a2 n K) (hk : ∀ r k, K r k → D.rt (eL (eQ PyData.int) r) k) : nb__law_road xp D ⟨[some .deck, some (.dat (PyData.int a1)), some (.dat (PyData.int a2)), none, none, none, none, none, none, none], n⟩ := by
  unfold w__law_road at hw; unfold nb__law_road
  exact (c_seq (s_setO (g_lst (g_lcons (g_V (g_call (g_lcons (g_ov (ov_deck 0 rfl) (g_lcons (g_ov (ov_V (ev_var 1 rfl)) (g_lnil (g_rm (fun _ q => q) (okW__law_list a1 hw (fun r1_ n2_ hw20_ => (g_lnil (g_rv (fun _ q => q) ⟨g_sz rfl, (n_st (s' := ⟨[some .deck, some (.dat (PyData.int a1)), some (.dat (PyData.int a2)), some (.own ([r1_].map (eQ PyData.int))), none, none, none, none, none, none], n2_⟩) rfl (c_aft (okW__law_road_s1 a1 a2 [r1_]  hw20_ hk)))⟩))))))))))))))))
theorem okW__law_road {n : Nat} {Q : PyData → Nat → Prop} {X : XD → Nat → Prop} {K : (List (List Int)) → Nat → Prop} (a1 : Int) (a2 : Int) (hw : w__law_road a1 a2 n K) (hk : ∀ r k, K r k → Q (eL (eQ PyData.int) r) k) : F__law_road [PyData.none, (PyData.int a1), (PyData.int a2)] n Q X := by
  unfold F__law_road
  exact okW__law_road_b (xp := fun x s => X x s.n) (D := { nx := fun s => Q .none s.n, rt := Q }) a1 a2 hw hk

set_option maxHeartbeats 4000000 in
def w__law_seated (a1 : Int) (a2 : Int) (n : Nat) (K : (Int × (List ((List Int) × Int))) → Nat → Prop) : Prop := (w__law_next (3 : Int) n fun (r1_ : Int) (n2_ : Nat) => (Ixr [(2 : Int), (5 : Int), (28 : Int)] r1_ ∧ (w__law_road a1 (gt [(2 : Int), (5 : Int), (28 : Int)] r1_) n2_ fun (r3_ : (List (List Int))) (n4_ : Nat) => ((Rg a2 ∧ (irange 0 a2).length ≤ sizeLine) ∧ (lcW (fun (x5_ : Int) (n7_ : Nat) (K8_ : ((List Int) × Int) → Nat → Prop) => (w__law_one r3_ n7_ fun (r15_ : (List Int)) (n16_ : Nat) => (w__law_people  n16_ fun (r17_ : Int) (n18_ : Nat) => (K8_ (r15_, r17_) n18_)))) (irange 0 a2) [] n4_ fun (ys12_ : List ((List Int) × Int)) (n13_ : Nat) => (K (a1, ys12_) n13_))))))
def nb__law_seated : AST := (sSeq (sSet 3 (aCall [.deck, .dat, .dat] (calm F__law_road) (lCons (oVar 0) (lCons (oV (aVar 1)) (lCons (oV (a2 vIx (oV (aLst (lCons (oV (aC (.int 2))) (lCons (oV (aC (.int 5))) (lCons (oV (aC (.int 28))) lNil))))) (oV (aCall [.deck, .dat] (calm F__law_next) (lCons (oVar 0) (lCons (oV (aC (.int 3))) lNil)))))) lNil)))))
    (sRet (aTup (lCons (oV (aVar 1)) (lCons (oV (aBlt fTuple (lCons (oV (aLc (iRange1 (lCons (oVar 2) lNil)) (bNm 4) tYesA (aTup (lCons (oV (aCall [.deck, .bor] (calm F__law_one) (lCons (oVar 0) (lCons (oVar 3) lNil)))) (lCons (oV (aCall [.deck] (calm F__law_people) (lCons (oVar 0) lNil))) lNil))) [4])) lNil))) lNil)))))
set_option maxHeartbeats 4000000 in
theorem okW__law_seated_b {xp : XP} {D : AEnds} {n : Nat} {K : (Int × (List ((List Int) × Int))) → Nat → Prop} (a1 : Int) (a2 : Int)  (hw : w__law_seated a1 a2 n K) (hk : ∀ r k, K r k → D.rt (eP PyData.int (eQ (eP (eQ PyData.int) PyData.int)) r) k) : nb__law_seated xp D ⟨[some .deck, some (.dat (PyData.int a1)), some (.dat (PyData.int a2)), none, none], n⟩ := by
  unfold w__law_seated at hw; unfold nb__law_seated
  exact (c_seq (s_set (g_call (g_lcons (g_ov (ov_deck 0 rfl) (g_lcons (g_ov (ov_V (ev_var 1 rfl)) (g_lcons (g_V (g_a2 (g_ov (ov_V (ev_lst (lv_cons (ov_V ev_c) (lv_cons (ov_V ev_c) (lv_cons (ov_V ev_c) lv_nil))) (fun _ q => q) rfl)) (g_V (g_call (g_lcons (g_ov (ov_deck 0 rfl) (g_lcons (g_ov (ov_V ev_c) (g_lnil (g_rm (fun _ q => q) (okW__law_next (3 : Int) hw (fun r1_ n2_ hw22_ => (g_op rfl rfl (vf_ixL (f := PyData.int) hw22_.1) (g_lnil (g_rm (fun _ q => q) (okW__law_road a1 (gt [(2 : Int), (5 : Int), (28 : Int)] r1_) hw22_.2 (fun r3_ n4_ hw21_ => (n_st (s' := ⟨[some .deck, some (.dat (PyData.int a1)), some (.dat (PyData.int a2)), some (.dat (eL (eQ PyData.int) r3_)), none], n4_⟩) rfl (c_aft (s_ret (g_tup (g_lcons (g_ov (ov_V (ev_var 1 rfl)) (g_lcons (g_V (g_blt (g_lcons (g_V (g_lc PyData.int (eP (eQ PyData.int) PyData.int) (fun n11_ => (⟨[some .deck, some (.dat (PyData.int a1)), some (.dat (PyData.int a2)), some (.dat (eL (eQ PyData.int) r3_)), none], n11_⟩ : AS)) (fun (x5_ : Int) (n11_ : Nat) => (⟨[some .deck, some (.dat (PyData.int a1)), some (.dat (PyData.int a2)), some (.dat (eL (eQ PyData.int) r3_)), some (.dat (PyData.int x5_))], n11_⟩ : AS)) (iv_range1 (lv_cons (ov_dat 2 rfl) lv_nil) (fun _ q => q) hw21_.1.1) rfl (fun _ => True.intro) hw21_.1.2 (fun x5_ hx6_ n7_ K8_ hw10_ _ hK9_ => (g_bv ((bv_nm 4).to rfl) (g_tup (g_lcons (g_V (g_call (g_lcons (g_ov (ov_deck 0 rfl) (g_lcons (g_ov (ov_dat 3 rfl) (g_lnil (g_rm (fun _ q => q) (okW__law_one (eQ PyData.int) r3_ hw10_ (fun r15_ n16_ hw20_ => (g_lcons (g_V (g_call (g_lcons (g_ov (ov_deck 0 rfl) (g_lnil (g_rm (fun _ q => q) (okW__law_people  hw20_ (fun r17_ n18_ hw19_ => (g_lnil (g_rv (fun _ q => q) ⟨g_sz rfl, (hK9_ (r15_, r17_) n18_ hw19_)⟩))))))))))))))))))))))))) (fun _ _ _ _ => rfl) hw21_.2 (fun ys12_ n13_ hw14_ => (g_lnil (g_rsl (rsl_cons rfl (fun _ q => q)) (g_fv (fv_tupleL (f := (eP (eQ PyData.int) PyData.int))) (g_lnil (g_rv (fun _ q => q) ⟨g_sz rfl, (hk (a1, ys12_) n13_ hw14_)⟩))))))))))))))))))))))))))))))))))))))))))))
theorem okW__law_seated {n : Nat} {Q : PyData → Nat → Prop} {X : XD → Nat → Prop} {K : (Int × (List ((List Int) × Int))) → Nat → Prop} (a1 : Int) (a2 : Int) (hw : w__law_seated a1 a2 n K) (hk : ∀ r k, K r k → Q (eP PyData.int (eQ (eP (eQ PyData.int) PyData.int)) r) k) : F__law_seated [PyData.none, (PyData.int a1), (PyData.int a2)] n Q X := by
  unfold F__law_seated
  exact okW__law_seated_b (xp := fun x s => X x s.n) (D := { nx := fun s => Q .none s.n, rt := Q }) a1 a2 hw hk

set_option maxHeartbeats 4000000 in
def w_law_s4 (k3_ : (Unit) → Nat → Prop) (b3 : (Int × (List ((List Int) × Int)))) (b4 : (List ((List Int) × Int))) (n : Nat) (K : Bool → Nat → Prop) : Prop := (((decide (((b4.length : Nat) : Int) < (9 : Int))) = true → (b4.length + b4.length ≤ sizeLine ∧ C__law_right (b3.1, (b4 ++ b4)))) ∧ ((((decide (((b4.length : Nat) : Int) < (9 : Int))) && (!(v__law_right (b3.1, (b4 ++ b4))))) = true → (K false n)) ∧ (((decide (((b4.length : Nat) : Int) < (9 : Int))) && (!(v__law_right (b3.1, (b4 ++ b4))))) = false → (k3_ () n))))
def nb_law_s4 : AST := (sIf (tAndA (tV (a2 vLt (oV (aBlt fLen (lCons (oVar 4) lNil))) (oV (aC (.int 9))))) (tNotA (tTruA (oV (aCall [.dat] (calm F__law_right) (lCons (oV (aTup (lCons (oV (a2 vIx (oVar 3) (oV (aC (.int 0))))) (lCons (oV (a2 vAdd (oVar 4) (oVar 4))) lNil)))) lNil))))))
    (sRet (aC (.bool false)))
    sNx)
set_option maxHeartbeats 4000000 in
theorem okW_law_s4 {xp : XP} {D : AEnds} {n : Nat} {K : Bool → Nat → Prop} {N BK : AS → Prop} (k3_ : (Unit) → Nat → Prop) (b3 : (Int × (List ((List Int) × Int)))) (b4 : (List ((List Int) × Int))) (y2 : Option AV) (hw : w_law_s4 k3_ b3 b4 n K) (hN5_ : ∀ w n s, (fun (w1_ : Unit) (n4_ : Nat) (s : AS) => ∃ (q8_2 : Option AV) (q8_3 : Option AV) (q8_4 : Option AV), s = ⟨[none, some .deck, q8_2, q8_3, q8_4, none, none], n4_⟩) w n s → k3_ w n → N s) (hk : ∀ r k, K r k → D.rt (PyData.bool r) k) : nb_law_s4 xp { D with nx := N, ct := N, bk := BK } ⟨[none, some .deck, y2, some (.dat (eP PyData.int (eQ (eP (eQ PyData.int) PyData.int)) b3)), some (.dat (eQ (eP (eQ PyData.int) PyData.int) b4)), none, none], n⟩ := by
  unfold w_law_s4 at hw; unfold nb_law_s4
  exact (s_if (g_tv (tv_and (tv_V (ev_a2 (ov_V (ev_blt (lv_cons (ov_dat 4 rfl) lv_nil) (rsl_cons rfl (fun _ q => q)) (fv_lenQ (f := (eP (eQ PyData.int) PyData.int))))) (ov_V ev_c) rfl rfl vf_ltI)) (fun h20_ => (tv_not (tv_tru (ov_V (ev_callG (lv_cons (ov_V (ev_tup (lv_cons (ov_V (ev_a2 (ov_dat 3 rfl) (ov_V ev_c) rfl rfl (vf_ixT at_0))) (lv_cons (ov_V (ev_a2 (ov_dat 4 rfl) (ov_dat 4 rfl) rfl rfl (vf_addQ (f := (eP (eQ PyData.int) PyData.int)) (hw.1 h20_).1))) lv_nil)) (fun _ q => q) rfl)) lv_nil) (fun _ q => q) (okV__law_right (b3.1, (b4 ++ b4)) (hw.1 h20_).2))) rfl tru_B)))) (g_ite (fun h21_ => (s_ret (g_ev ev_c (hk false n (hw.2.1 h21_))))) (fun h21_ => (c_pass (hN5_ () n _ ⟨y2, some (.dat (eP PyData.int (eQ (eP (eQ PyData.int) PyData.int)) b3)), some (.dat (eQ (eP (eQ PyData.int) PyData.int) b4)), rfl⟩ (hw.2.2 h21_)))))))
set_option maxHeartbeats 4000000 in
def w_law_s3 (k3_ : (Unit) → Nat → Prop) (b3 : (Int × (List ((List Int) × Int)))) (b4 : (List ((List Int) × Int))) (n : Nat) (K : Bool → Nat → Prop) : Prop := ((C__law_right (b3.1, b4) ∧ ((!(v__law_right (b3.1, b4))) = false → ((cutN b4 none (some (1 : Int))).length + (cutN b4 (some (-(1 : Int))) none).length ≤ sizeLine ∧ C__law_right (b3.1, ((cutN b4 none (some (1 : Int))) ++ (cutN b4 (some (-(1 : Int))) none)))))) ∧ ((((!(v__law_right (b3.1, b4))) || (!(v__law_right (b3.1, ((cutN b4 none (some (1 : Int))) ++ (cutN b4 (some (-(1 : Int))) none)))))) = true → (K false n)) ∧ (((!(v__law_right (b3.1, b4))) || (!(v__law_right (b3.1, ((cutN b4 none (some (1 : Int))) ++ (cutN b4 (some (-(1 : Int))) none)))))) = false → (w_law_s4 k3_ b3 b4 n K))))
def nb_law_s3 : AST := (sSeq (sIf (tOrA (tNotA (tTruA (oV (aCall [.dat] (calm F__law_right) (lCons (oV (aTup (lCons (oV (a2 vIx (oVar 3) (oV (aC (.int 0))))) (lCons (oV (aVar 4)) lNil)))) lNil))))) (tNotA (tTruA (oV (aCall [.dat] (calm F__law_right) (lCons (oV (aTup (lCons (oV (a2 vIx (oVar 3) (oV (aC (.int 0))))) (lCons (oV (a2 vAdd (oV (aSl (oVar 4) ptNone (ptSome (aC (.int 1))))) (oV (aSl (oVar 4) (ptSome (aNeg (oV (aC (.int 1))))) ptNone)))) lNil)))) lNil))))))
    (sRet (aC (.bool false)))
    sNx)
    (sIf (tAndA (tV (a2 vLt (oV (aBlt fLen (lCons (oVar 4) lNil))) (oV (aC (.int 9))))) (tNotA (tTruA (oV (aCall [.dat] (calm F__law_right) (lCons (oV (aTup (lCons (oV (a2 vIx (oVar 3) (oV (aC (.int 0))))) (lCons (oV (a2 vAdd (oVar 4) (oVar 4))) lNil)))) lNil))))))
    (sRet (aC (.bool false)))
    sNx))
set_option maxHeartbeats 4000000 in
theorem okW_law_s3 {xp : XP} {D : AEnds} {n : Nat} {K : Bool → Nat → Prop} {N BK : AS → Prop} (k3_ : (Unit) → Nat → Prop) (b3 : (Int × (List ((List Int) × Int)))) (b4 : (List ((List Int) × Int))) (y2 : Option AV) (hw : w_law_s3 k3_ b3 b4 n K) (hN5_ : ∀ w n s, (fun (w1_ : Unit) (n4_ : Nat) (s : AS) => ∃ (q8_2 : Option AV) (q8_3 : Option AV) (q8_4 : Option AV), s = ⟨[none, some .deck, q8_2, q8_3, q8_4, none, none], n4_⟩) w n s → k3_ w n → N s) (hk : ∀ r k, K r k → D.rt (PyData.bool r) k) : nb_law_s3 xp { D with nx := N, ct := N, bk := BK } ⟨[none, some .deck, y2, some (.dat (eP PyData.int (eQ (eP (eQ PyData.int) PyData.int)) b3)), some (.dat (eQ (eP (eQ PyData.int) PyData.int) b4)), none, none], n⟩ := by
  unfold w_law_s3 at hw; unfold nb_law_s3
  exact (c_seq (s_if (g_tv (tv_or (tv_not (tv_tru (ov_V (ev_callG (lv_cons (ov_V (ev_tup (lv_cons (ov_V (ev_a2 (ov_dat 3 rfl) (ov_V ev_c) rfl rfl (vf_ixT at_0))) (lv_cons (ov_V (ev_var 4 rfl)) lv_nil)) (fun _ q => q) rfl)) lv_nil) (fun _ q => q) (okV__law_right (b3.1, b4) hw.1.1))) rfl tru_B)) (fun h18_ => (tv_not (tv_tru (ov_V (ev_callG (lv_cons (ov_V (ev_tup (lv_cons (ov_V (ev_a2 (ov_dat 3 rfl) (ov_V ev_c) rfl rfl (vf_ixT at_0))) (lv_cons (ov_V (ev_a2 (ov_V (ev_slQ (f := (eP (eQ PyData.int) PyData.int)) (ov_dat 4 rfl) pv_n (pv_s ev_c) rfl)) (ov_V (ev_slQ (f := (eP (eQ PyData.int) PyData.int)) (ov_dat 4 rfl) (pv_s (ev_neg (ov_V ev_c) rfl)) pv_n rfl)) rfl rfl (vf_addQ (f := (eP (eQ PyData.int) PyData.int)) (hw.1.2 h18_).1))) lv_nil)) (fun _ q => q) rfl)) lv_nil) (fun _ q => q) (okV__law_right (b3.1, ((cutN b4 none (some (1 : Int))) ++ (cutN b4 (some (-(1 : Int))) none))) (hw.1.2 h18_).2))) rfl tru_B)))) (g_ite (fun h19_ => (s_ret (g_ev ev_c (hk false n (hw.2.1 h19_))))) (fun h19_ => (c_pass (c_aft (okW_law_s4 k3_ b3 b4 (y2) (hw.2.2 h19_) hN5_ hk))))))))
set_option maxHeartbeats 4000000 in
def w_law_s2 (k3_ : (Unit) → Nat → Prop) (b3 : (Int × (List ((List Int) × Int)))) (n : Nat) (K : Bool → Nat → Prop) : Prop := (b3.2.length ≤ sizeLine ∧ (w_law_s3 k3_ b3 (b3.2.map fun x16_ : ((List Int) × Int) => (x16_.1, (1 : Int))) n K))
def nb_law_s2 : AST := (sSeq (sSet 4 (aBlt fTuple (lCons (oV (aLc (iSeq (oV (a2 vIx (oVar 3) (oV (aC (.int 1)))))) (bTup 2 (bCons (bNm 5) (bCons (bNm 6) bNil))) tYesA (aTup (lCons (oV (aVar 5)) (lCons (oV (aC (.int 1))) lNil))) [5, 6])) lNil)))
    (sSeq (sIf (tOrA (tNotA (tTruA (oV (aCall [.dat] (calm F__law_right) (lCons (oV (aTup (lCons (oV (a2 vIx (oVar 3) (oV (aC (.int 0))))) (lCons (oV (aVar 4)) lNil)))) lNil))))) (tNotA (tTruA (oV (aCall [.dat] (calm F__law_right) (lCons (oV (aTup (lCons (oV (a2 vIx (oVar 3) (oV (aC (.int 0))))) (lCons (oV (a2 vAdd (oV (aSl (oVar 4) ptNone (ptSome (aC (.int 1))))) (oV (aSl (oVar 4) (ptSome (aNeg (oV (aC (.int 1))))) ptNone)))) lNil)))) lNil))))))
    (sRet (aC (.bool false)))
    sNx)
    (sIf (tAndA (tV (a2 vLt (oV (aBlt fLen (lCons (oVar 4) lNil))) (oV (aC (.int 9))))) (tNotA (tTruA (oV (aCall [.dat] (calm F__law_right) (lCons (oV (aTup (lCons (oV (a2 vIx (oVar 3) (oV (aC (.int 0))))) (lCons (oV (a2 vAdd (oVar 4) (oVar 4))) lNil)))) lNil))))))
    (sRet (aC (.bool false)))
    sNx)))
set_option maxHeartbeats 4000000 in
theorem okW_law_s2 {xp : XP} {D : AEnds} {n : Nat} {K : Bool → Nat → Prop} {N BK : AS → Prop} (k3_ : (Unit) → Nat → Prop) (b3 : (Int × (List ((List Int) × Int)))) (y2 : Option AV) (y4 : Option AV) (hw : w_law_s2 k3_ b3 n K) (hN5_ : ∀ w n s, (fun (w1_ : Unit) (n4_ : Nat) (s : AS) => ∃ (q8_2 : Option AV) (q8_3 : Option AV) (q8_4 : Option AV), s = ⟨[none, some .deck, q8_2, q8_3, q8_4, none, none], n4_⟩) w n s → k3_ w n → N s) (hk : ∀ r k, K r k → D.rt (PyData.bool r) k) : nb_law_s2 xp { D with nx := N, ct := N, bk := BK } ⟨[none, some .deck, y2, some (.dat (eP PyData.int (eQ (eP (eQ PyData.int) PyData.int)) b3)), y4, none, none], n⟩ := by
  unfold w_law_s2 at hw; unfold nb_law_s2
  exact (c_seq (s_set (g_ev (ev_blt (lv_cons (ov_V (ev_lcM (eP (eQ PyData.int) PyData.int) (eP (eQ PyData.int) PyData.int) (fun x16_ : ((List Int) × Int) => (x16_.1, (1 : Int))) (fun x16_ : ((List Int) × Int) => (⟨[none, some .deck, y2, some (.dat (eP PyData.int (eQ (eP (eQ PyData.int) PyData.int)) b3)), y4, some (.dat (eQ PyData.int x16_.1)), some (.dat (PyData.int x16_.2))], n⟩ : AS)) (fun x16_ : ((List Int) × Int) => (⟨[none, some .deck, y2, some (.dat (eP PyData.int (eQ (eP (eQ PyData.int) PyData.int)) b3)), y4, some (.dat (eQ PyData.int x16_.1)), some (.dat (PyData.int x16_.2))], n⟩ : AS)) (iv_valQ (f := (eP (eQ PyData.int) PyData.int)) (l := b3.2) (ov_V (ev_a2 (ov_dat 3 rfl) (ov_V ev_c) rfl rfl (vf_ixT at_1)))) hw.1 rfl True.intro (fun x16_ hx17_ => (fun _ q => ⟨rfl, rfl, q⟩)) (fun x16_ hx17_ => (ev_tup (lv_cons (ov_V (ev_var 5 rfl)) (lv_cons (ov_V ev_c) lv_nil)) (fun _ q => q) rfl)) (fun _ _ => ⟨rfl, rfl⟩))) lv_nil) (rsl_cons rfl (fun _ q => q)) (fv_tupleL (f := (eP (eQ PyData.int) PyData.int)))) (n_st (s' := ⟨[none, some .deck, y2, some (.dat (eP PyData.int (eQ (eP (eQ PyData.int) PyData.int)) b3)), some (.dat (eQ (eP (eQ PyData.int) PyData.int) (b3.2.map fun x16_ : ((List Int) × Int) => (x16_.1, (1 : Int))))), none, none], n⟩) rfl (c_aft (okW_law_s3 k3_ b3 (b3.2.map fun x16_ : ((List Int) × Int) => (x16_.1, (1 : Int))) (y2) hw.2 hN5_ hk))))))
set_option maxHeartbeats 4000000 in
def w_law_s1 (k3_ : (Unit) → Nat → Prop) (b3 : (Int × (List ((List Int) × Int)))) (n : Nat) (K : Bool → Nat → Prop) : Prop := (C__law_right b3 ∧ (((!(v__law_right b3)) = true → (K false n)) ∧ ((!(v__law_right b3)) = false → (w_law_s2 k3_ b3 n K))))
def nb_law_s1 : AST := (sSeq (sIf (tNotA (tTruA (oV (aCall [.dat] (calm F__law_right) (lCons (oV (aVar 3)) lNil)))))
    (sRet (aC (.bool false)))
    sNx)
    (sSeq (sSet 4 (aBlt fTuple (lCons (oV (aLc (iSeq (oV (a2 vIx (oVar 3) (oV (aC (.int 1)))))) (bTup 2 (bCons (bNm 5) (bCons (bNm 6) bNil))) tYesA (aTup (lCons (oV (aVar 5)) (lCons (oV (aC (.int 1))) lNil))) [5, 6])) lNil)))
    (sSeq (sIf (tOrA (tNotA (tTruA (oV (aCall [.dat] (calm F__law_right) (lCons (oV (aTup (lCons (oV (a2 vIx (oVar 3) (oV (aC (.int 0))))) (lCons (oV (aVar 4)) lNil)))) lNil))))) (tNotA (tTruA (oV (aCall [.dat] (calm F__law_right) (lCons (oV (aTup (lCons (oV (a2 vIx (oVar 3) (oV (aC (.int 0))))) (lCons (oV (a2 vAdd (oV (aSl (oVar 4) ptNone (ptSome (aC (.int 1))))) (oV (aSl (oVar 4) (ptSome (aNeg (oV (aC (.int 1))))) ptNone)))) lNil)))) lNil))))))
    (sRet (aC (.bool false)))
    sNx)
    (sIf (tAndA (tV (a2 vLt (oV (aBlt fLen (lCons (oVar 4) lNil))) (oV (aC (.int 9))))) (tNotA (tTruA (oV (aCall [.dat] (calm F__law_right) (lCons (oV (aTup (lCons (oV (a2 vIx (oVar 3) (oV (aC (.int 0))))) (lCons (oV (a2 vAdd (oVar 4) (oVar 4))) lNil)))) lNil))))))
    (sRet (aC (.bool false)))
    sNx))))
set_option maxHeartbeats 4000000 in
theorem okW_law_s1 {xp : XP} {D : AEnds} {n : Nat} {K : Bool → Nat → Prop} {N BK : AS → Prop} (k3_ : (Unit) → Nat → Prop) (b3 : (Int × (List ((List Int) × Int)))) (y2 : Option AV) (y4 : Option AV) (hw : w_law_s1 k3_ b3 n K) (hN5_ : ∀ w n s, (fun (w1_ : Unit) (n4_ : Nat) (s : AS) => ∃ (q8_2 : Option AV) (q8_3 : Option AV) (q8_4 : Option AV), s = ⟨[none, some .deck, q8_2, q8_3, q8_4, none, none], n4_⟩) w n s → k3_ w n → N s) (hk : ∀ r k, K r k → D.rt (PyData.bool r) k) : nb_law_s1 xp { D with nx := N, ct := N, bk := BK } ⟨[none, some .deck, y2, some (.dat (eP PyData.int (eQ (eP (eQ PyData.int) PyData.int)) b3)), y4, none, none], n⟩ := by
  unfold w_law_s1 at hw; unfold nb_law_s1
  exact (c_seq (s_if (g_tv (tv_not (tv_tru (ov_V (ev_callG (lv_cons (ov_V (ev_var 3 rfl)) lv_nil) (fun _ q => q) (okV__law_right b3 hw.1))) rfl tru_B)) (g_ite (fun h15_ => (s_ret (g_ev ev_c (hk false n (hw.2.1 h15_))))) (fun h15_ => (c_pass (c_aft (okW_law_s2 k3_ b3 (y2) (y4) (hw.2.2 h15_) hN5_ hk))))))))
set_option maxHeartbeats 4000000 in
def w_law  (n : Nat) (K : Bool → Nat → Prop) : Prop := (Rg (6 : Int) ∧ (forW (fun (k3_ : (Unit) → Nat → Prop) (x2_ : Int) (w1_ : Unit) (n4_ : Nat) => (w__law_next (8 : Int) n4_ fun (r9_ : Int) (n10_ : Nat) => (w__law_next (16 : Int) n10_ fun (r11_ : Int) (n12_ : Nat) => (w__law_seated ((1 : Int) + r9_) ((1 : Int) + r11_) n12_ fun (r13_ : (Int × (List ((List Int) × Int)))) (n14_ : Nat) => (w_law_s1 k3_ r13_ n14_ K))))) (fun (w1_ : Unit) (n4_ : Nat) => (K true n4_)) (irange 0 (6 : Int)) () n))
def nb_law : AST := (sSeq (sFor (iRange1 (lCons (oV (aC (.int 6))) lNil)) (bNm 2)
    (sSeq (sSet 3 (aCall [.deck, .dat, .dat] (calm F__law_seated) (lCons (oVar 1) (lCons (oV (a2 vAdd (oV (aC (.int 1))) (oV (aCall [.deck, .dat] (calm F__law_next) (lCons (oVar 1) (lCons (oV (aC (.int 8))) lNil)))))) (lCons (oV (a2 vAdd (oV (aC (.int 1))) (oV (aCall [.deck, .dat] (calm F__law_next) (lCons (oVar 1) (lCons (oV (aC (.int 16))) lNil)))))) lNil)))))
    (sSeq (sIf (tNotA (tTruA (oV (aCall [.dat] (calm F__law_right) (lCons (oV (aVar 3)) lNil)))))
    (sRet (aC (.bool false)))
    sNx)
    (sSeq (sSet 4 (aBlt fTuple (lCons (oV (aLc (iSeq (oV (a2 vIx (oVar 3) (oV (aC (.int 1)))))) (bTup 2 (bCons (bNm 5) (bCons (bNm 6) bNil))) tYesA (aTup (lCons (oV (aVar 5)) (lCons (oV (aC (.int 1))) lNil))) [5, 6])) lNil)))
    (sSeq (sIf (tOrA (tNotA (tTruA (oV (aCall [.dat] (calm F__law_right) (lCons (oV (aTup (lCons (oV (a2 vIx (oVar 3) (oV (aC (.int 0))))) (lCons (oV (aVar 4)) lNil)))) lNil))))) (tNotA (tTruA (oV (aCall [.dat] (calm F__law_right) (lCons (oV (aTup (lCons (oV (a2 vIx (oVar 3) (oV (aC (.int 0))))) (lCons (oV (a2 vAdd (oV (aSl (oVar 4) ptNone (ptSome (aC (.int 1))))) (oV (aSl (oVar 4) (ptSome (aNeg (oV (aC (.int 1))))) ptNone)))) lNil)))) lNil))))))
    (sRet (aC (.bool false)))
    sNx)
    (sIf (tAndA (tV (a2 vLt (oV (aBlt fLen (lCons (oVar 4) lNil))) (oV (aC (.int 9))))) (tNotA (tTruA (oV (aCall [.dat] (calm F__law_right) (lCons (oV (aTup (lCons (oV (a2 vIx (oVar 3) (oV (aC (.int 0))))) (lCons (oV (a2 vAdd (oVar 4) (oVar 4))) lNil)))) lNil))))))
    (sRet (aC (.bool false)))
    sNx))))))
    (sRet (aC (.bool true))))
set_option maxHeartbeats 4000000 in
theorem okW_law_b {xp : XP} {D : AEnds} {n : Nat} {K : Bool → Nat → Prop}   (hw : w_law  n K) (hk : ∀ r k, K r k → D.rt (PyData.bool r) k) : nb_law xp D ⟨[none, some .deck, none, none, none, none, none], n⟩ := by
  unfold w_law at hw; unfold nb_law
  exact (c_seq (s_for PyData.int (fun (w1_ : Unit) (n4_ : Nat) (s : AS) => ∃ (q8_2 : Option AV) (q8_3 : Option AV) (q8_4 : Option AV), s = ⟨[none, some .deck, q8_2, q8_3, q8_4, none, none], n4_⟩) (iv_range1 (lv_cons (ov_V ev_c) lv_nil) (fun _ q => q) hw.1) ⟨none, none, none, rfl⟩ hw.2 (fun x2_ w1_ n4_ s_ k3_ N_ hi_ hw6_ hN5_ => by
    obtain ⟨q8_2, q8_3, q8_4, e_⟩ := hi_
    subst e_
    exact (g_bv ((bv_nm 2).to rfl) (c_seq (s_set (g_call (g_lcons (g_ov (ov_deck 1 rfl) (g_lcons (g_V (g_a2 (g_ov (ov_V ev_c) (g_V (g_call (g_lcons (g_ov (ov_deck 1 rfl) (g_lcons (g_ov (ov_V ev_c) (g_lnil (g_rm (fun _ q => q) (okW__law_next (8 : Int) hw6_ (fun r9_ n10_ hw24_ => (g_op rfl rfl vf_addI (g_lcons (g_V (g_a2 (g_ov (ov_V ev_c) (g_V (g_call (g_lcons (g_ov (ov_deck 1 rfl) (g_lcons (g_ov (ov_V ev_c) (g_lnil (g_rm (fun _ q => q) (okW__law_next (16 : Int) hw24_ (fun r11_ n12_ hw23_ => (g_op rfl rfl vf_addI (g_lnil (g_rm (fun _ q => q) (okW__law_seated ((1 : Int) + r9_) ((1 : Int) + r11_) hw23_ (fun r13_ n14_ hw22_ => (n_st (s' := ⟨[none, some .deck, some (.dat (PyData.int x2_)), some (.dat (eP PyData.int (eQ (eP (eQ PyData.int) PyData.int)) r13_)), q8_4, none, none], n14_⟩) rfl (c_aft (okW_law_s1 k3_ r13_ (some (.dat (PyData.int x2_))) (q8_4) hw22_ hN5_ hk)))))))))))))))))))))))))))))))))))))))))))) (fun w1_ n4_ s_ hi_ ha7_ => by
    obtain ⟨q8_2, q8_3, q8_4, e_⟩ := hi_
    subst e_
    exact (c_aft (s_ret (g_ev ev_c (hk true n4_ ha7_)))))))
theorem law_of (hw : w_law 0 fun r _ => r = true) : lawF 5 (b_law F__law_seated F__law_next F__law_right) := by
  unfold lawF
  exact okW_law_b (D := { nx := fun _ => False, rt := fun r _ => r = .bool true }) hw (fun r k e => by rw [e])
end TR
namespace TR
open PySem PySem.Spec PyProof.Rows L2
end TR
namespace TR
open PySem PySem.Spec PyProof.Rows L2
abbrev pI : Int × Int → PyData := eP PyData.int PyData.int
def leP (p q : Int × Int) : Bool := decide (p.1 < q.1 ∨ (p.1 = q.1 ∧ p.2 ≤ q.2))
theorem leP_eq : (fun a b : Int × Int => PySem.W.dataLe false (fun d => d) (pI a) (pI b)) = leP := by
  have h := PySem.W.dataLe_ii (β := Int × Int) (fun p => p.1) (fun p => p.2)
  funext a b
  exact congrFun (congrFun h a) b
theorem srtP (l : List (Int × Int)) : srtN pI l = l.mergeSort leP := by
  show l.mergeSort (fun a b : Int × Int => PySem.W.dataLe false (fun d => d) (pI a) (pI b)) = _
  rw [leP_eq]
theorem leP_trans (a b c : Int × Int) (h1 : leP a b = true) (h2 : leP b c = true) : leP a c = true := by
  unfold leP at *; simp only [decide_eq_true_eq] at *; omega
theorem leP_total (a b : Int × Int) : (leP a b || leP b a) = true := by
  unfold leP; simp only [Bool.or_eq_true, decide_eq_true_eq]; omega
theorem srtP_sorted (l : List (Int × Int)) : (srtN pI l).Pairwise fun a b => leP a b = true := by
  rw [srtP]; exact List.pairwise_mergeSort (le := leP) leP_trans leP_total l
theorem srtP_perm (l : List (Int × Int)) : (srtN pI l).Perm l := List.mergeSort_perm _ _
theorem sort_uniq {α : Type} {r : α → α → Prop} (anti : ∀ a b, r a b → r b a → a = b) : ∀ {a b : List α}, a.Perm b → a.Pairwise r → b.Pairwise r → a = b
  | [], _, p, _, _ => p.nil_eq
  | x :: a, [], p, _, _ => absurd p.length_eq (by simp)
  | x :: a, y :: b, p, ha, hb => by
    have hx : x = y := by
      have m1 : x ∈ y :: b := p.mem_iff.mp List.mem_cons_self
      have m2 : y ∈ x :: a := p.mem_iff.mpr List.mem_cons_self
      rcases List.mem_cons.mp m1 with e | m1
      · exact e
      rcases List.mem_cons.mp m2 with e | m2
      · exact e.symm
      exact anti x y ((List.pairwise_cons.mp ha).1 y m2) ((List.pairwise_cons.mp hb).1 x m1)
    subst hx
    rw [sort_uniq anti p.cons_inv (List.pairwise_cons.mp ha).2 (List.pairwise_cons.mp hb).2]
/-- rows of two as pairs -/
abbrev l2 (p : Int × Int) : List Int := [p.1, p.2]
theorem alk_pp (a b : Int × Int) : PySem.W.alike (pI a) (pI b) = true := by simp [pI, PySem.W.alike, PySem.W.alikeAll]
theorem srtOk_p (l : List (Int × Int)) : SrtOk (l.map pI) := by
  refine ⟨?_, ?_, fun d hd => ?_⟩
  · exact PySem.W.AllAlike.of alk_pp
  · exact PySem.W.Sortable.tuples fun b => ⟨_, _, rfl⟩
  · obtain ⟨p, _, rfl⟩ := List.mem_map.mp hd
    show PyData.depthAll [.int p.1, .int p.2] + 1 ≤ 50
    simp [PyData.depthAll, PyData.depth]
end TR
namespace TR
open PySem PySem.Spec PyProof.Rows L2
theorem forW_m {α : Type} {body : (Unit → Nat → Prop) → α → Unit → Nat → Prop} {after : Unit → Nat → Prop} (c B : Nat) (ha : ∀ n, n ≤ B → after () n) : ∀ (l : List α) (n : Nat), n + c * l.length ≤ B → (∀ x ∈ l, ∀ k n, n + c ≤ B → (∀ n', n' ≤ n + c → k () n') → body k x () n) → forW body after l () n
  | [], n, h, _ => ha n (by simpa using h)
  | x :: l, n, h, hb => by
    rw [List.length_cons, Nat.mul_add, Nat.mul_one] at h
    exact hb x List.mem_cons_self _ n (by omega) fun n' hn => forW_m c B ha l n' (by omega) fun y hy => hb y (List.mem_cons_of_mem _ hy)
theorem rgOk_small {i j : Int} (h0 : 0 ≤ i) (h2 : j ≤ 1000) (h1 : i ≤ 1000 := by decide) (h3 : 0 ≤ j := by omega) : RgOk i j := ⟨by omega, by omega, by omega, by omega, by omega⟩
theorem rg_small {j : Int} (h : 0 ≤ j ∧ j ≤ 1000) : Rg j := ⟨by omega, by omega⟩
end TR
namespace TR
open PySem PySem.Spec PyProof.Rows L2
abbrev tb (m : Nat) (ts : Tas) : Int × List (List Int × Int) := ((m : Int), ts)
theorem ll {a b : Nat} (h : Nat.ble a b = true) : a ≤ b := Nat.le_of_ble_eq_true h
theorem irange_rng (n : Nat) : irange 0 (n : Int) = rng n := by
  unfold irange rng
  rw [show ((n : Int) - 0).toNat = n by omega]
  exact List.map_congr_left fun k _ => by omega
theorem sort_rank {n : Nat} {r : List Int} : isort r = irange 0 (n : Int) ↔ Rank n r := by
  rw [irange_rng]
  constructor
  · intro h
    have := isort_perm r
    rw [h] at this
    exact this.symm
  · intro h
    have hs : (rng n).Pairwise (· ≤ ·) := by
      have : ∀ n, (rng n).Pairwise (· ≤ ·) := fun n => by
        unfold rng
        rw [List.pairwise_map]
        exact List.pairwise_lt_range.imp fun h => by omega
      exact this n
    exact sorted_uniq ((isort_perm r).trans h) (isort_sorted r) hs
theorem ints_of_whole : ∀ {ds : List PyData}, (∀ d ∈ ds, d = .int (dI d)) → ds = (ds.map dI).map .int
  | [], _ => rfl
  | d :: ds, h => by
    rw [List.map_cons, List.map_cons, ← h d List.mem_cons_self, ← ints_of_whole fun x hx => h x (List.mem_cons_of_mem _ hx)]
theorem dI_ints (r : List Int) : (r.map PyData.int).map dI = r := by
  rw [List.map_map]; exact List.map_id' r
theorem tup_of : ∀ {d : PyData}, isTup d = true → d = .tuple (items d)
  | .tuple _, _ => rfl
/-- an int, within -/
def wholeB (d : PyData) : Bool := isNum d && !isBoo d
theorem wholeB_eq (d : PyData) : wholeB d = true → d = .int (dI d) := by
  cases d <;> intro h <;> first | rfl | cases h
def orderB (n : Int) (d : PyData) : Bool := bif (!isTup d || !((items d).map fun x => wholeB x).all id) then false else decide (isort (dQ dI d) = irange 0 n)
theorem all_map {α : Type} (p : α → Bool) (l : List α) : (l.map p).all id = l.all p := by
  rw [List.all_map]; rfl
theorem orderB_iff {n : Nat} {d : PyData} : orderB n d = true ↔ ∃ r, d = eQ .int r ∧ Rank n r := by
  unfold orderB
  rw [all_map]
  constructor
  · intro h
    cases ht : isTup d with
    | false => rw [ht] at h; cases h
    | true =>
      rw [ht] at h
      cases ha : (items d).all wholeB with
      | false =>
        have e : ((items d).all fun x => wholeB x) = false := ha
        rw [e] at h; cases h
      | true =>
        have e : ((items d).all fun x => wholeB x) = true := ha
        rw [e] at h
        have h : decide (isort (dQ dI d) = irange 0 (n : Int)) = true := h
        rw [decide_eq_true_eq] at h
        have e1 := ints_of_whole fun x hx => wholeB_eq x (List.all_eq_true.mp ha x hx)
        refine ⟨dQ dI d, ?_, sort_rank.mp h⟩
        rw [tup_of ht]
        show PyData.tuple (items d) = .tuple (((items d).map dI).map .int)
        rw [← e1]
  · rintro ⟨r, rfl, hr⟩
    have e1 : ((items (eQ PyData.int r)).all fun x => wholeB x) = true := List.all_eq_true.mpr fun x hx => by
      obtain ⟨i, _, rfl⟩ := List.mem_map.mp hx
      rfl
    rw [e1]
    show decide (isort ((r.map PyData.int).map dI) = irange 0 (n : Int)) = true
    rw [dI_ints]
    exact decide_eq_true (sort_rank.mpr hr)
theorem cutN_to {α : Type} (l : List α) {j : Nat} (h : j ≤ l.length) : cutN l none (some (j : Int)) = l.take j := by
  unfold cutN
  have e : HT.sIx l.length l.length (some (j : Int)) = j := by
    show (if (j : Int) < 0 then ((j : Int) + (l.length : Int)).toNat else min (j : Int).toNat l.length) = j
    rw [if_neg (by omega)]; omega
  have e0 : HT.sIx l.length 0 none = 0 := rfl
  rw [e, e0]; rfl
theorem cutN_from {α : Type} (l : List α) {j : Nat} (h : j ≤ l.length) : cutN l (some (j : Int)) none = l.drop j := by
  unfold cutN
  have e : HT.sIx l.length 0 (some (j : Int)) = j := by
    show (if (j : Int) < 0 then ((j : Int) + (l.length : Int)).toNat else min (j : Int).toNat l.length) = j
    rw [if_neg (by omega)]; omega
  have e0 : HT.sIx l.length l.length none = l.length := rfl
  rw [e, e0, List.take_of_length_le (by rw [List.length_drop]; exact Nat.le_refl _)]
theorem enN_len {α : Type} (l : List α) : (enN l).length = l.length := by unfold enN; rw [List.length_map, List.length_zipIdx]
end TR
namespace TR
open PySem PySem.Spec PyProof.Rows L2
instance (j : Int) : Decidable (Rg j) := by unfold Rg; infer_instance
theorem upto8 {P : Nat → Prop} (h : P 0 ∧ P 1 ∧ P 2 ∧ P 3 ∧ P 4 ∧ P 5 ∧ P 6 ∧ P 7 ∧ P 8) {m : Nat} (hm : m ≤ 8) : P m := by
  obtain ⟨h0, h1, h2, h3, h4, h5, h6, h7, h8⟩ := h
  rcases (by omega : m = 0 ∨ m = 1 ∨ m = 2 ∨ m = 3 ∨ m = 4 ∨ m = 5 ∨ m = 6 ∨ m = 7 ∨ m = 8) with rfl | rfl | rfl | rfl | rfl | rfl | rfl | rfl | rfl <;> assumption
theorem allpairs_v : ∀ {m : Nat}, m ≤ 8 → v_all_pairs (m : Int) = (pairs m).map fun p => [p.1, p.2] := fun h => upto8 (P := fun m => v_all_pairs (m : Int) = (pairs m).map fun p => [p.1, p.2]) (by decide +kernel) h
theorem lpairs_v : ∀ {m : Nat}, m ≤ 8 → v__law_pairs (m : Int) = pairs m := fun h => upto8 (P := fun m => v__law_pairs (m : Int) = pairs m) (by decide +kernel) h
theorem allpairs_C : ∀ {m : Nat}, m ≤ 8 → C_all_pairs (m : Int) := fun h => by
  refine upto8 (P := fun m => C_all_pairs (m : Int)) ?_ h
  unfold C_all_pairs C_ascending_tuples C_ascending_tuples_s1
  rw [show irange 0 2 = [0, 1] from rfl]
  simp only [forV]
  set_option synthInstance.maxHeartbeats 400000 in
  set_option synthInstance.maxSize 4000 in
  refine ⟨?_, ?_, ?_, ?_, ?_, ?_, ?_, ?_, ?_⟩ <;> decide +kernel
theorem lpairs_C : ∀ {m : Nat}, m ≤ 8 → C__law_pairs (m : Int) := fun h => by
  refine upto8 (P := fun m => C__law_pairs (m : Int)) ?_ h
  unfold C__law_pairs C__law_pairs_s1
  rw [show irange 0 ((0 : Nat) : Int) = [] from rfl, show irange 0 ((1 : Nat) : Int) = [0] from rfl, show irange 0 ((2 : Nat) : Int) = [0, 1] from rfl, show irange 0 ((3 : Nat) : Int) = [0, 1, 2] from rfl, show irange 0 ((4 : Nat) : Int) = [0, 1, 2, 3] from rfl, show irange 0 ((5 : Nat) : Int) = [0, 1, 2, 3, 4] from rfl, show irange 0 ((6 : Nat) : Int) = [0, 1, 2, 3, 4, 5] from rfl, show irange 0 ((7 : Nat) : Int) = [0, 1, 2, 3, 4, 5, 6] from rfl, show irange 0 ((8 : Nat) : Int) = [0, 1, 2, 3, 4, 5, 6, 7] from rfl]
  simp only [forV]
  set_option synthInstance.maxHeartbeats 400000 in
  set_option synthInstance.maxSize 4000 in
  refine ⟨?_, ?_, ?_, ?_, ?_, ?_, ?_, ?_, ?_⟩ <;> decide +kernel
theorem pr_b {m : Nat} {p : Int × Int} (h : p ∈ pairs m) : 0 ≤ p.1 ∧ p.1 < m ∧ 0 ≤ p.2 ∧ p.2 < m ∧ p.1 ≠ p.2 := by
  obtain ⟨h0, h1, h2⟩ := mem_pairs h
  exact ⟨h0, by omega, by omega, h2, by omega⟩
theorem pairs_l28 : ∀ m, m ≤ 8 → (pairs m).length ≤ 28 := by decide
theorem plen {m : Nat} (h : m ≤ 8) : (pairs m).length ≤ 28 := pairs_l28 m h
end TR
namespace TR
/-! ### the distance as a count, and its triangle -/
def mid (a b c : List Int) (p : Int × Int) : Bool := !agr a c p && !agr c b p
theorem count_tri (a b c : List Int) : ∀ L : List (Int × Int), (L.filter fun p => !agr a c p).length + (L.filter fun p => !agr c b p).length = (L.filter fun p => !agr a b p).length + 2 * (L.filter (mid a b c)).length
  | [] => rfl
  | p :: r => by
    have ih := count_tri a b c r
    have h : ∀ x y z : Bool, (!(x == z)) = true ∨ (x == z) = true := by decide
    simp only [List.filter_cons]
    unfold mid agr at *
    cases pref a p.1 p.2 <;> cases pref b p.1 p.2 <;> cases pref c p.1 p.2 <;> simp at * <;> omega
theorem dist_tri (n : Nat) (a b c : List Int) : (diffs n a c).length + (diffs n c b).length = (diffs n a b).length + 2 * ((pairs n).filter (mid a b c)).length := count_tri a b c (pairs n)
/-! ### distance 0 -/
theorem pref_anti {ns : List Int} {x y : Int} (m : x ∈ ns) (m2 : y ∈ ns) (ne : x ≠ y) : pref ns x y = !pref ns y x := by
  unfold pref
  have hne : ns.idxOf x ≠ ns.idxOf y := fun e => by
    rcases idx_inj m e with h | h
    · exact ne h
    · exact h m2
  by_cases h : ns.idxOf x < ns.idxOf y
  · rw [decide_eq_true h, decide_eq_false (by omega)]
    rfl
  · rw [decide_eq_false h, decide_eq_true (by omega)]
    rfl
theorem mem_pairs_of {n : Nat} {x y : Int} (h0 : 0 ≤ x) (h1 : x < y) (h2 : y < (n : Int)) : (x, y) ∈ pairs n := by
  unfold pairs prow
  refine List.mem_flatMap.mpr ⟨x.toNat, List.mem_range.mpr (by omega), List.mem_map.mpr ⟨(y - x - 1).toNat, List.mem_range.mpr (by omega), ?_⟩⟩
  have e1 : ((x.toNat : Nat) : Int) = x := by omega
  have e2 : ((x.toNat : Nat) : Int) + 1 + (((y - x - 1).toNat : Nat) : Int) = y := by omega
  rw [e2, e1]
theorem pref_all {n : Nat} {a b : List Int} (ha : Rank n a) (hb : Rank n b) (h : ∀ p ∈ pairs n, agr a b p = true) {x y : Int} (mx : x ∈ a) (my : y ∈ a) : pref a x y = pref b x y := by
  obtain ⟨x0, x1⟩ := ha.bnd mx
  obtain ⟨y0, y1⟩ := ha.bnd my
  rcases Int.lt_trichotomy x y with l | e | l
  · have := h _ (mem_pairs_of x0 l y1)
    exact eq_of_beq this
  · subst e
    unfold pref
    simp
  · have := eq_of_beq (h _ (mem_pairs_of y0 l x1))
    dsimp only at this
    rw [pref_anti mx my (by omega), pref_anti (hb.mem x0 x1) (hb.mem y0 y1) (by omega), this]
theorem pair_pref {ns : List Int} (nd : ns.Nodup) : ns.Pairwise fun x y => pref ns x y = true := by
  rw [List.pairwise_iff_getElem]
  intro i j hi hj hij
  unfold pref
  rw [idx_at nd (List.getElem?_eq_getElem hi), idx_at nd (List.getElem?_eq_getElem hj)]
  exact decide_eq_true hij
theorem rank_eq {n : Nat} {a b : List Int} (ha : Rank n a) (hb : Rank n b) (h : ∀ p ∈ pairs n, agr a b p = true) : a = b := by
  refine List.Perm.eq_of_pairwise (le := fun x y => pref b x y = true) ?_ ?_ (pair_pref hb.nodup) (List.Perm.trans ha (List.Perm.symm hb))
  · intro x y mx my h1 h2
    unfold pref at h1 h2
    have := of_decide_eq_true h1
    have := of_decide_eq_true h2
    omega
  · rw [List.pairwise_iff_getElem]
    intro i j hi hj hij
    have e := (List.pairwise_iff_getElem.mp (pair_pref ha.nodup)) i j hi hj hij
    rw [← pref_all ha hb h (List.getElem_mem hi) (List.getElem_mem hj)]
    exact e
/-! ### renaming -/
end TR
namespace TR
open PySem PySem.Spec PyProof.Rows L2
/-! ### lines: worths, preferences, rankings -/
abbrev Lin := List (Int × Int)
abbrev gP (x : Int × (Int × Int)) : Int × List Int := (x.1, l2 x.2)
structure WfN (ls : Lin) : Prop where
  l1 : 1 ≤ ls.length
  l8 : ls.length ≤ 8
  bd : ∀ p ∈ ls, (-1000000000000 ≤ p.1 ∧ p.1 ≤ 1000000000000) ∧ -1000000000000 ≤ p.2 ∧ p.2 ≤ 1000000000000
def wor (ls : Lin) (t d : Int) : Int := (gt ls d).1 + (gt ls d).2 * t
def keysN (ls : Lin) (t : Int) : List (Int × Int) := (enN ls).map fun x => (0 - x.2.1 - x.2.2 * t, x.1)
def rankN (ls : Lin) (t : Int) : List Int := (srtN pI (keysN ls t)).map (·.2)
theorem enN_rng (ls : Lin) : enN ls = (rng ls.length).map fun d => (d, gt ls d) := by
  refine List.ext_getElem? fun i => ?_
  unfold enN rng gt
  simp only [List.getElem?_map, List.getElem?_zipIdx, List.getElem?_range, List.map_map]
  by_cases h : i < ls.length
  · rw [List.getElem?_eq_getElem h, List.getElem?_eq_getElem (by simpa using h)]
    simp [h]
  · rw [List.getElem?_eq_none (by omega), List.getElem?_eq_none (by simp; omega)]
    rfl
theorem keysN_eq (ls : Lin) (t : Int) : keysN ls t = (rng ls.length).map fun d => (-(wor ls t d), d) := by
  unfold keysN
  rw [enN_rng, List.map_map]
  refine List.map_congr_left fun d _ => ?_
  show (0 - (gt ls d).1 - (gt ls d).2 * t, d) = (-((gt ls d).1 + (gt ls d).2 * t), d)
  generalize (gt ls d).2 * t = z
  exact congrArg (·, d) (by omega)
theorem rankN_rank (ls : Lin) (t : Int) : Rank ls.length (rankN ls t) := by
  unfold rankN Rank
  have := (srtP_perm (keysN ls t)).map (·.2)
  rw [keysN_eq, List.map_map] at this
  rw [keysN_eq]
  exact this.trans (by rw [show ((fun x : Int × Int => x.2) ∘ fun d => (-(wor ls t d), d)) = id from rfl, List.map_id])
theorem idx_pw : ∀ {ps : List (Int × Int)}, (ps.Pairwise fun a b => leP a b = true) → (ps.map (·.2)).Nodup → ∀ {x y : Int × Int}, x ∈ ps → y ∈ ps → (ps.map (·.2)).idxOf x.2 < (ps.map (·.2)).idxOf y.2 → leP x y = true
  | [], _, _, _, _, hx, _, _ => by cases hx
  | z :: ps, h, nd, x, y, hx, hy, lt => by
    obtain ⟨h1, h2⟩ := List.pairwise_cons.mp h
    rw [List.map_cons] at nd lt
    obtain ⟨n1, n2⟩ := List.nodup_cons.mp nd
    rcases List.mem_cons.mp hx with ex | hx
    · rcases List.mem_cons.mp hy with ey | hy
      · rw [ex, ey] at lt; exact absurd lt (Nat.lt_irrefl _)
      · rw [ex]; exact h1 y hy
    · have nx : z.2 ≠ x.2 := fun e => n1 (e ▸ List.mem_map.mpr ⟨x, hx, rfl⟩)
      rcases List.mem_cons.mp hy with ey | hy
      · rw [ey, List.idxOf_cons_self] at lt; exact absurd lt (Nat.not_lt_zero _)
      · have ny : z.2 ≠ y.2 := fun e => n1 (e ▸ List.mem_map.mpr ⟨y, hy, rfl⟩)
        have e : ∀ u : Int, z.2 ≠ u → (z.2 :: ps.map (·.2)).idxOf u = (ps.map (·.2)).idxOf u + 1 := fun u hu => by
          rw [List.idxOf_cons, show (z.2 == u) = false from beq_false_of_ne hu]
          rfl
        rw [e _ nx, e _ ny] at lt
        exact idx_pw h2 n2 hx hy (by omega)
theorem idxOf_inj {l : List Int} {a b : Int} (ha : a ∈ l) (hb : b ∈ l) (h : l.idxOf a = l.idxOf b) : a = b := by
  have h1 := List.getElem_idxOf (List.idxOf_lt_length_of_mem ha)
  have h2 := List.getElem_idxOf (List.idxOf_lt_length_of_mem hb)
  rw [← h1, ← h2]
  congr 1
theorem rankN_lt {ls : Lin} {t a b : Int} (ha : 0 ≤ a ∧ a < (ls.length : Int)) (hb : 0 ≤ b ∧ b < (ls.length : Int)) (ne : a ≠ b) : (rankN ls t).idxOf a < (rankN ls t).idxOf b ↔ (wor ls t b < wor ls t a ∨ (wor ls t a = wor ls t b ∧ a < b)) := by
  have R := rankN_rank ls t
  have nd : ((srtN pI (keysN ls t)).map (·.2)).Nodup := R.nodup
  have pw := srtP_sorted (keysN ls t)
  have mem : ∀ d : Int, 0 ≤ d ∧ d < (ls.length : Int) → (-(wor ls t d), d) ∈ srtN pI (keysN ls t) := fun d hd => by
    refine (srtP_perm _).mem_iff.mpr ?_
    rw [keysN_eq]
    exact List.mem_map.mpr ⟨d, mem_rng.mpr hd, rfl⟩
  have le : ∀ x y : Int, 0 ≤ x ∧ x < (ls.length : Int) → 0 ≤ y ∧ y < (ls.length : Int) → (rankN ls t).idxOf x < (rankN ls t).idxOf y → (wor ls t y < wor ls t x ∨ (wor ls t x = wor ls t y ∧ x ≤ y)) := fun x y hx hy h => by
    have := idx_pw pw nd (mem x hx) (mem y hy) h
    unfold leP at this
    rw [decide_eq_true_eq] at this
    have : -(wor ls t x) < -(wor ls t y) ∨ -(wor ls t x) = -(wor ls t y) ∧ x ≤ y := this
    omega
  constructor
  · intro h
    have := le a b ha hb h
    omega
  · intro h
    by_cases g : (rankN ls t).idxOf a < (rankN ls t).idxOf b
    · exact g
    · have hne : (rankN ls t).idxOf a ≠ (rankN ls t).idxOf b := fun e => ne (idxOf_inj (R.mem ha.1 ha.2) (R.mem hb.1 hb.2) e)
      have := le b a hb ha (by omega)
      omega
def pf (ls : Lin) (t : Int) (p : Int × Int) : Bool := decide (wor ls t p.2 ≤ wor ls t p.1)
theorem rankN_pf {ls : Lin} {t : Int} {p : Int × Int} (hp : p ∈ pairs ls.length) : decide ((((rankN ls t).idxOf p.1 : Nat) : Int) < (((rankN ls t).idxOf p.2 : Nat) : Int)) = pf ls t p := by
  obtain ⟨h0, h1, h2⟩ := mem_pairs hp
  unfold pf
  refine decide_eq_decide.mpr ?_
  have := rankN_lt (t := t) (ls := ls) (a := p.1) (b := p.2) ⟨h0, by omega⟩ ⟨by omega, h2⟩ (by omega)
  omega
/-- where the pair changes -/
def chN (ls : Lin) (p : Int × Int) : Option Int :=
  bif decide (0 < (gt ls p.1).2 - (gt ls p.2).2) then some (-(((gt ls p.1).1 - (gt ls p.2).1) / ((gt ls p.1).2 - (gt ls p.2).2)))
  else bif decide ((gt ls p.1).2 - (gt ls p.2).2 < 0) then some (((gt ls p.1).1 - (gt ls p.2).1) / (-((gt ls p.1).2 - (gt ls p.2).2)) + 1) else none
theorem pf_diff (ls : Lin) (t : Int) (p : Int × Int) : pf ls t p = decide (0 ≤ ((gt ls p.1).1 - (gt ls p.2).1) + ((gt ls p.1).2 - (gt ls p.2).2) * t) := by
  unfold pf wor
  rw [Int.sub_mul]
  generalize (gt ls p.1).2 * t = x
  generalize (gt ls p.2).2 * t = y
  exact decide_eq_decide.mpr (by omega)
theorem chN_some {ls : Lin} {p : Int × Int} {c : Int} (h : chN ls p = some c) (t u : Int) : pf ls t p = pf ls u p ↔ (c ≤ t ↔ c ≤ u) := by
  rw [pf_diff, pf_diff]
  unfold chN at h
  generalize (gt ls p.1).1 - (gt ls p.2).1 = a at h ⊢
  generalize (gt ls p.1).2 - (gt ls p.2).2 = s at h ⊢
  rw [decide_eq_decide]
  by_cases h1 : 0 < s
  · rw [decide_eq_true h1] at h
    cases h
    have key : ∀ t : Int, 0 ≤ a + s * t ↔ -(a / s) ≤ t := fun t => by
      have := Int.le_ediv_iff_mul_le (a := -t) (b := a) h1
      rw [Int.neg_mul, Int.mul_comm] at this
      omega
    rw [key, key]
  · rw [decide_eq_false h1] at h
    by_cases h2 : s < 0
    · rw [decide_eq_true h2] at h
      cases h
      have key : ∀ t : Int, 0 ≤ a + s * t ↔ ¬ a / -s + 1 ≤ t := fun t => by
        have := Int.le_ediv_iff_mul_le (a := t) (b := a) (c := -s) (by omega)
        rw [Int.mul_neg, Int.mul_comm] at this
        omega
      rw [key, key]
      exact ⟨fun h => by omega, fun h => by omega⟩
    · rw [decide_eq_false h2] at h
      cases h
theorem chN_none {ls : Lin} {p : Int × Int} (h : chN ls p = none) (t u : Int) : pf ls t p = pf ls u p := by
  rw [pf_diff, pf_diff]
  unfold chN at h
  generalize (gt ls p.1).2 - (gt ls p.2).2 = s at h ⊢
  by_cases h1 : 0 < s
  · rw [decide_eq_true h1] at h; cases h
  · by_cases h2 : s < 0
    · rw [decide_eq_false h1, decide_eq_true h2] at h; cases h
    · have : s = 0 := by omega
      rw [this, Int.zero_mul, Int.zero_mul]
theorem nodup_le {α : Type} [DecidableEq α] : ∀ {l m : List α}, l.Nodup → (∀ x ∈ l, x ∈ m) → l.length ≤ m.length
  | [], _, _, _ => Nat.zero_le _
  | x :: l, m, nd, h => by
    have hx := h x List.mem_cons_self
    obtain ⟨n1, n2⟩ := List.nodup_cons.mp nd
    have ih := nodup_le (l := l) (m := m.erase x) n2 fun y hy => (List.mem_erase_of_ne (fun (e : y = x) => n1 (by rw [← e]; exact hy))).mpr (h y (List.mem_cons_of_mem _ hy))
    rw [List.length_erase_of_mem hx] at ih
    have : 0 < m.length := List.length_pos_of_mem hx
    rw [List.length_cons]
    omega
end TR
namespace TR
open PySem PySem.Spec PyProof.Rows L2
/-! ### lines: runs of equal rankings -/
theorem rankN_same {ls : Lin} {t u : Int} : rankN ls t = rankN ls u ↔ ∀ p ∈ pairs ls.length, pf ls t p = pf ls u p := by
  constructor
  · intro h p hp
    rw [← rankN_pf hp, ← rankN_pf hp, h]
  · intro h
    refine rank_eq (rankN_rank ls t) (rankN_rank ls u) fun p hp => ?_
    have e : ∀ t, pref (rankN ls t) p.1 p.2 = pf ls t p := fun t => by
      rw [← rankN_pf hp]
      unfold pref
      exact decide_eq_decide.mpr (by omega)
    unfold agr
    rw [e, e, h p hp]
    simp
/-- the places of change behind a, ascending -/
def Turns (ls : Lin) (hi a : Int) (tl : List Int) : Prop := tl.Pairwise (· < ·) ∧ ∀ c, c ∈ tl ↔ a < c ∧ c ≤ hi ∧ ∃ p ∈ pairs ls.length, chN ls p = some c
theorem Turns.tail {ls : Lin} {hi a c : Int} {tl : List Int} (h : Turns ls hi a (c :: tl)) : Turns ls hi c tl := by
  obtain ⟨h1, h2⟩ := h
  obtain ⟨h3, h4⟩ := List.pairwise_cons.mp h1
  have hc := (h2 c).mp List.mem_cons_self
  refine ⟨h4, fun d => ⟨fun m => ?_, fun m => ?_⟩⟩
  · have := (h2 d).mp (List.mem_cons_of_mem _ m)
    exact ⟨h3 d m, this.2⟩
  · have := (h2 d).mpr ⟨by omega, m.2⟩
    rcases List.mem_cons.mp this with e | e
    · omega
    · exact e
/-- the first place of change, or what is behind the end -/
def hd1 (hi : Int) : List Int → Int
  | [] => hi + 1
  | c :: _ => c
theorem Turns.same {ls : Lin} {hi a : Int} {tl : List Int} (h : Turns ls hi a tl) {m : Int} (h1 : a ≤ m) (h2 : m ≤ hi) : rankN ls m = rankN ls a ↔ m < hd1 hi tl := by
  rw [rankN_same]
  constructor
  · intro e
    cases tl with
    | nil => show m < hi + 1; omega
    | cons c tl =>
      show m < c
      obtain ⟨g1, g2, p, hp, hc⟩ := (h.2 c).mp List.mem_cons_self
      have := (chN_some hc m a).mp (e p hp)
      omega
  · intro hm p hp
    cases hc : chN ls p with
    | none => exact chN_none hc m a
    | some c =>
      refine (chN_some hc m a).mpr ⟨fun g => ?_, fun g => by omega⟩
      by_cases g2 : c ≤ a
      · exact g2
      · exfalso
        have mem := (h.2 c).mpr ⟨by omega, by omega, p, hp, hc⟩
        cases tl with
        | nil => cases mem
        | cons d tl =>
          have hm : m < d := hm
          rcases List.mem_cons.mp mem with e | e
          · omega
          · have := (List.pairwise_cons.mp h.1).1 c e
            omega
theorem Turns.hd {ls : Lin} {hi a : Int} {tl : List Int} (h : Turns ls hi a tl) (ha : a ≤ hi) : a < hd1 hi tl ∧ hd1 hi tl ≤ hi + 1 := by
  cases tl with
  | nil => show a < hi + 1 ∧ hi + 1 ≤ hi + 1; omega
  | cons c tl =>
    have := (h.2 c).mp List.mem_cons_self
    show a < c ∧ c ≤ hi + 1
    omega
end TR
namespace TR
open PySem PySem.Spec PyProof.Rows L2
theorem irange_len (a b : Int) : (irange a b).length = (b - a).toNat := by unfold irange; rw [List.length_map, List.length_range]
theorem w_next {m : Int} {n : Nat} {K : Int → Nat → Prop} (hn : n ≤ 1000000) (h0 : 0 < m) (h1 : m ≤ 4000000000000) (q : ∀ r, 0 ≤ r → r < m → K r (n + 1)) : w__law_next m n K := ⟨hn, h0, h1, q⟩
theorem lim' {n : Nat} (h : n < 1000) : n < sizeLine := Nat.lt_of_lt_of_le h (lim (Nat.le_refl _))
end TR
namespace TR
open PySem PySem.Spec PyProof.Rows L2
/-! ### the program's sides and orders -/
abbrev Sd2 (ts : Tas) (a b : Int) : List Bool := ts.map fun x => decide (((x.1.idxOf a : Nat) : Int) < ((x.1.idxOf b : Nat) : Int))
def cnt (s : List Bool) (r : List Int) : Nat := ((irange 1 ((r.length : Nat) : Int)).filter fun k => !(decide (gt (r.map fun x => gt s x) (k - 1) = gt (r.map fun x => gt s x) k))).length
theorem sides_eq (m : Nat) (ts : Tas) (a b : Int) : v_sides (tb m ts) [a, b] = Sd2 ts a b := by
  unfold v_sides v_rankings_of
  rw [List.map_map]; rfl
theorem once_eq (m : Nat) (ts : Tas) (r : List Int) (a b : Int) : v_changes_once (tb m ts) r [a, b] = decide (cnt (Sd2 ts a b) r ≤ 1) := by
  unfold v_changes_once
  rw [sides_eq]
  unfold v_changes_once_s1
  rw [List.map_id', List.length_map]
  exact decide_eq_decide.mpr (by unfold cnt; omega)
theorem ixr_of {α : Type} {l : List α} {x : Int} (h0 : 0 ≤ x) (h1 : x < (l.length : Int)) : Ixr l x := ⟨h0, h1⟩
theorem irM1 {n x : Int} (h : x ∈ irange 1 n) : 1 ≤ x ∧ x < n := by
  unfold irange at h
  obtain ⟨k, hk, rfl⟩ := List.mem_map.mp h
  have := List.mem_range.mp hk
  omega
theorem irL (a : Int) {n : Nat} (h : 0 ≤ a) : (irange a (n : Int)).length ≤ n := by
  unfold irange
  rw [List.length_map, List.length_range]; omega
theorem once_C {m M : Nat} {ts : Tas} (wf : WfT 8 M m ts) (hM : M ≤ 100) {r : List Int} (hr : r.length ≤ 100) (hm : ∀ x ∈ r, 0 ≤ x ∧ x < (ts.length : Int)) {p : Int × Int} (hp : p ∈ pairs m) : C_changes_once (tb m ts) r [p.1, p.2] := by
  have lM := wf.lM
  obtain ⟨a, b, c, d, _⟩ := pr_b hp
  have hl := irL 1 (n := r.length) (by decide)
  refine ⟨⟨rfl, lim (by show ts.length ≤ 1000; omega), lim (by show (ts.map fun x => x.1).length ≤ 1000; rw [List.length_map]; omega), fun x hx => ?_⟩, ?_⟩
  · have hx : x ∈ ts.map fun x => x.1 := hx
    obtain ⟨t, ht, rfl⟩ := List.mem_map.mp hx
    exact ⟨(wf.all t ht).1.mem a b, (wf.all t ht).1.mem c d⟩
  · rw [sides_eq]
    unfold C_changes_once_s1
    rw [List.length_map]
    refine ⟨lim (by omega), fun x hx => ixr_of (hm x hx).1 (by rw [List.length_map]; exact (hm x hx).2), ⟨rg_small (by decide), rg_small ⟨by omega, by omega⟩⟩, lim (by omega), fun x hx => ?_⟩
    obtain ⟨h1, h2⟩ := irM1 hx
    exact ⟨ixr_of (by omega) (by rw [List.length_map]; omega), ixr_of (by omega) (by rw [List.length_map]; omega)⟩
theorem tupints {d : PyData} (h : (!isTup d || !((items d).map fun x => wholeB x).all id) = false) : d = eQ .int (dQ dI d) := by
  rw [Bool.or_eq_false_iff] at h
  have ht : isTup d = true := by simpa using h.1
  have ha : ((items d).map fun x => wholeB x).all id = true := by simpa using h.2
  rw [all_map] at ha
  have e1 := ints_of_whole fun x hx => wholeB_eq x (List.all_eq_true.mp ha x hx)
  rw [tup_of ht]
  show PyData.tuple (items d) = .tuple (((items d).map dI).map .int)
  rw [← e1]
theorem order_iff {n : Nat} {d : PyData} : v_is_order (n : Int) d = true ↔ ∃ r, d = eQ .int r ∧ Rank n r := orderB_iff
theorem order_C {n : Nat} (h8 : n ≤ 100) {d : PyData} (hl : (items d).length ≤ 1000) : C_is_order (n : Int) d := ⟨fun h => ⟨.inl (by simpa using h), lim hl⟩, fun h => ⟨tupints h, rgOk_small (by decide) (by omega) (by decide) (by omega)⟩⟩
end TR
namespace TR
open PySem PySem.Spec PyProof.Rows L2
abbrev rowBy (N : Nat) (f : Int → Int) : List Int := (srtN (eP PyData.int PyData.int) ((irange 0 (N : Int)).map fun x => (f x, x))).map fun p => p.2
theorem depth_ints : ∀ l : List Int, PyData.depthAll (l.map PyData.int) = 0
  | [] => by simp [PyData.depthAll]
  | x :: l => by simp [PyData.depthAll, PyData.depth, depth_ints l]
theorem alike_ints : ∀ xs ys : List Int, PySem.W.alikeAll (xs.map .int) (ys.map .int) = true
  | [], ys => by rw [List.map_nil, PySem.W.alikeAll]
  | x :: xs, [] => by rw [List.map_nil, List.map_cons, PySem.W.alikeAll]
  | x :: xs, y :: ys => by
    rw [List.map_cons, List.map_cons, PySem.W.alikeAll, alike_ints xs ys]
    simp [PySem.W.alike]
theorem mm_ok (a b : List Int) : MmOk [eQ PyData.int a, eQ PyData.int b] := by
  have al : ∀ x y : List Int, PySem.W.alike (eQ PyData.int x) (eQ PyData.int y) = true := fun x y => by
    show PySem.W.alike (.tuple (x.map .int)) (.tuple (y.map .int)) = true
    simp only [PySem.W.alike, alike_ints]
  refine ⟨⟨fun x hx y hy => ?_, fun x hx => ?_⟩, ?_⟩
  · simp only [List.mem_cons, List.not_mem_nil, or_false] at hx hy
    rcases hx with rfl | rfl <;> rcases hy with rfl | rfl <;> exact al _ _
  · simp only [List.mem_cons, List.not_mem_nil, or_false] at hx
    rcases hx with rfl | rfl <;> exact fun z => by cases z
  · simp [PyData.depthAll, PyData.depth, depth_ints]
end TR
namespace TR
open PySem PySem.Spec PyProof.Rows L2
/-! ### the best dish of a menu; blocks of equal choices -/
/-! blocks -/
theorem gl_snoc {α : Type} [Inhabited α] (w : List α) (x : α) : gl (w ++ [x]) = x := by
  unfold gl
  rw [List.getLastD_eq_getLast?]
  simp
theorem snoc_of {α : Type} {w : List α} (h : w ≠ []) : ∃ w0 g, w = w0 ++ [g] := ⟨w.dropLast, w.getLast h, (List.dropLast_concat_getLast h).symm⟩
/-! along a line -/
end TR
namespace TR
open PySem PySem.Spec PyProof.Rows L2
/-! ### sides that change at most once along a row -/
theorem irM {a b x : Int} : x ∈ irange a b ↔ a ≤ x ∧ x < b := by
  unfold irange
  rw [List.mem_map]
  constructor
  · rintro ⟨k, hk, rfl⟩
    have := List.mem_range.mp hk
    omega
  · rintro ⟨h1, h2⟩
    exact ⟨(x - a).toNat, List.mem_range.mpr (by omega), by omega⟩
theorem irPw (a b : Int) : (irange a b).Pairwise (· < ·) := by
  unfold irange
  rw [List.pairwise_map]
  exact List.pairwise_lt_range.imp fun {x y} h => by omega
theorem irNd (a b : Int) : (irange a b).Nodup := (irPw a b).imp fun h => by omega
def Step (s : List Bool) (J : Int) : Prop := ∀ i k : Int, 0 ≤ i → i < s.length → 0 ≤ k → k < s.length → (gt s i = gt s k ↔ (J ≤ i ↔ J ≤ k))
def cntL (a : List Bool) : Nat := ((irange 1 ((a.length : Nat) : Int)).filter fun k => !(decide (gt a (k - 1) = gt a k))).length
theorem Step.cnt {s : List Bool} {J : Int} (h : Step s J) : cntL s ≤ 1 := by
  unfold cntL
  refine nodup_le (m := [J]) ((irNd _ _).filter _) fun x hx => ?_
  obtain ⟨h1, h2⟩ := List.mem_filter.mp hx
  have b := irM.mp h1
  have h2 : ¬ (gt s (x - 1) = gt s x) := by simpa using h2
  rw [h (x - 1) x (by omega) (by omega) (by omega) (by omega)] at h2
  rw [List.mem_singleton]
  omega
theorem map_gt {α : Type} [Inhabited α] (s : List α) : (irange 0 ((s.length : Nat) : Int)).map (fun x => gt s x) = s := by
  refine List.ext_getElem (by unfold irange; rw [List.length_map, List.length_map, List.length_range]; omega) fun i h1 h2 => ?_
  rw [List.getElem_map]
  unfold irange
  rw [List.getElem_map, List.getElem_range]
  unfold gt
  rw [show ((0 : Int) + (i : Nat)).toNat = i by omega, List.getD_eq_getElem?_getD, List.getElem?_eq_getElem h2]
  rfl
/-! sorting by a number that grows -/
end TR
namespace TR
/-! ### rows along which each mark changes at most once: points on a line -/
section
variable {α : Type} (P : List α) (s : α → Nat → Bool)
/-- on how many marks two tasters differ -/
def dd (x y : Nat) : Nat := P.countP fun p => s p x != s p y
/-- y stands apart from x and z, which agree -/
def Apart (p : α) (x y z : Nat) : Prop := s p x = s p z ∧ s p x ≠ s p y
end
theorem dd_cons {α : Type} (p : α) (P : List α) (s : α → Nat → Bool) (x y : Nat) : dd (p :: P) s x y = dd P s x y + (if (s p x != s p y) = true then 1 else 0) := by
  unfold dd
  rw [List.countP_cons]
theorem dd_symm {α : Type} (P : List α) (s : α → Nat → Bool) (x y : Nat) : dd P s x y = dd P s y x := by
  unfold dd
  congr 1
  funext p
  cases s p x <;> cases s p y <;> rfl
theorem dd_self {α : Type} (P : List α) (s : α → Nat → Bool) (x : Nat) : dd P s x x = 0 := by
  unfold dd
  rw [List.countP_eq_zero]
  intro p _
  simp
theorem dd_tri {α : Type} (s : α → Nat → Bool) (x y z : Nat) : ∀ P : List α, dd P s x z ≤ dd P s x y + dd P s y z
  | [] => Nat.le_refl _
  | p :: P => by
    have ih := dd_tri s x y z P
    rw [dd_cons, dd_cons, dd_cons]
    cases s p x <;> cases s p y <;> cases s p z <;> simp <;> omega
theorem dd_add {α : Type} (s : α → Nat → Bool) (x y z : Nat) : ∀ P : List α, (∀ p ∈ P, ¬ Apart s p x y z) ↔ dd P s x z = dd P s x y + dd P s y z
  | [] => ⟨fun _ => rfl, fun _ p h => by cases h⟩
  | p :: P => by
    have ih := dd_add s x y z P
    have tr := dd_tri s x y z P
    rw [dd_cons, dd_cons, dd_cons]
    constructor
    · intro h
      have h1 := ih.mp fun q hq => h q (List.mem_cons_of_mem _ hq)
      have h2 := h p List.mem_cons_self
      unfold Apart at h2
      revert h2
      cases s p x <;> cases s p y <;> cases s p z <;> simp <;> omega
    · intro h q hq
      have h1 : dd P s x z = dd P s x y + dd P s y z := by
        revert h
        cases s p x <;> cases s p y <;> cases s p z <;> simp <;> omega
      rcases List.mem_cons.mp hq with rfl | hq
      · unfold Apart
        revert h
        rw [h1]
        cases s q x <;> cases s q y <;> cases s q z <;> simp <;> omega
      · exact ih.mpr h1 q hq
section
variable {α : Type} (P : List α) (s : α → Nat → Bool)
/-- a seating: each taster once, and no mark changes twice -/
structure Seat (m : Nat) (row : List Nat) : Prop where
  perm : row.Perm (List.range m)
  ok : ∀ p ∈ P, ∀ i j k, i < j → j < k → k < row.length → ¬ Apart s p (row.getD i 0) (row.getD j 0) (row.getD k 0)
/-- the tasters stand on a line, so that the marks on which they differ are their distance -/
def OnLine (m : Nat) (pos : Nat → Int) : Prop := ∀ x y, x < m → y < m → (dd P s x y : Int) = (pos x - pos y).natAbs
end
theorem getD_lt {m : Nat} {row : List Nat} (h : row.Perm (List.range m)) {i : Nat} (hi : i < row.length) : row.getD i 0 < m := by
  rw [List.getD_eq_getElem?_getD, List.getElem?_eq_getElem hi]
  exact List.mem_range.mp ((List.Perm.mem_iff h).mp (List.getElem_mem hi))
theorem getD_idx {m : Nat} {row : List Nat} (h : row.Perm (List.range m)) {x : Nat} (hx : x < m) : ∃ i, i < row.length ∧ row.getD i 0 = x := by
  have hm : x ∈ row := (List.Perm.mem_iff h).mpr (List.mem_range.mpr hx)
  obtain ⟨i, hi, e⟩ := List.getElem_of_mem hm
  refine ⟨i, hi, ?_⟩
  rw [List.getD_eq_getElem?_getD, List.getElem?_eq_getElem hi]
  exact e
section
variable {α : Type} {P : List α} {s : α → Nat → Bool} {m : Nat}
theorem Seat.add {row : List Nat} (h : Seat P s m row) {i j k : Nat} (hij : i ≤ j) (hjk : j ≤ k) (hk : k < row.length) :
    dd P s (row.getD i 0) (row.getD k 0) = dd P s (row.getD i 0) (row.getD j 0) + dd P s (row.getD j 0) (row.getD k 0) := by
  rcases Nat.lt_or_ge i j with a | a
  · rcases Nat.lt_or_ge j k with b | b
    · exact (dd_add s _ _ _ P).mp fun p hp => h.ok p hp i j k a b hk
    · have e : j = k := by omega
      subst e
      rw [dd_self]
      omega
  · have e : i = j := by omega
    subst e
    rw [dd_self]
    omega
/-- a seating lies on a line, in its order -/
theorem Seat.line {row : List Nat} (h : Seat P s m row) : ∃ pos : Nat → Int, OnLine P s m pos ∧ ∀ i j, i ≤ j → j < row.length → pos (row.getD i 0) ≤ pos (row.getD j 0) := by
  refine ⟨fun x => (dd P s (row.getD 0 0) x : Int), fun x y hx hy => ?_, fun i j hij hj => ?_⟩
  · obtain ⟨i, hi, rfl⟩ := getD_idx h.perm hx
    obtain ⟨j, hj, rfl⟩ := getD_idx h.perm hy
    show (dd P s (row.getD i 0) (row.getD j 0) : Int) = (((dd P s (row.getD 0 0) (row.getD i 0) : Int)) - (dd P s (row.getD 0 0) (row.getD j 0) : Int)).natAbs
    rcases Nat.le_total i j with a | a
    · have e := h.add (Nat.zero_le i) a hj
      omega
    · have e := h.add (Nat.zero_le j) a hi
      rw [dd_symm P s (row.getD i 0) (row.getD j 0)]
      omega
  · have e := h.add (Nat.zero_le i) hij hj
    show (dd P s (row.getD 0 0) (row.getD i 0) : Int) ≤ (dd P s (row.getD 0 0) (row.getD j 0) : Int)
    omega
theorem line_seat {pos : Nat → Int} (L : OnLine P s m pos) {row : List Nat} (hp : row.Perm (List.range m)) (h : (∀ i j, i ≤ j → j < row.length → pos (row.getD i 0) ≤ pos (row.getD j 0)) ∨ (∀ i j, i ≤ j → j < row.length → pos (row.getD j 0) ≤ pos (row.getD i 0))) : Seat P s m row := by
  refine ⟨hp, fun p hpP i j k hij hjk hk => ?_⟩
  refine (dd_add s _ _ _ P).mpr ?_ p hpP
  have l1 := L _ _ (getD_lt hp (show i < row.length by omega)) (getD_lt hp hk)
  have l2 := L _ _ (getD_lt hp (show i < row.length by omega)) (getD_lt hp (show j < row.length by omega))
  have l3 := L _ _ (getD_lt hp (show j < row.length by omega)) (getD_lt hp hk)
  rcases h with h | h
  · have a := h i j (by omega) (by omega)
    have b := h j k (by omega) hk
    omega
  · have a := h i j (by omega) (by omega)
    have b := h j k (by omega) hk
    omega
/-- along a seating the places go one way -/
theorem Seat.mono {pos : Nat → Int} (L : OnLine P s m pos) {row : List Nat} (h : Seat P s m row) : (∀ i j, i ≤ j → j < row.length → pos (row.getD i 0) ≤ pos (row.getD j 0)) ∨ (∀ i j, i ≤ j → j < row.length → pos (row.getD j 0) ≤ pos (row.getD i 0)) := by
  have key : ∀ i j k, i ≤ j → j ≤ k → k < row.length → (pos (row.getD i 0) - pos (row.getD k 0)).natAbs = (pos (row.getD i 0) - pos (row.getD j 0)).natAbs + (pos (row.getD j 0) - pos (row.getD k 0)).natAbs := fun i j k hij hjk hk => by
    have l1 := L _ _ (getD_lt h.perm (show i < row.length by omega)) (getD_lt h.perm hk)
    have l2 := L _ _ (getD_lt h.perm (show i < row.length by omega)) (getD_lt h.perm (show j < row.length by omega))
    have l3 := L _ _ (getD_lt h.perm (show j < row.length by omega)) (getD_lt h.perm hk)
    have e := h.add hij hjk hk
    omega
  by_cases hl : row.length = 0
  · exact .inl fun i j _ hj => by omega
  · rcases Int.le_total (pos (row.getD 0 0)) (pos (row.getD (row.length - 1) 0)) with a | a
    · refine .inl fun i j hij hj => ?_
      have k1 := key 0 i (row.length - 1) (Nat.zero_le _) (by omega) (by omega)
      have k2 := key i j (row.length - 1) hij (by omega) (by omega)
      omega
    · refine .inr fun i j hij hj => ?_
      have k1 := key 0 i (row.length - 1) (Nat.zero_le _) (by omega) (by omega)
      have k2 := key i j (row.length - 1) hij (by omega) (by omega)
      omega
end
/-! ### the least row with given places -/
def before (key : Nat → Int) (x y : Nat) : Prop := key x < key y ∨ (key x = key y ∧ x < y)
theorem pw_idxN {r : Nat → Nat → Prop} {row : List Nat} (h : row.Pairwise r) {i j : Nat} (hij : i < j) (hj : j < row.length) : r (row.getD i 0) (row.getD j 0) := by
  have e : ∀ k (hk : k < row.length), row.getD k 0 = row[k] := fun k hk => by
    rw [List.getD_eq_getElem?_getD, List.getElem?_eq_getElem hk]
    rfl
  rw [e i (by omega), e j hj]
  exact List.pairwise_iff_getElem.mp h i j (by omega) hj hij
theorem idxN_pw {r : Nat → Nat → Prop} {row : List Nat} (h : ∀ i j, i < j → j < row.length → r (row.getD i 0) (row.getD j 0)) : row.Pairwise r := by
  have e : ∀ k (hk : k < row.length), row.getD k 0 = row[k] := fun k hk => by
    rw [List.getD_eq_getElem?_getD, List.getElem?_eq_getElem hk]
    rfl
  refine List.pairwise_iff_getElem.mpr fun i j hi hj hij => ?_
  have := h i j hij hj
  rw [e i hi, e j hj] at this
  exact this
section
variable {α : Type} {P : List α} {s : α → Nat → Bool} {m : Nat}
/-- sorted by place: a seating -/
theorem sorted_seat {pos : Nat → Int} (L : OnLine P s m pos) {A : List Nat} (hp : A.Perm (List.range m)) (h : A.Pairwise (before pos)) : Seat P s m A := by
  refine line_seat L hp (.inl fun i j hij hj => ?_)
  rcases Nat.lt_or_ge i j with a | a
  · have := pw_idxN h a hj
    unfold before at this
    omega
  · have e : i = j := by omega
    subst e
    exact Int.le_refl _
theorem sorted_seat' {pos : Nat → Int} (L : OnLine P s m pos) {A : List Nat} (hp : A.Perm (List.range m)) (h : A.Pairwise (before fun x => - pos x)) : Seat P s m A := by
  refine line_seat L hp (.inr fun i j hij hj => ?_)
  rcases Nat.lt_or_ge i j with a | a
  · have := pw_idxN h a hj
    unfold before at this
    dsimp only at this
    omega
  · have e : i = j := by omega
    subst e
    exact Int.le_refl _
/-- sorted by the distance from an end: one of the two -/
theorem from_end {pos : Nat → Int} (L : OnLine P s m pos) {e : Nat} (he : e < m) {A : List Nat} (hp : A.Perm (List.range m)) (h : A.Pairwise (before fun x => (dd P s e x : Int))) :
    ((∀ x, x < m → pos e ≤ pos x) → A.Pairwise (before pos)) ∧ ((∀ x, x < m → pos x ≤ pos e) → A.Pairwise (before fun x => - pos x)) := by
  have lt : ∀ {i}, i < A.length → A.getD i 0 < m := fun hi => getD_lt hp hi
  constructor
  · intro g
    refine idxN_pw fun i j hij hj => ?_
    have b := pw_idxN h hij hj
    have l1 := L e _ he (lt (show i < A.length by omega))
    have l2 := L e _ he (lt hj)
    have g1 := g _ (lt (show i < A.length by omega))
    have g2 := g _ (lt hj)
    unfold before at b ⊢
    dsimp only at b ⊢
    omega
  · intro g
    refine idxN_pw fun i j hij hj => ?_
    have b := pw_idxN h hij hj
    have l1 := L e _ he (lt (show i < A.length by omega))
    have l2 := L e _ he (lt hj)
    have g1 := g _ (lt (show i < A.length by omega))
    have g2 := g _ (lt hj)
    unfold before at b ⊢
    dsimp only at b ⊢
    omega
/-- the farthest from anyone is an end -/
theorem far_end {pos : Nat → Int} (L : OnLine P s m pos) {z e : Nat} (hz : z < m) (he : e < m) (h : ∀ x, x < m → dd P s z x ≤ dd P s z e) : (∀ x, x < m → pos e ≤ pos x) ∨ (∀ x, x < m → pos x ≤ pos e) := by
  have le := L z e hz he
  rcases Int.le_total (pos e) (pos z) with a | a
  · by_cases c : ∀ x, x < m → pos e ≤ pos x
    · exact .inl c
    · exfalso
      have ⟨x, hx⟩ := Classical.not_forall.mp c
      have ⟨hx1, hx2⟩ := Classical.not_imp.mp hx
      have l := L z x hz hx1
      have := h x hx1
      omega
  · by_cases c : ∀ x, x < m → pos x ≤ pos e
    · exact .inr c
    · exfalso
      have ⟨x, hx⟩ := Classical.not_forall.mp c
      have ⟨hx1, hx2⟩ := Classical.not_imp.mp hx
      have l := L z x hz hx1
      have := h x hx1
      omega
end
end TR
namespace TR
open PySem PySem.Spec PyProof.Rows L2
/-! ### sides along a row, and seatings -/
theorem change_at {f : Nat → Bool} : ∀ (d i : Nat), f i ≠ f (i + d) → ∃ t, i < t ∧ t ≤ i + d ∧ f (t - 1) ≠ f t
  | 0, i, h => absurd rfl h
  | d + 1, i, h => by
    by_cases e : f i = f (i + d)
    · refine ⟨i + d + 1, by omega, Nat.le_refl _, ?_⟩
      rw [show i + d + 1 - 1 = i + d by omega, ← e]
      exact h
    · obtain ⟨t, h1, h2, h3⟩ := change_at d i e
      exact ⟨t, h1, by omega, h3⟩
theorem cntL_iff (a : List Bool) : cntL a ≤ 1 ↔ ∀ i j k : Nat, i < j → j < k → k < a.length → ¬ (a.getD i false = a.getD k false ∧ a.getD i false ≠ a.getD j false) := by
  have memF : ∀ x : Int, x ∈ ((irange 1 ((a.length : Nat) : Int)).filter fun k => !(decide (gt a (k - 1) = gt a k))) ↔ (1 ≤ x ∧ x < (a.length : Int)) ∧ a.getD (x - 1).toNat false ≠ a.getD x.toNat false := fun x => by
    rw [List.mem_filter, irM]
    refine and_congr_right fun _ => ?_
    show (!(decide (a.getD (x - 1).toNat false = a.getD x.toNat false))) = true ↔ _
    simp
  constructor
  · rintro h i j k hij hjk hk ⟨e1, e2⟩
    obtain ⟨t1, a1, a2, a3⟩ := change_at (f := fun i => a.getD i false) (j - i) i (by rw [show i + (j - i) = j by omega]; exact e2)
    obtain ⟨t2, b1, b2, b3⟩ := change_at (f := fun i => a.getD i false) (k - j) j (by rw [show j + (k - j) = k by omega]; exact fun g => e2 (e1.trans g.symm))
    have m1 := (memF (t1 : Int)).mpr ⟨by omega, by rw [show ((t1 : Int) - 1).toNat = t1 - 1 by omega, Int.toNat_natCast]; exact a3⟩
    have m2 := (memF (t2 : Int)).mpr ⟨by omega, by rw [show ((t2 : Int) - 1).toNat = t2 - 1 by omega, Int.toNat_natCast]; exact b3⟩
    have := nodup_le (l := [(t1 : Int), (t2 : Int)]) (m := (irange 1 ((a.length : Nat) : Int)).filter fun k => !(decide (gt a (k - 1) = gt a k))) (by
      refine List.nodup_cons.mpr ⟨fun g => ?_, List.pairwise_singleton ..⟩
      have := List.mem_singleton.mp g
      omega) fun x hx => by
      rcases List.mem_cons.mp hx with e | hx
      · rw [e]; exact m1
      · rw [List.mem_singleton.mp hx]; exact m2
    have : 2 ≤ cntL a := this
    omega
  · intro h
    unfold cntL
    have pw := (irPw 1 ((a.length : Nat) : Int)).filter fun k => !(decide (gt a (k - 1) = gt a k))
    cases e : ((irange 1 ((a.length : Nat) : Int)).filter fun k => !(decide (gt a (k - 1) = gt a k))) with
    | nil => exact Nat.zero_le _
    | cons t1 l =>
      cases l with
      | nil => exact Nat.le_refl _
      | cons t2 l =>
        exfalso
        rw [e] at pw memF
        have lt := (List.pairwise_cons.mp pw).1 t2 List.mem_cons_self
        obtain ⟨⟨c1, c2⟩, c3⟩ := (memF t1).mp List.mem_cons_self
        obtain ⟨⟨d1, d2⟩, d3⟩ := (memF t2).mp (List.mem_cons_of_mem _ List.mem_cons_self)
        by_cases g : a.getD (t1 - 1).toNat false = a.getD t2.toNat false
        · exact h (t1 - 1).toNat t1.toNat t2.toNat (by omega) (by omega) (by omega) ⟨g, c3⟩
        · have e1 : a.getD t1.toNat false = a.getD t2.toNat false := by
            revert c3 g
            cases a.getD (t1 - 1).toNat false <;> cases a.getD t1.toNat false <;> cases a.getD t2.toNat false <;> simp
          have ne : t1 ≠ t2 - 1 := fun z => by
            rw [z] at e1
            exact d3 e1
          exact h t1.toNat (t2 - 1).toNat t2.toNat (by omega) (by omega) (by omega) ⟨e1, fun z => d3 (z.symm.trans e1)⟩
/-- sides, by number -/
abbrev sd (ts : Tas) (p : Int × Int) (x : Nat) : Bool := (Sd2 ts p.1 p.2).getD x false
abbrev nR (r : List Int) : List Nat := r.map Int.toNat
theorem cnt_L (s : List Bool) (r : List Int) : cnt s r = cntL (r.map fun x => gt s x) := by
  unfold cnt cntL
  rw [List.length_map]
theorem nR_perm {N : Nat} {r : List Int} (hr : Rank N r) : (nR r).Perm (List.range N) := by
  have := List.Perm.map Int.toNat hr
  unfold rng at this
  rw [List.map_map] at this
  have e : (List.range N).map (Int.toNat ∘ fun i : Nat => (i : Int)) = List.range N := by
    refine (List.map_congr_left fun i _ => ?_).trans (List.map_id _)
    show ((i : Int)).toNat = i
    omega
  rw [e] at this
  exact this
theorem nR_get {s : List Bool} {r : List Int} {i : Nat} (h : i < r.length) : (r.map fun x => gt s x).getD i false = s.getD ((nR r).getD i 0) false := by
  rw [List.getD_eq_getElem?_getD, List.getElem?_map, List.getElem?_eq_getElem h, List.getD_eq_getElem?_getD (l := nR r), List.getElem?_map, List.getElem?_eq_getElem h]
  rfl
/-- no pair changes twice along the row -/
abbrev runsB (m : Nat) (ts : Tas) (r : List Int) : Bool := ((pairs m).map fun p => Sd2 ts p.1 p.2).all fun s => decide (cnt s r ≤ 1)
theorem runsB_seat {m : Nat} {ts : Tas} {r : List Int} (hr : Rank ts.length r) : runsB m ts r = true ↔ Seat (pairs m) (sd ts) ts.length (nR r) := by
  rw [List.all_eq_true]
  have lr : (nR r).length = r.length := List.length_map _
  constructor
  · intro h
    refine ⟨nR_perm hr, fun p hp i j k hij hjk hk => ?_⟩
    have := of_decide_eq_true (h _ (List.mem_map.mpr ⟨p, hp, rfl⟩))
    rw [cnt_L, cntL_iff] at this
    have := this i j k hij hjk (by rw [List.length_map]; omega)
    rw [nR_get (by omega), nR_get (by omega), nR_get (by omega)] at this
    exact this
  · rintro ⟨_, h⟩ s hs
    obtain ⟨p, hp, rfl⟩ := List.mem_map.mp hs
    refine decide_eq_true ?_
    rw [cnt_L, cntL_iff]
    intro i j k hij hjk hk
    rw [List.length_map] at hk
    have := h p hp i j k hij hjk (by omega)
    rw [nR_get (by omega), nR_get (by omega), nR_get (by omega)]
    exact this
/-! sorted rows -/
theorem enN_ir {α : Type} [Inhabited α] (l : List α) : enN l = (irange 0 ((l.length : Nat) : Int)).map fun d => (d, gt l d) := by
  unfold enN irange
  rw [List.map_map]
  refine List.ext_getElem (by rw [List.length_map, List.length_zipIdx, List.length_map, List.length_range]; omega) fun i h1 h2 => ?_
  rw [List.getElem_map, List.getElem_zipIdx, List.getElem_map, List.getElem_range]
  have hi : i < l.length := by rw [List.length_map, List.length_zipIdx] at h1; exact h1
  show (((0 + i : Nat) : Int), l[i]) = ((0 : Int) + (i : Nat), gt l ((0 : Int) + (i : Nat)))
  unfold gt
  rw [show ((0 : Int) + (i : Nat)).toNat = i by omega, List.getD_eq_getElem?_getD, List.getElem?_eq_getElem hi]
  simp
theorem rowBy_perm (N : Nat) (f : Int → Int) : (rowBy N f).Perm (irange 0 (N : Int)) := by
  have := (srtP_perm ((irange 0 (N : Int)).map fun x => (f x, x))).map (·.2)
  rw [List.map_map] at this
  refine this.trans ?_
  rw [show ((fun p : Int × Int => p.2) ∘ fun x => (f x, x)) = id from rfl, List.map_id]
theorem rowBy_rank (N : Nat) (f : Int → Int) : Rank N (rowBy N f) := by
  have := rowBy_perm N f
  rw [irange_rng] at this
  exact this
theorem rowBy_before (N : Nat) (f : Int → Int) : (nR (rowBy N f)).Pairwise (before fun x => f (x : Int)) := by
  have nd := (rowBy_rank N f).nodup
  have pw := srtP_sorted ((irange 0 (N : Int)).map fun x => (f x, x))
  have mem : ∀ x ∈ srtN pI ((irange 0 (N : Int)).map fun x => (f x, x)), x.1 = f x.2 ∧ 0 ≤ x.2 := fun x hx => by
    obtain ⟨y, hy, rfl⟩ := List.mem_map.mp ((srtP_perm _).mem_iff.mp hx)
    exact ⟨rfl, (irM.mp hy).1⟩
  have nd2 : (srtN pI ((irange 0 (N : Int)).map fun x => (f x, x))).Pairwise fun a b => a.2 ≠ b.2 := List.pairwise_map.mp nd
  show (List.map Int.toNat (List.map _ _)).Pairwise _
  rw [List.map_map, List.pairwise_map]
  refine (pw.and nd2).imp_of_mem fun {a b} ha hb h => ?_
  obtain ⟨a1, a2⟩ := mem a ha
  obtain ⟨b1, b2⟩ := mem b hb
  have h1 : a.1 < b.1 ∨ (a.1 = b.1 ∧ a.2 ≤ b.2) := of_decide_eq_true h.1
  show f ((a.2.toNat : Nat) : Int) < f ((b.2.toNat : Nat) : Int) ∨ (f ((a.2.toNat : Nat) : Int) = f ((b.2.toNat : Nat) : Int) ∧ a.2.toNat < b.2.toNat)
  rw [Int.toNat_of_nonneg a2, Int.toNat_of_nonneg b2, ← a1, ← b1]
  have := h.2
  omega
/-! the lesser of two rows -/
theorem min_lt (a b : List Int) : min2N (eQ PyData.int) a b = if b < a then b else a := by
  unfold min2N
  have e : PySem.W.dataLt (eQ PyData.int b) (eQ PyData.int a) = decide (b < a) := by
    show PySem.W.dataLt (.tuple (b.map .int)) (.tuple (a.map .int)) = _
    rw [PySem.W.dataLt_tuple]
    exact PySem.W.dataLt_ints b a
  rw [e]
  by_cases h : b < a <;> simp [h]
theorem min_or (a b : List Int) : min2N (eQ PyData.int) a b = a ∨ min2N (eQ PyData.int) a b = b := by
  rw [min_lt]
  by_cases h : b < a
  · exact .inr (if_pos h)
  · exact .inl (if_neg h)
end TR
namespace TR
open PySem PySem.Spec PyProof.Rows L2
/-! ### the program's smallest seating (laws without their own) -/
section
variable {m : Nat} {ts : Tas}
abbrev D0 (m : Nat) (ts : Tas) (x y : Nat) : Nat := dd (pairs m) (sd ts) x y
abbrev Line (m : Nat) (ts : Tas) (pos : Nat → Int) : Prop := OnLine (pairs m) (sd ts) ts.length pos
theorem sd_pref {x : Nat} (hx : x < ts.length) (p : Int × Int) : sd ts p x = v_prefers (ts[x]).1 p.1 p.2 := by
  unfold sd Sd2
  rw [List.getD_eq_getElem?_getD, List.getElem?_map, List.getElem?_eq_getElem hx]
  rfl
theorem rk_at {x : Nat} (hx : x < ts.length) : gt (ts.map fun x => x.1) (x : Int) = (ts[x]).1 := by
  unfold gt
  rw [List.getD_eq_getElem?_getD, List.getElem?_map, Int.toNat_natCast, List.getElem?_eq_getElem hx]
  rfl
theorem dist_dd {M : Nat} (wf : WfT 8 M m ts) {x y : Nat} (hx : x < ts.length) (hy : y < ts.length) : v_distance (gt (ts.map fun x => x.1) (x : Int)) (gt (ts.map fun x => x.1) (y : Int)) = (D0 m ts x y : Int) := by
  rw [rk_at hx, rk_at hy]
  unfold v_distance v_differences
  rw [(wf.all _ (List.getElem_mem hx)).1.len, allpairs_v wf.nD, List.map_id', ← List.countP_eq_length_filter, List.countP_map]
  congr 1
  refine List.countP_congr fun p _ => ?_
  rw [sd_pref hx, sd_pref hy]
  show (!(decide (v_prefers (ts[x]).1 p.1 p.2 = v_prefers (ts[y]).1 p.1 p.2))) = true ↔ _
  cases v_prefers (ts[x]).1 p.1 p.2 <;> cases v_prefers (ts[y]).1 p.1 p.2 <;> simp
abbrev rowF (m : Nat) (ts : Tas) (e : Int) : List Int := rowBy ts.length fun k => v_distance (gt (ts.map fun x => x.1) e) (gt (ts.map fun x => x.1) k)
theorem row_v (m : Nat) (ts : Tas) (e : Int) : v_row_from (tb m ts) e = rowF m ts e := by
  unfold v_row_from v_row_from_s1 v_rankings_of
  show ((srtN pI ((enN (ts.map fun x => x.1)).map _)).map _) = _
  rw [enN_ir, List.map_map, List.length_map]
  rfl
theorem rowF_before {M : Nat} (wf : WfT 8 M m ts) {e : Nat} (he : e < ts.length) : (nR (rowF m ts (e : Int))).Pairwise (before fun x => (D0 m ts e x : Int)) := by
  refine (rowBy_before ts.length _).imp_of_mem fun {a b} ha hb h => ?_
  have a1 := List.mem_range.mp ((nR_perm (rowBy_rank ts.length _)).mem_iff.mp ha)
  have b1 := List.mem_range.mp ((nR_perm (rowBy_rank ts.length _)).mem_iff.mp hb)
  unfold before at h ⊢
  dsimp only at h ⊢
  rw [dist_dd wf he a1, dist_dd wf he b1] at h
  exact h
theorem gl_last {α : Type} [Inhabited α] {l : List α} (h : l ≠ []) : ∃ l0, l = l0 ++ [gl l] := by
  obtain ⟨w, g, rfl⟩ := snoc_of h
  exact ⟨w, by rw [gl_snoc]⟩
theorem rowF_ne (n1 : 1 ≤ ts.length) (e : Int) : rowF m ts e ≠ [] := fun z => by
  have := (rowBy_rank ts.length fun k => v_distance (gt (ts.map fun x => x.1) e) (gt (ts.map fun x => x.1) k)).len
  rw [show rowBy ts.length _ = _ from z] at this
  have this : 0 = ts.length := this
  omega
theorem far_last {M : Nat} (wf : WfT 8 M m ts) {e : Nat} (he : e < ts.length) : ∃ f : Nat, gl (rowF m ts (e : Int)) = (f : Int) ∧ f < ts.length ∧ ∀ x, x < ts.length → D0 m ts e x ≤ D0 m ts e f := by
  have R := rowBy_rank ts.length fun k => v_distance (gt (ts.map fun x => x.1) (e : Int)) (gt (ts.map fun x => x.1) k)
  obtain ⟨l0, hl⟩ := gl_last (rowF_ne (m := m) (show 1 ≤ ts.length by omega) (e : Int))
  have mem : gl (rowF m ts (e : Int)) ∈ rowF m ts (e : Int) := by
    have : gl (rowF m ts (e : Int)) ∈ l0 ++ [gl (rowF m ts (e : Int))] := by simp
    rwa [← hl] at this
  have b := R.bnd mem
  refine ⟨(gl (rowF m ts (e : Int))).toNat, by omega, by omega, fun x hx => ?_⟩
  have mx : (x : Int) ∈ rowF m ts (e : Int) := R.mem (by omega) (by omega)
  have pw := rowF_before wf he
  rw [hl] at pw mx
  rcases List.mem_append.mp mx with h | h
  · have pw : (l0.map Int.toNat ++ [(gl (rowF m ts (e : Int))).toNat]).Pairwise (before fun x => (D0 m ts e x : Int)) := by
      have := pw
      unfold nR at this
      rw [List.map_append] at this
      exact this
    have := (List.pairwise_append.mp pw).2.2 x (List.mem_map.mpr ⟨(x : Int), h, by omega⟩) _ List.mem_cons_self
    unfold before at this
    dsimp only at this
    omega
  · have e2 := List.mem_singleton.mp h
    rw [← e2, Int.toNat_natCast]
    exact Nat.le_refl _
theorem find_rows {M : Nat} (wf : WfT 8 M m ts) {pos : Nat → Int} (L : Line m ts pos) : ∃ A B : List Int, Rank ts.length A ∧ Rank ts.length B ∧ (((nR A).Pairwise (before pos) ∧ (nR B).Pairwise (before fun x => - pos x)) ∨ ((nR A).Pairwise (before fun x => - pos x) ∧ (nR B).Pairwise (before pos))) ∧ v_find_seating (tb m ts) = bif v_is_seating (tb m ts) (eQ .int (min2N (eQ PyData.int) A B)) then some (min2N (eQ PyData.int) A B) else none := by
  have n1 := wf.l1
  obtain ⟨e, he, eN, emax⟩ := far_last wf (e := 0) (by omega)
  have he : gl (rowF m ts (0 : Int)) = (e : Int) := he
  obtain ⟨f, hf, fN, fmax⟩ := far_last wf (e := e) eN
  have R1 := rowBy_rank ts.length fun k => v_distance (gt (ts.map fun x => x.1) (e : Int)) (gt (ts.map fun x => x.1) k)
  have R2 := rowBy_rank ts.length fun k => v_distance (gt (ts.map fun x => x.1) (f : Int)) (gt (ts.map fun x => x.1) k)
  refine ⟨rowF m ts (e : Int), rowF m ts (f : Int), R1, R2, ?_, ?_⟩
  · have E1 := from_end L eN (nR_perm R1) (rowF_before wf eN)
    have E2 := from_end L fN (nR_perm R2) (rowF_before wf fN)
    have d : ∀ x, x < ts.length → (D0 m ts e x : Int) = (pos e - pos x).natAbs := fun x hx => L e x eN hx
    rcases far_end L (z := 0) (by omega) eN emax with h | h
    · refine .inl ⟨E1.1 h, E2.2 fun x hx => ?_⟩
      have := fmax x hx
      have := d x hx
      have := d f fN
      have := h x hx
      have := h f fN
      omega
    · refine .inr ⟨E1.2 h, E2.1 fun x hx => ?_⟩
      have := fmax x hx
      have := d x hx
      have := d f fN
      have := h x hx
      have := h f fN
      omega
  · unfold v_find_seating
    rw [row_v m ts 0, he, row_v m ts (e : Int)]
    unfold v_find_seating_s1
    rw [hf, row_v m ts (f : Int)]
theorem seat_of {m : Nat} (m8 : m ≤ 8) {ts : Tas} {r : List Int} (hr : Rank ts.length r) (h : runsB m ts r = true) : v_is_seating (tb m ts) (eQ .int r) = true := by
  show (bif !(v_is_order (ts.length : Int) (eQ .int r)) then false else ((v_all_pairs (m : Int)).map fun x => v_changes_once (tb m ts) (dQ dI (eQ .int r)) x).all id) = true
  rw [order_iff.mpr ⟨r, rfl, hr⟩, show dQ dI (eQ PyData.int r) = r from dI_ints r, allpairs_v m8, List.map_map, List.all_map]
  unfold runsB at h
  rw [List.all_map] at h
  show List.all _ _ = true
  rw [← h]
  congr 1
  funext p
  exact once_eq m ts r p.1 p.2
/-! conditions -/
theorem diffs_C {a b : List Int} (m8 : m ≤ 8) (ha : Rank m a) (hb : Rank m b) : C_differences a b := by
  unfold C_differences
  have l8 := plen m8
  rw [ha.len, allpairs_v m8]
  refine ⟨allpairs_C m8, by rw [List.length_map]; exact lim (by omega), fun x hx => ?_⟩
  obtain ⟨p, hp, rfl⟩ := List.mem_map.mp hx
  obtain ⟨h0, h1, h2⟩ := mem_pairs hp
  have M : ∀ {c : List Int}, Rank m c → p.1 ∈ c ∧ p.2 ∈ c := fun hc => ⟨hc.mem h0 (by omega), hc.mem (by omega) h2⟩
  exact ⟨rfl, M ha, M hb⟩
theorem row_C (wf : WfT 8 16 m ts) {e : Int} (e0 : 0 ≤ e) (e1 : e < ts.length) : C_row_from (tb m ts) e := by
  have lM := wf.lM
  have len : (ts.map fun x => x.1).length = ts.length := List.length_map _
  refine ⟨lim (by show ts.length ≤ 1000; omega), ?_⟩
  show C_row_from_s1 e (ts.map fun x => x.1)
  refine ⟨by rw [enN_len, len]; exact lim (by omega), fun x hx => ⟨⟨e0, by rw [len]; exact e1⟩, ?_⟩, srtOk_p _, ?_⟩
  · rw [enN_ir] at hx
    obtain ⟨d, hd, rfl⟩ := List.mem_map.mp hx
    have b := irM.mp hd
    rw [len] at b
    have R : ∀ i : Int, 0 ≤ i → i < ts.length → Rank m (gt (ts.map fun x => x.1) i) := fun i h0 h1 => by
      have := rk_at (ts := ts) (x := i.toNat) (by omega)
      rw [Int.toNat_of_nonneg h0] at this
      rw [this]
      exact (wf.all _ (List.getElem_mem _)).1
    exact diffs_C wf.nD (R e e0 e1) (R d b.1 b.2)
  · rw [show (srtN (eP PyData.int PyData.int) _).length = _ from (List.mergeSort_perm _ _).length_eq, List.length_map, enN_len, len]
    exact lim (by omega)
theorem seat_C {M : Nat} (wf : WfT 8 M m ts) (hM : M ≤ 100) {d : PyData} (hl : (items d).length ≤ 1000) : C_is_seating (tb m ts) d := by
  have m8 := wf.nD
  have lM := wf.lM
  have hp := plen m8
  refine ⟨order_C (n := ts.length) (by omega) hl, fun h => ?_⟩
  have h : v_is_order (ts.length : Int) d = true := by simpa using h
  obtain ⟨r, rfl, hr⟩ := order_iff.mp h
  have q1 : dQ dI (eQ PyData.int r) = r := dI_ints r
  refine ⟨allpairs_C m8, ?_, fun x hx => ⟨by rw [q1], ?_⟩⟩
  · rw [allpairs_v m8, List.length_map]; exact lim (by omega)
  · rw [allpairs_v m8] at hx
    obtain ⟨p, hp2, rfl⟩ := List.mem_map.mp hx
    rw [q1]
    exact once_C wf hM (by rw [hr.len]; omega) (fun x hx => hr.bnd hx) hp2
theorem find_C (wf : WfT 8 16 m ts) : C_find_seating (tb m ts) := by
  have n1 := wf.l1
  have lM := wf.lM
  have gb : ∀ e : Int, 0 ≤ gl (rowF m ts e) ∧ gl (rowF m ts e) < ts.length := fun e => by
    obtain ⟨l0, hl⟩ := gl_last (rowF_ne (m := m) n1 e)
    have mem : gl (rowF m ts e) ∈ rowF m ts e := by
      have : gl (rowF m ts e) ∈ l0 ++ [gl (rowF m ts e)] := by simp
      rwa [← hl] at this
    exact (rowBy_rank ts.length _).bnd mem
  unfold C_find_seating
  rw [row_v, row_v]
  refine ⟨row_C wf (by decide) (by omega), rowF_ne n1 _, row_C wf (gb 0).1 (gb 0).2, ?_⟩
  unfold C_find_seating_s1
  rw [row_v]
  refine ⟨rowF_ne n1 _, row_C wf (gb _).1 (gb _).2, mm_ok _ _, seat_C wf (by decide) ?_⟩
  show (List.map _ _).length ≤ 1000
  rw [List.length_map]
  rcases min_or (rowF m ts (gl (rowF m ts 0))) (rowF m ts (gl (rowF m ts (gl (rowF m ts 0))))) with e | e <;> rw [e] <;> rw [(rowBy_rank ts.length _).len] <;> omega
end
end TR
namespace TR
open PySem PySem.Spec PyProof.Rows L2
/-! ### swaps: each changes one pair; ways of swaps -/
abbrev Dn (n : Nat) (a b : List Int) : Nat := (diffs n a b).length
theorem dn_tri (n : Nat) (a b c : List Int) : Dn n a b ≤ Dn n a c + Dn n c b := by
  have := dist_tri n a b c
  show (diffs n a b).length ≤ (diffs n a c).length + (diffs n c b).length
  omega
theorem dn_symm (n : Nat) (a b : List Int) : Dn n a b = Dn n b a := by
  show (diffs n a b).length = _
  rw [diffs_symm]
theorem dn_self (n : Nat) (a : List Int) : Dn n a a = 0 := by
  show (List.filter _ _).length = 0
  rw [List.filter_eq_nil_iff.mpr fun p _ => by simp [agr]]
  rfl
theorem pairs_nd : ∀ n, n ≤ 8 → (pairs n).Nodup := by decide
theorem cnt_one {α : Type} [DecidableEq α] {f g : α → Bool} {p0 : α} : ∀ {L : List α}, L.Nodup → p0 ∈ L → f p0 = true → g p0 = false → (∀ p ∈ L, p ≠ p0 → f p = g p) → (L.filter f).length = (L.filter g).length + 1
  | [], _, h, _, _, _ => by cases h
  | p :: L, nd, h, hf, hg, he => by
    obtain ⟨n1, n2⟩ := List.nodup_cons.mp nd
    by_cases e : p = p0
    · subst e
      have same : ∀ L : List α, (∀ q ∈ L, f q = g q) → L.filter f = L.filter g := fun L h => List.filter_congr h
      rw [List.filter_cons_of_pos hf, List.filter_cons_of_neg (by rw [hg]; exact Bool.false_ne_true), same L fun q hq => he q (List.mem_cons_of_mem _ hq) fun z => n1 (z ▸ hq)]
      rfl
    · have ih := cnt_one n2 ((List.mem_cons.mp h).resolve_left fun z => e z.symm) hf hg fun q hq => he q (List.mem_cons_of_mem _ hq)
      have ep := he p List.mem_cons_self e
      cases hp : g p with
      | true => rw [List.filter_cons_of_pos (ep.trans hp), List.filter_cons_of_pos hp, List.length_cons, List.length_cons, ih]
      | false => rw [List.filter_cons_of_neg (by rw [ep, hp]; exact Bool.false_ne_true), List.filter_cons_of_neg (by rw [hp]; exact Bool.false_ne_true), ih]
theorem swp_get {ns : List Int} {k : Nat} (h : k + 1 < ns.length) (i : Nat) : (swp ns k)[i]? = if i = k then ns[k + 1]? else if i = k + 1 then ns[k]? else ns[i]? := by
  unfold swp
  have lt : (ns.take k).length = k := by rw [List.length_take]; omega
  rcases Nat.lt_trichotomy i k with a | a | a
  · rw [if_neg (by omega), if_neg (by omega), List.getElem?_append_left (by omega), List.getElem?_take_of_lt a]
  · subst a
    rw [if_pos rfl, List.getElem?_append_right (by omega), lt, Nat.sub_self]
    show some (ns.getD (i + 1) 0) = _
    rw [getD_of h, List.getElem?_eq_getElem h]
  · rw [if_neg (by omega), List.getElem?_append_right (by omega), lt]
    by_cases b : i = k + 1
    · subst b
      rw [if_pos rfl, show k + 1 - k = 1 by omega]
      show some (ns.getD k 0) = _
      rw [getD_of (by omega), List.getElem?_eq_getElem (by omega)]
    · rw [if_neg b, List.getElem?_append_right (by show 2 ≤ _; omega)]
      show (ns.drop (k + 2))[i - k - 2]? = _
      rw [List.getElem?_drop]
      congr 1
      omega
section
variable {n : Nat} {x b : List Int} {k : Nat}
theorem swp_idx (hx : Rank n x) (hk : k + 1 < n) {z : Int} (hz : z ∈ x) : (swp x k).idxOf z = if x.idxOf z = k then k + 1 else if x.idxOf z = k + 1 then k else x.idxOf z := by
  have hl := hx.len
  have nd := (swp_rank hx hk).nodup
  have at_ := at_idx hz
  have g := swp_get (ns := x) (k := k) (by omega)
  by_cases e1 : x.idxOf z = k
  · rw [if_pos e1]
    refine idx_at nd ?_
    rw [g, if_neg (by omega), if_pos rfl, ← e1]
    exact at_
  · rw [if_neg e1]
    by_cases e2 : x.idxOf z = k + 1
    · rw [if_pos e2]
      refine idx_at nd ?_
      rw [g, if_pos rfl, ← e2]
      exact at_
    · rw [if_neg e2]
      refine idx_at nd ?_
      rw [g, if_neg e1, if_neg e2]
      exact at_
end
/-! steps -/
def Stp (n : Nat) : List (List Int) → Prop
  | [] => True
  | [_] => True
  | x :: y :: t => Dn n x y = 1 ∧ Stp n (y :: t)
theorem stp_app {n : Nat} : ∀ {A : List (List Int)} {g : List Int} {T : List (List Int)}, Stp n (A ++ [g]) → Stp n (g :: T) → Stp n (A ++ g :: T)
  | [], g, T, _, h => h
  | [a], g, T, h1, h2 => ⟨h1.1, h2⟩
  | a :: b :: A, g, T, h1, h2 => ⟨h1.1, stp_app (A := b :: A) h1.2 h2⟩
theorem stp_idx {n : Nat} : ∀ {l : List (List Int)}, Stp n l → ∀ i (h : i + 1 < l.length), Dn n l[i] l[i + 1] = 1
  | [], _, i, h => by simp at h
  | [_], _, i, h => by simp at h
  | x :: y :: t, h, 0, _ => h.1
  | x :: y :: t, h, i + 1, hi => stp_idx (l := y :: t) h.2 i (by simpa using hi)
section
variable {n : Nat}
theorem cutN_len {α : Type} (l : List α) (a b : Option Int) : (cutN l a b).length ≤ l.length := by
  unfold cutN
  rw [List.length_take, List.length_drop]; omega
/-- a way from a to b -/
structure Way (n : Nat) (a b : List Int) (w : List (List Int)) : Prop where
  hd : ∃ t, w = a :: t
  lst : ∃ l0, w = l0 ++ [b]
  rk : ∀ x ∈ w, Rank n x
  st : Stp n w
  len : w.length = Dn n a b + 1
  bt : ∀ x ∈ w, Dn n a x + Dn n x b = Dn n a b
theorem way_one {a : List Int} (ha : Rank n a) : Way n a a [a] := ⟨⟨[], rfl⟩, ⟨[], rfl⟩, fun x hx => by rw [List.mem_singleton.mp hx]; exact ha, trivial, by rw [dn_self]; rfl, fun x hx => by rw [List.mem_singleton.mp hx, dn_self]⟩
theorem way_more {a b c : List Int} {w v : List (List Int)} (h : Way n a b w) (g : Way n b c v) (add : Dn n a b + Dn n b c = Dn n a c) : Way n a c (w ++ v.tail) := by
  obtain ⟨t, ew⟩ := h.hd
  obtain ⟨l0, el⟩ := h.lst
  obtain ⟨s, ev⟩ := g.hd
  obtain ⟨k0, ek⟩ := g.lst
  have e : w ++ v.tail = l0 ++ v := by rw [el, ev, List.tail_cons, List.append_assoc]; rfl
  refine ⟨⟨t ++ v.tail, by rw [ew]; rfl⟩, ⟨l0 ++ k0, by rw [e, ek, List.append_assoc]⟩, fun x hx => ?_, ?_, ?_, fun x hx => ?_⟩
  · rw [e] at hx
    rcases List.mem_append.mp hx with q | q
    · exact h.rk x (by rw [el]; exact List.mem_append_left _ q)
    · exact g.rk x q
  · rw [e, ev]
    exact stp_app (by rw [← el]; exact h.st) (by rw [← ev]; exact g.st)
  · rw [List.length_append, List.length_tail, h.len, g.len]
    omega
  · rw [e] at hx
    rcases List.mem_append.mp hx with q | q
    · have h1 := h.bt x (by rw [el]; exact List.mem_append_left _ q)
      have := dn_tri n x c b
      have := dn_tri n a c x
      omega
    · have h1 := g.bt x q
      have := dn_tri n a x b
      have := dn_tri n a c x
      omega
end
end TR
namespace TR
open PySem PySem.Spec PyProof.Rows L2
/-! ### places on a way: distances are differences -/
theorem gt_at {α : Type} [Inhabited α] {l : List α} {i : Int} (h0 : 0 ≤ i) (h1 : i < l.length) : gt l i = l[i.toNat]'(by omega) := by
  unfold gt
  rw [List.getD_eq_getElem?_getD, List.getElem?_eq_getElem (by omega)]
  rfl
theorem gt_memN {α : Type} [Inhabited α] {l : List α} {i : Int} (h0 : 0 ≤ i) (h1 : i < l.length) : gt l i ∈ l := by
  rw [gt_at h0 h1]
  exact List.getElem_mem _
theorem gt_map {α β : Type} [Inhabited α] [Inhabited β] (f : α → β) {l : List α} {i : Int} (h0 : 0 ≤ i) (h1 : i < l.length) : gt (l.map f) i = f (gt l i) := by
  rw [gt_at h0 (by rw [List.length_map]; exact h1), gt_at h0 h1, List.getElem_map]
section
variable {n : Nat} {a b : List Int} {w : List (List Int)}
theorem stp_le : ∀ {l : List (List Int)}, Stp n l → ∀ (d i : Nat) (h : i + d < l.length), Dn n (l[i]'(by omega)) l[i + d] ≤ d
  | l, hs, 0, i, h => by
    show Dn n l[i] l[i] ≤ 0
    rw [dn_self]
    exact Nat.le_refl 0
  | l, hs, d + 1, i, h => by
    have r := stp_le hs d i (by omega)
    have s : Dn n (l[i + d]'(by omega)) l[i + (d + 1)] = 1 := stp_idx hs (i + d) (by omega)
    have t := dn_tri n (l[i]'(by omega)) (l[i + (d + 1)]) (l[i + d]'(by omega))
    omega
theorem stp_le2 {l : List (List Int)} (hs : Stp n l) {i j : Nat} (hij : i ≤ j) (h : j < l.length) : Dn n (l[i]'(by omega)) l[j] ≤ j - i := by
  obtain ⟨d, rfl⟩ := Nat.exists_eq_add_of_le hij
  have := stp_le hs d i h
  omega
theorem way_dist (hw : Way n a b w) {i j : Nat} (hij : i ≤ j) (h : j < w.length) : Dn n (w[i]'(by omega)) w[j] = j - i := by
  have hl := hw.len
  have ea : w[0]'(by omega) = a := by
    obtain ⟨t, e⟩ := hw.hd
    subst e
    rfl
  have eb : w[w.length - 1]'(by omega) = b := by
    obtain ⟨l0, e⟩ := hw.lst
    subst e
    simp
  have A := stp_le2 hw.st (Nat.zero_le i) (by omega : i < w.length)
  have B := stp_le2 hw.st hij h
  have C := stp_le2 hw.st (by omega : j ≤ w.length - 1) (by omega)
  rw [ea] at A
  rw [eb] at C
  have T1 := dn_tri n a b w[j]
  have T2 := dn_tri n a w[j] (w[i]'(by omega))
  omega
theorem pdist (hw : Way n a b w) {i j : Int} (i0 : 0 ≤ i) (i1 : i < w.length) (j0 : 0 ≤ j) (j1 : j < w.length) : Dn n (gt w i) (gt w j) = (i - j).natAbs := by
  rw [gt_at i0 i1, gt_at j0 j1]
  rcases Int.le_total i j with h | h
  · rw [way_dist hw (by omega) (by omega)]
    omega
  · rw [dn_symm, way_dist hw (by omega) (by omega)]
    omega
theorem prank (hw : Way n a b w) {i : Int} (i0 : 0 ≤ i) (i1 : i < w.length) : Rank n (gt w i) := hw.rk _ (gt_memN i0 i1)
theorem cutN_mid {α : Type} {l : List α} {lo hi : Int} (h0 : 0 ≤ lo) (h1 : lo ≤ hi) (h2 : hi < l.length) : cutN l (some lo) (some (hi + 1)) = (l.drop lo.toNat).take (hi.toNat + 1 - lo.toNat) := by
  unfold cutN
  have e1 : HT.sIx l.length 0 (some lo) = lo.toNat := by
    show (if lo < 0 then (lo + (l.length : Int)).toNat else min lo.toNat l.length) = _
    rw [if_neg (by omega)]; omega
  have e2 : HT.sIx l.length l.length (some (hi + 1)) = hi.toNat + 1 := by
    show (if hi + 1 < 0 then (hi + 1 + (l.length : Int)).toNat else min (hi + 1).toNat l.length) = _
    rw [if_neg (by omega)]; omega
  rw [e1, e2]
end
end TR
namespace TR
open PySem PySem.Spec PyProof.Rows L2
/-! ### the law's road: each step exchanges a pair that was not yet exchanged, so it is a way -/
section
variable {n : Nat} {x : List Int} {k : Nat}
theorem swp_pair (n8 : n ≤ 8) (hx : Rank n x) (k1 : k + 1 < n) : ∃ p0 ∈ pairs n, isort [x.getD k 0, x.getD (k + 1) 0] = l2 p0 ∧ pref (swp x k) p0.1 p0.2 = (!pref x p0.1 p0.2) ∧ ∀ p ∈ pairs n, p ≠ p0 → pref (swp x k) p.1 p.2 = pref x p.1 p.2 := by
  have hl := hx.len
  have R := swp_rank hx k1
  have b1 : k < x.length := by omega
  have b2 : k + 1 < x.length := by omega
  rw [getD_of b1, getD_of b2]
  have hu : x[k]'b1 ∈ x := List.getElem_mem _
  have hv : x[k + 1]'b2 ∈ x := List.getElem_mem _
  have iu : x.idxOf (x[k]'b1) = k := idx_at hx.nodup (List.getElem?_eq_getElem b1)
  have iv : x.idxOf (x[k + 1]'b2) = k + 1 := idx_at hx.nodup (List.getElem?_eq_getElem b2)
  generalize x[k]'b1 = u at hu iu ⊢
  generalize x[k + 1]'b2 = v at hv iv ⊢
  have bu := hx.bnd hu
  have bv := hx.bnd hv
  have nuv : u ≠ v := fun e => by rw [e, iv] at iu; omega
  have inj : ∀ {a c : Int}, a ∈ x → c ∈ x → a ≠ c → x.idxOf a ≠ x.idxOf c := fun ha hc ne e => ne (idxOf_inj ha hc e)
  have srt2 : ∀ a b : Int, a < b → isort [a, b] = [a, b] ∧ isort [b, a] = [a, b] := fun a b h => by
    have s : [a, b].Pairwise (· ≤ ·) := List.pairwise_cons.mpr ⟨fun y hy => by rw [List.mem_singleton.mp hy]; omega, List.pairwise_singleton _ _⟩
    exact ⟨sort_uniq (r := (· ≤ ·)) (fun _ _ => Int.le_antisymm) (isort_perm _) (isort_sorted _) s, sort_uniq (r := (· ≤ ·)) (fun _ _ => Int.le_antisymm) ((isort_perm _).trans (List.Perm.swap _ _ _)) (isort_sorted _) s⟩
  have hp : ∃ p0 ∈ pairs n, (p0 = (u, v) ∨ p0 = (v, u)) ∧ isort [u, v] = l2 p0 := by
    rcases Int.lt_trichotomy u v with h | h | h
    · exact ⟨(u, v), mem_pairs_of bu.1 h bv.2, .inl rfl, (srt2 u v h).1⟩
    · exact absurd h nuv
    · exact ⟨(v, u), mem_pairs_of bv.1 h bu.2, .inr rfl, (srt2 v u h).2⟩
  obtain ⟨p0, hp0, ep, es⟩ := hp
  have su := swp_idx hx k1 hu
  have sv := swp_idx hx k1 hv
  rw [iu, if_pos rfl] at su
  rw [iv, if_neg (by omega), if_pos rfl] at sv
  refine ⟨p0, hp0, es, ?_, fun p hp ne => ?_⟩
  · rcases ep with e | e
    · rw [e]
      unfold pref
      rw [su, sv, iu, iv, decide_eq_false (by omega : ¬ k + 1 < k), decide_eq_true (by omega : k < k + 1)]
      rfl
    · rw [e]
      unfold pref
      rw [su, sv, iu, iv, decide_eq_true (by omega : k < k + 1), decide_eq_false (by omega : ¬ k + 1 < k)]
      rfl
  · obtain ⟨h0, h1, h2⟩ := mem_pairs hp
    have m1 := hx.mem h0 (by omega)
    have m2 := hx.mem (x := p.2) (by omega) h2
    have ni := inj m1 m2 (by omega)
    have s1 := swp_idx hx k1 m1
    have s2 := swp_idx hx k1 m2
    have excl : ¬ (x.idxOf p.1 = k ∧ x.idxOf p.2 = k + 1) ∧ ¬ (x.idxOf p.1 = k + 1 ∧ x.idxOf p.2 = k) := by
      constructor
      · rintro ⟨a, c⟩
        have e1 : p.1 = u := idxOf_inj m1 hu (a.trans iu.symm)
        have e2 : p.2 = v := idxOf_inj m2 hv (c.trans iv.symm)
        rcases ep with e | e
        · exact ne (by rw [e, ← e1, ← e2])
        · have := mem_pairs hp0
          rw [e] at this
          dsimp only at this
          omega
      · rintro ⟨a, c⟩
        have e1 : p.1 = v := idxOf_inj m1 hv (a.trans iv.symm)
        have e2 : p.2 = u := idxOf_inj m2 hu (c.trans iu.symm)
        rcases ep with e | e
        · have := mem_pairs hp0
          rw [e] at this
          dsimp only at this
          omega
        · exact ne (by rw [e, ← e1, ← e2])
    unfold pref
    rw [s1, s2]
    clear s1 s2
    generalize x.idxOf p.1 = i at ni excl
    generalize x.idxOf p.2 = j at ni excl
    refine decide_eq_decide.mpr ?_
    (repeat' split) <;> omega
/-- what stands after some steps: a way from the first row, and the pairs that were exchanged -/
structure Road (n : Nat) (a : List Int) (w : List (List Int) × List (List Int)) : Prop where
  way : ∃ c, Way n a c w.1 ∧ ∀ p ∈ pairs n, l2 p ∈ w.2 ↔ pref c p.1 p.2 ≠ pref a p.1 p.2
  len : w.2.length + 1 = w.1.length
theorem road_start {a : List Int} (ha : Rank n a) : Road n a ([a], []) := ⟨⟨a, way_one ha, fun p _ => ⟨fun h => (by cases h), fun h => absurd rfl h⟩⟩, rfl⟩
theorem road_step (n8 : n ≤ 8) {a : List Int} {w : List (List Int) × List (List Int)} (h : Road n a w) {c : List Int} (hc : gl w.1 = c) (k1 : k + 1 < n) (nin : isort [c.getD k 0, c.getD (k + 1) 0] ∉ w.2) : Rank n c ∧ Road n a (w.1 ++ [swp c k], w.2 ++ [isort [c.getD k 0, c.getD (k + 1) 0]]) := by
  obtain ⟨⟨c', hw, hd⟩, hl⟩ := h
  have e : c' = c := by
    obtain ⟨l0, el⟩ := hw.lst
    rw [← hc, el, gl_snoc]
  subst e
  have Rc : Rank n c' := hw.rk c' (by obtain ⟨l0, el⟩ := hw.lst; rw [el]; simp)
  obtain ⟨p0, hp0, ep, flip, rest⟩ := swp_pair n8 Rc k1
  rw [ep] at nin ⊢
  have same0 : pref c' p0.1 p0.2 = pref a p0.1 p0.2 := by
    by_cases z : pref c' p0.1 p0.2 = pref a p0.1 p0.2
    · exact z
    · exact absurd ((hd p0 hp0).mpr z) nin
  have d1 : Dn n c' (swp c' k) = 1 := by
    have := cnt_one (f := fun p => !agr c' (swp c' k) p) (g := fun _ => false) (pairs_nd n n8) hp0 (by
      show (!(pref c' p0.1 p0.2 == pref (swp c' k) p0.1 p0.2)) = true
      rw [flip]; cases pref c' p0.1 p0.2 <;> rfl) rfl fun p hp ne => by
      show (!(pref c' p.1 p.2 == pref (swp c' k) p.1 p.2)) = false
      rw [rest p hp ne]; cases pref c' p.1 p.2 <;> rfl
    rw [List.filter_eq_nil_iff.mpr (fun _ _ => Bool.false_ne_true)] at this
    exact this
  have d2 : Dn n a (swp c' k) = Dn n a c' + 1 := cnt_one (f := fun p => !agr a (swp c' k) p) (g := fun p => !agr a c' p) (pairs_nd n n8) hp0 (by
      show (!(pref a p0.1 p0.2 == pref (swp c' k) p0.1 p0.2)) = true
      rw [flip, same0]; cases pref a p0.1 p0.2 <;> rfl) (by
      show (!(pref a p0.1 p0.2 == pref c' p0.1 p0.2)) = false
      rw [same0]; cases pref a p0.1 p0.2 <;> rfl) fun p hp ne => by
      show (!(pref a p.1 p.2 == pref (swp c' k) p.1 p.2)) = (!(pref a p.1 p.2 == pref c' p.1 p.2))
      rw [rest p hp ne]
  have R := swp_rank Rc k1
  have one : Way n c' (swp c' k) [c', swp c' k] := ⟨⟨_, rfl⟩, ⟨[c'], rfl⟩, fun y hy => by
    rcases List.mem_cons.mp hy with e | hy
    · rw [e]; exact Rc
    · rw [List.mem_singleton.mp hy]; exact R, ⟨d1, trivial⟩, by rw [d1]; rfl, fun y hy => by
    rcases List.mem_cons.mp hy with e | hy
    · rw [e, dn_self]; omega
    · rw [List.mem_singleton.mp hy, dn_self]; omega⟩
  refine ⟨Rc, ⟨⟨swp c' k, way_more hw one (by omega), fun p hp => ?_⟩, by rw [List.length_append, List.length_append]; show _ + 1 + 1 = _ + 1; omega⟩⟩
  show l2 p ∈ w.2 ++ [l2 p0] ↔ _
  rw [List.mem_append, List.mem_singleton]
  by_cases z : p = p0
  · subst z
    rw [flip, same0]
    exact ⟨fun _ => by cases pref a p.1 p.2 <;> decide, fun _ => .inr rfl⟩
  · rw [rest p hp z, hd p hp]
    refine ⟨fun h => h.elim id fun h => ?_, .inl⟩
    injection h with e1 e2
    injection e2 with e2 _
    exact absurd (Prod.ext e1 e2) z
end
end TR
namespace TR
open PySem PySem.Spec PyProof.Rows L2
/-! ### tables whose rankings stand on a way, for laws without the program's rows -/
section
variable {n : Nat}
theorem dist_vD {a b : List Int} (n8 : n ≤ 8) (ha : Rank n a) : v_distance a b = ((Dn n a b : Nat) : Int) := by
  unfold v_distance v_differences
  rw [ha.len, allpairs_v n8, List.map_id', ← List.countP_eq_length_filter, List.countP_map]
  show ((List.countP _ _ : Nat) : Int) = (((List.filter _ _).length : Nat) : Int)
  rw [← List.countP_eq_length_filter]
  congr 1
  refine List.countP_congr fun p _ => ?_
  have e : ∀ c : List Int, v_prefers c p.1 p.2 = pref c p.1 p.2 := fun c => decide_eq_decide.mpr (by omega)
  show (!(decide (v_prefers a p.1 p.2 = v_prefers b p.1 p.2))) = true ↔ (!(pref a p.1 p.2 == pref b p.1 p.2)) = true
  rw [e, e]
  cases pref a p.1 p.2 <;> cases pref b p.1 p.2 <;> simp
end
section
variable {m : Nat} {ts : Tas}
theorem find_on {M : Nat} (wf : WfT 8 M m ts) {pos : Nat → Int} (L : Line m ts pos) : ∃ S, Rank ts.length S ∧ ((nR S).Pairwise (before pos) ∨ (nR S).Pairwise (before fun x => - pos x)) ∧ v_find_seating (tb m ts) = some S := by
  obtain ⟨A, B, rA, rB, sAB, e⟩ := find_rows wf L
  have seat : ∀ {X : List Int}, Rank ts.length X → ((nR X).Pairwise (before pos) ∨ (nR X).Pairwise (before fun x => - pos x)) → v_is_seating (tb m ts) (eQ .int X) = true := fun {X} rX s => seat_of wf.nD rX ((runsB_seat rX).mpr (s.elim (sorted_seat L (nR_perm rX)) (sorted_seat' L (nR_perm rX))))
  have sA : (nR A).Pairwise (before pos) ∨ (nR A).Pairwise (before fun x => - pos x) := sAB.elim (fun s => .inl s.1) (fun s => .inr s.1)
  have sB : (nR B).Pairwise (before pos) ∨ (nR B).Pairwise (before fun x => - pos x) := sAB.elim (fun s => .inr s.2) (fun s => .inl s.2)
  rcases min_or A B with q | q
  · refine ⟨A, rA, sA, ?_⟩
    rw [e, q, seat rA sA]
    rfl
  · refine ⟨B, rB, sB, ?_⟩
    rw [e, q, seat rB sB]
    rfl
theorem first_on (wf : WfT 8 16 m ts) {pos : Nat → Int} (L : Line m ts pos) : ∃ S, Rank ts.length S ∧ ((nR S).Pairwise (before pos) ∨ (nR S).Pairwise (before fun x => - pos x)) ∧ v_first_seating (tb m ts) = S ∧ C_first_seating (tb m ts) := by
  obtain ⟨S, h1, h2, e⟩ := find_on wf L
  refine ⟨S, h1, h2, ?_, find_C wf, ?_⟩
  · unfold v_first_seating
    rw [e]
    rfl
  · rw [e]
    exact ⟨fun h => (by cases h), fun _ => rfl⟩
/-- a table on a way: who sits where -/
structure On (m : Nat) (ts : Tas) (P : List (List Int)) (ys : List Int) : Prop where
  wf : WfT 8 16 m ts
  rk : (ts.map fun x => x.1) = ys.map (gt P)
  bd : ∀ y ∈ ys, 0 ≤ y ∧ y < (P.length : Int)
variable {P : List (List Int)} {ys : List Int} {a b : List Int}
theorem On.len (h : On m ts P ys) : ts.length = ys.length := by
  have := congrArg List.length h.rk
  rwa [List.length_map, List.length_map] at this
theorem On.at (h : On m ts P ys) {i : Int} (h0 : 0 ≤ i) (h1 : i < ts.length) : gt (ts.map fun x => x.1) i = gt P (gt ys i) ∧ 0 ≤ gt ys i ∧ gt ys i < (P.length : Int) := by
  have hl := h.len
  have hi : i < (ys.length : Int) := by omega
  have := h.bd _ (gt_memN h0 hi)
  refine ⟨?_, this⟩
  rw [h.rk, gt_map (gt P) h0 hi]
theorem On.line (h : On m ts P ys) (hw : Way m a b P) : Line m ts fun x => gt ys (x : Int) := by
  intro x y hx hy
  obtain ⟨e1, b1⟩ := h.at (i := (x : Int)) (by omega) (by omega)
  obtain ⟨e2, b2⟩ := h.at (i := (y : Int)) (by omega) (by omega)
  have e := dist_dd h.wf hx hy
  rw [e1, e2, dist_vD h.wf.nD (prank hw b1.1 b1.2), pdist hw b1.1 b1.2 b2.1 b2.2] at e
  exact e.symm
end
end TR
namespace TR
open PySem PySem.Spec PyProof.Rows L2
/-! ### the road that is drawn is a way -/
theorem forW_inv {α σ : Type} {body : (σ → Nat → Prop) → α → σ → Nat → Prop} {after : σ → Nat → Prop} (I : Nat → σ → Nat → Prop) : ∀ (l : List α) (j : Nat) (w : σ) (n : Nat), I j w n → (∀ x ∈ l, ∀ i k w n, i < j + l.length → I i w n → (∀ w' n', I (i + 1) w' n' → k w' n') → body k x w n) → (∀ w n, I (j + l.length) w n → after w n) → forW body after l w n
  | [], j, w, n, h, _, ha => ha w n h
  | x :: l, j, w, n, h, hb, ha => hb x List.mem_cons_self j _ w n (by rw [List.length_cons]; omega) h fun w' n' h' => forW_inv I l (j + 1) w' n' h' (fun y hy i k w n hi => hb y (List.mem_cons_of_mem _ hy) i k w n (by rw [List.length_cons]; omega)) fun w n hh => ha w n (by rw [List.length_cons, show j + (l.length + 1) = j + 1 + l.length by omega]; exact hh)
theorem cut_two {c : List Int} {k : Nat} (h : k + 1 < c.length) : cutN c (some (k : Int)) (some ((k : Int) + 2)) = [c.getD k 0, c.getD (k + 1) 0] := by
  rw [show (k : Int) + 2 = ((k : Int) + 1) + 1 by omega, cutN_mid (by omega) (by omega) (by omega), show ((k : Int) + 1).toNat + 1 - ((k : Int)).toNat = 2 by omega, Int.toNat_natCast, List.drop_eq_getElem_cons (by omega), List.take_succ_cons, List.drop_eq_getElem_cons (by omega), List.take_succ_cons, List.take_zero, getD_of (by omega), getD_of (by omega)]
theorem exch_v {x : List Int} {k : Nat} (h : k + 1 < x.length) : v__law_exchanged x (k : Int) = swp x k := by
  unfold v__law_exchanged swp
  rw [cutN_to x (j := k) (by omega), show ((k : Int) + 2) = ((k + 2 : Nat) : Int) by omega, cutN_from x (j := k + 2) (by omega), List.append_assoc]
  have e1 : gt x ((k : Int) + 1) = x.getD (k + 1) 0 := by
    unfold gt
    rw [show ((k : Int) + 1).toNat = k + 1 by omega]
    rfl
  have e2 : gt x (k : Int) = x.getD k 0 := by
    unfold gt
    rw [Int.toNat_natCast]
    rfl
  rw [e1, e2]
theorem exch_C {x : List Int} {k : Nat} (h : k + 1 < x.length) (h8 : x.length ≤ 8) : C__law_exchanged x (k : Int) := by
  have c1 : (cutN x none (some (k : Int))).length ≤ 8 := Nat.le_trans (cutN_len _ _ _) h8
  have c2 : (cutN x (some ((k : Int) + 2)) none).length ≤ 8 := Nat.le_trans (cutN_len _ _ _) h8
  exact ⟨⟨by omega, by omega⟩, ⟨by omega, by omega⟩, lim (by show _ + 2 ≤ 1000; omega), lim (by rw [List.length_append]; show _ + 2 + _ ≤ 1000; omega)⟩
theorem road_w {m : Nat} (m1 : 1 ≤ m) (m8 : m ≤ 8) {st : Int} (s0 : 0 ≤ st) (s1 : st ≤ 28) {n : Nat} {K : List (List Int) → Nat → Prop} (hn : n ≤ 800000) (q : ∀ P a b n', Way m a b P → n' ≤ n + m + 28 → K P n') : w__law_road (m : Int) st n K := by
  unfold w__law_road
  refine ⟨⟨by omega, by omega, by omega⟩, fun r hr => ?_⟩
  rw [Int.toNat_natCast] at hr ⊢
  unfold w__law_road_s1 w__law_road_s2
  refine ⟨⟨by omega, by omega⟩, ?_⟩
  have D28 : ∀ x y : List Int, Dn m x y ≤ 28 := fun x y => Nat.le_trans (List.length_filter_le _ _) (plen m8)
  have li : (irange 0 st).length = st.toNat := by rw [irange_len]; congr 1; omega
  refine forW_inv (fun i w n' => Road m r w ∧ n' ≤ n + m + i) _ 0 _ _ ⟨road_start hr, Nat.le_refl _⟩ (fun x hx i k w n' hi ⟨hR, hn'⟩ hk => ?_) fun w n' ⟨hR, hn'⟩ => ?_
  rotate_left
  · obtain ⟨⟨c, hw, _⟩, _⟩ := hR
    exact q _ _ _ _ hw (by omega)
  have hR0 := hR
  obtain ⟨⟨c, hw, hd⟩, hl⟩ := hR
  obtain ⟨l0, el⟩ := hw.lst
  have gw : gl w.1 = c := by rw [el, gl_snoc]
  have ne : w.1 ≠ [] := by rw [el]; simp
  have hc : Rank m c := hw.rk c (by rw [el]; simp)
  have lc := hc.len
  have wl := hw.len
  have d28 := D28 r c
  refine ⟨ne, ?_⟩
  unfold w__law_road_s3
  rw [gw]
  have im : (irange 0 ((m : Int) - 1)).length ≤ 8 := by rw [irange_len]; omega
  refine ⟨⟨⟨by omega, by omega⟩, lim (by omega)⟩, ?_⟩
  unfold w__law_road_s4
  have at_ : ∀ k2 : Nat, k2 + 1 < m → gt ((irange 0 ((m : Int) - 1)).map fun x11_ : Int => (isort (cutN c (some x11_) (some (x11_ + (2 : Int)))))) (k2 : Int) = isort [c.getD k2 0, c.getD (k2 + 1) 0] := fun k2 h2 => by
    have e : (irange 0 ((m : Int) - 1))[k2]'(by rw [irange_len]; omega) = (k2 : Int) := by simp [irange]
    rw [gt_at (by omega) (by rw [List.length_map, irange_len]; omega)]
    simp only [Int.toNat_natCast, List.getElem_map, e]
    rw [cut_two (by omega)]
  refine ⟨⟨⟨by omega, by omega⟩, lim (by omega), fun x hx => ?_⟩, ?_⟩
  · have := irM.mp hx
    exact ⟨this.1, by rw [List.length_map, irange_len]; omega⟩
  rw [List.map_id']
  unfold w__law_road_s5
  refine ⟨fun hne => ?_, fun _ => hk w n' ⟨hR0, by omega⟩⟩
  refine ⟨⟨by omega, fun e => (by rw [e] at hne; cases hne), Nat.le_trans (List.length_filter_le _ _) (by omega)⟩, fun y hy => ?_⟩
  obtain ⟨h1, h2⟩ := List.mem_filter.mp hy
  have by_ := irM.mp h1
  obtain ⟨k2, rfl⟩ := Int.eq_ofNat_of_zero_le by_.1
  have hk2 : k2 + 1 < m := by omega
  rw [at_ k2 hk2] at h2
  have nin : isort [c.getD k2 0, c.getD (k2 + 1) 0] ∉ w.2 := fun z => by
    rw [memB_iff.mpr z] at h2
    cases h2
  rw [at_ k2 hk2, exch_v (by omega)]
  have S := (road_step m8 hR0 gw hk2 nin).2
  refine ⟨⟨⟨by omega, by rw [List.length_map, irange_len]; omega⟩, lim' (by omega)⟩, ⟨exch_C (by omega) (by omega), lim' (by omega)⟩, hk _ _ ⟨S, by omega⟩⟩
/-- tables of places on a way -/
theorem lcW_sit {m : Nat} {P : List (List Int)} {a b : List Int} (hw : Way m a b P) (hP : P.length ≤ 29) : ∀ (l : List Int) (acc : Tas) (ys : List Int) (n : Nat) (K : Tas → Nat → Prop), n + 4 * l.length ≤ 900000 → (acc.map fun x => x.1) = ys.map (gt P) → (∀ y ∈ ys, 0 ≤ y ∧ y < (P.length : Int)) → (∀ x ∈ acc, 1 ≤ x.2 ∧ x.2 ≤ 1000000000000) → (∀ (ts : Tas) (zs : List Int) n', ts.length = acc.length + l.length → (ts.map fun x => x.1) = zs.map (gt P) → (∀ y ∈ zs, 0 ≤ y ∧ y < (P.length : Int)) → (∀ x ∈ ts, 1 ≤ x.2 ∧ x.2 ≤ 1000000000000) → n' ≤ n + 4 * l.length → K ts n') → lcW (fun (_ : Int) (n7_ : Nat) (K8_ : ((List Int) × Int) → Nat → Prop) => (w__law_one P n7_ fun (r15_ : (List Int)) (n16_ : Nat) => (w__law_people n16_ fun (r17_ : Int) (n18_ : Nat) => (K8_ (r15_, r17_) n18_)))) l acc n K
  | [], acc, ys, n, K, _, h1, h2, h3, q => q acc ys n rfl h1 h2 h3 (by simp)
  | x :: l, acc, ys, n, K, hn, h1, h2, h3, q => by
    rw [List.length_cons] at hn q
    refine ⟨⟨by omega, by obtain ⟨t, e⟩ := hw.hd; rw [e]; simp, by omega⟩, fun r hr => ⟨by omega, fun w w0 w1 => ?_⟩⟩
    obtain ⟨i, hi, e⟩ := List.mem_iff_getElem.mp hr
    have g : gt P (i : Int) = r := by rw [gt_at (by omega) (by omega)]; exact e
    refine lcW_sit hw hP l _ (ys ++ [(i : Int)]) _ K (by omega) ?_ (fun y hy => ?_) (fun y hy => ?_) fun ts zs n' k1 k2 k3 k4 k5 => q ts zs n' (by rw [k1, List.length_append]; simp only [List.length_cons, List.length_nil]; omega) k2 k3 k4 (by omega)
    · rw [List.map_append, List.map_append, h1]
      show _ ++ [r] = _ ++ [gt P (i : Int)]
      rw [g]
    · rcases List.mem_append.mp hy with h | h
      · exact h2 y h
      · rw [List.mem_singleton.mp h]; omega
    · rcases List.mem_append.mp hy with h | h
      · exact h3 y h
      · rw [List.mem_singleton.mp h]; exact ⟨w0, w1⟩
theorem seated_w {m : Nat} (m1 : 1 ≤ m) (m8 : m ≤ 8) {c : Int} (c1 : 1 ≤ c) (c16 : c ≤ 16) {n : Nat} {K : (Int × Tas) → Nat → Prop} (hn : n ≤ 700000) (q : ∀ (ts : Tas) (P : List (List Int)) (a b ys : List Int) n', WfT 8 16 m ts → ts.length = c.toNat → Way m a b P → (ts.map fun x => x.1) = ys.map (gt P) → (∀ y ∈ ys, 0 ≤ y ∧ y < (P.length : Int)) → n' ≤ n + 110 → K ((m : Int), ts) n') : w__law_seated (m : Int) c n K := by
  unfold w__law_seated
  refine w_next (by omega) (by decide) (by decide) fun r r0 r1 => ⟨⟨r0, r1⟩, ?_⟩
  have st : 0 ≤ gt [(2 : Int), (5 : Int), (28 : Int)] r ∧ gt [(2 : Int), (5 : Int), (28 : Int)] r ≤ 28 := by
    rcases (by omega : r = 0 ∨ r = 1 ∨ r = 2) with rfl | rfl | rfl <;> decide
  refine road_w m1 m8 st.1 st.2 (by omega) fun P a b n2 hw hn2 => ?_
  have hP : P.length ≤ 29 := by
    have : Dn m a b ≤ 28 := Nat.le_trans (List.length_filter_le _ _) (plen m8)
    rw [hw.len]; omega
  have lc : (irange 0 c).length = c.toNat := by rw [irange_len]; congr 1; omega
  refine ⟨⟨⟨by omega, by omega⟩, lim (by omega)⟩, lcW_sit hw hP _ [] [] _ _ (by rw [lc]; omega) rfl (fun y hy => by cases hy) (fun y hy => by cases hy) fun ts zs n' k1 k2 k3 k4 k5 => ?_⟩
  rw [lc] at k1 k5
  have k1 : ts.length = c.toNat := by simpa using k1
  refine q ts P a b zs n' ⟨m1, m8, by omega, by omega, fun t ht => ⟨?_, k4 t ht⟩⟩ k1 hw k2 k3 (by omega)
  have : t.1 ∈ zs.map (gt P) := by rw [← k2]; exact List.mem_map.mpr ⟨t, ht, rfl⟩
  obtain ⟨y, hy, e⟩ := List.mem_map.mp this
  rw [← e]
  exact prank hw (k3 y hy).1 (k3 y hy).2
end TR
namespace TR
open PySem PySem.Spec PyProof.Rows L2
/-! ### groups: the indices of equal rankings, by their first ones -/
theorem forV_preA {α σ ρ : Type} {body : (σ → ρ) → (Int × α) → σ → ρ} {after : σ → ρ} {l : List α} (F : List α → σ) (h : ∀ p x k, (∃ s, l = p ++ x :: s) → body k (((p.length : Nat) : Int), x) (F p) = k (F (p ++ [x]))) : ∀ (s p : List α), l = p ++ s → forV body after ((s.zipIdx p.length).map fun q => (((q.2 : Nat) : Int), q.1)) (F p) = after (F l)
  | [], p, e => by rw [e, List.append_nil]; rfl
  | x :: s, p, e => by
    rw [List.zipIdx_cons, List.map_cons]
    show body (fun w => forV body after _ w) (((p.length : Nat) : Int), x) (F p) = _
    rw [h p x _ ⟨s, e⟩]
    have := forV_preA (after := after) F h s (p ++ [x]) (by rw [e, List.append_assoc]; rfl)
    rw [List.length_append] at this
    exact this
theorem forV_pre {α σ ρ : Type} {body : (σ → ρ) → (Int × α) → σ → ρ} {after : σ → ρ} {l : List α} (F : List α → σ) (h : ∀ p x k, (∃ s, l = p ++ x :: s) → body k (((p.length : Nat) : Int), x) (F p) = k (F (p ++ [x]))) : forV body after (enN l) (F []) = after (F l) := forV_preA F h l [] rfl
theorem forV_preCA {α σ : Type} {body : (σ → Prop) → (Int × α) → σ → Prop} {after : σ → Prop} {l : List α} (F : List α → σ) (ha : after (F l)) (h : ∀ p x k, (∃ s, l = p ++ x :: s) → k (F (p ++ [x])) → body k (((p.length : Nat) : Int), x) (F p)) : ∀ (s p : List α), l = p ++ s → forV body after ((s.zipIdx p.length).map fun q => (((q.2 : Nat) : Int), q.1)) (F p)
  | [], p, e => by rw [e, List.append_nil] at ha; exact ha
  | x :: s, p, e => by
    rw [List.zipIdx_cons, List.map_cons]
    refine h p x _ ⟨s, e⟩ ?_
    have := forV_preCA F ha h s (p ++ [x]) (by rw [e, List.append_assoc]; rfl)
    rw [List.length_append] at this
    exact this
theorem forV_preC {α σ : Type} {body : (σ → Prop) → (Int × α) → σ → Prop} {after : σ → Prop} {l : List α} (F : List α → σ) (ha : after (F l)) (h : ∀ p x k, (∃ s, l = p ++ x :: s) → k (F (p ++ [x])) → body k (((p.length : Nat) : Int), x) (F p)) : forV body after (enN l) (F []) := forV_preCA F ha h l [] rfl
section
variable {α : Type} [DecidableEq α]
/-- the first ones -/
def firsts : List α → List α := List.foldl (fun acc x => if x ∈ acc then acc else acc ++ [x]) []
theorem firsts_app (p : List α) (x : α) : firsts (p ++ [x]) = if x ∈ firsts p then firsts p else firsts p ++ [x] := by
  unfold firsts
  rw [List.foldl_append]
  rfl
theorem rev_ind {P : List α → Prop} (h0 : P []) (h1 : ∀ p x, P p → P (p ++ [x])) (l : List α) : P l := by
  have : ∀ s p, P p → P (p ++ s) := fun s => by
    induction s with
    | nil => intro p h; rw [List.append_nil]; exact h
    | cons x s ih =>
      intro p h
      have := ih (p ++ [x]) (h1 p x h)
      rw [List.append_assoc] at this
      exact this
  exact this l [] h0
theorem mem_firsts {l : List α} : ∀ {x : α}, x ∈ firsts l ↔ x ∈ l := by
  refine rev_ind (P := fun l => ∀ {x : α}, x ∈ firsts l ↔ x ∈ l) (fun {x} => Iff.rfl) (fun p y ih x => ?_) l
  rw [firsts_app]
  split
  · next h => rw [ih, List.mem_append, List.mem_singleton]; exact ⟨.inl, fun h2 => h2.elim id fun e => e ▸ ih.mp h⟩
  · rw [List.mem_append, List.mem_append, ih]
theorem firsts_nodup (l : List α) : (firsts l).Nodup := by
  refine rev_ind (P := fun l => (firsts l).Nodup) List.nodup_nil (fun p y ih => ?_) l
  rw [firsts_app]
  split
  · exact ih
  · next h =>
    rw [List.nodup_append]
    exact ⟨ih, by simp, fun a ha b hb e => h (by rw [← List.mem_singleton.mp hb, ← e]; exact ha)⟩
theorem firsts_len (l : List α) : (firsts l).length ≤ l.length := by
  refine rev_ind (P := fun l => (firsts l).length ≤ l.length) (Nat.le_refl _) (fun p y ih => ?_) l
  rw [firsts_app, List.length_append, List.length_singleton]
  split
  · omega
  · rw [List.length_append, List.length_singleton]; omega
/-- where it stands -/
def idxs (l : List α) (x : α) : List Int := ((enN l).filter fun y : Int × α => decide (y.2 = x)).map fun y : Int × α => y.1
theorem enN_app (p : List α) (x : α) : enN (p ++ [x]) = enN p ++ [(((p.length : Nat) : Int), x)] := by
  unfold enN
  rw [List.zipIdx_append, List.map_append]
  simp
theorem idxs_app (p : List α) (y x : α) : idxs (p ++ [y]) x = idxs p x ++ if y = x then [((p.length : Nat) : Int)] else [] := by
  unfold idxs
  rw [enN_app, List.filter_append, List.map_append]
  by_cases h : y = x
  · rw [if_pos h, List.filter_cons_of_pos (by simpa using h)]; rfl
  · rw [if_neg h, List.filter_cons_of_neg (by simpa using h)]; rfl
theorem idxs_none {p : List α} {x : α} (h : x ∉ p) : idxs p x = [] := by
  unfold idxs
  rw [List.map_eq_nil_iff, List.filter_eq_nil_iff]
  intro y hy e
  have : y.2 ∈ p := by
    unfold enN at hy
    obtain ⟨q, hq, rfl⟩ := List.mem_map.mp hy
    exact List.fst_mem_of_mem_zipIdx hq
  exact h (of_decide_eq_true e ▸ this)
theorem idxs_len (l : List α) (x : α) : (idxs l x).length ≤ l.length := by
  unfold idxs
  rw [List.length_map]
  exact Nat.le_trans (List.length_filter_le _ _) (Nat.le_of_eq (enN_len l))
/-- the dict of groups -/
def gdict (p : List α) : List (α × List Int) := (firsts p).map fun x => (x, idxs p x)
theorem lkG_map {β : Type} (f : α → β) (x : α) : ∀ l : List α, lkG (l.map fun y => (y, f y)) x = if x ∈ l then some (f x) else none
  | [] => rfl
  | y :: l => by
    have ih := lkG_map f x l
    unfold lkG at ih ⊢
    rw [List.map_cons]
    by_cases e : y = x
    · rw [List.find?_cons_of_pos (p := fun p : α × β => decide (p.1 = x)) (decide_eq_true e), if_pos (by rw [e]; exact List.mem_cons_self), ← e]
      rfl
    · rw [List.find?_cons_of_neg (p := fun p : α × β => decide (p.1 = x)) (by simpa using e), ih]
      simp [Ne.symm e]
theorem ptG_map (f : α → List Int) (x : α) (z : Int) : ∀ l : List α, l.Nodup → ptG x z (l.map fun y => (y, f y)) = l.map fun y => (y, f y ++ if x = y then [z] else [])
  | [], _ => rfl
  | y :: l, nd => by
    rw [List.nodup_cons] at nd
    rw [List.map_cons, List.map_cons]
    unfold ptG
    by_cases e : y = x
    · rw [if_pos e, if_pos e.symm]
      have : (l.map fun y => (y, f y ++ if x = y then [z] else [])) = l.map fun y => (y, f y) := List.map_congr_left fun w hw => by
        rw [if_neg (fun h => nd.1 (by rw [e, h]; exact hw)), List.append_nil]
      rw [this]
    · rw [if_neg e, if_neg (Ne.symm e), List.append_nil, ptG_map f x z l nd.2]
theorem apG_gdict (p : List α) (x : α) : apG (gdict p) x ((p.length : Nat) : Int) = gdict (p ++ [x]) := by
  unfold apG gdict
  rw [lkG_map, firsts_app]
  by_cases h : x ∈ firsts p
  · rw [if_pos h, if_pos h]
    show ptG x _ _ = _
    rw [ptG_map _ _ _ _ (firsts_nodup p)]
    exact List.map_congr_left fun y _ => by rw [idxs_app]
  · rw [if_neg h, if_neg h, List.map_append]
    show _ ++ [(x, [_])] = _ ++ [(x, idxs (p ++ [x]) x)]
    rw [idxs_app, if_pos rfl, idxs_none (fun m => h (mem_firsts.mpr m))]
    congr 1
    refine List.map_congr_left fun y hy => ?_
    rw [idxs_app, if_neg (fun e => h (by rw [e]; exact hy)), List.append_nil]
/-- the groups -/
def grps (l : List α) : List (List Int) := (firsts l).map (idxs l)
end
abbrev rks (ts : Tas) : List (List Int) := ts.map fun x : List Int × Int => x.1
section
variable {m : Nat} {ts : Tas}
theorem groups_v : v_groups (tb m ts) = grps (rks ts) := by
  show forV _ _ (enN (rks ts)) _ = _
  refine (forV_pre (F := gdict) fun p x k _ => ?_).trans ?_
  · show k (apG (gdict p) x _) = _
    rw [apG_gdict]
  · show ((gdict (rks ts)).map fun p : List Int × List Int => p.2).map (fun x : List Int => x) = _
    rw [List.map_id', gdict, List.map_map]
    rfl
theorem groups_C (hl : ts.length ≤ 100) : C_groups (tb m ts) := by
  refine ⟨lim (by show ts.length ≤ 1000; omega), ?_⟩
  have len : (rks ts).length = ts.length := List.length_map _
  refine forV_preC (F := gdict) ?_ fun p x k ⟨s, e⟩ hk => ⟨⟨?_, fun q hq => ?_⟩, ?_⟩
  · refine lim ?_
    show ((gdict (rks ts)).map _).length ≤ 1000
    rw [List.length_map, gdict, List.length_map]
    have := firsts_len (rks ts)
    omega
  · have := firsts_len p
    have : p.length ≤ (rks ts).length := by rw [show rks ts = p ++ x :: s from e, List.length_append]; omega
    exact lim (by show (gdict p).length + 1 ≤ 1000; rw [gdict, List.length_map]; omega)
  · obtain ⟨y, _, rfl⟩ := List.mem_map.mp (show q ∈ (firsts p).map _ from hq)
    have := idxs_len p y
    have : p.length ≤ (rks ts).length := by rw [show rks ts = p ++ x :: s from e, List.length_append]; omega
    exact lim (by show (idxs p y).length + 1 ≤ 1000; omega)
  · rw [apG_gdict]
    exact hk
end
end TR
namespace TR
open PySem PySem.Spec PyProof.Rows L2
/-! ### the rankings along the first seating, with their weights; the medians -/
def picks (T : Int) : List (List Int × Int) → Int → List (List Int)
  | [], _ => []
  | x :: l, c => (bif (decide (((2 : Int) * c) ≤ T)) && (decide (T ≤ ((2 : Int) * (c + x.2)))) then [x.1] else []) ++ picks T l (c + x.2)
abbrev sumW (l : List (List Int × Int)) : Int := (l.map fun x => x.2).sum
abbrev Pos (l : List (List Int × Int)) : Prop := ∀ x ∈ l, 1 ≤ x.2
theorem sumW_cons (x : List Int × Int) (l : List (List Int × Int)) : sumW (x :: l) = x.2 + sumW l := by show ((x :: l).map _).sum = _; rw [List.map_cons, List.sum_cons]
theorem sumW_app : ∀ a b : List (List Int × Int), sumW (a ++ b) = sumW a + sumW b
  | [], b => by show sumW b = 0 + sumW b; omega
  | x :: a, b => by rw [List.cons_append, sumW_cons, sumW_cons, sumW_app a b]; omega
theorem sumW_pos : ∀ {l : List (List Int × Int)}, Pos l → (l.length : Int) ≤ sumW l
  | [], _ => Int.le_refl _
  | x :: l, h => by
    have := sumW_pos (l := l) fun y hy => h y (List.mem_cons_of_mem _ hy)
    have := h x List.mem_cons_self
    rw [sumW_cons, List.length_cons]
    omega
theorem pos_tl {x : List Int × Int} {l : List (List Int × Int)} (h : Pos (x :: l)) : 1 ≤ x.2 ∧ Pos l := ⟨h x List.mem_cons_self, fun y hy => h y (List.mem_cons_of_mem _ hy)⟩
theorem picks_app (T : Int) : ∀ (a b : List (List Int × Int)) (c : Int), picks T (a ++ b) c = picks T a c ++ picks T b (c + sumW a)
  | [], b, c => by show picks T b c = [] ++ picks T b (c + 0); rw [List.nil_append, Int.add_zero]
  | x :: a, b, c => by
    rw [List.cons_append, sumW_cons]
    show _ ++ picks T (a ++ b) (c + x.2) = (_ ++ picks T a (c + x.2)) ++ _
    rw [picks_app T a b (c + x.2), List.append_assoc, show c + x.2 + sumW a = c + (x.2 + sumW a) by omega]
theorem picks_mem {T : Int} : ∀ {l : List (List Int × Int)} {c : Int} {r : List Int}, r ∈ picks T l c → r ∈ l.map fun x => x.1
  | x :: l, c, r, h => by
    rcases List.mem_append.mp (show r ∈ (bif (decide (((2 : Int) * c) ≤ T)) && (decide (T ≤ ((2 : Int) * (c + x.2)))) then [x.1] else []) ++ picks T l (c + x.2) from h) with h | h
    · cases q : (decide (((2 : Int) * c) ≤ T)) && (decide (T ≤ ((2 : Int) * (c + x.2)))) with
      | false => rw [q] at h; cases h
      | true =>
        rw [q] at h
        rw [List.mem_singleton.mp h]
        exact List.mem_cons_self
    · exact List.mem_cons_of_mem _ (picks_mem h)
theorem picks_gt {T : Int} : ∀ {l : List (List Int × Int)} {c : Int}, Pos l → T < 2 * c → picks T l c = []
  | [], _, _, _ => rfl
  | x :: l, c, hp, h => by
    obtain ⟨h1, h2⟩ := pos_tl hp
    show (bif (decide (((2 : Int) * c) ≤ T)) && (decide (T ≤ ((2 : Int) * (c + x.2)))) then [x.1] else []) ++ picks T l (c + x.2) = []
    rw [decide_eq_false (by omega : ¬ (2 : Int) * c ≤ T), Bool.false_and, cond_false, List.nil_append]
    exact picks_gt h2 (by omega)
theorem picks_lt {T : Int} : ∀ {l : List (List Int × Int)} {c : Int}, Pos l → 2 * (c + sumW l) < T → picks T l c = []
  | [], _, _, _ => rfl
  | x :: l, c, hp, h => by
    obtain ⟨h1, h2⟩ := pos_tl hp
    have := sumW_pos h2
    rw [sumW_cons] at h
    show (bif (decide (((2 : Int) * c) ≤ T)) && (decide (T ≤ ((2 : Int) * (c + x.2)))) then [x.1] else []) ++ picks T l (c + x.2) = []
    rw [decide_eq_false (by omega : ¬ T ≤ (2 : Int) * (c + x.2)), Bool.and_false, cond_false, List.nil_append]
    exact picks_lt h2 (by omega)
/-- from the very half on: the first one -/
theorem picks_half {T : Int} {x : List Int × Int} {l : List (List Int × Int)} {c : Int} (hp : Pos (x :: l)) (h : 2 * c = T) : picks T (x :: l) c = [x.1] := by
  obtain ⟨h1, h2⟩ := pos_tl hp
  show (bif (decide (((2 : Int) * c) ≤ T)) && (decide (T ≤ ((2 : Int) * (c + x.2)))) then [x.1] else []) ++ picks T l (c + x.2) = [x.1]
  rw [decide_eq_true (by omega : (2 : Int) * c ≤ T), decide_eq_true (by omega : T ≤ (2 : Int) * (c + x.2)), Bool.and_self, cond_true, picks_gt h2 (by omega)]
  rfl
/-- up to the very half: the last one -/
theorem picks_to {T : Int} : ∀ {l : List (List Int × Int)} {c : Int}, Pos l → 2 * (c + sumW l) = T → l ≠ [] → ∃ r, picks T l c = [r]
  | [], _, _, _, h => absurd rfl h
  | x :: l, c, hp, h, _ => by
    obtain ⟨h1, h2⟩ := pos_tl hp
    rw [sumW_cons] at h
    have := sumW_pos h2
    show ∃ r, (bif (decide (((2 : Int) * c) ≤ T)) && (decide (T ≤ ((2 : Int) * (c + x.2)))) then [x.1] else []) ++ picks T l (c + x.2) = [r]
    cases l with
    | nil =>
      have h : 2 * (c + (x.2 + 0)) = T := h
      refine ⟨x.1, ?_⟩
      rw [decide_eq_true (by omega : (2 : Int) * c ≤ T), decide_eq_true (by omega : T ≤ (2 : Int) * (c + x.2)), Bool.and_self, cond_true]
      rfl
    | cons y l =>
      rw [List.length_cons] at this
      rw [decide_eq_false (by omega : ¬ T ≤ (2 : Int) * (c + x.2)), Bool.and_false, cond_false, List.nil_append]
      exact picks_to h2 (by omega) (by simp)
/-- one or two -/
abbrev OneTwo (l : List (List Int)) : Prop := l.length = 1 ∨ l.length = 2
theorem picks_len {T : Int} : ∀ {l : List (List Int × Int)} {c : Int}, Pos l → 0 ≤ c → c + sumW l = T → 2 * c < T → OneTwo (picks T l c)
  | [], c, _, h0, h, h2 => by have h : c + 0 = T := h; omega
  | x :: l, c, hp, h0, h, hc => by
    obtain ⟨h1, h2⟩ := pos_tl hp
    rw [sumW_cons] at h
    have sp := sumW_pos h2
    show OneTwo ((bif (decide (((2 : Int) * c) ≤ T)) && (decide (T ≤ ((2 : Int) * (c + x.2)))) then [x.1] else []) ++ picks T l (c + x.2))
    rw [decide_eq_true (by omega : (2 : Int) * c ≤ T), Bool.true_and]
    rcases Int.lt_trichotomy (2 * (c + x.2)) T with q | q | q
    · rw [decide_eq_false (by omega : ¬ T ≤ (2 : Int) * (c + x.2)), cond_false, List.nil_append]
      exact picks_len h2 (by omega) (by omega) q
    · rw [decide_eq_true (by omega : T ≤ (2 : Int) * (c + x.2)), cond_true]
      cases l with
      | nil => have h : c + (x.2 + 0) = T := h; omega
      | cons y l => rw [picks_half h2 q]; exact .inr rfl
    · rw [decide_eq_true (by omega : T ≤ (2 : Int) * (c + x.2)), cond_true, picks_gt h2 q]
      exact .inl rfl
theorem mid_v (l : List (List Int × Int)) : v_middle_rankings l = srtN (eQ PyData.int) (picks (sumW l) l 0) := by
  have key : ∀ (T : Int) (l : List (List Int × Int)) (a : List (List Int)) (c : Int), v_middle_rankings_s3 l T a c = srtN (eQ PyData.int) (a ++ picks T l c) := fun T l => by
    induction l with
    | nil => intro a c; show srtN _ a = srtN _ (a ++ []); rw [List.append_nil]
    | cons x l ih =>
      intro a c
      show v_middle_rankings_s3 l T (bif ((decide (((2 : Int) * c) ≤ T)) && (decide (T ≤ ((2 : Int) * (c + x.2))))) then (a ++ [x.1]) else a) (c + x.2) = srtN _ (a ++ ((bif (decide (((2 : Int) * c) ≤ T)) && (decide (T ≤ ((2 : Int) * (c + x.2)))) then [x.1] else []) ++ picks T l (c + x.2)))
      rw [ih]
      cases (decide (((2 : Int) * c) ≤ T)) && (decide (T ≤ ((2 : Int) * (c + x.2)))) with
      | false => rfl
      | true => rw [cond_true, cond_true, List.append_assoc]
  exact key _ l [] 0
theorem alikeAll_iq : ∀ xs ys : List Int, PySem.W.alikeAll (xs.map .int) (ys.map .int) = true
  | [], ys => by rw [List.map_nil, PySem.W.alikeAll]
  | x :: xs, [] => by rw [List.map_nil, List.map_cons, PySem.W.alikeAll]
  | x :: xs, y :: ys => by
    rw [List.map_cons, List.map_cons, PySem.W.alikeAll, alikeAll_iq xs ys]
    simp [PySem.W.alike]
theorem depthAll_iq : ∀ l : List Int, PyData.depthAll (l.map PyData.int) ≤ 1
  | [] => by simp [PyData.depthAll]
  | x :: l => by
    have := depthAll_iq l
    rw [List.map_cons]; simp [PyData.depthAll, PyData.depth]; omega
theorem srtOk_q {l : List (List Int)} (h : ∀ r ∈ l, r ≠ []) : SrtOk (l.map (eQ PyData.int)) := by
  refine ⟨?_, .inl fun d hd => ?_, fun d hd => ?_⟩
  · exact PySem.W.AllAlike.of fun a b => by
      show PySem.W.alike (.tuple (a.map .int)) (.tuple (b.map .int)) = true
      simp only [PySem.W.alike, alikeAll_iq]
  · obtain ⟨r, hr, rfl⟩ := List.mem_map.mp hd
    cases r with
    | nil => exact absurd rfl (h _ hr)
    | cons x r => exact ⟨_, _, rfl⟩
  · obtain ⟨r, _, rfl⟩ := List.mem_map.mp hd
    show PyData.depthAll (r.map .int) + 1 ≤ 50
    have := depthAll_iq r
    omega
theorem mid_C {l : List (List Int × Int)} (h : l.length ≤ 900) (hn : ∀ x ∈ l, x.1 ≠ []) : C_middle_rankings l := by
  have cm : ∀ j : Int, CMul (2 : Int) j := fun j => .inl ⟨by decide, by decide⟩
  have key : ∀ (T : Int) (l : List (List Int × Int)) (a : List (List Int)) (c : Int), a.length + l.length ≤ 900 → (∀ r ∈ a, r ≠ []) → (∀ x ∈ l, x.1 ≠ []) → C_middle_rankings_s3 l T a c := fun T l => by
    induction l with
    | nil => intro a c _ ha _; exact srtOk_q ha
    | cons x l ih =>
      intro a c ha hra hrl
      rw [List.length_cons] at ha
      refine ⟨cm _, fun _ => cm _, fun _ => lim' (by show a.length < 1000; omega), ?_⟩
      have hl := fun y hy => hrl y (List.mem_cons_of_mem _ hy)
      dsimp only
      cases (decide (((2 : Int) * c) ≤ T)) && (decide (T ≤ ((2 : Int) * (c + x.2)))) with
      | false => exact ih a _ (by omega) hra hl
      | true =>
        refine ih (a ++ [x.1]) _ (by rw [List.length_append]; show a.length + 1 + l.length ≤ 900; omega) (fun r hr => ?_) hl
        rcases List.mem_append.mp hr with h | h
        · exact hra r h
        · rw [List.mem_singleton.mp h]; exact hrl x List.mem_cons_self
  exact ⟨lim (by omega), key _ l [] 0 (by show 0 + l.length ≤ 900; omega) (fun r hr => by cases hr) hn⟩
/-! the rankings in the order of the first seating -/
section
variable {m : Nat} {ts : Tas}
theorem mem_idxs {l : List (List Int)} {x : List Int} {i : Int} : i ∈ idxs l x ↔ (0 ≤ i ∧ i < (l.length : Int)) ∧ gt l i = x := by
  unfold idxs
  rw [enN_ir]
  constructor
  · intro h
    obtain ⟨q, hq, rfl⟩ := List.mem_map.mp h
    obtain ⟨h1, h2⟩ := List.mem_filter.mp hq
    obtain ⟨d, hd, rfl⟩ := List.mem_map.mp h1
    exact ⟨irM.mp hd, of_decide_eq_true h2⟩
  · rintro ⟨b, e⟩
    exact List.mem_map.mpr ⟨(i, gt l i), List.mem_filter.mpr ⟨List.mem_map.mpr ⟨i, irM.mpr b, rfl⟩, decide_eq_true e⟩, rfl⟩
/-- what a ranking weighs -/
def Wt (ts : Tas) (r : List Int) : Int := ((ts.filter fun t => decide (t.1 = r)).map fun t => t.2).sum
theorem sum_idxs (r : List Int) : ((idxs (rks ts) r).map fun i : Int => (gt ts i).2).sum = Wt ts r := by
  have e : (idxs (rks ts) r).map (fun i : Int => (gt ts i).2) = (ts.filter fun t => decide (t.1 = r)).map fun t => t.2 := by
    have e1 : (ts.filter fun t => decide (t.1 = r)) = ((irange 0 ((ts.length : Nat) : Int)).map fun i : Int => gt ts i).filter fun t => decide (t.1 = r) := by rw [map_gt]
    unfold idxs
    rw [e1, enN_ir, List.length_map, List.filter_map, List.filter_map, List.map_map, List.map_map, List.map_map]
    congr 1
    refine List.filter_congr fun i hi => ?_
    have b := irM.mp hi
    show decide (gt (rks ts) i = r) = decide ((gt ts i).1 = r)
    rw [show gt (rks ts) i = (gt ts i).1 from gt_map (fun x : List Int × Int => x.1) b.1 b.2]
  unfold Wt
  rw [e]
abbrev partOf (ts : Tas) (r : List Int) : List Int × Int := (r, Wt ts r)
theorem srtK_perm {α : Type} (g : α → Int) (l : List α) : (srtK g l).Perm l := List.mergeSort_perm _ _
theorem srtK_sorted {α : Type} (g : α → Int) (l : List α) : (srtK g l).Pairwise fun a b => g a ≤ g b := by
  unfold srtK
  rw [PySem.W.dataLe_int]
  have := List.pairwise_mergeSort (le := fun a b => decide (g a ≤ g b)) (fun a b c h1 h2 => by simp only [decide_eq_true_eq] at *; omega) (fun a b => by simp only [Bool.or_eq_true, decide_eq_true_eq]; omega) l
  exact this.imp fun h => of_decide_eq_true h
/-- the first taster with a ranking -/
theorem first_idx {r : List Int} (h : r ∈ rks ts) : gt (idxs (rks ts) r) 0 ∈ idxs (rks ts) r ∧ (0 ≤ gt (idxs (rks ts) r) 0 ∧ gt (idxs (rks ts) r) 0 < (ts.length : Int)) ∧ (gt ts (gt (idxs (rks ts) r) 0)).1 = r := by
  have ne : 0 < (idxs (rks ts) r).length := by
    obtain ⟨i, hi, e⟩ := List.mem_iff_getElem.mp h
    have : ((i : Nat) : Int) ∈ idxs (rks ts) r := mem_idxs.mpr ⟨⟨by omega, by omega⟩, by rw [gt_at (by omega) (by omega)]; exact e⟩
    exact List.length_pos_of_mem this
  have mem : gt (idxs (rks ts) r) 0 ∈ idxs (rks ts) r := gt_memN (by decide) (by omega)
  obtain ⟨b, e⟩ := mem_idxs.mp mem
  have lr : (rks ts).length = ts.length := List.length_map _
  rw [lr] at b
  exact ⟨mem, b, (gt_map (fun x : List Int × Int => x.1) b.1 b.2).symm.trans e⟩
def keyR (ts : Tas) (S : List Int) (r : List Int) : Int := ((S.idxOf (gt (idxs (rks ts) r) 0) : Nat) : Int)
/-- the rankings along S -/
structure Along (ts : Tas) (S : List Int) (R : List (List Int)) : Prop where
  perm : R.Perm (firsts (rks ts))
  asc : R.Pairwise fun a b => keyR ts S a ≤ keyR ts S b
theorem order_v {S : List Int} (fs : v_first_seating (tb m ts) = S) : ∃ R, Along ts S R ∧ (v_group_order (tb m ts)).map (fun g => v_group_part (tb m ts) g) = R.map (partOf ts) ∧ v_group_order (tb m ts) = R.map (idxs (rks ts)) := by
  have eo : v_group_order (tb m ts) = srtK (fun g : List Int => ((S.idxOf (gt g (0 : Int)) : Nat) : Int)) (grps (rks ts)) := by
    unfold v_group_order
    rw [fs, groups_v]
  have em : srtK (fun g : List Int => ((S.idxOf (gt g (0 : Int)) : Nat) : Int)) (grps (rks ts)) = (srtK (keyR ts S) (firsts (rks ts))).map (idxs (rks ts)) := by
    unfold srtK grps
    exact (List.map_mergeSort (r := PySem.W.dataLe false fun a => PyData.int (keyR ts S a)) (f := idxs (rks ts)) (fun _ _ _ _ => rfl)).symm
  refine ⟨srtK (keyR ts S) (firsts (rks ts)), ⟨srtK_perm _ _, srtK_sorted _ _⟩, ?_, eo.trans em⟩
  rw [eo, em, List.map_map]
  refine List.map_congr_left fun r hr => ?_
  have hm : r ∈ rks ts := mem_firsts.mp ((srtK_perm _ _).mem_iff.mp hr)
  obtain ⟨_, _, e⟩ := first_idx hm
  show ((gt ts (gt (idxs (rks ts) r) 0)).1, ((idxs (rks ts) r).map fun x1_ : Int => (gt ts x1_).2).sum) = (r, Wt ts r)
  rw [e, sum_idxs]
theorem Along.mem {S : List Int} {R : List (List Int)} (h : Along ts S R) {r : List Int} : r ∈ R ↔ r ∈ rks ts := h.perm.mem_iff.trans mem_firsts
theorem Along.nd {S : List Int} {R : List (List Int)} (h : Along ts S R) : R.Nodup := h.perm.nodup_iff.mpr (firsts_nodup _)
/-- the sum by parts -/
theorem part_sum : ∀ {ts : Tas} {R : List (List Int)}, R.Nodup → (∀ t ∈ ts, t.1 ∈ R) → (R.map (Wt ts)).sum = (ts.map fun t => t.2).sum
  | [], R, _, _ => by
    have : ∀ R : List (List Int), (R.map (Wt [])).sum = 0 := fun R => by
      induction R with
      | nil => rfl
      | cons r R ih => rw [List.map_cons, List.sum_cons, ih]; rfl
    exact this R
  | t :: ts, R, nd, h => by
    have ih := part_sum (ts := ts) nd fun u hu => h u (List.mem_cons_of_mem _ hu)
    have step : ∀ r, Wt (t :: ts) r = (if t.1 = r then t.2 else 0) + Wt ts r := fun r => by
      unfold Wt
      by_cases e : t.1 = r
      · rw [List.filter_cons_of_pos (by exact decide_eq_true e), List.map_cons, List.sum_cons, if_pos e]
      · rw [List.filter_cons_of_neg (by rw [decide_eq_false e]; exact Bool.false_ne_true), if_neg e, Int.zero_add]
    have one : ∀ R : List (List Int), R.Nodup → (R.map (Wt (t :: ts))).sum = (if t.1 ∈ R then t.2 else 0) + (R.map (Wt ts)).sum := fun R => by
      induction R with
      | nil => intro _; rfl
      | cons r R ih2 =>
        intro nd
        obtain ⟨n1, n2⟩ := List.nodup_cons.mp nd
        rw [List.map_cons, List.sum_cons, List.map_cons, List.sum_cons, ih2 n2, step r]
        by_cases e : t.1 = r
        · rw [if_pos e, if_neg (by rw [e]; exact n1), if_pos (by rw [e]; exact List.mem_cons_self)]
          omega
        · rw [if_neg e]
          by_cases q : t.1 ∈ R
          · rw [if_pos q, if_pos (List.mem_cons_of_mem _ q)]; omega
          · rw [if_neg q, if_neg (fun z => (List.mem_cons.mp z).elim e q)]; omega
    rw [one R nd, if_pos (h t List.mem_cons_self), ih, List.map_cons, List.sum_cons]
theorem part_sumF {R : List (List Int)} (φ : List Int → Bool) (nd : R.Nodup) (h : ∀ t ∈ ts, t.1 ∈ R) : ((R.filter φ).map (Wt ts)).sum = ((ts.filter fun t => φ t.1).map fun t => t.2).sum := by
  rw [← part_sum (ts := ts.filter fun t => φ t.1) (nd.filter φ) fun t ht => List.mem_filter.mpr ⟨h t (List.mem_filter.mp ht).1, (List.mem_filter.mp ht).2⟩]
  refine congrArg List.sum (List.map_congr_left fun r hr => ?_)
  have hφ := (List.mem_filter.mp hr).2
  unfold Wt
  rw [List.filter_filter]
  congr 2
  refine List.filter_congr fun t _ => ?_
  by_cases e : t.1 = r
  · rw [decide_eq_true e, e, hφ]; rfl
  · rw [decide_eq_false e]; rfl
/-- along a seating a test that changes once parts the rankings in two -/
theorem Along.split {S : List Int} {R : List (List Int)} (h : Along ts S R) (rS : Rank ts.length S) (hS : Seat (pairs m) (sd ts) ts.length (nR S)) {p : Int × Int} (hp : p ∈ pairs m) : ∃ A B v, R = A ++ B ∧ (∀ r ∈ A, v_prefers r p.1 p.2 = v) ∧ ∀ r ∈ B, v_prefers r p.1 p.2 = !v := by
  have no : ∀ a b c, a ∈ R → b ∈ R → c ∈ R → keyR ts S a ≤ keyR ts S b → keyR ts S b ≤ keyR ts S c → v_prefers a p.1 p.2 = v_prefers c p.1 p.2 → v_prefers a p.1 p.2 = v_prefers b p.1 p.2 := fun a b c ha hb hc ab bc e => by
    by_cases q : v_prefers a p.1 p.2 = v_prefers b p.1 p.2
    · exact q
    exfalso
    obtain ⟨_, ba, ea⟩ := first_idx (h.mem.mp ha)
    obtain ⟨_, bb, eb⟩ := first_idx (h.mem.mp hb)
    obtain ⟨_, bc', ec⟩ := first_idx (h.mem.mp hc)
    unfold keyR at ab bc
    generalize gt (idxs (rks ts) a) 0 = i at ab ba ea
    generalize gt (idxs (rks ts) b) 0 = j at ab bc bb eb
    generalize gt (idxs (rks ts) c) 0 = k at bc bc' ec
    have mi : i ∈ S := rS.mem ba.1 ba.2
    have mj : j ∈ S := rS.mem bb.1 bb.2
    have mk : k ∈ S := rS.mem bc'.1 bc'.2
    have nij : S.idxOf i ≠ S.idxOf j := fun z => q (by rw [← ea, ← eb, idxOf_inj mi mj z])
    have njk : S.idxOf j ≠ S.idxOf k := fun z => q (by rw [e, ← ec, ← eb, idxOf_inj mj mk z])
    have lk : S.idxOf k < S.length := List.idxOf_lt_length_iff.mpr mk
    have at_ : ∀ {z : Int}, 0 ≤ z → z ∈ S → (nR S).getD (S.idxOf z) 0 = z.toNat := fun {z} z0 hz => by
      have := at_idx hz
      show (S.map Int.toNat).getD _ 0 = _
      rw [List.getD_eq_getElem?_getD, List.getElem?_map, this]
      rfl
    have sp : ∀ {z : Int} {r : List Int}, 0 ≤ z → z < (ts.length : Int) → (gt ts z).1 = r → sd ts p z.toNat = v_prefers r p.1 p.2 := fun {z r} z0 z1 er => by
      rw [sd_pref (show z.toNat < ts.length by omega), ← er, gt_at z0 z1]
    refine hS.ok p hp (S.idxOf i) (S.idxOf j) (S.idxOf k) (by omega) (by omega) (by show _ < (S.map Int.toNat).length; rw [List.length_map]; exact lk) ?_
    rw [at_ ba.1 mi, at_ bb.1 mj, at_ bc'.1 mk]
    show sd ts p i.toNat = sd ts p k.toNat ∧ sd ts p i.toNat ≠ sd ts p j.toNat
    rw [sp ba.1 ba.2 ea, sp bb.1 bb.2 eb, sp bc'.1 bc'.2 ec]
    exact ⟨e, q⟩
  have asc := h.asc
  clear h
  generalize hR : R = R0 at no asc
  clear hR
  cases R0 with
  | nil => exact ⟨[], [], true, rfl, fun r hr => (by cases hr), fun r hr => (by cases hr)⟩
  | cons r l =>
    obtain ⟨h1, h2⟩ := List.pairwise_cons.mp asc
    refine ⟨(r :: l).takeWhile (fun x => decide (v_prefers x p.1 p.2 = v_prefers r p.1 p.2)), (r :: l).dropWhile (fun x => decide (v_prefers x p.1 p.2 = v_prefers r p.1 p.2)), v_prefers r p.1 p.2, (List.takeWhile_append_dropWhile).symm, fun x hx => ?_, fun x hx => ?_⟩
    · have : ∀ (l : List (List Int)) (f : List Int → Bool), ∀ x ∈ l.takeWhile f, f x = true := fun l f => by
        induction l with
        | nil => intro x hx; cases hx
        | cons y l ih =>
          intro x hx
          cases q : f y with
          | false => rw [List.takeWhile_cons_of_neg (by rw [q]; exact Bool.false_ne_true)] at hx; cases hx
          | true =>
            rw [List.takeWhile_cons_of_pos q] at hx
            rcases List.mem_cons.mp hx with e | hx
            · rw [e]; exact q
            · exact ih x hx
      exact of_decide_eq_true (this _ _ x hx)
    · have key : ∀ l2 : List (List Int), (∀ y ∈ l2, y ∈ r :: l) → (∀ y ∈ l2, keyR ts S r ≤ keyR ts S y) → l2.Pairwise (fun a b => keyR ts S a ≤ keyR ts S b) → ∀ x ∈ l2.dropWhile (fun x => decide (v_prefers x p.1 p.2 = v_prefers r p.1 p.2)), v_prefers x p.1 p.2 ≠ v_prefers r p.1 p.2 := fun l2 => by
        induction l2 with
        | nil => intro _ _ _ x hx; cases hx
        | cons y l2 ih =>
          intro m1 m2 pw x hx
          obtain ⟨q1, q2⟩ := List.pairwise_cons.mp pw
          by_cases q : v_prefers y p.1 p.2 = v_prefers r p.1 p.2
          · rw [List.dropWhile_cons_of_pos (p := fun x => decide (v_prefers x p.1 p.2 = v_prefers r p.1 p.2)) (decide_eq_true q)] at hx
            exact ih (fun z hz => m1 z (List.mem_cons_of_mem _ hz)) (fun z hz => m2 z (List.mem_cons_of_mem _ hz)) q2 x hx
          · rw [List.dropWhile_cons_of_neg (p := fun x => decide (v_prefers x p.1 p.2 = v_prefers r p.1 p.2)) (by rw [decide_eq_false q]; exact Bool.false_ne_true)] at hx
            rcases List.mem_cons.mp hx with e | hx
            · rw [e]; exact q
            · exact fun z => q (no r y x List.mem_cons_self (m1 y List.mem_cons_self) (m1 x (List.mem_cons_of_mem _ hx)) (m2 y List.mem_cons_self) (q1 x hx) z.symm).symm
      have := key (r :: l) (fun y hy => hy) (fun y hy => ?_) asc x hx
      · revert this
        cases v_prefers x p.1 p.2 <;> cases v_prefers r p.1 p.2 <;> simp
      · rcases List.mem_cons.mp hy with e | hy
        · rw [e]; exact Int.le_refl _
        · exact h1 y hy
end
end TR
namespace TR
open PySem PySem.Spec PyProof.Rows L2
/-! ### k26: medians, supports, majorities -/
theorem picks_sub {T : Int} : ∀ (l : List (List Int × Int)) (c : Int), (picks T l c).Sublist (l.map fun x => x.1)
  | [], _ => List.Sublist.refl _
  | x :: l, c => by
    show ((bif (decide (((2 : Int) * c) ≤ T)) && (decide (T ≤ ((2 : Int) * (c + x.2)))) then [x.1] else []) ++ picks T l (c + x.2)).Sublist (x.1 :: l.map fun x => x.1)
    cases (decide (((2 : Int) * c) ≤ T)) && (decide (T ≤ ((2 : Int) * (c + x.2)))) with
    | true => exact (picks_sub l _).cons_cons _
    | false => exact (picks_sub l _).cons _
/-- where a parted list has its medians -/
theorem pick_parts {T : Int} {a b : List (List Int × Int)} (pa : Pos a) (pb : Pos b) (h : sumW (a ++ b) = T) (h0 : 0 < T) :
    (T < 2 * sumW a → ∀ r ∈ picks T (a ++ b) 0, r ∈ a.map fun x => x.1) ∧ (2 * sumW a < T → ∀ r ∈ picks T (a ++ b) 0, r ∈ b.map fun x => x.1) ∧
    (2 * sumW a = T → (∃ r ∈ picks T (a ++ b) 0, r ∈ a.map fun x => x.1) ∧ ∃ r ∈ picks T (a ++ b) 0, r ∈ b.map fun x => x.1) := by
  have e : picks T (a ++ b) 0 = picks T a 0 ++ picks T b (sumW a) := by rw [picks_app, Int.zero_add]
  rw [sumW_app] at h
  refine ⟨fun g r hr => ?_, fun g r hr => ?_, fun g => ?_⟩
  · rw [e, picks_gt pb g, List.append_nil] at hr
    exact picks_mem hr
  · rw [e, picks_lt pa (by omega), List.nil_append] at hr
    exact picks_mem hr
  · have na : a ≠ [] := fun z => by
      rw [z] at g
      have g : 2 * (0 : Int) = T := g
      omega
    have nb : b ≠ [] := fun z => by
      rw [z] at h
      have h : sumW a + 0 = T := h
      omega
    obtain ⟨r, er⟩ := picks_to (T := T) (c := 0) pa (by omega) na
    have m1 : r ∈ picks T a 0 := by rw [er]; exact List.mem_singleton.mpr rfl
    refine ⟨⟨r, by rw [e]; exact List.mem_append_left _ m1, picks_mem m1⟩, ?_⟩
    cases b with
    | nil => exact absurd rfl nb
    | cons x b =>
      have m2 : x.1 ∈ picks T (x :: b) (sumW a) := by rw [picks_half pb g]; exact List.mem_singleton.mpr rfl
      exact ⟨x.1, by rw [e]; exact List.mem_append_right _ m2, picks_mem m2⟩
section
variable {m : Nat} {ts : Tas}
abbrev totW (ts : Tas) : Int := (ts.map fun t => t.2).sum
/-- the support -/
def supW (ts : Tas) (a b : Int) : Int := ((ts.filter fun t => v_prefers t.1 a b).map fun t => t.2).sum
theorem sum_not (φ : List Int × Int → Bool) : ∀ ts : Tas, ((ts.filter φ).map fun t => t.2).sum + ((ts.filter fun t => !φ t).map fun t => t.2).sum = totW ts
  | [] => rfl
  | t :: ts => by
    have ih := sum_not φ ts
    show _ = ((t :: ts).map fun t => t.2).sum
    rw [List.map_cons, List.sum_cons]
    cases q : φ t with
    | true =>
      rw [List.filter_cons_of_pos q, List.filter_cons_of_neg (by rw [q]; exact Bool.false_ne_true), List.map_cons, List.sum_cons]
      unfold totW at ih
      omega
    | false =>
      rw [List.filter_cons_of_neg (by rw [q]; exact Bool.false_ne_true), List.filter_cons_of_pos (p := fun t => !φ t) (by rw [q]; rfl), List.map_cons, List.sum_cons]
      unfold totW at ih
      omega
theorem prefers_not {r : List Int} {a b : Int} (ha : a ∈ r) (hb : b ∈ r) (ne : a ≠ b) : v_prefers r b a = !v_prefers r a b := by
  have : r.idxOf a ≠ r.idxOf b := fun z => ne (idxOf_inj ha hb z)
  unfold v_prefers
  rcases Nat.lt_or_gt_of_ne this with q | q
  · rw [decide_eq_true (by omega : ((r.idxOf a : Nat) : Int) < (r.idxOf b : Nat)), decide_eq_false (by omega)]; rfl
  · rw [decide_eq_false (by omega : ¬ ((r.idxOf a : Nat) : Int) < (r.idxOf b : Nat)), decide_eq_true (by omega)]; rfl
theorem sup_two (wf : WfT 8 16 m ts) {p : Int × Int} (hp : p ∈ pairs m) : supW ts p.1 p.2 + supW ts p.2 p.1 = totW ts := by
  obtain ⟨a0, a1, b0, b1, ne⟩ := pr_b hp
  have e : supW ts p.2 p.1 = ((ts.filter fun t => !v_prefers t.1 p.1 p.2).map fun t => t.2).sum := by
    unfold supW
    rw [List.filter_congr fun t ht => prefers_not ((wf.all t ht).1.mem a0 a1) ((wf.all t ht).1.mem b0 b1) ne]
  rw [e]
  exact sum_not (fun t => v_prefers t.1 p.1 p.2) ts
theorem tot_pos (wf : WfT 8 16 m ts) : 0 < totW ts := by
  have h : ∀ t ∈ ts, 1 ≤ t.2 := fun t ht => (wf.all t ht).2.1
  have l1 := wf.l1
  have := sumW_pos h
  show 0 < sumW ts
  omega
theorem wt_pos (wf : WfT 8 16 m ts) {r : List Int} (hr : r ∈ rks ts) : 1 ≤ Wt ts r := by
  obtain ⟨t, ht, e⟩ := List.mem_map.mp hr
  have mem : t ∈ ts.filter fun t => decide (t.1 = r) := List.mem_filter.mpr ⟨ht, decide_eq_true e⟩
  have h : ∀ t ∈ ts.filter fun t => decide (t.1 = r), 1 ≤ t.2 := fun t h => (wf.all t (List.mem_filter.mp h).1).2.1
  have := sumW_pos h
  have := List.length_pos_of_mem mem
  show 1 ≤ sumW (ts.filter fun t => decide (t.1 = r))
  omega
theorem sum_part (ts : Tas) (R : List (List Int)) : sumW (R.map (partOf ts)) = (R.map (Wt ts)).sum := by
  show ((R.map (partOf ts)).map fun x => x.2).sum = _
  rw [List.map_map]; rfl
/-- the medians -/
structure Meds (m : Nat) (ts : Tas) (M : List (List Int)) : Prop where
  v : v_medians (tb m ts) = srtN (eQ PyData.int) M
  len : OneTwo M
  nd : M.Nodup
  mem : ∀ r ∈ M, r ∈ rks ts
  gt : ∀ p ∈ pairs m, totW ts < 2 * supW ts p.1 p.2 → ∀ r ∈ M, v_prefers r p.1 p.2 = true
  lt : ∀ p ∈ pairs m, 2 * supW ts p.1 p.2 < totW ts → ∀ r ∈ M, v_prefers r p.1 p.2 = false
  eq : ∀ p ∈ pairs m, 2 * supW ts p.1 p.2 = totW ts → (∃ r ∈ M, v_prefers r p.1 p.2 = true) ∧ ∃ r ∈ M, v_prefers r p.1 p.2 = false
theorem ranks_ne (wf : WfT 8 16 m ts) {r : List Int} (hr : r ∈ rks ts) : Rank m r ∧ r ≠ [] := by
  obtain ⟨t, ht, rfl⟩ := List.mem_map.mp hr
  have := (wf.all t ht).1
  refine ⟨this, fun z => ?_⟩
  have l := this.len
  have n1 := wf.n1
  rw [z] at l
  have l : 0 = m := l
  omega
theorem medians_v (wf : WfT 8 16 m ts) {pos : Nat → Int} (L : Line m ts pos) : (∃ M, Meds m ts M) ∧ C_medians (tb m ts) := by
  obtain ⟨S, rS, srt, fs, fC⟩ := first_on wf L
  have hS : Seat (pairs m) (sd ts) ts.length (nR S) := srt.elim (sorted_seat L (nR_perm rS)) (sorted_seat' L (nR_perm rS))
  obtain ⟨R, al, eP, eO⟩ := order_v (m := m) fs
  have lR : R.length ≤ 16 := by
    have := nodup_le al.nd fun x hx => al.mem.mp hx
    rw [List.length_map] at this
    have := wf.lM
    omega
  have hin : ∀ t ∈ ts, t.1 ∈ R := fun t ht => al.mem.mpr (List.mem_map.mpr ⟨t, ht, rfl⟩)
  have eT : sumW (R.map (partOf ts)) = totW ts := by rw [sum_part, part_sum al.nd hin]
  have pp : ∀ {A : List (List Int)}, (∀ r ∈ A, r ∈ R) → Pos (A.map (partOf ts)) := fun {A} hA x hx => by
    obtain ⟨r, hr, rfl⟩ := List.mem_map.mp hx
    exact wt_pos wf (al.mem.mp (hA r hr))
  have pR := pp (A := R) fun r h => h
  have fst_ : ∀ A : List (List Int), (A.map (partOf ts)).map (fun x => x.1) = A := fun A => by rw [List.map_map]; exact List.map_id' A
  have t0 := tot_pos wf
  have sup_ : ∀ {p : Int × Int} {A B : List (List Int)} {v : Bool}, R = A ++ B → (∀ r ∈ A, v_prefers r p.1 p.2 = v) → (∀ r ∈ B, v_prefers r p.1 p.2 = !v) → sumW (A.map (partOf ts)) = (if v = true then supW ts p.1 p.2 else totW ts - supW ts p.1 p.2) := fun {p A B v} e hA hB => by
    have h := part_sumF (ts := ts) (fun r => v_prefers r p.1 p.2) al.nd hin
    have h : ((R.filter fun r => v_prefers r p.1 p.2).map (Wt ts)).sum = supW ts p.1 p.2 := h
    have tot : (A.map (Wt ts)).sum + (B.map (Wt ts)).sum = totW ts := by
      have z := part_sum (ts := ts) al.nd hin
      rw [e, List.map_append, List.sum_append_int] at z
      exact z
    rw [sum_part]
    cases v with
    | true =>
      rw [if_pos rfl, ← h, e, List.filter_append, List.filter_eq_self.mpr hA, List.filter_eq_nil_iff.mpr fun r hr => by rw [hB r hr]; simp, List.append_nil]
    | false =>
      rw [if_neg Bool.false_ne_true, ← h, e, List.filter_append, (List.filter_eq_self (l := B)).mpr hB, (List.filter_eq_nil_iff (l := A)).mpr fun r hr => by rw [hA r hr]; simp, List.nil_append]
      omega
  have parts : ∀ p ∈ pairs m, ∃ A B v, R = A ++ B ∧ (∀ r ∈ A, v_prefers r p.1 p.2 = v) ∧ (∀ r ∈ B, v_prefers r p.1 p.2 = !v) ∧ (if v = true then supW ts p.1 p.2 else totW ts - supW ts p.1 p.2) = sumW (A.map (partOf ts)) ∧ Pos (A.map (partOf ts)) ∧ Pos (B.map (partOf ts)) := fun p hp => by
    obtain ⟨A, B, v, e, hA, hB⟩ := al.split rS hS hp
    exact ⟨A, B, v, e, hA, hB, (sup_ e hA hB).symm, pp fun r h => by rw [e]; exact List.mem_append_left _ h, pp fun r h => by rw [e]; exact List.mem_append_right _ h⟩
  refine ⟨⟨picks (totW ts) (R.map (partOf ts)) 0, ?_, ?_, ?_, ?_, ?_, ?_, ?_⟩, ?_⟩
  · unfold v_medians
    show v_middle_rankings ((v_group_order (tb m ts)).map fun g => v_group_part (tb m ts) g) = _
    rw [eP, mid_v, eT]
  · exact picks_len pR (Int.le_refl _) (by rw [eT]; omega) (by omega)
  · exact (picks_sub _ _).nodup (by rw [fst_]; exact al.nd)
  · intro r hr
    have := picks_mem hr
    rw [fst_] at this
    exact al.mem.mp this
  · intro p hp h r hr
    obtain ⟨A, B, v, e, hA, hB, sv, pa, pb⟩ := parts p hp
    rw [e, List.map_append] at hr
    obtain ⟨g1, g2, _⟩ := pick_parts (T := totW ts) pa pb (by rw [← List.map_append, ← e]; exact eT) t0
    rw [fst_] at g1 g2
    cases v with
    | true => rw [if_pos rfl] at sv; exact hA r (g1 (by omega) r hr)
    | false => rw [if_neg Bool.false_ne_true] at sv; exact hB r (g2 (by omega) r hr)
  · intro p hp h r hr
    obtain ⟨A, B, v, e, hA, hB, sv, pa, pb⟩ := parts p hp
    rw [e, List.map_append] at hr
    obtain ⟨g1, g2, _⟩ := pick_parts (T := totW ts) pa pb (by rw [← List.map_append, ← e]; exact eT) t0
    rw [fst_] at g1 g2
    cases v with
    | true => rw [if_pos rfl] at sv; exact hB r (g2 (by omega) r hr)
    | false => rw [if_neg Bool.false_ne_true] at sv; exact hA r (g1 (by omega) r hr)
  · intro p hp h
    obtain ⟨A, B, v, e, hA, hB, sv, pa, pb⟩ := parts p hp
    rw [e, List.map_append]
    obtain ⟨_, _, g3⟩ := pick_parts (T := totW ts) pa pb (by rw [← List.map_append, ← e]; exact eT) t0
    rw [fst_, fst_] at g3
    cases v with
    | true =>
      rw [if_pos rfl] at sv
      obtain ⟨⟨r, h1, h2⟩, q, h3, h4⟩ := g3 (by omega)
      exact ⟨⟨r, h1, hA r h2⟩, q, h3, hB q h4⟩
    | false =>
      rw [if_neg Bool.false_ne_true] at sv
      obtain ⟨⟨r, h1, h2⟩, q, h3, h4⟩ := g3 (by omega)
      exact ⟨⟨q, h3, hB q h4⟩, r, h1, hA r h2⟩
  · have gi : ∀ g ∈ v_group_order (tb m ts), ∃ r ∈ R, g = idxs (rks ts) r := fun g hg => by
      rw [eO] at hg
      obtain ⟨r, hr, rfl⟩ := List.mem_map.mp hg
      exact ⟨r, hr, rfl⟩
    have lk : (rks ts).length = ts.length := List.length_map _
    have lM := wf.lM
    refine ⟨⟨fC, groups_C (by omega), ?_, fun g hg => ?_⟩, ?_, fun g hg => ?_, ?_⟩
    · rw [groups_v]
      show ((firsts (rks ts)).map _).length ≤ _
      rw [List.length_map]
      have := firsts_len (rks ts)
      omega
    · rw [groups_v] at hg
      obtain ⟨r, hr, rfl⟩ := List.mem_map.mp hg
      obtain ⟨fm, fb, _⟩ := first_idx (mem_firsts.mp hr)
      refine ⟨⟨by decide, ?_⟩, ?_⟩
      · have := List.length_pos_of_mem fm; omega
      · rw [fs]; exact rS.mem fb.1 fb.2
    · rw [eO, List.length_map]
      exact lim (by omega)
    · obtain ⟨r, hr, rfl⟩ := gi g hg
      obtain ⟨fm, fb, _⟩ := first_idx (al.mem.mp hr)
      refine ⟨⟨by decide, ?_⟩, ⟨fb.1, fb.2⟩, lim ?_, fun i hi => ?_⟩
      · have := List.length_pos_of_mem fm; omega
      · have := idxs_len (rks ts) r; omega
      · have b := (mem_idxs.mp hi).1
        rw [lk] at b
        exact ⟨b.1, b.2⟩
    · show C_middle_rankings ((v_group_order (tb m ts)).map fun g => v_group_part (tb m ts) g)
      rw [eP]
      refine mid_C (by rw [List.length_map]; omega) fun x hx => ?_
      obtain ⟨r, hr, rfl⟩ := List.mem_map.mp hx
      exact (ranks_ne wf (al.mem.mp hr)).2
end
end TR
namespace TR
open PySem PySem.Spec PyProof.Rows L2
section
variable {m : Nat} {ts : Tas}
/-! ### supports, majorities, ties -/
theorem dish_t {i : Int} (h0 : 0 ≤ i) (h1 : i < m) : v_is_dish_number (m : Int) (.int i) = true := by
  show (true && (decide (0 ≤ i) && decide (i ≤ (m : Int) - 1))) = true
  simp; omega
theorem whole_cases (d : PyData) : v_is_whole d = true → d = .int (dI d) := by
  cases d <;> intro h <;> first | rfl | cases h
theorem dish_C (d : PyData) : C_is_dish_number (m : Int) d := whole_cases d
abbrev Two (m : Nat) (a b : Int) : Prop := (0 ≤ a ∧ a < (m : Int)) ∧ (0 ≤ b ∧ b < (m : Int)) ∧ a ≠ b
theorem two_of {p : Int × Int} (hp : p ∈ pairs m) : Two m p.1 p.2 ∧ Two m p.2 p.1 := by
  obtain ⟨a0, a1, b0, b1, ne⟩ := pr_b hp
  exact ⟨⟨⟨a0, a1⟩, ⟨b0, b1⟩, ne⟩, ⟨b0, b1⟩, ⟨a0, a1⟩, fun z => ne z.symm⟩
theorem sup_C (wf : WfT 8 16 m ts) {a b : Int} (h : Two m a b) : C_support (tb m ts) (.int a) (.int b) := by
  obtain ⟨⟨a0, a1⟩, ⟨b0, b1⟩, ne⟩ := h
  have lM := wf.lM
  refine ⟨⟨dish_C _, fun h => ?_, fun _ => ⟨dish_C _, fun _ => ⟨rfl, rfl⟩, fun h => ?_⟩⟩, lim (by show ts.length ≤ 1000; omega), fun x hx => ?_⟩
  · rw [show v_is_dish_number (tb m ts).1 (.int a) = true from dish_t a0 a1] at h; cases h
  · rw [show v_is_dish_number (tb m ts).1 (.int b) = true from dish_t b0 b1, show PyData.eqv (.int a) (.int b) = false from by show (a == b) = false; simpa using ne] at h
    cases h
  · have := (wf.all x hx).1
    exact ⟨rfl, rfl, this.mem a0 a1, this.mem b0 b1⟩
theorem tot_C (wf : WfT 8 16 m ts) : C_total_weight (tb m ts) := by
  have lM := wf.lM
  exact lim (by show ts.length ≤ 1000; omega)
theorem lead_v (a b : Int) : v_lead (tb m ts) a b = 2 * supW ts a b - totW ts := rfl
theorem lead_C (wf : WfT 8 16 m ts) {a b : Int} (h : Two m a b) : C_lead (tb m ts) a b := ⟨sup_C wf h, .inl ⟨by decide, by decide⟩, tot_C wf⟩
/-- all pairs both ways -/
abbrev both (m : Nat) : List (List Int) := (pairs m).map l2 ++ ((pairs m).map l2).map fun x : List Int => [gt x 1, gt x 0]
theorem both_mem {x : List Int} (h : x ∈ both m) : ∃ a b, x = [a, b] ∧ Two m a b ∧ ((a, b) ∈ pairs m ∨ (b, a) ∈ pairs m) := by
  rcases List.mem_append.mp h with h | h
  · obtain ⟨p, hp, rfl⟩ := List.mem_map.mp h
    exact ⟨p.1, p.2, rfl, (two_of hp).1, .inl hp⟩
  · obtain ⟨y, hy, rfl⟩ := List.mem_map.mp h
    obtain ⟨p, hp, rfl⟩ := List.mem_map.mp hy
    exact ⟨p.2, p.1, rfl, (two_of hp).2, .inr hp⟩
theorem mem_both {a b : Int} (h : (a, b) ∈ pairs m ∨ (b, a) ∈ pairs m) : [a, b] ∈ both m := by
  rcases h with h | h
  · exact List.mem_append_left _ (List.mem_map.mpr ⟨(a, b), h, rfl⟩)
  · exact List.mem_append_right _ (List.mem_map.mpr ⟨[b, a], List.mem_map.mpr ⟨(b, a), h, rfl⟩, rfl⟩)
theorem maj_v (m8 : m ≤ 8) : v_majority (tb m ts) = ((srtN (eQ PyData.int) (both m)).filter fun x : List Int => decide ((0 : Int) < v_lead (tb m ts) (gt x 0) (gt x 1))).map fun x : List Int => (gt x 0, gt x 1) := by
  unfold v_majority
  rw [show v_all_pairs (tb m ts).1 = (pairs m).map l2 from allpairs_v m8]
  rfl
theorem ties_v (m8 : m ≤ 8) : v_ties (tb m ts) = (((pairs m).map l2).filter fun x : List Int => decide (v_lead (tb m ts) (gt x 0) (gt x 1) = (0 : Int))).map fun x : List Int => (gt x 0, gt x 1) := by
  unfold v_ties
  rw [show v_all_pairs (tb m ts).1 = (pairs m).map l2 from allpairs_v m8]
theorem srt_perm (l : List (List Int)) : (srtN (eQ PyData.int) l).Perm l := List.mergeSort_perm _ _
theorem maj_mem (m8 : m ≤ 8) {a b : Int} (h : (a, b) ∈ pairs m ∨ (b, a) ∈ pairs m) : memB (a, b) (v_majority (tb m ts)) = decide (totW ts < 2 * supW ts a b) := by
  rw [maj_v m8]
  refine decide_eq_decide.mpr ⟨fun q => ?_, fun q => ?_⟩
  · obtain ⟨x, hx, e⟩ := List.mem_map.mp q
    obtain ⟨h1, h2⟩ := List.mem_filter.mp hx
    obtain ⟨c, d, rfl, _, _⟩ := both_mem ((srt_perm _).mem_iff.mp h1)
    obtain ⟨rfl, rfl⟩ : c = a ∧ d = b := ⟨congrArg Prod.fst e, congrArg Prod.snd e⟩
    have h2 := of_decide_eq_true h2
    rw [show gt [c, d] 0 = c from rfl, show gt [c, d] 1 = d from rfl, lead_v] at h2
    omega
  · refine List.mem_map.mpr ⟨[a, b], List.mem_filter.mpr ⟨(srt_perm _).mem_iff.mpr (mem_both h), decide_eq_true ?_⟩, rfl⟩
    rw [show gt [a, b] 0 = a from rfl, show gt [a, b] 1 = b from rfl, lead_v]
    omega
theorem ties_mem (m8 : m ≤ 8) {p : Int × Int} (h : p ∈ pairs m) : memB (p.1, p.2) (v_ties (tb m ts)) = decide (2 * supW ts p.1 p.2 = totW ts) := by
  rw [ties_v m8]
  refine decide_eq_decide.mpr ⟨fun q => ?_, fun q => ?_⟩
  · obtain ⟨x, hx, e⟩ := List.mem_map.mp q
    obtain ⟨h1, h2⟩ := List.mem_filter.mp hx
    obtain ⟨c, hc, rfl⟩ := List.mem_map.mp h1
    have e : c = p := Prod.ext (congrArg Prod.fst e) (congrArg Prod.snd e)
    subst e
    have h2 := of_decide_eq_true h2
    rw [show gt (l2 c) 0 = c.1 from rfl, show gt (l2 c) 1 = c.2 from rfl, lead_v] at h2
    omega
  · refine List.mem_map.mpr ⟨l2 p, List.mem_filter.mpr ⟨List.mem_map.mpr ⟨p, h, rfl⟩, decide_eq_true ?_⟩, rfl⟩
    rw [show gt (l2 p) 0 = p.1 from rfl, show gt (l2 p) 1 = p.2 from rfl, lead_v]
    omega
theorem both_len (m8 : m ≤ 8) : (both m).length ≤ 56 := by
  have := plen m8
  rw [List.length_append, List.length_map, List.length_map, List.length_map]
  omega
theorem both_row {x : List Int} (h : x ∈ both m) : x.length = 2 ∧ Two m (gt x 0) (gt x 1) := by
  obtain ⟨a, b, rfl, t, _⟩ := both_mem h
  exact ⟨rfl, t⟩
theorem maj_C (wf : WfT 8 16 m ts) : C_majority (tb m ts) := by
  have m8 := wf.nD
  have bl := both_len m8
  have pl := plen m8
  refine ⟨allpairs_C m8, ?_⟩
  rw [show v_all_pairs (tb m ts).1 = (pairs m).map l2 from allpairs_v m8]
  refine ⟨lim (by rw [List.length_map]; omega), fun x hx => ?_, ?_, srtOk_q fun r hr => ?_, ?_, fun x hx => ?_⟩
  · obtain ⟨p, _, rfl⟩ := List.mem_map.mp hx; rfl
  · rw [← List.length_append]; exact lim (Nat.le_trans bl (by decide))
  · intro z
    have := (both_row hr).1
    rw [z] at this; cases this
  · rw [(srt_perm _).length_eq]; exact lim (Nat.le_trans bl (by decide))
  · obtain ⟨h1, h2⟩ := both_row ((srt_perm _).mem_iff.mp hx)
    exact ⟨h1, lead_C wf h2⟩
theorem ties_C (wf : WfT 8 16 m ts) : C_ties (tb m ts) := by
  have m8 := wf.nD
  have pl := plen m8
  refine ⟨allpairs_C m8, ?_⟩
  rw [show v_all_pairs (tb m ts).1 = (pairs m).map l2 from allpairs_v m8]
  refine ⟨lim (by rw [List.length_map]; omega), fun x hx => ?_⟩
  obtain ⟨p, hp, rfl⟩ := List.mem_map.mp hx
  exact ⟨rfl, lead_C wf (two_of hp).1⟩
/-- with no tie each pair beats one way -/
theorem maj_len (wf : WfT 8 16 m ts) (no : ∀ p ∈ pairs m, 2 * supW ts p.1 p.2 ≠ totW ts) : (v_majority (tb m ts)).length = (pairs m).length := by
  rw [maj_v wf.nD, List.length_map, ((srt_perm (both m)).filter _).length_eq, List.filter_append, List.length_append, List.filter_map, List.filter_map, List.filter_map, List.length_map, List.length_map, List.length_map]
  have key : ∀ L : List (Int × Int), (∀ p ∈ L, p ∈ pairs m) → (L.filter ((fun x : List Int => decide ((0 : Int) < v_lead (tb m ts) (gt x 0) (gt x 1))) ∘ l2)).length + (L.filter (((fun x : List Int => decide ((0 : Int) < v_lead (tb m ts) (gt x 0) (gt x 1))) ∘ fun x : List Int => [gt x 1, gt x 0]) ∘ l2)).length = L.length := fun L => by
    induction L with
    | nil => intro _; rfl
    | cons p L ih =>
      intro hL
      have ih := ih fun q hq => hL q (List.mem_cons_of_mem _ hq)
      have hp := hL p List.mem_cons_self
      have s2 := sup_two wf hp
      have n := no p hp
      have e1 : ((fun x : List Int => decide ((0 : Int) < v_lead (tb m ts) (gt x 0) (gt x 1))) ∘ l2) p = decide (totW ts < 2 * supW ts p.1 p.2) := by
        show decide ((0 : Int) < v_lead (tb m ts) p.1 p.2) = _
        rw [lead_v]
        exact decide_eq_decide.mpr (by omega)
      have e2 : (((fun x : List Int => decide ((0 : Int) < v_lead (tb m ts) (gt x 0) (gt x 1))) ∘ fun x : List Int => [gt x 1, gt x 0]) ∘ l2) p = !decide (totW ts < 2 * supW ts p.1 p.2) := by
        show decide ((0 : Int) < v_lead (tb m ts) p.2 p.1) = _
        rw [lead_v, ← decide_not]
        exact decide_eq_decide.mpr (by omega)
      cases q : decide (totW ts < 2 * supW ts p.1 p.2) with
      | true =>
        rw [q] at e1 e2
        rw [List.filter_cons_of_pos e1, List.filter_cons_of_neg (by rw [e2]; exact Bool.false_ne_true), List.length_cons, List.length_cons]
        omega
      | false =>
        rw [q] at e1 e2
        rw [List.filter_cons_of_neg (by rw [e1]; exact Bool.false_ne_true), List.filter_cons_of_pos e2, List.length_cons, List.length_cons]
        omega
  exact key _ fun p h => h
theorem lex_tri : ∀ {a b : List Int}, a.length = b.length → ¬ b < a → a ≠ b → a < b
  | [], [], _, _, h => absurd rfl h
  | x :: a, y :: b, hl, h1, h2 => by
    rw [List.cons_lt_cons_iff] at h1 ⊢
    rcases Int.lt_trichotomy x y with q | q | q
    · exact .inl q
    · subst q
      refine .inr ⟨rfl, lex_tri (by simpa using hl) (fun z => h1 (.inr ⟨rfl, z⟩)) fun z => h2 (by rw [z])⟩
    · exact absurd (.inl q) h1
theorem lt_rows {a b : List Int} : PySem.W.dataLt (eQ PyData.int a) (eQ PyData.int b) = decide (a < b) := by
  show PySem.W.dataLt (.tuple (a.map .int)) (.tuple (b.map .int)) = _
  rw [PySem.W.dataLt_tuple]
  exact PySem.W.dataLt_ints a b
theorem srt_two {M : List (List Int)} (nd : M.Nodup) (h2 : M.length = 2) (hl : ∀ r ∈ M, r.length = m) : PySem.W.dataLt (eQ PyData.int (gt (srtN (eQ PyData.int) M) 0)) (eQ PyData.int (gt (srtN (eQ PyData.int) M) 1)) = true := by
  have T := PySem.W.sortLe_total (PyProof.Rows.listOrd itemOrd) false (fun b : PyData => PySem.W.keyToks b)
  have pw : (srtN (eQ PyData.int) M).Pairwise fun a b => PySem.W.dataLe false (fun d => d) (eQ PyData.int a) (eQ PyData.int b) = true :=
    List.pairwise_mergeSort (le := fun a b => PySem.W.dataLe false (fun d => d) (eQ PyData.int a) (eQ PyData.int b)) (fun a b c h1 h2 => T.trans _ _ _ h1 h2) (fun a b => by rw [Bool.or_eq_true]; exact T.total _ _) M
  have pm := srt_perm M
  have nd2 := pm.nodup_iff.mpr nd
  have l2' := pm.length_eq.trans h2
  have hl2 : ∀ r ∈ srtN (eQ PyData.int) M, r.length = m := fun r hr => hl r (pm.mem_iff.mp hr)
  revert pw nd2 l2' hl2
  generalize srtN (eQ PyData.int) M = X
  intro pw nd2 l2' hl2
  match X, l2' with
  | [a, b], _ =>
    have h := (List.pairwise_cons.mp pw).1 b List.mem_cons_self
    have h : (!PySem.W.dataLt (eQ PyData.int b) (eQ PyData.int a)) = true := h
    rw [lt_rows] at h
    have h : ¬ b < a := by simpa using h
    show PySem.W.dataLt (eQ PyData.int a) (eQ PyData.int b) = true
    rw [lt_rows]
    refine decide_eq_true (lex_tri ((hl2 a List.mem_cons_self).trans (hl2 b (List.mem_cons_of_mem _ List.mem_cons_self)).symm) h fun z => ?_)
    exact (List.nodup_cons.mp nd2).1 (by rw [z]; exact List.mem_cons_self)
/-! ### what the law compares -/
theorem forV_same {α σ ρ : Type} {body : (σ → ρ) → α → σ → ρ} {after : σ → ρ} : ∀ (l : List α) (w : σ), (∀ x ∈ l, ∀ k, body k x w = k w) → forV body after l w = after w
  | [], _, _ => rfl
  | x :: l, w, h => by
    show body _ x w = _
    rw [h x List.mem_cons_self]
    exact forV_same l w fun y hy => h y (List.mem_cons_of_mem _ hy)
theorem forV_sameC {α : Type} {body : (Unit → Prop) → α → Unit → Prop} {after : Unit → Prop} (ha : after ()) : ∀ (l : List α), (∀ x ∈ l, ∀ k, k () → body k x ()) → forV body after l ()
  | [], _ => ha
  | x :: l, h => h x List.mem_cons_self _ (forV_sameC ha l fun y hy => h y (List.mem_cons_of_mem _ hy))
theorem ways_told {W : List Bool} {t f : Bool} (ht : true ∈ W ↔ t = true) (hf : false ∈ W ↔ f = true) : [!memB false W, !memB true W, decide (((dfB W : Nat) : Int) = (2 : Int))] = [!f, !t, t && f] := by
  unfold memB dfB
  cases t <;> cases f <;> simp [ht, hf]
variable {M X : List (List Int)}
abbrev ways (X : List (List Int)) (p : Int × Int) : List Bool := X.map fun x10_ : (List Int) => (decide (((x10_.idxOf p.1 : Nat) : Int) < ((x10_.idxOf p.2 : Nat) : Int)))
theorem ways_mem (hX : ∀ r, r ∈ X ↔ r ∈ M) {p : Int × Int} {v : Bool} : v ∈ ways X p ↔ ∃ r ∈ M, v_prefers r p.1 p.2 = v := by
  constructor
  · intro h
    obtain ⟨r, hr, e⟩ := List.mem_map.mp h
    exact ⟨r, (hX r).mp hr, e⟩
  · rintro ⟨r, hr, e⟩
    exact List.mem_map.mpr ⟨r, (hX r).mpr hr, e⟩
theorem told_ok (wf : WfT 8 16 m ts) (H : Meds m ts M) (hX : ∀ r, r ∈ X ↔ r ∈ M) {p : Int × Int} (hp : p ∈ pairs m) : [(memB (p.1, p.2) (v_majority (tb m ts))), (memB (p.2, p.1) (v_majority (tb m ts))), (memB (p.1, p.2) (v_ties (tb m ts)))] = [(!memB false (ways X p)), (!memB true (ways X p)), (decide (((dfB (ways X p) : Nat) : Int) = (2 : Int)))] := by
  have s2 := sup_two wf hp
  have m8 := wf.nD
  rw [maj_mem m8 (.inl hp), maj_mem m8 (.inr hp), ties_mem m8 hp]
  obtain ⟨r0, h0⟩ : ∃ r0, r0 ∈ M := by
    cases hM : M with
    | nil => have := H.len; rw [hM] at this; rcases this with h | h <;> cases h
    | cons r l => exact ⟨r, List.mem_cons_self⟩
  rcases Int.lt_trichotomy (2 * supW ts p.1 p.2) (totW ts) with q | q | q
  · have a := H.lt p hp q
    rw [ways_told (t := false) (f := true) ((ways_mem hX).trans ⟨fun ⟨r, hr, e⟩ => (by rw [a r hr] at e; exact e), fun e => (by cases e)⟩) ((ways_mem hX).trans ⟨fun _ => rfl, fun _ => ⟨r0, h0, a r0 h0⟩⟩)]
    rw [decide_eq_false (by omega : ¬ totW ts < 2 * supW ts p.1 p.2), decide_eq_true (by omega : totW ts < 2 * supW ts p.2 p.1), decide_eq_false (by omega : ¬ 2 * supW ts p.1 p.2 = totW ts)]
    rfl
  · obtain ⟨a, b⟩ := H.eq p hp q
    rw [ways_told (t := true) (f := true) ((ways_mem hX).trans ⟨fun _ => rfl, fun _ => a⟩) ((ways_mem hX).trans ⟨fun _ => rfl, fun _ => b⟩)]
    rw [decide_eq_false (by omega : ¬ totW ts < 2 * supW ts p.1 p.2), decide_eq_false (by omega : ¬ totW ts < 2 * supW ts p.2 p.1), decide_eq_true q]
    rfl
  · have a := H.gt p hp q
    rw [ways_told (t := true) (f := false) ((ways_mem hX).trans ⟨fun _ => rfl, fun _ => ⟨r0, h0, a r0 h0⟩⟩) ((ways_mem hX).trans ⟨fun ⟨r, hr, e⟩ => (by rw [a r hr] at e; cases e), fun e => (by cases e)⟩)]
    rw [decide_eq_true q, decide_eq_false (by omega : ¬ totW ts < 2 * supW ts p.2 p.1), decide_eq_false (by omega : ¬ 2 * supW ts p.1 p.2 = totW ts)]
    rfl
theorem one_no_tie (H : Meds m ts M) (h1 : M.length = 1) : ∀ p ∈ pairs m, 2 * supW ts p.1 p.2 ≠ totW ts := fun p hp e => by
  obtain ⟨⟨a, ha, ea⟩, b, hb, eb⟩ := H.eq p hp e
  match M, h1 with
  | [r], _ =>
    rw [List.mem_singleton.mp ha] at ea
    rw [List.mem_singleton.mp hb, ea] at eb
    cases eb
theorem right_ok (wf : WfT 8 16 m ts) {pos : Nat → Int} (L : Line m ts pos) : v__law_right (tb m ts) = true ∧ C__law_right (tb m ts) := by
  obtain ⟨⟨M, H⟩, mC⟩ := medians_v wf L
  have m8 := wf.nD
  have lM := wf.lM
  have hv := H.v
  have hX : ∀ r, r ∈ v_medians (tb m ts) ↔ r ∈ M := fun r => by rw [hv]; exact (srt_perm M).mem_iff
  have lX : (v_medians (tb m ts)).length = M.length := by rw [hv]; exact (srt_perm M).length_eq
  have rk : ∀ r ∈ M, Rank m r := fun r hr => (ranks_ne wf (H.mem r hr)).1
  have len12 : (v_medians (tb m ts)).length = 1 ∨ (v_medians (tb m ts)).length = 2 := by rw [lX]; exact H.len
  have lt2 : (v_medians (tb m ts)).length ≠ 1 → PySem.W.dataLt (eQ PyData.int (gt (v_medians (tb m ts)) (0 : Int))) (eQ PyData.int (gt (v_medians (tb m ts)) (1 : Int))) = true := fun h => by
    rw [hv]
    rw [lX] at h
    exact srt_two (m := m) H.nd (H.len.resolve_left h) fun r hr => (rk r hr).len
  generalize hXe : v_medians (tb m ts) = X at hX lX len12 lt2
  have told := fun {p : Int × Int} (hp : p ∈ pairs m) => told_ok wf H hX hp
  have nof : (!decide (((X.length : Nat) : Int) ∈ [(1 : Int), (2 : Int)])) = false := by
    rcases len12 with e | e <;> rw [e] <;> rfl
  have emp : (X.filter fun x2_ : (List Int) => (!memB x2_ (v_rankings_of (tb m ts)))) = [] := List.filter_eq_nil_iff.mpr fun r hr => by
    have : memB r (v_rankings_of (tb m ts)) = true := memB_iff.mpr (H.mem r ((hX r).mp hr))
    rw [this]; exact Bool.false_ne_true
  have g1 : ((!decide (((X.length : Nat) : Int) ∈ [(1 : Int), (2 : Int)])) || (!((X.filter fun x2_ : (List Int) => (!memB x2_ (v_rankings_of (tb m ts)))).map fun x2_ : (List Int) => x2_).isEmpty)) = false := by
    rw [nof, emp]; rfl
  have supE : ∀ {p : Int × Int}, p ∈ pairs m → decide (((v_support (tb m ts) (PyData.int p.1) (PyData.int p.2)) + (v_support (tb m ts) (PyData.int p.2) (PyData.int p.1))) = (v_total_weight (tb m ts))) = true := fun {p} hp => decide_eq_true (sup_two wf hp)
  constructor
  · unfold v__law_right
    rw [hXe]
    unfold v__law_right_s1
    rw [g1]
    show v__law_right_s3 (tb m ts) X (v_majority (tb m ts)) (v_ties (tb m ts)) = true
    unfold v__law_right_s3
    rw [show v__law_pairs (tb m ts).1 = pairs m from lpairs_v m8]
    refine (forV_same _ _ fun p hp k => ?_).trans ?_
    · have t := told hp
      unfold ways at t
      rw [decide_eq_true t, supE hp]
      rfl
    · show v__law_right_s4 (tb m ts) X (v_majority (tb m ts)) = true
      unfold v__law_right_s4
      rw [show v__law_pairs (tb m ts).1 = pairs m from lpairs_v m8]
      by_cases q : X.length = 1
      · rw [decide_eq_true (by omega : ((X.length : Nat) : Int) = 1), cond_true]
        rw [maj_len wf (one_no_tie H (by rw [← lX]; exact q))]
        exact decide_eq_true rfl
      · rw [decide_eq_false (by omega : ¬ ((X.length : Nat) : Int) = 1), cond_false]
        exact lt2 q
  · unfold C__law_right
    rw [hXe]
    refine ⟨mC, fun _ => ⟨lim (by omega), fun x hx => lim (by show ts.length ≤ 1000; omega)⟩, fun _ => ⟨maj_C wf, ties_C wf, ?_⟩⟩
    unfold C__law_right_s3
    rw [show v__law_pairs (tb m ts).1 = pairs m from lpairs_v m8]
    refine ⟨lpairs_C m8, forV_sameC ?_ _ fun p hp k hk => ?_⟩
    · refine ⟨fun _ => lpairs_C m8, fun h => ?_⟩
      have h : ¬ ((X.length : Nat) : Int) = 1 := of_decide_eq_false h
      have l2 : X.length = 2 := by omega
      refine ⟨⟨by decide, by omega⟩, ⟨by decide, by omega⟩, ?_, by simp [eQ], ?_⟩
      · show PySem.W.alike (.tuple ((gt X 0).map .int)) (.tuple ((gt X 1).map .int)) = true
        simp only [PySem.W.alike, alikeAll_iq]
      · show PyData.depthAll ((gt X 0).map .int) + 1 ≤ 60
        have := depthAll_iq (gt X 0)
        omega
    · obtain ⟨t1, t2⟩ := two_of hp
      refine ⟨lim (by omega), fun x hx => ?_, by rw [List.length_map]; omega, fun _ => ⟨sup_C wf t1, sup_C wf t2, tot_C wf, fun _ => hk⟩⟩
      have r := rk x ((hX x).mp hx)
      exact ⟨r.mem t1.1.1 t1.1.2, r.mem t1.2.1.1 t1.2.1.2⟩
end
/-! ### the tables made from a table -/
section
variable {m : Nat} {ts : Tas} {P : List (List Int)} {ys a b : List Int}
theorem right_on (h : On m ts P ys) (hw : Way m a b P) : v__law_right (tb m ts) = true ∧ C__law_right (tb m ts) := right_ok h.wf (h.line hw)
theorem On.ones (h : On m ts P ys) : On m (ts.map fun x : List Int × Int => (x.1, (1 : Int))) P ys := by
  refine ⟨⟨h.wf.n1, h.wf.nD, by rw [List.length_map]; exact h.wf.l1, by rw [List.length_map]; exact h.wf.lM, fun t ht => ?_⟩, ?_, h.bd⟩
  · obtain ⟨u, hu, rfl⟩ := List.mem_map.mp ht
    exact ⟨(h.wf.all u hu).1, Int.le_refl 1, by show (1 : Int) ≤ 1000000000000; decide⟩
  · rw [List.map_map]; exact h.rk
theorem On.twice (h : On m ts P ys) (l : ts.length + ts.length ≤ 16) : On m (ts ++ ts) P (ys ++ ys) := by
  have l1 := h.wf.l1
  refine ⟨⟨h.wf.n1, h.wf.nD, by rw [List.length_append]; omega, by rw [List.length_append]; exact l, fun t ht => ?_⟩, by rw [List.map_append, List.map_append, h.rk], fun y hy => ?_⟩
  · exact h.wf.all t ((List.mem_append.mp ht).elim id id)
  · exact h.bd y ((List.mem_append.mp hy).elim id id)
theorem cutN_last {α : Type} (l : List α) : cutN l (some (-(1 : Int))) none = l.drop (l.length - 1) := by
  unfold cutN
  have e : HT.sIx l.length 0 (some (-(1 : Int))) = l.length - 1 := by
    show (if (-1 : Int) < 0 then ((-1 : Int) + (l.length : Int)).toNat else min (-1 : Int).toNat l.length) = l.length - 1
    rw [if_pos (by decide)]; omega
  have e0 : HT.sIx l.length l.length none = l.length := rfl
  rw [e, e0, List.take_of_length_le (by rw [List.length_drop]; exact Nat.le_refl _)]
theorem On.ends (h : On m ts P ys) : On m (ts.take 1 ++ ts.drop (ts.length - 1)) P (ys.take 1 ++ ys.drop (ys.length - 1)) := by
  have l1 := h.wf.l1
  have hl := h.len
  have ln : (ts.take 1 ++ ts.drop (ts.length - 1)).length = 2 := by rw [List.length_append, List.length_take, List.length_drop]; omega
  refine ⟨⟨h.wf.n1, h.wf.nD, by omega, by omega, fun t ht => ?_⟩, ?_, fun y hy => ?_⟩
  · exact h.wf.all t ((List.mem_append.mp ht).elim List.mem_of_mem_take List.mem_of_mem_drop)
  · rw [List.map_append, List.map_append, List.map_take, List.map_drop, List.map_take, List.map_drop, h.rk, hl]
  · exact h.bd y ((List.mem_append.mp hy).elim List.mem_of_mem_take List.mem_of_mem_drop)
end
theorem law_w : w_law 0 fun r _ => r = true := by
  unfold w_law
  refine ⟨⟨by decide, by decide⟩, forW_m 200 2000 (fun n hn => rfl) _ 0 (by decide) fun x hx k n hn hk => ?_⟩
  refine w_next (by omega) (by decide) (by decide) fun m' m0 m1 => w_next (by omega) (by decide) (by decide) fun c c0 c1 => ?_
  obtain ⟨m, em⟩ : ∃ m : Nat, 1 + m' = (m : Int) := ⟨(1 + m').toNat, by omega⟩
  rw [em]
  refine seated_w (by omega) (by omega) (by omega) (by omega) (by omega) fun ts P a b ys n' wf tl hw rk bd hn' => ?_
  have O : On m ts P ys := ⟨wf, rk, bd⟩
  have lM := wf.lM
  obtain ⟨v1, c1⟩ := right_on O hw
  obtain ⟨v2, c2⟩ := right_on O.ones hw
  obtain ⟨v3, c3⟩ := right_on O.ones.ends hw
  have l1 : (ts.map fun x : List Int × Int => (x.1, (1 : Int))).length = ts.length := List.length_map _
  refine ⟨c1, fun h => (by rw [v1] at h; cases h), fun _ => ⟨lim (by show ts.length ≤ 1000; omega), ?_⟩⟩
  have eE : ((((m : Int), ts).1, ((cutN (ts.map fun x : List Int × Int => (x.1, (1 : Int))) none (some (1 : Int))) ++ (cutN (ts.map fun x : List Int × Int => (x.1, (1 : Int))) (some (-(1 : Int))) none))) : Int × List (List Int × Int)) = tb m ((ts.map fun x : List Int × Int => (x.1, (1 : Int))).take 1 ++ (ts.map fun x : List Int × Int => (x.1, (1 : Int))).drop ((ts.map fun x : List Int × Int => (x.1, (1 : Int))).length - 1)) := by
    rw [cutN_last, show (some (1 : Int)) = some (((1 : Nat) : Int)) from rfl, cutN_to _ (by rw [l1]; exact wf.l1)]
  show w_law_s3 k (tb m ts) (ts.map fun x : List Int × Int => (x.1, (1 : Int))) n' _
  unfold w_law_s3
  rw [eE, show v__law_right ((tb m ts).1, ts.map fun x : List Int × Int => (x.1, (1 : Int))) = true from v2, v3]
  refine ⟨⟨c2, fun _ => ⟨?_, c3⟩⟩, fun h => (by cases h), fun _ => ?_⟩
  · have e1 := cutN_len (ts.map fun x : List Int × Int => (x.1, (1 : Int))) none (some (1 : Int))
    have e2 := cutN_len (ts.map fun x : List Int × Int => (x.1, (1 : Int))) (some (-(1 : Int))) none
    exact lim (by omega)
  · unfold w_law_s4
    rw [l1]
    by_cases q : ((ts.length : Nat) : Int) < 9
    · obtain ⟨v4, c4⟩ := right_on (O.ones.twice (by rw [l1]; omega)) hw
      refine ⟨fun _ => ⟨lim (by omega), c4⟩, fun h => ?_, fun _ => hk _ (by omega)⟩
      rw [show v__law_right ((tb m ts).1, (ts.map fun x : List Int × Int => (x.1, (1 : Int))) ++ (ts.map fun x : List Int × Int => (x.1, (1 : Int)))) = true from v4, Bool.not_true, Bool.and_false] at h
      cases h
    · rw [decide_eq_false q]
      exact ⟨fun h => (by cases h), fun h => (by cases h), fun _ => hk _ (by omega)⟩
end TR
namespace TR
open PySem PySem.Spec PyProof.Rows L2
theorem inj_of (l : List Addr) (h : l.Nodup) : Inj (fun i => l.getD i 0) l.length := fun i j hi hj e => by
  exact (List.getD_inj hi hj h).mp e
set_option maxHeartbeats 0 in
theorem all_mk {l : PySem.W.OpenLaw} {w : World} {K : PySem.W.Frag} {h : Heap} {mg : Str → Option Value} {fa f0 f1 f2 f3 f4 f5 f6 f7 f8 f9 f10 f11 f12 f13 f14 f15 f16 f17 f18 f19 f20 f21 f22 f23 f24 f25 f26 f27 f28 f29 f30 f31 f32 f33 f34 f35 f36 f37 f38 : Addr} (X : K.In h) (G : h.Ns mainGlobals mg) (hfa : mg "law" = some (.ref fa))
    {od0 an0 od1 an1 od2 an2 od3 an3 od4 an4 od5 an5 od6 an6 od7 an7 od8 an8 od9 an9 od10 an10 od11 an11 od12 an12 od13 an13 od14 an14 od15 an15 od16 an16 od17 an17 od18 an18 od19 an19 od20 an20 od21 an21 od22 an22 od23 an23 od24 an24 od25 an25 od26 an26 od27 an27 od28 an28 od29 an29 od30 an30 od31 an31 od32 an32 od33 an33 od34 an34 od35 an35 od36 an36 od37 an37 od38 an38 : Option Addr} {sl0 sl1 sl2 sl3 sl4 sl5 sl6 sl7 sl8 sl9 sl10 sl11 sl12 sl13 sl14 sl15 sl16 sl17 sl18 sl19 sl20 sl21 sl22 sl23 sl24 sl25 sl26 sl27 sl28 sl29 sl30 sl31 sl32 sl33 sl34 sl35 sl36 sl37 sl38 : Array (Option Value)} {oc0 kV0 dc0 pm0 cd0 ct0 oc1 kV1 dc1 pm1 cd1 ct1 oc2 kV2 dc2 pm2 cd2 ct2 oc3 kV3 dc3 pm3 cd3 ct3 oc4 kV4 dc4 pm4 cd4 ct4 oc5 kV5 dc5 pm5 cd5 ct5 oc6 kV6 dc6 pm6 cd6 ct6 oc7 kV7 dc7 pm7 cd7 ct7 oc8 kV8 dc8 pm8 cd8 ct8 oc9 kV9 dc9 pm9 cd9 ct9 oc10 kV10 dc10 pm10 cd10 ct10 oc11 kV11 dc11 pm11 cd11 ct11 oc12 kV12 dc12 pm12 cd12 ct12 oc13 kV13 dc13 pm13 cd13 ct13 oc14 kV14 dc14 pm14 cd14 ct14 oc15 kV15 dc15 pm15 cd15 ct15 oc16 kV16 dc16 pm16 cd16 ct16 oc17 kV17 dc17 pm17 cd17 ct17 oc18 kV18 dc18 pm18 cd18 ct18 oc19 kV19 dc19 pm19 cd19 ct19 oc20 kV20 dc20 pm20 ct20 oc21 kV21 dc21 pm21 cd21 ct21 oc22 kV22 dc22 pm22 cd22 ct22 oc23 kV23 dc23 pm23 cd23 ct23 oc24 kV24 dc24 pm24 cd24 ct24 oc25 kV25 dc25 pm25 cd25 ct25 oc26 kV26 dc26 pm26 cd26 ct26 oc27 kV27 dc27 pm27 cd27 ct27 oc28 kV28 dc28 pm28 cd28 ct28 oc29 kV29 dc29 pm29 cd29 ct29 oc30 kV30 dc30 pm30 cd30 ct30 oc31 kV31 dc31 pm31 cd31 ct31 oc32 kV32 dc32 pm32 cd32 ct32 oc33 kV33 dc33 pm33 cd33 ct33 oc34 kV34 dc34 pm34 cd34 ct34 oc35 kV35 dc35 pm35 cd35 ct35 oc36 kV36 dc36 pm36 cd36 ct36 oc37 kV37 dc37 pm37 cd37 ct37 oc38 kV38 dc38 pm38 cd38 ct38 : Value}
    {ct_ Pt_ : Addr}
    (a0 : PySem.W.nsIn K mainGlobals "is_whole" = some (some (.ref f0))) (l0 : K.lookup f0 = some ⟨oc0, od0, .func (PySem.W.fnOf "is_whole" "is_whole" (defArgs s_is_whole) (defBody s_is_whole) (defScope s_is_whole) .none kV0 dc0 pm0 an0 cd0 ct0), sl0⟩) (c0 : PySem.W.codeIn K cd0 "is_whole" = true) (k0 : PySem.W.keepIn K (.ref f0) = true)
    (a1 : PySem.W.nsIn K mainGlobals "is_within" = some (some (.ref f1))) (l1 : K.lookup f1 = some ⟨oc1, od1, .func (PySem.W.fnOf "is_within" "is_within" (defArgs s_is_within) (defBody s_is_within) (defScope s_is_within) .none kV1 dc1 pm1 an1 cd1 ct1), sl1⟩) (c1 : PySem.W.codeIn K cd1 "is_within" = true) (k1 : PySem.W.keepIn K (.ref f1) = true)
    (a2 : PySem.W.nsIn K mainGlobals "is_order" = some (some (.ref f2))) (l2 : K.lookup f2 = some ⟨oc2, od2, .func (PySem.W.fnOf "is_order" "is_order" (defArgs s_is_order) (defBody s_is_order) (defScope s_is_order) .none kV2 dc2 pm2 an2 cd2 ct2), sl2⟩) (c2 : PySem.W.codeIn K cd2 "is_order" = true) (k2 : PySem.W.keepIn K (.ref f2) = true)
    (a3 : PySem.W.nsIn K mainGlobals "ascending_tuples" = some (some (.ref f3))) (l3 : K.lookup f3 = some ⟨oc3, od3, .func (PySem.W.fnOf "ascending_tuples" "ascending_tuples" (defArgs s_ascending_tuples) (defBody s_ascending_tuples) (defScope s_ascending_tuples) .none kV3 dc3 pm3 an3 cd3 ct3), sl3⟩) (c3 : PySem.W.codeIn K cd3 "ascending_tuples" = true) (k3 : PySem.W.keepIn K (.ref f3) = true)
    (a4 : PySem.W.nsIn K mainGlobals "all_pairs" = some (some (.ref f4))) (l4 : K.lookup f4 = some ⟨oc4, od4, .func (PySem.W.fnOf "all_pairs" "all_pairs" (defArgs s_all_pairs) (defBody s_all_pairs) (defScope s_all_pairs) .none kV4 dc4 pm4 an4 cd4 ct4), sl4⟩) (c4 : PySem.W.codeIn K cd4 "all_pairs" = true) (k4 : PySem.W.keepIn K (.ref f4) = true)
    (a5 : PySem.W.nsIn K mainGlobals "prefers" = some (some (.ref f5))) (l5 : K.lookup f5 = some ⟨oc5, od5, .func (PySem.W.fnOf "prefers" "prefers" (defArgs s_prefers) (defBody s_prefers) (defScope s_prefers) .none kV5 dc5 pm5 an5 cd5 ct5), sl5⟩) (c5 : PySem.W.codeIn K cd5 "prefers" = true) (k5 : PySem.W.keepIn K (.ref f5) = true)
    (a6 : PySem.W.nsIn K mainGlobals "agree" = some (some (.ref f6))) (l6 : K.lookup f6 = some ⟨oc6, od6, .func (PySem.W.fnOf "agree" "agree" (defArgs s_agree) (defBody s_agree) (defScope s_agree) .none kV6 dc6 pm6 an6 cd6 ct6), sl6⟩) (c6 : PySem.W.codeIn K cd6 "agree" = true) (k6 : PySem.W.keepIn K (.ref f6) = true)
    (a7 : PySem.W.nsIn K mainGlobals "differences" = some (some (.ref f7))) (l7 : K.lookup f7 = some ⟨oc7, od7, .func (PySem.W.fnOf "differences" "differences" (defArgs s_differences) (defBody s_differences) (defScope s_differences) .none kV7 dc7 pm7 an7 cd7 ct7), sl7⟩) (c7 : PySem.W.codeIn K cd7 "differences" = true) (k7 : PySem.W.keepIn K (.ref f7) = true)
    (a8 : PySem.W.nsIn K mainGlobals "distance" = some (some (.ref f8))) (l8 : K.lookup f8 = some ⟨oc8, od8, .func (PySem.W.fnOf "distance" "distance" (defArgs s_distance) (defBody s_distance) (defScope s_distance) .none kV8 dc8 pm8 an8 cd8 ct8), sl8⟩) (c8 : PySem.W.codeIn K cd8 "distance" = true) (k8 : PySem.W.keepIn K (.ref f8) = true)
    (a9 : PySem.W.nsIn K mainGlobals "rankings_of" = some (some (.ref f9))) (l9 : K.lookup f9 = some ⟨oc9, od9, .func (PySem.W.fnOf "rankings_of" "rankings_of" (defArgs s_rankings_of) (defBody s_rankings_of) (defScope s_rankings_of) .none kV9 dc9 pm9 an9 cd9 ct9), sl9⟩) (c9 : PySem.W.codeIn K cd9 "rankings_of" = true) (k9 : PySem.W.keepIn K (.ref f9) = true)
    (a10 : PySem.W.nsIn K mainGlobals "total_weight" = some (some (.ref f10))) (l10 : K.lookup f10 = some ⟨oc10, od10, .func (PySem.W.fnOf "total_weight" "total_weight" (defArgs s_total_weight) (defBody s_total_weight) (defScope s_total_weight) .none kV10 dc10 pm10 an10 cd10 ct10), sl10⟩) (c10 : PySem.W.codeIn K cd10 "total_weight" = true) (k10 : PySem.W.keepIn K (.ref f10) = true)
    (a11 : PySem.W.nsIn K mainGlobals "groups" = some (some (.ref f11))) (l11 : K.lookup f11 = some ⟨oc11, od11, .func (PySem.W.fnOf "groups" "groups" (defArgs s_groups) (defBody s_groups) (defScope s_groups) .none kV11 dc11 pm11 an11 cd11 ct11), sl11⟩) (c11 : PySem.W.codeIn K cd11 "groups" = true) (k11 : PySem.W.keepIn K (.ref f11) = true)
    (a12 : PySem.W.nsIn K mainGlobals "is_dish_number" = some (some (.ref f12))) (l12 : K.lookup f12 = some ⟨oc12, od12, .func (PySem.W.fnOf "is_dish_number" "is_dish_number" (defArgs s_is_dish_number) (defBody s_is_dish_number) (defScope s_is_dish_number) .none kV12 dc12 pm12 an12 cd12 ct12), sl12⟩) (c12 : PySem.W.codeIn K cd12 "is_dish_number" = true) (k12 : PySem.W.keepIn K (.ref f12) = true)
    (a13 : PySem.W.nsIn K mainGlobals "check_two_dishes" = some (some (.ref f13))) (l13 : K.lookup f13 = some ⟨oc13, od13, .func (PySem.W.fnOf "check_two_dishes" "check_two_dishes" (defArgs s_check_two_dishes) (defBody s_check_two_dishes) (defScope s_check_two_dishes) .none kV13 dc13 pm13 an13 cd13 ct13), sl13⟩) (c13 : PySem.W.codeIn K cd13 "check_two_dishes" = true) (k13 : PySem.W.keepIn K (.ref f13) = true)
    (a14 : PySem.W.nsIn K mainGlobals "sides" = some (some (.ref f14))) (l14 : K.lookup f14 = some ⟨oc14, od14, .func (PySem.W.fnOf "sides" "sides" (defArgs s_sides) (defBody s_sides) (defScope s_sides) .none kV14 dc14 pm14 an14 cd14 ct14), sl14⟩) (c14 : PySem.W.codeIn K cd14 "sides" = true) (k14 : PySem.W.keepIn K (.ref f14) = true)
    (a15 : PySem.W.nsIn K mainGlobals "changes_once" = some (some (.ref f15))) (l15 : K.lookup f15 = some ⟨oc15, od15, .func (PySem.W.fnOf "changes_once" "changes_once" (defArgs s_changes_once) (defBody s_changes_once) (defScope s_changes_once) .none kV15 dc15 pm15 an15 cd15 ct15), sl15⟩) (c15 : PySem.W.codeIn K cd15 "changes_once" = true) (k15 : PySem.W.keepIn K (.ref f15) = true)
    (a16 : PySem.W.nsIn K mainGlobals "is_seating" = some (some (.ref f16))) (l16 : K.lookup f16 = some ⟨oc16, od16, .func (PySem.W.fnOf "is_seating" "is_seating" (defArgs s_is_seating) (defBody s_is_seating) (defScope s_is_seating) .none kV16 dc16 pm16 an16 cd16 ct16), sl16⟩) (c16 : PySem.W.codeIn K cd16 "is_seating" = true) (k16 : PySem.W.keepIn K (.ref f16) = true)
    (a17 : PySem.W.nsIn K mainGlobals "row_from" = some (some (.ref f17))) (l17 : K.lookup f17 = some ⟨oc17, od17, .func (PySem.W.fnOf "row_from" "row_from" (defArgs s_row_from) (defBody s_row_from) (defScope s_row_from) .none kV17 dc17 pm17 an17 cd17 ct17), sl17⟩) (c17 : PySem.W.codeIn K cd17 "row_from" = true) (k17 : PySem.W.keepIn K (.ref f17) = true)
    (a18 : PySem.W.nsIn K mainGlobals "find_seating" = some (some (.ref f18))) (l18 : K.lookup f18 = some ⟨oc18, od18, .func (PySem.W.fnOf "find_seating" "find_seating" (defArgs s_find_seating) (defBody s_find_seating) (defScope s_find_seating) .none kV18 dc18 pm18 an18 cd18 ct18), sl18⟩) (c18 : PySem.W.codeIn K cd18 "find_seating" = true) (k18 : PySem.W.keepIn K (.ref f18) = true)
    (a19 : PySem.W.nsIn K mainGlobals "first_seating" = some (some (.ref f19))) (l19 : K.lookup f19 = some ⟨oc19, od19, .func (PySem.W.fnOf "first_seating" "first_seating" (defArgs s_first_seating) (defBody s_first_seating) (defScope s_first_seating) .none kV19 dc19 pm19 an19 cd19 ct19), sl19⟩) (c19 : PySem.W.codeIn K cd19 "first_seating" = true) (k19 : PySem.W.keepIn K (.ref f19) = true)
    (a20 : PySem.W.nsIn K mainGlobals "group_order" = some (some (.ref f20))) (l20 : K.lookup f20 = some ⟨oc20, od20, .func (PySem.W.fnOf "group_order" "group_order" (defArgs s_group_order) (defBody s_group_order) (defScope s_group_order) .none kV20 dc20 pm20 an20 (.ref ct_) ct20), sl20⟩) (c20 : PySem.W.codeIn K (.ref ct_) "group_order" = true) (k20 : PySem.W.keepIn K (.ref f20) = true)
    (a21 : PySem.W.nsIn K mainGlobals "support" = some (some (.ref f21))) (l21 : K.lookup f21 = some ⟨oc21, od21, .func (PySem.W.fnOf "support" "support" (defArgs s_support) (defBody s_support) (defScope s_support) .none kV21 dc21 pm21 an21 cd21 ct21), sl21⟩) (c21 : PySem.W.codeIn K cd21 "support" = true) (k21 : PySem.W.keepIn K (.ref f21) = true)
    (a22 : PySem.W.nsIn K mainGlobals "lead" = some (some (.ref f22))) (l22 : K.lookup f22 = some ⟨oc22, od22, .func (PySem.W.fnOf "lead" "lead" (defArgs s_lead) (defBody s_lead) (defScope s_lead) .none kV22 dc22 pm22 an22 cd22 ct22), sl22⟩) (c22 : PySem.W.codeIn K cd22 "lead" = true) (k22 : PySem.W.keepIn K (.ref f22) = true)
    (a23 : PySem.W.nsIn K mainGlobals "majority" = some (some (.ref f23))) (l23 : K.lookup f23 = some ⟨oc23, od23, .func (PySem.W.fnOf "majority" "majority" (defArgs s_majority) (defBody s_majority) (defScope s_majority) .none kV23 dc23 pm23 an23 cd23 ct23), sl23⟩) (c23 : PySem.W.codeIn K cd23 "majority" = true) (k23 : PySem.W.keepIn K (.ref f23) = true)
    (a24 : PySem.W.nsIn K mainGlobals "ties" = some (some (.ref f24))) (l24 : K.lookup f24 = some ⟨oc24, od24, .func (PySem.W.fnOf "ties" "ties" (defArgs s_ties) (defBody s_ties) (defScope s_ties) .none kV24 dc24 pm24 an24 cd24 ct24), sl24⟩) (c24 : PySem.W.codeIn K cd24 "ties" = true) (k24 : PySem.W.keepIn K (.ref f24) = true)
    (a25 : PySem.W.nsIn K mainGlobals "middle_rankings" = some (some (.ref f25))) (l25 : K.lookup f25 = some ⟨oc25, od25, .func (PySem.W.fnOf "middle_rankings" "middle_rankings" (defArgs s_middle_rankings) (defBody s_middle_rankings) (defScope s_middle_rankings) .none kV25 dc25 pm25 an25 cd25 ct25), sl25⟩) (c25 : PySem.W.codeIn K cd25 "middle_rankings" = true) (k25 : PySem.W.keepIn K (.ref f25) = true)
    (a26 : PySem.W.nsIn K mainGlobals "group_part" = some (some (.ref f26))) (l26 : K.lookup f26 = some ⟨oc26, od26, .func (PySem.W.fnOf "group_part" "group_part" (defArgs s_group_part) (defBody s_group_part) (defScope s_group_part) .none kV26 dc26 pm26 an26 cd26 ct26), sl26⟩) (c26 : PySem.W.codeIn K cd26 "group_part" = true) (k26 : PySem.W.keepIn K (.ref f26) = true)
    (a27 : PySem.W.nsIn K mainGlobals "medians" = some (some (.ref f27))) (l27 : K.lookup f27 = some ⟨oc27, od27, .func (PySem.W.fnOf "medians" "medians" (defArgs s_medians) (defBody s_medians) (defScope s_medians) .none kV27 dc27 pm27 an27 cd27 ct27), sl27⟩) (c27 : PySem.W.codeIn K cd27 "medians" = true) (k27 : PySem.W.keepIn K (.ref f27) = true)
    (a28 : PySem.W.nsIn K mainGlobals "_law_deck" = some (some (.ref f28))) (l28 : K.lookup f28 = some ⟨oc28, od28, .func (PySem.W.fnOf "_law_deck" "_law_deck" (defArgs sDeck) (defBody sDeck) (defScope sDeck) .none kV28 dc28 pm28 an28 cd28 ct28), sl28⟩) (c28 : PySem.W.codeIn K cd28 "_law_deck" = true) (k28 : PySem.W.keepIn K (.ref f28) = true)
    (a29 : PySem.W.nsIn K mainGlobals "_law_next" = some (some (.ref f29))) (l29 : K.lookup f29 = some ⟨oc29, od29, .func (PySem.W.fnOf "_law_next" "_law_next" (defArgs sNext) (defBody sNext) (defScope sNext) .none kV29 dc29 pm29 an29 cd29 ct29), sl29⟩) (c29 : PySem.W.codeIn K cd29 "_law_next" = true) (k29 : PySem.W.keepIn K (.ref f29) = true)
    (a30 : PySem.W.nsIn K mainGlobals "_law_one" = some (some (.ref f30))) (l30 : K.lookup f30 = some ⟨oc30, od30, .func (PySem.W.fnOf "_law_one" "_law_one" (defArgs s__law_one) (defBody s__law_one) (defScope s__law_one) .none kV30 dc30 pm30 an30 cd30 ct30), sl30⟩) (c30 : PySem.W.codeIn K cd30 "_law_one" = true) (k30 : PySem.W.keepIn K (.ref f30) = true)
    (a31 : PySem.W.nsIn K mainGlobals "_law_people" = some (some (.ref f31))) (l31 : K.lookup f31 = some ⟨oc31, od31, .func (PySem.W.fnOf "_law_people" "_law_people" (defArgs s__law_people) (defBody s__law_people) (defScope s__law_people) .none kV31 dc31 pm31 an31 cd31 ct31), sl31⟩) (c31 : PySem.W.codeIn K cd31 "_law_people" = true) (k31 : PySem.W.keepIn K (.ref f31) = true)
    (a32 : PySem.W.nsIn K mainGlobals "_law_list" = some (some (.ref f32))) (l32 : K.lookup f32 = some ⟨oc32, od32, .func (PySem.W.fnOf "_law_list" "_law_list" (defArgs s__law_list) (defBody s__law_list) (defScope s__law_list) .none kV32 dc32 pm32 an32 cd32 ct32), sl32⟩) (c32 : PySem.W.codeIn K cd32 "_law_list" = true) (k32 : PySem.W.keepIn K (.ref f32) = true)
    (a33 : PySem.W.nsIn K mainGlobals "_law_exchanged" = some (some (.ref f33))) (l33 : K.lookup f33 = some ⟨oc33, od33, .func (PySem.W.fnOf "_law_exchanged" "_law_exchanged" (defArgs s__law_exchanged) (defBody s__law_exchanged) (defScope s__law_exchanged) .none kV33 dc33 pm33 an33 cd33 ct33), sl33⟩) (c33 : PySem.W.codeIn K cd33 "_law_exchanged" = true) (k33 : PySem.W.keepIn K (.ref f33) = true)
    (a34 : PySem.W.nsIn K mainGlobals "_law_road" = some (some (.ref f34))) (l34 : K.lookup f34 = some ⟨oc34, od34, .func (PySem.W.fnOf "_law_road" "_law_road" (defArgs s__law_road) (defBody s__law_road) (defScope s__law_road) .none kV34 dc34 pm34 an34 cd34 ct34), sl34⟩) (c34 : PySem.W.codeIn K cd34 "_law_road" = true) (k34 : PySem.W.keepIn K (.ref f34) = true)
    (a35 : PySem.W.nsIn K mainGlobals "_law_seated" = some (some (.ref f35))) (l35 : K.lookup f35 = some ⟨oc35, od35, .func (PySem.W.fnOf "_law_seated" "_law_seated" (defArgs s__law_seated) (defBody s__law_seated) (defScope s__law_seated) .none kV35 dc35 pm35 an35 cd35 ct35), sl35⟩) (c35 : PySem.W.codeIn K cd35 "_law_seated" = true) (k35 : PySem.W.keepIn K (.ref f35) = true)
    (a36 : PySem.W.nsIn K mainGlobals "_law_pairs" = some (some (.ref f36))) (l36 : K.lookup f36 = some ⟨oc36, od36, .func (PySem.W.fnOf "_law_pairs" "_law_pairs" (defArgs s__law_pairs) (defBody s__law_pairs) (defScope s__law_pairs) .none kV36 dc36 pm36 an36 cd36 ct36), sl36⟩) (c36 : PySem.W.codeIn K cd36 "_law_pairs" = true) (k36 : PySem.W.keepIn K (.ref f36) = true)
    (a37 : PySem.W.nsIn K mainGlobals "_law_right" = some (some (.ref f37))) (l37 : K.lookup f37 = some ⟨oc37, od37, .func (PySem.W.fnOf "_law_right" "_law_right" (defArgs s__law_right) (defBody s__law_right) (defScope s__law_right) .none kV37 dc37 pm37 an37 cd37 ct37), sl37⟩) (c37 : PySem.W.codeIn K cd37 "_law_right" = true) (k37 : PySem.W.keepIn K (.ref f37) = true)
    (a38 : PySem.W.nsIn K mainGlobals "law" = some (some (.ref f38))) (l38 : K.lookup f38 = some ⟨oc38, od38, .func (PySem.W.fnOf "law" "law" (defArgs s_law) (defBody s_law) (defScope s_law) .none kV38 dc38 pm38 an38 cd38 ct38), sl38⟩) (c38 : PySem.W.codeIn K cd38 "law" = true) (k38 : PySem.W.keepIn K (.ref f38) = true)
    (z0 : PySem.W.nsIn K mainGlobals "abs" = some none) (z1 : PySem.W.nsIn K mainGlobals "len" = some none) (z2 : PySem.W.nsIn K mainGlobals "isinstance" = some none) (z3 : PySem.W.nsIn K mainGlobals "bool" = some none) (z4 : PySem.W.nsIn K mainGlobals "int" = some none) (z5 : PySem.W.nsIn K mainGlobals "all" = some none) (z6 : PySem.W.nsIn K mainGlobals "tuple" = some none) (z7 : PySem.W.nsIn K mainGlobals "sorted" = some none) (z8 : PySem.W.nsIn K mainGlobals "range" = some none) (z9 : PySem.W.nsIn K mainGlobals "list" = some none) (z10 : PySem.W.nsIn K mainGlobals "sum" = some none) (z11 : PySem.W.nsIn K mainGlobals "enumerate" = some none) (z12 : PySem.W.nsIn K mainGlobals "min" = some none) (z13 : PySem.W.nsIn K mainGlobals "set" = some none) (hTt : h.get? Pt_ = some { cls := .none, data := .fields #[] }) (nTt : K.lookup Pt_ = none) (cTt : PySem.W.codeHdIn K ct_ Pt_ = true) :
    LamX.LawAtS l w K CX0 11 63 "_law_script" mg fa h := by
  have e := hfa.symm.trans (PySem.W.mg_of X G a38)
  cases e
  have F0 := fun_mk (st := s_is_whole) l0 c0 k0
  have F1 := fun_mk (st := s_is_within) l1 c1 k1
  have F2 := fun_mk (st := s_is_order) l2 c2 k2
  have F3 := fun_mk (st := s_ascending_tuples) l3 c3 k3
  have F4 := fun_mk (st := s_all_pairs) l4 c4 k4
  have F5 := fun_mk (st := s_prefers) l5 c5 k5
  have F6 := fun_mk (st := s_agree) l6 c6 k6
  have F7 := fun_mk (st := s_differences) l7 c7 k7
  have F8 := fun_mk (st := s_distance) l8 c8 k8
  have F9 := fun_mk (st := s_rankings_of) l9 c9 k9
  have F10 := fun_mk (st := s_total_weight) l10 c10 k10
  have F11 := fun_mk (st := s_groups) l11 c11 k11
  have F12 := fun_mk (st := s_is_dish_number) l12 c12 k12
  have F13 := fun_mk (st := s_check_two_dishes) l13 c13 k13
  have F14 := fun_mk (st := s_sides) l14 c14 k14
  have F15 := fun_mk (st := s_changes_once) l15 c15 k15
  have F16 := fun_mk (st := s_is_seating) l16 c16 k16
  have F17 := fun_mk (st := s_row_from) l17 c17 k17
  have F18 := fun_mk (st := s_find_seating) l18 c18 k18
  have F19 := fun_mk (st := s_first_seating) l19 c19 k19
  have F20 := fun_mk (st := s_group_order) l20 c20 k20
  have F21 := fun_mk (st := s_support) l21 c21 k21
  have F22 := fun_mk (st := s_lead) l22 c22 k22
  have F23 := fun_mk (st := s_majority) l23 c23 k23
  have F24 := fun_mk (st := s_ties) l24 c24 k24
  have F25 := fun_mk (st := s_middle_rankings) l25 c25 k25
  have F26 := fun_mk (st := s_group_part) l26 c26 k26
  have F27 := fun_mk (st := s_medians) l27 c27 k27
  have F28 := fun_mk (st := sDeck) l28 c28 k28
  have F29 := fun_mk (st := sNext) l29 c29 k29
  have F30 := fun_mk (st := s__law_one) l30 c30 k30
  have F31 := fun_mk (st := s__law_people) l31 c31 k31
  have F32 := fun_mk (st := s__law_list) l32 c32 k32
  have F33 := fun_mk (st := s__law_exchanged) l33 c33 k33
  have F34 := fun_mk (st := s__law_road) l34 c34 k34
  have F35 := fun_mk (st := s__law_seated) l35 c35 k35
  have F36 := fun_mk (st := s__law_pairs) l36 c36 k36
  have F37 := fun_mk (st := s__law_right) l37 c37 k37
  have F38 := fun_mk (st := s_law) l38 c38 k38
  have b0 := F0.binds (ps := ["value"]) fun _ _ _ _ _ _ us hl => match us, hl with | [_], _ => rfl
  have b1 := F1.binds (ps := ["value", "low", "high"]) fun _ _ _ _ _ _ us hl => match us, hl with | [_, _, _], _ => rfl
  have b2 := F2.binds (ps := ["size", "value"]) fun _ _ _ _ _ _ us hl => match us, hl with | [_, _], _ => rfl
  have b3 := F3.binds (ps := ["size", "length"]) fun _ _ _ _ _ _ us hl => match us, hl with | [_, _], _ => rfl
  have b4 := F4.binds (ps := ["dishes"]) fun _ _ _ _ _ _ us hl => match us, hl with | [_], _ => rfl
  have b5 := F5.binds (ps := ["ranking", "one", "other"]) fun _ _ _ _ _ _ us hl => match us, hl with | [_, _, _], _ => rfl
  have b6 := F6.binds (ps := ["one", "other", "pair"]) fun _ _ _ _ _ _ us hl => match us, hl with | [_, _, _], _ => rfl
  have b7 := F7.binds (ps := ["one", "other"]) fun _ _ _ _ _ _ us hl => match us, hl with | [_, _], _ => rfl
  have b8 := F8.binds (ps := ["one", "other"]) fun _ _ _ _ _ _ us hl => match us, hl with | [_, _], _ => rfl
  have b9 := F9.binds (ps := ["table"]) fun _ _ _ _ _ _ us hl => match us, hl with | [_], _ => rfl
  have b10 := F10.binds (ps := ["table"]) fun _ _ _ _ _ _ us hl => match us, hl with | [_], _ => rfl
  have b11 := F11.binds (ps := ["table"]) fun _ _ _ _ _ _ us hl => match us, hl with | [_], _ => rfl
  have b12 := F12.binds (ps := ["dishes", "value"]) fun _ _ _ _ _ _ us hl => match us, hl with | [_, _], _ => rfl
  have b13 := F13.binds (ps := ["dishes", "one", "other"]) fun _ _ _ _ _ _ us hl => match us, hl with | [_, _, _], _ => rfl
  have b14 := F14.binds (ps := ["table", "pair"]) fun _ _ _ _ _ _ us hl => match us, hl with | [_, _], _ => rfl
  have b15 := F15.binds (ps := ["table", "row", "pair"]) fun _ _ _ _ _ _ us hl => match us, hl with | [_, _, _], _ => rfl
  have b16 := F16.binds (ps := ["table", "value"]) fun _ _ _ _ _ _ us hl => match us, hl with | [_, _], _ => rfl
  have b17 := F17.binds (ps := ["table", "start"]) fun _ _ _ _ _ _ us hl => match us, hl with | [_, _], _ => rfl
  have b18 := F18.binds (ps := ["table"]) fun _ _ _ _ _ _ us hl => match us, hl with | [_], _ => rfl
  have b19 := F19.binds (ps := ["table"]) fun _ _ _ _ _ _ us hl => match us, hl with | [_], _ => rfl
  have b20 := F20.binds (ps := ["table"]) fun _ _ _ _ _ _ us hl => match us, hl with | [_], _ => rfl
  have b21 := F21.binds (ps := ["table", "one", "other"]) fun _ _ _ _ _ _ us hl => match us, hl with | [_, _, _], _ => rfl
  have b22 := F22.binds (ps := ["table", "one", "other"]) fun _ _ _ _ _ _ us hl => match us, hl with | [_, _, _], _ => rfl
  have b23 := F23.binds (ps := ["table"]) fun _ _ _ _ _ _ us hl => match us, hl with | [_], _ => rfl
  have b24 := F24.binds (ps := ["table"]) fun _ _ _ _ _ _ us hl => match us, hl with | [_], _ => rfl
  have b25 := F25.binds (ps := ["parts"]) fun _ _ _ _ _ _ us hl => match us, hl with | [_], _ => rfl
  have b26 := F26.binds (ps := ["table", "group"]) fun _ _ _ _ _ _ us hl => match us, hl with | [_, _], _ => rfl
  have b27 := F27.binds (ps := ["table"]) fun _ _ _ _ _ _ us hl => match us, hl with | [_], _ => rfl
  have b28 := F28.binds (ps := ["_law_script"]) fun _ _ _ _ _ _ us hl => match us, hl with | [_], _ => rfl
  have b29 := F29.binds (ps := ["_law_deck_here", "_law_many"]) fun _ _ _ _ _ _ us hl => match us, hl with | [_, _], _ => rfl
  have b30 := F30.binds (ps := ["_law_deck_here", "_law_some"]) fun _ _ _ _ _ _ us hl => match us, hl with | [_, _], _ => rfl
  have b31 := F31.binds (ps := ["_law_deck_here"]) fun _ _ _ _ _ _ us hl => match us, hl with | [_], _ => rfl
  have b32 := F32.binds (ps := ["_law_deck_here", "_law_dishes"]) fun _ _ _ _ _ _ us hl => match us, hl with | [_, _], _ => rfl
  have b33 := F33.binds (ps := ["_law_row", "_law_k"]) fun _ _ _ _ _ _ us hl => match us, hl with | [_, _], _ => rfl
  have b34 := F34.binds (ps := ["_law_deck_here", "_law_dishes", "_law_steps"]) fun _ _ _ _ _ _ us hl => match us, hl with | [_, _, _], _ => rfl
  have b35 := F35.binds (ps := ["_law_deck_here", "_law_dishes", "_law_many"]) fun _ _ _ _ _ _ us hl => match us, hl with | [_, _, _], _ => rfl
  have b36 := F36.binds (ps := ["_law_dishes"]) fun _ _ _ _ _ _ us hl => match us, hl with | [_], _ => rfl
  have b37 := F37.binds (ps := ["_law_table"]) fun _ _ _ _ _ _ us hl => match us, hl with | [_], _ => rfl
  have g0 := PySem.W.mg_of X G a0
  have g1 := PySem.W.mg_of X G a1
  have g2 := PySem.W.mg_of X G a2
  have g3 := PySem.W.mg_of X G a3
  have g4 := PySem.W.mg_of X G a4
  have g5 := PySem.W.mg_of X G a5
  have g6 := PySem.W.mg_of X G a6
  have g7 := PySem.W.mg_of X G a7
  have g8 := PySem.W.mg_of X G a8
  have g9 := PySem.W.mg_of X G a9
  have g10 := PySem.W.mg_of X G a10
  have g11 := PySem.W.mg_of X G a11
  have g12 := PySem.W.mg_of X G a12
  have g13 := PySem.W.mg_of X G a13
  have g14 := PySem.W.mg_of X G a14
  have g15 := PySem.W.mg_of X G a15
  have g16 := PySem.W.mg_of X G a16
  have g17 := PySem.W.mg_of X G a17
  have g18 := PySem.W.mg_of X G a18
  have g19 := PySem.W.mg_of X G a19
  have g20 := PySem.W.mg_of X G a20
  have g21 := PySem.W.mg_of X G a21
  have g22 := PySem.W.mg_of X G a22
  have g23 := PySem.W.mg_of X G a23
  have g24 := PySem.W.mg_of X G a24
  have g25 := PySem.W.mg_of X G a25
  have g26 := PySem.W.mg_of X G a26
  have g27 := PySem.W.mg_of X G a27
  have g28 := PySem.W.mg_of X G a28
  have g29 := PySem.W.mg_of X G a29
  have g30 := PySem.W.mg_of X G a30
  have g31 := PySem.W.mg_of X G a31
  have g32 := PySem.W.mg_of X G a32
  have g33 := PySem.W.mg_of X G a33
  have g34 := PySem.W.mg_of X G a34
  have g35 := PySem.W.mg_of X G a35
  have g36 := PySem.W.mg_of X G a36
  have g37 := PySem.W.mg_of X G a37
  have g38 := PySem.W.mg_of X G a38
  have m_abs := PySem.W.mg_none_of X G z0
  have m_len := PySem.W.mg_none_of X G z1
  have m_isinstance := PySem.W.mg_none_of X G z2
  have m_bool := PySem.W.mg_none_of X G z3
  have m_int := PySem.W.mg_none_of X G z4
  have m_all := PySem.W.mg_none_of X G z5
  have m_tuple := PySem.W.mg_none_of X G z6
  have m_sorted := PySem.W.mg_none_of X G z7
  have m_range := PySem.W.mg_none_of X G z8
  have m_list := PySem.W.mg_none_of X G z9
  have m_sum := PySem.W.mg_none_of X G z10
  have m_enumerate := PySem.W.mg_none_of X G z11
  have m_min := PySem.W.mg_none_of X G z12
  have m_set := PySem.W.mg_none_of X G z13
  refine ⟨PySem.W.fnOf "law" "law" (defArgs s_law) (defBody s_law) (defScope s_law) .none kV38 dc38 pm38 an38 cd38 ct38, [(ct_, Pt_)], spLawT K [(Pt_, ("group_order.<locals>.<lambda>" : Str))], fun p hp => by rw [List.mem_singleton.mp hp]; exact hTt, fun p hp => by rw [List.mem_singleton.mp hp]; exact nTt, fun p hp => by rw [List.mem_singleton.mp hp]; exact PySem.W.codeHd_of_K X cTt, fun s v => .of_eq rfl, fun H a ns hl _ hH hS => ⟨⟨a, ns, rfl, hS, hl, fun _ => rfl⟩, fun p hp => by rw [List.mem_singleton.mp hp]; exact LamX.TabS.nil (hH (ct_, Pt_) List.mem_cons_self)⟩, fun base _ _ TBs => ?_⟩
  have TB : LamX.TabB base mg ct_ Pt_ := TBs (ct_, Pt_) List.mem_cons_self
  have GG__law_list : FnOk l.prog w K mg base CX0 2 f32 _ _ (spA [.deck, .dat] F__law_list) := okA__law_list F32 k29 b29 g29 (okA__law_next F29 m_len) m_range m_list m_len m_tuple
  have GG__law_one : FnOk l.prog w K mg base CX0 2 f30 _ _ (spA [.deck, .bor] F__law_one) := okA__law_one F30 k29 b29 g29 (okA__law_next F29 m_len) m_len
  have GG__law_exchanged : FnOk l.prog w K mg base CX0 1 f33 _ _ (spA [.dat, .dat] F__law_exchanged) := okA__law_exchanged F33
  have GG__law_road : FnOk l.prog w K mg base CX0 3 f34 _ _ (spA [.deck, .dat, .dat] F__law_road) := okA__law_road F34 k32 b32 g32 (FnOk.mono (j := 2) GG__law_list (by decide)) k30 b30 g30 (FnOk.mono (j := 2) GG__law_one (by decide)) k33 b33 g33 (FnOk.mono (j := 1) GG__law_exchanged (by decide)) m_range m_tuple m_sorted
  have GG__law_people : FnOk l.prog w K mg base CX0 2 f31 _ _ (spA [.deck] F__law_people) := okA__law_people F31 k29 b29 g29 (okA__law_next F29 m_len)
  have GG__law_seated : FnOk l.prog w K mg base CX0 4 f35 _ _ (spA [.deck, .dat, .dat] F__law_seated) := okA__law_seated F35 k34 b34 g34 (FnOk.mono (j := 3) GG__law_road (by decide)) k29 b29 g29 (okA__law_next F29 m_len) k31 b31 g31 (FnOk.mono (j := 2) GG__law_people (by decide)) k30 b30 g30 (FnOk.mono (j := 2) GG__law_one (by decide)) m_tuple m_range
  have GG_middle_rankings : FnOk l.prog w K mg base CX0 1 f25 _ _ (spA [.dat] F_middle_rankings) := okA_middle_rankings F25 m_sum m_tuple m_sorted
  have GG_rankings_of : FnOk l.prog w K mg base CX0 1 f9 _ _ (spA [.dat] F_rankings_of) := okA_rankings_of F9 m_tuple
  have GG_ascending_tuples : FnOk l.prog w K mg base CX0 1 f3 _ _ (spA [.dat, .dat] F_ascending_tuples) := okA_ascending_tuples F3 m_range
  have GG_all_pairs : FnOk l.prog w K mg base CX0 2 f4 _ _ (spA [.dat] F_all_pairs) := okA_all_pairs F4 k3 b3 g3 (FnOk.mono (j := 1) GG_ascending_tuples (by decide))
  have GG_prefers : FnOk l.prog w K mg base CX0 1 f5 _ _ (spA [.dat, .dat, .dat] F_prefers) := okA_prefers F5
  have GG_agree : FnOk l.prog w K mg base CX0 2 f6 _ _ (spA [.dat, .dat, .dat] F_agree) := okA_agree F6 k5 b5 g5 (FnOk.mono (j := 1) GG_prefers (by decide))
  have GG_differences : FnOk l.prog w K mg base CX0 3 f7 _ _ (spA [.dat, .dat] F_differences) := okA_differences F7 k4 b4 g4 (FnOk.mono (j := 2) GG_all_pairs (by decide)) k6 b6 g6 (FnOk.mono (j := 2) GG_agree (by decide)) m_tuple m_len
  have GG_distance : FnOk l.prog w K mg base CX0 4 f8 _ _ (spA [.dat, .dat] F_distance) := okA_distance F8 k7 b7 g7 (FnOk.mono (j := 3) GG_differences (by decide)) m_len
  have GG_row_from : FnOk l.prog w K mg base CX0 5 f17 _ _ (spA [.dat, .dat] F_row_from) := okA_row_from F17 k9 b9 g9 (FnOk.mono (j := 1) GG_rankings_of (by decide)) k8 b8 g8 (FnOk.mono (j := 4) GG_distance (by decide)) m_enumerate m_tuple m_sorted
  have GG_is_whole : FnOk l.prog w K mg base CX0 1 f0 _ _ (spA [.dat] F_is_whole) := okA_is_whole F0 m_isinstance m_bool m_int
  have GG_is_order : FnOk l.prog w K mg base CX0 2 f2 _ _ (spA [.dat, .dat] F_is_order) := okA_is_order F2 k0 b0 g0 (FnOk.mono (j := 1) GG_is_whole (by decide)) m_all m_isinstance m_tuple m_sorted m_range m_list
  have GG_sides : FnOk l.prog w K mg base CX0 2 f14 _ _ (spA [.dat, .dat] F_sides) := okA_sides F14 k9 b9 g9 (FnOk.mono (j := 1) GG_rankings_of (by decide)) k5 b5 g5 (FnOk.mono (j := 1) GG_prefers (by decide))
  have GG_changes_once : FnOk l.prog w K mg base CX0 3 f15 _ _ (spA [.dat, .dat, .dat] F_changes_once) := okA_changes_once F15 k14 b14 g14 (FnOk.mono (j := 2) GG_sides (by decide)) m_len m_range
  have GG_is_seating : FnOk l.prog w K mg base CX0 4 f16 _ _ (spA [.dat, .dat] F_is_seating) := okA_is_seating F16 k2 b2 g2 (FnOk.mono (j := 2) GG_is_order (by decide)) k4 b4 g4 (FnOk.mono (j := 2) GG_all_pairs (by decide)) k15 b15 g15 (FnOk.mono (j := 3) GG_changes_once (by decide)) m_len m_all
  have GG_find_seating : FnOk l.prog w K mg base CX0 6 f18 _ _ (spA [.dat] F_find_seating) := okA_find_seating F18 k17 b17 g17 (FnOk.mono (j := 5) GG_row_from (by decide)) k16 b16 g16 (FnOk.mono (j := 4) GG_is_seating (by decide)) m_min
  have GG_first_seating : FnOk l.prog w K mg base CX0 7 f19 _ _ (spA [.dat] F_first_seating) := okA_first_seating F19 k18 b18 g18 (FnOk.mono (j := 6) GG_find_seating (by decide))
  have GG_groups : FnOk l.prog w K mg base CX0 2 f11 _ _ (spA [.dat] F_groups) := okA_groups F11 k9 b9 g9 (FnOk.mono (j := 1) GG_rankings_of (by decide)) m_enumerate m_tuple
  have GG_group_order : FnOk l.prog w K mg base CX0 8 f20 _ _ (spAT [(Pt_, ("group_order.<locals>.<lambda>" : Str))] [.dat] F_group_order) := okA_group_order F20 k19 b19 g19 (FnOk.mono (j := 7) GG_first_seating (by decide)) k11 b11 g11 (FnOk.mono (j := 2) GG_groups (by decide)) TB rfl List.mem_cons_self (fun p hp _ => by rw [List.mem_singleton.mp hp]) (by decide) m_tuple m_sorted
  have GG_group_part : FnOk l.prog w K mg base CX0 1 f26 _ _ (spA [.dat, .dat] F_group_part) := okA_group_part F26 m_sum
  have GG_medians : FnOk l.prog w K mg base CX0 9 f27 _ _ (spAT [(Pt_, ("group_order.<locals>.<lambda>" : Str))] [.dat] F_medians) := okA_medians F27 k25 b25 g25 (FnOk.mono (j := 1) GG_middle_rankings (by decide)) k20 b20 g20 (FnOk.mono (j := 8) GG_group_order (by decide)) k26 b26 g26 (FnOk.mono (j := 1) GG_group_part (by decide))
  have GG_is_within : FnOk l.prog w K mg base CX0 2 f1 _ _ (spA [.dat, .dat, .dat] F_is_within) := okA_is_within F1 k0 b0 g0 (FnOk.mono (j := 1) GG_is_whole (by decide))
  have GG_is_dish_number : FnOk l.prog w K mg base CX0 3 f12 _ _ (spA [.dat, .dat] F_is_dish_number) := okA_is_dish_number F12 k1 b1 g1 (FnOk.mono (j := 2) GG_is_within (by decide))
  have GG_check_two_dishes : FnOk l.prog w K mg base CX0 4 f13 _ _ (spA [.dat, .dat, .dat] F_check_two_dishes) := okA_check_two_dishes F13 k12 b12 g12 (FnOk.mono (j := 3) GG_is_dish_number (by decide))
  have GG_support : FnOk l.prog w K mg base CX0 5 f21 _ _ (spA [.dat, .dat, .dat] F_support) := okA_support F21 k13 b13 g13 (FnOk.mono (j := 4) GG_check_two_dishes (by decide)) k5 b5 g5 (FnOk.mono (j := 1) GG_prefers (by decide)) m_sum
  have GG_total_weight : FnOk l.prog w K mg base CX0 1 f10 _ _ (spA [.dat] F_total_weight) := okA_total_weight F10 m_sum
  have GG_lead : FnOk l.prog w K mg base CX0 6 f22 _ _ (spA [.dat, .dat, .dat] F_lead) := okA_lead F22 k21 b21 g21 (FnOk.mono (j := 5) GG_support (by decide)) k10 b10 g10 (FnOk.mono (j := 1) GG_total_weight (by decide))
  have GG_ties : FnOk l.prog w K mg base CX0 7 f24 _ _ (spA [.dat] F_ties) := okA_ties F24 k4 b4 g4 (FnOk.mono (j := 2) GG_all_pairs (by decide)) k22 b22 g22 (FnOk.mono (j := 6) GG_lead (by decide)) m_tuple
  have GG_majority : FnOk l.prog w K mg base CX0 7 f23 _ _ (spA [.dat] F_majority) := okA_majority F23 k4 b4 g4 (FnOk.mono (j := 2) GG_all_pairs (by decide)) k22 b22 g22 (FnOk.mono (j := 6) GG_lead (by decide)) m_sorted m_tuple
  have GG__law_pairs : FnOk l.prog w K mg base CX0 1 f36 _ _ (spA [.dat] F__law_pairs) := okA__law_pairs F36 m_range
  have GG__law_right : FnOk l.prog w K mg base CX0 10 f37 _ _ (spAT [(Pt_, ("group_order.<locals>.<lambda>" : Str))] [.dat] F__law_right) := okA__law_right F37 k27 b27 g27 (FnOk.mono (j := 9) GG_medians (by decide)) k9 b9 g9 (FnOk.mono (j := 1) GG_rankings_of (by decide)) k24 b24 g24 (FnOk.mono (j := 7) GG_ties (by decide)) k23 b23 g23 (FnOk.mono (j := 7) GG_majority (by decide)) k36 b36 g36 (FnOk.mono (j := 1) GG__law_pairs (by decide)) k21 b21 g21 (FnOk.mono (j := 5) GG_support (by decide)) k10 b10 g10 (FnOk.mono (j := 1) GG_total_weight (by decide)) m_len m_set
  exact okA_law F38 k28 b28 g28 (ok_deck F28 m_abs m_len) k35 b35 g35 (FnOk.mono (j := 4) GG__law_seated (by decide)) k29 b29 g29 (okA__law_next F29 m_len) k37 b37 g37 (FnOk.mono (j := 10) GG__law_right (by decide)) m_range m_tuple m_len (law_of law_w)

end TR
open PySem PySem.W PyProof.Rows
set_option maxHeartbeats 0 in
theorem PySem.Challenge.cw_tasterow_k26_whole_medians_decide_holds : PySem.Challenge.rw_tasterow_k26_whole_medians_decide.Holds := by
  w_on; o_law; k_head; (case hw => w_witness2)
  k_fill
  refine LamX.walk_ofTs (l := PySem.Challenge.rw_tasterow_k26_whole_medians_decide) (n := 63) (k := 11) (x := "_law_script") (CX := fun _ => L2.CX0) rfl (by decide) rfl ⟨rfl, by decide, by decide⟩ (fun w h Y => PySem.W.km_in_of Y) ?F (fun _ _ _ _ _ h => h)
  case F =>
    intro w mg fa h Y KX G hmg
    have hT8 := PySem.W.km_tabs_of Y
    refine' TR.all_mk KX G hmg ?a0 ?l0 ?c0 ?k0 ?a1 ?l1 ?c1 ?k1 ?a2 ?l2 ?c2 ?k2 ?a3 ?l3 ?c3 ?k3 ?a4 ?l4 ?c4 ?k4 ?a5 ?l5 ?c5 ?k5 ?a6 ?l6 ?c6 ?k6 ?a7 ?l7 ?c7 ?k7 ?a8 ?l8 ?c8 ?k8 ?a9 ?l9 ?c9 ?k9 ?a10 ?l10 ?c10 ?k10 ?a11 ?l11 ?c11 ?k11 ?a12 ?l12 ?c12 ?k12 ?a13 ?l13 ?c13 ?k13 ?a14 ?l14 ?c14 ?k14 ?a15 ?l15 ?c15 ?k15 ?a16 ?l16 ?c16 ?k16 ?a17 ?l17 ?c17 ?k17 ?a18 ?l18 ?c18 ?k18 ?a19 ?l19 ?c19 ?k19 ?a20 ?l20 ?c20 ?k20 ?a21 ?l21 ?c21 ?k21 ?a22 ?l22 ?c22 ?k22 ?a23 ?l23 ?c23 ?k23 ?a24 ?l24 ?c24 ?k24 ?a25 ?l25 ?c25 ?k25 ?a26 ?l26 ?c26 ?k26 ?a27 ?l27 ?c27 ?k27 ?a28 ?l28 ?c28 ?k28 ?a29 ?l29 ?c29 ?k29 ?a30 ?l30 ?c30 ?k30 ?a31 ?l31 ?c31 ?k31 ?a32 ?l32 ?c32 ?k32 ?a33 ?l33 ?c33 ?k33 ?a34 ?l34 ?c34 ?k34 ?a35 ?l35 ?c35 ?k35 ?a36 ?l36 ?c36 ?k36 ?a37 ?l37 ?c37 ?k37 ?a38 ?l38 ?c38 ?k38 ?z0 ?z1 ?z2 ?z3 ?z4 ?z5 ?z6 ?z7 ?z8 ?z9 ?z10 ?z11 ?z12 ?z13 ?hTt ?nTt ?cTt
    (case a0 => k_is); (case l0 => k_is); (case c0 => k_is); (case k0 => k_is); (case a1 => k_is); (case l1 => k_is); (case c1 => k_is); (case k1 => k_is); (case a2 => k_is); (case l2 => k_is); (case c2 => k_is); (case k2 => k_is); (case a3 => k_is); (case l3 => k_is); (case c3 => k_is); (case k3 => k_is); (case a4 => k_is); (case l4 => k_is); (case c4 => k_is); (case k4 => k_is); (case a5 => k_is); (case l5 => k_is); (case c5 => k_is); (case k5 => k_is); (case a6 => k_is); (case l6 => k_is); (case c6 => k_is); (case k6 => k_is); (case a7 => k_is); (case l7 => k_is); (case c7 => k_is); (case k7 => k_is); (case a8 => k_is); (case l8 => k_is); (case c8 => k_is); (case k8 => k_is); (case a9 => k_is); (case l9 => k_is); (case c9 => k_is); (case k9 => k_is); (case a10 => k_is); (case l10 => k_is); (case c10 => k_is); (case k10 => k_is); (case a11 => k_is); (case l11 => k_is); (case c11 => k_is); (case k11 => k_is); (case a12 => k_is); (case l12 => k_is); (case c12 => k_is); (case k12 => k_is); (case a13 => k_is); (case l13 => k_is); (case c13 => k_is); (case k13 => k_is); (case a14 => k_is); (case l14 => k_is); (case c14 => k_is); (case k14 => k_is); (case a15 => k_is); (case l15 => k_is); (case c15 => k_is); (case k15 => k_is); (case a16 => k_is); (case l16 => k_is); (case c16 => k_is); (case k16 => k_is); (case a17 => k_is); (case l17 => k_is); (case c17 => k_is); (case k17 => k_is); (case a18 => k_is); (case l18 => k_is); (case c18 => k_is); (case k18 => k_is); (case a19 => k_is); (case l19 => k_is); (case c19 => k_is); (case k19 => k_is); (case a20 => k_is); (case l20 => k_is); (case c20 => k_is); (case k20 => k_is); (case a21 => k_is); (case l21 => k_is); (case c21 => k_is); (case k21 => k_is); (case a22 => k_is); (case l22 => k_is); (case c22 => k_is); (case k22 => k_is); (case a23 => k_is); (case l23 => k_is); (case c23 => k_is); (case k23 => k_is); (case a24 => k_is); (case l24 => k_is); (case c24 => k_is); (case k24 => k_is); (case a25 => k_is); (case l25 => k_is); (case c25 => k_is); (case k25 => k_is); (case a26 => k_is); (case l26 => k_is); (case c26 => k_is); (case k26 => k_is); (case a27 => k_is); (case l27 => k_is); (case c27 => k_is); (case k27 => k_is); (case a28 => k_is); (case l28 => k_is); (case c28 => k_is); (case k28 => k_is); (case a29 => k_is); (case l29 => k_is); (case c29 => k_is); (case k29 => k_is); (case a30 => k_is); (case l30 => k_is); (case c30 => k_is); (case k30 => k_is); (case a31 => k_is); (case l31 => k_is); (case c31 => k_is); (case k31 => k_is); (case a32 => k_is); (case l32 => k_is); (case c32 => k_is); (case k32 => k_is); (case a33 => k_is); (case l33 => k_is); (case c33 => k_is); (case k33 => k_is); (case a34 => k_is); (case l34 => k_is); (case c34 => k_is); (case k34 => k_is); (case a35 => k_is); (case l35 => k_is); (case c35 => k_is); (case k35 => k_is); (case a36 => k_is); (case l36 => k_is); (case c36 => k_is); (case k36 => k_is); (case a37 => k_is); (case l37 => k_is); (case c37 => k_is); (case k37 => k_is); (case a38 => k_is); (case l38 => k_is); (case c38 => k_is); (case k38 => k_is); (case z0 => k_is); (case z1 => k_is); (case z2 => k_is); (case z3 => k_is); (case z4 => k_is); (case z5 => k_is); (case z6 => k_is); (case z7 => k_is); (case z8 => k_is); (case z9 => k_is); (case z10 => k_is); (case z11 => k_is); (case z12 => k_is); (case z13 => k_is); (case hTt => exact hT8 _ List.mem_cons_self); (case nTt => kernel_rfl); (case cTt => kernel_rfl)
