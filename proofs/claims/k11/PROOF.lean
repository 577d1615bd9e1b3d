import PyProof.Rows.All
import Wide.All
import OpenK.AllK
import Wide.FinOn
import PySem.Challenge.RW_tasterow_k11_splits
import HandS.ForMost
import HandS.Conv
import HandS.Strs
import HandS.TupAny
import HandS.Style
import HandS.IsInst
import HandS.EndBits
import HandS.Walk
import HandS.SortInts
import HandS.SortOrd
import HandS.Deep
import HandS.Wide
import HandS.ForExc
import HandS.ExcIs
import HandS.ExcValue
import HandS.HotCalls
import HandS.NoneIn
import HandS.SetFor
import HandS.TupMul
import HandS.NamedTupSort
import HandS.SetKeys
import HandS.Flow
import HandS.Strs
import HandS.Set
import HandS.SetFor
import HandS.Zip
import HandS.TupSets
import HandS.Star
import KE.GoesEnum
import KE.KExcIs
import KE.RegKIsAll
import KE.DataMinMax
import KE.SortData
import PyProof.Claim2Refuses
import KE.DataFind
import KE.DataMinKey
import KE.KDictSum
import KE.KUnpackStar
import HandS.SetBool
import KE.KDictZip
import KE.KeyNested
import KE.KDictKeyed
import KE.KDictWalk
import HandS.TupLen
import HandS.Lambda
import HandS.EndTab
import HandS.Nested
import KE.SortKeyHeap
import KE.KNestM
set_option Elab.async false
set_option linter.all false
set_option maxRecDepth 100000
namespace TR
open PySem PySem.Spec PyProof.Rows L2
/-! ### heaps -/
theorem same_upd {H : Hp} {p : Addr} {o : HO} (h : H p = none) : Same H (upd H p o) := fun b x e => by
  rw [upd_ne (ne_of_none e h)]
  exact e
theorem same_upd2 {H H1 : Hp} {p : Addr} {o : HO} (s : Same H H1) (h : H p = none) : Same H (upd H1 p o) := fun b x e => by
  rw [upd_ne (ne_of_none e h)]
  exact s b x e
theorem sqL {K : PySem.W.Frag} {H : Hp} {a : Addr} {xs : List V} (h : H a = some (.lst xs)) : SqL K H a xs := .inl (.inl h)
/-- all but the deck's two changing lists is as it was -/
def Keep (d p : Addr) (H H' : Hp) : Prop := ∀ b o, H b = some o → b ≠ d → b ≠ p → H' b = some o
theorem Keep.refl (d p : Addr) (H : Hp) : Keep d p H H := fun _ _ h _ _ => h
theorem Keep.trans {d p : Addr} {H H1 H2 : Hp} (a : Keep d p H H1) (b : Keep d p H1 H2) : Keep d p H H2 := fun c o h n m => b c o (a c o h n m) n m
theorem Same.keep {d p : Addr} {H H1 : Hp} (a : Same H H1) : Keep d p H H1 := fun c o h _ _ => a c o h
theorem keep_upd {d p x : Addr} {H H1 : Hp} {o : HO} (a : Keep d p H H1) (h : x = d ∨ x = p) : Keep d p H (upd H1 x o) := fun c u e n m => by
  rw [upd_ne (by rintro rfl; rcases h with h | h; exact n h; exact m h)]
  exact a c u e n m
/-! ### data -/
theorem dpAll_ints {K : PySem.W.Frag} {H : Hp} : ∀ xs : List Int, DpAll K H (xs.map V.int) (xs.map PyData.int)
  | [] => .nil
  | x :: r => .cons (.int x) (dpAll_ints r)
theorem can_ints : ∀ xs : List Int, PyData.canLayAll0 (xs.map PyData.int) = true
  | [] => rfl
  | x :: r => by
    show (true && PyData.canLayAll0 (r.map PyData.int)) = true
    rw [can_ints r]
    rfl
theorem dep_ints : ∀ xs : List Int, PyData.depthAll (xs.map PyData.int) = 0
  | [] => rfl
  | x :: r => by
    show max 0 (PyData.depthAll (r.map PyData.int)) = 0
    rw [dep_ints r]
    rfl
theorem shaped_ints (xs : List Int) : SeqAt.shaped (.list (xs.map PyData.int)) = true := by
  show (PyData.canLayAll0 (xs.map PyData.int) && decide (PyData.depthAll (xs.map PyData.int) + 1 ≤ 64)) = true
  rw [can_ints, dep_ints]
  rfl
theorem eqv_nil (xs : List Int) : PyData.eqv (.list (xs.map PyData.int)) (.list []) = xs.isEmpty := by
  cases xs with
  | nil => rfl
  | cons x r => rfl
/-! ### the deck -/
structure DeckL (H : Hp) (d p q : Addr) (n : Nat) (m : Nat) : Prop where
  ex : ∃ (xs cs : List Int) (c : Int), H d = some (.lst [.ref p, .ref q, .int c]) ∧ H p = some (.lst (xs.map V.int)) ∧ H q = some (.lst (cs.map V.int)) ∧
    0 ≤ c ∧ c ≤ (n : Int) ∧ cs ≠ [] ∧ xs.length = m
  dp : d ≠ p
  dq : d ≠ q
  pq : p ≠ q
def Deck (H : Hp) (d p q : Addr) (n : Nat) : Prop := ∃ m, DeckL H d p q n m
theorem DeckL.same {H H' : Hp} {d p q : Addr} {n m : Nat} (D : DeckL H d p q n m) (s : Same H H') : DeckL H' d p q n m := by
  obtain ⟨xs, cs, c, h1, h2, h3, h4⟩ := D.ex
  exact ⟨⟨xs, cs, c, s _ _ h1, s _ _ h2, s _ _ h3, h4⟩, D.dp, D.dq, D.pq⟩
theorem Deck.same {H H' : Hp} {d p q : Addr} {n : Nat} (D : Deck H d p q n) (s : Same H H') : Deck H' d p q n := by
  obtain ⟨m, D⟩ := D
  exact ⟨m, D.same s⟩
theorem Deck.mono {H : Hp} {d p q : Addr} {n k : Nat} (D : Deck H d p q n) (h : n ≤ k) : Deck H d p q k := by
  obtain ⟨m, ⟨xs, cs, c, h1, h2, h3, h4, h5, h6⟩, a, b, e⟩ := D
  exact ⟨m, ⟨xs, cs, c, h1, h2, h3, h4, by omega, h6⟩, a, b, e⟩
theorem Deck.hd {H : Hp} {d p q : Addr} {n : Nat} (D : Deck H d p q n) : ∃ a b c, H d = some (.lst [.ref a, .ref b, .int c]) := by
  obtain ⟨m, ⟨xs, cs, c, h1, _⟩, _⟩ := D
  exact ⟨_, _, _, h1⟩
theorem Deck.hp {H : Hp} {d p q : Addr} {n : Nat} (D : Deck H d p q n) : ∃ xs : List Int, H p = some (.lst (xs.map V.int)) := by
  obtain ⟨m, ⟨xs, cs, c, h1, h2, _⟩, _⟩ := D
  exact ⟨_, h2⟩
/-- a tuple that stands as the very object, without a dict of its own -/
def TF (H : Hp) (a : Addr) (xs : List V) : Prop := ∃ o : Obj, o.dict = none ∧ H a = some (.frz o (.tup xs))
theorem TF.rd {H : Hp} {a : Addr} {xs : List V} (h : TF H a xs) : Rd H a (.tup xs) := by
  obtain ⟨o, _, e⟩ := h
  exact .inr ⟨o, e⟩
theorem TF.same {H H' : Hp} {a : Addr} {xs : List V} (h : TF H a xs) (s : Same H H') : TF H' a xs := by
  obtain ⟨o, d, e⟩ := h
  exact ⟨o, d, s _ _ e⟩
theorem TF.keep {H H' : Hp} {a d p q : Addr} {n : Nat} {xs : List V} (h : TF H a xs) (D : Deck H d p q n) (s : Keep d p H H') : TF H' a xs := by
  obtain ⟨x, y, c, e1⟩ := D.hd
  obtain ⟨zs, e2⟩ := D.hp
  obtain ⟨o, hd, e⟩ := h
  exact ⟨o, hd, s _ _ e (ne_of e e1 (by intro z; cases z)) (ne_of e e2 (by intro z; cases z))⟩
theorem TF.updl {H : Hp} {a D : Addr} {us xs ys : List V} (h : TF H a us) (e : H D = some (.lst xs)) : TF (upd H D (.lst ys)) a us := by
  obtain ⟨o, hd, g⟩ := h
  exact ⟨o, hd, by rw [upd_ne (ne_of g e (by intro z; cases z))]; exact g⟩
theorem TF.new {H : Hp} {a : Addr} {xs : List V} {o : Obj} (h : o.dict = none) : TF (upd H a (.frz o (.tup xs))) a xs := ⟨o, h, upd_same⟩
theorem tf_same {H H' : Hp} {a : Addr} {xs : List V} (s : Same H H') (h : TF H a xs) : TF H' a xs := h.same s
end TR
namespace TR
/-! ### rankings as lists of ints -/
def rng (n : Nat) : List Int := (List.range n).map fun i : Nat => (i : Int)
def Rank (n : Nat) (ns : List Int) : Prop := ns.Perm (rng n)
theorem rng_len (n : Nat) : (rng n).length = n := by
  unfold rng; rw [List.length_map, List.length_range]
theorem mem_rng {n : Nat} {x : Int} : x ∈ rng n ↔ 0 ≤ x ∧ x < (n : Int) := by
  unfold rng
  rw [List.mem_map]
  constructor
  · rintro ⟨i, hi, rfl⟩
    have := List.mem_range.mp hi
    omega
  · rintro ⟨h0, h1⟩
    exact ⟨x.toNat, List.mem_range.mpr (by omega), by omega⟩
theorem Rank.len {n : Nat} {ns : List Int} (h : Rank n ns) : ns.length = n := (List.Perm.length_eq h).trans (rng_len n)
theorem Rank.mem {n : Nat} {ns : List Int} (h : Rank n ns) {x : Int} (h0 : 0 ≤ x) (h1 : x < (n : Int)) : x ∈ ns := (List.Perm.mem_iff h).mpr (mem_rng.mpr ⟨h0, h1⟩)
theorem Rank.bnd {n : Nat} {ns : List Int} (h : Rank n ns) {x : Int} (m : x ∈ ns) : 0 ≤ x ∧ x < (n : Int) := mem_rng.mp ((List.Perm.mem_iff h).mp m)
/-! ### preference -/
def pref (ns : List Int) (a b : Int) : Bool := decide (ns.idxOf a < ns.idxOf b)
/-! ### pairs and differences -/
def prow (n a : Nat) : List (Int × Int) := (List.range (n - (a + 1))).map fun j : Nat => ((a : Int), ((a : Int) + 1 + (j : Int)))
def pairs (n : Nat) : List (Int × Int) := (List.range n).flatMap (prow n)
theorem mem_pairs {n : Nat} {p : Int × Int} (h : p ∈ pairs n) : 0 ≤ p.1 ∧ p.1 < p.2 ∧ p.2 < (n : Int) := by
  unfold pairs prow at h
  obtain ⟨a, ha, hp⟩ := List.mem_flatMap.mp h
  obtain ⟨j, hj, rfl⟩ := List.mem_map.mp hp
  have h1 := List.mem_range.mp ha
  have h2 := List.mem_range.mp hj
  dsimp only
  omega
/-! ### exchanging neighbours, drawing -/
end TR
namespace TR
open PySem PySem.Spec PyProof.Rows L2
theorem flat_ints (ys : List Int) : (ys.map V.int).all flatV = true := by
  rw [List.all_map]; exact List.all_eq_true.mpr fun _ _ => rfl
def rTupIdx (K : PySem.W.Frag) : V → List V → Hp → VK → Prop := fun x xs H Q => ∃ p, ∃ ys : List Int, ∃ z j, x = .ref p ∧ xs = [.int z] ∧ SqT K H p (ys.map V.int) ∧ ys[j]? = some z ∧ (∀ m, m < j → ys[m]? ≠ some z) ∧ Q (.int (j : Nat)) H
section
variable {X : Cx}
/-- t.index(k), t a tuple of ints: the first place -/
theorem mt_tupIdx : MtR X "tuple.index" (fun x xs H Q => ∃ p, ∃ ys : List Int, ∃ z j, x = .ref p ∧ xs = [.int z] ∧ SqT X.K H p (ys.map V.int) ∧ ys[j]? = some z ∧ (∀ m, m < j → ys[m]? ≠ some z) ∧ Q (.int (j : Nat)) H) := by
  intro pins s σ H x xs v us Q I rx rs h
  obtain ⟨p, ys, z, j, rfl, rfl, hS, hy, hno, q⟩ := h
  cases rx
  obtain ⟨u, rfl, t, rfl⟩ := vals1 rs
  obtain ⟨its, r, pl, hz⟩ := I.tuple hS
  obtain ⟨⟨c1, dd, dt, sl⟩, ho, hc, n, hd⟩ := pl
  simp only at hc hd; subst hc; subst hd
  have hl : its.toArray.size = ys.length := by
    rw [List.size_toArray, ← r.length]; exact List.length_map _
  have hj : j < its.toArray.size := hl.symm ▸ (List.getElem?_eq_some_iff.mp hy).1
  have pick : ∀ (m : Nat) (hm : m < its.toArray.size), ∃ y t', ys[m]? = some y ∧ its.toArray[m] = Value.int y t' := fun m hm => by
    have hm2 : m < ys.length := hl ▸ hm
    obtain ⟨w, hw, t', hw'⟩ := r.get (i := m) (x := .int ys[m]) (by simp [hm2])
    refine ⟨ys[m], t', List.getElem?_eq_getElem hm2, ?_⟩
    have e := (List.getElem?_eq_some_iff.mp hw).2
    rw [← hw', ← e]; simp
  refine call_meets PySem.F.slot_tuple_index ⟨_, ho, rfl⟩ PySem.F.entry_tuple_index (PySem.F.args_tuple_index_2 _ _) (TI.tuple_indexAt p its.toArray n dd sl (.int z t) (eqU (.int z)) j hj ?_ ?_)
    ⟨ho, fun w hw => mem_eqAt (x := .int z) ⟨t, rfl⟩ rfl r (flat_ints ys) w (by simpa using hw), ⟨.int (j : Nat), H, I.tok _, ⟨_, rfl⟩, q⟩⟩
  · obtain ⟨y, t', h1, h2⟩ := pick j hj
    rw [hy] at h1; cases h1; rw [h2]
    show (z == z) = true; exact beq_self_eq_true z
  · intro m hm hmj
    obtain ⟨y, t', h1, h2⟩ := pick m hm
    rw [h2]; show (y == z) = false
    exact beq_eq_false_iff_ne.mpr fun e => hno m hmj (e ▸ h1)
end
section
variable {prog : Program} {w : World} {A : Around} {E : Value → Shared → Prop} {s : Shared}
end
section
variable {X : Cx}
/-- tuple(a list): the new tuple, as the very object -/
theorem call_tupleF : CallR X (.type "tuple") (fun xs H Q => ∃ p ys, xs = [.ref p] ∧ SqL X.K H p ys ∧ ∀ l o, H l = none → o.dict = none → Q (.ref l) (upd H l (.frz o (.tup ys)))) := by
  intro pins s σ H xs us Q I r ⟨p, ys, ex, hS, q⟩
  subst ex
  obtain ⟨u, rfl, rx⟩ := vals1 r
  cases rx
  obtain ⟨its, r', pl, hz⟩ := I.list hS
  have hlen := r'.length
  refine call_tuple_list pl.isList (fun h' kp => ?_) (by simp only [List.size_toArray] <;> omega)
  have I1 : Inv X pins σ H { s with heap := h' } := I.kept (t' := s.toks) kp
  exact ⟨.ref h'.objs.size, _, I1.laid (t' := s.toks) (o := .frz { cls := .type "tuple", data := .seq its.toArray } (.tup ys)) (fun b o e => Heap.get?_push_of_some _ e) (Nat.le_refl _) ⟨Heap.get?_push_size _ rfl, hz, its, r', IsTup.new _ _⟩, rfl, q _ _ (I1.hok.fresh (Nat.le_refl _)) rfl⟩
/-- t + u -/
def rCatF (K : PySem.W.Frag) : R2 := fun x y H Q => ∃ a b xs ys, x = .ref a ∧ y = .ref b ∧ SqT K H a xs ∧ SqT K H b ys ∧ xs.length + ys.length ≤ sizeLine ∧
  (xs = [] → Q (.ref b) H) ∧ (xs ≠ [] → ys = [] → Q (.ref a) H) ∧ (xs ≠ [] → ys ≠ [] → ∀ p o, H p = none → o.dict = none → Q (.ref p) (upd H p (.frz o (.tup (xs ++ ys)))))
theorem op_catF : OpR X (binaryOp .Add) (rCatF X.K) := by
  intro pins s σ H x y v u Q I rx ry ⟨a, b, xs, ys, ex, ey, ha, hb, hz, q0, q1, q2⟩
  subst ex ey; cases rx; cases ry
  obtain ⟨its, r1, p1, _⟩ := I.tuple ha
  obtain ⟨its2, r2, p2, _⟩ := I.tuple hb
  by_cases hx : xs = []
  · subst hx; cases r1
    exact cat_tup0 p1 p2 ⟨.ref b, H, I, rfl, q0 rfl⟩
  · refine HT.cat_tup p1 p2 (fun z => hx (r1.nil_iff.mp z)) (fun z => ⟨.ref a, H, I, rfl, q1 hx (r2.nil_iff.mp z)⟩) (fun z => ?_) (by rw [← r1.length, ← r2.length]; exact hz)
    exact ⟨.ref s.heap.objs.size, _, I.laid (t' := s.toks) (o := .frz { cls := .type "tuple", data := .seq (its ++ its2).toArray } (.tup (xs ++ ys))) (fun b ob q => Heap.get?_push_of_some _ q) (Nat.le_refl _)
      ⟨Heap.get?_push_size _ rfl, by rw [List.length_append]; exact hz, _, r1.append r2, IsTup.new _ _⟩, rfl, q2 hx (fun w => z (r2.nil_iff.mpr w)) _ _ (I.hok.fresh (Nat.le_refl _)) rfl⟩
/-- t[lo:hi] -/
def rSlF (K : PySem.W.Frag) : V → Option Int → Option Int → Hp → VK → Prop := fun x lo hi H Q => ∃ a xs, x = .ref a ∧ SqT K H a xs ∧
  (HT.sIx xs.length 0 lo = 0 ∧ HT.sIx xs.length xs.length hi = xs.length → Q (.ref a) H) ∧
  (¬ (HT.sIx xs.length 0 lo = 0 ∧ HT.sIx xs.length xs.length hi = xs.length) → ∀ p o, H p = none → o.dict = none → Q (.ref p) (upd H p (.frz o (.tup (cutV xs lo hi)))))
theorem sl_tupF : SlR X (rSlF X.K) := by
  intro pins s σ H x v vl vu lo hi sl Q I rx hs pl pu ⟨a, xs, ex, hx, q1, q2⟩
  subst ex; cases rx
  obtain ⟨its, r, ht, hz⟩ := I.tuple hx
  have hlen : its.toArray.size = xs.length := List.size_toArray.trans r.length.symm
  refine ⟨"tuple", _, PyProof.Rows.slot_tuple_getitem.lookup, ht.typeIs, ?_⟩
  by_cases hw : HT.sIx xs.length 0 lo = 0 ∧ HT.sIx xs.length xs.length hi = xs.length
  · exact getItem_tuple_whole ht hs pl pu (by rw [hlen]; exact hw) ⟨.ref a, H, I, rfl, q1 hw⟩
  · refine HT.getItem_tuple_cut ht hs pl pu (by rw [hlen]; exact hw) ?_ (by rw [hlen]; exact hz)
    rw [hlen]
    exact ⟨.ref s.heap.objs.size, _, I.laid (t' := s.toks) (o := .frz { cls := .type "tuple", data := .seq ((its.toArray.toList.drop (HT.sIx xs.length 0 lo)).take (HT.sIx xs.length xs.length hi - HT.sIx xs.length 0 lo)).toArray } (.tup (cutV xs lo hi))) (fun b ob q => Heap.get?_push_of_some _ q) (Nat.le_refl _)
      ⟨Heap.get?_push_size _ rfl, Nat.le_trans (cutV_length xs lo hi) hz, _, (r.drop (HT.sIx xs.length 0 lo)).take (HT.sIx xs.length xs.length hi - HT.sIx xs.length 0 lo), IsTup.new _ _⟩, rfl, q2 hw _ _ (I.hok.fresh (Nat.le_refl _)) rfl⟩
/-- t.m(e, ..), t a tuple that stands as the very object, without a dict of its own -/
def tBMT (r : V → List V → Hp → VK → Prop) (to : TE) (t : TA) : TE := fun σ H Q => to σ H fun x H1 => (∃ p ob ys, x = .ref p ∧ ob.dict = none ∧ H1 p = some (.frz ob (.tup ys))) ∧ t σ H1 fun xs H2 => r x xs H2 Q
theorem pe_bmT {o e : Expr} {es : List Expr} {to : TE} {t : TA} {name : Str} {apos cpos : Pos} {id : String} {r : V → List V → Hp → VK → Prop} (slot : Slot "tuple" name id) (hty : typeOf (.builtin id) = pure (.type "method_descriptor")) (hm : MtR X id r) (ho : PE X o to) (ha : PA X (e :: es) t)
    (hbase : attributeBase o name X.env (eval o X.env) = eval o X.env := by rfl)
    (hfew : ((backTo cpos (starEach (e :: es) X.env)).all (fun x => !x.1) && (backToKw cpos (keywordEach [] X.env)).all (fun x => x.1.isSome) && decide ((e :: es).length + ([] : List Keyword).length + (if ([] : List Keyword).isEmpty then 0 else 1) < 30)) = true := by rfl)
    (hline : (apos.endLine == cpos.line) = true := by rfl) (hs : starEach (e :: es) X.env = (false, eval e X.env) :: starEach es X.env := by rfl) (hplain : (backTo cpos (starEach es X.env)).any (·.1) = false := by rfl) :
    PE X (.Call (.Attribute o name apos) (e :: es) [] cpos) (tBMT r to t) := by
  refine ⟨fun pins s σ H Q I h => wpAny_Call_method_late hbase hfew hline rfl (thn (ho.run pins s σ H _ I h) fun v s1 ⟨x, H1, I1, r1, ⟨p, ob, ys, ex, hd, hp⟩, q1⟩ => ?_)⟩
  subst ex
  cases (show v = Value.ref p from r1)
  obtain ⟨g, z, its, rv, o', g', c', _⟩ := (show ObjOk X.prog X.w H1 s1.heap p (.frz ob (.tup ys)) from I1.hok p _ hp)
  refine ⟨"tuple", id, PySem.F.plainAttrs_tuple, slot, hty, ⟨o', g', c'⟩, fun a e => by cases e; exact ⟨ob, g, hd⟩, ?_⟩
  have hA := ha.run cpos pins s1 σ H1 _ I1 q1
  rw [hs] at hA ⊢
  refine Calls.callWith_builtin (by show (false || (backTo cpos (starEach es X.env)).any (·.1)) = false; rw [hplain] <;> rfl) (Calls.evalArgs_plain (thn hA fun us s2 ⟨vs, H2, I2, r2, q2⟩ => ?_))
  exact hm pins s2 σ H2 (.ref p) vs (.ref p) us Q I2 rfl r2 q2
end
end TR
namespace TR
open PySem PySem.Spec PyProof.Rows L2
section
variable {prog : Program} {w : World} {A : Around} {E : Value → Shared → Prop} {s : Shared}
/-- what a tuple is collected into -/
theorem collect_tup {t : Addr} {vs : List Value} {Q : List Value → Shared → Prop} (ht : IsTup s.heap t vs.toArray) (h : Q vs { s with heap := (s.heap.push (seqObj "list" #[] 0)).update s.heap.objs.size (Obj.mapSeq (· ++ vs.toArray)) }) (hsz : vs.length ≤ sizeLine) : wpAny (model prog w) A (collect (.ref t)) Q E s := by
  obtain ⟨o, ho, hc, n, hd⟩ := id ht
  have ho2 : (s.heap.push (seqObj "list" #[] 0)).get? t = some o := Heap.get?_push_of_some _ ho
  unfold collect; refine wpAny_bind (wpAny_runValue (codeAny_builtin entry_proto_collect' ?_))
  show wpAny _ _ (do again (.builtin "list.__iadd__" ⟨[← newList [], .ref t], []⟩)) _ _ s
  refine wpAny_bind (wpAny_newList (wpAny_pure ⟨Code.quiet_builtin _ (by decide +kernel), codeAny_builtin entry_list_iadd' ?_⟩) (Nat.zero_le _))
  show wpAny _ _ (Builtin.List.listExtendWith (.ref s.heap.objs.size) (.ref t) (.ref s.heap.objs.size)) _ _ { s with heap := s.heap.push (seqObj "list" #[] 0) }
  unfold Builtin.List.listExtendWith; refine wpAny_bind (wpAny_typeOf (T := "tuple") ⟨o, ho2, hc⟩ ?_)
  have hy : (Value.type "tuple" == Value.type "tuple") = true := rfl
  rw [if_pos (by rw [hy]; simp)]; refine wpAny_bind (listItems_at ho2 hd ?_)
  refine wpAny_bind (listItems_at (xs := #[]) (n := 0) (Heap.get?_push_size _ rfl) rfl ?_); rw [if_neg (by simp)]
  refine wpAny_bind (listUpdate_at (xs := #[]) (n := 0) (Heap.get?_push_size _ rfl) rfl (wpAny_pure ?_) (Nat.zero_le _) (by show (#[] ++ vs.toArray).size ≤ sizeLine + 1; simp only [Array.size_append, List.size_toArray, List.length_nil]; omega))
  show wpAny (model prog w) A (load s.heap.objs.size >>= fun ob => match ob.data with | .seq xs _ => pure xs.toList | _ => unsupported "internal:collect") Q E { s with heap := (s.heap.push (seqObj "list" #[] 0)).update s.heap.objs.size (Obj.mapSeq (· ++ vs.toArray)) }
  refine wpAny_bind (wpAny_load (get?_update_seq (Heap.get?_push_size _ rfl) _) ?_)
  show wpAny _ _ (pure ((#[] : Array Value) ++ vs.toArray).toList) Q E _; rw [show ((#[] : Array Value) ++ vs.toArray).toList = vs by simp]; exact wpAny_pure h
/-- sorted of a tuple -/
theorem sorted_tupO {t : Addr} {vs : List Value} {ltv : Value → Value → Bool} {Q : Value → Shared → Prop} (O : SrtO.Swo ltv) (ht : IsTup s.heap t vs.toArray) (hz : vs.length ≤ sizeLine)
    (hS : 2 ≤ vs.length → ∀ (g : Heap) (a : Addr), g.get? a = some (seqObj "list" vs.toArray 0) → (∀ b o, s.heap.get? b = some o → b ≠ a ∧ g.get? b = some o) → SrtO.SortableO prog w A.in1.in1 { s with heap := g } a vs ltv)
    (h : ∀ out : List Value, SrtO.Srtd ltv out → SrtO.Stb ltv out vs → Q (.ref (s.heap.objs.size + 1)) { s with heap := sortedAll s.heap vs out.toArray }) : wpAny (model prog w) A (call (.builtin "sorted") [.ref t]) Q E s := by
  refine Calls.call_function_entry kind_sorted plain_sorted entry_sorted (args_sorted1 _) ?_
  unfold Builtin.«sorted»; refine wpAny_bind (m := checkCount "sorted" 1 1 _) (wpAny_pure (wpAny_bind (collect_tup ht (wpAny_bind (wpAny_newList ?_ hz)) hz)))
  have hn : ((s.heap.push (seqObj "list" #[] 0)).update s.heap.objs.size (Obj.mapSeq (· ++ vs.toArray))).objs.size = s.heap.objs.size + 1 := by rw [Heap.size_update]; simp [Heap.push]
  have hL : (((s.heap.push (seqObj "list" #[] 0)).update s.heap.objs.size (Obj.mapSeq (· ++ vs.toArray))).push (seqObj "list" vs.toArray 0)).get? (s.heap.objs.size + 1) = some (seqObj "list" vs.toArray 0) := hn ▸ Heap.get?_push_size _ rfl
  have kp : ∀ b o, s.heap.get? b = some o → b ≠ s.heap.objs.size + 1 ∧ (((s.heap.push (seqObj "list" #[] 0)).update s.heap.objs.size (Obj.mapSeq (· ++ vs.toArray))).push (seqObj "list" vs.toArray 0)).get? b = some o := fun b o q =>
    ⟨Nat.ne_of_lt (Nat.lt_succ_of_lt (Heap.lt_size q)), Heap.get?_push_of_some _ (by rw [Heap.get?_update_ne _ _ _ _ (Nat.ne_of_lt (Heap.lt_size q))]; exact Heap.get?_push_of_some _ q)⟩
  show wpAny _ _ _ _ _ { s with heap := ((s.heap.push (seqObj "list" #[] 0)).update s.heap.objs.size (Obj.mapSeq (· ++ vs.toArray))).push (seqObj "list" vs.toArray 0) }; rw [hn]
  refine wpAny_bind (wpAny_holding (wpAny_call_entry slot_list_sort ⟨_, hL, rfl⟩ entry_list_sort (SrtO.list_sort_ord O hL hz (fun h2 => hS h2 _ _ hL kp) fun out a b => ⟨_, rfl, wpAny_pure ⟨_, rfl, h out a b⟩⟩) (args_list_sort _)))
end
section
variable {X : Cx}
/-- sorted(t), t a tuple of ints -/
def rSortedTI (K : PySem.W.Frag) : List V → Hp → VK → Prop := fun vs H Q => ∃ (a : Addr) (ns : List Int), vs = [V.ref a] ∧ SqT K H a (ns.map V.int) ∧ ∀ (ms : List Int) (p : Addr), ms.Perm ns → ms.Pairwise (· ≤ ·) → H p = none → Q (.ref p) (upd H p (.lst (ms.map V.int)))
theorem cr_sortedTI : CallR X (.builtin "sorted") (rSortedTI X.K) := by
  intro pins s σ H vs us Q I r ⟨a, ns, ev, hs, q⟩
  subst ev
  obtain ⟨its, rv, ht, hz⟩ := I.tuple hs
  rw [Vals.ref1 r]; have hi := rv.ints
  refine sorted_tupO SrtO.swo_int ht (by rw [← rv.length]; exact hz) (fun h2 g a' _ _ => SrtO.ints_sortable hi h2) fun out h1 h2 => ?_
  obtain ⟨k1, k2, k3⟩ := SrtO.ints_out hi h1 h2; obtain ⟨ep, he⟩ := PyProof.Rows.sortedAll_at s.heap its out.toArray
  have hl : ((out.map SrtO.iv).map V.int).length ≤ sizeLine := by rw [List.length_map, k2.length_eq]; rw [List.length_map] at hz; exact hz
  exact ⟨.ref _, upd H (s.heap.objs.size + 1) (.lst ((out.map SrtO.iv).map V.int)), I.laid (t' := s.toks) (fun _ _ => PyProof.Rows.sortedAll_old) (Nat.le_succ _) ⟨hl, out, ep, vals_of_ints k1, he⟩, rfl, q _ _ k2 k3 (I.hok.fresh (Nat.le_succ _))⟩
end
end TR
namespace TR
open PySem PySem.Spec PyProof.Rows L2
/-! ### values of any kind, as data; ban: where no list of them stands -/
mutual
def Rp (H : Hp) (ban : List Addr) : PyData → V → Prop
  | .none, v => v = .non
  | .bool b, v => v = .bl b
  | .int i, v => v = .int i
  | .str x, v => v = .str x
  | .list ds, v => ∃ a xs, v = .ref a ∧ H a = some (.lst xs) ∧ a ∉ ban ∧ RpAll H ban ds xs
  | .tuple ds, v => ∃ a xs, v = .ref a ∧ TF H a xs ∧ RpAll H ban ds xs
  | .dict kvs, v => kvs = [] ∧ ∃ a, v = .ref a ∧ H a = some (.dK []) ∧ a ∉ ban
def RpAll (H : Hp) (ban : List Addr) : List PyData → List V → Prop
  | [], xs => xs = []
  | d :: ds, xs => ∃ v r, xs = v :: r ∧ Rp H ban d v ∧ RpAll H ban ds r
end
mutual
theorem Rp.mv {H H' : Hp} {ban : List Addr} (mL : ∀ a xs, a ∉ ban → H a = some (.lst xs) → H' a = some (.lst xs)) (mT : ∀ a xs, TF H a xs → TF H' a xs) (mD : ∀ a, a ∉ ban → H a = some (.dK []) → H' a = some (.dK [])) : ∀ (d : PyData) (v : V), Rp H ban d v → Rp H' ban d v
  | .none, _, h => h
  | .bool _, _, h => h
  | .int _, _, h => h
  | .str _, _, h => h
  | .list ds, _, h => by
    obtain ⟨a, xs, e, h1, h2, h3⟩ := h
    exact ⟨a, xs, e, mL a xs h2 h1, h2, RpAll.mv mL mT mD ds xs h3⟩
  | .tuple ds, _, h => by
    obtain ⟨a, xs, e, h1, h3⟩ := h
    exact ⟨a, xs, e, mT a xs h1, RpAll.mv mL mT mD ds xs h3⟩
  | .dict kvs, _, h => by
    obtain ⟨e0, a, e, h1, hb⟩ := h
    exact ⟨e0, a, e, mD a hb h1, hb⟩
theorem RpAll.mv {H H' : Hp} {ban : List Addr} (mL : ∀ a xs, a ∉ ban → H a = some (.lst xs) → H' a = some (.lst xs)) (mT : ∀ a xs, TF H a xs → TF H' a xs) (mD : ∀ a, a ∉ ban → H a = some (.dK []) → H' a = some (.dK [])) : ∀ (ds : List PyData) (xs : List V), RpAll H ban ds xs → RpAll H' ban ds xs
  | [], _, h => h
  | d :: ds, _, h => by
    obtain ⟨v, r, e, h1, h2⟩ := h
    exact ⟨v, r, e, Rp.mv mL mT mD d v h1, RpAll.mv mL mT mD ds r h2⟩
end
theorem Rp.same {H H' : Hp} {ban : List Addr} {d : PyData} {v : V} (h : Rp H ban d v) (s : Same H H') : Rp H' ban d v := Rp.mv (fun a xs _ e => s _ _ e) (fun a xs e => tf_same s e) (fun a _ e => s _ _ e) d v h
theorem RpAll.same {H H' : Hp} {ban : List Addr} {ds : List PyData} {xs : List V} (h : RpAll H ban ds xs) (s : Same H H') : RpAll H' ban ds xs := RpAll.mv (fun a xs _ e => s _ _ e) (fun a xs e => tf_same s e) (fun a _ e => s _ _ e) ds xs h
theorem Rp.keep {H H' : Hp} {ban : List Addr} {d : PyData} {v : V} {k p q : Addr} {n : Nat} (h : Rp H ban d v) (D : Deck H k p q n) (s : Keep k p H H') (b1 : k ∈ ban) (b2 : p ∈ ban) : Rp H' ban d v := by
  obtain ⟨x, y, c, e1⟩ := D.hd
  obtain ⟨zs, e2⟩ := D.hp
  refine Rp.mv (fun a xs hn e => s _ _ e (fun z => hn (z ▸ b1)) (fun z => hn (z ▸ b2))) (fun a xs e => e.keep D s) (fun a _ e => s _ _ e (ne_of e e1 (by intro z; cases z)) (ne_of e e2 (by intro z; cases z))) d v h
theorem RpAll.len {H : Hp} {ban : List Addr} : ∀ {ds : List PyData} {xs : List V}, RpAll H ban ds xs → xs.length = ds.length
  | [], _, h => by rw [show _ = [] from h]; rfl
  | d :: ds, _, h => by
    obtain ⟨v, r, rfl, _, h2⟩ := h
    rw [List.length_cons, List.length_cons, RpAll.len h2]
theorem RpAll.get {H : Hp} {ban : List Addr} : ∀ {ds : List PyData} {xs : List V}, RpAll H ban ds xs → ∀ {i : Nat} {x : V}, xs[i]? = some x → ∃ d, ds[i]? = some d ∧ Rp H ban d x
  | [], _, h, i, x, e => by rw [show _ = [] from h] at e; simp at e
  | d :: ds, _, h, i, x, e => by
    obtain ⟨v, r, rfl, h1, h2⟩ := h
    cases i with
    | zero =>
      cases (Option.some.inj e)
      exact ⟨d, rfl, h1⟩
    | succ i => exact RpAll.get h2 e
theorem RpAll.app {H : Hp} {ban : List Addr} : ∀ {ds es : List PyData} {xs ys : List V}, RpAll H ban ds xs → RpAll H ban es ys → RpAll H ban (ds ++ es) (xs ++ ys)
  | [], _, _, _, h, g => by rw [show _ = [] from h]; exact g
  | d :: ds, _, _, _, h, g => by
    obtain ⟨v, r, rfl, h1, h2⟩ := h
    exact ⟨v, _, rfl, h1, RpAll.app h2 g⟩
theorem RpAll.take {H : Hp} {ban : List Addr} : ∀ {ds : List PyData} {xs : List V} (k : Nat), RpAll H ban ds xs → RpAll H ban (ds.take k) (xs.take k)
  | _, _, 0, _ => rfl
  | [], _, k + 1, h => by rw [show _ = [] from h]; rfl
  | d :: ds, _, k + 1, h => by
    obtain ⟨v, r, rfl, h1, h2⟩ := h
    exact ⟨v, _, rfl, h1, RpAll.take k h2⟩
theorem RpAll.drop {H : Hp} {ban : List Addr} : ∀ {ds : List PyData} {xs : List V} (k : Nat), RpAll H ban ds xs → RpAll H ban (ds.drop k) (xs.drop k)
  | _, _, 0, h => h
  | [], _, k + 1, h => by rw [show _ = [] from h]; rfl
  | d :: ds, _, k + 1, h => by
    obtain ⟨v, r, rfl, h1, h2⟩ := h
    exact RpAll.drop k h2
theorem RpAll.ints {H : Hp} {ban : List Addr} : ∀ ns : List Int, RpAll H ban (ns.map PyData.int) (ns.map V.int)
  | [] => rfl
  | n :: r => ⟨_, _, rfl, rfl, RpAll.ints r⟩
/-! ### what is small enough to be shown -/
def leafOk (L : Nat) : PyData → Prop
  | .none => True
  | .bool _ => True
  | .int i => i.natAbs ≤ 10 ^ 59 + L
  | .str x => x.length ≤ 69 ∧ ∀ c ∈ x.cps.toList, c < 16 ^ 8
  | _ => False
def Wf (L : Nat) : Nat → PyData → Prop
  | 0, d => leafOk L d
  | D + 1, d => leafOk L d ∨ d = .dict [] ∨ ∃ ds, (d = .list ds ∨ d = .tuple ds) ∧ ds.length ≤ L ∧ ∀ e ∈ ds, Wf L D e
theorem leafOk.mono {L L' : Nat} (h : L ≤ L') : ∀ {d : PyData}, leafOk L d → leafOk L' d
  | .none, _ => trivial
  | .bool _, _ => trivial
  | .int i, g => Nat.le_trans g (Nat.add_le_add_left h _)
  | .str _, g => g
theorem Wf.mono {L L' : Nat} (h : L ≤ L') : ∀ {D D' : Nat} {d : PyData}, D ≤ D' → Wf L D d → Wf L' D' d
  | 0, 0, _, _, g => leafOk.mono h g
  | 0, _ + 1, _, _, g => .inl (leafOk.mono h g)
  | _ + 1, 0, _, k, _ => absurd k (by omega)
  | D + 1, D' + 1, _, k, g => by
    rcases g with g | g | ⟨ds, e, l, c⟩
    · exact .inl (leafOk.mono h g)
    · exact .inr (.inl g)
    · exact .inr (.inr ⟨ds, e, Nat.le_trans l h, fun x hx => Wf.mono h (by omega) (c x hx)⟩)
def bnd : Nat → Nat
  | 0 => 700
  | D + 1 => 3 + 11 * (bnd D + 2)
theorem bnd_ge : ∀ D, 700 ≤ bnd D
  | 0 => Nat.le_refl _
  | D + 1 => by
    have := bnd_ge D
    show 700 ≤ 3 + 11 * (bnd D + 2)
    omega
theorem small_int {L : Nat} (h : L ≤ 41) {i : Int} (g : i.natAbs ≤ 10 ^ 59 + L) : i.natAbs < 10 ^ 60 := by
  have e : (10 : Nat) ^ 60 = 10 * 10 ^ 59 := by decide
  have e2 : (41 : Nat) < 10 ^ 59 := by decide
  omega
theorem small_log {i : Int} (g : i.natAbs < 10 ^ 60) : i.natAbs.log2 < 1920 := by
  by_cases h : i.natAbs = 0
  · rw [h]; decide
  · refine (Nat.log2_lt h).mpr (Nat.lt_trans g (by decide +kernel))
theorem leaf_shown {L : Nat} (h : L ≤ 41) : ∀ {d : PyData}, leafOk L d → d.shown.length ≤ 700 ∧ d.showable = true ∧ d.depth = 0
  | .none, _ => ⟨by decide +kernel, rfl, rfl⟩
  | .bool b, _ => ⟨by cases b <;> decide +kernel, rfl, rfl⟩
  | .int i, g => by
    have g2 := small_int h g
    refine ⟨?_, decide_eq_true (small_log g2), rfl⟩
    show (Str.ofString (toString i)).length ≤ 700
    have := int_text_length_le10 (k := 60) (by decide) g2
    rw [PySem.ofString_length]
    omega
  | .str x, g => by
    refine ⟨?_, rfl, rfl⟩
    show (reprText x).length ≤ 700
    have := StrLaws.reprText_len x g.2
    have := g.1
    omega
theorem piled_le {B : Nat} : ∀ ts : List Str, (∀ t ∈ ts, t.length ≤ B) → piled ts ≤ ts.length * (B + 2)
  | [], _ => Nat.zero_le _
  | t :: r, h => by
    have := piled_le r fun x hx => h x (List.mem_cons_of_mem _ hx)
    have := h t (List.mem_cons_self ..)
    rw [piled_cons, List.length_cons, Nat.succ_mul]
    omega
theorem text_le : ∀ (ts : List Str) (k : Nat) (acc : Str), (textFrom k acc ts).length ≤ acc.length + piled ts
  | [], _, _ => Nat.le_refl _
  | t :: r, k, acc => by
    have := text_le r (k + 1) (acc ++ (if k > 0 then ", " else "" : String) ++ t)
    rw [Str.length_append, Str.length_append] at this
    have e : ((if k > 0 then ", " else "" : String) : Str).length ≤ 2 := by
      split <;> decide +kernel
    rw [piled_cons]
    show (textFrom (k + 1) (acc ++ (if k > 0 then ", " else "" : String) ++ t) r).length ≤ _
    omega
theorem list_le (ts : List Str) : (listText ts).length ≤ 2 + piled ts := by
  have := text_le ts 0 "["
  unfold listText
  rw [Str.length_append]
  have e1 : ("[" : Str).length = 1 := by decide +kernel
  have e2 : ("]" : Str).length = 1 := by decide +kernel
  omega
theorem tup_le (ts : List Str) : (tupleText ts).length ≤ 3 + piled ts := by
  unfold tupleText
  rw [Str.length_append, Str.length_append]
  have e1 : ("(" : Str).length = 1 := by decide +kernel
  have e2 : ((if (ts.length == 1) = true then ",)" else ")" : String) : Str).length ≤ 2 := by
    split <;> decide +kernel
  have e3 : (Str.join ", " ts).length ≤ piled ts := by
    cases ts with
    | nil => decide +kernel
    | cons t r =>
      have := join_length_add (t :: r) (by simp)
      omega
  omega
theorem shownAll_len : ∀ ds : List PyData, (PyData.shownAll ds).length = ds.length
  | [] => rfl
  | d :: r => by
    show (PyData.shownAll r).length + 1 = r.length + 1
    rw [shownAll_len r]
theorem shownAll_mem : ∀ (ds : List PyData) (t : Str), t ∈ PyData.shownAll ds → ∃ d ∈ ds, t = d.shown
  | [], _, h => by cases h
  | d :: r, t, h => by
    rcases List.mem_cons.mp h with e | h
    · exact ⟨d, List.mem_cons_self .., e⟩
    · obtain ⟨x, hx, e⟩ := shownAll_mem r t h
      exact ⟨x, List.mem_cons_of_mem _ hx, e⟩
theorem showAll : ∀ ds : List PyData, (∀ d ∈ ds, d.showable = true) → PyData.showableAll ds = true
  | [], _ => rfl
  | d :: r, h => by
    show (d.showable && PyData.showableAll r) = true
    rw [h d (List.mem_cons_self ..), showAll r fun x hx => h x (List.mem_cons_of_mem _ hx)]
    rfl
theorem depAll {D : Nat} : ∀ ds : List PyData, (∀ d ∈ ds, d.depth ≤ D) → PyData.depthAll ds ≤ D
  | [], _ => Nat.zero_le _
  | d :: r, h => by
    show max d.depth (PyData.depthAll r) ≤ D
    exact Nat.max_le.mpr ⟨h d (List.mem_cons_self ..), depAll r fun x hx => h x (List.mem_cons_of_mem _ hx)⟩
theorem Wf.shown {L : Nat} (h : L ≤ 11) : ∀ {D : Nat} {d : PyData}, Wf L D d → d.shown.length ≤ bnd D ∧ d.showable = true ∧ d.depth ≤ D
  | 0, _, g => by
    obtain ⟨a, b, c⟩ := leaf_shown (by omega) g
    exact ⟨a, b, by omega⟩
  | D + 1, d, g => by
    have hb : 700 ≤ bnd (D + 1) := bnd_ge (D + 1)
    rcases g with g | rfl | ⟨ds, e, l, c⟩
    · obtain ⟨a, b, c⟩ := leaf_shown (by omega) g
      exact ⟨Nat.le_trans a hb, b, by omega⟩
    · exact ⟨Nat.le_trans (by decide +kernel) hb, rfl, by show 0 + 1 ≤ D + 1; omega⟩
    · have ih := fun x hx => Wf.shown h (c x hx)
      have p1 : piled (PyData.shownAll ds) ≤ 11 * (bnd D + 2) := by
        refine Nat.le_trans (piled_le (B := bnd D) _ fun t ht => ?_) ?_
        · obtain ⟨x, hx, rfl⟩ := shownAll_mem ds t ht
          exact (ih x hx).1
        · rw [shownAll_len]
          exact Nat.mul_le_mul_right _ (by omega)
      have p2 := showAll ds fun x hx => (ih x hx).2.1
      have p3 := depAll ds fun x hx => (ih x hx).2.2
      rcases e with rfl | rfl
      · refine ⟨?_, p2, ?_⟩
        · show (listText (PyData.shownAll ds)).length ≤ 3 + 11 * (bnd D + 2)
          have := list_le (PyData.shownAll ds)
          omega
        · show PyData.depthAll ds + 1 ≤ D + 1
          omega
      · refine ⟨?_, p2, ?_⟩
        · show (tupleText (PyData.shownAll ds)).length ≤ 3 + 11 * (bnd D + 2)
          have := tup_le (PyData.shownAll ds)
          omega
        · show PyData.depthAll ds + 1 ≤ D + 1
          omega
/-! ### how many parts, and how long shown -/
mutual
def sz : PyData → Nat
  | .none => 1
  | .bool _ => 1
  | .int _ => 1
  | .str _ => 1
  | .list ds => 1 + szAll ds
  | .tuple ds => 1 + szAll ds
  | .dict _ => 1
def szAll : List PyData → Nat
  | [] => 0
  | d :: r => sz d + szAll r
end
theorem szAll_ints : ∀ ns : List Int, szAll (ns.map PyData.int) = ns.length
  | [] => rfl
  | n :: r => by
    show 1 + szAll (r.map PyData.int) = r.length + 1
    rw [szAll_ints r]
    omega
theorem szAll_le {B : Nat} : ∀ ds : List PyData, (∀ d ∈ ds, sz d ≤ B) → szAll ds ≤ ds.length * B
  | [], _ => Nat.zero_le _
  | d :: r, h => by
    have h1 := h d (List.mem_cons_self ..)
    have h2 := szAll_le r fun x hx => h x (List.mem_cons_of_mem _ hx)
    show sz d + szAll r ≤ (r.length + 1) * B
    rw [Nat.succ_mul]
    omega
def zb (L : Nat) : Nat → Nat
  | 0 => 1
  | D + 1 => 1 + L * zb L D
theorem leaf_sz {L : Nat} : ∀ {d : PyData}, leafOk L d → sz d = 1
  | .none, _ => rfl
  | .bool _, _ => rfl
  | .int _, _ => rfl
  | .str _, _ => rfl
theorem Wf.sz {L : Nat} : ∀ {D : Nat} {d : PyData}, Wf L D d → sz d ≤ zb L D
  | 0, _, g => Nat.le_of_eq (leaf_sz g)
  | D + 1, d, g => by
    have h1 : 1 ≤ zb L (D + 1) := by show 1 ≤ 1 + L * zb L D; omega
    rcases g with g | rfl | ⟨ds, e, l, c⟩
    · rw [leaf_sz g]; exact h1
    · exact h1
    · have h2 := szAll_le ds fun x hx => Wf.sz (c x hx)
      have h3 : ds.length * zb L D ≤ L * zb L D := Nat.mul_le_mul_right _ l
      rcases e with rfl | rfl
      · show 1 + szAll ds ≤ 1 + L * zb L D
        omega
      · show 1 + szAll ds ≤ 1 + L * zb L D
        omega
theorem piled_sz : ∀ ds : List PyData, (∀ d ∈ ds, d.shown.length + 5 ≤ 710 * TR.sz d) → piled (PyData.shownAll ds) ≤ 710 * szAll ds
  | [], _ => Nat.zero_le _
  | d :: r, h => by
    have h1 := h d (List.mem_cons_self ..)
    have h2 := piled_sz r fun x hx => h x (List.mem_cons_of_mem _ hx)
    show piled (d.shown :: PyData.shownAll r) ≤ 710 * (TR.sz d + szAll r)
    rw [piled_cons]
    omega
theorem Wf.shownS {L : Nat} (h : L ≤ 41) : ∀ {D : Nat} {d : PyData}, Wf L D d → d.shown.length + 5 ≤ 710 * TR.sz d ∧ d.showable = true ∧ d.depth ≤ D
  | 0, _, g => by
    obtain ⟨a, b, c⟩ := leaf_shown h g
    rw [leaf_sz g]
    exact ⟨by omega, b, by omega⟩
  | D + 1, d, g => by
    rcases g with g | rfl | ⟨ds, e, l, c⟩
    · obtain ⟨a, b, c⟩ := leaf_shown h g
      rw [leaf_sz g]
      exact ⟨by omega, b, by omega⟩
    · exact ⟨(by decide +kernel : _ + 5 ≤ 710 * 1), rfl, by show 0 + 1 ≤ D + 1; omega⟩
    · have ih := fun x hx => Wf.shownS h (c x hx)
      have p1 := piled_sz ds fun x hx => (ih x hx).1
      have p2 := showAll ds fun x hx => (ih x hx).2.1
      have p3 := depAll ds fun x hx => (ih x hx).2.2
      rcases e with rfl | rfl
      · refine ⟨?_, p2, ?_⟩
        · show (listText (PyData.shownAll ds)).length + 5 ≤ 710 * (1 + szAll ds)
          have := list_le (PyData.shownAll ds)
          omega
        · show PyData.depthAll ds + 1 ≤ D + 1
          omega
      · refine ⟨?_, p2, ?_⟩
        · show (tupleText (PyData.shownAll ds)).length + 5 ≤ 710 * (1 + szAll ds)
          have := tup_le (PyData.shownAll ds)
          omega
        · show PyData.depthAll ds + 1 ≤ D + 1
          omega
theorem shown_fits {d : PyData} {S : Nat} (h : d.shown.length + 5 ≤ 710 * TR.sz d) (g : TR.sz d ≤ S) (k : S ≤ 20000) : d.shown.length ≤ sizeLine := by
  rw [sizeLine_eq]
  omega
end TR
namespace TR
open PySem PySem.Spec PyProof.Rows L2
section
variable {X : Cx} {pins : List (Addr × Obj)} {σ : L2.St} {H : Hp} {s : Shared}
end
section
variable {X : Cx}
/-- xs == [] -/
theorem op_eqL0 (hu : X.A.units < cLine) : OpR X (compareOp .Eq) (fun x y H Q => ∃ a b xs, x = .ref a ∧ y = .ref b ∧ SqL X.K H a xs ∧ SqL X.K H b [] ∧ Q (.bl xs.isEmpty) H) := by
  intro pins s σ H x y v u Q I rx ry ⟨a, b, xs, ex, ey, ha, hb, q⟩
  subst ex ey; cases rx; cases ry
  obtain ⟨its, r1, p1, _⟩ := I.list ha
  obtain ⟨its2, r2, p2, _⟩ := I.list hb
  cases r2
  cases r1 with
  | nil => exact SeqAt.RcAt.lists (e := fun _ => true) p1.isList p2.isList rfl hu (fun j j1 _ => absurd j1 (by simp)) _ _ _ _ ⟨.bl true, H, I, rfl, q⟩
  | cons _ _ => exact SeqAt.RcAt.lists_lengths p1.isList p2.isList (by simp) hu _ _ _ _ ⟨.bl false, H, I, rfl, q⟩
/-- xs != [] -/
theorem op_neL0 (hu : X.A.units < cLine) : OpR X (compareOp .NotEq) (fun x y H Q => ∃ a b xs, x = .ref a ∧ y = .ref b ∧ SqL X.K H a xs ∧ SqL X.K H b [] ∧ Q (.bl (!xs.isEmpty)) H) := by
  intro pins s σ H x y v u Q I rx ry ⟨a, b, xs, ex, ey, ha, hb, q⟩
  subst ex ey; cases rx; cases ry
  obtain ⟨its, r1, p1, _⟩ := I.list ha
  obtain ⟨its2, r2, p2, _⟩ := I.list hb
  cases r2
  cases r1 with
  | nil => exact SeqAt.RcNeAt.lists (e := fun _ => true) p1.isList p2.isList rfl hu (fun j j1 _ => absurd j1 (by simp)) _ _ _ _ ⟨.bl false, H, I, rfl, q⟩
  | cons _ _ => exact SeqAt.RcNeAt.lists_lengths p1.isList p2.isList (by simp) hu _ _ _ _ ⟨.bl true, H, I, rfl, q⟩
/-- t != () -/
theorem op_neT0 (hu : X.A.units < cLine) : OpR X (compareOp .NotEq) (fun x y H Q => ∃ a b xs, x = .ref a ∧ y = .ref b ∧ SqT X.K H a xs ∧ SqT X.K H b [] ∧ Q (.bl (!xs.isEmpty)) H) := by
  intro pins s σ H x y v u Q I rx ry ⟨a, b, xs, ex, ey, ha, hb, q⟩
  subst ex ey; cases rx; cases ry
  obtain ⟨its, r1, p1, _⟩ := I.tuple ha
  obtain ⟨its2, r2, p2, _⟩ := I.tuple hb
  cases r2
  have h := SeqAt.RcNeAt.tuples (A := X.A) (s := s) (e := fun _ => true) p1 p2 hu (fun j _ j2 => absurd j2 (by simp))
  cases r1 with
  | nil => exact h _ _ _ _ ⟨.bl false, H, I, rfl, q⟩
  | cons _ _ => exact h _ _ _ _ ⟨.bl true, H, I, rfl, q⟩
/-- b + i, b - i, b a bool -/
theorem op_add_bi : OpR X (binaryOp .Add) (fun x y H Q => ∃ k i, x = .bl k ∧ y = .int i ∧ Q (.int ((if k = true then (1 : Int) else 0) + i)) H) := by
  intro pins s σ H x y v u Q I rx ry ⟨k, i, ex, ey, q⟩
  subst ex ey; cases rx; obtain ⟨t, rfl⟩ := ry
  exact PySem.IntBool.add_bool_int ⟨.int _, H, I.tok _, ⟨_, rfl⟩, q⟩
theorem op_sub_bi : OpR X (binaryOp .Sub) (fun x y H Q => ∃ k i, x = .bl k ∧ y = .int i ∧ Q (.int ((if k = true then (1 : Int) else 0) - i)) H) := by
  intro pins s σ H x y v u Q I rx ry ⟨k, i, ex, ey, q⟩
  subst ex ey; cases rx; obtain ⟨t, rfl⟩ := ry
  exact PySem.IntBool.sub_bool_int ⟨.int _, H, I.tok _, ⟨_, rfl⟩, q⟩
/-- two rules for one operator: by what stands there -/
theorem OpR.either {f : Value → Value → Sem Value} {r1 r2 : R2} (h1 : OpR X f r1) (h2 : OpR X f r2) : OpR X f (fun x y H Q => r1 x y H Q ∨ r2 x y H Q) := by
  intro pins s σ H x y v u Q I rx ry h
  rcases h with h | h
  · exact h1 pins s σ H x y v u Q I rx ry h
  · exact h2 pins s σ H x y v u Q I rx ry h
end
/-! ### the type of a value -/
def tyD : PyData → String
  | .none => "NoneType"
  | .bool _ => "bool"
  | .int _ => "int"
  | .str _ => "str"
  | .list _ => "list"
  | .tuple _ => "tuple"
  | .dict _ => "dict"
theorem tyRp {K : PySem.W.Frag} {H : Hp} {ban : List Addr} : ∀ {d : PyData} {v : V}, Rp H ban d v → TyX K H v (.type (tyD d))
  | .none, _, h => by rw [show _ = V.non from h]; exact .base .non
  | .bool b, _, h => by rw [show _ = V.bl b from h]; exact .base (.bl b)
  | .int i, _, h => by rw [show _ = V.int i from h]; exact .base (.int i)
  | .str x, _, h => by rw [show _ = V.str x from h]; exact .base (.str x)
  | .list ds, _, h => by
    obtain ⟨a, xs, rfl, h1, _⟩ := h
    exact .base (.lst h1)
  | .tuple ds, _, h => by
    obtain ⟨a, xs, rfl, ⟨o, _, h1⟩, _⟩ := h
    exact .fTuple h1
  | .dict kvs, _, h => by
    obtain ⟨_, a, rfl, h1, _⟩ := h
    exact .base (.dK h1)
end TR
namespace TR
open PySem PySem.Spec PyProof.Rows L2
section
variable {X : Cx}
/-! ### new objects, told by what holds behind them -/
def tTupN (t : TA) : TE := fun σ H Q => t σ H fun xs H1 => xs.length ≤ sizeLine ∧ ∀ p H', H1 p = none → Same H1 H' → TF H' p xs → Q (.ref p) H'
theorem pe_tupN {es : List Expr} {t : TA} {pos : Pos} {x1} (h : PA X es t) : PE X (.Tuple es x1 pos) (tTupN t) := by
  refine ⟨fun pins s σ H Q I hq => wpAny_Tuple_spliced (thn (h.run pos pins s σ H _ I hq) fun us s1 ⟨xs, H1, I1, r, z, q⟩ => ⟨by rw [← r.length]; exact z, ?_⟩)⟩
  have hf : H1 s1.heap.objs.size = none := I1.hok.fresh (Nat.le_refl _)
  exact ⟨.ref s1.heap.objs.size, _, I1.laid (t' := s1.toks) (o := .frz { cls := .type "tuple", data := .seq us.toArray } (.tup xs)) (fun b u e => Heap.get?_push_of_some _ e) (Nat.le_refl _) ⟨Heap.get?_push_size _ rfl, z, us, r, IsTup.new _ _⟩, rfl, q _ _ hf (same_upd hf) (TF.new rfl)⟩
def tLstN (t : TA) : TE := fun σ H Q => t σ H fun xs H1 => xs.length ≤ sizeLine ∧ ∀ p H', H1 p = none → p ≠ sysModules → Same H1 H' → H' p = some (.lst xs) → Q (.ref p) H'
theorem pe_lstN {es : List Expr} {t : TA} {pos : Pos} (h : PA X es t) : PE X (.List es pos) (tLstN t) := by
  refine ⟨fun pins s σ H Q I hq => wpAny_List_spliced (thn (h.run pos pins s σ H _ I hq) fun us s1 ⟨xs, H1, I1, r, z, q⟩ => ⟨by rw [← r.length]; exact z, ?_⟩)⟩
  have hf : H1 s1.heap.objs.size = none := I1.hok.fresh (Nat.le_refl _)
  exact ⟨.ref s1.heap.objs.size, _, I1.laid (t' := s1.toks) (o := .lst xs) (fun b u e => Heap.get?_push_of_some _ e) (Nat.le_refl _) ⟨z, us, 0, r, Heap.get?_push_size _ rfl⟩, rfl, q _ _ hf (Nat.ne_of_gt I1.big) (same_upd hf) upd_same⟩
def tDNewN : TE := fun _ H Q => ∀ p H', H p = none → Same H H' → H' p = some (.dK []) → Q (.ref p) H'
theorem pe_dnewN {pos : Pos} : PE X (.Dict [] [] pos) tDNewN := by
  refine ⟨fun pins s σ H Q I h => (pe_dnewK (pos := pos)).run pins s σ H Q I ?_⟩
  exact fun p hp => h p _ hp (same_upd hp) upd_same
/-- xs + ys, lists -/
theorem op_catN : OpR X (binaryOp .Add) (fun x y H Q => ∃ a b xs ys, x = .ref a ∧ y = .ref b ∧ H a = some (.lst xs) ∧ H b = some (.lst ys) ∧ xs.length + ys.length ≤ sizeLine ∧ ∀ p H', H p = none → Same H H' → H' p = some (.lst (xs ++ ys)) → Q (.ref p) H') := by
  intro pins s σ H x y v u Q I rx ry ⟨a, b, xs, ys, ex, ey, ha, hb, hz, q⟩
  exact op_cat pins s σ H x y v u Q I rx ry ⟨a, b, xs, ys, ex, ey, ha, hb, hz, fun p hp => q p _ hp (same_upd hp) upd_same⟩
/-- t + u, tuples: some tuple of both -/
theorem op_catTN : OpR X (binaryOp .Add) (fun x y H Q => ∃ a b xs ys, x = .ref a ∧ y = .ref b ∧ TF H a xs ∧ TF H b ys ∧ xs.length + ys.length ≤ sizeLine ∧ ∀ p H', Same H H' → TF H' p (xs ++ ys) → Q (.ref p) H') := by
  intro pins s σ H x y v u Q I rx ry ⟨a, b, xs, ys, ex, ey, ha, hb, hz, q⟩
  refine op_catF pins s σ H x y v u Q I rx ry ⟨a, b, xs, ys, ex, ey, .inl ha.rd, .inl hb.rd, hz, fun e => ?_, fun _ e => ?_, fun _ _ p o hp ho => q p _ (same_upd hp) (TF.new ho)⟩
  · subst e; exact q b H (Same.refl _) hb
  · subst e; exact q a H (Same.refl _) (by rw [List.append_nil]; exact ha)
theorem cut_whole {xs : List V} {lo hi : Option Int} (h : HT.sIx xs.length 0 lo = 0 ∧ HT.sIx xs.length xs.length hi = xs.length) : cutV xs lo hi = xs := by
  unfold cutV
  rw [h.1, h.2]
  exact List.take_of_length_le (by simp)
/-- t[lo:hi]: some tuple of the part -/
theorem sl_tupN : SlR X (fun x lo hi H Q => ∃ a xs, x = .ref a ∧ TF H a xs ∧ ∀ p H', Same H H' → TF H' p (cutV xs lo hi) → Q (.ref p) H') := by
  intro pins s σ H x v vl vu lo hi sl Q I rx hs pl pu ⟨a, xs, ex, hx, q⟩
  refine sl_tupF pins s σ H x v vl vu lo hi sl Q I rx hs pl pu ⟨a, xs, ex, .inl hx.rd, fun hw => ?_, fun _ p o hp ho => q p _ (same_upd hp) (TF.new ho)⟩
  exact q a H (Same.refl _) (by rw [cut_whole hw]; exact hx)
end
end TR
namespace TR
open PySem PySem.Spec PyProof.Rows L2
section
variable {X : Cx}
end
end TR
namespace TR
open PySem PySem.Spec PyProof.Rows L2
/-! ### the layer of data: what a slot holds, what a state is -/
structure XD where
  cls : Addr
  fld : Option (Str × PyData)
inductive AV where
  | dat (d : PyData)
  | own (ds : List PyData)
  | dct (kvs : List (PyData × PyData))
  | dcn (kvs : List (PyData × PyData))
  | dcl (kvs : List (PyData × List Int))
  | lck (t : Bool) (kvs : List (PyData × PyData))
  | bor (d : PyData)
  | deck
  | exc (x : XD)
structure AS where
  sl : List (Option AV)
  n : Nat
abbrev XP := XD → AS → Prop
inductive Op where
  | val (d : PyData)
  | slot (i : Nat)
  | deck
abbrev AE := XP → AS → (PyData → AS → Prop) → Prop
abbrev AO := XP → AS → (Op → AS → Prop) → Prop
abbrev AT := XP → AS → (Bool → AS → Prop) → Prop
abbrev AA := XP → AS → (List Op → AS → Prop) → Prop
structure AEnds where
  nx : AS → Prop
  rt : PyData → Nat → Prop
  bk : AS → Prop := fun _ => False
  ct : AS → Prop := fun _ => False
abbrev AST := XP → AEnds → AS → Prop
/-! ### how it stands in the heap -/
/-- what is held for a while: data, or an object that nobody changes -/
inductive Hd where
  | dat (d : PyData) (v : V)
  | ob (a : Addr) (o : HO)
/-- the deck's third list, and the tables of code objects with the names that they tell -/
abbrev DQ := Addr × List (Addr × Str)
def DeckT (H : Hp) (d p : Addr) (q : DQ) (n : Nat) : Prop := Deck H d p q.1 n ∧ LamX.Tabs q.2 H
theorem DeckT.same {H H' : Hp} {d p : Addr} {q : DQ} {n : Nat} (h : DeckT H d p q n) (m : Same H H') : DeckT H' d p q n := ⟨h.1.same m, h.2.ext m⟩
structure Fx where
  B : List Addr
  dk0 : Option (Addr × Addr × DQ)
  H0 : Hp
  T : List Hd
  Z : List (Addr × HO)
  ex : Option (Addr × Addr × Option Addr)
  cs : List Addr
  tt : List (Addr × Str)
/-- what is wanted of an exception; the one that is handled -/
structure EC where
  x : L2.St → XK
  ex : Option (Addr × Addr × Option Addr)
  cs : List Addr
  tt : List (Addr × Str)
abbrev EC.z (Ec : EC) : EC := ⟨fun _ _ _ _ => False, Ec.ex, Ec.cs, Ec.tt⟩
abbrev eT (T : List (Addr × Str)) (E : XK) : EC := ⟨fun _ => E, none, [], T⟩
structure OE where
  dk : Option (Addr × Addr × DQ)
  R : List (Nat × Addr)
def OE.add (E : OE) (i : Nat) (l : Addr) : OE := ⟨E.dk, (i, l) :: E.R⟩
def dkl : Option (Addr × Addr × DQ) → List Addr
  | none => []
  | some (d, p, q) => d :: p :: q.1 :: q.2.map (·.1)
def chg (E : OE) : List Addr := dkl E.dk ++ E.R.map (·.2)
def ban (Φ : Fx) (E : OE) : List Addr := chg E ++ (Φ.Z.map (·.1) ++ Φ.B)
def Le (E' E : OE) : Prop := E'.dk = E.dk ∧ ∀ x ∈ E'.R, x ∈ E.R
theorem Le.refl (E : OE) : Le E E := ⟨rfl, fun _ h => h⟩
theorem Le.trans {a b c : OE} (h : Le a b) (g : Le b c) : Le a c := ⟨h.1.trans g.1, fun x hx => g.2 x (h.2 x hx)⟩
theorem Le.chg {E' E : OE} (h : Le E' E) : ∀ a ∈ chg E', a ∈ TR.chg E := fun a ha => by
  unfold TR.chg at ha ⊢
  rw [h.1] at ha
  rcases List.mem_append.mp ha with h1 | h1
  · exact List.mem_append_left _ h1
  · obtain ⟨x, hx, rfl⟩ := List.mem_map.mp h1
    exact List.mem_append_right _ (List.mem_map.mpr ⟨x, h.2 x hx, rfl⟩)
theorem ban_sub {Φ : Fx} {E' E : OE} (h : ∀ a ∈ chg E', a ∈ chg E) : ∀ a ∈ ban Φ E', a ∈ TR.ban Φ E := fun a ha => by
  unfold TR.ban at ha ⊢
  rcases List.mem_append.mp ha with h2 | h2
  · exact List.mem_append_left _ (h a h2)
  · exact List.mem_append_right _ h2
theorem Le.ban {Φ : Fx} {E' E : OE} (h : Le E' E) : ∀ a ∈ ban Φ E', a ∈ TR.ban Φ E := ban_sub h.chg
def KB (E : OE) (H H' : Hp) : Prop := ∀ b o, H b = some o → b ∉ chg E → H' b = some o
theorem KB.refl (E : OE) (H : Hp) : KB E H H := fun _ _ h _ => h
theorem KB.trans {E E1 : OE} {H H1 H2 : Hp} (a : KB E H H1) (l : Le E1 E) (b : KB E1 H1 H2) : KB E H H2 := fun c o h n => b c o (a c o h n) fun m => n (l.chg c m)
theorem KB.of_same {E : OE} {H H1 : Hp} (s : Same H H1) : KB E H H1 := fun _ _ h _ => s _ _ h
/-- a list may stand where nothing else of the data may -/
def RpX (H : Hp) (bn : List Addr) (d : PyData) (v : V) : Prop := Rp H bn d v ∨ ∃ a ds xs, d = .list ds ∧ v = .ref a ∧ H a = some (.lst xs) ∧ RpAll H bn ds xs
/-- an exception: its class, its field's value -/
def XRep (H : Hp) (bn : List Addr) (x : XD) (da : Option Addr) : Prop := match x.fld with
  | none => da = none
  | some (f, d) => ∃ e v, da = some e ∧ H e = some (.xd [(f, v)]) ∧ Rp H bn d v
/-- what stands where things may change -/
def Mu : HO → Prop
  | .lst _ => True
  | .dK _ => True
  | .ext φ => ∀ c q, HO.ext φ ≠ LamX.CodeO c q
  | .tbl _ => True
  | _ => False
def keyD : PyData → Option Key
  | .int i => some (.inl i)
  | .str x => some (.inr x)
  | _ => none
/-- the entries of a dict -/
def KRel (H : Hp) (bn : List Addr) (kvs : List (PyData × PyData)) (ks : List (Key × V)) : Prop := Paired (fun p q => keyD p.1 = some q.1 ∧ Rp H bn p.2 q.2) kvs ks
/-- dicts whose keys are tuples of ints and truth values: the key, its tuple, the value -/
def entI (x : List Int × Addr × Value) : DictEntry := { hash := reduceHash (Builtin.Tuple.tupleHashOf (x.1.map hashInt)), key := .ref x.2.1, val := x.2.2 }
def RawD (h : Heap) (d : Addr) (xs : List (List Int × Addr × Value)) : Prop := ∃ o es ep, h.get? d = some o ∧ o.ExactDict ∧ o.data = .dict es ep ∧ es.toList = xs.map entI ∧ (xs.map (·.1)).Nodup
def KVN (kvs : List (List Int × Addr × V)) (xs : List (List Int × Addr × Value)) : Prop := Paired (fun p q => p.1 = q.1 ∧ p.2.1 = q.2.1 ∧ RelV p.2.2 q.2.2) kvs xs
def DN (d : Addr) (kvs : List (List Int × Addr × V)) : HO := .ext fun h => kvs.length ≤ sizeLine ∧ (d == sysModules) = false ∧ ∃ xs, KVN kvs xs ∧ RawD h d xs
/-- what stands for a dict with tuple keys is no code object -/
theorem mu_DN {d : Addr} {ks : List (List Int × Addr × V)} : Mu (DN d ks) := fun c q e => by
  unfold LamX.CodeO at e
  injection e with e
  let ob : Obj := { cls := .none, data := .fields #[Value.none, Value.str q (0 : Nat)] }
  let h0 : Heap := ⟨Array.replicate (c + 1) ob, {}⟩
  have at_ : ∀ b o, h0.get? b = some o → o = ob := fun b o g => by
    unfold Heap.get? at g
    split at g
    · cases g
    · rw [show h0.objs = Array.replicate (c + 1) ob from rfl, Array.getElem?_replicate] at g
      split at g
      · exact (Option.some.inj g).symm
      · cases g
  have hc : h0.get? c = some ob := by
    unfold Heap.get?
    rw [show h0.objs[c]? = some ob from by rw [show h0.objs = Array.replicate (c + 1) ob from rfl, Array.getElem?_replicate, if_pos (Nat.lt_succ_self c)]]
  have := congrFun e h0
  have pc : ∃ (oc : Obj) (vs : Array Value) (t : Tok), h0.get? c = some oc ∧ oc.data = Data.fields vs ∧ vs[1]? = some (Value.str q t) := ⟨ob, _, (0 : Nat), hc, rfl, rfl⟩
  obtain ⟨_, _, xs, _, o, es, ep, g1, _, g3, _⟩ := Eq.mpr this pc
  rw [at_ _ _ g1] at g3
  cases g3
def leafI : PyData → Option Int
  | .int i => some i
  | .bool b => some (if b = true then 1 else 0)
  | _ => none
def keyTs : List PyData → Option (List Int)
  | [] => some []
  | d :: ds => match leafI d, keyTs ds with
    | some i, some r => some (i :: r)
    | _, _ => none
def keyT : PyData → Option (List Int)
  | .tuple ds => keyTs ds
  | _ => none
def NRel (H : Hp) (bn : List Addr) (kvs : List (PyData × PyData)) (ks : List (List Int × Addr × V)) : Prop := Paired (fun p q => keyT p.1 = some q.1 ∧ Rp H bn p.1 (.ref q.2.1) ∧ Rp H bn p.2 q.2.2) kvs ks
def Hl (H : Hp) (bn : List Addr) : Hd → Prop
  | .dat d v => Rp H bn d v
  | .ob a o => H a = some o ∧ a ∉ bn
/-- a dict with tuple keys whose values are lists of ints that are built here -/
def GRel (M : Addr → Prop) (H : Hp) (bn : List Addr) (kvs : List (PyData × List Int)) (ks : List (List Int × Addr × V)) : Prop := Paired (fun p q => keyT p.1 = some q.1 ∧ Rp H bn p.1 (.ref q.2.1) ∧ ∃ b, q.2.2 = .ref b ∧ M b ∧ H b = some (.lst (p.2.map V.int))) kvs ks
/-- a dict that is locked: with int or text keys, or with tuple keys -/
def LRel (H : Hp) (bn : List Addr) (a : Addr) : Bool → List (PyData × PyData) → Prop
  | false, kvs => ∃ o ks, H a = some (.frz o (.dK ks)) ∧ KRel H bn kvs ks
  | true, kvs => ∃ o ks, H a = some (.frz o (DN a ks)) ∧ NRel H bn kvs ks
def RelS (Φ : Fx) (E : OE) (H : Hp) (i : Nat) : AV → V → Prop
  | .dat d, v => Rp H (ban Φ E) d v
  | .own ds, v => ∃ a xs, v = .ref a ∧ (i, a) ∈ E.R ∧ H a = some (.lst xs) ∧ RpAll H (ban Φ E) ds xs
  | .dct kvs, v => ∃ a ks, v = .ref a ∧ (i, a) ∈ E.R ∧ H a = some (.dK ks) ∧ KRel H (ban Φ E) kvs ks
  | .dcn kvs, v => ∃ a ks, v = .ref a ∧ (i, a) ∈ E.R ∧ H a = some (DN a ks) ∧ NRel H (ban Φ E) kvs ks
  | .dcl kvs, v => ∃ a ks, v = .ref a ∧ (i, a) ∈ E.R ∧ H a = some (DN a ks) ∧ (ks.map (·.2.2)).Nodup ∧ GRel (fun b => (i, b) ∈ E.R) H (ban Φ E) kvs ks
  | .lck t kvs, v => ∃ a, v = .ref a ∧ a ∉ ban Φ E ∧ Φ.H0 a = none ∧ LRel H (ban Φ E) a t kvs
  | .bor d, v => Rp H (ban Φ E) d v ∨ ∃ a ds xs, d = .list ds ∧ v = .ref a ∧ H a = some (.lst xs) ∧ a ∈ Φ.B ∧ RpAll H (ban Φ E) ds xs
  | .deck, v => ∃ d p q, E.dk = some (d, p, q) ∧ v = .ref d
  | .exc x, v => ∃ a da, Φ.ex = some (a, x.cls, da) ∧ v = .ref a ∧ XRep H (ban Φ E) x da ∧ x.cls ∈ Φ.cs
structure Rel (Φ : Fx) (E : OE) (s : AS) (σ : L2.St) (H : Hp) : Prop where
  len : s.sl.length = σ.length
  val : ∀ i x, s.sl[i]? = some (some x) → ∃ v, σ[i]? = some (some v) ∧ RelS Φ E H i x v
  dk : ∀ d p q, E.dk = some (d, p, q) → DeckT H d p q s.n ∧ ∀ a ∈ dkl E.dk, a ∉ Φ.B ∧ (a ∈ dkl Φ.dk0 ∨ Φ.H0 a = none)
  own : ∀ i a, (i, a) ∈ E.R → (∃ o, H a = some o ∧ Mu o) ∧ a ∉ Φ.B ∧ a ∉ dkl E.dk ∧ Φ.H0 a = none
  inj : ∀ i j a, (i, a) ∈ E.R → (j, a) ∈ E.R → i = j
  fr : ∀ b o, Φ.H0 b = some o → b ∉ dkl Φ.dk0 → H b = some o
  dk0 : ∀ t, Φ.dk0 = some t → E.dk = some t
  alive : ∀ b ∈ Φ.B, (∃ o, Φ.H0 b = some o) ∧ b ∉ dkl Φ.dk0
  held : ∀ x ∈ Φ.T, Hl H (ban Φ E) x
  zz : ∀ x ∈ Φ.Z, H x.1 = some x.2 ∧ x.1 ∉ chg E ∧ Φ.H0 x.1 = none
  znd : (Φ.Z.map (·.1)).Nodup
  tt : Φ.tt = [] ∨ ∃ d p q, E.dk = some (d, p, (q, Φ.tt))
mutual
theorem Rp.bn {H : Hp} {b b' : List Addr} (h : ∀ a xs, H a = some (.lst xs) → a ∉ b → a ∉ b') (hd : ∀ a, H a = some (.dK []) → a ∉ b → a ∉ b') : ∀ (d : PyData) (v : V), Rp H b d v → Rp H b' d v
  | .none, _, r => r
  | .bool _, _, r => r
  | .int _, _, r => r
  | .str _, _, r => r
  | .list ds, _, r => by
    obtain ⟨a, xs, e, h1, h2, h3⟩ := r
    exact ⟨a, xs, e, h1, h a xs h1 h2, RpAll.bn h hd ds xs h3⟩
  | .tuple ds, _, r => by
    obtain ⟨a, xs, e, h1, h3⟩ := r
    exact ⟨a, xs, e, h1, RpAll.bn h hd ds xs h3⟩
  | .dict kvs, _, r => by
    obtain ⟨e0, a, e, h1, h2⟩ := r
    exact ⟨e0, a, e, h1, fun m => hd a h1 h2 m⟩
theorem RpAll.bn {H : Hp} {b b' : List Addr} (h : ∀ a xs, H a = some (.lst xs) → a ∉ b → a ∉ b') (hd : ∀ a, H a = some (.dK []) → a ∉ b → a ∉ b') : ∀ (ds : List PyData) (xs : List V), RpAll H b ds xs → RpAll H b' ds xs
  | [], _, r => r
  | d :: ds, _, r => by
    obtain ⟨v, t, e, h1, h2⟩ := r
    exact ⟨v, t, e, Rp.bn h hd d v h1, RpAll.bn h hd ds t h2⟩
end
theorem Rp.wk {H : Hp} {b b' : List Addr} (h : ∀ a ∈ b', a ∈ b) {d : PyData} {v : V} (r : Rp H b d v) : Rp H b' d v := Rp.bn (fun a _ _ n m => n (h a m)) (fun a _ n m => n (h a m)) d v r
theorem RpAll.wk {H : Hp} {b b' : List Addr} (h : ∀ a ∈ b', a ∈ b) {ds : List PyData} {xs : List V} (r : RpAll H b ds xs) : RpAll H b' ds xs := RpAll.bn (fun a _ _ n m => n (h a m)) (fun a _ n m => n (h a m)) ds xs r
theorem Rp.fresh {H : Hp} {b b' : List Addr} (h : ∀ a ∈ b', a ∈ b ∨ H a = none) {d : PyData} {v : V} (r : Rp H b d v) : Rp H b' d v := Rp.bn (fun a _ e n m => by
  rcases h a m with z | z
  · exact n z
  · rw [z] at e; cases e) (fun a e n m => by
  rcases h a m with z | z
  · exact n z
  · rw [z] at e; cases e) d v r
theorem RpAll.fresh {H : Hp} {b b' : List Addr} (h : ∀ a ∈ b', a ∈ b ∨ H a = none) {ds : List PyData} {xs : List V} (r : RpAll H b ds xs) : RpAll H b' ds xs := RpAll.bn (fun a _ e n m => by
  rcases h a m with z | z
  · exact n z
  · rw [z] at e; cases e) (fun a e n m => by
  rcases h a m with z | z
  · exact n z
  · rw [z] at e; cases e) ds xs r
theorem XRep.wk {H : Hp} {b b' : List Addr} (h : ∀ a ∈ b', a ∈ b) {x : XD} {da : Option Addr} (r : XRep H b x da) : XRep H b' x da := by
  unfold XRep at r ⊢
  split
  · next e => rw [e] at r; exact r
  · next f d e =>
    rw [e] at r
    obtain ⟨e, v, h1, h2, h3⟩ := r
    exact ⟨e, v, h1, h2, h3.wk h⟩
theorem XRep.same {H H' : Hp} {b : List Addr} {x : XD} {da : Option Addr} (r : XRep H b x da) (s : Same H H') : XRep H' b x da := by
  unfold XRep at r ⊢
  split
  · next e => rw [e] at r; exact r
  · next f d e =>
    rw [e] at r
    obtain ⟨e, v, h1, h2, h3⟩ := r
    exact ⟨e, v, h1, s _ _ h2, h3.same s⟩
theorem XRep.fresh {H : Hp} {b b' : List Addr} (h : ∀ a ∈ b', a ∈ b ∨ H a = none) {x : XD} {da : Option Addr} (r : XRep H b x da) : XRep H b' x da := by
  unfold XRep at r ⊢
  split
  · next e => rw [e] at r; exact r
  · next f d e =>
    rw [e] at r
    obtain ⟨e, v, h1, h2, h3⟩ := r
    exact ⟨e, v, h1, h2, h3.fresh h⟩
/-- lists stand where things may change -/
def LstAt (E : OE) (H : Hp) : Prop := ∀ a ∈ chg E, ∃ o, H a = some o ∧ Mu o
theorem Rel.lst {Φ : Fx} {E : OE} {s : AS} {σ : L2.St} {H : Hp} (r : Rel Φ E s σ H) : LstAt E H := fun a ha => by
  rcases List.mem_append.mp ha with h | h
  · cases e : E.dk with
    | none => rw [e] at h; cases h
    | some t =>
      obtain ⟨d, p, q⟩ := t
      rw [e] at h
      obtain ⟨D, _⟩ := r.dk d p q e
      obtain ⟨⟨_, ⟨xs, cs, c, h1, h2, h3, _⟩, _⟩, tb⟩ := D
      rcases List.mem_cons.mp h with rfl | h
      · exact ⟨_, h1, trivial⟩
      · rcases List.mem_cons.mp h with rfl | h
        · exact ⟨_, h2, trivial⟩
        · rcases List.mem_cons.mp h with rfl | h
          · exact ⟨_, h3, trivial⟩
          · obtain ⟨x, hx, rfl⟩ := List.mem_map.mp h
            obtain ⟨ps, e, _⟩ := tb x hx
            exact ⟨_, e, trivial⟩
  · obtain ⟨⟨i, b⟩, hx, rfl⟩ := List.mem_map.mp h
    exact (r.own i b hx).1
theorem TF.kb {E : OE} {H H' : Hp} {a : Addr} {xs : List V} (h : TF H a xs) (L : LstAt E H) (k : KB E H H') : TF H' a xs := by
  obtain ⟨o, hd, e⟩ := h
  refine ⟨o, hd, k _ _ e fun m => ?_⟩
  obtain ⟨ys, e2, mu⟩ := L a m
  rw [e] at e2; cases e2; exact mu.elim
theorem Rp.kb {Φ : Fx} {E : OE} {H H' : Hp} {d : PyData} {v : V} (h : Rp H (ban Φ E) d v) (L : LstAt E H) (k : KB E H H') : Rp H' (ban Φ E) d v := by
  refine Rp.mv (fun a xs hn e => k _ _ e fun m => hn ?_) (fun a xs e => e.kb L k) (fun a hn e => k _ _ e fun m => hn ?_) d v h
  · exact List.mem_append_left _ m
  · exact List.mem_append_left _ m
theorem RpAll.kb {Φ : Fx} {E : OE} {H H' : Hp} {ds : List PyData} {xs : List V} (h : RpAll H (ban Φ E) ds xs) (L : LstAt E H) (k : KB E H H') : RpAll H' (ban Φ E) ds xs := by
  refine RpAll.mv (fun a xs hn e => k _ _ e fun m => hn ?_) (fun a xs e => e.kb L k) (fun a hn e => k _ _ e fun m => hn ?_) ds xs h
  · exact List.mem_append_left _ m
  · exact List.mem_append_left _ m
theorem XRep.kb {Φ : Fx} {E : OE} {H H' : Hp} {x : XD} {da : Option Addr} (r : XRep H (ban Φ E) x da) (L : LstAt E H) (k : KB E H H') : XRep H' (ban Φ E) x da := by
  unfold XRep at r ⊢
  split
  · next e => rw [e] at r; exact r
  · next f d e =>
    rw [e] at r
    obtain ⟨e, v, h1, h2, h3⟩ := r
    refine ⟨e, v, h1, k _ _ h2 fun m => ?_, h3.kb L k⟩
    obtain ⟨ys, e2, mu⟩ := L e m
    rw [h2] at e2; cases e2; exact mu.elim
theorem KRel.mono {H H' : Hp} {b b' : List Addr} (h : ∀ d v, Rp H b d v → Rp H' b' d v) : ∀ {kvs : List (PyData × PyData)} {ks : List (Key × V)}, KRel H b kvs ks → KRel H' b' kvs ks
  | [], _, .nil => .nil
  | _ :: _, _, .cons e t => .cons ⟨e.1, h _ _ e.2⟩ (KRel.mono h t)
theorem KRel.same {H H' : Hp} {b : List Addr} {kvs : List (PyData × PyData)} {ks : List (Key × V)} (r : KRel H b kvs ks) (s : Same H H') : KRel H' b kvs ks := r.mono fun _ _ h => h.same s
theorem KRel.wk {H : Hp} {b b' : List Addr} (h : ∀ a ∈ b', a ∈ b) {kvs : List (PyData × PyData)} {ks : List (Key × V)} (r : KRel H b kvs ks) : KRel H b' kvs ks := r.mono fun _ _ h2 => h2.wk h
theorem KRel.fresh {H : Hp} {b b' : List Addr} (h : ∀ a ∈ b', a ∈ b ∨ H a = none) {kvs : List (PyData × PyData)} {ks : List (Key × V)} (r : KRel H b kvs ks) : KRel H b' kvs ks := r.mono fun _ _ h2 => Rp.fresh h h2
theorem KRel.kb {Φ : Fx} {E : OE} {H H' : Hp} {kvs : List (PyData × PyData)} {ks : List (Key × V)} (r : KRel H (ban Φ E) kvs ks) (L : LstAt E H) (k : KB E H H') : KRel H' (ban Φ E) kvs ks := r.mono fun _ _ h => h.kb L k
theorem NRel.mono {H H' : Hp} {b b' : List Addr} (h : ∀ d v, Rp H b d v → Rp H' b' d v) : ∀ {kvs : List (PyData × PyData)} {ks : List (List Int × Addr × V)}, NRel H b kvs ks → NRel H' b' kvs ks
  | [], _, .nil => .nil
  | _ :: _, _, .cons e t => .cons ⟨e.1, h _ _ e.2.1, h _ _ e.2.2⟩ (NRel.mono h t)
theorem NRel.same {H H' : Hp} {b : List Addr} {kvs : List (PyData × PyData)} {ks : List (List Int × Addr × V)} (r : NRel H b kvs ks) (s : Same H H') : NRel H' b kvs ks := r.mono fun _ _ h => h.same s
theorem NRel.wk {H : Hp} {b b' : List Addr} (h : ∀ a ∈ b', a ∈ b) {kvs : List (PyData × PyData)} {ks : List (List Int × Addr × V)} (r : NRel H b kvs ks) : NRel H b' kvs ks := r.mono fun _ _ h2 => h2.wk h
theorem NRel.fresh {H : Hp} {b b' : List Addr} (h : ∀ a ∈ b', a ∈ b ∨ H a = none) {kvs : List (PyData × PyData)} {ks : List (List Int × Addr × V)} (r : NRel H b kvs ks) : NRel H b' kvs ks := r.mono fun _ _ h2 => Rp.fresh h h2
theorem NRel.kb {Φ : Fx} {E : OE} {H H' : Hp} {kvs : List (PyData × PyData)} {ks : List (List Int × Addr × V)} (r : NRel H (ban Φ E) kvs ks) (L : LstAt E H) (k : KB E H H') : NRel H' (ban Φ E) kvs ks := r.mono fun _ _ h => h.kb L k
theorem rp_leaf {H : Hp} {b b' : List Addr} : ∀ {d : PyData} {i : Int} {v : V}, leafI d = some i → Rp H b d v → Rp H b' d v
  | .int _, _, _, _, r => r
  | .bool _, _, _, _, r => r
  | .none, _, _, e, _ => by cases e
  | .str _, _, _, e, _ => by cases e
  | .list _, _, _, e, _ => by cases e
  | .tuple _, _, _, e, _ => by cases e
  | .dict _, _, _, e, _ => by cases e
theorem rp_leafs {H : Hp} {b b' : List Addr} : ∀ {ds : List PyData} {k : List Int} {xs : List V}, keyTs ds = some k → RpAll H b ds xs → RpAll H b' ds xs
  | [], _, _, _, r => r
  | d :: ds, k, _, e, r => by
    obtain ⟨v, r', rfl, h1, h2⟩ := r
    unfold keyTs at e
    split at e
    · next i q e1 e2 =>
      cases e
      exact ⟨v, r', rfl, rp_leaf e1 h1, rp_leafs e2 h2⟩
    · cases e
theorem rp_key {H : Hp} {b b' : List Addr} {d : PyData} {k : List Int} {v : V} (e : keyT d = some k) (r : Rp H b d v) : Rp H b' d v := by
  cases d with
  | tuple ds =>
    obtain ⟨c, xs, rfl, t, ra⟩ := r
    exact ⟨c, xs, rfl, t, rp_leafs e ra⟩
  | _ => cases e
theorem GRel.mono {M M' : Addr → Prop} {H H' : Hp} {b b' : List Addr} (h : ∀ d v, Rp H b d v → Rp H' b' d v) (g : ∀ a xs, M a → H a = some (.lst xs) → M' a ∧ H' a = some (.lst xs)) : ∀ {kvs : List (PyData × List Int)} {ks : List (List Int × Addr × V)}, GRel M H b kvs ks → GRel M' H' b' kvs ks
  | [], _, .nil => .nil
  | _ :: _, _, .cons e t => .cons (by
    obtain ⟨e1, e2, c, e3, e4, e5⟩ := e
    obtain ⟨g1, g2⟩ := g c _ e4 e5
    exact ⟨e1, h _ _ e2, c, e3, g1, g2⟩) (GRel.mono h g t)
theorem LRel.mono {H H' : Hp} {b b' : List Addr} {a : Addr} (h : ∀ d v, Rp H b d v → Rp H' b' d v) (g : ∀ o u, H a = some (.frz o u) → H' a = some (.frz o u)) : ∀ {t : Bool} {kvs : List (PyData × PyData)}, LRel H b a t kvs → LRel H' b' a t kvs
  | false, _, ⟨o, ks, e, r⟩ => ⟨o, ks, g _ _ e, r.mono h⟩
  | true, _, ⟨o, ks, e, r⟩ => ⟨o, ks, g _ _ e, r.mono h⟩
theorem Hl.same {H H' : Hp} {b : List Addr} {x : Hd} (h : Hl H b x) (s : Same H H') : Hl H' b x := by
  cases x with
  | dat d v => exact Rp.same (show Rp H b d v from h) s
  | ob a o => exact ⟨s _ _ h.1, h.2⟩
theorem Hl.wk {H : Hp} {b b' : List Addr} (g : ∀ a ∈ b', a ∈ b) {x : Hd} (h : Hl H b x) : Hl H b' x := by
  cases x with
  | dat d v => exact Rp.wk g (show Rp H b d v from h)
  | ob a o => exact ⟨h.1, fun m => h.2 (g a m)⟩
theorem Hl.fresh {H : Hp} {b b' : List Addr} (g : ∀ a ∈ b', a ∈ b ∨ H a = none) {x : Hd} (h : Hl H b x) : Hl H b' x := by
  cases x with
  | dat d v => exact Rp.fresh g (show Rp H b d v from h)
  | ob a o => exact ⟨h.1, fun m => by
      rcases g a m with z | z
      · exact h.2 z
      · rw [h.1] at z; cases z⟩
theorem Hl.kb {Φ : Fx} {E : OE} {H H' : Hp} {x : Hd} (h : Hl H (ban Φ E) x) (L : LstAt E H) (k : KB E H H') : Hl H' (ban Φ E) x := by
  cases x with
  | dat d v => exact Rp.kb (show Rp H (ban Φ E) d v from h) L k
  | ob a o => exact ⟨k _ _ h.1 fun m => h.2 (List.mem_append_left _ m), h.2⟩
/-- all that was there is there -/
theorem RelS.same {Φ : Fx} {E : OE} {H H' : Hp} {i : Nat} (s : Same H H') : ∀ {x : AV} {v : V}, RelS Φ E H i x v → RelS Φ E H' i x v
  | .dat _, _, h => Rp.same h s
  | .own _, _, h => by
    obtain ⟨a, xs, e, m, h1, h2⟩ := h
    exact ⟨a, xs, e, m, s _ _ h1, h2.same s⟩
  | .dct _, _, h => by
    obtain ⟨a, ks, e, m, h1, h2⟩ := h
    exact ⟨a, ks, e, m, s _ _ h1, h2.same s⟩
  | .dcn _, _, h => by
    obtain ⟨a, ks, e, m, h1, h2⟩ := h
    exact ⟨a, ks, e, m, s _ _ h1, h2.same s⟩
  | .dcl _, _, h => by
    obtain ⟨a, ks, e, m, h1, hn, h2⟩ := h
    exact ⟨a, ks, e, m, s _ _ h1, hn, h2.mono (fun _ _ h => h.same s) fun _ _ m h => ⟨m, s _ _ h⟩⟩
  | .lck _ _, _, h => by
    obtain ⟨a, e, h1, h2, h3⟩ := h
    exact ⟨a, e, h1, h2, h3.mono (fun _ _ h => h.same s) fun _ _ h => s _ _ h⟩
  | .bor _, _, h => by
    rcases h with h | ⟨a, ds, xs, e, e2, h1, h3, h4⟩
    · exact .inl (Rp.same h s)
    · exact .inr ⟨a, ds, xs, e, e2, s _ _ h1, h3, h4.same s⟩
  | .deck, _, h => h
  | .exc _, _, h => by
    obtain ⟨a, da, e, z, h1, h2⟩ := h
    exact ⟨a, da, e, z, h1.same s, h2⟩
theorem Rel.same {Φ : Fx} {E : OE} {s : AS} {σ : L2.St} {H H' : Hp} (r : Rel Φ E s σ H) (m : Same H H') : Rel Φ E s σ H' where
  len := r.len
  val := fun i x h => by
    obtain ⟨v, h1, h2⟩ := r.val i x h
    exact ⟨v, h1, h2.same m⟩
  dk := fun d p q h => by
    obtain ⟨h1, h2⟩ := r.dk d p q h
    exact ⟨h1.same m, h2⟩
  own := fun i a h => by
    obtain ⟨⟨xs, h1, mu⟩, h2⟩ := r.own i a h
    exact ⟨⟨xs, m _ _ h1, mu⟩, h2⟩
  inj := r.inj
  fr := fun b o h1 h2 => m _ _ (r.fr b o h1 h2)
  dk0 := r.dk0
  alive := r.alive
  held := fun x hx => (r.held x hx).same m
  zz := fun x hx => ⟨m _ _ (r.zz x hx).1, (r.zz x hx).2⟩
  znd := r.znd
  tt := r.tt
/-- a new address is nowhere banned -/
theorem Rel.newban {Φ : Fx} {E : OE} {s : AS} {σ : L2.St} {H : Hp} (r : Rel Φ E s σ H) {p : Addr} (hp : H p = none) : p ∉ ban Φ E := fun m => by
  rcases List.mem_append.mp m with h | h
  · obtain ⟨xs, e, _⟩ := r.lst p h
    rw [hp] at e; cases e
  · rcases List.mem_append.mp h with h | h
    · obtain ⟨x, hx, rfl⟩ := List.mem_map.mp h
      rw [(r.zz x hx).1] at hp; cases hp
    · obtain ⟨⟨o, e⟩, h2⟩ := r.alive p h
      rw [r.fr p o e h2] at hp; cases hp
theorem Rel.alive' {Φ : Fx} {E : OE} {s : AS} {σ : L2.St} {H : Hp} (r : Rel Φ E s σ H) {b : Addr} (hb : b ∈ Φ.B) : ∃ o, H b = some o := by
  obtain ⟨⟨o, e⟩, h2⟩ := r.alive b hb
  exact ⟨o, r.fr b o e h2⟩
/-! ### operands -/
def res (s : AS) : Op → Option PyData
  | .val d => some d
  | .slot i => match s.sl[i]? with
    | some (some (.dat d)) => some d
    | some (some (.own ds)) => some (.list ds)
    | some (some (.bor d)) => some d
    | _ => none
  | .deck => none
def RpO (Φ : Fx) (E : OE) (σ : L2.St) (H : Hp) : Op → V → Prop
  | .val d, v => Rp H (ban Φ E) d v
  | .slot i, v => σ[i]? = some (some v)
  | .deck, v => ∃ d p q, E.dk = some (d, p, q) ∧ v = .ref d
theorem RpO.kb {Φ : Fx} {E E' : OE} {σ : L2.St} {H H' : Hp} (L : LstAt E H) (k : KB E H H') (l : Le E' E) : ∀ {o : Op} {v : V}, RpO Φ E σ H o v → RpO Φ E' σ H' o v
  | .val _, _, h => Rp.wk l.ban (Rp.kb h L k)
  | .slot _, _, h => h
  | .deck, _, h => by
    obtain ⟨d, p, q, e, z⟩ := h
    exact ⟨d, p, q, l.1.trans e, z⟩
theorem RpX.same {H H' : Hp} {bn : List Addr} {d : PyData} {v : V} (s : Same H H') (h : RpX H bn d v) : RpX H' bn d v := by
  rcases h with h | ⟨a, ds, xs, e, e2, h1, h3⟩
  · exact .inl (Rp.same h s)
  · exact .inr ⟨a, ds, xs, e, e2, s _ _ h1, h3.same s⟩
/-- an operand, as it stands when it is used -/
theorem Rel.res {Φ : Fx} {E : OE} {s : AS} {σ : L2.St} {H : Hp} (r : Rel Φ E s σ H) : ∀ {o : Op} {v : V} {d : PyData}, RpO Φ E σ H o v → res s o = some d → RpX H (ban Φ E) d v
  | .val _, _, _, h, e => by cases e; exact .inl h
  | .slot i, v, d, h, e => by
    simp only [TR.res] at e
    split at e
    · next x hx =>
      cases e
      obtain ⟨v', h1, h2⟩ := r.val i _ hx
      rw [show σ[i]? = some (some v) from h] at h1; cases h1
      exact .inl h2
    · next ds hx =>
      cases e
      obtain ⟨v', h1, h2⟩ := r.val i _ hx
      rw [show σ[i]? = some (some v) from h] at h1; cases h1
      obtain ⟨a, xs, e1, m, h3, h4⟩ := h2
      exact .inr ⟨a, ds, xs, rfl, e1, h3, h4⟩
    · next x hx =>
      cases e
      obtain ⟨v', h1, h2⟩ := r.val i _ hx
      rw [show σ[i]? = some (some v) from h] at h1; cases h1
      rcases h2 with h2 | ⟨a, ds, xs, e, e2, g1, g3, g4⟩
      · exact .inl h2
      · exact .inr ⟨a, ds, xs, e, e2, g1, g4⟩
    · cases e
  | .deck, _, _, _, e => by cases e
/-! ### what the readings say of the heap -/
structure RetOk (Φ : Fx) (r : PyData) (n : Nat) (v : V) (H : Hp) : Prop where
  fr : ∀ b o, Φ.H0 b = some o → b ∉ dkl Φ.dk0 → H b = some o
  dk : ∀ d p q, Φ.dk0 = some (d, p, q) → DeckT H d p q n
  rp : Rp H (dkl Φ.dk0 ++ Φ.B) r v
def XSim (Φ : Fx) (xp : XP) (Ec : EC) : Prop := (Φ.ex = Ec.ex ∧ Φ.cs = Ec.cs ∧ Φ.tt = Ec.tt) ∧ ∀ x E s σ H da, Rel Φ E s σ H → XRep H (ban Φ E) x da → xp x s → Ec.x σ (.ref x.cls) da H
def cE (Ec : EC) (a : AE) : TE := fun σ H Q => ∃ Φ E xp s Qa, Rel Φ E s σ H ∧ XSim Φ xp Ec ∧ a xp s Qa ∧ ∀ d E' s' v H', Le E' E → Rel Φ E' s' σ H' → KB E H H' → Rp H' (ban Φ E') d v → Qa d s' → Q v H'
def cO (Ec : EC) (a : AO) : TE := fun σ H Q => ∃ Φ E xp s Qa, Rel Φ E s σ H ∧ XSim Φ xp Ec ∧ a xp s Qa ∧ ∀ o E' s' v H', Le E' E → Rel Φ E' s' σ H' → KB E H H' → RpO Φ E' σ H' o v → Qa o s' → Q v H'
def cT (Ec : EC) (a : AT) : TT := fun σ H Q => ∃ Φ E xp s Qa, Rel Φ E s σ H ∧ XSim Φ xp Ec ∧ a xp s Qa ∧ ∀ b E' s' H', Le E' E → Rel Φ E' s' σ H' → KB E H H' → Qa b s' → Q b H'
def cA (Ec : EC) (a : AA) : TA := fun σ H Q => ∃ Φ E xp s Qa, Rel Φ E s σ H ∧ XSim Φ xp Ec ∧ a xp s Qa ∧ ∀ os E' s' vs H', Le E' E → Rel Φ E' s' σ H' → KB E H H' → Paired (RpO Φ E' σ H') os vs → Qa os s' → Q vs H'
/-- a new list, for slot i: nothing else leads to it -/
def cF (i : Nat) (Ec : EC) (a : AE) : TE := fun σ H Q => ∃ Φ E xp s Qa, Rel Φ E s σ H ∧ XSim Φ xp Ec ∧ a xp s Qa ∧ ∀ ds E' s' l xs H', Le E' E → Rel Φ E' s' σ H' → Rel Φ (E'.add i l) s' σ H' → KB E H H' → H' l = some (.lst xs) → RpAll H' (ban Φ (E'.add i l)) ds xs → l ∉ ban Φ E' → Qa (.list ds) s' → Q (.ref l) H'
structure SimD (Φ : Fx) (Da : AEnds) (D : Ends) : Prop where
  nx : ∀ E s σ H, Rel Φ E s σ H → Da.nx s → D.nx σ H
  bk : ∀ E s σ H, Rel Φ E s σ H → Da.bk s → D.bk σ H
  ct : ∀ E s σ H, Rel Φ E s σ H → Da.ct s → D.ct σ H
  rt : ∀ r n v H, RetOk Φ r n v H → Da.rt r n → D.rt v H
def cS (Ec : EC) (a : AST) : TS := fun D σ H => ∃ Φ E xp s Da, Rel Φ E s σ H ∧ XSim Φ xp Ec ∧ a xp Da s ∧ SimD Φ Da D
end TR
namespace TR
open PySem PySem.Spec PyProof.Rows L2
theorem mem_ban_add {Φ : Fx} {E : OE} {i : Nat} {l a : Addr} (h : a ∈ ban Φ (E.add i l)) : a = l ∨ a ∈ ban Φ E := by
  unfold ban chg OE.add at h
  unfold ban chg
  simp only [List.map_cons, List.mem_cons, List.mem_append] at h ⊢
  rcases h with (h | h | h) | h
  · exact .inr (.inl (.inl h))
  · exact .inl h
  · exact .inr (.inl (.inr h))
  · exact .inr (.inr h)
theorem ban_add {Φ : Fx} {E : OE} {i : Nat} {l a : Addr} (h : a ∈ ban Φ E) : a ∈ ban Φ (E.add i l) := by
  unfold ban chg at h
  unfold ban chg OE.add
  simp only [List.map_cons, List.mem_cons, List.mem_append] at h ⊢
  rcases h with (h | h) | h
  · exact .inl (.inl h)
  · exact .inl (.inr (.inr h))
  · exact .inr h
theorem ban_add_self {Φ : Fx} {E : OE} {i : Nat} {l : Addr} : l ∈ ban Φ (E.add i l) := by
  unfold ban chg OE.add
  simp
theorem Rel.noH0 {Φ : Fx} {E : OE} {s : AS} {σ : L2.St} {H : Hp} (r : Rel Φ E s σ H) {p : Addr} (hp : H p = none) : Φ.H0 p = none := by
  cases e : Φ.H0 p with
  | none => rfl
  | some o =>
    by_cases m : p ∈ dkl Φ.dk0
    · cases e0 : Φ.dk0 with
      | none => rw [e0] at m; cases m
      | some t =>
        have e1 := r.dk0 t e0
        have : p ∈ chg E := List.mem_append_left _ (by rw [e1, ← e0]; exact m)
        obtain ⟨xs, h, _⟩ := r.lst p this
        rw [hp] at h; cases h
    · rw [r.fr p o e m] at hp; cases hp
/-- a new list is made: it is banned from all that was there -/
theorem Rel.add {Φ : Fx} {E : OE} {s : AS} {σ : L2.St} {H H' : Hp} (r : Rel Φ E s σ H) (i : Nat) {p : Addr} (hp : H p = none) (m : Same H H') {o : HO} (e : H' p = some o) (mu : Mu o := by first | trivial | exact mu_DN) : Rel Φ (E.add i p) s σ H' := by
  have hB : p ∉ ban Φ E := r.newban hp
  have fx : ∀ a ∈ ban Φ (E.add i p), a ∈ ban Φ E ∨ H a = none := fun a ha => by
    rcases mem_ban_add ha with h | h
    · rw [h]; exact .inr hp
    · exact .inl h
  have hpE : ∀ j a, (j, a) ∈ E.R → a ≠ p := fun j a h z => by
    obtain ⟨⟨xs, h1, _⟩, _⟩ := r.own j a h
    rw [z, hp] at h1; cases h1
  have hdk : p ∉ dkl E.dk := fun z => hB (List.mem_append_left _ (List.mem_append_left _ z))
  refine ⟨r.len, fun j x h => ?_, fun d q t h => ?_, fun j a h => ?_, fun j k a h1 h2 => ?_, fun b o h1 h2 => m _ _ (r.fr b o h1 h2), r.dk0, r.alive, fun x hx => (Hl.fresh fx (r.held x hx)).same m, fun x hx => ?_, r.znd, r.tt⟩
  · obtain ⟨v, h1, h2⟩ := r.val j x h
    refine ⟨v, h1, ?_⟩
    cases x with
    | dat d => exact (Rp.fresh fx (show Rp H (ban Φ E) d v from h2)).same m
    | own ds =>
      obtain ⟨a, ys, e1, m1, h3, h4⟩ := h2
      exact ⟨a, ys, e1, List.mem_cons_of_mem _ m1, m _ _ h3, (RpAll.fresh fx h4).same m⟩
    | dct kvs =>
      obtain ⟨a, ks, e1, m1, h3, h4⟩ := h2
      exact ⟨a, ks, e1, List.mem_cons_of_mem _ m1, m _ _ h3, (KRel.fresh fx h4).same m⟩
    | dcn kvs =>
      obtain ⟨a, ks, e1, m1, h3, h4⟩ := h2
      exact ⟨a, ks, e1, List.mem_cons_of_mem _ m1, m _ _ h3, (NRel.fresh fx h4).same m⟩
    | dcl kvs =>
      obtain ⟨a, ks, e1, m1, h3, hn, h4⟩ := h2
      exact ⟨a, ks, e1, List.mem_cons_of_mem _ m1, m _ _ h3, hn, h4.mono (fun _ _ h => (Rp.fresh fx h).same m) fun _ _ m1 h => ⟨List.mem_cons_of_mem _ m1, m _ _ h⟩⟩
    | lck t kvs =>
      obtain ⟨a, e1, h3, h5, h4⟩ := h2
      refine ⟨a, e1, fun z => ?_, h5, h4.mono (fun _ _ h => (Rp.fresh fx h).same m) fun _ _ h => m _ _ h⟩
      rcases mem_ban_add z with z | z
      · subst z
        cases t <;> (obtain ⟨_, _, q, _⟩ := h4; rw [hp] at q; cases q)
      · exact h3 z
    | bor d =>
      rcases h2 with h2 | ⟨a, ds, ys, e1, e2, h3, h5, h6⟩
      · exact .inl ((Rp.fresh fx h2).same m)
      · exact .inr ⟨a, ds, ys, e1, e2, m _ _ h3, h5, (RpAll.fresh fx h6).same m⟩
    | deck => exact h2
    | exc x =>
      obtain ⟨a, da, e1, e2, h3, h4⟩ := h2
      exact ⟨a, da, e1, e2, (XRep.fresh fx h3).same m, h4⟩
  · obtain ⟨h1, h2⟩ := r.dk d q t h
    exact ⟨h1.same m, h2⟩
  · rcases List.mem_cons.mp h with h | h
    · cases h
      refine ⟨⟨o, e, mu⟩, fun z => hB (List.mem_append_right _ (List.mem_append_right _ z)), hdk, r.noH0 hp⟩
    · obtain ⟨⟨ys, h1, mu1⟩, h2⟩ := r.own j a h
      exact ⟨⟨ys, m _ _ h1, mu1⟩, h2⟩
  · rcases List.mem_cons.mp h1 with h1 | h1
    · rcases List.mem_cons.mp h2 with h2 | h2
      · cases h1; cases h2; rfl
      · cases h1; exact absurd rfl (hpE _ _ h2)
    · rcases List.mem_cons.mp h2 with h2 | h2
      · cases h2; exact absurd rfl (hpE _ _ h1)
      · exact r.inj j k a h1 h2
  · obtain ⟨z1, z2, z3⟩ := r.zz x hx
    refine ⟨m _ _ z1, fun z => ?_, z3⟩
    rcases List.mem_append.mp z with z | z
    · exact z2 (List.mem_append_left _ z)
    · rcases List.mem_cons.mp z with z | z
      · rw [z, hp] at z1; cases z1
      · exact z2 (List.mem_append_right _ z)
theorem unT {A B : Prop} (h : if true = true then A else B) : A := by
  rw [if_pos rfl] at h
  exact h
theorem unF {A B : Prop} (h : if false = true then A else B) : B := by
  rw [if_neg Bool.false_ne_true] at h
  exact h
/-! ### weaker readings -/
section
variable {X : Cx}
theorem _root_.L2.PE.sub {e : Expr} {t t' : TE} (h : PE X e t) (g : ∀ σ H Q, t' σ H Q → t σ H Q) : PE X e t' := ⟨fun pins s σ H Q I q => h.run pins s σ H Q I (g σ H Q q)⟩
theorem _root_.L2.PT.sub {e : Expr} {t t' : TT} (h : PT X e t) (g : ∀ σ H Q, t' σ H Q → t σ H Q) : PT X e t' := ⟨fun pins s σ H Q I q => h.run pins s σ H Q I (g σ H Q q)⟩
theorem _root_.L2.PW.sub {e : Expr} {t t' : TT} (h : PW X e t) (g : ∀ σ H Q, t' σ H Q → t σ H Q) : PW X e t' := ⟨fun w pins s σ H Q I q => h.run w pins s σ H Q I (g σ H Q q)⟩
theorem _root_.L2.PA.sub {es : List Expr} {t t' : TA} (h : PA X es t) (g : ∀ σ H Q, t' σ H Q → t σ H Q) : PA X es t' := ⟨fun p pins s σ H Q I q => h.run p pins s σ H Q I (g σ H Q q)⟩
theorem _root_.L2.PS.sub {e : Stmt} {t t' : TS} (h : PS X e t) (g : ∀ D σ H, t' D σ H → t D σ H) : PS X e t' := ⟨fun pins s σ H D I q => h.run pins s σ H D I (g D σ H q)⟩
theorem _root_.L2.PSs.sub {e : List Stmt} {t t' : TS} (h : PSs X e t) (g : ∀ D σ H, t' D σ H → t D σ H) : PSs X e t' := ⟨fun pins s σ H D I q => h.run pins s σ H D I (g D σ H q)⟩
theorem _root_.L2.PI.sub {tg e : Expr} {t t' : TI} (h : PI X tg e t) (g : ∀ σ H Q, t' σ H Q → t σ H Q) : PI X tg e t' := ⟨fun pins s σ H Q I q => h.run pins s σ H Q I (g σ H Q q)⟩
end
/-! ### operands at use -/
def rs (s : AS) (o : Op) (k : PyData → Prop) : Prop := match res s o with
  | some d => k d
  | none => False
theorem rs_get {s : AS} {o : Op} {k : PyData → Prop} (h : rs s o k) : ∃ d, res s o = some d ∧ k d := by
  unfold rs at h
  cases e : res s o with
  | none => rw [e] at h; exact h.elim
  | some d => rw [e] at h; exact ⟨d, rfl, h⟩
/-- where nothing stands, nothing is banned -/
def NB (H : Hp) (bn : List Addr) : Prop := ∀ p, H p = none → p ∉ bn
theorem Rel.nb {Φ : Fx} {E : OE} {s : AS} {σ : L2.St} {H : Hp} (r : Rel Φ E s σ H) : NB H (ban Φ E) := fun _ h1 => r.newban h1
section
variable {X : Cx} {Ec : EC}
/-! ### constants, names -/
def aC (d : PyData) : AE := fun _ s Q => Q d s
theorem ae_C {e : Expr} {v : V} {d : PyData} (h : PE X e (tC v)) (hd : ∀ H bn, Rp H bn d v) : PE X e (cE Ec (aC d)) := h.sub fun σ H Q ⟨Φ, E, xp, s, Qa, r, _, q, k⟩ => k d E s v H (.refl _) r (.refl _ _) (hd _ _) q
theorem ae_int {i j pos} : PE X (.Constant (.int i) j pos) (cE Ec (aC (.int i))) := ae_C pe_int fun _ _ => rfl
theorem ae_bl {b j pos} : PE X (.Constant (.bool b) j pos) (cE Ec (aC (.bool b))) := ae_C pe_bl fun _ _ => rfl
theorem ae_non {j pos} : PE X (.Constant .none j pos) (cE Ec (aC .none)) := ae_C pe_non fun _ _ => rfl
theorem ae_str {x j pos} : PE X (.Constant (.str x) j pos) (cE Ec (aC (.str x))) := ae_C pe_str fun _ _ => rfl
def aVar (i : Nat) : AE := fun _ s Q => match s.sl[i]? with
  | some (some (.dat d)) => Q d s
  | _ => False
theorem ae_var (i : Nat) {e : Expr} (h : PE X e (tVar i)) : PE X e (cE Ec (aVar i)) := h.sub fun σ H Q ⟨Φ, E, xp, s, Qa, r, _, q, k⟩ => by
  unfold aVar at q
  split at q
  · next d hd =>
    obtain ⟨v, h1, h2⟩ := r.val i _ hd
    exact ⟨v, h1, k d E s v H (.refl _) r (.refl _ _) h2 q⟩
  · exact q.elim
/-- as an operand: whatever it holds -/
def oVar (i : Nat) : AO := fun _ s Q => match s.sl[i]? with
  | some (some (.dat d)) => Q (.val d) s
  | some (some .deck) => Q .deck s
  | some (some _) => Q (.slot i) s
  | _ => False
theorem ao_var (i : Nat) {e : Expr} (h : PE X e (tVar i)) : PE X e (cO Ec (oVar i)) := h.sub fun σ H Q ⟨Φ, E, xp, s, Qa, r, _, q, k⟩ => by
  unfold oVar at q
  split at q
  · next d hd =>
    obtain ⟨v, h1, h2⟩ := r.val i _ hd
    exact ⟨v, h1, k (.val d) E s v H (.refl _) r (.refl _ _) h2 q⟩
  · next hd =>
    obtain ⟨v, h1, h2⟩ := r.val i _ hd
    exact ⟨v, h1, k .deck E s v H (.refl _) r (.refl _ _) h2 q⟩
  · next hd =>
    obtain ⟨v, h1, h2⟩ := r.val i _ hd
    exact ⟨v, h1, k (.slot i) E s v H (.refl _) r (.refl _ _) h1 q⟩
  · exact q.elim
/-- the list is given away: it is no more changed -/
def aFrz (i : Nat) : AE := fun _ s Q => match s.sl[i]? with
  | some (some (.dat d)) => Q d s
  | some (some (.own ds)) => Q (.list ds) { s with sl := s.sl.set i (some (.dat (.list ds))) }
  | _ => False
def oV (a : AE) : AO := fun xp s Q => a xp s fun d s' => Q (.val d) s'
theorem ao_V {e : Expr} {a : AE} (h : PE X e (cE Ec a)) : PE X e (cO Ec (oV a)) := h.sub fun σ H Q ⟨Φ, E, xp, s, Qa, r, x, q, k⟩ => ⟨Φ, E, xp, s, _, r, x, q, fun d E' s' v H' l r' kb rp q' => k (.val d) E' s' v H' l r' kb rp q'⟩
/-! ### two operands, one -/
def DOp (r : R2) (f : PyData → PyData → (PyData → Prop) → Prop) : Prop := ∀ (bn : List Addr) (H : Hp) (d1 d2 : PyData) (v1 v2 : V) (Q : PyData → Prop) (Qc : VK), NB H bn → RpX H bn d1 v1 → RpX H bn d2 v2 → f d1 d2 Q → (∀ d v H', Same H H' → Rp H' bn d v → Q d → Qc v H') → r v1 v2 H Qc
def a2 (f : PyData → PyData → (PyData → Prop) → Prop) (aa ab : AO) : AE := fun xp s Q => aa xp s fun o1 s1 => ab xp s1 fun o2 s2 => rs s2 o1 fun d1 => rs s2 o2 fun d2 => f d1 d2 fun d => Q d s2
theorem a2_ok {r : R2} {f : PyData → PyData → (PyData → Prop) → Prop} (hd : DOp r f) {aa ab : AO} {σ : L2.St} {H : Hp} {Q : VK} (h : cE Ec (a2 f aa ab) σ H Q) : tOp r (cO Ec aa) (cO Ec ab) σ H Q := by
  obtain ⟨Φ, E, xp, s, Qa, r0, x0, q, k⟩ := h
  refine ⟨Φ, E, xp, s, _, r0, x0, q, fun o1 E1 s1 v1 H1 l1 r1 k1 p1 q1 => ?_⟩
  refine ⟨Φ, E1, xp, s1, _, r1, x0, q1, fun o2 E2 s2 v2 H2 l2 r2 k2 p2 q2 => ?_⟩
  obtain ⟨d1, e1, q2⟩ := rs_get q2
  obtain ⟨d2, e2, q2⟩ := rs_get q2
  have p1' := p1.kb r1.lst k2 l2
  refine hd (ban Φ E2) H2 d1 d2 v1 v2 _ Q r2.nb (r2.res p1' e1) (r2.res p2 e2) q2 fun d v H3 m rp q3 => ?_
  exact k d E2 s2 v H3 (l2.trans l1) (r2.same m) ((k1.trans l1 k2).trans (Le.refl _) (KB.of_same m)) rp q3
theorem ae_op {op : Operator} {r : R2} {f : PyData → PyData → (PyData → Prop) → Prop} {a b : Expr} {aa ab : AO} {pos : Pos} (hd : DOp r f) (ho : OpR X (binaryOp op) r) (ha : PE X a (cO Ec aa)) (hb : PE X b (cO Ec ab)) : PE X (.BinOp a op b pos) (cE Ec (a2 f aa ab)) := (pe_op ho ha hb).sub fun _ _ _ => a2_ok hd
theorem ae_cmp {op : CmpOp} {r : R2} {f : PyData → PyData → (PyData → Prop) → Prop} {a b : Expr} {aa ab : AO} {pos : Pos} (hd : DOp r f) (ho : OpR X (compareOp op) r) (ha : PE X a (cO Ec aa)) (hb : PE X b (cO Ec ab)) (hm : behindInMarks op b = false) : PE X (.Compare a [op] [b] pos) (cE Ec (a2 f aa ab)) := (pe_cmpR ho ha hb hm).sub fun _ _ _ => a2_ok hd
/-! ### tests -/
def tV (a : AE) : AT := fun xp s Q => a xp s fun d s' => match d with
  | .bool b => Q b s'
  | _ => False
theorem cmp_test {op : CmpOp} {r : R2} {f : PyData → PyData → (PyData → Prop) → Prop} {a b : Expr} {aa ab : AO} {pos : Pos} (hd : DOp r f) (ho : OpR X (compareOp op) r) (ha : PE X a (cO Ec aa)) (hb : PE X b (cO Ec ab)) (hm : behindInMarks op b = false) : PT X (.Compare a [op] [b] pos) (cT Ec (tV (a2 f aa ab))) := by
  refine (pt_cmpR ho ha hb hm).sub fun σ H Q h => ?_
  obtain ⟨Φ, E, xp, s, Qa, r0, x0, q, k⟩ := h
  refine a2_ok hd (Q := fun x H' => ∃ k, x = .bl k ∧ Q k H') ⟨Φ, E, xp, s, _, r0, x0, q, fun d E' s' v H' l r' kb rp q' => ?_⟩
  cases d with
  | bool b =>
    obtain rfl : v = .bl b := rp
    exact ⟨b, rfl, k b E' s' H' l r' kb q'⟩
  | none => exact q'.elim
  | int _ => exact q'.elim
  | str _ => exact q'.elim
  | list _ => exact q'.elim
  | tuple _ => exact q'.elim
  | dict _ => exact q'.elim
def tAndA (a b : AT) : AT := fun xp s Q => a xp s fun c s1 => if c = true then b xp s1 Q else Q false s1
def tOrA (a b : AT) : AT := fun xp s Q => a xp s fun c s1 => if c = true then Q true s1 else b xp s1 Q
def tNotA (a : AT) : AT := fun xp s Q => a xp s fun c s1 => Q (!c) s1
theorem at_not {a : Expr} {ta : AT} {pos : Pos} (h : PT X a (cT Ec ta)) : PT X (.UnaryOp .Not a pos) (cT Ec (tNotA ta)) := (pt_not h).sub fun σ H Q ⟨Φ, E, xp, s, Qa, r0, x0, q, k⟩ => ⟨Φ, E, xp, s, _, r0, x0, q, fun b E' s' H' l r' kb q' => k (!b) E' s' H' l r' kb q'⟩
theorem aw_and1 {a : Expr} {ta : AT} {pos : Pos} (h : PT X a (cT Ec ta)) : PW X (.BoolOp .And [a] pos) (cT Ec ta) := pw_and1 h
theorem aw_or1 {a : Expr} {ta : AT} {pos : Pos} (h : PT X a (cT Ec ta)) : PW X (.BoolOp .Or [a] pos) (cT Ec ta) := pw_or1 h
theorem aw_and {a b : Expr} {rest : List Expr} {ta tb : AT} {pos : Pos} (h : PT X a (cT Ec ta)) (g : PW X (.BoolOp .And (b :: rest) pos) (cT Ec tb)) : PW X (.BoolOp .And (a :: b :: rest) pos) (cT Ec (tAndA ta tb)) := by
  refine (pw_and h g).sub fun σ H Q ⟨Φ, E, xp, s, Qa, r0, x0, q, k⟩ => ⟨Φ, E, xp, s, _, r0, x0, q, fun c E' s' H' l r' kb q' => ?_⟩
  cases c with
  | true => exact iteT ⟨Φ, E', xp, s', Qa, r', x0, unT q', fun b E2 s2 H2 l2 r2 k2 q2 => k b E2 s2 H2 (l2.trans l) r2 (kb.trans l k2) q2⟩
  | false => exact iteF (k false E' s' H' l r' kb (unF q'))
theorem aw_or {a b : Expr} {rest : List Expr} {ta tb : AT} {pos : Pos} (h : PT X a (cT Ec ta)) (g : PW X (.BoolOp .Or (b :: rest) pos) (cT Ec tb)) : PW X (.BoolOp .Or (a :: b :: rest) pos) (cT Ec (tOrA ta tb)) := by
  refine (pw_or h g).sub fun σ H Q ⟨Φ, E, xp, s, Qa, r0, x0, q, k⟩ => ⟨Φ, E, xp, s, _, r0, x0, q, fun c E' s' H' l r' kb q' => ?_⟩
  cases c with
  | true => exact iteT (k true E' s' H' l r' kb (unT q'))
  | false => exact iteF ⟨Φ, E', xp, s', Qa, r', x0, unF q', fun b E2 s2 H2 l2 r2 k2 q2 => k b E2 s2 H2 (l2.trans l) r2 (kb.trans l k2) q2⟩
/-! ### and, or, not, if as values -/
def aB (d : PyData) (k : Bool → Prop) : Prop := match d with
  | .bool b => k b
  | _ => False
theorem aB_get {H : Hp} {bn : List Addr} {d : PyData} {v : V} {k : Bool → Prop} (h : aB d k) (r : Rp H bn d v) : ∃ b, v = .bl b ∧ k b := by
  cases d with
  | bool b => exact ⟨b, r, h⟩
  | none => exact h.elim
  | int _ => exact h.elim
  | str _ => exact h.elim
  | list _ => exact h.elim
  | tuple _ => exact h.elim
  | dict _ => exact h.elim
def aAnd (a b : AE) : AE := fun xp s Q => a xp s fun d s1 => aB d fun c => if c = true then b xp s1 Q else Q (.bool false) s1
def aOr (a b : AE) : AE := fun xp s Q => a xp s fun d s1 => aB d fun c => if c = true then Q (.bool true) s1 else b xp s1 Q
def aNot (a : AE) : AE := fun xp s Q => a xp s fun d s1 => aB d fun c => Q (.bool (!c)) s1
theorem ae_one {op} {a : Expr} {ta : AE} {pos : Pos} (h : PE X a (cE Ec ta)) : PE X (.BoolOp op [a] pos) (cE Ec ta) := pe_one h
theorem ae_and {a b : Expr} {rest : List Expr} {ta tb : AE} {pos : Pos} (h : PE X a (cE Ec ta)) (g : PE X (.BoolOp .And (b :: rest) pos) (cE Ec tb)) : PE X (.BoolOp .And (a :: b :: rest) pos) (cE Ec (aAnd ta tb)) := by
  refine (pe_and h g).sub fun σ H Q ⟨Φ, E, xp, s, Qa, r0, x0, q, k⟩ => ⟨Φ, E, xp, s, _, r0, x0, q, fun d E' s' v H' l r' kb rp q' => ?_⟩
  obtain ⟨c, rfl, q'⟩ := aB_get q' rp
  refine ⟨c, rfl, ?_⟩
  cases c with
  | true => exact iteT ⟨Φ, E', xp, s', Qa, r', x0, unT q', fun b E2 s2 v2 H2 l2 r2 k2 p2 q2 => k b E2 s2 v2 H2 (l2.trans l) r2 (kb.trans l k2) p2 q2⟩
  | false => exact iteF (k (.bool false) E' s' _ H' l r' kb rfl (unF q'))
theorem ae_not {a : Expr} {ta : AE} {pos : Pos} (h : PE X a (cE Ec ta)) : PE X (.UnaryOp .Not a pos) (cE Ec (aNot ta)) := by
  refine (pe_not h).sub fun σ H Q ⟨Φ, E, xp, s, Qa, r0, x0, q, k⟩ => ⟨Φ, E, xp, s, _, r0, x0, q, fun d E' s' v H' l r' kb rp q' => ?_⟩
  obtain ⟨c, rfl, q'⟩ := aB_get q' rp
  exact ⟨c, rfl, k (.bool (!c)) E' s' _ H' l r' kb rfl q'⟩
def aIfE (t : AT) (a b : AE) : AE := fun xp s Q => t xp s fun c s1 => if c = true then a xp s1 Q else b xp s1 Q
theorem ae_if {c a b : Expr} {tc : AT} {ta tb : AE} {pos : Pos} (hc : PT X c (cT Ec tc)) (ha : PE X a (cE Ec ta)) (hb : PE X b (cE Ec tb)) : PE X (.IfExp c a b pos) (cE Ec (aIfE tc ta tb)) := by
  refine (pe_ifExp hc ha hb).sub fun σ H Q ⟨Φ, E, xp, s, Qa, r0, x0, q, k⟩ => ⟨Φ, E, xp, s, _, r0, x0, q, fun c E' s' H' l r' kb q' => ?_⟩
  cases c with
  | true => exact iteT ⟨Φ, E', xp, s', Qa, r', x0, unT q', fun b E2 s2 v2 H2 l2 r2 k2 p2 q2 => k b E2 s2 v2 H2 (l2.trans l) r2 (kb.trans l k2) p2 q2⟩
  | false => exact iteF ⟨Φ, E', xp, s', Qa, r', x0, unF q', fun b E2 s2 v2 H2 l2 r2 k2 p2 q2 => k b E2 s2 v2 H2 (l2.trans l) r2 (kb.trans l k2) p2 q2⟩
/-! ### lists of operands -/
def lNil : AA := fun _ s Q => Q [] s
def lCons (a : AO) (r : AA) : AA := fun xp s Q => a xp s fun o s1 => r xp s1 fun os s2 => Q (o :: os) s2
theorem la_nil : PA X [] (cA Ec lNil) := pa_nil.sub fun σ H Q ⟨Φ, E, xp, s, Qa, r0, x0, q, k⟩ => k [] E s [] H (.refl _) r0 (.refl _ _) .nil q
theorem la_cons {e : Expr} {es : List Expr} {a : AO} {r : AA} (ha : PE X e (cO Ec a)) (hr : PA X es (cA Ec r)) (hs : starEach (e :: es) X.env = (false, eval e X.env) :: starEach es X.env := by rfl) : PA X (e :: es) (cA Ec (lCons a r)) := by
  refine (pa_cons ha hr hs).sub fun σ H Q ⟨Φ, E, xp, s, Qa, r0, x0, q, k⟩ => ⟨Φ, E, xp, s, _, r0, x0, q, fun o E1 s1 v H1 l r1 kb rp q1 => ?_⟩
  exact ⟨Φ, E1, xp, s1, _, r1, x0, q1, fun os E2 s2 vs H2 l2 r2 k2 p2 q2 => k (o :: os) E2 s2 (v :: vs) H2 (l2.trans l) r2 (kb.trans l k2) (.cons (rp.kb r1.lst k2 l2) p2) q2⟩
/-- all are data, none a list that is still built -/
def vals : List Op → Option (List PyData)
  | [] => some []
  | .val d :: r => (vals r).map (d :: ·)
  | _ :: _ => none
def rv : List Op → (List PyData → Prop) → Prop
  | [], k => k []
  | .val d :: r, k => rv r fun ds => k (d :: ds)
  | _ :: _, _ => False
theorem rv_get : ∀ {os : List Op} {k : List PyData → Prop}, rv os k → ∃ ds, vals os = some ds ∧ k ds
  | [], k, h => ⟨[], rfl, h⟩
  | .val d :: r, k, h => by
    obtain ⟨ds, e, q⟩ := rv_get (os := r) (k := fun ds => k (d :: ds)) h
    exact ⟨d :: ds, by unfold vals; rw [e]; rfl, q⟩
  | .slot _ :: _, _, h => h.elim
  | .deck :: _, _, h => h.elim
theorem vals_rp {Φ : Fx} {E : OE} {σ : L2.St} {H : Hp} : ∀ {os : List Op} {vs : List V} {ds : List PyData}, Paired (RpO Φ E σ H) os vs → vals os = some ds → RpAll H (ban Φ E) ds vs
  | [], _, _, .nil, e => by cases e; rfl
  | .val d :: r, _, _, .cons h t, e => by
    unfold vals at e
    cases e2 : vals r with
    | none => rw [e2] at e; cases e
    | some ds =>
      rw [e2] at e; cases e
      exact ⟨_, _, rfl, h, vals_rp t e2⟩
  | .slot _ :: _, _, _, _, e => by cases e
  | .deck :: _, _, _, _, e => by cases e
def aTup (aa : AA) : AE := fun xp s Q => aa xp s fun os s1 => rv os fun ds => ds.length ≤ sizeLine ∧ Q (.tuple ds) s1
theorem ae_tup {es : List Expr} {aa : AA} {pos : Pos} {x1} (h : PA X es (cA Ec aa)) : PE X (.Tuple es x1 pos) (cE Ec (aTup aa)) := by
  refine (pe_tupN h).sub fun σ H Q ⟨Φ, E, xp, s, Qa, r0, x0, q, k⟩ => ⟨Φ, E, xp, s, _, r0, x0, q, fun os E1 s1 vs H1 l r1 kb rp q1 => ?_⟩
  obtain ⟨ds, e, hl, q1⟩ := rv_get q1
  have ra := vals_rp rp e
  refine ⟨by rw [ra.len]; exact hl, fun p H' hp m tf => ?_⟩
  exact k (.tuple ds) E1 s1 _ H' l (r1.same m) (kb.trans (Le.refl _) (KB.of_same m) : KB E H H') ⟨p, vs, rfl, tf, ra.same m⟩ q1
def aLst (aa : AA) : AE := fun xp s Q => aa xp s fun os s1 => rv os fun ds => ds.length ≤ sizeLine ∧ Q (.list ds) s1
theorem af_lst (i : Nat) {es : List Expr} {aa : AA} {pos : Pos} (h : PA X es (cA Ec aa)) : PE X (.List es pos) (cF i Ec (aLst aa)) := by
  refine (pe_lstN h).sub fun σ H Q ⟨Φ, E, xp, s, Qa, r0, x0, q, k⟩ => ⟨Φ, E, xp, s, _, r0, x0, q, fun os E1 s1 vs H1 l r1 kb rp q1 => ?_⟩
  obtain ⟨ds, e, hl, q1⟩ := rv_get q1
  have ra := vals_rp rp e
  refine ⟨by rw [ra.len]; exact hl, fun p H' hp hs m ep => ?_⟩
  refine k ds E1 s1 p vs H' l (r1.same m) (r1.add i hp m ep) (fun b o h1 h2 => m _ _ (kb b o h1 h2)) ep (RpAll.same (RpAll.fresh (fun a ha => ?_) ra) m) (r1.newban hp) q1
  rcases mem_ban_add ha with h | h
  · rw [h]; exact .inr hp
  · exact .inl h
theorem ae_F {e : Expr} {i : Nat} {a : AE} (h : PE X e (cF i Ec a)) : PE X e (cE Ec a) := h.sub fun σ H Q ⟨Φ, E, xp, s, Qa, r0, x0, q, k⟩ => ⟨Φ, E, xp, s, _, r0, x0, q, fun ds E1 s1 p xs H1 l r1 _ kb ep ra nb q1 => k (.list ds) E1 s1 _ H1 l r1 kb ⟨p, xs, rfl, ep, nb, ra.wk fun _ h => ban_add h⟩ q1⟩
end
end TR
namespace TR
open PySem PySem.Spec PyProof.Rows L2
def AS.set (s : AS) (i : Nat) (x : AV) : AS := { s with sl := s.sl.set i (some x) }
section
variable {Φ : Fx} {E : OE} {s : AS} {σ : L2.St} {H : Hp}
theorem Rel.setX (r : Rel Φ E s σ H) (i : Nat) {x : AV} {v : V} (h : RelS Φ E H i x v) : Rel Φ E (s.set i x) (σ.set i (some v)) H := by
  refine ⟨by show (s.sl.set i (some x)).length = _; rw [List.length_set, List.length_set]; exact r.len, fun j y hy => ?_, r.dk, r.own, r.inj, r.fr, r.dk0, r.alive, r.held, r.zz, r.znd, r.tt⟩
  by_cases e : i = j
  · subst e
    have hl : i < s.sl.length := by
      have := (List.getElem?_eq_some_iff.mp hy).1
      rw [show (s.set i x).sl = s.sl.set i (some x) from rfl, List.length_set] at this
      exact this
    have hy2 : (s.sl.set i (some x))[i]? = some (some y) := hy
    rw [List.getElem?_set_self hl] at hy2
    cases hy2
    exact ⟨v, List.getElem?_set_self (by rw [← r.len]; exact hl), h⟩
  · have hy2 : (s.sl.set i (some x))[j]? = some (some y) := hy
    rw [List.getElem?_set_ne e] at hy2
    obtain ⟨w, h1, h2⟩ := r.val j y hy2
    exact ⟨w, by rw [List.getElem?_set_ne e]; exact h1, h2⟩
theorem Rel.ret (r : Rel Φ E s σ H) {d : PyData} {v : V} (h : Rp H (ban Φ E) d v) : RetOk Φ d s.n v H := by
  refine ⟨r.fr, fun d p q e => (r.dk d p q (r.dk0 _ e)).1, Rp.wk (fun a ha => ?_) h⟩
  rcases List.mem_append.mp ha with z | z
  · cases e : Φ.dk0 with
    | none => rw [e] at z; cases z
    | some t =>
      refine List.mem_append_left _ (List.mem_append_left _ ?_)
      rw [r.dk0 t e, ← e]; exact z
  · exact List.mem_append_right _ (List.mem_append_right _ z)
theorem Rel.retOwn (r : Rel Φ E s σ H) {i : Nat} {ds : List PyData} {v : V} (h : RelS Φ E H i (.own ds) v) : RetOk Φ (.list ds) s.n v H := by
  obtain ⟨a, xs, rfl, m, h1, h2⟩ := h
  refine ⟨r.fr, fun d p q e => (r.dk d p q (r.dk0 _ e)).1, a, xs, rfl, h1, fun ha => ?_, RpAll.wk (fun b hb => ?_) h2⟩
  · obtain ⟨_, g1, g2, g3⟩ := r.own i a m
    rcases List.mem_append.mp ha with z | z
    · cases e : Φ.dk0 with
      | none => rw [e] at z; cases z
      | some t => rw [e, ← r.dk0 t e] at z; exact g2 z
    · exact g1 z
  · rcases List.mem_append.mp hb with z | z
    · cases e : Φ.dk0 with
      | none => rw [e] at z; cases z
      | some t =>
        refine List.mem_append_left _ (List.mem_append_left _ ?_)
        rw [r.dk0 t e, ← e]; exact z
    · exact List.mem_append_right _ (List.mem_append_right _ z)
end
section
variable {X : Cx} {Ec : EC}
/-! ### blocks -/
def sNx : AST := fun _ D s => D.nx s
def sSeq (a b : AST) : AST := fun xp D s => a xp { D with nx := b xp D } s
theorem as_nil : PSs X [] (cS Ec sNx) := pss_nil.sub fun D σ H ⟨Φ, E, xp, s, Da, r, x, q, m⟩ => m.nx E s σ H r q
theorem as_cons {st : Stmt} {rest : List Stmt} {a b : AST} (h : PS X st (cS Ec a)) (g : PSs X rest (cS Ec b)) : PSs X (st :: rest) (cS Ec (sSeq a b)) := (pss_cons h g).sub fun D σ H ⟨Φ, E, xp, s, Da, r, x, q, m⟩ => ⟨Φ, E, xp, s, _, r, x, q, fun E' s' σ' H' r' q' => ⟨Φ, E', xp, s', Da, r', x, q', m⟩, m.bk, m.ct, m.rt⟩
theorem as_one {st : Stmt} {a : AST} (h : PS X st (cS Ec a)) : PSs X [st] (cS Ec a) := pss_one h
def sBreak : AST := fun _ D s => D.bk s
def sCont : AST := fun _ D s => D.ct s
/-! ### one statement -/
def sDrop (a : AE) : AST := fun xp D s => a xp s fun _ s1 => D.nx s1
theorem as_expr {e : Expr} {a : AE} {pos : Pos} (h : PE X e (cE Ec a)) (hs : swapsWith e none pos.line X.env = pure false := by rfl) : PS X (.Expr e pos) (cS Ec (sDrop a)) := (ps_expr h hs).sub fun D σ H ⟨Φ, E, xp, s, Da, r, x, q, m⟩ => ⟨Φ, E, xp, s, _, r, x, q, fun d E' s' v H' _ r' _ _ q' => m.nx E' s' σ H' r' q'⟩
def sRet (a : AE) : AST := fun xp D s => a xp s fun d s1 => D.rt d s1.n
theorem as_ret {e : Expr} {a : AE} {pos : Pos} (h : PE X e (cE Ec a)) : PS X (.Return (some e) pos) (cS Ec (sRet a)) := (ps_ret h).sub fun D σ H ⟨Φ, E, xp, s, Da, r, x, q, m⟩ => ⟨Φ, E, xp, s, _, r, x, q, fun d E' s' v H' _ r' _ p q' => m.rt d s'.n v H' (r'.ret p) q'⟩
def sRetN : AST := fun _ D s => D.rt .none s.n
/-- return of a name: also of a list that was built here -/
def sRetV (i : Nat) : AST := fun _ D s => match s.sl[i]? with
  | some (some (.dat d)) => D.rt d s.n
  | some (some (.own ds)) => D.rt (.list ds) s.n
  | _ => False
theorem as_retV (i : Nat) {e : Expr} {pos : Pos} (h : PE X e (tVar i)) : PS X (.Return (some e) pos) (cS Ec (sRetV i)) := (ps_ret h).sub fun D σ H ⟨Φ, E, xp, s, Da, r, x, q, m⟩ => by
  unfold sRetV at q
  split at q
  · next d hd =>
    obtain ⟨v, h1, h2⟩ := r.val i _ hd
    exact ⟨v, h1, m.rt d s.n v H (r.ret h2) q⟩
  · next ds hd =>
    obtain ⟨v, h1, h2⟩ := r.val i _ hd
    exact ⟨v, h1, m.rt (.list ds) s.n v H (r.retOwn h2) q⟩
  · exact q.elim
def sIf (t : AT) (a b : AST) : AST := fun xp D s => t xp s fun c s1 => if c = true then a xp D s1 else b xp D s1
theorem as_if {c : Expr} {p q : List Stmt} {t : AT} {a b : AST} {pos : Pos} (hc : PT X c (cT Ec t)) (ha : PSs X p (cS Ec a)) (hb : PSs X q (cS Ec b)) : PS X (.If c p q pos) (cS Ec (sIf t a b)) := by
  refine (ps_if hc ha hb).sub fun D σ H ⟨Φ, E, xp, s, Da, r, x, q, m⟩ => ⟨Φ, E, xp, s, _, r, x, q, fun c E' s' H' _ r' _ q' => ?_⟩
  cases c with
  | true => exact iteT ⟨Φ, E', xp, s', Da, r', x, unT q', m⟩
  | false => exact iteF ⟨Φ, E', xp, s', Da, r', x, unF q', m⟩
/-! ### x = e -/
def sSet (i : Nat) (a : AE) : AST := fun xp D s => a xp s fun d s1 => D.nx (s1.set i (.dat d))
theorem as_asgT {i : Nat} {st : Stmt} {te : TE} {a : AE} (h : PS X st (tAsg te (gName i))) (g : ∀ σ H Q, cE Ec a σ H Q → te σ H Q) : PS X st (cS Ec (sSet i a)) := h.sub fun D σ H ⟨Φ, E, xp, s, Da, r, x, q, m⟩ => g _ _ _ ⟨Φ, E, xp, s, _, r, x, q, fun d E' s' v H' _ r' _ p q' => m.nx E' _ _ H' (r'.setX i (x := .dat d) p) q'⟩
/-- a new list, which will be changed -/
def sSetO (i : Nat) (a : AE) : AST := fun xp D s => a xp s fun d s1 => match d with
  | .list ds => D.nx (s1.set i (.own ds))
  | _ => False
theorem as_asgO {i : Nat} {st : Stmt} {te : TE} {a : AE} (h : PS X st (tAsg te (gName i))) (g : ∀ σ H Q, cF i Ec a σ H Q → te σ H Q) : PS X st (cS Ec (sSetO i a)) := h.sub fun D σ H ⟨Φ, E, xp, s, Da, r, x, q, m⟩ => g _ _ _ ⟨Φ, E, xp, s, _, r, x, q, fun ds E' s' l xs H' _ _ r' _ el ra _ q' => m.nx (E'.add i l) _ _ H' (r'.setX i (x := .own ds) ⟨l, xs, rfl, List.mem_cons_self, el, ra⟩) q'⟩
theorem as_set {i : Nat} {y : Str} {e : Expr} {a : AE} {pos pos' : Pos} (hN : X.N.Nodup) (hi : X.N[i]? = some y) (hx : Loc X.env.scope y) (he : PE X e (cE Ec a)) (hs : swapsWith e (some (.Name y pos')) pos.line X.env = pure false := by rfl) (hf : X.fn y = true ∨ X.env.scope.names.lookup y = some .local := by first | exact .inl rfl | exact .inr rfl | assumption) : PS X (.Assign [.Name y pos'] e pos) (cS Ec (sSet i a)) := as_asgT (ps_set hN hi hx he hs hf) fun _ _ _ h => h
theorem as_setO {i : Nat} {y : Str} {e : Expr} {a : AE} {pos pos' : Pos} (hN : X.N.Nodup) (hi : X.N[i]? = some y) (hx : Loc X.env.scope y) (he : PE X e (cF i Ec a)) (hs : swapsWith e (some (.Name y pos')) pos.line X.env = pure false := by rfl) (hf : X.fn y = true ∨ X.env.scope.names.lookup y = some .local := by first | exact .inl rfl | exact .inr rfl | assumption) : PS X (.Assign [.Name y pos'] e pos) (cS Ec (sSetO i a)) := as_asgO (ps_set hN hi hx he hs hf) fun _ _ _ h => h
/-! ### targets -/
abbrev AB := PyData → AS → (AS → Prop) → Prop
abbrev ABs := List PyData → AS → (AS → Prop) → Prop
def Off (sl : List Nat) (σ σ' : L2.St) : Prop := σ'.length = σ.length ∧ ∀ j, j ∉ sl → σ'[j]? = σ[j]?
theorem Off.trans {a b : List Nat} {σ σ1 σ2 : L2.St} (h : Off a σ σ1) (g : Off b σ1 σ2) : Off (a ++ b) σ σ2 := ⟨g.1.trans h.1, fun j hj => (g.2 j fun m => hj (List.mem_append_right _ m)).trans (h.2 j fun m => hj (List.mem_append_left _ m))⟩
/-- a pair that a walk makes is taken apart at once -/
def RpW (w : Bool) (H : Hp) (bn : List Addr) (d : PyData) (v : V) : Prop := match w with
  | false => Rp H bn d v
  | true => ∃ T xs ds, d = .tuple ds ∧ v = .ref T ∧ H T = some (.tup xs) ∧ RpAll H bn ds xs
def cG (w : Bool) (sl : List Nat) (b : AB) : TG := fun v σ H Q => ∃ Φ E s d Qa, Rel Φ E s σ H ∧ RpW w H (ban Φ E) d v ∧ b d s Qa ∧ ∀ s' σ', Rel Φ E s' σ' H → Off sl σ σ' → Qa s' → Q σ' H
def cGs (sl : List Nat) (b : ABs) : TGs := fun vs σ H Q => ∃ Φ E s ds Qa, Rel Φ E s σ H ∧ RpAll H (ban Φ E) ds vs ∧ b ds s Qa ∧ ∀ s' σ', Rel Φ E s' σ' H → Off sl σ σ' → Qa s' → Q σ' H
theorem _root_.L2.PG.sub {e : Expr} {t t' : TG} (h : PG X e t) (g : ∀ v σ H Q, t' v σ H Q → t v σ H Q) : PG X e t' := ⟨fun pins s σ H v u Q I r q => h.run pins s σ H v u Q I r (g _ _ _ _ q)⟩
theorem _root_.L2.PGs.sub {e : List Expr} {t t' : TGs} (h : PGs X e t) (g : ∀ v σ H Q, t' v σ H Q → t v σ H Q) : PGs X e t' := ⟨fun pins s σ H v u Q I r q => h.run pins s σ H v u Q I r (g _ _ _ _ q)⟩
def bNm (i : Nat) : AB := fun d s Q => Q (s.set i (.dat d))
theorem off_set {i : Nat} {σ : L2.St} {v : V} : Off [i] σ (σ.set i (some v)) := ⟨List.length_set, fun j hj => List.getElem?_set_ne fun e => hj (by rw [e]; simp)⟩
theorem ag_name {i : Nat} {e : Expr} (h : PG X e (gName i)) : PG X e (cG false [i] (bNm i)) := h.sub fun v σ H Q ⟨Φ, E, s, d, Qa, r, p, q, k⟩ => k _ _ (r.setX i (x := .dat d) p) off_set q
def bNil : ABs := fun ds s Q => ds = [] ∧ Q s
def bCons (b : AB) (c : ABs) : ABs := fun ds s Q => match ds with
  | d :: r => b d s fun s1 => c r s1 Q
  | [] => False
theorem ags_nil : PGs X [] (cGs [] bNil) := pgs_nil.sub fun v σ H Q ⟨Φ, E, s, ds, Qa, r, p, q, k⟩ => by
  obtain ⟨rfl, q⟩ := q
  exact ⟨p, k s σ r ⟨rfl, fun _ _ => rfl⟩ q⟩
theorem ags_cons {e : Expr} {es : List Expr} {a b : List Nat} {f : AB} {g : ABs} (h1 : PG X e (cG false a f)) (h2 : PGs X es (cGs b g)) (hs : (assignEach (e :: es) X.env).map (·.2) = assign e X.env :: (assignEach es X.env).map (·.2) := by rfl) : PGs X (e :: es) (cGs (a ++ b) (bCons f g)) := by
  refine (pgs_cons h1 h2 hs).sub fun v σ H Q ⟨Φ, E, s, ds, Qa, r, p, q, k⟩ => ?_
  cases ds with
  | nil => exact q.elim
  | cons d t =>
    obtain ⟨w, u, rfl, p1, p2⟩ := p
    exact ⟨w, u, rfl, Φ, E, s, d, _, r, p1, q, fun s1 σ1 r1 o1 q1 => ⟨Φ, E, s1, t, Qa, r1, p2, q1, fun s2 σ2 r2 o2 q2 => k s2 σ2 r2 (o1.trans o2) q2⟩⟩
def bTup (n : Nat) (b : ABs) : AB := fun d s Q => match d with
  | .tuple ds => ds.length = n ∧ b ds s Q
  | _ => False
theorem ag_tup {w : Bool} {es : List Expr} {k n : Nat} {a : List Nat} {b : ABs} {pos : Pos} (hc : X.calm = true) (h : PGs X es (cGs a b)) (hn : (assignEach es X.env).length = n := by rfl) (hst : (assignEach es X.env).findIdx? (·.1) = none := by rfl) : PG X (.Tuple es k pos) (cG w a (bTup n b)) := by
  refine (pg_tup hc h hn hst).sub fun v σ H Q ⟨Φ, E, s, d, Qa, r, p, q, k⟩ => ?_
  cases d with
  | tuple ds =>
    obtain ⟨hl, q⟩ := q
    cases w with
    | false =>
      obtain ⟨x, xs, rfl, tf, ra⟩ := p
      exact ⟨x, xs, rfl, .inl tf.rd, by rw [ra.len]; exact hl, Φ, E, s, ds, Qa, r, ra, q, k⟩
    | true =>
      obtain ⟨x, xs, ds', e, rfl, tf, ra⟩ := p
      cases e
      exact ⟨x, xs, rfl, SqT.of tf, by rw [ra.len]; exact hl, Φ, E, s, ds, Qa, r, ra, q, k⟩
  | none => exact q.elim
  | bool _ => exact q.elim
  | int _ => exact q.elim
  | str _ => exact q.elim
  | list _ => exact q.elim
  | dict _ => exact q.elim
def sAsg (a : AE) (b : AB) : AST := fun xp D s => a xp s fun d s1 => b d s1 D.nx
theorem as_asg {tg e : Expr} {a : AE} {sl : List Nat} {b : AB} {pos : Pos} (he : PE X e (cE Ec a)) (hg : PG X tg (cG false sl b)) (hs : swapsWithSole [tg] e pos.line X.env = pure false := by rfl) (hw : swappedStores [tg] e X.env = pure none := by rfl) (h1 : (assignEach [tg] X.env).map (·.2) = [assign tg X.env] := by rfl) : PS X (.Assign [tg] e pos) (cS Ec (sAsg a b)) := (ps_asg he hg hs hw h1).sub fun D σ H ⟨Φ, E, xp, s, Da, r, x, q, m⟩ => ⟨Φ, E, xp, s, _, r, x, q, fun d E' s' v H' _ r' _ p q' => ⟨Φ, E', s', d, Da.nx, r', p, q', fun s2 σ2 r2 _ q2 => m.nx E' s2 σ2 H' r2 q2⟩⟩
/-- a, b = e, f -/
def sPar (i j : Nat) (aa : AA) : AST := fun xp D s => aa xp s fun os s1 => rv os fun ds => match ds with
  | [d, e] => D.nx ((s1.set i (.dat d)).set j (.dat e))
  | _ => False
theorem as_par {i j : Nat} {st : Stmt} {aa : AA} (h : PS X st (tPar i j (cA Ec aa))) : PS X st (cS Ec (sPar i j aa)) := by
  refine h.sub fun D σ H ⟨Φ, E, xp, s, Da, r, x, q, m⟩ => ⟨Φ, E, xp, s, _, r, x, q, fun os E' s' vs H' _ r' _ p q' => ?_⟩
  obtain ⟨ds, e, q'⟩ := rv_get q'
  have ra := vals_rp p e
  match ds, q', ra with
  | [d, e], q', ra =>
    obtain ⟨v, t, rfl, p1, w, u, rfl, p2, rfl⟩ := ra
    exact ⟨v, w, rfl, m.nx E' _ _ H' ((r'.setX i (x := .dat d) p1).setX j (x := .dat e) p2) q'⟩
/-- x op= e -/
def sAug (f : PyData → PyData → (PyData → Prop) → Prop) (i : Nat) (ab : AO) : AST := fun xp D s => match s.sl[i]? with
  | some (some (.dat d1)) => ab xp s fun o s1 => rs s1 o fun d2 => f d1 d2 fun d => D.nx (s1.set i (.dat d))
  | _ => False
/-! ### while -/
def whN (t : AT) (b : AST) (xp : XP) (D : AEnds) : Nat → AS → Prop
  | 0, _ => False
  | k + 1, s => t xp s fun c s1 => if c = true then b xp { D with nx := whN t b xp D k, ct := whN t b xp D k, bk := D.nx } s1 else D.nx s1
def sWhile (t : AT) (b : AST) : AST := fun xp D s => ∃ k, whN t b xp D k s
theorem as_while {c : Expr} {body : List Stmt} {t : AT} {b : AST} {pos : Pos} (hp : PassesOwn (model X.prog X.w) X.A X.env X.xe) (hc : PT X c (cT Ec t)) (hb : PSs X body (cS Ec b)) : PS X (.While c body [] pos) (cS Ec (sWhile t b)) := by
  refine (ps_while hp hc hb).sub fun D σ H ⟨Φ, E, xp, s, Da, r, x, ⟨k0, q⟩, m⟩ => ?_
  refine ⟨fun k σ H => ∃ E s, Rel Φ E s σ H ∧ whN t b xp Da k s, ⟨k0, E, s, r, q⟩, fun k σ H ⟨E, s, r, q⟩ => ?_⟩
  cases k with
  | zero => exact q.elim
  | succ k =>
    refine ⟨Φ, E, xp, s, _, r, x, q, fun c E' s' H' _ r' _ q' => ?_⟩
    cases c with
    | true =>
      refine iteT ⟨fun σ H => ∃ E s, Rel Φ E s σ H ∧ whN t b xp Da k s, fun σ' H' h => ⟨k, Nat.lt_succ_self _, h⟩, Φ, E', xp, s', _, r', x, unT q', ?_⟩
      exact ⟨fun E s σ H r q => ⟨E, s, r, q⟩, m.nx, fun E s σ H r q => ⟨E, s, r, q⟩, m.rt⟩
    | false => exact iteF (m.nx E' s' σ H' r' (unF q'))
/-! ### what is walked -/
inductive AIt where
  | fix (L : List PyData)
  | slt (i : Nat) (d : PyData)
def items : PyData → List PyData
  | .list L => L
  | .tuple L => L
  | _ => []
def AIt.its : AIt → List PyData
  | .fix L => L
  | .slt _ d => items d
def AIt.chk (s : AS) : AIt → Prop
  | .fix _ => True
  | .slt i d => res s (.slot i) = some d
abbrev AI := XP → AS → (AIt → AS → Prop) → Prop
def chkσ (σ σ1 : L2.St) (s : AS) : AIt → Prop
  | .fix _ => True
  | .slt i d => σ1[i]? = σ[i]? ∧ res s (.slot i) = some d
def JOk (w : Bool) (σ : L2.St) (J : It) (it : AIt) (hold : List Hd) : Prop := ∀ Φ E s σ1 H, Rel Φ E s σ1 H → (∀ x ∈ hold, Hl H (ban Φ E) x) → chkσ σ σ1 s it → ∀ i,
  (∀ d, it.its[i]? = some d → J.go i H ∧ ∀ x H2, J.yld i H x H2 → Same H H2 ∧ RpW w H2 (ban Φ E) d x) ∧ (it.its.length = i → J.stop i H)
def cI (w : Bool) (Ec : EC) (a : AI) : TI := fun σ H R => ∃ Φ E xp s Qa, Rel Φ E s σ H ∧ XSim Φ xp Ec ∧ a xp s Qa ∧ ∀ it E' s' J H' hold, Le E' E → Rel Φ E' s' σ H' → KB E H H' → JOk w σ J it hold → (∀ x ∈ hold, Hl H' (ban Φ E') x) → Qa it s' → R J H'
theorem Rel.hold {Φ : Fx} {E : OE} {s : AS} {σ : L2.St} {H : Hp} (r : Rel Φ E s σ H) {h : List Hd} (hh : ∀ x ∈ h, Hl H (ban Φ E) x) : Rel { Φ with T := h ++ Φ.T } E s σ H :=
  ⟨r.len, fun i x e => by
    obtain ⟨v, h1, h2⟩ := r.val i x e
    refine ⟨v, h1, ?_⟩
    cases x <;> exact h2, r.dk, r.own, r.inj, r.fr, r.dk0, r.alive, fun x hx => by
    rcases List.mem_append.mp hx with z | z
    · exact hh x z
    · exact r.held x z, r.zz, r.znd, r.tt⟩
theorem Rel.unhold {Φ : Fx} {E : OE} {s : AS} {σ : L2.St} {H : Hp} {h : List Hd} (r : Rel { Φ with T := h ++ Φ.T } E s σ H) : Rel Φ E s σ H ∧ ∀ x ∈ h, Hl H (ban Φ E) x :=
  ⟨⟨r.len, fun i x e => by
    obtain ⟨v, h1, h2⟩ := r.val i x e
    refine ⟨v, h1, ?_⟩
    cases x <;> exact h2, r.dk, r.own, r.inj, r.fr, r.dk0, r.alive, fun x hx => r.held x (List.mem_append_right _ hx), r.zz, r.znd, r.tt⟩, fun x hx => r.held x (List.mem_append_left _ hx)⟩
/-! ### for -/
def forL (b : AB) (body : AST) (xp : XP) (D : AEnds) : List PyData → AS → Prop
  | [], s => D.nx s
  | x :: xs, s => b x s fun s1 => body xp { D with nx := forL b body xp D xs, ct := forL b body xp D xs, bk := D.nx } s1
def sFor (ai : AI) (b : AB) (body : AST) : AST := fun xp D s => ai xp s fun it s1 => match it with
  | .fix L => forL b body xp D L s1
  | .slt _ _ => False
theorem as_for {w : Bool} {tg iter : Expr} {body : List Stmt} {ai : AI} {sl : List Nat} {b : AB} {bd : AST} {pos : Pos} (hp : PassesOwn (model X.prog X.w) X.A X.env X.xe) (hc : X.calm = true) (hi : PI X tg iter (cI w Ec ai)) (hg : PG X tg (cG w sl b)) (hb : PSs X body (cS Ec bd))
    (hs : ∀ x, foldedSetIterable iter X.env x = pure x := by intro _; rfl) : PS X (.For tg iter body [] pos) (cS Ec (sFor ai b bd)) := by
  refine (ps_for hp hc hi hg hb hs).sub fun D σ H ⟨Φ, E, xp, s, Da, r, xs0, q, m⟩ => ⟨Φ, E, xp, s, _, r, xs0, q, fun it E1 s1 J H1 hold l1 r1 k1 jo hh q1 => ?_⟩
  cases it with
  | slt i L => exact q1.elim
  | fix L =>
    refine ⟨fun i mm σ H => mm = L.length - i ∧ i ≤ L.length ∧ ∃ E s, Rel { Φ with T := hold ++ Φ.T } E s σ H ∧ forL b bd xp Da (L.drop i) s, ⟨L.length, by simp, Nat.zero_le _, E1, s1, r1.hold hh, by rw [List.drop_zero]; exact q1⟩, ?_⟩
    rintro i mm σ2 H2 ⟨rfl, hi, E2, s2, r2, q2⟩
    obtain ⟨r2', hh2⟩ := r2.unhold
    obtain ⟨jgo, jst⟩ := jo Φ E2 s2 σ2 H2 r2' hh2 trivial i
    by_cases hlt : i < L.length
    · obtain ⟨go, yl⟩ := jgo L[i] (List.getElem?_eq_getElem hlt)
      rw [List.drop_eq_getElem_cons hlt] at q2
      refine .inr ⟨go, fun σ H => ∃ E s, Rel { Φ with T := hold ++ Φ.T } E s σ H ∧ forL b bd xp Da (L.drop (i + 1)) s, fun σ' H' h => ⟨L.length - (i + 1), by omega, rfl, hlt, h⟩, fun x H3 y => ?_⟩
      obtain ⟨sm, rp⟩ := yl x H3 y
      refine ⟨{ Φ with T := hold ++ Φ.T }, E2, s2, L[i], _, r2.same sm, rp, q2, fun s3 σ3 r3 _ q3 => ⟨{ Φ with T := hold ++ Φ.T }, E2, xp, s3, _, r3, ⟨xs0.1, fun y E s σ H da r xr hx => xs0.2 y E s σ H da r.unhold.1 xr hx⟩, q3, fun E s σ H r q => ⟨E, s, r, q⟩, fun E s σ H r q => m.nx E s σ H r.unhold.1 q, fun E s σ H r q => ⟨E, s, r, q⟩, fun r n v H ro q => m.rt r n v H ⟨ro.fr, ro.dk, ro.rp⟩ q⟩⟩
    · have e : i = L.length := by omega
      subst e
      rw [List.drop_length] at q2
      exact .inl ⟨jst rfl, m.nx E2 s2 σ2 H2 r2' q2⟩
end
end TR
namespace TR
open PySem PySem.Spec PyProof.Rows L2
def x0 : XP := fun _ _ => False
abbrev e00 : EC := ⟨fun _ _ _ _ => False, none, [], []⟩
theorem xsim0 {Φ : Fx} {Ec : EC} {xp : XP} (x : XSim Φ xp Ec) : XSim Φ x0 Ec.z := ⟨x.1, fun _ _ _ _ _ _ _ _ h => h⟩
abbrev Fx.z (Φ : Fx) (D : Addr) (xs : List V) : Fx := { Φ with Z := (D, .lst xs) :: Φ.Z }
section
variable {Φ : Fx} {E : OE} {s : AS} {σ : L2.St} {H : Hp} {D : Addr} {xs : List V}
theorem ban_z {a : Addr} (h : a ∈ ban (Φ.z D xs) E) : a = D ∨ a ∈ ban Φ E := by
  unfold ban at h ⊢
  simp only [List.map_cons, List.mem_append, List.mem_cons] at h ⊢
  rcases h with h | (h | h) | h
  · exact .inr (.inl h)
  · exact .inl h
  · exact .inr (.inr (.inl h))
  · exact .inr (.inr (.inr h))
theorem z_ban {a : Addr} (h : a ∈ ban Φ E) : a ∈ ban (Φ.z D xs) E := by
  unfold ban at h ⊢
  simp only [List.map_cons, List.mem_append, List.mem_cons] at h ⊢
  rcases h with h | h | h
  · exact .inl h
  · exact .inr (.inl (.inr h))
  · exact .inr (.inr h)
theorem z_mem : D ∈ ban (Φ.z D xs) E := by
  unfold ban
  simp
theorem RelS.map {Φ' : Fx} {E' : OE} {H' : Hp} {i : Nat} (hE : ∀ x ∈ E.R, x ∈ E'.R) (hd : E'.dk = E.dk) (hB : ∀ b ∈ Φ.B, b ∈ Φ'.B) (h1 : ∀ d v, Rp H (ban Φ E) d v → Rp H' (ban Φ' E') d v) (h2 : ∀ ds vs, RpAll H (ban Φ E) ds vs → RpAll H' (ban Φ' E') ds vs)
    (h3 : ∀ a o, (∃ j, (j, a) ∈ E.R) ∨ a ∈ Φ.B → H a = some o → H' a = some o) (hX : Φ'.ex = Φ.ex) (hCs : Φ'.cs = Φ.cs) (hH0 : Φ'.H0 = Φ.H0) (h5 : ∀ a o, a ∉ ban Φ E → H a = some o → a ∉ ban Φ' E' ∧ H' a = some o) (h4 : ∀ x da, XRep H (ban Φ E) x da → XRep H' (ban Φ' E') x da) : ∀ {x : AV} {v : V}, RelS Φ E H i x v → RelS Φ' E' H' i x v
  | .dat _, _, h => h1 _ _ h
  | .own _, _, h => by
    obtain ⟨a, ys, e, m, g1, g2⟩ := h
    exact ⟨a, ys, e, hE _ m, h3 a _ (.inl ⟨_, m⟩) g1, h2 _ _ g2⟩
  | .dct _, _, h => by
    obtain ⟨a, ks, e, m, g1, g2⟩ := h
    exact ⟨a, ks, e, hE _ m, h3 a _ (.inl ⟨_, m⟩) g1, g2.mono h1⟩
  | .dcn _, _, h => by
    obtain ⟨a, ks, e, m, g1, g2⟩ := h
    exact ⟨a, ks, e, hE _ m, h3 a _ (.inl ⟨_, m⟩) g1, g2.mono h1⟩
  | .dcl _, _, h => by
    obtain ⟨a, ks, e, m, g1, hn, g2⟩ := h
    exact ⟨a, ks, e, hE _ m, h3 a _ (.inl ⟨_, m⟩) g1, hn, g2.mono h1 fun b xs m h => ⟨hE _ m, h3 b _ (.inl ⟨_, m⟩) h⟩⟩
  | .lck t _, _, h => by
    obtain ⟨a, e, g1, g2, g3⟩ := h
    have x : ∃ o, H a = some o := by cases t <;> (obtain ⟨_, _, q, _⟩ := g3; exact ⟨_, q⟩)
    exact ⟨a, e, (h5 a _ g1 x.choose_spec).1, hH0 ▸ g2, g3.mono h1 fun o u h => (h5 a _ g1 h).2⟩
  | .bor _, _, h => by
    rcases h with h | ⟨a, ds, ys, e, e2, g1, g3, g4⟩
    · exact .inl (h1 _ _ h)
    · exact .inr ⟨a, ds, ys, e, e2, h3 a _ (.inr g3) g1, hB _ g3, h2 _ _ g4⟩
  | .deck, _, h => by
    obtain ⟨d, p, q, e, z⟩ := h
    exact ⟨d, p, q, hd.trans e, z⟩
  | .exc _, _, h => by
    obtain ⟨a, da, e, z, g1, g2⟩ := h
    exact ⟨a, da, hX ▸ e, z, h4 _ _ g1, hCs ▸ g2⟩
/-- a new list is held -/
theorem Rel.addZ {H' : Hp} (r : Rel Φ E s σ H) (hD : H D = none) (m : Same H H') (e : H' D = some (.lst xs)) : Rel (Φ.z D xs) E s σ H' := by
  have fx : ∀ a ∈ ban (Φ.z D xs) E, a ∈ ban Φ E ∨ H a = none := fun a ha => by
    rcases ban_z ha with h | h
    · rw [h]; exact .inr hD
    · exact .inl h
  have nb := r.newban hD
  refine ⟨r.len, fun i x h => ?_, fun d p q h => ?_, fun i a h => ?_, r.inj, fun b o h1 h2 => m _ _ (r.fr b o h1 h2), r.dk0, r.alive, fun x hx => (Hl.fresh fx (r.held x hx)).same m, fun x hx => ?_, ?_, r.tt⟩
  · obtain ⟨v, h1, h2⟩ := r.val i x h
    exact ⟨v, h1, RelS.map (Φ := Φ) (Φ' := Φ.z D xs) (E' := E) (H' := H') (fun _ h => h) rfl (fun _ h => h) (fun d v h => (Rp.fresh fx h).same m) (fun d v h => (RpAll.fresh fx h).same m) (fun a ys _ h => m _ _ h) rfl rfl rfl (fun a o n h => ⟨fun z => (ban_z z).elim (fun z => by rw [z, hD] at h; cases h) n, m _ _ h⟩) (fun x da h => (XRep.fresh fx h).same m) h2⟩
  · obtain ⟨h1, h2⟩ := r.dk d p q h
    exact ⟨h1.same m, h2⟩
  · obtain ⟨⟨ys, h1, mu⟩, h2⟩ := r.own i a h
    exact ⟨⟨ys, m _ _ h1, mu⟩, h2⟩
  · rcases List.mem_cons.mp hx with h | h
    · subst h
      exact ⟨e, fun z => nb (List.mem_append_left _ z), r.noH0 hD⟩
    · obtain ⟨z1, z2⟩ := r.zz x h
      exact ⟨m _ _ z1, z2⟩
  · refine List.nodup_cons.mpr ⟨fun z => ?_, r.znd⟩
    obtain ⟨x, hx, e2⟩ := List.mem_map.mp z
    have e3 : x.1 = D := e2
    rw [← e3, (r.zz x hx).1] at hD; cases hD
theorem Rel.subZ (r : Rel (Φ.z D xs) E s σ H) : Rel Φ E s σ H := by
  refine ⟨r.len, fun i x h => ?_, r.dk, r.own, r.inj, r.fr, r.dk0, r.alive, fun x hx => (r.held x hx).wk fun _ h => z_ban h, fun x hx => r.zz x (List.mem_cons_of_mem _ hx), (List.nodup_cons.mp r.znd).2, r.tt⟩
  obtain ⟨v, h1, h2⟩ := r.val i x h
  exact ⟨v, h1, RelS.map (Φ := Φ.z D xs) (Φ' := Φ) (E' := E) (H' := H) (fun _ h => h) rfl (fun _ h => h) (fun d v h => h.wk fun _ h => z_ban h) (fun d v h => h.wk fun _ h => z_ban h) (fun a ys _ h => h) rfl rfl rfl (fun a o n h => ⟨fun z => n (z_ban z), h⟩) (fun x da h => h.wk fun _ h => z_ban h) h2⟩
theorem Mu.ne {H : Hp} {a b : Addr} {o u : HO} (h : H a = some o) (g : H b = some u) (mu : Mu u) (n : Mu o → False) : a ≠ b := fun e => by subst e; rw [h] at g; cases g; exact n mu
theorem Rp.updl {bn : List Addr} {o u : HO} (hD : D ∈ bn) (e : H D = some o) {d : PyData} {v : V} (h : Rp H bn d v) (mu : Mu o := by first | trivial | exact mu_DN) : Rp (upd H D u) bn d v :=
  Rp.mv (fun a zs n h => by rw [upd_ne (fun z => n (by rw [z]; exact hD))]; exact h) (fun a zs ⟨o2, hd, h⟩ => ⟨o2, hd, by rw [upd_ne (Mu.ne h e mu fun z => z)]; exact h⟩) (fun a n h => by rw [upd_ne (fun z => n (by rw [z]; exact hD))]; exact h) d v h
theorem RpAll.updl {bn : List Addr} {o u : HO} (hD : D ∈ bn) (e : H D = some o) {d : List PyData} {v : List V} (h : RpAll H bn d v) (mu : Mu o := by first | trivial | exact mu_DN) : RpAll (upd H D u) bn d v :=
  RpAll.mv (fun a zs n h => by rw [upd_ne (fun z => n (by rw [z]; exact hD))]; exact h) (fun a zs ⟨o2, hd, h⟩ => ⟨o2, hd, by rw [upd_ne (Mu.ne h e mu fun z => z)]; exact h⟩) (fun a n h => by rw [upd_ne (fun z => n (by rw [z]; exact hD))]; exact h) d v h
theorem Hl.updl {bn : List Addr} {o u : HO} (hD : D ∈ bn) (e : H D = some o) {x : Hd} (h : Hl H bn x) (mu : Mu o := by first | trivial | exact mu_DN) : Hl (upd H D u) bn x := by
  cases x with
  | dat d v => exact Rp.updl hD e (show Rp H bn d v from h) mu
  | ob a o => exact ⟨by rw [upd_ne fun z => h.2 (by rw [z]; exact hD)]; exact h.1, h.2⟩
theorem XRep.updl {bn : List Addr} {o u : HO} (hD : D ∈ bn) (e : H D = some o) {x : XD} {da : Option Addr} (h : XRep H bn x da) (mu : Mu o := by first | trivial | exact mu_DN) : XRep (upd H D u) bn x da := by
  unfold XRep at h ⊢
  split
  · next e0 => rw [e0] at h; exact h
  · next f d e0 =>
    rw [e0] at h
    obtain ⟨g, v, h1, h2, h3⟩ := h
    exact ⟨g, v, h1, by rw [upd_ne (Mu.ne h2 e mu fun z => z)]; exact h2, h3.updl hD e mu⟩
theorem Deck.updl' {d p q : Addr} {n : Nat} {u : HO} (h : Deck H d p q n) (h1 : D ≠ d) (h2 : D ≠ p) (h3 : D ≠ q) : Deck (upd H D u) d p q n := by
  obtain ⟨m, ⟨as, cs, c, g1, g2, g3, g4⟩, a, b, e⟩ := h
  exact ⟨m, ⟨as, cs, c, by rw [upd_ne h1.symm]; exact g1, by rw [upd_ne h2.symm]; exact g2, by rw [upd_ne h3.symm]; exact g3, g4⟩, a, b, e⟩
/-- no code object stands at a -/
def NoCo (H : Hp) (a : Addr) : Prop := ∀ c q, H a ≠ some (LamX.CodeO c q)
theorem Mu.nc {a : Addr} {o : HO} (e : H a = some o) (mu : Mu o) : NoCo H a := fun c q z => by
  rw [e] at z
  cases z
  exact mu c q rfl
theorem tabs_updl {T : List (Addr × Str)} {u : HO} (h : LamX.Tabs T H) (hD : D ∉ T.map (·.1)) (nc : NoCo H D) : LamX.Tabs T (upd H D u) := fun x hx => by
  obtain ⟨ps, h1, h2, h3⟩ := h x hx
  refine ⟨ps, by rw [upd_ne fun z => hD (List.mem_map.mpr ⟨x, hx, z⟩)]; exact h1, h2, fun pos cv hc => ?_⟩
  obtain ⟨c, e1, e2⟩ := h3 pos cv hc
  exact ⟨c, e1, by rw [upd_ne fun z => nc c x.2 (by rw [← z]; exact e2)]; exact e2⟩
theorem DeckT.updl' {d p : Addr} {q : DQ} {n : Nat} {u : HO} (h : DeckT H d p q n) (h1 : D ≠ d) (h2 : D ≠ p) (h3 : D ≠ q.1) (h4 : D ∉ q.2.map (·.1)) (nc : NoCo H D) : DeckT (upd H D u) d p q n := ⟨h.1.updl' h1 h2 h3, tabs_updl h.2 h4 nc⟩
/-- the held list grows -/
theorem Rel.updZ {ys : List V} (r : Rel (Φ.z D xs) E s σ H) : Rel (Φ.z D ys) E s σ (upd H D (.lst ys)) := by
  obtain ⟨eD, nD, hD0⟩ := r.zz (D, .lst xs) List.mem_cons_self
  have ne : ∀ a, a ∈ chg E → a ≠ D := fun a ha z => nD (z ▸ ha)
  have up : ∀ {a : Addr} {o : HO}, a ≠ D → H a = some o → upd H D (.lst ys) a = some o := fun h e => by rw [upd_ne h]; exact e
  refine ⟨r.len, fun i x h => ?_, fun d p q h => ?_, fun i a h => ?_, r.inj, fun b o h1 h2 => up (fun z => ?_) (r.fr b o h1 h2), r.dk0, r.alive, fun x hx => Hl.updl z_mem eD (r.held x hx), fun x hx => ?_, r.znd, r.tt⟩
  · obtain ⟨v, h1, h2⟩ := r.val i x h
    refine ⟨v, h1, RelS.map (Φ := Φ.z D xs) (Φ' := Φ.z D ys) (E' := E) (fun _ h => h) rfl (fun _ h => h) (fun d v h => Rp.updl z_mem eD h) (fun d v h => RpAll.updl z_mem eD h) (fun a zs ha h => up (fun z => ?_) h) rfl rfl rfl (fun a o n h => ⟨n, up (fun z => n (by rw [z]; exact z_mem)) h⟩) (fun x da h => XRep.updl z_mem eD h) h2⟩
    rcases ha with ⟨j, ha⟩ | ha
    · exact ne a (List.mem_append_right _ (List.mem_map.mpr ⟨_, ha, rfl⟩)) z
    · obtain ⟨⟨o, e⟩, _⟩ := r.alive a ha
      rw [z, hD0] at e; cases e
  · obtain ⟨h1, h2⟩ := r.dk d p q h
    refine ⟨h1.updl' ?_ ?_ ?_ (fun z => ?_) (Mu.nc eD trivial), h2⟩
    · exact (ne d (List.mem_append_left _ (by rw [h]; simp [dkl]))).symm
    · exact (ne p (List.mem_append_left _ (by rw [h]; simp [dkl]))).symm
    · exact (ne q.1 (List.mem_append_left _ (by rw [h]; simp [dkl]))).symm
    · exact ne D (List.mem_append_left _ (by rw [h]; exact List.mem_cons_of_mem _ (List.mem_cons_of_mem _ (List.mem_cons_of_mem _ z)))) rfl
  · obtain ⟨⟨zs, h1, mu⟩, h2⟩ := r.own i a h
    exact ⟨⟨zs, up (ne a (List.mem_append_right _ (List.mem_map.mpr ⟨_, h, rfl⟩))) h1, mu⟩, h2⟩
  · rw [z, hD0] at h1; cases h1
  · rcases List.mem_cons.mp hx with h | h
    · subst h
      exact ⟨upd_same, nD, hD0⟩
    · by_cases z : x.1 = D
      · exact absurd (List.mem_map.mpr ⟨x, h, z⟩) (List.nodup_cons.mp r.znd).1
      · obtain ⟨z1, z2⟩ := r.zz x (List.mem_cons_of_mem _ h)
        exact ⟨up z z1, z2⟩
/-- the held list becomes a slot's own -/
theorem Rel.ownZ (r : Rel (Φ.z D xs) E s σ H) (j : Nat) : Rel Φ (E.add j D) s σ H := by
  obtain ⟨eD, nD, hD0⟩ := r.zz (D, .lst xs) List.mem_cons_self
  have hb : ∀ a ∈ ban Φ (E.add j D), a ∈ ban (Φ.z D xs) E := fun a ha => by
    rcases mem_ban_add ha with h | h
    · rw [h]; exact z_mem
    · exact z_ban h
  refine ⟨r.len, fun i x h => ?_, r.dk, fun i a h => ?_, fun i k a h1 h2 => ?_, r.fr, r.dk0, r.alive, fun x hx => (r.held x hx).wk hb, fun x hx => ?_, (List.nodup_cons.mp r.znd).2, r.tt⟩
  · obtain ⟨v, h1, h2⟩ := r.val i x h
    exact ⟨v, h1, RelS.map (Φ := Φ.z D xs) (Φ' := Φ) (E := E) (E' := E.add j D) (H := H) (H' := H) (fun _ h => List.mem_cons_of_mem _ h) rfl (fun _ h => h) (fun d v h => h.wk hb) (fun d v h => h.wk hb) (fun a ys _ h => h) rfl rfl rfl (fun a o n h => ⟨fun z => n (hb _ z), h⟩) (fun x da h => h.wk hb) h2⟩
  · rcases List.mem_cons.mp h with h | h
    · cases h
      refine ⟨⟨_, eD, trivial⟩, fun z => ?_, fun z => nD (List.mem_append_left _ z), hD0⟩
      obtain ⟨⟨o, e⟩, _⟩ := r.alive D z
      rw [show Φ.H0 D = none from hD0] at e; cases e
    · exact r.own i a h
  · have own : ∀ i, (i, D) ∈ E.R → False := fun i h => nD (List.mem_append_right _ (List.mem_map.mpr ⟨_, h, rfl⟩))
    rcases List.mem_cons.mp h1 with h1 | h1
    · rcases List.mem_cons.mp h2 with h2 | h2
      · cases h1; cases h2; rfl
      · cases h1; exact (own _ h2).elim
    · rcases List.mem_cons.mp h2 with h2 | h2
      · cases h2; exact (own _ h1).elim
      · exact r.inj i k a h1 h2
  · obtain ⟨z1, z2, z3⟩ := r.zz x (List.mem_cons_of_mem _ hx)
    refine ⟨z1, fun z => ?_, z3⟩
    rcases List.mem_append.mp z with z | z
    · exact z2 (List.mem_append_left _ z)
    · rcases List.mem_cons.mp z with z | z
      · exact (List.nodup_cons.mp r.znd).1 (List.mem_map.mpr ⟨x, hx, z⟩)
      · exact z2 (List.mem_append_right _ z)
/-! ### slots forgotten, slots restored -/
def wl (l : List (Option AV)) : List Nat → List (Option AV)
  | [] => l
  | v :: vs => (wl l vs).set v none
def AS.wipe (s : AS) (vs : List Nat) : AS := { s with sl := wl s.sl vs }
theorem wl_len (l : List (Option AV)) : ∀ vs : List Nat, (wl l vs).length = l.length
  | [] => rfl
  | v :: vs => by unfold wl; rw [List.length_set, wl_len l vs]
theorem wl_some {l : List (Option AV)} {i : Nat} {x : AV} : ∀ {vs : List Nat}, (wl l vs)[i]? = some (some x) → l[i]? = some (some x) ∧ i ∉ vs
  | [], h => ⟨h, by simp⟩
  | v :: vs, h => by
    unfold wl at h
    by_cases hi : v = i
    · subst hi
      by_cases hv : v < (wl l vs).length
      · rw [List.getElem?_set_self hv] at h; cases h
      · rw [List.getElem?_eq_none (by simpa using hv)] at h; cases h
    · rw [List.getElem?_set_ne hi] at h
      obtain ⟨h1, h2⟩ := wl_some h
      exact ⟨h1, by simp only [List.mem_cons, not_or]; exact ⟨fun e => hi e.symm, h2⟩⟩
theorem wipe_off {σ : L2.St} {i : Nat} : ∀ {vs : List Nat}, i ∉ vs → (wipe σ vs)[i]? = σ[i]?
  | [], _ => rfl
  | v :: vs, h => by
    simp only [List.mem_cons, not_or] at h
    unfold wipe
    rw [List.getElem?_set_ne (fun e => h.1 e.symm)]
    exact wipe_off h.2
theorem Rel.wipe (r : Rel Φ E s σ H) (vs : List Nat) : Rel Φ E (s.wipe vs) (L2.wipe σ vs) H := by
  refine ⟨by rw [wipe_length, ← r.len]; exact wl_len _ _, fun i x h => ?_, r.dk, r.own, r.inj, r.fr, r.dk0, r.alive, r.held, r.zz, r.znd, r.tt⟩
  obtain ⟨h1, h2⟩ := wl_some h
  obtain ⟨v, g1, g2⟩ := r.val i x h1
  exact ⟨v, by rw [wipe_off h2]; exact g1, g2⟩
def kd : Option AV → Option AV
  | some (.dat d) => some (.dat d)
  | _ => none
def bkl (l0 l4 : List (Option AV)) : List Nat → List (Option AV)
  | [] => l4
  | v :: vs => (bkl l0 l4 vs).set v (kd (l0.getD v none))
def back (vs : List Nat) (s s4 : AS) : AS := { s4 with sl := bkl s.sl s4.sl vs }
theorem bkl_len (l0 l4 : List (Option AV)) : ∀ vs : List Nat, (bkl l0 l4 vs).length = l4.length
  | [] => rfl
  | v :: vs => by unfold bkl; rw [List.length_set, bkl_len l0 l4 vs]
theorem kd_some {o : Option AV} {x : AV} (h : kd o = some x) : ∃ d, x = .dat d ∧ o = some (.dat d) := by
  unfold kd at h
  split at h
  · next d => cases h; exact ⟨d, rfl, rfl⟩
  · cases h
theorem bkl_some {l0 l4 : List (Option AV)} {i : Nat} {x : AV} : ∀ {vs : List Nat}, (bkl l0 l4 vs)[i]? = some (some x) → (i ∉ vs ∧ l4[i]? = some (some x)) ∨ ∃ d, x = .dat d ∧ l0[i]? = some (some (.dat d))
  | [], h => .inl ⟨by simp, h⟩
  | v :: vs, h => by
    unfold bkl at h
    by_cases hi : v = i
    · subst hi
      by_cases hv : v < (bkl l0 l4 vs).length
      · rw [List.getElem?_set_self hv] at h
        obtain ⟨d, e1, e2⟩ := kd_some (Option.some.inj h)
        refine .inr ⟨d, e1, ?_⟩
        rw [List.getD_eq_getElem?_getD] at e2
        cases e3 : l0[v]? with
        | none => rw [e3] at e2; cases e2
        | some o => rw [e3] at e2; rw [show o = some (.dat d) from e2]
      · rw [List.getElem?_eq_none (by simpa using hv)] at h; cases h
    · rw [List.getElem?_set_ne hi] at h
      rcases bkl_some h with ⟨h1, h2⟩ | h1
      · exact .inl ⟨by simp only [List.mem_cons, not_or]; exact ⟨fun e => hi e.symm, h1⟩, h2⟩
      · exact .inr h1
theorem Rel.back {E4 : OE} {s4 : AS} {σ2 : L2.St} {H4 : Hp} {vs : List Nat} (r : Rel Φ E s σ H) (r4 : Rel Φ E4 s4 σ2 H4) (hw : L2.wipe σ2 vs = L2.wipe σ vs) (k : KB E H H4) (l : Le E4 E) : Rel Φ E4 (TR.back vs s s4) σ H4 := by
  have hlen : σ2.length = σ.length := by rw [← wipe_length σ2 vs, hw, wipe_length]
  refine ⟨by rw [← hlen, ← r4.len]; exact bkl_len _ _ _, fun i x h => ?_, r4.dk, r4.own, r4.inj, r4.fr, r4.dk0, r4.alive, r4.held, r4.zz, r4.znd, r4.tt⟩
  rcases bkl_some h with ⟨h1, h2⟩ | ⟨d, rfl, h2⟩
  · obtain ⟨v, g1, g2⟩ := r4.val i x h2
    refine ⟨v, ?_, g2⟩
    rw [← wipe_off (σ := σ) h1, ← hw, wipe_off h1]
    exact g1
  · obtain ⟨v, g1, g2⟩ := r.val i _ h2
    exact ⟨v, g1, Rp.wk l.ban (Rp.kb (show Rp H (ban Φ E) d v from g2) r.lst k)⟩
end
theorem off_wipe {sl vs : List Nat} {σ σ' : L2.St} (h : Off sl σ σ') (hs : ∀ i ∈ sl, i ∈ vs) : L2.wipe σ' vs = L2.wipe σ vs := by
  refine List.ext_getElem? fun i => ?_
  by_cases hi : i ∈ vs
  · have key : ∀ (τ : L2.St) (vs : List Nat), i ∈ vs → i < τ.length → (L2.wipe τ vs)[i]? = some none := by
      intro τ vs
      induction vs with
      | nil => intro h; cases h
      | cons v vs ih =>
        intro h hl
        unfold L2.wipe
        by_cases e : v = i
        · subst e
          exact List.getElem?_set_self (by rw [wipe_length]; exact hl)
        · rw [List.getElem?_set_ne e]
          rcases List.mem_cons.mp h with z | z
          · exact absurd z.symm e
          · exact ih z hl
    by_cases hl : i < σ.length
    · rw [key _ _ hi (by rw [h.1]; exact hl), key _ _ hi hl]
    · rw [List.getElem?_eq_none (by rw [wipe_length, h.1]; omega), List.getElem?_eq_none (by rw [wipe_length]; omega)]
  · rw [wipe_off hi, wipe_off hi, h.2 i fun m => hi (hs i m)]
theorem off_refl_wipe {vs sl : List Nat} {σ σ2 : L2.St} (h : Off sl (L2.wipe σ vs) σ2) (hs : ∀ i ∈ sl, i ∈ vs) : L2.wipe σ2 vs = L2.wipe σ vs := by
  have h1 := off_wipe h hs
  rw [h1]
  refine List.ext_getElem? fun i => ?_
  by_cases hi : i ∈ vs
  · cases e : (L2.wipe (L2.wipe σ vs) vs)[i]? with
    | none =>
      have := List.getElem?_eq_none_iff.mp e
      rw [wipe_length, wipe_length] at this
      rw [List.getElem?_eq_none (by rw [wipe_length]; exact this)]
    | some o =>
      cases o with
      | some x => exact absurd hi (wipe_some e).2
      | none =>
        cases e2 : (L2.wipe σ vs)[i]? with
        | none =>
          have := List.getElem?_eq_none_iff.mp e2
          rw [wipe_length] at this
          rw [List.getElem?_eq_none (by rw [wipe_length, wipe_length]; exact this)] at e
          cases e
        | some o =>
          cases o with
          | some x => exact absurd hi (wipe_some e2).2
          | none => rfl
  · rw [wipe_off hi]
end TR
namespace TR
open PySem PySem.Spec PyProof.Rows L2
/-! ### list comprehensions -/
def lcL (it : AIt) (b : AB) (t : AT) (a : AE) (vs : List Nat) (Q : PyData → AS → Prop) : List PyData → List PyData → AS → Prop
  | [], acc, s => it.chk s ∧ Q (.list acc) s
  | x :: xs, acc, s => it.chk s ∧ b x (s.wipe vs) fun s2 => t x0 s2 fun c s3 => if c = true then a x0 s3 fun y s4 => acc.length < sizeLine ∧ lcL it b t a vs Q xs (acc ++ [y]) (back vs s s4) else lcL it b t a vs Q xs acc (back vs s s3)
def aLc (ai : AI) (b : AB) (t : AT) (a : AE) (vs : List Nat) : AE := fun xp s Q => ai xp s fun it s1 => lcL it b t a vs Q it.its [] s1
def tYesA : AT := fun _ s Q => Q true s
theorem yes_ok {σ : L2.St} {H : Hp} {Q : Bool → Hp → Prop} {Ec : EC} (h : cT Ec tYesA σ H Q) : tYes σ H Q := by
  obtain ⟨Φ, E, xp, s, Qa, r, x, q, k⟩ := h
  exact k true E s H (.refl _) r (.refl _ _) q
theorem lc_ok {w : Bool} {Ec : EC} {ai : AI} {b : AB} {t : AT} {a : AE} {vs sl : List Nat} {j : Nat} (hsl : ∀ i ∈ sl, i ∈ vs) {σ : L2.St} {H : Hp} {Q : VK} (h : cF j Ec (aLc ai b t a vs) σ H Q) : tLc (cI w Ec ai) (cG w sl b) (cT Ec.z t) (cE Ec.z a) vs σ H Q := by
  obtain ⟨Φ, E, xp, s, Qa, r, xs, q, k⟩ := h
  refine ⟨Φ, E, xp, s, _, r, xs, q, fun it E1 s1 J H1 hold l1 r1 k1 jo hh q1 => fun D hD => ?_⟩
  generalize hL : it.its = L at q1
  have sm0 : Same H1 (upd H1 D (.lst [])) := same_upd hD
  have fx : ∀ a ∈ ban (Φ.z D []) E1, a ∈ ban Φ E1 ∨ H1 a = none := fun a ha => by
    rcases ban_z ha with h | h
    · rw [h]; exact .inr hD
    · exact .inl h
  refine ⟨fun i m H => m = L.length - i ∧ i ≤ L.length ∧ ∃ E s acc av, Le E E1 ∧ Rel (Φ.z D av) E s σ H ∧ KB E1 H1 H ∧ RpAll H (ban (Φ.z D av) E) acc av ∧ (∀ x ∈ hold, Hl H (ban (Φ.z D av) E) x) ∧ lcL it b t a vs Qa (L.drop i) acc s,
    ⟨L.length, by simp, Nat.zero_le _, E1, s1, [], [], .refl _, r1.addZ hD sm0 upd_same, KB.of_same sm0, rfl, fun x hx => (Hl.fresh fx (hh x hx)).same sm0, by rw [List.drop_zero]; exact q1⟩, ?_⟩
  rintro i m H2 ⟨rfl, hi, E2, s2, acc, av, l2, r2, k2, ra, hh2, q2⟩
  have chk : it.chk s2 := by
    by_cases hlt : i < L.length
    · rw [List.drop_eq_getElem_cons hlt] at q2; exact q2.1
    · rw [List.drop_eq_nil_of_le (by omega)] at q2; exact q2.1
  have chk2 : chkσ σ σ s2 it := by
    cases it with
    | fix L => trivial
    | slt i L => exact ⟨rfl, chk⟩
  obtain ⟨jgo, jst⟩ := jo (Φ.z D av) E2 s2 σ H2 r2 hh2 chk2 i
  by_cases hlt : i < L.length
  · obtain ⟨go, yl⟩ := jgo L[i] (by rw [hL]; exact List.getElem?_eq_getElem hlt)
    rw [List.drop_eq_getElem_cons hlt] at q2
    refine .inr ⟨go, fun H => ∃ E s acc av, Le E E1 ∧ Rel (Φ.z D av) E s σ H ∧ KB E1 H1 H ∧ RpAll H (ban (Φ.z D av) E) acc av ∧ (∀ x ∈ hold, Hl H (ban (Φ.z D av) E) x) ∧ lcL it b t a vs Qa (L.drop (i + 1)) acc s, fun H' h => ⟨L.length - (i + 1), by omega, rfl, hlt, h⟩, fun x H3 y => ?_⟩
    obtain ⟨sm, rp⟩ := yl x H3 y
    have r3 := r2.same sm
    have k3 : KB E2 H2 H3 := KB.of_same sm
    refine ⟨Φ.z D av, E2, s2.wipe vs, L[i], _, r3.wipe vs, rp, q2.2, fun s4 σ4 r4 o4 q4 => ?_⟩
    have hw := off_refl_wipe o4 hsl
    refine ⟨hw, Φ.z D av, E2, x0, s4, _, r4, ⟨xs.1, fun _ _ _ _ _ _ _ _ h => h⟩, q4, fun c E5 s5 H5 l5 r5 k5 q5 => ?_⟩
    cases c with
    | false =>
      refine iteF ?_
      have kk : KB E2 H2 H5 := k3.trans (.refl _) k5
      exact ⟨E5, _, acc, av, l5.trans l2, r2.back r5 hw kk l5, k2.trans l2 kk, (ra.kb r2.lst kk).wk l5.ban, fun x hx => ((hh2 x hx).kb r2.lst kk).wk l5.ban, unF q5⟩
    | true =>
      refine iteT ⟨Φ.z D av, E5, x0, s5, _, r5, ⟨xs.1, fun _ _ _ _ _ _ _ _ h => h⟩, unT q5, fun d E6 s6 v H6 l6 r6 k6 p6 q6 => ?_⟩
      obtain ⟨hlen, q6⟩ := q6
      have kk : KB E2 H2 H6 := (k3.trans (.refl _) k5).trans l5 k6
      have ll := l6.trans l5
      have eD : H6 D = some (.lst av) := (r6.zz (D, .lst av) List.mem_cons_self).1
      refine ⟨av, eD, by rw [(RpAll.len ra)]; exact hlen, ?_⟩
      have rb := r2.back r6 hw kk ll
      have eb : ∀ (ys : List V) (E : OE), ban (Φ.z D ys) E = ban (Φ.z D av) E := fun _ _ => rfl
      refine ⟨E6, _, acc ++ [d], av ++ [v], ll.trans l2, rb.updZ, ?_, ?_, fun x hx => ?_, q6⟩
      · intro c o h1 h2
        have := k2.trans l2 kk c o h1 h2
        rw [upd_ne (ne_of_none h1 hD)]
        exact this
      · rw [eb]
        exact RpAll.updl z_mem eD (RpAll.app ((ra.kb r2.lst kk).wk ll.ban) ⟨v, [], rfl, p6, rfl⟩)
      · rw [eb]
        exact Hl.updl z_mem eD (((hh2 x hx).kb r2.lst kk).wk ll.ban)
  · have e : i = L.length := by omega
    subst e
    rw [List.drop_length] at q2
    refine .inl ⟨jst (by rw [hL]), ?_⟩
    have eD : H2 D = some (.lst av) := (r2.zz (D, .lst av) List.mem_cons_self).1
    have nD : D ∉ ban Φ E2 := fun z => by
      have hz := (r2.zz (D, .lst av) List.mem_cons_self).2.1
      rcases List.mem_append.mp z with z | z
      · exact hz z
      · rcases List.mem_append.mp z with z | z
        · exact (List.nodup_cons.mp r2.znd).1 z
        · obtain ⟨⟨o, e⟩, _⟩ := r2.alive D z
          rw [show Φ.H0 D = none from (r2.zz (D, .lst av) List.mem_cons_self).2.2] at e; cases e
    refine k acc E2 s2 D av H2 (l2.trans l1) r2.subZ (r2.ownZ j) (fun c o h1 h2 => (k1.trans l1 k2) c o h1 h2) eD (ra.wk fun a ha => ?_) nD q2.2
    rcases mem_ban_add ha with h | h
    · rw [h]; exact z_mem
    · exact z_ban h
end TR
namespace TR
open PySem PySem.Spec PyProof.Rows L2
/-! ### two clauses -/
def lcI (it : AIt) (b : AB) (t : AT) (a : AE) (vs : List Nat) (K : List PyData → AS → Prop) : List PyData → List PyData → AS → Prop
  | [], acc, s => it.chk s ∧ K acc s
  | x :: xs, acc, s => it.chk s ∧ b x (s.wipe vs) fun s2 => t x0 s2 fun c s3 => if c = true then a x0 s3 fun y s4 => acc.length < sizeLine ∧ lcI it b t a vs K xs (acc ++ [y]) (back vs s s4) else lcI it b t a vs K xs acc (back vs s s3)
def lc2L (it : AIt) (b : AB) (t : AT) (ai1 : AI) (b1 : AB) (t1 : AT) (a : AE) (vs vs1 : List Nat) (Q : PyData → AS → Prop) : List PyData → List PyData → AS → Prop
  | [], acc, s => it.chk s ∧ Q (.list acc) s
  | x :: xs, acc, s => it.chk s ∧ b x (s.wipe vs) fun s2 => t x0 s2 fun c s3 => if c = true then ai1 x0 s3 fun it1 s4 => lcI it1 b1 t1 a vs1 (fun acc' s5 => lc2L it b t ai1 b1 t1 a vs vs1 Q xs acc' (back vs s s5)) it1.its acc s4 else lc2L it b t ai1 b1 t1 a vs vs1 Q xs acc (back vs s s3)
def aLc2 (ai : AI) (b : AB) (t : AT) (ai1 : AI) (b1 : AB) (t1 : AT) (a : AE) (vs vs1 : List Nat) : AE := fun xp s Q => ai xp s fun it s1 => lc2L it b t ai1 b1 t1 a vs vs1 Q it.its [] s1
def KZ (E : OE) (D : Addr) (H H' : Hp) : Prop := ∀ b o, H b = some o → b ∉ chg E → b ≠ D → H' b = some o
theorem KZ.of {E : OE} {D : Addr} {H H' : Hp} (k : KB E H H') : KZ E D H H' := fun b o h n _ => k b o h n
theorem KZ.trans {E E1 : OE} {D : Addr} {H H1 H2 : Hp} (a : KZ E D H H1) (l : Le E1 E) (b : KZ E1 D H1 H2) : KZ E D H H2 := fun c o h n m => b c o (a c o h n m) (fun z => n (l.chg c z)) m
theorem KZ.upd {E : OE} {D : Addr} {H H' : Hp} {o : HO} (k : KZ E D H H') : KZ E D H (upd H' D o) := fun b u h n m => by
  rw [upd_ne m]
  exact k b u h n m
section
variable {Φ : Fx} {E : OE} {H H' : Hp} {D : Addr} {xs : List V}
theorem Rp.kz {d : PyData} {v : V} (h : Rp H (ban (Φ.z D xs) E) d v) (L : LstAt E H) (e : H D = some (.lst xs)) (k : KZ E D H H') : Rp H' (ban (Φ.z D xs) E) d v := by
  refine Rp.mv (fun a zs hn g => k _ _ g (fun m => hn ?_) (fun z => hn ?_)) (fun a zs g => ?_) (fun a hn g => k _ _ g (fun m => hn (List.mem_append_left _ m)) fun z => hn (by rw [z]; exact z_mem)) d v h
  · exact List.mem_append_left _ m
  · rw [z]; exact z_mem
  · obtain ⟨o, hd, g1⟩ := g
    replace g1 : H a = some (.frz o (.tup zs)) := g1
    refine ⟨o, hd, k _ _ g1 (fun m => ?_) fun z => ?_⟩
    · obtain ⟨ys, e2, mu⟩ := L a m
      rw [g1] at e2; cases e2; exact mu.elim
    · rw [z, e] at g1; cases g1
theorem Hl.kz {x : Hd} (h : Hl H (ban (Φ.z D xs) E) x) (L : LstAt E H) (e : H D = some (.lst xs)) (k : KZ E D H H') : Hl H' (ban (Φ.z D xs) E) x := by
  cases x with
  | dat d v => exact Rp.kz (show Rp H (ban (Φ.z D xs) E) d v from h) L e k
  | ob a o => exact ⟨k _ _ h.1 (fun m => h.2 (List.mem_append_left _ m)) fun z => h.2 (by rw [z]; exact z_mem), h.2⟩
theorem Rel.backZ {s s4 : AS} {σ σ2 : L2.St} {E4 : OE} {ys : List V} {vs : List Nat} (r : Rel (Φ.z D xs) E s σ H) (r4 : Rel (Φ.z D ys) E4 s4 σ2 H') (hw : L2.wipe σ2 vs = L2.wipe σ vs) (k : KZ E D H H') (l : Le E4 E) : Rel (Φ.z D ys) E4 (TR.back vs s s4) σ H' := by
  have hlen : σ2.length = σ.length := by rw [← wipe_length σ2 vs, hw, wipe_length]
  refine ⟨by rw [← hlen, ← r4.len]; exact bkl_len _ _ _, fun i x h => ?_, r4.dk, r4.own, r4.inj, r4.fr, r4.dk0, r4.alive, r4.held, r4.zz, r4.znd, r4.tt⟩
  rcases bkl_some h with ⟨h1, h2⟩ | ⟨d, rfl, h2⟩
  · obtain ⟨v, g1, g2⟩ := r4.val i x h2
    refine ⟨v, ?_, g2⟩
    rw [← wipe_off (σ := σ) h1, ← hw, wipe_off h1]
    exact g1
  · obtain ⟨v, g1, g2⟩ := r.val i _ h2
    exact ⟨v, g1, Rp.wk (b := ban (Φ.z D xs) E) l.ban (Rp.kz (Φ := Φ) (xs := xs) (show Rp H (ban (Φ.z D xs) E) d v from g2) r.lst (r.zz (D, .lst xs) List.mem_cons_self).1 k)⟩
end
theorem lcI_ok {w : Bool} {Ec : EC} {b : AB} {t : AT} {a : AE} {vs sl : List Nat} (hsl : ∀ i ∈ sl, i ∈ vs) {σ : L2.St} {Φ : Fx} {D : Addr} {E1 : OE} {s1 : AS} {acc1 : List PyData} {av1 : List V} {H1 : Hp} {J : It} {it : AIt} {hold : List Hd} {K : List PyData → AS → Prop} {Nx : Hp → Prop}
    (xs0 : ∀ D xs, XSim (Φ.z D xs) x0 Ec.z) (r1 : Rel (Φ.z D av1) E1 s1 σ H1) (ra1 : RpAll H1 (ban (Φ.z D av1) E1) acc1 av1) (jo : JOk w σ J it hold) (hh1 : ∀ x ∈ hold, Hl H1 (ban (Φ.z D av1) E1) x) (q1 : lcI it b t a vs K it.its acc1 s1)
    (hK : ∀ E s acc av H, Le E E1 → Rel (Φ.z D av) E s σ H → KZ E1 D H1 H → RpAll H (ban (Φ.z D av) E) acc av → K acc s → Nx H) :
    ∃ W1 : Nat → Nat → Hp → Prop, (∃ m, W1 0 m H1) ∧ ∀ j k H, W1 j k H →
      (J.stop j H ∧ Nx H) ∨ (J.go j H ∧ ∃ Nx1 : Hp → Prop, (∀ H', Nx1 H' → ∃ k', k' < k ∧ W1 (j + 1) k' H') ∧ ∀ x H', J.yld j H x H' → cG w sl b x (wipe σ vs) H' fun σ3 H5 => wipe σ3 vs = wipe σ vs ∧ cT Ec.z t σ3 H5 fun b H6 =>
        if b = true then cE Ec.z a σ3 H6 fun y H7 => ∃ acc, H7 D = some (.lst acc) ∧ acc.length < sizeLine ∧ Nx1 (upd H7 D (.lst (acc ++ [y]))) else Nx1 H6) := by
  generalize hL : it.its = L at q1
  refine ⟨fun i m H => m = L.length - i ∧ i ≤ L.length ∧ ∃ E s acc av, Le E E1 ∧ Rel (Φ.z D av) E s σ H ∧ KZ E1 D H1 H ∧ RpAll H (ban (Φ.z D av) E) acc av ∧ (∀ x ∈ hold, Hl H (ban (Φ.z D av) E) x) ∧ lcI it b t a vs K (L.drop i) acc s,
    ⟨L.length, by simp, Nat.zero_le _, E1, s1, acc1, av1, .refl _, r1, fun _ _ h _ _ => h, ra1, hh1, by rw [List.drop_zero]; exact q1⟩, ?_⟩
  rintro i m H2 ⟨rfl, hi, E2, s2, acc, av, l2, r2, k2, ra, hh2, q2⟩
  have chk : it.chk s2 := by
    by_cases hlt : i < L.length
    · rw [List.drop_eq_getElem_cons hlt] at q2; exact q2.1
    · rw [List.drop_eq_nil_of_le (by omega)] at q2; exact q2.1
  have chk2 : chkσ σ σ s2 it := by
    cases it with
    | fix L => trivial
    | slt i L => exact ⟨rfl, chk⟩
  obtain ⟨jgo, jst⟩ := jo (Φ.z D av) E2 s2 σ H2 r2 hh2 chk2 i
  by_cases hlt : i < L.length
  · obtain ⟨go, yl⟩ := jgo L[i] (by rw [hL]; exact List.getElem?_eq_getElem hlt)
    rw [List.drop_eq_getElem_cons hlt] at q2
    refine .inr ⟨go, fun H => ∃ E s acc av, Le E E1 ∧ Rel (Φ.z D av) E s σ H ∧ KZ E1 D H1 H ∧ RpAll H (ban (Φ.z D av) E) acc av ∧ (∀ x ∈ hold, Hl H (ban (Φ.z D av) E) x) ∧ lcI it b t a vs K (L.drop (i + 1)) acc s, fun H' h => ⟨L.length - (i + 1), by omega, rfl, hlt, h⟩, fun x H3 y => ?_⟩
    obtain ⟨sm, rp⟩ := yl x H3 y
    have r3 := r2.same sm
    have k3 : KB E2 H2 H3 := KB.of_same sm
    refine ⟨Φ.z D av, E2, s2.wipe vs, L[i], _, r3.wipe vs, rp, q2.2, fun s4 σ4 r4 o4 q4 => ?_⟩
    have hw := off_refl_wipe o4 hsl
    refine ⟨hw, Φ.z D av, E2, x0, s4, _, r4, (xs0 _ _), q4, fun c E5 s5 H5 l5 r5 k5 q5 => ?_⟩
    cases c with
    | false =>
      refine iteF ?_
      have kk : KB E2 H2 H5 := k3.trans (.refl _) k5
      exact ⟨E5, _, acc, av, l5.trans l2, r2.back r5 hw kk l5, k2.trans l2 (.of kk), (ra.kb r2.lst kk).wk l5.ban, fun x hx => ((hh2 x hx).kb r2.lst kk).wk l5.ban, unF q5⟩
    | true =>
      refine iteT ⟨Φ.z D av, E5, x0, s5, _, r5, (xs0 _ _), unT q5, fun d E6 s6 v H6 l6 r6 k6 p6 q6 => ?_⟩
      obtain ⟨hlen, q6⟩ := q6
      have kk : KB E2 H2 H6 := (k3.trans (.refl _) k5).trans l5 k6
      have ll := l6.trans l5
      have eD : H6 D = some (.lst av) := (r6.zz (D, .lst av) List.mem_cons_self).1
      refine ⟨av, eD, by rw [(RpAll.len ra)]; exact hlen, ?_⟩
      have rb := r2.back r6 hw kk ll
      have eb : ∀ (ys : List V) (E : OE), ban (Φ.z D ys) E = ban (Φ.z D av) E := fun _ _ => rfl
      refine ⟨E6, _, acc ++ [d], av ++ [v], ll.trans l2, rb.updZ, (k2.trans l2 (.of kk)).upd, ?_, fun x hx => ?_, q6⟩
      · rw [eb]
        exact RpAll.updl z_mem eD (RpAll.app ((ra.kb r2.lst kk).wk ll.ban) ⟨v, [], rfl, p6, rfl⟩)
      · rw [eb]
        exact Hl.updl z_mem eD (((hh2 x hx).kb r2.lst kk).wk ll.ban)
  · have e : i = L.length := by omega
    subst e
    rw [List.drop_length] at q2
    exact .inl ⟨jst (by rw [hL]), hK E2 s2 acc av H2 l2 r2 k2 ra q2.2⟩
theorem lc2_ok {w w1 : Bool} {Ec : EC} {ai ai1 : AI} {b b1 : AB} {t t1 : AT} {a : AE} {vs vs1 sl sl1 : List Nat} {j : Nat} (hsl : ∀ i ∈ sl, i ∈ vs) (hsl1 : ∀ i ∈ sl1, i ∈ vs1) {σ : L2.St} {H : Hp} {Q : VK} (h : cF j Ec (aLc2 ai b t ai1 b1 t1 a vs vs1) σ H Q) : tLc2 (cI w Ec ai) (cG w sl b) (cT Ec.z t) (cI w1 Ec.z ai1) (cG w1 sl1 b1) (cT Ec.z t1) (cE Ec.z a) vs vs1 σ H Q := by
  obtain ⟨Φ, E, xp, s, Qa, r, xs, q, k⟩ := h
  have xz : ∀ D ys, XSim (Φ.z D ys) x0 Ec.z := fun D ys => ⟨xs.1, fun _ _ _ _ _ _ _ _ h => h⟩
  refine ⟨Φ, E, xp, s, _, r, xs, q, fun it E1 s1 J H1 hold l1 r1 k1 jo hh q1 => fun D hD => ?_⟩
  generalize hL : it.its = L at q1
  have sm0 : Same H1 (upd H1 D (.lst [])) := same_upd hD
  have fx : ∀ a ∈ ban (Φ.z D []) E1, a ∈ ban Φ E1 ∨ H1 a = none := fun a ha => by
    rcases ban_z ha with h | h
    · rw [h]; exact .inr hD
    · exact .inl h
  refine ⟨fun i m H => m = L.length - i ∧ i ≤ L.length ∧ ∃ E s acc av, Le E E1 ∧ Rel (Φ.z D av) E s σ H ∧ KZ E1 D H1 H ∧ RpAll H (ban (Φ.z D av) E) acc av ∧ (∀ x ∈ hold, Hl H (ban (Φ.z D av) E) x) ∧ lc2L it b t ai1 b1 t1 a vs vs1 Qa (L.drop i) acc s,
    ⟨L.length, by simp, Nat.zero_le _, E1, s1, [], [], .refl _, r1.addZ hD sm0 upd_same, .of (KB.of_same sm0), rfl, fun x hx => (Hl.fresh fx (hh x hx)).same sm0, by rw [List.drop_zero]; exact q1⟩, ?_⟩
  rintro i m H2 ⟨rfl, hi, E2, s2, acc, av, l2, r2, k2, ra, hh2, q2⟩
  have chk : it.chk s2 := by
    by_cases hlt : i < L.length
    · rw [List.drop_eq_getElem_cons hlt] at q2; exact q2.1
    · rw [List.drop_eq_nil_of_le (by omega)] at q2; exact q2.1
  have chk2 : chkσ σ σ s2 it := by
    cases it with
    | fix L => trivial
    | slt i L => exact ⟨rfl, chk⟩
  obtain ⟨jgo, jst⟩ := jo (Φ.z D av) E2 s2 σ H2 r2 hh2 chk2 i
  have eD2 : H2 D = some (.lst av) := (r2.zz (D, .lst av) List.mem_cons_self).1
  by_cases hlt : i < L.length
  · obtain ⟨go, yl⟩ := jgo L[i] (by rw [hL]; exact List.getElem?_eq_getElem hlt)
    rw [List.drop_eq_getElem_cons hlt] at q2
    refine .inr ⟨go, fun H => ∃ E s acc av, Le E E1 ∧ Rel (Φ.z D av) E s σ H ∧ KZ E1 D H1 H ∧ RpAll H (ban (Φ.z D av) E) acc av ∧ (∀ x ∈ hold, Hl H (ban (Φ.z D av) E) x) ∧ lc2L it b t ai1 b1 t1 a vs vs1 Qa (L.drop (i + 1)) acc s, fun H' h => ⟨L.length - (i + 1), by omega, rfl, hlt, h⟩, fun x H3 y => ?_⟩
    obtain ⟨sm, rp⟩ := yl x H3 y
    have r3 := r2.same sm
    have k3 : KB E2 H2 H3 := KB.of_same sm
    refine ⟨Φ.z D av, E2, s2.wipe vs, L[i], _, r3.wipe vs, rp, q2.2, fun s4 σ4 r4 o4 q4 => ?_⟩
    have hw := off_refl_wipe o4 hsl
    refine ⟨hw, Φ.z D av, E2, x0, s4, _, r4, (xz _ _), q4, fun c E5 s5 H5 l5 r5 k5 q5 => ?_⟩
    have kk : KB E2 H2 H5 := k3.trans (.refl _) k5
    cases c with
    | false =>
      refine iteF ?_
      exact ⟨E5, _, acc, av, l5.trans l2, r2.back r5 hw kk l5, k2.trans l2 (.of kk), (ra.kb r2.lst kk).wk l5.ban, fun x hx => ((hh2 x hx).kb r2.lst kk).wk l5.ban, unF q5⟩
    | true =>
      refine iteT ⟨Φ.z D av, E5, x0, s5, _, r5, (xz _ _), unT q5, fun it1 E6 s6 J1 H6 hold1 l6 r6 k6 jo1 hh6 q6 => ?_⟩
      have kk6 : KB E2 H2 H6 := kk.trans l5 k6
      have ll := l6.trans l5
      refine lcI_ok hsl1 xz r6 ((ra.kb r2.lst kk6).wk ll.ban) jo1 hh6 q6 fun E7 s7 acc7 av7 H7 l7 r7 k7 ra7 q7 => ?_
      have kz : KZ E2 D H2 H7 := (KZ.of kk6).trans ll k7
      have l27 := l7.trans ll
      have eb : ∀ (E : OE), ban (Φ.z D av7) E = ban (Φ.z D av) E := fun _ => rfl
      refine ⟨E7, _, acc7, av7, l27.trans l2, r2.backZ r7 hw kz l27, k2.trans l2 kz, ra7, fun x hx => ?_, q7⟩
      rw [eb]
      exact ((hh2 x hx).kz r2.lst eD2 kz).wk l27.ban
  · have e : i = L.length := by omega
    subst e
    rw [List.drop_length] at q2
    refine .inl ⟨jst (by rw [hL]), ?_⟩
    have nD : D ∉ ban Φ E2 := fun z => by
      have hz := (r2.zz (D, .lst av) List.mem_cons_self).2.1
      rcases List.mem_append.mp z with z | z
      · exact hz z
      · rcases List.mem_append.mp z with z | z
        · exact (List.nodup_cons.mp r2.znd).1 z
        · obtain ⟨⟨o, e⟩, _⟩ := r2.alive D z
          rw [show Φ.H0 D = none from (r2.zz (D, .lst av) List.mem_cons_self).2.2] at e; cases e
    refine k acc E2 s2 D av H2 (l2.trans l1) r2.subZ (r2.ownZ j) (fun c o h1 h2 => k2 c o (k1 c o h1 h2) (fun z => h2 (l1.chg c z)) (ne_of_none (k1 c o h1 h2) hD)) eD2 (ra.wk fun a ha => ?_) nD q2.2
    rcases mem_ban_add ha with h | h
    · rw [h]; exact z_mem
    · exact z_ban h
end TR
namespace TR
open PySem PySem.Spec PyProof.Rows L2
section
variable {Φ : Fx} {E : OE} {s : AS} {σ : L2.St} {H : Hp}
/-- a list is given away -/
theorem Rel.frz (r : Rel Φ E s σ H) {i : Nat} {ds : List PyData} (h : s.sl[i]? = some (some (.own ds))) : ∃ v E', σ[i]? = some (some v) ∧ Le E' E ∧ Rel Φ E' (s.set i (.dat (.list ds))) σ H ∧ Rp H (ban Φ E') (.list ds) v := by
  obtain ⟨v, hv, a, xs, rfl, m, ea, ra⟩ := r.val i _ h
  have le : Le ⟨E.dk, E.R.filter (fun x => decide (x.2 ≠ a))⟩ E := ⟨rfl, fun x hx => (List.mem_filter.mp hx).1⟩
  generalize hE : (⟨E.dk, E.R.filter (fun x => decide (x.2 ≠ a))⟩ : OE) = E' at le
  have hR : ∀ x, x ∈ E'.R ↔ x ∈ E.R ∧ x.2 ≠ a := fun x => by rw [← hE]; simp
  have hdk : E'.dk = E.dk := le.1
  obtain ⟨_, g1, g2, g3⟩ := r.own i a m
  have ac : a ∈ chg E := List.mem_append_right _ (List.mem_map.mpr ⟨_, m, rfl⟩)
  have nb : a ∉ ban Φ E' := fun z => by
    rcases List.mem_append.mp z with z | z
    · rcases List.mem_append.mp z with z | z
      · rw [hdk] at z; exact g2 z
      · obtain ⟨x, hx, e⟩ := List.mem_map.mp z
        exact ((hR x).mp hx).2 e
    · rcases List.mem_append.mp z with z | z
      · obtain ⟨x, hx, e⟩ := List.mem_map.mp z
        exact (r.zz x hx).2.1 (by rw [e]; exact ac)
      · exact g1 z
  have rp : Rp H (ban Φ E') (.list ds) (.ref a) := ⟨a, xs, rfl, ea, nb, ra.wk le.ban⟩
  refine ⟨.ref a, E', hv, le, ?_, rp⟩
  refine ⟨by show (s.sl.set i _).length = _; rw [List.length_set]; exact r.len, fun j x hx => ?_, fun d p q e => ?_, fun j b hb => ?_, fun j k b h1 h2 => r.inj j k b ((hR _).mp h1).1 ((hR _).mp h2).1, r.fr, fun t e => hdk.trans (r.dk0 t e), r.alive, fun x hx => (r.held x hx).wk le.ban, fun x hx => ?_, r.znd, by rw [hdk]; exact r.tt⟩
  · by_cases e : i = j
    · subst e
      have hl := (List.getElem?_eq_some_iff.mp h).1
      have hx2 : (s.sl.set i (some (.dat (.list ds))))[i]? = some (some x) := hx
      rw [List.getElem?_set_self hl] at hx2
      cases hx2
      exact ⟨_, hv, rp⟩
    · have hx2 : (s.sl.set i (some (.dat (.list ds))))[j]? = some (some x) := hx
      rw [List.getElem?_set_ne e] at hx2
      obtain ⟨w, h1, h2⟩ := r.val j x hx2
      refine ⟨w, h1, ?_⟩
      cases x with
      | dat d => exact Rp.wk le.ban (show Rp H (ban Φ E) d w from h2)
      | own es =>
        obtain ⟨b, ys, e1, m1, h3, h4⟩ := h2
        exact ⟨b, ys, e1, (hR _).mpr ⟨m1, fun z => e (r.inj i j a m (z ▸ m1))⟩, h3, h4.wk le.ban⟩
      | dct kvs =>
        obtain ⟨b, ks, e1, m1, h3, h4⟩ := h2
        exact ⟨b, ks, e1, (hR _).mpr ⟨m1, fun z => e (r.inj i j a m (z ▸ m1))⟩, h3, h4.wk le.ban⟩
      | dcn kvs =>
        obtain ⟨b, ks, e1, m1, h3, h4⟩ := h2
        exact ⟨b, ks, e1, (hR _).mpr ⟨m1, fun z => e (r.inj i j a m (z ▸ m1))⟩, h3, h4.wk le.ban⟩
      | dcl kvs =>
        obtain ⟨b, ks, e1, m1, h3, hn, h4⟩ := h2
        exact ⟨b, ks, e1, (hR _).mpr ⟨m1, fun z => e (r.inj i j a m (z ▸ m1))⟩, h3, hn, h4.mono (fun _ _ h => h.wk le.ban) fun c _ m2 h => ⟨(hR _).mpr ⟨m2, fun z => e (r.inj i j a m (z ▸ m2))⟩, h⟩⟩
      | lck t kvs =>
        obtain ⟨b, e1, h3, h5, h4⟩ := h2
        exact ⟨b, e1, fun z => h3 (le.ban _ z), h5, h4.mono (fun _ _ h => h.wk le.ban) fun _ _ h => h⟩
      | bor d =>
        rcases h2 with h2 | ⟨b, es, ys, e1, e2, h3, h5, h6⟩
        · exact .inl (h2.wk le.ban)
        · exact .inr ⟨b, es, ys, e1, e2, h3, h5, h6.wk le.ban⟩
      | deck =>
        obtain ⟨d, p, q, e1, e2⟩ := h2
        exact ⟨d, p, q, hdk.trans e1, e2⟩
      | exc x =>
        obtain ⟨b, da, e1, e2, h3, h4⟩ := h2
        exact ⟨b, da, e1, e2, h3.wk le.ban, h4⟩
  · rw [hdk] at e
    obtain ⟨h1, h2⟩ := r.dk d p q e
    exact ⟨h1, fun b hb => h2 b (by rw [← hdk]; exact hb)⟩
  · obtain ⟨h1, h2, h3, h4⟩ := r.own j b ((hR _).mp hb).1
    exact ⟨h1, h2, by rw [hdk]; exact h3, h4⟩
  · obtain ⟨z1, z2, z3⟩ := r.zz x hx
    exact ⟨z1, fun z => z2 (le.chg _ z), z3⟩
end
section
variable {X : Cx} {Ec : EC}
/-! ### what is walked: lists, tuples -/
theorem pi_seq {tg l : Expr} {tl : TE} (hl : PE X l tl) : PI X tg l (fun σ H R => tl σ H fun x H1 => ∃ a xs, x = .ref a ∧ ((SqL X.K H1 a xs ∧ R (Itl X.K a) H1) ∨ (SqT X.K H1 a xs ∧ R (Itt X.K a) H1))) := by
  constructor
  intro pins s σ H R I0 h0
  refine thn (hl.run pins s σ H _ I0 h0) ?_
  rintro v t ⟨x, G, I, rx, a, xs, rfl, hx⟩
  cases rx
  have big : ∀ b ∈ [t.heap.objs.size], FpOk X pins G b := fun b hb => by
    rw [List.mem_singleton.mp hb]
    exact I.fpOk (Nat.le_refl _) (I.hok.fresh (Nat.le_refl _))
  rcases hx with ⟨hq, q⟩ | ⟨hq, q⟩
  · obtain ⟨its, _, pl, _⟩ := I.list hq
    exact wpAny_pyIter_list pl.isList ⟨_, [t.heap.objs.size], _, _, G, rfl, I.kept (t' := t.toks) fun b o e => Heap.get?_push_of_some _ e, turn_list a _, ⟨_, Heap.get?_push_size _ rfl, rfl, rfl⟩, big, q⟩
  · obtain ⟨its, _, pl, _⟩ := I.tuple hq
    exact wpAny_pyIter_tuple (show t.heap.IsTuple a its.toArray from pl) ⟨_, [t.heap.objs.size], _, _, G, rfl, I.kept (t' := t.toks) fun b o e => Heap.get?_push_of_some _ e, turn_tuple a _, ⟨_, Heap.get?_push_size _ rfl, rfl, rfl⟩, big, q⟩
def iSeq (ao : AO) : AI := fun xp s Q => ao xp s fun o s1 => match o with
  | .val (.list L) => Q (.fix L) s1
  | .val (.tuple L) => Q (.fix L) s1
  | .slot i => (match res s1 (.slot i) with
    | some (.list L) => Q (.slt i (.list L)) s1
    | some (.tuple L) => Q (.slt i (.tuple L)) s1
    | _ => False)
  | _ => False
theorem RpAll.at {H : Hp} {bn : List Addr} {ds : List PyData} {xs : List V} (h : RpAll H bn ds xs) {i : Nat} {d : PyData} (e : ds[i]? = some d) : ∃ x, xs[i]? = some x ∧ Rp H bn d x := by
  have hl := h.len
  have hi : i < xs.length := by rw [hl]; exact (List.getElem?_eq_some_iff.mp e).1
  obtain ⟨d', h1, h2⟩ := h.get (List.getElem?_eq_getElem hi)
  rw [e] at h1
  cases h1
  exact ⟨_, List.getElem?_eq_getElem hi, h2⟩
theorem jo_list {K : PySem.W.Frag} {bn : List Addr} {H : Hp} {L : List PyData} {a : Addr} {xs : List V} (e : H a = some (.lst xs)) (ra : RpAll H bn L xs) (i : Nat) : (∀ d, L[i]? = some d → (Itl K a).go i H ∧ ∀ x H2, (Itl K a).yld i H x H2 → Same H H2 ∧ Rp H2 bn d x) ∧ (L.length = i → (Itl K a).stop i H) := by
  refine ⟨fun d hd => ?_, fun hi => ⟨xs, sqL e, by rw [ra.len]; exact Nat.le_of_eq hi⟩⟩
  obtain ⟨x, hx, hp⟩ := ra.at hd
  refine ⟨⟨xs, x, sqL e, hx⟩, fun y H2 ⟨e2, hy⟩ => ?_⟩
  subst e2
  have := hy xs (sqL e)
  rw [hx] at this
  cases this
  exact ⟨.refl _, hp⟩
theorem jo_tup {K : PySem.W.Frag} {bn : List Addr} {H : Hp} {L : List PyData} {a : Addr} {xs : List V} (e : TF H a xs) (ra : RpAll H bn L xs) (i : Nat) : (∀ d, L[i]? = some d → (Itt K a).go i H ∧ ∀ x H2, (Itt K a).yld i H x H2 → Same H H2 ∧ Rp H2 bn d x) ∧ (L.length = i → (Itt K a).stop i H) := by
  refine ⟨fun d hd => ?_, fun hi => ⟨xs, .inl e.rd, by rw [ra.len]; exact Nat.le_of_eq hi⟩⟩
  obtain ⟨x, hx, hp⟩ := ra.at hd
  refine ⟨⟨xs, x, .inl e.rd, hx⟩, fun y H2 ⟨e2, hy⟩ => ?_⟩
  subst e2
  have := hy xs (.inl e.rd)
  rw [hx] at this
  cases this
  exact ⟨.refl _, hp⟩
theorem ai_seq {tg l : Expr} {ao : AO} (hl : PE X l (cO Ec ao)) : PI X tg l (cI false Ec (iSeq ao)) := by
  refine (pi_seq hl).sub fun σ H R ⟨Φ, E, xp, s, Qa, r, x, q, k⟩ => ⟨Φ, E, xp, s, _, r, x, q, fun o E1 s1 v H1 l1 r1 k1 p1 q1 => ?_⟩
  have lst : ∀ L, o = .val (.list L) → Qa (.fix L) s1 → ∃ a xs, v = .ref a ∧ ((SqL X.K H1 a xs ∧ R (Itl X.K a) H1) ∨ (SqT X.K H1 a xs ∧ R (Itt X.K a) H1)) := fun L e q => by
    subst e
    obtain ⟨a, xs, rfl, ea, nb, ra⟩ := (show Rp H1 (ban Φ E1) (.list L) v from p1)
    refine ⟨a, xs, rfl, .inl ⟨sqL ea, k (.fix L) E1 s1 _ H1 [.dat (.list L) (.ref a)] l1 r1 k1 (fun Φ E s σ1 H _ hh _ i => ?_) (fun x hx => ?_) q⟩⟩
    · obtain ⟨b, ys, e, eb, _, rb⟩ := hh (.dat (.list L) (.ref a)) List.mem_cons_self
      cases e
      exact jo_list eb rb i
    · rw [List.mem_singleton.mp hx]
      exact p1
  have tup : ∀ L, o = .val (.tuple L) → Qa (.fix L) s1 → ∃ a xs, v = .ref a ∧ ((SqL X.K H1 a xs ∧ R (Itl X.K a) H1) ∨ (SqT X.K H1 a xs ∧ R (Itt X.K a) H1)) := fun L e q => by
    subst e
    obtain ⟨a, xs, rfl, ea, ra⟩ := (show Rp H1 (ban Φ E1) (.tuple L) v from p1)
    refine ⟨a, xs, rfl, .inr ⟨.inl ea.rd, k (.fix L) E1 s1 _ H1 [.dat (.tuple L) (.ref a)] l1 r1 k1 (fun Φ E s σ1 H _ hh _ i => ?_) (fun x hx => ?_) q⟩⟩
    · obtain ⟨b, ys, e, eb, rb⟩ := hh (.dat (.tuple L) (.ref a)) List.mem_cons_self
      cases e
      exact jo_tup eb rb i
    · rw [List.mem_singleton.mp hx]
      exact p1
  split at q1
  · exact lst _ rfl q1
  · exact tup _ rfl q1
  · next i =>
    split at q1
    · next L hL =>
      have aux : ∀ {Φ : Fx} {E : OE} {s : AS} {σ1 : L2.St} {G : Hp}, Rel Φ E s σ1 G → σ1[i]? = some (some v) → (res s (.slot i)) = some (.list L) → ∃ a xs, v = .ref a ∧ G a = some (.lst xs) ∧ RpAll G (ban Φ E) L xs := fun r h1 h2 => by
        rcases r.res (o := .slot i) h1 h2 with ⟨a, xs, e, ea, _, ra⟩ | ⟨a, ds, xs, e0, e, ea, ra⟩
        · exact ⟨a, xs, e, ea, ra⟩
        · cases e0; exact ⟨a, xs, e, ea, ra⟩
      obtain ⟨a, xs, rfl, ea, ra⟩ := aux r1 p1 hL
      refine ⟨a, xs, rfl, .inl ⟨sqL ea, k (.slt i (.list L)) E1 s1 _ H1 [] l1 r1 k1 (fun Φ E s σ1 H rr hh ⟨c1, c2⟩ j => ?_) (fun x hx => by cases hx) q1⟩⟩
      obtain ⟨b, ys, e, eb, rb⟩ := aux rr (by rw [c1]; exact p1) c2
      cases e
      exact jo_list eb rb j
    · next L hL =>
      have aux : ∀ {Φ : Fx} {E : OE} {s : AS} {σ1 : L2.St} {G : Hp}, Rel Φ E s σ1 G → σ1[i]? = some (some v) → (res s (.slot i)) = some (.tuple L) → ∃ a xs, v = .ref a ∧ TF G a xs ∧ RpAll G (ban Φ E) L xs := fun r h1 h2 => by
        rcases r.res (o := .slot i) h1 h2 with ⟨a, xs, e, ea, ra⟩ | ⟨a, ds, xs, e0, e, ea, ra⟩
        · exact ⟨a, xs, e, ea, ra⟩
        · cases e0
      obtain ⟨a, xs, rfl, ea, ra⟩ := aux r1 p1 hL
      refine ⟨a, xs, rfl, .inr ⟨.inl ea.rd, k (.slt i (.tuple L)) E1 s1 _ H1 [] l1 r1 k1 (fun Φ E s σ1 H rr hh ⟨c1, c2⟩ j => ?_) (fun x hx => by cases hx) q1⟩⟩
      obtain ⟨b, ys, e, eb, rb⟩ := aux rr (by rw [c1]; exact p1) c2
      cases e
      exact jo_tup eb rb j
    · exact q1.elim
  · exact q1.elim
/-! ### ranges -/
def rngD (lo : Int) (n : Nat) : List PyData := (List.range n).map fun k => .int (lo + (k : Nat))
theorem jo_range {w : Bool} {σ : L2.St} (hw : w = false) (lo : Int) (n : Nat) : JOk w σ (Itr lo n) (.fix (rngD lo n)) [] := fun Φ E s σ1 H _ _ _ i => by
  subst hw
  refine ⟨fun d hd => ?_, fun hi => ?_⟩
  · have hd2 : (rngD lo n)[i]? = some d := hd
    unfold rngD at hd2
    rw [List.getElem?_map] at hd2
    obtain ⟨k, hk, rfl⟩ := Option.map_eq_some_iff.mp hd2
    obtain ⟨hl, e⟩ := List.getElem?_eq_some_iff.mp hk
    rw [List.length_range] at hl
    rw [List.getElem_range] at e
    subst e
    exact ⟨hl, fun x H2 ⟨e1, e2⟩ => by subst e1 e2; exact ⟨.refl _, rfl⟩⟩
  · have : (rngD lo n).length ≤ i := Nat.le_of_eq hi
    unfold rngD at this
    rw [List.length_map, List.length_range] at this
    exact this
def iRange1 (aa : AA) : AI := fun xp s Q => aa xp s fun os s1 => rv os fun ds => match ds with
  | [.int j] => -(2 ^ 62) ≤ j ∧ j < 2 ^ 62 ∧ Q (.fix (rngD 0 j.toNat)) s1
  | _ => False
def iRange2 (aa : AA) : AI := fun xp s Q => aa xp s fun os s1 => rv os fun ds => match ds with
  | [.int i, .int j] => (-(2 ^ 62) ≤ i ∧ i < 2 ^ 62 ∧ -(2 ^ 62) ≤ j ∧ j < 2 ^ 62) ∧ Q (.fix (rngD i (j - i).toNat)) s1
  | _ => False
theorem ai_range1 {tg a : Expr} {aa : AA} {p pos : Pos} (hg : Gl X "range") (hm : X.mg "range" = none) (ha : PA X [a] (cA Ec aa)) (hs : starEach [a] X.env = [(false, eval a X.env)] := by rfl) : PI X tg (.Call (.Name "range" p) [a] [] pos) (cI false Ec (iRange1 aa)) := by
  refine (pi_range1 hg hm ha hs).sub fun σ H R ⟨Φ, E, xp, s, Qa, r, x, q, k⟩ => ⟨Φ, E, xp, s, _, r, x, q, fun os E1 s1 vs H1 l1 r1 k1 p1 q1 => ?_⟩
  obtain ⟨ds, e, q1⟩ := rv_get q1
  have ra := vals_rp p1 e
  split at q1
  · next j =>
    obtain ⟨v, t, rfl, rfl, rfl⟩ := ra
    obtain ⟨h1, h2, q1⟩ := q1
    exact ⟨j, rfl, h1, h2, k _ E1 s1 _ H1 [] l1 r1 k1 (jo_range rfl _ _) (fun x hx => by cases hx) q1⟩
  · exact q1.elim
theorem ai_range2 {tg a b : Expr} {aa : AA} {p pos : Pos} (hg : Gl X "range") (hm : X.mg "range" = none) (ha : PA X [a, b] (cA Ec aa)) (hs : starEach [a, b] X.env = [(false, eval a X.env), (false, eval b X.env)] := by rfl) (hs2 : starEach [b] X.env = [(false, eval b X.env)] := by rfl) : PI X tg (.Call (.Name "range" p) [a, b] [] pos) (cI false Ec (iRange2 aa)) := by
  refine (pi_range2 hg hm ha hs hs2).sub fun σ H R ⟨Φ, E, xp, s, Qa, r, x, q, k⟩ => ⟨Φ, E, xp, s, _, r, x, q, fun os E1 s1 vs H1 l1 r1 k1 p1 q1 => ?_⟩
  obtain ⟨ds, e, q1⟩ := rv_get q1
  have ra := vals_rp p1 e
  split at q1
  · next i j =>
    obtain ⟨v, t, rfl, rfl, v2, t2, rfl, rfl, rfl⟩ := ra
    obtain ⟨h1, q1⟩ := q1
    exact ⟨i, j, rfl, h1, k _ E1 s1 _ H1 [] l1 r1 k1 (jo_range rfl _ _) (fun x hx => by cases hx) q1⟩
  · exact q1.elim
/-! ### comprehensions as values and in assignments -/
theorem af_lc {w : Bool} (j : Nat) {elt tg iter : Expr} {ifs : List Expr} {scope : Scope} {own : List (Str × Nat)} {pos : Pos} {ai : AI} {sl : List Nat} {b : AB} {t : AT} {a : AE} (hc : X.calm = true) (hN : X.N.Nodup) (hi : PI X tg iter (cI w Ec ai)) (ok : BlkOk X.N X.env.scope scope own)
    (hg : ∀ (s : Shared) (H : Hp) (C : Addr) (cl : List (Str × Addr)) (fp : List Addr), PG (X.blk s H scope (compEnvC scope cl C X.env) fp) tg (cG w sl b)) (ht : ∀ (s : Shared) (H : Hp) (C : Addr) (cl : List (Str × Addr)) (fp : List Addr), PTs (X.blk s H scope (compEnvC scope cl C X.env) fp) ifs (cT Ec.z t))
    (he : ∀ (s : Shared) (H : Hp) (C : Addr) (cl : List (Str × Addr)) (fp : List Addr), PE (X.blk s H scope (compEnvC scope cl C X.env) fp) elt (cE Ec.z a)) (hsl : ∀ i ∈ sl, i ∈ own.map (·.2) := by decide) (hs : ∀ x, foldedSetIterable iter X.env x = pure x := by intro _; rfl) :
    PE X (.ListComp elt [⟨tg, iter, ifs, 0⟩] scope pos) (cF j Ec (aLc ai b t a (own.map (·.2)))) := (pe_lc hc hN hi ok hg ht he hs).sub fun _ _ _ h => lc_ok hsl h
theorem ts_nil : PTs X [] (cT Ec tYesA) := ⟨fun pins s σ H Q I h => pts_nil.run pins s σ H Q I (yes_ok h)⟩
theorem ts_one {c : Expr} {t : AT} (h : PT X c (cT Ec t)) : PTs X [c] (cT Ec t) := pts_one h
theorem cF_E {i : Nat} {a : AE} {σ : L2.St} {H : Hp} {Q : VK} (h : cE Ec a σ H Q) : cF i Ec a σ H Q := by
  obtain ⟨Φ, E, xp, s, Qa, r0, x0, q, k⟩ := h
  exact ⟨Φ, E, xp, s, Qa, r0, x0, q, fun ds E1 s1 p xs H1 l r1 _ kb ep ra nb q1 => k (.list ds) E1 s1 _ H1 l r1 kb ⟨p, xs, rfl, ep, nb, ra.wk fun _ h => ban_add h⟩ q1⟩
end
end TR
namespace TR
open PySem PySem.Spec PyProof.Rows L2
/-! ### defs: their parameters, their promise -/
inductive Md where
  | dat | bor | deck
  deriving DecidableEq
abbrev AF := List PyData → Nat → (PyData → Nat → Prop) → (XD → Nat → Prop) → Prop
def mkA : Md → PyData → AV
  | .dat, d => .dat d
  | .bor, d => .bor d
  | .deck, _ => .deck
def mkAs : List Md → List PyData → List (Option AV)
  | m :: ms, d :: ds => some (mkA m d) :: mkAs ms ds
  | _, _ => []
def startA (ms : List Md) (k : Nat) (ds : List PyData) (n : Nat) : AS := ⟨mkAs ms ds ++ List.replicate k none, n⟩
inductive ArgsRel (Φ : Fx) (H : Hp) : List Md → List PyData → List V → Prop
  | nil : ArgsRel Φ H [] [] []
  | cons {m : Md} {ms : List Md} {d : PyData} {ds : List PyData} {v : V} {vs : List V} (h : RelS Φ ⟨Φ.dk0, []⟩ H 0 (mkA m d) v) (t : ArgsRel Φ H ms ds vs) : ArgsRel Φ H (m :: ms) (d :: ds) (v :: vs)
structure Pre (Φ : Fx) (H : Hp) (n : Nat) (T : List (Addr × Str) := []) : Prop where
  h0 : Φ.H0 = H
  tt : Φ.tt = T
  tk : Φ.tt = [] ∨ ∃ d p q, Φ.dk0 = some (d, p, (q, Φ.tt))
  t : Φ.T = []
  z : Φ.Z = []
  ex : Φ.ex = none
  cs : Φ.cs = []
  alive : ∀ b ∈ Φ.B, (∃ o, H b = some o) ∧ b ∉ dkl Φ.dk0
  dk : ∀ d p q, Φ.dk0 = some (d, p, q) → DeckT H d p q n
structure XRet (Φ : Fx) (x : XD) (n : Nat) (da : Option Addr) (H : Hp) : Prop where
  fr : ∀ b o, Φ.H0 b = some o → b ∉ dkl Φ.dk0 → H b = some o
  dk : ∀ d p q, Φ.dk0 = some (d, p, q) → DeckT H d p q n
  rp : XRep H (dkl Φ.dk0 ++ Φ.B) x da
def spAT (T : List (Addr × Str)) (ms : List Md) (F : AF) : Sp := fun vs H Q Ec => ∃ Φ ds n Qa xa, Pre Φ H n T ∧ ArgsRel Φ H ms ds vs ∧ F ds n Qa xa ∧ (∀ r m v H', RetOk Φ r m v H' → Qa r m → Q v H') ∧ ∀ x m da H', XRet Φ x m da H' → xa x m → Ec (.ref x.cls) da H'
abbrev spA (ms : List Md) (F : AF) : Sp := spAT [] ms F
theorem ArgsRel.len {Φ : Fx} {H : Hp} : ∀ {ms : List Md} {ds : List PyData} {vs : List V}, ArgsRel Φ H ms ds vs → vs.length = ms.length ∧ (mkAs ms ds).length = ms.length
  | _, _, _, .nil => ⟨rfl, rfl⟩
  | _, _, _, .cons h t => by
    obtain ⟨h1, h2⟩ := t.len
    exact ⟨by simp [h1], by simp [mkAs, h2]⟩
theorem RelS.any {Φ : Fx} {t : Option (Addr × Addr × DQ)} {H : Hp} {i j : Nat} {m : Md} {d : PyData} {v : V} (h : RelS Φ ⟨t, []⟩ H i (mkA m d) v) : RelS Φ ⟨t, []⟩ H j (mkA m d) v := by
  cases m <;> exact h
theorem ArgsRel.val {Φ : Fx} {H : Hp} : ∀ {ms : List Md} {ds : List PyData} {vs : List V}, ArgsRel Φ H ms ds vs → ∀ {i : Nat} {x : AV}, (mkAs ms ds)[i]? = some (some x) → ∃ v, vs[i]? = some v ∧ RelS Φ ⟨Φ.dk0, []⟩ H i x v
  | _, _, _, .nil, i, x, h => by simp [mkAs] at h
  | _, _, _, .cons h t, i, x, e => by
    cases i with
    | zero =>
      simp [mkAs] at e
      subst e
      exact ⟨_, rfl, h⟩
    | succ i =>
      simp only [mkAs, List.getElem?_cons_succ] at e
      obtain ⟨v, h1, h2⟩ := t.val e
      refine ⟨v, h1, ?_⟩
      cases x with
      | dat _ => exact h2
      | bor _ => exact h2
      | deck => exact h2
      | own _ => obtain ⟨a, xs, _, m, _⟩ := h2; cases m
      | dct _ => obtain ⟨a, xs, _, m, _⟩ := h2; cases m
      | dcn _ => obtain ⟨a, xs, _, m, _⟩ := h2; cases m
      | dcl _ => obtain ⟨a, xs, _, m, _⟩ := h2; cases m
      | lck _ _ => exact h2
      | exc _ => exact h2
theorem start_rel {T : List (Addr × Str)} {Φ : Fx} {H : Hp} {n : Nat} {N : List Str} {ms : List Md} {ds : List PyData} {vs : List V} {k : Nat} (p : Pre Φ H n T) (a : ArgsRel Φ H ms ds vs) (hk : ms.length + k = N.length) : Rel Φ ⟨Φ.dk0, []⟩ (startA ms k ds n) (L2.start N vs) H := by
  obtain ⟨l1, l2⟩ := a.len
  have hl : (mkAs ms ds ++ List.replicate k none).length = (L2.start N vs).length := by
    simp [L2.start, l1, l2]; omega
  refine ⟨hl, fun i x h => ?_, fun d q r e => ⟨p.dk d q r e, fun b hb => ⟨fun z => (p.alive b z).2 hb, .inl hb⟩⟩, fun i b h => (nomatch h), fun i j b h => (nomatch h), fun b o h _ => p.h0 ▸ h, fun t e => e, fun b hb => p.h0 ▸ p.alive b hb, fun x hx => (by rw [p.t] at hx; cases hx), fun x hx => (by rw [p.z] at hx; cases hx), (by rw [p.z]; exact List.nodup_nil), p.tk⟩
  have h2 : (mkAs ms ds ++ List.replicate k none)[i]? = some (some x) := h
  by_cases hi : i < (mkAs ms ds).length
  · rw [List.getElem?_append_left hi] at h2
    obtain ⟨v, h3, h4⟩ := a.val h2
    refine ⟨v, ?_, h4⟩
    unfold L2.start
    rw [List.getElem?_append_left (by rw [List.length_map, l1, ← l2]; exact hi), List.getElem?_map, h3]
    rfl
  · rw [List.getElem?_append_right (by omega)] at h2
    obtain ⟨hlt, e⟩ := List.getElem?_eq_some_iff.mp h2
    rw [List.getElem_replicate] at e
    cases e
section
variable {P : Program} {w : World} {K : PySem.W.Frag} {mg : Str → Option Value} {base : Heap}
def fnF (ms : List Md) (k : Nat) (b : AST) : AF := fun ds n Qa xa => b (fun x s => xa x s.n) { nx := fun s => Qa .none s.n, rt := Qa } (startA ms k ds n)
theorem fn_body {T : List (Addr × Str)} {ms : List Md} {k : Nat} {N : List Str} {b : AST} {vs : List V} {H : Hp} {Q : VK} {Ec : XK} (hk : ms.length + k = N.length) (h : spAT T ms (fnF ms k b) vs H Q Ec) : cS (eT T Ec) b { nx := fun _ H' => Q .non H', rt := Q } (L2.start N vs) H := by
  obtain ⟨Φ, ds, n, Qa, xa, p, a, f, hq, hx⟩ := h
  have bn : ∀ {E : OE} {s : AS} {σ : L2.St} {G : Hp}, Rel Φ E s σ G → ∀ b ∈ dkl Φ.dk0 ++ Φ.B, b ∈ ban Φ E := fun r b hb => by
    rcases List.mem_append.mp hb with z | z
    · cases e : Φ.dk0 with
      | none => rw [e] at z; cases z
      | some t =>
        refine List.mem_append_left _ (List.mem_append_left _ ?_)
        rw [r.dk0 t e, ← e]; exact z
    · exact List.mem_append_right _ (List.mem_append_right _ z)
  refine ⟨Φ, ⟨Φ.dk0, []⟩, _, _, _, start_rel p a hk, ⟨⟨p.ex, p.cs, p.tt⟩, fun x E s σ G da r xr q => ?_⟩, f, fun E s σ G r q => hq _ _ _ G (r.ret (d := .none) rfl) q, fun _ _ _ _ _ q => q.elim, fun _ _ _ _ _ q => q.elim, fun r m v G ro q => hq r m v G ro q⟩
  exact hx x s.n da G ⟨r.fr, fun d p q e => (r.dk d p q (r.dk0 _ e)).1, xr.wk (bn r)⟩ q
theorem fn_ok {T : List (Addr × Str)} {ms : List Md} {nk k : Nat} {N ps : List Str} {b : AST} {x qual : Str} {st : Stmt} {f : Addr} {fd : FuncData} (F : Fun K x qual st f fd) (S : FnScope N ps (defScope st)) (hk : ms.length + nk = N.length) (hp : ms.length = ps.length)
    (hbody : ∀ (cdv : Value) (A : Around) (outer : List Env) (s : Shared) (H : Hp) (E : XK), Room k (A.deeper (envOfC qual (defScope st) s.heap.objs.size f cdv)) → PSs (cxOf CX0 P w K mg base N qual (defScope st) f cdv A outer s H E).nox (defBody st) (cS (eT T E) b)) : FnOk P w K mg base CX0 (k + 1) f fd ps (spAT T ms (fnF ms nk b)) := by
  refine F.ok S (fun vs H Q E h => ?_) fun cdv A outer s H vs Q E hr h => ⟨_, hbody cdv A outer s H E hr, fn_body hk h⟩
  obtain ⟨Φ, ds, n, Qa, xa, _, a, _⟩ := h
  rw [a.len.1, hp]
theorem fn_okX {T : List (Addr × Str)} {ms : List Md} {nk k : Nat} {N ps : List Str} {b : AST} {x qual : Str} {st : Stmt} {f : Addr} {fd : FuncData} (F : Fun K x qual st f fd) (S : FnScope N ps (defScope st)) (hk : ms.length + nk = N.length) (hp : ms.length = ps.length)
    (hbody : ∀ (cdv : Value) (A : Around) (outer : List Env) (s : Shared) (H : Hp) (E : XK), Room k (A.deeper (envOfC qual (defScope st) s.heap.objs.size f cdv)) → PSs (cxOf (L2.CX P w) P w K mg base N qual (defScope st) f cdv A outer s H E) (defBody st) (cS (eT T E) b)) : FnOk P w K mg base (L2.CX P w) (k + 1) f fd ps (spAT T ms (fnF ms nk b)) := by
  refine F.okX S (fun vs H Q E h => ?_) fun cdv A outer s H vs Q E hr h => ⟨_, hbody cdv A outer s H E hr, fn_body hk h⟩
  obtain ⟨Φ, ds, n, Qa, xa, _, a, _⟩ := h
  rw [a.len.1, hp]
theorem fn_never {T : List (Addr × Str)} {ms : List Md} {f : Addr} {fd : FuncData} {ps : List Str} {CX : CXT} {k : Nat} : FnOk P w K mg base CX k f fd ps (spAT T ms fun _ _ _ _ => False) := ⟨fun vs H Q E ⟨_, _, _, _, _, _, _, h, _⟩ => h.elim, fun _ _ _ _ _ _ _ _ _ _ _ _ _ ⟨_, _, _, _, _, _, _, h, _⟩ => h.elim⟩
end
/-- where it does not raise -/
def calm (F : AF) : AF := fun ds n Qa _ => F ds n Qa fun _ _ => False
/-! ### calls -/
def resM : List Md → AS → List Op → Option (List PyData)
  | [], _, [] => some []
  | .dat :: ms, s, .val d :: os => (resM ms s os).map (d :: ·)
  | .bor :: ms, s, o :: os => match res s o with
    | some d => (resM ms s os).map (d :: ·)
    | none => none
  | .deck :: ms, s, .deck :: os => (resM ms s os).map (PyData.none :: ·)
  | _, _, _ => none
def rm : List Md → AS → List Op → (List PyData → Prop) → Prop
  | [], _, [], k => k []
  | .dat :: ms, s, .val d :: os, k => rm ms s os fun ds => k (d :: ds)
  | .bor :: ms, s, o :: os, k => rs s o fun d => rm ms s os fun ds => k (d :: ds)
  | .deck :: ms, s, .deck :: os, k => rm ms s os fun ds => k (PyData.none :: ds)
  | _, _, _, _ => False
theorem rm_get : ∀ {ms : List Md} {s : AS} {os : List Op} {k : List PyData → Prop}, rm ms s os k → ∃ ds, resM ms s os = some ds ∧ k ds
  | [], _, [], k, h => ⟨[], rfl, h⟩
  | .dat :: ms, s, .val d :: os, k, h => by
    obtain ⟨ds, e, q⟩ := rm_get (ms := ms) (s := s) (os := os) (k := fun ds => k (d :: ds)) h
    exact ⟨d :: ds, by unfold resM; rw [e]; rfl, q⟩
  | .bor :: ms, s, o :: os, k, h => by
    obtain ⟨d, e1, h⟩ := rs_get (show rs s o (fun d => rm ms s os fun ds => k (d :: ds)) from h)
    obtain ⟨ds, e, q⟩ := rm_get h
    exact ⟨d :: ds, by unfold resM; rw [e1, e]; rfl, q⟩
  | .deck :: ms, s, .deck :: os, k, h => by
    obtain ⟨ds, e, q⟩ := rm_get (ms := ms) (s := s) (os := os) (k := fun ds => k (PyData.none :: ds)) h
    exact ⟨PyData.none :: ds, by unfold resM; rw [e]; rfl, q⟩
  | [], _, _ :: _, _, h => h.elim
  | .dat :: _, _, [], _, h => h.elim
  | .dat :: _, _, .slot _ :: _, _, h => h.elim
  | .dat :: _, _, .deck :: _, _, h => h.elim
  | .bor :: _, _, [], _, h => h.elim
  | .deck :: _, _, [], _, h => h.elim
  | .deck :: _, _, .val _ :: _, _, h => h.elim
  | .deck :: _, _, .slot _ :: _, _, h => h.elim
def aCall (ms : List Md) (F : AF) (aa : AA) : AE := fun xp s Q => aa xp s fun os s1 => rm ms s1 os fun ds => F ds s1.n (fun r n => Q r { s1 with n := n }) (fun x n => xp x { s1 with n := n })
def aCall0 (ms : List Md) (F : AF) (aa : AA) : AE := fun xp s Q => aa xp s fun os s1 => rm ms s1 os fun ds => F ds 0 (fun r _ => Q r s1) (fun x _ => xp x s1)
section
variable {Φ : Fx} {E : OE} {s : AS} {σ : L2.St} {H : Hp}
theorem Rel.after {H' : Hp} {m : Nat} (r : Rel Φ E s σ H) (h : ∀ b o, H b = some o → b ∉ dkl E.dk → H' b = some o) (hd : ∀ d p q, E.dk = some (d, p, q) → DeckT H' d p q m) : Rel Φ E { s with n := m } σ H' := by
  have kb : KB E H H' := fun b o e n => h b o e fun z => n (List.mem_append_left _ z)
  refine ⟨r.len, fun i x e => ?_, fun d p q e => ⟨hd d p q e, (r.dk d p q e).2⟩, fun i a m => ?_, r.inj, fun b o h1 h2 => h _ _ (r.fr b o h1 h2) fun z => ?_, r.dk0, r.alive, fun x hx => (r.held x hx).kb r.lst kb, fun x hx => ?_, r.znd, r.tt⟩
  · obtain ⟨v, h1, h2⟩ := r.val i x e
    refine ⟨v, h1, ?_⟩
    cases x with
    | dat d => exact Rp.kb (show Rp H (ban Φ E) d v from h2) r.lst kb
    | own ds =>
      obtain ⟨a, xs, e1, m1, h3, h4⟩ := h2
      exact ⟨a, xs, e1, m1, h _ _ h3 (r.own i a m1).2.2.1, h4.kb r.lst kb⟩
    | dct kvs =>
      obtain ⟨a, ks, e1, m1, h3, h4⟩ := h2
      exact ⟨a, ks, e1, m1, h _ _ h3 (r.own i a m1).2.2.1, h4.kb r.lst kb⟩
    | dcn kvs =>
      obtain ⟨a, ks, e1, m1, h3, h4⟩ := h2
      exact ⟨a, ks, e1, m1, h _ _ h3 (r.own i a m1).2.2.1, h4.kb r.lst kb⟩
    | dcl kvs =>
      obtain ⟨a, ks, e1, m1, h3, hn, h4⟩ := h2
      exact ⟨a, ks, e1, m1, h _ _ h3 (r.own i a m1).2.2.1, hn, h4.mono (fun _ _ h => h.kb r.lst kb) fun b _ m2 h5 => ⟨m2, h _ _ h5 (r.own i b m2).2.2.1⟩⟩
    | lck t kvs =>
      obtain ⟨a, e1, h3, h5, h4⟩ := h2
      exact ⟨a, e1, h3, h5, h4.mono (fun _ _ h => h.kb r.lst kb) fun _ _ h => kb _ _ h fun z => h3 (List.mem_append_left _ z)⟩
    | bor d =>
      rcases h2 with h2 | ⟨a, ds, xs, e1, e2, h3, h5, h6⟩
      · exact .inl (h2.kb r.lst kb)
      · refine .inr ⟨a, ds, xs, e1, e2, h _ _ h3 fun z => ?_, h5, h6.kb r.lst kb⟩
        cases e : E.dk with
        | none => rw [e] at z; cases z
        | some t => obtain ⟨d, p, q⟩ := t; exact ((r.dk d p q e).2 a z).1 h5
    | deck => exact h2
    | exc x =>
      obtain ⟨b, da, e1, e2, h3, h4⟩ := h2
      exact ⟨b, da, e1, e2, h3.kb r.lst kb, h4⟩
  · obtain ⟨⟨xs, h1, mu⟩, h2⟩ := r.own i a m
    exact ⟨⟨xs, h _ _ h1 h2.2.1, mu⟩, h2⟩
  · cases e : E.dk with
    | none => rw [e] at z; cases z
    | some t =>
      obtain ⟨d, p, q⟩ := t
      rcases ((r.dk d p q e).2 b z).2 with y | y
      · exact h2 y
      · rw [y] at h1; cases h1
  · obtain ⟨z1, z2⟩ := r.zz x hx
    exact ⟨h _ _ z1 fun z => z2.1 (List.mem_append_left _ z), z2⟩
/-- the callee's surroundings -/
def Fx.inner (Φ : Fx) (E : OE) (H : Hp) (T : List (Addr × Str) := []) : Fx := ⟨E.R.map (·.2) ++ (Φ.Z.map (·.1) ++ Φ.B), E.dk, H, [], [], none, [], T⟩
def Fx.inner0 (Φ : Fx) (E : OE) (H : Hp) : Fx := ⟨ban Φ E, none, H, [], [], none, [], []⟩
theorem inner_ban {T : List (Addr × Str)} : ban (Φ.inner E H T) ⟨(Φ.inner E H T).dk0, []⟩ = ban Φ E := by
  show (dkl E.dk ++ []) ++ ([] ++ (E.R.map (·.2) ++ (Φ.Z.map (·.1) ++ Φ.B))) = (dkl E.dk ++ E.R.map (·.2)) ++ (Φ.Z.map (·.1) ++ Φ.B)
  rw [List.append_nil, List.nil_append, List.append_assoc]
theorem inner0_ban : ban (Φ.inner0 E H) ⟨(Φ.inner0 E H).dk0, []⟩ = ban Φ E := by
  show ([] ++ []) ++ ([] ++ ban Φ E) = ban Φ E
  rfl
theorem Rel.pre {T : List (Addr × Str)} (r : Rel Φ E s σ H) (hT : T = [] ∨ Φ.tt = T) : Pre (Φ.inner E H T) H s.n T := by
  refine ⟨rfl, rfl, hT.elim .inl fun e => e ▸ r.tt, rfl, rfl, rfl, rfl, fun b hb => ?_, fun d p q e => (r.dk d p q e).1⟩
  rcases List.mem_append.mp hb with z | z
  · obtain ⟨⟨i, a⟩, hx, rfl⟩ := List.mem_map.mp z
    obtain ⟨⟨xs, h1, _⟩, h2⟩ := r.own i a hx
    exact ⟨⟨_, h1⟩, h2.2.1⟩
  · rcases List.mem_append.mp z with z | z
    · obtain ⟨x, hx, rfl⟩ := List.mem_map.mp z
      obtain ⟨z1, z2, _⟩ := r.zz x hx
      exact ⟨⟨_, z1⟩, fun y => z2 (List.mem_append_left _ y)⟩
    · refine ⟨r.alive' z, fun y => ?_⟩
      have y2 : b ∈ dkl E.dk := y
      cases e : E.dk with
      | none => rw [e] at y2; cases y2
      | some t => obtain ⟨d, p, q⟩ := t; exact ((r.dk d p q e).2 b y2).1 z
theorem Rel.pre0 (r : Rel Φ E s σ H) : Pre (Φ.inner0 E H) H 0 := by
  refine ⟨rfl, rfl, .inl rfl, rfl, rfl, rfl, rfl, fun b hb => ⟨?_, fun z => (nomatch z)⟩, fun d p q e => (nomatch e)⟩
  have hb2 : b ∈ ban Φ E := hb
  cases e : H b with
  | some o => exact ⟨o, rfl⟩
  | none => exact absurd hb2 (r.newban e)
theorem args_rel (r : Rel Φ E s σ H) {Φ' : Fx} (hb : ban Φ' ⟨Φ'.dk0, []⟩ = ban Φ E) (hB : ∀ a ∈ Φ.B, a ∈ Φ'.B) (hR : ∀ i a, (i, a) ∈ E.R → a ∈ Φ'.B) : ∀ {ms : List Md} {os : List Op} {vs : List V} {ds : List PyData}, (Md.deck ∈ ms → Φ'.dk0 = E.dk) → Paired (RpO Φ E σ H) os vs → resM ms s os = some ds → ArgsRel Φ' H ms ds vs
  | [], _, _, _, _, .nil, e => by cases e; exact .nil
  | [], _, _, _, _, .cons _ _, e => by cases e
  | .dat :: ms, .val d :: os, _, _, hd, .cons h t, e => by
    unfold resM at e
    cases e2 : resM ms s os with
    | none => rw [e2] at e; cases e
    | some ds =>
      rw [e2] at e; cases e
      refine .cons ?_ (args_rel r hb hB hR (fun m => hd (List.mem_cons_of_mem _ m)) t e2)
      show Rp H (ban Φ' ⟨Φ'.dk0, []⟩) d _
      rw [hb]; exact h
  | .bor :: ms, o :: os, v0 :: _, _, hd, .cons h t, e => by
    unfold resM at e
    cases e3 : res s o with
    | none => rw [e3] at e; cases e
    | some d =>
      rw [e3] at e
      cases e2 : resM ms s os with
      | none => rw [e2] at e; cases e
      | some ds =>
        rw [e2] at e; cases e
        refine .cons ?_ (args_rel r hb hB hR (fun m => hd (List.mem_cons_of_mem _ m)) t e2)
        show Rp H (ban Φ' ⟨Φ'.dk0, []⟩) d v0 ∨ ∃ a ds xs, d = .list ds ∧ v0 = .ref a ∧ H a = some (.lst xs) ∧ a ∈ Φ'.B ∧ RpAll H (ban Φ' ⟨Φ'.dk0, []⟩) ds xs
        rw [hb]
        cases o with
        | val d' => cases e3; exact .inl h
        | deck => cases e3
        | slot i =>
          simp only [TR.res] at e3
          split at e3
          · next x hx =>
            cases e3
            obtain ⟨v', h1, h2⟩ := r.val i _ hx
            rw [show σ[i]? = some (some _) from h] at h1; cases h1
            exact .inl h2
          · next ds' hx =>
            cases e3
            obtain ⟨v', h1, h2⟩ := r.val i _ hx
            rw [show σ[i]? = some (some _) from h] at h1; cases h1
            obtain ⟨a, xs, e1, m, h3, h4⟩ := h2
            exact .inr ⟨a, ds', xs, rfl, e1, h3, hR i a m, h4⟩
          · next x hx =>
            cases e3
            obtain ⟨v', h1, h2⟩ := r.val i _ hx
            rw [show σ[i]? = some (some _) from h] at h1; cases h1
            rcases h2 with h2 | ⟨a, ds', xs, e, e2, g1, g3, g4⟩
            · exact .inl h2
            · exact .inr ⟨a, ds', xs, e, e2, g1, hB _ g3, g4⟩
          · cases e3
  | .deck :: ms, .deck :: os, _, _, hd, .cons h t, e => by
    unfold resM at e
    cases e2 : resM ms s os with
    | none => rw [e2] at e; cases e
    | some ds =>
      rw [e2] at e; cases e
      refine .cons ?_ (args_rel r hb hB hR (fun m => hd (List.mem_cons_of_mem _ m)) t e2)
      obtain ⟨d, p, q, e1, e3⟩ := h
      exact ⟨d, p, q, (hd List.mem_cons_self).trans e1, e3⟩
  | .dat :: ms, .slot _ :: os, _, _, _, _, e => by cases e
  | .dat :: ms, .deck :: os, _, _, _, _, e => by cases e
  | .deck :: ms, .slot _ :: os, _, _, _, _, e => by cases e
  | .deck :: ms, .val _ :: os, _, _, _, _, e => by cases e
  | .dat :: ms, [], _, _, _, _, e => by cases e
  | .bor :: ms, [], _, _, _, _, e => by cases e
  | .deck :: ms, [], _, _, _, _, e => by cases e
end
theorem call_ok {T : List (Addr × Str)} {Ec : EC} {ms : List Md} {F : AF} {aa : AA} {σ : L2.St} {H : Hp} {Q : VK} (h : cE Ec (aCall ms F aa) σ H Q) (hT : T = [] ∨ Ec.tt = T) : cA Ec aa σ H fun vs H1 => spAT T ms F vs H1 Q (Ec.x σ) := by
  obtain ⟨Φ, E, xp, s, Qa, r, x, q, k⟩ := h
  refine ⟨Φ, E, xp, s, _, r, x, q, fun os E1 s1 vs H1 l1 r1 k1 p1 q1 => ?_⟩
  obtain ⟨ds, e, q1⟩ := rm_get q1
  have fr : ∀ {G : Hp}, (∀ b o, H1 b = some o → b ∉ dkl E1.dk → G b = some o) → KB E1 H1 G := fun h b o e n => h b o e fun z => n (List.mem_append_left _ z)
  have bq : ∀ a ∈ ban Φ E1, a ∈ dkl (Φ.inner E1 H1 T).dk0 ++ (Φ.inner E1 H1 T).B := fun a ha => by
    have ha2 : a ∈ (dkl E1.dk ++ E1.R.map (·.2)) ++ (Φ.Z.map (·.1) ++ Φ.B) := ha
    rw [List.append_assoc] at ha2
    exact ha2
  refine ⟨Φ.inner E1 H1 T, ds, s1.n, _, _, r1.pre (hT.imp_right fun e => x.1.2.2.trans e), args_rel r1 inner_ban (fun a ha => List.mem_append_right _ (List.mem_append_right _ ha)) (fun i a m => List.mem_append_left _ (List.mem_map.mpr ⟨_, m, rfl⟩)) (fun _ => rfl) p1 e, q1, fun y m v G ro qy => ?_, fun y m da G ro qy => ?_⟩
  · exact k y E1 _ v G l1 (r1.after ro.fr ro.dk) (k1.trans l1 (fr ro.fr)) (Rp.wk bq ro.rp) qy
  · exact x.2 y E1 _ σ G da (r1.after ro.fr ro.dk) (ro.rp.wk bq) qy
theorem call0_ok {Ec : EC} {ms : List Md} {F : AF} {aa : AA} {σ : L2.St} {H : Hp} {Q : VK} (hm : Md.deck ∉ ms) (h : cE Ec (aCall0 ms F aa) σ H Q) : cA Ec aa σ H fun vs H1 => spA ms F vs H1 Q (Ec.x σ) := by
  obtain ⟨Φ, E, xp, s, Qa, r, x, q, k⟩ := h
  refine ⟨Φ, E, xp, s, _, r, x, q, fun os E1 s1 vs H1 l1 r1 k1 p1 q1 => ?_⟩
  obtain ⟨ds, e, q1⟩ := rm_get q1
  have sm : ∀ {G : Hp}, (∀ b o, H1 b = some o → b ∉ dkl none → G b = some o) → Same H1 G := fun h b o e => h b o e fun z => (nomatch z)
  refine ⟨Φ.inner0 E1 H1, ds, 0, _, _, r1.pre0, args_rel r1 inner0_ban (fun a ha => List.mem_append_right _ (List.mem_append_right _ ha)) (fun i a m => List.mem_append_left _ (List.mem_append_right _ (List.mem_map.mpr ⟨_, m, rfl⟩))) (fun z => absurd z hm) p1 e, q1, fun y m v G ro qy => ?_, fun y m da G ro qy => ?_⟩
  · exact k y E1 _ v G l1 (r1.same (sm ro.fr)) (k1.trans l1 (.of_same (sm ro.fr))) (Rp.wk (fun a ha => ha) ro.rp) qy
  · exact x.2 y E1 _ σ G da (r1.same (sm ro.fr)) (ro.rp.wk fun a ha => ha) qy
section
variable {X : Cx} {k : Nat} {f : Addr} {fd : FuncData} {ps : List Str} {ms : List Md} {F : AF} {x : Str} {p pos : Pos} {e : Expr} {es : List Expr} {aa : AA}
/-- a def that raises nothing: with the deck, without -/
theorem ae_call {Ec : EC} {T : List (Addr × Str)} (G : FnOk X.prog X.w X.K X.mg X.base CX0 k f fd ps (spAT T ms F)) (hr : Room k X.A) (hg : Gl X x) (hm : X.mg x = some (.ref f)) (hk : PySem.W.keepIn X.K (.ref f) = true) (hb : Binds X.K fd ps []) (ha : PA X (e :: es) (cA Ec aa)) (hdb : (x == ("__debug__" : Str)) = false := by decide) (he : starEach (e :: es) X.env = (false, eval e X.env) :: starEach es X.env := by rfl) (hpl : (backTo pos (starEach es X.env)).any (·.1) = false := by rfl) (hT : T = [] ∨ Ec.tt = T := by first | exact .inl rfl | exact .inr rfl) :
    PE X (.Call (.Name x p) (e :: es) [] pos) (cE Ec (aCall ms (calm F) aa)) := by
  refine (pe_call (dvs := []) (ds := []) G hr hg hm hk hb .nil pass0 ha hdb he hpl).sub fun σ H Q h => ?_
  have key := call_ok h hT
  obtain ⟨Φ, E, xp, s, Qa, r, x, q, k⟩ := key
  refine ⟨Φ, E, xp, s, Qa, r, x, q, fun os E1 s1 vs H1 l1 r1 k1 p1 q1 => ?_⟩
  obtain ⟨Φ', ds, n, Qb, xa, h1, h2, h3, h4, h5⟩ := k os E1 s1 vs H1 l1 r1 k1 p1 q1
  rw [List.append_nil]
  exact ⟨Φ', ds, n, Qb, _, h1, h2, h3, h4, fun _ _ _ _ _ z => z⟩
theorem ae_call0 {Ec : EC} (G : FnOk X.prog X.w X.K X.mg X.base CX0 k f fd ps (spA ms F)) (hd : Md.deck ∉ ms) (hr : Room k X.A) (hg : Gl X x) (hm : X.mg x = some (.ref f)) (hk : PySem.W.keepIn X.K (.ref f) = true) (hb : Binds X.K fd ps []) (ha : PA X (e :: es) (cA Ec aa)) (hdb : (x == ("__debug__" : Str)) = false := by decide) (he : starEach (e :: es) X.env = (false, eval e X.env) :: starEach es X.env := by rfl) (hpl : (backTo pos (starEach es X.env)).any (·.1) = false := by rfl) :
    PE X (.Call (.Name x p) (e :: es) [] pos) (cE Ec (aCall0 ms (calm F) aa)) := by
  refine (pe_call (dvs := []) (ds := []) G hr hg hm hk hb .nil pass0 ha hdb he hpl).sub fun σ H Q h => ?_
  have key := call0_ok hd h
  obtain ⟨Φ, E, xp, s, Qa, r, x, q, k⟩ := key
  refine ⟨Φ, E, xp, s, Qa, r, x, q, fun os E1 s1 vs H1 l1 r1 k1 p1 q1 => ?_⟩
  obtain ⟨Φ', ds, n, Qb, xa, h1, h2, h3, h4, h5⟩ := k os E1 s1 vs H1 l1 r1 k1 p1 q1
  rw [List.append_nil]
  exact ⟨Φ', ds, n, Qb, _, h1, h2, h3, h4, fun _ _ _ _ _ z => z⟩
end
end TR
namespace TR
open PySem PySem.Spec PyProof.Rows L2
/-! ### what a value is, by its data -/
section
variable {H : Hp} {bn : List Addr} {v : V}
theorem RpX.int {i : Int} (h : RpX H bn (.int i) v) : v = .int i := by
  rcases h with h | ⟨_, _, _, e, _⟩
  · exact h
  · cases e
theorem RpX.bool {b : Bool} (h : RpX H bn (.bool b) v) : v = .bl b := by
  rcases h with h | ⟨_, _, _, e, _⟩
  · exact h
  · cases e
theorem RpX.str {x : Str} (h : RpX H bn (.str x) v) : v = .str x := by
  rcases h with h | ⟨_, _, _, e, _⟩
  · exact h
  · cases e
theorem RpX.non (h : RpX H bn .none v) : v = .non := by
  rcases h with h | ⟨_, _, _, e, _⟩
  · exact h
  · cases e
theorem RpX.tup {ds : List PyData} (h : RpX H bn (.tuple ds) v) : ∃ a xs, v = .ref a ∧ TF H a xs ∧ RpAll H bn ds xs := by
  rcases h with h | ⟨_, _, _, e, _⟩
  · exact h
  · cases e
theorem RpX.lst {ds : List PyData} (h : RpX H bn (.list ds) v) : ∃ a xs, v = .ref a ∧ H a = some (.lst xs) ∧ RpAll H bn ds xs := by
  rcases h with ⟨a, xs, e, h1, _, h2⟩ | ⟨a, ds', xs, e, e2, h1, h2⟩
  · exact ⟨a, xs, e, h1, h2⟩
  · cases e; exact ⟨a, xs, e2, h1, h2⟩
theorem rp_newL {H' : Hp} {ds : List PyData} {xs : List V} {p : Addr} (nb : NB H bn) (hp : H p = none) (m : Same H H') (e : H' p = some (.lst xs)) (ra : RpAll H bn ds xs) : Rp H' bn (.list ds) (.ref p) := ⟨p, xs, rfl, e, nb p hp, ra.same m⟩
end
section
variable {X : Cx} {pins : List (Addr × Obj)} {σ : L2.St} {H : Hp} {s : Shared}
mutual
theorem Rp.rds {ban : List Addr} (I : Inv X pins σ H s) : ∀ (d : PyData) (v : V) (u : Value), Rp H ban d v → RelV v u → ∃ as, Reads s.heap u d as
  | .none, _, _, h, r => by cases (show _ = V.non from h); cases r; exact ⟨_, .none⟩
  | .bool b, _, _, h, r => by cases (show _ = V.bl b from h); cases r; exact ⟨_, .bool b⟩
  | .int i, _, _, h, r => by cases (show _ = V.int i from h); obtain ⟨t, rfl⟩ := r; exact ⟨_, .int i t⟩
  | .str x, _, _, h, r => by cases (show _ = V.str x from h); obtain ⟨t, rfl⟩ := r; exact ⟨_, .str x t⟩
  | .list ds, _, _, h, r => by
    obtain ⟨a, xs, rfl, h1, _, h3⟩ := h
    cases r
    obtain ⟨z, its, n, rv, e⟩ := (show ObjOk X.prog X.w H s.heap a (.lst xs) from I.hok a _ h1)
    obtain ⟨as, g⟩ := RpAll.rds I ds xs its h3 rv
    exact ⟨a :: as, .list e rfl rfl (by simpa using g)⟩
  | .tuple ds, _, _, h, r => by
    obtain ⟨a, xs, rfl, h1, h3⟩ := h
    cases r
    obtain ⟨z, its, rv, o, e, c, n, hd⟩ := h1.rd.ok I.hok
    obtain ⟨as, g⟩ := RpAll.rds I ds xs its h3 rv
    exact ⟨as, .tuple e c hd (by simpa using g)⟩
  | .dict kvs, _, _, h, r => by
    obtain ⟨rfl, a, rfl, h1, _⟩ := h
    cases r
    obtain ⟨z, hs, vs, kv, o, es, ep, e, ex, hd, _, ps, _⟩ := dk_of I.hok h1
    cases kv
    have hes : es = #[] := by
      cases es with
      | mk l =>
        cases (show Pairs _ l [] from ps)
        rfl
    subst hes
    exact ⟨[a], .dict (as := []) (bs := []) e ex.1 hd .nil .nil⟩
theorem RpAll.rds {ban : List Addr} (I : Inv X pins σ H s) : ∀ (ds : List PyData) (xs : List V) (us : List Value), RpAll H ban ds xs → Vals xs us → ∃ as, ReadsAll s.heap us ds as
  | [], _, _, h, r => by cases (show _ = [] from h); cases r; exact ⟨_, .nil⟩
  | d :: ds, _, _, h, r => by
    obtain ⟨v, t, rfl, h1, h2⟩ := h
    cases r with
    | cons r1 r2 =>
      obtain ⟨as, q1⟩ := Rp.rds I d _ _ h1 r1
      obtain ⟨bs, q2⟩ := RpAll.rds I ds _ _ h2 r2
      exact ⟨as ++ bs, .cons q1 q2⟩
end
theorem RpX.rds {ban : List Addr} (I : Inv X pins σ H s) {d : PyData} {v : V} {u : Value} (h : RpX H ban d v) (r : RelV v u) : ∃ as, Reads s.heap u d as := by
  rcases h with h | ⟨a, ds, xs, rfl, rfl, h1, h3⟩
  · exact Rp.rds I d v u h r
  · cases r
    obtain ⟨z, its, n, rv, e⟩ := (show ObjOk X.prog X.w H s.heap a (.lst xs) from I.hok a _ h1)
    obtain ⟨as, g⟩ := RpAll.rds I ds xs its h3 rv
    exact ⟨a :: as, .list e rfl rfl (by simpa using g)⟩
end
/-! ### arithmetic and + -/
def b2n (b : Bool) : Int := if b = true then 1 else 0
def vAdd : PyData → PyData → (PyData → Prop) → Prop
  | .int a, .int b, Q => Q (.int (a + b))
  | .bool a, .int b, Q => Q (.int (b2n a + b))
  | .int a, .bool b, Q => Q (.int (a + b2i b))
  | .tuple xs, .tuple ys, Q => xs.length + ys.length ≤ sizeLine ∧ Q (.tuple (xs ++ ys))
  | .list xs, .list ys, Q => xs.length + ys.length ≤ sizeLine ∧ Q (.list (xs ++ ys))
  | .str a, .str b, Q => a.length + b.length ≤ sizeLine ∧ Q (.str (a ++ b))
  | _, _, _ => False
section
variable {X : Cx}
def rAddA : R2 := fun x y H Q => (rI0 fun i j => .int (i + j)) x y H Q ∨ (∃ k i, x = .bl k ∧ y = .int i ∧ Q (.int (b2n k + i)) H) ∨ (∃ i k, x = .int i ∧ y = .bl k ∧ Q (.int (i + b2i k)) H) ∨
  (∃ a b xs ys, x = .ref a ∧ y = .ref b ∧ TF H a xs ∧ TF H b ys ∧ xs.length + ys.length ≤ sizeLine ∧ ∀ p H', Same H H' → TF H' p (xs ++ ys) → Q (.ref p) H') ∨
  (∃ a b xs ys, x = .ref a ∧ y = .ref b ∧ H a = some (.lst xs) ∧ H b = some (.lst ys) ∧ xs.length + ys.length ≤ sizeLine ∧ ∀ p H', H p = none → Same H H' → H' p = some (.lst (xs ++ ys)) → Q (.ref p) H') ∨
  ∃ i j, x = .str i ∧ y = .str j ∧ i.length + j.length ≤ sizeLine ∧ Q (.str (i ++ j)) H
theorem op_addA : OpR X (binaryOp .Add) rAddA := op_add.or (op_add_bi.or (op_add_ib.or (op_catTN.or (op_catN.or op_add_str))))
theorem dop_add : DOp rAddA vAdd := by
  intro bn H d1 d2 v1 v2 Q Qc nb p1 p2 q k
  unfold vAdd at q
  split at q
  · rw [p1.int, p2.int]; exact .inl ⟨_, _, rfl, rfl, k (.int _) _ H (.refl _) rfl q⟩
  · rw [p1.bool, p2.int]; exact .inr (.inl ⟨_, _, rfl, rfl, k (.int _) _ H (.refl _) rfl q⟩)
  · rw [p1.int, p2.bool]; exact .inr (.inr (.inl ⟨_, _, rfl, rfl, k (.int _) _ H (.refl _) rfl q⟩))
  · obtain ⟨a, xs, rfl, t1, r1⟩ := p1.tup
    obtain ⟨b, ys, rfl, t2, r2⟩ := p2.tup
    exact .inr (.inr (.inr (.inl ⟨a, b, xs, ys, rfl, rfl, t1, t2, by rw [r1.len, r2.len]; exact q.1, fun p H' m tf => k (.tuple _) _ H' m ⟨p, _, rfl, tf, (r1.app r2).same m⟩ q.2⟩)))
  · obtain ⟨a, xs, rfl, t1, r1⟩ := p1.lst
    obtain ⟨b, ys, rfl, t2, r2⟩ := p2.lst
    exact .inr (.inr (.inr (.inr (.inl ⟨a, b, xs, ys, rfl, rfl, t1, t2, by rw [r1.len, r2.len]; exact q.1, fun p H' hp m e => k _ _ H' m (rp_newL nb hp m e (r1.app r2)) q.2⟩))))
  · rw [p1.str, p2.str]; exact .inr (.inr (.inr (.inr (.inr ⟨_, _, rfl, rfl, q.1, k (.str _) _ H (.refl _) rfl q.2⟩))))
  · exact q.elim
def vSub : PyData → PyData → (PyData → Prop) → Prop
  | .int a, .int b, Q => Q (.int (a - b))
  | .bool a, .int b, Q => Q (.int (b2n a - b))
  | _, _, _ => False
def rSubA : R2 := fun x y H Q => (rI0 fun i j => .int (i - j)) x y H Q ∨ (∃ k i, x = .bl k ∧ y = .int i ∧ Q (.int (b2n k - i)) H)
theorem op_subA : OpR X (binaryOp .Sub) rSubA := op_sub.or op_sub_bi
theorem dop_sub : DOp rSubA vSub := by
  intro bn H d1 d2 v1 v2 Q Qc nb p1 p2 q k
  unfold vSub at q
  split at q
  · rw [p1.int, p2.int]; exact .inl ⟨_, _, rfl, rfl, k (.int _) _ H (.refl _) rfl q⟩
  · rw [p1.bool, p2.int]; exact .inr ⟨_, _, rfl, rfl, k (.int _) _ H (.refl _) rfl q⟩
  · exact q.elim
/-- a pair of ints -/
def vII (C : Int → Int → Prop) (g : Int → Int → PyData) : PyData → PyData → (PyData → Prop) → Prop
  | .int a, .int b, Q => C a b ∧ Q (g a b)
  | _, _, _ => False
theorem dop_ii {C : Int → Int → Prop} {g : Int → Int → Int} : DOp (rI C fun i j => .int (g i j)) (vII C fun i j => .int (g i j)) := by
  intro bn H d1 d2 v1 v2 Q Qc nb p1 p2 q k
  unfold vII at q
  split at q
  · rw [p1.int, p2.int]; exact ⟨_, _, rfl, rfl, q.1, k (.int _) _ H (.refl _) rfl q.2⟩
  · exact q.elim
def vMod := vII (fun _ j => 0 < j) fun i j => .int (i % j)
def vDiv := vII CDivW fun i j => .int (i / j)
def vPow := vII CPow fun i j => .int (i ^ j.toNat)
theorem dop_pow : DOp (rI CPow fun i j => .int (i ^ j.toNat)) vPow := dop_ii
def vMul : PyData → PyData → (PyData → Prop) → Prop
  | .int a, .int b, Q => CMul a b ∧ Q (.int (a * b))
  | _, _, _ => False
/-! ### comparisons -/
/-- == of data of any kind -/
def vEq (d1 d2 : PyData) (Q : PyData → Prop) : Prop := SeqAt.shaped d1 = true ∧ SeqAt.shaped d2 = true ∧ Q (.bool (PyData.eqv d1 d2))
def vNe (d1 d2 : PyData) (Q : PyData → Prop) : Prop := SeqAt.shaped d1 = true ∧ SeqAt.shaped d2 = true ∧ Q (.bool (!PyData.eqv d1 d2))
def rCmpA (C : PyData → PyData → Prop) (g : PyData → PyData → Bool) : R2 := fun x y H Q => ∃ d e bn, RpX H bn d x ∧ RpX H bn e y ∧ C d e ∧ Q (.bl (g d e)) H
theorem op_eqA (hu : X.A.units + 64 < cLine) : OpR X (compareOp .Eq) (rCmpA (fun d e => SeqAt.shaped d = true ∧ SeqAt.shaped e = true) PyData.eqv) := by
  intro pins s σ H x y v u Q I rx ry ⟨d, e, bn, hd, he, ⟨sd, se⟩, q⟩
  obtain ⟨as, r1⟩ := hd.rds I rx
  obtain ⟨bs, r2⟩ := he.rds I ry
  exact SeqAt.compareEq_shaped r1 r2 sd se hu ⟨.bl _, H, I, rfl, q⟩
theorem op_neA (hu : X.A.units + 64 < cLine) : OpR X (compareOp .NotEq) (rCmpA (fun d e => SeqAt.shaped d = true ∧ SeqAt.shaped e = true) fun d e => !PyData.eqv d e) := by
  intro pins s σ H x y v u Q I rx ry ⟨d, e, bn, hd, he, ⟨sd, se⟩, q⟩
  obtain ⟨as, r1⟩ := hd.rds I rx
  obtain ⟨bs, r2⟩ := he.rds I ry
  exact SeqAt.compareNe_shaped r1 r2 sd se hu ⟨.bl _, H, I, rfl, q⟩
theorem dop_cmp {C : PyData → PyData → Prop} {g : PyData → PyData → Bool} {f : PyData → PyData → (PyData → Prop) → Prop} (hf : ∀ d e Q, f d e Q → C d e ∧ Q (.bool (g d e))) : DOp (rCmpA C g) f := by
  intro bn H d1 d2 v1 v2 Q Qc nb p1 p2 q k
  obtain ⟨c, q⟩ := hf _ _ _ q
  exact ⟨d1, d2, bn, p1, p2, c, k (.bool _) _ H (.refl _) rfl q⟩
theorem dop_eq : DOp (rCmpA (fun d e => SeqAt.shaped d = true ∧ SeqAt.shaped e = true) PyData.eqv) vEq := dop_cmp fun _ _ _ h => ⟨⟨h.1, h.2.1⟩, h.2.2⟩
theorem dop_ne : DOp (rCmpA (fun d e => SeqAt.shaped d = true ∧ SeqAt.shaped e = true) fun d e => !PyData.eqv d e) vNe := dop_cmp fun _ _ _ h => ⟨⟨h.1, h.2.1⟩, h.2.2⟩
/-- <, <=, >, >=: ints, and data that are alike -/
def AlkC (d e : PyData) : Prop := PySem.W.alike d e = true ∧ d ≠ .none ∧ d.depth ≤ 60
def vLt : PyData → PyData → (PyData → Prop) → Prop
  | .int a, .int b, Q => Q (.bool (decide (a < b)))
  | d, e, Q => AlkC d e ∧ Q (.bool (PySem.W.dataLt d e))
def vLe : PyData → PyData → (PyData → Prop) → Prop
  | .int a, .int b, Q => Q (.bool (decide (a ≤ b)))
  | d, e, Q => AlkC d e ∧ Q (.bool (!PySem.W.dataLt e d))
def vGt : PyData → PyData → (PyData → Prop) → Prop
  | .int a, .int b, Q => Q (.bool (decide (b < a)))
  | d, e, Q => AlkC d e ∧ Q (.bool (PySem.W.dataLt e d))
def vGe : PyData → PyData → (PyData → Prop) → Prop
  | .int a, .int b, Q => Q (.bool (decide (b ≤ a)))
  | d, e, Q => AlkC d e ∧ Q (.bool (!PySem.W.dataLt d e))
theorem alk_units {d e : PyData} (h : AlkC d e) (hu : X.A.units + 64 < cLine) : X.A.units + min d.depth e.depth < cLine := by
  have := h.2.2
  omega
theorem op_ltA (hu : X.A.units + 64 < cLine) : OpR X (compareOp .Lt) (fun x y H Q => (rI0 fun i j => .bl (decide (i < j))) x y H Q ∨ rCmpA AlkC PySem.W.dataLt x y H Q) := op_lt.or fun pins s σ H x y v u Q I rx ry ⟨d, e, bn, hd, he, c, q⟩ => by
  obtain ⟨as, r1⟩ := hd.rds I rx
  obtain ⟨bs, r2⟩ := he.rds I ry
  exact PySem.W.rcLt_alike d e X.A s v u as bs r1 r2 c.1 c.2.1 (alk_units c hu) _ _ _ _ ⟨.bl _, H, I, rfl, q⟩
theorem op_leA (hu : X.A.units + 64 < cLine) : OpR X (compareOp .LtE) (fun x y H Q => (rI0 fun i j => .bl (decide (i ≤ j))) x y H Q ∨ rCmpA AlkC (fun d e => !PySem.W.dataLt e d) x y H Q) := op_le.or fun pins s σ H x y v u Q I rx ry ⟨d, e, bn, hd, he, c, q⟩ => by
  obtain ⟨as, r1⟩ := hd.rds I rx
  obtain ⟨bs, r2⟩ := he.rds I ry
  exact PySem.W.rcLe_alike d e X.A s v u as bs r1 r2 c.1 c.2.1 (alk_units c hu) _ _ _ _ ⟨.bl _, H, I, rfl, q⟩
theorem op_gtA (hu : X.A.units + 64 < cLine) : OpR X (compareOp .Gt) (fun x y H Q => (rI0 fun i j => .bl (decide (j < i))) x y H Q ∨ rCmpA AlkC (fun d e => PySem.W.dataLt e d) x y H Q) := op_gt.or fun pins s σ H x y v u Q I rx ry ⟨d, e, bn, hd, he, c, q⟩ => by
  obtain ⟨as, r1⟩ := hd.rds I rx
  obtain ⟨bs, r2⟩ := he.rds I ry
  exact PySem.W.rcGt_alike d e X.A s v u as bs r1 r2 c.1 c.2.1 (alk_units c hu) _ _ _ _ ⟨.bl _, H, I, rfl, q⟩
theorem dop_ord {g : Int → Int → Bool} {h : PyData → PyData → Bool} {f : PyData → PyData → (PyData → Prop) → Prop} (hf : ∀ d e Q, f d e Q → (∃ i j, d = .int i ∧ e = .int j ∧ Q (.bool (g i j))) ∨ (AlkC d e ∧ Q (.bool (h d e)))) : DOp (fun x y H Q => (rI0 fun i j => .bl (g i j)) x y H Q ∨ rCmpA AlkC h x y H Q) f := by
  intro bn H d1 d2 v1 v2 Q Qc nb p1 p2 q k
  rcases hf _ _ _ q with ⟨i, j, rfl, rfl, z⟩ | ⟨c, z⟩
  · rw [p1.int, p2.int]; exact .inl ⟨_, _, rfl, rfl, k (.bool _) _ H (.refl _) rfl z⟩
  · exact .inr ⟨d1, d2, bn, p1, p2, c, k (.bool _) _ H (.refl _) rfl z⟩
theorem dop_lt : DOp (fun x y H Q => (rI0 fun i j => .bl (decide (i < j))) x y H Q ∨ rCmpA AlkC PySem.W.dataLt x y H Q) vLt := dop_ord (g := fun i j => decide (i < j)) fun d e Q q => by
  unfold vLt at q
  split at q
  · exact .inl ⟨_, _, rfl, rfl, q⟩
  · exact .inr q
theorem dop_le : DOp (fun x y H Q => (rI0 fun i j => .bl (decide (i ≤ j))) x y H Q ∨ rCmpA AlkC (fun d e => !PySem.W.dataLt e d) x y H Q) vLe := dop_ord (g := fun i j => decide (i ≤ j)) fun d e Q q => by
  unfold vLe at q
  split at q
  · exact .inl ⟨_, _, rfl, rfl, q⟩
  · exact .inr q
theorem dop_gt : DOp (fun x y H Q => (rI0 fun i j => .bl (decide (j < i))) x y H Q ∨ rCmpA AlkC (fun d e => PySem.W.dataLt e d) x y H Q) vGt := dop_ord (g := fun i j => decide (j < i)) fun d e Q q => by
  unfold vGt at q
  split at q
  · exact .inl ⟨_, _, rfl, rfl, q⟩
  · exact .inr q
/-- is, is not: with None, of bools -/
def isNon : PyData → Bool
  | .none => true
  | _ => false
def isD : PyData → PyData → Option Bool
  | d, .none => some (isNon d)
  | .bool a, .bool b => some (a == b)
  | .none, .bool _ => some false
  | _, _ => none
def vIs (d e : PyData) (Q : PyData → Prop) : Prop := match isD d e with
  | some b => Q (.bool b)
  | none => False
theorem is_bool {M : Model} {A : Around} {E : Value → Shared → Prop} {Q : Value → Shared → Prop} {s : Shared} {a b : Bool} (h : Q (.bool (a == b)) s) : wpAny M A (compareOp .Is (.bool a) (.bool b)) Q E s := by
  cases a <;> cases b <;> exact wpAny_pure h
def rIsA (n : Bool) : R2 := fun x y H Q => (y = .non ∧ Q (.bl (if n = true then !decide (x = .non) else decide (x = .non))) H) ∨ (∃ a b, x = .bl a ∧ y = .bl b ∧ Q (.bl (if n = true then !(a == b) else (a == b))) H) ∨ (x = .non ∧ ∃ b, y = .bl b ∧ Q (.bl n) H)
theorem op_isA : OpR X (compareOp .Is) (rIsA false) := by
  intro pins s σ H x y v u Q I rx ry h
  rcases h with ⟨e, q⟩ | ⟨a, b, e1, e2, q⟩ | ⟨e1, b, e2, q⟩
  · exact op_isN pins s σ H x y v u Q I rx ry ⟨e, q⟩
  · subst e1 e2; cases rx; cases ry
    exact is_bool ⟨.bl _, H, I, rfl, q⟩
  · subst e1 e2; cases rx; cases ry
    cases b <;> exact wpAny_pure ⟨.bl _, H, I, rfl, q⟩
theorem non_of {H : Hp} {bn : List Addr} {d : PyData} {v : V} (h : RpX H bn d v) : decide (v = .non) = isNon d := by
  cases d with
  | none => rw [h.non]; rfl
  | bool _ => rw [h.bool]; rfl
  | int _ => rw [h.int]; rfl
  | str _ => rw [h.str]; rfl
  | list _ => obtain ⟨a, _, e, _⟩ := h.lst; rw [e]; rfl
  | tuple _ => obtain ⟨a, _, e, _⟩ := h.tup; rw [e]; rfl
  | dict _ =>
    rcases h with ⟨_, a, e, _⟩ | ⟨_, _, _, e, _⟩
    · rw [e]; rfl
    · cases e
theorem dop_isA {n : Bool} {f : PyData → PyData → (PyData → Prop) → Prop} (hf : ∀ d e Q, f d e Q → ∃ b, isD d e = some b ∧ Q (.bool (if n = true then !b else b))) : DOp (rIsA n) f := by
  intro bn H d1 d2 v1 v2 Q Qc nb p1 p2 q k
  obtain ⟨b, e, z⟩ := hf _ _ _ q
  unfold isD at e
  split at e
  · next d1 =>
    cases e
    rw [p2.non]
    refine .inl ⟨rfl, ?_⟩
    rw [non_of p1]
    exact k (.bool _) _ H (.refl _) rfl z
  · cases e
    rw [p1.bool, p2.bool]
    exact .inr (.inl ⟨_, _, rfl, rfl, k (.bool _) _ H (.refl _) rfl z⟩)
  · cases e
    rw [p1.non, p2.bool]
    refine .inr (.inr ⟨rfl, _, rfl, k (.bool _) _ H (.refl _) rfl ?_⟩)
    cases n <;> exact z
  · cases e
theorem dop_is : DOp (rIsA false) vIs := dop_isA fun d e Q q => by
  unfold vIs at q
  split at q
  · next b h => exact ⟨b, h, q⟩
  · exact q.elim
/-- in, not in: a list or a tuple of data -/
def InC (d e : PyData) : Prop := SeqAt.shaped d = true ∧ SeqAt.shaped e = true ∧ (match e with | .list _ => True | .tuple _ => True | _ => False)
def inD (d e : PyData) : Bool := (items e).any fun y => PyData.eqv y d
def vNotIn : PyData → PyData → (PyData → Prop) → Prop
  | d, .list es, Q => SeqAt.shaped d = true ∧ SeqAt.shaped (.list es) = true ∧ Q (.bool (!es.any fun y => PyData.eqv y d))
  | d, .tuple es, Q => SeqAt.shaped d = true ∧ SeqAt.shaped (.tuple es) = true ∧ Q (.bool (!es.any fun y => PyData.eqv y d))
  | _, _, _ => False
theorem in_room {d : PyData} {es : List PyData} (sd : SeqAt.shaped d = true) (hu : X.A.units + 65 < cLine) : X.A.units + 1 + min (PyData.depthAll es) d.depth < cLine := by
  have h : (d.canLay0 && decide (d.depth ≤ 64)) = true := sd
  rw [Bool.and_eq_true] at h
  have := of_decide_eq_true h.2
  omega
theorem lay_of {d : PyData} (sd : SeqAt.shaped d = true) : d.canLay0 = true := by
  have h : (d.canLay0 && decide (d.depth ≤ 64)) = true := sd
  rw [Bool.and_eq_true] at h
  exact h.1
theorem op_notInA (hu : X.A.units + 65 < cLine) : OpR X (compareOp .NotIn) (rCmpA InC fun d e => !inD d e) := by
  intro pins s σ H x y v u Q I rx ry ⟨d, e, bn, hd, he, ⟨sd, se, c⟩, q⟩
  obtain ⟨as, r1⟩ := hd.rds I rx
  obtain ⟨bs, r2⟩ := he.rds I ry
  cases e with
  | list es => exact SeqAt.notIn_list_reads r2 r1 (lay_of se) (lay_of sd) (in_room sd hu) ⟨.bl _, H, I, rfl, q⟩
  | tuple es => exact SeqAt.notIn_tuple_reads r2 r1 (lay_of se) (lay_of sd) (in_room sd hu) ⟨.bl _, H, I, rfl, q⟩
  | none => exact c.elim
  | bool _ => exact c.elim
  | int _ => exact c.elim
  | str _ => exact c.elim
  | dict _ => exact c.elim
theorem dop_notIn : DOp (rCmpA InC fun d e => !inD d e) vNotIn := dop_cmp fun d e Q q => by
  unfold vNotIn at q
  split at q
  · exact ⟨⟨q.1, q.2.1, trivial⟩, q.2.2⟩
  · exact ⟨⟨q.1, q.2.1, trivial⟩, q.2.2⟩
  · exact q.elim
/-! ### x[i], x[lo:hi], x[::-1] -/
def vIx : PyData → PyData → (PyData → Prop) → Prop
  | .list ds, .int i, Q => match atI ds i with
    | some d => Q d
    | none => False
  | .tuple ds, .int i, Q => match atI ds i with
    | some d => Q d
    | none => False
  | .str z, .int i, Q => z.length ≤ sizeLine ∧ match atI z.cps.toList i with
    | some c => Q (.str ⟨#[c]⟩)
    | none => False
  | _, _, _ => False
theorem RpAll.ati {H : Hp} {bn : List Addr} {ds : List PyData} {xs : List V} (h : RpAll H bn ds xs) {i : Int} {d : PyData} (e : atI ds i = some d) : ∃ x, atI xs i = some x ∧ Rp H bn d x := by
  unfold atI at e ⊢
  rw [h.len]
  cases e2 : ixN ds.length i with
  | none => rw [e2] at e; cases e
  | some j =>
    rw [e2] at e
    obtain ⟨x, h1, h2⟩ := h.at (show ds[j]? = some d from e)
    exact ⟨x, h1, h2⟩
theorem dop_ix {K : PySem.W.Frag} : DOp (rIx K) vIx := by
  intro bn H d1 d2 v1 v2 Q Qc nb p1 p2 q k
  unfold vIx at q
  split at q
  · obtain ⟨a, xs, rfl, t1, r1⟩ := p1.lst
    rw [p2.int]
    split at q
    · next d e =>
      obtain ⟨x, e1, p⟩ := r1.ati e
      exact .inl ⟨a, xs, _, x, rfl, rfl, sqL t1, e1, k d x H (.refl _) p q⟩
    · exact q.elim
  · obtain ⟨a, xs, rfl, t1, r1⟩ := p1.tup
    rw [p2.int]
    split at q
    · next d e =>
      obtain ⟨x, e1, p⟩ := r1.ati e
      exact .inr (.inl ⟨a, xs, _, x, rfl, rfl, .inl t1.rd, e1, k d x H (.refl _) p q⟩)
    · exact q.elim
  · rw [p1.str, p2.int]
    obtain ⟨hz, q⟩ := q
    split at q
    · next c e => exact .inr (.inr ⟨_, _, c, rfl, rfl, hz, e, k (.str _) _ H (.refl _) rfl q⟩)
    · exact q.elim
  · exact q.elim
theorem ae_ix {Ec : EC} {a b : Expr} {aa ab : AO} {pos : Pos} (ha : PE X a (cO Ec aa)) (hb : PE X b (cO Ec ab)) (hs : PlainIx b) : PE X (.Subscript a b pos) (cE Ec (a2 vIx aa ab)) := (pe_ix ix_seq ha hb hs).sub fun _ _ _ => a2_ok dop_ix
/-- slices -/
abbrev APt := XP → AS → (Option Int → AS → Prop) → Prop
def cPt (Ec : EC) (a : APt) : TO := fun σ H Q => ∃ Φ E xp s Qa, Rel Φ E s σ H ∧ XSim Φ xp Ec ∧ a xp s Qa ∧ ∀ o E' s' H', Le E' E → Rel Φ E' s' σ H' → KB E H H' → Qa o s' → Q o H'
theorem _root_.L2.PO.sub {e : Option Expr} {t t' : TO} (h : PO X e t) (g : ∀ σ H Q, t' σ H Q → t σ H Q) : PO X e t' := ⟨fun pins s σ H Q I q => h.run pins s σ H Q I (g σ H Q q)⟩
def ptNone : APt := fun _ s Q => Q none s
def ptSome (a : AE) : APt := fun xp s Q => a xp s fun d s1 => match d with
  | .int i => Q (some i) s1
  | _ => False
theorem pt_none {Ec : EC} : PO X none (cPt Ec ptNone) := po_none.sub fun σ H Q ⟨Φ, E, xp, s, Qa, r, x, q, k⟩ => k none E s H (.refl _) r (.refl _ _) q
theorem pt_some {Ec : EC} {e : Expr} {a : AE} (h : PE X e (cE Ec a)) : PO X (some e) (cPt Ec (ptSome a)) := by
  refine (po_some h).sub fun σ H Q ⟨Φ, E, xp, s, Qa, r, x, q, k⟩ => ⟨Φ, E, xp, s, _, r, x, q, fun d E' s' v H' l r' kb p q' => ?_⟩
  split at q'
  · next i =>
    obtain rfl : v = .int i := p
    exact ⟨i, rfl, k _ E' s' H' l r' kb q'⟩
  · exact q'.elim
def cutD (xs : List PyData) (lo hi : Option Int) : List PyData := (xs.drop (HT.sIx xs.length 0 lo)).take (HT.sIx xs.length xs.length hi - HT.sIx xs.length 0 lo)
theorem RpAll.cut {H : Hp} {bn : List Addr} {ds : List PyData} {xs : List V} (h : RpAll H bn ds xs) (lo hi : Option Int) : RpAll H bn (cutD ds lo hi) (cutV xs lo hi) := by
  unfold cutD cutV
  rw [h.len]
  exact (h.drop _).take _
def vSl (d : PyData) (lo hi : Option Int) (Q : PyData → Prop) : Prop := match d with
  | .tuple ds => Q (.tuple (cutD ds lo hi))
  | .list ds => Q (.list (cutD ds lo hi))
  | _ => False
def aSl (ao : AO) (lo hi : APt) : AE := fun xp s Q => ao xp s fun o s1 => lo xp s1 fun l s2 => hi xp s2 fun h s3 => rs s3 o fun d => vSl d l h fun r => Q r s3
def rSlA (K : PySem.W.Frag) : V → Option Int → Option Int → Hp → VK → Prop := fun x lo hi H Q => (∃ a xs, x = .ref a ∧ TF H a xs ∧ ∀ p H', Same H H' → TF H' p (cutV xs lo hi) → Q (.ref p) H') ∨ rSlL K x lo hi H Q
theorem ae_sl {Ec : EC} {e : Expr} {lo hi : Option Expr} {ao : AO} {al ah : APt} {p2 pos : Pos} (he : PE X e (cO Ec ao)) (hl : PO X lo (cPt Ec al)) (hh : PO X hi (cPt Ec ah)) : PE X (.Subscript e (.Slice lo hi none p2) pos) (cE Ec (aSl ao al ah)) := by
  refine (pe_slice (r := rSlA X.K) (sl_tupN.or sl_list) he hl hh).sub fun σ H Q ⟨Φ, E, xp, s, Qa, r, x, q, k⟩ => ⟨Φ, E, xp, s, _, r, x, q, fun o E1 s1 v H1 l1 r1 k1 p1 q1 => ⟨Φ, E1, xp, s1, _, r1, x, q1, fun lo E2 s2 H2 l2 r2 k2 q2 => ⟨Φ, E2, xp, s2, _, r2, x, q2, fun hi E3 s3 H3 l3 r3 k3 q3 => ?_⟩⟩⟩
  obtain ⟨d, e, q3⟩ := rs_get q3
  have p3 := r3.res ((p1.kb r1.lst k2 l2).kb r2.lst k3 l3) e
  have kk : KB E H H3 := (k1.trans l1 k2).trans (l2.trans l1) k3
  have ll := l3.trans (l2.trans l1)
  unfold vSl at q3
  split at q3
  · obtain ⟨a, xs, rfl, t, ra⟩ := p3.tup
    exact .inl ⟨a, xs, rfl, t, fun p H' m tf => k (.tuple _) E3 s3 _ H' ll (r3.same m) (kk.trans (Le.refl _) (KB.of_same m)) ⟨p, _, rfl, tf, (ra.cut _ _).same m⟩ q3⟩
  · obtain ⟨a, xs, rfl, t, ra⟩ := p3.lst
    refine .inr ⟨a, xs, rfl, sqL t, fun p hp => ?_⟩
    have m : Same H3 (upd H3 p (.lst (cutV xs lo hi))) := same_upd hp
    exact k (.list _) E3 s3 _ _ ll (r3.same m) (kk.trans (Le.refl _) (KB.of_same m)) (rp_newL r3.nb hp m upd_same (ra.cut _ _)) q3
  · exact q3.elim
/-- x[::-1] -/
def vRev : PyData → (PyData → Prop) → Prop
  | .tuple ds, Q => Q (.tuple ds.reverse)
  | _, _ => False
def aRev (ao : AO) : AE := fun xp s Q => ao xp s fun o s1 => rs s1 o fun d => vRev d fun r => Q r s1
end
end TR
namespace TR
open PySem PySem.Spec PyProof.Rows L2
def rsA (s : AS) : List Op → Option (List PyData)
  | [] => some []
  | o :: os => match res s o with
    | some d => (rsA s os).map (d :: ·)
    | none => none
def rsl (s : AS) : List Op → (List PyData → Prop) → Prop
  | [], k => k []
  | o :: os, k => rs s o fun d => rsl s os fun ds => k (d :: ds)
theorem rsl_get {s : AS} : ∀ {os : List Op} {k : List PyData → Prop}, rsl s os k → ∃ ds, rsA s os = some ds ∧ k ds
  | [], k, h => ⟨[], rfl, h⟩
  | o :: os, k, h => by
    obtain ⟨d, e1, h⟩ := rs_get (show rs s o (fun d => rsl s os fun ds => k (d :: ds)) from h)
    obtain ⟨ds, e, q⟩ := rsl_get h
    exact ⟨d :: ds, by unfold rsA; rw [e1, e]; rfl, q⟩
theorem rsA_rp {Φ : Fx} {E : OE} {s : AS} {σ : L2.St} {H : Hp} (r : Rel Φ E s σ H) : ∀ {os : List Op} {vs : List V} {ds : List PyData}, Paired (RpO Φ E σ H) os vs → rsA s os = some ds → Paired (RpX H (ban Φ E)) ds vs
  | [], _, _, .nil, e => by cases e; exact .nil
  | o :: os, _, _, .cons h t, e => by
    unfold rsA at e
    cases e1 : res s o with
    | none => rw [e1] at e; cases e
    | some d =>
      rw [e1] at e
      cases e2 : rsA s os with
      | none => rw [e2] at e; cases e
      | some ds =>
        rw [e2] at e; cases e
        exact .cons (r.res h e1) (rsA_rp r t e2)
def DCall (r : List V → Hp → VK → Prop) (f : List PyData → (PyData → Prop) → Prop) : Prop := ∀ (bn : List Addr) (H : Hp) (ds : List PyData) (vs : List V) (Q : PyData → Prop) (Qc : VK), NB H bn → Paired (RpX H bn) ds vs → f ds Q → (∀ d v H', Same H H' → Rp H' bn d v → Q d → Qc v H') → r vs H Qc
def aBlt (f : List PyData → (PyData → Prop) → Prop) (aa : AA) : AE := fun xp s Q => aa xp s fun os s1 => rsl s1 os fun ds => f ds fun d => Q d s1
section
variable {X : Cx} {Ec : EC}
theorem ae_blt {r : List V → Hp → VK → Prop} {f : List PyData → (PyData → Prop) → Prop} {aa : AA} {e : Expr} (hd : DCall r f) (h : PE X e (tCB r (cA Ec aa))) : PE X e (cE Ec (aBlt f aa)) := by
  refine h.sub fun σ H Q ⟨Φ, E, xp, s, Qa, r0, x, q, k⟩ => ⟨Φ, E, xp, s, _, r0, x, q, fun os E1 s1 vs H1 l1 r1 k1 p1 q1 => ?_⟩
  obtain ⟨ds, e, q1⟩ := rsl_get q1
  exact hd (ban Φ E1) H1 ds vs _ Q r1.nb (rsA_rp r1 p1 e) q1 fun d v H2 m rp q2 => k d E1 s1 v H2 l1 (r1.same m) (k1.trans l1 (KB.of_same m)) rp q2
/-- a new list -/
def DCallF (r : List V → Hp → VK → Prop) (f : List PyData → (PyData → Prop) → Prop) : Prop := ∀ (bn : List Addr) (H : Hp) (ds : List PyData) (vs : List V) (Q : PyData → Prop) (Qc : VK), NB H bn → Paired (RpX H bn) ds vs → f ds Q → (∀ es xs p H', H p = none → Same H H' → H' p = some (.lst xs) → RpAll H bn es xs → Q (.list es) → Qc (.ref p) H') → r vs H Qc
theorem af_blt (i : Nat) {r : List V → Hp → VK → Prop} {f : List PyData → (PyData → Prop) → Prop} {aa : AA} {e : Expr} (hd : DCallF r f) (h : PE X e (tCB r (cA Ec aa))) : PE X e (cF i Ec (aBlt f aa)) := by
  refine h.sub fun σ H Q ⟨Φ, E, xp, s, Qa, r0, x, q, k⟩ => ⟨Φ, E, xp, s, _, r0, x, q, fun os E1 s1 vs H1 l1 r1 k1 p1 q1 => ?_⟩
  obtain ⟨ds, e, q1⟩ := rsl_get q1
  refine hd (ban Φ E1) H1 ds vs _ Q r1.nb (rsA_rp r1 p1 e) q1 fun es xs p H2 hp m ep ra q2 => k es E1 s1 p xs H2 l1 (r1.same m) (r1.add i hp m ep) (k1.trans l1 (KB.of_same m)) ep (RpAll.same (RpAll.fresh (fun a ha => ?_) ra) m) (r1.newban hp) q2
  rcases mem_ban_add ha with h | h
  · rw [h]; exact .inr hp
  · exact .inl h
/-! ### len, tuple, list, sum, all -/
def fLen : List PyData → (PyData → Prop) → Prop
  | [.list ds], Q => Q (.int (ds.length : Nat))
  | [.tuple ds], Q => Q (.int (ds.length : Nat))
  | [.str x], Q => x.length ≤ sizeLine ∧ Q (.int (x.length : Nat))
  | _, _ => False
theorem dc_len {K : PySem.W.Frag} : DCall (fun xs H Q => ∃ x n, xs = [x] ∧ LenV K x H n ∧ Q (.int (n : Nat)) H) fLen := by
  intro bn H ds vs Q Qc nb p q k
  unfold fLen at q
  split at q
  · cases p with | cons p t => cases t; obtain ⟨a, xs, rfl, e, ra⟩ := p.lst; exact ⟨_, _, rfl, .inl ⟨xs, sqL e, ra.len.symm⟩, k (.int _) _ H (.refl _) rfl q⟩
  · cases p with | cons p t => cases t; obtain ⟨a, xs, rfl, e, ra⟩ := p.tup; exact ⟨_, _, rfl, .inr ⟨xs, .inl e.rd, ra.len.symm⟩, k (.int _) _ H (.refl _) rfl q⟩
  · cases p with | cons p t => cases t; rw [p.str]; exact ⟨_, _, rfl, ⟨q.1, rfl⟩, k (.int _) _ H (.refl _) rfl q.2⟩
  · exact q.elim
def fTuple : List PyData → (PyData → Prop) → Prop
  | [.list ds], Q => Q (.tuple ds)
  | _, _ => False
theorem dc_tuple {K : PySem.W.Frag} : DCall (fun xs H Q => ∃ p ys, xs = [.ref p] ∧ SqL K H p ys ∧ ∀ l o, H l = none → o.dict = none → Q (.ref l) (upd H l (.frz o (.tup ys)))) fTuple := by
  intro bn H ds vs Q Qc nb p q k
  unfold fTuple at q
  split at q
  · cases p with | cons p t => cases t; obtain ⟨a, xs, rfl, e, ra⟩ := p.lst; exact ⟨a, xs, rfl, sqL e, fun l o hl ho => k (.tuple _) _ _ (same_upd hl) ⟨l, xs, rfl, TF.new ho, ra.same (same_upd hl)⟩ q⟩
  · exact q.elim
def fList : List PyData → (PyData → Prop) → Prop
  | [.tuple ds], Q => Q (.list ds)
  | _, _ => False
/-- all are ints -/
def intsOf : List PyData → Option (List Int)
  | [] => some []
  | .int i :: r => (intsOf r).map (i :: ·)
  | _ :: _ => none
theorem intsOf_map : ∀ {ds : List PyData} {ns : List Int}, intsOf ds = some ns → ds = ns.map .int
  | [], _, e => by cases e; rfl
  | .int i :: r, _, e => by
    unfold intsOf at e
    cases e2 : intsOf r with
    | none => rw [e2] at e; cases e
    | some ns => rw [e2] at e; cases e; rw [intsOf_map e2]; rfl
  | .none :: _, _, e => by cases e
  | .bool _ :: _, _, e => by cases e
  | .str _ :: _, _, e => by cases e
  | .list _ :: _, _, e => by cases e
  | .tuple _ :: _, _, e => by cases e
  | .dict _ :: _, _, e => by cases e
theorem ints_of : ∀ ns : List Int, intsOf (ns.map .int) = some ns
  | [] => rfl
  | n :: r => by show (intsOf (r.map .int)).map (n :: ·) = _; rw [ints_of r]; rfl
theorem rpAll_ints {H : Hp} {bn : List Addr} : ∀ {ns : List Int} {xs : List V}, RpAll H bn (ns.map .int) xs → xs = ns.map V.int
  | [], _, h => h
  | n :: r, _, h => by
    obtain ⟨v, t, rfl, h1, h2⟩ := h
    rw [show v = .int n from h1, rpAll_ints h2]; rfl
/-! ### isinstance -/
def isiD (T : String) (d : PyData) : Option Bool := kitB (tyD d) T
def aIsi (T : String) (ao : AO) : AE := fun xp s Q => ao xp s fun o s1 => rs s1 o fun d => match isiD T d with
  | some b => Q (.bool b) s1
  | none => False
theorem tyRpX {K : PySem.W.Frag} {H : Hp} {bn : List Addr} {d : PyData} {v : V} (h : RpX H bn d v) : TyX K H v (.type (tyD d)) := by
  rcases h with h | ⟨a, ds, xs, rfl, rfl, h1, _⟩
  · exact tyRp h
  · exact .base (.lst h1)
theorem ae_isi {T : String} {e t : Expr} {ao : AO} {p pos : Pos} (hg : Gl X "isinstance") (hm : X.mg "isinstance" = none) (he : PE X e (cO Ec ao)) (ht : PE X t (tC (.ty T))) (hs : starEach [e, t] X.env = (false, eval e X.env) :: starEach [t] X.env := by rfl) (hs2 : starEach [t] X.env = (false, eval t X.env) :: starEach [] X.env := by rfl) (hpl : (backTo pos (starEach [t] X.env)).any (·.1) = false := by rfl) :
    PE X (.Call (.Name "isinstance" p) [e, t] [] pos) (cE Ec (aIsi T ao)) := by
  refine (pe_callB call_isi hg hm (by decide +kernel) (pa_cons he (pa_cons ht pa_nil hs2) hs) (by decide) (by decide) hs hpl).sub fun σ H Q ⟨Φ, E, xp, s, Qa, r, x, q, k⟩ => ⟨Φ, E, xp, s, _, r, x, q, fun o E1 s1 v H1 l1 r1 k1 p1 q1 => ?_⟩
  obtain ⟨d, e, q1⟩ := rs_get q1
  split at q1
  · next b hb =>
    exact ⟨v, .ty T, _, _, b, rfl, .ty T, tyRpX (r1.res p1 e), kit_ty hb, k (.bool b) E1 s1 _ H1 l1 r1 k1 rfl q1⟩
  · exact q1.elim
end
end TR
namespace TR
open PySem PySem.Spec PyProof.Rows L2
section
variable {X : Cx} {Ec : EC}
/-! ### a < b < c -/
def a3 (f g : PyData → PyData → (PyData → Prop) → Prop) (aa ab ac : AO) : AE := fun xp s Q => aa xp s fun o1 s1 => ab xp s1 fun o2 s2 => rs s2 o1 fun d1 => rs s2 o2 fun d2 => f d1 d2 fun z => aB z fun k => if k = true then ac xp s2 fun o3 s3 => rs s3 o2 fun e2 => rs s3 o3 fun e3 => g e2 e3 fun r => Q r s3 else Q (.bool false) s2
theorem a3_ok {r r' : R2} {f g : PyData → PyData → (PyData → Prop) → Prop} (hf : DOp r f) (hg : DOp r' g) {aa ab ac : AO} {σ : L2.St} {H : Hp} {Q : VK} (h : cE Ec (a3 f g aa ab ac) σ H Q) : tChain r r' (cO Ec aa) (cO Ec ab) (cO Ec ac) σ H Q := by
  obtain ⟨Φ, E, xp, s, Qa, r0, x0, q, k⟩ := h
  refine ⟨Φ, E, xp, s, _, r0, x0, q, fun o1 E1 s1 v1 H1 l1 r1 k1 p1 q1 => ⟨Φ, E1, xp, s1, _, r1, x0, q1, fun o2 E2 s2 v2 H2 l2 r2 k2 p2 q2 => ?_⟩⟩
  obtain ⟨d1, e1, q2⟩ := rs_get q2
  obtain ⟨d2, e2, q2⟩ := rs_get q2
  refine hf (ban Φ E2) H2 d1 d2 v1 v2 _ _ r2.nb (r2.res (p1.kb r1.lst k2 l2) e1) (r2.res p2 e2) q2 fun d v H3 m rp q3 => ?_
  obtain ⟨b, rfl, q3⟩ := aB_get q3 rp
  have kk : KB E H H3 := (k1.trans l1 k2).trans (Le.refl _) (KB.of_same m)
  refine ⟨b, rfl, ?_⟩
  cases b with
  | false => exact iteF (k (.bool false) E2 s2 _ H3 (l2.trans l1) (r2.same m) kk rfl (unF q3))
  | true =>
    refine iteT ⟨Φ, E2, xp, s2, _, r2.same m, x0, unT q3, fun o3 E4 s4 v4 H4 l4 r4 k4 p4 q4 => ?_⟩
    obtain ⟨e2', f2, q4⟩ := rs_get q4
    obtain ⟨e3, f3, q4⟩ := rs_get q4
    have p2' : RpO Φ E2 σ H3 o2 v2 := p2.kb r2.lst (KB.of_same m) (Le.refl _)
    refine hg (ban Φ E4) H4 e2' e3 v2 v4 _ Q r4.nb (r4.res (p2'.kb (r2.same m).lst k4 l4) f2) (r4.res p4 f3) q4 fun d v H5 m5 rp5 q5 => ?_
    exact k d E4 s4 v H5 (l4.trans (l2.trans l1)) (r4.same m5) ((kk.trans (l2.trans l1) k4).trans (Le.refl _) (KB.of_same m5)) rp5 q5
theorem ae_chain {op op' : CmpOp} {r r' : R2} {f g : PyData → PyData → (PyData → Prop) → Prop} {a b c : Expr} {aa ab ac : AO} {pos : Pos} (hf : DOp r f) (hg : DOp r' g) (ho : OpR X (compareOp op) r) (ho' : OpR X (compareOp op') r') (ha : PE X a (cO Ec aa)) (hb : PE X b (cO Ec ab)) (hc : PE X c (cO Ec ac)) (hm : lastMarks [op, op'] [b, c] = false := by with_unfolding_all rfl) : PE X (.Compare a [op, op'] [b, c] pos) (cE Ec (a3 f g aa ab ac)) := (pe_chain ho ho' ha hb hc hm).sub fun _ _ _ h => a3_ok hf hg h
theorem at_chain {op op' : CmpOp} {r r' : R2} {f g : PyData → PyData → (PyData → Prop) → Prop} {a b c : Expr} {aa ab ac : AO} {pos : Pos} (hf : DOp r f) (hg : DOp r' g) (ho : OpR X (compareOp op) r) (ho' : OpR X (compareOp op') r') (ha : PE X a (cO Ec aa)) (hb : PE X b (cO Ec ab)) (hc : PE X c (cO Ec ac)) (hm : lastMarks [op, op'] [b, c] = false := by with_unfolding_all rfl) : PT X (.Compare a [op, op'] [b, c] pos) (cT Ec (tV (a3 f g aa ab ac))) := by
  refine (pt_chain ho ho' ha hb hc hm).sub fun σ H Q ⟨Φ, E, xp, s, Qa, r0, x0, q, k⟩ => ?_
  refine a3_ok hf hg (Q := fun x H' => ∃ k, x = .bl k ∧ Q k H') ⟨Φ, E, xp, s, _, r0, x0, q, fun d E' s' v H' l r' kb rp q' => ?_⟩
  cases d with
  | bool b =>
    obtain rfl : v = .bl b := rp
    exact ⟨b, rfl, k b E' s' H' l r' kb q'⟩
  | none => exact q'.elim
  | int _ => exact q'.elim
  | str _ => exact q'.elim
  | list _ => exact q'.elim
  | tuple _ => exact q'.elim
  | dict _ => exact q'.elim
/-! ### the truth of a value -/
def truD : PyData → Option Bool
  | .none => some false
  | .bool b => some b
  | .int i => some (i != 0)
  | .list ds => some (!ds.isEmpty)
  | .tuple ds => some (!ds.isEmpty)
  | _ => none
def tTruA (ao : AO) : AT := fun xp s Q => ao xp s fun o s1 => rs s1 o fun d => match truD d with
  | some b => Q b s1
  | none => False
theorem emp_len {ds : List PyData} {xs : List V} (h : xs.length = ds.length) : (!ds.isEmpty) = !xs.isEmpty := by
  cases ds <;> cases xs <;> first | rfl | (simp at h)
theorem at_tru {a : Expr} {ao : AO} (ha : PE X a (cO Ec ao)) (he : ∀ whole, isTrue a X.env whole = (do let v ← whole; standAt a.pos; holding [v] (truthy v)) := by intro _; rfl) : PT X a (cT Ec (tTruA ao)) := by
  refine (pt_truth ha he).sub fun σ H Q ⟨Φ, E, xp, s, Qa, r, x, q, k⟩ => ⟨Φ, E, xp, s, _, r, x, q, fun o E1 s1 v H1 l1 r1 k1 p1 q1 => ?_⟩
  obtain ⟨d, e, q1⟩ := rs_get q1
  have p := r1.res p1 e
  unfold truD at q1
  split at q1
  · next b hb =>
    refine ⟨b, ?_, k b E1 s1 H1 l1 r1 k1 q1⟩
    split at hb
    · cases hb; rw [p.non]; rfl
    · cases hb; rw [p.bool]; rfl
    · cases hb; rw [p.int]; rfl
    · cases hb
      obtain ⟨a, xs, rfl, ea, ra⟩ := p.lst
      exact .inl ⟨xs, sqL ea, emp_len ra.len⟩
    · cases hb
      obtain ⟨a, xs, rfl, ea, ra⟩ := p.tup
      exact .inr (.inl ⟨xs, .inl ea.rd, emp_len ra.len⟩)
    · cases hb
  · exact q1.elim
/-! ### a list that is built -/
theorem Rel.mut {Φ : Fx} {E : OE} {s : AS} {σ : L2.St} {H : Hp} (r : Rel Φ E s σ H) {i : Nat} {a : Addr} {xs ys : List V} {es : List PyData} (hi : i < s.sl.length) (hσ : σ[i]? = some (some (.ref a))) (m : (i, a) ∈ E.R) (e : H a = some (.lst xs)) (ra : RpAll H (ban Φ E) es ys) : Rel Φ E (s.set i (.own es)) σ (upd H a (.lst ys)) ∧ KB E H (upd H a (.lst ys)) := by
  have ac : a ∈ chg E := List.mem_append_right _ (List.mem_map.mpr ⟨_, m, rfl⟩)
  have ab : a ∈ ban Φ E := List.mem_append_left _ ac
  obtain ⟨_, g1, g2, g3⟩ := r.own i a m
  have up : ∀ {b : Addr} {o : HO}, b ≠ a → H b = some o → upd H a (.lst ys) b = some o := fun h e => by rw [upd_ne h]; exact e
  have kb : KB E H (upd H a (.lst ys)) := fun b o h n => up (fun z => n (z ▸ ac)) h
  refine ⟨⟨by show (s.sl.set i _).length = _; rw [List.length_set]; exact r.len, fun j x hx => ?_, fun d p q h => ?_, fun j b h => ?_, r.inj, fun b o h1 h2 => up (fun z => ?_) (r.fr b o h1 h2), r.dk0, r.alive, fun x hx => Hl.updl ab e (r.held x hx), fun x hx => ?_, r.znd, r.tt⟩, kb⟩
  · by_cases ej : i = j
    · subst ej
      have hx2 : (s.sl.set i (some (.own es)))[i]? = some (some x) := hx
      rw [List.getElem?_set_self hi] at hx2
      cases hx2
      exact ⟨_, hσ, a, ys, rfl, m, upd_same, RpAll.updl ab e ra⟩
    · have hx2 : (s.sl.set i (some (.own es)))[j]? = some (some x) := hx
      rw [List.getElem?_set_ne ej] at hx2
      obtain ⟨v, h1, h2⟩ := r.val j x hx2
      refine ⟨v, h1, ?_⟩
      cases x with
      | dat d => exact Rp.updl ab e (show Rp H (ban Φ E) d v from h2)
      | deck => exact h2
      | exc x =>
        obtain ⟨b, da, e1, e2, h3, h4⟩ := h2
        exact ⟨b, da, e1, e2, XRep.updl ab e h3, h4⟩
      | own _ =>
        obtain ⟨b, zs, e1, m1, h3, h4⟩ := h2
        exact ⟨b, zs, e1, m1, up (fun z => ej (r.inj i j a m (z ▸ m1))) h3, RpAll.updl ab e h4⟩
      | dct _ =>
        obtain ⟨b, ks, e1, m1, h3, h4⟩ := h2
        exact ⟨b, ks, e1, m1, up (fun z => ej (r.inj i j a m (z ▸ m1))) h3, h4.mono fun _ _ h => Rp.updl ab e h⟩
      | dcn _ =>
        obtain ⟨b, ks, e1, m1, h3, h4⟩ := h2
        exact ⟨b, ks, e1, m1, up (fun z => ej (r.inj i j a m (z ▸ m1))) h3, h4.mono fun _ _ h => Rp.updl ab e h⟩
      | dcl _ =>
        obtain ⟨b, ks, e1, m1, h3, hn, h4⟩ := h2
        exact ⟨b, ks, e1, m1, up (fun z => ej (r.inj i j a m (z ▸ m1))) h3, hn, h4.mono (fun _ _ h => Rp.updl ab e h) fun c _ m2 h => ⟨m2, up (fun z => ej (r.inj i j a m (z ▸ m2))) h⟩⟩
      | lck _ _ =>
        obtain ⟨b, e1, h3, h5, h4⟩ := h2
        exact ⟨b, e1, h3, h5, h4.mono (fun _ _ h => Rp.updl ab e h) fun _ _ h => up (fun z => h3 (by rw [z]; exact ab)) h⟩
      | bor _ =>
        rcases h2 with h2 | ⟨b, ds, zs, e1, e2, h3, h5, h6⟩
        · exact .inl (Rp.updl ab e h2)
        · exact .inr ⟨b, ds, zs, e1, e2, up (fun z => g1 (z ▸ h5)) h3, h5, RpAll.updl ab e h6⟩
  · obtain ⟨h1, h2⟩ := r.dk d p q h
    rw [h] at g2
    simp only [dkl, List.mem_cons, List.not_mem_nil, or_false, not_or] at g2
    exact ⟨h1.updl' g2.1 g2.2.1 g2.2.2.1 g2.2.2.2 (Mu.nc e trivial), h2⟩
  · by_cases z : b = a
    · subst z
      exact ⟨⟨_, upd_same, trivial⟩, (r.own j b h).2⟩
    · obtain ⟨⟨zs, h1, mu⟩, h2⟩ := r.own j b h
      exact ⟨⟨zs, up z h1, mu⟩, h2⟩
  · rw [z, g3] at h1; cases h1
  · obtain ⟨z1, z2, z3⟩ := r.zz x hx
    exact ⟨up (fun z => z2 (z ▸ ac)) z1, z2, z3⟩
/-- x.m(e, ..), x a list that is built here -/
def DMut (r : V → List V → Hp → VK → Prop) (f : List PyData → List PyData → (PyData → List PyData → Prop) → Prop) : Prop := ∀ (bn : List Addr) (H : Hp) (a : Addr) (xs vs : List V) (ds es : List PyData) (Q : PyData → List PyData → Prop) (Qc : VK), H a = some (.lst xs) → RpAll H bn ds xs → RpAll H bn es vs → f ds es Q →
  (∀ d v ds' ys, Rp H bn d v → RpAll H bn ds' ys → Q d ds' → Qc v (upd H a (.lst ys))) → r (.ref a) vs H Qc
def aMut (f : List PyData → List PyData → (PyData → List PyData → Prop) → Prop) (i : Nat) (aa : AA) : AE := fun xp s Q => match s.sl[i]? with
  | some (some (.own _)) => aa xp s fun os s1 => rv os fun es => (match s1.sl[i]? with
    | some (some (.own ds)) => f ds es fun d ds' => Q d (s1.set i (.own ds'))
    | _ => False)
  | _ => False
theorem mut_ok {r : V → List V → Hp → VK → Prop} {f : List PyData → List PyData → (PyData → List PyData → Prop) → Prop} (hf : DMut r f) {i : Nat} {aa : AA} {σ : L2.St} {H : Hp} {Q : VK} (h : cE Ec (aMut f i aa) σ H Q) : ∃ a xs, σ[i]? = some (some (.ref a)) ∧ H a = some (.lst xs) ∧ cA Ec aa σ H fun vs H2 => r (.ref a) vs H2 Q := by
  obtain ⟨Φ, E, xp, s, Qa, r, x, q, k⟩ := h
  unfold aMut at q
  split at q
  · next ds0 h0 =>
    obtain ⟨v, hv, b0, ys0, e0, m0, f0, ra0⟩ := r.val i _ h0
    subst e0
    refine ⟨b0, ys0, hv, f0, Φ, E, xp, s, _, r, x, q, fun os E1 s1 vs H1 l1 r1 k1 p1 q1 => ?_⟩
    obtain ⟨es, e, q1⟩ := rv_get q1
    have ra := vals_rp p1 e
    split at q1
    · next ds1 h1 =>
      obtain ⟨v, hv1, b1, ys1, e1, m1, f1, ra1⟩ := r1.val i _ h1
      rw [hv] at hv1
      cases hv1
      cases e1
      refine hf (ban Φ E1) H1 b0 ys1 vs ds1 es _ Q f1 ra1 ra q1 fun d v ds' ys rp ry q2 => ?_
      obtain ⟨r2, k2⟩ := r1.mut (i := i) (List.getElem?_eq_some_iff.mp h1).1 hv m1 f1 ry
      exact k d E1 _ v _ l1 r2 (k1.trans l1 k2) (Rp.updl (List.mem_append_left _ (List.mem_append_right _ (List.mem_map.mpr ⟨_, m1, rfl⟩))) f1 rp) q2
    · exact q1.elim
  · exact q.elim
theorem ae_mut {e : Expr} {i : Nat} {aa : AA} {r : V → List V → Hp → VK → Prop} {f : List PyData → List PyData → (PyData → List PyData → Prop) → Prop} (hf : DMut r f) (h : PE X e (tBM X.K "list" r (tVar i) (cA Ec aa))) : PE X e (cE Ec (aMut f i aa)) := by
  refine h.sub fun σ H Q h => ?_
  obtain ⟨a, xs, h1, h2, h3⟩ := mut_ok hf h
  exact ⟨.ref a, h1, .inl ⟨rfl, xs, sqL h2⟩, h3⟩
def mApp : List PyData → List PyData → (PyData → List PyData → Prop) → Prop
  | ds, [d], Q => ds.length < sizeLine ∧ Q .none (ds ++ [d])
  | _, _, _ => False
theorem dm_app : DMut rAppend mApp := by
  intro bn H a xs vs ds es Q Qc e ra rv q k
  unfold mApp at q
  split at q
  · obtain ⟨v, t, rfl, p, rfl⟩ := rv
    exact ⟨a, xs, v, rfl, rfl, e, by rw [ra.len]; exact q.1, k .none _ _ _ rfl (RpAll.app (es := [_]) ra ⟨v, [], rfl, p, rfl⟩) q.2⟩
  · exact q.elim
def mExt : List PyData → List PyData → (PyData → List PyData → Prop) → Prop
  | ds, [.list es], Q => ds.length + es.length ≤ sizeLine ∧ Q .none (ds ++ es)
  | _, _, _ => False
theorem dm_ext : DMut rExtend mExt := by
  intro bn H a xs vs ds es Q Qc e ra rv q k
  unfold mExt at q
  split at q
  · obtain ⟨v, t, rfl, ⟨b, ys, rfl, eb, _, rb⟩, rfl⟩ := rv
    exact ⟨a, b, xs, ys, rfl, rfl, e, eb, by rw [ra.len, rb.len]; exact q.1, k .none _ _ _ rfl (RpAll.app ra rb) q.2⟩
  · exact q.elim
theorem RpAll.erase {H : Hp} {bn : List Addr} : ∀ {ds : List PyData} {xs : List V} (i : Nat), RpAll H bn ds xs → RpAll H bn (ds.eraseIdx i) (xs.eraseIdx i)
  | [], _, i, h => by rw [show _ = [] from h]; rfl
  | d :: ds, _, 0, h => by
    obtain ⟨v, r, rfl, _, h2⟩ := h
    exact h2
  | d :: ds, _, i + 1, h => by
    obtain ⟨v, r, rfl, h1, h2⟩ := h
    exact ⟨v, _, rfl, h1, RpAll.erase i h2⟩
def mPopAt : List PyData → List PyData → (PyData → List PyData → Prop) → Prop
  | ds, [.int i], Q => match ixN ds.length i with
    | some k => (match ds[k]? with
      | some d => Q d (ds.eraseIdx k)
      | none => False)
    | none => False
  | _, _, _ => False
theorem RpAll.sz {H : Hp} {bn : List Addr} {ds : List PyData} {xs : List V} (h : RpAll H bn ds xs) : xs.length = ds.length := h.len
theorem dm_popAt : DMut (fun x vs H Q => (∀ l xs, x = .ref l → H l = some (.lst xs) → xs.length < 2 ^ 62) → rPopAt x vs H Q) mPopAt := by
  intro bn H a xs vs ds es Q Qc e ra rv q k hz
  have hz := hz a xs rfl e
  unfold mPopAt at q
  split at q
  · next i =>
    obtain ⟨v, t, rfl, rfl, rfl⟩ := rv
    split at q
    · next j hj =>
      obtain ⟨h1, h2, h3, h4⟩ := ixN_seq hj
      split at q
      · next d hd =>
        obtain ⟨y, hy, py⟩ := ra.at hd
        rw [ra.len] at hz
        exact ⟨a, xs, i, j, y, rfl, rfl, e, by omega, by omega, by rw [ra.len]; exact h1, hy, k d y _ _ py (ra.erase j) q⟩
      · exact q.elim
    · exact q.elim
  · exact q.elim
theorem mt_popAtA : MtM X "list.pop" (fun x vs H Q => (∀ l xs, x = .ref l → H l = some (.lst xs) → xs.length < 2 ^ 62) → rPopAt x vs H Q) := by
  intro pins s σ H x vs v us Q I rx rv h
  refine mt_popAt pins s σ H x vs v us Q I rx rv (h fun l xs e eh => ?_)
  obtain ⟨z, _⟩ := I.lstM eh
  have : (sizeLine : Nat) < 2 ^ 62 := by rw [sizeLine_eq]; decide
  omega
/-! ### t.index(k) -/
def vIdx : PyData → List PyData → (PyData → Prop) → Prop
  | .tuple ds, [.int z], Q => match intsOf ds with
    | some ns => (match ns.findIdx? (· == z) with
      | some j => Q (.int (j : Nat))
      | none => False)
    | none => False
  | _, _, _ => False
def aIdx (ao : AO) (aa : AA) : AE := fun xp s Q => ao xp s fun o s1 => (match o with
  | .val (.tuple _) => True
  | _ => False) ∧ aa xp s1 fun os s2 => rs s2 o fun d => rsl s2 os fun es => vIdx d es fun r => Q r s2
theorem ae_idx {e : Expr} {ao : AO} {aa : AA} (h : PE X e (tBMT (rTupIdx X.K) (cO Ec ao) (cA Ec aa))) : PE X e (cE Ec (aIdx ao aa)) := by
  refine h.sub fun σ H Q ⟨Φ, E, xp, s, Qa, r, x, q, k⟩ => ⟨Φ, E, xp, s, _, r, x, q, fun o E1 s1 v H1 l1 r1 k1 p1 q1 => ?_⟩
  obtain ⟨hv, q1⟩ := q1
  split at hv
  · next ds =>
    obtain ⟨a, xs, rfl, ⟨ob, hd, ha⟩, ra⟩ := (show Rp H1 (ban Φ E1) (.tuple ds) v from p1)
    refine ⟨⟨a, ob, xs, rfl, hd, ha⟩, Φ, E1, xp, s1, _, r1, x, q1, fun os E2 s2 vs H2 l2 r2 k2 p2 q2 => ?_⟩
    obtain ⟨d, e, q2⟩ := rs_get q2
    obtain ⟨es, e2, q2⟩ := rsl_get q2
    have p1' := r2.res (RpO.kb (o := .val (.tuple ds)) (v := .ref a) r1.lst k2 l2 p1) e
    have pe := rsA_rp r2 p2 e2
    unfold vIdx at q2
    split at q2
    · split at q2
      · next ns hns =>
        split at q2
        · next j hj =>
          obtain ⟨b, ys, eb, tb, rb⟩ := p1'.tup
          cases eb
          rw [intsOf_map hns] at rb
          cases pe with
          | cons pz t =>
            cases t
            obtain ⟨hjl, hjz, hjn⟩ := List.findIdx?_eq_some_iff_getElem.mp hj
            refine ⟨a, ns, _, j, rfl, by rw [pz.int], .inl (by rw [← rpAll_ints rb]; exact tb.rd), ?_, fun m hm hz => ?_, k (.int _) E2 s2 _ H2 (l2.trans l1) r2 (k1.trans l1 k2) rfl q2⟩
            · rw [List.getElem?_eq_getElem hjl, beq_iff_eq.mp hjz]
            · have hml : m < ns.length := by omega
              rw [List.getElem?_eq_getElem hml] at hz
              have := hjn m hm
              rw [Option.some.inj hz] at this
              simp at this
        · exact q2.elim
      · exact q2.elim
    · exact q2.elim
  · exact hv.elim
end
end TR
namespace TR
open PySem PySem.Spec PyProof.Rows L2
theorem u65 {A : Around} {k : Nat} (hr : Room k A) : A.units + 65 < cLine := by
  have := hr.un
  omega
theorem u64 {A : Around} {k : Nat} (hr : Room k A) : A.units + 64 < cLine := by
  have := hr.un
  omega
section
variable {X : Cx} {Ec : EC}
/-! ### -x -/
def aNeg (ao : AO) : AE := fun xp s Q => ao xp s fun o s1 => rs s1 o fun d => match d with
  | .int i => Q (.int (-i)) s1
  | _ => False
theorem ae_neg {e : Expr} {ao : AO} {pos : Pos} (h : PE X e (cO Ec ao)) : PE X (.UnaryOp .USub e pos) (cE Ec (aNeg ao)) := by
  refine (pe_un un_neg h).sub fun σ H Q ⟨Φ, E, xp, s, Qa, r, x, q, k⟩ => ⟨Φ, E, xp, s, _, r, x, q, fun o E1 s1 v H1 l1 r1 k1 p1 q1 => ?_⟩
  obtain ⟨d, e, q1⟩ := rs_get q1
  split at q1
  · next i =>
    rw [(r1.res p1 e).int]
    exact ⟨i, rfl, k (.int _) E1 s1 _ H1 l1 r1 k1 rfl q1⟩
  · exact q1.elim
/-! ### op= -/
def vAddI := vII (fun _ _ => True) fun i j => .int (i + j)
def vSubI := vII (fun _ _ => True) fun i j => .int (i - j)
/-! ### lists joined: a new list -/
def vCatL : PyData → PyData → (PyData → Prop) → Prop
  | .list xs, .list ys, Q => xs.length + ys.length ≤ sizeLine ∧ Q (.list (xs ++ ys))
  | _, _, _ => False
theorem af_cat (i : Nat) {a b : Expr} {aa ab : AO} {pos : Pos} (ha : PE X a (cO Ec aa)) (hb : PE X b (cO Ec ab)) : PE X (.BinOp a .Add b pos) (cF i Ec (a2 vCatL aa ab)) := by
  refine (pe_op op_catN ha hb).sub fun σ H Q ⟨Φ, E, xp, s, Qa, r0, x0, q, k⟩ => ⟨Φ, E, xp, s, _, r0, x0, q, fun o1 E1 s1 v1 H1 l1 r1 k1 p1 q1 => ⟨Φ, E1, xp, s1, _, r1, x0, q1, fun o2 E2 s2 v2 H2 l2 r2 k2 p2 q2 => ?_⟩⟩
  obtain ⟨d1, e1, q2⟩ := rs_get q2
  obtain ⟨d2, e2, q2⟩ := rs_get q2
  have g1 := r2.res (p1.kb r1.lst k2 l2) e1
  have g2 := r2.res p2 e2
  unfold vCatL at q2
  split at q2
  · obtain ⟨a, xs, rfl, t1, w1⟩ := g1.lst
    obtain ⟨b, ys, rfl, t2, w2⟩ := g2.lst
    refine ⟨a, b, xs, ys, rfl, rfl, t1, t2, by rw [w1.len, w2.len]; exact q2.1, fun p H3 hp m e => k _ E2 s2 p _ H3 (l2.trans l1) (r2.same m) (r2.add i hp m e) ((k1.trans l1 k2).trans (Le.refl _) (KB.of_same m)) e (RpAll.same (RpAll.fresh (fun a ha => ?_) (w1.app w2)) m) (r2.newban hp) q2.2⟩
    rcases mem_ban_add ha with h | h
    · rw [h]; exact .inr hp
    · exact .inl h
  · exact q2.elim
/-! ### list(range(..)), tuple(range(..)) -/
abbrev ARg := XP → AS → (Int → Int → AS → Prop) → Prop
def cRg (Ec : EC) (a : ARg) : L2.St → Hp → (Int → Int → Hp → Prop) → Prop := fun σ H Q => ∃ Φ E xp s Qa, Rel Φ E s σ H ∧ XSim Φ xp Ec ∧ a xp s Qa ∧ ∀ i j E' s' H', Le E' E → Rel Φ E' s' σ H' → KB E H H' → Qa i j s' → Q i j H'
def rg1 (a : AE) : ARg := fun xp s Q => a xp s fun d s1 => match d with
  | .int j => Q 0 j s1
  | _ => False
def rg2 (a b : AE) : ARg := fun xp s Q => a xp s fun d s1 => b xp s1 fun e s2 => match d, e with
  | .int i, .int j => Q i j s2
  | _, _ => False
theorem rg1_ok {a : AE} {σ : L2.St} {H : Hp} {Q : Int → Int → Hp → Prop} (h : cRg Ec (rg1 a) σ H Q) : tRg1 (cE Ec a) σ H Q := by
  obtain ⟨Φ, E, xp, s, Qa, r, x, q, k⟩ := h
  refine ⟨Φ, E, xp, s, _, r, x, q, fun d E1 s1 v H1 l1 r1 k1 p1 q1 => ?_⟩
  split at q1
  · next j =>
    obtain rfl : v = .int j := p1
    exact ⟨j, rfl, k 0 j E1 s1 H1 l1 r1 k1 q1⟩
  · exact q1.elim
def aTupRg (a : ARg) : AE := fun xp s Q => a xp s fun i j s1 => RgOk i j ∧ Q (.tuple (rngD i (j - i).toNat)) s1
def aListRg (a : ARg) : AE := fun xp s Q => a xp s fun i j s1 => RgOk i j ∧ Q (.list (rngD i (j - i).toNat)) s1
theorem rp_rng {H : Hp} {bn : List Addr} (i j : Int) : RpAll H bn (rngD i (j - i).toNat) (rgV i j) := by
  unfold rngD rgV
  generalize List.range (j - i).toNat = l
  induction l with
  | nil => rfl
  | cons x l ih => exact ⟨_, _, rfl, rfl, ih⟩
theorem listRg_ok {i : Nat} {a : ARg} {σ : L2.St} {H : Hp} {Q : VK} (h : cF i Ec (aListRg a) σ H Q) : cRg Ec a σ H fun i j H1 => RgOk i j ∧ ∀ q, H1 q = none → Q (.ref q) (upd H1 q (.lst (rgV i j))) := by
  obtain ⟨Φ, E, xp, s, Qa, r, x, q, k⟩ := h
  refine ⟨Φ, E, xp, s, _, r, x, q, fun i j E1 s1 H1 l1 r1 k1 q1 => ⟨q1.1, fun p hp => ?_⟩⟩
  have m : Same H1 (upd H1 p (.lst (rgV i j))) := same_upd hp
  exact k _ E1 s1 p _ _ l1 (r1.same m) (r1.add _ hp m upd_same) (k1.trans l1 (KB.of_same m)) upd_same (rp_rng _ _) (r1.newban hp) q1.2
theorem af_listRg1 (i : Nat) {e : Expr} {a : AE} {p pos : Pos} (hc : X.calm = true) (hg : Gl X "list") (hm : X.mg "list" = none) (he : PRg X e (tRg1 (cE Ec a))) (na : starEach [e] X.env = (false, eval e X.env) :: starEach [] X.env := by rfl) : PE X (.Call (.Name "list" p) [e] [] pos) (cF i Ec (aListRg (rg1 a))) := (pe_listRg hc hg hm he na).sub fun σ H Q h => rg1_ok (listRg_ok h)
/-! ### x = [.. for ..] on one line -/
theorem as_setLc {w : Bool} (i : Nat) {y : Str} {py : Pos} {elt tg iter : Expr} {ifs : List Expr} {scope : Scope} {own : List (Str × Nat)} {pos spos : Pos} {ai : AI} {sl : List Nat} {b : AB} {t : AT} {a : AE} (hy : X.N[i]? = some y) (hyl : X.env.scope.names.lookup y = some .local)
    (hsw : swapsWith (.ListComp elt [⟨tg, iter, ifs, 0⟩] scope pos) (some (.Name y py)) spos.line X.env = pure true) (hc : X.calm = true) (hN : X.N.Nodup) (hi : PI X tg iter (cI w Ec ai)) (ok : BlkOk X.N X.env.scope scope own)
    (hg : ∀ (s : Shared) (H : Hp) (C : Addr) (cl : List (Str × Addr)) (fp : List Addr), PG (X.blk s H scope (compEnvC scope cl C X.env) fp) tg (cG w sl b)) (ht : ∀ (s : Shared) (H : Hp) (C : Addr) (cl : List (Str × Addr)) (fp : List Addr), PTs (X.blk s H scope (compEnvC scope cl C X.env) fp) ifs (cT Ec.z t))
    (he : ∀ (s : Shared) (H : Hp) (C : Addr) (cl : List (Str × Addr)) (fp : List Addr), PE (X.blk s H scope (compEnvC scope cl C X.env) fp) elt (cE Ec.z a)) (hsl : ∀ i ∈ sl, i ∈ own.map (·.2) := by decide) (hs : ∀ x, foldedSetIterable iter X.env x = pure x := by intro _; rfl) :
    PS X (.Assign [.Name y py] (.ListComp elt [⟨tg, iter, ifs, 0⟩] scope pos) spos) (cS Ec (sSet i (aLc ai b t a (own.map (·.2))))) := as_asgT (ps_setLc hc hN hy hyl hsw hi ok hg ht he hs) fun _ _ _ h => lc_ok (j := i) hsl (cF_E h)
theorem as_setLc2 {w w1 : Bool} (i : Nat) {y : Str} {py : Pos} {elt tg iter tg1 iter1 : Expr} {ifs ifs1 : List Expr} {scope : Scope} {own : List (Str × Nat)} {vs1 : List Nat} {pos spos : Pos} {ai ai1 : AI} {sl sl1 : List Nat} {b b1 : AB} {t t1 : AT} {a : AE} (hy : X.N[i]? = some y) (hyl : X.env.scope.names.lookup y = some .local)
    (hsw : swapsWith (.ListComp elt [⟨tg, iter, ifs, 0⟩, ⟨tg1, iter1, ifs1, 0⟩] scope pos) (some (.Name y py)) spos.line X.env = pure true) (hc : X.calm = true) (hN : X.N.Nodup) (hi : PI X tg iter (cI w Ec ai)) (ok : BlkOk X.N X.env.scope scope own) (hv : ∀ i ∈ vs1, i ∈ own.map (·.2))
    (hg : ∀ (s : Shared) (H : Hp) (C : Addr) (cl : List (Str × Addr)) (fp : List Addr), PG (X.blk s H scope (compEnvC scope cl C X.env) fp) tg (cG w sl b)) (ht : ∀ (s : Shared) (H : Hp) (C : Addr) (cl : List (Str × Addr)) (fp : List Addr), PTs (X.blk s H scope (compEnvC scope cl C X.env) fp) ifs (cT Ec.z t))
    (hi1 : ∀ (s : Shared) (H : Hp) (C : Addr) (cl : List (Str × Addr)) (fp : List Addr), PI (X.blk s H scope (compEnvC scope cl C X.env) fp) tg1 iter1 (cI w1 Ec.z ai1))
    (hg1 : ∀ (s : Shared) (H : Hp) (C : Addr) (cl : List (Str × Addr)) (fp : List Addr), PG (X.blk s H scope (compEnvC scope cl C X.env) fp) tg1 (cG w1 sl1 b1)) (ht1 : ∀ (s : Shared) (H : Hp) (C : Addr) (cl : List (Str × Addr)) (fp : List Addr), PTs (X.blk s H scope (compEnvC scope cl C X.env) fp) ifs1 (cT Ec.z t1))
    (he : ∀ (s : Shared) (H : Hp) (C : Addr) (cl : List (Str × Addr)) (fp : List Addr), PE (X.blk s H scope (compEnvC scope cl C X.env) fp) elt (cE Ec.z a)) (hsl : ∀ i ∈ sl, i ∈ own.map (·.2) := by decide) (hsl1 : ∀ i ∈ sl1, i ∈ vs1 := by decide) (hs : ∀ x, foldedSetIterable iter X.env x = pure x := by intro _; rfl) (hs1 : ∀ env x, foldedSetIterable iter1 env x = pure x := by intro _ _; rfl) :
    PS X (.Assign [.Name y py] (.ListComp elt [⟨tg, iter, ifs, 0⟩, ⟨tg1, iter1, ifs1, 0⟩] scope pos) spos) (cS Ec (sSet i (aLc2 ai b t ai1 b1 t1 a (own.map (·.2)) vs1))) := as_asgT (ps_setLc2 hc hN hy hyl hsw hi ok hv hg ht hi1 hg1 ht1 he hs hs1) fun _ _ _ h => lc2_ok (j := i) hsl hsl1 (cF_E h)
/-! ### small calls -/
end
end TR
namespace TR
open PySem PySem.Spec PyProof.Rows L2
section
variable {Φ : Fx} {E : OE} {s : AS} {σ : L2.St} {H : Hp}
theorem GRel.rekey {M : Addr → Prop} {H : Hp} {b b' : List Addr} : ∀ {kvs : List (PyData × List Int)} {ks : List (List Int × Addr × V)}, GRel M H b kvs ks → GRel M H b' kvs ks
  | [], _, .nil => .nil
  | _ :: _, _, .cons ⟨e1, e2, r⟩ t => .cons ⟨e1, rp_key e1 e2, r⟩ (GRel.rekey t)
/-- a new list that a slot is to hold, held for the while -/
theorem Rel.toZ {i : Nat} {l : Addr} {xs : List V} (r : Rel Φ E s σ H) (r2 : Rel Φ (E.add i l) s σ H) (e : H l = some (.lst xs)) (nb : l ∉ ban Φ E) : Rel (Φ.z l xs) E s σ H := by
  have hb : ∀ a ∈ ban (Φ.z l xs) E, a ∈ ban Φ (E.add i l) := fun a ha => by
    rcases ban_z ha with h | h
    · rw [h]; exact ban_add_self
    · exact ban_add h
  have ho := r2.own i l List.mem_cons_self
  refine ⟨r.len, fun j x h => ?_, r.dk, r.own, r.inj, r.fr, r.dk0, r.alive, fun x hx => (r2.held x hx).wk hb, fun x hx => ?_, ?_, r.tt⟩
  · obtain ⟨v, h1, h2⟩ := r.val j x h
    obtain ⟨v', h1', h2'⟩ := r2.val j x h
    rw [h1] at h1'
    cases h1'
    refine ⟨v, h1, ?_⟩
    cases x with
    | dat d => exact Rp.wk hb (show Rp H (ban Φ (E.add i l)) d v from h2')
    | own ds =>
      obtain ⟨a, ys, e1, m, g1, g2⟩ := h2
      obtain ⟨b, zs, e2, m2, g3, g4⟩ := h2'
      rw [e1] at e2
      cases e2
      exact ⟨a, zs, e1, m, g3, g4.wk hb⟩
    | dct kvs =>
      obtain ⟨a, ks, e1, m, g1, g2⟩ := h2
      obtain ⟨b, ls, e2, m2, g3, g4⟩ := h2'
      rw [e1] at e2
      cases e2
      exact ⟨a, ls, e1, m, g3, g4.wk hb⟩
    | dcn kvs =>
      obtain ⟨a, ks, e1, m, g1, g2⟩ := h2
      obtain ⟨b, ls, e2, m2, g3, g4⟩ := h2'
      rw [e1] at e2
      cases e2
      exact ⟨a, ls, e1, m, g3, g4.wk hb⟩
    | dcl kvs =>
      obtain ⟨a, ks, e1, m, g1, hn, g2⟩ := h2
      exact ⟨a, ks, e1, m, g1, hn, g2.rekey⟩
    | lck t kvs =>
      obtain ⟨a, e1, g1, g3, g2⟩ := h2'
      exact ⟨a, e1, fun z => g1 (hb _ z), g3, g2.mono (fun _ _ h => h.wk hb) fun _ _ h => h⟩
    | bor d =>
      rcases h2' with h2' | ⟨a, ds, ys, e1, e2, g1, g3, g4⟩
      · exact .inl (h2'.wk hb)
      · exact .inr ⟨a, ds, ys, e1, e2, g1, g3, g4.wk hb⟩
    | deck => exact h2
    | exc x =>
      obtain ⟨b, da, e1, e2, h3, h4⟩ := h2'
      exact ⟨b, da, e1, e2, h3.wk hb, h4⟩
  · rcases List.mem_cons.mp hx with h | h
    · subst h
      exact ⟨e, fun z => nb (List.mem_append_left _ z), ho.2.2.2⟩
    · exact r.zz x h
  · refine List.nodup_cons.mpr ⟨fun z => ?_, r.znd⟩
    exact nb (List.mem_append_right _ (List.mem_append_left _ z))
end
section
variable {X : Cx} {Ec : EC}
theorem XSim.z {Φ : Fx} {xp : XP} {D : Addr} {xs : List V} (x : XSim Φ xp Ec) : XSim (Φ.z D xs) xp Ec := ⟨x.1, fun y E s σ H da r xr h => x.2 y E s σ H da r.subZ (xr.wk fun _ h => z_ban h) h⟩
/-- a, b = new list, new list -/
def sParOO (i j : Nat) (a b : AE) : AST := fun xp D s => a xp s fun d s1 => b xp s1 fun e s2 => match d, e with
  | .list ds, .list es => (intsOf ds).isSome = true ∧ D.nx ((s2.set i (.own ds)).set j (.own es))
  | _, _ => False
theorem as_parOO {i j : Nat} {st : Stmt} {a b : AE} (hij : i ≠ j) (h : PS X st (tPar i j (tCons (cF i Ec a) (tCons (cF j Ec b) tNil)))) : PS X st (cS Ec (sParOO i j a b)) := by
  refine h.sub fun D σ H ⟨Φ, E, xp, s, Da, r, x, q, m⟩ => ⟨Φ, E, xp, s, _, r, x, q, fun ds E1 s1 l xs H1 l1 r1 r1' k1 e1 ra1 nb1 q1 => ?_⟩
  have rz := r1.toZ r1' e1 nb1
  refine ⟨Φ.z l xs, E1, xp, s1, _, rz, x.z, q1, fun es E2 s2 l' ys H2 l2 r2 r2' k2 e2 ra2 nb2 q2 => ?_⟩
  refine ⟨.ref l, .ref l', rfl, ?_⟩
  have e12 : H2 l = some (.lst xs) := (r2'.zz (l, .lst xs) List.mem_cons_self).1
  have ro := r2'.ownZ i
  obtain ⟨hi, q2⟩ := q2
  obtain ⟨ns, hns⟩ := Option.isSome_iff_exists.mp hi
  have ed := intsOf_map hns
  subst ed
  have ex := rpAll_ints ra1
  subst ex
  have rd : RpAll H2 (ban Φ ((E2.add j l').add i l)) (ns.map .int) (ns.map V.int) := RpAll.ints ns
  have hb : ∀ a ∈ ban Φ ((E2.add j l').add i l), a ∈ ban (Φ.z l (ns.map V.int)) (E2.add j l') := fun a ha => by
    rcases mem_ban_add ha with h | h
    · rw [h]; exact z_mem
    · exact z_ban h
  have s1 := ro.setX i (x := .own (ns.map .int)) (v := .ref l) ⟨l, _, rfl, List.mem_cons_self, e12, rd⟩
  have s2 := s1.setX j (x := .own es) (v := .ref l') ⟨l', ys, rfl, List.mem_cons_of_mem _ List.mem_cons_self, e2, ra2.wk hb⟩
  exact m.nx _ _ _ H2 s2 q2
/-- a, b = new list, value -/
def sParOV (i j : Nat) (a b : AE) : AST := fun xp D s => a xp s fun d s1 => b xp s1 fun e s2 => match d with
  | .list ds => (intsOf ds).isSome = true ∧ D.nx ((s2.set i (.own ds)).set j (.dat e))
  | _ => False
/-! ### {}, isinstance(x, (T, U)) -/
def aDict0 : AE := fun _ s Q => Q (.dict []) s
theorem ae_dict0 {pos : Pos} : PE X (.Dict [] [] pos) (cE Ec aDict0) := pe_dnewN.sub fun σ H Q ⟨Φ, E, xp, s, Qa, r, x, q, k⟩ => fun p H' hp m e => k (.dict []) E s _ H' (.refl _) (r.same m) (.of_same m) ⟨rfl, p, rfl, e, r.newban hp⟩ q
theorem kit_both {K : PySem.W.Frag} {t a b : String} {r1 r2 : Bool} (h1 : kitB t a = some r1) (h2 : kitB t b = some r2) : PySem.W.kitAny K (.type t) [Value.type a, Value.type b] = some (r1 || r2) := by
  unfold PySem.W.kitAny
  rw [kit_ty h1]
  cases r1 with
  | true => rfl
  | false =>
    show PySem.W.kitAny K (.type t) [Value.type b] = some r2
    unfold PySem.W.kitAny
    rw [kit_ty h2]
    cases r2 <;> rfl
def aIsi2 (T U : String) (ao : AO) : AE := fun xp s Q => ao xp s fun o s1 => rs s1 o fun d => match isiD T d, isiD U d with
  | some b, some c => Q (.bool (b || c)) s1
  | _, _ => False
theorem ae_isi2 {T U : String} {e t : Expr} {ao : AO} {p pos : Pos} (hg : Gl X "isinstance") (hm : X.mg "isinstance" = none) (he : PE X e (cO Ec ao)) (ht : PE X t (tTup (tCons (tC (.ty T)) (tCons (tC (.ty U)) tNil)))) (hs : starEach [e, t] X.env = (false, eval e X.env) :: starEach [t] X.env := by rfl) (hs2 : starEach [t] X.env = (false, eval t X.env) :: starEach [] X.env := by rfl) (hpl : (backTo pos (starEach [t] X.env)).any (·.1) = false := by rfl) :
    PE X (.Call (.Name "isinstance" p) [e, t] [] pos) (cE Ec (aIsi2 T U ao)) := by
  refine (pe_callB call_isiT hg hm (by decide +kernel) (pa_cons he (pa_cons ht pa_nil hs2) hs) (by decide) (by decide) hs hpl).sub fun σ H Q ⟨Φ, E, xp, s, Qa, r, x, q, k⟩ => ⟨Φ, E, xp, s, _, r, x, q, fun o E1 s1 v H1 l1 r1 k1 p1 q1 => ?_⟩
  obtain ⟨d, e, q1⟩ := rs_get q1
  split at q1
  · next b c hb hc =>
    refine ⟨by show 2 ≤ sizeLine; decide, fun tp htp => ?_⟩
    have m : Same H1 (upd H1 tp (.tup [.ty T, .ty U])) := same_upd htp
    exact ⟨v, tp, _, _, _, _, rfl, upd_same, .cons (.ty T) (.cons (.ty U) .nil), tyRpX ((r1.res p1 e).same m), kit_both hb hc, k (.bool _) E1 s1 _ _ l1 (r1.same m) (k1.trans l1 (KB.of_same m)) rfl q1⟩
  · exact q1.elim
end
end TR
namespace TR
open PySem PySem.Spec PyProof.Rows L2
section
variable {Q : PyData → Prop} {a b : Int} {xs ys : List PyData}
theorem vAdd_i : vAdd (.int a) (.int b) Q = Q (.int (a + b)) := rfl
theorem vAdd_t : vAdd (.tuple xs) (.tuple ys) Q = (xs.length + ys.length ≤ sizeLine ∧ Q (.tuple (xs ++ ys))) := rfl
theorem vAdd_l : vAdd (.list xs) (.list ys) Q = (xs.length + ys.length ≤ sizeLine ∧ Q (.list (xs ++ ys))) := rfl
theorem vCatL_l : vCatL (.list xs) (.list ys) Q = (xs.length + ys.length ≤ sizeLine ∧ Q (.list (xs ++ ys))) := rfl
theorem vSub_i : vSub (.int a) (.int b) Q = Q (.int (a - b)) := rfl
theorem vMul_i : vMul (.int a) (.int b) Q = (CMul a b ∧ Q (.int (a * b))) := rfl
theorem vMod_i : vMod (.int a) (.int b) Q = (0 < b ∧ Q (.int (a % b))) := rfl
theorem vDiv_i : vDiv (.int a) (.int b) Q = (CDivW a b ∧ Q (.int (a / b))) := rfl
theorem vAddI_i : vAddI (.int a) (.int b) Q = (True ∧ Q (.int (a + b))) := rfl
theorem vSubI_i : vSubI (.int a) (.int b) Q = (True ∧ Q (.int (a - b))) := rfl
theorem vLt_i : vLt (.int a) (.int b) Q = Q (.bool (decide (a < b))) := rfl
theorem vLe_i : vLe (.int a) (.int b) Q = Q (.bool (decide (a ≤ b))) := rfl
theorem vGt_i : vGt (.int a) (.int b) Q = Q (.bool (decide (b < a))) := rfl
theorem vGe_i : vGe (.int a) (.int b) Q = Q (.bool (decide (b ≤ a))) := rfl
theorem vIx_t : vIx (.tuple xs) (.int a) Q = (match atI xs a with | some d => Q d | none => False) := rfl
theorem vIx_l : vIx (.list xs) (.int a) Q = (match atI xs a with | some d => Q d | none => False) := rfl
theorem fLen_l : fLen [.list xs] Q = Q (.int (xs.length : Nat)) := rfl
theorem fLen_t : fLen [.tuple xs] Q = Q (.int (xs.length : Nat)) := rfl
theorem fTuple_l : fTuple [.list xs] Q = Q (.tuple xs) := rfl
theorem fList_t : fList [.tuple xs] Q = Q (.list xs) := rfl
end
theorem mApp_1 {ds : List PyData} {d : PyData} {Q : PyData → List PyData → Prop} : mApp ds [d] Q = (ds.length < sizeLine ∧ Q .none (ds ++ [d])) := rfl
theorem mExt_1 {ds es : List PyData} {Q : PyData → List PyData → Prop} : mExt ds [.list es] Q = (ds.length + es.length ≤ sizeLine ∧ Q .none (ds ++ es)) := rfl
theorem at_0 {α : Type} {a : α} {l : List α} : atI (a :: l) 0 = some a := atI_nat (j := 0) rfl
theorem at_1 {α : Type} {a b : α} {l : List α} : atI (a :: b :: l) 1 = some b := atI_nat (j := 1) rfl
theorem at_2 {α : Type} {a b c : α} {l : List α} : atI (a :: b :: c :: l) 2 = some c := atI_nat (j := 2) rfl
/-- a comprehension that draws nothing -/
theorem lc_pure {α : Type} {it : AIt} {b : AB} {t : AT} {a : AE} {vs : List Nat} {Q : PyData → AS → Prop} {s : AS} (f g : α → PyData) (p : α → Bool) (hc : it.chk s) : ∀ (l : List α) (acc : List PyData), acc.length + l.length ≤ sizeLine →
    (∀ x ∈ l, ∀ (K : PyData → AS → Prop) (K0 : AS → Prop), (∀ s2, back vs s s2 = s → p x = true → K (g x) s2) → (∀ s2, back vs s s2 = s → p x = false → K0 s2) → b (f x) (s.wipe vs) fun s2 => t x0 s2 fun c s3 => if c = true then a x0 s3 K else K0 s3) →
    Q (.list (acc ++ (l.filter p).map g)) s → lcL it b t a vs Q (l.map f) acc s
  | [], acc, _, _, q => ⟨hc, by rw [List.filter_nil, List.map_nil, List.append_nil] at q; exact q⟩
  | x :: l, acc, hl, h, q => by
    rw [List.length_cons] at hl
    refine ⟨hc, h x List.mem_cons_self _ _ (fun s2 e hp => ⟨by omega, ?_⟩) (fun s2 e hp => ?_)⟩
    · rw [e]
      refine lc_pure f g p hc l _ (by rw [List.length_append]; simp only [List.length_cons, List.length_nil]; omega) (fun y hy => h y (List.mem_cons_of_mem _ hy)) ?_
      rw [List.filter_cons_of_pos hp, List.map_cons] at q
      rw [List.append_assoc]
      exact q
    · rw [e]
      refine lc_pure f g p hc l _ (by omega) (fun y hy => h y (List.mem_cons_of_mem _ hy)) ?_
      rw [List.filter_cons_of_neg (by rw [hp]; exact Bool.false_ne_true)] at q
      exact q
/-- with a test -/
theorem lc_filter {α : Type} {it : AIt} {b : AB} {t : AT} {a : AE} {vs : List Nat} {Q : PyData → AS → Prop} {s : AS} (f g : α → PyData) (p : α → Bool) (l : List α) (hl : l.length ≤ sizeLine)
    (h : ∀ x ∈ l, ∀ (K : PyData → AS → Prop) (K0 : AS → Prop), (∀ s2, back vs s s2 = s → p x = true → K (g x) s2) → (∀ s2, back vs s s2 = s → p x = false → K0 s2) → b (f x) (s.wipe vs) fun s2 => t x0 s2 fun c s3 => if c = true then a x0 s3 K else K0 s3)
    (q : Q (.list ((l.filter p).map g)) s) (hc : it.chk s := by exact True.intro) : lcL it b t a vs Q (l.map f) [] s := lc_pure f g p hc l [] (by simpa using hl) h q
/-- without a test -/
theorem lc_map {α : Type} {it : AIt} {b : AB} {a : AE} {vs : List Nat} {Q : PyData → AS → Prop} {s : AS} (f g : α → PyData) (l : List α) (hl : l.length ≤ sizeLine)
    (h : ∀ x ∈ l, ∀ (K : PyData → AS → Prop), (∀ s2, back vs s s2 = s → K (g x) s2) → b (f x) (s.wipe vs) fun s2 => a x0 s2 K) (q : Q (.list (l.map g)) s) (hc : it.chk s := by exact True.intro) : lcL it b tYesA a vs Q (l.map f) [] s := by
  refine lc_pure f g (fun _ => true) hc l [] (by simpa using hl) (fun x hx K K0 h1 _ => h x hx K fun s2 e => h1 s2 e rfl) ?_
  rw [List.filter_eq_self.mpr fun _ _ => rfl]
  exact q
/-- for, by an invariant -/
theorem for_inv {α : Type} {b : AB} {body : AST} {xp : XP} {D : AEnds} (f : α → PyData) (I : List α → AS → Prop) (h : ∀ x l s, I (x :: l) s → ∀ N : AS → Prop, (∀ s', I l s' → N s') → b (f x) s fun s1 => body xp { D with nx := N, ct := N, bk := D.nx } s1)
    (h0 : ∀ s, I [] s → D.nx s) : ∀ (l : List α) (s : AS), I l s → forL b body xp D (l.map f) s
  | [], s, i => h0 s i
  | x :: l, s, i => h x l s i _ fun s' i' => for_inv f I h h0 l s' i'
/-- while, by an invariant and a measure -/
theorem while_inv {t : AT} {b : AST} {xp : XP} {D : AEnds} (I : Nat → AS → Prop) (h : ∀ k s, I k s → ∀ N : AS → Prop, (∀ j s', j < k → I j s' → N s') → t xp s fun c s1 => if c = true then b xp { D with nx := N, ct := N, bk := D.nx } s1 else D.nx s1) {k : Nat} {s : AS} (i : I k s) : sWhile t b xp D s := by
  have key : ∀ m j s, j ≤ m → I j s → whN t b xp D (m + 1) s := by
    intro m
    induction m with
    | zero =>
      intro j s hj i
      obtain rfl : j = 0 := by omega
      exact h 0 s i _ fun j' s' hj' _ => absurd hj' (by omega)
    | succ m ih =>
      intro j s hj i
      exact h j s i _ fun j' s' hj' i' => ih j' s' (by omega) i'
  exact ⟨k + 1, key k k s (Nat.le_refl _) i⟩
end TR
namespace TR
open PySem PySem.Spec PyProof.Rows L2
/-! ### own exceptions as values -/
/-- what the making of an exception with one field leaves -/
structure Made (fn : Str) (h h' : Heap) (e C d : Addr) (v : Value) : Prop where
  keep : ∀ b o, h.get? b = some o → h'.get? b = some o
  new : h.objs.size ≤ e
  obj : ∃ oe vs, h'.get? e = some oe ∧ oe.cls = .ref C ∧ oe.dict = some d ∧ oe.data = .fields vs
  dbig : h.objs.size ≤ d
  dne : d ≠ e
  ns : h'.Ns1 d (fun y => if y = fn then some v else none)
/-- a class whose __init__ stores its one argument in the field fn -/
structure MkF (K : PySem.W.Frag) (mg : Str → Option Value) (cn fn : Str) (C : Addr) : Prop where
  gC : mg cn = some (.ref C)
  kC : PySem.W.keepIn K (.ref C) = true
  no : PySem.W.findIn K (.ref C) fn = some none
  made : ∀ (prog : Program) (w : World) (A : Around) (R : Result → Shared → Prop) (s : Shared) (v : Value), K.In s.heap → s.heap.NoLimit → A.depth + 1 < recursionLimit →
    (∀ h' tk e d, Made fn s.heap h' e C d v → R (.ok (.ret (.ref e))) { s with heap := h', toks := tk }) → codeAny (model prog w) A (.call (.ref C) ⟨[v], []⟩) R s
section
variable {X : Cx}
/-- where an exception's dict stands -/
def XdAt (H : Hp) : Option Addr → Prop
  | none => True
  | some dd => ∃ fs, H dd = some (.xd fs)
theorem XdAt.same {H H' : Hp} (s : Same H H') : ∀ {d : Option Addr}, XdAt H d → XdAt H' d
  | none, _ => trivial
  | some _, ⟨fs, h⟩ => ⟨fs, s _ _ h⟩
end
end TR
namespace TR
open PySem PySem.Spec PyProof.Rows L2
/-! ### a def that is handed the exception which the caller's suite holds -/
abbrev SpE := Value → Option Addr → Addr → Sp
structure FnE (P : Program) (w : World) (K : PySem.W.Frag) (mg : Str → Option Value) (base : Heap) (k : Nat) (f : Addr) (fd : FuncData) (ps : List Str) (sp : SpE) : Prop where
  len : ∀ c d a vs H Q E, sp c d a vs H Q E → vs.length = ps.length
  run : ∀ (A : Around) (l : List Env) (s : Shared) (H : Hp) (args : Args) (us : List Value) (vs : List V) (Q : VK) (p : Addr × Obj) (cls : Value) (d : Option Addr), L2H.RoomH k A → L2H.PinOk l H s p → Zc cls d p.2 → (∃ v, p.2.data = .fields v) →
    Env0 P w K mg base A l s H → BindsTo s fd args (ps.zip us) → Vals vs us → sp cls d p.1 vs H Q E0 → codeAny (model P w) A (.call (.ref f) args) (CR CX0 l P w H s Q E0) s
section
variable {P : Program} {w : World} {K : PySem.W.Frag} {mg : Str → Option Value} {base : Heap}
end
/-! ### in the body of such a def, and in the suite -/
section
variable {X : Cx}
theorem pin_inst {pins : List (Addr × Obj)} {σ : L2.St} {H : Hp} {s : Shared} {p : Addr × Obj} {C : Addr} {d : Option Addr} (I : Inv X pins σ H s) (hp : p ∈ X.pn) (hz : Zc (.ref C) d p.2) (hf : ∃ vs, p.2.data = .fields vs) (hd : XdAt H d) :
    ∃ od, PySem.W.InstAt s.heap p.1 p.2 C od ∧ (d = none → od = none) ∧ (∀ dd, d = some dd → od.isSome = true) := by
  obtain ⟨g, _⟩ := I.pin p (List.mem_append_left _ hp)
  obtain ⟨vs, hv⟩ := hf
  cases d with
  | none => exact ⟨none, ⟨g, hz.1, by unfold PySem.W.notCls; rw [hv] <;> rfl, by rw [hz.2]; trivial⟩, fun _ => rfl, fun _ z => by cases z⟩
  | some dd =>
    obtain ⟨fs, hx⟩ := hd
    obtain ⟨mA, hns, _⟩ := (show ObjOk X.prog X.w H s.heap dd (.xd fs) from I.hok dd _ hx)
    obtain ⟨od, ho, _⟩ := lookIn_ns hns
    exact ⟨some od, ⟨g, hz.1, by unfold PySem.W.notCls; rw [hv] <;> rfl, by rw [hz.2]; exact ho⟩, (fun z => by cases z), fun _ _ => rfl⟩
/-- isinstance(e, c), e the exception that is pinned -/
def rIsP (K : PySem.W.Frag) (p : Addr × Obj) : List V → Hp → VK → Prop := fun xs H Q => ∃ (C : Addr) (d : Option Addr) (c : V) (cv : Value) (b : Bool), xs = [.ref p.1, c] ∧ Zc (.ref C) d p.2 ∧ (∃ vs, p.2.data = .fields vs) ∧ XdAt H d ∧ ExcC K C ∧ ClsV c cv ∧ PySem.W.kitOne K (.ref C) cv = some b ∧ Q (.bl b) H
theorem call_isP {p : Addr × Obj} (hp : p ∈ X.pn) : CallR X (.builtin "isinstance") (rIsP X.K p) := by
  intro pins s σ H xs us Q I r ⟨D, d, c, cv, b, ex, hz, hf, hd, C, hc, e, q⟩
  subst ex
  cases r with
  | cons rx rr =>
    cases rr with
    | cons rt rr =>
      cases rr; cases rx
      have ec := hc.eq rt
      subst ec
      obtain ⟨od, J, h0, h1⟩ := pin_inst I hp hz hf hd
      cases d with
      | none =>
        cases h0 rfl
        exact PySem.W.kia_one (PySem.W.handS_kitx_exc C.hg C.hk C.hs C.hd C.ha C.hn C.ht C.hm) I.kIn J e (fun z => nomatch z) fun tk => ⟨.bl b, H, I.kept (t' := tk) fun _ _ z => z, rfl, q⟩
      | some dd =>
        obtain ⟨od', rfl⟩ := Option.isSome_iff_exists.mp (h1 dd rfl)
        obtain ⟨cd, hcd, _⟩ := PySem.W.any_some C.hd
        exact PySem.W.kia_one (PySem.W.kitx_exc (by rw [hcd]; rfl) C.hg C.hk C.hs C.ha C.hn C.ht C.hm) I.kIn J e (fun z => nomatch z) fun tk => ⟨.bl b, H, I.kept (t' := tk) fun _ _ z => z, rfl, q⟩
/-- isinstance(e, (c, ..)), e the exception that is pinned -/
def rIsPT (K : PySem.W.Frag) (p : Addr × Obj) : List V → Hp → VK → Prop := fun xs H Q => ∃ (C : Addr) (d : Option Addr) (tp : Addr) (cs : List V) (us : List Value) (b : Bool), xs = [.ref p.1, .ref tp] ∧ Zc (.ref C) d p.2 ∧ (∃ vs, p.2.data = .fields vs) ∧ XdAt H d ∧ ExcC K C ∧ H tp = some (.tup cs) ∧ Paired ClsV cs us ∧ PySem.W.kitAny K (.ref C) us = some b ∧ Q (.bl b) H
theorem call_isPT {p : Addr × Obj} (hp : p ∈ X.pn) : CallR X (.builtin "isinstance") (rIsPT X.K p) := by
  intro pins s σ H xs us Q I r ⟨D, d, tp, cs, vs, b, ex, hz, hf, hd, C, htp, hpr, e, q⟩
  subst ex
  cases r with
  | cons rx rr =>
    cases rr with
    | cons rt rr =>
      cases rr; cases rx; cases rt
      obtain ⟨od, J, h0, h1⟩ := pin_inst I hp hz hf hd
      obtain ⟨z, its, rv, ⟨oc, odd, odt, osl⟩, ho, hc, n, hdt⟩ := (show ObjOk X.prog X.w H s.heap tp (.tup cs) from I.hok tp _ htp)
      dsimp only at hc hdt; subst hc hdt
      have ev := ClsV.all hpr rv
      subst ev
      cases d with
      | none =>
        cases h0 rfl
        exact PySem.W.kia_tup (PySem.W.handS_kitx_exc C.hg C.hk C.hs C.hd C.ha C.hn C.ht C.hm) I.kIn J ho e (fun z => nomatch z) fun tk => ⟨.bl b, H, I.kept (t' := tk) fun _ _ z => z, rfl, q⟩
      | some dd =>
        obtain ⟨od', rfl⟩ := Option.isSome_iff_exists.mp (h1 dd rfl)
        obtain ⟨cd, hcd, _⟩ := PySem.W.any_some C.hd
        exact PySem.W.kia_tup (PySem.W.kitx_exc (by rw [hcd]; rfl) C.hg C.hk C.hs C.ha C.hn C.ht C.hm) I.kIn J ho e (fun z => nomatch z) fun tk => ⟨.bl b, H, I.kept (t' := tk) fun _ _ z => z, rfl, q⟩
/-- e.f, e the exception that is pinned -/
def tFldP (K : PySem.W.Frag) (p : Addr × Obj) (n : Str) (te : TE) : TE := fun σ H Q => te σ H fun x H1 => ∃ (C dd : Addr) (v : V), x = .ref p.1 ∧ Zc (.ref C) (some dd) p.2 ∧ (∃ vs, p.2.data = .fields vs) ∧ H1 dd = some (.xd [(n, v)]) ∧ ExcC K C ∧ PySem.W.findIn K (.ref C) n = some none ∧ Q v H1
theorem pe_fldP {p : Addr × Obj} {e : Expr} {te : TE} {pos : Pos} {n : Str} (hp : p ∈ X.pn) (he : PE X e te) (hb : attributeBase e n X.env (eval e X.env) = eval e X.env := by rfl) : PE X (.Attribute e n pos) (tFldP X.K p n te) := by
  refine ⟨fun pins s σ H Q I h => ?_⟩
  refine attr_of hb (thn (he.run pins s σ H _ I h) fun u s1 hh => ?_)
  obtain ⟨x, H1, I1, rx, C, dd, v, ex, hz, ⟨vs, hv⟩, hx, T, no, q⟩ := hh
  subst ex
  obtain rfl : u = Value.ref p.1 := rx
  obtain ⟨hget, _⟩ := I1.pin p (List.mem_append_left _ hp)
  obtain ⟨mA, hns, hr⟩ := (show ObjOk X.prog X.w H1 s1.heap dd (.xd [(n, v)]) from I1.hok dd _ hx)
  obtain ⟨od, ho, hl⟩ := lookIn_ns hns
  have l : List.lookup n [(n, v)] = some v := by simp [List.lookup]
  obtain ⟨u, hu, ru⟩ := RelO.some_of (v := v) (o := mA n) (by rw [← l]; exact hr n)
  have J : PySem.W.InstAt s1.heap p.1 p.2 C (some od) := ⟨hget, hz.1, by unfold PySem.W.notCls; rw [hv] <;> rfl, by rw [hz.2]; exact ho⟩
  exact HandSPX.exc_get I1.kIn J T.hg T.hk T.hs (PySem.W.findObj_own T.hd no rfl (by rw [hl, hu])) (handed_of ru) ⟨v, H1, I1.tok _, ru, q⟩
end
end TR
namespace TR
open PySem PySem.Spec PyProof.Rows L2
/-- a class without __init__ of its own, which is raised -/
structure Mk0 (K : PySem.W.Frag) (mg : Str → Option Value) (cn : Str) (C : Addr) : Prop where
  g : mg cn = some (.ref C)
  k : PySem.W.keepIn K (.ref C) = true
  q : PySem.W.excIn K C [.type "ValueError", .type "Exception", .type "BaseException", .type "object"] "ValueError.__new__" = true
  b : PySem.W.subIn K (.ref C) (.type "BaseException") = some true
  t : PySem.W.typeIn K (.ref C) = some (.type "type")
end TR
namespace TR
open PySem PySem.Spec PyProof.Rows L2
/-- the classes that may be caught: what is known of them -/
structure XTab (K : PySem.W.Frag) (cs : List Addr) (cB : Addr) : Prop where
  ec : ∀ C ∈ cs, ExcC K C
  kit : ∀ C ∈ cs, ∀ D ∈ cs, PySem.W.kitOne K (.ref C) (.ref D) = some (decide (C = D))
  ve : ∀ C ∈ cs, PySem.W.kitOne K (.ref C) (.type "ValueError") = some true
  te : ∀ C ∈ cs, PySem.W.exmOne K (.ref C) (.ref cB) = some true
section
variable {X : Cx} {Ec : EC}
/-! ### raise -/
def sRaise1 (C : Addr) (f : Str) (aa : AA) : AST := fun xp _ s => aa xp s fun os s1 => rv os fun ds => match ds with
  | [d] => xp ⟨C, some (f, d)⟩ s1
  | _ => False
theorem as_raise1 {T : List (Addr × Str)} {st : Stmt} {C : Addr} {f : Str} {E : XK} {aa : AA} (h : PS X st (fun _ σ H => cA (eT T E) aa σ H fun vs H1 => ∃ v, vs = [v] ∧ ∀ d, H1 d = none → E (.ref C) (some d) (upd H1 d (.xd [(f, v)])))) : PS X st (cS (eT T E) (sRaise1 C f aa)) := by
  refine h.sub fun D σ H ⟨Φ, E, xp, s, Da, r, x, q, m⟩ => ⟨Φ, E, xp, s, _, r, x, q, fun os E1 s1 vs H1 l1 r1 k1 p1 q1 => ?_⟩
  obtain ⟨ds, e, q1⟩ := rv_get q1
  have ra := vals_rp p1 e
  match ds, q1, ra with
  | [d], q1, ra =>
    obtain ⟨v, t, rfl, p, rfl⟩ := ra
    refine ⟨v, rfl, fun da hd => ?_⟩
    have sm : Same H1 (upd H1 da (.xd [(f, v)])) := same_upd hd
    exact x.2 ⟨C, some (f, d)⟩ E1 s1 σ _ (some da) (r1.same sm) ⟨da, v, rfl, upd_same, p.same sm⟩ q1
/-! ### try -/
def AV.noX : Option AV → Option AV
  | some (.exc _) => none
  | o => o
def AS.noX (s : AS) (i : Nat) : AS := { s with sl := (s.sl.map AV.noX).set i none }
def sTry (i : Nat) (cs : List Addr) (b su : AST) : AST := fun xp D s => b (fun x s1 => x.cls ∈ cs ∧ su x0 { nx := fun s2 => D.nx (s2.noX i), rt := D.rt, bk := fun s2 => D.bk (s2.noX i), ct := fun s2 => D.ct (s2.noX i) } (s1.set i (.exc x))) D s
theorem Rel.noX {Φ : Fx} {E : OE} {s : AS} {σ : L2.St} {H : Hp} {ex : Option (Addr × Addr × Option Addr)} {cs : List Addr} (i : Nat) (r : Rel { Φ with ex := ex, cs := cs } E s σ H) : Rel Φ E (s.noX i) (σ.set i none) H := by
  refine ⟨by show ((s.sl.map AV.noX).set i none).length = _; rw [List.length_set, List.length_map, List.length_set]; exact r.len, fun j x h => ?_, r.dk, r.own, r.inj, r.fr, r.dk0, r.alive, r.held, r.zz, r.znd, r.tt⟩
  have h2 : ((s.sl.map AV.noX).set i none)[j]? = some (some x) := h
  have hj : j ≠ i := fun z => by
    subst z
    by_cases hl : j < (s.sl.map AV.noX).length
    · rw [List.getElem?_set_self hl] at h2; cases h2
    · rw [List.getElem?_eq_none (by rw [List.length_set]; omega)] at h2; cases h2
  rw [List.getElem?_set_ne (Ne.symm hj), List.getElem?_map] at h2
  obtain ⟨o, ho, e⟩ := Option.map_eq_some_iff.mp h2
  cases o with
  | none => cases e
  | some y =>
    cases y with
    | exc y => cases e
    | dat d =>
      cases e
      obtain ⟨v, h1, h3⟩ := r.val j _ ho
      exact ⟨v, by rw [List.getElem?_set_ne (Ne.symm hj)]; exact h1, h3⟩
    | own d =>
      cases e
      obtain ⟨v, h1, h3⟩ := r.val j _ ho
      exact ⟨v, by rw [List.getElem?_set_ne (Ne.symm hj)]; exact h1, h3⟩
    | dct d =>
      cases e
      obtain ⟨v, h1, h3⟩ := r.val j _ ho
      exact ⟨v, by rw [List.getElem?_set_ne (Ne.symm hj)]; exact h1, h3⟩
    | dcn d =>
      cases e
      obtain ⟨v, h1, h3⟩ := r.val j _ ho
      exact ⟨v, by rw [List.getElem?_set_ne (Ne.symm hj)]; exact h1, h3⟩
    | dcl d =>
      cases e
      obtain ⟨v, h1, h3⟩ := r.val j _ ho
      exact ⟨v, by rw [List.getElem?_set_ne (Ne.symm hj)]; exact h1, h3⟩
    | lck t d =>
      cases e
      obtain ⟨v, h1, h3⟩ := r.val j _ ho
      exact ⟨v, by rw [List.getElem?_set_ne (Ne.symm hj)]; exact h1, h3⟩
    | bor d =>
      cases e
      obtain ⟨v, h1, h3⟩ := r.val j _ ho
      exact ⟨v, by rw [List.getElem?_set_ne (Ne.symm hj)]; exact h1, h3⟩
    | deck =>
      cases e
      obtain ⟨v, h1, h3⟩ := r.val j _ ho
      exact ⟨v, by rw [List.getElem?_set_ne (Ne.symm hj)]; exact h1, h3⟩
theorem Rel.setExc {Φ : Fx} {E : OE} {s : AS} {σ : L2.St} {H : Hp} {x : XD} {a : Addr} {da : Option Addr} {cs : List Addr} (i : Nat) (r : Rel Φ E s σ H) (h0 : Φ.ex = none) (xr : XRep H (ban Φ E) x da) (hc : x.cls ∈ cs) : Rel { Φ with ex := some (a, x.cls, da), cs := cs } E (s.set i (.exc x)) (σ.set i (some (.ref a))) H := by
  have r' : Rel { Φ with ex := some (a, x.cls, da), cs := cs } E s σ H := ⟨r.len, fun j y h => by
    obtain ⟨v, h1, h2⟩ := r.val j y h
    refine ⟨v, h1, ?_⟩
    cases y with
    | exc y =>
      obtain ⟨b, db, e, _⟩ := h2
      rw [h0] at e
      cases e
    | dat _ => exact h2
    | own _ => exact h2
    | dct _ => exact h2
    | dcn _ => exact h2
    | dcl _ => exact h2
    | lck _ _ => exact h2
    | bor _ => exact h2
    | deck => exact h2, r.dk, r.own, r.inj, r.fr, r.dk0, r.alive, r.held, r.zz, r.znd, r.tt⟩
  exact r'.setX i (x := .exc x) ⟨a, da, rfl, rfl, xr, hc⟩
theorem as_try {T : List (Addr × Str)} {cs : List Addr} {cB : Addr} {x n : Str} {i : Nat} {body suite : List Stmt} {b₀ : Stmt} {np pos pos' : Pos} {bb bs : AST} {E : XK} (TX : XTab X.K cs cB) (hs : X.stack = X.env :: X.outer) (hf : X.env.frame = some X.env.locals) (hN : X.N.Nodup) (hi : X.N[i]? = some n) (hln : X.env.kindOf n = some .local) (hc : Names X x (.ref cB)) (tk : Takes X (fun _ _ _ _ => False))
    (hb : ∀ (W : WX) (pn : List (Addr × Obj)) (xe : Value → Shared → Prop), Takes (X.tr pn xe) W → PassesOwn (model X.prog X.w) X.A X.env xe → PSs (X.tr pn xe) body (cS ⟨WE W, none, [], T⟩ bb))
    (hsu : ∀ (a : Addr) (oe : Obj) (C : Addr) (d : Option Addr) (pn : List (Addr × Obj)), Zc (.ref C) d oe → (∃ vs, oe.data = .fields vs) → PSs (X.suite a ((a, oe) :: pn)) (b₀ :: suite) (cS ⟨fun _ _ _ _ => False, some (a, C, d), cs, T⟩ bs)) :
    PS X (.Try body [.ExceptHandler (some (.Name x np)) (some n) (b₀ :: suite) pos'] [] [] pos) (cS (eT T E) (sTry i cs bb bs)) := by
  refine (ps_try_as (i := i) (c := .ref cB) (Wout := fun _ _ _ _ => False) (tb := fun W => cS ⟨WE W, none, [], T⟩ bb) (ts := fun a cls d D σ H => ∃ C, cls = .ref C ∧ cS ⟨fun _ _ _ _ => False, some (a, C, d), cs, T⟩ bs D σ H) hs hf hN hi hln hc tk hb (fun a oe cls d pn hz hf => ?_)).sub fun D σ H ⟨Φ, E, xp, s, Da, r, x, q, m⟩ => ?_
  · constructor
    intro pins s σ H D I h
    obtain ⟨C, rfl, h⟩ := h
    exact (hsu a oe C d pn hz hf).run pins s σ H D I h
  · refine ⟨Φ, E, _, s, Da, r, ⟨x.1, fun y E1 s1 σ1 H1 da r1 xr hy => ?_⟩, q, m⟩
    refine ⟨true, TX.te _ hy.1, fun _ a ha => ⟨y.cls, rfl, { Φ with ex := some (a, y.cls, da), cs := cs }, E1, x0, _, _, r1.setExc i x.1.1 xr hy.1, ⟨⟨rfl, rfl, x.1.2.2⟩, fun _ _ _ _ _ _ _ _ h => h⟩, hy.2, ?_⟩, fun z => Bool.noConfusion z⟩
    exact ⟨fun E2 s2 σ2 H2 r2 q2 => m.nx E2 _ _ H2 (r2.noX i) q2, fun E2 s2 σ2 H2 r2 q2 => m.bk E2 _ _ H2 (r2.noX i) q2, fun E2 s2 σ2 H2 r2 q2 => m.ct E2 _ _ H2 (r2.noX i) q2, fun y n v H2 ro q2 => m.rt y n v H2 ⟨ro.fr, ro.dk, ro.rp⟩ q2⟩
/-- a call in a try's body -/
theorem ae_callT {T : List (Addr × Str)} {k : Nat} {f : Addr} {fd : FuncData} {ps : List Str} {ms : List Md} {F : AF} {x : Str} {p pos : Pos} {e : Expr} {es : List Expr} {aa : AA} {W : WX} (G : FnOk X.prog X.w X.K X.mg X.base (L2.CX X.prog X.w) k f fd ps (spA ms F)) (hd : Md.deck ∉ ms) (hr : Room k X.A) (hg : Gl X x) (hm : X.mg x = some (.ref f)) (hk : PySem.W.keepIn X.K (.ref f) = true) (hb : Binds X.K fd ps []) (tk : Takes X W) (ha : PA X (e :: es) (cA ⟨WE W, none, [], T⟩ aa)) (hdb : (x == ("__debug__" : Str)) = false := by decide) (he : starEach (e :: es) X.env = (false, eval e X.env) :: starEach es X.env := by rfl) (hpl : (backTo pos (starEach es X.env)).any (·.1) = false := by rfl) :
    PE X (.Call (.Name x p) (e :: es) [] pos) (cE ⟨WE W, none, [], T⟩ (aCall0 ms F aa)) := (pe_callS (E := WE W) G hr hg hm hk hb (fun σ => passAt tk σ) ha hdb he hpl).sub fun σ H Q h => call0_ok hd h
/-! ### the exception in the suite -/
def aIsX (D : Addr) (i : Nat) : AE := fun _ s Q => match s.sl[i]? with
  | some (some (.exc x)) => Q (.bool (decide (x.cls = D))) s
  | _ => False
theorem xd_at {H : Hp} {bn : List Addr} {x : XD} {da : Option Addr} (h : XRep H bn x da) : XdAt H da := by
  unfold XRep at h
  split at h
  · subst h; trivial
  · obtain ⟨e, v, rfl, h1, _⟩ := h
    exact ⟨_, h1⟩
theorem ae_isX {p : Addr × Obj} {C D : Addr} {d : Option Addr} {cs : List Addr} {cB : Addr} {i : Nat} {e c : Expr} {q pos : Pos} (TX : XTab X.K cs cB) (hp : p ∈ X.pn) (hz : Zc (.ref C) d p.2) (hf : ∃ vs, p.2.data = .fields vs) (hex : Ec.ex = some (p.1, C, d)) (hcs : Ec.cs = cs) (hD : D ∈ cs) (hg : Gl X "isinstance") (hm : X.mg "isinstance" = none) (he : PE X e (tVar i)) (hc : PE X c (tC (.ref D)))
    (hs : starEach [e, c] X.env = (false, eval e X.env) :: starEach [c] X.env := by rfl) (hs2 : starEach [c] X.env = (false, eval c X.env) :: starEach [] X.env := by rfl) (hpl : (backTo pos (starEach [c] X.env)).any (·.1) = false := by rfl) :
    PE X (.Call (.Name "isinstance" q) [e, c] [] pos) (cE Ec (aIsX D i)) := by
  refine (pe_callB (call_isP hp) hg hm (by decide +kernel) (pa_cons he (pa_cons hc pa_nil hs2) hs) (by decide) (by decide) hs hpl).sub fun σ H Q ⟨Φ, E, xp, s, Qa, r, x, q, k⟩ => ?_
  unfold aIsX at q
  split at q
  · next y hy =>
    obtain ⟨v, h1, a, da, e1, rfl, xr, hin⟩ := r.val i _ hy
    rw [x.1.1, hex] at e1
    cases e1
    rw [x.1.2.1, hcs] at hin
    exact ⟨_, h1, _, d, .ref D, .ref D, _, rfl, hz, hf, xd_at xr, TX.ec _ hin, .own D, TX.kit _ hin D hD, k (.bool _) E s _ H (.refl _) r (.refl _ _) rfl q⟩
  · exact q.elim
/-- isinstance(e, (A, B, ..)) -/
def aIsXs (Ds : List Addr) (i : Nat) : AE := fun _ s Q => match s.sl[i]? with
  | some (some (.exc x)) => Q (.bool (decide (x.cls ∈ Ds))) s
  | _ => False
theorem kit_any {K : PySem.W.Frag} {cs : List Addr} {cB : Addr} (T : XTab K cs cB) {C : Addr} (hC : C ∈ cs) : ∀ {Ds : List Addr}, (∀ D ∈ Ds, D ∈ cs) → PySem.W.kitAny K (.ref C) (Ds.map Value.ref) = some (decide (C ∈ Ds))
  | [], _ => by simp [PySem.W.kitAny]
  | D :: Ds, h => by
    have h1 := T.kit C hC D (h D List.mem_cons_self)
    have ih := kit_any T hC (Ds := Ds) fun D hD => h D (List.mem_cons_of_mem _ hD)
    rw [List.map_cons]
    unfold PySem.W.kitAny
    rw [h1]
    by_cases e : C = D
    · rw [decide_eq_true e]
      simp [e]
    · rw [decide_eq_false e]
      show PySem.W.kitAny K (.ref C) (Ds.map Value.ref) = _
      rw [ih]
      simp [e]
theorem pairs_cls : ∀ Ds : List Addr, Paired ClsV (Ds.map V.ref) (Ds.map Value.ref)
  | [] => .nil
  | D :: Ds => .cons (.own D) (pairs_cls Ds)
theorem ae_isXs {p : Addr × Obj} {C : Addr} {d : Option Addr} {cs : List Addr} {cB : Addr} {i : Nat} {e c : Expr} {q pos : Pos} {ta : TA} {Ds : List Addr} (TX : XTab X.K cs cB) (hp : p ∈ X.pn) (hz : Zc (.ref C) d p.2) (hf : ∃ vs, p.2.data = .fields vs) (hex : Ec.ex = some (p.1, C, d)) (hcs : Ec.cs = cs) (hD : ∀ D ∈ Ds, D ∈ cs) (hl : Ds.length ≤ 1000) (hta : ∀ σ H (Q : List V → Hp → Prop), Q (Ds.map V.ref) H → ta σ H Q) (hg : Gl X "isinstance") (hm : X.mg "isinstance" = none) (he : PE X e (tVar i)) (hc : PE X c (tTup ta))
    (hs : starEach [e, c] X.env = (false, eval e X.env) :: starEach [c] X.env := by rfl) (hs2 : starEach [c] X.env = (false, eval c X.env) :: starEach [] X.env := by rfl) (hpl : (backTo pos (starEach [c] X.env)).any (·.1) = false := by rfl) :
    PE X (.Call (.Name "isinstance" q) [e, c] [] pos) (cE Ec (aIsXs Ds i)) := by
  refine (pe_callB (call_isPT hp) hg hm (by decide +kernel) (pa_cons he (pa_cons hc pa_nil hs2) hs) (by decide) (by decide) hs hpl).sub fun σ H Q ⟨Φ, E, xp, s, Qa, r, x, q, k⟩ => ?_
  unfold aIsXs at q
  split at q
  · next y hy =>
    obtain ⟨v, h1, a, da, e1, rfl, xr, hin⟩ := r.val i _ hy
    rw [x.1.1, hex] at e1
    cases e1
    rw [x.1.2.1, hcs] at hin
    refine ⟨_, h1, hta _ _ _ ⟨by rw [List.length_map]; exact Nat.le_of_lt (small1000 hl), fun tp htp => ?_⟩⟩
    have m : Same H (upd H tp (.tup (Ds.map V.ref))) := same_upd htp
    exact ⟨_, d, tp, _, _, _, rfl, hz, hf, xd_at (xr.same m), TX.ec _ hin, upd_same, pairs_cls Ds, kit_any TX hin hD, k (.bool _) E s _ _ (.refl _) (r.same m) (.of_same m) rfl q⟩
  · exact q.elim
/-- e.f -/
def aFldX (f : Str) (i : Nat) : AE := fun _ s Q => match s.sl[i]? with
  | some (some (.exc ⟨_, some (g, d)⟩)) => g = f ∧ Q d s
  | _ => False
theorem ae_fldX {p : Addr × Obj} {C : Addr} {d : Option Addr} {cs : List Addr} {cB : Addr} {i : Nat} {e : Expr} {pos : Pos} {f : Str} (TX : XTab X.K cs cB) (hp : p ∈ X.pn) (hz : Zc (.ref C) d p.2) (hf : ∃ vs, p.2.data = .fields vs) (hex : Ec.ex = some (p.1, C, d)) (hcs : Ec.cs = cs) (hn : ∀ C ∈ cs, PySem.W.findIn X.K (.ref C) f = some none) (he : PE X e (tVar i)) (hb : attributeBase e f X.env (eval e X.env) = eval e X.env := by rfl) : PE X (.Attribute e f pos) (cE Ec (aFldX f i)) := by
  refine (pe_fldP hp he hb).sub fun σ H Q ⟨Φ, E, xp, s, Qa, r, x, q, k⟩ => ?_
  unfold aFldX at q
  split at q
  · next c g dd hy =>
    obtain ⟨rfl, q⟩ := q
    obtain ⟨v, h1, a, da, e1, rfl, ⟨b, w, rfl, hb1, rp⟩, hin⟩ := r.val i _ hy
    rw [x.1.1, hex] at e1
    cases e1
    rw [x.1.2.1, hcs] at hin
    exact ⟨_, h1, _, b, w, rfl, hz, hf, hb1, TX.ec _ hin, hn _ hin, k dd E s w H (.refl _) r (.refl _ _) rp q⟩
  · exact q.elim
end
end TR
namespace TR
open PySem PySem.Spec PyProof.Rows L2
section
variable {P : Program} {w : World} {K : PySem.W.Frag} {mg : Str → Option Value} {base : Heap}
/-- a def's promise where no repr is under way -/
def RunG (P : Program) (w : World) (K : PySem.W.Frag) (mg : Str → Option Value) (base : Heap) (k : Nat) (f : Addr) (fd : FuncData) (ps : List Str) (sp : Sp) : Prop :=
  ∀ (A : Around) (outer : List Env) (s : Shared) (H : Hp) (args : Args) (us : List Value) (vs : List V) (Q : VK) (E : XK), A.guards = some [] → Room k A → Env0 P w K mg base A outer s H → BindsTo s fd args (ps.zip us) → Vals vs us → sp vs H Q E → codeAny (model P w) A (.call (.ref f) args) (CR CX0 outer P w H s Q E) s
theorem okG {x qual : Str} {st : Stmt} {f : Addr} {fd : FuncData} {N ps : List Str} {k : Nat} {sp : Sp} (F : Fun K x qual st f fd) (S : FnScope N ps (defScope st)) (len : ∀ vs H Q E, sp vs H Q E → vs.length = ps.length)
    (hbody : ∀ (cdv : Value) (A : Around) (outer : List Env) (s : Shared) (H : Hp) (vs : List V) (Q : VK) (E : XK), A.guards = some [] → Room k (A.deeper (envOfC qual (defScope st) s.heap.objs.size f cdv)) → sp vs H Q E →
      ∃ t, PSs (cxOf CX0 P w K mg base N qual (defScope st) f cdv A outer s H E).nox (defBody st) t ∧ t { nx := fun _ H' => Q .non H', rt := Q } (start N vs) H) : RunG P w K mg base (k + 1) f fd ps sp := by
  obtain ⟨oc, od, kV, doc, pm, an, cdv, ct, osl, rfl, lk, hcd⟩ := F.ex
  intro A outer s H args us vs Q E hgd hr e0 hb r hsp
  have hl := len _ _ _ _ hsp; have KX : K.In s.heap := e0.mod.kin.keeps fun b o e => (e0.bs b o e).1
  have lim : s.heap.NoLimit := e0.mod.nolimit.keeps fun b o e => (e0.bs b o e).1
  have kinds : ∀ y ∈ ps.zip us, (defScope st).names.lookup y.1 = some .local ∨ ((defScope st).names.lookup y.1 = some .cell ∧ ((cellsFrom (s.heap.objs.size + 1) (defScope st).names []).lookup y.1).isSome = true) := fun ⟨n, v⟩ hy => by
    rcases S.par n (List.of_mem_zip hy).1 with q | q; exact .inl q; exact .inr ⟨q, PySem.W.cellsFrom_some _ _ _ (.inl q)⟩
  refine codeAny_call_function hr.depth (KX _ _ lk) rfl S.co S.gen rfl (PySem.W.codeRec_of KX hcd) (hb _ _ _ _ (wpAny_newFunctionEnv_cells S.kind kinds fun env he s1 x => ?_))
  subst he; refine ⟨lim.keeps x.toInCall.keep, codeAny_func ?_⟩
  obtain ⟨t, ht, hq⟩ := hbody cdv A outer s H vs Q E hgd (hr.deeper _) hsp
  have I : Inv (cxOf CX0 P w K mg base N qual (defScope st) f cdv A outer s H E) [] (start N vs) H s1 := inv_start S hr.hd e0 hl r x
  refine wpAny_mono (ht.nox.run [] s1 (start N vs) H _ I hq) (fun fl s' hs => ?_) fun e s' hs => hs
  have fin : ∀ {σ' : L2.St} {H' : Hp} {v : V} {u : Value}, Inv (cxOf CX0 P w K mg base N qual (defScope st) f cdv A outer s H E) [] σ' H' s' → RelV v u → Q v H' → CE outer P w H s Q u s' := fun {σ' H' v u} J rv q => ⟨v, H', J.os, J.bare, J.base, J.hok, rv, q⟩
  cases fl with
  | ret u => obtain ⟨v, σ', H', J, rv, q⟩ := hs; exact fin J rv q
  | next => obtain ⟨σ', H', J, q⟩ := hs; exact fin (v := V.non) (u := Value.none) J rfl q
  | brk => obtain ⟨_, _, _, q⟩ := hs; exact False.elim q
  | cont => obtain ⟨_, _, _, q⟩ := hs; exact False.elim q
end
theorem law_callG {P : Program} {w : World} {K : PySem.W.Frag} {mg mb : Str → Option Value} {k : Nat} {fa a : Addr} {fd : FuncData} {x : Str} {sp : Sp} {s₁ : Shared} {vs : List Value} {ns : List Int} (KX : K.In s₁.heap) (hns : s₁.heap.Ns mainGlobals mg) (hb : s₁.heap.Ns builtinsNs mb) (hbb : ∀ x : Str, x ≠ "__name__" → mb x = bootBuiltins x)
    (hlim : s₁.heap.NoLimit) (hg : s₁.gens = #[]) (ha : s₁.heap.get? a = some { cls := .type "list", data := .seq vs.toArray }) (hi : IntsAre vs ns) (hl : ns.length ≤ sizeLine) (hr : Room k callerA) (F : ∀ base : Heap, K.In base → base.Ns mainGlobals mg → RunG P w K mg base k fa fd [x] sp)
    (hbind : ∀ (s : Shared) (u : Value), BindsTo s fd ⟨[u], []⟩ [(x, u)]) (hsp : ∀ H : Hp, Only H → SqL K H a (ns.map V.int) → sp [.ref a] H (fun v _ => v = .bl true) fun _ _ _ => False) :
    codeAny (model P w) callerA (.call (.ref fa) ⟨[.ref a], []⟩) (fun r s' => r = .ok (.ret (.bool true)) ∧ OldK s₁.heap s'.heap ∧ s'.os = s₁.os ∧ AllBare s'.gens) s₁ := by
  have rv := vals_ints hi; have lenV := hi.length
  have core : ∀ H : Hp, Only H → SqL K H a (ns.map V.int) → HOk P w H s₁.heap → (∀ b, H b ≠ none → b = a) → (H a ≠ none → K.lookup a = none) → codeAny (model P w) callerA (.call (.ref fa) ⟨[.ref a], []⟩) (fun r s' => r = .ok (.ret (.bool true)) ∧ OldK s₁.heap s'.heap ∧ s'.os = s₁.os ∧ AllBare s'.gens) s₁ := by
    intro H hO hS hok hA hK
    have b1 : ∀ {b : Addr} {o : Obj}, s₁.heap.get? b = some o → H b = none → (hidT s₁.heap H).get? b = some o := fun e n => hidT_get e n
    have n1 : ∀ {b : Addr} {o : Obj} {es : Array DictEntry} {ep : Nat}, s₁.heap.get? b = some o → o.data = .dict es ep → H b = none := fun {b o es ep} e d => by
      cases q : H b with
      | none => rfl
      | some u => have e' : b = a := hA b (by rw [q]; simp)
                  subst e'; rw [ha] at e; cases e; cases (show Data.seq vs.toArray _ = Data.dict es ep from d)
    have n2 : ∀ {b : Addr} {m : Str → Option Value}, s₁.heap.Ns b m → (hidT s₁.heap H).Ns b m := fun {b m} ⟨o, es, ep, e, d, r⟩ => ⟨o, es, ep, b1 e (n1 e d), d, r⟩
    have hKb : K.In (hidT s₁.heap H) := fun b o e => b1 (KX b o e) (by
      cases q : H b with
      | none => rfl
      | some u => have e' : b = a := hA b (by rw [q]; simp)
                  subst e'; rw [hK (by rw [q]; simp)] at e; cases e)
    have hM : Mod K mg (hidT s₁.heap H) := ⟨hKb, n2 hns, ⟨mb, n2 hb, hbb⟩, let ⟨mc, h1, h2⟩ := hlim; ⟨mc, n2 h1, h2⟩⟩
    have e0 : Env0 P w K mg (hidT s₁.heap H) callerA [] s₁ H := ⟨rfl, hM, fun b o e => of_hidT e, Nat.le_of_eq (hidT_size _ _), trivial, fun b hb => absurd (show b ∈ ([] : List Addr) from hb) (by simp), hok, .of_eq hg⟩
    refine codeAny_mono (F _ hKb (n2 hns) callerA [] s₁ H ⟨[.ref a], []⟩ [.ref a] [.ref a] _ _ rfl hr e0 (hbind s₁ (.ref a)) (.cons rfl .nil) (hsp H hO hS)) fun r s' h => ?_
    cases r with
    | error e => exact (show False from h).elim
    | ok fl =>
      cases fl with
      | next => exact False.elim h
      | brk => exact False.elim h
      | cont => exact False.elim h
      | ret u =>
        obtain ⟨v, H', os, bare, un, hok', r', q⟩ := h
        subst q; obtain rfl : u = Value.bool true := r'
        refine ⟨rfl, OldK.of_keep fun b o e => ?_, os, bare⟩
        cases q : H b with
        | none => exact un.keep b o e q (by intro z; exact absurd (show b ∈ ([] : List Addr) from z) (by simp)) (by simp)
        | some u =>
          rcases hO b with z | ⟨ob, xs, z⟩
          · rw [q] at z; cases z
          · obtain ⟨e1, _⟩ := hok b _ z; obtain ⟨e2, _⟩ := hok' b _ (un.frzs b ob _ z)
            rw [e] at e1; cases e1; exact e2
  cases hk : K.lookup a with
  | some o =>
    have e := KX a o hk; rw [ha] at e; cases e
    exact core (fun _ => none) (fun _ => .inl rfl) (.inr ⟨_, vs.toArray, _, hk, rfl, rfl, rfl, by rw [List.size_toArray, lenV]; exact hl, by simpa using rv⟩) (fun b u z => by cases (show (none : Option HO) = some u from z)) (fun b z => absurd rfl z) fun z => absurd rfl z
  | none =>
    refine core (fun b => if b = a then some (.frz { cls := .type "list", data := .seq vs.toArray } (.lst (ns.map V.int))) else none) (fun b => ?_) (.inl (.inr ⟨{ cls := .type "list", data := .seq vs.toArray }, if_pos rfl⟩)) (fun b u z => ?_) (fun b z => ?_) fun _ => hk
    · by_cases e : b = a
      · exact .inr ⟨_, _, if_pos e⟩
      · exact .inl (if_neg e)
    · by_cases e : b = a
      · cases (if_pos e).symm.trans z; subst e
        exact ⟨ha, by rw [List.length_map]; exact hl, vs, _, rv, ha⟩
      · cases (if_neg e).symm.trans z
    · by_cases e : b = a
      · exact e
      · exact absurd (if_neg e) z
theorem walk_ofG {l : PySem.W.OpenLaw} {n k : Nat} {q : Program} {loose : List Str} {XP : (Str → Option Value) → Heap → Prop} {YP : World → Heap → Prop} {d : DefRec} {K : Params → PySem.W.Frag} {sp : World → Sp} {x : Str} (hn : l.most = some n) (hn2 : n ≤ sizeLine) (hdf : d.params.defaults = []) (hr : Room k callerA) (hY : ∀ (w : World) (h : Heap), YP w h → (K w.params).In h)
    (F : ∀ (w : World) (mg : Str → Option Value) (fa : Addr) (h : Heap), (K w.params).In h → h.Ns mainGlobals mg → mg d.name = some (.ref fa) → ∃ fd : FuncData, (∀ (s : Shared) (u : Value), BindsTo s fd ⟨[u], []⟩ [(x, u)]) ∧ ∀ base : Heap, (K w.params).In base → base.Ns mainGlobals mg → RunG l.prog w (K w.params) mg base k fa fd [x] (sp w))
    (hsp : ∀ (w : World) (H : Hp) (a : Addr) (ns : List Int), ns.length ≤ n → Only H → SqL (K w.params) H a (ns.map V.int) → sp w [.ref a] H (fun v _ => v = .bl true) fun _ _ _ => False) : PySem.W.WalkO q loose XP YP l.row.toRowW d [] (fun f vs => PySem.call f vs) := by
  refine Att.attach_call hn hdf fun w s₀ s₁ mg mb fa o pm cd doc a vs ns G Y ho hd hcd hmg hobj hints hlen hg => ?_
  have KX := hY w _ Y; obtain ⟨fd, hb, hF⟩ := F w mg fa _ KX G.T.g hmg
  exact law_callG KX G.T.g G.T.b G.T.builtins G.T.nolimit hg hobj hints (Nat.le_trans hlen hn2) hr hF hb (fun H hO hS => hsp w H a ns hlen hO hS)
end TR
namespace TR
open PySem PySem.Spec PyProof.Rows L2
theorem Wf.tup {L D : Nat} {ds : List PyData} (l : ds.length ≤ L) (c : ∀ e ∈ ds, Wf L D e) : Wf L (D + 1) (.tuple ds) := .inr (.inr ⟨ds, .inr rfl, l, c⟩)
theorem Wf.lst {L D : Nat} {ds : List PyData} (l : ds.length ≤ L) (c : ∀ e ∈ ds, Wf L D e) : Wf L (D + 1) (.list ds) := .inr (.inr ⟨ds, .inl rfl, l, c⟩)
theorem Wf.leaf {L D : Nat} {d : PyData} (h : leafOk L d) : Wf L D d := by
  cases D with
  | zero => exact h
  | succ D => exact .inl h
end TR
namespace TR
open PySem PySem.Spec PyProof.Rows L2
section
variable {X : Cx}
end
end TR
namespace TR
open PySem PySem.Spec PyProof.Rows L2
section
variable {X : Cx} {pins : List (Addr × Obj)} {σ : L2.St} {H : Hp} {s : Shared}
mutual
theorem Rp.rd0 {ban : List Addr} (I : Inv X pins σ H s) : ∀ (d : PyData) (v : V) (u : Value), Rp H ban d v → RelV v u → ∃ as, Reads s.heap u d as
  | .none, _, _, h, r => by cases (show _ = V.non from h); cases r; exact ⟨_, .none⟩
  | .bool b, _, _, h, r => by cases (show _ = V.bl b from h); cases r; exact ⟨_, .bool b⟩
  | .int i, _, _, h, r => by cases (show _ = V.int i from h); obtain ⟨t, rfl⟩ := r; exact ⟨_, .int i t⟩
  | .str x, _, _, h, r => by cases (show _ = V.str x from h); obtain ⟨t, rfl⟩ := r; exact ⟨_, .str x t⟩
  | .list ds, _, _, h, r => by
    obtain ⟨a, xs, rfl, h1, _, h3⟩ := h
    cases r
    obtain ⟨z, its, n, rv, e⟩ := (show ObjOk X.prog X.w H s.heap a (.lst xs) from I.hok a _ h1)
    obtain ⟨as, g⟩ := RpAll.rd0 I ds xs its h3 rv
    exact ⟨a :: as, .list e rfl rfl (by simpa using g)⟩
  | .tuple ds, _, _, h, r => by
    obtain ⟨a, xs, rfl, h1, h3⟩ := h
    cases r
    obtain ⟨z, its, rv, o, e, c, n, hd⟩ := h1.rd.ok I.hok
    obtain ⟨as, g⟩ := RpAll.rd0 I ds xs its h3 rv
    exact ⟨as, .tuple e c hd (by simpa using g)⟩
  | .dict kvs, _, _, h, r => by
    obtain ⟨rfl, a, rfl, h1, _⟩ := h
    cases r
    obtain ⟨z, hs', vs, kv, o, es, ep, e, ex, hd, _, ps, _⟩ := dk_of I.hok h1
    cases kv
    have hes : es = #[] := by
      cases es with
      | mk l =>
        cases (show Pairs _ l [] from ps)
        rfl
    subst hes
    exact ⟨[a], .dict (as := []) (bs := []) e ex.1 hd .nil .nil⟩
theorem RpAll.rd0 {ban : List Addr} (I : Inv X pins σ H s) : ∀ (ds : List PyData) (xs : List V) (us : List Value), RpAll H ban ds xs → Vals xs us → ∃ as, ReadsAll s.heap us ds as
  | [], _, _, h, r => by cases (show _ = [] from h); cases r; exact ⟨_, .nil⟩
  | d :: ds, _, _, h, r => by
    obtain ⟨v, t, rfl, h1, h2⟩ := h
    cases r with
    | cons r1 r2 =>
      obtain ⟨as, q1⟩ := Rp.rd0 I d _ _ h1 r1
      obtain ⟨bs, q2⟩ := RpAll.rd0 I ds _ _ h2 r2
      exact ⟨as ++ bs, .cons q1 q2⟩
end
/-- what repr writes of a list, of a tuple, of {} -/
theorem rk_list {h : Heap} {P : Program} {w : World} {a : Addr} {o : Obj} {its : List Value} {n : Nat} {ds : List PyData} {as bs : List Addr} (h1 : h.get? a = some o) (h2 : o.cls = .type "list") (h3 : o.data = .seq its.toArray n) (h4 : ReadsAll h its ds as) (hb : ReadAtMost h (PyData.depthAll ds) bs) (hk : ReprAllK P w bs h (PyData.depthAll ds) its (PyData.shownAll ds)) :
    a ∉ bs ∧ ReadAtMost h (PyData.list ds).depth (a :: bs) ∧ ReprK P w (a :: bs) h (PyData.list ds).depth (.ref a) (PyData.list ds).shown := by
  have r : Reads h (.ref a) (.list ds) (a :: as) := .list h1 h2 h3 (by simpa using h4)
  have hna : a ∉ bs := not_mem_of_deeper r (by simp only [PyData.depth]; omega) hb
  refine ⟨hna, ReadAtMost.cons r (by simp only [PyData.depth]; omega) hb, ?_⟩
  simp only [PyData.depth, PyData.shown]
  cases its with
  | nil =>
    cases h4
    simp only [PyData.shownAll, listText_nil]
    exact ReprK.listEmpty h1 h2 h3
  | cons x l => exact ReprK.list h1 h2 h3 hna (by simpa using hk.length_eq) (fun i y e => hk.item i y (by simpa using e))
mutual
theorem Rp.rk {ban : List Addr} (I : Inv X pins σ H s) : ∀ (d : PyData) (v : V) (u : Value), Rp H ban d v → RelV v u → d.showable = true → d.shown.length ≤ sizeLine → ∃ bs, ReadAtMost s.heap d.depth bs ∧ ReprK X.prog X.w bs s.heap d.depth u d.shown
  | .none, _, _, h, r, hs, hz => by cases (show _ = V.non from h); cases r; exact ReprK.of_reads .none hs (fun h => nomatch h) hz
  | .bool b, _, _, h, r, hs, hz => by cases (show _ = V.bl b from h); cases r; exact ReprK.of_reads (.bool b) hs (fun h => nomatch h) hz
  | .int i, _, _, h, r, hs, hz => by cases (show _ = V.int i from h); obtain ⟨t, rfl⟩ := r; exact ReprK.of_reads (.int i t) hs (fun h => nomatch h) hz
  | .str x, _, _, h, r, hs, hz => by cases (show _ = V.str x from h); obtain ⟨t, rfl⟩ := r; exact ReprK.of_reads (.str x t) hs (fun h => nomatch h) hz
  | .list ds, _, _, h, r, hs, hz => by
    obtain ⟨a, xs, rfl, h1, _, h3⟩ := h
    cases r
    obtain ⟨z, its, n, rv, e⟩ := (show ObjOk X.prog X.w H s.heap a (.lst xs) from I.hok a _ h1)
    obtain ⟨as, g⟩ := RpAll.rd0 I ds xs its h3 rv
    have hz' : (listText (PyData.shownAll ds)).length ≤ sizeLine := by simpa only [PyData.shown] using hz
    obtain ⟨bs, hb, hk⟩ := RpAll.rk I ds xs its h3 rv (by simpa [PyData.showable] using hs) fun t ht => Nat.le_trans (listText_mem_le ht) hz'
    exact ⟨_, (rk_list e rfl rfl g hb hk).2⟩
  | .tuple ds, _, _, h, r, hs, hz => by
    obtain ⟨a, xs, rfl, h1, h3⟩ := h
    cases r
    obtain ⟨z, its, rv, o, e, c, n, hd⟩ := h1.rd.ok I.hok
    obtain ⟨as, g⟩ := RpAll.rd0 I ds xs its h3 rv
    have hz' : (tupleText (PyData.shownAll ds)).length ≤ sizeLine := by simpa only [PyData.shown] using hz
    obtain ⟨bs, hb, hk⟩ := RpAll.rk I ds xs its h3 rv (by simpa [PyData.showable] using hs) fun t ht => Nat.le_trans (tupleText_mem_le ht) hz'
    have r : Reads s.heap (.ref a) (.tuple ds) as := .tuple e c hd (by simpa using g)
    have hna : a ∉ bs := not_mem_of_deeper r (by simp only [PyData.depth]; omega) hb
    refine ⟨a :: bs, ReadAtMost.cons r (by simp only [PyData.depth]; omega) hb, ?_⟩
    simp only [PyData.depth, PyData.shown]
    exact ReprK.tuple e c hd hna (by simpa using hk)
  | .dict kvs, _, _, h, r, hs, hz => by
    obtain ⟨rfl, a, rfl, h1, _⟩ := h
    cases r
    obtain ⟨z, hs', vs, kv, o, es, ep, e, ex, hd, _, ps, _⟩ := dk_of I.hok h1
    cases kv
    have hes : es = #[] := by
      cases es with
      | mk l =>
        cases (show Pairs _ l [] from ps)
        rfl
    subst hes
    exact ReprK.of_reads (.dict (as := []) (bs := []) e ex.1 hd .nil .nil) hs (fun _ => by
      simp only [List.append_nil, List.mem_cons, List.not_mem_nil, or_false]
      exact fun z => (beq_eq_false_iff_ne.mp hs') z.symm) hz
theorem RpAll.rk {ban : List Addr} (I : Inv X pins σ H s) : ∀ (ds : List PyData) (xs : List V) (us : List Value), RpAll H ban ds xs → Vals xs us → PyData.showableAll ds = true → (∀ t ∈ PyData.shownAll ds, t.length ≤ sizeLine) → ∃ bs, ReadAtMost s.heap (PyData.depthAll ds) bs ∧ ReprAllK X.prog X.w bs s.heap (PyData.depthAll ds) us (PyData.shownAll ds)
  | [], _, _, h, r, _, _ => by
    cases (show _ = [] from h); cases r
    exact ⟨[], (fun _ h => nomatch h), by simp only [PyData.shownAll]; exact .nil⟩
  | d :: ds, _, _, h, r, hs, hz => by
    obtain ⟨v, t, rfl, h1, h2⟩ := h
    have hs' : d.showable = true ∧ PyData.showableAll ds = true := by simpa [PyData.showableAll] using hs
    cases r with
    | cons r1 r2 =>
      obtain ⟨b1, hb1, k1⟩ := Rp.rk I d _ _ h1 r1 hs'.1 (hz _ (by simp only [PyData.shownAll]; exact List.mem_cons_self ..))
      obtain ⟨b2, hb2, k2⟩ := RpAll.rk I ds _ _ h2 r2 hs'.2 (fun t ht => hz t (by simp only [PyData.shownAll]; exact List.mem_cons_of_mem _ ht))
      refine ⟨b1 ++ b2, ?_, ?_⟩
      · simp only [PyData.depthAll]
        exact (hb1.mono (Nat.le_max_left _ _)).append (hb2.mono (Nat.le_max_right _ _))
      · simp only [PyData.depthAll, PyData.shownAll]
        exact .cons ((k1.more fun b hb => List.mem_append_left _ hb).level_le (Nat.le_max_left _ _)) (k2.more_le (fun b hb => List.mem_append_right _ hb) (Nat.le_max_right _ _))
end
end
section
variable {X : Cx} {Ec : EC}
def Shw (d : PyData) : Prop := d.showable = true ∧ d.depth ≤ 50 ∧ d.shown.length ≤ sizeLine
def fRepr : List PyData → (PyData → Prop) → Prop
  | [d], Q => Shw d ∧ Q (.str d.shown)
  | _, _ => False
def rReprA : List V → Hp → VK → Prop := fun xs H Q => ∃ x d bn, xs = [x] ∧ RpX H bn d x ∧ Shw d ∧ Q (.str d.shown) H
theorem call_reprA (hg : X.A.guards = some []) (hu : X.A.units + 64 < cLine) : CallR X (.builtin "repr") rReprA := by
  intro pins s σ H xs us Q I r ⟨x, d, ban, ex, hp, ⟨hs, hd, hz⟩, q⟩
  subst ex
  obtain ⟨u, rfl, rx⟩ := vals1 r
  have fin : ∀ (h' : Heap) (t : Tok) (tk : Nat), (∀ b o, s.heap.get? b = some o → h'.get? b = some o) → EP X pins σ Q (.str d.shown t) { s with heap := h', toks := tk } := fun h' t tk kp => ⟨.str d.shown, H, I.kept (t' := tk) kp, ⟨t, rfl⟩, q⟩
  have here : ∀ (t : Tok) (tk : Nat), EP X pins σ Q (.str d.shown t) { s with toks := tk } := fun t tk => fin s.heap t tk fun _ _ e => e
  have lst : ∀ (ds : List PyData) (a : Addr) (ys : List V), d = .list ds → H a = some (.lst ys) → RpAll H ban ds ys → wpAny (model X.prog X.w) X.A (PySem.call (.builtin "repr") [.ref a]) (EP X pins σ Q) (X.xe) s := by
    intro ds a ys ed h1 h3
    subst ed
    obtain ⟨z, its, n, rv, e⟩ := (show ObjOk X.prog X.w H s.heap a (.lst ys) from I.hok a _ h1)
    obtain ⟨as, g⟩ := RpAll.rd0 I ds ys its h3 rv
    have hz' : (listText (PyData.shownAll ds)).length ≤ sizeLine := by simpa only [PyData.shown] using hz
    obtain ⟨bs, hb, hk⟩ := RpAll.rk I ds ys its h3 rv (by simpa [PyData.showable] using hs) fun t ht => Nat.le_trans (listText_mem_le ht) hz'
    have hna := (rk_list e rfl rfl g hb hk).1
    have hd' : PyData.depthAll ds + 1 ≤ 50 := by simpa only [PyData.depth] using hd
    refine call_repr_slot (T := "list") (by omega) ⟨_, e, rfl⟩ F.slot_list_repr.toG ?_
    simp only [PyData.shown] at fin
    cases its with
    | nil =>
      cases g
      simp only [PyData.shownAll, listText_nil] at fin
      exact call_list_repr_empty ⟨_, e, rfl⟩ e rfl ⟨_, _, rfl, fin s.heap _ _ fun _ _ e => e⟩
    | cons x l =>
      exact call_list_reprK e rfl rfl hna (by simpa using hk.length_eq) (fun i y e => hk.item i y (by simpa using e)) hg (fun b _ => Clear.nil b) (by show X.A.units + 1 + _ < cLine; omega) (fun _ _ e => e) (fun h' u tk hk => ⟨_, _, rfl, fin h' u tk hk⟩) hz'
  have base : Rp H ban d x → wpAny (model X.prog X.w) X.A (PySem.call (.builtin "repr") [u]) (EP X pins σ Q) (X.xe) s := by
    intro hp
    cases d with
    | none => cases (show _ = V.non from hp); cases rx; exact PySem.P.repr_of_none (here _ _)
    | bool b => cases (show _ = V.bl b from hp); cases rx; exact PySem.P.repr_of_bool (here _ _)
    | int i => cases (show _ = V.int i from hp); obtain ⟨t, rfl⟩ := rx; exact PySem.P.repr_of_int (of_decide_eq_true hs) (here _ _)
    | str z => cases (show _ = V.str z from hp); obtain ⟨t, rfl⟩ := rx; exact PySem.P.repr_of_str (here _ _) hz
    | list ds =>
      obtain ⟨a, ys, rfl, h1, _, h3⟩ := hp
      cases rx
      exact lst ds a ys rfl h1 h3
    | tuple ds =>
      obtain ⟨a, ys, rfl, h1, h3⟩ := hp
      cases rx
      obtain ⟨z, its, rv, o, e, c, n, hdd⟩ := h1.rd.ok I.hok
      obtain ⟨as, g⟩ := RpAll.rd0 I ds ys its h3 rv
      have hz' : (tupleText (PyData.shownAll ds)).length ≤ sizeLine := by simpa only [PyData.shown] using hz
      obtain ⟨bs, hb, hk⟩ := RpAll.rk I ds ys its h3 rv (by simpa [PyData.showable] using hs) fun t ht => Nat.le_trans (tupleText_mem_le ht) hz'
      have rr : Reads s.heap (.ref a) (.tuple ds) as := .tuple e c hdd (by simpa using g)
      have hna : a ∉ bs := not_mem_of_deeper rr (by simp only [PyData.depth]; omega) hb
      have hd' : PyData.depthAll ds + 1 ≤ 50 := by simpa only [PyData.depth] using hd
      simp only [PyData.shown] at fin
      refine call_repr_slot (T := "tuple") (by omega) ⟨_, e, c⟩ F.slot_tuple_repr ?_
      exact call_tuple_reprK e c hdd hna (by simpa using hk) hg (fun b _ => Clear.nil b) (by show X.A.units + 1 + _ < cLine; omega) (fun _ _ e => e) (fun h' u tk hk => ⟨_, _, rfl, fin h' u tk hk⟩) hz'
    | dict kvs =>
      obtain ⟨rfl, a, rfl, h1, _⟩ := hp
      cases rx
      obtain ⟨z, hs', vs, kv, o, es, ep, e, ex, hdd, _, ps, _⟩ := dk_of I.hok h1
      cases kv
      have hes : es = #[] := by
        cases es with
        | mk l =>
          cases (show Pairs _ l [] from ps)
          rfl
      subst hes
      exact repr_of_reads' (.dict (as := []) (bs := []) e ex.1 hdd .nil .nil) hs (fun _ => by
        simp only [List.append_nil, List.mem_cons, List.not_mem_nil, or_false]
        exact fun z => (beq_eq_false_iff_ne.mp hs') z.symm) hg (by omega) (fun _ _ e => e) (fun h' u tk kp => fin h' u tk kp) hz
  rcases hp with h | ⟨a, ds, ys, rfl, rfl, h1, h3⟩
  · exact base h
  · cases rx
    exact lst ds a ys rfl h1 h3
theorem dc_repr : DCall rReprA fRepr := by
  intro bn H ds vs Q Qc nb p q k
  unfold fRepr at q
  split at q
  · cases p with | cons p t => cases t; exact ⟨_, _, bn, rfl, p, q.1, k (.str _) _ H (.refl _) rfl q.2⟩
  · exact q.elim
end
/-! ### the law's def, where it shows by repr -/
section
variable {P : Program} {w : World} {K : PySem.W.Frag} {mg : Str → Option Value} {base : Heap}
end
end TR
namespace TR
open PySem PySem.Spec PyProof.Rows L2
section
variable {X : Cx} {k : Nat} {f : Addr} {fd : FuncData} {ps : List Str} {ms : List Md} {F : AF} {x : Str} {p pos : Pos} {e : Expr} {es : List Expr} {aa : AA}
end
end TR
namespace TR
open PySem PySem.Spec PyProof.Rows L2
section
variable {X : Cx} {pins : List (Addr × Obj)} {σ : L2.St} {H : Hp} {s : Shared}
theorem each_rp {bn : List Addr} (I : Inv X pins σ H s) : ∀ {ds : List PyData} {xs : List V} {us : List Value}, RpAll H bn ds xs → Vals xs us → PySem.W.EachIs (fun u (b : PyData × V) => RelV b.2 u ∧ Rp H bn b.1 b.2) us (ds.zip xs) ∧ PySem.W.EachIs (fun u (b : PyData × V) => ∃ as, Reads s.heap u b.1 as) us (ds.zip xs)
  | [], _, _, h, r => by cases (show _ = [] from h); cases r; exact ⟨.nil, .nil⟩
  | d :: ds, _, _, h, r => by
    obtain ⟨v, t, rfl, h1, h2⟩ := h
    cases r with
    | cons r1 r2 =>
      obtain ⟨g1, g2⟩ := each_rp I h2 r2
      exact ⟨.cons ⟨r1, h1⟩ g1, .cons (Rp.rd0 I d _ _ h1 r1) g2⟩
theorem each_out {bn : List Addr} : ∀ {us : List Value} {bs : List (PyData × V)}, PySem.W.EachIs (fun u (b : PyData × V) => RelV b.2 u ∧ Rp H bn b.1 b.2) us bs → Vals (bs.map (·.2)) us ∧ RpAll H bn (bs.map (·.1)) (bs.map (·.2))
  | _, _, .nil => ⟨.nil, rfl⟩
  | _, _, .cons h t => by
    obtain ⟨g1, g2⟩ := each_out t
    exact ⟨.cons h.1 g1, _, _, rfl, h.2, g2⟩
theorem zip_fst : ∀ {ds : List PyData} {xs : List V} {bn : List Addr}, RpAll H bn ds xs → (ds.zip xs).map (·.1) = ds
  | [], _, _, _ => rfl
  | d :: ds, _, _, h => by
    obtain ⟨v, t, rfl, _, h2⟩ := h
    show d :: (ds.zip t).map (·.1) = _
    rw [zip_fst h2]
end
section
variable {X : Cx}
def SrtOk (ds : List PyData) : Prop := PySem.W.AllAlike ds ∧ PySem.W.Sortable ds ∧ ∀ d ∈ ds, d.depth ≤ 50
abbrev srt (ds : List PyData) : List PyData := ds.mergeSort (PySem.W.dataLe false fun d => d)
def rSortedA (K : PySem.W.Frag) : List V → Hp → VK → Prop := fun vs H Q => rSortedTI K vs H Q ∨ ∃ (l : Addr) (xs : List V) (ds : List PyData) (bn : List Addr), vs = [.ref l] ∧ H l = some (.lst xs) ∧ RpAll H bn ds xs ∧ SrtOk ds ∧ ∀ ys p, RpAll H bn (srt ds) ys → H p = none → Q (.ref p) (upd H p (.lst ys))
theorem cr_sortedA (hu : X.A.units + 65 < cLine) : CallR X (.builtin "sorted") (rSortedA X.K) := by
  intro pins s σ H vs us Q I r h
  rcases h with h | ⟨l, xs, ds, bn, ev, hl, ra, ⟨hal, hso, hdp⟩, q⟩
  · exact cr_sortedTI pins s σ H vs us Q I r h
  subst ev
  rw [Vals.ref1 r]
  obtain ⟨z, its, n, rv, e⟩ := (show ObjOk X.prog X.w H s.heap l (.lst xs) from I.hok l _ hl)
  obtain ⟨g1, g2⟩ := each_rp I ra rv
  have zf := zip_fst ra
  refine PySem.W.sorted_data (enc := fun b : PyData × V => b.1) (bs := ds.zip xs) ⟨_, e, rfl, n, rfl⟩ g1 g2 (by rw [zf]; exact hal) (by rw [zf]; exact hso) (by rw [List.length_zip]; omega) (fun b hb => ?_) fun out h1 h2 => ?_
  · have : b.1 ∈ ds := zf ▸ List.mem_map_of_mem hb
    have := hdp _ this
    omega
  · obtain ⟨k1, k2⟩ := each_out h2
    obtain ⟨ep, he⟩ := PyProof.Rows.sortedAll_at s.heap its out.toArray
    have em : ((ds.zip xs).mergeSort (PySem.W.dataLe false fun b : PyData × V => b.1)).map (·.1) = srt ds := by
      have := List.map_mergeSort (r := PySem.W.dataLe false fun b : PyData × V => b.1) (s := PySem.W.dataLe false fun d : PyData => d) (f := (·.1)) (l := ds.zip xs) fun a _ b _ => rfl
      rw [this, zf]
    rw [em] at k2
    have hlen : (((ds.zip xs).mergeSort (PySem.W.dataLe false fun b : PyData × V => b.1)).map (·.2)).length ≤ sizeLine := by
      rw [List.length_map, List.length_mergeSort, List.length_zip]; omega
    exact ⟨.ref _, upd H (s.heap.objs.size + 1) (.lst _), I.laid (t' := s.toks) (fun _ _ => PyProof.Rows.sortedAll_old) (Nat.le_succ _) ⟨hlen, out, ep, k1, he⟩, rfl, q _ _ k2 (I.hok.fresh (Nat.le_succ _))⟩
def fSorted : List PyData → (PyData → Prop) → Prop
  | [.list ds], Q => SrtOk ds ∧ Q (.list (srt ds))
  | [.tuple ds], Q => ∃ ns : List Int, ds = ns.map PyData.int ∧ ∀ ms : List Int, ms.Perm ns → ms.Pairwise (· ≤ ·) → Q (.list (ms.map PyData.int))
  | _, _ => False
theorem rp_ints {H : Hp} {bn : List Addr} : ∀ {ns : List Int} {xs : List V}, RpAll H bn (ns.map PyData.int) xs → xs = ns.map V.int
  | [], _, h => h
  | n :: ns, _, h => by
    obtain ⟨v, t, rfl, h1, h2⟩ := h
    rw [rp_ints h2, show v = V.int n from h1]
    rfl
theorem ints_rp {H : Hp} {bn : List Addr} : ∀ {ns : List Int}, RpAll H bn (ns.map PyData.int) (ns.map V.int)
  | [] => rfl
  | _ :: _ => ⟨_, _, rfl, rfl, ints_rp⟩
theorem dc_sorted {K : PySem.W.Frag} : DCallF (rSortedA K) fSorted := by
  intro bn H ds vs Q Qc nb p q k
  unfold fSorted at q
  split at q
  · cases p with
    | cons p t =>
      cases t
      obtain ⟨a, xs, rfl, e, ra⟩ := p.lst
      exact .inr ⟨a, xs, _, bn, rfl, e, ra, q.1, fun ys p r hp => k _ ys p _ hp (same_upd hp) upd_same r q.2⟩
  · cases p with
    | cons p t =>
      cases t
      obtain ⟨a, xs, rfl, e, ra⟩ := p.tup
      obtain ⟨ns, rfl, q⟩ := q
      cases rp_ints ra
      exact .inl ⟨a, ns, rfl, .inl e.rd, fun ms p h1 h2 hp => k _ _ p _ hp (same_upd hp) upd_same ints_rp (q ms h1 h2)⟩
  · exact q.elim
/-! ### min, max of a list -/
end
end TR
namespace TR
open PySem PySem.Spec PyProof.Rows L2
section
variable {X : Cx} {Ec : EC}
end
end TR
namespace TR
open PySem PySem.Spec PyProof.Rows L2
/-! ### == and != of two texts -/
def vNeS : PyData → PyData → (PyData → Prop) → Prop
  | .str a, .str b, Q => Q (.bool (!decide (a = b)))
  | _, _, _ => False
theorem rpx_str {H : Hp} {bn : List Addr} {a : Str} {v : V} (h : RpX H bn (.str a) v) : v = .str a := by
  rcases h with h | ⟨_, _, _, e, _⟩
  · exact h
  · cases e
theorem dec_strS (a b : Str) : decide (V.str a = V.str b) = decide (a = b) := decide_eq_decide.mpr ⟨fun e => by cases e; rfl, fun e => by rw [e]⟩
theorem dop_neS : DOp rNe vNeS := by
  intro bn H d1 d2 v1 v2 Q Qc nb p1 p2 q k
  unfold vNeS at q
  split at q
  · next a b =>
    obtain rfl := rpx_str p1
    obtain rfl := rpx_str p2
    exact ⟨rfl, by rw [dec_strS]; exact k (.bool _) _ H (.refl _) rfl q⟩
  · exact q.elim
end TR
namespace TR
open PySem PySem.Spec PyProof.Rows L2
/-! ### data: small facts -/
theorem lim {n : Nat} (h : n ≤ 1000) : n ≤ sizeLine := Nat.le_of_lt (small1000 h)
theorem pow_i {a b : Int} {Q : PyData → Prop} (h : CPow a b) : vPow (.int a) (.int b) Q = Q (.int (a ^ b.toNat)) := by
  show (CPow a b ∧ Q (.int (a ^ b.toNat))) = _
  rw [eq_iff_iff]
  exact ⟨fun h => h.2, fun q => ⟨h, q⟩⟩
theorem pow_12 {Q : PyData → Prop} : vPow (.int 10) (.int 12) Q = Q (.int 1000000000000) := pow_i (by unfold CPow; decide)
theorem at_get {α : Type} {l : List α} {k : Nat} (h : k < l.length) : atI l (k : Int) = some l[k] := atI_nat (List.getElem?_eq_getElem h)
theorem at_some {l : List PyData} {r : Int} (h0 : 0 ≤ r) (h1 : r < (l.length : Int)) : ∃ d, atI l r = some d ∧ d ∈ l := by
  obtain ⟨k, rfl⟩ := Int.eq_ofNat_of_zero_le h0
  have hk : k < l.length := by omega
  exact ⟨l[k], at_get hk, List.getElem_mem hk⟩
theorem at_last {α : Type} {l : List α} {a : α} : atI (l ++ [a]) (-1) = some a := by
  unfold atI ixN
  rw [if_neg (by decide), if_pos (by rw [List.length_append, List.length_singleton]; omega)]
  show (l ++ [a])[_]? = _
  rw [show ((-1 : Int) + ((l ++ [a]).length : Nat)).toNat = l.length by rw [List.length_append, List.length_singleton]; omega]
  simp
theorem cut_to {xs : List PyData} {k : Nat} (h : k ≤ xs.length) : cutD xs none (some (k : Int)) = xs.take k := by
  unfold cutD
  rw [HT.sIx_none, HT.sIx_nat, Nat.min_eq_left h]
  rfl
theorem cut_from {xs : List PyData} {k : Nat} : cutD xs (some (k : Int)) none = xs.drop k := by
  unfold cutD
  rw [HT.sIx_none, HT.sIx_nat]
  by_cases h : k ≤ xs.length
  · rw [Nat.min_eq_left h]
    exact List.take_of_length_le (by rw [List.length_drop]; exact Nat.le_refl _)
  · rw [Nat.min_eq_right (by omega), List.drop_of_length_le (Nat.le_refl _), List.drop_of_length_le (by omega), List.take_nil]
theorem cut_mid {xs : List PyData} {j k : Nat} (h1 : j ≤ k) (h : k ≤ xs.length) : cutD xs (some (j : Int)) (some (k : Int)) = (xs.drop j).take (k - j) := by
  unfold cutD
  rw [HT.sIx_nat, HT.sIx_nat, Nat.min_eq_left h, Nat.min_eq_left (by omega)]
theorem rng_d (n : Nat) : rngD 0 n = (rng n).map .int := by
  unfold rngD rng
  rw [List.map_map]
  refine List.map_congr_left fun k _ => ?_
  show PyData.int (0 + (k : Int)) = .int k
  rw [Int.zero_add]
theorem rng_d' (n : Nat) : rngD 0 ((n : Int) - 0).toNat = (rng n).map .int := by
  rw [show ((n : Int) - 0).toNat = n by omega, rng_d]
theorem ints_some (l : List Int) : (intsOf (l.map .int)).isSome = true := by rw [ints_of]; rfl
/-- what may be compared -/
def Sd (k : Nat) (d : PyData) : Prop := d.canLay0 = true ∧ d.depth ≤ k
theorem Sd.shaped {k : Nat} {d : PyData} (h : Sd k d) (hk : k ≤ 64 := by decide) : SeqAt.shaped d = true := by
  show (d.canLay0 && decide (d.depth ≤ 64)) = true
  rw [h.1, decide_eq_true (Nat.le_trans h.2 hk)]
  rfl
theorem Sd.mono {k m : Nat} {d : PyData} (h : Sd k d) (hk : k ≤ m) : Sd m d := ⟨h.1, Nat.le_trans h.2 hk⟩
theorem sd_int {k : Nat} (i : Int) : Sd k (.int i) := ⟨rfl, Nat.zero_le _⟩
theorem sd_bool {k : Nat} (b : Bool) : Sd k (.bool b) := ⟨rfl, Nat.zero_le _⟩
theorem sd_all {k : Nat} : ∀ {ds : List PyData}, (∀ d ∈ ds, Sd k d) → PyData.canLayAll0 ds = true ∧ PyData.depthAll ds ≤ k
  | [], _ => ⟨rfl, Nat.zero_le _⟩
  | d :: ds, h => by
    obtain ⟨h1, h2⟩ := sd_all fun e he => h e (List.mem_cons_of_mem _ he)
    obtain ⟨g1, g2⟩ := h d List.mem_cons_self
    refine ⟨?_, Nat.max_le.mpr ⟨g2, h2⟩⟩
    show (d.canLay0 && PyData.canLayAll0 ds) = true
    rw [g1, h1]; rfl
theorem sd_list {k : Nat} {ds : List PyData} (h : ∀ d ∈ ds, Sd k d) : Sd (k + 1) (.list ds) := by
  obtain ⟨h1, h2⟩ := sd_all h
  exact ⟨h1, by show PyData.depthAll ds + 1 ≤ _; omega⟩
theorem sd_tup {k : Nat} {ds : List PyData} (h : ∀ d ∈ ds, Sd k d) : Sd (k + 1) (.tuple ds) := by
  obtain ⟨h1, h2⟩ := sd_all h
  exact ⟨h1, by show PyData.depthAll ds + 1 ≤ _; omega⟩
theorem sd_rk {k : Nat} (r : List Int) : Sd (k + 1) (.tuple (r.map .int)) := sd_tup fun d h => by
  obtain ⟨i, _, rfl⟩ := List.mem_map.mp h
  exact sd_int i
/-! ### sorted ints -/
theorem sorted_uniq : ∀ {a b : List Int}, a.Perm b → a.Pairwise (· ≤ ·) → b.Pairwise (· ≤ ·) → a = b
  | [], _, p, _, _ => p.nil_eq
  | x :: a, [], p, _, _ => absurd p.length_eq (by simp)
  | x :: a, y :: b, p, ha, hb => by
    have hx : x = y := by
      have m1 : x ∈ y :: b := p.mem_iff.mp List.mem_cons_self
      have m2 : y ∈ x :: a := p.mem_iff.mpr List.mem_cons_self
      rcases List.mem_cons.mp m1 with e | m1
      · exact e
      rcases List.mem_cons.mp m2 with e | m2
      · exact e.symm
      have h1 := (List.pairwise_cons.mp hb).1 x m1
      have h2 := (List.pairwise_cons.mp ha).1 y m2
      omega
    subst hx
    rw [sorted_uniq p.cons_inv (List.pairwise_cons.mp ha).2 (List.pairwise_cons.mp hb).2]
def isort (ns : List Int) : List Int := ns.mergeSort fun a b => decide (a ≤ b)
theorem isort_perm (ns : List Int) : (isort ns).Perm ns := List.mergeSort_perm _ _
theorem isort_sorted (ns : List Int) : (isort ns).Pairwise (· ≤ ·) := by
  have := List.pairwise_mergeSort (le := fun a b : Int => decide (a ≤ b)) (fun a b c h1 h2 => by simp at *; omega) (fun a b => by simp; omega) ns
  exact this.imp fun h => by simpa using h
theorem sortedT_ok {ns : List Int} {Q : PyData → Prop} (q : Q (.list ((isort ns).map .int))) : fSorted [.tuple (ns.map .int)] Q := ⟨ns, rfl, fun ms p s => by rw [sorted_uniq (p.trans (isort_perm ns).symm) s (isort_sorted ns)]; exact q⟩
/-- a comprehension that draws: at most c draws an item -/
theorem lc_draw {α β : Type} {it : AIt} {b : AB} {a : AE} {vs : List Nat} {Q : PyData → AS → Prop} {sl : List (Option AV)} (f : α → PyData) (g : α → β → PyData) (P : α → β → Prop) (c B : Nat) (hc : ∀ n, it.chk ⟨sl, n⟩) : ∀ (l : List α) (acc : List PyData) (k : Nat), acc.length + l.length ≤ sizeLine → k + c * l.length ≤ B →
    (∀ x ∈ l, ∀ k', k' + c ≤ B → ∀ K : PyData → AS → Prop, (∀ y s2, P x y → back vs ⟨sl, k'⟩ s2 = ⟨sl, s2.n⟩ → s2.n ≤ k' + c → K (g x y) s2) → b (f x) ((⟨sl, k'⟩ : AS).wipe vs) fun s2 => a x0 s2 K) →
    (∀ (ps : List (α × β)) (k' : Nat), ps.map (·.1) = l → (∀ p ∈ ps, P p.1 p.2) → k' ≤ k + c * l.length → Q (.list (acc ++ ps.map fun p => g p.1 p.2)) ⟨sl, k'⟩) → lcL it b tYesA a vs Q (l.map f) acc ⟨sl, k⟩
  | [], acc, k, _, _, _, q => ⟨hc k, by have := q [] k rfl (fun _ h => nomatch h) (by omega); rw [List.map_nil, List.append_nil] at this; exact this⟩
  | x :: l, acc, k, hl, hB, h, q => by
    rw [List.length_cons] at hl hB
    rw [Nat.mul_add, Nat.mul_one] at hB
    have h1 := h x List.mem_cons_self k (by omega)
    refine ⟨hc k, h1 _ fun y s2 hy e hk => ⟨by omega, ?_⟩⟩
    rw [e]
    refine lc_draw f g P c B hc l (acc ++ [g x y]) s2.n (by rw [List.length_append]; simp only [List.length_cons, List.length_nil]; omega) (by omega) (fun z hz => h z (List.mem_cons_of_mem _ hz)) fun ps k' hp hP hk' => ?_
    have := q ((x, y) :: ps) k' (by rw [List.map_cons, hp]) (fun p hp' => (List.mem_cons.mp hp').elim (fun e => e ▸ hy) (hP p)) (by rw [List.length_cons, Nat.mul_add, Nat.mul_one]; omega)
    rw [List.map_cons] at this
    rw [List.append_assoc]
    exact this
theorem sPar_v {i j : Nat} {a b : AE} {xp : XP} {D : AEnds} {s : AS} : sPar i j (lCons (oV a) (lCons (oV b) lNil)) xp D s = a xp s fun x s1 => b xp s1 fun y s2 => D.nx ((s2.set i (.dat x)).set j (.dat y)) := rfl
end TR
namespace TR
open PySem PySem.Spec PyProof.Rows L2
/-! ### dicts that are built here: keys ints or texts -/
section
variable {Φ : Fx} {E : OE} {s : AS} {σ : L2.St} {H : Hp}
end
section
variable {X : Cx} {Ec : EC}
end
end TR
namespace TR
open PySem PySem.Spec PyProof.Rows L2
/-! ### methods of lists that change nothing: count, index -/
section
variable {X : Cx} {Ec : EC}
/-! ### sorted(set(x)), x ints -/
end
end TR
namespace TR
open PySem PySem.Spec PyProof.Rows L2
theorem _root_.L2H.RoomH.units {k : Nat} {A : Around} (r : L2H.RoomH k A) : A.units + 64 < cLine := by have := r.un; omega
/-! ### a def of one parameter, the exception that the caller's suite holds -/
section
variable {P : Program} {w : World} {K : PySem.W.Frag} {mg : Str → Option Value} {base : Heap}
end
section
variable {X : Cx} {Ec : EC}
end
end TR
namespace PySem
open Sem (wp)
section
variable {prog : Program} {w : World} {A : Around} {E : Value → Shared → Prop} {s : Shared}
end
end PySem
namespace TR
open PySem PySem.Spec PyProof.Rows L2
/-! ### enumerate(tuple) -/
end TR
namespace TR
open PySem PySem.Spec PyProof.Rows L2
/-! ### enumerate of a tuple, of a list; str of an int -/
def enD (L : List PyData) : List PyData := L.zipIdx.map fun p => .tuple [.int (p.2 : Nat), p.1]
theorem enD_at {L : List PyData} {i : Nat} {d : PyData} (h : (enD L)[i]? = some d) : ∃ e, L[i]? = some e ∧ d = .tuple [.int (i : Nat), e] := by
  unfold enD at h
  rw [List.getElem?_map, List.getElem?_zipIdx] at h
  cases e : L[i]? with
  | none => rw [e] at h; cases h
  | some x =>
    rw [e] at h
    simp at h
    exact ⟨x, rfl, h.symm⟩
theorem enD_len (L : List PyData) : (enD L).length = L.length := by unfold enD; rw [List.length_map, List.length_zipIdx]
section
variable {X : Cx} {Ec : EC}
def iEnL (a : AE) : AI := fun xp s Q => a xp s fun d s1 => match d with
  | .list L => Q (.fix (enD L)) s1
  | _ => False
theorem jo_en {H : Hp} {bn : List Addr} {L : List PyData} {xs : List V} {T : Addr} {i : Nat} {d : PyData} {x : V} {H2 : Hp} (ra : RpAll H bn L xs) (hd : (enD L)[i]? = some d) (hT : H T = none) (e : H2 = upd H T (.tup [.int (i : Nat), x])) (hx : xs[i]? = some x) : Same H H2 ∧ RpW true H2 bn d (.ref T) := by
  obtain ⟨y, hy, rfl⟩ := enD_at hd
  obtain ⟨z, hz, rp⟩ := ra.at hy
  rw [hx] at hz
  cases hz
  subst e
  have m : Same H (upd H T (.tup [.int (i : Nat), x])) := same_upd hT
  exact ⟨m, T, [.int (i : Nat), x], _, rfl, rfl, upd_same, ⟨_, _, rfl, rfl, _, _, rfl, rp.same m, rfl⟩⟩
theorem ai_enL {e : Expr} {a : AE} {p pos tpos : Pos} {elts : List Expr} {kk : Nat} (hg : Gl X "enumerate") (hm : X.mg "enumerate" = none) (ha : PE X e (cE Ec a)) (hs : starEach [e] X.env = [(false, eval e X.env)] := by rfl) (hs2 : starEach [e] X.env = (false, eval e X.env) :: starEach [] X.env := by rfl) : PI X (.Tuple elts kk tpos) (.Call (.Name "enumerate" p) [e] [] pos) (cI true Ec (iEnL a)) := (pi_enum hg hm (pa_cons ha pa_nil hs2) hs).sub fun σ H R ⟨Φ, E, xp, s, Qa, r, x, q, k⟩ => by
  refine ⟨Φ, E, xp, s, _, r, x, q, fun d E1 s1 v H1 l1 r1 k1 p1 q1 => ?_⟩
  split at q1
  · next L =>
    obtain ⟨b, xs, rfl, ea, nb, ra⟩ := p1
    refine ⟨b, xs, rfl, sqL ea, k (.fix (enD L)) E1 s1 _ H1 [(.dat (.list L) (.ref b))] l1 r1 k1 (fun Φ E s σ1 H _ hh _ i => ?_) (fun x hx => ?_) q1⟩
    · obtain ⟨c, ys, e, eb, _, rb⟩ := hh (.dat (.list L) (.ref b)) List.mem_cons_self
      cases e
      have sq : SqL X.K H b ys := sqL eb
      refine ⟨fun d hd => ?_, fun hi => ⟨ys, sq, by rw [rb.len, ← enD_len]; first | exact hi | exact Nat.le_of_eq hi⟩⟩
      obtain ⟨y, hy, _⟩ := enD_at hd
      obtain ⟨z, hz, _⟩ := rb.at hy
      refine ⟨⟨ys, z, sq, hz⟩, fun v H2 ⟨T, w, e1, e2, e3, e4⟩ => ?_⟩
      subst e1
      exact jo_en rb hd e2 e3 (e4 ys sq)
    · rw [List.mem_singleton.mp hx]
      exact ⟨b, xs, rfl, ea, nb, ra⟩
  · exact q1.elim
end
/-! ### x == [], x == (), whatever stands in x -/
section
variable {X : Cx}
theorem op_eqT0 (hu : X.A.units < cLine) : OpR X (compareOp .Eq) (fun x y H Q => ∃ a b xs, x = .ref a ∧ y = .ref b ∧ SqT X.K H a xs ∧ SqT X.K H b [] ∧ Q (.bl xs.isEmpty) H) := by
  intro pins s σ H x y v u Q I rx ry ⟨a, b, xs, ex, ey, ha, hb, q⟩
  subst ex ey; cases rx; cases ry
  obtain ⟨its, r1, p1, _⟩ := I.tuple ha
  obtain ⟨its2, r2, p2, _⟩ := I.tuple hb
  cases r2
  have h := SeqAt.RcAt.tuples (A := X.A) (s := s) (e := fun _ => true) p1 p2 hu (fun j _ j2 => absurd j2 (by simp))
  cases r1 with
  | nil => exact h _ _ _ _ ⟨.bl true, H, I, rfl, q⟩
  | cons _ _ => exact h _ _ _ _ ⟨.bl false, H, I, rfl, q⟩
end
def vEqE : PyData → PyData → (PyData → Prop) → Prop
  | .list ds, .list [], Q => Q (.bool ds.isEmpty)
  | .tuple ds, .tuple [], Q => Q (.bool ds.isEmpty)
  | _, _, _ => False
def vNeE : PyData → PyData → (PyData → Prop) → Prop
  | .list ds, .list [], Q => Q (.bool (!ds.isEmpty))
  | .tuple ds, .tuple [], Q => Q (.bool (!ds.isEmpty))
  | _, _, _ => False
def rEmp (K : PySem.W.Frag) (g : Bool → Bool) : R2 := fun x y H Q => (∃ a b xs, x = .ref a ∧ y = .ref b ∧ SqL K H a xs ∧ SqL K H b [] ∧ Q (.bl (g xs.isEmpty)) H) ∨ ∃ a b xs, x = .ref a ∧ y = .ref b ∧ SqT K H a xs ∧ SqT K H b [] ∧ Q (.bl (g xs.isEmpty)) H
theorem op_eqE {X : Cx} (hu : X.A.units + 64 < cLine) : OpR X (compareOp .Eq) (rEmp X.K id) := (op_eqL0 (by omega)).or (op_eqT0 (by omega))
theorem op_neE {X : Cx} (hu : X.A.units + 64 < cLine) : OpR X (compareOp .NotEq) (rEmp X.K (!·)) := (op_neL0 (by omega)).or (op_neT0 (by omega))
theorem emp_len2 {ds : List PyData} {xs : List V} (h : xs.length = ds.length) : xs.isEmpty = ds.isEmpty := by
  cases ds <;> cases xs <;> first | rfl | (simp at h)
theorem dop_emp {K : PySem.W.Frag} {g : Bool → Bool} {f : PyData → PyData → (PyData → Prop) → Prop} (hf : ∀ d e Q, f d e Q → (∃ ds, (d = .list ds ∧ e = .list [] ∨ d = .tuple ds ∧ e = .tuple []) ∧ Q (.bool (g ds.isEmpty)))) : DOp (rEmp K g) f := by
  intro bn H d1 d2 v1 v2 Q Qc nb p1 p2 q k
  obtain ⟨ds, ⟨rfl, rfl⟩ | ⟨rfl, rfl⟩, q2⟩ := hf _ _ _ q
  · obtain ⟨a, xs, rfl, ea, ra⟩ := p1.lst
    obtain ⟨b, ys, rfl, eb, rb⟩ := p2.lst
    cases rb
    exact .inl ⟨a, b, xs, rfl, rfl, sqL ea, sqL eb, by rw [emp_len2 ra.len]; exact k (.bool _) _ H (.refl _) rfl q2⟩
  · obtain ⟨a, xs, rfl, ea, ra⟩ := p1.tup
    obtain ⟨b, ys, rfl, eb, rb⟩ := p2.tup
    cases rb
    exact .inr ⟨a, b, xs, rfl, rfl, .inl ea.rd, .inl eb.rd, by rw [emp_len2 ra.len]; exact k (.bool _) _ H (.refl _) rfl q2⟩
theorem dop_eqE {K : PySem.W.Frag} : DOp (rEmp K id) vEqE := dop_emp fun d e Q q => by
  unfold vEqE at q
  split at q
  · exact ⟨_, .inl ⟨rfl, rfl⟩, q⟩
  · exact ⟨_, .inr ⟨rfl, rfl⟩, q⟩
  · exact q.elim
theorem dop_neE {K : PySem.W.Frag} : DOp (rEmp K (!·)) vNeE := dop_emp fun d e Q q => by
  unfold vNeE at q
  split at q
  · exact ⟨_, .inl ⟨rfl, rfl⟩, q⟩
  · exact ⟨_, .inr ⟨rfl, rfl⟩, q⟩
  · exact q.elim
end TR
namespace TR
open PySem PySem.Spec PyProof.Rows L2
/-! ### max(list, key=len) -/
def LenAt (h : Heap) (v : Value) (n : Nat) : Prop := (n : Int) < 2 ^ 63 ∧ ∃ (p : Addr) (vs : Array Value), v = .ref p ∧ vs.size = n ∧ (h.IsList p vs ∨ IsTup h p vs)
theorem LenAt.keep {h h' : Heap} {v : Value} {n : Nat} (x : LenAt h v n) (k : ∀ b o, h.get? b = some o → h'.get? b = some o) : LenAt h' v n := by
  obtain ⟨a, p, vs, e, e2, q⟩ := x
  refine ⟨a, p, vs, e, e2, q.imp (fun ⟨o, ho, r⟩ => ⟨o, k _ _ ho, r⟩) fun z => z.keeps k⟩
section
variable {prog : Program} {w : World} {A : Around} {s : Shared} {E : Value → Shared → Prop}
end
section
variable {X : Cx}
end
/-! ### min(a, b) of data -/
section
variable {prog : Program} {w : World} {A : Around} {s : Shared} {E : Value → Shared → Prop}
end
section
variable {X : Cx}
end
/-! ### max by len, as an expression -/
section
variable {X : Cx} {x ln nm : Str} {p pos lp kp : Pos} {e : Expr} {t : TA} {r : List V → Hp → VK → Prop}
end
def tl : PyData → Bool
  | .tuple _ => true
  | .list _ => true
  | _ => false
end TR
namespace TR
open PySem PySem.Spec PyProof.Rows L2
end TR
namespace TR
open PySem PySem.Spec PyProof.Rows L2
/-! ### x or y, as a value -/
section
variable {X : Cx} {Ec : EC}
end
end TR
namespace TR
open PySem PySem.Spec PyProof.Rows L2
/-! ### a < b < c < d, as a value -/
section
variable {X : Cx}
end
section
variable {X : Cx} {Ec : EC}
def a4 (f g h : PyData → PyData → (PyData → Prop) → Prop) (aa ab ac ad : AO) : AE := fun xp s Q => aa xp s fun o1 s1 => ab xp s1 fun o2 s2 => rs s2 o1 fun d1 => rs s2 o2 fun d2 => f d1 d2 fun z => aB z fun k => if k = true then ac xp s2 fun o3 s3 => rs s3 o2 fun e2 => rs s3 o3 fun e3 => g e2 e3 fun z2 => aB z2 fun k2 => if k2 = true then ad xp s3 fun o4 s4 => rs s4 o3 fun g3 => rs s4 o4 fun g4 => h g3 g4 fun r => Q r s4 else Q (.bool false) s3 else Q (.bool false) s2
end
end TR
namespace TR
open PySem PySem.Spec PyProof.Rows L2
/-! ### {k1: v1, k2: v2}.get(x, z), the keys texts, the values ints -/
section
variable {X : Cx} {Ec : EC}
end
end TR
namespace TR
open PySem PySem.Spec PyProof.Rows L2
section
variable {X : Cx}
end
end TR
namespace TR
open PySem PySem.Spec PyProof.Rows L2
/-! ### sorted(set(t)), t a tuple of ints -/
section
variable {X : Cx} {x y : Str} {p1 p2 c1 c2 : Pos} {e : Expr} {t : TA}
end
end TR
namespace TR
open PySem PySem.Spec PyProof.Rows L2
/-! ### set(l), l a list of ints -/
section
variable {P : Program} {w : World} {A : Around} {E : Value → Shared → Prop} {s : Shared}
end
section
variable {X : Cx}
end
/-! ### sorted(set(x)), x a list or a tuple of ints -/
section
variable {X : Cx} {x y : Str} {p1 p2 c1 c2 : Pos} {e : Expr} {t : TA}
end
end TR
namespace TR
open PySem PySem.Spec PyProof.Rows L2
/-! ### // by a divisor of either sign -/
section
variable {X : Cx}
end
end TR
namespace TR
open PySem PySem.Spec PyProof.Rows L2
/-! ### zip of two lists, of two tuples -/
section
variable {X : Cx} {Ec : EC}
end
end TR
namespace TR
open PySem PySem.Spec PyProof.Rows L2
/-! ### native values: how they stand as data -/
abbrev eD : PyData → PyData := fun d => d
abbrev eQ {α : Type} (f : α → PyData) (l : List α) : PyData := .tuple (l.map f)
abbrev eL {α : Type} (f : α → PyData) (l : List α) : PyData := .list (l.map f)
abbrev eP {α β : Type} (f : α → PyData) (g : β → PyData) (p : α × β) : PyData := .tuple [f p.1, g p.2]
/-! ### what is computed, and the state behind it -/
def EV (a : AE) (s : AS) (d : PyData) (s' : AS) : Prop := ∀ xp Q, Q d s' → a xp s Q
def OV (a : AO) (s : AS) (o : Op) (s' : AS) : Prop := ∀ xp Q, Q o s' → a xp s Q
def TV (a : AT) (s : AS) (b : Bool) (s' : AS) : Prop := ∀ xp Q, Q b s' → a xp s Q
def LV (a : AA) (s : AS) (os : List Op) (s' : AS) : Prop := ∀ xp Q, Q os s' → a xp s Q
def IV (a : AI) (s : AS) (it : AIt) (s' : AS) : Prop := ∀ xp Q, Q it s' → a xp s Q
def BV (b : AB) (d : PyData) (s s' : AS) : Prop := ∀ Q : AS → Prop, Q s' → b d s Q
def VF (f : PyData → PyData → (PyData → Prop) → Prop) (d e r : PyData) : Prop := ∀ Q : PyData → Prop, Q r → f d e Q
def FV (f : List PyData → (PyData → Prop) → Prop) (ds : List PyData) (r : PyData) : Prop := ∀ Q : PyData → Prop, Q r → f ds Q
def PFn (F : AF) (ds : List PyData) (r : PyData) : Prop := ∀ n (Q : PyData → Nat → Prop) X, Q r n → F ds n Q X
section
variable {s s1 s2 s3 : AS} {d e r : PyData} {i : Nat}
theorem ev_c : EV (aC d) s d s := fun _ _ h => h
theorem ev_dict0 : EV aDict0 s (.dict []) s := fun _ _ h => h
theorem ev_var (i : Nat) (h : s.sl[i]? = some (some (.dat d))) : EV (aVar i) s d s := fun _ _ q => by
  unfold aVar; rw [h]; exact q
theorem ov_dat (i : Nat) (h : s.sl[i]? = some (some (.dat d))) : OV (oVar i) s (.val d) s := fun _ _ q => by
  unfold oVar; rw [h]; exact q
theorem ov_own (i : Nat) {ds : List PyData} (h : s.sl[i]? = some (some (.own ds))) : OV (oVar i) s (.slot i) s := fun _ _ q => by
  unfold oVar; rw [h]; exact q
theorem ov_V {a : AE} (h : EV a s d s1) : OV (oV a) s (.val d) s1 := fun xp _ q => h xp _ q
theorem rs_of {o : Op} (h : res s o = some d) {k : PyData → Prop} (q : k d) : rs s o k := by unfold rs; rw [h]; exact q
theorem ev_a2 {f : PyData → PyData → (PyData → Prop) → Prop} {aa ab : AO} {o1 o2 : Op} (h1 : OV aa s o1 s1) (h2 : OV ab s1 o2 s2) (r1 : res s2 o1 = some d) (r2 : res s2 o2 = some e) (hf : VF f d e r) : EV (a2 f aa ab) s r s2 := fun xp Q q => h1 xp _ (h2 xp _ (rs_of r1 (rs_of r2 (hf _ q))))
theorem ev_a3 {f g : PyData → PyData → (PyData → Prop) → Prop} {aa ab ac : AO} {o1 o2 o3 : Op} {d3 : PyData} {b1 b2 : Bool} (h1 : OV aa s o1 s) (h2 : OV ab s o2 s) (r1 : res s o1 = some d) (r2 : res s o2 = some e) (hf : VF f d e (.bool b1)) (h3 : b1 = true → OV ac s o3 s) (r3 : res s o3 = some d3) (hg : b1 = true → VF g e d3 (.bool b2)) : EV (a3 f g aa ab ac) s (.bool (b1 && b2)) s := fun xp Q q => h1 xp _ (h2 xp _ (rs_of r1 (rs_of r2 (hf _ (by
  show aB (.bool b1) _
  unfold aB
  cases b1 with
  | true => exact iteT (h3 rfl xp _ (rs_of r2 (rs_of r3 (hg rfl _ q))))
  | false => exact iteF q)))))
theorem tv_V {a : AE} {b : Bool} (h : EV a s (.bool b) s1) : TV (tV a) s b s1 := fun xp _ q => h xp _ q
theorem tv_yes : TV tYesA s true s := fun _ _ q => q
theorem tv_tru {a : AO} {o : Op} {b : Bool} (h : OV a s o s1) (r : res s1 o = some d) (t : truD d = some b) : TV (tTruA a) s b s1 := fun xp _ q => h xp _ (rs_of r (by rw [t]; exact q))
theorem tv_not {t : AT} {b : Bool} (h : TV t s b s1) : TV (tNotA t) s (!b) s1 := fun xp _ q => h xp _ q
theorem tv_and {t u : AT} {b c : Bool} (h : TV t s b s) (g : b = true → TV u s c s) : TV (tAndA t u) s (b && c) s := fun xp _ q => h xp _ (by
  cases b with
  | true => exact iteT (g rfl xp _ q)
  | false => exact iteF q)
theorem tv_or {t u : AT} {b c : Bool} (h : TV t s b s) (g : b = false → TV u s c s) : TV (tOrA t u) s (b || c) s := fun xp _ q => h xp _ (by
  cases b with
  | true => exact iteT q
  | false => exact iteF (g rfl xp _ q))
theorem ev_and {t u : AE} {b c : Bool} (h : EV t s (.bool b) s) (g : b = true → EV u s (.bool c) s) : EV (aAnd t u) s (.bool (b && c)) s := fun xp _ q => h xp _ (by
  show aB (.bool b) _
  unfold aB
  cases b with
  | true => exact iteT (g rfl xp _ q)
  | false => exact iteF q)
theorem ev_not {t : AE} {b : Bool} (h : EV t s (.bool b) s1) : EV (aNot t) s (.bool (!b)) s1 := fun xp _ q => h xp _ q
theorem ev_if {α : Type} (f : α → PyData) {t : AT} {a b : AE} {c : Bool} {x y : α} (h : TV t s c s) (ha : c = true → EV a s (f x) s) (hb : c = false → EV b s (f y) s) : EV (aIfE t a b) s (f (bif c then x else y)) s := fun xp _ q => h xp _ (by
  cases c with
  | true => exact iteT (ha rfl xp _ q)
  | false => exact iteF (hb rfl xp _ q))
theorem lv_nil : LV lNil s [] s := fun _ _ q => q
theorem lv_cons {a : AO} {r : AA} {o : Op} {os : List Op} (h : OV a s o s1) (g : LV r s1 os s2) : LV (lCons a r) s (o :: os) s2 := fun xp _ q => h xp _ (g xp _ q)
theorem ev_tup {a : AA} {os : List Op} {ds : List PyData} (h : LV a s os s1) (hv : ∀ k, k ds → rv os k) (hl : Nat.ble ds.length 1000 = true) : EV (aTup a) s (.tuple ds) s1 := fun xp _ q => h xp _ (hv _ ⟨lim (Nat.le_of_ble_eq_true hl), q⟩)
theorem ev_lst {a : AA} {os : List Op} {ds : List PyData} (h : LV a s os s1) (hv : ∀ k, k ds → rv os k) (hl : Nat.ble ds.length 1000 = true) : EV (aLst a) s (.list ds) s1 := fun xp _ q => h xp _ (hv _ ⟨lim (Nat.le_of_ble_eq_true hl), q⟩)
theorem ev_call0 {ms : List Md} {F : AF} {a : AA} {os : List Op} {ds : List PyData} (h : LV a s os s1) (hr : ∀ k, k ds → rm ms s1 os k) (hF : PFn F ds r) : EV (aCall0 ms (calm F) a) s r s1 := fun xp _ q => h xp _ (hr _ (hF _ _ _ q))
theorem ev_call0X {ms : List Md} {F : AF} {a : AA} {os : List Op} {ds : List PyData} (h : LV a s os s1) (hr : ∀ k, k ds → rm ms s1 os k) (hF : PFn F ds r) : EV (aCall0 ms F a) s r s1 := fun xp _ q => h xp _ (hr _ (hF _ _ _ q))
theorem ev_blt {f : List PyData → (PyData → Prop) → Prop} {a : AA} {os : List Op} {ds : List PyData} (h : LV a s os s1) (hr : ∀ k, k ds → rsl s1 os k) (hf : FV f ds r) : EV (aBlt f a) s r s1 := fun xp _ q => h xp _ (hr _ (hf _ q))
theorem rsl_cons {o : Op} {os : List Op} {ds : List PyData} (h : res s o = some d) (g : ∀ k : List PyData → Prop, k ds → rsl s os k) : ∀ k : List PyData → Prop, k (d :: ds) → rsl s (o :: os) k := fun k q => rs_of h (g (fun ds => k (d :: ds)) q)
theorem ev_isi {T : String} {a : AO} {o : Op} {b : Bool} (h : OV a s o s1) (r : res s1 o = some d) (t : isiD T d = some b) : EV (aIsi T a) s (.bool b) s1 := fun xp _ q => h xp _ (rs_of r (by rw [t]; exact q))
theorem ev_neg {a : AO} {o : Op} {x : Int} (h : OV a s o s1) (r : res s1 o = some (.int x)) : EV (aNeg a) s (.int (-x)) s1 := fun xp _ q => h xp _ (rs_of r q)
/-! ### slices -/
def PV (p : APt) (s : AS) (o : Option Int) (s' : AS) : Prop := ∀ xp Q, Q o s' → p xp s Q
theorem pv_n : PV ptNone s none s := fun _ _ q => q
theorem pv_s {a : AE} {x : Int} (h : EV a s (.int x) s1) : PV (ptSome a) s (some x) s1 := fun xp _ q => h xp _ q
def cutN {α : Type} (xs : List α) (lo hi : Option Int) : List α := (xs.drop (HT.sIx xs.length 0 lo)).take (HT.sIx xs.length xs.length hi - HT.sIx xs.length 0 lo)
theorem cutD_map {α : Type} (f : α → PyData) (l : List α) (lo hi : Option Int) : cutD (l.map f) lo hi = (cutN l lo hi).map f := by
  unfold cutD cutN
  rw [List.length_map, List.map_take, List.map_drop]
theorem ev_slQ {α : Type} {f : α → PyData} {l : List α} {a : AO} {o : Op} {p q : APt} {lo hi : Option Int} (h : OV a s o s1) (hp : PV p s1 lo s2) (hq : PV q s2 hi s3) (r : res s3 o = some (eQ f l)) : EV (aSl a p q) s (eQ f (cutN l lo hi)) s3 := fun xp _ k => h xp _ (hp xp _ (hq xp _ (rs_of r (by
  show _
  unfold vSl
  simp only [cutD_map]
  exact k))))
/-! ### index -/
theorem ev_idx {a : AO} {aa : AA} {os : List Op} {l : List Int} {x : Int} (h : OV a s (.val (eQ .int l)) s1) (g : LV aa s1 os s2) (hr : ∀ k : List PyData → Prop, k [.int x] → rsl s2 os k) (hx : x ∈ l) : EV (aIdx a aa) s (.int ((l.idxOf x : Nat) : Int)) s2 := fun xp _ k => h xp _ ⟨True.intro, g xp _ (rs_of (d := eQ .int l) rfl (hr _ (by
  show vIdx (.tuple (l.map .int)) [.int x] _
  unfold vIdx
  have e : l.findIdx? (· == x) = some (l.idxOf x) := by
    rw [List.findIdx?_eq_some_of_exists (by exact ⟨x, hx, by simp⟩)]
    rfl
  simp only [ints_of, e]
  exact k)))⟩
end
/-! ### operators -/
section
variable {a b : Int}
theorem vf_addI : VF vAdd (.int a) (.int b) (.int (a + b)) := fun _ q => q
theorem vf_subI : VF vSub (.int a) (.int b) (.int (a - b)) := fun _ q => q
theorem vf_powI (h : CPow a b) : VF vPow (.int a) (.int b) (.int (a ^ b.toNat)) := fun _ q => ⟨h, q⟩
theorem vf_addQ {α : Type} {f : α → PyData} {x y : List α} (h : x.length + y.length ≤ sizeLine) : VF vAdd (eQ f x) (eQ f y) (eQ f (x ++ y)) := fun _ q => ⟨by rw [List.length_map, List.length_map]; exact h, by rw [← List.map_append]; exact q⟩
theorem vf_catL {α : Type} {f : α → PyData} {x y : List α} (h : x.length + y.length ≤ sizeLine) : VF vCatL (eL f x) (eL f y) (eL f (x ++ y)) := fun _ q => ⟨by rw [List.length_map, List.length_map]; exact h, by rw [← List.map_append]; exact q⟩
theorem vf_ltI : VF vLt (.int a) (.int b) (.bool (decide (a < b))) := fun _ q => q
theorem vf_leI : VF vLe (.int a) (.int b) (.bool (decide (a ≤ b))) := fun _ q => q
end
theorem vf_neS {a b : Str} : VF vNeS (.str a) (.str b) (.bool (!decide (a = b))) := fun _ q => q
/-- native equality is the data's -/
def Lw {α : Type} [DecidableEq α] (f : α → PyData) : Prop := ∀ a b, PyData.eqv (f a) (f b) = decide (a = b)
theorem lw_I : Lw PyData.int := fun _ _ => rfl
theorem lw_B : Lw PyData.bool := fun a b => by cases a <;> cases b <;> rfl
theorem lw_all {α : Type} [DecidableEq α] {f : α → PyData} (h : Lw f) : ∀ a b : List α, PyData.eqvAll (a.map f) (b.map f) = decide (a = b)
  | [], [] => rfl
  | [], _ :: _ => rfl
  | _ :: _, [] => rfl
  | x :: a, y :: b => by
    show (PyData.eqv (f x) (f y) && PyData.eqvAll (a.map f) (b.map f)) = _
    rw [h, lw_all h a b]
    by_cases e : x = y
    · subst e; simp
    · simp [e]
theorem lw_Q {α : Type} [DecidableEq α] {f : α → PyData} (h : Lw f) : Lw (eQ f) := fun a b => lw_all h a b
/-- may be compared -/
def Sh (k : Nat) {α : Type} (f : α → PyData) : Prop := ∀ a, Sd k (f a)
theorem sh_I {k : Nat} : Sh k PyData.int := fun i => sd_int i
theorem sh_B {k : Nat} : Sh k PyData.bool := fun i => sd_bool i
theorem sh_Q {k : Nat} {α : Type} {f : α → PyData} (h : Sh k f) : Sh (k + 1) (eQ f) := fun l => sd_tup fun d hd => by
  obtain ⟨x, _, rfl⟩ := List.mem_map.mp hd
  exact h x
theorem sh_L {k : Nat} {α : Type} {f : α → PyData} (h : Sh k f) : Sh (k + 1) (eL f) := fun l => sd_list fun d hd => by
  obtain ⟨x, _, rfl⟩ := List.mem_map.mp hd
  exact h x
theorem Sh.shp {k : Nat} {α : Type} {f : α → PyData} (h : Sh k f) (hk : Nat.ble k 64 = true) (a : α) : SeqAt.shaped (f a) = true := (h a).shaped (Nat.le_of_ble_eq_true hk)
section
variable {α : Type} [DecidableEq α] {f : α → PyData} {a b : α} {k : Nat}
theorem vf_ne (hl : Lw f) (hs : Sh k f) (hk : Nat.ble k 64 = true) : VF vNe (f a) (f b) (.bool (!decide (a = b))) := fun _ q => ⟨hs.shp hk a, hs.shp hk b, by rw [hl a b]; exact q⟩
theorem any_mem {l : List α} (hl : Lw f) : ((l.map f).any fun y => PyData.eqv y (f a)) = decide (a ∈ l) := by
  rw [List.any_map]
  induction l with
  | nil => simp
  | cons x l ih =>
    rw [List.any_cons, ih]
    show (PyData.eqv (f x) (f a) || _) = _
    rw [hl]
    by_cases e : x = a
    · subst e; simp
    · have e2 : ¬ a = x := fun h => e h.symm
      simp [e, e2]
theorem vf_ninL {l : List α} (hl : Lw f) (hs : Sh k f) (hk : Nat.ble (k + 1) 64 = true) (hk2 : Nat.ble k 64 = true) : VF vNotIn (f a) (eL f l) (.bool (!decide (a ∈ l))) := fun _ q => ⟨hs.shp hk2 a, (sh_L hs).shp hk l, by rw [any_mem hl]; exact q⟩
end
section
variable {d e : PyData}
/-! ### items -/
def gt {α : Type} [Inhabited α] (l : List α) (k : Int) : α := l.getD k.toNat default
def gl {α : Type} [Inhabited α] (l : List α) : α := l.getLastD default
def Ixr {α : Type} (l : List α) (k : Int) : Prop := 0 ≤ k ∧ k < (l.length : Int)
theorem at_map {α : Type} [Inhabited α] {f : α → PyData} {l : List α} {k : Int} (h : Ixr l k) : atI (l.map f) k = some (f (gt l k)) := by
  obtain ⟨h0, h1⟩ := h
  obtain ⟨j, rfl⟩ := Int.eq_ofNat_of_zero_le h0
  have hj : j < l.length := by omega
  rw [at_get (by rw [List.length_map]; exact hj)]
  unfold gt
  rw [List.getElem_map, Int.toNat_natCast, List.getD_eq_getElem?_getD, List.getElem?_eq_getElem hj]
  rfl
theorem at_lastN {α : Type} [Inhabited α] {f : α → PyData} {l : List α} (h : l ≠ []) : atI (l.map f) (-1) = some (f (gl l)) := by
  obtain ⟨x, r, rfl⟩ : ∃ r x, l = r ++ [x] := ⟨l.dropLast, l.getLast h, (List.dropLast_concat_getLast h).symm⟩
  rw [List.map_append]
  have e : gl (x ++ [r]) = r := by unfold gl; rw [List.getLastD_eq_getLast?]; simp
  rw [e]
  exact at_last
theorem vf_ixT {ds : List PyData} {k : Int} {r : PyData} (h : atI ds k = some r) : VF vIx (.tuple ds) (.int k) r := fun _ q => by
  show (match atI ds k with | some d => _ | none => False)
  rw [h]; exact q
theorem vf_ixL' {ds : List PyData} {k : Int} {r : PyData} (h : atI ds k = some r) : VF vIx (.list ds) (.int k) r := fun _ q => by
  show (match atI ds k with | some d => _ | none => False)
  rw [h]; exact q
theorem vf_ixQ {α : Type} [Inhabited α] {f : α → PyData} {l : List α} {k : Int} (h : Ixr l k) : VF vIx (eQ f l) (.int k) (f (gt l k)) := vf_ixT (at_map h)
theorem vf_ixL {α : Type} [Inhabited α] {f : α → PyData} {l : List α} {k : Int} (h : Ixr l k) : VF vIx (eL f l) (.int k) (f (gt l k)) := vf_ixL' (at_map h)
theorem vf_ixQl {α : Type} [Inhabited α] {f : α → PyData} {l : List α} (h : l ≠ []) : VF vIx (eQ f l) (.int (-1)) (f (gl l)) := vf_ixT (at_lastN h)
/-! ### builtins -/
theorem fv_lenQ {α : Type} {f : α → PyData} {l : List α} : FV fLen [eQ f l] (.int ((l.length : Nat) : Int)) := fun _ q => by
  rw [fLen_t, List.length_map]; exact q
theorem fv_lenL {α : Type} {f : α → PyData} {l : List α} : FV fLen [eL f l] (.int ((l.length : Nat) : Int)) := fun _ q => by
  rw [fLen_l, List.length_map]; exact q
theorem fv_tupleL {α : Type} {f : α → PyData} {l : List α} : FV fTuple [eL f l] (eQ f l) := fun _ q => q
def srtN {α : Type} (f : α → PyData) (l : List α) : List α := l.mergeSort fun a b => PySem.W.dataLe false (fun d => d) (f a) (f b)
theorem fv_sortedL {α : Type} {f : α → PyData} {l : List α} (h : SrtOk (l.map f)) : FV fSorted [eL f l] (eL f (srtN f l)) := fun _ q => ⟨h, by
  have : srt (l.map f) = (srtN f l).map f := by
    unfold srt srtN
    exact (List.map_mergeSort (f := f) (l := l) fun a _ b _ => rfl).symm
  rw [this]; exact q⟩
theorem tru_Q {α : Type} {f : α → PyData} {l : List α} : truD (eQ f l) = some (!l.isEmpty) := by cases l <;> rfl
theorem tru_B {b : Bool} : truD (.bool b) = some b := rfl
end
/-! ### types of data -/
def isTup : PyData → Bool
  | .tuple _ => true
  | _ => false
def isLst : PyData → Bool
  | .list _ => true
  | _ => false
def isStr : PyData → Bool
  | .str _ => true
  | _ => false
def isBoo : PyData → Bool
  | .bool _ => true
  | _ => false
def isDic : PyData → Bool
  | .dict _ => true
  | _ => false
def isNum : PyData → Bool
  | .int _ => true
  | .bool _ => true
  | _ => false
theorem isi_tuple {d : PyData} : isiD "tuple" d = some (isTup d) := by cases d <;> rfl
theorem isi_list {d : PyData} : isiD "list" d = some (isLst d) := by cases d <;> rfl
theorem isi_str {d : PyData} : isiD "str" d = some (isStr d) := by cases d <;> rfl
theorem isi_bool {d : PyData} : isiD "bool" d = some (isBoo d) := by cases d <;> rfl
theorem isi_dict {d : PyData} : isiD "dict" d = some (isDic d) := by cases d <;> rfl
theorem isi_int {d : PyData} : isiD "int" d = some (isNum d) := by cases d <;> rfl
/-! ### what is walked -/
def irange (lo hi : Int) : List Int := (List.range (hi - lo).toNat).map fun k => lo + (k : Nat)
theorem rngD_map (lo hi : Int) : rngD lo (hi - lo).toNat = (irange lo hi).map .int := by
  unfold rngD irange
  rw [List.map_map]
  rfl
theorem rngD_map0 (hi : Int) : rngD 0 hi.toNat = (irange 0 hi).map .int := by
  rw [← rngD_map, Int.sub_zero]
def Rg (j : Int) : Prop := -(2 ^ 62) ≤ j ∧ j < 2 ^ 62
section
variable {s s1 s2 : AS}
theorem iv_range1 {a : AA} {os : List Op} {j : Int} (h : LV a s os s1) (hv : ∀ k : List PyData → Prop, k [.int j] → rv os k) (hj : Rg j) : IV (iRange1 a) s (.fix ((irange 0 j).map .int)) s1 := fun xp _ q => h xp _ (hv _ ⟨hj.1, hj.2, by rw [rngD_map0]; exact q⟩)
theorem iv_range2 {a : AA} {os : List Op} {i j : Int} (h : LV a s os s1) (hv : ∀ k : List PyData → Prop, k [.int i, .int j] → rv os k) (hj : Rg i ∧ Rg j) : IV (iRange2 a) s (.fix ((irange i j).map .int)) s1 := fun xp _ q => h xp _ (hv _ ⟨⟨hj.1.1, hj.1.2, hj.2.1, hj.2.2⟩, by rw [rngD_map]; exact q⟩)
theorem iv_valQ {α : Type} {f : α → PyData} {l : List α} {a : AO} (h : OV a s (.val (eQ f l)) s1) : IV (iSeq a) s (.fix (l.map f)) s1 := fun xp _ q => h xp _ q
theorem iv_valL {α : Type} {f : α → PyData} {l : List α} {a : AO} (h : OV a s (.val (eL f l)) s1) : IV (iSeq a) s (.fix (l.map f)) s1 := fun xp _ q => h xp _ q
theorem bv_nm (i : Nat) {d : PyData} : BV (bNm i) d s (s.set i (.dat d)) := fun _ q => q
theorem lc_go {α : Type} {it : AIt} {b : AB} {t : AT} {a : AE} {vs : List Nat} (f : α → PyData) (p : α → Bool) {β : Type} (e : β → PyData) (v : α → β) (s2 s3 : α → AS) (hc : it.chk s1) (Q : PyData → AS → Prop) : ∀ (l : List α) (acc : List PyData), acc.length + l.length ≤ sizeLine →
    (∀ x ∈ l, BV b (f x) (s1.wipe vs) (s2 x)) → (∀ x ∈ l, TV t (s2 x) (p x) (s2 x)) → (∀ x ∈ l, p x = true → EV a (s2 x) (e (v x)) (s3 x)) → (∀ x ∈ l, back vs s1 (s2 x) = s1 ∧ back vs s1 (s3 x) = s1) →
    Q (.list (acc ++ ((l.filter p).map v).map e)) s1 → lcL it b t a vs Q (l.map f) acc s1
  | [], acc, _, _, _, _, _, q => ⟨hc, by rw [List.filter_nil, List.map_nil, List.map_nil, List.append_nil] at q; exact q⟩
  | x :: l, acc, hl, hb, ht, ha, hk, q => by
    rw [List.length_cons] at hl
    refine ⟨hc, hb x List.mem_cons_self _ (ht x List.mem_cons_self _ _ ?_)⟩
    cases hp : p x with
    | true =>
      refine iteT (ha x List.mem_cons_self hp _ _ ⟨by omega, ?_⟩)
      rw [(hk x List.mem_cons_self).2]
      refine lc_go f p e v s2 s3 hc Q l _ (by rw [List.length_append]; simp only [List.length_cons, List.length_nil]; omega) (fun y hy => hb y (List.mem_cons_of_mem _ hy)) (fun y hy => ht y (List.mem_cons_of_mem _ hy)) (fun y hy => ha y (List.mem_cons_of_mem _ hy)) (fun y hy => hk y (List.mem_cons_of_mem _ hy)) ?_
      rw [List.filter_cons_of_pos hp, List.map_cons, List.map_cons] at q
      rw [List.append_assoc]
      exact q
    | false =>
      refine iteF ?_
      rw [(hk x List.mem_cons_self).1]
      refine lc_go f p e v s2 s3 hc Q l _ (by omega) (fun y hy => hb y (List.mem_cons_of_mem _ hy)) (fun y hy => ht y (List.mem_cons_of_mem _ hy)) (fun y hy => ha y (List.mem_cons_of_mem _ hy)) (fun y hy => hk y (List.mem_cons_of_mem _ hy)) ?_
      rw [List.filter_cons_of_neg (by rw [hp]; exact Bool.false_ne_true)] at q
      exact q
theorem ev_lcF {α β : Type} (f : α → PyData) (p : α → Bool) (e : β → PyData) (v : α → β) (s2 s3 : α → AS) {l : List α} {it : AIt} {ai : AI} {b : AB} {t : AT} {a : AE} {vs : List Nat} (hi : IV ai s it s1) (hl : l.length ≤ sizeLine) (hit : it.its = l.map f) (hc : it.chk s1)
    (hb : ∀ x ∈ l, BV b (f x) (s1.wipe vs) (s2 x)) (ht : ∀ x ∈ l, TV t (s2 x) (p x) (s2 x)) (ha : ∀ x ∈ l, p x = true → EV a (s2 x) (e (v x)) (s3 x)) (hk : ∀ x ∈ l, back vs s1 (s2 x) = s1 ∧ back vs s1 (s3 x) = s1) : EV (aLc ai b t a vs) s (eL e ((l.filter p).map v)) s1 := fun xp Q q => hi xp _ (by
  rw [hit]
  exact lc_go f p e v s2 s3 hc Q l [] (by simpa using hl) hb ht ha hk q)
theorem ev_lcM {α β : Type} (f : α → PyData) (e : β → PyData) (v : α → β) (s2 s3 : α → AS) {l : List α} {it : AIt} {ai : AI} {b : AB} {a : AE} {vs : List Nat} (hi : IV ai s it s1) (hl : l.length ≤ sizeLine) (hit : it.its = l.map f) (hc : it.chk s1)
    (hb : ∀ x ∈ l, BV b (f x) (s1.wipe vs) (s2 x)) (ha : ∀ x ∈ l, EV a (s2 x) (e (v x)) (s3 x)) (hk : ∀ x ∈ l, back vs s1 (s2 x) = s1 ∧ back vs s1 (s3 x) = s1) : EV (aLc ai b tYesA a vs) s (eL e (l.map v)) s1 := by
  have := ev_lcF f (fun _ => true) e v s2 s3 (t := tYesA) (a := a) hi hl hit hc hb (fun _ _ => tv_yes) (fun x hx _ => ha x hx) hk
  rw [List.filter_eq_self.mpr fun _ _ => rfl] at this
  exact this
end
end TR
namespace TR
open PySem PySem.Spec PyProof.Rows L2
/-! ### statements, with native values -/
instance : Inhabited PyData := ⟨.none⟩
section
variable {s s1 s2 : AS} {d e r : PyData} {i : Nat} {xp : XP} {D : AEnds} {rest a' b' : AST}
theorem g_bv {b : AB} {s' : AS} {Q : AS → Prop} (h : BV b d s s') (q : Q s') : b d s Q := h _ q
theorem ev_cast {a : AE} {d d' : PyData} (h : EV a s d s1) (e : d = d') : EV a s d' s1 := e ▸ h
theorem c_ret {a : AE} (h : EV a s d s1) (hq : D.rt d s1.n) : sRet a xp D s := h xp _ hq
theorem c_retV (i : Nat) (h : s.sl[i]? = some (some (.dat d))) (hq : D.rt d s.n) : sRetV i xp D s := by unfold sRetV; rw [h]; exact hq
theorem c_retVO (i : Nat) {ds : List PyData} (h : s.sl[i]? = some (some (.own ds))) (hq : D.rt (.list ds) s.n) : sRetV i xp D s := by unfold sRetV; rw [h]; exact hq
theorem c_seq (h : a' xp { D with nx := b' xp D } s) : sSeq a' b' xp D s := h
theorem c_set {a : AE} (h : EV a s d s1) (e : s1.set i (.dat d) = s2) (k : D.nx s2) : sSet i a xp D s := h xp _ (e ▸ k)
theorem c_setO {a : AE} {ds : List PyData} (h : EV a s (.list ds) s1) (e : s1.set i (.own ds) = s2) (k : D.nx s2) : sSetO i a xp D s := h xp _ (show D.nx (s1.set i (.own ds)) from e ▸ k)
theorem c_asg {a : AE} {b : AB} (h : EV a s d s1) (hb : BV b d s1 s2) (k : D.nx s2) : sAsg a b xp D s := h xp _ (hb _ k)
theorem c_drop {a : AE} (h : EV a s d s1) (k : D.nx s1) : sDrop a xp D s := h xp _ k
theorem c_pass (k : D.nx s) : sNx xp D s := k
theorem c_if {t : AT} {c : Bool} (h : TV t s c s1) (ha : c = true → a' xp D s1) (hb : c = false → b' xp D s1) : sIf t a' b' xp D s := h xp _ (by
  cases c with
  | true => exact iteT (ha rfl)
  | false => exact iteF (hb rfl))
/-- both ways go on -/
theorem c_ifJ {t : AT} {c : Bool} (J : Bool → AS) (h : TV t s c s1) (ha : c = true → ∀ D' : AEnds, D'.nx (J true) → a' xp D' s1) (hb : c = false → ∀ D' : AEnds, D'.nx (J false) → b' xp D' s1) (k : D.nx (J c)) : sIf t a' b' xp D s := h xp _ (by
  cases c with
  | true => exact iteT (ha rfl D k)
  | false => exact iteF (hb rfl D k))
theorem ev_app {α : Type} {f : α → PyData} {l : List α} {x : α} {aa : AA} {os : List Op} (h0 : s.sl[i]? = some (some (.own (l.map f)))) (h : LV aa s os s1) (h1 : s1.sl[i]? = some (some (.own (l.map f)))) (hv : ∀ k : List PyData → Prop, k [f x] → rv os k) (hs : s1.set i (.own ((l ++ [x]).map f)) = s2) (hl : l.length < sizeLine) : EV (aMut mApp i aa) s .none s2 := fun xp _ q => by
  unfold aMut
  rw [h0]
  refine h xp _ (hv _ ?_)
  simp only [h1]
  refine ⟨by rw [List.length_map]; exact hl, ?_⟩
  rw [← hs, List.map_append] at q
  exact q
theorem ev_ext {α : Type} {f : α → PyData} {l m : List α} {aa : AA} {os : List Op} (h0 : s.sl[i]? = some (some (.own (l.map f)))) (h : LV aa s os s1) (h1 : s1.sl[i]? = some (some (.own (l.map f)))) (hv : ∀ k : List PyData → Prop, k [eL f m] → rv os k) (hs : s1.set i (.own ((l ++ m).map f)) = s2) (hl : l.length + m.length ≤ sizeLine) : EV (aMut mExt i aa) s .none s2 := fun xp _ q => by
  unfold aMut
  rw [h0]
  refine h xp _ (hv _ ?_)
  simp only [h1]
  refine ⟨by rw [List.length_map, List.length_map]; exact hl, ?_⟩
  rw [← hs, List.map_append] at q
  exact q
/-! tuples taken apart -/
theorem bv_q2 {α : Type} [Inhabited α] {f : α → PyData} {l : List α} {i j : Nat} (h : l.length = 2) : BV (bTup 2 (bCons (bNm i) (bCons (bNm j) bNil))) (eQ f l) s ((s.set i (.dat (f (gt l 0)))).set j (.dat (f (gt l 1)))) := fun _ q => by
  match l, h with
  | [a, b], _ => exact ⟨rfl, rfl, q⟩
theorem BV.to {b : AB} {d : PyData} {s s1 s2 : AS} (h : BV b d s s1) (e : s1 = s2) : BV b d s s2 := e ▸ h
end
/-! ### data taken as what it is -/
def dI : PyData → Int
  | .int i => i
  | _ => 0
/-! ### exceptions as values -/
structure XN where
  k : Nat
  fld : Option (Str × PyData)
def XN.xd (cc : Nat → Addr) (x : XN) : XD := ⟨cc x.k, x.fld⟩
def resX {α : Type} (cc : Nat → Addr) (D : AEnds) (xp : XP) (n : Nat) (f : α → PyData) : Except XN α → Prop
  | .ok r => D.rt (f r) n
  | .error x => ∀ s : AS, s.n = n → xp (x.xd cc) s
def isOk {α : Type} : Except XN α → Bool
  | .ok _ => true
  | .error _ => false
def getX {α : Type} [Inhabited α] : Except XN α → α
  | .ok r => r
  | .error _ => default
/-- a def that may raise -/
def PFx {α : Type} (cc : Nat → Addr) (F : AF) (ds : List PyData) (f : α → PyData) (v : Except XN α) : Prop := ∀ n (Q : PyData → Nat → Prop) X, (match v with | .ok r => Q (f r) n | .error x => X (x.xd cc) n) → F ds n Q X
theorem PFx.ok {α : Type} [Inhabited α] {cc : Nat → Addr} {F : AF} {ds : List PyData} {f : α → PyData} {v : Except XN α} (h : PFx cc F ds f v) (o : isOk v = true) : PFn F ds (f (getX v)) := fun n Q X q => h n Q X (by
  cases v with
  | ok r => exact q
  | error _ => cases o)
theorem PFx.of_ok {α : Type} {cc : Nat → Addr} {F : AF} {ds : List PyData} {f : α → PyData} {v : Except XN α} (h : PFx cc F ds f v) {r : α} (o : v = .ok r) : PFn F ds (f r) := fun n Q X q => h n Q X (by subst o; exact q)
/-- it raises -/
def XV (cc : Nat → Addr) (a : AE) (s : AS) (x : XN) : Prop := ∀ xp Q, xp (x.xd cc) s → a xp s Q
section
variable {cc : Nat → Addr} {s s1 s2 : AS} {d e r : PyData} {i : Nat} {xp : XP} {D : AEnds} {rest a' b' : AST} {x : XN}
theorem xv_call {α : Type} {ms : List Md} {F : AF} {a : AA} {os : List Op} {ds : List PyData} {f : α → PyData} {v : Except XN α} (h : LV a s os s) (hr : ∀ k, k ds → rm ms s os k) (hF : PFx cc F ds f v) (hv : v = .error x) : XV cc (aCall0 ms F a) s x := fun xp Q q => h xp _ (hr _ (hF _ _ _ (by subst hv; exact q)))
theorem rx_set {a : AE} (h : XV cc a s x) (hq : xp (x.xd cc) s) : sSet i a xp D s := h xp _ hq
/-! try -/
def tryX {α β : Type} (v : Except XN α) (A : α → β) (B : XN → β) : β := match v with
  | .ok r => A r
  | .error x => B x
theorem by_try {α β : Type} {P : Prop} {v : Except XN α} {A : α → β} {B : XN → β} {f : β → PyData} {n : Nat} (hq : D.rt (f (tryX v A B)) n) (ho : ∀ r, v = .ok r → D.rt (f (A r)) n → P) (he : ∀ x, v = .error x → D.rt (f (B x)) n → P) : P := by
  cases v with
  | ok r => exact ho r rfl hq
  | error x => exact he x rfl hq
theorem c_try {cs : List Addr} {b su : AST} (h : b (fun x s1 => x.cls ∈ cs ∧ su x0 { nx := fun s2 => D.nx (s2.noX i), rt := D.rt, bk := fun s2 => D.bk (s2.noX i), ct := fun s2 => D.ct (s2.noX i) } (s1.set i (.exc x))) D s) : sTry i cs b su xp D s := h
theorem c_nox {s' : AS} (e : s.noX i = s') (h : D.nx s') : ({ nx := fun s2 => D.nx (s2.noX i), rt := D.rt, bk := fun s2 => D.bk (s2.noX i), ct := fun s2 => D.ct (s2.noX i) } : AEnds).nx s := by
  show D.nx (s.noX i)
  rw [e]; exact h
def Inj (cc : Nat → Addr) (N : Nat) : Prop := ∀ i j, i < N → j < N → cc i = cc j → i = j
theorem ev_isX {N j : Nat} (hcc : Inj cc N) (h : s.sl[i]? = some (some (.exc (x.xd cc)))) (hx : x.k < N) (hj : Nat.blt j N = true) : EV (aIsX (cc j) i) s (.bool (decide (x.k = j))) s := fun xp Q q => by
  unfold aIsX
  rw [h]
  have : decide ((x.xd cc).cls = cc j) = decide (x.k = j) := decide_eq_decide.mpr ⟨fun e => hcc _ _ hx (Nat.le_of_ble_eq_true hj) e, fun e => by show cc x.k = cc j; rw [e]⟩
  simp only [this]
  exact q
theorem ev_isXs {N : Nat} {js : List Nat} (hcc : Inj cc N) (h : s.sl[i]? = some (some (.exc (x.xd cc)))) (hx : x.k < N) (hj : js.all (fun j => Nat.blt j N) = true) : EV (aIsXs (js.map cc) i) s (.bool (decide (x.k ∈ js))) s := fun xp Q q => by
  unfold aIsXs
  rw [h]
  have : decide ((x.xd cc).cls ∈ js.map cc) = decide (x.k ∈ js) := decide_eq_decide.mpr ⟨fun e => by
    obtain ⟨j, hj1, e⟩ := List.mem_map.mp e
    have hj2 : j < N := Nat.le_of_ble_eq_true (List.all_eq_true.mp hj j hj1)
    rw [← hcc _ _ hj2 hx e]; exact hj1, fun e => List.mem_map.mpr ⟨_, e, rfl⟩⟩
  simp only [this]
  exact q
def fldX (x : XN) : PyData := match x.fld with
  | some (_, d) => d
  | none => .none
theorem ev_fldX {f : Str} (h : s.sl[i]? = some (some (.exc (x.xd cc)))) (hf : x.fld = some (f, fldX x)) : EV (aFldX f i) s (fldX x) s := fun xp Q q => by
  unfold aFldX
  rw [h]
  have : x.xd cc = ⟨cc x.k, some (f, fldX x)⟩ := by unfold XN.xd; rw [← hf]
  rw [this]
  exact ⟨rfl, q⟩
theorem mem_cc {cs : List Addr} {N : Nat} (hx : x.k < N) (hcs : cs = (List.range N).map cc) : (x.xd cc).cls ∈ cs := by
  rw [hcs]; exact List.mem_map.mpr ⟨x.k, List.mem_range.mpr hx, rfl⟩
theorem c_raise1 {C : Addr} {f : Str} {aa : AA} {os : List Op} (h : LV aa s os s1) (hv : ∀ k : List PyData → Prop, k [d] → rv os k) (hq : xp ⟨C, some (f, d)⟩ s1) : sRaise1 C f aa xp D s := h xp _ (hv _ hq)
theorem ifTx {α : Type} {f : α → PyData} {c : Bool} {x y : Except XN α} {n : Nat} (h : c = true) (q : resX cc D xp n f (bif c then x else y)) : resX cc D xp n f x := by subst h; exact q
theorem ifFx {α : Type} {f : α → PyData} {c : Bool} {x y : Except XN α} {n : Nat} (h : c = false) (q : resX cc D xp n f (bif c then x else y)) : resX cc D xp n f y := by subst h; exact q
end
/-! ### for -/
def forV {α σ ρ : Type} (body : (σ → ρ) → α → σ → ρ) (after : σ → ρ) : List α → σ → ρ
  | [], w => after w
  | x :: l, w => body (fun w' => forV body after l w') x w
theorem forL_ok {α σ ρ : Type} {R : ρ → Prop} {b : AB} {body : AST} {xp : XP} {D : AEnds} (f : α → PyData) (Inv : σ → AS → Prop) {bC : (σ → Prop) → α → σ → Prop} {aC : σ → Prop} {bV : (σ → ρ) → α → σ → ρ} {aV : σ → ρ}
    (hb : ∀ x w s k kC (N : AS → Prop), Inv w s → bC kC x w → R (bV k x w) → (∀ w' s', Inv w' s' → kC w' → R (k w') → N s') → b (f x) s fun s1 => body xp { D with nx := N, ct := N, bk := D.nx } s1)
    (ha : ∀ w s, Inv w s → aC w → R (aV w) → D.nx s) : ∀ (l : List α) (w : σ) (s : AS), Inv w s → forV bC aC l w → R (forV bV aV l w) → forL b body xp D (l.map f) s
  | [], w, s, i, c, q => ha w s i c q
  | x :: l, w, s, i, c, q => hb x w s _ _ _ i c q fun w' s' i' c' q' => forL_ok f Inv hb ha l w' s' i' c' q'
theorem c_for {α σ ρ : Type} {R : ρ → Prop} {ai : AI} {b : AB} {body : AST} {xp : XP} {D : AEnds} {s s1 : AS} (f : α → PyData) (Inv : σ → AS → Prop) {l : List α} {w : σ} {bC : (σ → Prop) → α → σ → Prop} {aC : σ → Prop} {bV : (σ → ρ) → α → σ → ρ} {aV : σ → ρ} (hi : IV ai s (.fix (l.map f)) s1) (hw : Inv w s1) (hC : forV bC aC l w) (hq : R (forV bV aV l w))
    (hb : ∀ x w s k kC (N : AS → Prop), Inv w s → bC kC x w → R (bV k x w) → (∀ w' s', Inv w' s' → kC w' → R (k w') → N s') → b (f x) s fun s1 => body xp { D with nx := N, ct := N, bk := D.nx } s1)
    (ha : ∀ w s, Inv w s → aC w → R (aV w) → D.nx s) : sFor ai b body xp D s := hi xp _ (forL_ok f Inv hb ha l w s1 hw hC hq)
/-- a loop that goes through -/
theorem forV_fold {α σ ρ : Type} {body : (σ → ρ) → α → σ → ρ} {after : σ → ρ} (g : σ → α → σ) (h : ∀ k x w, body k x w = k (g w x)) : ∀ (l : List α) (w : σ), forV body after l w = after (l.foldl g w)
  | [], _ => rfl
  | x :: l, w => by
    show body _ x w = _
    rw [h, forV_fold g h l, List.foldl_cons]
end TR
namespace TR
open PySem PySem.Spec PyProof.Rows L2
section
variable {s s1 s2 : AS} {d d' : PyData}
theorem c_aft {b : AST} {xp : XP} {D : AEnds} (h : b xp D s) : ({ D with nx := b xp D } : AEnds).nx s := h
theorem ov_cast {a : AO} (h : OV a s (.val d) s1) (e : d = d') : OV a s (.val d') s1 := e ▸ h
theorem ev_neg1 : EV (aNeg (oV (aC (.int 1)))) s (.int (-1)) s := fun _ _ q => q
/-! two clauses -/
theorem lcI_go {α β : Type} {it : AIt} {b : AB} {t : AT} {a : AE} {vs : List Nat} (f : α → PyData) (p : α → Bool) (e : β → PyData) (v : α → β) (s2 s3 : α → AS) (hc : it.chk s1) (K : List PyData → AS → Prop) : ∀ (l : List α) (acc : List PyData), acc.length + (l.filter p).length ≤ sizeLine →
    (∀ x ∈ l, BV b (f x) (s1.wipe vs) (s2 x)) → (∀ x ∈ l, TV t (s2 x) (p x) (s2 x)) → (∀ x ∈ l, p x = true → EV a (s2 x) (e (v x)) (s3 x)) → (∀ x ∈ l, back vs s1 (s2 x) = s1 ∧ back vs s1 (s3 x) = s1) →
    K (acc ++ ((l.filter p).map v).map e) s1 → lcI it b t a vs K (l.map f) acc s1
  | [], acc, _, _, _, _, _, q => ⟨hc, by rw [List.filter_nil, List.map_nil, List.map_nil, List.append_nil] at q; exact q⟩
  | x :: l, acc, hl, hb, ht, ha, hk, q => by
    refine ⟨hc, hb x List.mem_cons_self _ (ht x List.mem_cons_self _ _ ?_)⟩
    cases hp : p x with
    | true =>
      rw [List.filter_cons_of_pos hp, List.length_cons] at hl
      refine iteT (ha x List.mem_cons_self hp _ _ ⟨by omega, ?_⟩)
      rw [(hk x List.mem_cons_self).2]
      refine lcI_go f p e v s2 s3 hc K l _ (by rw [List.length_append]; simp only [List.length_cons, List.length_nil]; omega) (fun y hy => hb y (List.mem_cons_of_mem _ hy)) (fun y hy => ht y (List.mem_cons_of_mem _ hy)) (fun y hy => ha y (List.mem_cons_of_mem _ hy)) (fun y hy => hk y (List.mem_cons_of_mem _ hy)) ?_
      rw [List.filter_cons_of_pos hp, List.map_cons, List.map_cons] at q
      rw [List.append_assoc]
      exact q
    | false =>
      rw [List.filter_cons_of_neg (by rw [hp]; exact Bool.false_ne_true)] at hl q
      refine iteF ?_
      rw [(hk x List.mem_cons_self).1]
      exact lcI_go f p e v s2 s3 hc K l _ hl (fun y hy => hb y (List.mem_cons_of_mem _ hy)) (fun y hy => ht y (List.mem_cons_of_mem _ hy)) (fun y hy => ha y (List.mem_cons_of_mem _ hy)) (fun y hy => hk y (List.mem_cons_of_mem _ hy)) q
/-- both clauses with tests; s2: behind the first target; s4: the same, behind the inner walk; s5, s6: inner -/
theorem lc2_go {α β γ : Type} {it : AIt} {b b1 : AB} {t t1 : AT} {ai1 : AI} {a : AE} {vs vs1 : List Nat} (f : α → PyData) (f1 : β → PyData) (p : α → Bool) (p1 : α → β → Bool) (inner : α → List β) (e : γ → PyData) (v : α → β → γ) (s2 : α → AS) (s5 s6 : α → β → AS) (hc : it.chk s1) (Q : PyData → AS → Prop)
    (it1 : α → AIt) : ∀ (l : List α) (acc : List PyData), acc.length + ((l.filter p).flatMap fun x => (inner x).filter (p1 x)).length ≤ sizeLine →
    (∀ x ∈ l, BV b (f x) (s1.wipe vs) (s2 x)) → (∀ x ∈ l, TV t (s2 x) (p x) (s2 x)) → (∀ x ∈ l, p x = true → IV ai1 (s2 x) (it1 x) (s2 x)) → (∀ x ∈ l, p x = true → (it1 x).its = (inner x).map f1 ∧ (it1 x).chk (s2 x)) →
    (∀ x ∈ l, p x = true → ∀ y ∈ inner x, BV b1 (f1 y) ((s2 x).wipe vs1) (s5 x y)) → (∀ x ∈ l, p x = true → ∀ y ∈ inner x, TV t1 (s5 x y) (p1 x y) (s5 x y)) → (∀ x ∈ l, p x = true → ∀ y ∈ inner x, p1 x y = true → EV a (s5 x y) (e (v x y)) (s6 x y)) →
    (∀ x ∈ l, ∀ y ∈ inner x, back vs1 (s2 x) (s5 x y) = s2 x ∧ back vs1 (s2 x) (s6 x y) = s2 x) → (∀ x ∈ l, back vs s1 (s2 x) = s1) →
    Q (.list (acc ++ ((l.filter p).flatMap fun x => ((inner x).filter (p1 x)).map (v x)).map e)) s1 → lc2L it b t ai1 b1 t1 a vs vs1 Q (l.map f) acc s1
  | [], acc, _, _, _, _, _, _, _, _, _, _, q => ⟨hc, by simpa using q⟩
  | x :: l, acc, hl, hb, ht, hi, hs, hb1, ht1, ha, hk1, hk, q => by
    have tl : ∀ {P : α → Prop}, (∀ y ∈ x :: l, P y) → ∀ y ∈ l, P y := fun h y hy => h y (List.mem_cons_of_mem _ hy)
    refine ⟨hc, hb x List.mem_cons_self _ (ht x List.mem_cons_self _ _ ?_)⟩
    cases hp : p x with
    | true =>
      rw [List.filter_cons_of_pos hp, List.flatMap_cons, List.length_append] at hl
      rw [List.filter_cons_of_pos hp, List.flatMap_cons, List.map_append, ← List.append_assoc] at q
      refine iteT (hi x List.mem_cons_self hp _ _ ?_)
      rw [(hs x List.mem_cons_self hp).1]
      refine lcI_go f1 (p1 x) e (v x) (s5 x) (s6 x) (hs x List.mem_cons_self hp).2 _ (inner x) acc (by omega) (hb1 x List.mem_cons_self hp) (ht1 x List.mem_cons_self hp) (ha x List.mem_cons_self hp) (hk1 x List.mem_cons_self) ?_
      rw [hk x List.mem_cons_self]
      exact lc2_go f f1 p p1 inner e v s2 s5 s6 hc Q it1 l _ (by rw [List.length_append, List.length_map, List.length_map]; omega) (tl hb) (tl ht) (tl hi) (tl hs) (tl hb1) (tl ht1) (tl ha) (tl hk1) (tl hk) q
    | false =>
      rw [List.filter_cons_of_neg (by rw [hp]; exact Bool.false_ne_true)] at hl q
      refine iteF ?_
      rw [hk x List.mem_cons_self]
      exact lc2_go f f1 p p1 inner e v s2 s5 s6 hc Q it1 l _ hl (tl hb) (tl ht) (tl hi) (tl hs) (tl hb1) (tl ht1) (tl ha) (tl hk1) (tl hk) q
theorem ev_lc2 {α β γ : Type} (f : α → PyData) (f1 : β → PyData) (p : α → Bool) (p1 : α → β → Bool) (inner : α → List β) (e : γ → PyData) (v : α → β → γ) (s2 : α → AS) (s5 s6 : α → β → AS) (it1 : α → AIt) {l : List α} {it : AIt} {ai ai1 : AI} {b b1 : AB} {t t1 : AT} {a : AE} {vs vs1 : List Nat} (hi0 : IV ai s it s1) (hl : ((l.filter p).flatMap fun x => (inner x).filter (p1 x)).length ≤ sizeLine) (hit : it.its = l.map f) (hc : it.chk s1)
    (hb : ∀ x ∈ l, BV b (f x) (s1.wipe vs) (s2 x)) (ht : ∀ x ∈ l, TV t (s2 x) (p x) (s2 x)) (hi : ∀ x ∈ l, p x = true → IV ai1 (s2 x) (it1 x) (s2 x)) (hs : ∀ x ∈ l, p x = true → (it1 x).its = (inner x).map f1 ∧ (it1 x).chk (s2 x))
    (hb1 : ∀ x ∈ l, p x = true → ∀ y ∈ inner x, BV b1 (f1 y) ((s2 x).wipe vs1) (s5 x y)) (ht1 : ∀ x ∈ l, p x = true → ∀ y ∈ inner x, TV t1 (s5 x y) (p1 x y) (s5 x y)) (ha : ∀ x ∈ l, p x = true → ∀ y ∈ inner x, p1 x y = true → EV a (s5 x y) (e (v x y)) (s6 x y))
    (hk1 : ∀ x ∈ l, ∀ y ∈ inner x, back vs1 (s2 x) (s5 x y) = s2 x ∧ back vs1 (s2 x) (s6 x y) = s2 x) (hk : ∀ x ∈ l, back vs s1 (s2 x) = s1) :
    EV (aLc2 ai b t ai1 b1 t1 a vs vs1) s (eL e ((l.filter p).flatMap fun x => ((inner x).filter (p1 x)).map (v x))) s1 := fun xp Q q => hi0 xp _ (by
  rw [hit]
  exact lc2_go f f1 p p1 inner e v s2 s5 s6 hc Q it1 l [] (by simpa using hl) hb ht hi hs hb1 ht1 ha hk1 hk q)
end
/-! min and max -/
end TR
namespace TR
open PySem PySem.Spec PyProof.Rows L2
/-! ### defs that draw: native weakest preconditions -/
section
variable {s s1 : AS} {xp : XP} {D : AEnds} {d e : PyData}
theorem ov_deck (i : Nat) (h : s.sl[i]? = some (some .deck)) : OV (oVar i) s .deck s := fun _ _ q => by
  unfold oVar; rw [h]; exact q
theorem g_ev {a : AE} {s' : AS} {Q : PyData → AS → Prop} (h : EV a s d s') (q : Q d s') : a xp s Q := h xp _ q
theorem g_ov {a : AO} {o : Op} {s' : AS} {Q : Op → AS → Prop} (h : OV a s o s') (q : Q o s') : a xp s Q := h xp _ q
theorem g_tv {a : AT} {b : Bool} {s' : AS} {Q : Bool → AS → Prop} (h : TV a s b s') (q : Q b s') : a xp s Q := h xp _ q
theorem g_lnil {Q : List Op → AS → Prop} (h : Q [] s) : lNil xp s Q := h
theorem g_lcons {a : AO} {r : AA} {Q : List Op → AS → Prop} (h : a xp s fun o s1 => r xp s1 fun os s2 => Q (o :: os) s2) : lCons a r xp s Q := h
theorem g_V {a : AE} {Q : Op → AS → Prop} (h : a xp s fun d s' => Q (.val d) s') : oV a xp s Q := h
theorem g_call {ms : List Md} {F : AF} {aa : AA} {Q : PyData → AS → Prop} (h : aa xp s fun os s1 => rm ms s1 os fun ds => F ds s1.n (fun r n => Q r { s1 with n := n }) fun _ _ => False) : aCall ms (calm F) aa xp s Q := h
theorem g_rm {ms : List Md} {os : List Op} {ds : List PyData} {k : List PyData → Prop} (hr : ∀ k : List PyData → Prop, k ds → rm ms s os k) (h : k ds) : rm ms s os k := hr _ h
theorem g_rv {os : List Op} {ds : List PyData} {k : List PyData → Prop} (hr : ∀ k : List PyData → Prop, k ds → rv os k) (h : k ds) : rv os k := hr _ h
theorem g_a2 {f : PyData → PyData → (PyData → Prop) → Prop} {aa ab : AO} {Q : PyData → AS → Prop} (h : aa xp s fun o1 s1 => ab xp s1 fun o2 s2 => rs s2 o1 fun d1 => rs s2 o2 fun d2 => f d1 d2 fun d => Q d s2) : a2 f aa ab xp s Q := h
theorem g_op {f : PyData → PyData → (PyData → Prop) → Prop} {o1 o2 : Op} {r : PyData} {Q : PyData → Prop} (h1 : res s o1 = some d) (h2 : res s o2 = some e) (hf : VF f d e r) (h : Q r) : rs s o1 fun d1 => rs s o2 fun d2 => f d1 d2 Q := rs_of h1 (rs_of h2 (hf _ h))
theorem g_lst {aa : AA} {Q : PyData → AS → Prop} (h : aa xp s fun os s1 => rv os fun ds => ds.length ≤ sizeLine ∧ Q (.list ds) s1) : aLst aa xp s Q := h
theorem g_sz {ds : List PyData} (hl : Nat.ble ds.length 1000 = true) : ds.length ≤ sizeLine := lim (Nat.le_of_ble_eq_true hl)
theorem g_ite {c : Bool} {A B : Prop} (h1 : c = true → A) (h2 : c = false → B) : if c = true then A else B := by
  cases c with
  | true => exact iteT (h1 rfl)
  | false => exact iteF (h2 rfl)
/-! statements -/
theorem s_set {i : Nat} {a : AE} (h : a xp s fun d s1 => D.nx (s1.set i (.dat d))) : sSet i a xp D s := h
theorem s_ret {a : AE} (h : a xp s fun d s1 => D.rt d s1.n) : sRet a xp D s := h
theorem s_if {t : AT} {a' b' : AST} (h : t xp s fun c s1 => if c = true then a' xp D s1 else b' xp D s1) : sIf t a' b' xp D s := h
end
/-! loops -/
def forW {α σ : Type} (body : (σ → Nat → Prop) → α → σ → Nat → Prop) (after : σ → Nat → Prop) : List α → σ → Nat → Prop
  | [], w, n => after w n
  | x :: l, w, n => body (fun w' n' => forW body after l w' n') x w n
theorem forW_ok {α σ : Type} {b : AB} {body : AST} {xp : XP} {D : AEnds} (f : α → PyData) (Inv : σ → Nat → AS → Prop) {bW : (σ → Nat → Prop) → α → σ → Nat → Prop} {aW : σ → Nat → Prop}
    (hb : ∀ x w n s k (N : AS → Prop), Inv w n s → bW k x w n → (∀ w' n' s', Inv w' n' s' → k w' n' → N s') → b (f x) s fun s1 => body xp { D with nx := N, ct := N, bk := D.nx } s1)
    (ha : ∀ w n s, Inv w n s → aW w n → D.nx s) : ∀ (l : List α) (w : σ) (n : Nat) (s : AS), Inv w n s → forW bW aW l w n → forL b body xp D (l.map f) s
  | [], w, n, s, i, c => ha w n s i c
  | x :: l, w, n, s, i, c => hb x w n s _ _ i c fun w' n' s' i' c' => forW_ok f Inv hb ha l w' n' s' i' c'
theorem s_for {α σ : Type} {ai : AI} {b : AB} {body : AST} {xp : XP} {D : AEnds} {s s1 : AS} {n : Nat} (f : α → PyData) (Inv : σ → Nat → AS → Prop) {l : List α} {w : σ} {bW : (σ → Nat → Prop) → α → σ → Nat → Prop} {aW : σ → Nat → Prop} (hi : IV ai s (.fix (l.map f)) s1) (hw : Inv w n s1) (hW : forW bW aW l w n)
    (hb : ∀ x w n s k (N : AS → Prop), Inv w n s → bW k x w n → (∀ w' n' s', Inv w' n' s' → k w' n' → N s') → b (f x) s fun s1 => body xp { D with nx := N, ct := N, bk := D.nx } s1)
    (ha : ∀ w n s, Inv w n s → aW w n → D.nx s) : sFor ai b body xp D s := hi xp _ (forW_ok f Inv hb ha l w n s1 hw hW)
/-- a draw -/
def w__law_next (m : Int) (n : Nat) (K : Int → Nat → Prop) : Prop := n ≤ 1000000 ∧ 0 < m ∧ m ≤ 400000000000000 ∧ ∀ r, 0 ≤ r → r < m → K r (n + 1)
end TR
namespace TR
open PySem PySem.Spec PyProof.Rows L2
theorem n_st {D : AEnds} {s s' : AS} (e : s = s') (h : D.nx s') : D.nx s := e ▸ h
theorem fv_repr {d : PyData} (h : Shw d) : FV fRepr [d] (.str d.shown) := fun _ q => ⟨h, q⟩
end TR
namespace TR
open PySem PySem.Spec PyProof.Rows L2
/-! ### enumerate, count; the exception as an argument -/
def enN {α : Type} (l : List α) : List (Int × α) := l.zipIdx.map fun p => (((p.2 : Nat) : Int), p.1)
theorem enN_map {α : Type} (f : α → PyData) (l : List α) : enD (l.map f) = (enN l).map (eP PyData.int f) := by
  unfold enD enN
  rw [List.zipIdx_map, List.map_map, List.map_map]
  rfl
section
variable {s s1 s2 : AS} {d e : PyData}
theorem iv_enL {α : Type} {f : α → PyData} {l : List α} {a : AE} (h : EV a s (eL f l) s1) : IV (iEnL a) s (.fix ((enN l).map (eP PyData.int f))) s1 := fun xp _ q => h xp _ (by
  show _
  dsimp only
  rw [enN_map]; exact q)
end
end TR
namespace TR
open PySem PySem.Spec PyProof.Rows L2
theorem shp {k : Nat} {d : PyData} (h : Sd k d) (hk : Nat.ble k 64 = true) : SeqAt.shaped d = true := by
  show (d.canLay0 && decide (d.depth ≤ 64)) = true
  rw [h.1, decide_eq_true (Nat.le_trans h.2 (Nat.le_of_ble_eq_true hk))]
  rfl
end TR
namespace TR
open PySem PySem.Spec PyProof.Rows L2
theorem s_forV {a : AE} {b : AB} {body : AST} {xp : XP} {D : AEnds} {s : AS} (h : a xp s fun d s1 => match (Op.val d : Op) with
  | .val (.list L) => forL b body xp D L s1
  | .val (.tuple L) => forL b body xp D L s1
  | _ => False) : sFor (iSeq (oV a)) b body xp D s := by
  unfold sFor iSeq oV
  have e : (fun d s1 => match (Op.val d : Op) with
    | .val (.list L) => forL b body xp D L s1
    | .val (.tuple L) => forL b body xp D L s1
    | _ => False) = fun d s' => (match (Op.val d : Op) with
    | .val (.list L) => (match (AIt.fix L) with | .fix L => forL b body xp D L s' | .slt _ _ => False)
    | .val (.tuple L) => (match (AIt.fix L) with | .fix L => forL b body xp D L s' | .slt _ _ => False)
    | .slot i => (match res s' (.slot i) with
      | some (.list L) => (match (AIt.slt i (.list L)) with | .fix L => forL b body xp D L s' | .slt _ _ => False)
      | some (.tuple L) => (match (AIt.slt i (.tuple L)) with | .fix L => forL b body xp D L s' | .slt _ _ => False)
      | _ => False)
    | _ => False) := by
    funext d s1
    cases d <;> rfl
  rw [e] at h
  exact h
end TR
namespace TR
open PySem PySem.Spec PyProof.Rows L2
theorem emp_map {α : Type} (f : α → PyData) (l : List α) : (l.map f).isEmpty = l.isEmpty := by cases l <;> rfl
section
variable {α β : Type} {f : α → PyData} {g : β → PyData} {l : List α} {d : PyData}
theorem vf_neEQ : VF vNeE (eQ f l) (eQ g []) (.bool (!l.isEmpty)) := fun Q q => (emp_map f l ▸ q : Q (.bool (!(l.map f).isEmpty)))
end
end TR
namespace TR
open PySem PySem.Spec PyProof.Rows L2
/-! ### min of two; max by len -/
end TR
namespace TR
open PySem PySem.Spec PyProof.Rows L2
/-! ### while, by fuel -/
instance : Inhabited XN := ⟨⟨0, none⟩⟩
/-! ### two calls that may raise, in the ways of an if -/
def mapX {α β : Type} (f : α → β) : Except XN α → Except XN β
  | .ok r => .ok (f r)
  | .error x => .error x
theorem PFx.map {α : Type} {cc : Nat → Addr} {F : AF} {ds : List PyData} {f : α → PyData} {v : Except XN α} (h : PFx cc F ds f v) : PFx cc F ds eD (mapX f v) := fun n Q X q => h n Q X (by
  cases v with
  | ok r => exact q
  | error x => exact q)
section
variable {cc : Nat → Addr} {s s1 s2 : AS} {d e r : PyData} {i : Nat} {xp : XP} {D : AEnds} {x : XN}
/-! ### draws: walks of a range whose end is drawn -/
/-! ### draws in the condition of a comprehension -/
end
end TR
namespace TR
open PySem PySem.Spec PyProof.Rows L2
/-! ### zip, native -/
section
variable {s s1 : AS}
end
end TR
namespace TR
open PySem PySem.Spec PyProof.Rows L2
end TR
namespace TR
open PySem PySem.Spec PyProof.Rows L2
end TR
namespace TR
open PySem PySem.Spec PyProof.Rows L2
/-! ### a, b, c = x, y, z: plain locals -/
section
variable {X : Cx} {Ec : EC}
end
end TR
namespace TR
open PySem PySem.Spec PyProof.Rows L2
end TR
namespace TR
open PySem PySem.Spec PyProof.Rows L2
end TR
namespace TR
open PySem PySem.Spec PyProof.Rows L2
/-! ### x[i] = v, x a list that is built here; len(set(x)), x ints without repeats -/
section
variable {X : Cx} {Ec : EC}
end
/-! ### len(set(x)) -/
section
variable {X : Cx} {Ec : EC}
end
end TR
namespace TR
open PySem PySem.Spec PyProof.Rows L2
section
variable {s s1 s2 s3 : AS} {i : Nat} {xp : XP} {D : AEnds}
end
end TR
namespace TR
open PySem PySem.Spec PyProof.Rows L2
/-! ### sorted(set(l)), l a list of tuples of ints below 64, all of one length -/
abbrev tI (r : List Int) : PyData := .tuple (r.map PyData.int)
section
variable {X : Cx} {x y : Str} {p1 p2 c1 c2 : Pos} {e : Expr} {t : TA}
end
/-! native -/
def ddL : List (List Int) → List (List Int)
  | [] => []
  | x :: l => if x ∈ l then ddL l else x :: ddL l
theorem ddL_mem : ∀ {l : List (List Int)} {x : List Int}, x ∈ ddL l ↔ x ∈ l
  | [], x => Iff.rfl
  | y :: l, x => by
    unfold ddL
    by_cases h : y ∈ l
    · rw [if_pos h, ddL_mem (l := l), List.mem_cons]
      exact ⟨.inr, fun g => g.elim (fun e => e ▸ h) id⟩
    · rw [if_neg h, List.mem_cons, List.mem_cons, ddL_mem (l := l)]
theorem ddL_nodup : ∀ l : List (List Int), (ddL l).Nodup
  | [] => .nil
  | y :: l => by
    unfold ddL
    by_cases h : y ∈ l
    · rw [if_pos h]; exact ddL_nodup l
    · rw [if_neg h]; exact List.nodup_cons.mpr ⟨fun g => h (ddL_mem.mp g), ddL_nodup l⟩
theorem perm_nd : ∀ {a b : List (List Int)}, a.Nodup → b.Nodup → (∀ k, k ∈ a ↔ k ∈ b) → a.Perm b
  | [], [], _, _, _ => .nil
  | [], y :: b, _, _, h => absurd ((h y).mpr List.mem_cons_self) (by simp)
  | x :: a, b, ha, hb, h => by
    have hx : x ∈ b := (h x).mp List.mem_cons_self
    have ha' := List.nodup_cons.mp ha
    refine (List.Perm.cons x (perm_nd ha'.2 (hb.erase x) fun k => ?_)).trans (List.perm_cons_erase hx).symm
    rw [hb.mem_erase_iff]
    constructor
    · intro hk; exact ⟨fun e => ha'.1 (e ▸ hk), (h k).mp (List.mem_cons_of_mem _ hk)⟩
    · rintro ⟨ne, hk⟩
      exact ((List.mem_cons.mp ((h k).mpr hk)).resolve_left ne)
end TR
namespace TR
open PySem PySem.Spec PyProof.Rows L2
/-! ### len(set(x)), x ints, also with repeats; a walk of what a drawing call gives -/
section
variable {X : Cx} {Ec : EC}
end
section
variable {s s1 : AS}
end
/-! walks of drawn lists -/
end TR
namespace TR
open PySem PySem.Spec PyProof.Rows L2
/-! ### l[::-1], l a list -/
section
variable {X : Cx}
end
section
variable {s s1 : AS}
end
end TR
namespace TR
open PySem PySem.Spec PyProof.Rows L2
/-- x in l, for items that are no ints -/
def memB {α : Type} [DecidableEq α] (a : α) (l : List α) : Bool := decide (a ∈ l)
theorem memB_iff {α : Type} [DecidableEq α] {a : α} {l : List α} : memB a l = true ↔ a ∈ l := decide_eq_true_iff
end TR
namespace TR
open PySem PySem.Spec PyProof.Rows L2
/-! ### dicts with int keys that are built, native; list.index -/
section
variable {s s1 s2 : AS}
end
end TR
namespace TR
open PySem PySem.Spec PyProof.Rows L2
/-! ### first, *rest = a list -/
section
variable {X : Cx}
end
section
variable {X : Cx} {Ec : EC}
end
section
variable {s s1 : AS}
end
end TR
namespace TR
open PySem PySem.Spec PyProof.Rows L2
/-! ### sorted(d.values()), d a dict that is built here -/
section
variable {X : Cx}
end
section
variable {X : Cx} {Ec : EC}
end
section
variable {s : AS}
end
end TR
namespace TR
open PySem PySem.Spec PyProof.Rows L2
/-! ### sets of pairs of truth values, few of them -/
abbrev IsB (P : Program) (w : World) (h : Heap) (k : List Bool) (a : Addr) : Prop := IsTupleKey (PpSet.boolK P w) h k a
abbrev bhs (k : List Bool) : Int := reduceHash (Builtin.Tuple.tupleHashOf (k.map PpSet.hB))
section
variable {P : Program} {w : World} {A : Around} {E : Value → Shared → Prop} {s : Shared}
end
/-- the set at a has these pairs, at most four -/
structure FewB (P : Program) (w : World) (h : Heap) (a : Addr) (L : List (Addr × List Bool)) (es : Array (Int × Value)) (ep : Nat) (t : SetTable) : Prop where
  obj : ∃ o, h.get? a = some o ∧ o.ExactSet ∧ o.data = .set es ep t
  row : es.toList = L.map fun p => (bhs p.2, Value.ref p.1)
  tbo : TabOk t (L.map fun p => bhs p.2)
  dis : (L.map (·.2)).Nodup
  tps : ∀ p ∈ L, IsB P w h p.2 p.1 ∧ p.2.length = 2
  pln : t.plain = true
  ldd : w.params.followText "set-order" = true ∨ t.led = true
  msk : t.mask = 7
  few : L.length ≤ 4
section
variable {P : Program} {w : World} {A : Around} {E : Value → Shared → Prop} {s : Shared} {a : Addr} {L : List (Addr × List Bool)} {es : Array (Int × Value)} {ep : Nat} {t : SetTable}
theorem FewB.size (R : FewB P w s.heap a L es ep t) : es.size = L.length := by
  have := congrArg List.length R.row
  rwa [Array.length_toList, List.length_map] at this
theorem FewB.at (R : FewB P w s.heap a L es ep t) {i : Nat} {p : Addr × List Bool} (h : L[i]? = some p) : es[i]? = some (bhs p.2, Value.ref p.1) := by
  rw [← Array.getElem?_toList, R.row, List.getElem?_map, h]; rfl
theorem FewB.stands (R : FewB P w s.heap a L es ep t) : ¬ t.gaveWay = true := by
  unfold SetTable.gaveWay
  rw [R.msk]
  decide
theorem FewB.keep {h h' : Heap} (R : FewB P w h a L es ep t) (k : ∀ b o, h.get? b = some o → h'.get? b = some o) : FewB P w h' a L es ep t :=
  have ⟨o, ho, r⟩ := R.obj
  ⟨⟨o, k _ _ ho, r⟩, R.row, R.tbo, R.dis, fun p hp => ⟨have ⟨u, its, n, hu, q⟩ := (R.tps p hp).1; ⟨u, its, n, k _ _ hu, q⟩, (R.tps p hp).2⟩, R.pln, R.ldd, R.msk, R.few⟩
end
end TR
namespace TR
open PySem PySem.Spec PyProof.Rows L2
/-! ### set(l), l a list of at most four pairs of truth values -/
structure GotB (ks : List (Addr × List Bool)) (i : Nat) (L : List (Addr × List Bool)) : Prop where
  mem : ∀ k, k ∈ L.map (·.2) ↔ k ∈ (ks.take i).map (·.2)
  len : L.length ≤ i
  sub : ∀ p ∈ L, p ∈ ks
section
variable {P : Program} {w : World} {A : Around} {E : Value → Shared → Prop}
end
end TR
namespace TR
open PySem PySem.Spec PyProof.Rows L2
/-! ### list(zip(a, b)): the pairs are kept, so zip makes a new one each time -/
structure ZL (z TI TO i1 i2 l1 l2 S : Addr) (xs ys : Array Value) (i : Nat) (h : Heap) : Prop where
  ti : IsPair h TI (.ref i1) (.ref i2)
  a : h.IsListIter i1 l1 i
  b : h.IsListIter i2 l2 i
  la : h.IsList l1 xs
  lb : h.IsList l2 ys
  zz : (IsZip h z TI TO .none ∧ ∃ a b, IsPair h TO a b) ∨ ∃ T f oT, IsZipHeld h z TI TO T f ∧ h.get? T = some oT ∧ T ≠ z ∧ T ≠ i1 ∧ T ≠ i2 ∧ T ≠ S
  to : ∃ o, h.get? TO = some o
section
variable {P : Program} {w : World} {A : Around}
end
end TR
namespace TR
open PySem PySem.Spec PyProof.Rows L2
/-! ### len(set(list(zip(a, b)))), a and b lists of at most four truth values -/
abbrev tw (p : Bool × Bool) : List Bool := [p.1, p.2]
section
variable {P : Program} {w : World} {A : Around} {E : Value → Shared → Prop} {s : Shared}
end
section
variable {X : Cx}
end
section
variable {X : Cx} {Ec : EC}
end
section
variable {s s1 : AS}
end
end TR
namespace TR
open PySem PySem.Spec PyProof.Rows L2
/-! ### len({(a, b) for x in l}), the pairs truth values, at most four turns; the set itself is never tracked -/
abbrev BP := Addr × (Bool × Bool)
abbrev keyBP (p : BP) : Addr × List Bool := (p.1, tw p.2)
def SeenB (H : Hp) (ps : List BP) : Prop := ∀ p ∈ ps, TF H p.1 [V.bl p.2.1, V.bl p.2.2]
/-- the set at D has just these pairs -/
def SetIn (P : Program) (w : World) (D : Addr) (ps : List BP) (h : Heap) : Prop := ∃ L es ep t, FewB P w h D L es ep t ∧ GotB (ps.map keyBP) ps.length L
section
variable {P : Program} {w : World} {A : Around} {E : Value → Shared → Prop} {s : Shared}
theorem isB_tup {H : Hp} {h : Heap} {a : Addr} {b c : Bool} (hok : HOk P w H h) (t : TF H a [V.bl b, V.bl c]) : IsB P w h [b, c] a := by
  obtain ⟨_, _, e⟩ := t
  obtain ⟨_, _, its, rv, ob, hb, hc, n, hd⟩ := hok a _ e
  cases rv with
  | cons r1 rr =>
    cases rr with
    | cons r2 rr =>
      cases rr
      cases r1
      cases r2
      exact ⟨_, _, _, hb, hc, hd, .cons (PpSet.boolK_is _ _ _) (.cons (PpSet.boolK_is _ _ _) .nil)⟩
end
end TR
namespace TR
open PySem PySem.Spec PyProof.Rows L2
section
variable {X : Cx}
abbrev setObj (w : World) : Obj := { cls := .type "set", dict := none, data := .set #[] 0 (.fresh 0 0 (!w.params.followText "set-order")) }
/-- the set stays as long as its object does and what is in it is tracked -/
theorem SetIn.move {D : Addr} {ps : List BP} {H : Hp} {h h' : Heap} {P : Program} {w : World} (st : SetIn P w D ps h) (hD : ∀ o, h.get? D = some o → h'.get? D = some o) (seen : SeenB H ps) (hok : HOk P w H h') : SetIn P w D ps h' := by
  obtain ⟨L, es, ep, t, R, g⟩ := st
  obtain ⟨o, ho, r⟩ := R.obj
  refine ⟨L, es, ep, t, ⟨⟨o, hD o ho, r⟩, R.row, R.tbo, R.dis, fun p hp => ?_, R.pln, R.ldd, R.msk, R.few⟩, g⟩
  obtain ⟨q, hq, rfl⟩ := List.mem_map.mp (g.sub p hp)
  exact ⟨isB_tup hok (seen q hq), rfl⟩
theorem SetIn.obj {D : Addr} {ps : List BP} {h : Heap} {P : Program} {w : World} (st : SetIn P w D ps h) : ∃ o, h.get? D = some o ∧ ∀ v, o.data ≠ .cell v := by
  obtain ⟨L, es, ep, t, R, g⟩ := st
  obtain ⟨o, ho, _, hd⟩ := R.obj
  exact ⟨o, ho, fun v e => by rw [hd] at e; cases e⟩
end
end TR
namespace TR
open PySem PySem.Spec PyProof.Rows L2
section
variable {X : Cx} {Ec : EC}
end
end TR
namespace TR
open PySem PySem.Spec PyProof.Rows L2
section
variable {s s1 : AS}
end
end TR
namespace TR
open PySem PySem.Spec PyProof.Rows L2
/-! ### a tuple of any shape, turned round -/
end TR
namespace TR
open PySem PySem.Spec
/-! ### == of any data with a text -/
end TR
namespace TR
open PySem PySem.Spec PyProof.Rows L2
end TR
namespace TR
open PySem PySem.Spec PyProof.Rows L2
/-! ### dicts whose keys are tuples of ints and truth values: the hand layer -/
section
variable {P : Program} {w : World}
/-- an item of a key -/
def leafV (i : Int) (v : V) : Prop := v = .int i ∨ ∃ b : Bool, v = .bl b ∧ i = if b = true then 1 else 0
def KAt (H : Hp) (k : List Int) (a : Addr) : Prop := ∃ xs, TF H a xs ∧ Paired leafV k xs
theorem KAt.same {H H' : Hp} {k : List Int} {a : Addr} (h : KAt H k a) (s : Same H H') : KAt H' k a := let ⟨xs, t, p⟩ := h; ⟨xs, t.same s, p⟩
section
variable {X : Cx} {pins : List (Addr × Obj)} {σ : L2.St} {H : Hp} {s : Shared} {a : Addr}
end
section
variable {X : Cx} {o e f : Expr} {td ty tx : TE} {apos cpos : Pos}
end
end
end TR
namespace TR
open PySem PySem.Spec PyProof.Rows L2
/-! ### the layer of data -/
section
variable {X : Cx} {Ec : EC}
end
end TR
namespace TR
open PySem PySem.Spec PyProof.Rows L2
/-! ### the values of a dict with tuple keys -/
section
variable {X : Cx}
end
section
variable {X : Cx} {Ec : EC}
end
end TR
namespace TR
open PySem PySem.Spec PyProof.Rows L2
/-! ### dicts with tuple keys that are built, native -/
structure KeyE {κ : Type} (g : κ → PyData) : Prop where
  ex : ∀ x, ∃ k, keyT (g x) = some k
  inj : ∀ x y k, keyT (g x) = some k → keyT (g y) = some k → x = y
section
variable {s s1 s2 : AS}
end
end TR
namespace TR
open PySem PySem.Spec PyProof.Rows L2
/-! ### len(set(t)), t a tuple of ints -/
section
variable {X : Cx} {Ec : EC}
end
section
variable {s s1 : AS}
end
end TR
namespace TR
open PySem PySem.Spec PyProof.Rows L2
/-! ### any tuple + a tuple -/
end TR
namespace TR
open PySem PySem.Spec PyProof.Rows L2
/-! ### dicts with tuple keys whose values are lists of ints that are built -/
section
variable {Φ : Fx} {E : OE} {s : AS} {σ : L2.St} {H : Hp}
theorem RelS.other {i j : Nat} {a : Addr} {o u : HO} {x : AV} {v : V} (h2 : RelS Φ E H j x v) (ej : i ≠ j) (r : Rel Φ E s σ H) (m : (i, a) ∈ E.R) (e : H a = some o) (mo : Mu o) : RelS Φ E (upd H a u) j x v := by
  have ac : a ∈ chg E := List.mem_append_right _ (List.mem_map.mpr ⟨_, m, rfl⟩)
  have ab : a ∈ ban Φ E := List.mem_append_left _ ac
  obtain ⟨_, g1, g2, g3⟩ := r.own i a m
  have up : ∀ {b : Addr} {o : HO}, b ≠ a → H b = some o → upd H a u b = some o := fun h e => by rw [upd_ne h]; exact e
  cases x with
  | dat d => exact Rp.updl ab e (show Rp H (ban Φ E) d v from h2) mo
  | deck => exact h2
  | exc x =>
    obtain ⟨b, da, e1, e2, h3, h4⟩ := h2
    exact ⟨b, da, e1, e2, XRep.updl ab e h3 mo, h4⟩
  | own _ =>
    obtain ⟨b, zs, e1, m1, h3, h4⟩ := h2
    exact ⟨b, zs, e1, m1, up (fun z => ej (r.inj i j a m (z ▸ m1))) h3, RpAll.updl ab e h4 mo⟩
  | dct _ =>
    obtain ⟨b, ks, e1, m1, h3, h4⟩ := h2
    exact ⟨b, ks, e1, m1, up (fun z => ej (r.inj i j a m (z ▸ m1))) h3, h4.mono fun _ _ h => Rp.updl ab e h mo⟩
  | dcn _ =>
    obtain ⟨b, ks, e1, m1, h3, h4⟩ := h2
    exact ⟨b, ks, e1, m1, up (fun z => ej (r.inj i j a m (z ▸ m1))) h3, h4.mono fun _ _ h => Rp.updl ab e h mo⟩
  | dcl _ =>
    obtain ⟨b, ks, e1, m1, h3, hn, h4⟩ := h2
    exact ⟨b, ks, e1, m1, up (fun z => ej (r.inj i j a m (z ▸ m1))) h3, hn, h4.mono (fun _ _ h => Rp.updl ab e h mo) fun c _ m2 h => ⟨m2, up (fun z => ej (r.inj i j a m (z ▸ m2))) h⟩⟩
  | lck _ _ =>
    obtain ⟨b, e1, h3, h5, h4⟩ := h2
    exact ⟨b, e1, h3, h5, h4.mono (fun _ _ h => Rp.updl ab e h mo) fun _ _ h => up (fun z => h3 (by rw [z]; exact ab)) h⟩
  | bor _ =>
    rcases h2 with h2 | ⟨b, ds, zs, e1, e2, h3, h5, h6⟩
    · exact .inl (Rp.updl ab e h2 mo)
    · exact .inr ⟨b, ds, zs, e1, e2, up (fun z => g1 (z ▸ h5)) h3, h5, RpAll.updl ab e h6 mo⟩
end
section
variable {X : Cx} {Ec : EC}
end
end TR
namespace TR
open PySem PySem.Spec PyProof.Rows L2
/-! ### walks of dicts with tuple keys, locked the while -/
section
variable {X : Cx} {pins : List (Addr × Obj)} {σ : L2.St} {H : Hp} {s : Shared} {d : Addr} {o : Obj} {kvs : List (List Int × Addr × V)}
end
section
variable {P : Program} {w : World} {K : PySem.W.Frag} {tg : Expr} {d : Addr} {o : Obj} {es : Array DictEntry} {ep : Nat} {kvs : List (List Int × Addr × V)}
end
section
variable {X : Cx}
end
end TR
namespace TR
open PySem PySem.Spec PyProof.Rows L2
section
variable {X : Cx} {Ec : EC}
end
/-! native -/
section
variable {s s1 s2 : AS}
end
end TR
namespace TR
open PySem PySem.Spec PyProof.Rows L2
/-! ### min, max of a tuple -/
section
variable {X : Cx}
end
section
variable {s : AS}
end
end TR
namespace TR
open PySem PySem.Spec PyProof.Rows L2
/-! ### t.count(x), t a tuple -/
section
variable {X : Cx} {Ec : EC}
end
section
variable {s s1 s2 : AS}
end
end TR
namespace TR
open PySem PySem.Spec PyProof.Rows L2
/-! ### list(zip(a, b)), a and b tuples -/
section
variable {P : Program} {w : World} {A : Around} {E : Value → Shared → Prop} {s : Shared}
end
structure ZLT (z TI TO i1 i2 l1 l2 S : Addr) (xs ys : Array Value) (i : Nat) (h : Heap) : Prop where
  ti : IsPair h TI (.ref i1) (.ref i2)
  a : h.IsTupleIter i1 l1 i
  b : h.IsTupleIter i2 l2 i
  la : h.IsTuple l1 xs
  lb : h.IsTuple l2 ys
  zz : (IsZip h z TI TO .none ∧ ∃ a b, IsPair h TO a b) ∨ ∃ T f oT, IsZipHeld h z TI TO T f ∧ h.get? T = some oT ∧ T ≠ z ∧ T ≠ i1 ∧ T ≠ i2 ∧ T ≠ S
  to : ∃ o, h.get? TO = some o
section
variable {P : Program} {w : World} {A : Around}
end
end TR
namespace TR
open PySem PySem.Spec PyProof.Rows L2
/-! ### len(set(list(zip(a, b)))), a and b tuples of at most four truth values -/
section
variable {P : Program} {w : World} {A : Around} {E : Value → Shared → Prop} {s : Shared}
end
section
variable {X : Cx}
end
section
variable {X : Cx} {Ec : EC}
end
section
variable {s s1 : AS}
end
end TR
namespace TR
open PySem PySem.Spec PyProof.Rows L2 LamX
/-! ### a lambda: the function that is made, and its call -/
structure LF where
  qual : Str
  params : Arguments
  body : Expr
  scope : Scope
  cl : List (Str × Addr)
  c : Addr
abbrev LF.fd (F : LF) (pm ctv : Value) : FuncData := PySem.W.kla_fn "<lambda>" F.qual F.params F.body F.scope F.cl pm (.ref F.c) ctv
section
variable {X : Cx} {pins : List (Addr × Obj)} {σ : L2.St} {H : Hp} {s : Shared}
end
end TR
namespace TR
open PySem PySem.Spec PyProof.Rows L2 LamX
/-! ### sorted(t, key=f), t a tuple, f a lambda that gives an int -/
section
variable {X : Cx} {pins : List (Addr × Obj)} {σ : L2.St} {H : Hp} {s : Shared}
end
end TR
namespace TR
open PySem PySem.Spec PyProof.Rows L2 LamX
/-! ### sorted(data, key=lambda ..), as an expression -/
section
variable {Φ : Fx} {E : OE} {s : AS} {σ : L2.St} {H : Hp}
end
/-! the sorted data -/
section
variable {X : Cx} {Ec : EC} {T : List (Addr × Str)} {c P : Addr} {q : Str} {x pname : Str} {p pos lpos kpos : Pos} {e : Expr} {params : Arguments} {body : Expr} {scope : Scope} {N fr : List Str} {js : List Nat} {aa ab : AE} {K : Nat}
end
/-! natively -/
section
variable {s s1 : AS}
end
/-! a def that makes lambdas: its code object is known -/
section
variable {P : Program} {w : World} {K : PySem.W.Frag} {mg : Str → Option Value} {base : Heap}
end
end TR
namespace TR
open PySem PySem.Spec PyProof.Rows L2
/-! ### x *= y of ints -/
section
variable {X : Cx}
end
end TR
namespace TR
open PySem PySem.Spec PyProof.Rows L2 PpSet
/-! ### len(set(l)), l a list of at most 60 truth values -/
structure GotV (w : World) (h : Heap) (S : Addr) (bs : List Bool) (i : Nat) : Prop where
  ex : ∃ M n, SetB w h S M n ∧ n ≤ i ∧ ∀ k, M k = true ↔ k ∈ bs.take i
section
variable {P : Program} {w : World} {A : Around} {E : Value → Shared → Prop}
end
section
variable {X : Cx}
end
section
variable {X : Cx} {Ec : EC}
end
section
variable {s s1 : AS}
end
end TR
namespace TR
open PySem PySem.Spec PyProof.Rows L2
section
variable {s s1 s2 s3 : AS} {i : Nat} {xp : XP} {D : AEnds}
end
end TR
namespace TR
open PySem PySem.Spec PyProof.Rows L2
section
variable {prog : Program} {w : World} {A : Around} {E : Value → Shared → Prop} {s : Shared} {β : Type} {vs : List Value} {bs : List β} {enc : β → PyData} {R : Value → β → Prop}
end
section
variable {X : Cx}
end
end TR
namespace TR
open PySem PySem.Spec PyProof.Rows L2
/-! ### x or y, as a value, x drawn -/
end TR
namespace TR
open PySem PySem.Spec PyProof.Rows L2
section
variable {s s1 s2 : AS} {i : Nat}
end
end TR
namespace TR
open PySem PySem.Spec PyProof.Rows L2
/-! ### dict(list of pairs): int or text keys, none twice -/
section
variable {X : Cx} {Ec : EC}
end
/-! native -/
end TR
namespace TR
open PySem PySem.Spec PyProof.Rows L2
/-! ### a < b < c < d, as a test -/
section
variable {X : Cx}
end
section
variable {X : Cx} {Ec : EC}
end
end TR
namespace TR
open PySem PySem.Spec PyProof.Rows L2
/-! ### a dict that is built here, walked while it is read: [.. d[k] .. for k in d ..] -/
section
variable {Φ : Fx} {E : OE} {s : AS} {σ : L2.St} {H : Hp}
end
section
variable {X : Cx} {Ec : EC}
end
/-! natively -/
section
variable {s s1 s2 : AS}
end
end TR
namespace TR
open PySem PySem.Spec PyProof.Rows L2
section
variable {X : Cx} {Ec : EC}
/-! ### x = [.. for k in d ..], d locked the while -/
end
/-! d[k] = v natively -/
section
variable {s s1 s2 s3 : AS}
end
end TR
namespace TR
open PySem PySem.Spec PyProof.Rows L2
/-! ### max(list, default=d) -/
section
variable {X : Cx} {x nm : Str} {p pos kp : Pos} {e d : Expr} {te td : TE}
end
section
variable {X : Cx} {Ec : EC}
end
/-! natively -/
section
variable {s s1 s2 : AS}
end
end TR
namespace TR
open PySem PySem.Spec PyProof.Rows L2 LamX
/-! ### sorted(range(n), key=lambda ..) -/
section
variable {X : Cx} {pins : List (Addr × Obj)} {σ : L2.St} {H : Hp} {s : Shared}
end
section
variable {X : Cx} {Ec : EC} {T : List (Addr × Str)} {c P : Addr} {q : Str} {x pname : Str} {p pos lpos kpos : Pos} {e : Expr} {params : Arguments} {body : Expr} {scope : Scope} {N fr : List Str} {js : List Nat} {aa ab : AE} {K : Nat}
end
section
variable {s s1 : AS}
end
end TR
namespace TR
open PySem PySem.Spec PyProof.Rows L2
/-! ### a, b = new list, value; len of a pair -/
section
variable {s s1 s2 s3 : AS}
end
section
variable {s : AS} {xp : XP}
end
end TR
namespace TR
open PySem PySem.Spec PyProof.Rows L2
/-! ### the end of a law that shows by repr and makes a lambda: one code object c, its table at t -/
section
variable {P : Program} {w : World} {K : PySem.W.Frag} {mg mb : Str → Option Value} {s₁ : Shared} {a c t : Addr}
/-- the head's heap: the script's list at a, the empty table at t -/
structure GT (P : Program) (w : World) (K : PySem.W.Frag) (mg mb : Str → Option Value) (s₁ : Shared) (a c t : Addr) (vs : List Value) (ns : List Int) : Prop where
  kin : K.In s₁.heap
  g : s₁.heap.Ns mainGlobals mg
  b : s₁.heap.Ns builtinsNs mb
  bb : ∀ x : Str, x ≠ "__name__" → mb x = bootBuiltins x
  lim : s₁.heap.NoLimit
  gens : s₁.gens = #[]
  tab : s₁.heap.get? t = some { cls := .none, data := .fields #[] }
  tnk : K.lookup t = none
  code : PySem.W.codeHdIn K c t = true
  bm : ∃ (m : Addr) (o : Obj), mg "__builtins__" = some (.ref m) ∧ m ≠ builtinsNs ∧ s₁.heap.get? m = some o ∧ o.cls = .type "module" ∧ o.dict = some builtinsNs ∧ o.data = .plain
  lst : s₁.heap.get? a = some { cls := .type "list", data := .seq vs.toArray }
  nums : IntsAre vs ns
  few : ns.length ≤ sizeLine
/-- what may be tracked: the script (where the written part has it not) and the table -/
structure GH (P : Program) (w : World) (K : PySem.W.Frag) (s₁ : Shared) (a t : Addr) (H : Hp) : Prop where
  tb : H t = some (.tbl #[])
  ok : HOk P w H s₁.heap
  el : ∀ b, H b ≠ none → b = t ∨ b = a ∧ K.lookup a = none ∧ ∃ o xs, H b = some (.frz o (.lst xs))
theorem GH.base {P : Program} {w : World} {H : Hp} {vs : List Value} {ns : List Int} (G : GT P w K mg mb s₁ a c t vs ns) (J : GH P w K s₁ a t H) : Env0 P w K mg (hidT s₁.heap H) callerA [] s₁ H ∧ LamX.TabB (hidT s₁.heap H) mg c t := by
  -- objects that are neither a list nor a table stay in sight
  have see : ∀ {b : Addr} {o : Obj}, s₁.heap.get? b = some o → (b = a → False) → (b = t → False) → (hidT s₁.heap H).get? b = some o := fun {b o} e na nt => by
    refine hidT_get e ?_
    cases q : H b with
    | none => rfl
    | some u => rcases J.el b (by rw [q]; simp) with z | z
                · exact (nt z).elim
                · exact (na z.1).elim
  have dict_ne : ∀ {b : Addr} {o : Obj} {es : Array DictEntry} {ep : Nat}, s₁.heap.get? b = some o → o.data = .dict es ep → (b = a → False) ∧ (b = t → False) := fun {b o es ep} e d => by
    constructor
    · intro z; rw [z, G.lst] at e; cases e; cases d
    · intro z; rw [z, G.tab] at e; cases e; cases d
  have plain_ne : ∀ {b : Addr} {o : Obj}, s₁.heap.get? b = some o → o.data = .plain → (b = a → False) ∧ (b = t → False) := fun {b o} e d => by
    constructor
    · intro z; rw [z, G.lst] at e; cases e; cases d
    · intro z; rw [z, G.tab] at e; cases e; cases d
  have ns_see : ∀ {b : Addr} {m : Str → Option Value}, s₁.heap.Ns b m → (hidT s₁.heap H).Ns b m := fun {b m} h => by
    obtain ⟨o, es, ep, e, d, r⟩ := h
    exact ⟨o, es, ep, see e (dict_ne e d).1 (dict_ne e d).2, d, r⟩
  have kin : K.In (hidT s₁.heap H) := fun b o e => by
    refine hidT_get (G.kin b o e) ?_
    cases q : H b with
    | none => rfl
    | some u =>
      rcases J.el b (by rw [q]; simp) with z | ⟨z, n, _⟩
      · rw [z, G.tnk] at e; cases e
      · rw [z, n] at e; cases e
  have bm : (hidT s₁.heap H).BuiltinsAt mg t := by
    obtain ⟨m, o, m1, m2, m3, m4, m5, m6⟩ := G.bm
    have pn := plain_ne m3 m6
    refine ⟨m, o, m1, m2, fun z => ?_, fun z => pn.2 z, see m3 pn.1 pn.2, m4, m5, m6⟩
    obtain ⟨o', es, ep, e, d, _⟩ := G.g
    rw [z, e] at m3
    cases m3
    rw [d] at m6
    cases m6
  obtain ⟨mc, l1, l2⟩ := G.lim
  have nt : mainGlobals ≠ t := fun z => by
    obtain ⟨o, es, ep, e, d, _⟩ := G.g
    exact (dict_ne e d).2 z
  exact ⟨⟨rfl, ⟨kin, ns_see G.g, ⟨mb, ns_see G.b, G.bb⟩, ⟨mc, ns_see l1, l2⟩⟩, fun b o e => of_hidT e, Nat.le_of_eq (hidT_size _ _), trivial, fun b hb => absurd (show b ∈ ([] : List Addr) from hb) (by simp), J.ok, .of_eq G.gens⟩, ⟨PySem.W.codeHd_of_K kin G.code, bm, nt⟩⟩
/-- the heap of what is tracked -/
theorem GT.hp {vs : List Value} {ns : List Int} (G : GT P w K mg mb s₁ a c t vs ns) : ∃ H : Hp, GH P w K s₁ a t H ∧ SqL K H a (ns.map V.int) := by
  have rv := vals_ints G.nums
  have lv := G.nums.length
  have nat_ : a ≠ t := fun z => by have e := G.lst; rw [z, G.tab] at e; cases e
  cases hk : K.lookup a with
  | some o =>
    have e := G.kin a o hk
    rw [G.lst] at e
    cases e
    refine ⟨fun b => if b = t then some (.tbl #[]) else none, ⟨if_pos rfl, fun b u z => ?_, fun b z => ?_⟩, .inr ⟨_, vs.toArray, _, hk, rfl, rfl, rfl, by rw [List.size_toArray, lv]; exact G.few, by simpa using rv⟩⟩
    · by_cases h : b = t
      · cases (if_pos h).symm.trans z
        rw [h]
        exact G.tab
      · cases (if_neg h).symm.trans z
    · exact .inl (Decidable.by_contra fun h => z (if_neg h))
  | none =>
    refine ⟨fun b => if b = t then some (.tbl #[]) else if b = a then some (.frz { cls := .type "list", data := .seq vs.toArray } (.lst (ns.map V.int))) else none, ⟨if_pos rfl, fun b u z => ?_, fun b z => ?_⟩, .inl (.inr ⟨{ cls := .type "list", data := .seq vs.toArray }, (if_neg nat_).trans (if_pos rfl)⟩)⟩
    · by_cases h : b = t
      · cases (if_pos h).symm.trans z
        rw [h]
        exact G.tab
      · have z1 := (if_neg h).symm.trans z
        by_cases h2 : b = a
        · cases (if_pos h2).symm.trans z1
          subst h2
          exact ⟨G.lst, by rw [List.length_map]; exact G.few, vs, _, rv, G.lst⟩
        · cases (if_neg h2).symm.trans z1
    · by_cases h : b = t
      · exact .inl h
      · by_cases h2 : b = a
        · exact .inr ⟨h2, hk, _, _, (if_neg h).trans (if_pos h2)⟩
        · exact absurd ((if_neg h).trans (if_neg h2)) z
end
end TR
namespace TR
open PySem PySem.Spec PyProof.Rows L2
/-! x[i] = v where v is drawn -/
section
variable {s s1 s2 s3 : AS} {i : Nat} {xp : XP} {D : AEnds} {av ai : AE}
end
end TR
namespace TR
open PySem PySem.Spec PyProof.Rows L2
/-! ### tuple * int, from 0 on -/
section
variable {X : Cx} {Ec : EC}
end
/-! natively -/
end TR
namespace TR
open PySem PySem.Spec PyProof.Rows L2
/-! x[lo:hi] where x is drawn -/
section
variable {s s1 s2 s3 : AS} {xp : XP} {o : Op}
end
end TR
namespace TR
open PySem PySem.Spec PyProof.Rows L2
/-! ### x[a], x[b] = .., .., x a list that is built here; [.., *t, ..] -/
section
variable {X : Cx} {Ec : EC}
end
section
variable {s s1 s2 : AS} {xp : XP} {D : AEnds} {i j k : Nat}
end
end TR
namespace TR
open PySem PySem.Spec PyProof.Rows L2
/-! ### [.., *t, ..] as a native value -/
section
variable {s s1 s2 : AS} {α : Type} {f : α → PyData}
end
end TR
namespace TR
open PySem PySem.Spec PyProof.Rows L2 HotX
/-! ### iterators end while an exception is handled -/
section
variable {prog : Program} {w : World} {A : Around} {E : Value → Shared → Prop} {s : Shared}
/-! a tuple unpacked -/
end
end TR
namespace TR
open PySem PySem.Spec PyProof.Rows L2 HotX
/-! ### contexts within which an exception is handled -/
/-- the handled exception stands: pinned, or since the context's entry -/
structure HotB (X : Cx) : Prop where
  ex : ∃ p : Addr × Obj, L2H.Hot1 X.A p ∧ (p ∈ X.pn ∨ (X.s_0.heap.get? p.1 = some p.2 ∧ X.H_0 p.1 = none ∧ p.1 ∉ X.fs ∧ p.1 ∉ X.ex))
section
variable {X : Cx} {pins : List (Addr × Obj)} {σ : L2.St} {H : Hp} {s : Shared}
theorem HotB.stand (c : HotB X) (I : Inv X pins σ H s) : ∃ p : Addr × Obj, L2H.Hot1 X.A p ∧ s.heap.get? p.1 = some p.2 ∧ H p.1 = none ∧ p.1 ∉ frs X.stack ∧ (∀ b G, FpOk X pins G b → b ≠ p.1) := by
  obtain ⟨p, h1, hp⟩ := c.ex
  rcases hp with hp | ⟨h2, h3, h4, h5⟩
  · obtain ⟨g1, g2, g3, g4, _⟩ := I.pin p (List.mem_append_left _ hp)
    refine ⟨p, h1, g1, g2, fun hm => ?_, fun b G hb e => hb.2.2.2.2.2 p (List.mem_append_left _ hp) e.symm⟩
    rcases List.mem_cons.mp (I.stkSub p.1 hm) with z | z
    · exact g3 z
    · exact g4 z
  have lt : p.1 < X.s_0.heap.objs.size := Heap.lt_size h2
  refine ⟨p, h1, I.base.keep _ _ h2 h3 h4 h5, I.base.free _ _ h2 h3 h5, fun hm => ?_, fun b G hb e => ?_⟩
  · rcases List.mem_cons.mp (I.stkSub p.1 hm) with z | z
    · have := I.ok.above
      exact absurd lt (by rw [z]; exact Nat.not_lt.mpr this)
    · exact h4 z
  · rcases hb.2.2.2.1 with z | z
    · exact h5 (e ▸ z)
    · exact absurd lt (by rw [← e]; exact Nat.not_lt.mpr z)
theorem HotB.at (c : HotB X) (I : Inv X pins σ H s) : ∃ x1, HotAt X.A x1 s.heap ∧ ∀ b G, FpOk X pins G b → b ≠ x1 := by
  obtain ⟨p, ⟨hh, vs, e1, c1⟩, g, _, _, k⟩ := c.stand I
  exact ⟨p.1, ⟨hh, p.2, vs, g, e1, c1⟩, k⟩
/-! turns -/
structure TurnB (P : Program) (w : World) (K : PySem.W.Frag) (tg : Expr) (J : It) (fp : List Addr) (it : Addr) (tn : Nat → Heap → Prop) : Prop where
  obj : ∀ i h, tn i h → ∀ b ∈ fp, ∃ o, h.get? b = some o ∧ ∀ v, o.data ≠ .cell v
  keep : ∀ i h h', tn i h → (∀ b ∈ fp, ∀ o, h.get? b = some o → h'.get? b = some o) → tn i h'
  item : ∀ (X : Cx), X.prog = P → X.w = w → X.K = K → HotB X → ∀ (i : Nat) (pins : List (Addr × Obj)) (s : Shared) (σ : L2.St) (H : Hp) (E : Value → Shared → Prop), Inv X pins σ H s → (∀ b ∈ fp, FpOk X pins H b) → tn i s.heap → J.go i H →
    wpAny (model P w) X.A (pyNext (.ref it)) (fun r s1 => ∃ u, r = some u ∧
      wpAny (model P w) X.A (letOwnedTupleGo tg (.ref it) u) (fun _ s2 => ∃ x H', Inv X pins σ H' s2 ∧ RelV x u ∧ J.yld i H x H' ∧ tn (i + 1) s2.heap ∧ ∀ b ∈ fp, H' b = none) E s1) E s
  done : ∀ (X : Cx), X.prog = P → X.w = w → X.K = K → HotB X → ∀ (i : Nat) (pins : List (Addr × Obj)) (s : Shared) (σ : L2.St) (H : Hp) (E : Value → Shared → Prop), Inv X pins σ H s → (∀ b ∈ fp, FpOk X pins H b) → tn i s.heap → J.stop i H →
    wpAny (model P w) X.A (pyNext (.ref it)) (fun r s1 => r = none ∧ Inv X pins σ H s1) E s
  self : ∀ (A : Around) (i : Nat) (s : Shared) (Q : Value → Shared → Prop) (E : Value → Shared → Prop), tn i s.heap → Q (.ref it) s → wpAny (model P w) A (pyIter (.ref it)) Q E s
def PIEB (X : Cx) (pins : List (Addr × Obj)) (σ : L2.St) (tg : Expr) (R : It → Hp → Prop) (itv : Value) (s2 : Shared) : Prop :=
  ∃ (it : Addr) (fp : List Addr) (tn : Nat → Heap → Prop) (J : It) (H' : Hp), itv = .ref it ∧ Inv X pins σ H' s2 ∧ TurnB X.prog X.w X.K tg J fp it tn ∧ tn 0 s2.heap ∧ (∀ b ∈ fp, FpOk X pins H' b) ∧ R J H'
structure PIB (X : Cx) (tg iter : Expr) (wi : TI) : Prop where
  run : ∀ (pins : List (Addr × Obj)) (s : Shared) (σ : L2.St) (H : Hp) (R : It → Hp → Prop), Inv X pins σ H s → wi σ H R →
    wpAny (model X.prog X.w) X.A (eval iter X.env) (fun v s1 => wpAny (model X.prog X.w) X.A (pyIter v) (PIEB X pins σ tg R) X.xe s1) X.xe s
theorem PIB.sub {tg e : Expr} {t t' : TI} (h : PIB X tg e t) (g : ∀ σ H R, t' σ H R → t σ H R) : PIB X tg e t' := ⟨fun pins s σ H R I q => h.run pins s σ H R I (g _ _ _ q)⟩
/-! by data -/
variable {Ec : EC}
end
end TR
namespace TR
open PySem PySem.Spec PyProof.Rows L2 HotX
/-! ### comprehensions and tuples unpacked within which an exception is handled -/
section
variable {X : Cx}
/-- the block bears it too -/
theorem HotB.blk {pins : List (Addr × Obj)} {σ : L2.St} {H : Hp} {s : Shared} {scope : Scope} {ce : Env} {fp : List Addr} (c : HotB X) (I : Inv X pins σ H s) (hf : ∀ b ∈ fp, FpOk X pins H b) : HotB (X.blk s H scope ce fp) := by
  obtain ⟨p, h1, h2, h3, h4, h5⟩ := c.stand I
  exact ⟨p, h1, .inr ⟨h2, h3, h4, fun m => h5 p.1 H (hf p.1 m) rfl⟩⟩
/-! by data -/
variable {Ec : EC}
end
end TR
namespace TR
open PySem PySem.Spec PyProof.Rows L2 HotX
/-! ### defs called within which an exception is handled -/
section
variable {P : Program} {w : World} {K : PySem.W.Frag} {mg : Str → Option Value} {base : Heap}
end
section
variable {X : Cx} {CX : CXT} {k : Nat} {f : Addr} {fd : FuncData} {ps : List Str} {sp : Sp} {E : L2.St → XK} {x : Str} {q pos : Pos} {e : Expr} {es : List Expr} {t : TA}
end
section
variable {X : Cx} {Ec : EC} {k : Nat} {f : Addr} {fd : FuncData} {ps : List Str} {ms : List Md} {F : AF} {x : Str} {p pos : Pos} {e : Expr} {es : List Expr} {aa : AA}
end
end TR
namespace TR
open PySem PySem.Spec PyProof.Rows L2 HotX
/-! ### sorted(set(t)), t a tuple of ints, while an exception is handled -/
section
variable {P : Program} {w : World} {A : Around} {E : Value → Shared → Prop} {s : Shared}
end
end TR
namespace TR
open PySem PySem.Spec PyProof.Rows L2 HotX
/-! ### a set walked while an exception is handled -/
section
variable {P : Program} {w : World} {A : Around} {E : Value → Shared → Prop} {s : Shared} {a it : Addr} {i ep : Nat} {es : Array (Int × Value)} {t : SetTable}
/-- how the iterator's place tells that nothing is left -/
inductive SiEnd (P : Program) (w : World) (s : Shared) (a : Addr) (es : Array (Int × Value)) (ep i : Nat) : Value → Prop
  | slot (sl : Nat) (h : ∀ (A' : Around) (E' : Value → Shared → Prop) (Q' : Option (Value × Nat) → Shared → Prop), Q' none s → wpAny (model P w) A' (setNext a sl i ep) Q' E' s) : SiEnd P w s a es ep i (.int (sl : Int) 0)
  | drawn (p : Addr) (ys : List Nat) (hp : s.heap.get? p = some { cls := .type "tuple", data := .seq (ys.map fun (k : Nat) => rawInt (k : Int)).toArray }) (hj : ys[i]? = none) : SiEnd P w s a es ep i (.ref p)
/-! the three ways a set is walked -/
variable {x1 : Addr} {o1 : Obj} {vs1 : Array Value}
/-- what iter(set) gives there -/
def SetItH (P : Program) (w : World) (s : Shared) (a x1 : Addr) (es : Array (Int × Value)) (s₂ : Shared) (I : Addr) : Prop :=
  ∃ (fp : List Addr) (St : Nat → Heap → Prop) (out : List Value) (Pv : Nat → Value → Prop), (∀ b o, s.heap.get? b = some o → s₂.heap.get? b = some o) ∧ s₂.gens = s.gens ∧ s₂.os = s.os ∧
    s.heap.objs.size ≤ I ∧ (∀ b ∈ fp, b = a ∨ b = x1 ∨ s.heap.objs.size ≤ b) ∧ out.Perm (es.toList.map (·.2)) ∧ (∀ A' : Around, A'.handled = some (.ref x1) → Walks P w A' I fp [I] out.length Pv St) ∧
    (∀ j v, Pv j v → out[j]? = some v) ∧ St 0 s₂.heap
theorem SetItH.of {s₂ : Shared} {I : Addr} {fp : List Addr} {St : Nat → Heap → Prop} {out : List Value} {Pv : Nat → Value → Prop} {n : Nat} (W : ∀ A' : Around, A'.handled = some (.ref x1) → Walks P w A' I fp [I] n Pv St) (hn : out.length = n)
    (k : ∀ b o, s.heap.get? b = some o → s₂.heap.get? b = some o) (g : s₂.gens = s.gens) (ho : s₂.os = s.os) (hI : s.heap.objs.size ≤ I) (hfp : ∀ b ∈ fp, b = a ∨ b = x1 ∨ s.heap.objs.size ≤ b)
    (hp : out.Perm (es.toList.map (·.2))) (hPv : ∀ j v, Pv j v → out[j]? = some v) (hst : St 0 s₂.heap) : SetItH P w s a x1 es s₂ I := by
  subst hn
  exact ⟨fp, St, out, Pv, k, g, ho, hI, hfp, hp, W, hPv, hst⟩
end
end TR
namespace TR
open PySem PySem.Spec PyProof.Rows L2 HotX
/-! ### sorted(set(..)) while an exception is handled -/
section
variable {P : Program} {w : World} {A : Around} {E : Value → Shared → Prop} {s : Shared} {a : Addr} {ep : Nat} {es : Array (Int × Value)} {t : SetTable}
end
section
variable {P : Program} {w : World} {A : Around} {E : Value → Shared → Prop} {s : Shared}
end
section
variable {X : Cx}
variable {x y : Str} {p1 p2 c1 c2 : Pos} {e : Expr} {t : TA}
end
end TR
namespace TR
open PySem PySem.Spec PyProof.Rows L2 HotX
/-! ### len(set(list(zip(a, b)))) while an exception is handled -/
section
variable {P : Program} {w : World} {A : Around} {E : Value → Shared → Prop} {s : Shared}
end
section
variable {P : Program} {w : World} {A : Around}
end
set_option maxHeartbeats 3200000
section
variable {P : Program} {w : World} {A : Around} {E : Value → Shared → Prop}
end
section
variable {X : Cx}
end
end TR
namespace TR
open PySem PySem.Spec PyProof.Rows L2
/-! ### defs that let out exceptions without context -/
section
variable {P : Program} {w : World} {K : PySem.W.Frag} {mg : Str → Option Value} {base : Heap}
end
section
variable {X : Cx} {k : Nat} {f : Addr} {fd : FuncData} {ps : List Str} {ms : List Md} {F : AF} {x : Str} {p pos : Pos} {e : Expr} {es : List Expr} {aa : AA}
end
/-! ### a def of two parameters: data, and the exception that the caller's suite holds -/
structure FnEH (P : Program) (w : World) (K : PySem.W.Frag) (mg : Str → Option Value) (base : Heap) (k : Nat) (f : Addr) (fd : FuncData) (ps : List Str) (sp : SpE) : Prop where
  len : ∀ c d a vs H Q E, sp c d a vs H Q E → vs.length = ps.length
  run : ∀ (A : Around) (l : List Env) (s : Shared) (H : Hp) (args : Args) (us : List Value) (vs : List V) (Q : VK) (p : Addr × Obj) (cls : Value) (d : Option Addr), L2H.RoomH k A → L2H.Hot1 A p → L2H.PinOk l H s p → Zc cls d p.2 → (∃ v, p.2.data = .fields v) →
    Env0 P w K mg base A l s H → BindsTo s fd args (ps.zip us) → Vals vs us → sp cls d p.1 vs H Q E0 → codeAny (model P w) A (.call (.ref f) args) (CR CX0 l P w H s Q E0) s
section
variable {P : Program} {w : World} {K : PySem.W.Frag} {mg : Str → Option Value} {base : Heap}
end
section
variable {X : Cx}
end
section
variable {X : Cx} {Ec : EC}
end
theorem _root_.L2H.FnH.mono {P : Program} {w : World} {K : PySem.W.Frag} {mg : Str → Option Value} {base : Heap} {CX : CXT} {j k : Nat} {f : Addr} {fd : FuncData} {ps : List Str} {sp : Sp} (o : L2H.FnH P w K mg base CX j f fd ps sp) (h : j ≤ k) : L2H.FnH P w K mg base CX k f fd ps sp := ⟨o.len, fun A outer s H args us vs Q E p hr => o.run A outer s H args us vs Q E p (hr.mono h)⟩
end TR
namespace TR
open PySem PySem.Spec PyProof.Rows L2
/-! ### sorted({elt for x in l if ..}), elt tuples of ints of any lengths, none empty: the set itself is never tracked -/
section
variable {prog : Program} {w : World} {A : Around} {E : Value → Shared → Prop} {s : Shared}
/-- two tuples of ints, of any lengths, compared in a sort -/
theorem lexI_any {b fin : Bool} {Q : Bool → Shared → Prop} {xs ys : List Value} {ns ms : List Int} (i : Nat) (hx : IntsAre xs ns) (hy : IntsAre ys ms) (hf : fin = decide (ns.length < ms.length))
    (h : Q (HT.lexLt ns ms) s) : PySem.W.KatLex prog w A b fin Q (xs.zip ys) i s := by
  induction hx generalizing ys ms i with
  | nil =>
    cases hy with
    | nil =>
      rw [HT.lexLt_nil_nil] at h
      rw [hf]
      exact PySem.W.kat_nil h
    | cons q u hy =>
      rw [HT.lexLt_nil_cons] at h
      have e : fin = true := by rw [hf]; exact decide_eq_true (Nat.succ_pos _)
      rw [e]
      exact PySem.W.kat_nil h
  | @cons p t xs ns hx ih =>
    cases hy with
    | nil =>
      rw [HT.lexLt_cons_nil] at h
      have e : fin = false := by rw [hf]; exact decide_eq_false (Nat.not_lt_zero _)
      rw [e]
      exact PySem.W.kat_nil h
    | @cons q u ys ms hy =>
      have hf' : fin = decide (ns.length < ms.length) := by
        rw [hf]
        refine decide_eq_decide.mpr ?_
        rw [List.length_cons, List.length_cons]
        omega
      show PySem.W.KatLex prog w A b fin Q ((Value.int p t, Value.int q u) :: xs.zip ys) i s
      refine PySem.W.kat_cons (wpAny_eqBool_int ?_)
      rw [HT.lexLt_cons] at h
      by_cases e : p = q
      · subst e
        rw [beq_self_eq_true]
        rw [if_pos rfl] at h
        refine PySem.W.kat_yes ?_
        first
          | exact ih (i + 1) hy hf' h
          | exact ih _ _ (i + 1) hy hf' h
      · rw [show (p == q) = false from beq_eq_false_iff_ne.mpr e]
        rw [if_neg e] at h
        exact PySem.W.kat_no (TS.oneLt_ints _ h)
theorem tupsI_firsts {h : Heap} {k : Value → List Int} : ∀ {vs : List Value}, (∀ v ∈ vs, TS.TupInts h v (k v) ∧ k v ≠ []) → ∃ fs : List Value, PySem.W.KatTups h vs fs ∧ fs.length = vs.length ∧ ∀ f ∈ fs, ∃ x t, f = Value.int x t
  | [], _ => ⟨[], PySem.W.KatTups.nil, rfl, fun _ hm => by simp at hm⟩
  | v :: vs, hp => by
    obtain ⟨fs, h1, h2, h3⟩ := tupsI_firsts (vs := vs) fun v' hm => hp v' (List.mem_cons_of_mem _ hm)
    obtain ⟨⟨a, xs, e, ⟨o, ho, hc, n, hd⟩, i⟩, ne⟩ := hp v List.mem_cons_self
    generalize k v = ns at i ne
    subst e
    obtain ⟨x, t, hx⟩ : ∃ x t, xs[0]? = some (Value.int x t) := by
      rw [← Array.getElem?_toList]
      clear hd
      generalize xs.toList = l at i ⊢
      cases i with
      | nil => exact absurd rfl ne
      | cons x t _ => exact ⟨x, t, rfl⟩
    refine ⟨.int x t :: fs, PySem.W.KatTups.cons ho hc hd hx h1, by rw [List.length_cons, List.length_cons, h2], fun f hm => ?_⟩
    rcases List.mem_cons.mp hm with rfl | hm
    · exact ⟨x, t, rfl⟩
    · exact h3 f hm
theorem tupsI_cmp {vs : List Value} {k : Value → List Int} (hp : ∀ v ∈ vs, TS.TupInts s.heap v (k v) ∧ k v ≠ []) : SrtO.Cmp prog w A s (tuples' true) (fun p => p.1 ∈ vs) (SrtO.lt2 fun v u => HT.lexLt (k v) (k u)) := by
  intro p q hm hm'
  obtain ⟨h1, _⟩ := hp _ hm
  obtain ⟨h2, _⟩ := hp _ hm'
  show wpAny (model prog w) A (keyLt' (tuples' true) p.1 q.1) (fun r s' => s' = s ∧ r = HT.lexLt (k p.1) (k q.1)) (fun _ _ => False) s
  generalize k p.1 = ns at h1 ⊢
  generalize k q.1 = ms at h2 ⊢
  obtain ⟨a, xs, e, ⟨o, ho, hc, n, hd⟩, i⟩ := h1
  obtain ⟨a', xs', e', ⟨o', ho', hc', n', hd'⟩, i'⟩ := h2
  rw [e, e']
  refine PySem.W.kat_lt ho hd ho' hd' (lexI_any 0 i i' ?_ ⟨rfl, rfl⟩)
  refine decide_eq_decide.mpr ?_
  rw [← Array.length_toList, ← Array.length_toList, i.length, i'.length]
theorem tupsI_sortable {a : Addr} {vs : List Value} {k : Value → List Int} (h0 : 0 < vs.length) (hp : ∀ v ∈ vs, TS.TupInts s.heap v (k v) ∧ k v ≠ []) (ha : ∀ o, s.heap.get? a = some o → o.cls ≠ .type "tuple") : SrtO.SortableO prog w A s a vs fun v u => HT.lexLt (k v) (k u) := by
  intro h' keep
  have hp' : ∀ v ∈ vs, TS.TupInts h' v (k v) ∧ k v ≠ [] := fun v hm => ⟨(hp v hm).1.keeps fun b o e c => keep b o (fun z => by subst z; exact ha o e c) e, (hp v hm).2⟩
  obtain ⟨fs, h1, h2, h3⟩ := tupsI_firsts hp'
  refine ⟨tuples' true, fun Q E hq => ?_, tupsI_cmp hp'⟩
  refine PySem.W.kat_kind (T := .type "int") h1 (by omega) (fun f hm => ?_) (by rfl) ?_
  · obtain ⟨x, t, rfl⟩ := h3 f hm
    exact PySem.W.Looks.now
  · have e : (Value.type "int" != Value.type "tuple") = true := by first | decide +kernel | rfl | decide
    rw [e]
    exact hq
end
abbrev IP := Addr × List Int
def SeenI (H : Hp) (ps : List IP) : Prop := ∀ p ∈ ps, TF H p.1 (p.2.map V.int)
/-- the set at D has just these tuples -/
def SetII (P : Program) (w : World) (D : Addr) (ps : List IP) (h : Heap) : Prop := ∃ L es ep t, SetTR P w h D L es ep t ∧ L.length ≤ ps.length ∧ (∀ p ∈ L, p ∈ ps) ∧ ∀ p ∈ ps, p.2 ∈ L.map (·.2)
section
variable {P : Program} {w : World} {A : Around} {E : Value → Shared → Prop} {s : Shared}
theorem isI_tup {H : Hp} {h : Heap} {a : Addr} {k : List Int} (hok : HOk P w H h) (t : TF H a (k.map V.int)) : IsT P w h k a := by
  obtain ⟨_, _, e⟩ := t
  obtain ⟨_, _, its, rv, ob, hb, hc, n, hd⟩ := hok a _ e
  exact ⟨_, _, _, hb, hc, hd, items_of_vals rv⟩
theorem add_setI {D x : Addr} {k : List Int} {L : List IP} {es : Array (Int × Value)} {ep : Nat} {t : SetTable} (R : SetTR P w s.heap D L es ep t) (hx : IsT P w s.heap k x) (hu : A.in1.units < cLine) (hf : L.length + 1 < 64) {Q : Value → Shared → Prop}
    (hQ : ∀ h' tk L' es' ep' t', Heap.SameBut D s.heap h' → SetTR P w h' D L' es' ep' t' → (k ∈ L.map (·.2) → L' = L) → (k ∉ L.map (·.2) → L'.Perm ((x, k) :: L)) → Q .none { s with heap := h', toks := tk }) : wpAny (model P w) A (call (.builtin "set.add") [.ref D, .ref x]) Q E s := by
  obtain ⟨o, ho, hex, hd⟩ := R.ob
  refine wpAny_call_entry F.slot_set_add ⟨o, ho, hex.1⟩ F.entry_set_add ?_ (F.args_set_add_2 _ _)
  unfold Builtin.«set.add» Builtin.Frozenset.oneOther
  simp only [List.isEmpty_nil, bind_assoc]
  unfold Builtin.Frozenset.addrOf setAdd
  iterate 2
    refine wpAny_bind (wpAny_pure ?_)
    try dsimp only
  refine wpAny_bind (wpAny_holding (wpAny_bind (wpAny_pyHash_tuple (A := A.in1) (knd := intKind P w) hu hx ?_)))
  refine add_at (s := { s with toks := s.toks + (k.length + 1) }) R hx hu hf fun b h' L' es' ep' t' sb R' c1 c2 => ?_
  show wpAny _ _ (ret Value.none) _ _ _
  exact wpAny_pure ⟨_, rfl, hQ h' _ L' es' ep' t' sb R' c1 c2⟩
/-- what comes of one more -/
theorem set_grow {ps : List IP} {L L' : List IP} {x : Addr} {k : List Int} (g1 : ∀ p ∈ L, p ∈ ps) (g2 : ∀ p ∈ ps, p.2 ∈ L.map (·.2)) (c1 : k ∈ L.map (·.2) → L' = L) (g0 : L.length ≤ ps.length) (c2 : k ∉ L.map (·.2) → L'.Perm ((x, k) :: L)) : L'.length ≤ (ps ++ [(x, k)]).length ∧ (∀ p ∈ L', p ∈ ps ++ [(x, k)]) ∧ ∀ p ∈ ps ++ [(x, k)], p.2 ∈ L'.map (·.2) := by
  by_cases c : k ∈ L.map (·.2)
  · rw [c1 c]
    refine ⟨by rw [List.length_append]; omega, fun p hp => List.mem_append_left _ (g1 p hp), fun p hp => ?_⟩
    rcases List.mem_append.mp hp with h | h
    · exact g2 p h
    · rw [List.mem_singleton.mp h]; exact c
  · have pm := c2 c
    refine ⟨by rw [pm.length_eq, List.length_append]; show L.length + 1 ≤ ps.length + 1; omega, fun p hp => ?_, fun p hp => ?_⟩
    · rcases List.mem_cons.mp (pm.mem_iff.mp hp) with h | h
      · rw [h]; exact List.mem_append_right _ (List.mem_singleton.mpr rfl)
      · exact List.mem_append_left _ (g1 p h)
    · have pm' := pm.map (·.2)
      refine pm'.mem_iff.mpr ?_
      rcases List.mem_append.mp hp with h | h
      · exact List.mem_cons_of_mem _ (g2 p h)
      · rw [List.mem_singleton.mp h]; exact List.mem_cons_self
theorem sorted_setI {a : Addr} {L : List IP} {es : Array (Int × Value)} {ep : Nat} {t : SetTable} {Q : Value → Shared → Prop} (R : SetTR P w s.heap a L es ep t) (hh : A.handled = none) (ne : ∀ p ∈ L, p.2 ≠ [])
    (hQ : ∀ s' p (out : Array Value) (c : Nat) (L' : List IP), (∀ b o, s.heap.get? b = some o → s'.heap.get? b = some o) → s'.gens = s.gens → s'.os = s.os → s.heap.objs.size ≤ p →
      s'.heap.get? p = some (seqObj "list" out c) → out.toList = L'.map (fun q => Value.ref q.1) → L'.Perm L → L'.Pairwise (fun q r => HT.lexLt r.2 q.2 = false) → Q (.ref p) s') :
    wpAny (model P w) A (call (.builtin "sorted") [.ref a]) Q E s := by
  obtain ⟨o, ho, hex, hd⟩ := R.ob
  have hsz := R.size
  have hfew := R.few
  refine Calls.call_function_entry kind_sorted plain_sorted entry_sorted (args_sorted1 _) ?_
  unfold Builtin.«sorted»
  refine wpAny_bind (m := checkCount "sorted" 1 1 _) (wpAny_pure ?_)
  refine wpAny_bind (collect_set (A := A.in1) hh ⟨o, ho, hex.1, hd⟩ R.fits (by unfold scanBound; omega) R.tab.ris R.led fun s1 vs k1 hz g1 o1 pm => ?_)
  have hes : es.toList.map (·.2) = L.map fun q => Value.ref q.1 := by
    rw [R.rows]
    unfold rowsOf
    rw [List.map_map] <;> rfl
  rw [hes] at pm
  have ord : ∀ vs : List Value, (∀ v ∈ vs, ∃ q ∈ L, v = Value.ref q.1) → ∃ L1 : List IP, vs = L1.map (fun q => Value.ref q.1) ∧ ∀ q ∈ L1, q ∈ L := by
    intro vs
    induction vs with
    | nil => intro _; exact ⟨[], rfl, fun q hq => (by cases hq)⟩
    | cons v vs ih =>
      intro hv
      obtain ⟨q, hq, e⟩ := hv v List.mem_cons_self
      obtain ⟨L1, e1, hs⟩ := ih fun u hu => hv u (List.mem_cons_of_mem _ hu)
      refine ⟨q :: L1, by rw [List.map_cons, e, e1], fun r hr => ?_⟩
      rcases List.mem_cons.mp hr with z | z
      · rw [z]; exact hq
      · exact hs r z
  have one : ∀ q ∈ L, ∀ r ∈ L, q.1 = r.1 → q = r := fun q hq r hr e => by
    have a1 := R.tup q hq
    have a2 := R.tup r hr
    rw [e] at a1
    have e2 : q.2 = r.2 := a1.inj a2
    exact Prod.ext e e2
  have perm_of : ∀ L1 : List IP, (∀ q ∈ L1, q ∈ L) → (L1.map (fun q => Value.ref q.1)).Perm (L.map fun q => Value.ref q.1) → L1.Perm L := by
    intro L1 hs pm1
    have nL : L.Nodup := nodup_of_map R.nd
    have nref : (L.map fun q => Value.ref q.1).Nodup := by
      refine List.pairwise_map.mpr (List.Pairwise.imp_of_mem (fun {q r} hq hr hne e => ?_) nL)
      injection e with e
      exact hne (one q hq r hr e)
    have n1 : L1.Nodup := nodup_of_map (pm1.nodup_iff.mpr nref)
    refine (List.perm_ext_iff_of_nodup n1 nL).mpr fun q => ⟨hs q, fun hq => ?_⟩
    have hm : Value.ref q.1 ∈ L1.map (fun q => Value.ref q.1) := pm1.mem_iff.mpr (List.mem_map.mpr ⟨q, hq, rfl⟩)
    obtain ⟨r, hr, e⟩ := List.mem_map.mp hm
    injection e with e
    rw [← one r (hs r hr) q hq e]
    exact hr
  have hvl : vs.length < 64 := by rw [pm.length_eq, List.length_map]; exact hfew
  refine wpAny_bind (wpAny_newList ?_ (by rw [sizeLine_eq]; omega))
  have hoL : (s1.heap.push (seqObj "list" vs.toArray 0)).get? s1.heap.objs.size = some (seqObj "list" vs.toArray 0) := Heap.get?_push_size _ rfl
  have tk : ∀ q ∈ L, TS.TupInts (s1.heap.push (seqObj "list" vs.toArray 0)) (.ref q.1) q.2 := fun q hq => tupInts_of (P := P) (w := w) (isT_keep (R.tup q hq) fun b u e => Heap.get?_push_of_some _ (k1 b u e))
  have x : ∀ v ∈ vs, TS.TupInts (s1.heap.push (seqObj "list" vs.toArray 0)) v (TS.intsOf (s1.heap.push (seqObj "list" vs.toArray 0)) v) ∧ TS.intsOf (s1.heap.push (seqObj "list" vs.toArray 0)) v ≠ [] := fun v hv => by
    obtain ⟨q, hq, e⟩ := List.mem_map.mp (pm.mem_iff.mp hv)
    rw [← e, (tk q hq).ints]
    exact ⟨tk q hq, ne q hq⟩
  refine wpAny_bind (wpAny_holding (wpAny_call_entry slot_list_sort ⟨_, hoL, rfl⟩ entry_list_sort (SrtO.list_sort_ord (s := { s1 with heap := s1.heap.push (seqObj "list" vs.toArray 0) }) (NtL.swo_lexL fun v => TS.intsOf (s1.heap.push (seqObj "list" vs.toArray 0)) v) hoL (by rw [sizeLine_eq]; omega) (fun h2 => tupsI_sortable (s := { s1 with heap := s1.heap.push (seqObj "list" vs.toArray 0) }) (by omega) x fun o e => ?_) fun out a0 a1 => ⟨_, rfl, ?_⟩) (args_list_sort _)))
  · have e' : some (seqObj "list" vs.toArray 0) = some o := hoL.symm.trans e
    cases e'
    intro c
    exact absurd (Value.type.inj c) (by decide)
  obtain ⟨c, hc⟩ := sortedHeap_at (vs := vs) (out := out.toArray) hoL
  obtain ⟨L', e', hs'⟩ := ord out fun v hv => by
    obtain ⟨q, hq, e⟩ := List.mem_map.mp (pm.mem_iff.mp (a1.perm.mem_iff.mp hv))
    exact ⟨q, hq, e.symm⟩
  have pL : L'.Perm L := perm_of L' hs' (by rw [← e']; exact a1.perm.trans pm)
  have pw : L'.Pairwise (fun q r => HT.lexLt r.2 q.2 = false) := by
    have a2 : out.Pairwise fun x y => HT.lexLt (TS.intsOf (s1.heap.push (seqObj "list" vs.toArray 0)) y) (TS.intsOf (s1.heap.push (seqObj "list" vs.toArray 0)) x) = false := a0
    rw [e'] at a2
    refine List.Pairwise.imp_of_mem (fun {q r} hq hr hle => ?_) (List.pairwise_map.mp a2)
    have f1 : TS.intsOf (s1.heap.push (seqObj "list" vs.toArray 0)) (.ref q.1) = q.2 := (tk q (hs' q hq)).ints
    have f2 : TS.intsOf (s1.heap.push (seqObj "list" vs.toArray 0)) (.ref r.1) = r.2 := (tk r (hs' r hr)).ints
    rw [← f1, ← f2]
    exact hle
  refine wpAny_pure ⟨_, rfl, hQ _ s1.heap.objs.size out.toArray c L' (fun b u e => ?_) g1 o1 hz hc (by simpa using e') pL pw⟩
  have q := k1 b u e
  have hlt := Heap.lt_size q
  show (sortedHeap (s1.heap.push (seqObj "list" vs.toArray 0)) s1.heap.objs.size vs out.toArray).get? b = some u
  rw [sortedHeap_old (Nat.ne_of_lt hlt) (by rw [size_push']; exact Nat.lt_succ_of_lt hlt)]
  exact Heap.get?_push_of_some _ q
end
end TR
namespace TR
open PySem PySem.Spec PyProof.Rows L2
section
variable {X : Cx}
def tSortSC (wi : TI) (g : TG) (tt : TT) (te : TE) (vs : List Nat) : TE := fun σ H Q => wi σ H fun J H1 => ∃ W : Nat → Nat → List IP → Hp → Prop, (∃ m, W 0 m [] H1) ∧ ∀ i m ps H, W i m ps H →
  (J.stop i H ∧ SeenI H ps ∧ (∀ p ∈ ps, p.2 ≠ []) ∧ ∀ (L' : List IP) (p : Addr), (∀ q ∈ L', q ∈ ps) → (∀ q ∈ ps, q.2 ∈ L'.map (·.2)) → (L'.map (·.2)).Nodup → L'.length < 64 → L'.Pairwise (fun q r => HT.lexLt r.2 q.2 = false) → H p = none → Q (.ref p) (upd H p (.lst (L'.map fun q => V.ref q.1)))) ∨
  (J.go i H ∧ ∀ x H', J.yld i H x H' → g x (wipe σ vs) H' fun σ2 H2 => wipe σ2 vs = wipe σ vs ∧ tt σ2 H2 fun b H3 => SeenI H3 ps ∧
    if b = true then te σ2 H3 fun y H4 => ∃ (a : Addr) (r : List Int) (m' : Nat), y = .ref a ∧ TF H4 a (r.map V.int) ∧ SeenI H4 ps ∧ ps.length < 60 ∧ m' < m ∧ W (i + 1) m' (ps ++ [(a, r)]) H4 else ∃ m', m' < m ∧ W (i + 1) m' ps H3)
/-- the set stays as long as its object does and what is in it is tracked -/
theorem SetII.move {D : Addr} {ps : List IP} {H : Hp} {h h' : Heap} {P : Program} {w : World} (st : SetII P w D ps h) (hD : ∀ o, h.get? D = some o → h'.get? D = some o) (seen : SeenI H ps) (hok : HOk P w H h') : SetII P w D ps h' := by
  obtain ⟨L, es, ep, t, R, g0, g1, g2⟩ := st
  exact ⟨L, es, ep, t, R.keep hD fun p hp => isI_tup hok (seen p (g1 p hp)), g0, g1, g2⟩
theorem SetII.obj {D : Addr} {ps : List IP} {h : Heap} {P : Program} {w : World} (st : SetII P w D ps h) : ∃ o, h.get? D = some o ∧ ∀ v, o.data ≠ .cell v := by
  obtain ⟨L, es, ep, t, R, g⟩ := st
  obtain ⟨o, ho, _, hd⟩ := R.ob
  exact ⟨o, ho, fun v e => by rw [hd] at e; cases e⟩
theorem pe_sortSC {elt tg iter : Expr} {scope : Scope} {own : List (PySem.Str × Nat)} {p1 p2 pos : Pos} {wi : TI} {g : TG} {tt : TT} {te : TE} {ifs : List Expr} (hc : X.calm = true) (hu : X.A.units + 64 < cLine) (g1 : Gl X "sorted") (m1 : X.mg "sorted" = none) (hN : X.N.Nodup) (hi : PI X tg iter wi) (ok : BlkOk X.N X.env.scope scope own)
    (hg : ∀ (s : Shared) (H : Hp) (C : Addr) (cl : List (PySem.Str × Addr)) (fp : List Addr), PG (X.blk s H scope (compEnvC scope cl C X.env) fp) tg g) (ht : ∀ (s : Shared) (H : Hp) (C : Addr) (cl : List (PySem.Str × Addr)) (fp : List Addr), PTs (X.blk s H scope (compEnvC scope cl C X.env) fp) ifs tt)
    (he : ∀ (s : Shared) (H : Hp) (C : Addr) (cl : List (PySem.Str × Addr)) (fp : List Addr), PE (X.blk s H scope (compEnvC scope cl C X.env) fp) elt te) (hs : ∀ x, foldedSetIterable iter X.env x = pure x := by intro _; rfl) :
    PE X (.Call (.Name "sorted" p1) [.SetComp elt [⟨tg, iter, ifs, 0⟩] scope p2] [] pos) (tSortSC wi g tt te (own.map (·.2))) := by
  refine ⟨fun pins s σ H Q I h => ?_⟩
  refine Call_ (ld_blt I g1 m1 (show bootBuiltins "sorted" = some (.builtin "sorted") by decide +kernel) ?_)
  refine PyProof.Rows.callWith_builtin1 (PyProof.Rows.args_cons ?_ rfl) rfl rfl
  rw [PpSet.eval_SetComp]
  have free : ∀ y ∈ scope.names, y.2 = .free → ∃ c, X.env.cells.lookup y.1 = some c := fun y hy e => (ok.free y hy e).elim (fun k => I.ok.has _ (.inl k)) fun k => I.ok.has _ (.inr k)
  refine wpAny_comprehension_free (use := none) rfl hs (closure_ok free) ok.kind (fun y hy e => by rw [ok.uniq y hy, e]) (thn (hi.run pins s σ H _ I h) fun _ s2 hx => thn hx fun _ s2 ⟨it, fp, tn, J, H2, ei, I2, T, st2, f2, W, ⟨m0, w0⟩, turn⟩ => ?_)
  subst ei
  refine PpSet.newSet_ok (newEnv_comp ?_)
  have D0 : H2 s2.heap.objs.size = none := I2.hok.fresh (Nat.le_refl _)
  have fD := I2.fpOk (Nat.le_refl _) D0
  have low : ∀ b ∈ fp, @LT.lt Nat _ b s2.heap.objs.size := fun b hb => by
    obtain ⟨o, e, _⟩ := T.obj _ _ st2 b hb
    exact Heap.lt_size e
  generalize hD : s2.heap.objs.size = D at D0 fD low ⊢
  generalize hs3 : ({ s2 with heap := s2.heap.push (setObj X.w) } : Shared) = s3
  have I3 : Inv X pins σ H2 s3 := by
    rw [← hs3]
    exact I2.kept (t' := s2.toks) fun b o e => Heap.get?_push_of_some _ e
  have h3 : s3.heap = s2.heap.push (setObj X.w) := by rw [← hs3]
  have set3 : SetII X.prog X.w D [] s3.heap := ⟨[], _, _, _, setTR_fresh (by rw [h3, ← hD]; exact Heap.get?_push_size s2.heap rfl), Nat.le_refl _, fun p hp => (by cases hp), fun p hp => (by cases hp)⟩
  have f3 : ∀ b ∈ D :: fp, FpOk X pins H2 b ∧ b < s3.heap.objs.size := fun b hb => by
    rw [h3, Heap.size_push]
    rcases List.mem_cons.mp hb with e | hb
    · rw [e, ← hD]
      exact ⟨by rw [hD]; exact fD, Nat.lt_succ_self _⟩
    · have := low b hb
      exact ⟨f2 b hb, Nat.lt_succ_of_lt (by rw [hD]; exact this)⟩
  have st3 : tn 0 s3.heap := T.keep _ _ _ st2 fun b _ o e => by rw [h3]; exact Heap.get?_push_of_some _ e
  have I4 := block_start I3 ok hN f3
  have pg := hg s3 H2 s3.heap.objs.size (cellsFrom (s3.heap.objs.size + 1) scope.names (cloFrom X.env.cells scope.names [])) (D :: fp)
  have pt := ht s3 H2 s3.heap.objs.size (cellsFrom (s3.heap.objs.size + 1) scope.names (cloFrom X.env.cells scope.names [])) (D :: fp)
  have pe := he s3 H2 s3.heap.objs.size (cellsFrom (s3.heap.objs.size + 1) scope.names (cloFrom X.env.cells scope.names [])) (D :: fp)
  show codeAny _ _ (.compStart (.SetComp elt [⟨tg, iter, ifs, 0⟩] scope p2) 0 (.ref it) (.ref D) (compEnvC scope (cellsFrom (s3.heap.objs.size + 1) scope.names (cloFrom X.env.cells scope.names [])) s3.heap.objs.size X.env)) (compPost (model X.prog X.w) X.A X.xe none _ (.ref D) s3.heap.objs.size) { s3 with heap := pushCells (s3.heap.push { cls := .type "dict", data := .dict #[] }) scope.names }
  generalize hce : compEnvC scope (cellsFrom (s3.heap.objs.size + 1) scope.names (cloFrom X.env.cells scope.names [])) s3.heap.objs.size X.env = ce at I4 pg pt pe ⊢
  have cL : ce.locals = s3.heap.objs.size := by subst hce; rfl
  generalize hs4 : ({ s3 with heap := pushCells (s3.heap.push { cls := .type "dict", data := .dict #[] }) scope.names } : Shared) = s4 at I4 ⊢
  have up4 : ∀ b o, s3.heap.get? b = some o → s4.heap.get? b = some o := fun b o e => by
    rw [← hs4]
    exact pushCells_keeps _ _ _ _ (Heap.get?_push_of_some _ e)
  have st4 : tn 0 s4.heap := T.keep _ _ _ st3 fun b _ o e => up4 b o e
  have set4 : SetII X.prog X.w D [] s4.heap := set3.move (H := H2) (up4 D) (fun p hp => (by cases hp)) I4.hok
  have free4 : ∀ b ∈ D :: fp, H2 b = none := fun b hb => (f3 b hb).1.1
  have stat : ∀ {pl : List (Addr × Obj)} {σ' : L2.St} {H' : Hp} {s' : Shared}, Inv (X.blk s3 H2 scope ce (D :: fp)) pl σ' H' s' → ∀ b ∈ D :: fp, H' b = none → (∀ p ∈ pl, p.1 ≠ b) → FpOk (X.blk s3 H2 scope ce (D :: fp)) pl H' b := fun {pl σ' H' s'} I' b hb hn np =>
    ⟨hn, (I'.ok.exf b hb).1, I'.ok.exfs b hb, .inl hb, (I'.ok.exf b hb).2, fun p hp => np p (by
      have hp : p ∈ ([] : List (Addr × Obj)) ++ pl := hp
      simpa using hp)⟩
  have apart : ∀ b ∈ fp, D ≠ b := fun b hb e => absurd (low b hb) (by rw [← e]; exact Nat.lt_irrefl _)
  refine (fun loop => PpSet.codeAny_compStart_set loop (T.self X.A 0 _ _ _ st4 loop)) ?_
  · clear hg ht he hi
    refine PpSet.compLoopS_any (fun n s' => ∃ i ps H', Inv (X.blk s3 H2 scope ce (D :: fp)) [] (wipe σ (own.map (·.2))) H' s' ∧ tn i s'.heap ∧ (∀ b ∈ D :: fp, H' b = none) ∧ SetII X.prog X.w D ps s'.heap ∧ W i n ps H') ?_ m0 ⟨0, [], H2, I4, st4, free4, set4, w0⟩
    rintro n s5 ⟨i, ps, H5, I5, st5, n5, set5, w5⟩
    obtain ⟨oD, hoD, ncD⟩ := set5.obj
    have one : ∀ {h : Heap} {p : Addr × Obj}, p ∈ pinsAt [D] h → p.1 = D := fun hp => List.mem_singleton.mp (of_pinsAt hp).1
    have ID := I5.pinned (fp := [D]) (fun b hb => by rw [List.mem_singleton.mp hb]; exact stat I5 D List.mem_cons_self (n5 D List.mem_cons_self) fun p hp => (by cases hp)) (fun b hb => by rw [List.mem_singleton.mp hb]; exact ⟨oD, hoD, ncD⟩)
    have pinD : (D, oD) ∈ [] ++ pinsAt [D] s5.heap := mem_pinsAt (List.mem_singleton.mpr rfl) hoD
    have fpD : ∀ b ∈ fp, FpOk (X.blk s3 H2 scope ce (D :: fp)) ([] ++ pinsAt [D] s5.heap) H5 b := fun b hb => stat ID b (List.mem_cons_of_mem _ hb) (n5 b (List.mem_cons_of_mem _ hb)) fun p hp => by rw [one (h := s5.heap) (p := p) hp]; exact apart b hb
    rcases turn i n ps H5 w5 with ⟨stop, qq⟩ | ⟨go, step⟩
    · refine thnF (T.done (X.blk s3 H2 scope ce (D :: fp)) rfl rfl rfl hc i _ s5 _ H5 (fun _ _ => False) ID fpD st5 stop) fun r s6 ⟨hr, I6⟩ => ?_
      subst hr
      have g6 : s6.heap.get? D = some oD := (I6.pin (D, oD) (List.mem_append_right _ pinD)).1
      have I7 : Inv X pins σ H5 s6 := I3.call' (ch := D :: fp) I6.os I6.base I6.hok I6.bare fun b hb => ⟨(f3 b hb).1.2.2.2.1, (f3 b hb).1.2.1, (f3 b hb).1.2.2.2.2.1, (f3 b hb).1.2.2.2.2.2⟩
      have nC : H5 s3.heap.objs.size = none := by
        have z : H5 ce.locals = none := I6.free
        rwa [cL] at z
      obtain ⟨m, hn, _⟩ := I6.loc
      have hn : s6.heap.Ns ce.locals m := hn
      rw [cL] at hn
      obtain ⟨f0, f1, f2', f4, f5, f6⟩ := I3.fpOk (Nat.le_refl _) nC
      refine ⟨m, hn, fun h'' sb => ?_⟩
      obtain ⟨seen, ne, qq⟩ := qq
      have CD : D ≠ s3.heap.objs.size := fun e => absurd ((f3 D List.mem_cons_self).2) (by rw [e]; exact Nat.lt_irrefl _)
      have I8 := I7.turned (t' := s6.toks) (fun b o hb e => (sb.2 b hb).trans e) f0 f1 f4 f5 f6
      generalize hs8 : ({ s6 with heap := h'' } : Shared) = s8 at I8 ⊢
      have h8 : s8.heap = h'' := by rw [← hs8]
      obtain ⟨L, es, ep, t, R, g0, g1', g2⟩ := set5.move (h' := s8.heap) (fun o e => by rw [h8, sb.2 D CD, g6, ← e, hoD]) seen I8.hok
      refine PyProof.Rows.args_nil ?_
      refine sorted_setI R (I.ok.hd hc) (fun p hp => ne p (g1' p hp)) fun s' p out c L' k g o hp hg hout pm pw => ?_
      have hfew : L'.length < 64 := by rw [pm.length_eq]; exact R.few
      have hlen : (L'.map fun q => V.ref q.1).length ≤ sizeLine := by rw [List.length_map, sizeLine_eq]; omega
      have hn0 : H5 p = none := I8.hok.fresh hp
      have hv : Vals (L'.map fun q => V.ref q.1) out.toList := by rw [hout]; exact vals_of_refs L'
      have J : Inv X pins σ (upd H5 p (.lst (L'.map fun q => V.ref q.1))) { s8 with heap := s'.heap, gens := s'.gens, drawn := s'.drawn, toks := s'.toks } := I8.call (ch := []) (Un.laid k hp hn0) (I8.hok.laid k hp ⟨hlen, out.toList, c, hv, hg⟩) (by rw [g]; exact I8.bare) (fun _ z => nomatch z)
      have e : s' = { s8 with heap := s'.heap, gens := s'.gens, drawn := s'.drawn, toks := s'.toks } := by
        cases s'
        cases s8
        cases o
        rfl
      rw [e]
      exact ⟨.ref p, _, J, rfl, qq L' p (fun q hq => g1' q (pm.mem_iff.mp hq)) (fun q hq => (pm.map (·.2)).mem_iff.mpr (g2 q hq)) ((pm.map (·.2)).nodup_iff.mpr R.nd) hfew pw hn0⟩
    · refine thnF (T.item (X.blk s3 H2 scope ce (D :: fp)) rfl rfl rfl hc i _ s5 _ H5 (fun _ _ => False) ID fpD st5 go) fun r s6 ⟨u, hr, h6⟩ => ?_
      subst hr
      refine thnF h6 fun _ s7 ⟨x, H7, I7, r7, y7, st7, n7⟩ => ?_
      obtain ⟨g7, D7, _⟩ := I7.pin (D, oD) (List.mem_append_right _ pinD)
      have n7' : ∀ b ∈ D :: fp, H7 b = none := fun b hb => (List.mem_cons.mp hb).elim (fun e => by rw [e]; exact D7) (n7 b)
      have Ia := (I7.unpinned (pins := [])).pinned (fp := fp) (fun b hb => stat (I7.unpinned (pins := [])) b (List.mem_cons_of_mem _ hb) (n7 b hb) fun p hp => (by cases hp)) (T.obj _ _ st7)
      have Ib := Ia.pinned (fp := [D]) (fun b hb => by
        rw [List.mem_singleton.mp hb]
        exact stat Ia D List.mem_cons_self D7 fun p hp => fun e => apart p.1 (of_pinsAt (h := s7.heap) hp).1 e.symm) (fun b hb => by rw [List.mem_singleton.mp hb]; exact ⟨oD, g7, ncD⟩)
      refine thnF (pg.run _ s7 _ H7 x u _ Ib r7 (step x H7 y7)) fun _ s8 ⟨σ8, H8, I8, hw8, q8⟩ => ?_
      refine thnF (pt.run _ s8 σ8 H8 _ I8 q8) fun bb s9 ⟨H9, I9, seen9, q9⟩ => ?_
      -- the turn's end
      have fin : ∀ {s' : Shared} {H' : Hp}, Inv (X.blk s3 H2 scope ce (D :: fp)) ([] ++ pinsAt fp s7.heap ++ pinsAt [D] s7.heap) σ8 H' s' → (∀ b ∈ D :: fp, H' b = none) ∧ (∀ b ∈ fp, ∀ o, s7.heap.get? b = some o → s'.heap.get? b = some o) ∧ s'.heap.get? D = some oD := fun {s' H'} I' => by
        have gD := I'.pin (D, oD) (List.mem_append_right _ (List.mem_append_right _ (mem_pinsAt (List.mem_singleton.mpr rfl) g7)))
        refine ⟨fun b hb => ?_, fun b hb o e => (I'.pin (b, o) (List.mem_append_right _ (List.mem_append_left _ (List.mem_append_right _ (mem_pinsAt hb e))))).1, gD.1⟩
        rcases List.mem_cons.mp hb with e | hb
        · rw [e]
          exact gD.2.1
        · obtain ⟨o, e, _⟩ := T.obj _ _ st7 b hb
          exact (I'.pin (b, o) (List.mem_append_right _ (List.mem_append_left _ (List.mem_append_right _ (mem_pinsAt hb e))))).2.1
      cases bb with
      | false =>
        simp only [Bool.false_eq_true, if_false] at q9 ⊢
        obtain ⟨m', hm, w'⟩ := q9
        obtain ⟨n9, keep9, g9⟩ := fin I9
        have I10 := (I9.unpinned).unpinned (pins := [])
        refine ⟨m', hm, i + 1, ps, H9, ?_, T.keep _ _ _ st7 fun b hb o e => keep9 b hb o e, n9, set5.move (fun o e => by rw [g9, ← e, hoD]) seen9 I9.hok, w'⟩
        refine I10.weak (by rw [← hw8, wipe_length]) fun j v e => ?_
        rw [← hw8] at e
        exact (wipe_some e).1
      | true =>
        simp only [if_true] at q9 ⊢
        refine thnF (pe.run _ s9 σ8 H9 _ I9 q9) fun z s10 ⟨yv, H10, I10, r10, a, r, m', ey, ea, seen, l4, hm, w'⟩ => ?_
        subst ey
        cases (show z = Value.ref a from r10)
        obtain ⟨n9, keep9, g9⟩ := fin I10
        obtain ⟨L, es, ep, t, R, h0, h1, h2⟩ := set5.move (h' := s10.heap) (fun o e => by rw [g9, ← e, hoD]) seen I10.hok
        have I11 := (I10.unpinned).unpinned (pins := [])
        obtain ⟨f0, f1, f2', f4, f5, f6⟩ := stat I11 D List.mem_cons_self (n9 D List.mem_cons_self) fun p hp => (by cases hp)
        refine add_setI R (isI_tup I10.hok ea) (by show X.A.units + 1 < cLine; omega) (by omega) fun h' tk L' es' ep' t' sb R' c1 c2 => ?_
        refine ⟨m', hm, i + 1, ps ++ [(a, r)], H10, ?_, T.keep _ _ _ st7 fun b hb o e => (sb.2 b fun z => apart b hb z.symm).trans (keep9 b hb o e), n9, ⟨L', es', ep', t', R', set_grow h1 h2 c1 h0 c2⟩, w'⟩
        have I12 := I11.turned (t' := tk) (fun b o hb e => (sb.2 b hb).trans e) f0 f1 f4 f5 f6
        refine I12.weak (by rw [← hw8, wipe_length]) fun j v e => ?_
        rw [← hw8] at e
        exact (wipe_some e).1
end
end TR
namespace TR
open PySem PySem.Spec PyProof.Rows L2
/-! the order of tuples -/
theorem lexI_iff : ∀ {a b : List Int}, HT.lexLt a b = true ↔ a < b
  | [], [] => ⟨fun h => (by cases h), fun h => absurd h (List.lt_irrefl _)⟩
  | [], y :: b => ⟨fun _ => List.nil_lt_cons y b, fun _ => rfl⟩
  | x :: a, [] => ⟨fun h => (by cases h), fun h => absurd h (List.not_lt_nil _)⟩
  | x :: a, y :: b => by
    rw [HT.lexLt_cons, List.cons_lt_cons_iff]
    by_cases e : x = y
    · rw [if_pos e, lexI_iff]
      exact ⟨fun h => .inr ⟨e, h⟩, fun h => h.elim (fun h => by omega) (·.2)⟩
    · rw [if_neg e, decide_eq_true_eq]
      exact ⟨.inl, fun h => h.elim id fun h => absurd h.1 e⟩
theorem lexI_anti : ∀ {a b : List Int}, HT.lexLt a b = false → HT.lexLt b a = false → a = b
  | [], [], _, _ => rfl
  | [], _ :: _, h, _ => by cases h
  | _ :: _, [], _, h => by cases h
  | x :: a, y :: b, h1, h2 => by
    rw [HT.lexLt_cons] at h1 h2
    by_cases e : x = y
    · rw [if_pos e] at h1
      rw [if_pos e.symm] at h2
      rw [e, lexI_anti h1 h2]
    · rw [if_neg e, decide_eq_false_iff_not] at h1
      rw [if_neg fun z => e z.symm, decide_eq_false_iff_not] at h2
      omega
theorem lexI_data {a b : List Int} : PySem.W.dataLt (eQ PyData.int a) (eQ PyData.int b) = HT.lexLt a b := by
  have e : PySem.W.dataLt (eQ PyData.int a) (eQ PyData.int b) = decide (a < b) := by
    show PySem.W.dataLt (.tuple (a.map .int)) (.tuple (b.map .int)) = _
    rw [PySem.W.dataLt_tuple]
    exact PySem.W.dataLt_ints a b
  rw [e]
  cases h : HT.lexLt a b with
  | true => exact decide_eq_true (lexI_iff.mp h)
  | false => exact decide_eq_false fun z => by rw [lexI_iff.mpr z] at h; cases h
theorem sortI_uniq : ∀ {a b : List (List Int)}, a.Perm b → a.Pairwise (fun q r => HT.lexLt r q = false) → b.Pairwise (fun q r => HT.lexLt r q = false) → a = b
  | [], _, p, _, _ => p.nil_eq
  | x :: a, [], p, _, _ => absurd p.length_eq (by simp)
  | x :: a, y :: b, p, ha, hb => by
    have hx : x = y := by
      rcases List.mem_cons.mp (p.mem_iff.mp List.mem_cons_self) with e | m1
      · exact e
      rcases List.mem_cons.mp (p.mem_iff.mpr List.mem_cons_self) with e | m2
      · exact e.symm
      exact lexI_anti ((List.pairwise_cons.mp hb).1 x m1) ((List.pairwise_cons.mp ha).1 y m2)
    subst hx
    rw [sortI_uniq p.cons_inv (List.pairwise_cons.mp ha).2 (List.pairwise_cons.mp hb).2]
/-- sorted, each once -/
def ssI (rs : List (List Int)) : List (List Int) := srtN (eQ PyData.int) (ddL rs)
theorem ssI_pw (rs : List (List Int)) : (ssI rs).Pairwise fun q r => HT.lexLt r q = false := by
  have T := PySem.W.sortLe_total (PyProof.Rows.listOrd itemOrd) false (fun b : PyData => PySem.W.keyToks b)
  have pw : (ssI rs).Pairwise fun a b => PySem.W.dataLe false (fun d => d) (eQ PyData.int a) (eQ PyData.int b) = true :=
    List.pairwise_mergeSort (le := fun a b => PySem.W.dataLe false (fun d => d) (eQ PyData.int a) (eQ PyData.int b)) (fun a b c h1 h2 => T.trans _ _ _ h1 h2) (fun a b => by rw [Bool.or_eq_true]; exact T.total _ _) (ddL rs)
  refine pw.imp fun {a b} h => ?_
  have h : (!PySem.W.dataLt (eQ PyData.int b) (eQ PyData.int a)) = true := h
  rw [lexI_data] at h
  simpa using h
theorem ssI_of {ms rs : List (List Int)} (h1 : ms.Nodup) (h2 : ∀ k, k ∈ ms ↔ k ∈ rs) (h3 : ms.Pairwise fun q r => HT.lexLt r q = false) : ms = ssI rs :=
  sortI_uniq (perm_nd h1 ((List.mergeSort_perm _ _).nodup_iff.mpr (ddL_nodup rs)) fun k => (h2 k).trans (by show _ ↔ k ∈ srtN _ (ddL rs); unfold srtN; rw [List.mem_mergeSort, ddL_mem])) h3 (ssI_pw rs)
section
variable {X : Cx} {Ec : EC}
def scS (it : AIt) (b : AB) (t : AT) (a : AE) (vs : List Nat) (Q : PyData → AS → Prop) : List PyData → List (List Int) → AS → Prop
  | [], acc, s => it.chk s ∧ (∀ r ∈ acc, r ≠ []) ∧ Q (.list ((ssI acc).map tI)) s
  | x :: xs, acc, s => it.chk s ∧ b x (s.wipe vs) fun s2 => t x0 s2 fun c s3 => if c = true then a x0 s3 fun y s4 => ∃ r : List Int, y = tI r ∧ acc.length < 60 ∧ scS it b t a vs Q xs (acc ++ [r]) (back vs s s4) else scS it b t a vs Q xs acc (back vs s s3)
def aSortSC (ai : AI) (b : AB) (t : AT) (a : AE) (vs : List Nat) : AE := fun xp s Q => ai xp s fun it s1 => scS it b t a vs Q it.its [] s1
theorem scS_chk {it : AIt} {b : AB} {t : AT} {a : AE} {vs : List Nat} {Q : PyData → AS → Prop} : ∀ {l : List PyData} {acc : List (List Int)} {s : AS}, scS it b t a vs Q l acc s → it.chk s
  | [], _, _, h => h.1
  | _ :: _, _, _, h => h.1
theorem rp_kbI {Φ : Fx} {E E' : OE} {H H' : Hp} {p : IP} (h : Rp H (ban Φ E) (tI p.2) (.ref p.1)) (L : LstAt E H) (k : KB E H H') (l : Le E' E) : Rp H' (ban Φ E') (tI p.2) (.ref p.1) := by
  have ra : RpAll H (ban Φ E) [tI p.2] [.ref p.1] := ⟨_, _, rfl, h, rfl⟩
  obtain ⟨_, _, e, h', _⟩ := (ra.kb L k).wk l.ban
  cases e
  exact h'
theorem seenI_rp {H : Hp} {bn : List Addr} {ps : List IP} : ∀ {L : List IP}, (∀ p ∈ L, p ∈ ps) → (∀ p ∈ ps, Rp H bn (tI p.2) (.ref p.1)) → RpAll H bn ((L.map (·.2)).map tI) (L.map fun q => V.ref q.1)
  | [], _, _ => rfl
  | p :: L, h, k => ⟨_, _, rfl, k p (h p List.mem_cons_self), seenI_rp (fun q hq => h q (List.mem_cons_of_mem _ hq)) k⟩
theorem sortSC_ok {w : Bool} {ai : AI} {b : AB} {t : AT} {a : AE} {vs sl : List Nat} {j : Nat} (hsl : ∀ i ∈ sl, i ∈ vs) {σ : L2.St} {H : Hp} {Q : VK} (h : cF j Ec (aSortSC ai b t a vs) σ H Q) : tSortSC (cI w Ec ai) (cG w sl b) (cT Ec.z t) (cE Ec.z a) vs σ H Q := by
  obtain ⟨Φ, E, xp, s, Qa, r, xs, q, k⟩ := h
  refine ⟨Φ, E, xp, s, _, r, xs, q, fun it E1 s1 J H1 hold l1 r1 k1 jo hh q1 => ?_⟩
  generalize hL : it.its = L at q1
  refine ⟨fun i m ps H => m = L.length - i ∧ i ≤ L.length ∧ ∃ E s, Le E E1 ∧ Rel Φ E s σ H ∧ KB E1 H1 H ∧ SeenI H ps ∧ (∀ p ∈ ps, Rp H (ban Φ E) (tI p.2) (.ref p.1)) ∧ (∀ x ∈ hold, Hl H (ban Φ E) x) ∧ scS it b t a vs Qa (L.drop i) (ps.map (·.2)) s,
    ⟨L.length, by simp, Nat.zero_le _, E1, s1, .refl _, r1, .refl _ _, fun p hp => (by cases hp), fun p hp => (by cases hp), hh, q1⟩, ?_⟩
  rintro i m ps H2 ⟨rfl, hi, E2, s2, l2, r2, k2, sb, rb, hh2, q2⟩
  have chk2 : chkσ σ σ s2 it := by
    have := scS_chk q2
    cases it with
    | fix L => trivial
    | slt i L => exact ⟨rfl, this⟩
  obtain ⟨jgo, jst⟩ := jo Φ E2 s2 σ H2 r2 hh2 chk2 i
  by_cases hlt : i < L.length
  · obtain ⟨go, yl⟩ := jgo L[i] (by rw [hL]; exact List.getElem?_eq_getElem hlt)
    rw [List.drop_eq_getElem_cons hlt] at q2
    refine .inr ⟨go, fun x H3 y => ?_⟩
    obtain ⟨sm, rp⟩ := yl x H3 y
    have r3 := r2.same sm
    refine ⟨Φ, E2, s2.wipe vs, L[i], _, r3.wipe vs, rp, q2.2, fun s4 σ4 r4 o4 q4 => ?_⟩
    have hw := off_refl_wipe o4 hsl
    refine ⟨hw, Φ, E2, x0, s4, _, r4, xsim0 xs, q4, fun c E5 s5 H5 l5 r5 k5 q5 => ?_⟩
    have kk5 : KB E2 H2 H5 := (KB.of_same sm).trans (.refl _) k5
    refine ⟨fun p hp => (sb p hp).kb r2.lst kk5, ?_⟩
    cases c with
    | false =>
      refine iteF ⟨L.length - (i + 1), by omega, rfl, hlt, E5, _, l5.trans l2, r2.back r5 hw kk5 l5, k2.trans l2 kk5, fun p hp => (sb p hp).kb r2.lst kk5, fun p hp => rp_kbI (rb p hp) r2.lst kk5 l5, fun x hx => ((hh2 x hx).kb r2.lst kk5).wk l5.ban, unF q5⟩
    | true =>
      refine iteT ⟨Φ, E5, x0, s5, _, r5, xsim0 xs, unT q5, fun d E6 s6 v H6 l6 r6 k6 p6 q6 => ?_⟩
      obtain ⟨r0, rfl, l4, q6⟩ := q6
      have kk : KB E2 H2 H6 := kk5.trans l5 k6
      have ll := l6.trans l5
      obtain ⟨T, us, rfl, eT, ru⟩ := p6
      have eu := rp_ints ru
      subst eu
      have rpd : ∀ p ∈ ps, Rp H6 (ban Φ E6) (tI p.2) (.ref p.1) := fun p hp => rp_kbI (rb p hp) r2.lst kk ll
      refine ⟨T, r0, L.length - (i + 1), rfl, eT, fun p hp => (sb p hp).kb r2.lst kk, by rwa [List.length_map] at l4, by omega, rfl, hlt, E6, _, ll.trans l2, r2.back r6 hw kk ll, k2.trans l2 kk, fun p hp => ?_, fun p hp => ?_, fun x hx => ((hh2 x hx).kb r2.lst kk).wk ll.ban, by rw [List.map_append]; exact q6⟩
      · rcases List.mem_append.mp hp with hp | hp
        · exact (sb p hp).kb r2.lst kk
        · rw [List.mem_singleton.mp hp]
          exact eT
      · rcases List.mem_append.mp hp with hp | hp
        · exact rpd p hp
        · rw [List.mem_singleton.mp hp]
          exact ⟨T, _, rfl, eT, ru⟩
  · have e : i = L.length := by omega
    subst e
    rw [List.drop_length] at q2
    refine .inl ⟨jst (by rw [hL]), sb, fun p hp => q2.2.1 _ (List.mem_map.mpr ⟨p, hp, rfl⟩), fun L' p h1 h2 h3 _ h5 hp => ?_⟩
    have em : L'.map (·.2) = ssI (ps.map (·.2)) := ssI_of h3 (fun z => ⟨fun hz => by
      obtain ⟨q, hq, rfl⟩ := List.mem_map.mp hz
      exact List.mem_map.mpr ⟨q, h1 q hq, rfl⟩, fun hz => by
      obtain ⟨q, hq, rfl⟩ := List.mem_map.mp hz
      exact h2 q hq⟩) (List.pairwise_map.mpr h5)
    have ra := seenI_rp h1 rb
    have m := same_upd (o := .lst (L'.map fun q => V.ref q.1)) hp
    refine k _ E2 s2 p _ _ (l2.trans l1) (r2.same m) (r2.add j hp m upd_same) ((k1.trans l1 k2).trans (l2.trans l1) (KB.of_same m)) upd_same (RpAll.same (RpAll.fresh (fun a ha => ?_) ra) m) (r2.newban hp) (by rw [em]; exact q2.2.2)
    rcases mem_ban_add ha with h | h
    · rw [h]; exact .inr hp
    · exact .inl h
theorem af_sortSC {w : Bool} (j : Nat) {elt tg iter : Expr} {ifs : List Expr} {scope : Scope} {own : List (PySem.Str × Nat)} {p1 p2 pos : Pos} {ai : AI} {sl : List Nat} {b : AB} {t : AT} {a : AE} (hu : X.A.units + 64 < cLine) (g1 : Gl X "sorted") (m1 : X.mg "sorted" = none) (hc : X.calm = true) (hN : X.N.Nodup) (hi : PI X tg iter (cI w Ec ai)) (ok : BlkOk X.N X.env.scope scope own)
    (hg : ∀ (s : Shared) (H : Hp) (C : Addr) (cl : List (PySem.Str × Addr)) (fp : List Addr), PG (X.blk s H scope (compEnvC scope cl C X.env) fp) tg (cG w sl b))
    (ht : ∀ (s : Shared) (H : Hp) (C : Addr) (cl : List (PySem.Str × Addr)) (fp : List Addr), PTs (X.blk s H scope (compEnvC scope cl C X.env) fp) ifs (cT Ec.z t))
    (he : ∀ (s : Shared) (H : Hp) (C : Addr) (cl : List (PySem.Str × Addr)) (fp : List Addr), PE (X.blk s H scope (compEnvC scope cl C X.env) fp) elt (cE Ec.z a)) (hsl : ∀ i ∈ sl, i ∈ own.map (·.2) := by decide) (hs : ∀ x, foldedSetIterable iter X.env x = pure x := by intro _; rfl) :
    PE X (.Call (.Name "sorted" p1) [.SetComp elt [⟨tg, iter, ifs, 0⟩] scope p2] [] pos) (cF j Ec (aSortSC ai b t a (own.map (·.2)))) := (pe_sortSC hc hu g1 m1 hN hi ok hg ht he hs).sub fun _ _ _ h => sortSC_ok hsl h
end
end TR
namespace TR
open PySem PySem.Spec PyProof.Rows L2
section
variable {s s1 : AS}
theorem scS_go {α : Type} {it : AIt} {b : AB} {t : AT} {a : AE} {vs : List Nat} (f : α → PyData) (p : α → Bool) (v : α → List Int) (s2 s3 : α → AS) (hc : it.chk s1) (Q : PyData → AS → Prop) : ∀ (l : List α) (acc : List (List Int)), acc.length + l.length ≤ 60 → (∀ r ∈ acc ++ (l.filter p).map v, r ≠ []) →
    (∀ x ∈ l, BV b (f x) (s1.wipe vs) (s2 x)) → (∀ x ∈ l, TV t (s2 x) (p x) (s2 x)) → (∀ x ∈ l, p x = true → EV a (s2 x) (eQ PyData.int (v x)) (s3 x)) → (∀ x ∈ l, back vs s1 (s2 x) = s1 ∧ back vs s1 (s3 x) = s1) →
    Q (.list ((ssI (acc ++ (l.filter p).map v)).map tI)) s1 → scS it b t a vs Q (l.map f) acc s1
  | [], acc, _, hn, _, _, _, _, q => ⟨hc, fun r hr => hn r (List.mem_append_left _ hr), by rw [List.filter_nil, List.map_nil, List.append_nil] at q; exact q⟩
  | x :: l, acc, hl, hn, hb, ht, ha, hk, q => by
    rw [List.length_cons] at hl
    refine ⟨hc, hb x List.mem_cons_self _ (ht x List.mem_cons_self _ _ ?_)⟩
    cases hp : p x with
    | true =>
      rw [List.filter_cons_of_pos hp, List.map_cons] at q hn
      refine iteT (ha x List.mem_cons_self hp _ _ ⟨v x, rfl, by omega, ?_⟩)
      rw [(hk x List.mem_cons_self).2]
      refine scS_go f p v s2 s3 hc Q l _ (by rw [List.length_append]; simp only [List.length_cons, List.length_nil]; omega) (fun r hr => hn r (by rw [List.append_assoc] at hr; exact hr)) (fun y hy => hb y (List.mem_cons_of_mem _ hy)) (fun y hy => ht y (List.mem_cons_of_mem _ hy)) (fun y hy => ha y (List.mem_cons_of_mem _ hy)) (fun y hy => hk y (List.mem_cons_of_mem _ hy)) ?_
      rw [List.append_assoc]
      exact q
    | false =>
      rw [List.filter_cons_of_neg (by rw [hp]; exact Bool.false_ne_true)] at q hn
      refine iteF ?_
      rw [(hk x List.mem_cons_self).1]
      exact scS_go f p v s2 s3 hc Q l _ (by omega) hn (fun y hy => hb y (List.mem_cons_of_mem _ hy)) (fun y hy => ht y (List.mem_cons_of_mem _ hy)) (fun y hy => ha y (List.mem_cons_of_mem _ hy)) (fun y hy => hk y (List.mem_cons_of_mem _ hy)) q
theorem ev_sortSC {α : Type} (f : α → PyData) (p : α → Bool) (v : α → List Int) (s2 s3 : α → AS) {l : List α} {it : AIt} {ai : AI} {b : AB} {t : AT} {a : AE} {vs : List Nat} (hi : IV ai s it s1) (hl : l.length ≤ 60 ∧ ∀ x ∈ l, p x = true → (v x).length ≠ 0) (hit : it.its = l.map f) (hc : it.chk s1)
    (hb : ∀ x ∈ l, BV b (f x) (s1.wipe vs) (s2 x)) (ht : ∀ x ∈ l, TV t (s2 x) (p x) (s2 x)) (ha : ∀ x ∈ l, p x = true → EV a (s2 x) (eQ PyData.int (v x)) (s3 x)) (hk : ∀ x ∈ l, back vs s1 (s2 x) = s1 ∧ back vs s1 (s3 x) = s1) : EV (aSortSC ai b t a vs) s (eL (eQ PyData.int) (ssI ((l.filter p).map v))) s1 := fun xp Q q => hi xp _ (by
  rw [hit]
  refine scS_go f p v s2 s3 hc Q l [] (by simpa using hl.1) (fun r hr => ?_) hb ht ha hk (by rw [List.nil_append]; exact q)
  rw [List.nil_append] at hr
  obtain ⟨x, hx, rfl⟩ := List.mem_map.mp hr
  obtain ⟨hx, px⟩ := List.mem_filter.mp hx
  intro z
  exact hl.2 x hx px (by rw [z]; rfl))
end
end TR
namespace TR
open PySem PySem.Spec PyProof.Rows L2
/-! ### dicts with tuple keys: k in d, d[k], d.get(k, x), d[k] = v, sorted(list(d)), for k in d (which stays locked) -/
section
variable {X : Cx} {pins : List (Addr × Obj)} {σ : L2.St} {H : Hp} {s : Shared} {a : Addr}
end
section
variable {X : Cx} {o i e f value : Expr} {pos pos' apos cpos : Pos} {td ty tx tv : TE}
end
end TR
namespace TR
open PySem PySem.Spec PyProof.Rows L2
/-! ### the layer of data -/
section
variable {X : Cx} {Ec : EC}
end
/-! natively -/
section
variable {s s1 s2 s3 : AS}
end
end TR
namespace TR
open PySem PySem.Spec PyProof.Rows L2
/-! ### list(d), d a dict with tuple keys -/
section
variable {X : Cx}
end
section
variable {X : Cx} {Ec : EC}
end
end TR
namespace PySem
namespace XNoTasterX
open PySem.W PySem.Calls PyProof.Rows PySem.HandSPX
/-! ### the text of __init__ -/
def iA (p1 p2 : Pos) : Arguments := { posonlyargs := [], args := [{ arg := "self", annotation := none, pos := p1 }, { arg := "taster", annotation := none, pos := p2 }], vararg := none, kwonlyargs := [], kw_defaults := [], kwarg := none, defaults := [] }
def iB (q1 q2 q3 q4 : Pos) : List Stmt := [.Assign [.Attribute (.Name "self" q1) "taster" q2] (.Name "taster" q3) q4]
def iS : Scope := { kind := .function, names := [(PySem.Str.ofString "self", .local), (PySem.Str.ofString "taster", .local)], isGenerator := false, isCoroutine := false, more := [] }
/-- what the written part says of Low, at C, and of its __init__, at fI -/
structure XNoTasterTxt (K : Frag) (mg : Str → Option Value) (C fI : Addr) : Prop where
  gC : mg "NoTaster" = some (.ref C)
  cls : ∃ nm q N bs bm sn sub ab col dd k0 k1 k2 k3 k5, K.lookup C = some (excClassObj nm q C N bs bm true sn sub ab col dd k0 k1 k2 k3 k5 "ValueError.__new__") ∧ refsVE bm = true
  sa : findIn K (.ref C) "__setattr__" = some (some (.builtin "object.__setattr__"))
  ga : findIn K (.ref C) "__getattribute__" = some (some (.builtin "BaseException.__getattribute__"))
  gg : findIn K (.ref C) "__getattr__" = some none
  noN : findIn K (.ref C) "taster" = some none
  iC : findIn K (.ref C) "__init__" = some (some (.ref fI))
  tC : typeIn K (.ref fI) = some (.type "function")
  kC : keepIn K (.ref C) = true
  exC : subIn K (.ref C) (.type "BaseException") = some true
  tyC : typeIn K (.ref C) = some (.type "type")
  hdC : hasDictIn K C = true
  te : exmOne K (.ref C) (.ref C) = some true
  fn : ∃ (oc : Value) (od : Option Addr) (doc pm : Value) (an : Option Addr) (cdv ct : Value) (osl : Array (Option Value)) (p1 p2 q1 q2 q3 q4 : Pos),
    K.lookup fI = some ⟨oc, od, .func (fnOf "__init__" "NoTaster.__init__" (iA p1 p2) (iB q1 q2 q3 q4) iS .none .none doc pm an cdv ct), osl⟩ ∧ codeIn K cdv "NoTaster.__init__" = true
theorem one_size (v : Value) : [v].length ≤ sizeLine := by
  rw [sizeLine_eq]
  exact (by decide : 1 ≤ 16777216)
theorem ldC {M : Model} {s : Shared} {name : Str} {scope : Scope} {L a : Addr} {cd : Value} {m : Str → Option Value} {x : Str} {pos : Pos} {v : Value} {Q : Value → Shared → Prop} {A : Around} {E : Value → Shared → Prop} (hn : s.heap.Ns L m) (hv : m x = some v) (h : Q v s)
    (hk : scope.kind = .function := by rfl) (hl : (envOfC name scope L a cd).kindOf x = some .local := by rfl) (hd : (x == ("__debug__" : Str)) = false := by decide) :
    wpAny M A (eval (.Name x pos) (envOfC name scope L a cd)) Q E s := wpAny_Name (wpAny_loadName_local hk hl hn hv h) hd
/-- what __init__ leaves of a fresh exception at x -/
structure InitEnd (h h' : Heap) (x C dx t1 : Addr) (v : Value) : Prop where
  keep : ∀ b o, b ≠ x → h.get? b = some o → h'.get? b = some o
  obj : h'.get? x = some { cls := .ref C, dict := some dx, data := .fields #[.ref t1, .none, .none, .none, .bool false, .none] }
  dbig : h.objs.size ≤ dx
  dne : dx ≠ x
  ns : h'.Ns1 dx (fun y => if y = "taster" then some v else none)
/-- a made Low -/
structure OwnMade (h h' : Heap) (e C d : Addr) (v : Value) : Prop where
  keep : ∀ b o, h.get? b = some o → h'.get? b = some o
  new : h.objs.size ≤ e
  obj : ∃ oe vs, h'.get? e = some oe ∧ oe.cls = .ref C ∧ oe.dict = some d ∧ oe.data = .fields vs ∧ vs[1]? = some .none
  dbig : h.objs.size ≤ d
  dne : d ≠ e
  ns : h'.Ns1 d (fun y => if y = "taster" then some v else none)
section
variable {prog : Program} {w : World} {A : Around} {E : Value → Shared → Prop} {R : Result → Shared → Prop} {s : Shared} {K : Frag} {mg : Str → Option Value} {C fI : Addr}
theorem xnotaster_init (T : XNoTasterTxt K mg C fI) {x t0 : Addr} {v : Value} (X : K.In s.heap) (hlim : s.heap.NoLimit) (hx : s.heap.get? x = some (excO C t0)) (hnx : K.lookup x = none) (hroom : A.depth < recursionLimit)
    (hq : ∀ h' tk dx, InitEnd s.heap h' x C dx t0 v → R (.ok (.ret .none)) { s with heap := h', toks := tk }) :
    codeAny (model prog w) A (.call (.ref fI) ⟨[.ref x, v], []⟩) R s := by
  obtain ⟨oc, od, doc, pm, an, cdv, ct, osl, p1, p2, q1, q2, q3, q4, ho, hcd⟩ := T.fn
  obtain ⟨nm, q, N, bs, bm, sn, sub, ab, col, dd, k0, k1, k2, k3, k5, hC, hbm⟩ := T.cls
  have hcl : clsIn K C = some { name := nm, bases := bs, mro := .ref C :: bm, ns := N, qualname := q, hasDict := true, slotNames := sn, subclasses := sub, abstract := ab, collection := col, hasDel := false } := by unfold clsIn; rw [hC] <;> rfl
  refine Att.call_fn (binds := [("self", .ref x), ("taster", v)]) X hlim ho hcd hroom (BindsTo.of_eq (by first | rfl | with_unfolding_all rfl)) (by first | rfl | decide | with_unfolding_all rfl) (fun s₁ IC => ?_) rfl rfl rfl
  obtain ⟨h₁, tk₁, rfl⟩ := IC.toInCall.same
  have k : ∀ b o, s.heap.get? b = some o → h₁.get? b = some o := IC.toInCall.keep
  have hn := IC.toInCall.ns
  have hxL : s.heap.objs.size ≠ x := Nat.ne_of_gt (Heap.lt_size hx)
  have X₁ : K.In h₁ := X.keeps k
  have hx₁ := k _ _ hx
  -- self.by = by
  show wpAny _ _ (execs _ _) _ _ _
  refine wpAny_execs_cons (plainObj_wpAny_Assign_Attribute ?_)
  refine ldC (v := v) hn (by first | rfl | with_unfolding_all rfl | kernel_rfl) (ldC (v := .ref x) hn (by first | rfl | with_unfolding_all rfl | kernel_rfl) ?_)
  refine set_plain X₁ (ox := excO C t0) (od := none) ⟨hx₁, rfl, rfl, trivial⟩ T.sa ?_
  refine exc_osa X₁ hx₁ hcl (show refsVE (.ref C :: bm) = true from hbm) rfl T.noN (fun h₃ tk₃ dx k₃ dn dne hx₃ hn₃ => ?_)
  show wpAny _ _ (execs _ _) _ _ _
  have z : s.heap.objs.size < h₁.objs.size := hn.lt
  exact wpAny_execs_nil (hq h₃ tk₃ dx ⟨fun b o hb e => k₃ b o hb (k b o e), hx₃, Nat.le_of_lt (Nat.lt_of_lt_of_le z dn), dne, hn₃⟩)
theorem xnotaster_made (T : XNoTasterTxt K mg C fI) {v : Value} (X : K.In s.heap) (hlim : s.heap.NoLimit) (hroom : A.depth + 1 < recursionLimit)
    (hq : ∀ h' tk e d, OwnMade s.heap h' e C d v → R (.ok (.ret (.ref e))) { s with heap := h', toks := tk }) :
    codeAny (model prog w) A (.call (.ref C) ⟨[v], []⟩) R s := by
  obtain ⟨nm, q, N, bs, bm, sn, sub, ab, col, dd, k0, k1, k2, k3, k5, hC, hbm⟩ := T.cls
  obtain ⟨hp, g, dr, tk, os⟩ := s
  have k : ∀ b o, hp.get? b = some o → ((hp.push (kdv_tup [v])).push (excO C hp.objs.size)).get? b = some o := fun b o e => Heap.get?_push_of_some _ (Heap.get?_push_of_some _ e)
  have hget : ((hp.push (kdv_tup [v])).push (excO C hp.objs.size)).get? (hp.objs.size + 1) = some (excO C hp.objs.size) := by heap_get
  have hnx : K.lookup (hp.objs.size + 1) = none := by
    cases e : K.lookup (hp.objs.size + 1) with
    | none => rfl
    | some o =>
      have z : hp.get? (hp.objs.size + 1) = some o := X _ _ e
      exact absurd (Nat.lt_of_succ_lt (Heap.lt_size z)) (Nat.lt_irrefl _)
  refine call_own F.excBase_ValueError (fun X => refsVE_contains X bm hbm) (X _ _ hC) (looks_findIn X T.iC) (fun self => bind_fn X self T.tC) (one_size v) ?_
  refine xnotaster_init (s := ⟨(hp.push (kdv_tup [v])).push (excO C hp.objs.size), g, dr, tk, os⟩) T (X.keeps k) (hlim.keeps k) hget hnx ?_ fun h' tk' dx ⟨k', hx, dn, dne, hns⟩ => ?_
  · show A.depth + 1 < recursionLimit
    exact hroom
  · have old : ∀ b o, hp.get? b = some o → h'.get? b = some o := fun b o e => k' b o (Nat.ne_of_lt (Nat.lt_succ_of_lt (Heap.lt_size e))) (k b o e)
    have z : hp.objs.size + 1 + 1 ≤ dx := by
      first
        | (simpa only [Heap.size_push] using dn)
        | exact dn
        | (have q := dn; rw [Heap.size_push, Heap.size_push] at q; exact q)
    exact ⟨rfl, hq h' tk' (hp.objs.size + 1) dx ⟨old, Nat.le_succ _, ⟨_, _, hx, rfl, rfl, rfl, rfl⟩, Nat.le_trans (Nat.le_trans (Nat.le_succ _) (Nat.le_succ _)) z, dne, hns⟩⟩
end
end XNoTasterX
end PySem
namespace L2
open PySem PySem.Spec PyProof.Rows
theorem relO_xnotaster {v : V} {v' : Value} (r : RelV v v') (f : Str) : RelO (List.lookup f [(("taster" : Str), v)]) (if f = "taster" then some v' else none) := by
  by_cases hw : f = "taster"
  · subst hw
    rw [if_pos rfl]
    have q : List.lookup ("taster" : Str) [(("taster" : Str), v)] = some v := by simp [List.lookup]
    rw [q]
    exact r
  · rw [if_neg hw]
    have qw : (f == ("taster" : Str)) = false := by simpa using hw
    have q2 : List.lookup f [(("taster" : Str), v)] = none := by simp [List.lookup, qw]
    rw [q2]
    trivial
section
variable {X : Cx} {C fI : Addr}
/-- Low(e) -/
def tMkXNoTaster (C : Addr) (ta : TA) : St → Hp → XK → Prop := fun σ H Q => ta σ H fun vs H1 => ∃ v, vs = [v] ∧ ∀ d, H1 d = none → Q (.ref C) (some d) (upd H1 d (.xd [(("taster" : Str), v)]))
theorem pmk_xnotaster {a : Expr} {ta : TA} {p pos : Pos} {k : Nat} (T : PySem.XNoTasterX.XNoTasterTxt X.K X.mg C fI) (hr : Room k X.A) (ha : PA X [a] ta) (hg : Gl X "NoTaster" := by rfl)
    (he : starEach (a :: []) X.env = (false, eval a X.env) :: starEach [] X.env := by rfl) (hpl : (backTo pos (starEach [] X.env)).any (·.1) = false := by rfl) :
    PMk X (.Call (.Name "NoTaster" p) [a] [] pos) (tMkXNoTaster C ta) := by
  intro pins s σ H Q I h
  refine wpAny_Call_Name_kw (ld_glob I hg T.gC ?_)
  refine PySem.W.callWith_K (h₀ := X.base) I.ok.mod.kin T.kC (thn (ha.run pos pins s σ H _ I h) fun us s1 hh => ?_) he hpl
  obtain ⟨vs, H1, I1, r1, v, ev, q1⟩ := hh
  subst ev
  refine ⟨I1.kIn, ?_⟩
  cases r1 with
  | cons rv rn =>
    rename_i v' us'
    cases rn
    show wpAny _ _ (call (.ref C) [v']) _ _ _
    have hlim := I1.nolimit
    obtain ⟨hp, g, dr, tk, os⟩ := s1
    refine wpAny_call (PySem.XNoTasterX.xnotaster_made T I1.kIn hlim (by have := hr.dp; omega) fun h' tk' e d M => ?_)
    show MkP X pins σ Q (.ref e) ⟨h', g, dr, tk', os⟩
    obtain ⟨oe, fv, hoe, hc, hd, hdat, h1⟩ := M.obj
    have hns := M.ns
    obtain ⟨G', g1, g2⟩ := restrict h' fun b => decide (b ≠ e)
    have gk : ∀ b, b ≠ e → G'.get? b = h'.get? b := fun b hb => g1 b (decide_eq_true hb)
    have ge : G'.get? e = none := g2 e (by simp)
    have old : ∀ b o, hp.get? b = some o → G'.get? b = some o := fun b o q => (gk b (Nat.ne_of_lt (Nat.lt_of_lt_of_le (Heap.lt_size q) M.new))).trans (M.keep b o q)
    have ob : ObjOk X.prog X.w (upd H1 d (.xd [(("taster" : Str), v)])) G' d (.xd [(("taster" : Str), v)]) :=
      ⟨_, hns.at (fun o q => (gk d M.dne).trans q), fun f => relO_xnotaster rv f⟩
    have J : Inv X pins σ (upd H1 d (.xd [(("taster" : Str), v)])) ⟨G', g, dr, tk', os⟩ := I1.laid (t' := tk') old M.dbig ob
    refine ⟨e, oe, fv, ⟨G', g, dr, tk', os⟩, _, .ref C, some d, rfl, J, fun b o q => ?_, ge, hoe, ⟨hc, hd⟩, hdat, h1, ?_, rfl, I1.bare, raises_own T.exC T.tyC, q1 d (I1.hok.fresh M.dbig)⟩
    · by_cases hb : b = e
      · have q' : G'.get? b = some o := q
        rw [hb, ge] at q'; cases q'
      · exact (gk b hb).symm.trans q
    · rw [upd_ne (Ne.symm M.dne)]
      exact I1.hok.fresh M.new
/-- raise Low(e) -/
def tRaiseXNoTaster (C : Addr) (W : WX) (ta : TA) : TS := fun _ σ H => tMkXNoTaster C ta σ H fun cls d H' => W cls d σ H'
theorem ps_raiseXNoTaster {a : Expr} {ta : TA} {W : WX} {p pos pos2 : Pos} {k : Nat} (hc : X.calm = true) (T : PySem.XNoTasterX.XNoTasterTxt X.K X.mg C fI) (hr : Room k X.A) (tk : Takes X W) (ha : PA X [a] ta) (hg : Gl X "NoTaster" := by rfl)
    (he : starEach (a :: []) X.env = (false, eval a X.env) :: starEach [] X.env := by rfl) (hpl : (backTo pos (starEach [] X.env)).any (·.1) = false := by rfl) :
    PS X (.Raise (some (.Call (.Name "NoTaster" p) [a] [] pos)) none pos2) (tRaiseXNoTaster C W ta) := ps_raise hc tk (pmk_xnotaster T hr ha hg he hpl)
end
end L2

namespace TR
open PySem PySem.Spec PyProof.Rows L2
def topS (i : Nat) : Stmt := PySem.Challenge.pw_tasterow_k11_splits.main.body.getD i (.Pass ⟨0, 0, 0, 0⟩)
abbrev s_TasteError : Stmt := topS 1
abbrev s_NoRanking : Stmt := topS 2
abbrev s_NoTaster : Stmt := topS 3
abbrev s_NoDish : Stmt := topS 4
abbrev s_is_whole : Stmt := topS 6
abbrev s_is_within : Stmt := topS 7
abbrev s_ascending_tuples : Stmt := topS 8
abbrev s_all_pairs : Stmt := topS 10
abbrev s_prefers : Stmt := topS 11
abbrev s_rankings_of : Stmt := topS 13
abbrev s_is_taster_number : Stmt := topS 14
abbrev s_sides : Stmt := topS 16
abbrev s_split_by : Stmt := topS 17
abbrev s_splits : Stmt := topS 18
abbrev sDeck : Stmt := topS 20
abbrev sNext : Stmt := topS 21
abbrev s__law_one : Stmt := topS 22
abbrev s__law_same : Stmt := topS 23
abbrev s__law_whole : Stmt := topS 24
abbrev s__law_odd : Stmt := topS 25
abbrev s__law_people : Stmt := topS 26
abbrev s__law_list : Stmt := topS 27
abbrev s__law_exchanged : Stmt := topS 28
abbrev s__law_road : Stmt := topS 29
abbrev s__law_seated : Stmt := topS 30
abbrev s__law_any : Stmt := topS 31
abbrev s__law_table : Stmt := topS 32
abbrev s__law_pairs : Stmt := topS 33
abbrev s__law_sides : Stmt := topS 34
abbrev s__law_runs : Stmt := topS 35
abbrev s__law_due : Stmt := topS 36
abbrev s__law_told : Stmt := topS 37
abbrev s_law : Stmt := topS 38
end TR
namespace TR
open PySem PySem.Spec PyProof.Rows L2
section
variable {P : Program} {w : World} {K : PySem.W.Frag} {mg : Str → Option Value} {base : Heap}
def spLaw (K : PySem.W.Frag) : Sp := fun vs H Q _ => ∃ (a : Addr) (ns : List Int), vs = [.ref a] ∧ SqL K H a (ns.map V.int) ∧ ns.length ≤ 63 ∧ ∀ H', Q (.bl true) H'
end
end TR
namespace TR
open PySem PySem.Spec PyProof.Rows L2
theorem scDeck : FnScope ["_law_script", "_law_cells", "_law_cell"] ["_law_script"] (defScope sDeck) := ⟨rfl, rfl, rfl, by decide +kernel, rfl, by decide +kernel, by decide +kernel⟩
section
variable {P : Program} {w : World} {K : PySem.W.Frag} {mg : Str → Option Value} {base : Heap}
def spDeck (K : PySem.W.Frag) : Sp := fun vs H Q _ => ∃ (a : Addr) (ns : List Int), vs = [.ref a] ∧ SqL K H a (ns.map V.int) ∧ ns.length ≤ 63 ∧
  ∀ H' d p q, Same H H' → Deck H' d p q 0 → Q (.ref d) H'
theorem ok_deck {f : Addr} {fd : FuncData} {k : Nat} (F : Fun K "_law_deck" "_law_deck" sDeck f fd) (mabs : mg "abs" = none) (mlen : mg "len" = none) : FnOk P w K mg base CX0 (k + 1) f fd ["_law_script"] (spDeck K) := by
  refine F.ok scDeck (fun vs H Q E h => ?_) (fun cdv A outer s H vs Q E hr h => ?_)
  · obtain ⟨a, ns, rfl, _⟩ := h
    rfl
  · obtain ⟨a, ns, rfl, hS, hlen, q⟩ := h
    refine ⟨_, pss_cons (ps_setLc (i := 1) (own := [("_law_cell", 2)]) (g := gName 2) (tt := tYes) (by rfl) scDeck.nd rfl rfl (sw_true rfl rfl rfl (by decide +kernel)) (pi_list (pv 0))
        (blkOk_by (own := [("_law_cell", 2)]) (N := ["_law_script", "_law_cells", "_law_cell"]) (sc := defScope sDeck) (by decide +kernel)) (fun _ _ _ _ _ => pg_name (i := 2) scDeck.nd rfl (Or.inl rfl)) (fun _ _ _ _ _ => pts_nil)
        (fun _ _ _ _ _ => pe_callB call_abs (by rfl) mabs (by decide +kernel) (pa_cons (pv 2) pa_nil)))
      (pss_one (ps_ret (pe_lst (pa_cons
        (pe_lc (own := [("_law_cell", 2)]) (g := gName 2) (by rfl) scDeck.nd (pi_list (pv 1))
          (blkOk_by (own := [("_law_cell", 2)]) (N := ["_law_script", "_law_cells", "_law_cell"]) (sc := defScope sDeck) (by decide +kernel)) (fun _ _ _ _ _ => pg_name (i := 2) scDeck.nd rfl (Or.inl rfl))
          (fun _ _ _ _ _ => pts_one (pt_cmpR op_ge (pv 2) (pe_op op_pow pe_int pe_int) (nomark _)))
          (fun _ _ _ _ _ => pv 2))
        (pa_cons (pe_op op_cat (pv 1) (pe_lst (pa_cons (pe_op op_add (pe_callB call_len_seq (by rfl) mlen PySem.boot_len (pa_cons (pv 1) pa_nil)) pe_int) pa_nil)))
        (pa_cons pe_int pa_nil)))))), ?_⟩
    refine ⟨.ref a, rfl, a, rfl, ⟨_, hS⟩, fun D hD => lc_list (K := K) (a := a) (xs := ns.map V.int) (fun i H1 => Same H H1 ∧ ∃ zs : List Int, zs.length ≤ i ∧ H1 D = some (.lst (zs.map V.int))) ⟨same_upd hD, [], Nat.zero_le _, upd_same⟩ (fun i H1 _ h => h.1.seq hS) (fun i x H1 hx h => ?_) (fun H1 h => ?_)⟩
    · obtain ⟨sm, zs, hz, hd⟩ := h
      obtain ⟨z, hz1, rfl⟩ : ∃ z, ns[i]? = some z ∧ x = .int z := by
        rw [List.getElem?_map] at hx
        cases e : ns[i]? with
        | none => rw [e] at hx; cases hx
        | some z => rw [e] at hx; exact ⟨z, rfl, (Option.some.inj hx).symm⟩
      have hi : i < ns.length := (List.getElem?_eq_some_iff.mp hz1).1
      refine ⟨rfl, .int z, rfl, z, rfl, _, hd, ?_, same_upd2 sm hD, zs ++ [if z < 0 then -z else z], ?_, ?_⟩
      · rw [List.length_map]
        exact small1000 (by omega)
      · rw [List.length_append]
        show zs.length + 1 ≤ i + 1
        omega
      · rw [upd_same, List.map_append]
        rfl
    · obtain ⟨sm, zs, hz, hd⟩ := h
      rw [List.length_map] at hz
      refine ⟨.ref D, rfl, D, rfl, ⟨_, sqL hd⟩, fun p hp => lc_list (K := K) (a := D) (xs := zs.map V.int) (fun i H2 => Same H1 H2 ∧ ∃ ys : List Int, ys.length ≤ i ∧ H2 p = some (.lst (ys.map V.int))) ⟨same_upd hp, [], Nat.zero_le _, upd_same⟩ (fun i H2 _ h => h.1.seq (sqL hd)) (fun i x H2 hx h => ?_) (fun H2 h => ?_)⟩
      · obtain ⟨sm2, ys, hy, hd2⟩ := h
        obtain ⟨z, hz1, rfl⟩ : ∃ z, zs[i]? = some z ∧ x = .int z := by
          rw [List.getElem?_map] at hx
          cases e : zs[i]? with
          | none => rw [e] at hx; cases hx
          | some z => rw [e] at hx; exact ⟨z, rfl, (Option.some.inj hx).symm⟩
        have hi : i < zs.length := (List.getElem?_eq_some_iff.mp hz1).1
        refine ⟨rfl, .int z, rfl, 10, 18, rfl, rfl, ⟨by decide, by decide, by decide⟩, _, _, rfl, rfl, _, rfl, ite2 (fun _ => ?_) (fun _ => ?_)⟩
        · refine ⟨.int z, rfl, _, hd2, ?_, same_upd2 sm2 hp, ys ++ [z], ?_, ?_⟩
          · rw [List.length_map]
            exact small1000 (by omega)
          · rw [List.length_append]
            show ys.length + 1 ≤ i + 1
            omega
          · rw [upd_same, List.map_append]
            rfl
        · exact ⟨sm2, ys, by omega, hd2⟩
      · obtain ⟨sm2, ys, hy, hd2⟩ := h
        have hD2 : H2 D = some (.lst (zs.map V.int)) := sm2 _ _ hd
        rw [List.length_map] at hy
        refine ⟨.ref D, rfl, .ref D, rfl, D, _, rfl, .inl (sqL hD2), _, _, rfl, rfl, by show 1 ≤ sizeLine; decide, fun t ht => ?_⟩
        have nDt : D ≠ t := ne_of_none hD2 ht
        refine ⟨D, t, _, _, rfl, rfl, (by rw [upd_ne nDt]; exact hD2), upd_same, ?_, fun q' hq' => ?_⟩
        · rw [List.length_map]
          show zs.length + 1 ≤ sizeLine
          exact Nat.le_of_lt (small1000 (by omega))
        · have e : zs.map V.int ++ [V.int (((zs.map V.int).length : Int) + 5)] = (zs ++ [((zs.map V.int).length : Int) + 5]).map V.int := by
            rw [List.map_append]
            rfl
          refine ⟨by show 3 ≤ sizeLine; decide, fun d hd' => q _ d p q' ?_ ⟨ys.length, ⟨⟨ys, zs ++ [((zs.map V.int).length : Int) + 5], 0, upd_same, ?_, ?_, Int.le_refl _, Int.le_refl _, by simp, rfl⟩, ?_, ?_, ?_⟩⟩⟩
          · exact (sm.trans sm2).trans ((same_upd ht).trans ((same_upd hq').trans (same_upd hd')))
          · exact ((same_upd ht).trans ((same_upd hq').trans (same_upd hd'))) _ _ hd2
          · rw [← e]
            exact (same_upd hd') _ _ upd_same
          · exact (ne_of_none (((same_upd ht).trans (same_upd hq')) _ _ hd2) hd').symm
          · exact (ne_of_none (upd_same (H := upd H2 t _)) hd').symm
          · exact ne_of_none ((same_upd ht) _ _ hd2) hq'
end
end TR
namespace TR
open PySem PySem.Spec PyProof.Rows L2
theorem scNext : FnScope ["_law_deck_here", "_law_many", "_law_rest", "_law_cell", "_law_mixed"] ["_law_deck_here", "_law_many"] (defScope sNext) := ⟨rfl, rfl, rfl, by decide +kernel, rfl, by decide +kernel, by decide +kernel⟩
theorem ixN_zero {n : Nat} (h : 0 < n) : ixN n 0 = some 0 := by
  unfold ixN
  rw [if_pos (Int.le_refl _), if_pos (by omega)]
  rfl
section
variable {P : Program} {w : World} {K : PySem.W.Frag} {mg : Str → Option Value} {base : Heap}
def spNext : Sp := fun vs H Q _ => ∃ (d p q : Addr) (n : Nat) (m : Int), vs = [.ref d, .int m] ∧ Deck H d p q n ∧ n ≤ 1000000 ∧ 0 < m ∧ m ≤ 400000000000000 ∧
  ∀ H' r, 0 ≤ r → r < m → Deck H' d p q (n + 1) → Keep d p H H' → Q (.int r) H'
theorem ok_next {f : Addr} {fd : FuncData} {k : Nat} (F : Fun K "_law_next" "_law_next" sNext f fd) (mlen : mg "len" = none) : FnOk P w K mg base CX0 (k + 1) f fd ["_law_deck_here", "_law_many"] spNext := by
  refine F.ok scNext (fun vs H Q E h => ?_) (fun cdv A outer s H vs Q E hr h => ?_)
  · obtain ⟨d, p, q, n, m, rfl, _⟩ := h
    rfl
  · obtain ⟨d, p, q, n, m, rfl, ⟨l0, D0⟩, hn, hm0, hm1, qq⟩ := h
    refine ⟨_, pss_cons (ps_while PassesOwn.never (pt_cmpR (op_neD hr.units) (pe_ix ix_list (pv 0) pe_int (fun _ _ => rfl)) (pe_lst pa_nil) (nomark _))
        (pss_cons (ps_set (i := 2) scNext.nd rfl (.inl rfl) (pe_ix ix_list (pe_ix ix_list (pv 0) pe_int (fun _ _ => rfl)) pe_int (fun _ _ => rfl)))
        (pss_cons (ps_if (pt_cmpR op_gt (pv 2) pe_int (nomark _))
          (pss_cons (ps_asg (pe_op op_fdivW (pv 2) (pv 1)) (pg_sub (pe_ix ix_list (pv 0) pe_int (fun _ _ => rfl)) pe_int set_list))
          (pss_one (ps_ret (pe_op op_mod (pv 2) (pv 1))))) pss_nil)
        (pss_one (ps_expr (pe_bm PySem.F.plainAttrs_list PySem.F.slot_list_pop PySem.F.type_list_pop mt_popAt (pe_ix ix_list (pv 0) pe_int (fun _ _ => rfl)) (pa_cons pe_int pa_nil)))))))
      (pss_cons (ps_asg (pe_op op_add (pe_ix ix_list (pv 0) pe_int (fun _ _ => rfl)) pe_int) (pg_sub (pv 0) pe_int set_list))
      (pss_cons (ps_set (i := 3) scNext.nd rfl (.inl rfl) (pe_op op_mod (pe_ix ix_list (pe_ix ix_list (pv 0) pe_int (fun _ _ => rfl)) (pe_op op_mod (pe_ix ix_list (pv 0) pe_int (fun _ _ => rfl)) (pe_callB call_len_seq (by rfl) mlen PySem.boot_len (pa_cons (pe_ix ix_list (pv 0) pe_int (fun _ _ => rfl)) pa_nil))) (fun _ _ => rfl)) pe_int))
      (pss_cons (ps_set (i := 4) scNext.nd rfl (.inl rfl) (pe_op op_add (pe_op op_add (pe_op op_mul (pv 3) (pe_op op_add pe_int (pe_op op_mul pe_int (pe_ix ix_list (pv 0) pe_int (fun _ _ => rfl))))) (pe_op op_mul (pe_op op_mul pe_int (pe_ix ix_list (pv 0) pe_int (fun _ _ => rfl))) (pe_ix ix_list (pv 0) pe_int (fun _ _ => rfl)))) pe_int))
      (pss_cons (ps_set (i := 4) scNext.nd rfl (.inl rfl) (pe_op op_mod (pv 4) pe_int))
      (pss_one (ps_ret (pe_op op_mod (pe_op op_fdiv (pe_op op_mod (pe_op op_mul (pv 4) (pv 4)) pe_int) pe_int) (pv 1)))))))), ?_⟩
    refine ⟨fun l σ H1 => ∃ y2, σ = [some (.ref d), some (.int m), y2, none, none] ∧ DeckL H1 d p q n l ∧ Keep d p H H1, ⟨l0, none, rfl, D0, Keep.refl _ _ _⟩, fun l σ H1 hW => ?_⟩
    obtain ⟨y2, rfl, ⟨⟨xs, cs, c, h1, h2, h3, h4, h5, h6, h7⟩, ndp, ndq, npq⟩, kp⟩ := hW
    refine ⟨.ref d, rfl, d, _, 0, .ref p, rfl, rfl, sqL h1, rfl, Nat.zero_le _, fun e he => ?_⟩
    have hp1 : upd H1 e (.lst []) p = some (.lst (xs.map V.int)) := by
      rw [upd_ne (ne_of_none h2 he)]
      exact h2
    have hd1 : upd H1 e (.lst []) d = some (.lst [.ref p, .ref q, .int c]) := by
      rw [upd_ne (ne_of_none h1 he)]
      exact h1
    have hq1 : upd H1 e (.lst []) q = some (.lst (cs.map V.int)) := by
      rw [upd_ne (ne_of_none h3 he)]
      exact h3
    have kp1 : Keep d p H (upd H1 e (.lst [])) := kp.trans (Same.keep (same_upd he))
    refine ⟨_, _, .lst (sqL hp1) (dpAll_ints xs), .lst (sqL upd_same) .nil, shaped_ints xs, rfl, _, rfl, ?_⟩
    rw [eqv_nil]
    cases xs with
    | cons x r =>
      refine iteT ?_
      refine ⟨fun σ H2 => ∃ y2, σ = [some (.ref d), some (.int m), y2, none, none] ∧ DeckL H2 d p q n r.length ∧ Keep d p H H2, fun σ' H' hN => ⟨r.length, by rw [← h7]; exact Nat.lt_succ_self _, hN⟩, ?_⟩
      refine ⟨.ref d, rfl, d, _, 0, .ref p, rfl, rfl, sqL hd1, rfl, p, _, 0, .int x, rfl, rfl, sqL hp1, atI_nat (j := 0) rfl, ?_⟩
      refine ⟨.int x, rfl, x, 0, rfl, rfl, _, rfl, ite2 (fun hx => ?_) (fun hx => ?_)⟩
      · refine ⟨.int x, rfl, .int m, rfl, x, m, rfl, rfl, wide_div (b := 50) hm0 (by show m.natAbs < 1125899906842624; omega) (by decide) (by decide), .ref d, rfl, d, _, 0, .ref p, rfl, rfl, sqL hd1, rfl, p, _, 0, 0, rfl, rfl, hp1, ixN_zero (by simp), ?_⟩
        refine ⟨.int x, rfl, .int m, rfl, x, m, rfl, rfl, hm0, qq _ _ (Int.emod_nonneg _ (by omega)) (Int.emod_lt_of_pos _ hm0) ?_ (keep_upd kp1 (.inr rfl))⟩
        refine ⟨r.length + 1, ⟨⟨(x / m) :: r, cs, c, ?_, upd_same, ?_, h4, by omega, h6, rfl⟩, ndp, ndq, npq⟩⟩
        · rw [upd_ne ndp]
          exact hd1
        · rw [upd_ne npq.symm]
          exact hq1
      · refine ⟨.ref d, rfl, d, _, 0, .ref p, rfl, rfl, sqL hd1, rfl, .inl ⟨rfl, _, sqL hp1⟩, p, _, 0, 0, .int x, rfl, rfl, hp1, by decide, by decide, ?_, rfl, ?_⟩
        · show seqIndex? 0 ((V.int x :: r.map V.int).length) = some 0
          unfold seqIndex?
          simp
        · refine ⟨some (.int x), rfl, ⟨⟨r, cs, c, ?_, upd_same, ?_, h4, h5, h6, rfl⟩, ndp, ndq, npq⟩, keep_upd kp1 (.inr rfl)⟩
          · rw [upd_ne ndp]
            exact hd1
          · rw [upd_ne npq.symm]
            exact hq1
    | nil =>
      refine iteF ?_
      refine ⟨.ref d, rfl, d, _, 2, .int c, rfl, rfl, sqL hd1, rfl, c, 1, rfl, rfl, .ref d, rfl, d, _, 2, 2, rfl, rfl, hd1, rfl, ?_⟩
      have kp2 : Keep d p H (upd (upd H1 e (.lst [])) d (.lst [.ref p, .ref q, .int (c + 1)])) := keep_upd kp1 (.inl rfl)
      have hq2 : upd (upd H1 e (.lst [])) d (.lst [.ref p, .ref q, .int (c + 1)]) q = some (.lst (cs.map V.int)) := by
        rw [upd_ne ndq.symm]
        exact hq1
      have hp2 : upd (upd H1 e (.lst [])) d (.lst [.ref p, .ref q, .int (c + 1)]) p = some (.lst (([] : List Int).map V.int)) := by
        rw [upd_ne ndp.symm]
        exact hp1
      have hd2 : upd (upd H1 e (.lst [])) d (.lst [.ref p, .ref q, .int (c + 1)]) d = some (.lst [.ref p, .ref q, .int (c + 1)]) := upd_same
      have hcl : 0 < (cs.map V.int).length := by
        rw [List.length_map]
        exact List.length_pos_iff.mpr h6
      have hcl' : (0 : Int) < ((cs.map V.int).length : Int) := by omega
      have b0 : 0 ≤ (c + 1) % ((cs.map V.int).length : Int) := Int.emod_nonneg _ (by omega)
      have b1 : (c + 1) % ((cs.map V.int).length : Int) < ((cs.map V.int).length : Int) := Int.emod_lt_of_pos _ hcl'
      obtain ⟨j, hj⟩ := Int.eq_ofNat_of_zero_le b0
      have hjl : j < cs.length := by
        rw [List.length_map] at b1 hj
        omega
      have ga : (cs.map V.int)[j]? = some (.int cs[j]) := by
        rw [List.getElem?_map, List.getElem?_eq_getElem hjl]
        rfl
      have gb : atI (cs.map V.int) ((c + 1) % ((cs.map V.int).length : Int)) = some (.int cs[j]) := by
        rw [hj]
        exact atI_nat ga
      refine ⟨.ref d, rfl, d, _, 1, .ref q, rfl, rfl, sqL hd2, rfl, .ref d, rfl, d, _, 2, .int (c + 1), rfl, rfl, sqL hd2, rfl, .ref d, rfl, d, _, 1, .ref q, rfl, rfl, sqL hd2, rfl, q, _, rfl, .inl (sqL hq2), _, _, rfl, rfl, hcl', q, _, _, _, rfl, rfl, sqL hq2, gb, _, _, rfl, rfl, by show (0 : Int) < 2147483647; decide, ?_⟩
      have e1 : (0 : Int) ≤ cs[j] % 2147483647 := Int.emod_nonneg _ (by decide)
      have e2 : cs[j] % 2147483647 < 2147483647 := Int.emod_lt_of_pos _ (by decide)
      refine ⟨.int (cs[j] % 2147483647), rfl, .ref d, rfl, d, _, 2, .int (c + 1), rfl, rfl, sqL hd2, rfl, 48271, _, rfl, rfl, .inl ⟨by decide, by decide⟩, _, _, rfl, rfl, cs[j] % 2147483647, _, rfl, rfl, .inl ⟨by show -(2 : Int) ^ 64 < cs[j] % 2147483647; omega, by show cs[j] % 2147483647 < (2 : Int) ^ 64; omega⟩,
        .ref d, rfl, d, _, 2, .int (c + 1), rfl, rfl, sqL hd2, rfl, 30011, _, rfl, rfl, .inl ⟨by decide, by decide⟩, .ref d, rfl, d, _, 2, .int (c + 1), rfl, rfl, sqL hd2, rfl, _, _, rfl, rfl, .inr ⟨by show -(2 : Int) ^ 64 < c + 1; omega, by show c + 1 < (2 : Int) ^ 64; omega⟩, _, _, rfl, rfl, _, _, rfl, rfl, ?_⟩
      refine ⟨_, rfl, _, _, rfl, rfl, by show (0 : Int) < 2147483629; decide, ?_⟩
      have e3 : (0 : Int) ≤ (cs[j] % 2147483647 * (69621 + 48271 * (c + 1)) + 30011 * (c + 1) * (c + 1) + 47) % 2147483629 := Int.emod_nonneg _ (by decide)
      have e4 : (cs[j] % 2147483647 * (69621 + 48271 * (c + 1)) + 30011 * (c + 1) * (c + 1) + 47) % 2147483629 < 2147483629 := Int.emod_lt_of_pos _ (by decide)
      refine ⟨.int ((cs[j] % 2147483647 * (69621 + 48271 * (c + 1)) + 30011 * (c + 1) * (c + 1) + 47) % 2147483629), rfl, .int ((cs[j] % 2147483647 * (69621 + 48271 * (c + 1)) + 30011 * (c + 1) * (c + 1) + 47) % 2147483629), rfl, _, _, rfl, rfl, .inl ⟨by show -(2 : Int) ^ 64 < (cs[j] % 2147483647 * (69621 + 48271 * (c + 1)) + 30011 * (c + 1) * (c + 1) + 47) % 2147483629; omega, by show (cs[j] % 2147483647 * (69621 + 48271 * (c + 1)) + 30011 * (c + 1) * (c + 1) + 47) % 2147483629 < (2 : Int) ^ 64; omega⟩, _, _, rfl, rfl, by show (0 : Int) < 2147483587; decide, _, _, rfl, rfl, ⟨by decide, by decide⟩, .int m, rfl, _, m, rfl, rfl, hm0, ?_⟩
      exact qq _ _ (Int.emod_nonneg _ (by omega)) (Int.emod_lt_of_pos _ hm0) ⟨0, ⟨[], cs, c + 1, hd2, hp2, hq2, by omega, by omega, h6, rfl⟩, ndp, ndq, npq⟩ kp2
end
end TR
namespace TR
open PySem PySem.Spec PyProof.Rows L2
/-! ### the deck -/
theorem tabs_keep {H H' : Hp} {d p q : Addr} {n : Nat} {T : List (Addr × Str)} (D : Deck H d p q n) (t : LamX.Tabs T H) (k : Keep d p H H') : LamX.Tabs T H' := fun x hx => by
  obtain ⟨_, ⟨xs, cs, c, h1, h2, _⟩, _⟩ := D
  have far : ∀ {b : Addr} {o : HO}, H b = some o → (∀ l, o ≠ .lst l) → H' b = some o := fun e ne => k _ _ e (fun z => by rw [z, h1] at e; exact ne _ (Option.some.inj e).symm) (fun z => by rw [z, h2] at e; exact ne _ (Option.some.inj e).symm)
  obtain ⟨ps, e1, e2, e3⟩ := t x hx
  refine ⟨ps, far e1 (fun _ z => by cases z), e2, fun pos cv hc => ?_⟩
  obtain ⟨c, g1, g2⟩ := e3 pos cv hc
  exact ⟨c, g1, far g2 (fun _ z => by unfold LamX.CodeO at z; cases z)⟩
def F__law_next : AF := fun ds n Qa _ => match ds with
  | [_, .int m] => n ≤ 1000000 ∧ 0 < m ∧ m ≤ 400000000000000 ∧ ∀ r, 0 ≤ r → r < m → Qa (.int r) (n + 1)
  | _ => False
section
variable {P : Program} {w : World} {K : PySem.W.Frag} {mg : Str → Option Value} {base : Heap}
theorem okA__law_next {m : Nat} {f : Addr} {fd : FuncData} (F : Fun K "_law_next" "_law_next" sNext f fd) (m_len : mg "len" = none) : FnOk P w K mg base CX0 (m + 1) f fd ["_law_deck_here", "_law_many"] (spA [.deck, .dat] F__law_next) := by
  refine (ok_next F m_len).imp fun vs H Q E ⟨Φ, ds, n, Qa, xa, p, a, f, hq, hx⟩ => ?_
  cases a with
  | cons h1 t =>
    cases t with
    | cons h2 t =>
      cases t
      obtain ⟨d, pp, q, e, rfl⟩ := h1
      have e' : Φ.dk0 = some (d, pp, q) := e
      unfold F__law_next at f
      split at f
      · next m he =>
        cases he
        obtain ⟨f1, f2, f3, f4⟩ := f
        obtain rfl : _ = V.int m := h2
        refine ⟨d, pp, q.1, n, m, rfl, (p.dk d pp q e').1, f1, f2, f3, fun H' r h0 h1 D K => hq (.int r) _ _ H' ⟨fun b o hb hn => ?_, fun d2 p2 q2 e2 => ?_, rfl⟩ (f4 r h0 h1)⟩
        · rw [e'] at hn
          simp only [dkl, List.mem_cons, List.not_mem_nil, or_false, not_or] at hn
          exact K b o (p.h0 ▸ hb) hn.1 hn.2.1
        · rw [e'] at e2
          cases e2
          exact ⟨D, tabs_keep (p.dk d pp q e').1 (p.dk d pp q e').2 (fun b o h => K b o (p.h0 ▸ h))⟩
      · exact f.elim
/-! ### the law itself -/
theorem law_start {T : List (Addr × Str)} {H1 : Hp} {N : List Str} {a d p q : Addr} {k : Nat} (hk : k + 2 = N.length) (D : Deck H1 d p q 0) (tb : LamX.Tabs T H1) : Rel ⟨[], none, fun _ => none, [], [], none, [], T⟩ ⟨some (d, p, (q, T)), []⟩ ⟨none :: some .deck :: List.replicate k none, 0⟩ ((L2.start N [.ref a]).set 1 (some (.ref d))) H1 := by
  have hl : ((L2.start N [.ref a]).set 1 (some (.ref d))).length = N.length := by
    rw [List.length_set]
    simp [L2.start]
    omega
  refine ⟨by rw [hl, ← hk]; simp, fun i x h => ?_, fun d' p' q' e => ?_, fun i b h => (nomatch h), fun i j b h => (nomatch h), fun b o h _ => (nomatch h), fun t e => (nomatch e), fun b hb => (nomatch hb), fun x hx => (nomatch hx), fun x hx => (nomatch hx), List.nodup_nil, .inr ⟨d, p, q, rfl⟩⟩
  · have h2 : (none :: some AV.deck :: List.replicate k none)[i]? = some (some x) := h
    cases i with
    | zero => cases h2
    | succ i =>
      cases i with
      | zero =>
        cases h2
        exact ⟨.ref d, List.getElem?_set_self (by simp [L2.start]; omega), d, p, (q, T), rfl, rfl⟩
      | succ i =>
        simp only [List.getElem?_cons_succ] at h2
        obtain ⟨hlt, e⟩ := List.getElem?_eq_some_iff.mp h2
        rw [List.getElem_replicate] at e
        cases e
  · cases e
    exact ⟨⟨D, tb⟩, fun b hb => ⟨fun z => (nomatch z), .inr rfl⟩⟩
abbrev e0T (T : List (Addr × Str)) : EC := ⟨fun _ _ _ _ => False, none, [], T⟩
def spLawT (K : PySem.W.Frag) (T : List (Addr × Str)) : Sp := fun vs H Q E => spLaw K vs H Q E ∧ LamX.Tabs T H
def lawF (k : Nat) (b : AST) : Prop := b x0 { nx := fun _ => False, rt := fun r _ => r = .bool true } ⟨none :: some .deck :: List.replicate k none, 0⟩
theorem law_body {T : List (Addr × Str)} {b : AST} {N : List Str} {k : Nat} {vs : List V} {H : Hp} {Q : VK} {E : XK} (hk : k + 2 = N.length) (hb : lawF k b) (h : spLawT K T vs H Q E) : tSeq (tAsg (tCall (spDeck K) [] E0 (tCons (tVar 0) tNil)) (gName 1)) (cS (e0T T) b) { nx := fun _ H' => Q .non H', rt := Q } (L2.start N vs) H := by
  obtain ⟨⟨a, ns, rfl, hS, hl, q⟩, tb⟩ := h
  refine ⟨.ref a, ?_, a, ns, rfl, hS, hl, fun H' d p q' sm D => ?_⟩
  · unfold L2.start
    rw [List.getElem?_append_left (by simp)]
    rfl
  · exact ⟨_, _, x0, _, _, law_start hk D (tb.ext sm), ⟨⟨rfl, rfl, rfl⟩, fun _ _ _ _ _ _ _ _ h => h⟩, hb, fun _ _ _ _ _ h => h.elim, fun _ _ _ _ _ h => h.elim, fun _ _ _ _ _ h => h.elim, fun r n v H ro e => by
      subst e
      obtain rfl : v = .bl true := ro.rp
      exact q H⟩
theorem law_okGT {T : List (Addr × Str)} {b : AST} {N : List Str} {k m : Nat} {st : Stmt} {f : Addr} {fd : FuncData} (F : Fun K "law" "law" st f fd) (S : FnScope N ["_law_script"] (defScope st)) (hk : k + 2 = N.length) (hb : lawF k b)
    (hbody : ∀ (cdv : Value) (A : Around) (outer : List Env) (s : Shared) (H : Hp) (E : XK), A.guards = some [] → Room m (A.deeper (envOfC "law" (defScope st) s.heap.objs.size f cdv)) → PSs (cxOf CX0 P w K mg base N "law" (defScope st) f cdv A outer s H E).nox (defBody st) (tSeq (tAsg (tCall (spDeck K) [] E0 (tCons (tVar 0) tNil)) (gName 1)) (cS (e0T T) b))) : RunG P w K mg base (m + 1) f fd ["_law_script"] (spLawT K T) := by
  refine okG F S (fun vs H Q E h => ?_) fun cdv A outer s H vs Q E hg hr h => ⟨_, hbody cdv A outer s H E hg hr, law_body hk hb h⟩
  obtain ⟨⟨a, ns, rfl, _⟩, _⟩ := h
  rfl
theorem law_okG {b : AST} {N : List Str} {k m : Nat} {st : Stmt} {f : Addr} {fd : FuncData} (F : Fun K "law" "law" st f fd) (S : FnScope N ["_law_script"] (defScope st)) (hk : k + 2 = N.length) (hb : lawF k b)
    (hbody : ∀ (cdv : Value) (A : Around) (outer : List Env) (s : Shared) (H : Hp) (E : XK), A.guards = some [] → Room m (A.deeper (envOfC "law" (defScope st) s.heap.objs.size f cdv)) → PSs (cxOf CX0 P w K mg base N "law" (defScope st) f cdv A outer s H E).nox (defBody st) (tSeq (tAsg (tCall (spDeck K) [] E0 (tCons (tVar 0) tNil)) (gName 1)) (cS e00 b))) : RunG P w K mg base (m + 1) f fd ["_law_script"] (spLaw K) := fun A outer s H args us vs Q E hg hr e0 hbi r h => law_okGT (T := []) F S hk hb hbody A outer s H args us vs Q E hg hr e0 hbi r ⟨h, fun x hx => nomatch hx⟩
end
end TR
namespace TR
open PySem PySem.Spec PyProof.Rows L2
theorem scA_is_whole : FnScope ["value"] ["value"] (defScope s_is_whole) := ⟨rfl, rfl, rfl, by decide +kernel, rfl, by decide +kernel, by decide +kernel⟩
def b_is_whole : AST := (sRet (aAnd (aIsi "int" (oVar 0)) (aNot (aIsi "bool" (oVar 0)))))
def F_is_whole : AF := fnF [.dat] 0 (b_is_whole)
theorem okA_is_whole {P : Program} {w : World} {K : PySem.W.Frag} {mg : Str → Option Value} {base : Heap} {f  : Addr} {fd  : FuncData} {m : Nat} (F : Fun K "is_whole" "is_whole" s_is_whole f fd)
    (m_isinstance : mg "isinstance" = none) (m_bool : mg "bool" = none) (m_int : mg "int" = none) : FnOk P w K mg base CX0 (m + 1) f fd ["value"] (spA [.dat] F_is_whole) :=
  fn_ok F scA_is_whole rfl rfl fun cdv A outer s H E hr =>
    (as_one (as_ret (ae_and (ae_isi (T := "int") (by rfl) m_isinstance (ao_var 0 (pv 0)) (pe_bltn (v := .ty "int") (by rfl) m_int (by decide +kernel) rfl)) (ae_one (ae_not (ae_isi (T := "bool") (by rfl) m_isinstance (ao_var 0 (pv 0)) (pe_bltn (v := .ty "bool") (by rfl) m_bool (by decide +kernel) rfl)))))))

theorem scA_is_within : FnScope ["value", "low", "high"] ["value", "low", "high"] (defScope s_is_within) := ⟨rfl, rfl, rfl, by decide +kernel, rfl, by decide +kernel, by decide +kernel⟩
def b_is_within (P_is_whole : AF) : AST := (sRet (aAnd (aCall0 [.dat] (calm P_is_whole) (lCons (oV (aVar 0)) lNil)) (a3 vLe vLe (oVar 1) (oVar 0) (oVar 2))))
def F_is_within : AF := fnF [.dat, .dat, .dat] 0 (b_is_within F_is_whole)
theorem okA_is_within {P : Program} {w : World} {K : PySem.W.Frag} {mg : Str → Option Value} {base : Heap} {f f_is_whole : Addr} {fd d_is_whole : FuncData} {m : Nat} (F : Fun K "is_within" "is_within" s_is_within f fd)
    (k_is_whole : PySem.W.keepIn K (.ref f_is_whole) = true) (b_is_whole : Binds K d_is_whole ["value"] []) (g_is_whole : mg "is_whole" = some (.ref f_is_whole)) (G_is_whole : FnOk P w K mg base CX0 m f_is_whole d_is_whole ["value"] (spA [.dat] F_is_whole))
     : FnOk P w K mg base CX0 (m + 1) f fd ["value", "low", "high"] (spA [.dat, .dat, .dat] F_is_within) :=
  fn_ok F scA_is_within rfl rfl fun cdv A outer s H E hr =>
    (as_one (as_ret (ae_and (ae_call0 G_is_whole (by decide) hr (by rfl) g_is_whole k_is_whole b_is_whole (la_cons (ao_V (ae_var 0 (pv 0))) la_nil)) (ae_one (ae_chain dop_le dop_le (op_leA hr.units) (op_leA hr.units) (ao_var 1 (pv 1)) (ao_var 0 (pv 0)) (ao_var 2 (pv 2)))))))

theorem scA_ascending_tuples : FnScope ["size", "length", "rows", "step", "row", "more"] ["size", "length"] (defScope s_ascending_tuples) := ⟨rfl, rfl, rfl, by decide +kernel, rfl, by decide +kernel, by decide +kernel⟩
def b_ascending_tuples : AST := (sSeq (sSet 2 (aLst (lCons (oV (aTup lNil)) lNil)))
    (sSeq (sFor (iRange1 (lCons (oVar 1) lNil)) (bNm 3)
    (sSet 2 (aLc2 (iSeq (oVar 2)) (bNm 4) tYesA (iRange2 (lCons (oV (aIfE (tTruA (oVar 4)) (a2 vAdd (oV (a2 vIx (oVar 4) (oV (aNeg (oV (aC (.int 1))))))) (oV (aC (.int 1)))) (aC (.int 0)))) (lCons (oVar 0) lNil))) (bNm 5) tYesA (a2 vAdd (oVar 4) (oV (aTup (lCons (oV (aVar 5)) lNil)))) [4, 5] [5])))
    (sRetV 2)))
def F_ascending_tuples : AF := fnF [.dat, .dat] 4 (b_ascending_tuples)
theorem okA_ascending_tuples {P : Program} {w : World} {K : PySem.W.Frag} {mg : Str → Option Value} {base : Heap} {f  : Addr} {fd  : FuncData} {m : Nat} (F : Fun K "ascending_tuples" "ascending_tuples" s_ascending_tuples f fd)
    (m_range : mg "range" = none) : FnOk P w K mg base CX0 (m + 1) f fd ["size", "length"] (spA [.dat, .dat] F_ascending_tuples) :=
  fn_ok F scA_ascending_tuples rfl rfl fun cdv A outer s H E hr =>
    (as_cons (as_set (i := 2) scA_ascending_tuples.nd rfl (.inl rfl) (ae_F (af_lst 0 (la_cons (ao_V (ae_tup la_nil)) la_nil))))
      (as_cons (as_for PassesOwn.never rfl (ai_range1 (by rfl) m_range (la_cons (ao_var 1 (pv 1)) la_nil)) (ag_name (pg_name (i := 3) scA_ascending_tuples.nd rfl (.inl rfl))) (as_one (as_setLc2 2 rfl rfl (sw_true rfl rfl rfl (by decide +kernel)) (own := [("row", 4), ("more", 5)]) (vs1 := [5]) (by rfl) scA_ascending_tuples.nd (ai_seq (ao_var 2 (pv 2))) (blkOk_by (own := [("row", 4), ("more", 5)]) (N := ["size", "length", "rows", "step", "row", "more"]) (sc := defScope s_ascending_tuples) (by decide +kernel)) (by decide) (fun _ _ _ _ _ => (ag_name (pg_name (i := 4) scA_ascending_tuples.nd rfl (Or.inl rfl)))) (fun _ _ _ _ _ => ts_nil) (fun _ _ _ _ _ => (ai_range2 (by rfl) m_range (la_cons (ao_V (ae_if (at_tru (ao_var 4 (pv 4))) (ae_op dop_add op_addA (ao_V (ae_ix (ao_var 4 (pv 4)) (ao_V (ae_neg (ao_V ae_int))) (fun _ _ => rfl))) (ao_V ae_int)) ae_int)) (la_cons (ao_var 0 (pv 0)) la_nil)))) (fun _ _ _ _ _ => (ag_name (pg_name (i := 5) scA_ascending_tuples.nd rfl (Or.inl rfl)))) (fun _ _ _ _ _ => ts_nil) (fun _ _ _ _ _ => (ae_op dop_add op_addA (ao_var 4 (pv 4)) (ao_V (ae_tup (la_cons (ao_V (ae_var 5 (pv 5))) la_nil))))))))
      (as_one (as_retV 2 (pv 2)))))

theorem scA_all_pairs : FnScope ["dishes"] ["dishes"] (defScope s_all_pairs) := ⟨rfl, rfl, rfl, by decide +kernel, rfl, by decide +kernel, by decide +kernel⟩
def b_all_pairs (P_ascending_tuples : AF) : AST := (sRet (aCall0 [.dat, .dat] (calm P_ascending_tuples) (lCons (oV (aVar 0)) (lCons (oV (aC (.int 2))) lNil))))
def F_all_pairs : AF := fnF [.dat] 0 (b_all_pairs F_ascending_tuples)
theorem okA_all_pairs {P : Program} {w : World} {K : PySem.W.Frag} {mg : Str → Option Value} {base : Heap} {f f_ascending_tuples : Addr} {fd d_ascending_tuples : FuncData} {m : Nat} (F : Fun K "all_pairs" "all_pairs" s_all_pairs f fd)
    (k_ascending_tuples : PySem.W.keepIn K (.ref f_ascending_tuples) = true) (b_ascending_tuples : Binds K d_ascending_tuples ["size", "length"] []) (g_ascending_tuples : mg "ascending_tuples" = some (.ref f_ascending_tuples)) (G_ascending_tuples : FnOk P w K mg base CX0 m f_ascending_tuples d_ascending_tuples ["size", "length"] (spA [.dat, .dat] F_ascending_tuples))
     : FnOk P w K mg base CX0 (m + 1) f fd ["dishes"] (spA [.dat] F_all_pairs) :=
  fn_ok F scA_all_pairs rfl rfl fun cdv A outer s H E hr =>
    (as_one (as_ret (ae_call0 G_ascending_tuples (by decide) hr (by rfl) g_ascending_tuples k_ascending_tuples b_ascending_tuples (la_cons (ao_V (ae_var 0 (pv 0))) (la_cons (ao_V ae_int) la_nil)))))

theorem scA_prefers : FnScope ["ranking", "one", "other"] ["ranking", "one", "other"] (defScope s_prefers) := ⟨rfl, rfl, rfl, by decide +kernel, rfl, by decide +kernel, by decide +kernel⟩
def b_prefers : AST := (sRet (a2 vLt (oV (aIdx (oVar 0) (lCons (oVar 1) lNil))) (oV (aIdx (oVar 0) (lCons (oVar 2) lNil)))))
def F_prefers : AF := fnF [.dat, .dat, .dat] 0 (b_prefers)
theorem okA_prefers {P : Program} {w : World} {K : PySem.W.Frag} {mg : Str → Option Value} {base : Heap} {f  : Addr} {fd  : FuncData} {m : Nat} (F : Fun K "prefers" "prefers" s_prefers f fd)
     : FnOk P w K mg base CX0 (m + 1) f fd ["ranking", "one", "other"] (spA [.dat, .dat, .dat] F_prefers) :=
  fn_ok F scA_prefers rfl rfl fun cdv A outer s H E hr =>
    (as_one (as_ret (ae_cmp dop_lt (op_ltA hr.units) (ao_V (ae_idx (pe_bmT (r := rTupIdx K) PySem.F.slot_tuple_index PySem.F.type_tuple_index mt_tupIdx (ao_var 0 (pv 0)) (la_cons (ao_var 1 (pv 1)) la_nil)))) (ao_V (ae_idx (pe_bmT (r := rTupIdx K) PySem.F.slot_tuple_index PySem.F.type_tuple_index mt_tupIdx (ao_var 0 (pv 0)) (la_cons (ao_var 2 (pv 2)) la_nil)))) (nomark _))))

theorem scA_rankings_of : FnScope ["table", "ranking", "weight"] ["table"] (defScope s_rankings_of) := ⟨rfl, rfl, rfl, by decide +kernel, rfl, by decide +kernel, by decide +kernel⟩
def b_rankings_of : AST := (sRet (aBlt fTuple (lCons (oV (aLc (iSeq (oV (a2 vIx (oVar 0) (oV (aC (.int 1)))))) (bTup 2 (bCons (bNm 1) (bCons (bNm 2) bNil))) tYesA (aVar 1) [1, 2])) lNil)))
def F_rankings_of : AF := fnF [.dat] 2 (b_rankings_of)
theorem okA_rankings_of {P : Program} {w : World} {K : PySem.W.Frag} {mg : Str → Option Value} {base : Heap} {f  : Addr} {fd  : FuncData} {m : Nat} (F : Fun K "rankings_of" "rankings_of" s_rankings_of f fd)
    (m_tuple : mg "tuple" = none) : FnOk P w K mg base CX0 (m + 1) f fd ["table"] (spA [.dat] F_rankings_of) :=
  fn_ok F scA_rankings_of rfl rfl fun cdv A outer s H E hr =>
    (as_one (as_ret (ae_blt dc_tuple (pe_callTy call_tupleF (by rfl) m_tuple (by decide +kernel) (la_cons (ao_V (ae_F (af_lc 0 (own := [("ranking", 1), ("weight", 2)]) (by rfl) scA_rankings_of.nd (ai_seq (ao_V (ae_ix (ao_var 0 (pv 0)) (ao_V ae_int) (fun _ _ => rfl)))) (blkOk_by (own := [("ranking", 1), ("weight", 2)]) (N := ["table", "ranking", "weight"]) (sc := defScope s_rankings_of) (by decide +kernel)) (fun _ _ _ _ _ => (ag_tup (by rfl) (ags_cons (ag_name (pg_name (i := 1) scA_rankings_of.nd rfl (Or.inl rfl))) (ags_cons (ag_name (pg_name (i := 2) scA_rankings_of.nd rfl (Or.inl rfl))) ags_nil)))) (fun _ _ _ _ _ => ts_nil) (fun _ _ _ _ _ => (ae_var 1 (pv 1)))))) la_nil)))))

theorem scA_is_taster_number : FnScope ["table", "value"] ["table", "value"] (defScope s_is_taster_number) := ⟨rfl, rfl, rfl, by decide +kernel, rfl, by decide +kernel, by decide +kernel⟩
def b_is_taster_number (P_is_within : AF) : AST := (sRet (aCall0 [.dat, .dat, .dat] (calm P_is_within) (lCons (oV (aVar 1)) (lCons (oV (aC (.int 0))) (lCons (oV (a2 vSub (oV (aBlt fLen (lCons (oV (a2 vIx (oVar 0) (oV (aC (.int 1))))) lNil))) (oV (aC (.int 1))))) lNil)))))
def F_is_taster_number : AF := fnF [.dat, .dat] 0 (b_is_taster_number F_is_within)
theorem okA_is_taster_number {P : Program} {w : World} {K : PySem.W.Frag} {mg : Str → Option Value} {base : Heap} {f f_is_within : Addr} {fd d_is_within : FuncData} {m : Nat} (F : Fun K "is_taster_number" "is_taster_number" s_is_taster_number f fd)
    (k_is_within : PySem.W.keepIn K (.ref f_is_within) = true) (b_is_within : Binds K d_is_within ["value", "low", "high"] []) (g_is_within : mg "is_within" = some (.ref f_is_within)) (G_is_within : FnOk P w K mg base CX0 m f_is_within d_is_within ["value", "low", "high"] (spA [.dat, .dat, .dat] F_is_within))
    (m_len : mg "len" = none) : FnOk P w K mg base CX0 (m + 1) f fd ["table", "value"] (spA [.dat, .dat] F_is_taster_number) :=
  fn_ok F scA_is_taster_number rfl rfl fun cdv A outer s H E hr =>
    (as_one (as_ret (ae_call0 G_is_within (by decide) hr (by rfl) g_is_within k_is_within b_is_within (la_cons (ao_V (ae_var 1 (pv 1))) (la_cons (ao_V ae_int) (la_cons (ao_V (ae_op dop_sub op_subA (ao_V (ae_blt dc_len (pe_callB call_len (by rfl) m_len PySem.boot_len (la_cons (ao_V (ae_ix (ao_var 0 (pv 0)) (ao_V ae_int) (fun _ _ => rfl))) la_nil)))) (ao_V ae_int))) la_nil))))))

theorem scA_sides : FnScope ["table", "pair", "low", "high", "ranking"] ["table", "pair"] (defScope s_sides) := ⟨rfl, rfl, rfl, by decide +kernel, rfl, by decide +kernel, by decide +kernel⟩
def b_sides (P_rankings_of : AF) (P_prefers : AF) : AST := (sSeq (sAsg (aVar 1) (bTup 2 (bCons (bNm 2) (bCons (bNm 3) bNil))))
    (sRet (aLc (iSeq (oV (aCall0 [.dat] (calm P_rankings_of) (lCons (oV (aVar 0)) lNil)))) (bNm 4) tYesA (aCall0 [.dat, .dat, .dat] (calm P_prefers) (lCons (oV (aVar 4)) (lCons (oV (aVar 2)) (lCons (oV (aVar 3)) lNil)))) [4])))
def F_sides : AF := fnF [.dat, .dat] 3 (b_sides F_rankings_of F_prefers)
theorem okA_sides {P : Program} {w : World} {K : PySem.W.Frag} {mg : Str → Option Value} {base : Heap} {f f_rankings_of f_prefers : Addr} {fd d_rankings_of d_prefers : FuncData} {m : Nat} (F : Fun K "sides" "sides" s_sides f fd)
    (k_rankings_of : PySem.W.keepIn K (.ref f_rankings_of) = true) (b_rankings_of : Binds K d_rankings_of ["table"] []) (g_rankings_of : mg "rankings_of" = some (.ref f_rankings_of)) (G_rankings_of : FnOk P w K mg base CX0 m f_rankings_of d_rankings_of ["table"] (spA [.dat] F_rankings_of))
    (k_prefers : PySem.W.keepIn K (.ref f_prefers) = true) (b_prefers : Binds K d_prefers ["ranking", "one", "other"] []) (g_prefers : mg "prefers" = some (.ref f_prefers)) (G_prefers : FnOk P w K mg base CX0 m f_prefers d_prefers ["ranking", "one", "other"] (spA [.dat, .dat, .dat] F_prefers))
     : FnOk P w K mg base CX0 (m + 1) f fd ["table", "pair"] (spA [.dat, .dat] F_sides) :=
  fn_ok F scA_sides rfl rfl fun cdv A outer s H E hr =>
    (as_cons (as_asg (ae_var 1 (pv 1)) (ag_tup (by rfl) (ags_cons (ag_name (pg_name (i := 2) scA_sides.nd rfl (.inr rfl))) (ags_cons (ag_name (pg_name (i := 3) scA_sides.nd rfl (.inr rfl))) ags_nil))))
      (as_one (as_ret (ae_F (af_lc 0 (own := [("ranking", 4)]) (by rfl) scA_sides.nd (ai_seq (ao_V (ae_call0 G_rankings_of (by decide) hr (by rfl) g_rankings_of k_rankings_of b_rankings_of (la_cons (ao_V (ae_var 0 (pv 0))) la_nil)))) (blkOk_by (own := [("ranking", 4)]) (N := ["table", "pair", "low", "high", "ranking"]) (sc := defScope s_sides) (by decide +kernel)) (fun _ _ _ _ _ => (ag_name (pg_name (i := 4) scA_sides.nd rfl (Or.inl rfl)))) (fun _ _ _ _ _ => ts_nil) (fun _ _ _ _ _ => (ae_call0 G_prefers (by decide) hr (by rfl) g_prefers k_prefers b_prefers (la_cons (ao_V (ae_var 4 (pv 4))) (la_cons (ao_V (ae_var 2 (pv 2))) (la_cons (ao_V (ae_var 3 (pv 3))) la_nil))))))))))

theorem scA_split_by : FnScope ["table", "taster", "pair", "marks", "other", "mark"] ["table", "taster", "pair"] (defScope s_split_by) := ⟨rfl, rfl, rfl, by decide +kernel, rfl, by decide +kernel, by decide +kernel⟩
def b_split_by (P_sides : AF) : AST := (sSeq (sSet 3 (aCall0 [.dat, .dat] (calm P_sides) (lCons (oV (aVar 0)) (lCons (oV (aVar 2)) lNil))))
    (sRet (aBlt fTuple (lCons (oV (aLc (iEnL (aVar 3)) (bTup 2 (bCons (bNm 4) (bCons (bNm 5) bNil))) (tV (a2 vNe (oVar 5) (oV (a2 vIx (oVar 3) (oVar 1))))) (aVar 4) [4, 5])) lNil))))
def F_split_by : AF := fnF [.dat, .dat, .dat] 3 (b_split_by F_sides)
theorem okA_split_by {P : Program} {w : World} {K : PySem.W.Frag} {mg : Str → Option Value} {base : Heap} {f f_sides : Addr} {fd d_sides : FuncData} {m : Nat} (F : Fun K "split_by" "split_by" s_split_by f fd)
    (k_sides : PySem.W.keepIn K (.ref f_sides) = true) (b_sides : Binds K d_sides ["table", "pair"] []) (g_sides : mg "sides" = some (.ref f_sides)) (G_sides : FnOk P w K mg base CX0 m f_sides d_sides ["table", "pair"] (spA [.dat, .dat] F_sides))
    (m_tuple : mg "tuple" = none) (m_enumerate : mg "enumerate" = none) : FnOk P w K mg base CX0 (m + 1) f fd ["table", "taster", "pair"] (spA [.dat, .dat, .dat] F_split_by) :=
  fn_ok F scA_split_by rfl rfl fun cdv A outer s H E hr =>
    (as_cons (as_set (i := 3) scA_split_by.nd rfl (.inr rfl) (ae_call0 G_sides (by decide) hr (by rfl) g_sides k_sides b_sides (la_cons (ao_V (ae_var 0 (pv 0))) (la_cons (ao_V (ae_var 2 (pv 2))) la_nil))))
      (as_one (as_ret (ae_blt dc_tuple (pe_callTy call_tupleF (by rfl) m_tuple (by decide +kernel) (la_cons (ao_V (ae_F (af_lc 0 (own := [("other", 4), ("mark", 5)]) (by rfl) scA_split_by.nd (ai_enL (by rfl) m_enumerate (ae_var 3 (pv 3))) (blkOk_by (own := [("other", 4), ("mark", 5)]) (N := ["table", "taster", "pair", "marks", "other", "mark"]) (sc := defScope s_split_by) (by decide +kernel)) (fun _ _ _ _ _ => (ag_tup (by rfl) (ags_cons (ag_name (pg_name (i := 4) scA_split_by.nd rfl (Or.inl rfl))) (ags_cons (ag_name (pg_name (i := 5) scA_split_by.nd rfl (Or.inl rfl))) ags_nil)))) (fun _ _ _ _ _ => (ts_one (cmp_test dop_ne (op_neA hr.units) (ao_var 5 (pv 5)) (ao_V (ae_ix (ao_var 3 (pv 3)) (ao_var 1 (pv 1)) (fun _ _ => rfl))) (nomark _)))) (fun _ _ _ _ _ => (ae_var 4 (pv 4)))))) la_nil))))))

theorem scA_splits : FnScope ["table", "taster", "found", "pair", "split"] ["table", "taster"] (defScope s_splits) := ⟨rfl, rfl, rfl, by decide +kernel, rfl, by decide +kernel, by decide +kernel⟩
def b_splits (cc : Nat → Addr) (P_is_taster_number : AF) (P_all_pairs : AF) (P_split_by : AF) : AST := (sSeq (sIf (tNotA (tTruA (oV (aCall0 [.dat, .dat] (calm P_is_taster_number) (lCons (oV (aVar 0)) (lCons (oV (aVar 1)) lNil))))))
    (sRaise1 (cc 1) "taster" (lCons (oV (aVar 1)) lNil))
    sNx)
    (sSeq (sSet 2 (aLc (iSeq (oV (aCall0 [.dat] (calm P_all_pairs) (lCons (oV (a2 vIx (oVar 0) (oV (aC (.int 0))))) lNil)))) (bNm 3) tYesA (aCall0 [.dat, .dat, .dat] (calm P_split_by) (lCons (oV (aVar 0)) (lCons (oV (aVar 1)) (lCons (oV (aVar 3)) lNil)))) [3]))
    (sRet (aBlt fTuple (lCons (oV (aSortSC (iSeq (oVar 2)) (bNm 4) (tTruA (oVar 4)) (aVar 4) [4])) lNil)))))
def F_splits (cc : Nat → Addr) : AF := fnF [.dat, .dat] 3 (b_splits cc F_is_taster_number F_all_pairs F_split_by)
theorem okA_splits {P : Program} {w : World} {K : PySem.W.Frag} {mg : Str → Option Value} {base : Heap} {f f_is_taster_number f_all_pairs f_split_by : Addr} {fd d_is_taster_number d_all_pairs d_split_by : FuncData} {cc : Nat → Addr} {i_NoTaster : Addr} {m : Nat} (F : Fun K "splits" "splits" s_splits f fd)
    (k_is_taster_number : PySem.W.keepIn K (.ref f_is_taster_number) = true) (b_is_taster_number : Binds K d_is_taster_number ["table", "value"] []) (g_is_taster_number : mg "is_taster_number" = some (.ref f_is_taster_number)) (G_is_taster_number : FnOk P w K mg base CX0 m f_is_taster_number d_is_taster_number ["table", "value"] (spA [.dat, .dat] F_is_taster_number))
    (k_all_pairs : PySem.W.keepIn K (.ref f_all_pairs) = true) (b_all_pairs : Binds K d_all_pairs ["dishes"] []) (g_all_pairs : mg "all_pairs" = some (.ref f_all_pairs)) (G_all_pairs : FnOk P w K mg base CX0 m f_all_pairs d_all_pairs ["dishes"] (spA [.dat] F_all_pairs))
    (k_split_by : PySem.W.keepIn K (.ref f_split_by) = true) (b_split_by : Binds K d_split_by ["table", "taster", "pair"] []) (g_split_by : mg "split_by" = some (.ref f_split_by)) (G_split_by : FnOk P w K mg base CX0 m f_split_by d_split_by ["table", "taster", "pair"] (spA [.dat, .dat, .dat] F_split_by))
    (T_NoTaster : PySem.XNoTasterX.XNoTasterTxt K mg (cc 1) i_NoTaster)
    (m_tuple : mg "tuple" = none) (m_sorted : mg "sorted" = none) : FnOk P w K mg base (L2.CX P w) (m + 1) f fd ["table", "taster"] (spA [.dat, .dat] (F_splits cc)) :=
  fn_okX F scA_splits rfl rfl fun cdv A outer s H E hr =>
    (as_cons (as_if (at_not (at_tru (ao_V (ae_call0 G_is_taster_number (by decide) hr (by rfl) g_is_taster_number k_is_taster_number b_is_taster_number (la_cons (ao_V (ae_var 0 (pv 0))) (la_cons (ao_V (ae_var 1 (pv 1))) la_nil)))))) (as_one (as_raise1 (C := (cc 1)) (f := "taster") (ps_raiseXNoTaster (W := fun cls d _ H => E cls d H) rfl T_NoTaster hr (takes_of rfl rfl rfl rfl) (la_cons (ao_V (ae_var 1 (pv 1))) la_nil)))) as_nil)
      (PSs.nox (as_cons (as_setLc 2 rfl rfl (sw_true rfl rfl rfl (by decide +kernel)) (own := [("pair", 3)]) (by rfl) scA_splits.nd (ai_seq (ao_V (ae_call0 G_all_pairs (by decide) hr (by rfl) g_all_pairs k_all_pairs b_all_pairs (la_cons (ao_V (ae_ix (ao_var 0 (pv 0)) (ao_V ae_int) (fun _ _ => rfl))) la_nil)))) (blkOk_by (own := [("pair", 3)]) (N := ["table", "taster", "found", "pair", "split"]) (sc := defScope s_splits) (by decide +kernel)) (fun _ _ _ _ _ => (ag_name (pg_name (i := 3) scA_splits.nd rfl (Or.inl rfl)))) (fun _ _ _ _ _ => ts_nil) (fun _ _ _ _ _ => (ae_call0 G_split_by (by decide) hr (by rfl) g_split_by k_split_by b_split_by (la_cons (ao_V (ae_var 0 (pv 0))) (la_cons (ao_V (ae_var 1 (pv 1))) (la_cons (ao_V (ae_var 3 (pv 3))) la_nil))))))
      (as_one (as_ret (ae_blt dc_tuple (pe_callTy call_tupleF (by rfl) m_tuple (by decide +kernel) (la_cons (ao_V (ae_F (af_sortSC 0 hr.units (by rfl) m_sorted (own := [("split", 4)]) (by rfl) scA_splits.nd (ai_seq (ao_var 2 (pv 2))) (blkOk_by (own := [("split", 4)]) (N := ["table", "taster", "found", "pair", "split"]) (sc := defScope s_splits) (by decide +kernel)) (fun _ _ _ _ _ => (ag_name (pg_name (i := 4) scA_splits.nd rfl (Or.inl rfl)))) (fun _ _ _ _ _ => (ts_one (at_tru (ao_var 4 (pv 4))))) (fun _ _ _ _ _ => (ae_var 4 (pv 4)))))) la_nil))))))))

theorem scA__law_one : FnScope ["_law_deck_here", "_law_some"] ["_law_deck_here", "_law_some"] (defScope s__law_one) := ⟨rfl, rfl, rfl, by decide +kernel, rfl, by decide +kernel, by decide +kernel⟩
def b__law_one (P__law_next : AF) : AST := (sRet (a2 vIx (oVar 1) (oV (aCall [.deck, .dat] (calm P__law_next) (lCons (oVar 0) (lCons (oV (aBlt fLen (lCons (oVar 1) lNil))) lNil))))))
def F__law_one : AF := fnF [.deck, .bor] 0 (b__law_one F__law_next)
theorem okA__law_one {P : Program} {w : World} {K : PySem.W.Frag} {mg : Str → Option Value} {base : Heap} {f f__law_next : Addr} {fd d__law_next : FuncData} {m : Nat} (F : Fun K "_law_one" "_law_one" s__law_one f fd)
    (k__law_next : PySem.W.keepIn K (.ref f__law_next) = true) (b__law_next : Binds K d__law_next ["_law_deck_here", "_law_many"] []) (g__law_next : mg "_law_next" = some (.ref f__law_next)) (G__law_next : FnOk P w K mg base CX0 m f__law_next d__law_next ["_law_deck_here", "_law_many"] (spA [.deck, .dat] F__law_next))
    (m_len : mg "len" = none) : FnOk P w K mg base CX0 (m + 1) f fd ["_law_deck_here", "_law_some"] (spA [.deck, .bor] F__law_one) :=
  fn_ok F scA__law_one rfl rfl fun cdv A outer s H E hr =>
    (as_one (as_ret (ae_ix (ao_var 1 (pv 1)) (ao_V (ae_call G__law_next hr (by rfl) g__law_next k__law_next b__law_next (la_cons (ao_var 0 (pv 0)) (la_cons (ao_V (ae_blt dc_len (pe_callB call_len (by rfl) m_len PySem.boot_len (la_cons (ao_var 1 (pv 1)) la_nil)))) la_nil)))) (fun _ _ => rfl))))

theorem scA__law_same : FnScope ["_law_found", "_law_due_here", "_law_k"] ["_law_found", "_law_due_here"] (defScope s__law_same) := ⟨rfl, rfl, rfl, by decide +kernel, rfl, by decide +kernel, by decide +kernel⟩
def b__law_same (R_ : AF) : AST := (sSeq (sIf (tTruA (oV (aIsi2 "tuple" "list" (oVar 1))))
    (sSeq (sIf (tV (a2 vNe (oV (aIsi "tuple" (oVar 0))) (oV (aIsi "tuple" (oVar 1)))))
    (sRet (aC (.bool false)))
    sNx)
    (sSeq (sIf (tV (a2 vNe (oV (aIsi "list" (oVar 0))) (oV (aIsi "list" (oVar 1)))))
    (sRet (aC (.bool false)))
    sNx)
    (sSeq (sIf (tV (a2 vNe (oV (aBlt fLen (lCons (oVar 0) lNil))) (oV (aBlt fLen (lCons (oVar 1) lNil)))))
    (sRet (aC (.bool false)))
    sNx)
    (sRet (a2 vEqE (oV (aLc (iRange1 (lCons (oV (aBlt fLen (lCons (oVar 1) lNil))) lNil)) (bNm 2) (tNotA (tTruA (oV (aCall0 [.dat, .dat] (calm R_) (lCons (oV (a2 vIx (oVar 0) (oVar 2))) (lCons (oV (a2 vIx (oVar 1) (oVar 2))) lNil)))))) (aVar 2) [2])) (oV (aLst lNil)))))))
    sNx)
    (sSeq (sIf (tTruA (oV (aIsi "dict" (oVar 1))))
    (sRet (aAnd (aIsi "dict" (oVar 0)) (a2 vEq (oVar 0) (oVar 1))))
    sNx)
    (sSeq (sIf (tV (a2 vIs (oVar 1) (oV (aC .none))))
    (sRet (a2 vIs (oVar 0) (oV (aC .none))))
    sNx)
    (sSeq (sIf (tTruA (oV (aIsi "str" (oVar 1))))
    (sRet (aAnd (aIsi "str" (oVar 0)) (a2 vEq (oVar 0) (oVar 1))))
    sNx)
    (sRet (aAnd (aIsi "int" (oVar 0)) (aAnd (a2 vEq (oV (aIsi "bool" (oVar 0))) (oV (aIsi "bool" (oVar 1)))) (a2 vEq (oVar 0) (oVar 1)))))))))
def F__law_same : Nat → AF
  | 0 => fun _ _ _ _ => False
  | m + 1 => fnF [.dat, .dat] 1 (b__law_same (F__law_same m))
theorem okA__law_same {P : Program} {w : World} {K : PySem.W.Frag} {mg : Str → Option Value} {base : Heap} {f  : Addr} {fd  : FuncData} (F : Fun K "_law_same" "_law_same" s__law_same f fd)
    (k__law_same : PySem.W.keepIn K (.ref f) = true) (b__law_same : Binds K fd ["_law_found", "_law_due_here"] []) (g__law_same : mg "_law_same" = some (.ref f)) (m_isinstance : mg "isinstance" = none) (m_tuple : mg "tuple" = none) (m_list : mg "list" = none) (m_len : mg "len" = none) (m_range : mg "range" = none) (m_dict : mg "dict" = none) (m_str : mg "str" = none) (m_bool : mg "bool" = none) (m_int : mg "int" = none) : ∀ m, FnOk P w K mg base CX0 m f fd ["_law_found", "_law_due_here"] (spA [.dat, .dat] (F__law_same m))
  | 0 => fn_never
  | m + 1 => by
    have G__law_same := okA__law_same (P := P) (w := w) (base := base) F k__law_same b__law_same g__law_same m_isinstance m_tuple m_list m_len m_range m_dict m_str m_bool m_int m
    exact fn_ok F scA__law_same rfl rfl fun cdv A outer s H E hr =>
    (as_cons (as_if (at_tru (ao_V (ae_isi2 (T := "tuple") (U := "list") (by rfl) m_isinstance (ao_var 1 (pv 1)) (pe_tup (pa_cons (pe_bltn (v := .ty "tuple") (by rfl) m_tuple (by decide +kernel) rfl) (pa_cons (pe_bltn (v := .ty "list") (by rfl) m_list (by decide +kernel) rfl) pa_nil)))))) (as_cons (as_if (cmp_test dop_ne (op_neA hr.units) (ao_V (ae_isi (T := "tuple") (by rfl) m_isinstance (ao_var 0 (pv 0)) (pe_bltn (v := .ty "tuple") (by rfl) m_tuple (by decide +kernel) rfl))) (ao_V (ae_isi (T := "tuple") (by rfl) m_isinstance (ao_var 1 (pv 1)) (pe_bltn (v := .ty "tuple") (by rfl) m_tuple (by decide +kernel) rfl))) (nomark _)) (as_one (as_ret ae_bl)) as_nil)
      (as_cons (as_if (cmp_test dop_ne (op_neA hr.units) (ao_V (ae_isi (T := "list") (by rfl) m_isinstance (ao_var 0 (pv 0)) (pe_bltn (v := .ty "list") (by rfl) m_list (by decide +kernel) rfl))) (ao_V (ae_isi (T := "list") (by rfl) m_isinstance (ao_var 1 (pv 1)) (pe_bltn (v := .ty "list") (by rfl) m_list (by decide +kernel) rfl))) (nomark _)) (as_one (as_ret ae_bl)) as_nil)
      (as_cons (as_if (cmp_test dop_ne (op_neA hr.units) (ao_V (ae_blt dc_len (pe_callB call_len (by rfl) m_len PySem.boot_len (la_cons (ao_var 0 (pv 0)) la_nil)))) (ao_V (ae_blt dc_len (pe_callB call_len (by rfl) m_len PySem.boot_len (la_cons (ao_var 1 (pv 1)) la_nil)))) (nomark _)) (as_one (as_ret ae_bl)) as_nil)
      (as_one (as_ret (ae_cmp dop_eqE (op_eqE hr.units) (ao_V (ae_F (af_lc 0 (own := [("_law_k", 2)]) (by rfl) scA__law_same.nd (ai_range1 (by rfl) m_range (la_cons (ao_V (ae_blt dc_len (pe_callB call_len (by rfl) m_len PySem.boot_len (la_cons (ao_var 1 (pv 1)) la_nil)))) la_nil)) (blkOk_by (own := [("_law_k", 2)]) (N := ["_law_found", "_law_due_here", "_law_k"]) (sc := defScope s__law_same) (by decide +kernel)) (fun _ _ _ _ _ => (ag_name (pg_name (i := 2) scA__law_same.nd rfl (Or.inl rfl)))) (fun _ _ _ _ _ => (ts_one (at_not (at_tru (ao_V (ae_call0 G__law_same (by decide) hr (by rfl) g__law_same k__law_same b__law_same (la_cons (ao_V (ae_ix (ao_var 0 (pv 0)) (ao_var 2 (pv 2)) (fun _ _ => rfl))) (la_cons (ao_V (ae_ix (ao_var 1 (pv 1)) (ao_var 2 (pv 2)) (fun _ _ => rfl))) la_nil)))))))) (fun _ _ _ _ _ => (ae_var 2 (pv 2)))))) (ao_V (ae_F (af_lst 0 la_nil))) (nomark _))))))) as_nil)
      (as_cons (as_if (at_tru (ao_V (ae_isi (T := "dict") (by rfl) m_isinstance (ao_var 1 (pv 1)) (pe_bltn (v := .ty "dict") (by rfl) m_dict (by decide +kernel) rfl)))) (as_one (as_ret (ae_and (ae_isi (T := "dict") (by rfl) m_isinstance (ao_var 0 (pv 0)) (pe_bltn (v := .ty "dict") (by rfl) m_dict (by decide +kernel) rfl)) (ae_one (ae_cmp dop_eq (op_eqA hr.units) (ao_var 0 (pv 0)) (ao_var 1 (pv 1)) (nomark _)))))) as_nil)
      (as_cons (as_if (cmp_test dop_is op_isA (ao_var 1 (pv 1)) (ao_V ae_non) (nomark _)) (as_one (as_ret (ae_cmp dop_is op_isA (ao_var 0 (pv 0)) (ao_V ae_non) (nomark _)))) as_nil)
      (as_cons (as_if (at_tru (ao_V (ae_isi (T := "str") (by rfl) m_isinstance (ao_var 1 (pv 1)) (pe_bltn (v := .ty "str") (by rfl) m_str (by decide +kernel) rfl)))) (as_one (as_ret (ae_and (ae_isi (T := "str") (by rfl) m_isinstance (ao_var 0 (pv 0)) (pe_bltn (v := .ty "str") (by rfl) m_str (by decide +kernel) rfl)) (ae_one (ae_cmp dop_eq (op_eqA hr.units) (ao_var 0 (pv 0)) (ao_var 1 (pv 1)) (nomark _)))))) as_nil)
      (as_one (as_ret (ae_and (ae_isi (T := "int") (by rfl) m_isinstance (ao_var 0 (pv 0)) (pe_bltn (v := .ty "int") (by rfl) m_int (by decide +kernel) rfl)) (ae_and (ae_cmp dop_eq (op_eqA hr.units) (ao_V (ae_isi (T := "bool") (by rfl) m_isinstance (ao_var 0 (pv 0)) (pe_bltn (v := .ty "bool") (by rfl) m_bool (by decide +kernel) rfl))) (ao_V (ae_isi (T := "bool") (by rfl) m_isinstance (ao_var 1 (pv 1)) (pe_bltn (v := .ty "bool") (by rfl) m_bool (by decide +kernel) rfl))) (nomark _)) (ae_one (ae_cmp dop_eq (op_eqA hr.units) (ao_var 0 (pv 0)) (ao_var 1 (pv 1)) (nomark _)))))))))))

theorem scA__law_whole : FnScope ["_law_thing"] ["_law_thing"] (defScope s__law_whole) := ⟨rfl, rfl, rfl, by decide +kernel, rfl, by decide +kernel, by decide +kernel⟩
def b__law_whole : AST := (sRet (aAnd (aIsi "int" (oVar 0)) (aNot (aIsi "bool" (oVar 0)))))
def F__law_whole : AF := fnF [.dat] 0 (b__law_whole)
theorem okA__law_whole {P : Program} {w : World} {K : PySem.W.Frag} {mg : Str → Option Value} {base : Heap} {f  : Addr} {fd  : FuncData} {m : Nat} (F : Fun K "_law_whole" "_law_whole" s__law_whole f fd)
    (m_isinstance : mg "isinstance" = none) (m_bool : mg "bool" = none) (m_int : mg "int" = none) : FnOk P w K mg base CX0 (m + 1) f fd ["_law_thing"] (spA [.dat] F__law_whole) :=
  fn_ok F scA__law_whole rfl rfl fun cdv A outer s H E hr =>
    (as_one (as_ret (ae_and (ae_isi (T := "int") (by rfl) m_isinstance (ao_var 0 (pv 0)) (pe_bltn (v := .ty "int") (by rfl) m_int (by decide +kernel) rfl)) (ae_one (ae_not (ae_isi (T := "bool") (by rfl) m_isinstance (ao_var 0 (pv 0)) (pe_bltn (v := .ty "bool") (by rfl) m_bool (by decide +kernel) rfl)))))))

theorem scA__law_odd : FnScope ["_law_deck_here", "_law_some"] ["_law_deck_here"] (defScope s__law_odd) := ⟨rfl, rfl, rfl, by decide +kernel, rfl, by decide +kernel, by decide +kernel⟩
def b__law_odd (P__law_next : AF) : AST := (sSeq (sSet 1 (aLst (lCons (oV (aC .none)) (lCons (oV (aC (.bool true))) (lCons (oV (aC (.bool false))) (lCons (oV (aC (.int 0))) (lCons (oV (aC (.int 1))) (lCons (oV (aNeg (oV (aC (.int 1))))) (lCons (oV (aC (.int 2))) (lCons (oV (aC (.int 8))) (lCons (oV (aC (.int 16))) (lCons (oV (a2 vPow (oV (aC (.int 10))) (oV (aC (.int 12))))) (lCons (oV (a2 vAdd (oV (a2 vPow (oV (aC (.int 10))) (oV (aC (.int 12))))) (oV (aC (.int 1))))) (lCons (oV (a2 vPow (oV (aC (.int 10))) (oV (aC (.int 59))))) (lCons (oV (aC (.str ""))) (lCons (oV (aC (.str "0"))) (lCons (oV (aC (.str "triple"))) (lCons (oV (aTup lNil)) (lCons (oV (aTup (lCons (oV (aC (.int 0))) lNil))) lNil)))))))))))))))))))
    (sRet (a2 vIx (oV (a2 vCatL (oVar 1) (oV (aLst (lCons (oV (aTup (lCons (oV (aC (.int 0))) (lCons (oV (aC (.int 1))) lNil)))) (lCons (oV (aLst lNil)) (lCons (oV aDict0) (lCons (oV (aLst (lCons (oV (aC (.int 0))) lNil))) (lCons (oV (aTup (lCons (oV (aC (.bool true))) lNil))) (lCons (oV (aTup (lCons (oV (aTup lNil)) lNil))) lNil)))))))))) (oV (aCall [.deck, .dat] (calm P__law_next) (lCons (oVar 0) (lCons (oV (aC (.int 23))) lNil)))))))
def F__law_odd : AF := fnF [.deck] 1 (b__law_odd F__law_next)
theorem okA__law_odd {P : Program} {w : World} {K : PySem.W.Frag} {mg : Str → Option Value} {base : Heap} {f f__law_next : Addr} {fd d__law_next : FuncData} {m : Nat} (F : Fun K "_law_odd" "_law_odd" s__law_odd f fd)
    (k__law_next : PySem.W.keepIn K (.ref f__law_next) = true) (b__law_next : Binds K d__law_next ["_law_deck_here", "_law_many"] []) (g__law_next : mg "_law_next" = some (.ref f__law_next)) (G__law_next : FnOk P w K mg base CX0 m f__law_next d__law_next ["_law_deck_here", "_law_many"] (spA [.deck, .dat] F__law_next))
     : FnOk P w K mg base CX0 (m + 1) f fd ["_law_deck_here"] (spA [.deck] F__law_odd) :=
  fn_ok F scA__law_odd rfl rfl fun cdv A outer s H E hr =>
    (as_cons (as_set (i := 1) scA__law_odd.nd rfl (.inl rfl) (ae_F (af_lst 0 (la_cons (ao_V ae_non) (la_cons (ao_V ae_bl) (la_cons (ao_V ae_bl) (la_cons (ao_V ae_int) (la_cons (ao_V ae_int) (la_cons (ao_V (ae_neg (ao_V ae_int))) (la_cons (ao_V ae_int) (la_cons (ao_V ae_int) (la_cons (ao_V ae_int) (la_cons (ao_V (ae_op dop_pow op_pow (ao_V ae_int) (ao_V ae_int))) (la_cons (ao_V (ae_op dop_add op_addA (ao_V (ae_op dop_pow op_pow (ao_V ae_int) (ao_V ae_int))) (ao_V ae_int))) (la_cons (ao_V (ae_op dop_pow op_pow (ao_V ae_int) (ao_V ae_int))) (la_cons (ao_V ae_str) (la_cons (ao_V ae_str) (la_cons (ao_V ae_str) (la_cons (ao_V (ae_tup la_nil)) (la_cons (ao_V (ae_tup (la_cons (ao_V ae_int) la_nil))) la_nil))))))))))))))))))))
      (as_one (as_ret (ae_ix (ao_V (ae_F (af_cat 0 (ao_var 1 (pv 1)) (ao_V (ae_F (af_lst 0 (la_cons (ao_V (ae_tup (la_cons (ao_V ae_int) (la_cons (ao_V ae_int) la_nil)))) (la_cons (ao_V (ae_F (af_lst 0 la_nil))) (la_cons (ao_V ae_dict0) (la_cons (ao_V (ae_F (af_lst 0 (la_cons (ao_V ae_int) la_nil)))) (la_cons (ao_V (ae_tup (la_cons (ao_V ae_bl) la_nil))) (la_cons (ao_V (ae_tup (la_cons (ao_V (ae_tup la_nil)) la_nil))) la_nil)))))))))))) (ao_V (ae_call G__law_next hr (by rfl) g__law_next k__law_next b__law_next (la_cons (ao_var 0 (pv 0)) (la_cons (ao_V ae_int) la_nil)))) (fun _ _ => rfl)))))

theorem scA__law_people : FnScope ["_law_deck_here"] ["_law_deck_here"] (defScope s__law_people) := ⟨rfl, rfl, rfl, by decide +kernel, rfl, by decide +kernel, by decide +kernel⟩
def b__law_people (P__law_next : AF) : AST := (sRet (a2 vIx (oV (aLst (lCons (oV (aC (.int 1))) (lCons (oV (aC (.int 1))) (lCons (oV (a2 vAdd (oV (aC (.int 1))) (oV (aCall [.deck, .dat] (calm P__law_next) (lCons (oVar 0) (lCons (oV (aC (.int 5))) lNil)))))) (lCons (oV (a2 vAdd (oV (aC (.int 1))) (oV (aCall [.deck, .dat] (calm P__law_next) (lCons (oVar 0) (lCons (oV (a2 vPow (oV (aC (.int 10))) (oV (aC (.int 12))))) lNil)))))) (lCons (oV (a2 vPow (oV (aC (.int 10))) (oV (aC (.int 12))))) lNil))))))) (oV (aCall [.deck, .dat] (calm P__law_next) (lCons (oVar 0) (lCons (oV (aC (.int 5))) lNil))))))
def F__law_people : AF := fnF [.deck] 0 (b__law_people F__law_next)
theorem okA__law_people {P : Program} {w : World} {K : PySem.W.Frag} {mg : Str → Option Value} {base : Heap} {f f__law_next : Addr} {fd d__law_next : FuncData} {m : Nat} (F : Fun K "_law_people" "_law_people" s__law_people f fd)
    (k__law_next : PySem.W.keepIn K (.ref f__law_next) = true) (b__law_next : Binds K d__law_next ["_law_deck_here", "_law_many"] []) (g__law_next : mg "_law_next" = some (.ref f__law_next)) (G__law_next : FnOk P w K mg base CX0 m f__law_next d__law_next ["_law_deck_here", "_law_many"] (spA [.deck, .dat] F__law_next))
     : FnOk P w K mg base CX0 (m + 1) f fd ["_law_deck_here"] (spA [.deck] F__law_people) :=
  fn_ok F scA__law_people rfl rfl fun cdv A outer s H E hr =>
    (as_one (as_ret (ae_ix (ao_V (ae_F (af_lst 0 (la_cons (ao_V ae_int) (la_cons (ao_V ae_int) (la_cons (ao_V (ae_op dop_add op_addA (ao_V ae_int) (ao_V (ae_call G__law_next hr (by rfl) g__law_next k__law_next b__law_next (la_cons (ao_var 0 (pv 0)) (la_cons (ao_V ae_int) la_nil)))))) (la_cons (ao_V (ae_op dop_add op_addA (ao_V ae_int) (ao_V (ae_call G__law_next hr (by rfl) g__law_next k__law_next b__law_next (la_cons (ao_var 0 (pv 0)) (la_cons (ao_V (ae_op dop_pow op_pow (ao_V ae_int) (ao_V ae_int))) la_nil)))))) (la_cons (ao_V (ae_op dop_pow op_pow (ao_V ae_int) (ao_V ae_int))) la_nil)))))))) (ao_V (ae_call G__law_next hr (by rfl) g__law_next k__law_next b__law_next (la_cons (ao_var 0 (pv 0)) (la_cons (ao_V ae_int) la_nil)))) (fun _ _ => rfl))))

theorem scA__law_list : FnScope ["_law_deck_here", "_law_dishes", "_law_left", "_law_found"] ["_law_deck_here", "_law_dishes"] (defScope s__law_list) := ⟨rfl, rfl, rfl, by decide +kernel, rfl, by decide +kernel, by decide +kernel⟩
def b__law_list (P__law_next : AF) : AST := (sSeq (sParOO 2 3 (aListRg (rg1 (aVar 1))) (aLst lNil))
    (sSeq (sWhile (tV (a2 vNeE (oVar 2) (oV (aLst lNil))))
    (sDrop (aMut mApp 3 (lCons (oV (aMut mPopAt 2 (lCons (oV (aCall [.deck, .dat] (calm P__law_next) (lCons (oVar 0) (lCons (oV (aBlt fLen (lCons (oVar 2) lNil))) lNil)))) lNil))) lNil))))
    (sRet (aBlt fTuple (lCons (oVar 3) lNil)))))
def F__law_list : AF := fnF [.deck, .dat] 2 (b__law_list F__law_next)
theorem okA__law_list {P : Program} {w : World} {K : PySem.W.Frag} {mg : Str → Option Value} {base : Heap} {f f__law_next : Addr} {fd d__law_next : FuncData} {m : Nat} (F : Fun K "_law_list" "_law_list" s__law_list f fd)
    (k__law_next : PySem.W.keepIn K (.ref f__law_next) = true) (b__law_next : Binds K d__law_next ["_law_deck_here", "_law_many"] []) (g__law_next : mg "_law_next" = some (.ref f__law_next)) (G__law_next : FnOk P w K mg base CX0 m f__law_next d__law_next ["_law_deck_here", "_law_many"] (spA [.deck, .dat] F__law_next))
    (m_range : mg "range" = none) (m_list : mg "list" = none) (m_len : mg "len" = none) (m_tuple : mg "tuple" = none) : FnOk P w K mg base CX0 (m + 1) f fd ["_law_deck_here", "_law_dishes"] (spA [.deck, .dat] F__law_list) :=
  fn_ok F scA__law_list rfl rfl fun cdv A outer s H E hr =>
    (as_cons (as_parOO (by decide) (ps_par (i := 2) (j := 3) (by rfl) scA__law_list.nd rfl rfl (by decide) rfl rfl (pa_cons (af_listRg1 2 (by rfl) (by rfl) m_list (prg_1 (by rfl) m_range (ae_var 1 (pv 1)))) (pa_cons (af_lst 3 la_nil) pa_nil)) (by rfl)))
      (as_cons (as_while PassesOwn.never (cmp_test dop_neE (op_neE hr.units) (ao_var 2 (pv 2)) (ao_V (ae_F (af_lst 0 la_nil))) (nomark _)) (as_one (as_expr (ae_mut dm_app (pe_bm PySem.F.plainAttrs_list PySem.F.slot_list_append PySem.F.type_list_append mt_append (pv 3) (la_cons (ao_V (ae_mut dm_popAt (pe_bm PySem.F.plainAttrs_list PySem.F.slot_list_pop PySem.F.type_list_pop mt_popAtA (pv 2) (la_cons (ao_V (ae_call G__law_next hr (by rfl) g__law_next k__law_next b__law_next (la_cons (ao_var 0 (pv 0)) (la_cons (ao_V (ae_blt dc_len (pe_callB call_len (by rfl) m_len PySem.boot_len (la_cons (ao_var 2 (pv 2)) la_nil)))) la_nil)))) la_nil)))) la_nil))))))
      (as_one (as_ret (ae_blt dc_tuple (pe_callTy call_tupleF (by rfl) m_tuple (by decide +kernel) (la_cons (ao_var 3 (pv 3)) la_nil)))))))

theorem scA__law_exchanged : FnScope ["_law_row", "_law_k"] ["_law_row", "_law_k"] (defScope s__law_exchanged) := ⟨rfl, rfl, rfl, by decide +kernel, rfl, by decide +kernel, by decide +kernel⟩
def b__law_exchanged : AST := (sRet (a2 vAdd (oV (a2 vAdd (oV (aSl (oVar 0) ptNone (ptSome (aVar 1)))) (oV (aTup (lCons (oV (a2 vIx (oVar 0) (oV (a2 vAdd (oVar 1) (oV (aC (.int 1))))))) (lCons (oV (a2 vIx (oVar 0) (oVar 1))) lNil)))))) (oV (aSl (oVar 0) (ptSome (a2 vAdd (oVar 1) (oV (aC (.int 2))))) ptNone))))
def F__law_exchanged : AF := fnF [.dat, .dat] 0 (b__law_exchanged)
theorem okA__law_exchanged {P : Program} {w : World} {K : PySem.W.Frag} {mg : Str → Option Value} {base : Heap} {f  : Addr} {fd  : FuncData} {m : Nat} (F : Fun K "_law_exchanged" "_law_exchanged" s__law_exchanged f fd)
     : FnOk P w K mg base CX0 (m + 1) f fd ["_law_row", "_law_k"] (spA [.dat, .dat] F__law_exchanged) :=
  fn_ok F scA__law_exchanged rfl rfl fun cdv A outer s H E hr =>
    (as_one (as_ret (ae_op dop_add op_addA (ao_V (ae_op dop_add op_addA (ao_V (ae_sl (ao_var 0 (pv 0)) pt_none (pt_some (ae_var 1 (pv 1))))) (ao_V (ae_tup (la_cons (ao_V (ae_ix (ao_var 0 (pv 0)) (ao_V (ae_op dop_add op_addA (ao_var 1 (pv 1)) (ao_V ae_int))) (fun _ _ => rfl))) (la_cons (ao_V (ae_ix (ao_var 0 (pv 0)) (ao_var 1 (pv 1)) (fun _ _ => rfl))) la_nil)))))) (ao_V (ae_sl (ao_var 0 (pv 0)) (pt_some (ae_op dop_add op_addA (ao_var 1 (pv 1)) (ao_V ae_int))) pt_none)))))

theorem scA__law_road : FnScope ["_law_deck_here", "_law_dishes", "_law_steps", "_law_found", "_law_done", "_law_turn", "_law_row", "_law_k", "_law_pairs_here", "_law_some"] ["_law_deck_here", "_law_dishes", "_law_steps"] (defScope s__law_road) := ⟨rfl, rfl, rfl, by decide +kernel, rfl, by decide +kernel, by decide +kernel⟩
def b__law_road (P__law_list : AF) (P__law_one : AF) (P__law_exchanged : AF) : AST := (sSeq (sSetO 3 (aLst (lCons (oV (aCall [.deck, .dat] (calm P__law_list) (lCons (oVar 0) (lCons (oV (aVar 1)) lNil)))) lNil)))
    (sSeq (sSetO 4 (aLst lNil))
    (sSeq (sFor (iRange1 (lCons (oVar 2) lNil)) (bNm 5)
    (sSeq (sSet 6 (a2 vIx (oVar 3) (oV (aNeg (oV (aC (.int 1)))))))
    (sSeq (sSet 8 (aLc (iRange1 (lCons (oV (a2 vSub (oVar 1) (oV (aC (.int 1))))) lNil)) (bNm 7) tYesA (aBlt fTuple (lCons (oV (aBlt fSorted (lCons (oV (aSl (oVar 6) (ptSome (aVar 7)) (ptSome (a2 vAdd (oVar 7) (oV (aC (.int 2))))))) lNil))) lNil)) [7]))
    (sSeq (sSet 9 (aLc (iRange1 (lCons (oV (a2 vSub (oVar 1) (oV (aC (.int 1))))) lNil)) (bNm 7) (tV (a2 vNotIn (oV (a2 vIx (oVar 8) (oVar 7))) (oVar 4))) (aVar 7) [7]))
    (sIf (tV (a2 vNeE (oVar 9) (oV (aLst lNil))))
    (sSeq (sSet 7 (aCall [.deck, .bor] (calm P__law_one) (lCons (oVar 0) (lCons (oVar 9) lNil))))
    (sSeq (sDrop (aMut mApp 4 (lCons (oV (a2 vIx (oVar 8) (oVar 7))) lNil)))
    (sDrop (aMut mApp 3 (lCons (oV (aCall0 [.dat, .dat] (calm P__law_exchanged) (lCons (oV (aVar 6)) (lCons (oV (aVar 7)) lNil)))) lNil)))))
    sNx)))))
    (sRetV 3))))
def F__law_road : AF := fnF [.deck, .dat, .dat] 7 (b__law_road F__law_list F__law_one F__law_exchanged)
theorem okA__law_road {P : Program} {w : World} {K : PySem.W.Frag} {mg : Str → Option Value} {base : Heap} {f f__law_list f__law_one f__law_exchanged : Addr} {fd d__law_list d__law_one d__law_exchanged : FuncData} {m : Nat} (F : Fun K "_law_road" "_law_road" s__law_road f fd)
    (k__law_list : PySem.W.keepIn K (.ref f__law_list) = true) (b__law_list : Binds K d__law_list ["_law_deck_here", "_law_dishes"] []) (g__law_list : mg "_law_list" = some (.ref f__law_list)) (G__law_list : FnOk P w K mg base CX0 m f__law_list d__law_list ["_law_deck_here", "_law_dishes"] (spA [.deck, .dat] F__law_list))
    (k__law_one : PySem.W.keepIn K (.ref f__law_one) = true) (b__law_one : Binds K d__law_one ["_law_deck_here", "_law_some"] []) (g__law_one : mg "_law_one" = some (.ref f__law_one)) (G__law_one : FnOk P w K mg base CX0 m f__law_one d__law_one ["_law_deck_here", "_law_some"] (spA [.deck, .bor] F__law_one))
    (k__law_exchanged : PySem.W.keepIn K (.ref f__law_exchanged) = true) (b__law_exchanged : Binds K d__law_exchanged ["_law_row", "_law_k"] []) (g__law_exchanged : mg "_law_exchanged" = some (.ref f__law_exchanged)) (G__law_exchanged : FnOk P w K mg base CX0 m f__law_exchanged d__law_exchanged ["_law_row", "_law_k"] (spA [.dat, .dat] F__law_exchanged))
    (m_range : mg "range" = none) (m_tuple : mg "tuple" = none) (m_sorted : mg "sorted" = none) : FnOk P w K mg base CX0 (m + 1) f fd ["_law_deck_here", "_law_dishes", "_law_steps"] (spA [.deck, .dat, .dat] F__law_road) :=
  fn_ok F scA__law_road rfl rfl fun cdv A outer s H E hr =>
    (as_cons (as_setO (i := 3) scA__law_road.nd rfl (.inl rfl) (af_lst 3 (la_cons (ao_V (ae_call G__law_list hr (by rfl) g__law_list k__law_list b__law_list (la_cons (ao_var 0 (pv 0)) (la_cons (ao_V (ae_var 1 (pv 1))) la_nil)))) la_nil)))
      (as_cons (as_setO (i := 4) scA__law_road.nd rfl (.inr rfl) (af_lst 4 la_nil))
      (as_cons (as_for PassesOwn.never rfl (ai_range1 (by rfl) m_range (la_cons (ao_var 2 (pv 2)) la_nil)) (ag_name (pg_name (i := 5) scA__law_road.nd rfl (.inl rfl))) (as_cons (as_set (i := 6) scA__law_road.nd rfl (.inr rfl) (ae_ix (ao_var 3 (pv 3)) (ao_V (ae_neg (ao_V ae_int))) (fun _ _ => rfl)))
      (as_cons (as_set (i := 8) scA__law_road.nd rfl (.inr rfl) (ae_F (af_lc 0 (own := [("_law_k", 7)]) (by rfl) scA__law_road.nd (ai_range1 (by rfl) m_range (la_cons (ao_V (ae_op dop_sub op_subA (ao_var 1 (pv 1)) (ao_V ae_int))) la_nil)) (blkOk_by (own := [("_law_k", 7)]) (N := ["_law_deck_here", "_law_dishes", "_law_steps", "_law_found", "_law_done", "_law_turn", "_law_row", "_law_k", "_law_pairs_here", "_law_some"]) (sc := defScope s__law_road) (by decide +kernel)) (fun _ _ _ _ _ => (ag_name (pg_name (i := 7) scA__law_road.nd rfl (Or.inl rfl)))) (fun _ _ _ _ _ => ts_nil) (fun _ _ _ _ _ => (ae_blt dc_tuple (pe_callTy call_tupleF (by rfl) m_tuple (by decide +kernel) (la_cons (ao_V (ae_F (af_blt 0 dc_sorted (pe_callB (cr_sortedA (u65 hr)) (by rfl) m_sorted (by decide +kernel) (la_cons (ao_V (ae_sl (ao_var 6 (pv 6)) (pt_some (ae_var 7 (pv 7))) (pt_some (ae_op dop_add op_addA (ao_var 7 (pv 7)) (ao_V ae_int))))) la_nil))))) la_nil)))))))
      (as_cons (as_setLc 9 rfl rfl (sw_true rfl rfl rfl (by decide +kernel)) (own := [("_law_k", 7)]) (by rfl) scA__law_road.nd (ai_range1 (by rfl) m_range (la_cons (ao_V (ae_op dop_sub op_subA (ao_var 1 (pv 1)) (ao_V ae_int))) la_nil)) (blkOk_by (own := [("_law_k", 7)]) (N := ["_law_deck_here", "_law_dishes", "_law_steps", "_law_found", "_law_done", "_law_turn", "_law_row", "_law_k", "_law_pairs_here", "_law_some"]) (sc := defScope s__law_road) (by decide +kernel)) (fun _ _ _ _ _ => (ag_name (pg_name (i := 7) scA__law_road.nd rfl (Or.inl rfl)))) (fun _ _ _ _ _ => (ts_one (cmp_test dop_notIn (op_notInA (u65 hr)) (ao_V (ae_ix (ao_var 8 (pv 8)) (ao_var 7 (pv 7)) (fun _ _ => rfl))) (ao_var 4 (pv 4)) (by rfl)))) (fun _ _ _ _ _ => (ae_var 7 (pv 7))))
      (as_one (as_if (cmp_test dop_neE (op_neE hr.units) (ao_var 9 (pv 9)) (ao_V (ae_F (af_lst 0 la_nil))) (nomark _)) (as_cons (as_set (i := 7) scA__law_road.nd rfl (.inl rfl) (ae_call G__law_one hr (by rfl) g__law_one k__law_one b__law_one (la_cons (ao_var 0 (pv 0)) (la_cons (ao_var 9 (pv 9)) la_nil))))
      (as_cons (as_expr (ae_mut dm_app (pe_bm PySem.F.plainAttrs_list PySem.F.slot_list_append PySem.F.type_list_append mt_append (pv 4) (la_cons (ao_V (ae_ix (ao_var 8 (pv 8)) (ao_var 7 (pv 7)) (fun _ _ => rfl))) la_nil))))
      (as_one (as_expr (ae_mut dm_app (pe_bm PySem.F.plainAttrs_list PySem.F.slot_list_append PySem.F.type_list_append mt_append (pv 3) (la_cons (ao_V (ae_call0 G__law_exchanged (by decide) hr (by rfl) g__law_exchanged k__law_exchanged b__law_exchanged (la_cons (ao_V (ae_var 6 (pv 6))) (la_cons (ao_V (ae_var 7 (pv 7))) la_nil)))) la_nil))))))) as_nil))))))
      (as_one (as_retV 3 (pv 3))))))

theorem scA__law_seated : FnScope ["_law_deck_here", "_law_dishes", "_law_many", "_law_road_here", "_law_k"] ["_law_deck_here", "_law_dishes", "_law_many"] (defScope s__law_seated) := ⟨rfl, rfl, rfl, by decide +kernel, rfl, by decide +kernel, by decide +kernel⟩
def b__law_seated (P__law_road : AF) (P__law_next : AF) (P__law_people : AF) (P__law_one : AF) : AST := (sSeq (sSet 3 (aCall [.deck, .dat, .dat] (calm P__law_road) (lCons (oVar 0) (lCons (oV (aVar 1)) (lCons (oV (a2 vIx (oV (aLst (lCons (oV (aC (.int 2))) (lCons (oV (aC (.int 5))) (lCons (oV (aC (.int 28))) lNil))))) (oV (aCall [.deck, .dat] (calm P__law_next) (lCons (oVar 0) (lCons (oV (aC (.int 3))) lNil)))))) lNil)))))
    (sRet (aTup (lCons (oV (aVar 1)) (lCons (oV (aBlt fTuple (lCons (oV (aLc (iRange1 (lCons (oVar 2) lNil)) (bNm 4) tYesA (aTup (lCons (oV (aCall [.deck, .bor] (calm P__law_one) (lCons (oVar 0) (lCons (oVar 3) lNil)))) (lCons (oV (aCall [.deck] (calm P__law_people) (lCons (oVar 0) lNil))) lNil))) [4])) lNil))) lNil)))))
def F__law_seated : AF := fnF [.deck, .dat, .dat] 2 (b__law_seated F__law_road F__law_next F__law_people F__law_one)
theorem okA__law_seated {P : Program} {w : World} {K : PySem.W.Frag} {mg : Str → Option Value} {base : Heap} {f f__law_road f__law_next f__law_people f__law_one : Addr} {fd d__law_road d__law_next d__law_people d__law_one : FuncData} {m : Nat} (F : Fun K "_law_seated" "_law_seated" s__law_seated f fd)
    (k__law_road : PySem.W.keepIn K (.ref f__law_road) = true) (b__law_road : Binds K d__law_road ["_law_deck_here", "_law_dishes", "_law_steps"] []) (g__law_road : mg "_law_road" = some (.ref f__law_road)) (G__law_road : FnOk P w K mg base CX0 m f__law_road d__law_road ["_law_deck_here", "_law_dishes", "_law_steps"] (spA [.deck, .dat, .dat] F__law_road))
    (k__law_next : PySem.W.keepIn K (.ref f__law_next) = true) (b__law_next : Binds K d__law_next ["_law_deck_here", "_law_many"] []) (g__law_next : mg "_law_next" = some (.ref f__law_next)) (G__law_next : FnOk P w K mg base CX0 m f__law_next d__law_next ["_law_deck_here", "_law_many"] (spA [.deck, .dat] F__law_next))
    (k__law_people : PySem.W.keepIn K (.ref f__law_people) = true) (b__law_people : Binds K d__law_people ["_law_deck_here"] []) (g__law_people : mg "_law_people" = some (.ref f__law_people)) (G__law_people : FnOk P w K mg base CX0 m f__law_people d__law_people ["_law_deck_here"] (spA [.deck] F__law_people))
    (k__law_one : PySem.W.keepIn K (.ref f__law_one) = true) (b__law_one : Binds K d__law_one ["_law_deck_here", "_law_some"] []) (g__law_one : mg "_law_one" = some (.ref f__law_one)) (G__law_one : FnOk P w K mg base CX0 m f__law_one d__law_one ["_law_deck_here", "_law_some"] (spA [.deck, .bor] F__law_one))
    (m_tuple : mg "tuple" = none) (m_range : mg "range" = none) : FnOk P w K mg base CX0 (m + 1) f fd ["_law_deck_here", "_law_dishes", "_law_many"] (spA [.deck, .dat, .dat] F__law_seated) :=
  fn_ok F scA__law_seated rfl rfl fun cdv A outer s H E hr =>
    (as_cons (as_set (i := 3) scA__law_seated.nd rfl (.inr rfl) (ae_call G__law_road hr (by rfl) g__law_road k__law_road b__law_road (la_cons (ao_var 0 (pv 0)) (la_cons (ao_V (ae_var 1 (pv 1))) (la_cons (ao_V (ae_ix (ao_V (ae_F (af_lst 0 (la_cons (ao_V ae_int) (la_cons (ao_V ae_int) (la_cons (ao_V ae_int) la_nil)))))) (ao_V (ae_call G__law_next hr (by rfl) g__law_next k__law_next b__law_next (la_cons (ao_var 0 (pv 0)) (la_cons (ao_V ae_int) la_nil)))) (fun _ _ => rfl))) la_nil)))))
      (as_one (as_ret (ae_tup (la_cons (ao_V (ae_var 1 (pv 1))) (la_cons (ao_V (ae_blt dc_tuple (pe_callTy call_tupleF (by rfl) m_tuple (by decide +kernel) (la_cons (ao_V (ae_F (af_lc 0 (own := [("_law_k", 4)]) (by rfl) scA__law_seated.nd (ai_range1 (by rfl) m_range (la_cons (ao_var 2 (pv 2)) la_nil)) (blkOk_by (own := [("_law_k", 4)]) (N := ["_law_deck_here", "_law_dishes", "_law_many", "_law_road_here", "_law_k"]) (sc := defScope s__law_seated) (by decide +kernel)) (fun _ _ _ _ _ => (ag_name (pg_name (i := 4) scA__law_seated.nd rfl (Or.inl rfl)))) (fun _ _ _ _ _ => ts_nil) (fun _ _ _ _ _ => (ae_tup (la_cons (ao_V (ae_call G__law_one hr (by rfl) g__law_one k__law_one b__law_one (la_cons (ao_var 0 (pv 0)) (la_cons (ao_var 3 (pv 3)) la_nil)))) (la_cons (ao_V (ae_call G__law_people hr (by rfl) g__law_people k__law_people b__law_people (la_cons (ao_var 0 (pv 0)) la_nil))) la_nil))))))) la_nil)))) la_nil))))))

theorem scA__law_any : FnScope ["_law_deck_here", "_law_dishes", "_law_many", "_law_found", "_law_row", "_law_way"] ["_law_deck_here", "_law_dishes", "_law_many"] (defScope s__law_any) := ⟨rfl, rfl, rfl, by decide +kernel, rfl, by decide +kernel, by decide +kernel⟩
def b__law_any (P__law_list : AF) (P__law_next : AF) (P__law_one : AF) (P__law_exchanged : AF) (P__law_people : AF) : AST := (sSeq (sSetO 3 (aLst (lCons (oV (aCall [.deck, .dat] (calm P__law_list) (lCons (oVar 0) (lCons (oV (aVar 1)) lNil)))) lNil)))
    (sSeq (sWhile (tV (a2 vLt (oV (aBlt fLen (lCons (oVar 3) lNil))) (oVar 2)))
    (sSeq (sPar 4 5 (lCons (oV (aCall [.deck, .bor] (calm P__law_one) (lCons (oVar 0) (lCons (oVar 3) lNil)))) (lCons (oV (aCall [.deck, .dat] (calm P__law_next) (lCons (oVar 0) (lCons (oV (aC (.int 4))) lNil)))) lNil)))
    (sSeq (sIf (tV (a2 vEq (oVar 5) (oV (aC (.int 0)))))
    (sSet 4 (aCall [.deck, .dat] (calm P__law_list) (lCons (oVar 0) (lCons (oV (aVar 1)) lNil))))
    (sIf (tAndA (tV (a2 vLt (oVar 5) (oV (aC (.int 3))))) (tV (a2 vGt (oVar 1) (oV (aC (.int 1))))))
    (sSet 4 (aCall0 [.dat, .dat] (calm P__law_exchanged) (lCons (oV (aVar 4)) (lCons (oV (aCall [.deck, .dat] (calm P__law_next) (lCons (oVar 0) (lCons (oV (a2 vSub (oVar 1) (oV (aC (.int 1))))) lNil)))) lNil))))
    sNx))
    (sDrop (aMut mApp 3 (lCons (oV (aVar 4)) lNil))))))
    (sRet (aTup (lCons (oV (aVar 1)) (lCons (oV (aBlt fTuple (lCons (oV (aLc (iSeq (oVar 3)) (bNm 4) tYesA (aTup (lCons (oV (aVar 4)) (lCons (oV (aCall [.deck] (calm P__law_people) (lCons (oVar 0) lNil))) lNil))) [4])) lNil))) lNil))))))
def F__law_any : AF := fnF [.deck, .dat, .dat] 3 (b__law_any F__law_list F__law_next F__law_one F__law_exchanged F__law_people)
theorem okA__law_any {P : Program} {w : World} {K : PySem.W.Frag} {mg : Str → Option Value} {base : Heap} {f f__law_list f__law_next f__law_one f__law_exchanged f__law_people : Addr} {fd d__law_list d__law_next d__law_one d__law_exchanged d__law_people : FuncData} {m : Nat} (F : Fun K "_law_any" "_law_any" s__law_any f fd)
    (k__law_list : PySem.W.keepIn K (.ref f__law_list) = true) (b__law_list : Binds K d__law_list ["_law_deck_here", "_law_dishes"] []) (g__law_list : mg "_law_list" = some (.ref f__law_list)) (G__law_list : FnOk P w K mg base CX0 m f__law_list d__law_list ["_law_deck_here", "_law_dishes"] (spA [.deck, .dat] F__law_list))
    (k__law_next : PySem.W.keepIn K (.ref f__law_next) = true) (b__law_next : Binds K d__law_next ["_law_deck_here", "_law_many"] []) (g__law_next : mg "_law_next" = some (.ref f__law_next)) (G__law_next : FnOk P w K mg base CX0 m f__law_next d__law_next ["_law_deck_here", "_law_many"] (spA [.deck, .dat] F__law_next))
    (k__law_one : PySem.W.keepIn K (.ref f__law_one) = true) (b__law_one : Binds K d__law_one ["_law_deck_here", "_law_some"] []) (g__law_one : mg "_law_one" = some (.ref f__law_one)) (G__law_one : FnOk P w K mg base CX0 m f__law_one d__law_one ["_law_deck_here", "_law_some"] (spA [.deck, .bor] F__law_one))
    (k__law_exchanged : PySem.W.keepIn K (.ref f__law_exchanged) = true) (b__law_exchanged : Binds K d__law_exchanged ["_law_row", "_law_k"] []) (g__law_exchanged : mg "_law_exchanged" = some (.ref f__law_exchanged)) (G__law_exchanged : FnOk P w K mg base CX0 m f__law_exchanged d__law_exchanged ["_law_row", "_law_k"] (spA [.dat, .dat] F__law_exchanged))
    (k__law_people : PySem.W.keepIn K (.ref f__law_people) = true) (b__law_people : Binds K d__law_people ["_law_deck_here"] []) (g__law_people : mg "_law_people" = some (.ref f__law_people)) (G__law_people : FnOk P w K mg base CX0 m f__law_people d__law_people ["_law_deck_here"] (spA [.deck] F__law_people))
    (m_len : mg "len" = none) (m_tuple : mg "tuple" = none) : FnOk P w K mg base CX0 (m + 1) f fd ["_law_deck_here", "_law_dishes", "_law_many"] (spA [.deck, .dat, .dat] F__law_any) :=
  fn_ok F scA__law_any rfl rfl fun cdv A outer s H E hr =>
    (as_cons (as_setO (i := 3) scA__law_any.nd rfl (.inl rfl) (af_lst 3 (la_cons (ao_V (ae_call G__law_list hr (by rfl) g__law_list k__law_list b__law_list (la_cons (ao_var 0 (pv 0)) (la_cons (ao_V (ae_var 1 (pv 1))) la_nil)))) la_nil)))
      (as_cons (as_while PassesOwn.never (cmp_test dop_lt (op_ltA hr.units) (ao_V (ae_blt dc_len (pe_callB call_len (by rfl) m_len PySem.boot_len (la_cons (ao_var 3 (pv 3)) la_nil)))) (ao_var 2 (pv 2)) (nomark _)) (as_cons (as_par (ps_par (i := 4) (j := 5) (by rfl) scA__law_any.nd rfl rfl (by decide) rfl rfl (la_cons (ao_V (ae_call G__law_one hr (by rfl) g__law_one k__law_one b__law_one (la_cons (ao_var 0 (pv 0)) (la_cons (ao_var 3 (pv 3)) la_nil)))) (la_cons (ao_V (ae_call G__law_next hr (by rfl) g__law_next k__law_next b__law_next (la_cons (ao_var 0 (pv 0)) (la_cons (ao_V ae_int) la_nil)))) la_nil)) (by rfl)))
      (as_cons (as_if (cmp_test dop_eq (op_eqA hr.units) (ao_var 5 (pv 5)) (ao_V ae_int) (nomark _)) (as_one (as_set (i := 4) scA__law_any.nd rfl (.inl rfl) (ae_call G__law_list hr (by rfl) g__law_list k__law_list b__law_list (la_cons (ao_var 0 (pv 0)) (la_cons (ao_V (ae_var 1 (pv 1))) la_nil))))) (as_one (as_if (PW.pt (aw_and (cmp_test dop_lt (op_ltA hr.units) (ao_var 5 (pv 5)) (ao_V ae_int) (nomark _)) (aw_and1 (cmp_test dop_gt (op_gtA hr.units) (ao_var 1 (pv 1)) (ao_V ae_int) (nomark _))))) (as_one (as_set (i := 4) scA__law_any.nd rfl (.inl rfl) (ae_call0 G__law_exchanged (by decide) hr (by rfl) g__law_exchanged k__law_exchanged b__law_exchanged (la_cons (ao_V (ae_var 4 (pv 4))) (la_cons (ao_V (ae_call G__law_next hr (by rfl) g__law_next k__law_next b__law_next (la_cons (ao_var 0 (pv 0)) (la_cons (ao_V (ae_op dop_sub op_subA (ao_var 1 (pv 1)) (ao_V ae_int))) la_nil)))) la_nil))))) as_nil)))
      (as_one (as_expr (ae_mut dm_app (pe_bm PySem.F.plainAttrs_list PySem.F.slot_list_append PySem.F.type_list_append mt_append (pv 3) (la_cons (ao_V (ae_var 4 (pv 4))) la_nil))))))))
      (as_one (as_ret (ae_tup (la_cons (ao_V (ae_var 1 (pv 1))) (la_cons (ao_V (ae_blt dc_tuple (pe_callTy call_tupleF (by rfl) m_tuple (by decide +kernel) (la_cons (ao_V (ae_F (af_lc 0 (own := [("_law_row", 4)]) (by rfl) scA__law_any.nd (ai_seq (ao_var 3 (pv 3))) (blkOk_by (own := [("_law_row", 4)]) (N := ["_law_deck_here", "_law_dishes", "_law_many", "_law_found", "_law_row", "_law_way"]) (sc := defScope s__law_any) (by decide +kernel)) (fun _ _ _ _ _ => (ag_name (pg_name (i := 4) scA__law_any.nd rfl (Or.inl rfl)))) (fun _ _ _ _ _ => ts_nil) (fun _ _ _ _ _ => (ae_tup (la_cons (ao_V (ae_var 4 (pv 4))) (la_cons (ao_V (ae_call G__law_people hr (by rfl) g__law_people k__law_people b__law_people (la_cons (ao_var 0 (pv 0)) la_nil))) la_nil))))))) la_nil)))) la_nil)))))))

theorem scA__law_table : FnScope ["_law_deck_here", "_law_dishes", "_law_many"] ["_law_deck_here", "_law_dishes", "_law_many"] (defScope s__law_table) := ⟨rfl, rfl, rfl, by decide +kernel, rfl, by decide +kernel, by decide +kernel⟩
def b__law_table (P__law_next : AF) (P__law_seated : AF) (P__law_any : AF) : AST := (sSeq (sPar 1 2 (lCons (oV (a2 vAdd (oV (aC (.int 1))) (oV (aCall [.deck, .dat] (calm P__law_next) (lCons (oVar 0) (lCons (oV (aVar 1)) lNil)))))) (lCons (oV (a2 vAdd (oV (aC (.int 1))) (oV (aCall [.deck, .dat] (calm P__law_next) (lCons (oVar 0) (lCons (oV (aVar 2)) lNil)))))) lNil)))
    (sSeq (sIf (tV (a2 vLt (oV (aCall [.deck, .dat] (calm P__law_next) (lCons (oVar 0) (lCons (oV (aC (.int 5))) lNil)))) (oV (aC (.int 3)))))
    (sRet (aCall [.deck, .dat, .dat] (calm P__law_seated) (lCons (oVar 0) (lCons (oV (aVar 1)) (lCons (oV (aVar 2)) lNil)))))
    sNx)
    (sRet (aCall [.deck, .dat, .dat] (calm P__law_any) (lCons (oVar 0) (lCons (oV (aVar 1)) (lCons (oV (aVar 2)) lNil)))))))
def F__law_table : AF := fnF [.deck, .dat, .dat] 0 (b__law_table F__law_next F__law_seated F__law_any)
theorem okA__law_table {P : Program} {w : World} {K : PySem.W.Frag} {mg : Str → Option Value} {base : Heap} {f f__law_next f__law_seated f__law_any : Addr} {fd d__law_next d__law_seated d__law_any : FuncData} {m : Nat} (F : Fun K "_law_table" "_law_table" s__law_table f fd)
    (k__law_next : PySem.W.keepIn K (.ref f__law_next) = true) (b__law_next : Binds K d__law_next ["_law_deck_here", "_law_many"] []) (g__law_next : mg "_law_next" = some (.ref f__law_next)) (G__law_next : FnOk P w K mg base CX0 m f__law_next d__law_next ["_law_deck_here", "_law_many"] (spA [.deck, .dat] F__law_next))
    (k__law_seated : PySem.W.keepIn K (.ref f__law_seated) = true) (b__law_seated : Binds K d__law_seated ["_law_deck_here", "_law_dishes", "_law_many"] []) (g__law_seated : mg "_law_seated" = some (.ref f__law_seated)) (G__law_seated : FnOk P w K mg base CX0 m f__law_seated d__law_seated ["_law_deck_here", "_law_dishes", "_law_many"] (spA [.deck, .dat, .dat] F__law_seated))
    (k__law_any : PySem.W.keepIn K (.ref f__law_any) = true) (b__law_any : Binds K d__law_any ["_law_deck_here", "_law_dishes", "_law_many"] []) (g__law_any : mg "_law_any" = some (.ref f__law_any)) (G__law_any : FnOk P w K mg base CX0 m f__law_any d__law_any ["_law_deck_here", "_law_dishes", "_law_many"] (spA [.deck, .dat, .dat] F__law_any))
     : FnOk P w K mg base CX0 (m + 1) f fd ["_law_deck_here", "_law_dishes", "_law_many"] (spA [.deck, .dat, .dat] F__law_table) :=
  fn_ok F scA__law_table rfl rfl fun cdv A outer s H E hr =>
    (as_cons (as_par (ps_par (i := 1) (j := 2) (by rfl) scA__law_table.nd rfl rfl (by decide) rfl rfl (la_cons (ao_V (ae_op dop_add op_addA (ao_V ae_int) (ao_V (ae_call G__law_next hr (by rfl) g__law_next k__law_next b__law_next (la_cons (ao_var 0 (pv 0)) (la_cons (ao_V (ae_var 1 (pv 1))) la_nil)))))) (la_cons (ao_V (ae_op dop_add op_addA (ao_V ae_int) (ao_V (ae_call G__law_next hr (by rfl) g__law_next k__law_next b__law_next (la_cons (ao_var 0 (pv 0)) (la_cons (ao_V (ae_var 2 (pv 2))) la_nil)))))) la_nil)) (by rfl)))
      (as_cons (as_if (cmp_test dop_lt (op_ltA hr.units) (ao_V (ae_call G__law_next hr (by rfl) g__law_next k__law_next b__law_next (la_cons (ao_var 0 (pv 0)) (la_cons (ao_V ae_int) la_nil)))) (ao_V ae_int) (nomark _)) (as_one (as_ret (ae_call G__law_seated hr (by rfl) g__law_seated k__law_seated b__law_seated (la_cons (ao_var 0 (pv 0)) (la_cons (ao_V (ae_var 1 (pv 1))) (la_cons (ao_V (ae_var 2 (pv 2))) la_nil)))))) as_nil)
      (as_one (as_ret (ae_call G__law_any hr (by rfl) g__law_any k__law_any b__law_any (la_cons (ao_var 0 (pv 0)) (la_cons (ao_V (ae_var 1 (pv 1))) (la_cons (ao_V (ae_var 2 (pv 2))) la_nil))))))))

theorem scA__law_pairs : FnScope ["_law_dishes", "_law_found", "_law_a", "_law_b"] ["_law_dishes"] (defScope s__law_pairs) := ⟨rfl, rfl, rfl, by decide +kernel, rfl, by decide +kernel, by decide +kernel⟩
def b__law_pairs : AST := (sSeq (sSetO 1 (aLst lNil))
    (sSeq (sFor (iRange1 (lCons (oVar 0) lNil)) (bNm 2)
    (sDrop (aMut mExt 1 (lCons (oV (aLc (iRange2 (lCons (oV (a2 vAdd (oVar 2) (oV (aC (.int 1))))) (lCons (oVar 0) lNil))) (bNm 3) tYesA (aTup (lCons (oV (aVar 2)) (lCons (oV (aVar 3)) lNil))) [3])) lNil))))
    (sRetV 1)))
def F__law_pairs : AF := fnF [.dat] 3 (b__law_pairs)
theorem okA__law_pairs {P : Program} {w : World} {K : PySem.W.Frag} {mg : Str → Option Value} {base : Heap} {f  : Addr} {fd  : FuncData} {m : Nat} (F : Fun K "_law_pairs" "_law_pairs" s__law_pairs f fd)
    (m_range : mg "range" = none) : FnOk P w K mg base CX0 (m + 1) f fd ["_law_dishes"] (spA [.dat] F__law_pairs) :=
  fn_ok F scA__law_pairs rfl rfl fun cdv A outer s H E hr =>
    (as_cons (as_setO (i := 1) scA__law_pairs.nd rfl (.inl rfl) (af_lst 1 la_nil))
      (as_cons (as_for PassesOwn.never rfl (ai_range1 (by rfl) m_range (la_cons (ao_var 0 (pv 0)) la_nil)) (ag_name (pg_name (i := 2) scA__law_pairs.nd rfl (.inr rfl))) (as_one (as_expr (ae_mut dm_ext (pe_bm PySem.F.plainAttrs_list PySem.F.slot_list_extend PySem.F.type_list_extend mt_extend (pv 1) (la_cons (ao_V (ae_F (af_lc 0 (own := [("_law_b", 3)]) (by rfl) scA__law_pairs.nd (ai_range2 (by rfl) m_range (la_cons (ao_V (ae_op dop_add op_addA (ao_var 2 (pv 2)) (ao_V ae_int))) (la_cons (ao_var 0 (pv 0)) la_nil))) (blkOk_by (own := [("_law_b", 3)]) (N := ["_law_dishes", "_law_found", "_law_a", "_law_b"]) (sc := defScope s__law_pairs) (by decide +kernel)) (fun _ _ _ _ _ => (ag_name (pg_name (i := 3) scA__law_pairs.nd rfl (Or.inl rfl)))) (fun _ _ _ _ _ => ts_nil) (fun _ _ _ _ _ => (ae_tup (la_cons (ao_V (ae_var 2 (pv 2))) (la_cons (ao_V (ae_var 3 (pv 3))) la_nil))))))) la_nil))))))
      (as_one (as_retV 1 (pv 1)))))

theorem scA__law_sides : FnScope ["_law_table_here", "_law_found", "_law_a", "_law_b", "_law_row", "_law_people_here"] ["_law_table_here"] (defScope s__law_sides) := ⟨rfl, rfl, rfl, by decide +kernel, rfl, by decide +kernel, by decide +kernel⟩
def b__law_sides (P__law_pairs : AF) : AST := (sSeq (sSetO 1 (aLst lNil))
    (sSeq (sFor (iSeq (oV (aCall0 [.dat] (calm P__law_pairs) (lCons (oV (a2 vIx (oVar 0) (oV (aC (.int 0))))) lNil)))) (bTup 2 (bCons (bNm 2) (bCons (bNm 3) bNil)))
    (sDrop (aMut mApp 1 (lCons (oV (aLc (iSeq (oV (a2 vIx (oVar 0) (oV (aC (.int 1)))))) (bTup 2 (bCons (bNm 4) (bCons (bNm 5) bNil))) tYesA (a2 vLt (oV (aIdx (oVar 4) (lCons (oVar 2) lNil))) (oV (aIdx (oVar 4) (lCons (oVar 3) lNil)))) [4, 5])) lNil))))
    (sRetV 1)))
def F__law_sides : AF := fnF [.dat] 5 (b__law_sides F__law_pairs)
theorem okA__law_sides {P : Program} {w : World} {K : PySem.W.Frag} {mg : Str → Option Value} {base : Heap} {f f__law_pairs : Addr} {fd d__law_pairs : FuncData} {m : Nat} (F : Fun K "_law_sides" "_law_sides" s__law_sides f fd)
    (k__law_pairs : PySem.W.keepIn K (.ref f__law_pairs) = true) (b__law_pairs : Binds K d__law_pairs ["_law_dishes"] []) (g__law_pairs : mg "_law_pairs" = some (.ref f__law_pairs)) (G__law_pairs : FnOk P w K mg base CX0 m f__law_pairs d__law_pairs ["_law_dishes"] (spA [.dat] F__law_pairs))
     : FnOk P w K mg base CX0 (m + 1) f fd ["_law_table_here"] (spA [.dat] F__law_sides) :=
  fn_ok F scA__law_sides rfl rfl fun cdv A outer s H E hr =>
    (as_cons (as_setO (i := 1) scA__law_sides.nd rfl (.inl rfl) (af_lst 1 la_nil))
      (as_cons (as_for PassesOwn.never rfl (ai_seq (ao_V (ae_call0 G__law_pairs (by decide) hr (by rfl) g__law_pairs k__law_pairs b__law_pairs (la_cons (ao_V (ae_ix (ao_var 0 (pv 0)) (ao_V ae_int) (fun _ _ => rfl))) la_nil)))) (ag_tup (by rfl) (ags_cons (ag_name (pg_name (i := 2) scA__law_sides.nd rfl (.inr rfl))) (ags_cons (ag_name (pg_name (i := 3) scA__law_sides.nd rfl (.inr rfl))) ags_nil))) (as_one (as_expr (ae_mut dm_app (pe_bm PySem.F.plainAttrs_list PySem.F.slot_list_append PySem.F.type_list_append mt_append (pv 1) (la_cons (ao_V (ae_F (af_lc 0 (own := [("_law_row", 4), ("_law_people_here", 5)]) (by rfl) scA__law_sides.nd (ai_seq (ao_V (ae_ix (ao_var 0 (pv 0)) (ao_V ae_int) (fun _ _ => rfl)))) (blkOk_by (own := [("_law_row", 4), ("_law_people_here", 5)]) (N := ["_law_table_here", "_law_found", "_law_a", "_law_b", "_law_row", "_law_people_here"]) (sc := defScope s__law_sides) (by decide +kernel)) (fun _ _ _ _ _ => (ag_tup (by rfl) (ags_cons (ag_name (pg_name (i := 4) scA__law_sides.nd rfl (Or.inl rfl))) (ags_cons (ag_name (pg_name (i := 5) scA__law_sides.nd rfl (Or.inl rfl))) ags_nil)))) (fun _ _ _ _ _ => ts_nil) (fun _ _ _ _ _ => (ae_cmp dop_lt (op_ltA hr.units) (ao_V (ae_idx (pe_bmT (r := rTupIdx K) PySem.F.slot_tuple_index PySem.F.type_tuple_index mt_tupIdx (ao_var 4 (pv 4)) (la_cons (ao_var 2 (pv 2)) la_nil)))) (ao_V (ae_idx (pe_bmT (r := rTupIdx K) PySem.F.slot_tuple_index PySem.F.type_tuple_index mt_tupIdx (ao_var 4 (pv 4)) (la_cons (ao_var 3 (pv 3)) la_nil)))) (nomark _)))))) la_nil))))))
      (as_one (as_retV 1 (pv 1)))))

theorem scA__law_runs : FnScope ["_law_sides_here", "_law_row", "_law_side", "_law_along", "_law_k"] ["_law_sides_here", "_law_row"] (defScope s__law_runs) := ⟨rfl, rfl, rfl, by decide +kernel, rfl, by decide +kernel, by decide +kernel⟩
def b__law_runs : AST := (sSeq (sFor (iSeq (oV (aVar 0))) (bNm 2)
    (sSeq (sSet 3 (aLc (iSeq (oVar 1)) (bNm 4) tYesA (a2 vIx (oVar 2) (oVar 4)) [4]))
    (sIf (tV (a2 vGt (oV (aBlt fLen (lCons (oV (aLc (iRange2 (lCons (oV (aC (.int 1))) (lCons (oV (aBlt fLen (lCons (oVar 1) lNil))) lNil))) (bNm 4) (tV (a2 vNe (oV (a2 vIx (oVar 3) (oVar 4))) (oV (a2 vIx (oVar 3) (oV (a2 vSub (oVar 4) (oV (aC (.int 1))))))))) (aVar 4) [4])) lNil))) (oV (aC (.int 1)))))
    (sRet (aC (.bool false)))
    sNx)))
    (sRet (aC (.bool true))))
def F__law_runs : AF := fnF [.dat, .dat] 3 (b__law_runs)
theorem okA__law_runs {P : Program} {w : World} {K : PySem.W.Frag} {mg : Str → Option Value} {base : Heap} {f  : Addr} {fd  : FuncData} {m : Nat} (F : Fun K "_law_runs" "_law_runs" s__law_runs f fd)
    (m_len : mg "len" = none) (m_range : mg "range" = none) : FnOk P w K mg base CX0 (m + 1) f fd ["_law_sides_here", "_law_row"] (spA [.dat, .dat] F__law_runs) :=
  fn_ok F scA__law_runs rfl rfl fun cdv A outer s H E hr =>
    (as_cons (as_for PassesOwn.never rfl (ai_seq (ao_V (ae_var 0 (pv 0)))) (ag_name (pg_name (i := 2) scA__law_runs.nd rfl (.inr rfl))) (as_cons (as_set (i := 3) scA__law_runs.nd rfl (.inr rfl) (ae_F (af_lc 0 (own := [("_law_k", 4)]) (by rfl) scA__law_runs.nd (ai_seq (ao_var 1 (pv 1))) (blkOk_by (own := [("_law_k", 4)]) (N := ["_law_sides_here", "_law_row", "_law_side", "_law_along", "_law_k"]) (sc := defScope s__law_runs) (by decide +kernel)) (fun _ _ _ _ _ => (ag_name (pg_name (i := 4) scA__law_runs.nd rfl (Or.inl rfl)))) (fun _ _ _ _ _ => ts_nil) (fun _ _ _ _ _ => (ae_ix (ao_var 2 (pv 2)) (ao_var 4 (pv 4)) (fun _ _ => rfl))))))
      (as_one (as_if (cmp_test dop_gt (op_gtA hr.units) (ao_V (ae_blt dc_len (pe_callB call_len (by rfl) m_len PySem.boot_len (la_cons (ao_V (ae_F (af_lc 0 (own := [("_law_k", 4)]) (by rfl) scA__law_runs.nd (ai_range2 (by rfl) m_range (la_cons (ao_V ae_int) (la_cons (ao_V (ae_blt dc_len (pe_callB call_len (by rfl) m_len PySem.boot_len (la_cons (ao_var 1 (pv 1)) la_nil)))) la_nil))) (blkOk_by (own := [("_law_k", 4)]) (N := ["_law_sides_here", "_law_row", "_law_side", "_law_along", "_law_k"]) (sc := defScope s__law_runs) (by decide +kernel)) (fun _ _ _ _ _ => (ag_name (pg_name (i := 4) scA__law_runs.nd rfl (Or.inl rfl)))) (fun _ _ _ _ _ => (ts_one (cmp_test dop_ne (op_neA hr.units) (ao_V (ae_ix (ao_var 3 (pv 3)) (ao_var 4 (pv 4)) (fun _ _ => rfl))) (ao_V (ae_ix (ao_var 3 (pv 3)) (ao_V (ae_op dop_sub op_subA (ao_var 4 (pv 4)) (ao_V ae_int))) (fun _ _ => rfl))) (nomark _)))) (fun _ _ _ _ _ => (ae_var 4 (pv 4)))))) la_nil)))) (ao_V ae_int) (nomark _)) (as_one (as_ret ae_bl)) as_nil))))
      (as_one (as_ret ae_bl)))

theorem scA__law_due : FnScope ["_law_table_here", "_law_taster", "_law_found", "_law_side", "_law_split", "_law_k"] ["_law_table_here", "_law_taster"] (defScope s__law_due) := ⟨rfl, rfl, rfl, by decide +kernel, rfl, by decide +kernel, by decide +kernel⟩
def b__law_due (P__law_sides : AF) : AST := (sSeq (sSetO 2 (aLst lNil))
    (sSeq (sFor (iSeq (oV (aCall0 [.dat] (calm P__law_sides) (lCons (oV (aVar 0)) lNil)))) (bNm 3)
    (sSeq (sSet 4 (aBlt fTuple (lCons (oV (aLc (iRange1 (lCons (oV (aBlt fLen (lCons (oVar 3) lNil))) lNil)) (bNm 5) (tV (a2 vNe (oV (a2 vIx (oVar 3) (oVar 5))) (oV (a2 vIx (oVar 3) (oVar 1))))) (aVar 5) [5])) lNil)))
    (sIf (tAndA (tV (a2 vNeE (oVar 4) (oV (aTup lNil)))) (tV (a2 vNotIn (oVar 4) (oVar 2))))
    (sDrop (aMut mApp 2 (lCons (oV (aVar 4)) lNil)))
    sNx)))
    (sRet (aBlt fTuple (lCons (oV (aBlt fSorted (lCons (oVar 2) lNil))) lNil)))))
def F__law_due : AF := fnF [.dat, .dat] 4 (b__law_due F__law_sides)
theorem okA__law_due {P : Program} {w : World} {K : PySem.W.Frag} {mg : Str → Option Value} {base : Heap} {f f__law_sides : Addr} {fd d__law_sides : FuncData} {m : Nat} (F : Fun K "_law_due" "_law_due" s__law_due f fd)
    (k__law_sides : PySem.W.keepIn K (.ref f__law_sides) = true) (b__law_sides : Binds K d__law_sides ["_law_table_here"] []) (g__law_sides : mg "_law_sides" = some (.ref f__law_sides)) (G__law_sides : FnOk P w K mg base CX0 m f__law_sides d__law_sides ["_law_table_here"] (spA [.dat] F__law_sides))
    (m_tuple : mg "tuple" = none) (m_len : mg "len" = none) (m_range : mg "range" = none) (m_sorted : mg "sorted" = none) : FnOk P w K mg base CX0 (m + 1) f fd ["_law_table_here", "_law_taster"] (spA [.dat, .dat] F__law_due) :=
  fn_ok F scA__law_due rfl rfl fun cdv A outer s H E hr =>
    (as_cons (as_setO (i := 2) scA__law_due.nd rfl (.inl rfl) (af_lst 2 la_nil))
      (as_cons (as_for PassesOwn.never rfl (ai_seq (ao_V (ae_call0 G__law_sides (by decide) hr (by rfl) g__law_sides k__law_sides b__law_sides (la_cons (ao_V (ae_var 0 (pv 0))) la_nil)))) (ag_name (pg_name (i := 3) scA__law_due.nd rfl (.inr rfl))) (as_cons (as_set (i := 4) scA__law_due.nd rfl (.inl rfl) (ae_blt dc_tuple (pe_callTy call_tupleF (by rfl) m_tuple (by decide +kernel) (la_cons (ao_V (ae_F (af_lc 0 (own := [("_law_k", 5)]) (by rfl) scA__law_due.nd (ai_range1 (by rfl) m_range (la_cons (ao_V (ae_blt dc_len (pe_callB call_len (by rfl) m_len PySem.boot_len (la_cons (ao_var 3 (pv 3)) la_nil)))) la_nil)) (blkOk_by (own := [("_law_k", 5)]) (N := ["_law_table_here", "_law_taster", "_law_found", "_law_side", "_law_split", "_law_k"]) (sc := defScope s__law_due) (by decide +kernel)) (fun _ _ _ _ _ => (ag_name (pg_name (i := 5) scA__law_due.nd rfl (Or.inl rfl)))) (fun _ _ _ _ _ => (ts_one (cmp_test dop_ne (op_neA hr.units) (ao_V (ae_ix (ao_var 3 (pv 3)) (ao_var 5 (pv 5)) (fun _ _ => rfl))) (ao_V (ae_ix (ao_var 3 (pv 3)) (ao_var 1 (pv 1)) (fun _ _ => rfl))) (nomark _)))) (fun _ _ _ _ _ => (ae_var 5 (pv 5)))))) la_nil))))
      (as_one (as_if (PW.pt (aw_and (cmp_test dop_neE (op_neE hr.units) (ao_var 4 (pv 4)) (ao_V (ae_tup la_nil)) (nomark _)) (aw_and1 (cmp_test dop_notIn (op_notInA (u65 hr)) (ao_var 4 (pv 4)) (ao_var 2 (pv 2)) (by rfl))))) (as_one (as_expr (ae_mut dm_app (pe_bm PySem.F.plainAttrs_list PySem.F.slot_list_append PySem.F.type_list_append mt_append (pv 2) (la_cons (ao_V (ae_var 4 (pv 4))) la_nil))))) as_nil))))
      (as_one (as_ret (ae_blt dc_tuple (pe_callTy call_tupleF (by rfl) m_tuple (by decide +kernel) (la_cons (ao_V (ae_F (af_blt 0 dc_sorted (pe_callB (cr_sortedA (u65 hr)) (by rfl) m_sorted (by decide +kernel) (la_cons (ao_var 2 (pv 2)) la_nil))))) la_nil)))))))

theorem scA__law_told : FnScope ["_law_table_here", "_law_taster", "_law_found", "error"] ["_law_table_here", "_law_taster"] (defScope s__law_told) := ⟨rfl, rfl, rfl, by decide +kernel, rfl, by decide +kernel, by decide +kernel⟩
def b__law_told (cc : Nat → Addr) (P_splits : AF) : AST := (sSeq (sSet 2 (aC .none))
    (sSeq (sTry 3 [cc 0, cc 1, cc 2]
    (sSet 2 (aCall0 [.dat, .dat] P_splits (lCons (oV (aVar 0)) (lCons (oV (aVar 1)) lNil))))
    (sIf (tAndA (tTruA (oV (aIsX (cc 1) 3))) (tNotA (tTruA (oV (aIsXs [cc 2, cc 0] 3)))))
    (sSet 2 (aLst (lCons (oV (aC (.str "taster"))) (lCons (oV (aFldX "taster" 3)) lNil))))
    sNx))
    (sRetV 2)))
def F__law_told (cc : Nat → Addr) : AF := fnF [.dat, .dat] 2 (b__law_told cc (F_splits cc))
theorem okA__law_told {P : Program} {w : World} {K : PySem.W.Frag} {mg : Str → Option Value} {base : Heap} {f f_splits : Addr} {fd d_splits : FuncData} {cc : Nat → Addr} {cB : Addr} {m : Nat} (F : Fun K "_law_told" "_law_told" s__law_told f fd)
    (k_splits : PySem.W.keepIn K (.ref f_splits) = true) (b_splits : Binds K d_splits ["table", "taster"] []) (g_splits : mg "splits" = some (.ref f_splits)) (G_splits : FnOk P w K mg base (L2.CX P w) m f_splits d_splits ["table", "taster"] (spA [.dat, .dat] (F_splits cc)))
    (XT : XTab K [cc 0, cc 1, cc 2] cB) (gB : mg "TasteError" = some (.ref cB))
    (gC_NoRanking : mg "NoRanking" = some (.ref (cc 0)))
    (gC_NoDish : mg "NoDish" = some (.ref (cc 2)))
    (gC_NoTaster : mg "NoTaster" = some (.ref (cc 1)))
    (nf_taster : ∀ C ∈ [cc 0, cc 1, cc 2], PySem.W.findIn K (.ref C) "taster" = some none)
    (m_isinstance : mg "isinstance" = none) : FnOk P w K mg base CX0 (m + 1) f fd ["_law_table_here", "_law_taster"] (spA [.dat, .dat] (F__law_told cc)) :=
  fn_ok F scA__law_told rfl rfl fun cdv A outer s H E hr =>
    (as_cons (as_set (i := 2) scA__law_told.nd rfl (.inl rfl) ae_non)
      (as_cons (as_try (i := 3) XT rfl rfl scA__law_told.nd rfl rfl ⟨rfl, by decide, Or.inl gB⟩ takes0 (fun W pn xe tk _ =>
      (as_one (as_set (i := 2) scA__law_told.nd rfl (.inl rfl) (ae_callT (W := W) G_splits (by decide) hr (by rfl) g_splits k_splits b_splits tk (la_cons (ao_V (ae_var 0 (pv 0))) (la_cons (ao_V (ae_var 1 (pv 1))) la_nil)))))) (fun a oe C d pn hz hf =>
      (as_one (as_if (PW.pt (aw_and (at_tru (ao_V (ae_isX XT List.mem_cons_self hz hf rfl rfl (by simp) (by rfl) m_isinstance (pv 3) (pe_glob (v := .ref (cc 1)) (by rfl) gC_NoTaster rfl)))) (aw_and1 (at_not (at_tru (ao_V (ae_isXs (Ds := [cc 2, cc 0]) XT List.mem_cons_self hz hf rfl rfl (by simp) (by simp) (fun _ _ _ q => q) (by rfl) m_isinstance (pv 3) (pe_tup (pa_cons (pe_glob (v := .ref (cc 2)) (by rfl) gC_NoDish rfl) (pa_cons (pe_glob (v := .ref (cc 0)) (by rfl) gC_NoRanking rfl) pa_nil)))))))))) (as_one (as_set (i := 2) scA__law_told.nd rfl (.inl rfl) (ae_F (af_lst 0 (la_cons (ao_V ae_str) (la_cons (ao_V (ae_fldX XT List.mem_cons_self hz hf rfl rfl nf_taster (pv 3))) la_nil)))))) as_nil))))
      (as_one (as_retV 2 (pv 2)))))

theorem scA_law : FnScope ["_law_script", "_law_deck_here", "_law_turn", "_law_table_here", "_law_kept", "_law_many", "_law_taster", "_law_thing"] ["_law_script"] (defScope s_law) := ⟨rfl, rfl, rfl, by decide +kernel, rfl, by decide +kernel, by decide +kernel⟩
def b_law (cc : Nat → Addr) (P__law_table : AF) (P__law_same : AF) (P__law_due : AF) (P__law_told : AF) (P__law_odd : AF) (P__law_whole : AF) : AST := (sSeq (sFor (iRange1 (lCons (oV (aC (.int 8))) lNil)) (bNm 2)
    (sSeq (sSet 3 (aCall [.deck, .dat, .dat] (calm P__law_table) (lCons (oVar 1) (lCons (oV (aC (.int 8))) (lCons (oV (aC (.int 9))) lNil)))))
    (sSeq (sSet 4 (aBlt fRepr (lCons (oVar 3) lNil)))
    (sSeq (sSet 5 (aBlt fLen (lCons (oV (a2 vIx (oVar 3) (oV (aC (.int 1))))) lNil)))
    (sSeq (sFor (iRange1 (lCons (oVar 5) lNil)) (bNm 6)
    (sIf (tNotA (tTruA (oV (aCall0 [.dat, .dat] (calm P__law_same) (lCons (oV (aCall0 [.dat, .dat] (calm P__law_told) (lCons (oV (aVar 3)) (lCons (oV (aVar 6)) lNil)))) (lCons (oV (aCall0 [.dat, .dat] (calm P__law_due) (lCons (oV (aVar 3)) (lCons (oV (aVar 6)) lNil)))) lNil))))))
    (sRet (aC (.bool false)))
    sNx))
    (sSeq (sFor (iSeq (oV (aLst (lCons (oV (aVar 5)) (lCons (oV (aNeg (oV (aC (.int 1))))) (lCons (oV (aC (.bool true))) (lCons (oV (aC .none)) (lCons (oV (aCall [.deck] (calm P__law_odd) (lCons (oVar 1) lNil))) (lCons (oV (aTup (lCons (oV (aC (.int 0))) lNil))) lNil))))))))) (bNm 7)
    (sIf (tOrA (tNotA (tTruA (oV (aCall0 [.dat] (calm P__law_whole) (lCons (oV (aVar 7)) lNil))))) (tNotA (tV (a3 vLe vLt (oV (aC (.int 0))) (oVar 7) (oVar 5)))))
    (sIf (tV (a2 vNeS (oV (aBlt fRepr (lCons (oV (aCall0 [.dat, .dat] (calm P__law_told) (lCons (oV (aVar 3)) (lCons (oV (aVar 7)) lNil)))) lNil))) (oV (aBlt fRepr (lCons (oV (aLst (lCons (oV (aC (.str "taster"))) (lCons (oV (aVar 7)) lNil)))) lNil)))))
    (sRet (aC (.bool false)))
    sNx)
    sNx))
    (sIf (tV (a2 vNeS (oV (aBlt fRepr (lCons (oVar 3) lNil))) (oVar 4)))
    (sRet (aC (.bool false)))
    sNx)))))))
    (sRet (aC (.bool true))))
theorem okA_law {P : Program} {w : World} {K : PySem.W.Frag} {mg : Str → Option Value} {base : Heap} {f f__law_deck f__law_table f__law_same f__law_due f__law_told f__law_odd f__law_whole : Addr} {fd d__law_deck d__law_table d__law_same d__law_due d__law_told d__law_odd d__law_whole : FuncData} {cc : Nat → Addr} {m : Nat} (F : Fun K "law" "law" s_law f fd)
    (k__law_deck : PySem.W.keepIn K (.ref f__law_deck) = true) (b__law_deck : Binds K d__law_deck ["_law_script"] []) (g__law_deck : mg "_law_deck" = some (.ref f__law_deck)) (G__law_deck : FnOk P w K mg base CX0 m f__law_deck d__law_deck ["_law_script"] (spDeck K))
    (k__law_table : PySem.W.keepIn K (.ref f__law_table) = true) (b__law_table : Binds K d__law_table ["_law_deck_here", "_law_dishes", "_law_many"] []) (g__law_table : mg "_law_table" = some (.ref f__law_table)) (G__law_table : FnOk P w K mg base CX0 m f__law_table d__law_table ["_law_deck_here", "_law_dishes", "_law_many"] (spA [.deck, .dat, .dat] F__law_table))
    (k__law_same : PySem.W.keepIn K (.ref f__law_same) = true) (b__law_same : Binds K d__law_same ["_law_found", "_law_due_here"] []) (g__law_same : mg "_law_same" = some (.ref f__law_same)) (G__law_same : FnOk P w K mg base CX0 m f__law_same d__law_same ["_law_found", "_law_due_here"] (spA [.dat, .dat] (F__law_same 6)))
    (k__law_due : PySem.W.keepIn K (.ref f__law_due) = true) (b__law_due : Binds K d__law_due ["_law_table_here", "_law_taster"] []) (g__law_due : mg "_law_due" = some (.ref f__law_due)) (G__law_due : FnOk P w K mg base CX0 m f__law_due d__law_due ["_law_table_here", "_law_taster"] (spA [.dat, .dat] F__law_due))
    (k__law_told : PySem.W.keepIn K (.ref f__law_told) = true) (b__law_told : Binds K d__law_told ["_law_table_here", "_law_taster"] []) (g__law_told : mg "_law_told" = some (.ref f__law_told)) (G__law_told : FnOk P w K mg base CX0 m f__law_told d__law_told ["_law_table_here", "_law_taster"] (spA [.dat, .dat] (F__law_told cc)))
    (k__law_odd : PySem.W.keepIn K (.ref f__law_odd) = true) (b__law_odd : Binds K d__law_odd ["_law_deck_here"] []) (g__law_odd : mg "_law_odd" = some (.ref f__law_odd)) (G__law_odd : FnOk P w K mg base CX0 m f__law_odd d__law_odd ["_law_deck_here"] (spA [.deck] F__law_odd))
    (k__law_whole : PySem.W.keepIn K (.ref f__law_whole) = true) (b__law_whole : Binds K d__law_whole ["_law_thing"] []) (g__law_whole : mg "_law_whole" = some (.ref f__law_whole)) (G__law_whole : FnOk P w K mg base CX0 m f__law_whole d__law_whole ["_law_thing"] (spA [.dat] F__law_whole))
    (m_range : mg "range" = none) (m_repr : mg "repr" = none) (m_len : mg "len" = none) (hb : lawF 6 (b_law cc F__law_table (F__law_same 6) F__law_due (F__law_told cc) F__law_odd F__law_whole)) : RunG P w K mg base (m + 1) f fd ["_law_script"] (spLaw K) :=
  law_okG F scA_law rfl hb fun cdv A outer s H E hgd hr =>
    pss_cons (ps_asg (pe_call G__law_deck hr (by rfl) g__law_deck k__law_deck b__law_deck .nil pass0 (pa_cons (pv 0) pa_nil)) (pg_name (i := 1) scA_law.nd rfl (.inl rfl)))
      (as_cons (as_for PassesOwn.never rfl (ai_range1 (by rfl) m_range (la_cons (ao_V ae_int) la_nil)) (ag_name (pg_name (i := 2) scA_law.nd rfl (.inl rfl))) (as_cons (as_set (i := 3) scA_law.nd rfl (.inl rfl) (ae_call G__law_table hr (by rfl) g__law_table k__law_table b__law_table (la_cons (ao_var 1 (pv 1)) (la_cons (ao_V ae_int) (la_cons (ao_V ae_int) la_nil)))))
      (as_cons (as_set (i := 4) scA_law.nd rfl (.inl rfl) (ae_blt dc_repr (pe_callB (call_reprA hgd (u64 hr)) (by rfl) m_repr (by decide +kernel) (la_cons (ao_var 3 (pv 3)) la_nil))))
      (as_cons (as_set (i := 5) scA_law.nd rfl (.inl rfl) (ae_blt dc_len (pe_callB call_len (by rfl) m_len PySem.boot_len (la_cons (ao_V (ae_ix (ao_var 3 (pv 3)) (ao_V ae_int) (fun _ _ => rfl))) la_nil))))
      (as_cons (as_for PassesOwn.never rfl (ai_range1 (by rfl) m_range (la_cons (ao_var 5 (pv 5)) la_nil)) (ag_name (pg_name (i := 6) scA_law.nd rfl (.inl rfl))) (as_one (as_if (at_not (at_tru (ao_V (ae_call0 G__law_same (by decide) hr (by rfl) g__law_same k__law_same b__law_same (la_cons (ao_V (ae_call0 G__law_told (by decide) hr (by rfl) g__law_told k__law_told b__law_told (la_cons (ao_V (ae_var 3 (pv 3))) (la_cons (ao_V (ae_var 6 (pv 6))) la_nil)))) (la_cons (ao_V (ae_call0 G__law_due (by decide) hr (by rfl) g__law_due k__law_due b__law_due (la_cons (ao_V (ae_var 3 (pv 3))) (la_cons (ao_V (ae_var 6 (pv 6))) la_nil)))) la_nil)))))) (as_one (as_ret ae_bl)) as_nil)))
      (as_cons (as_for PassesOwn.never rfl (ai_seq (ao_V (ae_F (af_lst 0 (la_cons (ao_V (ae_var 5 (pv 5))) (la_cons (ao_V (ae_neg (ao_V ae_int))) (la_cons (ao_V ae_bl) (la_cons (ao_V ae_non) (la_cons (ao_V (ae_call G__law_odd hr (by rfl) g__law_odd k__law_odd b__law_odd (la_cons (ao_var 1 (pv 1)) la_nil))) (la_cons (ao_V (ae_tup (la_cons (ao_V ae_int) la_nil))) la_nil)))))))))) (ag_name (pg_name (i := 7) scA_law.nd rfl (.inl rfl))) (as_one (as_if (PW.pt (aw_or (at_not (at_tru (ao_V (ae_call0 G__law_whole (by decide) hr (by rfl) g__law_whole k__law_whole b__law_whole (la_cons (ao_V (ae_var 7 (pv 7))) la_nil))))) (aw_or1 (at_not (at_chain dop_le dop_lt (op_leA hr.units) (op_ltA hr.units) (ao_V ae_int) (ao_var 7 (pv 7)) (ao_var 5 (pv 5))))))) (as_one (as_if (cmp_test dop_neS op_ne (ao_V (ae_blt dc_repr (pe_callB (call_reprA hgd (u64 hr)) (by rfl) m_repr (by decide +kernel) (la_cons (ao_V (ae_call0 G__law_told (by decide) hr (by rfl) g__law_told k__law_told b__law_told (la_cons (ao_V (ae_var 3 (pv 3))) (la_cons (ao_V (ae_var 7 (pv 7))) la_nil)))) la_nil)))) (ao_V (ae_blt dc_repr (pe_callB (call_reprA hgd (u64 hr)) (by rfl) m_repr (by decide +kernel) (la_cons (ao_V (ae_F (af_lst 0 (la_cons (ao_V ae_str) (la_cons (ao_V (ae_var 7 (pv 7))) la_nil))))) la_nil)))) (nomark _)) (as_one (as_ret ae_bl)) as_nil)) as_nil)))
      (as_one (as_if (cmp_test dop_neS op_ne (ao_V (ae_blt dc_repr (pe_callB (call_reprA hgd (u64 hr)) (by rfl) m_repr (by decide +kernel) (la_cons (ao_var 3 (pv 3)) la_nil)))) (ao_var 4 (pv 4)) (nomark _)) (as_one (as_ret ae_bl)) as_nil))))))))
      (as_one (as_ret ae_bl)))

end TR
namespace TR
open PySem PySem.Spec PyProof.Rows L2
def v_is_whole (a0 : PyData) : Bool := ((isNum a0) && (!(isBoo a0)))
def nb_is_whole : AST := (sRet (aAnd (aIsi "int" (oVar 0)) (aNot (aIsi "bool" (oVar 0)))))
theorem okS_is_whole {xp : XP} {D : AEnds} {n : Nat} (a0 : PyData)  (hq : D.rt (PyData.bool (v_is_whole a0)) n) : nb_is_whole xp D ⟨[some (.dat a0)], n⟩ := by
  unfold v_is_whole at hq; unfold nb_is_whole
  exact (c_ret (ev_and (ev_isi (ov_dat 0 rfl) rfl isi_int) (fun h1_ => (ev_not (ev_isi (ov_dat 0 rfl) rfl isi_bool)))) hq)
theorem okV_is_whole (a0 : PyData) : PFn F_is_whole [a0] (PyData.bool (v_is_whole a0)) := fun n Q X q => by
  unfold F_is_whole
  exact okS_is_whole (xp := fun x s => X x s.n) (D := { nx := fun s => Q .none s.n, rt := Q }) a0 q

def v_is_within (a0 : PyData) (a1 : Int) (a2 : Int) : Bool := ((v_is_whole a0) && ((decide (a1 ≤ (dI a0))) && (decide ((dI a0) ≤ a2))))
def C_is_within (a0 : PyData) (a1 : Int) (a2 : Int) : Prop := ((v_is_whole a0) = true → a0 = (PyData.int (dI a0)))
def nb_is_within : AST := (sRet (aAnd (aCall0 [.dat] (calm F_is_whole) (lCons (oV (aVar 0)) lNil)) (a3 vLe vLe (oVar 1) (oVar 0) (oVar 2))))
theorem okS_is_within {xp : XP} {D : AEnds} {n : Nat} (a0 : PyData) (a1 : Int) (a2 : Int)  (hC : C_is_within a0 a1 a2) (hq : D.rt (PyData.bool (v_is_within a0 a1 a2)) n) : nb_is_within xp D ⟨[some (.dat a0), some (.dat (PyData.int a1)), some (.dat (PyData.int a2))], n⟩ := by
  unfold C_is_within at hC; unfold v_is_within at hq; unfold nb_is_within
  exact (c_ret (ev_and (ev_call0 (lv_cons (ov_V (ev_var 0 rfl)) lv_nil) (fun _ q => q) (okV_is_whole a0)) (fun h1_ => (ev_a3 (ov_dat 1 rfl) (ov_cast (ov_dat 0 rfl) (hC h1_)) rfl rfl vf_leI (fun h2_ => (ov_dat 2 rfl)) rfl (fun h2_ => vf_leI)))) hq)
theorem okV_is_within (a0 : PyData) (a1 : Int) (a2 : Int) (hC : C_is_within a0 a1 a2) : PFn F_is_within [a0, (PyData.int a1), (PyData.int a2)] (PyData.bool (v_is_within a0 a1 a2)) := fun n Q X q => by
  unfold F_is_within
  exact okS_is_within (xp := fun x s => X x s.n) (D := { nx := fun s => Q .none s.n, rt := Q }) a0 a1 a2 hC q

def v_ascending_tuples_s1 (a0 : Int) (a1 : Int) (a2 : (List (List Int))) : (List (List Int)) := (forV (fun (k3_ : ((List (List Int))) → (List (List Int))) (x2_ : Int) (w1_ : (List (List Int))) => (k3_ (((w1_.filter (fun x5_ : (List Int) => true)).flatMap fun x5_ : (List Int) => (((irange (bif (!x5_.isEmpty) then ((gl x5_) + (1 : Int)) else (0 : Int)) a0)).filter (fun y7_ : Int => true)).map fun y7_ : Int => (x5_ ++ [y7_]))))) (fun (w1_ : (List (List Int))) => w1_) (irange 0 a1) (a2))
def C_ascending_tuples_s1 (a0 : Int) (a1 : Int) (a2 : (List (List Int))) : Prop := (Rg a1 ∧ forV (fun (kC4_ : ((List (List Int))) → Prop) (x2_ : Int) (w1_ : (List (List Int))) => (((w1_.filter (fun x5_ : (List Int) => true)).flatMap fun x5_ : (List Int) => ((irange (bif (!x5_.isEmpty) then ((gl x5_) + (1 : Int)) else (0 : Int)) a0)).filter (fun y7_ : Int => true)).length ≤ sizeLine ∧ (∀ x5_ ∈ w1_, (((!x5_.isEmpty) = true → x5_ ≠ []) ∧ (Rg (bif (!x5_.isEmpty) then ((gl x5_) + (1 : Int)) else (0 : Int)) ∧ Rg a0) ∧ (∀ y7_ ∈ (irange (bif (!x5_.isEmpty) then ((gl x5_) + (1 : Int)) else (0 : Int)) a0), x5_.length + [y7_].length ≤ sizeLine))) ∧ kC4_ (((w1_.filter (fun x5_ : (List Int) => true)).flatMap fun x5_ : (List Int) => (((irange (bif (!x5_.isEmpty) then ((gl x5_) + (1 : Int)) else (0 : Int)) a0)).filter (fun y7_ : Int => true)).map fun y7_ : Int => (x5_ ++ [y7_]))))) (fun (w1_ : (List (List Int))) => True) (irange 0 a1) (a2))
def nb_ascending_tuples_s1 : AST := (sSeq (sFor (iRange1 (lCons (oVar 1) lNil)) (bNm 3)
    (sSet 2 (aLc2 (iSeq (oVar 2)) (bNm 4) tYesA (iRange2 (lCons (oV (aIfE (tTruA (oVar 4)) (a2 vAdd (oV (a2 vIx (oVar 4) (oV (aNeg (oV (aC (.int 1))))))) (oV (aC (.int 1)))) (aC (.int 0)))) (lCons (oVar 0) lNil))) (bNm 5) tYesA (a2 vAdd (oVar 4) (oV (aTup (lCons (oV (aVar 5)) lNil)))) [4, 5] [5])))
    (sRetV 2))
theorem okS_ascending_tuples_s1 {xp : XP} {D : AEnds} {n : Nat} (a0 : Int) (a1 : Int) (a2 : (List (List Int)))  (hC : C_ascending_tuples_s1 a0 a1 a2) (hq : D.rt (eL (eQ PyData.int) (v_ascending_tuples_s1 a0 a1 a2)) n) : nb_ascending_tuples_s1 xp D ⟨[some (.dat (PyData.int a0)), some (.dat (PyData.int a1)), some (.dat (eL (eQ PyData.int) a2)), none, none, none], n⟩ := by
  unfold C_ascending_tuples_s1 at hC; unfold v_ascending_tuples_s1 at hq; unfold nb_ascending_tuples_s1
  exact (c_seq (c_for (R := fun r => D.rt (eL (eQ PyData.int) r) n) PyData.int (fun (w1_ : (List (List Int))) (s : AS) => ∃ (q3 : Option AV), s = ⟨[some (.dat (PyData.int a0)), some (.dat (PyData.int a1)), some (.dat (eL (eQ PyData.int) w1_)), q3, none, none], n⟩) (iv_range1 (lv_cons (ov_dat 1 rfl) lv_nil) (fun _ q => q) hC.1) ⟨none, rfl⟩ hC.2 hq (fun x2_ w1_ s_ k3_ kC4_ N_ hi_ hC_ hq_ hN_ => by
    obtain ⟨q3, e_⟩ := hi_
    subst e_
    exact (g_bv ((bv_nm 3).to rfl) (c_set (ev_lc2 (eQ PyData.int) PyData.int (fun x5_ : (List Int) => true) (fun (x5_ : (List Int)) (y7_ : Int) => true) (fun x5_ : (List Int) => (irange (bif (!x5_.isEmpty) then ((gl x5_) + (1 : Int)) else (0 : Int)) a0)) (eQ PyData.int) (fun (x5_ : (List Int)) (y7_ : Int) => (x5_ ++ [y7_])) (fun x5_ : (List Int) => (⟨[some (.dat (PyData.int a0)), some (.dat (PyData.int a1)), some (.dat (eL (eQ PyData.int) w1_)), some (.dat (PyData.int x2_)), some (.dat (eQ PyData.int x5_)), none], n⟩ : AS)) (fun (x5_ : (List Int)) (y7_ : Int) => (⟨[some (.dat (PyData.int a0)), some (.dat (PyData.int a1)), some (.dat (eL (eQ PyData.int) w1_)), some (.dat (PyData.int x2_)), some (.dat (eQ PyData.int x5_)), some (.dat (PyData.int y7_))], n⟩ : AS)) (fun (x5_ : (List Int)) (y7_ : Int) => (⟨[some (.dat (PyData.int a0)), some (.dat (PyData.int a1)), some (.dat (eL (eQ PyData.int) w1_)), some (.dat (PyData.int x2_)), some (.dat (eQ PyData.int x5_)), some (.dat (PyData.int y7_))], n⟩ : AS)) (fun x5_ : (List Int) => AIt.fix (((irange (bif (!x5_.isEmpty) then ((gl x5_) + (1 : Int)) else (0 : Int)) a0)).map PyData.int)) (iv_valL (f := (eQ PyData.int)) (l := w1_) (ov_dat 2 rfl)) hC_.1 rfl True.intro (fun x5_ hx6_ => ((bv_nm 4).to rfl)) (fun x5_ hx6_ => tv_yes) (fun x5_ hx6_ h9_ => (iv_range2 (lv_cons (ov_V (ev_if (x := ((gl x5_) + (1 : Int))) (y := (0 : Int)) PyData.int (tv_tru (ov_dat 4 rfl) rfl (tru_Q (f := PyData.int))) (fun h10_ => (ev_a2 (ov_V (ev_a2 (ov_dat 4 rfl) (ov_V ev_neg1) rfl rfl (vf_ixQl (f := PyData.int) ((hC_.2.1 x5_ hx6_).1 h10_)))) (ov_V ev_c) rfl rfl vf_addI)) (fun h10_ => ev_c))) (lv_cons (ov_dat 0 rfl) lv_nil)) (fun _ q => q) (hC_.2.1 x5_ hx6_).2.1)) (fun x5_ hx6_ h9_ => ⟨rfl, True.intro⟩) (fun x5_ hx6_ h9_ y7_ hy8_ => ((bv_nm 5).to rfl)) (fun x5_ hx6_ h9_ y7_ hy8_ => tv_yes) (fun x5_ hx6_ h9_ y7_ hy8_ h11_ => (ev_a2 (ov_dat 4 rfl) (ov_V (ev_tup (lv_cons (ov_V (ev_var 5 rfl)) lv_nil) (fun _ q => q) rfl)) rfl rfl (vf_addQ (f := PyData.int) ((hC_.2.1 x5_ hx6_).2.2 y7_ hy8_)))) (fun _ _ _ _ => ⟨rfl, rfl⟩) (fun _ _ => rfl)) rfl (hN_ (((w1_.filter (fun x5_ : (List Int) => true)).flatMap fun x5_ : (List Int) => (((irange (bif (!x5_.isEmpty) then ((gl x5_) + (1 : Int)) else (0 : Int)) a0)).filter (fun y7_ : Int => true)).map fun y7_ : Int => (x5_ ++ [y7_]))) _ ⟨some (.dat (PyData.int x2_)), rfl⟩ hC_.2.2 hq_)))) (fun w1_ s_ hi_ hA_ hqa_ => by
    obtain ⟨q3, e_⟩ := hi_
    subst e_
    exact (c_aft (c_retV 2 rfl hqa_)))))
def v_ascending_tuples (a0 : Int) (a1 : Int) : (List (List Int)) := (v_ascending_tuples_s1 a0 a1 ([[]] : (List (List Int))))
def C_ascending_tuples (a0 : Int) (a1 : Int) : Prop := C_ascending_tuples_s1 a0 a1 ([[]] : (List (List Int)))
def nb_ascending_tuples : AST := (sSeq (sSet 2 (aLst (lCons (oV (aTup lNil)) lNil)))
    (sSeq (sFor (iRange1 (lCons (oVar 1) lNil)) (bNm 3)
    (sSet 2 (aLc2 (iSeq (oVar 2)) (bNm 4) tYesA (iRange2 (lCons (oV (aIfE (tTruA (oVar 4)) (a2 vAdd (oV (a2 vIx (oVar 4) (oV (aNeg (oV (aC (.int 1))))))) (oV (aC (.int 1)))) (aC (.int 0)))) (lCons (oVar 0) lNil))) (bNm 5) tYesA (a2 vAdd (oVar 4) (oV (aTup (lCons (oV (aVar 5)) lNil)))) [4, 5] [5])))
    (sRetV 2)))
theorem okS_ascending_tuples {xp : XP} {D : AEnds} {n : Nat} (a0 : Int) (a1 : Int)  (hC : C_ascending_tuples a0 a1) (hq : D.rt (eL (eQ PyData.int) (v_ascending_tuples a0 a1)) n) : nb_ascending_tuples xp D ⟨[some (.dat (PyData.int a0)), some (.dat (PyData.int a1)), none, none, none, none], n⟩ := by
  unfold C_ascending_tuples at hC; unfold v_ascending_tuples at hq; unfold nb_ascending_tuples
  exact (c_seq (c_set (ev_lst (lv_cons (ov_V (ev_tup lv_nil (fun _ q => q) rfl)) lv_nil) (fun _ q => q) rfl) rfl (c_aft (okS_ascending_tuples_s1 a0 a1 ([[]] : (List (List Int)))  hC hq))))
theorem okV_ascending_tuples (a0 : Int) (a1 : Int) (hC : C_ascending_tuples a0 a1) : PFn F_ascending_tuples [(PyData.int a0), (PyData.int a1)] (eL (eQ PyData.int) (v_ascending_tuples a0 a1)) := fun n Q X q => by
  unfold F_ascending_tuples
  exact okS_ascending_tuples (xp := fun x s => X x s.n) (D := { nx := fun s => Q .none s.n, rt := Q }) a0 a1 hC q

def v_all_pairs (a0 : Int) : (List (List Int)) := (v_ascending_tuples a0 (2 : Int))
def C_all_pairs (a0 : Int) : Prop := C_ascending_tuples a0 (2 : Int)
def nb_all_pairs : AST := (sRet (aCall0 [.dat, .dat] (calm F_ascending_tuples) (lCons (oV (aVar 0)) (lCons (oV (aC (.int 2))) lNil))))
theorem okS_all_pairs {xp : XP} {D : AEnds} {n : Nat} (a0 : Int)  (hC : C_all_pairs a0) (hq : D.rt (eL (eQ PyData.int) (v_all_pairs a0)) n) : nb_all_pairs xp D ⟨[some (.dat (PyData.int a0))], n⟩ := by
  unfold C_all_pairs at hC; unfold v_all_pairs at hq; unfold nb_all_pairs
  exact (c_ret (ev_call0 (lv_cons (ov_V (ev_var 0 rfl)) (lv_cons (ov_V ev_c) lv_nil)) (fun _ q => q) (okV_ascending_tuples a0 (2 : Int) hC)) hq)
theorem okV_all_pairs (a0 : Int) (hC : C_all_pairs a0) : PFn F_all_pairs [(PyData.int a0)] (eL (eQ PyData.int) (v_all_pairs a0)) := fun n Q X q => by
  unfold F_all_pairs
  exact okS_all_pairs (xp := fun x s => X x s.n) (D := { nx := fun s => Q .none s.n, rt := Q }) a0 hC q

def v_prefers (a0 : (List Int)) (a1 : Int) (a2 : Int) : Bool := (decide (((a0.idxOf a1 : Nat) : Int) < ((a0.idxOf a2 : Nat) : Int)))
def C_prefers (a0 : (List Int)) (a1 : Int) (a2 : Int) : Prop := (a1 ∈ a0 ∧ a2 ∈ a0)
def nb_prefers : AST := (sRet (a2 vLt (oV (aIdx (oVar 0) (lCons (oVar 1) lNil))) (oV (aIdx (oVar 0) (lCons (oVar 2) lNil)))))
theorem okS_prefers {xp : XP} {D : AEnds} {n : Nat} (a0 : (List Int)) (a1 : Int) (a2 : Int)  (hC : C_prefers a0 a1 a2) (hq : D.rt (PyData.bool (v_prefers a0 a1 a2)) n) : nb_prefers xp D ⟨[some (.dat (eQ PyData.int a0)), some (.dat (PyData.int a1)), some (.dat (PyData.int a2))], n⟩ := by
  unfold C_prefers at hC; unfold v_prefers at hq; unfold nb_prefers
  exact (c_ret (ev_a2 (ov_V (ev_idx (ov_dat 0 rfl) (lv_cons (ov_dat 1 rfl) lv_nil) (rsl_cons rfl (fun _ q => q)) hC.1)) (ov_V (ev_idx (ov_dat 0 rfl) (lv_cons (ov_dat 2 rfl) lv_nil) (rsl_cons rfl (fun _ q => q)) hC.2)) rfl rfl vf_ltI) hq)
theorem okV_prefers (a0 : (List Int)) (a1 : Int) (a2 : Int) (hC : C_prefers a0 a1 a2) : PFn F_prefers [(eQ PyData.int a0), (PyData.int a1), (PyData.int a2)] (PyData.bool (v_prefers a0 a1 a2)) := fun n Q X q => by
  unfold F_prefers
  exact okS_prefers (xp := fun x s => X x s.n) (D := { nx := fun s => Q .none s.n, rt := Q }) a0 a1 a2 hC q

def v_rankings_of (a0 : (Int × (List ((List Int) × Int)))) : (List (List Int)) := (a0.2.map fun x1_ : ((List Int) × Int) => x1_.1)
def C_rankings_of (a0 : (Int × (List ((List Int) × Int)))) : Prop := a0.2.length ≤ sizeLine
def nb_rankings_of : AST := (sRet (aBlt fTuple (lCons (oV (aLc (iSeq (oV (a2 vIx (oVar 0) (oV (aC (.int 1)))))) (bTup 2 (bCons (bNm 1) (bCons (bNm 2) bNil))) tYesA (aVar 1) [1, 2])) lNil)))
theorem okS_rankings_of {xp : XP} {D : AEnds} {n : Nat} (a0 : (Int × (List ((List Int) × Int))))  (hC : C_rankings_of a0) (hq : D.rt (eQ (eQ PyData.int) (v_rankings_of a0)) n) : nb_rankings_of xp D ⟨[some (.dat (eP PyData.int (eQ (eP (eQ PyData.int) PyData.int)) a0)), none, none], n⟩ := by
  unfold C_rankings_of at hC; unfold v_rankings_of at hq; unfold nb_rankings_of
  exact (c_ret (ev_blt (lv_cons (ov_V (ev_lcM (eP (eQ PyData.int) PyData.int) (eQ PyData.int) (fun x1_ : ((List Int) × Int) => x1_.1) (fun x1_ : ((List Int) × Int) => (⟨[some (.dat (eP PyData.int (eQ (eP (eQ PyData.int) PyData.int)) a0)), some (.dat (eQ PyData.int x1_.1)), some (.dat (PyData.int x1_.2))], n⟩ : AS)) (fun x1_ : ((List Int) × Int) => (⟨[some (.dat (eP PyData.int (eQ (eP (eQ PyData.int) PyData.int)) a0)), some (.dat (eQ PyData.int x1_.1)), some (.dat (PyData.int x1_.2))], n⟩ : AS)) (iv_valQ (f := (eP (eQ PyData.int) PyData.int)) (l := a0.2) (ov_V (ev_a2 (ov_dat 0 rfl) (ov_V ev_c) rfl rfl (vf_ixT at_1)))) hC rfl True.intro (fun x1_ hx2_ => (fun _ q => ⟨rfl, rfl, q⟩)) (fun x1_ hx2_ => (ev_var 1 rfl)) (fun _ _ => ⟨rfl, rfl⟩))) lv_nil) (rsl_cons rfl (fun _ q => q)) (fv_tupleL (f := (eQ PyData.int)))) hq)
theorem okV_rankings_of (a0 : (Int × (List ((List Int) × Int)))) (hC : C_rankings_of a0) : PFn F_rankings_of [(eP PyData.int (eQ (eP (eQ PyData.int) PyData.int)) a0)] (eQ (eQ PyData.int) (v_rankings_of a0)) := fun n Q X q => by
  unfold F_rankings_of
  exact okS_rankings_of (xp := fun x s => X x s.n) (D := { nx := fun s => Q .none s.n, rt := Q }) a0 hC q

def v_is_taster_number (a0 : (Int × (List ((List Int) × Int)))) (a1 : PyData) : Bool := (v_is_within a1 (0 : Int) (((a0.2.length : Nat) : Int) - (1 : Int)))
def C_is_taster_number (a0 : (Int × (List ((List Int) × Int)))) (a1 : PyData) : Prop := C_is_within a1 (0 : Int) (((a0.2.length : Nat) : Int) - (1 : Int))
def nb_is_taster_number : AST := (sRet (aCall0 [.dat, .dat, .dat] (calm F_is_within) (lCons (oV (aVar 1)) (lCons (oV (aC (.int 0))) (lCons (oV (a2 vSub (oV (aBlt fLen (lCons (oV (a2 vIx (oVar 0) (oV (aC (.int 1))))) lNil))) (oV (aC (.int 1))))) lNil)))))
theorem okS_is_taster_number {xp : XP} {D : AEnds} {n : Nat} (a0 : (Int × (List ((List Int) × Int)))) (a1 : PyData)  (hC : C_is_taster_number a0 a1) (hq : D.rt (PyData.bool (v_is_taster_number a0 a1)) n) : nb_is_taster_number xp D ⟨[some (.dat (eP PyData.int (eQ (eP (eQ PyData.int) PyData.int)) a0)), some (.dat a1)], n⟩ := by
  unfold C_is_taster_number at hC; unfold v_is_taster_number at hq; unfold nb_is_taster_number
  exact (c_ret (ev_call0 (lv_cons (ov_V (ev_var 1 rfl)) (lv_cons (ov_V ev_c) (lv_cons (ov_V (ev_a2 (ov_V (ev_blt (lv_cons (ov_V (ev_a2 (ov_dat 0 rfl) (ov_V ev_c) rfl rfl (vf_ixT at_1))) lv_nil) (rsl_cons rfl (fun _ q => q)) (fv_lenQ (f := (eP (eQ PyData.int) PyData.int))))) (ov_V ev_c) rfl rfl vf_subI)) lv_nil))) (fun _ q => q) (okV_is_within a1 (0 : Int) (((a0.2.length : Nat) : Int) - (1 : Int)) hC)) hq)
theorem okV_is_taster_number (a0 : (Int × (List ((List Int) × Int)))) (a1 : PyData) (hC : C_is_taster_number a0 a1) : PFn F_is_taster_number [(eP PyData.int (eQ (eP (eQ PyData.int) PyData.int)) a0), a1] (PyData.bool (v_is_taster_number a0 a1)) := fun n Q X q => by
  unfold F_is_taster_number
  exact okS_is_taster_number (xp := fun x s => X x s.n) (D := { nx := fun s => Q .none s.n, rt := Q }) a0 a1 hC q

def v_sides (a0 : (Int × (List ((List Int) × Int)))) (a1 : (List Int)) : (List Bool) := ((v_rankings_of a0).map fun x1_ : (List Int) => (v_prefers x1_ (gt a1 0) (gt a1 1)))
def C_sides (a0 : (Int × (List ((List Int) × Int)))) (a1 : (List Int)) : Prop := (a1.length = 2 ∧ C_rankings_of a0 ∧ (v_rankings_of a0).length ≤ sizeLine ∧ (∀ x1_ ∈ (v_rankings_of a0), C_prefers x1_ (gt a1 0) (gt a1 1)))
def nb_sides : AST := (sSeq (sAsg (aVar 1) (bTup 2 (bCons (bNm 2) (bCons (bNm 3) bNil))))
    (sRet (aLc (iSeq (oV (aCall0 [.dat] (calm F_rankings_of) (lCons (oV (aVar 0)) lNil)))) (bNm 4) tYesA (aCall0 [.dat, .dat, .dat] (calm F_prefers) (lCons (oV (aVar 4)) (lCons (oV (aVar 2)) (lCons (oV (aVar 3)) lNil)))) [4])))
theorem okS_sides {xp : XP} {D : AEnds} {n : Nat} (a0 : (Int × (List ((List Int) × Int)))) (a1 : (List Int))  (hC : C_sides a0 a1) (hq : D.rt (eL PyData.bool (v_sides a0 a1)) n) : nb_sides xp D ⟨[some (.dat (eP PyData.int (eQ (eP (eQ PyData.int) PyData.int)) a0)), some (.dat (eQ PyData.int a1)), none, none, none], n⟩ := by
  unfold C_sides at hC; unfold v_sides at hq; unfold nb_sides
  exact (c_seq (c_asg (ev_var 1 rfl) ((bv_q2 hC.1).to rfl) (c_aft (c_ret (ev_lcM (eQ PyData.int) PyData.bool (fun x1_ : (List Int) => (v_prefers x1_ (gt a1 0) (gt a1 1))) (fun x1_ : (List Int) => (⟨[some (.dat (eP PyData.int (eQ (eP (eQ PyData.int) PyData.int)) a0)), some (.dat (eQ PyData.int a1)), some (.dat (PyData.int (gt a1 0))), some (.dat (PyData.int (gt a1 1))), some (.dat (eQ PyData.int x1_))], n⟩ : AS)) (fun x1_ : (List Int) => (⟨[some (.dat (eP PyData.int (eQ (eP (eQ PyData.int) PyData.int)) a0)), some (.dat (eQ PyData.int a1)), some (.dat (PyData.int (gt a1 0))), some (.dat (PyData.int (gt a1 1))), some (.dat (eQ PyData.int x1_))], n⟩ : AS)) (iv_valQ (f := (eQ PyData.int)) (l := (v_rankings_of a0)) (ov_V (ev_call0 (lv_cons (ov_V (ev_var 0 rfl)) lv_nil) (fun _ q => q) (okV_rankings_of a0 hC.2.1)))) hC.2.2.1 rfl True.intro (fun x1_ hx2_ => ((bv_nm 4).to rfl)) (fun x1_ hx2_ => (ev_call0 (lv_cons (ov_V (ev_var 4 rfl)) (lv_cons (ov_V (ev_var 2 rfl)) (lv_cons (ov_V (ev_var 3 rfl)) lv_nil))) (fun _ q => q) (okV_prefers x1_ (gt a1 0) (gt a1 1) (hC.2.2.2 x1_ hx2_)))) (fun _ _ => ⟨rfl, rfl⟩)) hq))))
theorem okV_sides (a0 : (Int × (List ((List Int) × Int)))) (a1 : (List Int)) (hC : C_sides a0 a1) : PFn F_sides [(eP PyData.int (eQ (eP (eQ PyData.int) PyData.int)) a0), (eQ PyData.int a1)] (eL PyData.bool (v_sides a0 a1)) := fun n Q X q => by
  unfold F_sides
  exact okS_sides (xp := fun x s => X x s.n) (D := { nx := fun s => Q .none s.n, rt := Q }) a0 a1 hC q

def v_split_by (a0 : (Int × (List ((List Int) × Int)))) (a1 : Int) (a2 : (List Int)) : (List Int) := (((enN (v_sides a0 a2)).filter fun x1_ : (Int × Bool) => (!(decide (x1_.2 = (gt (v_sides a0 a2) a1))))).map fun x1_ : (Int × Bool) => x1_.1)
def C_split_by (a0 : (Int × (List ((List Int) × Int)))) (a1 : Int) (a2 : (List Int)) : Prop := (C_sides a0 a2 ∧ (enN (v_sides a0 a2)).length ≤ sizeLine ∧ (∀ x1_ ∈ (enN (v_sides a0 a2)), Ixr (v_sides a0 a2) a1))
def nb_split_by : AST := (sSeq (sSet 3 (aCall0 [.dat, .dat] (calm F_sides) (lCons (oV (aVar 0)) (lCons (oV (aVar 2)) lNil))))
    (sRet (aBlt fTuple (lCons (oV (aLc (iEnL (aVar 3)) (bTup 2 (bCons (bNm 4) (bCons (bNm 5) bNil))) (tV (a2 vNe (oVar 5) (oV (a2 vIx (oVar 3) (oVar 1))))) (aVar 4) [4, 5])) lNil))))
theorem okS_split_by {xp : XP} {D : AEnds} {n : Nat} (a0 : (Int × (List ((List Int) × Int)))) (a1 : Int) (a2 : (List Int))  (hC : C_split_by a0 a1 a2) (hq : D.rt (eQ PyData.int (v_split_by a0 a1 a2)) n) : nb_split_by xp D ⟨[some (.dat (eP PyData.int (eQ (eP (eQ PyData.int) PyData.int)) a0)), some (.dat (PyData.int a1)), some (.dat (eQ PyData.int a2)), none, none, none], n⟩ := by
  unfold C_split_by at hC; unfold v_split_by at hq; unfold nb_split_by
  exact (c_seq (c_set (ev_call0 (lv_cons (ov_V (ev_var 0 rfl)) (lv_cons (ov_V (ev_var 2 rfl)) lv_nil)) (fun _ q => q) (okV_sides a0 a2 hC.1)) rfl (c_aft (c_ret (ev_blt (lv_cons (ov_V (ev_lcF (eP PyData.int PyData.bool) (fun x1_ : (Int × Bool) => (!(decide (x1_.2 = (gt (v_sides a0 a2) a1))))) PyData.int (fun x1_ : (Int × Bool) => x1_.1) (fun x1_ : (Int × Bool) => (⟨[some (.dat (eP PyData.int (eQ (eP (eQ PyData.int) PyData.int)) a0)), some (.dat (PyData.int a1)), some (.dat (eQ PyData.int a2)), some (.dat (eL PyData.bool (v_sides a0 a2))), some (.dat (PyData.int x1_.1)), some (.dat (PyData.bool x1_.2))], n⟩ : AS)) (fun x1_ : (Int × Bool) => (⟨[some (.dat (eP PyData.int (eQ (eP (eQ PyData.int) PyData.int)) a0)), some (.dat (PyData.int a1)), some (.dat (eQ PyData.int a2)), some (.dat (eL PyData.bool (v_sides a0 a2))), some (.dat (PyData.int x1_.1)), some (.dat (PyData.bool x1_.2))], n⟩ : AS)) (iv_enL (f := PyData.bool) (ev_var 3 rfl)) hC.2.1 rfl True.intro (fun x1_ hx2_ => (fun _ q => ⟨rfl, rfl, q⟩)) (fun x1_ hx2_ => (tv_V (ev_a2 (ov_dat 5 rfl) (ov_V (ev_a2 (ov_dat 3 rfl) (ov_dat 1 rfl) rfl rfl (vf_ixL (f := PyData.bool) (hC.2.2 x1_ hx2_)))) rfl rfl (vf_ne (f := PyData.bool) lw_B (sh_B (k := 0)) rfl)))) (fun x1_ hx2_ h3_ => (ev_var 4 rfl)) (fun _ _ => ⟨rfl, rfl⟩))) lv_nil) (rsl_cons rfl (fun _ q => q)) (fv_tupleL (f := PyData.int))) hq))))
theorem okV_split_by (a0 : (Int × (List ((List Int) × Int)))) (a1 : Int) (a2 : (List Int)) (hC : C_split_by a0 a1 a2) : PFn F_split_by [(eP PyData.int (eQ (eP (eQ PyData.int) PyData.int)) a0), (PyData.int a1), (eQ PyData.int a2)] (eQ PyData.int (v_split_by a0 a1 a2)) := fun n Q X q => by
  unfold F_split_by
  exact okS_split_by (xp := fun x s => X x s.n) (D := { nx := fun s => Q .none s.n, rt := Q }) a0 a1 a2 hC q

def v_splits_s1 (a0 : (Int × (List ((List Int) × Int)))) (a1 : PyData) : (Except XN (List (List Int))) := (.ok (ssI ((((v_all_pairs a0.1).map fun x2_ : (List Int) => (v_split_by a0 (dI a1) x2_)).filter fun x4_ : (List Int) => (!x4_.isEmpty)).map fun x4_ : (List Int) => x4_)))
def C_splits_s1 (a0 : (Int × (List ((List Int) × Int)))) (a1 : PyData) : Prop := (C_all_pairs a0.1 ∧ (v_all_pairs a0.1).length ≤ sizeLine ∧ (∀ x2_ ∈ (v_all_pairs a0.1), (a1 = (PyData.int (dI a1)) ∧ C_split_by a0 (dI a1) x2_)) ∧ (((v_all_pairs a0.1).map fun x2_ : (List Int) => (v_split_by a0 (dI a1) x2_)).length ≤ 60 ∧ ∀ x4_ ∈ ((v_all_pairs a0.1).map fun x2_ : (List Int) => (v_split_by a0 (dI a1) x2_)), (!x4_.isEmpty) = true → x4_.length ≠ 0))
def nb_splits_s1 (cc : Nat → Addr) : AST := (sSeq (sSet 2 (aLc (iSeq (oV (aCall0 [.dat] (calm F_all_pairs) (lCons (oV (a2 vIx (oVar 0) (oV (aC (.int 0))))) lNil)))) (bNm 3) tYesA (aCall0 [.dat, .dat, .dat] (calm F_split_by) (lCons (oV (aVar 0)) (lCons (oV (aVar 1)) (lCons (oV (aVar 3)) lNil)))) [3]))
    (sRet (aBlt fTuple (lCons (oV (aSortSC (iSeq (oVar 2)) (bNm 4) (tTruA (oVar 4)) (aVar 4) [4])) lNil))))
theorem okS_splits_s1 (cc : Nat → Addr) {xp : XP} {D : AEnds} {n : Nat} (a0 : (Int × (List ((List Int) × Int)))) (a1 : PyData)  (hC : C_splits_s1 a0 a1) (hq : resX cc D xp n (eQ (eQ PyData.int)) (v_splits_s1 a0 a1)) : nb_splits_s1 cc xp D ⟨[some (.dat (eP PyData.int (eQ (eP (eQ PyData.int) PyData.int)) a0)), some (.dat a1), none, none, none], n⟩ := by
  unfold C_splits_s1 at hC; unfold v_splits_s1 at hq; unfold nb_splits_s1
  exact (c_seq (c_set (ev_lcM (eQ PyData.int) (eQ PyData.int) (fun x2_ : (List Int) => (v_split_by a0 (dI a1) x2_)) (fun x2_ : (List Int) => (⟨[some (.dat (eP PyData.int (eQ (eP (eQ PyData.int) PyData.int)) a0)), some (.dat a1), none, some (.dat (eQ PyData.int x2_)), none], n⟩ : AS)) (fun x2_ : (List Int) => (⟨[some (.dat (eP PyData.int (eQ (eP (eQ PyData.int) PyData.int)) a0)), some (.dat a1), none, some (.dat (eQ PyData.int x2_)), none], n⟩ : AS)) (iv_valL (f := (eQ PyData.int)) (l := (v_all_pairs a0.1)) (ov_V (ev_call0 (lv_cons (ov_V (ev_a2 (ov_dat 0 rfl) (ov_V ev_c) rfl rfl (vf_ixT at_0))) lv_nil) (fun _ q => q) (okV_all_pairs a0.1 hC.1)))) hC.2.1 rfl True.intro (fun x2_ hx3_ => ((bv_nm 3).to rfl)) (fun x2_ hx3_ => (ev_call0 (lv_cons (ov_V (ev_var 0 rfl)) (lv_cons (ov_V (ev_cast (ev_var 1 rfl) (hC.2.2.1 x2_ hx3_).1)) (lv_cons (ov_V (ev_var 3 rfl)) lv_nil))) (fun _ q => q) (okV_split_by a0 (dI a1) x2_ (hC.2.2.1 x2_ hx3_).2))) (fun _ _ => ⟨rfl, rfl⟩)) rfl (c_aft (c_ret (ev_blt (lv_cons (ov_V (ev_sortSC (eQ PyData.int) (fun x4_ : (List Int) => (!x4_.isEmpty)) (fun x4_ : (List Int) => x4_) (fun x4_ : (List Int) => (⟨[some (.dat (eP PyData.int (eQ (eP (eQ PyData.int) PyData.int)) a0)), some (.dat a1), some (.dat (eL (eQ PyData.int) ((v_all_pairs a0.1).map fun x2_ : (List Int) => (v_split_by a0 (dI a1) x2_)))), none, some (.dat (eQ PyData.int x4_))], n⟩ : AS)) (fun x4_ : (List Int) => (⟨[some (.dat (eP PyData.int (eQ (eP (eQ PyData.int) PyData.int)) a0)), some (.dat a1), some (.dat (eL (eQ PyData.int) ((v_all_pairs a0.1).map fun x2_ : (List Int) => (v_split_by a0 (dI a1) x2_)))), none, some (.dat (eQ PyData.int x4_))], n⟩ : AS)) (iv_valL (f := (eQ PyData.int)) (l := ((v_all_pairs a0.1).map fun x2_ : (List Int) => (v_split_by a0 (dI a1) x2_))) (ov_dat 2 rfl)) hC.2.2.2 rfl True.intro (fun x4_ hx5_ => ((bv_nm 4).to rfl)) (fun x4_ hx5_ => (tv_tru (ov_dat 4 rfl) rfl (tru_Q (f := PyData.int)))) (fun x4_ hx5_ h6_ => (ev_var 4 rfl)) (fun _ _ => ⟨rfl, rfl⟩))) lv_nil) (rsl_cons rfl (fun _ q => q)) (fv_tupleL (f := (eQ PyData.int)))) hq))))
def v_splits (a0 : (Int × (List ((List Int) × Int)))) (a1 : PyData) : (Except XN (List (List Int))) := (bif (!(v_is_taster_number a0 a1)) then (.error ⟨1, some (("taster" : Str), a1)⟩) else (v_splits_s1 a0 a1))
def C_splits (a0 : (Int × (List ((List Int) × Int)))) (a1 : PyData) : Prop := (C_is_taster_number a0 a1 ∧ ((!(v_is_taster_number a0 a1)) = false → C_splits_s1 a0 a1))
def nb_splits (cc : Nat → Addr) : AST := (sSeq (sIf (tNotA (tTruA (oV (aCall0 [.dat, .dat] (calm F_is_taster_number) (lCons (oV (aVar 0)) (lCons (oV (aVar 1)) lNil))))))
    (sRaise1 (cc 1) "taster" (lCons (oV (aVar 1)) lNil))
    sNx)
    (sSeq (sSet 2 (aLc (iSeq (oV (aCall0 [.dat] (calm F_all_pairs) (lCons (oV (a2 vIx (oVar 0) (oV (aC (.int 0))))) lNil)))) (bNm 3) tYesA (aCall0 [.dat, .dat, .dat] (calm F_split_by) (lCons (oV (aVar 0)) (lCons (oV (aVar 1)) (lCons (oV (aVar 3)) lNil)))) [3]))
    (sRet (aBlt fTuple (lCons (oV (aSortSC (iSeq (oVar 2)) (bNm 4) (tTruA (oVar 4)) (aVar 4) [4])) lNil)))))
theorem okS_splits (cc : Nat → Addr) {xp : XP} {D : AEnds} {n : Nat} (a0 : (Int × (List ((List Int) × Int)))) (a1 : PyData)  (hC : C_splits a0 a1) (hq : resX cc D xp n (eQ (eQ PyData.int)) (v_splits a0 a1)) : nb_splits cc xp D ⟨[some (.dat (eP PyData.int (eQ (eP (eQ PyData.int) PyData.int)) a0)), some (.dat a1), none, none, none], n⟩ := by
  unfold C_splits at hC; unfold v_splits at hq; unfold nb_splits
  exact (c_seq (c_if (tv_not (tv_tru (ov_V (ev_call0 (lv_cons (ov_V (ev_var 0 rfl)) (lv_cons (ov_V (ev_var 1 rfl)) lv_nil)) (fun _ q => q) (okV_is_taster_number a0 a1 hC.1))) rfl tru_B)) (fun h1_ => (c_raise1 (lv_cons (ov_V (ev_var 1 rfl)) lv_nil) (fun _ q => q) ((ifTx h1_ hq) _ rfl))) (fun h1_ => (c_pass (c_aft (okS_splits_s1 cc a0 a1  (hC.2 h1_) (ifFx h1_ hq)))))))
theorem okV_splits (cc : Nat → Addr) (a0 : (Int × (List ((List Int) × Int)))) (a1 : PyData) (hC : C_splits a0 a1) : PFx cc (F_splits cc) [(eP PyData.int (eQ (eP (eQ PyData.int) PyData.int)) a0), a1] (eQ (eQ PyData.int)) (v_splits a0 a1) := fun n Q X q => by
  unfold F_splits
  exact okS_splits cc (xp := fun x s => X x s.n) (D := { nx := fun s => Q .none s.n, rt := Q }) a0 a1 hC (by cases h : v_splits a0 a1 with | ok r => rw [h] at q; exact q | error x => rw [h] at q; exact fun s e => by show X _ s.n; rw [e]; exact q)

def v__law_whole (a0 : PyData) : Bool := ((isNum a0) && (!(isBoo a0)))
def nb__law_whole : AST := (sRet (aAnd (aIsi "int" (oVar 0)) (aNot (aIsi "bool" (oVar 0)))))
theorem okS__law_whole {xp : XP} {D : AEnds} {n : Nat} (a0 : PyData)  (hq : D.rt (PyData.bool (v__law_whole a0)) n) : nb__law_whole xp D ⟨[some (.dat a0)], n⟩ := by
  unfold v__law_whole at hq; unfold nb__law_whole
  exact (c_ret (ev_and (ev_isi (ov_dat 0 rfl) rfl isi_int) (fun h1_ => (ev_not (ev_isi (ov_dat 0 rfl) rfl isi_bool)))) hq)
theorem okV__law_whole (a0 : PyData) : PFn F__law_whole [a0] (PyData.bool (v__law_whole a0)) := fun n Q X q => by
  unfold F__law_whole
  exact okS__law_whole (xp := fun x s => X x s.n) (D := { nx := fun s => Q .none s.n, rt := Q }) a0 q

def v__law_exchanged (a0 : (List Int)) (a1 : Int) : (List Int) := (((cutN a0 none (some a1)) ++ [(gt a0 (a1 + (1 : Int))), (gt a0 a1)]) ++ (cutN a0 (some (a1 + (2 : Int))) none))
def C__law_exchanged (a0 : (List Int)) (a1 : Int) : Prop := (Ixr a0 (a1 + (1 : Int)) ∧ Ixr a0 a1 ∧ (cutN a0 none (some a1)).length + [(gt a0 (a1 + (1 : Int))), (gt a0 a1)].length ≤ sizeLine ∧ ((cutN a0 none (some a1)) ++ [(gt a0 (a1 + (1 : Int))), (gt a0 a1)]).length + (cutN a0 (some (a1 + (2 : Int))) none).length ≤ sizeLine)
def nb__law_exchanged : AST := (sRet (a2 vAdd (oV (a2 vAdd (oV (aSl (oVar 0) ptNone (ptSome (aVar 1)))) (oV (aTup (lCons (oV (a2 vIx (oVar 0) (oV (a2 vAdd (oVar 1) (oV (aC (.int 1))))))) (lCons (oV (a2 vIx (oVar 0) (oVar 1))) lNil)))))) (oV (aSl (oVar 0) (ptSome (a2 vAdd (oVar 1) (oV (aC (.int 2))))) ptNone))))
theorem okS__law_exchanged {xp : XP} {D : AEnds} {n : Nat} (a0 : (List Int)) (a1 : Int)  (hC : C__law_exchanged a0 a1) (hq : D.rt (eQ PyData.int (v__law_exchanged a0 a1)) n) : nb__law_exchanged xp D ⟨[some (.dat (eQ PyData.int a0)), some (.dat (PyData.int a1))], n⟩ := by
  unfold C__law_exchanged at hC; unfold v__law_exchanged at hq; unfold nb__law_exchanged
  exact (c_ret (ev_a2 (ov_V (ev_a2 (ov_V (ev_slQ (f := PyData.int) (ov_dat 0 rfl) pv_n (pv_s (ev_var 1 rfl)) rfl)) (ov_V (ev_tup (lv_cons (ov_V (ev_a2 (ov_dat 0 rfl) (ov_V (ev_a2 (ov_dat 1 rfl) (ov_V ev_c) rfl rfl vf_addI)) rfl rfl (vf_ixQ (f := PyData.int) hC.1))) (lv_cons (ov_V (ev_a2 (ov_dat 0 rfl) (ov_dat 1 rfl) rfl rfl (vf_ixQ (f := PyData.int) hC.2.1))) lv_nil)) (fun _ q => q) rfl)) rfl rfl (vf_addQ (f := PyData.int) hC.2.2.1))) (ov_V (ev_slQ (f := PyData.int) (ov_dat 0 rfl) (pv_s (ev_a2 (ov_dat 1 rfl) (ov_V ev_c) rfl rfl vf_addI)) pv_n rfl)) rfl rfl (vf_addQ (f := PyData.int) hC.2.2.2)) hq)
theorem okV__law_exchanged (a0 : (List Int)) (a1 : Int) (hC : C__law_exchanged a0 a1) : PFn F__law_exchanged [(eQ PyData.int a0), (PyData.int a1)] (eQ PyData.int (v__law_exchanged a0 a1)) := fun n Q X q => by
  unfold F__law_exchanged
  exact okS__law_exchanged (xp := fun x s => X x s.n) (D := { nx := fun s => Q .none s.n, rt := Q }) a0 a1 hC q

def v__law_pairs_s1 (a0 : Int) (a1 : (List (Int × Int))) : (List (Int × Int)) := (forV (fun (k3_ : ((List (Int × Int))) → (List (Int × Int))) (x2_ : Int) (w1_ : (List (Int × Int))) => (k3_ ((w1_ ++ ((irange (x2_ + (1 : Int)) a0).map fun x5_ : Int => (x2_, x5_)))))) (fun (w1_ : (List (Int × Int))) => w1_) (irange 0 a0) (a1))
def C__law_pairs_s1 (a0 : Int) (a1 : (List (Int × Int))) : Prop := (Rg a0 ∧ forV (fun (kC4_ : ((List (Int × Int))) → Prop) (x2_ : Int) (w1_ : (List (Int × Int))) => ((Rg (x2_ + (1 : Int)) ∧ Rg a0) ∧ (irange (x2_ + (1 : Int)) a0).length ≤ sizeLine ∧ w1_.length + ((irange (x2_ + (1 : Int)) a0).map fun x5_ : Int => (x2_, x5_)).length ≤ sizeLine ∧ kC4_ ((w1_ ++ ((irange (x2_ + (1 : Int)) a0).map fun x5_ : Int => (x2_, x5_)))))) (fun (w1_ : (List (Int × Int))) => True) (irange 0 a0) (a1))
def nb__law_pairs_s1 : AST := (sSeq (sFor (iRange1 (lCons (oVar 0) lNil)) (bNm 2)
    (sDrop (aMut mExt 1 (lCons (oV (aLc (iRange2 (lCons (oV (a2 vAdd (oVar 2) (oV (aC (.int 1))))) (lCons (oVar 0) lNil))) (bNm 3) tYesA (aTup (lCons (oV (aVar 2)) (lCons (oV (aVar 3)) lNil))) [3])) lNil))))
    (sRetV 1))
theorem okS__law_pairs_s1 {xp : XP} {D : AEnds} {n : Nat} (a0 : Int) (a1 : (List (Int × Int)))  (hC : C__law_pairs_s1 a0 a1) (hq : D.rt (eL (eP PyData.int PyData.int) (v__law_pairs_s1 a0 a1)) n) : nb__law_pairs_s1 xp D ⟨[some (.dat (PyData.int a0)), some (.own (a1.map (eP PyData.int PyData.int))), none, none], n⟩ := by
  unfold C__law_pairs_s1 at hC; unfold v__law_pairs_s1 at hq; unfold nb__law_pairs_s1
  exact (c_seq (c_for (R := fun r => D.rt (eL (eP PyData.int PyData.int) r) n) PyData.int (fun (w1_ : (List (Int × Int))) (s : AS) => ∃ (q2 : Option AV), s = ⟨[some (.dat (PyData.int a0)), some (.own (w1_.map (eP PyData.int PyData.int))), q2, none], n⟩) (iv_range1 (lv_cons (ov_dat 0 rfl) lv_nil) (fun _ q => q) hC.1) ⟨none, rfl⟩ hC.2 hq (fun x2_ w1_ s_ k3_ kC4_ N_ hi_ hC_ hq_ hN_ => by
    obtain ⟨q2, e_⟩ := hi_
    subst e_
    exact (g_bv ((bv_nm 2).to rfl) (c_drop (ev_ext (f := (eP PyData.int PyData.int)) (l := w1_) (m := ((irange (x2_ + (1 : Int)) a0).map fun x5_ : Int => (x2_, x5_))) rfl (lv_cons (ov_V (ev_lcM PyData.int (eP PyData.int PyData.int) (fun x5_ : Int => (x2_, x5_)) (fun x5_ : Int => (⟨[some (.dat (PyData.int a0)), some (.own (w1_.map (eP PyData.int PyData.int))), some (.dat (PyData.int x2_)), some (.dat (PyData.int x5_))], n⟩ : AS)) (fun x5_ : Int => (⟨[some (.dat (PyData.int a0)), some (.own (w1_.map (eP PyData.int PyData.int))), some (.dat (PyData.int x2_)), some (.dat (PyData.int x5_))], n⟩ : AS)) (iv_range2 (lv_cons (ov_V (ev_a2 (ov_dat 2 rfl) (ov_V ev_c) rfl rfl vf_addI)) (lv_cons (ov_dat 0 rfl) lv_nil)) (fun _ q => q) hC_.1) hC_.2.1 rfl True.intro (fun x5_ hx6_ => ((bv_nm 3).to rfl)) (fun x5_ hx6_ => (ev_tup (lv_cons (ov_V (ev_var 2 rfl)) (lv_cons (ov_V (ev_var 3 rfl)) lv_nil)) (fun _ q => q) rfl)) (fun _ _ => ⟨rfl, rfl⟩))) lv_nil) rfl (fun _ q => q) rfl hC_.2.2.1) (hN_ ((w1_ ++ ((irange (x2_ + (1 : Int)) a0).map fun x5_ : Int => (x2_, x5_)))) _ ⟨some (.dat (PyData.int x2_)), rfl⟩ hC_.2.2.2 hq_)))) (fun w1_ s_ hi_ hA_ hqa_ => by
    obtain ⟨q2, e_⟩ := hi_
    subst e_
    exact (c_aft (c_retVO 1 rfl hqa_)))))
def v__law_pairs (a0 : Int) : (List (Int × Int)) := (v__law_pairs_s1 a0 [])
def C__law_pairs (a0 : Int) : Prop := C__law_pairs_s1 a0 []
def nb__law_pairs : AST := (sSeq (sSetO 1 (aLst lNil))
    (sSeq (sFor (iRange1 (lCons (oVar 0) lNil)) (bNm 2)
    (sDrop (aMut mExt 1 (lCons (oV (aLc (iRange2 (lCons (oV (a2 vAdd (oVar 2) (oV (aC (.int 1))))) (lCons (oVar 0) lNil))) (bNm 3) tYesA (aTup (lCons (oV (aVar 2)) (lCons (oV (aVar 3)) lNil))) [3])) lNil))))
    (sRetV 1)))
theorem okS__law_pairs {xp : XP} {D : AEnds} {n : Nat} (a0 : Int)  (hC : C__law_pairs a0) (hq : D.rt (eL (eP PyData.int PyData.int) (v__law_pairs a0)) n) : nb__law_pairs xp D ⟨[some (.dat (PyData.int a0)), none, none, none], n⟩ := by
  unfold C__law_pairs at hC; unfold v__law_pairs at hq; unfold nb__law_pairs
  exact (c_seq (c_setO (ev_lst lv_nil (fun _ q => q) rfl) rfl (c_aft (okS__law_pairs_s1 a0 []  hC hq))))
theorem okV__law_pairs (a0 : Int) (hC : C__law_pairs a0) : PFn F__law_pairs [(PyData.int a0)] (eL (eP PyData.int PyData.int) (v__law_pairs a0)) := fun n Q X q => by
  unfold F__law_pairs
  exact okS__law_pairs (xp := fun x s => X x s.n) (D := { nx := fun s => Q .none s.n, rt := Q }) a0 hC q

def v__law_sides_s1 (a0 : (Int × (List ((List Int) × Int)))) (a1 : (List (List Bool))) : (List (List Bool)) := (forV (fun (k3_ : ((List (List Bool))) → (List (List Bool))) (x2_ : (Int × Int)) (w1_ : (List (List Bool))) => (k3_ ((w1_ ++ [(a0.2.map fun x5_ : ((List Int) × Int) => (decide (((x5_.1.idxOf x2_.1 : Nat) : Int) < ((x5_.1.idxOf x2_.2 : Nat) : Int))))])))) (fun (w1_ : (List (List Bool))) => w1_) (v__law_pairs a0.1) (a1))
def C__law_sides_s1 (a0 : (Int × (List ((List Int) × Int)))) (a1 : (List (List Bool))) : Prop := (C__law_pairs a0.1 ∧ forV (fun (kC4_ : ((List (List Bool))) → Prop) (x2_ : (Int × Int)) (w1_ : (List (List Bool))) => (a0.2.length ≤ sizeLine ∧ (∀ x5_ ∈ a0.2, (x2_.1 ∈ x5_.1 ∧ x2_.2 ∈ x5_.1)) ∧ w1_.length < sizeLine ∧ kC4_ ((w1_ ++ [(a0.2.map fun x5_ : ((List Int) × Int) => (decide (((x5_.1.idxOf x2_.1 : Nat) : Int) < ((x5_.1.idxOf x2_.2 : Nat) : Int))))])))) (fun (w1_ : (List (List Bool))) => True) (v__law_pairs a0.1) (a1))
def nb__law_sides_s1 : AST := (sSeq (sFor (iSeq (oV (aCall0 [.dat] (calm F__law_pairs) (lCons (oV (a2 vIx (oVar 0) (oV (aC (.int 0))))) lNil)))) (bTup 2 (bCons (bNm 2) (bCons (bNm 3) bNil)))
    (sDrop (aMut mApp 1 (lCons (oV (aLc (iSeq (oV (a2 vIx (oVar 0) (oV (aC (.int 1)))))) (bTup 2 (bCons (bNm 4) (bCons (bNm 5) bNil))) tYesA (a2 vLt (oV (aIdx (oVar 4) (lCons (oVar 2) lNil))) (oV (aIdx (oVar 4) (lCons (oVar 3) lNil)))) [4, 5])) lNil))))
    (sRetV 1))
theorem okS__law_sides_s1 {xp : XP} {D : AEnds} {n : Nat} (a0 : (Int × (List ((List Int) × Int)))) (a1 : (List (List Bool)))  (hC : C__law_sides_s1 a0 a1) (hq : D.rt (eL (eL PyData.bool) (v__law_sides_s1 a0 a1)) n) : nb__law_sides_s1 xp D ⟨[some (.dat (eP PyData.int (eQ (eP (eQ PyData.int) PyData.int)) a0)), some (.own (a1.map (eL PyData.bool))), none, none, none, none], n⟩ := by
  unfold C__law_sides_s1 at hC; unfold v__law_sides_s1 at hq; unfold nb__law_sides_s1
  exact (c_seq (c_for (R := fun r => D.rt (eL (eL PyData.bool) r) n) (eP PyData.int PyData.int) (fun (w1_ : (List (List Bool))) (s : AS) => ∃ (q2 : Option AV) (q3 : Option AV), s = ⟨[some (.dat (eP PyData.int (eQ (eP (eQ PyData.int) PyData.int)) a0)), some (.own (w1_.map (eL PyData.bool))), q2, q3, none, none], n⟩) (iv_valL (f := (eP PyData.int PyData.int)) (l := (v__law_pairs a0.1)) (ov_V (ev_call0 (lv_cons (ov_V (ev_a2 (ov_dat 0 rfl) (ov_V ev_c) rfl rfl (vf_ixT at_0))) lv_nil) (fun _ q => q) (okV__law_pairs a0.1 hC.1)))) ⟨none, none, rfl⟩ hC.2 hq (fun x2_ w1_ s_ k3_ kC4_ N_ hi_ hC_ hq_ hN_ => by
    obtain ⟨q2, q3, e_⟩ := hi_
    subst e_
    exact (g_bv (fun _ q => ⟨rfl, rfl, q⟩) (c_drop (ev_app (f := (eL PyData.bool)) (l := w1_) (x := (a0.2.map fun x5_ : ((List Int) × Int) => (decide (((x5_.1.idxOf x2_.1 : Nat) : Int) < ((x5_.1.idxOf x2_.2 : Nat) : Int))))) rfl (lv_cons (ov_V (ev_lcM (eP (eQ PyData.int) PyData.int) PyData.bool (fun x5_ : ((List Int) × Int) => (decide (((x5_.1.idxOf x2_.1 : Nat) : Int) < ((x5_.1.idxOf x2_.2 : Nat) : Int)))) (fun x5_ : ((List Int) × Int) => (⟨[some (.dat (eP PyData.int (eQ (eP (eQ PyData.int) PyData.int)) a0)), some (.own (w1_.map (eL PyData.bool))), some (.dat (PyData.int x2_.1)), some (.dat (PyData.int x2_.2)), some (.dat (eQ PyData.int x5_.1)), some (.dat (PyData.int x5_.2))], n⟩ : AS)) (fun x5_ : ((List Int) × Int) => (⟨[some (.dat (eP PyData.int (eQ (eP (eQ PyData.int) PyData.int)) a0)), some (.own (w1_.map (eL PyData.bool))), some (.dat (PyData.int x2_.1)), some (.dat (PyData.int x2_.2)), some (.dat (eQ PyData.int x5_.1)), some (.dat (PyData.int x5_.2))], n⟩ : AS)) (iv_valQ (f := (eP (eQ PyData.int) PyData.int)) (l := a0.2) (ov_V (ev_a2 (ov_dat 0 rfl) (ov_V ev_c) rfl rfl (vf_ixT at_1)))) hC_.1 rfl True.intro (fun x5_ hx6_ => (fun _ q => ⟨rfl, rfl, q⟩)) (fun x5_ hx6_ => (ev_a2 (ov_V (ev_idx (ov_dat 4 rfl) (lv_cons (ov_dat 2 rfl) lv_nil) (rsl_cons rfl (fun _ q => q)) (hC_.2.1 x5_ hx6_).1)) (ov_V (ev_idx (ov_dat 4 rfl) (lv_cons (ov_dat 3 rfl) lv_nil) (rsl_cons rfl (fun _ q => q)) (hC_.2.1 x5_ hx6_).2)) rfl rfl vf_ltI)) (fun _ _ => ⟨rfl, rfl⟩))) lv_nil) rfl (fun _ q => q) rfl hC_.2.2.1) (hN_ ((w1_ ++ [(a0.2.map fun x5_ : ((List Int) × Int) => (decide (((x5_.1.idxOf x2_.1 : Nat) : Int) < ((x5_.1.idxOf x2_.2 : Nat) : Int))))])) _ ⟨some (.dat (PyData.int x2_.1)), some (.dat (PyData.int x2_.2)), rfl⟩ hC_.2.2.2 hq_)))) (fun w1_ s_ hi_ hA_ hqa_ => by
    obtain ⟨q2, q3, e_⟩ := hi_
    subst e_
    exact (c_aft (c_retVO 1 rfl hqa_)))))
def v__law_sides (a0 : (Int × (List ((List Int) × Int)))) : (List (List Bool)) := (v__law_sides_s1 a0 [])
def C__law_sides (a0 : (Int × (List ((List Int) × Int)))) : Prop := C__law_sides_s1 a0 []
def nb__law_sides : AST := (sSeq (sSetO 1 (aLst lNil))
    (sSeq (sFor (iSeq (oV (aCall0 [.dat] (calm F__law_pairs) (lCons (oV (a2 vIx (oVar 0) (oV (aC (.int 0))))) lNil)))) (bTup 2 (bCons (bNm 2) (bCons (bNm 3) bNil)))
    (sDrop (aMut mApp 1 (lCons (oV (aLc (iSeq (oV (a2 vIx (oVar 0) (oV (aC (.int 1)))))) (bTup 2 (bCons (bNm 4) (bCons (bNm 5) bNil))) tYesA (a2 vLt (oV (aIdx (oVar 4) (lCons (oVar 2) lNil))) (oV (aIdx (oVar 4) (lCons (oVar 3) lNil)))) [4, 5])) lNil))))
    (sRetV 1)))
theorem okS__law_sides {xp : XP} {D : AEnds} {n : Nat} (a0 : (Int × (List ((List Int) × Int))))  (hC : C__law_sides a0) (hq : D.rt (eL (eL PyData.bool) (v__law_sides a0)) n) : nb__law_sides xp D ⟨[some (.dat (eP PyData.int (eQ (eP (eQ PyData.int) PyData.int)) a0)), none, none, none, none, none], n⟩ := by
  unfold C__law_sides at hC; unfold v__law_sides at hq; unfold nb__law_sides
  exact (c_seq (c_setO (ev_lst lv_nil (fun _ q => q) rfl) rfl (c_aft (okS__law_sides_s1 a0 []  hC hq))))
theorem okV__law_sides (a0 : (Int × (List ((List Int) × Int)))) (hC : C__law_sides a0) : PFn F__law_sides [(eP PyData.int (eQ (eP (eQ PyData.int) PyData.int)) a0)] (eL (eL PyData.bool) (v__law_sides a0)) := fun n Q X q => by
  unfold F__law_sides
  exact okS__law_sides (xp := fun x s => X x s.n) (D := { nx := fun s => Q .none s.n, rt := Q }) a0 hC q

def v__law_due_s1 (a0 : (Int × (List ((List Int) × Int)))) (a1 : Int) (a2 : (List (List Int))) : (List (List Int)) := (forV (fun (k3_ : ((List (List Int))) → (List (List Int))) (x2_ : (List Bool)) (w1_ : (List (List Int))) => (k3_ ((bif ((!(((irange 0 ((x2_.length : Nat) : Int)).filter fun x5_ : Int => (!(decide ((gt x2_ x5_) = (gt x2_ a1))))).map fun x5_ : Int => x5_).isEmpty) && (!memB (((irange 0 ((x2_.length : Nat) : Int)).filter fun x5_ : Int => (!(decide ((gt x2_ x5_) = (gt x2_ a1))))).map fun x5_ : Int => x5_) w1_)) then (w1_ ++ [(((irange 0 ((x2_.length : Nat) : Int)).filter fun x5_ : Int => (!(decide ((gt x2_ x5_) = (gt x2_ a1))))).map fun x5_ : Int => x5_)]) else w1_)))) (fun (w1_ : (List (List Int))) => (srtN (eQ PyData.int) w1_)) (v__law_sides a0) (a2))
def C__law_due_s1 (a0 : (Int × (List ((List Int) × Int)))) (a1 : Int) (a2 : (List (List Int))) : Prop := (C__law_sides a0 ∧ forV (fun (kC4_ : ((List (List Int))) → Prop) (x2_ : (List Bool)) (w1_ : (List (List Int))) => (Rg ((x2_.length : Nat) : Int) ∧ (irange 0 ((x2_.length : Nat) : Int)).length ≤ sizeLine ∧ (∀ x5_ ∈ (irange 0 ((x2_.length : Nat) : Int)), (Ixr x2_ x5_ ∧ Ixr x2_ a1)) ∧ (((!(((irange 0 ((x2_.length : Nat) : Int)).filter fun x5_ : Int => (!(decide ((gt x2_ x5_) = (gt x2_ a1))))).map fun x5_ : Int => x5_).isEmpty) && (!memB (((irange 0 ((x2_.length : Nat) : Int)).filter fun x5_ : Int => (!(decide ((gt x2_ x5_) = (gt x2_ a1))))).map fun x5_ : Int => x5_) w1_)) = true → w1_.length < sizeLine) ∧ kC4_ ((bif ((!(((irange 0 ((x2_.length : Nat) : Int)).filter fun x5_ : Int => (!(decide ((gt x2_ x5_) = (gt x2_ a1))))).map fun x5_ : Int => x5_).isEmpty) && (!memB (((irange 0 ((x2_.length : Nat) : Int)).filter fun x5_ : Int => (!(decide ((gt x2_ x5_) = (gt x2_ a1))))).map fun x5_ : Int => x5_) w1_)) then (w1_ ++ [(((irange 0 ((x2_.length : Nat) : Int)).filter fun x5_ : Int => (!(decide ((gt x2_ x5_) = (gt x2_ a1))))).map fun x5_ : Int => x5_)]) else w1_)))) (fun (w1_ : (List (List Int))) => SrtOk (w1_.map (eQ PyData.int))) (v__law_sides a0) (a2))
def nb__law_due_s1 : AST := (sSeq (sFor (iSeq (oV (aCall0 [.dat] (calm F__law_sides) (lCons (oV (aVar 0)) lNil)))) (bNm 3)
    (sSeq (sSet 4 (aBlt fTuple (lCons (oV (aLc (iRange1 (lCons (oV (aBlt fLen (lCons (oVar 3) lNil))) lNil)) (bNm 5) (tV (a2 vNe (oV (a2 vIx (oVar 3) (oVar 5))) (oV (a2 vIx (oVar 3) (oVar 1))))) (aVar 5) [5])) lNil)))
    (sIf (tAndA (tV (a2 vNeE (oVar 4) (oV (aTup lNil)))) (tV (a2 vNotIn (oVar 4) (oVar 2))))
    (sDrop (aMut mApp 2 (lCons (oV (aVar 4)) lNil)))
    sNx)))
    (sRet (aBlt fTuple (lCons (oV (aBlt fSorted (lCons (oVar 2) lNil))) lNil))))
theorem okS__law_due_s1 {xp : XP} {D : AEnds} {n : Nat} (a0 : (Int × (List ((List Int) × Int)))) (a1 : Int) (a2 : (List (List Int)))  (hC : C__law_due_s1 a0 a1 a2) (hq : D.rt (eQ (eQ PyData.int) (v__law_due_s1 a0 a1 a2)) n) : nb__law_due_s1 xp D ⟨[some (.dat (eP PyData.int (eQ (eP (eQ PyData.int) PyData.int)) a0)), some (.dat (PyData.int a1)), some (.own (a2.map (eQ PyData.int))), none, none, none], n⟩ := by
  unfold C__law_due_s1 at hC; unfold v__law_due_s1 at hq; unfold nb__law_due_s1
  exact (c_seq (c_for (R := fun r => D.rt (eQ (eQ PyData.int) r) n) (eL PyData.bool) (fun (w1_ : (List (List Int))) (s : AS) => ∃ (q3 : Option AV) (q4 : Option AV), s = ⟨[some (.dat (eP PyData.int (eQ (eP (eQ PyData.int) PyData.int)) a0)), some (.dat (PyData.int a1)), some (.own (w1_.map (eQ PyData.int))), q3, q4, none], n⟩) (iv_valL (f := (eL PyData.bool)) (l := (v__law_sides a0)) (ov_V (ev_call0 (lv_cons (ov_V (ev_var 0 rfl)) lv_nil) (fun _ q => q) (okV__law_sides a0 hC.1)))) ⟨none, none, rfl⟩ hC.2 hq (fun x2_ w1_ s_ k3_ kC4_ N_ hi_ hC_ hq_ hN_ => by
    obtain ⟨q3, q4, e_⟩ := hi_
    subst e_
    exact (g_bv ((bv_nm 3).to rfl) (c_seq (c_set (ev_blt (lv_cons (ov_V (ev_lcF PyData.int (fun x5_ : Int => (!(decide ((gt x2_ x5_) = (gt x2_ a1))))) PyData.int (fun x5_ : Int => x5_) (fun x5_ : Int => (⟨[some (.dat (eP PyData.int (eQ (eP (eQ PyData.int) PyData.int)) a0)), some (.dat (PyData.int a1)), some (.own (w1_.map (eQ PyData.int))), some (.dat (eL PyData.bool x2_)), q4, some (.dat (PyData.int x5_))], n⟩ : AS)) (fun x5_ : Int => (⟨[some (.dat (eP PyData.int (eQ (eP (eQ PyData.int) PyData.int)) a0)), some (.dat (PyData.int a1)), some (.own (w1_.map (eQ PyData.int))), some (.dat (eL PyData.bool x2_)), q4, some (.dat (PyData.int x5_))], n⟩ : AS)) (iv_range1 (lv_cons (ov_V (ev_blt (lv_cons (ov_dat 3 rfl) lv_nil) (rsl_cons rfl (fun _ q => q)) (fv_lenL (f := PyData.bool)))) lv_nil) (fun _ q => q) hC_.1) hC_.2.1 rfl True.intro (fun x5_ hx6_ => ((bv_nm 5).to rfl)) (fun x5_ hx6_ => (tv_V (ev_a2 (ov_V (ev_a2 (ov_dat 3 rfl) (ov_dat 5 rfl) rfl rfl (vf_ixL (f := PyData.bool) (hC_.2.2.1 x5_ hx6_).1))) (ov_V (ev_a2 (ov_dat 3 rfl) (ov_dat 1 rfl) rfl rfl (vf_ixL (f := PyData.bool) (hC_.2.2.1 x5_ hx6_).2))) rfl rfl (vf_ne (f := PyData.bool) lw_B (sh_B (k := 0)) rfl)))) (fun x5_ hx6_ h7_ => (ev_var 5 rfl)) (fun _ _ => ⟨rfl, rfl⟩))) lv_nil) (rsl_cons rfl (fun _ q => q)) (fv_tupleL (f := PyData.int))) rfl (c_aft (c_ifJ (fun b10_ : Bool => (⟨[some (.dat (eP PyData.int (eQ (eP (eQ PyData.int) PyData.int)) a0)), some (.dat (PyData.int a1)), some (.own ((bif b10_ then (w1_ ++ [(((irange 0 ((x2_.length : Nat) : Int)).filter fun x5_ : Int => (!(decide ((gt x2_ x5_) = (gt x2_ a1))))).map fun x5_ : Int => x5_)]) else w1_).map (eQ PyData.int))), some (.dat (eL PyData.bool x2_)), some (.dat (eQ PyData.int (((irange 0 ((x2_.length : Nat) : Int)).filter fun x5_ : Int => (!(decide ((gt x2_ x5_) = (gt x2_ a1))))).map fun x5_ : Int => x5_))), none], n⟩ : AS)) (tv_and (tv_V (ev_a2 (ov_dat 4 rfl) (ov_V (ev_tup lv_nil (fun _ q => q) rfl)) rfl rfl (vf_neEQ (f := PyData.int) (g := PyData.int)))) (fun h8_ => (tv_V (ev_a2 (ov_dat 4 rfl) (ov_own 2 rfl) rfl rfl (vf_ninL (f := (eQ PyData.int)) (lw_Q lw_I) (sh_Q (sh_I (k := 0))) rfl rfl))))) (fun h9_ D_ k_ => (c_drop (ev_app (f := (eQ PyData.int)) (l := w1_) (x := (((irange 0 ((x2_.length : Nat) : Int)).filter fun x5_ : Int => (!(decide ((gt x2_ x5_) = (gt x2_ a1))))).map fun x5_ : Int => x5_)) rfl (lv_cons (ov_V (ev_var 4 rfl)) lv_nil) rfl (fun _ q => q) rfl (hC_.2.2.2.1 h9_)) k_)) (fun h9_ D_ k_ => (c_pass k_)) (hN_ ((bif ((!(((irange 0 ((x2_.length : Nat) : Int)).filter fun x5_ : Int => (!(decide ((gt x2_ x5_) = (gt x2_ a1))))).map fun x5_ : Int => x5_).isEmpty) && (!memB (((irange 0 ((x2_.length : Nat) : Int)).filter fun x5_ : Int => (!(decide ((gt x2_ x5_) = (gt x2_ a1))))).map fun x5_ : Int => x5_) w1_)) then (w1_ ++ [(((irange 0 ((x2_.length : Nat) : Int)).filter fun x5_ : Int => (!(decide ((gt x2_ x5_) = (gt x2_ a1))))).map fun x5_ : Int => x5_)]) else w1_)) _ ⟨some (.dat (eL PyData.bool x2_)), some (.dat (eQ PyData.int (((irange 0 ((x2_.length : Nat) : Int)).filter fun x5_ : Int => (!(decide ((gt x2_ x5_) = (gt x2_ a1))))).map fun x5_ : Int => x5_))), rfl⟩ hC_.2.2.2.2 hq_))))))) (fun w1_ s_ hi_ hA_ hqa_ => by
    obtain ⟨q3, q4, e_⟩ := hi_
    subst e_
    exact (c_aft (c_ret (ev_blt (lv_cons (ov_V (ev_blt (lv_cons (ov_own 2 rfl) lv_nil) (rsl_cons rfl (fun _ q => q)) (fv_sortedL (f := (eQ PyData.int)) hA_))) lv_nil) (rsl_cons rfl (fun _ q => q)) (fv_tupleL (f := (eQ PyData.int)))) hqa_)))))
def v__law_due (a0 : (Int × (List ((List Int) × Int)))) (a1 : Int) : (List (List Int)) := (v__law_due_s1 a0 a1 [])
def C__law_due (a0 : (Int × (List ((List Int) × Int)))) (a1 : Int) : Prop := C__law_due_s1 a0 a1 []
def nb__law_due : AST := (sSeq (sSetO 2 (aLst lNil))
    (sSeq (sFor (iSeq (oV (aCall0 [.dat] (calm F__law_sides) (lCons (oV (aVar 0)) lNil)))) (bNm 3)
    (sSeq (sSet 4 (aBlt fTuple (lCons (oV (aLc (iRange1 (lCons (oV (aBlt fLen (lCons (oVar 3) lNil))) lNil)) (bNm 5) (tV (a2 vNe (oV (a2 vIx (oVar 3) (oVar 5))) (oV (a2 vIx (oVar 3) (oVar 1))))) (aVar 5) [5])) lNil)))
    (sIf (tAndA (tV (a2 vNeE (oVar 4) (oV (aTup lNil)))) (tV (a2 vNotIn (oVar 4) (oVar 2))))
    (sDrop (aMut mApp 2 (lCons (oV (aVar 4)) lNil)))
    sNx)))
    (sRet (aBlt fTuple (lCons (oV (aBlt fSorted (lCons (oVar 2) lNil))) lNil)))))
theorem okS__law_due {xp : XP} {D : AEnds} {n : Nat} (a0 : (Int × (List ((List Int) × Int)))) (a1 : Int)  (hC : C__law_due a0 a1) (hq : D.rt (eQ (eQ PyData.int) (v__law_due a0 a1)) n) : nb__law_due xp D ⟨[some (.dat (eP PyData.int (eQ (eP (eQ PyData.int) PyData.int)) a0)), some (.dat (PyData.int a1)), none, none, none, none], n⟩ := by
  unfold C__law_due at hC; unfold v__law_due at hq; unfold nb__law_due
  exact (c_seq (c_setO (ev_lst lv_nil (fun _ q => q) rfl) rfl (c_aft (okS__law_due_s1 a0 a1 []  hC hq))))
theorem okV__law_due (a0 : (Int × (List ((List Int) × Int)))) (a1 : Int) (hC : C__law_due a0 a1) : PFn F__law_due [(eP PyData.int (eQ (eP (eQ PyData.int) PyData.int)) a0), (PyData.int a1)] (eQ (eQ PyData.int) (v__law_due a0 a1)) := fun n Q X q => by
  unfold F__law_due
  exact okS__law_due (xp := fun x s => X x s.n) (D := { nx := fun s => Q .none s.n, rt := Q }) a0 a1 hC q

def v__law_told_s1 (a0 : (Int × (List ((List Int) × Int)))) (a1 : PyData) (a2 : PyData) : PyData := (tryX (v_splits a0 a1) (fun r1_ => (eQ (eQ PyData.int) r1_)) (fun x2_ => (bif ((decide (x2_.k = 1)) && (!(decide (x2_.k ∈ [2, 0])))) then (eL eD [(PyData.str ("taster" : Str)), (fldX x2_)]) else a2)))
def C__law_told_s1 (a0 : (Int × (List ((List Int) × Int)))) (a1 : PyData) (a2 : PyData) : Prop := (C_splits a0 a1 ∧ (∀ x2_, (v_splits a0 a1) = .error x2_ → (x2_.k < 3 ∧ (((decide (x2_.k = 1)) && (!(decide (x2_.k ∈ [2, 0])))) = true → x2_.fld = some (("taster" : Str), fldX x2_)))))
def nb__law_told_s1 (cc : Nat → Addr) : AST := (sSeq (sTry 3 [cc 0, cc 1, cc 2]
    (sSet 2 (aCall0 [.dat, .dat] (F_splits cc) (lCons (oV (aVar 0)) (lCons (oV (aVar 1)) lNil))))
    (sIf (tAndA (tTruA (oV (aIsX (cc 1) 3))) (tNotA (tTruA (oV (aIsXs [cc 2, cc 0] 3)))))
    (sSet 2 (aLst (lCons (oV (aC (.str "taster"))) (lCons (oV (aFldX "taster" 3)) lNil))))
    sNx))
    (sRetV 2))
theorem okS__law_told_s1 (cc : Nat → Addr) (hcc : Inj cc 3) {xp : XP} {D : AEnds} {n : Nat} (a0 : (Int × (List ((List Int) × Int)))) (a1 : PyData) (a2 : PyData)  (hC : C__law_told_s1 a0 a1 a2) (hq : D.rt (v__law_told_s1 a0 a1 a2) n) : nb__law_told_s1 cc xp D ⟨[some (.dat (eP PyData.int (eQ (eP (eQ PyData.int) PyData.int)) a0)), some (.dat a1), some (.dat a2), none], n⟩ := by
  unfold C__law_told_s1 at hC; unfold v__law_told_s1 at hq; unfold nb__law_told_s1
  exact (c_seq (c_try (by_try (f := eD) (D := D) hq (fun r1_ r1__ hqr1_ => (c_set (ev_call0X (lv_cons (ov_V (ev_var 0 rfl)) (lv_cons (ov_V (ev_var 1 rfl)) lv_nil)) (fun _ q => q) ((okV_splits cc a0 a1 hC.1).of_ok r1__)) rfl (c_aft (c_retV 2 rfl hqr1_)))) (fun x2_ hx2_ hqx2_ => rx_set (xv_call (lv_cons (ov_V (ev_var 0 rfl)) (lv_cons (ov_V (ev_var 1 rfl)) lv_nil)) (fun _ q => q) (okV_splits cc a0 a1 hC.1) hx2_) ⟨mem_cc (hC.2 x2_ hx2_).1 rfl, (c_ifJ (fun b5_ : Bool => (⟨[some (.dat (eP PyData.int (eQ (eP (eQ PyData.int) PyData.int)) a0)), some (.dat a1), some (.dat (bif b5_ then (eL eD [(PyData.str ("taster" : Str)), (fldX x2_)]) else a2)), some (.exc (XN.xd cc x2_))], n⟩ : AS)) (tv_and (tv_tru (ov_V (ev_isX (j := 1) hcc rfl (hC.2 x2_ hx2_).1 rfl)) rfl tru_B) (fun h3_ => (tv_not (tv_tru (ov_V (ev_isXs (js := [2, 0]) hcc rfl (hC.2 x2_ hx2_).1 rfl)) rfl tru_B)))) (fun h4_ D_ k_ => (c_set (ev_lst (lv_cons (ov_V ev_c) (lv_cons (ov_V (ev_fldX rfl ((hC.2 x2_ hx2_).2 h4_))) lv_nil)) (fun _ q => q) rfl) rfl k_)) (fun h4_ D_ k_ => (c_pass k_)) (c_nox (i := 3) (s' := ⟨[some (.dat (eP PyData.int (eQ (eP (eQ PyData.int) PyData.int)) a0)), some (.dat a1), some (.dat (bif ((decide (x2_.k = 1)) && (!(decide (x2_.k ∈ [2, 0])))) then (eL eD [(PyData.str ("taster" : Str)), (fldX x2_)]) else a2)), none], n⟩) rfl (c_aft (c_retV 2 rfl hqx2_))))⟩))))
def v__law_told (a0 : (Int × (List ((List Int) × Int)))) (a1 : PyData) : PyData := (v__law_told_s1 a0 a1 .none)
def C__law_told (a0 : (Int × (List ((List Int) × Int)))) (a1 : PyData) : Prop := C__law_told_s1 a0 a1 .none
def nb__law_told (cc : Nat → Addr) : AST := (sSeq (sSet 2 (aC .none))
    (sSeq (sTry 3 [cc 0, cc 1, cc 2]
    (sSet 2 (aCall0 [.dat, .dat] (F_splits cc) (lCons (oV (aVar 0)) (lCons (oV (aVar 1)) lNil))))
    (sIf (tAndA (tTruA (oV (aIsX (cc 1) 3))) (tNotA (tTruA (oV (aIsXs [cc 2, cc 0] 3)))))
    (sSet 2 (aLst (lCons (oV (aC (.str "taster"))) (lCons (oV (aFldX "taster" 3)) lNil))))
    sNx))
    (sRetV 2)))
theorem okS__law_told (cc : Nat → Addr) (hcc : Inj cc 3) {xp : XP} {D : AEnds} {n : Nat} (a0 : (Int × (List ((List Int) × Int)))) (a1 : PyData)  (hC : C__law_told a0 a1) (hq : D.rt (v__law_told a0 a1) n) : nb__law_told cc xp D ⟨[some (.dat (eP PyData.int (eQ (eP (eQ PyData.int) PyData.int)) a0)), some (.dat a1), none, none], n⟩ := by
  unfold C__law_told at hC; unfold v__law_told at hq; unfold nb__law_told
  exact (c_seq (c_set ev_c rfl (c_aft (okS__law_told_s1 cc hcc a0 a1 .none  hC hq))))
theorem okV__law_told (cc : Nat → Addr) (hcc : Inj cc 3) (a0 : (Int × (List ((List Int) × Int)))) (a1 : PyData) (hC : C__law_told a0 a1) : PFn (F__law_told cc) [(eP PyData.int (eQ (eP (eQ PyData.int) PyData.int)) a0), a1] (v__law_told a0 a1) := fun n Q X q => by
  unfold F__law_told
  exact okS__law_told cc hcc (xp := fun x s => X x s.n) (D := { nx := fun s => Q .none s.n, rt := Q }) a0 a1 hC q
end TR
namespace TR
/-! ### swaps of neighbours, the way from one ranking to another -/
def swp (ns : List Int) (k : Nat) : List Int := ns.take k ++ ([ns.getD (k + 1) 0, ns.getD k 0] ++ ns.drop (k + 2))
def wrongN (ns ms : List Int) : List Nat := (List.range (ns.length - 1)).filter fun k => pref ms (ns.getD (k + 1) 0) (ns.getD k 0)
theorem getD_of {ns : List Int} {k : Nat} (h : k < ns.length) : ns.getD k 0 = ns[k] := by
  rw [List.getD_eq_getElem?_getD, List.getElem?_eq_getElem h]
  rfl
theorem swp_split {ns : List Int} {k : Nat} (h : k + 1 < ns.length) : ns = ns.take k ++ (ns.getD k 0 :: ns.getD (k + 1) 0 :: ns.drop (k + 2)) := by
  rw [getD_of h, getD_of (by omega)]
  have a1 : ns.drop k = ns[k] :: ns.drop (k + 1) := List.drop_eq_getElem_cons (by omega)
  have a2 : ns.drop (k + 1) = ns[k + 1] :: ns.drop (k + 2) := List.drop_eq_getElem_cons h
  rw [← a2, ← a1, List.take_append_drop]
theorem swp_rank {n : Nat} {ns : List Int} {k : Nat} (r : Rank n ns) (h : k + 1 < n) : Rank n (swp ns k) := by
  have hl := r.len
  refine List.Perm.trans ?_ r
  refine List.Perm.trans ?_ (List.Perm.of_eq (swp_split (ns := ns) (k := k) (by omega)).symm)
  exact List.Perm.append_left _ (List.Perm.swap _ _ _)
/-! ### inversions -/
/-! ### no wrong place: the end -/
/-! ### the way -/
def stp (ms r : List Int) : List Int := match wrongN r ms with
  | [] => r
  | k :: _ => swp r k
def itr (ms ns : List Int) : Nat → List Int
  | 0 => ns
  | j + 1 => stp ms (itr ms ns j)
def Pth (ns ms : List Int) (rows : List (List Int)) : Prop := ∃ j, rows = (List.range (j + 1)).map (itr ms ns) ∧ itr ms ns j = ms ∧ ∀ i, i < j → itr ms ns i ≠ ms
theorem Pth.uniq {ns ms : List Int} {r s : List (List Int)} (a : Pth ns ms r) (b : Pth ns ms s) : r = s := by
  obtain ⟨i, e1, e2, e3⟩ := a
  obtain ⟨j, f1, f2, f3⟩ := b
  have : i = j := by
    rcases Nat.lt_trichotomy i j with h | h | h
    · exact absurd e2 (f3 i h)
    · exact h
    · exact absurd f2 (e3 j h)
  subst this
  rw [e1, f1]
end TR
namespace TR
open PySem PySem.Spec PyProof.Rows L2
abbrev rkD (r : List Int) : PyData := .tuple (r.map .int)
abbrev Tas := List (List Int × Int)
abbrev tasD (t : List Int × Int) : PyData := .tuple [rkD t.1, .int t.2]
abbrev tabD (n : Nat) (ts : Tas) : PyData := .tuple [.int n, .tuple (ts.map tasD)]
structure WfT (D M n : Nat) (ts : Tas) : Prop where
  n1 : 1 ≤ n
  nD : n ≤ D
  l1 : 1 ≤ ts.length
  lM : ts.length ≤ M
  all : ∀ t ∈ ts, Rank n t.1 ∧ 1 ≤ t.2 ∧ t.2 ≤ 1000000000000
theorem erase_map {α β : Type} (f : α → β) : ∀ (l : List α) (j : Nat), (l.map f).eraseIdx j = (l.eraseIdx j).map f
  | [], _ => rfl
  | _ :: _, 0 => rfl
  | x :: r, j + 1 => by
    show f x :: (r.map f).eraseIdx j = f x :: (r.eraseIdx j).map f
    rw [erase_map f r j]
theorem erase_perm {α : Type} : ∀ {l : List α} {j : Nat} (h : j < l.length), (l[j] :: l.eraseIdx j).Perm l
  | _ :: _, 0, _ => List.Perm.refl _
  | x :: l, j + 1, h => by
    show (l[j]'(by simpa using h) :: x :: l.eraseIdx j).Perm (x :: l)
    exact (List.Perm.swap x _ _).trans ((erase_perm (by simpa using h)).cons x)
theorem pop_at {ls : List Int} {j : Nat} (h : j < ls.length) {K : PyData → List PyData → Prop} : mPopAt (ls.map .int) [.int (j : Int)] K = K (.int ls[j]) ((ls.eraseIdx j).map .int) := by
  unfold mPopAt
  have e : ixN (ls.map PyData.int).length (j : Int) = some j := by
    unfold ixN
    rw [if_pos (by omega), if_pos (by rw [List.length_map]; omega), Int.toNat_natCast]
  have e2 : (ls.map PyData.int)[j]? = some (.int ls[j]) := by rw [List.getElem?_map, List.getElem?_eq_getElem h]; rfl
  simp only [e, e2, erase_map]
section
variable {n : Nat} {Q : PyData → Nat → Prop} {X : XD → Nat → Prop} {d0 : PyData}
theorem next_ok {m : Int} (hn : n ≤ 1000000) (h0 : 0 < m) (h1 : m ≤ 400000000000000) (q : ∀ r, 0 ≤ r → r < m → Q (.int r) (n + 1)) : F__law_next [d0, .int m] n Q X := ⟨hn, h0, h1, q⟩
theorem one_ok {ds : List PyData} (hn : n ≤ 1000000) (h : ds ≠ []) (hl : ds.length ≤ 1000) (q : ∀ d ∈ ds, Q d (n + 1)) : F__law_one [d0, .list ds] n Q X := by
  simp only [F__law_one, b__law_one, fnF, startA, mkAs, mkA, sNx, sSeq, sDrop, sRet, sRetN, sRetV, sIf, sSet, sSetO, sAsg, sPar_v, sParOO, sParOV, sAug, sFor, sBreak, sCont, aC, aVar, oVar, aFrz, oV, a2, a3, tV, tTruA, truD, tAndA, tOrA, tNotA, aB, aAnd, aOr, aNot, aIfE, lNil, lCons, rv, rs, res, aTup, aLst, bNm, bNil, bCons, bTup, AS.set, iSeq, iRange1, iRange2, aLc, aLc2, aCall, aCall0, calm, rm, aBlt, rsl, aIsi, aIsi2, aDict0, aIdx, aMut, aNeg, rg1, rg2, aTupRg, aListRg, aSl, ptNone, ptSome, aRev, AIt.its, AIt.chk, items, tYesA, vIx_t, vIx_l, vAdd_i, vAdd_t, vAdd_l, vSub_i, vMul_i, vMod_i, vDiv_i, vLt_i, vLe_i, vGt_i, vGe_i, vCatL_l, vAddI_i, vSubI_i, fLen_l, fLen_t, fTuple_l, fList_t, mApp_1, mExt_1, List.set_cons_zero, List.set_cons_succ, List.getElem?_cons_zero, List.getElem?_cons_succ, List.replicate, List.cons_append, List.nil_append, List.length_cons, List.length_nil, at_0, at_1, at_2, if_true, if_false, true_and, and_true]
  have hp : 0 < ds.length := List.length_pos_iff.mpr h
  refine next_ok hn (by omega) (by omega) fun r h0 h1 => ?_
  simp only [fnF, startA, mkAs, mkA, sNx, sSeq, sDrop, sRet, sRetN, sRetV, sIf, sSet, sSetO, sAsg, sPar_v, sParOO, sParOV, sAug, sFor, sBreak, sCont, aC, aVar, oVar, aFrz, oV, a2, a3, tV, tTruA, truD, tAndA, tOrA, tNotA, aB, aAnd, aOr, aNot, aIfE, lNil, lCons, rv, rs, res, aTup, aLst, bNm, bNil, bCons, bTup, AS.set, iSeq, iRange1, iRange2, aLc, aLc2, aCall, aCall0, calm, rm, aBlt, rsl, aIsi, aIsi2, aDict0, aIdx, aMut, aNeg, rg1, rg2, aTupRg, aListRg, aSl, ptNone, ptSome, aRev, AIt.its, AIt.chk, items, tYesA, vIx_t, vIx_l, vAdd_i, vAdd_t, vAdd_l, vSub_i, vMul_i, vMod_i, vDiv_i, vLt_i, vLe_i, vGt_i, vGe_i, vCatL_l, vAddI_i, vSubI_i, fLen_l, fLen_t, fTuple_l, fList_t, mApp_1, mExt_1, List.set_cons_zero, List.set_cons_succ, List.getElem?_cons_zero, List.getElem?_cons_succ, List.replicate, List.cons_append, List.nil_append, List.length_cons, List.length_nil, at_0, at_1, at_2, if_true, if_false, true_and, and_true]
  obtain ⟨d, e, m⟩ := at_some h0 h1
  rw [e]
  exact q d m
theorem people_ok (hn : n + 3 ≤ 1000000) (q : ∀ w : Int, 1 ≤ w → w ≤ 1000000000000 → Q (.int w) (n + 3)) : F__law_people [d0] n Q X := by
  simp only [F__law_people, b__law_people, fnF, startA, mkAs, mkA, sNx, sSeq, sDrop, sRet, sRetN, sRetV, sIf, sSet, sSetO, sAsg, sPar_v, sParOO, sParOV, sAug, sFor, sBreak, sCont, aC, aVar, oVar, aFrz, oV, a2, a3, tV, tTruA, truD, tAndA, tOrA, tNotA, aB, aAnd, aOr, aNot, aIfE, lNil, lCons, rv, rs, res, aTup, aLst, bNm, bNil, bCons, bTup, AS.set, iSeq, iRange1, iRange2, aLc, aLc2, aCall, aCall0, calm, rm, aBlt, rsl, aIsi, aIsi2, aDict0, aIdx, aMut, aNeg, rg1, rg2, aTupRg, aListRg, aSl, ptNone, ptSome, aRev, AIt.its, AIt.chk, items, tYesA, vIx_t, vIx_l, vAdd_i, vAdd_t, vAdd_l, vSub_i, vMul_i, vMod_i, vDiv_i, vLt_i, vLe_i, vGt_i, vGe_i, vCatL_l, vAddI_i, vSubI_i, fLen_l, fLen_t, fTuple_l, fList_t, mApp_1, mExt_1, List.set_cons_zero, List.set_cons_succ, List.getElem?_cons_zero, List.getElem?_cons_succ, List.replicate, List.cons_append, List.nil_append, List.length_cons, List.length_nil, at_0, at_1, at_2, if_true, if_false, true_and, and_true]
  refine next_ok (by omega) (by omega) (by omega) fun a a0 a1 => ?_
  simp only [fnF, startA, mkAs, mkA, sNx, sSeq, sDrop, sRet, sRetN, sRetV, sIf, sSet, sSetO, sAsg, sPar_v, sParOO, sParOV, sAug, sFor, sBreak, sCont, aC, aVar, oVar, aFrz, oV, a2, a3, tV, tTruA, truD, tAndA, tOrA, tNotA, aB, aAnd, aOr, aNot, aIfE, lNil, lCons, rv, rs, res, aTup, aLst, bNm, bNil, bCons, bTup, AS.set, iSeq, iRange1, iRange2, aLc, aLc2, aCall, aCall0, calm, rm, aBlt, rsl, aIsi, aIsi2, aDict0, aIdx, aMut, aNeg, rg1, rg2, aTupRg, aListRg, aSl, ptNone, ptSome, aRev, AIt.its, AIt.chk, items, tYesA, vIx_t, vIx_l, vAdd_i, vAdd_t, vAdd_l, vSub_i, vMul_i, vMod_i, vDiv_i, vLt_i, vLe_i, vGt_i, vGe_i, vCatL_l, vAddI_i, vSubI_i, fLen_l, fLen_t, fTuple_l, fList_t, mApp_1, mExt_1, List.set_cons_zero, List.set_cons_succ, List.getElem?_cons_zero, List.getElem?_cons_succ, List.replicate, List.cons_append, List.nil_append, List.length_cons, List.length_nil, at_0, at_1, at_2, if_true, if_false, true_and, and_true, pow_12]
  refine next_ok (by omega) (by omega) (by omega) fun b b0 b1 => ?_
  simp only [fnF, startA, mkAs, mkA, sNx, sSeq, sDrop, sRet, sRetN, sRetV, sIf, sSet, sSetO, sAsg, sPar_v, sParOO, sParOV, sAug, sFor, sBreak, sCont, aC, aVar, oVar, aFrz, oV, a2, a3, tV, tTruA, truD, tAndA, tOrA, tNotA, aB, aAnd, aOr, aNot, aIfE, lNil, lCons, rv, rs, res, aTup, aLst, bNm, bNil, bCons, bTup, AS.set, iSeq, iRange1, iRange2, aLc, aLc2, aCall, aCall0, calm, rm, aBlt, rsl, aIsi, aIsi2, aDict0, aIdx, aMut, aNeg, rg1, rg2, aTupRg, aListRg, aSl, ptNone, ptSome, aRev, AIt.its, AIt.chk, items, tYesA, vIx_t, vIx_l, vAdd_i, vAdd_t, vAdd_l, vSub_i, vMul_i, vMod_i, vDiv_i, vLt_i, vLe_i, vGt_i, vGe_i, vCatL_l, vAddI_i, vSubI_i, fLen_l, fLen_t, fTuple_l, fList_t, mApp_1, mExt_1, List.set_cons_zero, List.set_cons_succ, List.getElem?_cons_zero, List.getElem?_cons_succ, List.replicate, List.cons_append, List.nil_append, List.length_cons, List.length_nil, at_0, at_1, at_2, if_true, if_false, true_and, and_true, pow_12]
  refine ⟨lim (by omega), next_ok (by omega) (by omega) (by omega) fun c c0 c1 => ?_⟩
  simp only [fnF, startA, mkAs, mkA, sNx, sSeq, sDrop, sRet, sRetN, sRetV, sIf, sSet, sSetO, sAsg, sPar_v, sParOO, sParOV, sAug, sFor, sBreak, sCont, aC, aVar, oVar, aFrz, oV, a2, a3, tV, tTruA, truD, tAndA, tOrA, tNotA, aB, aAnd, aOr, aNot, aIfE, lNil, lCons, rv, rs, res, aTup, aLst, bNm, bNil, bCons, bTup, AS.set, iSeq, iRange1, iRange2, aLc, aLc2, aCall, aCall0, calm, rm, aBlt, rsl, aIsi, aIsi2, aDict0, aIdx, aMut, aNeg, rg1, rg2, aTupRg, aListRg, aSl, ptNone, ptSome, aRev, AIt.its, AIt.chk, items, tYesA, vIx_t, vIx_l, vAdd_i, vAdd_t, vAdd_l, vSub_i, vMul_i, vMod_i, vDiv_i, vLt_i, vLe_i, vGt_i, vGe_i, vCatL_l, vAddI_i, vSubI_i, fLen_l, fLen_t, fTuple_l, fList_t, mApp_1, mExt_1, List.set_cons_zero, List.set_cons_succ, List.getElem?_cons_zero, List.getElem?_cons_succ, List.replicate, List.cons_append, List.nil_append, List.length_cons, List.length_nil, at_0, at_1, at_2, if_true, if_false, true_and, and_true]
  have : c = 0 ∨ c = 1 ∨ c = 2 ∨ c = 3 ∨ c = 4 := by omega
  rcases this with rfl | rfl | rfl | rfl | rfl
  · exact q _ (by omega) (by omega)
  · exact q _ (by omega) (by omega)
  · exact q _ (by omega) (by omega)
  · exact q _ (by omega) (by omega)
  · exact q _ (by omega) (by omega)
theorem exch_ok {r : List Int} {m k : Nat} (hr : Rank m r) (hk : k + 1 < m) (hm : m ≤ 8) (q : Q (rkD (swp r k)) n) : F__law_exchanged [rkD r, .int k] n Q X := by
  simp only [F__law_exchanged, b__law_exchanged, fnF, startA, mkAs, mkA, sNx, sSeq, sDrop, sRet, sRetN, sRetV, sIf, sSet, sSetO, sAsg, sPar_v, sParOO, sParOV, sAug, sFor, sBreak, sCont, aC, aVar, oVar, aFrz, oV, a2, a3, tV, tTruA, truD, tAndA, tOrA, tNotA, aB, aAnd, aOr, aNot, aIfE, lNil, lCons, rv, rs, res, aTup, aLst, bNm, bNil, bCons, bTup, AS.set, iSeq, iRange1, iRange2, aLc, aLc2, aCall, aCall0, calm, rm, aBlt, rsl, aIsi, aIsi2, aDict0, aIdx, aMut, aNeg, rg1, rg2, aTupRg, aListRg, aSl, ptNone, ptSome, aRev, AIt.its, AIt.chk, items, tYesA, vIx_t, vIx_l, vAdd_i, vAdd_t, vAdd_l, vSub_i, vMul_i, vMod_i, vDiv_i, vLt_i, vLe_i, vGt_i, vGe_i, vCatL_l, vAddI_i, vSubI_i, fLen_l, fLen_t, fTuple_l, fList_t, mApp_1, mExt_1, List.set_cons_zero, List.set_cons_succ, List.getElem?_cons_zero, List.getElem?_cons_succ, List.replicate, List.cons_append, List.nil_append, List.length_cons, List.length_nil, at_0, at_1, at_2, if_true, if_false, true_and, and_true]
  have hl := hr.len
  have h1 : atI (r.map PyData.int) ((k : Int) + 1) = some (.int (r.getD (k + 1) 0)) := by
    have := at_get (l := r.map PyData.int) (k := k + 1) (by rw [List.length_map]; omega)
    rw [show ((k : Int) + 1) = ((k + 1 : Nat) : Int) by omega, this]
    simp [List.getD, hl, hk]
  have h2 : atI (r.map PyData.int) (k : Int) = some (.int (r.getD k 0)) := by
    have := at_get (l := r.map PyData.int) (k := k) (by rw [List.length_map]; omega)
    rw [this]
    simp [List.getD, show k < r.length by omega]
  simp only [vSl, h1, h2, fnF, startA, mkAs, mkA, sNx, sSeq, sDrop, sRet, sRetN, sRetV, sIf, sSet, sSetO, sAsg, sPar_v, sParOO, sParOV, sAug, sFor, sBreak, sCont, aC, aVar, oVar, aFrz, oV, a2, a3, tV, tTruA, truD, tAndA, tOrA, tNotA, aB, aAnd, aOr, aNot, aIfE, lNil, lCons, rv, rs, res, aTup, aLst, bNm, bNil, bCons, bTup, AS.set, iSeq, iRange1, iRange2, aLc, aLc2, aCall, aCall0, calm, rm, aBlt, rsl, aIsi, aIsi2, aDict0, aIdx, aMut, aNeg, rg1, rg2, aTupRg, aListRg, aSl, ptNone, ptSome, aRev, AIt.its, AIt.chk, items, tYesA, vIx_t, vIx_l, vAdd_i, vAdd_t, vAdd_l, vSub_i, vMul_i, vMod_i, vDiv_i, vLt_i, vLe_i, vGt_i, vGe_i, vCatL_l, vAddI_i, vSubI_i, fLen_l, fLen_t, fTuple_l, fList_t, mApp_1, mExt_1, List.set_cons_zero, List.set_cons_succ, List.getElem?_cons_zero, List.getElem?_cons_succ, List.replicate, List.cons_append, List.nil_append, List.length_cons, List.length_nil, at_0, at_1, at_2, if_true, if_false, true_and, and_true]
  rw [show ((k : Int) + 2) = ((k + 2 : Nat) : Int) by omega, cut_to (by rw [List.length_map]; omega), cut_from]
  refine ⟨lim (by omega), lim ?_, lim ?_, ?_⟩
  · simp; omega
  · simp; omega
  · have : List.take k (List.map PyData.int r) ++ [PyData.int (r.getD (k + 1) 0), PyData.int (r.getD k 0)] ++ List.drop (k + 2) (List.map PyData.int r) = (swp r k).map .int := by
      unfold swp
      simp [List.map_take, List.map_drop]
    rw [this]
    exact q
theorem list_ok16 {m : Nat} (hm : m ≤ 16) (hn : n + m ≤ 1000000) (q : ∀ r, Rank m r → Q (rkD r) (n + m)) : F__law_list [d0, .int m] n Q X := by
  simp only [F__law_list, b__law_list, fnF, startA, mkAs, mkA, sNx, sSeq, sDrop, sRet, sRetN, sRetV, sIf, sSet, sSetO, sAsg, sPar_v, sParOO, sParOV, sAug, sFor, sBreak, sCont, aC, aVar, oVar, aFrz, oV, a2, a3, tV, tTruA, truD, tAndA, tOrA, tNotA, aB, aAnd, aOr, aNot, aIfE, lNil, lCons, rv, rs, res, aTup, aLst, bNm, bNil, bCons, bTup, AS.set, iSeq, iRange1, iRange2, aLc, aLc2, aCall, aCall0, calm, rm, aBlt, rsl, aIsi, aIsi2, aDict0, aIdx, aMut, aNeg, rg1, rg2, aTupRg, aListRg, aSl, ptNone, ptSome, aRev, AIt.its, AIt.chk, items, tYesA, vIx_t, vIx_l, vAdd_i, vAdd_t, vAdd_l, vSub_i, vMul_i, vMod_i, vDiv_i, vLt_i, vLe_i, vGt_i, vGe_i, vCatL_l, vAddI_i, vSubI_i, fLen_l, fLen_t, fTuple_l, fList_t, mApp_1, mExt_1, List.set_cons_zero, List.set_cons_succ, List.getElem?_cons_zero, List.getElem?_cons_succ, List.replicate, List.cons_append, List.nil_append, List.length_cons, List.length_nil, at_0, at_1, at_2, if_true, if_false, true_and, and_true, rng_d']
  refine ⟨.of_le (by omega) (by omega) (by omega) (by omega), lim (by omega), ints_some _, ?_⟩
  refine while_inv (fun k s => ∃ ls fs : List Int, k = ls.length ∧ (ls ++ fs).Perm (rng m) ∧ s = ⟨[some .deck, some (.dat (.int m)), some (.own (ls.map .int)), some (.own (fs.map .int))], n + fs.length⟩) (fun k s ⟨ls, fs, hk, hp, e⟩ N hN => ?_) (k := m) ⟨rng m, [], (rng_len m).symm, by rw [List.append_nil], rfl⟩
  subst e
  have hl : ls.length + fs.length = m := by
    have := hp.length_eq
    rw [List.length_append, rng_len] at this
    exact this
  simp only [fnF, startA, mkAs, mkA, sNx, sSeq, sDrop, sRet, sRetN, sRetV, sIf, sSet, sSetO, sAsg, sPar_v, sParOO, sParOV, sAug, sFor, sBreak, sCont, aC, aVar, oVar, aFrz, oV, a2, a3, tV, tTruA, truD, tAndA, tOrA, tNotA, aB, aAnd, aOr, aNot, aIfE, lNil, lCons, rv, rs, res, aTup, aLst, bNm, bNil, bCons, bTup, AS.set, iSeq, iRange1, iRange2, aLc, aLc2, aCall, aCall0, calm, rm, aBlt, rsl, aIsi, aIsi2, aDict0, aIdx, aMut, aNeg, rg1, rg2, aTupRg, aListRg, aSl, ptNone, ptSome, aRev, AIt.its, AIt.chk, items, tYesA, vIx_t, vIx_l, vAdd_i, vAdd_t, vAdd_l, vSub_i, vMul_i, vMod_i, vDiv_i, vLt_i, vLe_i, vGt_i, vGe_i, vCatL_l, vAddI_i, vSubI_i, fLen_l, fLen_t, fTuple_l, fList_t, mApp_1, mExt_1, List.set_cons_zero, List.set_cons_succ, List.getElem?_cons_zero, List.getElem?_cons_succ, List.replicate, List.cons_append, List.nil_append, List.length_cons, List.length_nil, at_0, at_1, at_2, if_true, if_false, true_and, and_true, vNeE]
  refine ⟨lim (by omega), ?_⟩
  cases ls with
  | nil =>
    simp only [List.map_nil, List.isEmpty_nil, Bool.not_true, if_false, Bool.false_eq_true, fnF, startA, mkAs, mkA, sNx, sSeq, sDrop, sRet, sRetN, sRetV, sIf, sSet, sSetO, sAsg, sPar_v, sParOO, sParOV, sAug, sFor, sBreak, sCont, aC, aVar, oVar, aFrz, oV, a2, a3, tV, tTruA, truD, tAndA, tOrA, tNotA, aB, aAnd, aOr, aNot, aIfE, lNil, lCons, rv, rs, res, aTup, aLst, bNm, bNil, bCons, bTup, AS.set, iSeq, iRange1, iRange2, aLc, aLc2, aCall, aCall0, calm, rm, aBlt, rsl, aIsi, aIsi2, aDict0, aIdx, aMut, aNeg, rg1, rg2, aTupRg, aListRg, aSl, ptNone, ptSome, aRev, AIt.its, AIt.chk, items, tYesA, vIx_t, vIx_l, vAdd_i, vAdd_t, vAdd_l, vSub_i, vMul_i, vMod_i, vDiv_i, vLt_i, vLe_i, vGt_i, vGe_i, vCatL_l, vAddI_i, vSubI_i, fLen_l, fLen_t, fTuple_l, fList_t, mApp_1, mExt_1, List.set_cons_zero, List.set_cons_succ, List.getElem?_cons_zero, List.getElem?_cons_succ, List.replicate, List.cons_append, List.nil_append, List.length_cons, List.length_nil, at_0, at_1, at_2, if_true, if_false, true_and, and_true]
    have : n + fs.length = n + m := by simp at hl; omega
    rw [this]
    exact q fs hp
  | cons x ls =>
    simp only [List.map_cons, List.isEmpty_cons, Bool.not_false, if_true, fnF, startA, mkAs, mkA, sNx, sSeq, sDrop, sRet, sRetN, sRetV, sIf, sSet, sSetO, sAsg, sPar_v, sParOO, sParOV, sAug, sFor, sBreak, sCont, aC, aVar, oVar, aFrz, oV, a2, a3, tV, tTruA, truD, tAndA, tOrA, tNotA, aB, aAnd, aOr, aNot, aIfE, lNil, lCons, rv, rs, res, aTup, aLst, bNm, bNil, bCons, bTup, AS.set, iSeq, iRange1, iRange2, aLc, aLc2, aCall, aCall0, calm, rm, aBlt, rsl, aIsi, aIsi2, aDict0, aIdx, aMut, aNeg, rg1, rg2, aTupRg, aListRg, aSl, ptNone, ptSome, aRev, AIt.its, AIt.chk, items, tYesA, vIx_t, vIx_l, vAdd_i, vAdd_t, vAdd_l, vSub_i, vMul_i, vMod_i, vDiv_i, vLt_i, vLe_i, vGt_i, vGe_i, vCatL_l, vAddI_i, vSubI_i, fLen_l, fLen_t, fTuple_l, fList_t, mApp_1, mExt_1, List.set_cons_zero, List.set_cons_succ, List.getElem?_cons_zero, List.getElem?_cons_succ, List.replicate, List.cons_append, List.nil_append, List.length_cons, List.length_nil, at_0, at_1, at_2, if_true, if_false, true_and, and_true]
    refine next_ok (by omega) (by omega) (by rw [List.length_map]; simp at hl; omega) fun r h0 h1 => ?_
    obtain ⟨j, rfl⟩ := Int.eq_ofNat_of_zero_le h0
    have hj : j < (x :: ls).length := by rw [List.length_map] at h1; rw [List.length_cons]; omega
    have ep := pop_at (ls := x :: ls) hj (K := fun d ds' => (List.map PyData.int fs).length < sizeLine ∧ N ⟨[some .deck, some (.dat (.int m)), some (.own ds'), some (.own (List.map PyData.int fs ++ [d]))], n + fs.length + 1⟩)
    rw [List.map_cons] at ep
    rw [ep]
    refine ⟨small1000 (by rw [List.length_map]; omega), hN _ _ ?_ ⟨(x :: ls).eraseIdx j, fs ++ [(x :: ls)[j]], rfl, ?_, ?_⟩⟩
    · rw [hk, List.length_eraseIdx_of_lt hj]
      simp
    · refine List.Perm.trans ?_ hp
      rw [← List.append_assoc]
      refine (List.perm_append_singleton _ _).trans ?_
      rw [← List.cons_append]
      exact (erase_perm hj).append_right fs
    · simp [Nat.add_assoc]
/-- rows on a road -/
theorem list_ok {m : Nat} (hm : m ≤ 8) (hn : n + m ≤ 1000000) (q : ∀ r, Rank m r → Q (rkD r) (n + m)) : F__law_list [d0, .int m] n Q X := list_ok16 (by omega) hn q
theorem road_ok {m st : Nat} (m1 : 1 ≤ m) (hm : m ≤ 8) (hs : st ≤ 28) (hn : n ≤ 900000) (q : ∀ (rows : List (List Int)) (k : Nat), rows ≠ [] → rows.length ≤ st + 1 → (∀ r ∈ rows, Rank m r) → k ≤ n + 40 → Q (.list (rows.map rkD)) k) : F__law_road [d0, .int m, .int st] n Q X := by
  simp only [F__law_road, b__law_road, fnF, startA, mkAs, mkA, sNx, sSeq, sDrop, sRet, sRetN, sRetV, sIf, sSet, sSetO, sAsg, sPar_v, sParOO, sParOV, sAug, sFor, sBreak, sCont, aC, aVar, oVar, aFrz, oV, a2, a3, tV, tTruA, truD, tAndA, tOrA, tNotA, aB, aAnd, aOr, aNot, aIfE, lNil, lCons, rv, rs, res, aTup, aLst, bNm, bNil, bCons, bTup, AS.set, iSeq, iRange1, iRange2, aLc, aLc2, aCall, aCall0, calm, rm, aBlt, rsl, aIsi, aIsi2, aDict0, aIdx, aMut, aNeg, rg1, rg2, aTupRg, aListRg, aSl, ptNone, ptSome, aRev, AIt.its, AIt.chk, items, tYesA, vIx_t, vIx_l, vAdd_i, vAdd_t, vAdd_l, vSub_i, vMul_i, vMod_i, vDiv_i, vLt_i, vLe_i, vGt_i, vGe_i, vCatL_l, vAddI_i, vSubI_i, fLen_l, fLen_t, fTuple_l, fList_t, mApp_1, mExt_1, List.set_cons_zero, List.set_cons_succ, List.getElem?_cons_zero, List.getElem?_cons_succ, List.replicate, List.cons_append, List.nil_append, List.length_cons, List.length_nil, at_0, at_1, at_2, if_true, if_false, true_and, and_true]
  refine list_ok hm (by omega) fun r hr => ?_
  refine ⟨lim (by omega), lim (by omega), by omega, by omega, ?_⟩
  rw [Int.toNat_natCast, rng_d]
  refine for_inv (α := Int) .int (fun l s => ∃ (rows ps : List (List Int)) (lr : List Int) (a5 a6 a7 a8 a9 : Option AV) (k : Nat), (∀ r ∈ rows, Rank m r) ∧ Rank m lr ∧ (a7 = none ∨ ∃ d, a7 = some (.dat d)) ∧ rows.length + l.length ≤ st ∧ ps.length ≤ rows.length ∧ k + l.length ≤ n + m + st ∧
    s = ⟨[some .deck, some (.dat (.int m)), some (.dat (.int st)), some (.own ((rows ++ [lr]).map rkD)), some (.own (ps.map rkD)), a5, a6, a7, a8, a9], k⟩) (fun x l s ⟨rows, ps, lr, a5, a6, a7, a8, a9, k, hrs, hlr, h7, hlen, hps, hk, e⟩ N hN => ?_) (fun s ⟨rows, ps, lr, a5, a6, a7, a8, a9, k, hrs, hlr, h7, hlen, hps, hk, e⟩ => ?_) (rng st) _ ⟨[], [], r, none, none, none, none, none, n + m, fun _ h => (nomatch h), hr, .inl rfl, by rw [rng_len]; simp, Nat.le_refl _, by rw [rng_len]; omega, rfl⟩
  · subst e
    simp only [fnF, startA, mkAs, mkA, sNx, sSeq, sDrop, sRet, sRetN, sRetV, sIf, sSet, sSetO, sAsg, sPar_v, sParOO, sParOV, sAug, sFor, sBreak, sCont, aC, aVar, oVar, aFrz, oV, a2, a3, tV, tTruA, truD, tAndA, tOrA, tNotA, aB, aAnd, aOr, aNot, aIfE, lNil, lCons, rv, rs, res, aTup, aLst, bNm, bNil, bCons, bTup, AS.set, iSeq, iRange1, iRange2, aLc, aLc2, aCall, aCall0, calm, rm, aBlt, rsl, aIsi, aIsi2, aDict0, aIdx, aMut, aNeg, rg1, rg2, aTupRg, aListRg, aSl, ptNone, ptSome, aRev, AIt.its, AIt.chk, items, tYesA, vIx_t, vIx_l, vAdd_i, vAdd_t, vAdd_l, vSub_i, vMul_i, vMod_i, vDiv_i, vLt_i, vLe_i, vGt_i, vGe_i, vCatL_l, vAddI_i, vSubI_i, fLen_l, fLen_t, fTuple_l, fList_t, mApp_1, mExt_1, List.set_cons_zero, List.set_cons_succ, List.getElem?_cons_zero, List.getElem?_cons_succ, List.replicate, List.cons_append, List.nil_append, List.length_cons, List.length_nil, at_0, at_1, at_2, if_true, if_false, true_and, and_true]
    exact q _ _ (by simp) (by rw [List.length_append]; simp at hlen ⊢; omega) (fun r hr => (List.mem_append.mp hr).elim (hrs r) fun h => by rw [List.mem_singleton.mp h]; exact hlr) (by simp at hk; omega)
  · subst e
    rw [List.length_cons] at hlen hk
    have hll := hlr.len
    simp only [fnF, startA, mkAs, mkA, sNx, sSeq, sDrop, sRet, sRetN, sRetV, sIf, sSet, sSetO, sAsg, sPar_v, sParOO, sParOV, sAug, sFor, sBreak, sCont, aC, aVar, oVar, aFrz, oV, a2, a3, tV, tTruA, truD, tAndA, tOrA, tNotA, aB, aAnd, aOr, aNot, aIfE, lNil, lCons, rv, rs, res, aTup, aLst, bNm, bNil, bCons, bTup, AS.set, iSeq, iRange1, iRange2, aLc, aLc2, aCall, aCall0, calm, rm, aBlt, rsl, aIsi, aIsi2, aDict0, aIdx, aMut, aNeg, rg1, rg2, aTupRg, aListRg, aSl, ptNone, ptSome, aRev, AIt.its, AIt.chk, items, tYesA, vIx_t, vIx_l, vAdd_i, vAdd_t, vAdd_l, vSub_i, vMul_i, vMod_i, vDiv_i, vLt_i, vLe_i, vGt_i, vGe_i, vCatL_l, vAddI_i, vSubI_i, fLen_l, fLen_t, fTuple_l, fList_t, mApp_1, mExt_1, List.set_cons_zero, List.set_cons_succ, List.getElem?_cons_zero, List.getElem?_cons_succ, List.replicate, List.cons_append, List.nil_append, List.length_cons, List.length_nil, at_0, at_1, at_2, if_true, if_false, true_and, and_true, List.map_append, List.map_cons, List.map_nil, at_last]
    have hm1 : ((m : Int) - 1).toNat = m - 1 := by omega
    simp only [hm1, rng_d]
    refine ⟨by omega, by omega, lc_map .int (fun i => rkD (isort ((lr.drop i.toNat).take 2))) (rng (m - 1)) (lim (by rw [rng_len]; omega)) (fun i hi K hK => ?_) ?_⟩
    · obtain ⟨i0, i1⟩ := mem_rng.mp hi
      obtain ⟨j, rfl⟩ := Int.eq_ofNat_of_zero_le i0
      simp only [fnF, startA, mkAs, mkA, sNx, sSeq, sDrop, sRet, sRetN, sRetV, sIf, sSet, sSetO, sAsg, sPar_v, sParOO, sParOV, sAug, sFor, sBreak, sCont, aC, aVar, oVar, aFrz, oV, a2, a3, tV, tTruA, truD, tAndA, tOrA, tNotA, aB, aAnd, aOr, aNot, aIfE, lNil, lCons, rv, rs, res, aTup, aLst, bNm, bNil, bCons, bTup, AS.set, iSeq, iRange1, iRange2, aLc, aLc2, aCall, aCall0, calm, rm, aBlt, rsl, aIsi, aIsi2, aDict0, aIdx, aMut, aNeg, rg1, rg2, aTupRg, aListRg, aSl, ptNone, ptSome, aRev, AIt.its, AIt.chk, items, tYesA, vIx_t, vIx_l, vAdd_i, vAdd_t, vAdd_l, vSub_i, vMul_i, vMod_i, vDiv_i, vLt_i, vLe_i, vGt_i, vGe_i, vCatL_l, vAddI_i, vSubI_i, fLen_l, fLen_t, fTuple_l, fList_t, mApp_1, mExt_1, List.set_cons_zero, List.set_cons_succ, List.getElem?_cons_zero, List.getElem?_cons_succ, List.replicate, List.cons_append, List.nil_append, List.length_cons, List.length_nil, at_0, at_1, at_2, if_true, if_false, true_and, and_true, AS.wipe, wl, vSl]
      rw [show ((j : Int) + 2) = ((j + 2 : Nat) : Int) by omega, cut_mid (by omega) (by rw [List.length_map]; omega), ← List.map_drop, ← List.map_take, show j + 2 - j = 2 by omega]
      refine sortedT_ok ?_
      exact hK _ (by rcases h7 with rfl | ⟨d, rfl⟩ <;> rfl)
    · have gsd : ∀ r : List Int, SeqAt.shaped (rkD r) = true := fun r => (sd_rk (k := 0) r).shaped
      have gsl : ∀ rs : List (List Int), SeqAt.shaped (.list (rs.map rkD)) = true := fun rs => (sd_list (k := 1) fun d hd => by
        obtain ⟨r, _, rfl⟩ := List.mem_map.mp hd
        exact sd_rk r).shaped
      have gat : ∀ i ∈ rng (m - 1), atI ((rng (m - 1)).map fun i => rkD (isort ((lr.drop i.toNat).take 2))) i = some (rkD (isort ((lr.drop i.toNat).take 2))) := fun i hi => by
        obtain ⟨i0, i1⟩ := mem_rng.mp hi
        obtain ⟨j, rfl⟩ := Int.eq_ofNat_of_zero_le i0
        rw [at_get (by rw [List.length_map, rng_len]; omega)]
        simp [rng]
      simp only [fnF, startA, mkAs, mkA, sNx, sSeq, sDrop, sRet, sRetN, sRetV, sIf, sSet, sSetO, sAsg, sPar_v, sParOO, sParOV, sAug, sFor, sBreak, sCont, aC, aVar, oVar, aFrz, oV, a2, a3, tV, tTruA, truD, tAndA, tOrA, tNotA, aB, aAnd, aOr, aNot, aIfE, lNil, lCons, rv, rs, res, aTup, aLst, bNm, bNil, bCons, bTup, AS.set, iSeq, iRange1, iRange2, aLc, aLc2, aCall, aCall0, calm, rm, aBlt, rsl, aIsi, aIsi2, aDict0, aIdx, aMut, aNeg, rg1, rg2, aTupRg, aListRg, aSl, ptNone, ptSome, aRev, AIt.its, AIt.chk, items, tYesA, vIx_t, vIx_l, vAdd_i, vAdd_t, vAdd_l, vSub_i, vMul_i, vMod_i, vDiv_i, vLt_i, vLe_i, vGt_i, vGe_i, vCatL_l, vAddI_i, vSubI_i, fLen_l, fLen_t, fTuple_l, fList_t, mApp_1, mExt_1, List.set_cons_zero, List.set_cons_succ, List.getElem?_cons_zero, List.getElem?_cons_succ, List.replicate, List.cons_append, List.nil_append, List.length_cons, List.length_nil, at_0, at_1, at_2, if_true, if_false, true_and, and_true, hm1, rng_d]
      refine ⟨by omega, by omega, lc_filter .int .int (fun i => !(ps.map rkD).any fun y => PyData.eqv y (rkD (isort ((lr.drop i.toNat).take 2)))) (rng (m - 1)) (lim (by rw [rng_len]; omega)) (fun i hi K K0 h1 h0 => ?_) ?_⟩
      · simp only [fnF, startA, mkAs, mkA, sNx, sSeq, sDrop, sRet, sRetN, sRetV, sIf, sSet, sSetO, sAsg, sPar_v, sParOO, sParOV, sAug, sFor, sBreak, sCont, aC, aVar, oVar, aFrz, oV, a2, a3, tV, tTruA, truD, tAndA, tOrA, tNotA, aB, aAnd, aOr, aNot, aIfE, lNil, lCons, rv, rs, res, aTup, aLst, bNm, bNil, bCons, bTup, AS.set, iSeq, iRange1, iRange2, aLc, aLc2, aCall, aCall0, calm, rm, aBlt, rsl, aIsi, aIsi2, aDict0, aIdx, aMut, aNeg, rg1, rg2, aTupRg, aListRg, aSl, ptNone, ptSome, aRev, AIt.its, AIt.chk, items, tYesA, vIx_t, vIx_l, vAdd_i, vAdd_t, vAdd_l, vSub_i, vMul_i, vMod_i, vDiv_i, vLt_i, vLe_i, vGt_i, vGe_i, vCatL_l, vAddI_i, vSubI_i, fLen_l, fLen_t, fTuple_l, fList_t, mApp_1, mExt_1, List.set_cons_zero, List.set_cons_succ, List.getElem?_cons_zero, List.getElem?_cons_succ, List.replicate, List.cons_append, List.nil_append, List.length_cons, List.length_nil, at_0, at_1, at_2, if_true, if_false, true_and, and_true, AS.wipe, wl, gat i hi, vNotIn]
        refine ⟨gsd _, gsl _, ?_⟩
        split
        · next hc => exact h1 _ (by rcases h7 with rfl | ⟨d, rfl⟩ <;> rfl) hc
        · next hc => exact h0 _ (by rcases h7 with rfl | ⟨d, rfl⟩ <;> rfl) (by simpa using hc)
      · simp only [fnF, startA, mkAs, mkA, sNx, sSeq, sDrop, sRet, sRetN, sRetV, sIf, sSet, sSetO, sAsg, sPar_v, sParOO, sParOV, sAug, sFor, sBreak, sCont, aC, aVar, oVar, aFrz, oV, a2, a3, tV, tTruA, truD, tAndA, tOrA, tNotA, aB, aAnd, aOr, aNot, aIfE, lNil, lCons, rv, rs, res, aTup, aLst, bNm, bNil, bCons, bTup, AS.set, iSeq, iRange1, iRange2, aLc, aLc2, aCall, aCall0, calm, rm, aBlt, rsl, aIsi, aIsi2, aDict0, aIdx, aMut, aNeg, rg1, rg2, aTupRg, aListRg, aSl, ptNone, ptSome, aRev, AIt.its, AIt.chk, items, tYesA, vIx_t, vIx_l, vAdd_i, vAdd_t, vAdd_l, vSub_i, vMul_i, vMod_i, vDiv_i, vLt_i, vLe_i, vGt_i, vGe_i, vCatL_l, vAddI_i, vSubI_i, fLen_l, fLen_t, fTuple_l, fList_t, mApp_1, mExt_1, List.set_cons_zero, List.set_cons_succ, List.getElem?_cons_zero, List.getElem?_cons_succ, List.replicate, List.cons_append, List.nil_append, List.length_cons, List.length_nil, at_0, at_1, at_2, if_true, if_false, true_and, and_true, vNeE]
        refine ⟨lim (by omega), ?_⟩
        split
        · next hc =>
          refine one_ok (by omega) (fun z => by rw [z] at hc; simp at hc) (by rw [List.length_map]; exact Nat.le_trans (List.length_filter_le _ _) (by rw [rng_len]; omega)) fun d hd => ?_
          obtain ⟨i, hi, rfl⟩ := List.mem_map.mp hd
          have hi := (List.mem_filter.mp hi).1
          simp only [fnF, startA, mkAs, mkA, sNx, sSeq, sDrop, sRet, sRetN, sRetV, sIf, sSet, sSetO, sAsg, sPar_v, sParOO, sParOV, sAug, sFor, sBreak, sCont, aC, aVar, oVar, aFrz, oV, a2, a3, tV, tTruA, truD, tAndA, tOrA, tNotA, aB, aAnd, aOr, aNot, aIfE, lNil, lCons, rv, rs, res, aTup, aLst, bNm, bNil, bCons, bTup, AS.set, iSeq, iRange1, iRange2, aLc, aLc2, aCall, aCall0, calm, rm, aBlt, rsl, aIsi, aIsi2, aDict0, aIdx, aMut, aNeg, rg1, rg2, aTupRg, aListRg, aSl, ptNone, ptSome, aRev, AIt.its, AIt.chk, items, tYesA, vIx_t, vIx_l, vAdd_i, vAdd_t, vAdd_l, vSub_i, vMul_i, vMod_i, vDiv_i, vLt_i, vLe_i, vGt_i, vGe_i, vCatL_l, vAddI_i, vSubI_i, fLen_l, fLen_t, fTuple_l, fList_t, mApp_1, mExt_1, List.set_cons_zero, List.set_cons_succ, List.getElem?_cons_zero, List.getElem?_cons_succ, List.replicate, List.cons_append, List.nil_append, List.length_cons, List.length_nil, at_0, at_1, at_2, if_true, if_false, true_and, and_true, gat i hi]
          obtain ⟨i0, i1⟩ := mem_rng.mp hi
          obtain ⟨j, rfl⟩ := Int.eq_ofNat_of_zero_le i0
          refine ⟨small1000 (by rw [List.length_map]; omega), exch_ok hlr (by omega) hm ?_⟩
          refine ⟨small1000 (by simp; omega), hN _ ⟨rows ++ [lr], ps ++ [isort ((lr.drop j).take 2)], swp lr j, _, _, _, _, _, _, fun r hr => (List.mem_append.mp hr).elim (hrs r) fun h => by rw [List.mem_singleton.mp h]; exact hlr, swp_rank hlr (by omega), .inr ⟨_, rfl⟩, by simp; omega, by simp; omega, by show k + 1 + l.length ≤ _; omega, by simp only [List.map_append, List.map_cons, List.map_nil]; rfl⟩⟩
        · next hc =>
          exact hN _ ⟨rows, ps, lr, _, _, _, _, _, _, hrs, hlr, h7, by omega, hps, by show k + l.length ≤ _; omega, by simp only [List.map_append, List.map_cons, List.map_nil]; rfl⟩
theorem seated_ok {m c : Nat} (m1 : 1 ≤ m) (hm : m ≤ 8) (c1 : 1 ≤ c) (hc : c ≤ 16) (hn : n ≤ 890000) (q : ∀ (ts : Tas) (k : Nat), ts.length = c → (∀ t ∈ ts, Rank m t.1 ∧ 1 ≤ t.2 ∧ t.2 ≤ 1000000000000) → k ≤ n + 200 → Q (tabD m ts) k) : F__law_seated [d0, .int m, .int c] n Q X := by
  simp only [F__law_seated, b__law_seated, fnF, startA, mkAs, mkA, sNx, sSeq, sDrop, sRet, sRetN, sRetV, sIf, sSet, sSetO, sAsg, sPar_v, sParOO, sParOV, sAug, sFor, sBreak, sCont, aC, aVar, oVar, aFrz, oV, a2, a3, tV, tTruA, truD, tAndA, tOrA, tNotA, aB, aAnd, aOr, aNot, aIfE, lNil, lCons, rv, rs, res, aTup, aLst, bNm, bNil, bCons, bTup, AS.set, iSeq, iRange1, iRange2, aLc, aLc2, aCall, aCall0, calm, rm, aBlt, rsl, aIsi, aIsi2, aDict0, aIdx, aMut, aNeg, rg1, rg2, aTupRg, aListRg, aSl, ptNone, ptSome, aRev, AIt.its, AIt.chk, items, tYesA, vIx_t, vIx_l, vAdd_i, vAdd_t, vAdd_l, vSub_i, vMul_i, vMod_i, vDiv_i, vLt_i, vLe_i, vGt_i, vGe_i, vCatL_l, vAddI_i, vSubI_i, fLen_l, fLen_t, fTuple_l, fList_t, mApp_1, mExt_1, List.set_cons_zero, List.set_cons_succ, List.getElem?_cons_zero, List.getElem?_cons_succ, List.replicate, List.cons_append, List.nil_append, List.length_cons, List.length_nil, at_0, at_1, at_2, if_true, if_false, true_and, and_true]
  refine ⟨lim (by omega), next_ok (by omega) (by omega) (by omega) fun r r0 r1 => ?_⟩
  obtain ⟨st, hst, e⟩ : ∃ st : Nat, st ≤ 28 ∧ atI [PyData.int 2, .int 5, .int 28] r = some (.int st) := by
    have : r = 0 ∨ r = 1 ∨ r = 2 := by omega
    rcases this with rfl | rfl | rfl
    · exact ⟨2, by omega, rfl⟩
    · exact ⟨5, by omega, rfl⟩
    · exact ⟨28, by omega, rfl⟩
  simp only [fnF, startA, mkAs, mkA, sNx, sSeq, sDrop, sRet, sRetN, sRetV, sIf, sSet, sSetO, sAsg, sPar_v, sParOO, sParOV, sAug, sFor, sBreak, sCont, aC, aVar, oVar, aFrz, oV, a2, a3, tV, tTruA, truD, tAndA, tOrA, tNotA, aB, aAnd, aOr, aNot, aIfE, lNil, lCons, rv, rs, res, aTup, aLst, bNm, bNil, bCons, bTup, AS.set, iSeq, iRange1, iRange2, aLc, aLc2, aCall, aCall0, calm, rm, aBlt, rsl, aIsi, aIsi2, aDict0, aIdx, aMut, aNeg, rg1, rg2, aTupRg, aListRg, aSl, ptNone, ptSome, aRev, AIt.its, AIt.chk, items, tYesA, vIx_t, vIx_l, vAdd_i, vAdd_t, vAdd_l, vSub_i, vMul_i, vMod_i, vDiv_i, vLt_i, vLe_i, vGt_i, vGe_i, vCatL_l, vAddI_i, vSubI_i, fLen_l, fLen_t, fTuple_l, fList_t, mApp_1, mExt_1, List.set_cons_zero, List.set_cons_succ, List.getElem?_cons_zero, List.getElem?_cons_succ, List.replicate, List.cons_append, List.nil_append, List.length_cons, List.length_nil, at_0, at_1, at_2, if_true, if_false, true_and, and_true, e]
  refine road_ok m1 hm hst (by omega) fun rows k hne hlen hrk hk => ?_
  refine ⟨by omega, by omega, ?_⟩
  rw [Int.toNat_natCast, rng_d]
  refine lc_draw (β := List Int × Int) .int (fun _ t => tasD t) (fun _ t => Rank m t.1 ∧ 1 ≤ t.2 ∧ t.2 ≤ 1000000000000) 4 (n + 200) (by intro _; exact True.intro) (rng c) [] k (lim (by simp [rng_len]; omega)) (by rw [rng_len]; omega) (fun x hx k' hk' K hK => ?_) fun ps k' hp hP hk' => ?_
  · simp only [fnF, startA, mkAs, mkA, sNx, sSeq, sDrop, sRet, sRetN, sRetV, sIf, sSet, sSetO, sAsg, sPar_v, sParOO, sParOV, sAug, sFor, sBreak, sCont, aC, aVar, oVar, aFrz, oV, a2, a3, tV, tTruA, truD, tAndA, tOrA, tNotA, aB, aAnd, aOr, aNot, aIfE, lNil, lCons, rv, rs, res, aTup, aLst, bNm, bNil, bCons, bTup, AS.set, iSeq, iRange1, iRange2, aLc, aLc2, aCall, aCall0, calm, rm, aBlt, rsl, aIsi, aIsi2, aDict0, aIdx, aMut, aNeg, rg1, rg2, aTupRg, aListRg, aSl, ptNone, ptSome, aRev, AIt.its, AIt.chk, items, tYesA, vIx_t, vIx_l, vAdd_i, vAdd_t, vAdd_l, vSub_i, vMul_i, vMod_i, vDiv_i, vLt_i, vLe_i, vGt_i, vGe_i, vCatL_l, vAddI_i, vSubI_i, fLen_l, fLen_t, fTuple_l, fList_t, mApp_1, mExt_1, List.set_cons_zero, List.set_cons_succ, List.getElem?_cons_zero, List.getElem?_cons_succ, List.replicate, List.cons_append, List.nil_append, List.length_cons, List.length_nil, at_0, at_1, at_2, if_true, if_false, true_and, and_true, AS.wipe, wl]
    refine one_ok (by omega) (by simpa using hne) (by rw [List.length_map]; omega) fun d hd => ?_
    obtain ⟨r, hr, rfl⟩ := List.mem_map.mp hd
    refine people_ok (by omega) fun w w0 w1 => ?_
    exact ⟨lim (by omega), hK (r, w) _ ⟨hrk r hr, w0, w1⟩ rfl (by show k' + 1 + 3 ≤ _; omega)⟩
  · simp only [fnF, startA, mkAs, mkA, sNx, sSeq, sDrop, sRet, sRetN, sRetV, sIf, sSet, sSetO, sAsg, sPar_v, sParOO, sParOV, sAug, sFor, sBreak, sCont, aC, aVar, oVar, aFrz, oV, a2, a3, tV, tTruA, truD, tAndA, tOrA, tNotA, aB, aAnd, aOr, aNot, aIfE, lNil, lCons, rv, rs, res, aTup, aLst, bNm, bNil, bCons, bTup, AS.set, iSeq, iRange1, iRange2, aLc, aLc2, aCall, aCall0, calm, rm, aBlt, rsl, aIsi, aIsi2, aDict0, aIdx, aMut, aNeg, rg1, rg2, aTupRg, aListRg, aSl, ptNone, ptSome, aRev, AIt.its, AIt.chk, items, tYesA, vIx_t, vIx_l, vAdd_i, vAdd_t, vAdd_l, vSub_i, vMul_i, vMod_i, vDiv_i, vLt_i, vLe_i, vGt_i, vGe_i, vCatL_l, vAddI_i, vSubI_i, fLen_l, fLen_t, fTuple_l, fList_t, mApp_1, mExt_1, List.set_cons_zero, List.set_cons_succ, List.getElem?_cons_zero, List.getElem?_cons_succ, List.replicate, List.cons_append, List.nil_append, List.length_cons, List.length_nil, at_0, at_1, at_2, if_true, if_false, true_and, and_true]
    refine ⟨lim (by omega), ?_⟩
    have hl : ps.length = c := by
      have := congrArg List.length hp
      rw [List.length_map, rng_len] at this
      exact this
    have := q (ps.map (·.2)) k' (by rw [List.length_map]; exact hl) (fun t ht => by
      obtain ⟨p, hp', rfl⟩ := List.mem_map.mp ht
      exact hP p hp') (by rw [rng_len] at hk'; omega)
    simp only [tabD, List.map_map] at this
    exact this
end
end TR
namespace TR
open PySem PySem.Spec PyProof.Rows L2
theorem any_item {F : AF} {K : PyData → AS → Prop} {k' : Nat} {x : List Int} {rows : List (List Int)} {a4 a5 : Option AV} {m c : Int} (h : F [.none] k' (fun r n => [rkD x, r].length ≤ sizeLine ∧ K (.tuple [rkD x, r]) ⟨[some .deck, some (.dat (.int m)), some (.dat (.int c)), some (.own (rows.map rkD)), some (.dat (rkD x)), a5], n⟩) fun _ _ => False) : bNm 4 (rkD x) ((⟨[some .deck, some (.dat (.int m)), some (.dat (.int c)), some (.own (rows.map rkD)), a4, a5], k'⟩ : AS).wipe [4]) fun s2 => aTup (lCons (oV (aVar 4)) (lCons (oV (aCall [Md.deck] (calm F) (lCons (oVar 0) lNil))) lNil)) x0 s2 K := h
section
variable {n : Nat} {Q : PyData → Nat → Prop} {X : XD → Nat → Prop} {d0 : PyData}
theorem any_ok {m c : Nat} (m1 : 1 ≤ m) (hm : m ≤ 8) (c1 : 1 ≤ c) (hc : c ≤ 16) (hn : n ≤ 890000) (q : ∀ (ts : Tas) (k : Nat), ts.length = c → (∀ t ∈ ts, Rank m t.1 ∧ 1 ≤ t.2 ∧ t.2 ≤ 1000000000000) → k ≤ n + 240 → Q (tabD m ts) k) : F__law_any [d0, .int m, .int c] n Q X := by
  simp only [F__law_any, b__law_any, fnF, startA, mkAs, mkA, sNx, sSeq, sDrop, sRet, sRetN, sRetV, sIf, sSet, sSetO, sAsg, sPar_v, sParOO, sParOV, sAug, sFor, sBreak, sCont, aC, aVar, oVar, aFrz, oV, a2, a3, tV, tTruA, truD, tAndA, tOrA, tNotA, aB, aAnd, aOr, aNot, aIfE, lNil, lCons, rv, rs, res, aTup, aLst, bNm, bNil, bCons, bTup, AS.set, iSeq, iRange1, iRange2, aLc, aLc2, aCall, aCall0, calm, rm, aBlt, rsl, aIsi, aIsi2, aDict0, aIdx, aMut, aNeg, rg1, rg2, aTupRg, aListRg, aSl, ptNone, ptSome, aRev, AIt.its, AIt.chk, items, tYesA, vIx_t, vIx_l, vAdd_i, vAdd_t, vAdd_l, vSub_i, vMul_i, vMod_i, vDiv_i, vLt_i, vLe_i, vGt_i, vGe_i, vCatL_l, vAddI_i, vSubI_i, fLen_l, fLen_t, fTuple_l, fList_t, mApp_1, mExt_1, List.set_cons_zero, List.set_cons_succ, List.getElem?_cons_zero, List.getElem?_cons_succ, List.replicate, List.cons_append, List.nil_append, List.length_cons, List.length_nil, at_0, at_1, at_2, if_true, if_false, true_and, and_true]
  refine list_ok hm (by omega) fun r hr => ?_
  refine ⟨lim (by omega), ?_⟩
  refine while_inv (fun j s => ∃ (rows : List (List Int)) (a4 a5 : Option AV) (k : Nat), j = c - rows.length ∧ rows ≠ [] ∧ rows.length ≤ c ∧ (∀ r ∈ rows, Rank m r) ∧ (a4 = none ∨ ∃ d, a4 = some (.dat d)) ∧ k ≤ n + 8 + 10 * rows.length ∧ s = ⟨[some .deck, some (.dat (.int m)), some (.dat (.int c)), some (.own (rows.map rkD)), a4, a5], k⟩) (fun j s ⟨rows, a4, a5, k, hj, hne, hlen, hrk, h4, hk, e⟩ N hN => ?_) (k := c - 1) ⟨[r], none, none, n + m, rfl, by simp, c1, by simpa using hr, .inl rfl, by simp; omega, rfl⟩
  subst e
  simp only [fnF, startA, mkAs, mkA, sNx, sSeq, sDrop, sRet, sRetN, sRetV, sIf, sSet, sSetO, sAsg, sPar_v, sParOO, sParOV, sAug, sFor, sBreak, sCont, aC, aVar, oVar, aFrz, oV, a2, a3, tV, tTruA, truD, tAndA, tOrA, tNotA, aB, aAnd, aOr, aNot, aIfE, lNil, lCons, rv, rs, res, aTup, aLst, bNm, bNil, bCons, bTup, AS.set, iSeq, iRange1, iRange2, aLc, aLc2, aCall, aCall0, calm, rm, aBlt, rsl, aIsi, aIsi2, aDict0, aIdx, aMut, aNeg, rg1, rg2, aTupRg, aListRg, aSl, ptNone, ptSome, aRev, AIt.its, AIt.chk, items, tYesA, vIx_t, vIx_l, vAdd_i, vAdd_t, vAdd_l, vSub_i, vMul_i, vMod_i, vDiv_i, vLt_i, vLe_i, vGt_i, vGe_i, vCatL_l, vAddI_i, vSubI_i, fLen_l, fLen_t, fTuple_l, fList_t, mApp_1, mExt_1, List.set_cons_zero, List.set_cons_succ, List.getElem?_cons_zero, List.getElem?_cons_succ, List.replicate, List.cons_append, List.nil_append, List.length_cons, List.length_nil, at_0, at_1, at_2, if_true, if_false, true_and, and_true]
  split
  · next hlt =>
    have hlt : rows.length < c := by
      have := of_decide_eq_true hlt
      rw [List.length_map] at this
      omega
    refine one_ok (by omega) (by simpa using hne) (by rw [List.length_map]; omega) fun d hd => ?_
    obtain ⟨r1, hr1, rfl⟩ := List.mem_map.mp hd
    refine next_ok (by omega) (by omega) (by omega) fun w w0 w1 => ?_
    simp only [fnF, startA, mkAs, mkA, sNx, sSeq, sDrop, sRet, sRetN, sRetV, sIf, sSet, sSetO, sAsg, sPar_v, sParOO, sParOV, sAug, sFor, sBreak, sCont, aC, aVar, oVar, aFrz, oV, a2, a3, tV, tTruA, truD, tAndA, tOrA, tNotA, aB, aAnd, aOr, aNot, aIfE, lNil, lCons, rv, rs, res, aTup, aLst, bNm, bNil, bCons, bTup, AS.set, iSeq, iRange1, iRange2, aLc, aLc2, aCall, aCall0, calm, rm, aBlt, rsl, aIsi, aIsi2, aDict0, aIdx, aMut, aNeg, rg1, rg2, aTupRg, aListRg, aSl, ptNone, ptSome, aRev, AIt.its, AIt.chk, items, tYesA, vIx_t, vIx_l, vAdd_i, vAdd_t, vAdd_l, vSub_i, vMul_i, vMod_i, vDiv_i, vLt_i, vLe_i, vGt_i, vGe_i, vCatL_l, vAddI_i, vSubI_i, fLen_l, fLen_t, fTuple_l, fList_t, mApp_1, mExt_1, List.set_cons_zero, List.set_cons_succ, List.getElem?_cons_zero, List.getElem?_cons_succ, List.replicate, List.cons_append, List.nil_append, List.length_cons, List.length_nil, at_0, at_1, at_2, if_true, if_false, true_and, and_true, vEq]
    have fin : ∀ (r2 : List Int) (k2 : Nat), Rank m r2 → k2 ≤ k + 10 → (rows.map rkD).length < sizeLine ∧ N ⟨[some .deck, some (.dat (.int m)), some (.dat (.int c)), some (.own (rows.map rkD ++ [rkD r2])), some (.dat (rkD r2)), some (.dat (.int w))], k2⟩ := fun r2 k2 h2 hk2 => by
      refine ⟨small1000 (by rw [List.length_map]; omega), hN (c - (rows ++ [r2]).length) _ (by simp; omega) ⟨rows ++ [r2], _, _, k2, rfl, by simp, by simp; omega, fun r hr => (List.mem_append.mp hr).elim (hrk r) fun h => by rw [List.mem_singleton.mp h]; exact h2, .inr ⟨_, rfl⟩, by simp; omega, by simp only [List.map_append, List.map_cons, List.map_nil]; rfl⟩⟩
    refine ⟨rfl, rfl, ?_⟩
    split
    · exact list_ok hm (by omega) fun r2 h2 => fin r2 _ h2 (by omega)
    · split
      · split
        · next h1 =>
          have h1 := of_decide_eq_true h1
          refine next_ok (by omega) (by omega) (by omega) fun v v0 v1 => ?_
          obtain ⟨i, rfl⟩ := Int.eq_ofNat_of_zero_le v0
          exact exch_ok (hrk r1 hr1) (by omega) hm (fin _ _ (swp_rank (hrk r1 hr1) (by omega)) (by omega))
        · exact fin r1 _ (hrk r1 hr1) (by omega)
      · rw [if_neg (by decide)]
        exact fin r1 _ (hrk r1 hr1) (by omega)
  · next hlt =>
    have hl : rows.length = c := by
      have := of_decide_eq_false (Bool.eq_false_iff.mpr hlt)
      rw [List.length_map] at this
      omega
    refine lc_draw (β := Int) rkD (fun r w => tasD (r, w)) (fun _ w => 1 ≤ w ∧ w ≤ 1000000000000) 3 (n + 240) (by intro _; rfl) rows [] k (lim (by simp; omega)) (by omega) (fun x hx k' hk' K hK => ?_) fun ps k' hp hP hk' => ?_
    · refine any_item ?_
      refine people_ok (by omega) fun w w0 w1 => ?_
      exact ⟨lim (by show 2 ≤ 1000; omega), hK w _ ⟨w0, w1⟩ (by rcases h4 with rfl | ⟨d, rfl⟩ <;> rfl) (by show k' + 3 ≤ _; omega)⟩
    · simp only [fnF, startA, mkAs, mkA, sNx, sSeq, sDrop, sRet, sRetN, sRetV, sIf, sSet, sSetO, sAsg, sPar_v, sParOO, sParOV, sAug, sFor, sBreak, sCont, aC, aVar, oVar, aFrz, oV, a2, a3, tV, tTruA, truD, tAndA, tOrA, tNotA, aB, aAnd, aOr, aNot, aIfE, lNil, lCons, rv, rs, res, aTup, aLst, bNm, bNil, bCons, bTup, AS.set, iSeq, iRange1, iRange2, aLc, aLc2, aCall, aCall0, calm, rm, aBlt, rsl, aIsi, aIsi2, aDict0, aIdx, aMut, aNeg, rg1, rg2, aTupRg, aListRg, aSl, ptNone, ptSome, aRev, AIt.its, AIt.chk, items, tYesA, vIx_t, vIx_l, vAdd_i, vAdd_t, vAdd_l, vSub_i, vMul_i, vMod_i, vDiv_i, vLt_i, vLe_i, vGt_i, vGe_i, vCatL_l, vAddI_i, vSubI_i, fLen_l, fLen_t, fTuple_l, fList_t, mApp_1, mExt_1, List.set_cons_zero, List.set_cons_succ, List.getElem?_cons_zero, List.getElem?_cons_succ, List.replicate, List.cons_append, List.nil_append, List.length_cons, List.length_nil, at_0, at_1, at_2, if_true, if_false, true_and, and_true]
      refine ⟨lim (by omega), ?_⟩
      have hl2 : ps.length = c := by
        have := congrArg List.length hp
        rw [List.length_map] at this
        omega
      have := q ps k' hl2 (fun t ht => ⟨hrk _ (by rw [← hp]; exact List.mem_map_of_mem ht), hP t ht⟩) (by omega)
      exact this
end
end TR
namespace TR
open PySem PySem.Spec PyProof.Rows L2
section
variable {n : Nat} {Q : PyData → Nat → Prop} {X : XD → Nat → Prop} {d0 : PyData}
theorem table_ok {D M : Nat} (D1 : 1 ≤ D) (hD : D ≤ 8) (M1 : 1 ≤ M) (hM : M ≤ 16) (hn : n ≤ 880000) (q : ∀ (m : Nat) (ts : Tas) (k : Nat), WfT D M m ts → k ≤ n + 250 → Q (tabD m ts) k) : F__law_table [d0, .int D, .int M] n Q X := by
  unfold F__law_table fnF b__law_table
  simp -implicitDefEqProofs only [fnF, startA, mkAs, mkA, sNx, sSeq, sDrop, sRet, sRetN, sRetV, sIf, sSet, sSetO, sAsg, sPar_v, sParOO, sParOV, sAug, sFor, sBreak, sCont, aC, aVar, oVar, aFrz, oV, a2, a3, tV, tTruA, truD, tAndA, tOrA, tNotA, aB, aAnd, aOr, aNot, aIfE, lNil, lCons, rv, rs, res, aTup, aLst, bNm, bNil, bCons, bTup, AS.set, iSeq, iRange1, iRange2, aLc, aLc2, aCall, aCall0, calm, rm, aBlt, rsl, aIsi, aIsi2, aDict0, aIdx, aMut, aNeg, rg1, rg2, aTupRg, aListRg, aSl, ptNone, ptSome, aRev, AIt.its, AIt.chk, items, tYesA, vIx_t, vIx_l, vAdd_i, vAdd_t, vAdd_l, vSub_i, vMul_i, vMod_i, vDiv_i, vLt_i, vLe_i, vGt_i, vGe_i, vCatL_l, vAddI_i, vSubI_i, fLen_l, fLen_t, fTuple_l, fList_t, mApp_1, mExt_1, List.set_cons_zero, List.set_cons_succ, List.getElem?_cons_zero, List.getElem?_cons_succ, List.replicate, List.cons_append, List.nil_append, List.length_cons, List.length_nil, at_0, at_1, at_2, if_true, if_false, true_and, and_true]
  refine next_ok (by omega) (by omega) (by omega) fun a a0 a1 => ?_
  simp -implicitDefEqProofs only [fnF, startA, mkAs, mkA, sNx, sSeq, sDrop, sRet, sRetN, sRetV, sIf, sSet, sSetO, sAsg, sPar_v, sParOO, sParOV, sAug, sFor, sBreak, sCont, aC, aVar, oVar, aFrz, oV, a2, a3, tV, tTruA, truD, tAndA, tOrA, tNotA, aB, aAnd, aOr, aNot, aIfE, lNil, lCons, rv, rs, res, aTup, aLst, bNm, bNil, bCons, bTup, AS.set, iSeq, iRange1, iRange2, aLc, aLc2, aCall, aCall0, calm, rm, aBlt, rsl, aIsi, aIsi2, aDict0, aIdx, aMut, aNeg, rg1, rg2, aTupRg, aListRg, aSl, ptNone, ptSome, aRev, AIt.its, AIt.chk, items, tYesA, vIx_t, vIx_l, vAdd_i, vAdd_t, vAdd_l, vSub_i, vMul_i, vMod_i, vDiv_i, vLt_i, vLe_i, vGt_i, vGe_i, vCatL_l, vAddI_i, vSubI_i, fLen_l, fLen_t, fTuple_l, fList_t, mApp_1, mExt_1, List.set_cons_zero, List.set_cons_succ, List.getElem?_cons_zero, List.getElem?_cons_succ, List.replicate, List.cons_append, List.nil_append, List.length_cons, List.length_nil, at_0, at_1, at_2, if_true, if_false, true_and, and_true]
  refine next_ok (by omega) (by omega) (by omega) fun b b0 b1 => ?_
  simp -implicitDefEqProofs only [fnF, startA, mkAs, mkA, sNx, sSeq, sDrop, sRet, sRetN, sRetV, sIf, sSet, sSetO, sAsg, sPar_v, sParOO, sParOV, sAug, sFor, sBreak, sCont, aC, aVar, oVar, aFrz, oV, a2, a3, tV, tTruA, truD, tAndA, tOrA, tNotA, aB, aAnd, aOr, aNot, aIfE, lNil, lCons, rv, rs, res, aTup, aLst, bNm, bNil, bCons, bTup, AS.set, iSeq, iRange1, iRange2, aLc, aLc2, aCall, aCall0, calm, rm, aBlt, rsl, aIsi, aIsi2, aDict0, aIdx, aMut, aNeg, rg1, rg2, aTupRg, aListRg, aSl, ptNone, ptSome, aRev, AIt.its, AIt.chk, items, tYesA, vIx_t, vIx_l, vAdd_i, vAdd_t, vAdd_l, vSub_i, vMul_i, vMod_i, vDiv_i, vLt_i, vLe_i, vGt_i, vGe_i, vCatL_l, vAddI_i, vSubI_i, fLen_l, fLen_t, fTuple_l, fList_t, mApp_1, mExt_1, List.set_cons_zero, List.set_cons_succ, List.getElem?_cons_zero, List.getElem?_cons_succ, List.replicate, List.cons_append, List.nil_append, List.length_cons, List.length_nil, at_0, at_1, at_2, if_true, if_false, true_and, and_true]
  refine next_ok (by omega) (by omega) (by omega) fun c c0 c1 => ?_
  simp -implicitDefEqProofs only [fnF, startA, mkAs, mkA, sNx, sSeq, sDrop, sRet, sRetN, sRetV, sIf, sSet, sSetO, sAsg, sPar_v, sParOO, sParOV, sAug, sFor, sBreak, sCont, aC, aVar, oVar, aFrz, oV, a2, a3, tV, tTruA, truD, tAndA, tOrA, tNotA, aB, aAnd, aOr, aNot, aIfE, lNil, lCons, rv, rs, res, aTup, aLst, bNm, bNil, bCons, bTup, AS.set, iSeq, iRange1, iRange2, aLc, aLc2, aCall, aCall0, calm, rm, aBlt, rsl, aIsi, aIsi2, aDict0, aIdx, aMut, aNeg, rg1, rg2, aTupRg, aListRg, aSl, ptNone, ptSome, aRev, AIt.its, AIt.chk, items, tYesA, vIx_t, vIx_l, vAdd_i, vAdd_t, vAdd_l, vSub_i, vMul_i, vMod_i, vDiv_i, vLt_i, vLe_i, vGt_i, vGe_i, vCatL_l, vAddI_i, vSubI_i, fLen_l, fLen_t, fTuple_l, fList_t, mApp_1, mExt_1, List.set_cons_zero, List.set_cons_succ, List.getElem?_cons_zero, List.getElem?_cons_succ, List.replicate, List.cons_append, List.nil_append, List.length_cons, List.length_nil, at_0, at_1, at_2, if_true, if_false, true_and, and_true]
  obtain ⟨i, rfl⟩ := Int.eq_ofNat_of_zero_le a0
  obtain ⟨j, rfl⟩ := Int.eq_ofNat_of_zero_le b0
  rw [show (1 : Int) + (i : Nat) = ((i + 1 : Nat) : Int) by omega, show (1 : Int) + (j : Nat) = ((j + 1 : Nat) : Int) by omega]
  split
  · exact seated_ok (by omega) (by omega) (by omega) (by omega) (by omega) fun ts k h1 h2 h3 => q _ ts k ⟨by omega, by omega, by omega, by omega, h2⟩ (by omega)
  · exact any_ok (by omega) (by omega) (by omega) (by omega) (by omega) fun ts k h1 h2 h3 => q _ ts k ⟨by omega, by omega, by omega, by omega, h2⟩ (by omega)
end
end TR
namespace TR
open PySem PySem.Spec PyProof.Rows L2
/-! ### draws, by hand -/
section
variable {n : Nat} {Q : PyData → Nat → Prop} {X : XD → Nat → Prop}
theorem okW__law_next {K : Int → Nat → Prop} (m : Int) (hw : w__law_next m n K) (hk : ∀ r k, K r k → Q (.int r) k) : F__law_next [.none, .int m] n Q X := ⟨hw.1, hw.2.1, hw.2.2.1, fun r h0 h1 => hk _ _ (hw.2.2.2 r h0 h1)⟩
def w__law_table (D M : Int) (n : Nat) (K : Int × List (List Int × Int) → Nat → Prop) : Prop := (1 ≤ D ∧ D ≤ 8 ∧ 1 ≤ M ∧ M ≤ 16 ∧ n ≤ 880000) ∧ ∀ (m : Nat) (ts : Tas) (k : Nat), WfT D.toNat M.toNat m ts → k ≤ n + 250 → K ((m : Int), ts) k
theorem okW__law_table {K : Int × List (List Int × Int) → Nat → Prop} (D M : Int) (hw : w__law_table D M n K) (hk : ∀ r k, K r k → Q (eP .int (eQ (eP (eQ .int) .int)) r) k) : F__law_table [.none, .int D, .int M] n Q X := by
  obtain ⟨⟨h0, h1, h2, h3, h4⟩, h5⟩ := hw
  obtain ⟨a, rfl⟩ := Int.eq_ofNat_of_zero_le (show 0 ≤ D by omega)
  obtain ⟨b, rfl⟩ := Int.eq_ofNat_of_zero_le (show 0 ≤ M by omega)
  exact table_ok (by omega) (by omega) (by omega) (by omega) h4 fun m ts k wf hkn => hk _ _ (h5 m ts k (by simpa using wf) hkn)
end
/-! ### the same data are the same -/
def Cl : Nat → PyData → Prop
  | _, .int _ => True
  | _, .bool _ => True
  | _, .none => True
  | _, .str x => SeqAt.shaped (.str x) = true
  | m + 1, .tuple ds => ds.length ≤ 1000 ∧ ∀ d ∈ ds, Cl m d
  | m + 1, .list ds => ds.length ≤ 1000 ∧ ∀ d ∈ ds, Cl m d
  | _, _ => False
theorem same_lc {R : AF} {n : Nat} {d : PyData} {ds : List PyData} {Q : PyData → AS → Prop} (h : ds.length ≤ 1000) (hR : ∀ d ∈ ds, ∀ n (Q : PyData → Nat → Prop) X, Q (.bool true) n → R [d, d] n Q X) (hix : ∀ k : Nat, (hk : k < ds.length) → VF vIx d (.int (k : Int)) ds[k]) (q : Q (.list []) ⟨[some (.dat d), some (.dat d), none], n⟩) :
    lcL (AIt.fix (rngD 0 ((ds.length : Nat) : Int).toNat)) (bNm 2) (tNotA (tTruA (oV (aCall0 [.dat, .dat] (calm R) (lCons (oV (a2 vIx (oVar 0) (oVar 2))) (lCons (oV (a2 vIx (oVar 1) (oVar 2))) lNil)))))) (aVar 2) [2] Q (rngD 0 ((ds.length : Nat) : Int).toNat) [] ⟨[some (.dat d), some (.dat d), none], n⟩ := by
  rw [rngD_map0]
  refine lc_go PyData.int (fun _ => false) PyData.int (fun x => x) (fun x => (⟨[some (.dat d), some (.dat d), some (.dat (.int x))], n⟩ : AS)) (fun x => (⟨[some (.dat d), some (.dat d), some (.dat (.int x))], n⟩ : AS)) (show AIt.chk _ (AIt.fix _) from True.intro) _ _ [] (lim (by unfold irange; rw [List.length_nil, List.length_map, List.length_range]; omega)) (fun x hx => (bv_nm 2).to rfl) (fun x hx => ?_) (fun x hx h => by cases h) (fun _ _ => ⟨rfl, rfl⟩) ?_
  · obtain ⟨k, hk, rfl⟩ := List.mem_map.mp hx
    have hk : k < ds.length := by have := List.mem_range.mp hk; omega
    have e : (0 : Int) + (k : Nat) = (k : Int) := by omega
    have hx := hix k hk
    rw [← e] at hx
    exact tv_not (b := true) (tv_tru (ov_V (ev_call0 (lv_cons (ov_V (ev_a2 (ov_dat 0 rfl) (ov_dat 2 rfl) rfl rfl hx)) (lv_cons (ov_V (ev_a2 (ov_dat 1 rfl) (ov_dat 2 rfl) rfl rfl hx)) lv_nil)) (fun _ q => q) (fun n Q X q => hR _ (List.getElem_mem hk) n Q X q))) rfl tru_B)
  · rw [List.filter_eq_nil_iff.mpr (fun _ _ h => by cases h)]
    exact q
theorem eqv_i (i : Int) : PyData.eqv (.int i) (.int i) = true := by show (i == i) = true; simp
theorem eqv_b (b : Bool) : PyData.eqv (.bool b) (.bool b) = true := by cases b <;> rfl
theorem eqv_s (x : Str) : PyData.eqv (.str x) (.str x) = true := by show (x == x) = true; simp
def v__law_same (_ _ : PyData) : Bool := true
def C__law_same (a b : PyData) : Prop := a = b ∧ Cl 5 a
theorem same_ok : ∀ (m : Nat) (d : PyData), Cl m d → ∀ n (Q : PyData → Nat → Prop) X, Q (.bool true) n → F__law_same (m + 1) [d, d] n Q X := by
  intro m d h n Q X q
  show fnF _ _ (b__law_same _) _ _ _ _
  unfold fnF b__law_same
  simp -implicitDefEqProofs only [fnF, startA, mkAs, mkA, sNx, sSeq, sDrop, sRet, sRetN, sRetV, sIf, sSet, sSetO, sAsg, sPar_v, sParOO, sParOV, sAug, sFor, sBreak, sCont, aC, aVar, oVar, aFrz, oV, a2, a3, tV, tTruA, truD, tAndA, tOrA, tNotA, aB, aAnd, aOr, aNot, aIfE, lNil, lCons, rv, rs, res, aTup, aLst, bNm, bNil, bCons, bTup, AS.set, iSeq, iRange1, iRange2, aLc, aLc2, aCall, aCall0, calm, rm, aBlt, rsl, aIsi, aIsi2, aDict0, aIdx, aMut, aNeg, rg1, rg2, aTupRg, aListRg, aSl, ptNone, ptSome, aRev, AIt.its, AIt.chk, items, tYesA, vIx_t, vIx_l, vAdd_i, vAdd_t, vAdd_l, vSub_i, vMul_i, vMod_i, vDiv_i, vLt_i, vLe_i, vGt_i, vGe_i, vCatL_l, vAddI_i, vSubI_i, fLen_l, fLen_t, fTuple_l, fList_t, mApp_1, mExt_1, List.set_cons_zero, List.set_cons_succ, List.getElem?_cons_zero, List.getElem?_cons_succ, List.replicate, List.cons_append, List.nil_append, List.length_cons, List.length_nil, at_0, at_1, at_2, if_true, if_false, true_and, and_true, isi_tuple, isi_list, isi_dict, isi_str, isi_int, isi_bool]
  cases d with
  | none => exact q
  | int i =>
    refine ⟨rfl, rfl, ?_⟩
    refine ⟨rfl, rfl, ?_⟩
    rw [eqv_i]; exact q
  | bool b =>
    refine ⟨rfl, rfl, ?_⟩
    refine ⟨rfl, rfl, ?_⟩
    rw [eqv_b]; exact q
  | str x =>
    have h : SeqAt.shaped (.str x) = true := by cases m <;> exact h
    refine ⟨h, h, ?_⟩
    rw [eqv_s]; exact q
  | dict _ => cases m <;> exact h.elim
  | tuple ds =>
    cases m with
    | zero => exact h.elim
    | succ m =>
      refine ⟨rfl, rfl, ?_⟩
      refine ⟨rfl, rfl, ?_⟩
      refine ⟨rfl, rfl, ?_⟩
      rw [eqv_i]
      have hl : ds.length ≤ 1000 := h.1
      refine ⟨by omega, by omega, ?_⟩
      refine same_lc hl (fun d hd n Q X q => same_ok m d (h.2 d hd) n Q X q) (fun k hk => vf_ixT (at_get hk)) ?_
      exact ⟨lim (by omega), q⟩
  | list ds =>
    cases m with
    | zero => exact h.elim
    | succ m =>
      refine ⟨rfl, rfl, ?_⟩
      refine ⟨rfl, rfl, ?_⟩
      refine ⟨rfl, rfl, ?_⟩
      rw [eqv_i]
      have hl : ds.length ≤ 1000 := h.1
      refine ⟨by omega, by omega, ?_⟩
      refine same_lc hl (fun d hd n Q X q => same_ok m d (h.2 d hd) n Q X q) (fun k hk => vf_ixL' (at_get hk)) ?_
      exact ⟨lim (by omega), q⟩
theorem okV__law_same (a b : PyData) (h : C__law_same a b) : PFn (F__law_same 6) [a, b] (.bool (v__law_same a b)) := fun n Q X q => by
  obtain ⟨rfl, h⟩ := h
  exact same_ok 5 a h n Q X q
end TR
namespace TR
open PySem PySem.Spec PyProof.Rows L2
def oddL : List PyData := [.none, .bool true, .bool false, .int 0, .int 1, .int (-1), .int 2, .int 8, .int 16, .int (10 ^ 12), .int (10 ^ 12 + 1), .int (10 ^ 59), .str "", .str "0", .str "triple", .tuple [], .tuple [.int 0], .tuple [.int 0, .int 1], .list [], .dict [], .list [.int 0], .tuple [.bool true], .tuple [.tuple []]]
def leafB (L : Nat) : PyData → Bool
  | .none => true
  | .bool _ => true
  | .int i => decide (i.natAbs ≤ 10 ^ 59 + L)
  | .str x => decide (x.length ≤ 69) && x.cps.toList.all fun c => decide (c < 16 ^ 8)
  | _ => false
def wfB (L : Nat) : Nat → PyData → Bool
  | 0, d => leafB L d
  | D + 1, .list ds => decide (ds.length ≤ L) && ds.all (wfB L D)
  | D + 1, .tuple ds => decide (ds.length ≤ L) && ds.all (wfB L D)
  | _ + 1, .dict [] => true
  | _ + 1, d => leafB L d
theorem leafB_ok {L : Nat} : ∀ {d : PyData}, leafB L d = true → leafOk L d
  | .none, _ => trivial
  | .bool _, _ => trivial
  | .int i, h => of_decide_eq_true (p := i.natAbs ≤ 10 ^ 59 + L) h
  | .str x, h => by
    have h : (decide (x.length ≤ 69) && x.cps.toList.all fun c => decide (c < 16 ^ 8)) = true := h
    rw [Bool.and_eq_true, List.all_eq_true] at h
    exact ⟨of_decide_eq_true h.1, fun c hc => of_decide_eq_true (h.2 c hc)⟩
  | .list _, h => by cases h
  | .tuple _, h => by cases h
  | .dict _, h => by cases h
theorem wfB_ok {L : Nat} : ∀ {D : Nat} {d : PyData}, wfB L D d = true → Wf L D d
  | 0, _, h => leafB_ok (by unfold wfB at h; exact h)
  | D + 1, .list ds, h => by
    unfold wfB at h
    rw [Bool.and_eq_true, List.all_eq_true] at h
    exact Wf.lst (of_decide_eq_true h.1) fun e he => wfB_ok (h.2 e he)
  | D + 1, .tuple ds, h => by
    unfold wfB at h
    rw [Bool.and_eq_true, List.all_eq_true] at h
    exact Wf.tup (of_decide_eq_true h.1) fun e he => wfB_ok (h.2 e he)
  | D + 1, .none, _ => .inl trivial
  | D + 1, .bool _, _ => .inl trivial
  | D + 1, .int i, h => .inl (leafB_ok (by unfold wfB at h; exact h))
  | D + 1, .str i, h => .inl (leafB_ok (by unfold wfB at h; exact h))
  | D + 1, .dict [], _ => .inr (.inl rfl)
  | D + 1, .dict (_ :: _), h => by unfold wfB at h; cases h
theorem oddL_wf : ∀ d ∈ oddL, Wf 2 2 d := by
  have h : oddL.all (wfB 2 2) = true := by decide +kernel
  exact fun d hd => wfB_ok (List.all_eq_true.mp h d hd)
theorem gt_mem {l : List PyData} {k : Int} (h : Ixr l k) : gt l k ∈ l := by
  obtain ⟨h0, h1⟩ := h
  obtain ⟨j, rfl⟩ := Int.eq_ofNat_of_zero_le h0
  unfold gt
  have hj : j < l.length := by omega
  simp [hj]
end TR
namespace TR
open PySem PySem.Spec PyProof.Rows L2
set_option maxHeartbeats 4000000 in
def w__law_odd  (n : Nat) (K : PyData → Nat → Prop) : Prop := ((CPow (10 : Int) (12 : Int) ∧ CPow (10 : Int) (12 : Int) ∧ CPow (10 : Int) (59 : Int)) ∧ ([.none, (PyData.bool true), (PyData.bool false), (PyData.int (0 : Int)), (PyData.int (1 : Int)), (PyData.int (-(1 : Int))), (PyData.int (2 : Int)), (PyData.int (8 : Int)), (PyData.int (16 : Int)), (PyData.int ((10 : Int) ^ (12 : Int).toNat)), (PyData.int (((10 : Int) ^ (12 : Int).toNat) + (1 : Int))), (PyData.int ((10 : Int) ^ (59 : Int).toNat)), (PyData.str ("" : Str)), (PyData.str ("0" : Str)), (PyData.str ("triple" : Str)), (eQ PyData.int []), (eQ PyData.int [(0 : Int)])].length + [(eP PyData.int PyData.int ((0 : Int), (1 : Int))), (eL PyData.int []), (PyData.dict []), (eL PyData.int [(0 : Int)]), (eQ PyData.bool [true]), (eQ (eQ PyData.int) ([[]] : (List (List Int))))].length ≤ sizeLine ∧ (w__law_next (23 : Int) n fun (r1_ : Int) (n2_ : Nat) => (Ixr ([.none, (PyData.bool true), (PyData.bool false), (PyData.int (0 : Int)), (PyData.int (1 : Int)), (PyData.int (-(1 : Int))), (PyData.int (2 : Int)), (PyData.int (8 : Int)), (PyData.int (16 : Int)), (PyData.int ((10 : Int) ^ (12 : Int).toNat)), (PyData.int (((10 : Int) ^ (12 : Int).toNat) + (1 : Int))), (PyData.int ((10 : Int) ^ (59 : Int).toNat)), (PyData.str ("" : Str)), (PyData.str ("0" : Str)), (PyData.str ("triple" : Str)), (eQ PyData.int []), (eQ PyData.int [(0 : Int)])] ++ [(eP PyData.int PyData.int ((0 : Int), (1 : Int))), (eL PyData.int []), (PyData.dict []), (eL PyData.int [(0 : Int)]), (eQ PyData.bool [true]), (eQ (eQ PyData.int) ([[]] : (List (List Int))))]) r1_ ∧ (K (gt ([.none, (PyData.bool true), (PyData.bool false), (PyData.int (0 : Int)), (PyData.int (1 : Int)), (PyData.int (-(1 : Int))), (PyData.int (2 : Int)), (PyData.int (8 : Int)), (PyData.int (16 : Int)), (PyData.int ((10 : Int) ^ (12 : Int).toNat)), (PyData.int (((10 : Int) ^ (12 : Int).toNat) + (1 : Int))), (PyData.int ((10 : Int) ^ (59 : Int).toNat)), (PyData.str ("" : Str)), (PyData.str ("0" : Str)), (PyData.str ("triple" : Str)), (eQ PyData.int []), (eQ PyData.int [(0 : Int)])] ++ [(eP PyData.int PyData.int ((0 : Int), (1 : Int))), (eL PyData.int []), (PyData.dict []), (eL PyData.int [(0 : Int)]), (eQ PyData.bool [true]), (eQ (eQ PyData.int) ([[]] : (List (List Int))))]) r1_) n2_)))))
def nb__law_odd : AST := (sSeq (sSet 1 (aLst (lCons (oV (aC .none)) (lCons (oV (aC (.bool true))) (lCons (oV (aC (.bool false))) (lCons (oV (aC (.int 0))) (lCons (oV (aC (.int 1))) (lCons (oV (aNeg (oV (aC (.int 1))))) (lCons (oV (aC (.int 2))) (lCons (oV (aC (.int 8))) (lCons (oV (aC (.int 16))) (lCons (oV (a2 vPow (oV (aC (.int 10))) (oV (aC (.int 12))))) (lCons (oV (a2 vAdd (oV (a2 vPow (oV (aC (.int 10))) (oV (aC (.int 12))))) (oV (aC (.int 1))))) (lCons (oV (a2 vPow (oV (aC (.int 10))) (oV (aC (.int 59))))) (lCons (oV (aC (.str ""))) (lCons (oV (aC (.str "0"))) (lCons (oV (aC (.str "triple"))) (lCons (oV (aTup lNil)) (lCons (oV (aTup (lCons (oV (aC (.int 0))) lNil))) lNil)))))))))))))))))))
    (sRet (a2 vIx (oV (a2 vCatL (oVar 1) (oV (aLst (lCons (oV (aTup (lCons (oV (aC (.int 0))) (lCons (oV (aC (.int 1))) lNil)))) (lCons (oV (aLst lNil)) (lCons (oV aDict0) (lCons (oV (aLst (lCons (oV (aC (.int 0))) lNil))) (lCons (oV (aTup (lCons (oV (aC (.bool true))) lNil))) (lCons (oV (aTup (lCons (oV (aTup lNil)) lNil))) lNil)))))))))) (oV (aCall [.deck, .dat] (calm F__law_next) (lCons (oVar 0) (lCons (oV (aC (.int 23))) lNil)))))))
set_option maxHeartbeats 4000000 in
theorem okW__law_odd_b {xp : XP} {D : AEnds} {n : Nat} {K : PyData → Nat → Prop}   (hw : w__law_odd  n K) (hk : ∀ r k, K r k → D.rt r k) : nb__law_odd xp D ⟨[some .deck, none], n⟩ := by
  unfold w__law_odd at hw; unfold nb__law_odd
  exact (c_seq (s_set (g_ev (ev_lst (lv_cons (ov_V ev_c) (lv_cons (ov_V ev_c) (lv_cons (ov_V ev_c) (lv_cons (ov_V ev_c) (lv_cons (ov_V ev_c) (lv_cons (ov_V (ev_neg (ov_V ev_c) rfl)) (lv_cons (ov_V ev_c) (lv_cons (ov_V ev_c) (lv_cons (ov_V ev_c) (lv_cons (ov_V (ev_a2 (ov_V ev_c) (ov_V ev_c) rfl rfl (vf_powI hw.1.1))) (lv_cons (ov_V (ev_a2 (ov_V (ev_a2 (ov_V ev_c) (ov_V ev_c) rfl rfl (vf_powI hw.1.2.1))) (ov_V ev_c) rfl rfl vf_addI)) (lv_cons (ov_V (ev_a2 (ov_V ev_c) (ov_V ev_c) rfl rfl (vf_powI hw.1.2.2))) (lv_cons (ov_V ev_c) (lv_cons (ov_V ev_c) (lv_cons (ov_V ev_c) (lv_cons (ov_V (ev_tup lv_nil (fun _ q => q) rfl)) (lv_cons (ov_V (ev_tup (lv_cons (ov_V ev_c) lv_nil) (fun _ q => q) rfl)) lv_nil))))))))))))))))) (fun _ q => q) rfl) (n_st (s' := ⟨[some .deck, some (.dat (eL eD [.none, (PyData.bool true), (PyData.bool false), (PyData.int (0 : Int)), (PyData.int (1 : Int)), (PyData.int (-(1 : Int))), (PyData.int (2 : Int)), (PyData.int (8 : Int)), (PyData.int (16 : Int)), (PyData.int ((10 : Int) ^ (12 : Int).toNat)), (PyData.int (((10 : Int) ^ (12 : Int).toNat) + (1 : Int))), (PyData.int ((10 : Int) ^ (59 : Int).toNat)), (PyData.str ("" : Str)), (PyData.str ("0" : Str)), (PyData.str ("triple" : Str)), (eQ PyData.int []), (eQ PyData.int [(0 : Int)])]))], n⟩) rfl (c_aft (s_ret (g_a2 (g_ov (ov_V (ev_a2 (ov_dat 1 rfl) (ov_V (ev_lst (lv_cons (ov_V (ev_tup (lv_cons (ov_V ev_c) (lv_cons (ov_V ev_c) lv_nil)) (fun _ q => q) rfl)) (lv_cons (ov_V (ev_lst lv_nil (fun _ q => q) rfl)) (lv_cons (ov_V ev_dict0) (lv_cons (ov_V (ev_lst (lv_cons (ov_V ev_c) lv_nil) (fun _ q => q) rfl)) (lv_cons (ov_V (ev_tup (lv_cons (ov_V ev_c) lv_nil) (fun _ q => q) rfl)) (lv_cons (ov_V (ev_tup (lv_cons (ov_V (ev_tup lv_nil (fun _ q => q) rfl)) lv_nil) (fun _ q => q) rfl)) lv_nil)))))) (fun _ q => q) rfl)) rfl rfl (vf_catL (f := eD) hw.2.1))) (g_V (g_call (g_lcons (g_ov (ov_deck 0 rfl) (g_lcons (g_ov (ov_V ev_c) (g_lnil (g_rm (fun _ q => q) (okW__law_next (23 : Int) hw.2.2 (fun r1_ n2_ hw3_ => (g_op rfl rfl (vf_ixL (f := eD) hw3_.1) (hk (gt ([.none, (PyData.bool true), (PyData.bool false), (PyData.int (0 : Int)), (PyData.int (1 : Int)), (PyData.int (-(1 : Int))), (PyData.int (2 : Int)), (PyData.int (8 : Int)), (PyData.int (16 : Int)), (PyData.int ((10 : Int) ^ (12 : Int).toNat)), (PyData.int (((10 : Int) ^ (12 : Int).toNat) + (1 : Int))), (PyData.int ((10 : Int) ^ (59 : Int).toNat)), (PyData.str ("" : Str)), (PyData.str ("0" : Str)), (PyData.str ("triple" : Str)), (eQ PyData.int []), (eQ PyData.int [(0 : Int)])] ++ [(eP PyData.int PyData.int ((0 : Int), (1 : Int))), (eL PyData.int []), (PyData.dict []), (eL PyData.int [(0 : Int)]), (eQ PyData.bool [true]), (eQ (eQ PyData.int) ([[]] : (List (List Int))))]) r1_) n2_ hw3_.2))))))))))))))))))))
theorem okW__law_odd {n : Nat} {Q : PyData → Nat → Prop} {X : XD → Nat → Prop} {K : PyData → Nat → Prop}  (hw : w__law_odd  n K) (hk : ∀ r k, K r k → Q r k) : F__law_odd [PyData.none] n Q X := by
  unfold F__law_odd
  exact okW__law_odd_b (xp := fun x s => X x s.n) (D := { nx := fun s => Q .none s.n, rt := Q })  hw hk
end TR
namespace TR
open PySem PySem.Spec PyProof.Rows L2
theorem odd_w {n : Nat} {K : PyData → Nat → Prop} (hn : n ≤ 900000) (h : ∀ d, d ∈ oddL → Wf 2 2 d → K d (n + 1)) : w__law_odd n K := by
  refine ⟨⟨by unfold CPow; decide, by unfold CPow; decide, by unfold CPow; decide⟩, lim (by decide), by omega, by decide, by decide, fun r r0 r1 => ?_⟩
  have hx : Ixr oddL r := ⟨r0, r1⟩
  exact ⟨hx, h _ (gt_mem hx) (oddL_wf _ (gt_mem hx))⟩
end TR
namespace TR
open PySem PySem.Spec PyProof.Rows L2
set_option maxHeartbeats 4000000 in
def w_law_s5 (k3_ : (Unit) → Nat → Prop) (b3 : (Int × (List ((List Int) × Int)))) (b4 : Str) (n : Nat) (K : Bool → Nat → Prop) : Prop := (Shw (eP PyData.int (eQ (eP (eQ PyData.int) PyData.int)) b3) ∧ (((!decide ((PyData.shown (eP PyData.int (eQ (eP (eQ PyData.int) PyData.int)) b3)) = b4)) = true → (K false n)) ∧ ((!decide ((PyData.shown (eP PyData.int (eQ (eP (eQ PyData.int) PyData.int)) b3)) = b4)) = false → (k3_ () n))))
def nb_law_s5 (cc : Nat → Addr) : AST := (sIf (tV (a2 vNeS (oV (aBlt fRepr (lCons (oVar 3) lNil))) (oVar 4)))
    (sRet (aC (.bool false)))
    sNx)
set_option maxHeartbeats 4000000 in
theorem okW_law_s5 (cc : Nat → Addr) (hcc : Inj cc 3) {xp : XP} {D : AEnds} {n : Nat} {K : Bool → Nat → Prop} {N BK : AS → Prop} (k3_ : (Unit) → Nat → Prop) (b3 : (Int × (List ((List Int) × Int)))) (b4 : Str) (y2 : Option AV) (y5 : Option AV) (y6 : Option AV) (y7 : Option AV) (hw : w_law_s5 k3_ b3 b4 n K) (hN5_ : ∀ w n s, (fun (w1_ : Unit) (n4_ : Nat) (s : AS) => ∃ (q8_2 : Option AV) (q8_3 : Option AV) (q8_4 : Option AV) (q8_5 : Option AV) (q8_6 : Option AV) (q8_7 : Option AV), s = ⟨[none, some .deck, q8_2, q8_3, q8_4, q8_5, q8_6, q8_7], n4_⟩) w n s → k3_ w n → N s) (hk : ∀ r k, K r k → D.rt (PyData.bool r) k) : nb_law_s5 cc xp { D with nx := N, ct := N, bk := BK } ⟨[none, some .deck, y2, some (.dat (eP PyData.int (eQ (eP (eQ PyData.int) PyData.int)) b3)), some (.dat (PyData.str b4)), y5, y6, y7], n⟩ := by
  unfold w_law_s5 at hw; unfold nb_law_s5
  exact (s_if (g_tv (tv_V (ev_a2 (ov_V (ev_blt (lv_cons (ov_dat 3 rfl) lv_nil) (rsl_cons rfl (fun _ q => q)) (fv_repr hw.1))) (ov_dat 4 rfl) rfl rfl vf_neS)) (g_ite (fun h34_ => (s_ret (g_ev ev_c (hk false n (hw.2.1 h34_))))) (fun h34_ => (c_pass (hN5_ () n _ ⟨y2, some (.dat (eP PyData.int (eQ (eP (eQ PyData.int) PyData.int)) b3)), some (.dat (PyData.str b4)), y5, y6, y7, rfl⟩ (hw.2.2 h34_)))))))
set_option maxHeartbeats 4000000 in
def w_law_s4 (k3_ : (Unit) → Nat → Prop) (b3 : (Int × (List ((List Int) × Int)))) (b4 : Str) (b5 : Int) (n : Nat) (K : Bool → Nat → Prop) : Prop := (w__law_odd  n fun (r20_ : PyData) (n21_ : Nat) => (forW (fun (k24_ : (Unit) → Nat → Prop) (x23_ : PyData) (w22_ : Unit) (n25_ : Nat) => (((!(v__law_whole x23_)) = false → x23_ = (PyData.int (dI x23_))) ∧ ((((!(v__law_whole x23_)) || (!((decide ((0 : Int) ≤ (dI x23_))) && (decide ((dI x23_) < b5))))) = true → ((C__law_told b3 x23_ ∧ Shw (v__law_told b3 x23_) ∧ Shw (eL eD [(PyData.str ("taster" : Str)), x23_])) ∧ (((!decide ((PyData.shown (v__law_told b3 x23_)) = (PyData.shown (eL eD [(PyData.str ("taster" : Str)), x23_])))) = true → (K false n25_)) ∧ ((!decide ((PyData.shown (v__law_told b3 x23_)) = (PyData.shown (eL eD [(PyData.str ("taster" : Str)), x23_])))) = false → (k24_ () n25_))))) ∧ (((!(v__law_whole x23_)) || (!((decide ((0 : Int) ≤ (dI x23_))) && (decide ((dI x23_) < b5))))) = false → (k24_ () n25_))))) (fun (w22_ : Unit) (n25_ : Nat) => (w_law_s5 k3_ b3 b4 n25_ K)) [(PyData.int b5), (PyData.int (-(1 : Int))), (PyData.bool true), .none, r20_, (eQ PyData.int [(0 : Int)])] () n21_))
def nb_law_s4 (cc : Nat → Addr) : AST := (sSeq (sFor (iSeq (oV (aLst (lCons (oV (aVar 5)) (lCons (oV (aNeg (oV (aC (.int 1))))) (lCons (oV (aC (.bool true))) (lCons (oV (aC .none)) (lCons (oV (aCall [.deck] (calm F__law_odd) (lCons (oVar 1) lNil))) (lCons (oV (aTup (lCons (oV (aC (.int 0))) lNil))) lNil))))))))) (bNm 7)
    (sIf (tOrA (tNotA (tTruA (oV (aCall0 [.dat] (calm F__law_whole) (lCons (oV (aVar 7)) lNil))))) (tNotA (tV (a3 vLe vLt (oV (aC (.int 0))) (oVar 7) (oVar 5)))))
    (sIf (tV (a2 vNeS (oV (aBlt fRepr (lCons (oV (aCall0 [.dat, .dat] (calm (F__law_told cc)) (lCons (oV (aVar 3)) (lCons (oV (aVar 7)) lNil)))) lNil))) (oV (aBlt fRepr (lCons (oV (aLst (lCons (oV (aC (.str "taster"))) (lCons (oV (aVar 7)) lNil)))) lNil)))))
    (sRet (aC (.bool false)))
    sNx)
    sNx))
    (sIf (tV (a2 vNeS (oV (aBlt fRepr (lCons (oVar 3) lNil))) (oVar 4)))
    (sRet (aC (.bool false)))
    sNx))
set_option maxHeartbeats 4000000 in
theorem okW_law_s4 (cc : Nat → Addr) (hcc : Inj cc 3) {xp : XP} {D : AEnds} {n : Nat} {K : Bool → Nat → Prop} {N BK : AS → Prop} (k3_ : (Unit) → Nat → Prop) (b3 : (Int × (List ((List Int) × Int)))) (b4 : Str) (b5 : Int) (y2 : Option AV) (y6 : Option AV) (y7 : Option AV) (hw : w_law_s4 k3_ b3 b4 b5 n K) (hN5_ : ∀ w n s, (fun (w1_ : Unit) (n4_ : Nat) (s : AS) => ∃ (q8_2 : Option AV) (q8_3 : Option AV) (q8_4 : Option AV) (q8_5 : Option AV) (q8_6 : Option AV) (q8_7 : Option AV), s = ⟨[none, some .deck, q8_2, q8_3, q8_4, q8_5, q8_6, q8_7], n4_⟩) w n s → k3_ w n → N s) (hk : ∀ r k, K r k → D.rt (PyData.bool r) k) : nb_law_s4 cc xp { D with nx := N, ct := N, bk := BK } ⟨[none, some .deck, y2, some (.dat (eP PyData.int (eQ (eP (eQ PyData.int) PyData.int)) b3)), some (.dat (PyData.str b4)), some (.dat (PyData.int b5)), y6, y7], n⟩ := by
  unfold w_law_s4 at hw; unfold nb_law_s4
  exact (c_seq (s_forV (g_lst (g_lcons (g_ov (ov_V (ev_var 5 rfl)) (g_lcons (g_ov (ov_V (ev_neg (ov_V ev_c) rfl)) (g_lcons (g_ov (ov_V ev_c) (g_lcons (g_ov (ov_V ev_c) (g_lcons (g_V (g_call (g_lcons (g_ov (ov_deck 1 rfl) (g_lnil (g_rm (fun _ q => q) (okW__law_odd  hw (fun r20_ n21_ hw35_ => (g_lcons (g_ov (ov_V (ev_tup (lv_cons (ov_V ev_c) lv_nil) (fun _ q => q) rfl)) (g_lnil (g_rv (fun _ q => q) ⟨g_sz rfl, (forW_ok eD (fun (w22_ : Unit) (n25_ : Nat) (s : AS) => ∃ (q29_7 : Option AV), s = ⟨[none, some .deck, y2, some (.dat (eP PyData.int (eQ (eP (eQ PyData.int) PyData.int)) b3)), some (.dat (PyData.str b4)), some (.dat (PyData.int b5)), y6, q29_7], n25_⟩) (fun x23_ w22_ n25_ s_ k24_ N_ hi_ hw27_ hN26_ => by
    obtain ⟨q29_7, e_⟩ := hi_
    subst e_
    exact (g_bv ((bv_nm 7).to rfl) (s_if (g_tv (tv_or (tv_not (tv_tru (ov_V (ev_call0 (lv_cons (ov_V (ev_var 7 rfl)) lv_nil) (fun _ q => q) (okV__law_whole x23_))) rfl tru_B)) (fun h30_ => (tv_not (tv_V (ev_a3 (ov_V ev_c) (ov_cast (ov_dat 7 rfl) (hw27_.1 h30_)) rfl rfl vf_leI (fun h31_ => (ov_dat 5 rfl)) rfl (fun h31_ => vf_ltI)))))) (g_ite (fun h32_ => (s_if (g_tv (tv_V (ev_a2 (ov_V (ev_blt (lv_cons (ov_V (ev_call0 (lv_cons (ov_V (ev_var 3 rfl)) (lv_cons (ov_V (ev_var 7 rfl)) lv_nil)) (fun _ q => q) (okV__law_told cc hcc b3 x23_ (hw27_.2.1 h32_).1.1))) lv_nil) (rsl_cons rfl (fun _ q => q)) (fv_repr (hw27_.2.1 h32_).1.2.1))) (ov_V (ev_blt (lv_cons (ov_V (ev_lst (lv_cons (ov_V ev_c) (lv_cons (ov_V (ev_var 7 rfl)) lv_nil)) (fun _ q => q) rfl)) lv_nil) (rsl_cons rfl (fun _ q => q)) (fv_repr (hw27_.2.1 h32_).1.2.2))) rfl rfl vf_neS)) (g_ite (fun h33_ => (s_ret (g_ev ev_c (hk false n25_ ((hw27_.2.1 h32_).2.1 h33_))))) (fun h33_ => (c_pass (hN26_ () n25_ _ ⟨some (.dat x23_), rfl⟩ ((hw27_.2.1 h32_).2.2 h33_)))))))) (fun h32_ => (c_pass (hN26_ () n25_ _ ⟨some (.dat x23_), rfl⟩ (hw27_.2.2 h32_))))))))) (fun w22_ n25_ s_ hi_ ha28_ => by
    obtain ⟨q29_7, e_⟩ := hi_
    subst e_
    exact (c_aft (okW_law_s5 cc hcc k3_ b3 b4 (y2) (some (.dat (PyData.int b5))) (y6) (q29_7) ha28_ hN5_ hk))) _ _ _ _ ⟨y7, rfl⟩ hw35_)⟩))))))))))))))))))))))))
set_option maxHeartbeats 4000000 in
def w_law_s3 (k3_ : (Unit) → Nat → Prop) (b3 : (Int × (List ((List Int) × Int)))) (b4 : Str) (b5 : Int) (n : Nat) (K : Bool → Nat → Prop) : Prop := (Rg b5 ∧ (forW (fun (k13_ : (Unit) → Nat → Prop) (x12_ : Int) (w11_ : Unit) (n14_ : Nat) => ((C__law_told b3 (PyData.int x12_) ∧ C__law_due b3 x12_ ∧ C__law_same (v__law_told b3 (PyData.int x12_)) (eQ (eQ PyData.int) (v__law_due b3 x12_))) ∧ (((!(v__law_same (v__law_told b3 (PyData.int x12_)) (eQ (eQ PyData.int) (v__law_due b3 x12_)))) = true → (K false n14_)) ∧ ((!(v__law_same (v__law_told b3 (PyData.int x12_)) (eQ (eQ PyData.int) (v__law_due b3 x12_)))) = false → (k13_ () n14_))))) (fun (w11_ : Unit) (n14_ : Nat) => (w_law_s4 k3_ b3 b4 b5 n14_ K)) (irange 0 b5) () n))
def nb_law_s3 (cc : Nat → Addr) : AST := (sSeq (sFor (iRange1 (lCons (oVar 5) lNil)) (bNm 6)
    (sIf (tNotA (tTruA (oV (aCall0 [.dat, .dat] (calm (F__law_same 6)) (lCons (oV (aCall0 [.dat, .dat] (calm (F__law_told cc)) (lCons (oV (aVar 3)) (lCons (oV (aVar 6)) lNil)))) (lCons (oV (aCall0 [.dat, .dat] (calm F__law_due) (lCons (oV (aVar 3)) (lCons (oV (aVar 6)) lNil)))) lNil))))))
    (sRet (aC (.bool false)))
    sNx))
    (sSeq (sFor (iSeq (oV (aLst (lCons (oV (aVar 5)) (lCons (oV (aNeg (oV (aC (.int 1))))) (lCons (oV (aC (.bool true))) (lCons (oV (aC .none)) (lCons (oV (aCall [.deck] (calm F__law_odd) (lCons (oVar 1) lNil))) (lCons (oV (aTup (lCons (oV (aC (.int 0))) lNil))) lNil))))))))) (bNm 7)
    (sIf (tOrA (tNotA (tTruA (oV (aCall0 [.dat] (calm F__law_whole) (lCons (oV (aVar 7)) lNil))))) (tNotA (tV (a3 vLe vLt (oV (aC (.int 0))) (oVar 7) (oVar 5)))))
    (sIf (tV (a2 vNeS (oV (aBlt fRepr (lCons (oV (aCall0 [.dat, .dat] (calm (F__law_told cc)) (lCons (oV (aVar 3)) (lCons (oV (aVar 7)) lNil)))) lNil))) (oV (aBlt fRepr (lCons (oV (aLst (lCons (oV (aC (.str "taster"))) (lCons (oV (aVar 7)) lNil)))) lNil)))))
    (sRet (aC (.bool false)))
    sNx)
    sNx))
    (sIf (tV (a2 vNeS (oV (aBlt fRepr (lCons (oVar 3) lNil))) (oVar 4)))
    (sRet (aC (.bool false)))
    sNx)))
set_option maxHeartbeats 4000000 in
theorem okW_law_s3 (cc : Nat → Addr) (hcc : Inj cc 3) {xp : XP} {D : AEnds} {n : Nat} {K : Bool → Nat → Prop} {N BK : AS → Prop} (k3_ : (Unit) → Nat → Prop) (b3 : (Int × (List ((List Int) × Int)))) (b4 : Str) (b5 : Int) (y2 : Option AV) (y6 : Option AV) (y7 : Option AV) (hw : w_law_s3 k3_ b3 b4 b5 n K) (hN5_ : ∀ w n s, (fun (w1_ : Unit) (n4_ : Nat) (s : AS) => ∃ (q8_2 : Option AV) (q8_3 : Option AV) (q8_4 : Option AV) (q8_5 : Option AV) (q8_6 : Option AV) (q8_7 : Option AV), s = ⟨[none, some .deck, q8_2, q8_3, q8_4, q8_5, q8_6, q8_7], n4_⟩) w n s → k3_ w n → N s) (hk : ∀ r k, K r k → D.rt (PyData.bool r) k) : nb_law_s3 cc xp { D with nx := N, ct := N, bk := BK } ⟨[none, some .deck, y2, some (.dat (eP PyData.int (eQ (eP (eQ PyData.int) PyData.int)) b3)), some (.dat (PyData.str b4)), some (.dat (PyData.int b5)), y6, y7], n⟩ := by
  unfold w_law_s3 at hw; unfold nb_law_s3
  exact (c_seq (s_for PyData.int (fun (w11_ : Unit) (n14_ : Nat) (s : AS) => ∃ (q18_6 : Option AV), s = ⟨[none, some .deck, y2, some (.dat (eP PyData.int (eQ (eP (eQ PyData.int) PyData.int)) b3)), some (.dat (PyData.str b4)), some (.dat (PyData.int b5)), q18_6, y7], n14_⟩) (iv_range1 (lv_cons (ov_dat 5 rfl) lv_nil) (fun _ q => q) hw.1) ⟨y6, rfl⟩ hw.2 (fun x12_ w11_ n14_ s_ k13_ N_ hi_ hw16_ hN15_ => by
    obtain ⟨q18_6, e_⟩ := hi_
    subst e_
    exact (g_bv ((bv_nm 6).to rfl) (s_if (g_tv (tv_not (tv_tru (ov_V (ev_call0 (lv_cons (ov_V (ev_call0 (lv_cons (ov_V (ev_var 3 rfl)) (lv_cons (ov_V (ev_var 6 rfl)) lv_nil)) (fun _ q => q) (okV__law_told cc hcc b3 (PyData.int x12_) hw16_.1.1))) (lv_cons (ov_V (ev_call0 (lv_cons (ov_V (ev_var 3 rfl)) (lv_cons (ov_V (ev_var 6 rfl)) lv_nil)) (fun _ q => q) (okV__law_due b3 x12_ hw16_.1.2.1))) lv_nil)) (fun _ q => q) (okV__law_same (v__law_told b3 (PyData.int x12_)) (eQ (eQ PyData.int) (v__law_due b3 x12_)) hw16_.1.2.2))) rfl tru_B)) (g_ite (fun h19_ => (s_ret (g_ev ev_c (hk false n14_ (hw16_.2.1 h19_))))) (fun h19_ => (c_pass (hN15_ () n14_ _ ⟨some (.dat (PyData.int x12_)), rfl⟩ (hw16_.2.2 h19_))))))))) (fun w11_ n14_ s_ hi_ ha17_ => by
    obtain ⟨q18_6, e_⟩ := hi_
    subst e_
    exact (c_aft (okW_law_s4 cc hcc k3_ b3 b4 b5 (y2) (q18_6) (y7) ha17_ hN5_ hk)))))
set_option maxHeartbeats 4000000 in
def w_law_s2 (k3_ : (Unit) → Nat → Prop) (b3 : (Int × (List ((List Int) × Int)))) (b4 : Str) (n : Nat) (K : Bool → Nat → Prop) : Prop := (w_law_s3 k3_ b3 b4 ((b3.2.length : Nat) : Int) n K)
def nb_law_s2 (cc : Nat → Addr) : AST := (sSeq (sSet 5 (aBlt fLen (lCons (oV (a2 vIx (oVar 3) (oV (aC (.int 1))))) lNil)))
    (sSeq (sFor (iRange1 (lCons (oVar 5) lNil)) (bNm 6)
    (sIf (tNotA (tTruA (oV (aCall0 [.dat, .dat] (calm (F__law_same 6)) (lCons (oV (aCall0 [.dat, .dat] (calm (F__law_told cc)) (lCons (oV (aVar 3)) (lCons (oV (aVar 6)) lNil)))) (lCons (oV (aCall0 [.dat, .dat] (calm F__law_due) (lCons (oV (aVar 3)) (lCons (oV (aVar 6)) lNil)))) lNil))))))
    (sRet (aC (.bool false)))
    sNx))
    (sSeq (sFor (iSeq (oV (aLst (lCons (oV (aVar 5)) (lCons (oV (aNeg (oV (aC (.int 1))))) (lCons (oV (aC (.bool true))) (lCons (oV (aC .none)) (lCons (oV (aCall [.deck] (calm F__law_odd) (lCons (oVar 1) lNil))) (lCons (oV (aTup (lCons (oV (aC (.int 0))) lNil))) lNil))))))))) (bNm 7)
    (sIf (tOrA (tNotA (tTruA (oV (aCall0 [.dat] (calm F__law_whole) (lCons (oV (aVar 7)) lNil))))) (tNotA (tV (a3 vLe vLt (oV (aC (.int 0))) (oVar 7) (oVar 5)))))
    (sIf (tV (a2 vNeS (oV (aBlt fRepr (lCons (oV (aCall0 [.dat, .dat] (calm (F__law_told cc)) (lCons (oV (aVar 3)) (lCons (oV (aVar 7)) lNil)))) lNil))) (oV (aBlt fRepr (lCons (oV (aLst (lCons (oV (aC (.str "taster"))) (lCons (oV (aVar 7)) lNil)))) lNil)))))
    (sRet (aC (.bool false)))
    sNx)
    sNx))
    (sIf (tV (a2 vNeS (oV (aBlt fRepr (lCons (oVar 3) lNil))) (oVar 4)))
    (sRet (aC (.bool false)))
    sNx))))
set_option maxHeartbeats 4000000 in
theorem okW_law_s2 (cc : Nat → Addr) (hcc : Inj cc 3) {xp : XP} {D : AEnds} {n : Nat} {K : Bool → Nat → Prop} {N BK : AS → Prop} (k3_ : (Unit) → Nat → Prop) (b3 : (Int × (List ((List Int) × Int)))) (b4 : Str) (y2 : Option AV) (y5 : Option AV) (y6 : Option AV) (y7 : Option AV) (hw : w_law_s2 k3_ b3 b4 n K) (hN5_ : ∀ w n s, (fun (w1_ : Unit) (n4_ : Nat) (s : AS) => ∃ (q8_2 : Option AV) (q8_3 : Option AV) (q8_4 : Option AV) (q8_5 : Option AV) (q8_6 : Option AV) (q8_7 : Option AV), s = ⟨[none, some .deck, q8_2, q8_3, q8_4, q8_5, q8_6, q8_7], n4_⟩) w n s → k3_ w n → N s) (hk : ∀ r k, K r k → D.rt (PyData.bool r) k) : nb_law_s2 cc xp { D with nx := N, ct := N, bk := BK } ⟨[none, some .deck, y2, some (.dat (eP PyData.int (eQ (eP (eQ PyData.int) PyData.int)) b3)), some (.dat (PyData.str b4)), y5, y6, y7], n⟩ := by
  unfold w_law_s2 at hw; unfold nb_law_s2
  exact (c_seq (s_set (g_ev (ev_blt (lv_cons (ov_V (ev_a2 (ov_dat 3 rfl) (ov_V ev_c) rfl rfl (vf_ixT at_1))) lv_nil) (rsl_cons rfl (fun _ q => q)) (fv_lenQ (f := (eP (eQ PyData.int) PyData.int)))) (n_st (s' := ⟨[none, some .deck, y2, some (.dat (eP PyData.int (eQ (eP (eQ PyData.int) PyData.int)) b3)), some (.dat (PyData.str b4)), some (.dat (PyData.int ((b3.2.length : Nat) : Int))), y6, y7], n⟩) rfl (c_aft (okW_law_s3 cc hcc k3_ b3 b4 ((b3.2.length : Nat) : Int) (y2) (y6) (y7) hw hN5_ hk))))))
set_option maxHeartbeats 4000000 in
def w_law_s1 (k3_ : (Unit) → Nat → Prop) (b3 : (Int × (List ((List Int) × Int)))) (n : Nat) (K : Bool → Nat → Prop) : Prop := (Shw (eP PyData.int (eQ (eP (eQ PyData.int) PyData.int)) b3) ∧ (w_law_s2 k3_ b3 (PyData.shown (eP PyData.int (eQ (eP (eQ PyData.int) PyData.int)) b3)) n K))
def nb_law_s1 (cc : Nat → Addr) : AST := (sSeq (sSet 4 (aBlt fRepr (lCons (oVar 3) lNil)))
    (sSeq (sSet 5 (aBlt fLen (lCons (oV (a2 vIx (oVar 3) (oV (aC (.int 1))))) lNil)))
    (sSeq (sFor (iRange1 (lCons (oVar 5) lNil)) (bNm 6)
    (sIf (tNotA (tTruA (oV (aCall0 [.dat, .dat] (calm (F__law_same 6)) (lCons (oV (aCall0 [.dat, .dat] (calm (F__law_told cc)) (lCons (oV (aVar 3)) (lCons (oV (aVar 6)) lNil)))) (lCons (oV (aCall0 [.dat, .dat] (calm F__law_due) (lCons (oV (aVar 3)) (lCons (oV (aVar 6)) lNil)))) lNil))))))
    (sRet (aC (.bool false)))
    sNx))
    (sSeq (sFor (iSeq (oV (aLst (lCons (oV (aVar 5)) (lCons (oV (aNeg (oV (aC (.int 1))))) (lCons (oV (aC (.bool true))) (lCons (oV (aC .none)) (lCons (oV (aCall [.deck] (calm F__law_odd) (lCons (oVar 1) lNil))) (lCons (oV (aTup (lCons (oV (aC (.int 0))) lNil))) lNil))))))))) (bNm 7)
    (sIf (tOrA (tNotA (tTruA (oV (aCall0 [.dat] (calm F__law_whole) (lCons (oV (aVar 7)) lNil))))) (tNotA (tV (a3 vLe vLt (oV (aC (.int 0))) (oVar 7) (oVar 5)))))
    (sIf (tV (a2 vNeS (oV (aBlt fRepr (lCons (oV (aCall0 [.dat, .dat] (calm (F__law_told cc)) (lCons (oV (aVar 3)) (lCons (oV (aVar 7)) lNil)))) lNil))) (oV (aBlt fRepr (lCons (oV (aLst (lCons (oV (aC (.str "taster"))) (lCons (oV (aVar 7)) lNil)))) lNil)))))
    (sRet (aC (.bool false)))
    sNx)
    sNx))
    (sIf (tV (a2 vNeS (oV (aBlt fRepr (lCons (oVar 3) lNil))) (oVar 4)))
    (sRet (aC (.bool false)))
    sNx)))))
set_option maxHeartbeats 4000000 in
theorem okW_law_s1 (cc : Nat → Addr) (hcc : Inj cc 3) {xp : XP} {D : AEnds} {n : Nat} {K : Bool → Nat → Prop} {N BK : AS → Prop} (k3_ : (Unit) → Nat → Prop) (b3 : (Int × (List ((List Int) × Int)))) (y2 : Option AV) (y4 : Option AV) (y5 : Option AV) (y6 : Option AV) (y7 : Option AV) (hw : w_law_s1 k3_ b3 n K) (hN5_ : ∀ w n s, (fun (w1_ : Unit) (n4_ : Nat) (s : AS) => ∃ (q8_2 : Option AV) (q8_3 : Option AV) (q8_4 : Option AV) (q8_5 : Option AV) (q8_6 : Option AV) (q8_7 : Option AV), s = ⟨[none, some .deck, q8_2, q8_3, q8_4, q8_5, q8_6, q8_7], n4_⟩) w n s → k3_ w n → N s) (hk : ∀ r k, K r k → D.rt (PyData.bool r) k) : nb_law_s1 cc xp { D with nx := N, ct := N, bk := BK } ⟨[none, some .deck, y2, some (.dat (eP PyData.int (eQ (eP (eQ PyData.int) PyData.int)) b3)), y4, y5, y6, y7], n⟩ := by
  unfold w_law_s1 at hw; unfold nb_law_s1
  exact (c_seq (s_set (g_ev (ev_blt (lv_cons (ov_dat 3 rfl) lv_nil) (rsl_cons rfl (fun _ q => q)) (fv_repr hw.1)) (n_st (s' := ⟨[none, some .deck, y2, some (.dat (eP PyData.int (eQ (eP (eQ PyData.int) PyData.int)) b3)), some (.dat (PyData.str (PyData.shown (eP PyData.int (eQ (eP (eQ PyData.int) PyData.int)) b3)))), y5, y6, y7], n⟩) rfl (c_aft (okW_law_s2 cc hcc k3_ b3 (PyData.shown (eP PyData.int (eQ (eP (eQ PyData.int) PyData.int)) b3)) (y2) (y5) (y6) (y7) hw.2 hN5_ hk))))))
set_option maxHeartbeats 4000000 in
def w_law  (n : Nat) (K : Bool → Nat → Prop) : Prop := (Rg (8 : Int) ∧ (forW (fun (k3_ : (Unit) → Nat → Prop) (x2_ : Int) (w1_ : Unit) (n4_ : Nat) => (w__law_table (8 : Int) (9 : Int) n4_ fun (r9_ : (Int × (List ((List Int) × Int)))) (n10_ : Nat) => (w_law_s1 k3_ r9_ n10_ K))) (fun (w1_ : Unit) (n4_ : Nat) => (K true n4_)) (irange 0 (8 : Int)) () n))
def nb_law (cc : Nat → Addr) : AST := (sSeq (sFor (iRange1 (lCons (oV (aC (.int 8))) lNil)) (bNm 2)
    (sSeq (sSet 3 (aCall [.deck, .dat, .dat] (calm F__law_table) (lCons (oVar 1) (lCons (oV (aC (.int 8))) (lCons (oV (aC (.int 9))) lNil)))))
    (sSeq (sSet 4 (aBlt fRepr (lCons (oVar 3) lNil)))
    (sSeq (sSet 5 (aBlt fLen (lCons (oV (a2 vIx (oVar 3) (oV (aC (.int 1))))) lNil)))
    (sSeq (sFor (iRange1 (lCons (oVar 5) lNil)) (bNm 6)
    (sIf (tNotA (tTruA (oV (aCall0 [.dat, .dat] (calm (F__law_same 6)) (lCons (oV (aCall0 [.dat, .dat] (calm (F__law_told cc)) (lCons (oV (aVar 3)) (lCons (oV (aVar 6)) lNil)))) (lCons (oV (aCall0 [.dat, .dat] (calm F__law_due) (lCons (oV (aVar 3)) (lCons (oV (aVar 6)) lNil)))) lNil))))))
    (sRet (aC (.bool false)))
    sNx))
    (sSeq (sFor (iSeq (oV (aLst (lCons (oV (aVar 5)) (lCons (oV (aNeg (oV (aC (.int 1))))) (lCons (oV (aC (.bool true))) (lCons (oV (aC .none)) (lCons (oV (aCall [.deck] (calm F__law_odd) (lCons (oVar 1) lNil))) (lCons (oV (aTup (lCons (oV (aC (.int 0))) lNil))) lNil))))))))) (bNm 7)
    (sIf (tOrA (tNotA (tTruA (oV (aCall0 [.dat] (calm F__law_whole) (lCons (oV (aVar 7)) lNil))))) (tNotA (tV (a3 vLe vLt (oV (aC (.int 0))) (oVar 7) (oVar 5)))))
    (sIf (tV (a2 vNeS (oV (aBlt fRepr (lCons (oV (aCall0 [.dat, .dat] (calm (F__law_told cc)) (lCons (oV (aVar 3)) (lCons (oV (aVar 7)) lNil)))) lNil))) (oV (aBlt fRepr (lCons (oV (aLst (lCons (oV (aC (.str "taster"))) (lCons (oV (aVar 7)) lNil)))) lNil)))))
    (sRet (aC (.bool false)))
    sNx)
    sNx))
    (sIf (tV (a2 vNeS (oV (aBlt fRepr (lCons (oVar 3) lNil))) (oVar 4)))
    (sRet (aC (.bool false)))
    sNx)))))))
    (sRet (aC (.bool true))))
set_option maxHeartbeats 4000000 in
theorem okW_law_b (cc : Nat → Addr) (hcc : Inj cc 3) {xp : XP} {D : AEnds} {n : Nat} {K : Bool → Nat → Prop}   (hw : w_law  n K) (hk : ∀ r k, K r k → D.rt (PyData.bool r) k) : nb_law cc xp D ⟨[none, some .deck, none, none, none, none, none, none], n⟩ := by
  unfold w_law at hw; unfold nb_law
  exact (c_seq (s_for PyData.int (fun (w1_ : Unit) (n4_ : Nat) (s : AS) => ∃ (q8_2 : Option AV) (q8_3 : Option AV) (q8_4 : Option AV) (q8_5 : Option AV) (q8_6 : Option AV) (q8_7 : Option AV), s = ⟨[none, some .deck, q8_2, q8_3, q8_4, q8_5, q8_6, q8_7], n4_⟩) (iv_range1 (lv_cons (ov_V ev_c) lv_nil) (fun _ q => q) hw.1) ⟨none, none, none, none, none, none, rfl⟩ hw.2 (fun x2_ w1_ n4_ s_ k3_ N_ hi_ hw6_ hN5_ => by
    obtain ⟨q8_2, q8_3, q8_4, q8_5, q8_6, q8_7, e_⟩ := hi_
    subst e_
    exact (g_bv ((bv_nm 2).to rfl) (c_seq (s_set (g_call (g_lcons (g_ov (ov_deck 1 rfl) (g_lcons (g_ov (ov_V ev_c) (g_lcons (g_ov (ov_V ev_c) (g_lnil (g_rm (fun _ q => q) (okW__law_table (8 : Int) (9 : Int) hw6_ (fun r9_ n10_ hw36_ => (n_st (s' := ⟨[none, some .deck, some (.dat (PyData.int x2_)), some (.dat (eP PyData.int (eQ (eP (eQ PyData.int) PyData.int)) r9_)), q8_4, q8_5, q8_6, q8_7], n10_⟩) rfl (c_aft (okW_law_s1 cc hcc k3_ r9_ (some (.dat (PyData.int x2_))) (q8_4) (q8_5) (q8_6) (q8_7) hw36_ hN5_ hk)))))))))))))))))) (fun w1_ n4_ s_ hi_ ha7_ => by
    obtain ⟨q8_2, q8_3, q8_4, q8_5, q8_6, q8_7, e_⟩ := hi_
    subst e_
    exact (c_aft (s_ret (g_ev ev_c (hk true n4_ ha7_)))))))
theorem law_of (cc : Nat → Addr) (hcc : Inj cc 3) (hw : w_law 0 fun r _ => r = true) : lawF 6 (b_law cc F__law_table (F__law_same 6) F__law_due (F__law_told cc) F__law_odd F__law_whole) := by
  unfold lawF
  exact okW_law_b cc hcc (D := { nx := fun _ => False, rt := fun r _ => r = .bool true }) hw (fun r k e => by rw [e])
end TR
namespace TR
open PySem PySem.Spec PyProof.Rows L2
theorem wf_rk {n : Nat} {rk : List Int} (r : Rank n rk) (hn : n ≤ 8) : Wf 16 1 (.tuple (rk.map PyData.int)) ∧ sz (.tuple (rk.map PyData.int)) ≤ 9 := by
  constructor
  · refine Wf.tup (D := 0) (by rw [List.length_map, r.len]; omega) fun e he => ?_
    obtain ⟨i, hi, rfl⟩ := List.mem_map.mp he
    obtain ⟨b0, b1⟩ := r.bnd hi
    show i.natAbs ≤ 10 ^ 59 + 16
    omega
  · show 1 + szAll (rk.map PyData.int) ≤ 9
    rw [szAll_ints, r.len]
    omega
theorem wf_two {e : PyData} {w : Int} {L D : Nat} (h : Wf L D e) (hL : 2 ≤ L) (hw : w.natAbs ≤ 10 ^ 59) : Wf L (D + 1) (.tuple [e, .int w]) := by
  refine Wf.tup hL fun x hx => ?_
  simp only [List.mem_cons, List.not_mem_nil, or_false] at hx
  rcases hx with rfl | rfl
  · exact h
  · exact Wf.leaf (show w.natAbs ≤ 10 ^ 59 + L by omega)
theorem wf_pair {e : PyData} {w : Int} {L D : Nat} (h : Wf L D e) (hL : 2 ≤ L) (hw : w.natAbs ≤ 10 ^ 59) : Wf L (D + 1) (.tuple [.int w, e]) := by
  refine Wf.tup hL fun x hx => ?_
  simp only [List.mem_cons, List.not_mem_nil, or_false] at hx
  rcases hx with rfl | rfl
  · exact Wf.leaf (show w.natAbs ≤ 10 ^ 59 + L by omega)
  · exact h
theorem big59 {i : Int} (h : i.natAbs ≤ 1000000000001) : i.natAbs ≤ 10 ^ 59 := Nat.le_trans h (by decide)
theorem wf_tas {n : Nat} {t : List Int × Int} (r : Rank n t.1) (hn : n ≤ 8) (h1 : 1 ≤ t.2) (h2 : t.2 ≤ 1000000000000) : Wf 16 2 (tasD t) ∧ sz (tasD t) ≤ 11 := by
  obtain ⟨a, b⟩ := wf_rk r hn
  refine ⟨wf_two a (by decide) (big59 (by omega)), ?_⟩
  show 1 + (sz (.tuple (t.1.map PyData.int)) + (1 + 0)) ≤ 11
  omega
theorem wf_tast {n M : Nat} {ts : Tas} (wf : WfT 8 M n ts) : (∀ e ∈ ts.map tasD, Wf 16 2 e) ∧ szAll (ts.map tasD) ≤ ts.length * 11 := by
  have key : ∀ e ∈ ts.map tasD, Wf 16 2 e ∧ sz e ≤ 11 := fun e he => by
    obtain ⟨t, ht, rfl⟩ := List.mem_map.mp he
    obtain ⟨r, w1, w2⟩ := wf.all t ht
    exact wf_tas r wf.nD w1 w2
  refine ⟨fun e he => (key e he).1, ?_⟩
  have := szAll_le (ts.map tasD) fun e he => (key e he).2
  rw [List.length_map] at this
  exact this
theorem wf_tab {n : Nat} {ts : Tas} (wf : WfT 8 16 n ts) : Wf 16 4 (tabD n ts) ∧ sz (tabD n ts) ≤ 179 := by
  obtain ⟨a, b⟩ := wf_tast wf
  have h1 := wf.lM
  have h2 := wf.nD
  refine ⟨wf_pair (Wf.tup (by rw [List.length_map]; exact h1) a) (by decide) (big59 (by omega)), ?_⟩
  show 1 + (1 + ((1 + szAll (ts.map tasD)) + 0)) ≤ 179
  have : ts.length * 11 ≤ 16 * 11 := Nat.mul_le_mul_right _ h1
  omega
theorem shw_of {d : PyData} {L D S : Nat} (h : Wf L D d) (hL : L ≤ 41) (hD : D ≤ 50) (hs : sz d ≤ S) (hS : S ≤ 20000) : Shw d := by
  obtain ⟨a, b, c⟩ := h.shownS hL
  exact ⟨b, by omega, shown_fits a hs hS⟩
theorem shw_tab {n : Nat} {ts : Tas} (wf : WfT 8 16 n ts) : Shw (tabD n ts) := by
  obtain ⟨a, b⟩ := wf_tab wf
  exact shw_of a (by decide) (by decide) b (by decide)
end TR
namespace TR
open PySem PySem.Spec PyProof.Rows L2
theorem sort_uniq {α : Type} {r : α → α → Prop} (anti : ∀ a b, r a b → r b a → a = b) : ∀ {a b : List α}, a.Perm b → a.Pairwise r → b.Pairwise r → a = b
  | [], _, p, _, _ => p.nil_eq
  | x :: a, [], p, _, _ => absurd p.length_eq (by simp)
  | x :: a, y :: b, p, ha, hb => by
    have hx : x = y := by
      have m1 : x ∈ y :: b := p.mem_iff.mp List.mem_cons_self
      have m2 : y ∈ x :: a := p.mem_iff.mpr List.mem_cons_self
      rcases List.mem_cons.mp m1 with e | m1
      · exact e
      rcases List.mem_cons.mp m2 with e | m2
      · exact e.symm
      exact anti x y ((List.pairwise_cons.mp ha).1 y m2) ((List.pairwise_cons.mp hb).1 x m1)
    subst hx
    rw [sort_uniq anti p.cons_inv (List.pairwise_cons.mp ha).2 (List.pairwise_cons.mp hb).2]
/-- rows of two as pairs -/
abbrev l2 (p : Int × Int) : List Int := [p.1, p.2]
end TR
namespace TR
open PySem PySem.Spec PyProof.Rows L2
theorem forW_all {α : Type} {body : (Unit → Nat → Prop) → α → Unit → Nat → Prop} {after : Unit → Nat → Prop} (P : Nat → Prop) (ha : ∀ n, P n → after () n) : ∀ (l : List α) (n : Nat), P n → (∀ x ∈ l, ∀ k n, P n → (∀ n', P n' → k () n') → body k x () n) → forW body after l () n
  | [], n, h, _ => ha n h
  | x :: l, n, h, hb => hb x List.mem_cons_self _ n h fun n' hn => forW_all P ha l n' hn fun y hy => hb y (List.mem_cons_of_mem _ hy)
theorem forW_m {α : Type} {body : (Unit → Nat → Prop) → α → Unit → Nat → Prop} {after : Unit → Nat → Prop} (c B : Nat) (ha : ∀ n, n ≤ B → after () n) : ∀ (l : List α) (n : Nat), n + c * l.length ≤ B → (∀ x ∈ l, ∀ k n, n + c ≤ B → (∀ n', n' ≤ n + c → k () n') → body k x () n) → forW body after l () n
  | [], n, h, _ => ha n (by simpa using h)
  | x :: l, n, h, hb => by
    rw [List.length_cons, Nat.mul_add, Nat.mul_one] at h
    exact hb x List.mem_cons_self _ n (by omega) fun n' hn => forW_m c B ha l n' (by omega) fun y hy => hb y (List.mem_cons_of_mem _ hy)
theorem rg_small {j : Int} (h : 0 ≤ j ∧ j ≤ 1000) : Rg j := ⟨by omega, by omega⟩
end TR
namespace TR
open PySem PySem.Spec PyProof.Rows L2
abbrev tb (m : Nat) (ts : Tas) : Int × List (List Int × Int) := ((m : Int), ts)
theorem kl {a b : Nat} (h : Nat.blt a b = true) : a < b := Nat.le_of_ble_eq_true h
theorem ll {a b : Nat} (h : Nat.ble a b = true) : a ≤ b := Nat.le_of_ble_eq_true h
/-- an int, within -/
def wholeB (d : PyData) : Bool := isNum d && !isBoo d
theorem wholeB_eq (d : PyData) : wholeB d = true → d = .int (dI d) := by
  cases d <;> intro h <;> first | rfl | cases h
def withinB (d : PyData) (a b : Int) : Bool := wholeB d && (decide (a ≤ dI d) && decide (dI d ≤ b))
theorem withinB_iff {d : PyData} {a b : Int} : withinB d a b = true ↔ ∃ i, d = .int i ∧ a ≤ i ∧ i ≤ b := by
  unfold withinB
  constructor
  · intro h
    rw [Bool.and_eq_true, Bool.and_eq_true, decide_eq_true_eq, decide_eq_true_eq] at h
    exact ⟨dI d, wholeB_eq d h.1, h.2⟩
  · rintro ⟨i, rfl, h⟩
    show (true && (decide (a ≤ i) && decide (i ≤ b))) = true
    simp [h]
theorem all_map {α : Type} (p : α → Bool) (l : List α) : (l.map p).all id = l.all p := by
  rw [List.all_map]; rfl
theorem forV_map {α β ρ : Type} (g : α → β) (after : List β → ρ) : ∀ (l : List α) (w : List β), forV (fun (k : List β → ρ) (x : α) (w : List β) => k (w ++ [g x])) after l w = after (w ++ l.map g)
  | [], w => by show after w = _; rw [List.map_nil, List.append_nil]
  | x :: l, w => by
    show forV _ after l (w ++ [g x]) = _
    rw [forV_map g after l, List.map_cons, List.append_assoc]; rfl
theorem forV_C {α σ : Type} {body : (σ → Prop) → α → σ → Prop} {after : σ → Prop} (Inv : List α → σ → Prop) (ha : ∀ w, Inv [] w → after w) : ∀ (l : List α) (w : σ), Inv l w → (∀ x l' w k, (∃ l0, l = l0 ++ x :: l') → Inv (x :: l') w → (∀ w', Inv l' w' → k w') → body k x w) → forV body after l w
  | [], w, h, _ => ha w h
  | x :: l, w, h, hb => hb x l w _ ⟨[], rfl⟩ h fun w' h' => forV_C Inv ha l w' h' fun y l' w k ⟨l0, e⟩ hi hk => hb y l' w k ⟨x :: l0, by rw [e]; rfl⟩ hi hk
theorem enN_len {α : Type} (l : List α) : (enN l).length = l.length := by unfold enN; rw [List.length_map, List.length_zipIdx]
theorem shw_tag {s : Str} {d : PyData} {L D S : Nat} (hs : s.length ≤ 69 ∧ ∀ c ∈ s.cps.toList, c < 16 ^ 8) (h : Wf L D d) (hL : 2 ≤ L) (hL2 : L ≤ 41) (hD : D ≤ 40) (hz : sz d ≤ S) (hS : S ≤ 15000) : Shw (.list [.str s, d]) := by
  have hw : Wf L (D + 1) (.list [.str s, d]) := Wf.lst hL fun e he => by
    simp only [List.mem_cons, List.not_mem_nil, or_false] at he
    rcases he with rfl | rfl
    · exact Wf.leaf (show leafOk L (.str s) from hs)
    · exact h
  refine shw_of (S := S + 2) hw hL2 (by omega) ?_ (by omega)
  show 1 + (1 + (sz d + 0)) ≤ S + 2
  omega
end TR
namespace TR
open PySem PySem.Spec PyProof.Rows L2
instance (j : Int) : Decidable (Rg j) := by unfold Rg; infer_instance
theorem upto8 {P : Nat → Prop} (h : P 0 ∧ P 1 ∧ P 2 ∧ P 3 ∧ P 4 ∧ P 5 ∧ P 6 ∧ P 7 ∧ P 8) {m : Nat} (hm : m ≤ 8) : P m := by
  obtain ⟨h0, h1, h2, h3, h4, h5, h6, h7, h8⟩ := h
  rcases (by omega : m = 0 ∨ m = 1 ∨ m = 2 ∨ m = 3 ∨ m = 4 ∨ m = 5 ∨ m = 6 ∨ m = 7 ∨ m = 8) with rfl | rfl | rfl | rfl | rfl | rfl | rfl | rfl | rfl <;> assumption
theorem allpairs_v : ∀ {m : Nat}, m ≤ 8 → v_all_pairs (m : Int) = (pairs m).map fun p => [p.1, p.2] := fun h => upto8 (P := fun m => v_all_pairs (m : Int) = (pairs m).map fun p => [p.1, p.2]) (by decide +kernel) h
theorem lpairs_v : ∀ {m : Nat}, m ≤ 8 → v__law_pairs (m : Int) = pairs m := fun h => upto8 (P := fun m => v__law_pairs (m : Int) = pairs m) (by decide +kernel) h
theorem allpairs_C : ∀ {m : Nat}, m ≤ 8 → C_all_pairs (m : Int) := fun h => by
  refine upto8 (P := fun m => C_all_pairs (m : Int)) ?_ h
  unfold C_all_pairs C_ascending_tuples C_ascending_tuples_s1
  rw [show irange 0 2 = [0, 1] from rfl]
  simp only [forV]
  set_option synthInstance.maxHeartbeats 400000 in
  set_option synthInstance.maxSize 4000 in
  refine ⟨?_, ?_, ?_, ?_, ?_, ?_, ?_, ?_, ?_⟩ <;> decide +kernel
theorem lpairs_C : ∀ {m : Nat}, m ≤ 8 → C__law_pairs (m : Int) := fun h => by
  refine upto8 (P := fun m => C__law_pairs (m : Int)) ?_ h
  unfold C__law_pairs C__law_pairs_s1
  rw [show irange 0 ((0 : Nat) : Int) = [] from rfl, show irange 0 ((1 : Nat) : Int) = [0] from rfl, show irange 0 ((2 : Nat) : Int) = [0, 1] from rfl, show irange 0 ((3 : Nat) : Int) = [0, 1, 2] from rfl, show irange 0 ((4 : Nat) : Int) = [0, 1, 2, 3] from rfl, show irange 0 ((5 : Nat) : Int) = [0, 1, 2, 3, 4] from rfl, show irange 0 ((6 : Nat) : Int) = [0, 1, 2, 3, 4, 5] from rfl, show irange 0 ((7 : Nat) : Int) = [0, 1, 2, 3, 4, 5, 6] from rfl, show irange 0 ((8 : Nat) : Int) = [0, 1, 2, 3, 4, 5, 6, 7] from rfl]
  simp only [forV]
  set_option synthInstance.maxHeartbeats 400000 in
  set_option synthInstance.maxSize 4000 in
  refine ⟨?_, ?_, ?_, ?_, ?_, ?_, ?_, ?_, ?_⟩ <;> decide +kernel
theorem pr_b {m : Nat} {p : Int × Int} (h : p ∈ pairs m) : 0 ≤ p.1 ∧ p.1 < m ∧ 0 ≤ p.2 ∧ p.2 < m ∧ p.1 ≠ p.2 := by
  obtain ⟨h0, h1, h2⟩ := mem_pairs h
  exact ⟨h0, by omega, by omega, h2, by omega⟩
theorem pairs_l28 : ∀ m, m ≤ 8 → (pairs m).length ≤ 28 := by decide
theorem plen {m : Nat} (h : m ≤ 8) : (pairs m).length ≤ 28 := pairs_l28 m h
end TR
namespace TR
open PySem PySem.Spec PyProof.Rows L2
/-! ### sides alone -/
abbrev Sd2 (ts : Tas) (a b : Int) : List Bool := ts.map fun x => decide (((x.1.idxOf a : Nat) : Int) < ((x.1.idxOf b : Nat) : Int))
theorem sides_eq (m : Nat) (ts : Tas) (a b : Int) : v_sides (tb m ts) [a, b] = Sd2 ts a b := by
  unfold v_sides v_rankings_of
  rw [List.map_map]; rfl
theorem lsides_eq {m : Nat} (m8 : m ≤ 8) (ts : Tas) : v__law_sides (tb m ts) = (pairs m).map fun p => Sd2 ts p.1 p.2 := by
  unfold v__law_sides v__law_sides_s1
  rw [lpairs_v m8]
  have := forV_map (fun p : Int × Int => Sd2 ts p.1 p.2) (fun w => w) (pairs m) []
  refine Eq.trans this ?_
  rw [List.nil_append]
theorem lsides_C {m M : Nat} {ts : Tas} (wf : WfT 8 M m ts) (hM : M ≤ 100) : C__law_sides (tb m ts) := by
  have m8 := wf.nD
  have lM := wf.lM
  have hp := plen m8
  refine ⟨lpairs_C m8, ?_⟩
  rw [show (tb m ts).1 = (m : Int) from rfl, lpairs_v m8]
  refine forV_C (fun l' (w : List (List Bool)) => w.length + l'.length = (pairs m).length) (fun _ _ => trivial) (pairs m) [] (by simp) fun p l' w k ⟨l0, e⟩ hi hk => ?_
  have hx : p ∈ pairs m := by rw [e]; simp
  obtain ⟨a, b, c, d, _⟩ := pr_b hx
  rw [List.length_cons] at hi
  exact ⟨lim (by show ts.length ≤ 1000; omega), fun x hx => ⟨(wf.all x hx).1.mem a b, (wf.all x hx).1.mem c d⟩, Nat.lt_of_lt_of_le (by omega : w.length < 29) (by decide), hk _ (by rw [List.length_append]; simp only [List.length_cons, List.length_nil]; omega)⟩
abbrev sd (ts : Tas) (p : Int × Int) (x : Nat) : Bool := (Sd2 ts p.1 p.2).getD x false
theorem sides_C {m M : Nat} {ts : Tas} (wf : WfT 8 M m ts) (hM : M ≤ 100) {p : Int × Int} (hp : p ∈ pairs m) : C_sides (tb m ts) [p.1, p.2] := by
  have lM := wf.lM
  obtain ⟨a, b, c, d, _⟩ := pr_b hp
  refine ⟨rfl, lim (by show ts.length ≤ 1000; omega), lim (by show (ts.map fun x => x.1).length ≤ 1000; rw [List.length_map]; omega), fun x hx => ?_⟩
  have hx : x ∈ ts.map fun x => x.1 := hx
  obtain ⟨t, ht, rfl⟩ := List.mem_map.mp hx
  exact ⟨(wf.all t ht).1.mem a b, (wf.all t ht).1.mem c d⟩
theorem irM {a b x : Int} : x ∈ irange a b ↔ a ≤ x ∧ x < b := by
  unfold irange
  rw [List.mem_map]
  constructor
  · rintro ⟨k, hk, rfl⟩
    have := List.mem_range.mp hk
    omega
  · rintro ⟨h1, h2⟩
    exact ⟨(x - a).toNat, List.mem_range.mpr (by omega), by omega⟩
theorem enN_ir {α : Type} [Inhabited α] (l : List α) : enN l = (irange 0 ((l.length : Nat) : Int)).map fun d => (d, gt l d) := by
  unfold enN irange
  rw [List.map_map]
  refine List.ext_getElem (by rw [List.length_map, List.length_zipIdx, List.length_map, List.length_range]; omega) fun i h1 h2 => ?_
  rw [List.getElem_map, List.getElem_zipIdx, List.getElem_map, List.getElem_range]
  have hi : i < l.length := by rw [List.length_map, List.length_zipIdx] at h1; exact h1
  show (((0 + i : Nat) : Int), l[i]) = ((0 : Int) + (i : Nat), gt l ((0 : Int) + (i : Nat)))
  unfold gt
  rw [show ((0 : Int) + (i : Nat)).toNat = i by omega, List.getD_eq_getElem?_getD, List.getElem?_eq_getElem hi]
  simp
end TR
namespace TR
open PySem PySem.Spec PyProof.Rows L2
/-! ### sorted lists of rankings -/
theorem srt_perm (l : List (List Int)) : (srtN (eQ PyData.int) l).Perm l := List.mergeSort_perm _ _
theorem lt_rows {a b : List Int} : PySem.W.dataLt (eQ PyData.int a) (eQ PyData.int b) = decide (a < b) := by
  show PySem.W.dataLt (.tuple (a.map .int)) (.tuple (b.map .int)) = _
  rw [PySem.W.dataLt_tuple]
  exact PySem.W.dataLt_ints a b
theorem lex_anti : ∀ {a b : List Int}, ¬ b < a → ¬ a < b → a = b
  | [], [], _, _ => rfl
  | [], y :: b, _, h => absurd (List.nil_lt_cons y b) h
  | x :: a, [], h, _ => absurd (List.nil_lt_cons x a) h
  | x :: a, y :: b, h1, h2 => by
    rw [List.cons_lt_cons_iff] at h1 h2
    rcases Int.lt_trichotomy x y with q | q | q
    · exact absurd (.inl q) h2
    · subst q
      rw [lex_anti (fun z => h1 (.inr ⟨rfl, z⟩)) fun z => h2 (.inr ⟨rfl, z⟩)]
    · exact absurd (.inl q) h1
theorem srt_pw (l : List (List Int)) : (srtN (eQ PyData.int) l).Pairwise fun a b => ¬ b < a := by
  have T := PySem.W.sortLe_total (PyProof.Rows.listOrd itemOrd) false (fun b : PyData => PySem.W.keyToks b)
  have pw : (srtN (eQ PyData.int) l).Pairwise fun a b => PySem.W.dataLe false (fun d => d) (eQ PyData.int a) (eQ PyData.int b) = true :=
    List.pairwise_mergeSort (le := fun a b => PySem.W.dataLe false (fun d => d) (eQ PyData.int a) (eQ PyData.int b)) (fun a b c h1 h2 => T.trans _ _ _ h1 h2) (fun a b => by rw [Bool.or_eq_true]; exact T.total _ _) l
  refine pw.imp fun {a b} h => ?_
  have h : (!PySem.W.dataLt (eQ PyData.int b) (eQ PyData.int a)) = true := h
  rw [lt_rows] at h
  simpa using h
theorem srt_same {l k : List (List Int)} (h : l.Perm k) : srtN (eQ PyData.int) l = srtN (eQ PyData.int) k :=
  sort_uniq (fun _ _ h1 h2 => lex_anti h1 h2) ((srt_perm l).trans (h.trans (srt_perm k).symm)) (srt_pw l) (srt_pw k)
/-! the same opinions, weighed alike -/
end TR
namespace TR
open PySem PySem.Spec PyProof.Rows L2
theorem perm_ndG {α : Type} [DecidableEq α] : ∀ {a b : List α}, a.Nodup → b.Nodup → (∀ k, k ∈ a ↔ k ∈ b) → a.Perm b
  | [], [], _, _, _ => .nil
  | [], y :: b, _, _, h => absurd ((h y).mpr List.mem_cons_self) (by simp)
  | x :: a, b, ha, hb, h => by
    have hx : x ∈ b := (h x).mp List.mem_cons_self
    have ha' := List.nodup_cons.mp ha
    refine (List.Perm.cons x (perm_ndG ha'.2 (hb.erase x) fun k => ?_)).trans (List.perm_cons_erase hx).symm
    rw [hb.mem_erase_iff]
    constructor
    · intro hk; exact ⟨fun e => ha'.1 (e ▸ hk), (h k).mp (List.mem_cons_of_mem _ hk)⟩
    · rintro ⟨ne, hk⟩
      exact ((List.mem_cons.mp ((h k).mpr hk)).resolve_left ne)
end TR
namespace TR
open PySem PySem.Spec PyProof.Rows L2
/-! ### lists of rankings may be sorted -/
theorem alikeAll_iq : ∀ xs ys : List Int, PySem.W.alikeAll (xs.map .int) (ys.map .int) = true
  | [], ys => by rw [List.map_nil, PySem.W.alikeAll]
  | x :: xs, [] => by rw [List.map_nil, List.map_cons, PySem.W.alikeAll]
  | x :: xs, y :: ys => by
    rw [List.map_cons, List.map_cons, PySem.W.alikeAll, alikeAll_iq xs ys]
    simp [PySem.W.alike]
theorem depthAll_iq : ∀ l : List Int, PyData.depthAll (l.map PyData.int) ≤ 1
  | [] => by simp [PyData.depthAll]
  | x :: l => by
    have := depthAll_iq l
    rw [List.map_cons]; simp [PyData.depthAll, PyData.depth]; omega
theorem srtOk_q {l : List (List Int)} (h : ∀ r ∈ l, r ≠ []) : SrtOk (l.map (eQ PyData.int)) := by
  refine ⟨?_, .inl fun d hd => ?_, fun d hd => ?_⟩
  · exact PySem.W.AllAlike.of fun a b => by
      show PySem.W.alike (.tuple (a.map .int)) (.tuple (b.map .int)) = true
      simp only [PySem.W.alike, alikeAll_iq]
  · obtain ⟨r, hr, rfl⟩ := List.mem_map.mp hd
    cases r with
    | nil => exact absurd rfl (h _ hr)
    | cons x r => exact ⟨_, _, rfl⟩
  · obtain ⟨r, _, rfl⟩ := List.mem_map.mp hd
    show PyData.depthAll (r.map .int) + 1 ≤ 50
    have := depthAll_iq r
    omega
end TR
namespace TR
open PySem PySem.Spec PyProof.Rows L2
theorem num_iff {n : Nat} {d : PyData} : withinB d 0 ((n : Int) - 1) = true ↔ ∃ j : Nat, d = .int (j : Int) ∧ j < n := by
  rw [withinB_iff]
  constructor
  · rintro ⟨i, rfl, h0, h1⟩
    obtain ⟨j, rfl⟩ := Int.eq_ofNat_of_zero_le h0
    exact ⟨j, rfl, by omega⟩
  · rintro ⟨j, rfl, h⟩
    exact ⟨j, rfl, by omega, by omega⟩
theorem num_neg (n : Nat) (d : PyData) : ((!v__law_whole d) || !(decide ((0 : Int) ≤ dI d) && decide (dI d < (n : Int)))) = !withinB d 0 ((n : Int) - 1) := by
  have e : decide (dI d < (n : Int)) = decide (dI d ≤ (n : Int) - 1) := decide_eq_decide.mpr (by omega)
  rw [e]
  exact (Bool.not_and _ _).symm
theorem cl_rows {l : List (List Int)} (h : l.length ≤ 1000) (hr : ∀ r ∈ l, r.length ≤ 1000) (k : Nat) : Cl (k + 2) (eQ (eQ PyData.int) l) := ⟨by rw [List.length_map]; exact h, fun d hd => by
  obtain ⟨r, hr', rfl⟩ := List.mem_map.mp hd
  exact ⟨by rw [List.length_map]; exact hr r hr', fun d hd => by
    obtain ⟨x, _, rfl⟩ := List.mem_map.mp hd
    cases k <;> trivial⟩⟩
/-- the split of a taster by a pair -/
def splP (ts : Tas) (k : Int) (p : Int × Int) : List Int := (irange 0 ((ts.length : Nat) : Int)).filter fun x => !(decide (gt (Sd2 ts p.1 p.2) x = gt (Sd2 ts p.1 p.2) k))
section
variable {m : Nat} {ts : Tas}
theorem sd2_len (p : Int × Int) : (Sd2 ts p.1 p.2).length = ts.length := List.length_map _
theorem split_v (k : Int) (p : Int × Int) : v_split_by (tb m ts) k [p.1, p.2] = splP ts k p := by
  unfold v_split_by
  rw [sides_eq, enN_ir, List.filter_map, List.map_map, sd2_len]
  exact List.map_id' _
theorem splP_len (k : Int) (p : Int × Int) : (splP ts k p).length ≤ ts.length := by
  refine Nat.le_trans (List.length_filter_le _ _) ?_
  unfold irange
  rw [List.length_map, List.length_range]
  omega
def addR (w : List (List Int)) (r : List Int) : List (List Int) := bif (!r.isEmpty && !memB r w) then w ++ [r] else w
theorem add_fold : ∀ (l w : List (List Int)), w.Nodup → (∀ r ∈ w, r ≠ []) → (l.foldl addR w).Nodup ∧ (∀ r, r ∈ l.foldl addR w ↔ r ∈ w ∨ (r ∈ l ∧ r ≠ [])) ∧ (l.foldl addR w).length ≤ w.length + l.length
  | [], w, nd, ne => ⟨nd, fun r => ⟨.inl, fun h => h.elim id fun h => (by cases h.1)⟩, Nat.le_refl _⟩
  | x :: l, w, nd, ne => by
    rw [List.foldl_cons]
    by_cases h1 : x = []
    · have e : addR w x = w := by subst h1; rfl
      rw [e]
      obtain ⟨a, b, c⟩ := add_fold l w nd ne
      refine ⟨a, fun r => (b r).trans ⟨fun h => h.imp id fun h => ⟨List.mem_cons_of_mem _ h.1, h.2⟩, fun h => h.imp id fun h => ⟨(List.mem_cons.mp h.1).resolve_left fun z => h.2 (z.trans h1), h.2⟩⟩, by rw [List.length_cons]; omega⟩
    · by_cases h2 : x ∈ w
      · have e : addR w x = w := by
          unfold addR
          rw [memB_iff.mpr h2]
          simp
        rw [e]
        obtain ⟨a, b, c⟩ := add_fold l w nd ne
        refine ⟨a, fun r => (b r).trans ⟨fun h => h.imp id fun h => ⟨List.mem_cons_of_mem _ h.1, h.2⟩, fun h => ?_⟩, by rw [List.length_cons]; omega⟩
        rcases h with h | ⟨h, h3⟩
        · exact .inl h
        · rcases List.mem_cons.mp h with h | h
          · rw [h]; exact .inl h2
          · exact .inr ⟨h, h3⟩
      · have e : addR w x = w ++ [x] := by
          unfold addR
          have m0 : memB x w = false := by
            cases hb : memB x w with
            | false => rfl
            | true => exact absurd (memB_iff.mp hb) h2
          have e0 : x.isEmpty = false := by cases x with
            | nil => exact absurd rfl h1
            | cons _ _ => rfl
          rw [m0, e0]
          rfl
        rw [e]
        obtain ⟨a, b, c⟩ := add_fold l (w ++ [x]) (by
          refine List.nodup_append.mpr ⟨nd, List.pairwise_singleton _ _, fun y hy z hz => ?_⟩
          rw [List.mem_singleton.mp hz]
          exact fun e => h2 (e ▸ hy)) (fun r hr => by
          rcases List.mem_append.mp hr with h | h
          · exact ne r h
          · rw [List.mem_singleton.mp h]; exact h1)
        refine ⟨a, fun r => (b r).trans ⟨fun h => ?_, fun h => ?_⟩, by rw [List.length_append] at c; rw [List.length_cons]; simp only [List.length_cons, List.length_nil] at c; omega⟩
        · rcases h with h | h
          · rcases List.mem_append.mp h with h | h
            · exact .inl h
            · rw [List.mem_singleton.mp h]; exact .inr ⟨List.mem_cons_self, h1⟩
          · exact .inr ⟨List.mem_cons_of_mem _ h.1, h.2⟩
        · rcases h with h | ⟨h, h3⟩
          · exact .inl (List.mem_append_left _ h)
          · rcases List.mem_cons.mp h with h | h
            · rw [h]; exact .inl (List.mem_append_right _ (List.mem_singleton.mpr rfl))
            · exact .inr ⟨h, h3⟩
theorem due_v (m8 : m ≤ 8) (k : Int) : v__law_due (tb m ts) k = srtN (eQ PyData.int) (((pairs m).map (splP ts k)).foldl addR []) := by
  unfold v__law_due v__law_due_s1
  rw [lsides_eq m8]
  rw [forV_fold (fun w s => addR w ((irange 0 ((s.length : Nat) : Int)).filter fun x => !(decide (gt s x = gt s k)))) (fun k x w => by unfold addR; rw [List.map_id'])]
  rw [List.foldl_map, List.foldl_map]
  congr 1
  refine congrFun (congrFun (congrArg List.foldl ?_) []) (pairs m)
  funext w p
  rw [sd2_len]
  rfl
/-- the value of splits -/
def rowsS (m : Nat) (ts : Tas) (k : Int) : List (List Int) := ((pairs m).map (splP ts k)).filter fun r => !r.isEmpty
theorem splits_s1 (m8 : m ≤ 8) (k : Int) : v_splits_s1 (tb m ts) (.int k) = .ok (ssI (rowsS m ts k)) := by
  unfold v_splits_s1 rowsS
  rw [show (tb m ts).1 = (m : Int) from rfl, allpairs_v m8, List.map_map, List.map_id']
  congr 4
  funext p
  exact split_v k p
theorem ne_of_b {r : List Int} : (!r.isEmpty) = true ↔ r ≠ [] := by cases r <;> simp
theorem due_rows (m8 : m ≤ 8) (k : Int) : v__law_due (tb m ts) k = ssI (rowsS m ts k) := by
  rw [due_v m8]
  obtain ⟨a, b, c⟩ := add_fold ((pairs m).map (splP ts k)) [] .nil (fun r h => (by cases h))
  unfold ssI
  refine srt_same (perm_ndG a (ddL_nodup _) fun r => ?_)
  rw [b, ddL_mem, rowsS, List.mem_filter, ne_of_b]
  exact ⟨fun h => h.elim (fun h => (by cases h)) id, .inr⟩
theorem ssI_sub {rs : List (List Int)} {r : List Int} : r ∈ ssI rs ↔ r ∈ rs := by
  unfold ssI srtN
  rw [List.mem_mergeSort, ddL_mem]
theorem ddL_len : ∀ l : List (List Int), (ddL l).length ≤ l.length
  | [] => Nat.le_refl _
  | x :: l => by
    have := ddL_len l
    unfold ddL
    split
    · rw [List.length_cons]; omega
    · rw [List.length_cons, List.length_cons]; omega
theorem rows_len (m8 : m ≤ 8) (k : Int) : (ssI (rowsS m ts k)).length ≤ 28 := by
  unfold ssI srtN
  rw [List.length_mergeSort]
  refine Nat.le_trans (ddL_len _) (Nat.le_trans (List.length_filter_le _ _) ?_)
  rw [List.length_map]
  exact plen m8
theorem row_len {k : Int} {r : List Int} (h : r ∈ ssI (rowsS m ts k)) : r.length ≤ ts.length := by
  obtain ⟨p, _, rfl⟩ := List.mem_map.mp (List.mem_filter.mp (ssI_sub.mp h)).1
  exact splP_len k p
theorem isT (d : PyData) : v_is_taster_number (tb m ts) d = withinB d 0 ((ts.length : Int) - 1) := rfl
theorem splits_v (m8 : m ≤ 8) (d : PyData) : v_splits (tb m ts) d = bif withinB d 0 ((ts.length : Int) - 1) then .ok (ssI (rowsS m ts (dI d))) else .error ⟨1, some (("taster" : Str), d)⟩ := by
  unfold v_splits
  rw [isT]
  cases h : withinB d 0 ((ts.length : Int) - 1) with
  | false => rfl
  | true =>
    obtain ⟨j, rfl, hj⟩ := num_iff.mp h
    show v_splits_s1 (tb m ts) (.int (j : Int)) = _
    rw [splits_s1 m8]
    rfl
theorem splits_C (wf : WfT 8 9 m ts) (d : PyData) : C_splits (tb m ts) d := by
  have m8 := wf.nD
  have lM := wf.lM
  refine ⟨wholeB_eq d, fun h => ?_⟩
  rw [isT] at h
  obtain ⟨j, rfl, hj⟩ := num_iff.mp (by simpa using h)
  have hp := plen m8
  refine ⟨allpairs_C m8, ?_⟩
  rw [show (tb m ts).1 = (m : Int) from rfl, allpairs_v m8]
  refine ⟨lim (by rw [List.length_map]; omega), fun x hx => ?_, by rw [List.length_map, List.length_map]; omega, fun r hr h => ?_⟩
  · obtain ⟨p, hp, rfl⟩ := List.mem_map.mp hx
    refine ⟨rfl, sides_C wf (by decide) hp, ?_⟩
    rw [sides_eq]
    refine ⟨lim (by rw [enN_len, sd2_len]; omega), fun _ _ => ⟨by show (0 : Int) ≤ j; omega, by rw [sd2_len]; show (j : Int) < _; omega⟩⟩
  · cases r with
    | nil => cases h
    | cons _ _ => simp
theorem told_v (m8 : m ≤ 8) (d : PyData) : v__law_told (tb m ts) d = bif withinB d 0 ((ts.length : Int) - 1) then eQ (eQ PyData.int) (ssI (rowsS m ts (dI d))) else .list [.str "taster", d] := by
  unfold v__law_told v__law_told_s1
  rw [splits_v m8]
  cases withinB d 0 ((ts.length : Int) - 1) <;> rfl
theorem told_C (wf : WfT 8 9 m ts) (d : PyData) : C__law_told (tb m ts) d := by
  refine ⟨splits_C wf d, fun x hx => ?_⟩
  rw [splits_v wf.nD] at hx
  cases h : withinB d 0 ((ts.length : Int) - 1) with
  | true => rw [h] at hx; cases hx
  | false =>
    rw [h] at hx
    injection hx with hx
    rw [← hx]
    exact ⟨kl rfl, fun _ => rfl⟩
theorem due_C (wf : WfT 8 9 m ts) {k : Nat} (hk : k < ts.length) : C__law_due (tb m ts) (k : Int) := by
  have m8 := wf.nD
  have lM := wf.lM
  have hp := plen m8
  refine ⟨lsides_C wf (by decide), ?_⟩
  rw [lsides_eq m8]
  refine forV_C (fun l' (w : List (List Int)) => w.length + l'.length ≤ 28 ∧ ∀ r ∈ w, r ≠ []) (fun w h => srtOk_q h.2) _ [] ⟨by rw [List.length_map]; simpa using hp, fun r h => (by cases h)⟩ fun s l' w kk ⟨l0, e⟩ hi hk2 => ?_
  have hs : s ∈ (pairs m).map fun p => Sd2 ts p.1 p.2 := by rw [e]; simp
  obtain ⟨p, hp, rfl⟩ := List.mem_map.mp hs
  obtain ⟨h1, h2⟩ := hi
  rw [List.length_cons] at h1
  rw [sd2_len]
  have lr : (irange 0 ((ts.length : Nat) : Int)).length ≤ ts.length := by unfold irange; rw [List.length_map, List.length_range]; omega
  refine ⟨rg_small (by omega), lim (by omega), fun x hx => ?_, fun _ => Nat.lt_of_lt_of_le (by omega : w.length < 29) (by decide), hk2 _ ?_⟩
  · obtain ⟨a, b⟩ := irM.mp hx
    exact ⟨⟨a, by rw [sd2_len]; exact b⟩, ⟨by omega, by rw [sd2_len]; omega⟩⟩
  · rw [List.map_id']
    generalize (irange 0 ((ts.length : Nat) : Int)).filter _ = r
    cases hb : ((!r.isEmpty) && !memB r w) with
    | false => exact ⟨by show w.length + _ ≤ 28; omega, h2⟩
    | true =>
      refine ⟨by show (w ++ [r]).length + _ ≤ 28; rw [List.length_append]; simp only [List.length_cons, List.length_nil]; omega, fun x hx => ?_⟩
      rcases List.mem_append.mp hx with hx | hx
      · exact h2 x hx
      · rw [List.mem_singleton.mp hx]
        exact ne_of_b.mp (by rw [Bool.and_eq_true] at hb; exact hb.1)
theorem s4_ok (wf : WfT 8 9 m ts) {k : Unit → Nat → Prop} {n : Nat} (hn : n ≤ 800000) (hk : ∀ n', n' ≤ n + 5 → k () n') : w_law_s4 k (tb m ts) (PyData.shown (tabD m ts)) ((ts.length : Nat) : Int) n fun r _ => r = true := by
  have m8 := wf.nD
  have lM := wf.lM
  have st : Shw (tabD m ts) := shw_tab ⟨wf.n1, wf.nD, wf.l1, by omega, wf.all⟩
  refine odd_w (by omega) fun d _ wd => ?_
  refine forW_all (fun n' => n' = n + 1) (fun n' e => ?_) _ _ rfl fun x hx k2 n3 e3 hk2 => ?_
  · refine ⟨st, fun h => ?_, fun _ => hk n' (by omega)⟩
    exfalso
    have h : (!decide ((PyData.shown (tabD m ts)) = (PyData.shown (tabD m ts)))) = true := h
    rw [decide_eq_true rfl] at h
    cases h
  have wx : Wf 2 2 x := by
    simp only [List.mem_cons, List.not_mem_nil, or_false] at hx
    rcases hx with rfl | rfl | rfl | rfl | rfl | rfl
    · exact Wf.leaf (show ((ts.length : Nat) : Int).natAbs ≤ 10 ^ 59 + 2 by omega)
    · exact Wf.leaf (show (-(1 : Int)).natAbs ≤ 10 ^ 59 + 2 by decide)
    · exact Wf.leaf trivial
    · exact Wf.leaf trivial
    · exact wd
    · exact Wf.tup (D := 1) (ll rfl) fun e he => by
        rw [List.mem_singleton.mp he]
        exact Wf.leaf (show (0 : Int).natAbs ≤ 10 ^ 59 + 2 by decide)
  refine ⟨fun h => wholeB_eq x (by
    have : v__law_whole x = true := by simpa using h
    exact this), fun h => ?_, fun _ => hk2 n3 e3⟩
  rw [num_neg ts.length x] at h
  have hf : withinB x 0 ((ts.length : Int) - 1) = false := by simpa using h
  have tv : v__law_told (tb m ts) x = .list [.str "taster", x] := by rw [told_v m8, hf]; rfl
  rw [tv]
  have sx : Shw (.list [.str "taster", x]) := shw_tag ⟨by decide, by decide⟩ wx (by decide) (by decide) (by decide) wx.sz (by decide)
  refine ⟨⟨told_C wf x, sx, sx⟩, fun h => ?_, fun _ => hk2 n3 e3⟩
  exfalso
  have h : (!decide ((PyData.shown (.list [.str "taster", x])) = (PyData.shown (.list [.str "taster", x])))) = true := h
  rw [decide_eq_true rfl] at h
  cases h
end
theorem law_w : w_law 0 fun r _ => r = true := by
  refine ⟨rg_small (by decide), ?_⟩
  refine forW_m 400 4000 (fun _ _ => rfl) _ 0 (by decide) fun x _ k n hn hk => ?_
  refine ⟨⟨by decide, by decide, by decide, by decide, by omega⟩, fun m ts k1 wf hk1 => ?_⟩
  have wf : WfT 8 9 m ts := wf
  have m8 := wf.nD
  have lM := wf.lM
  have st : Shw (tabD m ts) := shw_tab ⟨wf.n1, wf.nD, wf.l1, by omega, wf.all⟩
  refine ⟨st, rg_small (by show (0 : Int) ≤ ((ts.length : Nat) : Int) ∧ ((ts.length : Nat) : Int) ≤ 1000; omega), ?_⟩
  refine forW_all (fun n' => n' = k1) (fun n' e => s4_ok wf (by omega) fun n2 h => hk n2 (by omega)) _ _ rfl fun j hj k2 n3 e3 hk2 => ?_
  obtain ⟨j0, j1⟩ := irM.mp hj
  obtain ⟨j, rfl⟩ := Int.eq_ofNat_of_zero_le j0
  have hj : j < ts.length := by have : (j : Int) < ((ts.length : Nat) : Int) := j1; omega
  have tv : v__law_told (tb m ts) (.int (j : Int)) = eQ (eQ PyData.int) (ssI (rowsS m ts (j : Int))) := by
    rw [told_v m8, num_iff.mpr ⟨j, rfl, hj⟩]; rfl
  rw [tv, due_rows m8]
  refine ⟨⟨told_C wf _, due_C wf hj, rfl, ?_⟩, fun h => ?_, fun _ => hk2 n3 e3⟩
  · exact cl_rows (Nat.le_trans (rows_len m8 _) (by decide)) (fun r hr => Nat.le_trans (row_len hr) (by omega)) 3
  · exfalso
    rw [show v__law_same _ _ = true from rfl] at h
    cases h
end TR
namespace TR
open PySem PySem.Spec PyProof.Rows L2
theorem inj_of (l : List Addr) (h : l.Nodup) : Inj (fun i => l.getD i 0) l.length := fun i j hi hj e => by
  exact (List.getD_inj hi hj h).mp e
set_option maxHeartbeats 0 in
theorem all_mk {l : PySem.W.OpenLaw} {w : World} {K : PySem.W.Frag} {h : Heap} {mg : Str → Option Value} {fa f0 f1 f2 f3 f4 f5 f6 f7 f8 f9 f10 f11 f12 f13 f14 f15 f16 f17 f18 f19 f20 f21 f22 f23 f24 f25 f26 f27 : Addr} (X : K.In h) (G : h.Ns mainGlobals mg) (hfa : mg "law" = some (.ref fa))
    {od0 an0 od1 an1 od2 an2 od3 an3 od4 an4 od5 an5 od6 an6 od7 an7 od8 an8 od9 an9 od10 an10 od11 an11 od12 an12 od13 an13 od14 an14 od15 an15 od16 an16 od17 an17 od18 an18 od19 an19 od20 an20 od21 an21 od22 an22 od23 an23 od24 an24 od25 an25 od26 an26 od27 an27 : Option Addr} {sl0 sl1 sl2 sl3 sl4 sl5 sl6 sl7 sl8 sl9 sl10 sl11 sl12 sl13 sl14 sl15 sl16 sl17 sl18 sl19 sl20 sl21 sl22 sl23 sl24 sl25 sl26 sl27 : Array (Option Value)} {oc0 kV0 dc0 pm0 cd0 ct0 oc1 kV1 dc1 pm1 cd1 ct1 oc2 kV2 dc2 pm2 cd2 ct2 oc3 kV3 dc3 pm3 cd3 ct3 oc4 kV4 dc4 pm4 cd4 ct4 oc5 kV5 dc5 pm5 cd5 ct5 oc6 kV6 dc6 pm6 cd6 ct6 oc7 kV7 dc7 pm7 cd7 ct7 oc8 kV8 dc8 pm8 cd8 ct8 oc9 kV9 dc9 pm9 cd9 ct9 oc10 kV10 dc10 pm10 cd10 ct10 oc11 kV11 dc11 pm11 cd11 ct11 oc12 kV12 dc12 pm12 cd12 ct12 oc13 kV13 dc13 pm13 cd13 ct13 oc14 kV14 dc14 pm14 cd14 ct14 oc15 kV15 dc15 pm15 cd15 ct15 oc16 kV16 dc16 pm16 cd16 ct16 oc17 kV17 dc17 pm17 cd17 ct17 oc18 kV18 dc18 pm18 cd18 ct18 oc19 kV19 dc19 pm19 cd19 ct19 oc20 kV20 dc20 pm20 cd20 ct20 oc21 kV21 dc21 pm21 cd21 ct21 oc22 kV22 dc22 pm22 cd22 ct22 oc23 kV23 dc23 pm23 cd23 ct23 oc24 kV24 dc24 pm24 cd24 ct24 oc25 kV25 dc25 pm25 cd25 ct25 oc26 kV26 dc26 pm26 cd26 ct26 oc27 kV27 dc27 pm27 cd27 ct27 : Value}
    (a0 : PySem.W.nsIn K mainGlobals "is_whole" = some (some (.ref f0))) (l0 : K.lookup f0 = some ⟨oc0, od0, .func (PySem.W.fnOf "is_whole" "is_whole" (defArgs s_is_whole) (defBody s_is_whole) (defScope s_is_whole) .none kV0 dc0 pm0 an0 cd0 ct0), sl0⟩) (c0 : PySem.W.codeIn K cd0 "is_whole" = true) (k0 : PySem.W.keepIn K (.ref f0) = true)
    (a1 : PySem.W.nsIn K mainGlobals "is_within" = some (some (.ref f1))) (l1 : K.lookup f1 = some ⟨oc1, od1, .func (PySem.W.fnOf "is_within" "is_within" (defArgs s_is_within) (defBody s_is_within) (defScope s_is_within) .none kV1 dc1 pm1 an1 cd1 ct1), sl1⟩) (c1 : PySem.W.codeIn K cd1 "is_within" = true) (k1 : PySem.W.keepIn K (.ref f1) = true)
    (a2 : PySem.W.nsIn K mainGlobals "ascending_tuples" = some (some (.ref f2))) (l2 : K.lookup f2 = some ⟨oc2, od2, .func (PySem.W.fnOf "ascending_tuples" "ascending_tuples" (defArgs s_ascending_tuples) (defBody s_ascending_tuples) (defScope s_ascending_tuples) .none kV2 dc2 pm2 an2 cd2 ct2), sl2⟩) (c2 : PySem.W.codeIn K cd2 "ascending_tuples" = true) (k2 : PySem.W.keepIn K (.ref f2) = true)
    (a3 : PySem.W.nsIn K mainGlobals "all_pairs" = some (some (.ref f3))) (l3 : K.lookup f3 = some ⟨oc3, od3, .func (PySem.W.fnOf "all_pairs" "all_pairs" (defArgs s_all_pairs) (defBody s_all_pairs) (defScope s_all_pairs) .none kV3 dc3 pm3 an3 cd3 ct3), sl3⟩) (c3 : PySem.W.codeIn K cd3 "all_pairs" = true) (k3 : PySem.W.keepIn K (.ref f3) = true)
    (a4 : PySem.W.nsIn K mainGlobals "prefers" = some (some (.ref f4))) (l4 : K.lookup f4 = some ⟨oc4, od4, .func (PySem.W.fnOf "prefers" "prefers" (defArgs s_prefers) (defBody s_prefers) (defScope s_prefers) .none kV4 dc4 pm4 an4 cd4 ct4), sl4⟩) (c4 : PySem.W.codeIn K cd4 "prefers" = true) (k4 : PySem.W.keepIn K (.ref f4) = true)
    (a5 : PySem.W.nsIn K mainGlobals "rankings_of" = some (some (.ref f5))) (l5 : K.lookup f5 = some ⟨oc5, od5, .func (PySem.W.fnOf "rankings_of" "rankings_of" (defArgs s_rankings_of) (defBody s_rankings_of) (defScope s_rankings_of) .none kV5 dc5 pm5 an5 cd5 ct5), sl5⟩) (c5 : PySem.W.codeIn K cd5 "rankings_of" = true) (k5 : PySem.W.keepIn K (.ref f5) = true)
    (a6 : PySem.W.nsIn K mainGlobals "is_taster_number" = some (some (.ref f6))) (l6 : K.lookup f6 = some ⟨oc6, od6, .func (PySem.W.fnOf "is_taster_number" "is_taster_number" (defArgs s_is_taster_number) (defBody s_is_taster_number) (defScope s_is_taster_number) .none kV6 dc6 pm6 an6 cd6 ct6), sl6⟩) (c6 : PySem.W.codeIn K cd6 "is_taster_number" = true) (k6 : PySem.W.keepIn K (.ref f6) = true)
    (a7 : PySem.W.nsIn K mainGlobals "sides" = some (some (.ref f7))) (l7 : K.lookup f7 = some ⟨oc7, od7, .func (PySem.W.fnOf "sides" "sides" (defArgs s_sides) (defBody s_sides) (defScope s_sides) .none kV7 dc7 pm7 an7 cd7 ct7), sl7⟩) (c7 : PySem.W.codeIn K cd7 "sides" = true) (k7 : PySem.W.keepIn K (.ref f7) = true)
    (a8 : PySem.W.nsIn K mainGlobals "split_by" = some (some (.ref f8))) (l8 : K.lookup f8 = some ⟨oc8, od8, .func (PySem.W.fnOf "split_by" "split_by" (defArgs s_split_by) (defBody s_split_by) (defScope s_split_by) .none kV8 dc8 pm8 an8 cd8 ct8), sl8⟩) (c8 : PySem.W.codeIn K cd8 "split_by" = true) (k8 : PySem.W.keepIn K (.ref f8) = true)
    (a9 : PySem.W.nsIn K mainGlobals "splits" = some (some (.ref f9))) (l9 : K.lookup f9 = some ⟨oc9, od9, .func (PySem.W.fnOf "splits" "splits" (defArgs s_splits) (defBody s_splits) (defScope s_splits) .none kV9 dc9 pm9 an9 cd9 ct9), sl9⟩) (c9 : PySem.W.codeIn K cd9 "splits" = true) (k9 : PySem.W.keepIn K (.ref f9) = true)
    (a10 : PySem.W.nsIn K mainGlobals "_law_deck" = some (some (.ref f10))) (l10 : K.lookup f10 = some ⟨oc10, od10, .func (PySem.W.fnOf "_law_deck" "_law_deck" (defArgs sDeck) (defBody sDeck) (defScope sDeck) .none kV10 dc10 pm10 an10 cd10 ct10), sl10⟩) (c10 : PySem.W.codeIn K cd10 "_law_deck" = true) (k10 : PySem.W.keepIn K (.ref f10) = true)
    (a11 : PySem.W.nsIn K mainGlobals "_law_next" = some (some (.ref f11))) (l11 : K.lookup f11 = some ⟨oc11, od11, .func (PySem.W.fnOf "_law_next" "_law_next" (defArgs sNext) (defBody sNext) (defScope sNext) .none kV11 dc11 pm11 an11 cd11 ct11), sl11⟩) (c11 : PySem.W.codeIn K cd11 "_law_next" = true) (k11 : PySem.W.keepIn K (.ref f11) = true)
    (a12 : PySem.W.nsIn K mainGlobals "_law_one" = some (some (.ref f12))) (l12 : K.lookup f12 = some ⟨oc12, od12, .func (PySem.W.fnOf "_law_one" "_law_one" (defArgs s__law_one) (defBody s__law_one) (defScope s__law_one) .none kV12 dc12 pm12 an12 cd12 ct12), sl12⟩) (c12 : PySem.W.codeIn K cd12 "_law_one" = true) (k12 : PySem.W.keepIn K (.ref f12) = true)
    (a13 : PySem.W.nsIn K mainGlobals "_law_same" = some (some (.ref f13))) (l13 : K.lookup f13 = some ⟨oc13, od13, .func (PySem.W.fnOf "_law_same" "_law_same" (defArgs s__law_same) (defBody s__law_same) (defScope s__law_same) .none kV13 dc13 pm13 an13 cd13 ct13), sl13⟩) (c13 : PySem.W.codeIn K cd13 "_law_same" = true) (k13 : PySem.W.keepIn K (.ref f13) = true)
    (a14 : PySem.W.nsIn K mainGlobals "_law_whole" = some (some (.ref f14))) (l14 : K.lookup f14 = some ⟨oc14, od14, .func (PySem.W.fnOf "_law_whole" "_law_whole" (defArgs s__law_whole) (defBody s__law_whole) (defScope s__law_whole) .none kV14 dc14 pm14 an14 cd14 ct14), sl14⟩) (c14 : PySem.W.codeIn K cd14 "_law_whole" = true) (k14 : PySem.W.keepIn K (.ref f14) = true)
    (a15 : PySem.W.nsIn K mainGlobals "_law_odd" = some (some (.ref f15))) (l15 : K.lookup f15 = some ⟨oc15, od15, .func (PySem.W.fnOf "_law_odd" "_law_odd" (defArgs s__law_odd) (defBody s__law_odd) (defScope s__law_odd) .none kV15 dc15 pm15 an15 cd15 ct15), sl15⟩) (c15 : PySem.W.codeIn K cd15 "_law_odd" = true) (k15 : PySem.W.keepIn K (.ref f15) = true)
    (a16 : PySem.W.nsIn K mainGlobals "_law_people" = some (some (.ref f16))) (l16 : K.lookup f16 = some ⟨oc16, od16, .func (PySem.W.fnOf "_law_people" "_law_people" (defArgs s__law_people) (defBody s__law_people) (defScope s__law_people) .none kV16 dc16 pm16 an16 cd16 ct16), sl16⟩) (c16 : PySem.W.codeIn K cd16 "_law_people" = true) (k16 : PySem.W.keepIn K (.ref f16) = true)
    (a17 : PySem.W.nsIn K mainGlobals "_law_list" = some (some (.ref f17))) (l17 : K.lookup f17 = some ⟨oc17, od17, .func (PySem.W.fnOf "_law_list" "_law_list" (defArgs s__law_list) (defBody s__law_list) (defScope s__law_list) .none kV17 dc17 pm17 an17 cd17 ct17), sl17⟩) (c17 : PySem.W.codeIn K cd17 "_law_list" = true) (k17 : PySem.W.keepIn K (.ref f17) = true)
    (a18 : PySem.W.nsIn K mainGlobals "_law_exchanged" = some (some (.ref f18))) (l18 : K.lookup f18 = some ⟨oc18, od18, .func (PySem.W.fnOf "_law_exchanged" "_law_exchanged" (defArgs s__law_exchanged) (defBody s__law_exchanged) (defScope s__law_exchanged) .none kV18 dc18 pm18 an18 cd18 ct18), sl18⟩) (c18 : PySem.W.codeIn K cd18 "_law_exchanged" = true) (k18 : PySem.W.keepIn K (.ref f18) = true)
    (a19 : PySem.W.nsIn K mainGlobals "_law_road" = some (some (.ref f19))) (l19 : K.lookup f19 = some ⟨oc19, od19, .func (PySem.W.fnOf "_law_road" "_law_road" (defArgs s__law_road) (defBody s__law_road) (defScope s__law_road) .none kV19 dc19 pm19 an19 cd19 ct19), sl19⟩) (c19 : PySem.W.codeIn K cd19 "_law_road" = true) (k19 : PySem.W.keepIn K (.ref f19) = true)
    (a20 : PySem.W.nsIn K mainGlobals "_law_seated" = some (some (.ref f20))) (l20 : K.lookup f20 = some ⟨oc20, od20, .func (PySem.W.fnOf "_law_seated" "_law_seated" (defArgs s__law_seated) (defBody s__law_seated) (defScope s__law_seated) .none kV20 dc20 pm20 an20 cd20 ct20), sl20⟩) (c20 : PySem.W.codeIn K cd20 "_law_seated" = true) (k20 : PySem.W.keepIn K (.ref f20) = true)
    (a21 : PySem.W.nsIn K mainGlobals "_law_any" = some (some (.ref f21))) (l21 : K.lookup f21 = some ⟨oc21, od21, .func (PySem.W.fnOf "_law_any" "_law_any" (defArgs s__law_any) (defBody s__law_any) (defScope s__law_any) .none kV21 dc21 pm21 an21 cd21 ct21), sl21⟩) (c21 : PySem.W.codeIn K cd21 "_law_any" = true) (k21 : PySem.W.keepIn K (.ref f21) = true)
    (a22 : PySem.W.nsIn K mainGlobals "_law_table" = some (some (.ref f22))) (l22 : K.lookup f22 = some ⟨oc22, od22, .func (PySem.W.fnOf "_law_table" "_law_table" (defArgs s__law_table) (defBody s__law_table) (defScope s__law_table) .none kV22 dc22 pm22 an22 cd22 ct22), sl22⟩) (c22 : PySem.W.codeIn K cd22 "_law_table" = true) (k22 : PySem.W.keepIn K (.ref f22) = true)
    (a23 : PySem.W.nsIn K mainGlobals "_law_pairs" = some (some (.ref f23))) (l23 : K.lookup f23 = some ⟨oc23, od23, .func (PySem.W.fnOf "_law_pairs" "_law_pairs" (defArgs s__law_pairs) (defBody s__law_pairs) (defScope s__law_pairs) .none kV23 dc23 pm23 an23 cd23 ct23), sl23⟩) (c23 : PySem.W.codeIn K cd23 "_law_pairs" = true) (k23 : PySem.W.keepIn K (.ref f23) = true)
    (a24 : PySem.W.nsIn K mainGlobals "_law_sides" = some (some (.ref f24))) (l24 : K.lookup f24 = some ⟨oc24, od24, .func (PySem.W.fnOf "_law_sides" "_law_sides" (defArgs s__law_sides) (defBody s__law_sides) (defScope s__law_sides) .none kV24 dc24 pm24 an24 cd24 ct24), sl24⟩) (c24 : PySem.W.codeIn K cd24 "_law_sides" = true) (k24 : PySem.W.keepIn K (.ref f24) = true)
    (a25 : PySem.W.nsIn K mainGlobals "_law_due" = some (some (.ref f25))) (l25 : K.lookup f25 = some ⟨oc25, od25, .func (PySem.W.fnOf "_law_due" "_law_due" (defArgs s__law_due) (defBody s__law_due) (defScope s__law_due) .none kV25 dc25 pm25 an25 cd25 ct25), sl25⟩) (c25 : PySem.W.codeIn K cd25 "_law_due" = true) (k25 : PySem.W.keepIn K (.ref f25) = true)
    (a26 : PySem.W.nsIn K mainGlobals "_law_told" = some (some (.ref f26))) (l26 : K.lookup f26 = some ⟨oc26, od26, .func (PySem.W.fnOf "_law_told" "_law_told" (defArgs s__law_told) (defBody s__law_told) (defScope s__law_told) .none kV26 dc26 pm26 an26 cd26 ct26), sl26⟩) (c26 : PySem.W.codeIn K cd26 "_law_told" = true) (k26 : PySem.W.keepIn K (.ref f26) = true)
    (a27 : PySem.W.nsIn K mainGlobals "law" = some (some (.ref f27))) (l27 : K.lookup f27 = some ⟨oc27, od27, .func (PySem.W.fnOf "law" "law" (defArgs s_law) (defBody s_law) (defScope s_law) .none kV27 dc27 pm27 an27 cd27 ct27), sl27⟩) (c27 : PySem.W.codeIn K cd27 "law" = true) (k27 : PySem.W.keepIn K (.ref f27) = true)
    {c_TasteError c_NoRanking c_NoTaster c_NoDish i_NoTaster : Addr}
    (eB : PySem.W.nsIn K mainGlobals "TasteError" = some (some (.ref c_TasteError)))
    (eBs : PySem.W.subIn K (.ref c_TasteError) (.type "BaseException") = some true)
    (eBd : PySem.W.hasDictIn K c_TasteError = true)
    (eBt : PySem.W.typeIn K (.ref c_TasteError) = some (.type "type"))
    (ehn : PySem.W.specialIn K (.builtin "object.__class__") "__get__" = some (some (.builtin "getset_descriptor.__get__")))
    (eht : PySem.W.takesIn K (.builtin "object.__class__") = some true)
    (n_NoRanking : PySem.W.nsIn K mainGlobals "NoRanking" = some (some (.ref c_NoRanking)))
    (ga_NoRanking : PySem.W.findIn K (.ref c_NoRanking) "__getattribute__" = some (some (.builtin "BaseException.__getattribute__")))
    (gg_NoRanking : PySem.W.findIn K (.ref c_NoRanking) "__getattr__" = some none)
    (ex_NoRanking : PySem.W.subIn K (.ref c_NoRanking) (.type "BaseException") = some true)
    (hd_NoRanking : PySem.W.hasDictIn K c_NoRanking = true)
    (ha_NoRanking : PySem.W.findIn K (.ref c_NoRanking) "__class__" = some (some (.builtin "object.__class__")))
    (hm_NoRanking : PySem.W.mroIn K c_NoRanking (.type "object") = some true)
    (kp_NoRanking : PySem.W.keepIn K (.ref c_NoRanking) = true)
    (ty_NoRanking : PySem.W.typeIn K (.ref c_NoRanking) = some (.type "type"))
    (sb_NoRanking : PySem.W.subIn K (.ref c_NoRanking) (.ref c_TasteError) = some true)
    (n_NoTaster : PySem.W.nsIn K mainGlobals "NoTaster" = some (some (.ref c_NoTaster)))
    (ga_NoTaster : PySem.W.findIn K (.ref c_NoTaster) "__getattribute__" = some (some (.builtin "BaseException.__getattribute__")))
    (gg_NoTaster : PySem.W.findIn K (.ref c_NoTaster) "__getattr__" = some none)
    (ex_NoTaster : PySem.W.subIn K (.ref c_NoTaster) (.type "BaseException") = some true)
    (hd_NoTaster : PySem.W.hasDictIn K c_NoTaster = true)
    (ha_NoTaster : PySem.W.findIn K (.ref c_NoTaster) "__class__" = some (some (.builtin "object.__class__")))
    (hm_NoTaster : PySem.W.mroIn K c_NoTaster (.type "object") = some true)
    (kp_NoTaster : PySem.W.keepIn K (.ref c_NoTaster) = true)
    (ty_NoTaster : PySem.W.typeIn K (.ref c_NoTaster) = some (.type "type"))
    (sb_NoTaster : PySem.W.subIn K (.ref c_NoTaster) (.ref c_TasteError) = some true)
    (n_NoDish : PySem.W.nsIn K mainGlobals "NoDish" = some (some (.ref c_NoDish)))
    (ga_NoDish : PySem.W.findIn K (.ref c_NoDish) "__getattribute__" = some (some (.builtin "BaseException.__getattribute__")))
    (gg_NoDish : PySem.W.findIn K (.ref c_NoDish) "__getattr__" = some none)
    (ex_NoDish : PySem.W.subIn K (.ref c_NoDish) (.type "BaseException") = some true)
    (hd_NoDish : PySem.W.hasDictIn K c_NoDish = true)
    (ha_NoDish : PySem.W.findIn K (.ref c_NoDish) "__class__" = some (some (.builtin "object.__class__")))
    (hm_NoDish : PySem.W.mroIn K c_NoDish (.type "object") = some true)
    (kp_NoDish : PySem.W.keepIn K (.ref c_NoDish) = true)
    (ty_NoDish : PySem.W.typeIn K (.ref c_NoDish) = some (.type "type"))
    (sb_NoDish : PySem.W.subIn K (.ref c_NoDish) (.ref c_TasteError) = some true)
    {nmXNoTaster qnXNoTaster : Str} {NNXNoTaster : Addr} {bsXNoTaster : List Value} {snXNoTaster : List Str} {subXNoTaster : List Value} {abXNoTaster : Bool} {colXNoTaster : Option Bool} {ddXNoTaster : Option Addr} {xaXNoTaster xbXNoTaster xeXNoTaster xfXNoTaster xgXNoTaster : Option Value} {odXNoTasterI anXNoTasterI : Option Addr} {slXNoTasterI : Array (Option Value)} {ocXNoTasterI dcXNoTasterI pmXNoTasterI cdXNoTasterI ctXNoTasterI : Value}
    (L_NoTaster : K.lookup c_NoTaster = some (excClassObj nmXNoTaster qnXNoTaster c_NoTaster NNXNoTaster bsXNoTaster [.ref c_TasteError, .type "ValueError", .type "Exception", .type "BaseException", .type "object"] true snXNoTaster subXNoTaster abXNoTaster colXNoTaster ddXNoTaster xaXNoTaster xbXNoTaster xeXNoTaster xfXNoTaster xgXNoTaster "ValueError.__new__"))
    (sa_NoTaster : PySem.W.findIn K (.ref c_NoTaster) "__setattr__" = some (some (.builtin "object.__setattr__")))
    (nf_NoTaster : PySem.W.findIn K (.ref c_NoTaster) "taster" = some none)
    (in_NoTaster : PySem.W.findIn K (.ref c_NoTaster) "__init__" = some (some (.ref i_NoTaster)))
    (tf_NoTaster : PySem.W.typeIn K (.ref i_NoTaster) = some (.type "function"))
    (lf_NoTaster : K.lookup i_NoTaster = some ⟨ocXNoTasterI, odXNoTasterI, .func (PySem.W.fnOf "__init__" "NoTaster.__init__" (PySem.XNoTasterX.iA ⟨10, 17, 10, 21⟩ ⟨10, 23, 10, 29⟩) (PySem.XNoTasterX.iB ⟨11, 8, 11, 12⟩ ⟨11, 8, 11, 19⟩ ⟨11, 22, 11, 28⟩ ⟨11, 8, 11, 28⟩) PySem.XNoTasterX.iS .none .none dcXNoTasterI pmXNoTasterI anXNoTasterI cdXNoTasterI ctXNoTasterI), slXNoTasterI⟩)
    (cf_NoTaster : PySem.W.codeIn K cdXNoTasterI "NoTaster.__init__" = true)
    (ss_NoTaster : PySem.W.subIn K (.ref c_NoTaster) (.ref c_NoTaster) = some true)
    (kt_0_0 : PySem.W.kitOne K (.ref c_NoRanking) (.ref c_NoRanking) = some true)
    (kt_0_1 : PySem.W.kitOne K (.ref c_NoRanking) (.ref c_NoTaster) = some false)
    (kt_0_2 : PySem.W.kitOne K (.ref c_NoRanking) (.ref c_NoDish) = some false)
    (kv_0 : PySem.W.kitOne K (.ref c_NoRanking) (.type "ValueError") = some true)
    (nfx_taster_0 : PySem.W.findIn K (.ref c_NoRanking) "taster" = some none)
    (kt_1_0 : PySem.W.kitOne K (.ref c_NoTaster) (.ref c_NoRanking) = some false)
    (kt_1_1 : PySem.W.kitOne K (.ref c_NoTaster) (.ref c_NoTaster) = some true)
    (kt_1_2 : PySem.W.kitOne K (.ref c_NoTaster) (.ref c_NoDish) = some false)
    (kv_1 : PySem.W.kitOne K (.ref c_NoTaster) (.type "ValueError") = some true)
    (nfx_taster_1 : PySem.W.findIn K (.ref c_NoTaster) "taster" = some none)
    (kt_2_0 : PySem.W.kitOne K (.ref c_NoDish) (.ref c_NoRanking) = some false)
    (kt_2_1 : PySem.W.kitOne K (.ref c_NoDish) (.ref c_NoTaster) = some false)
    (kt_2_2 : PySem.W.kitOne K (.ref c_NoDish) (.ref c_NoDish) = some true)
    (kv_2 : PySem.W.kitOne K (.ref c_NoDish) (.type "ValueError") = some true)
    (nfx_taster_2 : PySem.W.findIn K (.ref c_NoDish) "taster" = some none)
    (z0 : PySem.W.nsIn K mainGlobals "abs" = some none) (z1 : PySem.W.nsIn K mainGlobals "len" = some none) (z2 : PySem.W.nsIn K mainGlobals "isinstance" = some none) (z3 : PySem.W.nsIn K mainGlobals "bool" = some none) (z4 : PySem.W.nsIn K mainGlobals "int" = some none) (z5 : PySem.W.nsIn K mainGlobals "range" = some none) (z6 : PySem.W.nsIn K mainGlobals "tuple" = some none) (z7 : PySem.W.nsIn K mainGlobals "enumerate" = some none) (z8 : PySem.W.nsIn K mainGlobals "sorted" = some none) (z9 : PySem.W.nsIn K mainGlobals "list" = some none) (z10 : PySem.W.nsIn K mainGlobals "dict" = some none) (z11 : PySem.W.nsIn K mainGlobals "str" = some none) (z12 : PySem.W.nsIn K mainGlobals "repr" = some none) :
    ∃ fd : FuncData, (∀ (s : Shared) (v : Value), BindsTo s fd ⟨[v], []⟩ [("_law_script", v)]) ∧ ∀ base : Heap, K.In base → base.Ns mainGlobals mg → RunG l.prog w K mg base 7 fa fd ["_law_script"] (spLaw K) := by
  have e := hfa.symm.trans (PySem.W.mg_of X G a27)
  cases e
  have F0 := fun_mk (st := s_is_whole) l0 c0 k0
  have F1 := fun_mk (st := s_is_within) l1 c1 k1
  have F2 := fun_mk (st := s_ascending_tuples) l2 c2 k2
  have F3 := fun_mk (st := s_all_pairs) l3 c3 k3
  have F4 := fun_mk (st := s_prefers) l4 c4 k4
  have F5 := fun_mk (st := s_rankings_of) l5 c5 k5
  have F6 := fun_mk (st := s_is_taster_number) l6 c6 k6
  have F7 := fun_mk (st := s_sides) l7 c7 k7
  have F8 := fun_mk (st := s_split_by) l8 c8 k8
  have F9 := fun_mk (st := s_splits) l9 c9 k9
  have F10 := fun_mk (st := sDeck) l10 c10 k10
  have F11 := fun_mk (st := sNext) l11 c11 k11
  have F12 := fun_mk (st := s__law_one) l12 c12 k12
  have F13 := fun_mk (st := s__law_same) l13 c13 k13
  have F14 := fun_mk (st := s__law_whole) l14 c14 k14
  have F15 := fun_mk (st := s__law_odd) l15 c15 k15
  have F16 := fun_mk (st := s__law_people) l16 c16 k16
  have F17 := fun_mk (st := s__law_list) l17 c17 k17
  have F18 := fun_mk (st := s__law_exchanged) l18 c18 k18
  have F19 := fun_mk (st := s__law_road) l19 c19 k19
  have F20 := fun_mk (st := s__law_seated) l20 c20 k20
  have F21 := fun_mk (st := s__law_any) l21 c21 k21
  have F22 := fun_mk (st := s__law_table) l22 c22 k22
  have F23 := fun_mk (st := s__law_pairs) l23 c23 k23
  have F24 := fun_mk (st := s__law_sides) l24 c24 k24
  have F25 := fun_mk (st := s__law_due) l25 c25 k25
  have F26 := fun_mk (st := s__law_told) l26 c26 k26
  have F27 := fun_mk (st := s_law) l27 c27 k27
  have b0 := F0.binds (ps := ["value"]) fun _ _ _ _ _ _ us hl => match us, hl with | [_], _ => rfl
  have b1 := F1.binds (ps := ["value", "low", "high"]) fun _ _ _ _ _ _ us hl => match us, hl with | [_, _, _], _ => rfl
  have b2 := F2.binds (ps := ["size", "length"]) fun _ _ _ _ _ _ us hl => match us, hl with | [_, _], _ => rfl
  have b3 := F3.binds (ps := ["dishes"]) fun _ _ _ _ _ _ us hl => match us, hl with | [_], _ => rfl
  have b4 := F4.binds (ps := ["ranking", "one", "other"]) fun _ _ _ _ _ _ us hl => match us, hl with | [_, _, _], _ => rfl
  have b5 := F5.binds (ps := ["table"]) fun _ _ _ _ _ _ us hl => match us, hl with | [_], _ => rfl
  have b6 := F6.binds (ps := ["table", "value"]) fun _ _ _ _ _ _ us hl => match us, hl with | [_, _], _ => rfl
  have b7 := F7.binds (ps := ["table", "pair"]) fun _ _ _ _ _ _ us hl => match us, hl with | [_, _], _ => rfl
  have b8 := F8.binds (ps := ["table", "taster", "pair"]) fun _ _ _ _ _ _ us hl => match us, hl with | [_, _, _], _ => rfl
  have b9 := F9.binds (ps := ["table", "taster"]) fun _ _ _ _ _ _ us hl => match us, hl with | [_, _], _ => rfl
  have b10 := F10.binds (ps := ["_law_script"]) fun _ _ _ _ _ _ us hl => match us, hl with | [_], _ => rfl
  have b11 := F11.binds (ps := ["_law_deck_here", "_law_many"]) fun _ _ _ _ _ _ us hl => match us, hl with | [_, _], _ => rfl
  have b12 := F12.binds (ps := ["_law_deck_here", "_law_some"]) fun _ _ _ _ _ _ us hl => match us, hl with | [_, _], _ => rfl
  have b13 := F13.binds (ps := ["_law_found", "_law_due_here"]) fun _ _ _ _ _ _ us hl => match us, hl with | [_, _], _ => rfl
  have b14 := F14.binds (ps := ["_law_thing"]) fun _ _ _ _ _ _ us hl => match us, hl with | [_], _ => rfl
  have b15 := F15.binds (ps := ["_law_deck_here"]) fun _ _ _ _ _ _ us hl => match us, hl with | [_], _ => rfl
  have b16 := F16.binds (ps := ["_law_deck_here"]) fun _ _ _ _ _ _ us hl => match us, hl with | [_], _ => rfl
  have b17 := F17.binds (ps := ["_law_deck_here", "_law_dishes"]) fun _ _ _ _ _ _ us hl => match us, hl with | [_, _], _ => rfl
  have b18 := F18.binds (ps := ["_law_row", "_law_k"]) fun _ _ _ _ _ _ us hl => match us, hl with | [_, _], _ => rfl
  have b19 := F19.binds (ps := ["_law_deck_here", "_law_dishes", "_law_steps"]) fun _ _ _ _ _ _ us hl => match us, hl with | [_, _, _], _ => rfl
  have b20 := F20.binds (ps := ["_law_deck_here", "_law_dishes", "_law_many"]) fun _ _ _ _ _ _ us hl => match us, hl with | [_, _, _], _ => rfl
  have b21 := F21.binds (ps := ["_law_deck_here", "_law_dishes", "_law_many"]) fun _ _ _ _ _ _ us hl => match us, hl with | [_, _, _], _ => rfl
  have b22 := F22.binds (ps := ["_law_deck_here", "_law_dishes", "_law_many"]) fun _ _ _ _ _ _ us hl => match us, hl with | [_, _, _], _ => rfl
  have b23 := F23.binds (ps := ["_law_dishes"]) fun _ _ _ _ _ _ us hl => match us, hl with | [_], _ => rfl
  have b24 := F24.binds (ps := ["_law_table_here"]) fun _ _ _ _ _ _ us hl => match us, hl with | [_], _ => rfl
  have b25 := F25.binds (ps := ["_law_table_here", "_law_taster"]) fun _ _ _ _ _ _ us hl => match us, hl with | [_, _], _ => rfl
  have b26 := F26.binds (ps := ["_law_table_here", "_law_taster"]) fun _ _ _ _ _ _ us hl => match us, hl with | [_, _], _ => rfl
  have g0 := PySem.W.mg_of X G a0
  have g1 := PySem.W.mg_of X G a1
  have g2 := PySem.W.mg_of X G a2
  have g3 := PySem.W.mg_of X G a3
  have g4 := PySem.W.mg_of X G a4
  have g5 := PySem.W.mg_of X G a5
  have g6 := PySem.W.mg_of X G a6
  have g7 := PySem.W.mg_of X G a7
  have g8 := PySem.W.mg_of X G a8
  have g9 := PySem.W.mg_of X G a9
  have g10 := PySem.W.mg_of X G a10
  have g11 := PySem.W.mg_of X G a11
  have g12 := PySem.W.mg_of X G a12
  have g13 := PySem.W.mg_of X G a13
  have g14 := PySem.W.mg_of X G a14
  have g15 := PySem.W.mg_of X G a15
  have g16 := PySem.W.mg_of X G a16
  have g17 := PySem.W.mg_of X G a17
  have g18 := PySem.W.mg_of X G a18
  have g19 := PySem.W.mg_of X G a19
  have g20 := PySem.W.mg_of X G a20
  have g21 := PySem.W.mg_of X G a21
  have g22 := PySem.W.mg_of X G a22
  have g23 := PySem.W.mg_of X G a23
  have g24 := PySem.W.mg_of X G a24
  have g25 := PySem.W.mg_of X G a25
  have g26 := PySem.W.mg_of X G a26
  have g27 := PySem.W.mg_of X G a27
  have m_abs := PySem.W.mg_none_of X G z0
  have m_len := PySem.W.mg_none_of X G z1
  have m_isinstance := PySem.W.mg_none_of X G z2
  have m_bool := PySem.W.mg_none_of X G z3
  have m_int := PySem.W.mg_none_of X G z4
  have m_range := PySem.W.mg_none_of X G z5
  have m_tuple := PySem.W.mg_none_of X G z6
  have m_enumerate := PySem.W.mg_none_of X G z7
  have m_sorted := PySem.W.mg_none_of X G z8
  have m_list := PySem.W.mg_none_of X G z9
  have m_dict := PySem.W.mg_none_of X G z10
  have m_str := PySem.W.mg_none_of X G z11
  have m_repr := PySem.W.mg_none_of X G z12
  have gB : mg "TasteError" = some (.ref c_TasteError) := PySem.W.mg_of X G eB
  have gC_NoRanking : mg "NoRanking" = some (.ref c_NoRanking) := PySem.W.mg_of X G n_NoRanking
  have te_NoRanking : PySem.W.exmOne K (.ref c_NoRanking) (.ref c_TasteError) = some true := PySem.W.exm_ref eBs eBd eBt sb_NoRanking
  have ec_NoRanking : ExcC K c_NoRanking := ⟨ga_NoRanking, gg_NoRanking, ex_NoRanking, hd_NoRanking, ha_NoRanking, ehn, eht, hm_NoRanking⟩
  have gC_NoTaster : mg "NoTaster" = some (.ref c_NoTaster) := PySem.W.mg_of X G n_NoTaster
  have te_NoTaster : PySem.W.exmOne K (.ref c_NoTaster) (.ref c_TasteError) = some true := PySem.W.exm_ref eBs eBd eBt sb_NoTaster
  have ec_NoTaster : ExcC K c_NoTaster := ⟨ga_NoTaster, gg_NoTaster, ex_NoTaster, hd_NoTaster, ha_NoTaster, ehn, eht, hm_NoTaster⟩
  have gC_NoDish : mg "NoDish" = some (.ref c_NoDish) := PySem.W.mg_of X G n_NoDish
  have te_NoDish : PySem.W.exmOne K (.ref c_NoDish) (.ref c_TasteError) = some true := PySem.W.exm_ref eBs eBd eBt sb_NoDish
  have ec_NoDish : ExcC K c_NoDish := ⟨ga_NoDish, gg_NoDish, ex_NoDish, hd_NoDish, ha_NoDish, ehn, eht, hm_NoDish⟩
  have T_NoTaster : PySem.XNoTasterX.XNoTasterTxt K mg c_NoTaster i_NoTaster := { gC := gC_NoTaster, cls := ⟨nmXNoTaster, qnXNoTaster, NNXNoTaster, bsXNoTaster, _, snXNoTaster, subXNoTaster, abXNoTaster, colXNoTaster, ddXNoTaster, xaXNoTaster, xbXNoTaster, xeXNoTaster, xfXNoTaster, xgXNoTaster, L_NoTaster, by first | rfl | decide +kernel⟩, sa := sa_NoTaster, ga := ga_NoTaster, gg := gg_NoTaster, noN := nf_NoTaster, iC := in_NoTaster, tC := tf_NoTaster, kC := kp_NoTaster, exC := ex_NoTaster, tyC := ty_NoTaster, hdC := hd_NoTaster, te := PySem.W.exm_ref ex_NoTaster hd_NoTaster ty_NoTaster ss_NoTaster, fn := ⟨_, _, _, _, _, _, _, _, _, _, _, _, _, _, lf_NoTaster, cf_NoTaster⟩ }
  have ne_0_1 : c_NoRanking ≠ c_NoTaster := fun e => by have z := kt_0_1; rw [e, kt_1_1] at z; cases z
  have ne_0_2 : c_NoRanking ≠ c_NoDish := fun e => by have z := kt_0_2; rw [e, kt_2_2] at z; cases z
  have ne_1_0 : c_NoTaster ≠ c_NoRanking := fun e => by have z := kt_1_0; rw [e, kt_0_0] at z; cases z
  have ne_1_2 : c_NoTaster ≠ c_NoDish := fun e => by have z := kt_1_2; rw [e, kt_2_2] at z; cases z
  have ne_2_0 : c_NoDish ≠ c_NoRanking := fun e => by have z := kt_2_0; rw [e, kt_0_0] at z; cases z
  have ne_2_1 : c_NoDish ≠ c_NoTaster := fun e => by have z := kt_2_1; rw [e, kt_1_1] at z; cases z
  let cc : Nat → Addr := fun i => [c_NoRanking, c_NoTaster, c_NoDish].getD i 0
  have XT : XTab K [c_NoRanking, c_NoTaster, c_NoDish] c_TasteError := ⟨(List.forall_mem_cons.mpr ⟨ec_NoRanking, (List.forall_mem_cons.mpr ⟨ec_NoTaster, (List.forall_mem_cons.mpr ⟨ec_NoDish, fun _ h => nomatch h⟩)⟩)⟩), (List.forall_mem_cons.mpr ⟨(List.forall_mem_cons.mpr ⟨(kt_0_0.trans (by rw [decide_eq_true rfl])), (List.forall_mem_cons.mpr ⟨(kt_0_1.trans (by rw [decide_eq_false ne_0_1])), (List.forall_mem_cons.mpr ⟨(kt_0_2.trans (by rw [decide_eq_false ne_0_2])), fun _ h => nomatch h⟩)⟩)⟩), (List.forall_mem_cons.mpr ⟨(List.forall_mem_cons.mpr ⟨(kt_1_0.trans (by rw [decide_eq_false ne_1_0])), (List.forall_mem_cons.mpr ⟨(kt_1_1.trans (by rw [decide_eq_true rfl])), (List.forall_mem_cons.mpr ⟨(kt_1_2.trans (by rw [decide_eq_false ne_1_2])), fun _ h => nomatch h⟩)⟩)⟩), (List.forall_mem_cons.mpr ⟨(List.forall_mem_cons.mpr ⟨(kt_2_0.trans (by rw [decide_eq_false ne_2_0])), (List.forall_mem_cons.mpr ⟨(kt_2_1.trans (by rw [decide_eq_false ne_2_1])), (List.forall_mem_cons.mpr ⟨(kt_2_2.trans (by rw [decide_eq_true rfl])), fun _ h => nomatch h⟩)⟩)⟩), fun _ h => nomatch h⟩)⟩)⟩), (List.forall_mem_cons.mpr ⟨kv_0, (List.forall_mem_cons.mpr ⟨kv_1, (List.forall_mem_cons.mpr ⟨kv_2, fun _ h => nomatch h⟩)⟩)⟩), (List.forall_mem_cons.mpr ⟨te_NoRanking, (List.forall_mem_cons.mpr ⟨te_NoTaster, (List.forall_mem_cons.mpr ⟨te_NoDish, fun _ h => nomatch h⟩)⟩)⟩)⟩
  have nff_taster : ∀ C ∈ [c_NoRanking, c_NoTaster, c_NoDish], PySem.W.findIn K (.ref C) "taster" = some none := (List.forall_mem_cons.mpr ⟨nfx_taster_0, (List.forall_mem_cons.mpr ⟨nfx_taster_1, (List.forall_mem_cons.mpr ⟨nfx_taster_2, fun _ h => nomatch h⟩)⟩)⟩)
  have hcc : Inj cc 3 := inj_of [c_NoRanking, c_NoTaster, c_NoDish] (by simp [ne_0_1, ne_0_2, ne_1_2])
  refine ⟨PySem.W.fnOf "law" "law" (defArgs s_law) (defBody s_law) (defScope s_law) .none kV27 dc27 pm27 an27 cd27 ct27, fun s v => .of_eq rfl, fun base _ _ => ?_⟩
  have GG__law_list : FnOk l.prog w K mg base CX0 2 f17 _ _ (spA [.deck, .dat] F__law_list) := okA__law_list F17 k11 b11 g11 (okA__law_next F11 m_len) m_range m_list m_len m_tuple
  have GG__law_one : FnOk l.prog w K mg base CX0 2 f12 _ _ (spA [.deck, .bor] F__law_one) := okA__law_one F12 k11 b11 g11 (okA__law_next F11 m_len) m_len
  have GG__law_exchanged : FnOk l.prog w K mg base CX0 1 f18 _ _ (spA [.dat, .dat] F__law_exchanged) := okA__law_exchanged F18
  have GG__law_road : FnOk l.prog w K mg base CX0 3 f19 _ _ (spA [.deck, .dat, .dat] F__law_road) := okA__law_road F19 k17 b17 g17 (FnOk.mono (j := 2) GG__law_list (by decide)) k12 b12 g12 (FnOk.mono (j := 2) GG__law_one (by decide)) k18 b18 g18 (FnOk.mono (j := 1) GG__law_exchanged (by decide)) m_range m_tuple m_sorted
  have GG__law_people : FnOk l.prog w K mg base CX0 2 f16 _ _ (spA [.deck] F__law_people) := okA__law_people F16 k11 b11 g11 (okA__law_next F11 m_len)
  have GG__law_seated : FnOk l.prog w K mg base CX0 4 f20 _ _ (spA [.deck, .dat, .dat] F__law_seated) := okA__law_seated F20 k19 b19 g19 (FnOk.mono (j := 3) GG__law_road (by decide)) k11 b11 g11 (okA__law_next F11 m_len) k16 b16 g16 (FnOk.mono (j := 2) GG__law_people (by decide)) k12 b12 g12 (FnOk.mono (j := 2) GG__law_one (by decide)) m_tuple m_range
  have GG__law_any : FnOk l.prog w K mg base CX0 3 f21 _ _ (spA [.deck, .dat, .dat] F__law_any) := okA__law_any F21 k17 b17 g17 (FnOk.mono (j := 2) GG__law_list (by decide)) k11 b11 g11 (okA__law_next F11 m_len) k12 b12 g12 (FnOk.mono (j := 2) GG__law_one (by decide)) k18 b18 g18 (FnOk.mono (j := 1) GG__law_exchanged (by decide)) k16 b16 g16 (FnOk.mono (j := 2) GG__law_people (by decide)) m_len m_tuple
  have GG__law_table : FnOk l.prog w K mg base CX0 5 f22 _ _ (spA [.deck, .dat, .dat] F__law_table) := okA__law_table F22 k11 b11 g11 (okA__law_next F11 m_len) k20 b20 g20 (FnOk.mono (j := 4) GG__law_seated (by decide)) k21 b21 g21 (FnOk.mono (j := 3) GG__law_any (by decide))
  have GG__law_same : FnOk l.prog w K mg base CX0 6 f13 _ _ (spA [.dat, .dat] (F__law_same 6)) := okA__law_same F13 k13 b13 g13 m_isinstance m_tuple m_list m_len m_range m_dict m_str m_bool m_int 6
  have GG__law_pairs : FnOk l.prog w K mg base CX0 1 f23 _ _ (spA [.dat] F__law_pairs) := okA__law_pairs F23 m_range
  have GG__law_sides : FnOk l.prog w K mg base CX0 2 f24 _ _ (spA [.dat] F__law_sides) := okA__law_sides F24 k23 b23 g23 (FnOk.mono (j := 1) GG__law_pairs (by decide))
  have GG__law_due : FnOk l.prog w K mg base CX0 3 f25 _ _ (spA [.dat, .dat] F__law_due) := okA__law_due F25 k24 b24 g24 (FnOk.mono (j := 2) GG__law_sides (by decide)) m_tuple m_len m_range m_sorted
  have GG_is_whole : FnOk l.prog w K mg base CX0 1 f0 _ _ (spA [.dat] F_is_whole) := okA_is_whole F0 m_isinstance m_bool m_int
  have GG_is_within : FnOk l.prog w K mg base CX0 2 f1 _ _ (spA [.dat, .dat, .dat] F_is_within) := okA_is_within F1 k0 b0 g0 (FnOk.mono (j := 1) GG_is_whole (by decide))
  have GG_is_taster_number : FnOk l.prog w K mg base CX0 3 f6 _ _ (spA [.dat, .dat] F_is_taster_number) := okA_is_taster_number F6 k1 b1 g1 (FnOk.mono (j := 2) GG_is_within (by decide)) m_len
  have GG_ascending_tuples : FnOk l.prog w K mg base CX0 1 f2 _ _ (spA [.dat, .dat] F_ascending_tuples) := okA_ascending_tuples F2 m_range
  have GG_all_pairs : FnOk l.prog w K mg base CX0 2 f3 _ _ (spA [.dat] F_all_pairs) := okA_all_pairs F3 k2 b2 g2 (FnOk.mono (j := 1) GG_ascending_tuples (by decide))
  have GG_rankings_of : FnOk l.prog w K mg base CX0 1 f5 _ _ (spA [.dat] F_rankings_of) := okA_rankings_of F5 m_tuple
  have GG_prefers : FnOk l.prog w K mg base CX0 1 f4 _ _ (spA [.dat, .dat, .dat] F_prefers) := okA_prefers F4
  have GG_sides : FnOk l.prog w K mg base CX0 2 f7 _ _ (spA [.dat, .dat] F_sides) := okA_sides F7 k5 b5 g5 (FnOk.mono (j := 1) GG_rankings_of (by decide)) k4 b4 g4 (FnOk.mono (j := 1) GG_prefers (by decide))
  have GG_split_by : FnOk l.prog w K mg base CX0 3 f8 _ _ (spA [.dat, .dat, .dat] F_split_by) := okA_split_by F8 k7 b7 g7 (FnOk.mono (j := 2) GG_sides (by decide)) m_tuple m_enumerate
  have GG_splits : FnOk l.prog w K mg base (L2.CX l.prog w) 4 f9 _ _ (spA [.dat, .dat] (F_splits cc)) := okA_splits (cc := cc) F9 k6 b6 g6 (FnOk.mono (j := 3) GG_is_taster_number (by decide)) k3 b3 g3 (FnOk.mono (j := 2) GG_all_pairs (by decide)) k8 b8 g8 (FnOk.mono (j := 3) GG_split_by (by decide)) T_NoTaster m_tuple m_sorted
  have GG__law_told : FnOk l.prog w K mg base CX0 5 f26 _ _ (spA [.dat, .dat] (F__law_told cc)) := okA__law_told (cc := cc) F26 k9 b9 g9 (FnOk.mono (j := 4) GG_splits (by decide)) XT gB gC_NoRanking gC_NoDish gC_NoTaster nff_taster m_isinstance
  have GG__law_odd : FnOk l.prog w K mg base CX0 2 f15 _ _ (spA [.deck] F__law_odd) := okA__law_odd F15 k11 b11 g11 (okA__law_next F11 m_len)
  have GG__law_whole : FnOk l.prog w K mg base CX0 1 f14 _ _ (spA [.dat] F__law_whole) := okA__law_whole F14 m_isinstance m_bool m_int
  exact okA_law (cc := cc) F27 k10 b10 g10 (ok_deck F10 m_abs m_len) k22 b22 g22 (FnOk.mono (j := 5) GG__law_table (by decide)) k13 b13 g13 (FnOk.mono (j := 6) GG__law_same (by decide)) k25 b25 g25 (FnOk.mono (j := 3) GG__law_due (by decide)) k26 b26 g26 (FnOk.mono (j := 5) GG__law_told (by decide)) k15 b15 g15 (FnOk.mono (j := 2) GG__law_odd (by decide)) k14 b14 g14 (FnOk.mono (j := 1) GG__law_whole (by decide)) m_range m_repr m_len (law_of cc hcc law_w)

end TR
open PySem PySem.W PyProof.Rows
set_option maxHeartbeats 0 in
theorem PySem.Challenge.cw_tasterow_k11_splits_holds : PySem.Challenge.rw_tasterow_k11_splits.Holds := by
  w_on; o_law; k_head; (case hw => w_witness2)
  k_fill
  refine TR.walk_ofG (l := PySem.Challenge.rw_tasterow_k11_splits) (n := 63) (k := 7) (x := "_law_script") (sp := fun w => TR.spLaw _) rfl (by decide) rfl ⟨rfl, by decide, by decide⟩ (fun w h Y => PySem.W.kIn_of Y) ?F (fun _ _ a ns hl _ hS => ⟨a, ns, rfl, hS, hl, fun _ => rfl⟩)
  case F =>
    intro w mg fa h KX G hmg
    refine' TR.all_mk KX G hmg ?a0 ?l0 ?c0 ?k0 ?a1 ?l1 ?c1 ?k1 ?a2 ?l2 ?c2 ?k2 ?a3 ?l3 ?c3 ?k3 ?a4 ?l4 ?c4 ?k4 ?a5 ?l5 ?c5 ?k5 ?a6 ?l6 ?c6 ?k6 ?a7 ?l7 ?c7 ?k7 ?a8 ?l8 ?c8 ?k8 ?a9 ?l9 ?c9 ?k9 ?a10 ?l10 ?c10 ?k10 ?a11 ?l11 ?c11 ?k11 ?a12 ?l12 ?c12 ?k12 ?a13 ?l13 ?c13 ?k13 ?a14 ?l14 ?c14 ?k14 ?a15 ?l15 ?c15 ?k15 ?a16 ?l16 ?c16 ?k16 ?a17 ?l17 ?c17 ?k17 ?a18 ?l18 ?c18 ?k18 ?a19 ?l19 ?c19 ?k19 ?a20 ?l20 ?c20 ?k20 ?a21 ?l21 ?c21 ?k21 ?a22 ?l22 ?c22 ?k22 ?a23 ?l23 ?c23 ?k23 ?a24 ?l24 ?c24 ?k24 ?a25 ?l25 ?c25 ?k25 ?a26 ?l26 ?c26 ?k26 ?a27 ?l27 ?c27 ?k27 ?eB ?eBs ?eBd ?eBt ?ehn ?eht ?n_NoRanking ?ga_NoRanking ?gg_NoRanking ?ex_NoRanking ?hd_NoRanking ?ha_NoRanking ?hm_NoRanking ?kp_NoRanking ?ty_NoRanking ?sb_NoRanking ?n_NoTaster ?ga_NoTaster ?gg_NoTaster ?ex_NoTaster ?hd_NoTaster ?ha_NoTaster ?hm_NoTaster ?kp_NoTaster ?ty_NoTaster ?sb_NoTaster ?n_NoDish ?ga_NoDish ?gg_NoDish ?ex_NoDish ?hd_NoDish ?ha_NoDish ?hm_NoDish ?kp_NoDish ?ty_NoDish ?sb_NoDish ?L_NoTaster ?sa_NoTaster ?nf_NoTaster ?in_NoTaster ?tf_NoTaster ?lf_NoTaster ?cf_NoTaster ?ss_NoTaster ?kt_0_0 ?kt_0_1 ?kt_0_2 ?kv_0 ?nfx_taster_0 ?kt_1_0 ?kt_1_1 ?kt_1_2 ?kv_1 ?nfx_taster_1 ?kt_2_0 ?kt_2_1 ?kt_2_2 ?kv_2 ?nfx_taster_2 ?z0 ?z1 ?z2 ?z3 ?z4 ?z5 ?z6 ?z7 ?z8 ?z9 ?z10 ?z11 ?z12
    (case a0 => k_is); (case l0 => k_is); (case c0 => k_is); (case k0 => k_is); (case a1 => k_is); (case l1 => k_is); (case c1 => k_is); (case k1 => k_is); (case a2 => k_is); (case l2 => k_is); (case c2 => k_is); (case k2 => k_is); (case a3 => k_is); (case l3 => k_is); (case c3 => k_is); (case k3 => k_is); (case a4 => k_is); (case l4 => k_is); (case c4 => k_is); (case k4 => k_is); (case a5 => k_is); (case l5 => k_is); (case c5 => k_is); (case k5 => k_is); (case a6 => k_is); (case l6 => k_is); (case c6 => k_is); (case k6 => k_is); (case a7 => k_is); (case l7 => k_is); (case c7 => k_is); (case k7 => k_is); (case a8 => k_is); (case l8 => k_is); (case c8 => k_is); (case k8 => k_is); (case a9 => k_is); (case l9 => k_is); (case c9 => k_is); (case k9 => k_is); (case a10 => k_is); (case l10 => k_is); (case c10 => k_is); (case k10 => k_is); (case a11 => k_is); (case l11 => k_is); (case c11 => k_is); (case k11 => k_is); (case a12 => k_is); (case l12 => k_is); (case c12 => k_is); (case k12 => k_is); (case a13 => k_is); (case l13 => k_is); (case c13 => k_is); (case k13 => k_is); (case a14 => k_is); (case l14 => k_is); (case c14 => k_is); (case k14 => k_is); (case a15 => k_is); (case l15 => k_is); (case c15 => k_is); (case k15 => k_is); (case a16 => k_is); (case l16 => k_is); (case c16 => k_is); (case k16 => k_is); (case a17 => k_is); (case l17 => k_is); (case c17 => k_is); (case k17 => k_is); (case a18 => k_is); (case l18 => k_is); (case c18 => k_is); (case k18 => k_is); (case a19 => k_is); (case l19 => k_is); (case c19 => k_is); (case k19 => k_is); (case a20 => k_is); (case l20 => k_is); (case c20 => k_is); (case k20 => k_is); (case a21 => k_is); (case l21 => k_is); (case c21 => k_is); (case k21 => k_is); (case a22 => k_is); (case l22 => k_is); (case c22 => k_is); (case k22 => k_is); (case a23 => k_is); (case l23 => k_is); (case c23 => k_is); (case k23 => k_is); (case a24 => k_is); (case l24 => k_is); (case c24 => k_is); (case k24 => k_is); (case a25 => k_is); (case l25 => k_is); (case c25 => k_is); (case k25 => k_is); (case a26 => k_is); (case l26 => k_is); (case c26 => k_is); (case k26 => k_is); (case a27 => k_is); (case l27 => k_is); (case c27 => k_is); (case k27 => k_is); (case eB => k_is); (case eBs => k_is); (case eBd => k_is); (case eBt => k_is); (case ehn => k_is); (case eht => k_is); (case n_NoRanking => k_is); (case ga_NoRanking => k_is); (case gg_NoRanking => k_is); (case ex_NoRanking => k_is); (case hd_NoRanking => k_is); (case ha_NoRanking => k_is); (case hm_NoRanking => k_is); (case kp_NoRanking => k_is); (case ty_NoRanking => k_is); (case sb_NoRanking => k_is); (case n_NoTaster => k_is); (case ga_NoTaster => k_is); (case gg_NoTaster => k_is); (case ex_NoTaster => k_is); (case hd_NoTaster => k_is); (case ha_NoTaster => k_is); (case hm_NoTaster => k_is); (case kp_NoTaster => k_is); (case ty_NoTaster => k_is); (case sb_NoTaster => k_is); (case n_NoDish => k_is); (case ga_NoDish => k_is); (case gg_NoDish => k_is); (case ex_NoDish => k_is); (case hd_NoDish => k_is); (case ha_NoDish => k_is); (case hm_NoDish => k_is); (case kp_NoDish => k_is); (case ty_NoDish => k_is); (case sb_NoDish => k_is); (case L_NoTaster => k_is); (case sa_NoTaster => k_is); (case nf_NoTaster => k_is); (case in_NoTaster => k_is); (case tf_NoTaster => k_is); (case lf_NoTaster => k_is); (case cf_NoTaster => k_is); (case ss_NoTaster => first | rfl | k_is); (case kt_0_0 => kit_is); (case kt_0_1 => kit_is); (case kt_0_2 => kit_is); (case kv_0 => kit_is); (case nfx_taster_0 => k_is); (case kt_1_0 => kit_is); (case kt_1_1 => kit_is); (case kt_1_2 => kit_is); (case kv_1 => kit_is); (case nfx_taster_1 => k_is); (case kt_2_0 => kit_is); (case kt_2_1 => kit_is); (case kt_2_2 => kit_is); (case kv_2 => kit_is); (case nfx_taster_2 => k_is); (case z0 => k_is); (case z1 => k_is); (case z2 => k_is); (case z3 => k_is); (case z4 => k_is); (case z5 => k_is); (case z6 => k_is); (case z7 => k_is); (case z8 => k_is); (case z9 => k_is); (case z10 => k_is); (case z11 => k_is); (case z12 => k_is)
