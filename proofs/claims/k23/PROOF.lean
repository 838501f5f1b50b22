import PyProof.Rows.All
import Wide.All
import OpenK.AllK
import Wide.FinOn
import HandS.ForMost
import HandS.TupAny
import HandS.TupMul
import HandS.Wide
import HandS.Deep
import HandS.Style
import HandS.Exc
import HandS.ExcOwn
import KE.DataEq
import KE.DataCmp
import KE.DataFind
import KE.SortData
import PyProof.ReprRoads
import HandS.Text
import HandS.IsInst
import PyProof.Rows.RuleB_pow
import HandS.Ends
import HandS.Iter
import HandS.Zip
import HandS.Dict
import KE.KDictPairs
import HandS.DictComp
import HandS.Words
import KE.DatumOrd
import HandS.More
import HandS.StrMore
import HandS.Flow
import PyProof.TypeEq
import PyProof.FactsAll.object_2
import HandS.Defaults
import HandS.WideBits
import KE.GoesEnum
import PyProof.StrLawsRepr
import PySem.Challenge.RW_piledoors_k23_labels_dropped
set_option Elab.async false
set_option linter.all false
set_option maxRecDepth 100000
/-! L3Tup -/
/-! Tuples that are made: tracked with their very object, whose own dict is none. -/
namespace L3
open PySem PySem.Spec PyProof.Rows L2 HT
section
variable {X : Cx}
/-- a place for a new tuple: as a tuple, or with its object -/
def NewT (xs : List V) (H : Hp) (Q : VK) : Prop := (∀ p, H p = none → Q (.ref p) (L2.upd H p (.tup xs))) ∨ ∀ p o, o.dict = none → H p = none → Q (.ref p) (L2.upd H p (.frz o (.tup xs)))
theorem newT_at {pins : List (Addr × Obj)} {s : Shared} {σ : L2.St} {H : Hp} {Q : VK} {xs : List V} {its : List Value} {h' : Heap} (I : Inv X pins σ H s) (hz : xs.length ≤ sizeLine) (r : Vals xs its) (q : NewT xs H Q) :
    EP X pins σ Q (.ref s.heap.objs.size) { s with heap := s.heap.push { cls := .type "tuple", data := .seq its.toArray } } := by
  rcases q with q | q
  · exact ⟨.ref s.heap.objs.size, _, I.laid (t' := s.toks) (o := .tup xs) (fun b ob q => Heap.get?_push_of_some _ q) (Nat.le_refl _) ⟨hz, its, r, IsTup.new _ _⟩, rfl, q _ (I.hok.fresh (Nat.le_refl _))⟩
  refine ⟨.ref s.heap.objs.size, _, I.laid (t' := s.toks) (o := .frz { cls := .type "tuple", data := .seq its.toArray } (.tup xs)) (fun b ob q => Heap.get?_push_of_some _ q) (Nat.le_refl _) ?_, rfl, q _ _ rfl (I.hok.fresh (Nat.le_refl _))⟩
  exact ⟨Heap.get?_push_size _ rfl, hz, its, r, IsTup.new _ _⟩
def tTupS (t : TA) : TE := fun σ H Q => t σ H fun xs H1 => xs.length ≤ sizeLine ∧ NewT xs H1 Q
theorem pe_tupS {es : List Expr} {t : TA} {x1 : _} {pos : Pos} (h : PA X es t) : PE X (.Tuple es x1 pos) (tTupS t) := by
  refine ⟨fun pins s σ H Q I hq => ?_⟩
  refine wpAny_Tuple_spliced (thn (h.run pos pins s σ H _ I hq) fun us s1 ⟨xs, H1, I1, r, z, q⟩ => ⟨by rw [← r.length]; exact z, ?_⟩)
  exact newT_at (h' := s1.heap) I1 z r q
theorem call_tupleS : CallR X (.type "tuple") (fun xs H Q => ∃ p ys, xs = [.ref p] ∧ ((SqL X.K H p ys ∧ NewT ys H Q) ∨ (SqT X.K H p ys ∧ Q (.ref p) H))) := by
  intro pins s σ H xs us Q I r h
  obtain ⟨p, ys, rfl, h⟩ := h
  obtain ⟨u, rfl, rx⟩ := vals1 r
  cases rx
  rcases h with ⟨hq, q⟩ | ⟨hq, q⟩
  · obtain ⟨its, r', pl, hz⟩ := I.list hq
    have hlen := r'.length
    refine call_tuple_list pl.isList (fun h' kp => ?_) (by simp only [List.size_toArray] <;> omega)
    have I1 : Inv X pins σ H { s with heap := h' } := I.kept (t' := s.toks) kp
    exact newT_at (h' := h') I1 (by omega) r' q
  · obtain ⟨its, r', pl, hz⟩ := I.tuple hq
    exact call_tuple_same pl ⟨.ref p, H, I, rfl, q⟩
def rCatS (K : PySem.W.Frag) : R2 := fun x y H Q => ∃ a b xs ys, x = .ref a ∧ y = .ref b ∧ SqT K H a xs ∧ SqT K H b ys ∧ xs.length + ys.length ≤ sizeLine ∧
  (xs = [] → Q (.ref b) H) ∧ (xs ≠ [] → ys = [] → Q (.ref a) H) ∧ (xs ≠ [] → ys ≠ [] → NewT (xs ++ ys) H Q)
theorem op_catS : OpR X (binaryOp .Add) (rCatS X.K) := by
  intro pins s σ H x y v u Q I rx ry h
  obtain ⟨a, b, xs, ys, rfl, rfl, ha, hb, hz, q0, q1, q2⟩ := h
  cases rx
  cases ry
  obtain ⟨its, r1, p1, _⟩ := I.tuple ha
  obtain ⟨its2, r2, p2, _⟩ := I.tuple hb
  by_cases hx : xs = []
  · subst hx
    cases r1
    exact cat_tup0 p1 p2 ⟨.ref b, H, I, rfl, q0 rfl⟩
  · refine HT.cat_tup p1 p2 (fun z => hx (r1.nil_iff.mp z)) (fun z => ⟨.ref a, H, I, rfl, q1 hx (r2.nil_iff.mp z)⟩) (fun z => ?_) (by rw [← r1.length, ← r2.length]; exact hz)
    exact newT_at (h' := s.heap) I (by rw [List.length_append]; exact hz) (r1.append r2) (q2 hx (fun w => z (r2.nil_iff.mpr w)))
def rSlS (K : PySem.W.Frag) : V → Option Int → Option Int → Hp → VK → Prop := fun x lo hi H Q => ∃ a xs, x = .ref a ∧ SqT K H a xs ∧
  (HT.sIx xs.length 0 lo = 0 ∧ HT.sIx xs.length xs.length hi = xs.length → Q (.ref a) H) ∧ (¬ (HT.sIx xs.length 0 lo = 0 ∧ HT.sIx xs.length xs.length hi = xs.length) → NewT (cutV xs lo hi) H Q)
theorem sl_tupS : SlR X (rSlS X.K) := by
  intro pins s σ H x v vl vu lo hi sl Q I rx hs pl pu h
  obtain ⟨a, xs, rfl, hx, q1, q2⟩ := h
  cases rx
  obtain ⟨its, r, ht, hz⟩ := I.tuple hx
  have hlen : its.toArray.size = xs.length := by rw [List.size_toArray]; exact r.length.symm
  refine ⟨"tuple", _, PyProof.Rows.slot_tuple_getitem.lookup, ht.typeIs, ?_⟩
  by_cases hw : HT.sIx xs.length 0 lo = 0 ∧ HT.sIx xs.length xs.length hi = xs.length
  · exact getItem_tuple_whole ht hs pl pu (by rw [hlen]; exact hw) ⟨.ref a, H, I, rfl, q1 hw⟩
  · refine HT.getItem_tuple_cut ht hs pl pu (by rw [hlen]; exact hw) ?_ (by rw [hlen]; exact hz)
    rw [hlen]
    exact newT_at (h' := s.heap) I (Nat.le_trans (cutV_length xs lo hi) hz) ((r.drop (HT.sIx xs.length 0 lo)).take (HT.sIx xs.length xs.length hi - HT.sIx xs.length 0 lo)) (q2 hw)
/-! ### t * n -/
theorem tuple_mul_same (l : Addr) (items : Array Value) (n : Nat) (dd : Option Addr) (sl : Array (Option Value)) (x : Int) (u : Tok) (c0 : (decide (x < -(2 ^ 63)) || decide (x ≥ 2 ^ 63)) = false) (c1 : (items.isEmpty || x == 1) = true) :
    Meets (Builtin.«tuple.__mul__» ⟨[.ref l, .int x u], []⟩) (fun _ R s => s.heap.get? l = some { cls := .type "tuple", dict := dd, data := .seq items n, slots := sl } ∧ R (.ok (.ret (Value.ref l))) s) :=
  .of_wp fun prog w A R s h => by
    obtain ⟨hp, g, d, tk, os⟩ := s
    obtain ⟨hl, h⟩ := h
    have f1 := AutoSeq1.idx_int
    wp_walk using wpAny_loadPart' hl
    repeat (first
      | (refine wpAny_ite_false (decide_eq_false (by rw [c0]; exact Bool.false_ne_true)) ?_; wp_walk using wpAny_loadPart' hl)
      | (refine wpAny_ite_true (decide_eq_true c1) ?_; wp_walk using wpAny_loadPart' hl))
    exact ⟨_, rfl, h⟩
theorem tuple_mul_zero (l : Addr) (items : Array Value) (n : Nat) (dd : Option Addr) (sl : Array (Option Value)) (x : Int) (u : Tok) (c0 : (decide (x < -(2 ^ 63)) || decide (x ≥ 2 ^ 63)) = false) (c1 : (items.isEmpty || x == 1) = false) (c2 : (decide (x ≤ 0) || items.isEmpty) = true) :
    Meets (Builtin.«tuple.__mul__» ⟨[.ref l, .int x u], []⟩) (fun _ R s => s.heap.get? l = some { cls := .type "tuple", dict := dd, data := .seq items n, slots := sl } ∧ R (.ok (.ret (Value.ref s.heap.objs.size))) { s with heap := s.heap.push { cls := Value.type "tuple", data := Data.seq #[] }, toks := s.toks }) :=
  .of_wp fun prog w A R s h => by
    obtain ⟨hp, g, d, tk, os⟩ := s
    obtain ⟨hl, h⟩ := h
    have f1 := AutoSeq1.idx_int
    wp_walk using wpAny_loadPart' hl
    repeat (first
      | (refine wpAny_ite_false (decide_eq_false (by rw [c0]; exact Bool.false_ne_true)) ?_; wp_walk using wpAny_loadPart' hl)
      | (refine wpAny_ite_false (decide_eq_false (by rw [c1]; exact Bool.false_ne_true)) ?_; wp_walk using wpAny_loadPart' hl)
      | (refine wpAny_ite_true (decide_eq_true c2) ?_; wp_walk using wpAny_loadPart' hl)
      | (refine wpAny_ite_false (decide_eq_false (Nat.not_lt.mpr (Nat.zero_le _))) ?_; wp_walk using wpAny_loadPart' hl))
    exact ⟨_, rfl, h⟩
def rRepS (K : PySem.W.Frag) : R2 := fun x y H Q => ∃ l k xs, x = .ref l ∧ y = .int k ∧ SqT K H l xs ∧ -(2 ^ 62) ≤ k ∧ k < 2 ^ 62 ∧ ((xs = [] ∨ k = 1) → Q (.ref l) H) ∧ (xs ≠ [] → k ≤ 0 → NewT [] H Q) ∧
  (xs ≠ [] → 2 ≤ k → xs.length * k.toNat ≤ sizeLine ∧ NewT (List.replicate k.toNat xs).flatten H Q)
theorem op_repS : OpR X (binaryOp .Mult) (rRepS X.K) := by
  intro pins s σ H x y v u Q I rx ry h
  obtain ⟨l, k, xs, rfl, rfl, hT, k1, k2, q1, q2, q3⟩ := h
  cases rx
  obtain ⟨t, rfl⟩ := ry
  obtain ⟨its, r, ⟨⟨cls, dd, data, sl⟩, ho, hc, n, hd⟩, hs⟩ := I.tuple hT
  simp only at hc hd
  subst hc hd
  have hle : its.length = xs.length := r.length.symm
  have hsz0 : its.toArray.size = xs.length := by rw [List.size_toArray, hle]
  have c0 : (decide (k < -(2 ^ 63)) || decide (k ≥ 2 ^ 63)) = false := by
    rw [decide_eq_false (by omega), decide_eq_false (by omega)] <;> rfl

  by_cases e1 : xs = [] ∨ k = 1
  · have c1 : (its.toArray.isEmpty || k == 1) = true := by
      rcases e1 with e | e
      · subst e
        cases r
        rfl
      · subst e
        simp
    exact wpAny_binaryOp_repeat_ref (T := "tuple") (U := "int") (by decide) ⟨_, ho, rfl⟩ (fun s' => typeIs_int s' k t) noFill_tuple_mul F.fills_int_mul F.slot_int_rmul repeat_tuple F.slot_int_index.lookup
      (call_meets F.slot_int_rmul (typeIs_int s k t) F.entry_int_rmul (F.args_int_rmul_2 _ _) (int_rmul_tuple k t l its.toArray n dd sl)
        ⟨ho, rfl, ⟨_, ho, rfl⟩, call_meets F.slot_tuple_mul ⟨_, ho, rfl⟩ F.entry_tuple_mul (F.args_tuple_mul_2 _ _) (tuple_mul_same l its.toArray n dd sl k t c0 c1) ⟨ho, ⟨.ref l, H, I, rfl, q1 e1⟩⟩⟩)
  · have hne : xs ≠ [] := fun z => e1 (.inl z)
    have hk1 : k ≠ 1 := fun z => e1 (.inr z)
    have hi : its.toArray.isEmpty = false := by
      cases its with
      | nil => exact absurd (List.eq_nil_of_length_eq_zero hle.symm) hne
      | cons a b => rfl
    have c1 : (its.toArray.isEmpty || k == 1) = false := by
      rw [hi, Bool.false_or]
      exact beq_eq_false_iff_ne.mpr hk1
    by_cases e2 : k ≤ 0
    · have c2 : (decide (k ≤ 0) || its.toArray.isEmpty) = true := by rw [decide_eq_true e2, Bool.true_or]
      exact wpAny_binaryOp_repeat_ref (T := "tuple") (U := "int") (by decide) ⟨_, ho, rfl⟩ (fun s' => typeIs_int s' k t) noFill_tuple_mul F.fills_int_mul F.slot_int_rmul repeat_tuple F.slot_int_index.lookup
        (call_meets F.slot_int_rmul (typeIs_int s k t) F.entry_int_rmul (F.args_int_rmul_2 _ _) (int_rmul_tuple k t l its.toArray n dd sl)
          ⟨ho, rfl, ⟨_, ho, rfl⟩, call_meets F.slot_tuple_mul ⟨_, ho, rfl⟩ F.entry_tuple_mul (F.args_tuple_mul_2 _ _) (tuple_mul_zero l its.toArray n dd sl k t c0 c1 c2) ⟨ho, newT_at (its := []) (h' := s.heap) I (Nat.zero_le _) .nil (q2 hne e2)⟩⟩)
    · obtain ⟨hz, q⟩ := q3 hne (by omega)
      have hzl : xs.length * k.toNat ≤ 16777216 := by rw [← sizeLine_eq]; exact hz
      have flen : (List.replicate k.toNat its).flatten.length ≤ sizeLine := by
        rw [PyProof.Rows.lm_len_rep_flat, hle, Nat.mul_comm]
        exact hz
      have hm : ((its.toArray.size : Nat) : Int) * k ≤ 16777216 := by
        rw [hsz0]
        have : ((xs.length : Nat) : Int) * k = ((xs.length * k.toNat : Nat) : Int) := by rw [Int.natCast_mul, Int.toNat_of_nonneg (by omega)]
        rw [this]
        omega
      have c2 : (decide (k ≤ 0) || its.toArray.isEmpty) = false := by
        rw [hi, Bool.or_false]
        exact decide_eq_false e2
      have c4 : Builtin.Tuple.tupleTooMany (((its.toArray.size : Nat) : Int) * k) = false := by
        unfold Builtin.Tuple.tupleTooMany
        rw [sizeLine_eq]
        exact decide_eq_false (by omega)
      refine wpAny_binaryOp_repeat_ref (T := "tuple") (U := "int") (by decide) ⟨_, ho, rfl⟩ (fun s' => typeIs_int s' k t) noFill_tuple_mul F.fills_int_mul F.slot_int_rmul repeat_tuple F.slot_int_index.lookup
        (call_meets F.slot_int_rmul (typeIs_int s k t) F.entry_int_rmul (F.args_int_rmul_2 _ _) (int_rmul_tuple k t l its.toArray n dd sl)
          ⟨ho, rfl, ⟨_, ho, rfl⟩, call_meets F.slot_tuple_mul ⟨_, ho, rfl⟩ F.entry_tuple_mul (F.args_tuple_mul_2 _ _) (tuple_mulW l its.toArray n dd sl k t c0 c1 c2 (by omega) c4 (by rw [size_rep, List.size_toArray]; exact flen)) ⟨ho, ?_⟩⟩)
      rw [size_rep]
      have hl2 : (List.replicate k.toNat xs).flatten.length ≤ sizeLine := by rw [PyProof.Rows.lm_len_rep_flat, Nat.mul_comm]; exact hz
      exact newT_at (h' := s.heap) I hl2 (r.rep k.toNat) q
end
end L3

/-! L3Base -/
/-! Plain data over the layer HandS: what a value stands for, a store of what changes, and the relation to the heap. -/
namespace L3
open PySem PySem.Spec PyProof.Rows L2

abbrev Av := Addr → Prop
def Kt (K : PySem.W.Frag) (a : Addr) (xs : List V) : Prop := ∃ (o : Obj) (its : Array Value) (n : Nat),
  K.lookup a = some o ∧ o.cls = .type "tuple" ∧ o.dict = none ∧ o.data = .seq its n ∧ its.size ≤ sizeLine ∧ Vals xs its.toList
/-- a tuple that was made, tracked with its object: its own dict is none -/
def Td (H : Hp) (a : Addr) (xs : List V) : Prop := ∃ o : Obj, o.dict = none ∧ H a = some (.frz o (.tup xs))
def Kl (K : PySem.W.Frag) (a : Addr) (xs : List V) : Prop := ∃ (o : Obj) (its : Array Value) (n : Nat),
  K.lookup a = some o ∧ o.cls = .type "list" ∧ o.dict = none ∧ o.data = .seq its n ∧ its.size ≤ sizeLine ∧ Vals xs its.toList
/-- of the shape of a key: (int, str), (int, int) -/
def keyB : List PyData → Bool
  | [.int _, .str _] => true
  | [.int _, .int _] => true
  | _ => false
def TpA (b : Bool) (K : PySem.W.Frag) (H : Hp) (A : Av) (a : Addr) (xs : List V) : Prop := match b with
  | true => ¬ A a ∧ H a = some (.tup xs)
  | false => (¬ A a ∧ Td H a xs) ∨ Kt K a xs
def LsA (K : PySem.W.Frag) (H : Hp) (A : Av) (a : Addr) (xs : List V) : Prop := ¬ A a ∧ H a = some (.lst xs)
def ScA (K : PySem.W.Frag) (H : Hp) (A : Av) (a : Addr) (xs : List V) : Prop := (¬ A a ∧ ∃ o, H a = some (.frz o (.lst xs))) ∨ Kl K a xs
theorem TpA.sq : ∀ {b : Bool} {K : PySem.W.Frag} {H : Hp} {A : Av} {a : Addr} {xs : List V}, TpA b K H A a xs → SqT K H a xs
  | true, _, _, _, _, _, h => .inl (.inl h.2)
  | false, _, _, _, _, _, h => Or.imp (fun ⟨_, o, _, e⟩ => Or.inr ⟨o, e⟩) (fun ⟨o, its, n, l, c, _, d, z, v⟩ => ⟨o, its, n, l, c, d, z, v⟩) h
theorem LsA.sq {K : PySem.W.Frag} {H : Hp} {A : Av} {a : Addr} {xs : List V} (h : LsA K H A a xs) : SqL K H a xs := .of h.2
theorem ScA.sq {K : PySem.W.Frag} {H : Hp} {A : Av} {a : Addr} {xs : List V} (h : ScA K H A a xs) : SqL K H a xs := h.imp (fun ⟨_, o, e⟩ => .inr ⟨o, e⟩) id

def keyD : Key → PyData
  | .inl i => .int i
  | .inr x => .str x

mutual
/-- the value v stands for the data d, and nothing of it lies in A -/
def Rp (K : PySem.W.Frag) (H : Hp) (A : Av) : PyData → V → Prop
  | .none, v => v = .non
  | .bool b, v => v = .bl b
  | .int i, v => v = .int i
  | .str x, v => v = .str x
  | .list ds, v => ∃ a xs, v = .ref a ∧ LsA K H A a xs ∧ RpL K H A ds xs
  | .tuple ds, v => ∃ a xs, v = .ref a ∧ TpA (keyB ds) K H A a xs ∧ RpL K H A ds xs
  | .dict kvs, v => ∃ a, v = .ref a ∧ ¬ A a ∧ ((∃ ks, H a = some (.dK ks) ∧ RpK K H A kvs ks) ∨ ∃ ks, H a = some (.dT ks) ∧ RpT K H A kvs ks)
def RpL (K : PySem.W.Frag) (H : Hp) (A : Av) : List PyData → List V → Prop
  | [], xs => xs = []
  | d :: ds, xs => ∃ x r, xs = x :: r ∧ Rp K H A d x ∧ RpL K H A ds r
def RpK (K : PySem.W.Frag) (H : Hp) (A : Av) : List (PyData × PyData) → List (Key × V) → Prop
  | [], ks => ks = []
  | (k, d) :: r, ks => ∃ q v s, ks = (q, v) :: s ∧ k = keyD q ∧ Rp K H A d v ∧ RpK K H A r s
def RpT (K : PySem.W.Frag) (H : Hp) (A : Av) : List (PyData × PyData) → List (List Key × V) → Prop
  | [], ks => ks = []
  | (k, d) :: r, ks => ∃ q v s, ks = (q, v) :: s ∧ k = .tuple (q.map keyD) ∧ Rp K H A d v ∧ RpT K H A r s
end

/-- what stands at a tracked place outside A stays, and stays outside -/
def Kp (H : Hp) (A : Av) (H' : Hp) (A' : Av) : Prop := ∀ a o, H a = some o → ¬ A a → H' a = some o ∧ ¬ A' a
section
variable {K : PySem.W.Frag} {H H' : Hp} {A A' : Av}
theorem TpA.kp (k : Kp H A H' A') {b : Bool} {a : Addr} {xs : List V} (h : TpA b K H A a xs) : TpA b K H' A' a xs := by
  cases b with
  | true => exact ⟨(k _ _ h.2 h.1).2, (k _ _ h.2 h.1).1⟩
  | false =>
  rcases h with ⟨n, o, d, r⟩ | h
  · exact .inl ⟨(k _ _ r n).2, o, d, (k _ _ r n).1⟩
  · exact .inr h
theorem LsA.kp (k : Kp H A H' A') {a : Addr} {xs : List V} (h : LsA K H A a xs) : LsA K H' A' a xs := ⟨(k _ _ h.2 h.1).2, (k _ _ h.2 h.1).1⟩
theorem ScA.kp (k : Kp H A H' A') {a : Addr} {xs : List V} (h : ScA K H A a xs) : ScA K H' A' a xs := by
  rcases h with ⟨n, o, r⟩ | h
  · exact .inl ⟨(k _ _ r n).2, o, (k _ _ r n).1⟩
  · exact .inr h
mutual
theorem Rp.kp (k : Kp H A H' A') : ∀ (d : PyData) (v : V), Rp K H A d v → Rp K H' A' d v
  | .none, _, h => by simpa only [Rp] using h
  | .bool _, _, h => by simpa only [Rp] using h
  | .int _, _, h => by simpa only [Rp] using h
  | .str _, _, h => by simpa only [Rp] using h
  | .list ds, v, h => by
    simp only [Rp] at h ⊢
    obtain ⟨a, xs, e, l, r⟩ := h
    exact ⟨a, xs, e, l.kp k, RpL.kp k ds xs r⟩
  | .tuple ds, v, h => by
    simp only [Rp] at h ⊢
    obtain ⟨a, xs, e, l, r⟩ := h
    exact ⟨a, xs, e, l.kp k, RpL.kp k ds xs r⟩
  | .dict kvs, v, h => by
    simp only [Rp] at h ⊢
    obtain ⟨a, e, n, q⟩ := h
    rcases q with ⟨ks, q, r⟩ | ⟨ks, q, r⟩
    · exact ⟨a, e, (k _ _ q n).2, .inl ⟨ks, (k _ _ q n).1, RpK.kp k kvs ks r⟩⟩
    · exact ⟨a, e, (k _ _ q n).2, .inr ⟨ks, (k _ _ q n).1, RpT.kp k kvs ks r⟩⟩
theorem RpL.kp (k : Kp H A H' A') : ∀ (ds : List PyData) (xs : List V), RpL K H A ds xs → RpL K H' A' ds xs
  | [], _, h => by simpa only [RpL] using h
  | d :: ds, _, h => by
    simp only [RpL] at h ⊢
    obtain ⟨x, r, e, p, q⟩ := h
    exact ⟨x, r, e, Rp.kp k d x p, RpL.kp k ds r q⟩
theorem RpK.kp (k : Kp H A H' A') : ∀ (kvs : List (PyData × PyData)) (ks : List (Key × V)), RpK K H A kvs ks → RpK K H' A' kvs ks
  | [], _, h => by simpa only [RpK] using h
  | (c, d) :: r, _, h => by
    simp only [RpK] at h ⊢
    obtain ⟨q, v, s, e, e2, p, t⟩ := h
    exact ⟨q, v, s, e, e2, Rp.kp k d v p, RpK.kp k r s t⟩
theorem RpT.kp (k : Kp H A H' A') : ∀ (kvs : List (PyData × PyData)) (ks : List (List Key × V)), RpT K H A kvs ks → RpT K H' A' kvs ks
  | [], _, h => by simpa only [RpT] using h
  | (c, d) :: r, _, h => by
    simp only [RpT] at h ⊢
    obtain ⟨q, v, s, e, e2, p, t⟩ := h
    exact ⟨q, v, s, e, e2, Rp.kp k d v p, RpT.kp k r s t⟩
end
theorem RpL.len : ∀ {ds : List PyData} {xs : List V}, RpL K H A ds xs → xs.length = ds.length
  | [], _, h => by
    simp only [RpL] at h
    rw [h]
    rfl
  | d :: ds, _, h => by
    simp only [RpL] at h
    obtain ⟨x, r, rfl, _, q⟩ := h
    rw [List.length_cons, List.length_cons, RpL.len q]
theorem RpL.get : ∀ {ds : List PyData} {xs : List V} {i : Nat} {d : PyData}, RpL K H A ds xs → ds[i]? = some d → ∃ x, xs[i]? = some x ∧ Rp K H A d x
  | d :: ds, _, 0, _, h, e => by
    simp only [RpL] at h
    obtain ⟨x, r, rfl, p, q⟩ := h
    cases Option.some.inj e
    exact ⟨x, rfl, p⟩
  | d :: ds, _, i + 1, _, h, e => by
    simp only [RpL] at h
    obtain ⟨x, r, rfl, p, q⟩ := h
    exact RpL.get (i := i) q (by simpa only [List.getElem?_cons_succ] using e)
theorem RpL.getV : ∀ {ds : List PyData} {xs : List V} {i : Nat} {x : V}, RpL K H A ds xs → xs[i]? = some x → ∃ d, ds[i]? = some d ∧ Rp K H A d x
  | [], _, i, x, h, e => by
    simp only [RpL] at h
    subst h
    simp at e
  | d :: ds, _, 0, _, h, e => by
    simp only [RpL] at h
    obtain ⟨x, r, rfl, p, q⟩ := h
    cases Option.some.inj e
    exact ⟨d, rfl, p⟩
  | d :: ds, _, i + 1, _, h, e => by
    simp only [RpL] at h
    obtain ⟨x, r, rfl, p, q⟩ := h
    exact RpL.getV (i := i) q (by simpa only [List.getElem?_cons_succ] using e)
theorem RpL.append : ∀ {ds es : List PyData} {xs ys : List V}, RpL K H A ds xs → RpL K H A es ys → RpL K H A (ds ++ es) (xs ++ ys)
  | [], _, _, _, h, q => by
    simp only [RpL] at h
    subst h
    exact q
  | d :: ds, _, _, _, h, q => by
    simp only [RpL] at h
    obtain ⟨x, r, rfl, p, t⟩ := h
    simp only [List.cons_append, RpL]
    exact ⟨x, _, rfl, p, RpL.append t q⟩
theorem RpL.nil : RpL K H A [] [] := by simp only [RpL]
theorem RpL.cons {d : PyData} {ds : List PyData} {x : V} {xs : List V} (p : Rp K H A d x) (q : RpL K H A ds xs) : RpL K H A (d :: ds) (x :: xs) := by
  simp only [RpL]
  exact ⟨x, xs, rfl, p, q⟩
theorem RpL.one {d : PyData} {x : V} (p : Rp K H A d x) : RpL K H A [d] [x] := .cons p .nil
theorem RpL.drop : ∀ {ds : List PyData} {xs : List V} (n : Nat), RpL K H A ds xs → RpL K H A (ds.drop n) (xs.drop n)
  | _, _, 0, h => h
  | [], _, n + 1, h => by
    simp only [RpL] at h
    subst h
    exact .nil
  | d :: ds, _, n + 1, h => by
    simp only [RpL] at h
    obtain ⟨x, r, rfl, p, t⟩ := h
    exact RpL.drop n t
theorem RpL.take : ∀ {ds : List PyData} {xs : List V} (n : Nat), RpL K H A ds xs → RpL K H A (ds.take n) (xs.take n)
  | ds, xs, 0, h => by
    rw [List.take_zero, List.take_zero]
    exact .nil
  | [], _, n + 1, h => by
    simp only [RpL] at h
    subst h
    exact .nil
  | d :: ds, _, n + 1, h => by
    simp only [RpL] at h
    obtain ⟨x, r, rfl, p, t⟩ := h
    exact .cons p (RpL.take n t)
theorem RpL.rev : ∀ {ds : List PyData} {xs : List V}, RpL K H A ds xs → RpL K H A ds.reverse xs.reverse
  | [], _, h => by
    simp only [RpL] at h
    subst h
    exact .nil
  | d :: ds, _, h => by
    simp only [RpL] at h
    obtain ⟨x, r, rfl, p, t⟩ := h
    rw [List.reverse_cons, List.reverse_cons]
    exact (RpL.rev t).append (.one p)
theorem RpL.rep {ds : List PyData} {xs : List V} (h : RpL K H A ds xs) : ∀ n : Nat, RpL K H A (List.replicate n ds).flatten (List.replicate n xs).flatten
  | 0 => .nil
  | n + 1 => by
    rw [List.replicate_succ, List.replicate_succ, List.flatten_cons, List.flatten_cons]
    exact h.append (RpL.rep h n)
mutual
theorem Rp.dp : ∀ (d : PyData) (v : V), d.plain = true → Rp K H A d v → Dp K H v d
  | .none, _, _, h => by
    simp only [Rp] at h
    rw [h]
    exact .non
  | .bool _, _, _, h => by
    simp only [Rp] at h
    rw [h]
    exact .bl _
  | .int _, _, _, h => by
    simp only [Rp] at h
    rw [h]
    exact .int _
  | .str _, _, _, h => by
    simp only [Rp] at h
    rw [h]
    exact .str _
  | .list ds, _, n, h => by
    simp only [Rp] at h
    obtain ⟨a, xs, rfl, l, r⟩ := h
    exact .lst l.sq (RpL.dp ds xs (by simpa only [PyData.plain] using n) r)
  | .tuple ds, _, n, h => by
    simp only [Rp] at h
    obtain ⟨a, xs, rfl, l, r⟩ := h
    exact .tup l.sq (RpL.dp ds xs (by simpa only [PyData.plain] using n) r)
  | .dict _, _, n, _ => by simp only [PyData.plain] at n; cases n
theorem RpL.dp : ∀ (ds : List PyData) (xs : List V), PyData.plainAll ds = true → RpL K H A ds xs → DpAll K H xs ds
  | [], _, _, h => by
    simp only [RpL] at h
    rw [h]
    exact .nil
  | d :: ds, _, n, h => by
    simp only [RpL] at h
    obtain ⟨x, r, rfl, p, t⟩ := h
    simp only [PyData.plainAll, Bool.and_eq_true] at n
    exact .cons (Rp.dp d x n.1 p) (RpL.dp ds r n.2 t)
end
end

/-! ### values, store, slots -/
/-- a value: data, a place of the store, a list that a local name alone holds, or the script -/
inductive D where
  | dat (d : PyData)
  | ref (n : Nat)
  | own (ds : List PyData)
  | scr (ns : List Int)
/-- what changes -/
inductive MO where
  | lst (ds : List D)
  | obj (c : Str) (fs : List (Str × D))
  | dct (kvs : List (PyData × D))
abbrev Store := List MO
abbrev Sl := List (Option D)
def D.stable : D → Bool
  | .own _ => false
  | _ => true

/-- the ghost of a body: the written part, the module's names, what callers hold, the heap and the store's places at the entry -/
structure Gh where
  K : PySem.W.Frag
  mg : Str → Option Value
  B : Av
  H0 : Hp
  th0 : List Addr

def RS (K : PySem.W.Frag) (H : Hp) (A : Av) (th : List Addr) : D → V → Prop
  | .dat d, v => Rp K H A d v
  | .ref n, v => ∃ a, v = .ref a ∧ th[n]? = some a
  | .own _, _ => False
  | .scr ns, v => ∃ a, v = .ref a ∧ ScA K H A a (ns.map V.int)
def RD (K : PySem.W.Frag) (H : Hp) (A : Av) (th : List Addr) : D → V → Prop
  | .dat d, v => Rp K H A d v
  | .ref n, v => ∃ a, v = .ref a ∧ th[n]? = some a
  | .own ds, v => ∃ a xs, v = .ref a ∧ H a = some (.lst xs) ∧ RpL K H A ds xs ∧ a ∉ th
  | .scr ns, v => ∃ a, v = .ref a ∧ ScA K H A a (ns.map V.int)
def RSL (K : PySem.W.Frag) (H : Hp) (A : Av) (th : List Addr) : List D → List V → Prop
  | [], xs => xs = []
  | d :: ds, xs => ∃ x r, xs = x :: r ∧ RS K H A th d x ∧ RSL K H A th ds r
def RSF (K : PySem.W.Frag) (H : Hp) (A : Av) (th : List Addr) : List (Str × D) → List (Str × V) → Prop
  | [], xs => xs = []
  | (f, d) :: ds, xs => ∃ x r, xs = (f, x) :: r ∧ RS K H A th d x ∧ RSF K H A th ds r
def RSK (K : PySem.W.Frag) (H : Hp) (A : Av) (th : List Addr) : List (PyData × D) → List (Key × V) → Prop
  | [], ks => ks = []
  | (k, d) :: r, ks => ∃ q v s, ks = (q, v) :: s ∧ k = keyD q ∧ RS K H A th d v ∧ RSK K H A th r s
def RST (K : PySem.W.Frag) (H : Hp) (A : Av) (th : List Addr) : List (PyData × D) → List (List Key × V) → Prop
  | [], ks => ks = []
  | (k, d) :: r, ks => ∃ q v s, ks = (q, v) :: s ∧ k = .tuple (q.map keyD) ∧ RS K H A th d v ∧ RST K H A th r s
def MR (K : PySem.W.Frag) (mg : Str → Option Value) (H : Hp) (A : Av) (th : List Addr) : MO → Addr → Prop
  | .lst ds, a => ∃ xs, H a = some (.lst xs) ∧ RSL K H A th ds xs
  | .obj c fs, a => ∃ C dx us, mg c = some (.ref C) ∧ H a = some (.ins C dx us) ∧ RSF K H A th fs us
  | .dct kvs, a => (∃ ks, H a = some (.dK ks) ∧ RSK K H A th kvs ks) ∨ ∃ ks, H a = some (.dT ks) ∧ RST K H A th kvs ks
def Ow (rho : Sl) (sg : L2.St) (i : Nat) (a : Addr) : Prop := ∃ ds, rho[i]? = some (some (.own ds)) ∧ sg[i]? = some (some (.ref a))
/-- what is not to be met in data -/
def Avd (g : Gh) (th : List Addr) (rho : Sl) (sg : L2.St) : Av := fun a => g.B a ∨ a ∈ th ∨ ∃ i, Ow rho sg i a
def Avf (g : Gh) (th : List Addr) : Av := fun a => g.B a ∨ a ∈ th
structure SRel (K : PySem.W.Frag) (mg : Str → Option Value) (H : Hp) (A : Av) (th : List Addr) (S : Store) : Prop where
  len : th.length = S.length
  at_ : ∀ (n : Nat) (o : MO) (a : Addr), S[n]? = some o → th[n]? = some a → MR K mg H A th o a
/-- heap, store and the entry -/
structure RelG (g : Gh) (th : List Addr) (H : Hp) : Prop where
  nd : th.Nodup
  pre : g.th0 <+: th
  new : ∀ a ∈ th, a ∉ g.th0 → g.H0 a = none
  keep : ∀ a o, g.H0 a = some o → a ∉ g.th0 → H a = some o
  bth : ∀ a ∈ th, ¬ g.B a
  trB : ∀ a, g.B a → (H a).isSome = true
  trT : ∀ a ∈ th, (H a).isSome = true
structure RelF (g : Gh) (th : List Addr) (S : Store) (H : Hp) : Prop extends RelG g th H where
  st : SRel g.K g.mg H (Avf g th) th S
structure Rel (g : Gh) (th : List Addr) (rho : Sl) (S : Store) (sg : L2.St) (H : Hp) : Prop extends RelG g th H where
  st : SRel g.K g.mg H (Avd g th rho sg) th S
  len : rho.length = sg.length
  slot : ∀ (i : Nat) (d : D), rho[i]? = some (some d) → ∃ v, sg[i]? = some (some v) ∧ RD g.K H (Avd g th rho sg) th d v
  own1 : ∀ i j a, Ow rho sg i a → Ow rho sg j a → i = j
  own2 : ∀ i a, Ow rho sg i a → a ∉ th ∧ ¬ g.B a ∧ g.H0 a = none
/-- what an expression does to the heap -/
structure Ext (th : List Addr) (H : Hp) (th' : List Addr) (H' : Hp) : Prop where
  pre : th <+: th'
  keep : ∀ a o, H a = some o → a ∉ th → H' a = some o
  new : ∀ a ∈ th', a ∉ th → H a = none
theorem Ext.refl (th : List Addr) (H : Hp) : Ext th H th H := ⟨List.prefix_refl _, fun _ _ e _ => e, fun _ h n => absurd h n⟩
theorem Ext.trans {th th1 th2 : List Addr} {H H1 H2 : Hp} (a : Ext th H th1 H1) (b : Ext th1 H1 th2 H2) : Ext th H th2 H2 where
  pre := a.pre.trans b.pre
  keep := fun x o e n => b.keep x o (a.keep x o e n) fun m => by
    have := a.new x m n
    rw [e] at this
    cases this
  new := fun x m n => by
    by_cases q : x ∈ th1
    · exact a.new x q n
    · cases e : H x with
      | none => rfl
      | some o =>
        have := b.new x m q
        rw [a.keep x o e n] at this
        cases this
theorem Ext.upd {th : List Addr} {H : Hp} {p : Addr} {o : HO} (h : H p = none) : Ext th H th (L2.upd H p o) :=
  ⟨List.prefix_refl _, fun a u e _ => by rw [upd_ne (ne_of_none e h)]; exact e, fun _ m n => absurd m n⟩
section
variable {g : Gh} {th th' : List Addr} {rho : Sl} {S S' : Store} {sg : L2.St} {H H' : Hp}
theorem Avd.sub (a : Addr) (h : Avf g th a) : Avd g th rho sg a := h.elim .inl fun h => .inr (.inl h)
theorem Ext.kp (x : Ext th H th' H') (hB : ∀ a ∈ th', a ∉ th → H a = none := by exact x.new) : Kp H (Avd g th rho sg) H' (Avd g th' rho sg) := fun a o e n => by
  have nt : a ∉ th := fun m => n (.inr (.inl m))
  refine ⟨x.keep a o e nt, fun q => ?_⟩
  rcases q with q | q | q
  · exact n (.inl q)
  · have := x.new a q nt
    rw [e] at this
    cases this
  · exact n (.inr (.inr q))
theorem Ext.kpf (x : Ext th H th' H') : Kp H (Avf g th) H' (Avf g th') := fun a o e n => by
  have nt : a ∉ th := fun m => n (.inr m)
  refine ⟨x.keep a o e nt, fun q => ?_⟩
  rcases q with q | q
  · exact n (.inl q)
  · have := x.new a q nt
    rw [e] at this
    cases this
theorem getp {α : Type} {l l' : List α} (h : l <+: l') {i : Nat} {a : α} (e : l[i]? = some a) : l'[i]? = some a := by
  obtain ⟨r, rfl⟩ := h
  have hi : i < l.length := (List.getElem?_eq_some_iff.mp e).1
  rw [List.getElem?_append_left hi]
  exact e
section
variable {K : PySem.W.Frag} {A A' : Av}
theorem RS.kp (k : Kp H A H' A') (p : th <+: th') : ∀ {d : D} {v : V}, RS K H A th d v → RS K H' A' th' d v
  | .dat d, v, h => Rp.kp k d v h
  | .ref n, v, h => by
    obtain ⟨a, e, q⟩ := h
    exact ⟨a, e, getp p q⟩
  | .own _, _, h => h.elim
  | .scr _, _, h => by
    obtain ⟨a, e, q⟩ := h
    exact ⟨a, e, q.kp k⟩
theorem RSL.kp (k : Kp H A H' A') (p : th <+: th') : ∀ {ds : List D} {xs : List V}, RSL K H A th ds xs → RSL K H' A' th' ds xs
  | [], _, h => h
  | d :: ds, _, h => by
    obtain ⟨x, r, e, q, t⟩ := h
    exact ⟨x, r, e, q.kp k p, RSL.kp k p t⟩
theorem RSF.kp (k : Kp H A H' A') (p : th <+: th') : ∀ {ds : List (Str × D)} {xs : List (Str × V)}, RSF K H A th ds xs → RSF K H' A' th' ds xs
  | [], _, h => h
  | (_, d) :: ds, _, h => by
    obtain ⟨x, r, e, q, t⟩ := h
    exact ⟨x, r, e, q.kp k p, RSF.kp k p t⟩
theorem RSK.kp (k : Kp H A H' A') (p : th <+: th') : ∀ {ds : List (PyData × D)} {xs : List (Key × V)}, RSK K H A th ds xs → RSK K H' A' th' ds xs
  | [], _, h => h
  | (_, d) :: ds, _, h => by
    obtain ⟨x, v, r, e, e2, q, t⟩ := h
    exact ⟨x, v, r, e, e2, q.kp k p, RSK.kp k p t⟩
theorem RST.kp (k : Kp H A H' A') (p : th <+: th') : ∀ {ds : List (PyData × D)} {xs : List (List Key × V)}, RST K H A th ds xs → RST K H' A' th' ds xs
  | [], _, h => h
  | (_, d) :: ds, _, h => by
    obtain ⟨x, v, r, e, e2, q, t⟩ := h
    exact ⟨x, v, r, e, e2, q.kp k p, RST.kp k p t⟩
/-- an object of the store that stands as it stood -/
theorem MR.kp {mg : Str → Option Value} (k : Kp H A H' A') (p : th <+: th') {o : MO} {a : Addr} (h : MR K mg H A th o a) (e : H' a = H a) : MR K mg H' A' th' o a := by
  cases o with
  | lst ds =>
    obtain ⟨xs, q, r⟩ := h
    exact ⟨xs, by rw [e]; exact q, r.kp k p⟩
  | obj c fs =>
    obtain ⟨C, dx, us, m, q, r⟩ := h
    exact ⟨C, dx, us, m, by rw [e]; exact q, r.kp k p⟩
  | dct kvs =>
    rcases h with ⟨ks, q, r⟩ | ⟨ks, q, r⟩
    · exact .inl ⟨ks, by rw [e]; exact q, r.kp k p⟩
    · exact .inr ⟨ks, by rw [e]; exact q, r.kp k p⟩
theorem SRel.kp {mg : Str → Option Value} (k : Kp H A H' A') (h : SRel K mg H A th S) (e : ∀ a ∈ th, H' a = H a) : SRel K mg H' A' th S :=
  ⟨h.len, fun n o a q r => (h.at_ n o a q r).kp k (List.prefix_refl _) (e a (List.mem_of_getElem? r))⟩
end
theorem RD.ext (x : Ext th H th' H') : ∀ {d : D} {v : V}, RD g.K H (Avd g th rho sg) th d v → RD g.K H' (Avd g th' rho sg) th' d v
  | .dat d, v, h => Rp.kp x.kp d v h
  | .ref n, v, h => by
    obtain ⟨a, e, q⟩ := h
    exact ⟨a, e, getp x.pre q⟩
  | .own ds, v, h => by
    obtain ⟨a, xs, e, q, r, n⟩ := h
    refine ⟨a, xs, e, x.keep a _ q n, RpL.kp x.kp ds xs r, fun m => ?_⟩
    have := x.new a m n
    rw [q] at this
    cases this
  | .scr _, _, h => by
    obtain ⟨a, e, q⟩ := h
    exact ⟨a, e, q.kp x.kp⟩
theorem RS.rd {K : PySem.W.Frag} {A : Av} : ∀ {d : D} {v : V}, RS K H A th d v → RD K H A th d v
  | .dat d, v, h => h
  | .ref n, v, h => h
  | .own _, _, h => h.elim
  | .scr _, _, h => h
theorem RD.rs {K : PySem.W.Frag} {A : Av} : ∀ {d : D} {v : V}, d.stable = true → RD K H A th d v → RS K H A th d v
  | .dat d, v, _, h => h
  | .ref n, v, _, h => h
  | .own _, _, s, _ => by cases s
  | .scr _, _, _, h => h
theorem RelG.step (R : RelG g th H) (x : Ext th H th' H') (nd : th'.Nodup) (tr : ∀ a ∈ th', (H' a).isSome = true) : RelG g th' H' where
  nd := nd
  pre := R.pre.trans x.pre
  new := fun a m n => by
    by_cases q : a ∈ th
    · exact R.new a q n
    · cases e : g.H0 a with
      | none => rfl
      | some o =>
        have := x.new a m q
        rw [R.keep a o e n] at this
        cases this
  keep := fun a o e n => x.keep a o (R.keep a o e n) fun m => by
    have := R.new a m n
    rw [e] at this
    cases this
  bth := fun a m b => by
    by_cases q : a ∈ th
    · exact R.bth a q b
    · have h1 := x.new a m q
      have h2 := R.trB a b
      rw [h1] at h2
      cases h2
  trB := fun a b => by
    have h2 := R.trB a b
    obtain ⟨o, e⟩ := Option.isSome_iff_exists.mp h2
    rw [x.keep a o e fun m => R.bth a m b]
    rfl
  trT := tr
/-- an expression's end: the slots' part follows -/
theorem Rel.step (R : Rel g th rho S sg H) (x : Ext th H th' H') (st : SRel g.K g.mg H' (Avd g th' rho sg) th' S') (nd : th'.Nodup) (tr : ∀ a ∈ th', (H' a).isSome = true) : Rel g th' rho S' sg H' where
  toRelG := R.toRelG.step x nd tr
  st := st
  len := R.len
  slot := fun i d e => by
    obtain ⟨v, e1, r⟩ := R.slot i d e
    exact ⟨v, e1, r.ext x⟩
  own1 := R.own1
  own2 := fun i a h => by
    obtain ⟨h1, h2, h3⟩ := R.own2 i a h
    refine ⟨fun m => ?_, h2, h3⟩
    have q := x.new a m h1
    obtain ⟨ds, e1, e2⟩ := h
    obtain ⟨v, e3, r⟩ := R.slot i _ e1
    rw [e2] at e3
    cases Option.some.inj (Option.some.inj e3)
    obtain ⟨b, xs, e4, e5, _⟩ := r
    cases e4
    rw [q] at e5
    cases e5
/-- a new object that no place of the store has -/
theorem Rel.fresh (R : Rel g th rho S sg H) {p : Addr} {o : HO} (h : H p = none) : Rel g th rho S sg (L2.upd H p o) := by
  have x : Ext th H th (L2.upd H p o) := .upd h
  have nt : ∀ a ∈ th, a ≠ p := fun a m e => by
    have := R.trT a m
    rw [e, h] at this
    cases this
  exact R.step x (SRel.kp x.kp R.st fun a m => upd_ne (nt a m)) R.nd fun a m => by rw [upd_ne (nt a m)]; exact R.trT a m
theorem Rel.notAv (R : Rel g th rho S sg H) {p : Addr} (h : H p = none) : ¬ Avd g th rho sg p := fun q => by
  rcases q with q | q | ⟨i, q⟩
  · have := R.trB p q
    rw [h] at this
    cases this
  · have := R.trT p q
    rw [h] at this
    cases this
  · obtain ⟨ds, e1, e2⟩ := q
    obtain ⟨v, e3, r⟩ := R.slot i _ e1
    rw [e2] at e3
    cases Option.some.inj (Option.some.inj e3)
    obtain ⟨b, xs, e4, e5, _⟩ := r
    cases e4
    rw [h] at e5
    cases e5
end

/-! ### results -/
inductive R (α : Type) where
  | ok (a : α) (S : Store)
  | exc (c : Str) (arg : Option (Str × D)) (S : Store)
  | bad
abbrev EF := Sl → Store → R D
abbrev TF := Sl → Store → R Bool
abbrev AF := Sl → Store → R (List D)
abbrev FF := List D → Store → R D
def R.bind {α β : Type} : R α → (α → Store → R β) → R β
  | .ok a S, k => k a S
  | .exc c x S, _ => .exc c x S
  | .bad, _ => .bad
/-- an exception's own dict -/
def ExD (K : PySem.W.Frag) (H : Hp) (A : Av) (th : List Addr) : Option (Str × D) → Option Addr → Prop
  | none, dv => dv = none
  | some (f, d), dv => ∃ a v, dv = some a ∧ H a = some (.xd [(f, v)]) ∧ RS K H A th d v
/-- what is to hold behind: Q for a result that bears rel, W for an exception -/
def Post {α β : Type} (g : Gh) (W : WX) (rel : Hp → Av → List Addr → α → β → Prop) (th : List Addr) (rho : Sl) (sg : L2.St) (H : Hp) (r : R α) (Q : β → Hp → Prop) : Prop :=
  match r with
  | .ok d S' => ∀ v H' th', Rel g th' rho S' sg H' → Ext th H th' H' → rel H' (Avd g th' rho sg) th' d v → Q v H'
  | .exc c a S' => ∀ cls dv H' th', Rel g th' rho S' sg H' → Ext th H th' H' → g.mg c = some cls → ExD g.K H' (Avd g th' rho sg) th' a dv → W cls dv sg H'
  | .bad => False
abbrev relE (g : Gh) : Hp → Av → List Addr → D → V → Prop := fun H A th d v => RD g.K H A th d v
abbrev relT : Hp → Av → List Addr → Bool → Bool → Prop := fun _ _ _ b c => b = c
def RDL (K : PySem.W.Frag) (H : Hp) (A : Av) (th : List Addr) : List D → List V → Prop
  | [], xs => xs = []
  | d :: ds, xs => ∃ x r, xs = x :: r ∧ RD K H A th d x ∧ RDL K H A th ds r
abbrev relA (g : Gh) : Hp → Av → List Addr → List D → List V → Prop := fun H A th d v => RDL g.K H A th d v
def tL {α β : Type} (g : Gh) (W : WX) (rel : Hp → Av → List Addr → α → β → Prop) (f : Sl → Store → R α) : L2.St → Hp → (β → Hp → Prop) → Prop :=
  fun sg H Q => ∃ th rho S, Rel g th rho S sg H ∧ Post g W rel th rho sg H (f rho S) Q
abbrev tE (g : Gh) (W : WX) (f : EF) : TE := tL g W (relE g) f
abbrev tT (g : Gh) (W : WX) (f : TF) : TT := tL g W relT f
abbrev tA (g : Gh) (W : WX) (f : AF) : TA := tL g W (relA g) f
theorem Post.pre {α β : Type} {g : Gh} {W : WX} {rel : Hp → Av → List Addr → α → β → Prop} {th th1 : List Addr} {rho : Sl} {sg : L2.St} {H H1 : Hp} {r : R α} {Q : β → Hp → Prop} (x : Ext th H th1 H1) (h : Post g W rel th rho sg H r Q) : Post g W rel th1 rho sg H1 r Q := by
  cases r with
  | ok d S' => exact fun v H' th' R y q => h v H' th' R (x.trans y) q
  | exc c a S' => exact fun cls dv H' th' R y q => h cls dv H' th' R (x.trans y) q
  | bad => exact h
theorem Post.imp {α β : Type} {g : Gh} {W : WX} {rel : Hp → Av → List Addr → α → β → Prop} {th : List Addr} {rho : Sl} {sg : L2.St} {H : Hp} {r : R α} {Q Q' : β → Hp → Prop} (h : Post g W rel th rho sg H r Q)
    (k : ∀ d S' v H' th', r = .ok d S' → Rel g th' rho S' sg H' → Ext th H th' H' → rel H' (Avd g th' rho sg) th' d v → Q v H' → Q' v H') : Post g W rel th rho sg H r Q' := by
  cases r with
  | ok d S' => exact fun v H' th' R y q => k d S' v H' th' rfl R y q (h v H' th' R y q)
  | exc c a S' => exact h
  | bad => exact h
/-- one after another: the first part's end is where the second begins -/
theorem tL.bind {α β γ δ : Type} {g : Gh} {W : WX} {rel : Hp → Av → List Addr → α → β → Prop} {rel2 : Hp → Av → List Addr → γ → δ → Prop} {f : Sl → Store → R α} {k : α → Sl → Store → R γ}
    {th : List Addr} {rho : Sl} {S : Store} {sg : L2.St} {H : Hp} {Q : β → Hp → Prop} {Q2 : δ → Hp → Prop} (R0 : Rel g th rho S sg H) (h : Post g W rel2 th rho sg H ((f rho S).bind fun a S' => k a rho S') Q2)
    (q : ∀ a S' v H' th', f rho S = .ok a S' → Rel g th' rho S' sg H' → Ext th H th' H' → rel H' (Avd g th' rho sg) th' a v → Post g W rel2 th' rho sg H' (k a rho S') Q2 → Q v H') : tL g W rel f sg H Q := by
  refine ⟨th, rho, S, R0, ?_⟩
  cases e : f rho S with
  | ok a S' =>
    rw [e] at h
    exact fun v H' th' R1 x r => q a S' v H' th' e R1 x r (Post.pre x h)
  | exc c a S' =>
    rw [e] at h
    exact h
  | bad =>
    rw [e] at h
    exact h
/-- the judgements: e is evaluated as f tells -/
def LE (X : Cx) (W : WX) (e : Expr) (f : EF) : Prop := ∀ g : Gh, g.K = X.K → g.mg = X.mg → PE X e (tE g W f)
def LT (X : Cx) (W : WX) (e : Expr) (f : TF) : Prop := ∀ g : Gh, g.K = X.K → g.mg = X.mg → PT X e (tT g W f)
def LA' (X : Cx) (W : WX) (es : List Expr) (f : AF) : Prop := ∀ g : Gh, g.K = X.K → g.mg = X.mg → PA X es (tA g W f)
theorem _root_.L2.PE.of {X : Cx} {e : Expr} {t t' : TE} (h : PE X e t) (k : ∀ sg H Q, t' sg H Q → t sg H Q) : PE X e t' := ⟨fun pins s sg H Q I q => h.run pins s sg H Q I (k sg H Q q)⟩
theorem _root_.L2.PT.of {X : Cx} {e : Expr} {t t' : TT} (h : PT X e t) (k : ∀ sg H Q, t' sg H Q → t sg H Q) : PT X e t' := ⟨fun pins s sg H Q I q => h.run pins s sg H Q I (k sg H Q q)⟩
theorem _root_.L2.PA.of {X : Cx} {e : List Expr} {t t' : TA} (h : PA X e t) (k : ∀ sg H Q, t' sg H Q → t sg H Q) : PA X e t' := ⟨fun pos pins s sg H Q I q => h.run pos pins s sg H Q I (k sg H Q q)⟩
end L3

/-! L3Expr -/
namespace L3
open PySem PySem.Spec PyProof.Rows L2

/-! ### names and constants -/
def eVar (i : Nat) : EF := fun rho S => match rho[i]? with
  | some (some d) => .ok d S
  | _ => .bad
def eD (d : PyData) : EF := fun _ S => .ok (.dat d) S
section
variable {X : Cx} {W : WX}
theorem l_var {i : Nat} {x : Str} {pos : Pos} (h : PE X (.Name x pos) (tVar i)) : LE X W (.Name x pos) (eVar i) := fun g hK hm => h.of fun sg H Q ⟨th, rho, S, R0, q⟩ => by
  unfold eVar at q
  cases e : rho[i]? with
  | none => rw [e] at q; exact q.elim
  | some o => cases o with
    | none => rw [e] at q; exact q.elim
    | some d =>
      rw [e] at q
      obtain ⟨v, e1, r⟩ := R0.slot i d e
      exact ⟨v, e1, q v H th R0 (.refl _ _) r⟩
theorem l_const {e : Expr} {v : V} {d : PyData} (h : PE X e (tC v)) (hd : ∀ K H A, Rp K H A d v) : LE X W e (eD d) := fun g hK hm => h.of fun sg H Q ⟨th, rho, S, R0, q⟩ => q v H th R0 (.refl _ _) (hd _ _ _)
theorem l_int {i j pos} : LE X W (.Constant (.int i) j pos) (eD (.int i)) := l_const pe_int fun _ _ _ => by simp only [Rp]
theorem l_bool {b j pos} : LE X W (.Constant (.bool b) j pos) (eD (.bool b)) := l_const pe_bl fun _ _ _ => by simp only [Rp]
theorem l_none {j pos} : LE X W (.Constant .none j pos) (eD .none) := l_const pe_non fun _ _ _ => by simp only [Rp]
theorem l_str {x j pos} : LE X W (.Constant (.str x) j pos) (eD (.str x)) := l_const pe_str fun _ _ _ => by simp only [Rp]
/-- a name of the module that holds data -/
def KD (K : PySem.W.Frag) (d : PyData) (u : Value) : Prop := ∃ v, RelV v u ∧ ∀ H A, Rp K H A d v
theorem l_glob {x : Str} {u : Value} {d : PyData} {pos : Pos} (hg : Gl X x) (hm : X.mg x = some u) (hd : KD X.K d u) (hdb : (x == ("__debug__" : Str)) = false := by decide) : LE X W (.Name x pos) (eD d) := fun g hK _ => by
  obtain ⟨v, r, q⟩ := hd
  exact (pe_glob (v := v) hg hm r hdb).of fun sg H Q ⟨th, rho, S, R0, p⟩ => p v H th R0 (.refl _ _) (by show Rp g.K _ _ _ _; rw [hK]; exact q _ _)
end

/-! ### operations by values -/
abbrev O1 := D → Option D
abbrev O2 := D → D → Option D
def eUn (o : O1) (f : EF) : EF := fun rho S => (f rho S).bind fun a S1 => match o a with
  | some d => .ok d S1
  | none => .bad
def eBin (o : O2) (f h : EF) : EF := fun rho S => (f rho S).bind fun a S1 => (h rho S1).bind fun b S2 => match o a b with
  | some d => .ok d S2
  | none => .bad
/-- what is left to show of an operation: d at some place, the heap grown -/
def Fin (g : Gh) (th : List Addr) (rho : Sl) (S : Store) (sg : L2.St) (H : Hp) (o : Option D) (Q : VK) : Prop := match o with
  | some d => ∀ v H', Rel g th rho S sg H' → Ext th H th H' → RD g.K H' (Avd g th rho sg) th d v → Q v H'
  | none => False
def r2L (g : Gh) (o : O2) : R2 := fun x y H Q => ∃ th rho S sg a b, Rel g th rho S sg H ∧ RD g.K H (Avd g th rho sg) th a x ∧ RD g.K H (Avd g th rho sg) th b y ∧ Fin g th rho S sg H (o a b) Q
def OpL (X : Cx) (F : Value → Value → Sem Value) (o : O2) : Prop := ∀ g : Gh, g.K = X.K → g.mg = X.mg → OpR X F (r2L g o)
def r1L (g : Gh) (o : O1) : V → Hp → VK → Prop := fun x H Q => ∃ th rho S sg a, Rel g th rho S sg H ∧ RD g.K H (Avd g th rho sg) th a x ∧ Fin g th rho S sg H (o a) Q
def UnL (X : Cx) (F : Value → Sem Value) (o : O1) : Prop := ∀ g : Gh, g.K = X.K → g.mg = X.mg → UnR X F (r1L g o)
abbrev OL := List D → Option D
def rcL (g : Gh) (o : OL) : List V → Hp → VK → Prop := fun xs H Q => ∃ th rho S sg as, Rel g th rho S sg H ∧ RDL g.K H (Avd g th rho sg) th as xs ∧ Fin g th rho S sg H (o as) Q
def CallL (X : Cx) (f : Value) (o : OL) : Prop := ∀ g : Gh, g.K = X.K → g.mg = X.mg → CallR X f (rcL g o)
def eCB (o : OL) (f : AF) : EF := fun rho S => (f rho S).bind fun as S1 => match o as with
  | some d => .ok d S1
  | none => .bad
section
variable {g : Gh} {W : WX} {th th' : List Addr} {rho : Sl} {S : Store} {sg : L2.St} {H H' : Hp} {Q : VK} {o : Option D}
theorem Post.fin (h : Post g W (relE g) th rho sg H (match o with
  | some d => R.ok d S
  | none => R.bad) Q) (R0 : Rel g th rho S sg H) : Fin g th rho S sg H o Q := by
  cases o with
  | none => exact h
  | some d => exact fun v H' R1 x r => h v H' th R1 x r
theorem Fin.at {d : D} {v : V} (h : Fin g th rho S sg H (some d) Q) (R0 : Rel g th rho S sg H) (r : RD g.K H (Avd g th rho sg) th d v) : Q v H := h v H R0 (.refl _ _) r
theorem Fin.new {d : D} {p : Addr} {u : HO} {v : V} (h : Fin g th rho S sg H (some d) Q) (R0 : Rel g th rho S sg H) (n : H p = none) (r : RD g.K (upd H p u) (Avd g th rho sg) th d v) : Q v (upd H p u) :=
  h v _ (R0.fresh n) (.upd n) r
/-- from a place that is new: what was data is data still -/
theorem RpL.at_new {p : Addr} {u : HO} {ds : List PyData} {xs : List V} {A : Av} {K : PySem.W.Frag} (n : H p = none) (h : RpL K H A ds xs) : RpL K (upd H p u) A ds xs :=
  RpL.kp (fun a o e q => ⟨by rw [upd_ne (ne_of_none e n)]; exact e, q⟩) ds xs h
theorem Rp.at_new {p : Addr} {u : HO} {d : PyData} {x : V} {A : Av} {K : PySem.W.Frag} (n : H p = none) (h : Rp K H A d x) : Rp K (upd H p u) A d x :=
  Rp.kp (fun a o e q => ⟨by rw [upd_ne (ne_of_none e n)]; exact e, q⟩) d x h
theorem Rp.tup_new {p : Addr} {ds : List PyData} {xs : List V} {A : Av} {K : PySem.W.Frag} {o : Obj} (hb : keyB ds = false) (ho : o.dict = none) (n : H p = none) (na : ¬ A p) (h : RpL K H A ds xs) : Rp K (upd H p (.frz o (.tup xs))) A (.tuple ds) (.ref p) := by
  simp only [Rp]
  rw [hb]
  exact ⟨p, xs, rfl, .inl ⟨na, o, ho, upd_same⟩, h.at_new n⟩
theorem Rp.tup_newK {p : Addr} {ds : List PyData} {xs : List V} {A : Av} {K : PySem.W.Frag} (hb : keyB ds = true) (n : H p = none) (na : ¬ A p) (h : RpL K H A ds xs) : Rp K (upd H p (.tup xs)) A (.tuple ds) (.ref p) := by
  simp only [Rp]
  rw [hb]
  exact ⟨p, xs, rfl, ⟨na, upd_same⟩, h.at_new n⟩
/-- a new tuple, as its shape asks -/
theorem Rp.newT {ds : List PyData} {xs : List V} {A : Av} {K : PySem.W.Frag} {Q : VK} (h : RpL K H A ds xs) (na : ∀ p, H p = none → ¬ A p) (k : ∀ p u, H p = none → Rp K (upd H p u) A (.tuple ds) (.ref p) → Q (.ref p) (upd H p u)) : NewT xs H Q := by
  cases hb : keyB ds with
  | true => exact .inl fun p n => k p _ n (Rp.tup_newK hb n (na p n) h)
  | false => exact .inr fun p o ho n => k p _ n (Rp.tup_new hb ho n (na p n) h)
end
section
variable {X : Cx} {W : WX} {a b c : Expr} {f h k : EF} {pos : Pos}
theorem l_un {op : UnaryOp} {o : O1} (ho : UnL X (unaryOp op) o) (ha : LE X W a f) : LE X W (.UnaryOp op a pos) (eUn o f) := fun g hK hm =>
  (pe_un (ho g hK hm) (ha g hK hm)).of fun sg H Q ⟨th, rho, S, R0, p⟩ => tL.bind (k := fun a rho S1 => match o a with
    | some d => R.ok d S1
    | none => R.bad) R0 p fun x S1 v H1 th1 _ R1 _ r q => ⟨th1, rho, S1, sg, x, R1, r, q.fin R1⟩
theorem bin_of {o : O2} {g : Gh} {sg : L2.St} {H : Hp} {Q : VK} {r : R2} (hr : ∀ x y H Q, r2L g o x y H Q → r x y H Q) (q : tE g W (eBin o f h) sg H Q) : tOp r (tE g W f) (tE g W h) sg H Q := by
  obtain ⟨th, rho, S, R0, p⟩ := q
  exact tL.bind (k := fun a rho S1 => (h rho S1).bind fun b S2 => match o a b with
    | some d => R.ok d S2
    | none => R.bad) R0 p fun x S1 v H1 th1 _ R1 _ r1 q => tL.bind (k := fun b rho S2 => match o x b with
    | some d => R.ok d S2
    | none => R.bad) R1 q fun y S2 w H2 th2 _ R2 x2 r2 q2 => hr _ _ _ _ ⟨th2, rho, S2, sg, x, y, R2, r1.ext x2, r2, q2.fin R2⟩
theorem l_bin {op : Operator} {o : O2} (ho : OpL X (binaryOp op) o) (ha : LE X W a f) (hb : LE X W b h) : LE X W (.BinOp a op b pos) (eBin o f h) := fun g hK hm =>
  (pe_op (ho g hK hm) (ha g hK hm) (hb g hK hm)).of fun sg H Q q => bin_of (fun _ _ _ _ z => z) q
theorem l_cmp {op : CmpOp} {o : O2} (ho : OpL X (compareOp op) o) (ha : LE X W a f) (hb : LE X W b h) (hm : behindInMarks op b = false) : LE X W (.Compare a [op] [b] pos) (eBin o f h) := fun g hK hg =>
  (pe_cmpR (ho g hK hg) (ha g hK hg) (hb g hK hg) hm).of fun sg H Q q => bin_of (fun _ _ _ _ z => z) q
def dB : D → Option Bool
  | .dat (.bool b) => some b
  | _ => none
/-- a < b < c -/
def eChain (o o' : O2) (f h k : EF) : EF := fun rho S => (f rho S).bind fun a S1 => (h rho S1).bind fun b S2 => match o a b with
  | some (.dat (.bool true)) => (k rho S2).bind fun c S3 => (match o' b c with
    | some d => .ok d S3
    | none => .bad)
  | some (.dat (.bool false)) => .ok (.dat (.bool false)) S2
  | _ => .bad
theorem chain_of {o o' : O2} {g : Gh} {sg : L2.St} {H : Hp} {Q : VK} (q : tE g W (eChain o o' f h k) sg H Q) : tChain (r2L g o) (r2L g o') (tE g W f) (tE g W h) (tE g W k) sg H Q := by
  obtain ⟨th, rho, S, R0, p⟩ := q
  refine tL.bind (k := fun a rho S1 => (h rho S1).bind fun b S2 => match o a b with
    | some (.dat (.bool true)) => (k rho S2).bind fun c S3 => (match o' b c with
      | some d => R.ok d S3
      | none => R.bad)
    | some (.dat (.bool false)) => R.ok (D.dat (.bool false)) S2
    | _ => R.bad) R0 p fun x S1 v H1 th1 _ R1 _ r1 q => ?_
  refine tL.bind (k := fun b rho S2 => match o x b with
    | some (.dat (.bool true)) => (k rho S2).bind fun c S3 => (match o' b c with
      | some d => R.ok d S3
      | none => R.bad)
    | some (.dat (.bool false)) => R.ok (D.dat (.bool false)) S2
    | _ => R.bad) R1 q fun y S2 w H2 th2 _ R2 x2 r2 q2 => ?_
  refine ⟨th2, rho, S2, sg, x, y, R2, r1.ext x2, r2, ?_⟩
  cases e : o x y with
  | none => rw [e] at q2; exact q2
  | some d =>
    rw [e] at q2
    cases d with
    | ref n => exact q2.elim
    | own ds => exact q2.elim
    | scr ns => exact q2.elim
    | dat d => cases d with
      | bool t =>
        intro v' H' R3 x3 r3
        have e3 : v' = .bl t := by simpa only [RD, Rp] using r3
        subst e3
        refine ⟨t, rfl, ?_⟩
        cases t with
        | false => exact iteF (q2 _ H' th2 R3 x3 (by simp only [RD, Rp]))
        | true =>
          refine iteT (tL.bind (k := fun c rho S3 => match o' y c with
            | some d => R.ok d S3
            | none => R.bad) R3 (Post.pre x3 q2) fun z S3 u H4 th4 _ R4 x4 r4 q4 => ⟨th4, rho, S3, sg, y, z, R4, (r2.ext x3).ext x4, r4, q4.fin R4⟩)
      | _ => exact q2.elim
theorem l_chain {op op' : CmpOp} {o o' : O2} (ho : OpL X (compareOp op) o) (ho' : OpL X (compareOp op') o') (ha : LE X W a f) (hb : LE X W b h) (hc : LE X W c k)
    (hm : lastMarks [op, op'] [b, c] = false := by with_unfolding_all rfl) : LE X W (.Compare a [op, op'] [b, c] pos) (eChain o o' f h k) := fun g hK hg =>
  (pe_chain (ho g hK hg) (ho' g hK hg) (ha g hK hg) (hb g hK hg) (hc g hK hg) hm).of fun sg H Q q => chain_of q
end

/-! ### tests -/
/-- a value's truth -/
def tru : D → Option Bool
  | .dat .none => some false
  | .dat (.bool b) => some b
  | .dat (.int i) => some (i != 0)
  | .dat (.str x) => if x.length ≤ sizeLine then some ((x.length : Int) != 0) else none
  | .dat (.list ds) => some !ds.isEmpty
  | .dat (.tuple ds) => some !ds.isEmpty
  | .own ds => some !ds.isEmpty
  | _ => none
def tOf (f : EF) : TF := fun rho S => (f rho S).bind fun a S1 => match tru a with
  | some b => .ok b S1
  | none => .bad
def eOfT (t : TF) : EF := fun rho S => (t rho S).bind fun b S1 => .ok (.dat (.bool b)) S1
def tAndL (t u : TF) : TF := fun rho S => (t rho S).bind fun b S1 => match b with
  | true => u rho S1
  | false => .ok false S1
def tOrL (t u : TF) : TF := fun rho S => (t rho S).bind fun b S1 => match b with
  | true => .ok true S1
  | false => u rho S1
def tNotL (t : TF) : TF := fun rho S => (t rho S).bind fun b S1 => .ok (!b) S1
def eAnd (f h : EF) : EF := fun rho S => (f rho S).bind fun a S1 => match dB a with
  | some true => h rho S1
  | some false => .ok (.dat (.bool false)) S1
  | none => .bad
def eOr (f h : EF) : EF := fun rho S => (f rho S).bind fun a S1 => match dB a with
  | some true => .ok (.dat (.bool true)) S1
  | some false => h rho S1
  | none => .bad
def eNot (f : EF) : EF := fun rho S => (f rho S).bind fun a S1 => match dB a with
  | some b => .ok (.dat (.bool !b)) S1
  | none => .bad
def eIf (t : TF) (f h : EF) : EF := fun rho S => (t rho S).bind fun b S1 => match b with
  | true => f rho S1
  | false => h rho S1
section
variable {K : PySem.W.Frag} {H : Hp} {A : Av} {th : List Addr}
theorem isE {ds : List PyData} {xs : List V} (h : RpL K H A ds xs) : xs.isEmpty = ds.isEmpty := by
  cases ds with
  | nil => simp only [RpL] at h; rw [h]; rfl
  | cons d ds => simp only [RpL] at h; obtain ⟨x, r, rfl, _⟩ := h; rfl
theorem tru_ok : ∀ {d : D} {v : V} {b : Bool}, RD K H A th d v → tru d = some b → TruV K v H b
  | .dat .none, v, b, r, e => by
    have q : v = .non := by simpa only [RD, Rp] using r
    cases Option.some.inj e
    rw [q]; rfl
  | .dat (.bool b), v, _, r, e => by
    have q : v = .bl b := by simpa only [RD, Rp] using r
    cases Option.some.inj e
    rw [q]; rfl
  | .dat (.int i), v, _, r, e => by
    have q : v = .int i := by simpa only [RD, Rp] using r
    cases Option.some.inj e
    rw [q]; rfl
  | .dat (.str x), v, b, r, e => by
    have q : v = .str x := by simpa only [RD, Rp] using r
    subst q
    simp only [tru] at e
    split at e
    · next hl => exact ⟨hl, (Option.some.inj e).symm⟩
    · cases e
  | .dat (.list ds), v, b, r, e => by
    simp only [RD, Rp] at r
    obtain ⟨a, xs, rfl, l, q⟩ := r
    cases Option.some.inj e
    exact .inl ⟨xs, l.sq, by rw [isE q]⟩
  | .dat (.tuple ds), v, b, r, e => by
    simp only [RD, Rp] at r
    obtain ⟨a, xs, rfl, l, q⟩ := r
    cases Option.some.inj e
    exact .inr (.inl ⟨xs, l.sq, by rw [isE q]⟩)
  | .own ds, v, b, r, e => by
    obtain ⟨a, xs, rfl, l, q, _⟩ := r
    cases Option.some.inj e
    exact .inl ⟨xs, .of l, by rw [isE q]⟩
  | .dat (.dict _), _, _, _, e => by cases e
  | .ref _, _, _, _, e => by cases e
  | .scr _, _, _, _, e => by cases e
end
section
variable {X : Cx} {W : WX} {a b : Expr} {rest : List Expr} {f h : EF} {t u : TF} {pos : Pos}
theorem l_truth (ha : LE X W a f) (he : ∀ whole, isTrue a X.env whole = (do let v ← whole; standAt a.pos; holding [v] (truthy v))) : LT X W a (tOf f) := fun g hK hm =>
  (pt_truth (ha g hK hm) he).of fun sg H Q ⟨th, rho, S, R0, p⟩ => tL.bind (k := fun a rho S1 => match tru a with
    | some b => R.ok b S1
    | none => R.bad) R0 p fun x S1 v H1 th1 _ R1 _ r q => by
      cases e : tru x with
      | none => rw [e] at q; exact q.elim
      | some b =>
        rw [e] at q
        exact ⟨b, by rw [← hK]; exact tru_ok r e, q b H1 th1 R1 (.refl _ _) rfl⟩
/-- a comparison as a test -/
def tOfB (f : EF) : TF := fun rho S => (f rho S).bind fun a S1 => match dB a with
  | some b => .ok b S1
  | none => .bad
theorem dB_ok {K : PySem.W.Frag} {H : Hp} {A : Av} {th : List Addr} : ∀ {d : D} {v : V} {b : Bool}, RD K H A th d v → dB d = some b → v = .bl b
  | .dat (.bool c), v, b, r, e => by
    have q : v = .bl c := by simpa only [RD, Rp] using r
    cases Option.some.inj e
    exact q
  | .dat .none, _, _, _, e => by cases e
  | .dat (.int _), _, _, _, e => by cases e
  | .dat (.str _), _, _, _, e => by cases e
  | .dat (.list _), _, _, _, e => by cases e
  | .dat (.tuple _), _, _, _, e => by cases e
  | .dat (.dict _), _, _, _, e => by cases e
  | .own _, _, _, _, e => by cases e
  | .ref _, _, _, _, e => by cases e
  | .scr _, _, _, _, e => by cases e
theorem tst_of {g : Gh} {sg : L2.St} {H : Hp} {Q : Bool → Hp → Prop} (q : tT g W (tOfB f) sg H Q) : tE g W f sg H (fun x H' => ∃ k, x = .bl k ∧ Q k H') := by
  obtain ⟨th, rho, S, R0, p⟩ := q
  refine tL.bind (k := fun a rho S1 => match dB a with
    | some b => R.ok b S1
    | none => R.bad) R0 p fun x S1 v H1 th1 _ R1 _ r q => ?_
  cases e : dB x with
  | none => rw [e] at q; exact q.elim
  | some b =>
    rw [e] at q
    exact ⟨b, dB_ok r e, q b H1 th1 R1 (.refl _ _) rfl⟩
theorem l_tcmp {op : CmpOp} {o : O2} (ho : OpL X (compareOp op) o) (ha : LE X W a f) (hb : LE X W b h) (hm : behindInMarks op b = false) : LT X W (.Compare a [op] [b] pos) (tOfB (eBin o f h)) := fun g hK hg =>
  (pt_cmpR (ho g hK hg) (ha g hK hg) (hb g hK hg) hm).of fun sg H Q q => bin_of (r := r2L g o) (fun _ _ _ _ z => z) (tst_of q)
theorem l_tchain {c : Expr} {k : EF} {op op' : CmpOp} {o o' : O2} (ho : OpL X (compareOp op) o) (ho' : OpL X (compareOp op') o') (ha : LE X W a f) (hb : LE X W b h) (hc : LE X W c k)
    (hm : lastMarks [op, op'] [b, c] = false := by with_unfolding_all rfl) : LT X W (.Compare a [op, op'] [b, c] pos) (tOfB (eChain o o' f h k)) := fun g hK hg =>
  (pt_chain (ho g hK hg) (ho' g hK hg) (ha g hK hg) (hb g hK hg) (hc g hK hg) hm).of fun sg H Q q => chain_of (tst_of q)
/-- a test whatever its whole is -/
def LW (X : Cx) (W : WX) (e : Expr) (f : TF) : Prop := ∀ g : Gh, g.K = X.K → g.mg = X.mg → PW X e (tT g W f)
theorem PW.of {e : Expr} {t t' : TT} (h : PW X e t) (k : ∀ sg H Q, t' sg H Q → t sg H Q) : PW X e t' := ⟨fun w pins s sg H Q I q => h.run w pins s sg H Q I (k sg H Q q)⟩
theorem LW.lt {e : Expr} (h : LW X W e t) : LT X W e t := fun g hK hm => (h g hK hm).pt
theorem l_and1 (ha : LT X W a t) : LW X W (.BoolOp .And [a] pos) t := fun g hK hm => pw_and1 (ha g hK hm)
theorem l_or1 (ha : LT X W a t) : LW X W (.BoolOp .Or [a] pos) t := fun g hK hm => pw_or1 (ha g hK hm)
theorem l_and (ha : LT X W a t) (hb : LW X W (.BoolOp .And (b :: rest) pos) u) : LW X W (.BoolOp .And (a :: b :: rest) pos) (tAndL t u) := fun g hK hm =>
  PW.of (pw_and (ha g hK hm) (hb g hK hm)) fun sg H Q ⟨th, rho, S, R0, p⟩ => tL.bind (k := fun b rho S1 => match b with
    | true => u rho S1
    | false => R.ok false S1) R0 p fun x S1 v H1 th1 _ R1 _ r q => by
      subst r
      cases x with
      | false => exact iteF (q _ H1 th1 R1 (.refl _ _) rfl)
      | true => exact iteT ⟨th1, rho, S1, R1, q⟩
theorem l_or (ha : LT X W a t) (hb : LW X W (.BoolOp .Or (b :: rest) pos) u) : LW X W (.BoolOp .Or (a :: b :: rest) pos) (tOrL t u) := fun g hK hm =>
  PW.of (pw_or (ha g hK hm) (hb g hK hm)) fun sg H Q ⟨th, rho, S, R0, p⟩ => tL.bind (k := fun b rho S1 => match b with
    | true => R.ok true S1
    | false => u rho S1) R0 p fun x S1 v H1 th1 _ R1 _ r q => by
      subst r
      cases x with
      | true => exact iteT (q _ H1 th1 R1 (.refl _ _) rfl)
      | false => exact iteF ⟨th1, rho, S1, R1, q⟩
theorem l_tnot (ha : LT X W a t) : LT X W (.UnaryOp .Not a pos) (tNotL t) := fun g hK hm =>
  (pt_not (ha g hK hm)).of fun sg H Q ⟨th, rho, S, R0, p⟩ => tL.bind (k := fun b rho S1 => R.ok (!b) S1) R0 p fun x S1 v H1 th1 _ R1 _ r q => by
    subst r
    exact q _ H1 th1 R1 (.refl _ _) rfl
theorem l_vone {op} (h1 : LE X W a f) : LE X W (.BoolOp op [a] pos) f := fun g hK hm => pe_one (h1 g hK hm)
theorem l_vand (ha : LE X W a f) (hb : LE X W (.BoolOp .And (b :: rest) pos) h) : LE X W (.BoolOp .And (a :: b :: rest) pos) (eAnd f h) := fun g hK hm =>
  (pe_and (ha g hK hm) (hb g hK hm)).of fun sg H Q ⟨th, rho, S, R0, p⟩ => tL.bind (k := fun a rho S1 => match dB a with
    | some true => h rho S1
    | some false => R.ok (D.dat (.bool false)) S1
    | none => R.bad) R0 p fun x S1 v H1 th1 _ R1 _ r q => by
      cases e : dB x with
      | none => rw [e] at q; exact q.elim
      | some b =>
        rw [e] at q
        refine ⟨b, dB_ok r e, ?_⟩
        cases b with
        | true => exact iteT ⟨th1, rho, S1, R1, q⟩
        | false => exact iteF (q _ H1 th1 R1 (.refl _ _) (by simp only [RD, Rp]))
theorem l_vor (ha : LE X W a f) (hb : LE X W (.BoolOp .Or (b :: rest) pos) h) : LE X W (.BoolOp .Or (a :: b :: rest) pos) (eOr f h) := fun g hK hm =>
  (pe_or (ha g hK hm) (hb g hK hm)).of fun sg H Q ⟨th, rho, S, R0, p⟩ => tL.bind (k := fun a rho S1 => match dB a with
    | some true => R.ok (D.dat (.bool true)) S1
    | some false => h rho S1
    | none => R.bad) R0 p fun x S1 v H1 th1 _ R1 _ r q => by
      cases e : dB x with
      | none => rw [e] at q; exact q.elim
      | some b =>
        rw [e] at q
        refine ⟨b, dB_ok r e, ?_⟩
        cases b with
        | true => exact iteT (q _ H1 th1 R1 (.refl _ _) (by simp only [RD, Rp]))
        | false => exact iteF ⟨th1, rho, S1, R1, q⟩
theorem l_vnot (ha : LE X W a f) : LE X W (.UnaryOp .Not a pos) (eNot f) := fun g hK hm =>
  (pe_not (ha g hK hm)).of fun sg H Q ⟨th, rho, S, R0, p⟩ => tL.bind (k := fun a rho S1 => match dB a with
    | some b => R.ok (D.dat (.bool !b)) S1
    | none => R.bad) R0 p fun x S1 v H1 th1 _ R1 _ r q => by
      cases e : dB x with
      | none => rw [e] at q; exact q.elim
      | some b =>
        rw [e] at q
        exact ⟨b, dB_ok r e, q _ H1 th1 R1 (.refl _ _) (by simp only [RD, Rp])⟩
theorem l_if {c : Expr} (hc : LT X W c t) (ha : LE X W a f) (hb : LE X W b h) : LE X W (.IfExp c a b pos) (eIf t f h) := fun g hK hm =>
  (pe_ifExp (hc g hK hm) (ha g hK hm) (hb g hK hm)).of fun sg H Q ⟨th, rho, S, R0, p⟩ => tL.bind (k := fun b rho S1 => match b with
    | true => f rho S1
    | false => h rho S1) R0 p fun x S1 v H1 th1 _ R1 _ r q => by
      subst r
      cases x with
      | true => exact iteT ⟨th1, rho, S1, R1, q⟩
      | false => exact iteF ⟨th1, rho, S1, R1, q⟩
end

/-! ### arguments, displays -/
def aNil : AF := fun _ S => .ok [] S
def aCons (f : EF) (r : AF) : AF := fun rho S => (f rho S).bind fun a S1 => (r rho S1).bind fun as S2 => .ok (a :: as) S2
/-- all are data -/
def dats : List D → Option (List PyData)
  | [] => some []
  | .dat d :: r => (dats r).map (d :: ·)
  | _ :: _ => none
def eTup (r : AF) : EF := fun rho S => (r rho S).bind fun as S1 => match dats as with
  | some ds => if ds.length ≤ sizeLine then .ok (.dat (.tuple ds)) S1 else .bad
  | none => .bad
def eLst (r : AF) : EF := fun rho S => (r rho S).bind fun as S1 => match dats as with
  | some ds => if ds.length ≤ sizeLine then .ok (.dat (.list ds)) S1 else .bad
  | none => .bad
section
variable {K : PySem.W.Frag} {H : Hp} {A : Av} {th : List Addr}
theorem dats_ok : ∀ {as : List D} {xs : List V} {ds : List PyData}, RDL K H A th as xs → dats as = some ds → RpL K H A ds xs
  | [], xs, ds, r, e => by
    have q : xs = [] := r
    cases Option.some.inj e
    rw [q]; exact .nil
  | .dat d :: as, xs, ds, r, e => by
    obtain ⟨x, t, rfl, p, q⟩ := r
    simp only [dats, Option.map_eq_some_iff] at e
    obtain ⟨es, e1, rfl⟩ := e
    exact .cons p (dats_ok q e1)
  | .ref _ :: _, _, _, _, e => by cases e
  | .own _ :: _, _, _, _, e => by cases e
  | .scr _ :: _, _, _, _, e => by cases e
end
theorem RDL.ext {g : Gh} {th th' : List Addr} {rho : Sl} {sg : L2.St} {H H' : Hp} (x : Ext th H th' H') : ∀ {ds : List D} {xs : List V}, RDL g.K H (Avd g th rho sg) th ds xs → RDL g.K H' (Avd g th' rho sg) th' ds xs
  | [], _, h => h
  | d :: ds, _, h => by
    obtain ⟨y, r, e, q, t⟩ := h
    exact ⟨y, r, e, q.ext x, RDL.ext x t⟩
section
variable {X : Cx} {W : WX} {e : Expr} {es : List Expr} {f : EF} {r : AF} {pos : Pos}
theorem a_nil : LA' X W [] aNil := fun g hK hm => pa_nil.of fun sg H Q ⟨th, rho, S, R0, p⟩ => p [] H th R0 (.refl _ _) rfl
theorem a_cons (he : LE X W e f) (hr : LA' X W es r) (hs : starEach (e :: es) X.env = (false, eval e X.env) :: starEach es X.env := by rfl) : LA' X W (e :: es) (aCons f r) := fun g hK hm =>
  (pa_cons (he g hK hm) (hr g hK hm) hs).of fun sg H Q ⟨th, rho, S, R0, p⟩ => tL.bind (k := fun a rho S1 => (r rho S1).bind fun as S2 => R.ok (a :: as) S2) R0 p fun x S1 v H1 th1 _ R1 _ r1 q =>
    tL.bind (k := fun as rho S2 => R.ok (x :: as) S2) R1 q fun as S2 vs H2 th2 _ R2 x2 r2 q2 => q2 (v :: vs) H2 th2 R2 (.refl _ _) ⟨v, vs, rfl, r1.ext x2, r2⟩
theorem l_tup {x1} (h : LA' X W es r) : LE X W (.Tuple es x1 pos) (eTup r) := fun g hK hm =>
  (pe_tupS (h g hK hm)).of fun sg H Q ⟨th, rho, S, R0, p⟩ => tL.bind (k := fun as rho S1 => match dats as with
    | some ds => if ds.length ≤ sizeLine then R.ok (D.dat (.tuple ds)) S1 else R.bad
    | none => R.bad) R0 p fun as S1 vs H1 th1 _ R1 _ r1 q => by
      cases e : dats as with
      | none => rw [e] at q; exact q.elim
      | some ds =>
        rw [e] at q
        have q' : Post g W (relE g) th1 rho sg H1 (if ds.length ≤ sizeLine then R.ok (D.dat (.tuple ds)) S1 else R.bad) Q := q
        have rl := dats_ok r1 e
        split at q'
        · next hl => exact ⟨by rw [rl.len]; exact hl, Rp.newT rl (fun p np => R1.notAv np) fun p u np r => q' _ _ th1 (R1.fresh np) (.upd np) r⟩
        · exact q'.elim
theorem l_lst (h : LA' X W es r) : LE X W (.List es pos) (eLst r) := fun g hK hm =>
  (pe_lst (h g hK hm)).of fun sg H Q ⟨th, rho, S, R0, p⟩ => tL.bind (k := fun as rho S1 => match dats as with
    | some ds => if ds.length ≤ sizeLine then R.ok (D.dat (.list ds)) S1 else R.bad
    | none => R.bad) R0 p fun as S1 vs H1 th1 _ R1 _ r1 q => by
      cases e : dats as with
      | none => rw [e] at q; exact q.elim
      | some ds =>
        rw [e] at q
        have q' : Post g W (relE g) th1 rho sg H1 (if ds.length ≤ sizeLine then R.ok (D.dat (.list ds)) S1 else R.bad) Q := q
        have rl := dats_ok r1 e
        split at q'
        · next hl => exact ⟨by rw [rl.len]; exact hl, fun p np => q' _ _ th1 (R1.fresh np) (.upd np) (by
            simp only [RD, Rp]
            exact ⟨p, vs, rfl, ⟨R1.notAv np, upd_same⟩, rl.at_new np⟩)⟩
        · exact q'.elim
/-- a call of a built-in by its name -/
theorem l_callB {x : Str} {p : Pos} {id : String} {o : OL} (hc : CallL X (.builtin id) o) (hg : Gl X x) (hm : X.mg x = none) (hv : bootBuiltins x = some (.builtin id)) (ha : LA' X W (e :: es) r) (hn : x ≠ "__name__" := by decide) (hdb : (x == ("__debug__" : Str)) = false := by decide)
    (he : starEach (e :: es) X.env = (false, eval e X.env) :: starEach es X.env := by rfl) (hpl : (backTo pos (starEach es X.env)).any (·.1) = false := by rfl) : LE X W (.Call (.Name x p) (e :: es) [] pos) (eCB o r) := fun g hK hmg =>
  (pe_callB (hc g hK hmg) hg hm hv (ha g hK hmg) hn hdb he hpl).of fun sg H Q ⟨th, rho, S, R0, p⟩ => tL.bind (k := fun as rho S1 => match o as with
    | some d => R.ok d S1
    | none => R.bad) R0 p fun as S1 vs H1 th1 _ R1 _ r1 q => ⟨th1, rho, S1, sg, as, R1, r1, q.fin R1⟩
theorem l_callTy {x : Str} {p : Pos} {id : String} {o : OL} (hc : CallL X (.type id) o) (hg : Gl X x) (hm : X.mg x = none) (hv : bootBuiltins x = some (.type id)) (ha : LA' X W (e :: es) r) (hn : x ≠ "__name__" := by decide) (hdb : (x == ("__debug__" : Str)) = false := by decide)
    (he : starEach (e :: es) X.env = (false, eval e X.env) :: starEach es X.env := by rfl) (hpl : (backTo pos (starEach es X.env)).any (·.1) = false := by rfl) : LE X W (.Call (.Name x p) (e :: es) [] pos) (eCB o r) := fun g hK hmg =>
  (pe_callTy (hc g hK hmg) hg hm hv (ha g hK hmg) hn hdb he hpl).of fun sg H Q ⟨th, rho, S, R0, p⟩ => tL.bind (k := fun as rho S1 => match o as with
    | some d => R.ok d S1
    | none => R.bad) R0 p fun as S1 vs H1 th1 _ R1 _ r1 q => ⟨th1, rho, S1, sg, as, R1, r1, q.fin R1⟩
end
end L3

/-! L3Ops -/
namespace L3
open PySem PySem.Spec PyProof.Rows L2

/-- the data that a value shows -/
def vw : D → Option PyData
  | .dat d => some d
  | .own ds => some (.list ds)
  | .scr ns => some (.list (ns.map .int))
  | .ref _ => none
section
variable {X : Cx} {pins : List (Addr × Obj)} {sg : L2.St} {H : Hp} {s : Shared} {A : Av} {th : List Addr}
theorem dp_ints : ∀ ns : List Int, DpAll X.K H (ns.map V.int) (ns.map PyData.int)
  | [] => .nil
  | n :: ns => .cons (.int n) (dp_ints ns)
theorem RD.dp : ∀ {d : D} {v : V} {p : PyData}, RD X.K H A th d v → vw d = some p → p.plain = true → Dp X.K H v p
  | .dat d, v, p, r, e, hp => by
    cases Option.some.inj e
    exact Rp.dp _ v hp r
  | .own ds, v, p, r, e, hp => by
    cases Option.some.inj e
    obtain ⟨a, xs, rfl, h, q, _⟩ := r
    exact .lst (.of h) (RpL.dp ds xs (by simpa only [PyData.plain] using hp) q)
  | .scr ns, v, p, r, e, hp => by
    cases Option.some.inj e
    obtain ⟨a, rfl, h⟩ := r
    exact .lst h.sq (dp_ints ns)
  | .ref _, _, _, _, e, _ => by cases e
theorem RD.reads (I : Inv X pins sg H s) {d : D} {v : V} {u : Value} {p : PyData} (r : RD X.K H A th d v) (e : vw d = some p) (hp : p.plain = true) (ru : RelV v u) : ∃ as, Reads s.heap u p as := Dp.reads I p v u (r.dp e hp) ru
end

/-! ### numbers, texts, joining -/
def isScr : D → Bool
  | .scr _ => true
  | _ => false
def nnone : PyData → Bool
  | .none => false
  | _ => true
theorem not_scr {d : D} (h : isScr d = false) : ∀ ns, d ≠ .scr ns := fun ns e => by rw [e] at h; cases h
theorem nnone_ne {p : PyData} (h : nnone p = true) : p ≠ .none := fun e => by rw [e] at h; cases h
def okLen (n : Nat) (d : PyData) : Option D := if n ≤ sizeLine then some (.dat d) else none
def addD : O2 := fun a b => match vw a, vw b with
  | some (.int i), some (.int j) => some (.dat (.int (i + j)))
  | some (.str x), some (.str y) => okLen (x.length + y.length) (.str (x ++ y))
  | some (.tuple xs), some (.tuple ys) => okLen (xs.length + ys.length) (.tuple (xs ++ ys))
  | some (.list xs), some (.list ys) => if isScr a = false ∧ isScr b = false then okLen (xs.length + ys.length) (.list (xs ++ ys)) else none
  | _, _ => none
def intD (f : Int → Int → Option Int) : O2 := fun a b => match a, b with
  | .dat (.int i), .dat (.int j) => (f i j).map fun k => .dat (.int k)
  | _, _ => none
def subD : O2 := intD fun i j => some (i - j)
def fdivD : O2 := intD fun i j => if 0 < j ∧ j.natAbs.log2 < 9000 then some (i / j) else none
def modD : O2 := intD fun i j => if 0 < j then some (i % j) else none
def powD : O2 := intD fun i j => if 0 ≤ j ∧ (Builtin.Int.intBits i : Int) * j ≤ 2 ^ 27 then some (i ^ j.toNat) else none
def mulI (i j : Int) : Option Int := if i.natAbs.log2 + j.natAbs.log2 < 1000000 then some (i * j) else none
def mulD : O2 := fun a b => match vw a, b with
  | some (.int i), .dat (.int j) => (mulI i j).map fun k => .dat (.int k)
  | some (.tuple xs), .dat (.int k) => if -(2 ^ 62) ≤ k ∧ k < 2 ^ 62 ∧ xs.length * k.toNat ≤ sizeLine then some (.dat (.tuple (List.replicate k.toNat xs).flatten)) else none
  | some (.list xs), .dat (.int k) => if isScr a = false ∧ 0 ≤ k ∧ k < 2 ^ 62 ∧ xs.length * k.toNat ≤ sizeLine then some (.dat (.list (List.replicate k.toNat xs).flatten)) else none
  | _, _ => none
section
variable {K : PySem.W.Frag} {H : Hp} {A : Av} {th : List Addr}
theorem rd_int {v : V} {i : Int} : RD K H A th (.dat (.int i)) v ↔ v = .int i := by simp only [RD, Rp]
theorem rd_str {v : V} {i : Str} : RD K H A th (.dat (.str i)) v ↔ v = .str i := by simp only [RD, Rp]
theorem rd_bool {v : V} {i : Bool} : RD K H A th (.dat (.bool i)) v ↔ v = .bl i := by simp only [RD, Rp]
theorem rd_none {v : V} : RD K H A th (.dat .none) v ↔ v = .non := by simp only [RD, Rp]
theorem rd_tup {v : V} {ds : List PyData} : RD K H A th (.dat (.tuple ds)) v ↔ ∃ a xs, v = .ref a ∧ TpA (keyB ds) K H A a xs ∧ RpL K H A ds xs := by simp only [RD, Rp]
theorem rd_lst {v : V} {ds : List PyData} : RD K H A th (.dat (.list ds)) v ↔ ∃ a xs, v = .ref a ∧ LsA K H A a xs ∧ RpL K H A ds xs := by simp only [RD, Rp]
/-- a list that is tracked as such -/
theorem rd_list : ∀ {d : D} {v : V} {ds : List PyData}, RD K H A th d v → vw d = some (.list ds) → (∀ ns, d ≠ .scr ns) → ∃ a xs, v = .ref a ∧ H a = some (.lst xs) ∧ RpL K H A ds xs
  | .dat d, v, ds, r, e, _ => by
    cases Option.some.inj e
    obtain ⟨a, xs, e, l, q⟩ := rd_lst.mp r
    exact ⟨a, xs, e, l.2, q⟩
  | .own ds, v, _, r, e, _ => by
    cases e
    obtain ⟨a, xs, e, h, q, _⟩ := r
    exact ⟨a, xs, e, h, q⟩
  | .scr ns, _, _, _, _, n => (n ns rfl).elim
  | .ref _, _, _, _, e, _ => by cases e
theorem vw_dat : ∀ {d : D} {p : PyData}, vw d = some p → (∀ ds, p ≠ .list ds) → d = .dat p
  | .dat d, p, e, _ => by cases Option.some.inj e; rfl
  | .own ds, p, e, n => by cases Option.some.inj e; exact (n _ rfl).elim
  | .scr ns, p, e, n => by cases Option.some.inj e; exact (n _ rfl).elim
  | .ref _, _, e, _ => by cases e
end
section
variable {g : Gh} {th : List Addr} {rho : Sl} {S : Store} {sg : L2.St} {H : Hp} {Q : VK}
theorem Fin.str {x : Str} (h : Fin g th rho S sg H (some (.dat (.str x))) Q) (R0 : Rel g th rho S sg H) : Q (.str x) H := h.at R0 (rd_str.mpr rfl)
theorem Fin.int {x : Int} (h : Fin g th rho S sg H (some (.dat (.int x))) Q) (R0 : Rel g th rho S sg H) : Q (.int x) H := h.at R0 (rd_int.mpr rfl)
theorem Fin.bl {x : Bool} (h : Fin g th rho S sg H (some (.dat (.bool x))) Q) (R0 : Rel g th rho S sg H) : Q (.bl x) H := h.at R0 (rd_bool.mpr rfl)
theorem Fin.okl {n : Nat} {d : PyData} (h : Fin g th rho S sg H (okLen n d) Q) : n ≤ sizeLine ∧ Fin g th rho S sg H (some (.dat d)) Q := by
  unfold okLen at h
  split at h
  · next e => exact ⟨e, h⟩
  · exact h.elim
theorem Fin.tupN {ds : List PyData} {xs : List V} (h : Fin g th rho S sg H (some (.dat (.tuple ds))) Q) (R0 : Rel g th rho S sg H) (r : RpL g.K H (Avd g th rho sg) ds xs) : NewT xs H Q :=
  Rp.newT r (fun p n => R0.notAv n) fun p u n rp => h.new R0 n rp
theorem Fin.lstN {ds : List PyData} {xs : List V} {p : Addr} (h : Fin g th rho S sg H (some (.dat (.list ds))) Q) (R0 : Rel g th rho S sg H) (r : RpL g.K H (Avd g th rho sg) ds xs) (n : H p = none) : Q (.ref p) (upd H p (.lst xs)) :=
  h.new R0 n (rd_lst.mpr ⟨p, xs, rfl, ⟨R0.notAv n, upd_same⟩, r.at_new n⟩)
end
theorem OpL.of {X : Cx} {F : Value → Value → Sem Value} {o : O2} {r : R2} (h : OpR X F r)
    (k : ∀ (g : Gh), g.K = X.K → ∀ (th : List Addr) (rho : Sl) (S : Store) (sg : L2.St) (H : Hp) (a b : D) (x y : V) (Q : VK), Rel g th rho S sg H → RD g.K H (Avd g th rho sg) th a x → RD g.K H (Avd g th rho sg) th b y → Fin g th rho S sg H (o a b) Q → r x y H Q) : OpL X F o :=
  fun g hK hm pins s σ H x y v u Q I rx ry ⟨th, rho, S, sg, a, b, R0, ra, rb, q⟩ => h pins s σ H x y v u Q I rx ry (k g hK th rho S sg H a b x y Q R0 ra rb q)
section
variable {X : Cx}
theorem o_add : OpL X (binaryOp .Add) addD := OpL.of (r := fun x y H Q => rI0 (fun i j => .int (i + j)) x y H Q ∨ (∃ i j, x = .str i ∧ y = .str j ∧ i.length + j.length ≤ sizeLine ∧ Q (.str (i ++ j)) H) ∨ rCatS X.K x y H Q ∨ rCat x y H Q)
  (OpR.or op_add (OpR.or op_add_str (OpR.or op_catS op_cat))) fun g hK th rho S sg H a b x y Q R0 ra rb q => by
    unfold addD at q
    cases ea : vw a with
    | none => rw [ea] at q; exact q.elim
    | some da =>
      cases eb : vw b with
      | none => rw [ea, eb] at q; cases da <;> exact q.elim
      | some db =>
        rw [ea, eb] at q
        cases da with
        | int i => cases db with
          | int j =>
            cases vw_dat ea (fun _ z => by cases z)
            cases vw_dat eb (fun _ z => by cases z)
            exact .inl ⟨i, j, rd_int.mp ra, rd_int.mp rb, q.int R0⟩
          | _ => exact q.elim
        | str i => cases db with
          | str j =>
            cases vw_dat ea (fun _ z => by cases z)
            cases vw_dat eb (fun _ z => by cases z)
            obtain ⟨hl, q⟩ := q.okl
            exact .inr (.inl ⟨i, j, rd_str.mp ra, rd_str.mp rb, hl, q.str R0⟩)
          | _ => exact q.elim
        | tuple ds => cases db with
          | tuple es =>
            have ea' := vw_dat ea (fun _ z => by cases z)
            have eb' := vw_dat eb (fun _ z => by cases z)
            subst ea' eb'
            obtain ⟨hl, q⟩ := q.okl
            obtain ⟨p, xs, rfl, l1, r1⟩ := rd_tup.mp ra
            obtain ⟨p2, ys, rfl, l2, r2⟩ := rd_tup.mp rb
            refine .inr (.inr (.inl ⟨p, p2, xs, ys, rfl, rfl, by rw [← hK]; exact l1.sq, by rw [← hK]; exact l2.sq, by rw [r1.len, r2.len]; exact hl, fun e => ?_, fun _ e => ?_, fun _ _ => ?_⟩))
            · subst e
              have e0 : ds = [] := List.eq_nil_of_length_eq_zero (by rw [← r1.len]; rfl)
              subst e0
              exact q.at R0 (rd_tup.mpr ⟨p2, ys, rfl, l2, r2⟩)
            · subst e
              have e0 : es = [] := List.eq_nil_of_length_eq_zero (by rw [← r2.len]; rfl)
              subst e0
              rw [List.append_nil] at q
              exact q.at R0 (rd_tup.mpr ⟨p, xs, rfl, l1, r1⟩)
            · exact q.tupN R0 (r1.append r2)
          | _ => exact q.elim
        | list ds => cases db with
          | list es =>
            have q' : Fin g th rho S sg H (if isScr a = false ∧ isScr b = false then okLen (ds.length + es.length) (.list (ds ++ es)) else none) Q := q
            split at q'
            case isFalse => exact q'.elim
            rename_i hsc
            obtain ⟨hl, q⟩ := q'.okl
            have na := not_scr hsc.1
            have nb := not_scr hsc.2
            obtain ⟨p, xs, rfl, l1, r1⟩ := rd_list ra ea na
            obtain ⟨p2, ys, rfl, l2, r2⟩ := rd_list rb eb nb
            exact .inr (.inr (.inr ⟨p, p2, xs, ys, rfl, rfl, l1, l2, by rw [r1.len, r2.len]; exact hl, fun n nn => q.lstN R0 (r1.append r2) nn⟩))
          | _ => exact q.elim
        | none => exact q.elim
        | bool _ => exact q.elim
        | dict _ => exact q.elim
theorem o_int {F : Value → Value → Sem Value} {C : Int → Int → Prop} {f : Int → Int → Int} {o : Int → Int → Option Int} (h : OpR X F (rI C fun i j => .int (f i j))) (ho : ∀ i j k, o i j = some k → C i j ∧ k = f i j) : OpL X F (intD o) :=
  OpL.of h fun g hK th rho S sg H a b x y Q R0 ra rb q => by
    unfold intD at q
    split at q
    · next i j =>
      cases e : o i j with
      | none => rw [e] at q; exact q.elim
      | some k =>
        rw [e] at q
        obtain ⟨hc, rfl⟩ := ho _ _ _ e
        exact ⟨i, j, rd_int.mp ra, rd_int.mp rb, hc, q.int R0⟩
    · exact q.elim
theorem o_sub : OpL X (binaryOp .Sub) subD := o_int (C := fun _ _ => True) (f := fun i j => i - j) (fun pins s σ H x y v u Q I rx ry ⟨i, j, e1, e2, _, q⟩ => op_sub pins s σ H x y v u Q I rx ry ⟨i, j, e1, e2, q⟩) fun i j k e => ⟨True.intro, (Option.some.inj e).symm⟩
theorem o_fdiv : OpL X (binaryOp .FloorDiv) fdivD := o_int op_fdivW fun i j k e => by
  split at e
  · next h => exact ⟨h, (Option.some.inj e).symm⟩
  · cases e
theorem o_mod : OpL X (binaryOp .Mod) modD := o_int op_mod fun i j k e => by
  split at e
  · next h => exact ⟨h, (Option.some.inj e).symm⟩
  · cases e
theorem o_pow : OpL X (binaryOp .Pow) powD := o_int (C := fun i j => 0 ≤ j ∧ (Builtin.Int.intBits i : Int) * j ≤ 2 ^ 27) (f := fun i j => i ^ j.toNat) (opI fun _ _ _ _ _ _ _ hc q => pow_int hc.1 hc.2 q) fun i j k e => by
  split at e
  · next h => exact ⟨h, (Option.some.inj e).symm⟩
  · cases e
theorem o_mul : OpL X (binaryOp .Mult) mulD := OpL.of (r := fun x y H Q => rI CMulW (fun i j => .int (i * j)) x y H Q ∨ rRepS X.K x y H Q ∨ rRep x y H Q)
  (OpR.or op_mulW (OpR.or op_repS op_rep)) fun g hK th rho S sg H a b x y Q R0 ra rb q => by
    unfold mulD at q
    cases ea : vw a with
    | none => rw [ea] at q; exact q.elim
    | some da =>
      rw [ea] at q
      cases b with
      | own _ => cases da <;> exact q.elim
      | scr _ => cases da <;> exact q.elim
      | ref _ => cases da <;> exact q.elim
      | dat db => cases db with
        | int j =>
          cases da with
          | int i =>
            cases vw_dat ea (fun _ z => by cases z)
            have q' : Fin g th rho S sg H ((mulI i j).map fun k => .dat (.int k)) Q := q
            unfold mulI at q'
            split at q'
            · next h => exact .inl ⟨i, j, rd_int.mp ra, rd_int.mp rb, h, Fin.int (x := i * j) q' R0⟩
            · exact q'.elim
          | tuple ds =>
            have ea' := vw_dat ea (fun _ z => by cases z)
            subst ea'
            have q' : Fin g th rho S sg H (if -(2 ^ 62) ≤ j ∧ j < 2 ^ 62 ∧ ds.length * j.toNat ≤ sizeLine then some (.dat (.tuple (List.replicate j.toNat ds).flatten)) else none) Q := q
            split at q'
            · next h =>
              obtain ⟨p, xs, rfl, l1, r1⟩ := rd_tup.mp ra
              have nil_of : xs = [] → ds = [] := fun e => List.eq_nil_of_length_eq_zero (by rw [← r1.len, e]; rfl)
              refine .inr (.inl ⟨p, j, xs, rfl, rd_int.mp rb, by rw [← hK]; exact l1.sq, h.1, h.2.1, fun e => ?_, fun _ e => ?_, fun _ e => ⟨by rw [r1.len]; exact h.2.2, q'.tupN R0 (r1.rep _)⟩⟩)
              · have e2 : (List.replicate j.toNat ds).flatten = ds := by
                  rcases e with e | e
                  · rw [nil_of e]
                    induction j.toNat with
                    | zero => rfl
                    | succ n ih => rw [List.replicate_succ, List.flatten_cons, ih]; rfl
                  · subst e
                    show (List.replicate 1 ds).flatten = ds
                    simp
                rw [e2] at q'
                exact q'.at R0 ra
              · have e2 : j.toNat = 0 := by omega
                rw [e2] at q'
                exact q'.tupN (xs := []) R0 .nil
            · exact q'.elim
          | list ds =>
            have q2 : Fin g th rho S sg H (if isScr a = false ∧ 0 ≤ j ∧ j < 2 ^ 62 ∧ ds.length * j.toNat ≤ sizeLine then some (.dat (.list (List.replicate j.toNat ds).flatten)) else none) Q := q
            split at q2
            · next h =>
              obtain ⟨p, xs, rfl, l1, r1⟩ := rd_list ra ea (not_scr h.1)
              exact .inr (.inr ⟨p, j, xs, rfl, rd_int.mp rb, l1, by omega, by omega, by rw [r1.len]; exact h.2.2.2, fun n nn => q2.lstN R0 (r1.rep _) nn⟩)
            · exact q2.elim
          | _ => exact q.elim
        | _ => cases da <;> exact q.elim
def negD : O1 := fun a => match a with
  | .dat (.int i) => some (.dat (.int (-i)))
  | _ => none
theorem o_neg : UnL X (unaryOp .USub) negD := fun g hK hm pins s σ H x v Q I rx ⟨th, rho, S, sg, a, R0, ra, q⟩ => un_neg pins s σ H x v Q I rx (by
  unfold negD at q
  split at q
  · next i => exact ⟨i, rd_int.mp ra, q.int R0⟩
  · exact q.elim)

/-! ### comparisons -/
def bD (b : Bool) : Option D := some (.dat (.bool b))
/-- both are data without dicts, not too deep -/
def two (f : PyData → PyData → Option D) : O2 := fun a b => match vw a, vw b with
  | some p, some q => if p.plain = true ∧ q.plain = true ∧ min p.depth q.depth ≤ 60 then f p q else none
  | _, _ => none
def eqD : O2 := two fun p q => bD (PyData.eqv p q)
def neD : O2 := two fun p q => bD (!PyData.eqv p q)
def ord (f : PyData → PyData → Bool) : O2 := two fun p q => if PySem.W.alike p q = true ∧ nnone p = true then bD (f p q) else none
def ltD : O2 := ord fun p q => PySem.W.dataLt p q
def gtD : O2 := ord fun p q => PySem.W.dataLt q p
def leD : O2 := ord fun p q => !PySem.W.dataLt q p
def geD : O2 := ord fun p q => !PySem.W.dataLt p q
/-- x in c -/
def inn (f : Bool → Bool) : O2 := fun a b => match vw a, vw b with
  | some (.str x), some (.str y) => bD (f (!(Builtin.Str.occurrences y x 0 y.length 1).isEmpty))
  | some p, some (.list ys) => if p.plain = true ∧ PyData.plainAll ys = true ∧ min (PyData.depthAll ys) p.depth ≤ 60 then bD (f (ys.any fun z => PyData.eqv z p)) else none
  | some p, some (.tuple ys) => if p.plain = true ∧ PyData.plainAll ys = true ∧ min (PyData.depthAll ys) p.depth ≤ 60 then bD (f (ys.any fun z => PyData.eqv z p)) else none
  | _, _ => none
def inD : O2 := inn id
def ninD : O2 := inn not
/-- is, of None and of truth values -/
def isD (f : Bool → Bool) : O2 := fun a b => match b with
  | .dat .none => (match a with
    | .dat .none => bD (f true)
    | .dat _ => bD (f false)
    | .own _ => bD (f false)
    | .scr _ => bD (f false)
    | .ref _ => bD (f false))
  | .dat (.bool c) => (match a with
    | .dat (.bool b) => bD (f (b == c))
    | _ => none)
  | _ => none
theorem Fin.bD {g : Gh} {th : List Addr} {rho : Sl} {S : Store} {sg : L2.St} {H : Hp} {Q : VK} {b : Bool} (h : Fin g th rho S sg H (L3.bD b) Q) (R0 : Rel g th rho S sg H) : Q (.bl b) H := Fin.bl h R0
theorem o_two {op : CmpOp} {f : PyData → PyData → Option D} (hu : X.A.units + 80 < cLine)
    (h : ∀ (pins : List (Addr × Obj)) (s : Shared) (σ : L2.St) (H : Hp) (p q : PyData) (v u : Value) (as bs : List Addr) (b : Bool) (Q : VK), Inv X pins σ H s → Reads s.heap v p as → Reads s.heap u q bs → p.plain = true → q.plain = true → X.A.units + min p.depth q.depth < cLine → f p q = bD b → Q (.bl b) H →
      wpAny (model X.prog X.w) X.A (compareOp op v u) (EP X pins σ Q) X.xe s) (hf : ∀ p q d, f p q = some d → ∃ b, f p q = bD b) : OpL X (compareOp op) (two f) :=
  fun g hK hm pins s σ H x y v u Q I rx ry ⟨th, rho, S, sg, a, b, R0, ra, rb, q⟩ => by
    unfold two at q
    cases ea : vw a with
    | none => rw [ea] at q; exact q.elim
    | some p =>
      cases eb : vw b with
      | none => rw [ea, eb] at q; exact q.elim
      | some p2 =>
        rw [ea, eb] at q
        have q' : Fin g th rho S sg H (if p.plain = true ∧ p2.plain = true ∧ min p.depth p2.depth ≤ 60 then f p p2 else none) Q := q
        split at q'
        · next hc =>
          cases ef : f p p2 with
          | none => rw [ef] at q'; exact q'.elim
          | some d =>
            obtain ⟨c, ec⟩ := hf p p2 d ef
            rw [ec] at q'
            rw [hK] at ra rb
            obtain ⟨as, r1⟩ := ra.reads I ea hc.1 rx
            obtain ⟨bs, r2⟩ := rb.reads I eb hc.2.1 ry
            exact h pins s σ H p p2 v u as bs c Q I r1 r2 hc.1 hc.2.1 (by have := hc.2.2; omega) ec (Fin.bD q' R0)
        · exact q'.elim
theorem o_eq (hu : X.A.units + 80 < cLine) : OpL X (compareOp .Eq) eqD := o_two hu (fun pins s σ H p q v u as bs b Q I r1 r2 h1 h2 h3 e qq => SeqAt.eq_plain r1 r2 h1 h2 h3 ⟨.bl b, H, I, by cases Option.some.inj e; rfl, qq⟩) fun p q d _ => ⟨_, rfl⟩
theorem o_ne (hu : X.A.units + 80 < cLine) : OpL X (compareOp .NotEq) neD := o_two hu (fun pins s σ H p q v u as bs b Q I r1 r2 h1 h2 h3 e qq => SeqAt.ne_plain r1 r2 h1 h2 h3 ⟨.bl b, H, I, by cases Option.some.inj e; rfl, qq⟩) fun p q d _ => ⟨_, rfl⟩
theorem ord_of {f : PyData → PyData → Bool} {p q : PyData} {b : Bool} (e : (if PySem.W.alike p q = true ∧ nnone p = true then bD (f p q) else none) = bD b) : PySem.W.alike p q = true ∧ p ≠ .none ∧ b = f p q := by
  split at e
  · next hc =>
    refine ⟨hc.1, nnone_ne hc.2, ?_⟩
    have e' := Option.some.inj e
    injection e' with e'
    injection e' with e'
    exact e'.symm
  · cases e
theorem ord_is {f : PyData → PyData → Bool} (p q : PyData) (d : D) (e : (if PySem.W.alike p q = true ∧ nnone p = true then bD (f p q) else none) = some d) : ∃ b, (if PySem.W.alike p q = true ∧ nnone p = true then bD (f p q) else none) = bD b := by
  by_cases hc : PySem.W.alike p q = true ∧ nnone p = true
  · exact ⟨f p q, if_pos hc⟩
  · rw [if_neg hc] at e
    cases e
theorem o_lt (hu : X.A.units + 80 < cLine) : OpL X (compareOp .Lt) ltD := o_two hu (fun pins s σ H p q v u as bs b Q I r1 r2 h1 h2 h3 e qq => by
  obtain ⟨e1, e2, rfl⟩ := ord_of (f := fun p q => PySem.W.dataLt p q) e
  exact PySem.W.lt_data r1 r2 e1 e2 h3 ⟨.bl _, H, I, rfl, qq⟩) (ord_is (f := fun p q => PySem.W.dataLt p q))
theorem o_gt (hu : X.A.units + 80 < cLine) : OpL X (compareOp .Gt) gtD := o_two hu (fun pins s σ H p q v u as bs b Q I r1 r2 h1 h2 h3 e qq => by
  obtain ⟨e1, e2, rfl⟩ := ord_of (f := fun p q => PySem.W.dataLt q p) e
  exact PySem.W.gt_data r1 r2 e1 e2 h3 ⟨.bl _, H, I, rfl, qq⟩) (ord_is (f := fun p q => PySem.W.dataLt q p))
theorem o_le (hu : X.A.units + 80 < cLine) : OpL X (compareOp .LtE) leD := o_two hu (fun pins s σ H p q v u as bs b Q I r1 r2 h1 h2 h3 e qq => by
  obtain ⟨e1, e2, rfl⟩ := ord_of (f := fun p q => !PySem.W.dataLt q p) e
  exact PySem.W.le_data r1 r2 e1 e2 h3 ⟨.bl _, H, I, rfl, qq⟩) (ord_is (f := fun p q => !PySem.W.dataLt q p))
theorem o_ge (hu : X.A.units + 80 < cLine) : OpL X (compareOp .GtE) geD := o_two hu (fun pins s σ H p q v u as bs b Q I r1 r2 h1 h2 h3 e qq => by
  obtain ⟨e1, e2, rfl⟩ := ord_of (f := fun p q => !PySem.W.dataLt p q) e
  exact PySem.W.ge_data r1 r2 e1 e2 h3 ⟨.bl _, H, I, rfl, qq⟩) (ord_is (f := fun p q => !PySem.W.dataLt p q))
theorem inn_str {f : Bool → Bool} {a b : D} {x y : Str} (ea : vw a = some (.str x)) (eb : vw b = some (.str y)) : inn f a b = bD (f (!(Builtin.Str.occurrences y x 0 y.length 1).isEmpty)) := by unfold inn; rw [ea, eb]
theorem inn_list {f : Bool → Bool} {a b : D} {p : PyData} {ys : List PyData} (ea : vw a = some p) (eb : vw b = some (.list ys)) : inn f a b = if p.plain = true ∧ PyData.plainAll ys = true ∧ min (PyData.depthAll ys) p.depth ≤ 60 then bD (f (ys.any fun z => PyData.eqv z p)) else none := by
  unfold inn; rw [ea, eb]; cases p <;> rfl
theorem inn_tuple {f : Bool → Bool} {a b : D} {p : PyData} {ys : List PyData} (ea : vw a = some p) (eb : vw b = some (.tuple ys)) : inn f a b = if p.plain = true ∧ PyData.plainAll ys = true ∧ min (PyData.depthAll ys) p.depth ≤ 60 then bD (f (ys.any fun z => PyData.eqv z p)) else none := by
  unfold inn; rw [ea, eb]; cases p <;> rfl
theorem inn_other {f : Bool → Bool} {a b : D} {d : D} (e : inn f a b = some d) : ∃ p q, vw a = some p ∧ vw b = some q ∧ ((∃ x y, p = .str x ∧ q = .str y) ∨ (∃ ys, q = .list ys) ∨ ∃ ys, q = .tuple ys) := by
  unfold inn at e
  split at e
  · next h1 h2 => exact ⟨_, _, h1, h2, .inl ⟨_, _, rfl, rfl⟩⟩
  · next h1 h2 => exact ⟨_, _, h1, h2, .inr (.inl ⟨_, rfl⟩)⟩
  · next h1 h2 => exact ⟨_, _, h1, h2, .inr (.inr ⟨_, rfl⟩)⟩
  · cases e
theorem inn_run {op : CmpOp} {f : Bool → Bool} (hu : X.A.units + 80 < cLine) (h1 : OpR X (compareOp op) (fun x y H Q => ∃ i j, x = .str i ∧ y = .str j ∧ Q (.bl (f (!(Builtin.Str.occurrences j i 0 j.length 1).isEmpty))) H))
    (h2 : ∀ {E : Value → Shared → Prop} {s : Shared} {c x : Value} {xs : List PyData} {d : PyData} {as bs : List Addr} {Q : Value → Shared → Prop}, Reads s.heap c (.list xs) as → Reads s.heap x d bs → PyData.plainAll xs = true → d.plain = true →
      X.A.units + 1 + min (PyData.depthAll xs) d.depth < cLine → Q (.bool (f (xs.any fun y => PyData.eqv y d))) s → wpAny (model X.prog X.w) X.A (compareOp op x c) Q E s)
    (h3 : ∀ {E : Value → Shared → Prop} {s : Shared} {c x : Value} {xs : List PyData} {d : PyData} {as bs : List Addr} {Q : Value → Shared → Prop}, Reads s.heap c (.tuple xs) as → Reads s.heap x d bs → PyData.plainAll xs = true → d.plain = true →
      X.A.units + 1 + min (PyData.depthAll xs) d.depth < cLine → Q (.bool (f (xs.any fun y => PyData.eqv y d))) s → wpAny (model X.prog X.w) X.A (compareOp op x c) Q E s) : OpL X (compareOp op) (inn f) :=
  fun g hK hm pins s σ H x y v u Q I rx ry ⟨th, rho, S, sg, a, b, R0, ra, rb, q⟩ => by
    cases e : inn f a b with
    | none => rw [e] at q; exact q.elim
    | some d =>
      obtain ⟨p, p2, ea, eb, hh⟩ := inn_other e
      rcases hh with ⟨i, j, rfl, rfl⟩ | ⟨ys, rfl⟩ | ⟨ys, rfl⟩
      · rw [inn_str ea eb] at q
        cases vw_dat ea (fun _ z => by cases z)
        cases vw_dat eb (fun _ z => by cases z)
        exact h1 pins s σ H x y v u Q I rx ry ⟨i, j, rd_str.mp ra, rd_str.mp rb, Fin.bD q R0⟩
      · rw [inn_list ea eb] at q
        split at q
        · next hc =>
          rw [hK] at ra rb
          obtain ⟨as, r1⟩ := ra.reads I ea hc.1 rx
          obtain ⟨bs, r2⟩ := rb.reads I eb (by simp only [PyData.plain]; exact hc.2.1) ry
          exact h2 r2 r1 hc.2.1 hc.1 (by have := hc.2.2; omega) ⟨.bl _, H, I, rfl, Fin.bD q R0⟩
        · exact q.elim
      · rw [inn_tuple ea eb] at q
        split at q
        · next hc =>
          rw [hK] at ra rb
          obtain ⟨as, r1⟩ := ra.reads I ea hc.1 rx
          obtain ⟨bs, r2⟩ := rb.reads I eb (by simp only [PyData.plain]; exact hc.2.1) ry
          exact h3 r2 r1 hc.2.1 hc.1 (by have := hc.2.2; omega) ⟨.bl _, H, I, rfl, Fin.bD q R0⟩
        · exact q.elim
theorem o_in (hu : X.A.units + 80 < cLine) : OpL X (compareOp .In) inD := inn_run hu op_in_str (fun r2 r1 h1 h2 h3 q => SeqAt.in_list_data r2 r1 h1 h2 h3 q) (fun r2 r1 h1 h2 h3 q => SeqAt.in_tuple_data r2 r1 h1 h2 h3 q)
theorem o_nin (hu : X.A.units + 80 < cLine) : OpL X (compareOp .NotIn) ninD := inn_run hu L2.op_notin_str (fun r2 r1 h1 h2 h3 q => SeqAt.notIn_list_data r2 r1 h1 h2 h3 q) (fun r2 r1 h1 h2 h3 q => SeqAt.notIn_tuple_data r2 r1 h1 h2 h3 q)
theorem rd_ne_none {K : PySem.W.Frag} {H : Hp} {A : Av} {th : List Addr} : ∀ {d : D} {v : V}, RD K H A th d v → d ≠ .dat .none → v ≠ .non
  | .dat .none, _, _, n => (n rfl).elim
  | .dat (.bool _), _, r, _ => by rw [rd_bool.mp r]; exact fun z => by cases z
  | .dat (.int _), _, r, _ => by rw [rd_int.mp r]; exact fun z => by cases z
  | .dat (.str _), _, r, _ => by rw [rd_str.mp r]; exact fun z => by cases z
  | .dat (.tuple _), _, r, _ => by obtain ⟨a, xs, rfl, _⟩ := rd_tup.mp r; exact fun z => by cases z
  | .dat (.list _), _, r, _ => by obtain ⟨a, xs, rfl, _⟩ := rd_lst.mp r; exact fun z => by cases z
  | .dat (.dict _), _, r, _ => by simp only [RD, Rp] at r; obtain ⟨a, rfl, _⟩ := r; exact fun z => by cases z
  | .own _, _, r, _ => by obtain ⟨a, xs, rfl, _⟩ := r; exact fun z => by cases z
  | .ref _, _, r, _ => by obtain ⟨a, rfl, _⟩ := r; exact fun z => by cases z
  | .scr _, _, r, _ => by obtain ⟨a, rfl, _⟩ := r; exact fun z => by cases z
theorem is_run {op : CmpOp} {f : Bool → Bool} (h1 : OpR X (compareOp op) (fun x y H Q => y = .non ∧ Q (.bl (f (decide (x = .non)))) H)) (h2 : OpR X (compareOp op) (fun x y H Q => ∃ a b : Bool, x = .bl a ∧ y = .bl b ∧ Q (.bl (f (decide (a = b)))) H)) : OpL X (compareOp op) (isD f) :=
  OpL.of (OpR.or h1 h2) fun g hK th rho S sg H a b x y Q R0 ra rb q => by
    unfold isD at q
    split at q
    · refine .inl ⟨rd_none.mp rb, ?_⟩
      cases a with
      | dat d => cases d with
        | none => rw [rd_none.mp ra]; exact Fin.bD q R0
        | _ =>
          rw [decide_eq_false (rd_ne_none ra (fun z => by cases z))]
          exact Fin.bD q R0
      | own _ => rw [decide_eq_false (rd_ne_none ra (fun z => by cases z))]; exact Fin.bD q R0
      | scr _ => rw [decide_eq_false (rd_ne_none ra (fun z => by cases z))]; exact Fin.bD q R0
      | ref _ => rw [decide_eq_false (rd_ne_none ra (fun z => by cases z))]; exact Fin.bD q R0
    · next c =>
      cases a with
      | dat d => cases d with
        | bool b' =>
          refine .inr ⟨b', c, rd_bool.mp ra, rd_bool.mp rb, ?_⟩
          have e : (b' == c) = decide (b' = c) := by cases b' <;> cases c <;> rfl
          rw [← e]
          exact Fin.bD q R0
        | _ => exact q.elim
      | own _ => exact q.elim
      | scr _ => exact q.elim
      | ref _ => exact q.elim
    · exact q.elim
theorem o_is : OpL X (compareOp .Is) (isD id) := is_run op_isN op_isBl
theorem o_isnot : OpL X (compareOp .IsNot) (isD not) := is_run op_notN op_notBl
end
end L3

/-! L3Fns -/
namespace L3
open PySem PySem.Spec PyProof.Rows L2

/-- what is around a call: room, no guards -/
structure Amb (X : Cx) : Prop where
  gd : X.A.guards = some []
  un : X.A.units + 150 < cLine
  hd : X.A.handled = none
theorem Amb.u {X : Cx} (a : Amb X) : X.A.units + 80 < cLine := by have := a.un; omega
theorem CallL.of {X : Cx} {f : Value} {o : OL} {r : List V → Hp → VK → Prop} (h : CallR X f r)
    (k : ∀ (g : Gh), g.K = X.K → ∀ (th : List Addr) (rho : Sl) (S : Store) (sg : L2.St) (H : Hp) (as : List D) (xs : List V) (Q : VK), Rel g th rho S sg H → RDL g.K H (Avd g th rho sg) th as xs → Fin g th rho S sg H (o as) Q → r xs H Q) : CallL X f o :=
  fun g hK hm pins s σ H xs us Q I rx ⟨th, rho, S, sg, as, R0, ra, q⟩ => h pins s σ H xs us Q I rx (k g hK th rho S sg H as xs Q R0 ra q)
/-- a call with one argument -/
theorem CallL.one {X : Cx} {f : Value} {o : O1} {ol : OL} (eo : ∀ as d, ol as = some d → ∃ a, as = [a] ∧ o a = some d)
    (k : ∀ (g : Gh), g.K = X.K → ∀ (pins : List (Addr × Obj)) (s : Shared) (σ : L2.St) (th : List Addr) (rho : Sl) (S : Store) (sg : L2.St) (H : Hp) (a d : D) (x : V) (u : Value) (Q : VK), Inv X pins σ H s → RelV x u → Rel g th rho S sg H → RD g.K H (Avd g th rho sg) th a x → o a = some d → Fin g th rho S sg H (some d) Q →
      wpAny (model X.prog X.w) X.A (call f [u]) (EP X pins σ Q) X.xe s) : CallL X f ol := fun g hK hm pins s σ H xs us Q I rx ⟨th, rho, S, sg, as, R0, ra, q⟩ => by
  cases e : ol as with
  | none => rw [e] at q; exact q.elim
  | some d =>
    obtain ⟨a, rfl, ea⟩ := eo as d e
    rw [e] at q
    obtain ⟨x, r, rfl, ra1, ra2⟩ := ra
    have e0 : r = [] := ra2
    subst e0
    obtain ⟨u, rfl, ru⟩ := vals1 rx
    exact k g hK pins s σ th rho S sg H a d x u Q I ru R0 ra1 ea q
def o1 (o : O1) : OL := fun as => match as with
  | [a] => o a
  | _ => none
theorem o1_eq {o : O1} : ∀ as d, o1 o as = some d → ∃ a, as = [a] ∧ o a = some d
  | [a], d, e => ⟨a, rfl, e⟩
  | [], _, e => by cases e
  | _ :: _ :: _, _, e => by cases e

/-! ### len -/
def lenD : O1 := fun a => match vw a with
  | some (.str x) => if x.length ≤ sizeLine then some (.dat (.int x.length)) else none
  | some (.tuple ds) => some (.dat (.int ds.length))
  | some (.list ds) => some (.dat (.int ds.length))
  | _ => none
theorem rd_seq {K : PySem.W.Frag} {H : Hp} {A : Av} {th : List Addr} : ∀ {d : D} {v : V} {ds : List PyData}, RD K H A th d v → vw d = some (.list ds) → ∃ a xs, v = .ref a ∧ SqL K H a xs ∧ xs.length = ds.length
  | .dat d, v, ds, r, e => by
    cases Option.some.inj e
    obtain ⟨a, xs, e, l, q⟩ := rd_lst.mp r
    exact ⟨a, xs, e, .of l.2, q.len⟩
  | .own ds, v, _, r, e => by
    cases e
    obtain ⟨a, xs, e, h, q, _⟩ := r
    exact ⟨a, xs, e, .of h, q.len⟩
  | .scr ns, v, _, r, e => by
    cases e
    obtain ⟨a, e, q⟩ := r
    exact ⟨a, _, e, q.sq, by rw [List.length_map, List.length_map]⟩
  | .ref _, _, _, _, e => by cases e
theorem c_len {X : Cx} : CallL X (.builtin "len") (o1 lenD) := CallL.of call_len fun g hK th rho S sg H as xs Q R0 ra q => by
  cases e : o1 lenD as with
  | none => rw [e] at q; exact q.elim
  | some d =>
    obtain ⟨a, rfl, ea⟩ := o1_eq as d e
    rw [e] at q
    obtain ⟨x, r, rfl, ra1, ra2⟩ := ra
    have e0 : r = [] := ra2
    subst e0
    unfold lenD at ea
    split at ea
    · next y ev =>
      cases vw_dat ev (fun _ z => by cases z)
      split at ea
      · next hl =>
        cases Option.some.inj ea
        have := rd_str.mp ra1
        subst this
        exact ⟨.str y, y.length, rfl, ⟨hl, rfl⟩, Fin.int q R0⟩
      · cases ea
    · next ds ev =>
      cases vw_dat ev (fun _ z => by cases z)
      cases Option.some.inj ea
      obtain ⟨p, ys, rfl, l, rl⟩ := rd_tup.mp ra1
      exact ⟨.ref p, ds.length, rfl, .inr ⟨ys, by rw [← hK]; exact l.sq, rl.len.symm⟩, Fin.int q R0⟩
    · next ds ev =>
      cases Option.some.inj ea
      obtain ⟨p, ys, rfl, l, rl⟩ := rd_seq ra1 ev
      exact ⟨.ref p, ds.length, rfl, .inl ⟨ys, by rw [← hK]; exact l, rl.symm⟩, Fin.int q R0⟩
    · cases ea

/-! ### isinstance with a built-in class -/
def tyD : D → Option String
  | .dat .none => some "NoneType"
  | .dat (.bool _) => some "bool"
  | .dat (.int _) => some "int"
  | .dat (.str _) => some "str"
  | .dat (.list _) => some "list"
  | .dat (.tuple _) => some "tuple"
  | .dat (.dict _) => some "dict"
  | .own _ => some "list"
  | .scr _ => some "list"
  | .ref _ => none
def isa (a T : String) : Bool := a == T || (a == "bool" && T == "int")
def tys : List String := ["NoneType", "bool", "int", "str", "list", "tuple", "dict"]
theorem isa_ok : ∀ a ∈ tys, ∀ T ∈ ["int", "bool", "str", "tuple", "list", "dict"], kitB a T = some (isa a T) := by decide +kernel
theorem tyD_mem {d : D} {a : String} (h : tyD d = some a) : a ∈ tys := by
  cases d with
  | dat d => cases d <;> (cases Option.some.inj h; decide)
  | own _ => cases Option.some.inj h; decide
  | scr _ => cases Option.some.inj h; decide
  | ref _ => cases h
theorem ty_of {K : PySem.W.Frag} {H : Hp} {A : Av} {th : List Addr} : ∀ {d : D} {v : V} {a : String}, RD K H A th d v → tyD d = some a → TyX K H v (.type a)
  | .dat .none, v, _, r, e => by cases Option.some.inj e; rw [rd_none.mp r]; exact .base .non
  | .dat (.bool _), v, _, r, e => by cases Option.some.inj e; rw [rd_bool.mp r]; exact .base (.bl _)
  | .dat (.int _), v, _, r, e => by cases Option.some.inj e; rw [rd_int.mp r]; exact .base (.int _)
  | .dat (.str _), v, _, r, e => by cases Option.some.inj e; rw [rd_str.mp r]; exact .base (.str _)
  | .dat (.list _), v, _, r, e => by
    cases Option.some.inj e
    obtain ⟨a, xs, rfl, l, _⟩ := rd_lst.mp r
    exact .base (.lst l.2)
  | .dat (.tuple _), v, _, r, e => by
    cases Option.some.inj e
    obtain ⟨a, xs, rfl, l, _⟩ := rd_tup.mp r
    generalize keyB _ = b at l
    cases b with
    | true => exact .base (.tup l.2)
    | false =>
    rcases l with ⟨_, o, _, l⟩ | ⟨o, its, n, l, c, _⟩
    · exact .fTuple l
    · exact .kTuple l c
  | .dat (.dict _), v, _, r, e => by
    cases Option.some.inj e
    simp only [RD, Rp] at r
    obtain ⟨a, rfl, _, ⟨ks, q, _⟩ | ⟨ks, q, _⟩⟩ := r
    · exact .base (.dK q)
    · exact .base (.dT q)
  | .own _, v, _, r, e => by
    cases Option.some.inj e
    obtain ⟨a, xs, rfl, l, _⟩ := r
    exact .base (.lst l)
  | .scr _, v, _, r, e => by
    cases Option.some.inj e
    obtain ⟨a, rfl, ⟨_, o, l⟩ | ⟨o, its, n, l, c, _⟩⟩ := r
    · exact .base (.frz l)
    · exact .kList l c
  | .ref _, _, _, _, e => by cases e
def eIsi (T : String) (f : EF) : EF := fun rho S => (f rho S).bind fun a S1 => match tyD a with
  | some t => .ok (.dat (.bool (isa t T))) S1
  | none => .bad
theorem l_isi {X : Cx} {W : WX} {e : Expr} {f : EF} {p p2 pos : Pos} {T : String} {t : Str} (hT : T ∈ ["int", "bool", "str", "tuple", "list", "dict"]) (hm : X.mg "isinstance" = none) (hmt : X.mg t = none) (hv : bootBuiltins t = some (.type T)) (he : LE X W e f) (hg : Gl X "isinstance") (hgt : Gl X t)
    (hs : starEach [e, .Name t p2] X.env = (false, eval e X.env) :: starEach [.Name t p2] X.env := by rfl) (hnt : t ≠ "__name__" := by decide) (hdt : (t == ("__debug__" : Str)) = false := by decide) (hpl : (backTo pos (starEach [.Name t p2] X.env)).any (·.1) = false := by rfl)
    (hs2 : starEach [.Name t p2] X.env = (false, eval (.Name t p2) X.env) :: starEach [] X.env := by rfl) : LE X W (.Call (.Name "isinstance" p) [e, .Name t p2] [] pos) (eIsi T f) := fun g hK hmg =>
  (pe_callB (r := rIsi X.K) call_isi hg hm (by decide +kernel) (pa_cons (he g hK hmg) (pa_cons (pe_bltn (v := .ty T) hgt hmt hv rfl hnt hdt) pa_nil hs2) hs) (by decide) (by decide) hs hpl).of fun sg H Q ⟨th, rho, S, R0, q⟩ =>
    tL.bind (k := fun a rho S1 => match tyD a with
      | some t => R.ok (D.dat (.bool (isa t T))) S1
      | none => R.bad) R0 q fun x S1 v H1 th1 _ R1 _ r q => by
        cases e : tyD x with
        | none => rw [e] at q; exact q.elim
        | some t =>
          rw [e] at q
          exact ⟨v, .ty T, .type t, .type T, isa t T, rfl, .ty T, by rw [← hK]; exact ty_of r e, kit_ty (isa_ok t (tyD_mem e) T hT), q _ H1 th1 R1 (.refl _ _) (rd_bool.mpr rfl)⟩

/-! ### tuple, list, all, any, sum, sorted, repr -/
def tupD : O1 := fun a => match vw a with
  | some (.tuple ds) => some (.dat (.tuple ds))
  | some (.list ds) => if isScr a = false then some (.dat (.tuple ds)) else none
  | _ => none
def lstD : O1 := fun a => match vw a with
  | some (.tuple ds) => some (.dat (.list ds))
  | some (.list ds) => if isScr a = false then some (.dat (.list ds)) else none
  | _ => none
section
variable {X : Cx}
theorem c_tup : CallL X (.type "tuple") (o1 tupD) := CallL.of call_tupleS fun g hK th rho S sg H as xs Q R0 ra q => by
  cases e : o1 tupD as with
  | none => rw [e] at q; exact q.elim
  | some d =>
    obtain ⟨a, rfl, ea⟩ := o1_eq as d e
    rw [e] at q
    obtain ⟨x, r, rfl, ra1, ra2⟩ := ra
    have e0 : r = [] := ra2
    subst e0
    unfold tupD at ea
    split at ea
    · next ds ev =>
      cases vw_dat ev (fun _ z => by cases z)
      cases Option.some.inj ea
      obtain ⟨p, ys, rfl, l, rl⟩ := rd_tup.mp ra1
      exact ⟨p, ys, rfl, .inr ⟨by rw [← hK]; exact l.sq, q.at R0 ra1⟩⟩
    · next ds ev =>
      split at ea
      · next hs =>
        cases Option.some.inj ea
        obtain ⟨p, ys, rfl, l, rl⟩ := rd_list ra1 ev (not_scr hs)
        exact ⟨p, ys, rfl, .inl ⟨.of l, q.tupN R0 rl⟩⟩
      · cases ea
    · cases ea
theorem c_lst : CallL X (.type "list") (o1 lstD) := CallL.of call_list_of fun g hK th rho S sg H as xs Q R0 ra q => by
  cases e : o1 lstD as with
  | none => rw [e] at q; exact q.elim
  | some d =>
    obtain ⟨a, rfl, ea⟩ := o1_eq as d e
    rw [e] at q
    obtain ⟨x, r, rfl, ra1, ra2⟩ := ra
    have e0 : r = [] := ra2
    subst e0
    unfold lstD at ea
    split at ea
    · next ds ev =>
      cases vw_dat ev (fun _ z => by cases z)
      cases Option.some.inj ea
      obtain ⟨p, ys, rfl, l, rl⟩ := rd_tup.mp ra1
      exact ⟨p, ys, rfl, .inr (by rw [← hK]; exact l.sq), fun n nn => q.lstN R0 rl nn⟩
    · next ds ev =>
      split at ea
      · next hs =>
        cases Option.some.inj ea
        obtain ⟨p, ys, rfl, l, rl⟩ := rd_list ra1 ev (not_scr hs)
        exact ⟨p, ys, rfl, .inl (.of l), fun n nn => q.lstN R0 rl nn⟩
      · cases ea
    · cases ea
end
/-- all are truth values -/
def asBools : List PyData → Option (List Bool)
  | [] => some []
  | .bool b :: r => (asBools r).map (b :: ·)
  | _ :: _ => none
def asInts : List PyData → Option (List Int)
  | [] => some []
  | .int b :: r => (asInts r).map (b :: ·)
  | _ :: _ => none
def asStrs : List PyData → Option (List Str)
  | [] => some []
  | .str b :: r => (asStrs r).map (b :: ·)
  | _ :: _ => none
section
variable {K : PySem.W.Frag} {H : Hp} {A : Av}
theorem bools_ok : ∀ {ds : List PyData} {xs : List V} {bs : List Bool}, RpL K H A ds xs → asBools ds = some bs → xs = bs.map V.bl
  | [], xs, bs, r, e => by
    simp only [RpL] at r
    cases Option.some.inj e
    exact r
  | .bool b :: ds, xs, bs, r, e => by
    simp only [RpL, Rp] at r
    obtain ⟨x, t, rfl, rfl, q⟩ := r
    simp only [asBools, Option.map_eq_some_iff] at e
    obtain ⟨cs, e1, rfl⟩ := e
    rw [bools_ok q e1]
    rfl
  | .none :: _, _, _, _, e => by cases e
  | .int _ :: _, _, _, _, e => by cases e
  | .str _ :: _, _, _, _, e => by cases e
  | .list _ :: _, _, _, _, e => by cases e
  | .tuple _ :: _, _, _, _, e => by cases e
  | .dict _ :: _, _, _, _, e => by cases e
theorem ints_ok : ∀ {ds : List PyData} {xs : List V} {bs : List Int}, RpL K H A ds xs → asInts ds = some bs → xs = bs.map V.int
  | [], xs, bs, r, e => by
    simp only [RpL] at r
    cases Option.some.inj e
    exact r
  | .int b :: ds, xs, bs, r, e => by
    simp only [RpL, Rp] at r
    obtain ⟨x, t, rfl, rfl, q⟩ := r
    simp only [asInts, Option.map_eq_some_iff] at e
    obtain ⟨cs, e1, rfl⟩ := e
    rw [ints_ok q e1]
    rfl
  | .none :: _, _, _, _, e => by cases e
  | .bool _ :: _, _, _, _, e => by cases e
  | .str _ :: _, _, _, _, e => by cases e
  | .list _ :: _, _, _, _, e => by cases e
  | .tuple _ :: _, _, _, _, e => by cases e
  | .dict _ :: _, _, _, _, e => by cases e
theorem strs_ok : ∀ {ds : List PyData} {xs : List V} {bs : List Str}, RpL K H A ds xs → asStrs ds = some bs → xs = bs.map V.str
  | [], xs, bs, r, e => by
    simp only [RpL] at r
    cases Option.some.inj e
    exact r
  | .str b :: ds, xs, bs, r, e => by
    simp only [RpL, Rp] at r
    obtain ⟨x, t, rfl, rfl, q⟩ := r
    simp only [asStrs, Option.map_eq_some_iff] at e
    obtain ⟨cs, e1, rfl⟩ := e
    rw [strs_ok q e1]
    rfl
  | .none :: _, _, _, _, e => by cases e
  | .bool _ :: _, _, _, _, e => by cases e
  | .int _ :: _, _, _, _, e => by cases e
  | .list _ :: _, _, _, _, e => by cases e
  | .tuple _ :: _, _, _, _, e => by cases e
  | .dict _ :: _, _, _, _, e => by cases e
end
/-- a list's items, if it is one that is tracked -/
def lis (a : D) : Option (List PyData) := match vw a with
  | some (.list ds) => if isScr a = false then some ds else none
  | _ => none
theorem lis_ok {K : PySem.W.Frag} {H : Hp} {A : Av} {th : List Addr} {d : D} {v : V} {ds : List PyData} (r : RD K H A th d v) (e : lis d = some ds) : ∃ a xs, v = .ref a ∧ H a = some (.lst xs) ∧ RpL K H A ds xs := by
  unfold lis at e
  split at e
  · next es ev =>
    split at e
    · next hs =>
      cases Option.some.inj e
      exact rd_list r ev (not_scr hs)
    · cases e
  · cases e
def allD : O1 := fun a => ((lis a).bind asBools).map fun bs => .dat (.bool (bs.all id))
def anyD : O1 := fun a => ((lis a).bind asBools).map fun bs => .dat (.bool (bs.any id))
def sumD : O1 := fun a => ((lis a).bind asInts).map fun ns => .dat (.int ns.sum)
theorem bind_map {α β γ : Type} {o : Option α} {f : α → Option β} {h : β → γ} {c : γ} (e : (o.bind f).map h = some c) : ∃ a b, o = some a ∧ f a = some b ∧ h b = c := by
  cases o with
  | none => cases e
  | some a =>
    cases ef : f a with
    | none => simp [ef] at e
    | some b => exact ⟨a, b, rfl, ef, by simpa [ef] using e⟩
section
variable {X : Cx}
theorem c_one {f : Value} {r : List V → Hp → VK → Prop} {o : O1} (h : CallR X f r)
    (k : ∀ (g : Gh), g.K = X.K → ∀ (th : List Addr) (rho : Sl) (S : Store) (sg : L2.St) (H : Hp) (a d : D) (x : V) (Q : VK), Rel g th rho S sg H → RD g.K H (Avd g th rho sg) th a x → o a = some d → Fin g th rho S sg H (some d) Q → r [x] H Q) : CallL X f (o1 o) := CallL.of h fun g hK th rho S sg H as xs Q R0 ra q => by
  cases e : o1 o as with
  | none => rw [e] at q; exact q.elim
  | some d =>
    obtain ⟨a, rfl, ea⟩ := o1_eq as d e
    rw [e] at q
    obtain ⟨x, r, rfl, ra1, ra2⟩ := ra
    have e0 : r = [] := ra2
    subst e0
    exact k g hK th rho S sg H a d x Q R0 ra1 ea q
theorem c_all (hc : X.calm = true) : CallL X (.builtin "all") (o1 allD) := c_one (cr_all hc) fun g hK th rho S sg H a d x Q R0 ra e q => by
  obtain ⟨ds, bs, e1, e2, rfl⟩ := bind_map e
  obtain ⟨p, xs, rfl, h, r⟩ := lis_ok ra e1
  exact ⟨p, bs, rfl, by rw [← bools_ok r e2]; exact .of h, Fin.bl q R0⟩
theorem c_any (hc : X.calm = true) : CallL X (.builtin "any") (o1 anyD) := c_one (cr_any hc) fun g hK th rho S sg H a d x Q R0 ra e q => by
  obtain ⟨ds, bs, e1, e2, rfl⟩ := bind_map e
  obtain ⟨p, xs, rfl, h, r⟩ := lis_ok ra e1
  exact ⟨p, bs, rfl, by rw [← bools_ok r e2]; exact .of h, Fin.bl q R0⟩
theorem c_sum (hc : X.calm = true) : CallL X (.builtin "sum") (o1 sumD) := c_one (cr_sum hc) fun g hK th rho S sg H a d x Q R0 ra e q => by
  obtain ⟨ds, bs, e1, e2, rfl⟩ := bind_map e
  obtain ⟨p, xs, rfl, h, r⟩ := lis_ok ra e1
  exact ⟨p, bs, rfl, by rw [← ints_ok r e2]; exact .of h, Fin.int q R0⟩
def absD : O1 := fun a => match a with
  | .dat (.int i) => some (.dat (.int (if i < 0 then -i else i)))
  | _ => none
theorem c_abs : CallL X (.builtin "abs") (o1 absD) := c_one call_abs fun g hK th rho S sg H a d x Q R0 ra e q => by
  unfold absD at e
  split at e
  · next i =>
    cases Option.some.inj e
    exact ⟨i, by rw [rd_int.mp ra], Fin.int q R0⟩
  · cases e
def toIntD : O1 := fun a => match a with
  | .dat (.int i) => some (.dat (.int i))
  | .dat (.bool b) => some (.dat (.int (if b then 1 else 0)))
  | _ => none
theorem c_int : CallL X (.type "int") (o1 toIntD) := c_one call_int1 fun g hK th rho S sg H a d x Q R0 ra e q => by
  unfold toIntD at e
  split at e
  · next i =>
    cases Option.some.inj e
    exact .inl ⟨i, by rw [rd_int.mp ra], Fin.int q R0⟩
  · next b =>
    cases Option.some.inj e
    exact .inr ⟨b, by rw [rd_bool.mp ra], Fin.int q R0⟩
  · cases e
def two2 (f : Int → Int → Int) : OL := fun as => match as with
  | [.dat (.int i), .dat (.int j)] => some (.dat (.int (f i j)))
  | _ => none
theorem c_two {fv : Value} {f : Int → Int → Int} (h : CallR X fv (fun xs H Q => ∃ i j, xs = [.int i, .int j] ∧ Q (.int (f i j)) H)) : CallL X fv (two2 f) := CallL.of h fun g hK th rho S sg H as xs Q R0 ra q => by
  unfold two2 at q
  split at q
  · next i j =>
    obtain ⟨x, r, rfl, ra1, y, t, rfl, ra2, ra3⟩ := ra
    have e0 : t = [] := ra3
    subst e0
    exact ⟨i, j, by rw [rd_int.mp ra1, rd_int.mp ra2], Fin.int q R0⟩
  · exact q.elim
theorem c_max (hc : X.calm = true) : CallL X (.builtin "max") (two2 fun i j => if j > i then j else i) := c_two (call_max2 hc)
theorem c_min (hc : X.calm = true) : CallL X (.builtin "min") (two2 fun i j => if j < i then j else i) := c_two (call_min2 hc)
/-- repr -/
def reprD : O1 := fun a => match vw a with
  | some p => if p.plain = true ∧ p.showable = true ∧ p.depth ≤ 60 ∧ p.shown.length ≤ sizeLine then some (.dat (.str p.shown)) else none
  | none => none
mutual
theorem plain_nd : ∀ d : PyData, d.plain = true → d.hasDict = false
  | .none, _ => by simp only [PyData.hasDict]
  | .bool _, _ => by simp only [PyData.hasDict]
  | .int _, _ => by simp only [PyData.hasDict]
  | .str _, _ => by simp only [PyData.hasDict]
  | .list xs, h => by simp only [PyData.hasDict]; exact plainAll_nd xs (by simpa only [PyData.plain] using h)
  | .tuple xs, h => by simp only [PyData.hasDict]; exact plainAll_nd xs (by simpa only [PyData.plain] using h)
  | .dict _, h => by simp [PyData.plain] at h
theorem plainAll_nd : ∀ xs : List PyData, PyData.plainAll xs = true → PyData.hasDictAll xs = false
  | [], _ => by simp only [PyData.hasDictAll]
  | x :: xs, h => by
    simp only [PyData.plainAll, Bool.and_eq_true] at h
    simp only [PyData.hasDictAll, plain_nd x h.1, plainAll_nd xs h.2, Bool.or_self]
end
theorem c_repr (am : Amb X) : CallL X (.builtin "repr") (o1 reprD) := CallL.one o1_eq fun g hK pins s σ th rho S sg H a d x u Q I ru R0 ra e q => by
  unfold reprD at e
  split at e
  · next p ev =>
    split at e
    · next hc =>
      cases Option.some.inj e
      obtain ⟨h1, h2, h3, h4⟩ := hc
      have fin : ∀ (h' : Heap) (t tk : Nat), (∀ b o, s.heap.get? b = some o → h'.get? b = some o) → EP X pins σ Q (.str p.shown t) { s with heap := h', toks := tk } := fun h' t tk hk => ⟨.str p.shown, H, I.kept hk, ⟨t, rfl⟩, Fin.str q R0⟩
      have key : ∀ b, u = .ref b → wpAny (model X.prog X.w) X.A (call (.builtin "repr") [u]) (EP X pins σ Q) X.xe s := fun b eb => by
        rw [hK] at ra
        obtain ⟨as, r1⟩ := ra.reads I ev h1 ru
        subst eb
        exact repr_of_reads' r1 h2 (PyData.noDict_hsm (plain_nd p h1)) am.gd (by have := am.un; omega) (fun _ _ z => z) (fun h' t tk hk => fin h' t tk hk) h4
      cases a with
      | own _ => obtain ⟨b, xs, rfl, _⟩ := ra; exact key b ru
      | scr _ => obtain ⟨b, rfl, _⟩ := ra; exact key b ru
      | ref _ => cases ev
      | dat a =>
        cases Option.some.inj ev
        cases p with
        | none =>
          have e1 := rd_none.mp ra
          subst e1
          cases (show u = Value.none from ru)
          exact P.repr_of_none (by have := fin s.heap s.toks (s.toks + 1) fun _ _ z => z; simpa only [PyData.shown] using this)
        | bool b =>
          have e1 := rd_bool.mp ra
          subst e1
          cases (show u = Value.bool b from ru)
          exact P.repr_of_bool (by
            have := fin s.heap s.toks (s.toks + 1) fun _ _ z => z
            simp only [PyData.shown] at this
            cases b <;> exact this)
        | int i =>
          have e1 := rd_int.mp ra
          subst e1
          obtain ⟨t, rfl⟩ := (show ∃ t, u = Value.int i t from ru)
          exact P.repr_of_int (by simpa only [PyData.showable, decide_eq_true_eq] using h2) (by have := fin s.heap s.toks (s.toks + 1) fun _ _ z => z; simpa only [PyData.shown] using this)
        | str y =>
          have e1 := rd_str.mp ra
          subst e1
          obtain ⟨t, rfl⟩ := (show ∃ t, u = Value.str y t from ru)
          exact P.repr_of_str (by have := fin s.heap s.toks (s.toks + 1) fun _ _ z => z; simpa only [PyData.shown] using this) (by simpa only [PyData.shown] using h4)
        | list _ => obtain ⟨b, xs, rfl, _⟩ := rd_lst.mp ra; exact key b ru
        | tuple _ => obtain ⟨b, xs, rfl, _⟩ := rd_tup.mp ra; exact key b ru
        | dict _ => simp [PyData.plain] at h1
    · cases e
  · cases e
end

/-! ### sorted -/
def alikeB (ds : List PyData) : Bool := ds.all fun d => ds.all fun e => PySem.W.alike d e
def sortB (ds : List PyData) : Bool := (ds.all fun d => match d with
  | .tuple (_ :: _) => true
  | _ => false) || ds.all fun d => match d with
  | .none => false
  | .tuple _ => false
  | _ => true
def le0 : PyData → PyData → Bool := PySem.W.dataLe false id
def sortedD : O1 := fun a => match lis a with
  | some ds => if PyData.plainAll ds = true ∧ alikeB ds = true ∧ sortB ds = true ∧ PyData.depthAll ds ≤ 60 then some (.dat (.list (ds.mergeSort le0))) else none
  | none => none
theorem depth_mem : ∀ {ds : List PyData} {d : PyData}, d ∈ ds → d.depth ≤ PyData.depthAll ds
  | e :: ds, d, h => by
    simp only [PyData.depthAll]
    rcases List.mem_cons.mp h with rfl | h
    · omega
    · have := depth_mem h; omega
section
variable {X : Cx}
theorem each_of {K : PySem.W.Frag} {H : Hp} {A : Av} {h : Heap} (I : ∀ (d : PyData) (v : V) (u : Value), d.plain = true → Rp K H A d v → RelV v u → ∃ as, Reads h u d as) : ∀ {ds : List PyData} {xs : List V} {us : List Value}, PyData.plainAll ds = true → RpL K H A ds xs → Vals xs us →
    ∃ bs : List (PyData × V), bs.map (·.1) = ds ∧ bs.map (·.2) = xs ∧ (∀ b ∈ bs, Rp K H A b.1 b.2) ∧ PySem.W.EachIs (fun u b => RelV b.2 u ∧ ∃ as, Reads h u b.1 as) us bs
  | [], xs, us, _, r, v => by
    simp only [RpL] at r
    subst r
    rw [Vals.zero v]
    exact ⟨[], rfl, rfl, fun b hb => (List.not_mem_nil hb).elim, .nil⟩
  | d :: ds, xs, us, hp, r, v => by
    simp only [RpL] at r
    obtain ⟨x, t, rfl, p, q⟩ := r
    simp only [PyData.plainAll, Bool.and_eq_true] at hp
    cases v with
    | cons rv rt =>
      obtain ⟨bs, e1, e2, e3, e4⟩ := each_of I hp.2 q rt
      refine ⟨(d, x) :: bs, by rw [List.map_cons, e1], by rw [List.map_cons, e2], fun b hb => ?_, .cons ⟨rv, I d x _ hp.1 p rv⟩ e4⟩
      rcases List.mem_cons.mp hb with rfl | hb
      · exact p
      · exact e3 b hb
theorem each_imp {α β : Type} {R R' : α → β → Prop} (k : ∀ a b, R a b → R' a b) : ∀ {as : List α} {bs : List β}, PySem.W.EachIs R as bs → PySem.W.EachIs R' as bs
  | _, _, .nil => .nil
  | _, _, .cons a r => .cons (k _ _ a) (each_imp k r)
theorem each_vals : ∀ {us : List Value} {bs : List (PyData × V)}, PySem.W.EachIs (fun u b => RelV b.2 u) us bs → Vals (bs.map (·.2)) us
  | _, _, .nil => .nil
  | _, _, .cons a r => .cons a (each_vals r)
theorem rpl_of {K : PySem.W.Frag} {H : Hp} {A : Av} : ∀ {bs : List (PyData × V)}, (∀ b ∈ bs, Rp K H A b.1 b.2) → RpL K H A (bs.map (·.1)) (bs.map (·.2))
  | [], _ => .nil
  | b :: bs, h => .cons (h b (List.mem_cons_self ..)) (rpl_of fun c hc => h c (List.mem_cons_of_mem _ hc))
theorem c_sorted (am : Amb X) : CallL X (.builtin "sorted") (o1 sortedD) := CallL.one o1_eq fun g hK pins s σ th rho S sg H a d x u Q I ru R0 ra e q => by
  unfold sortedD at e
  split at e
  case h_2 => cases e
  rename_i ds el
  split at e
  case isFalse => cases e
  rename_i hc
  obtain ⟨h1, h2, h3, h4⟩ := hc
  cases Option.some.inj e
  obtain ⟨p, xs, rfl, hp, rl⟩ := lis_ok ra el
  cases (show u = Value.ref p from ru)
  obtain ⟨its, rv, hl, hz⟩ := I.list (.of hp)
  obtain ⟨bs, e1, e2, e3, e4⟩ := each_of (K := g.K) (H := H) (A := Avd g th rho sg) (h := s.heap) (fun d v u hd hr hu => by rw [hK] at hr; exact Dp.reads I d v u (Rp.dp d v hd hr) hu) h1 rl rv
  have hal : PySem.W.AllAlike (bs.map (·.1)) := by
    rw [e1]
    intro d hd d' hd'
    exact List.all_eq_true.mp (List.all_eq_true.mp h2 d hd) d' hd'
  have hso : PySem.W.Sortable (bs.map (·.1)) := by
    rw [e1]
    rcases Bool.or_eq_true_iff.mp h3 with h | h
    · refine .inl fun d hd => ?_
      have := List.all_eq_true.mp h d hd
      cases d with
      | tuple ys => cases ys with
        | nil => cases this
        | cons y ys => exact ⟨y, ys, rfl⟩
      | _ => cases this
    · refine .inr fun d hd => ?_
      have := List.all_eq_true.mp h d hd
      cases d with
      | tuple ys => cases this
      | none => cases this
      | _ => exact ⟨(fun z => by cases z), fun ys z => by cases z⟩
  have elen : bs.length = xs.length := by rw [← e2, List.length_map]
  refine PySem.W.sorted_data (enc := (·.1)) hl.isList (each_imp (fun u b z => z.1) e4) (each_imp (fun u b z => z.2) e4) hal hso (by rw [elen]; exact hz) (fun b hb => ?_) fun out ho eo => ?_
  · have hm : b.1 ∈ ds := by rw [← e1]; exact List.mem_map_of_mem hb
    have := depth_mem hm
    have := am.un
    omega
  · obtain ⟨c, hat⟩ := PyProof.Rows.sortedAll_at s.heap its out.toArray
    have np : H (s.heap.objs.size + 1) = none := I.hok.fresh (Nat.le_succ _)
    have hm : (bs.mergeSort (PySem.W.dataLe false (·.1))).map (·.1) = ds.mergeSort le0 := by
      rw [← e1]
      exact List.map_mergeSort fun a _ b _ => rfl
    have hrp : RpL g.K H (Avd g th rho sg) (ds.mergeSort le0) ((bs.mergeSort (PySem.W.dataLe false (·.1))).map (·.2)) := by
      rw [← hm]
      exact rpl_of fun b hb => e3 b (List.mem_mergeSort.mp hb)
    refine ⟨.ref _, upd H (s.heap.objs.size + 1) (.lst ((bs.mergeSort (PySem.W.dataLe false (·.1))).map (·.2))), I.laid (t' := s.toks) (fun _ _ => PyProof.Rows.sortedAll_old) (Nat.le_succ _) ⟨?_, out, c, each_vals eo, ?_⟩, rfl, q.lstN R0 hrp np⟩
    · rw [List.length_map, List.length_mergeSort, elen]
      exact hz
    · exact hat
end
end L3

/-! L3Sub -/
namespace L3
open PySem PySem.Spec PyProof.Rows L2

/-! ### items by place -/
def ixD (S : Store) (a b : D) : Option D := match b with
  | .dat (.int i) => match a with
    | .ref n => match S[n]? with
      | some (.lst ds) => atI ds i
      | _ => none
    | _ => match vw a with
      | some (.tuple ds) => (atI ds i).map .dat
      | some (.list ds) => (atI ds i).map .dat
      | some (.str z) => if z.length ≤ sizeLine then (atI z.cps.toList i).map fun c => .dat (.str ⟨#[c]⟩) else none
      | _ => none
  | _ => none
def eIx (f h : EF) : EF := fun rho S => (f rho S).bind fun a S1 => (h rho S1).bind fun b S2 => match ixD S2 a b with
  | some d => .ok d S2
  | none => .bad
theorem atI_rel {α β : Type} {R : α → β → Prop} {xs : List α} {ys : List β} (hl : ys.length = xs.length) (h : ∀ (j : Nat) (a : α), xs[j]? = some a → ∃ b, ys[j]? = some b ∧ R a b) {i : Int} {a : α} (e : atI xs i = some a) : ∃ b, atI ys i = some b ∧ R a b := by
  unfold atI at e ⊢
  rw [hl]
  cases ej : ixN xs.length i with
  | none => rw [ej] at e; cases e
  | some j =>
    rw [ej] at e
    exact h j a e
theorem RSL.len {K : PySem.W.Frag} {H : Hp} {A : Av} {th : List Addr} : ∀ {ds : List D} {xs : List V}, RSL K H A th ds xs → xs.length = ds.length
  | [], _, h => by rw [show _ = _ from h]; rfl
  | d :: ds, _, ⟨x, r, e, _, t⟩ => by rw [e, List.length_cons, List.length_cons, RSL.len t]
theorem RSL.get {K : PySem.W.Frag} {H : Hp} {A : Av} {th : List Addr} : ∀ {ds : List D} {xs : List V} (i : Nat) (d : D), RSL K H A th ds xs → ds[i]? = some d → ∃ x, xs[i]? = some x ∧ RS K H A th d x
  | d :: ds, _, 0, _, ⟨x, r, e, p, _⟩, q => by
    cases Option.some.inj q
    exact ⟨x, by rw [e]; rfl, p⟩
  | d :: ds, _, i + 1, c, ⟨x, r, e, _, t⟩, q => by
    obtain ⟨y, e2, p⟩ := RSL.get i c t (by simpa only [List.getElem?_cons_succ] using q)
    exact ⟨y, by rw [e, List.getElem?_cons_succ]; exact e2, p⟩
theorem RSL.set {K : PySem.W.Frag} {H : Hp} {A : Av} {th : List Addr} {d : D} {x : V} (p : RS K H A th d x) : ∀ {ds : List D} {xs : List V} (i : Nat), RSL K H A th ds xs → RSL K H A th (ds.set i d) (xs.set i x)
  | [], _, i, h => by
    have e : _ = [] := h
    subst e
    exact rfl
  | c :: ds, _, 0, ⟨y, r, e, _, t⟩ => by
    subst e
    exact ⟨x, r, rfl, p, t⟩
  | c :: ds, _, i + 1, ⟨y, r, e, q, t⟩ => by
    subst e
    exact ⟨y, r.set i x, rfl, q, RSL.set p i t⟩
theorem RSL.app {K : PySem.W.Frag} {H : Hp} {A : Av} {th : List Addr} {d : D} {x : V} (p : RS K H A th d x) : ∀ {ds : List D} {xs : List V}, RSL K H A th ds xs → RSL K H A th (ds ++ [d]) (xs ++ [x])
  | [], _, h => by
    have e : _ = [] := h
    subst e
    exact ⟨x, [], rfl, p, rfl⟩
  | c :: ds, _, ⟨y, r, e, q, t⟩ => by
    subst e
    exact ⟨y, r ++ [x], rfl, q, RSL.app p t⟩
section
variable {X : Cx} {W : WX} {a b : Expr} {f h : EF} {pos : Pos}
theorem Fin.rd {g : Gh} {th : List Addr} {rho : Sl} {S : Store} {sg : L2.St} {H : Hp} {d : D} {Q : VK} {v : V} (h : ∀ v H', Rel g th rho S sg H' → Ext th H th H' → RD g.K H' (Avd g th rho sg) th d v → Q v H') (R0 : Rel g th rho S sg H) (r : RD g.K H (Avd g th rho sg) th d v) : Q v H := h v H R0 (.refl _ _) r
theorem ix_run {g : Gh} {th : List Addr} {rho : Sl} {S : Store} {sg : L2.St} {H : Hp} {Q : VK} {x y d : D} {v w : V} (R0 : Rel g th rho S sg H) (r1 : RD g.K H (Avd g th rho sg) th x v) (r2 : RD g.K H (Avd g th rho sg) th y w)
    (e : ixD S x y = some d) (fin : ∀ {v : V}, RD g.K H (Avd g th rho sg) th d v → Q v H) : rIx g.K v w H Q := by
  have hy : ∃ i, y = .dat (.int i) := by
    cases y with
    | dat y => cases y with
      | int i => exact ⟨i, rfl⟩
      | _ => cases e
    | _ => cases e
  obtain ⟨i, rfl⟩ := hy
  have ew := rd_int.mp r2
  subst ew
  have dat : ∀ {ds : List PyData} {xs : List V} {d0 : PyData}, RpL g.K H (Avd g th rho sg) ds xs → atI ds i = some d0 → ∃ v, atI xs i = some v ∧ Rp g.K H (Avd g th rho sg) d0 v := fun {ds xs d0} rl e => atI_rel (R := fun a b => Rp g.K H (Avd g th rho sg) a b) rl.len (fun j a ea => rl.get ea) e
  have lst : ∀ {ds : List PyData}, vw x = some (.list ds) → (∀ ns, x ≠ .scr ns) → (atI ds i).map D.dat = some d → rIx g.K v (.int i) H Q := fun {ds} ev hn e => by
    obtain ⟨d0, e0, rfl⟩ := Option.map_eq_some_iff.mp e
    obtain ⟨p, xs, rfl, l, rl⟩ := rd_list r1 ev hn
    obtain ⟨v, ev, rv⟩ := dat rl e0
    exact .inl ⟨p, xs, i, v, rfl, rfl, .of l, ev, fin rv⟩
  cases x with
  | ref n =>
    have e' : (match S[n]? with
      | some (.lst ds) => atI ds i
      | _ => none) = some d := e
    cases es : S[n]? with
    | none => rw [es] at e'; cases e'
    | some o => cases o with
      | lst ds =>
        rw [es] at e'
        obtain ⟨p, rfl, ep⟩ := r1
        obtain ⟨xs, hx, rl⟩ := R0.st.at_ n _ p es ep
        obtain ⟨v, ev, rv⟩ := atI_rel (R := fun a b => RS g.K H (Avd g th rho sg) th a b) rl.len (fun j a ea => rl.get j a ea) e'
        exact .inl ⟨p, xs, i, v, rfl, rfl, .of hx, ev, fin rv.rd⟩
      | _ => rw [es] at e'; cases e'
  | own ds => exact lst rfl (fun _ z => by cases z) e
  | scr ns =>
    have e' : (atI (ns.map PyData.int) i).map D.dat = some d := e
    obtain ⟨d0, e0, rfl⟩ := Option.map_eq_some_iff.mp e'
    obtain ⟨p, rfl, l⟩ := r1
    obtain ⟨v, ev, j, rfl, rfl⟩ := atI_rel (R := fun a b => ∃ i, a = PyData.int i ∧ b = V.int i) (xs := ns.map PyData.int) (ys := ns.map V.int) (by rw [List.length_map, List.length_map]) (fun j a ea => by
      rw [List.getElem?_map, Option.map_eq_some_iff] at ea
      obtain ⟨i, ei, rfl⟩ := ea
      exact ⟨.int i, by rw [List.getElem?_map, ei]; rfl, i, rfl, rfl⟩) e0
    exact .inl ⟨p, _, i, .int j, rfl, rfl, l.sq, ev, fin (rd_int.mpr rfl)⟩
  | dat x => cases x with
    | tuple ds =>
      have e' : (atI ds i).map D.dat = some d := e
      obtain ⟨d0, e0, rfl⟩ := Option.map_eq_some_iff.mp e'
      obtain ⟨p, xs, rfl, l, rl⟩ := rd_tup.mp r1
      obtain ⟨v, ev, rv⟩ := dat rl e0
      exact .inr (.inl ⟨p, xs, i, v, rfl, rfl, l.sq, ev, fin rv⟩)
    | list ds => exact lst rfl (fun _ z => by cases z) e
    | str z =>
      have e' : (if z.length ≤ sizeLine then (atI z.cps.toList i).map fun c => D.dat (.str ⟨#[c]⟩) else none) = some d := e
      split at e'
      · next hl =>
        obtain ⟨c, ec, rfl⟩ := Option.map_eq_some_iff.mp e'
        exact .inr (.inr ⟨z, i, c, rd_str.mp r1, rfl, hl, ec, fin (rd_str.mpr rfl)⟩)
      · cases e'
    | _ => cases e
theorem l_ix (ha : LE X W a f) (hb : LE X W b h) (hs : PlainIx b := by exact fun _ _ => rfl) : LE X W (.Subscript a b pos) (eIx f h) := fun g hK hm =>
  (pe_ix ix_seq (ha g hK hm) (hb g hK hm) hs).of fun sg H Q ⟨th, rho, S, R0, p⟩ =>
    tL.bind (k := fun a rho S1 => (h rho S1).bind fun b S2 => match ixD S2 a b with
      | some d => R.ok d S2
      | none => R.bad) R0 p fun x S1 v H1 th1 _ R1 _ r1 q => tL.bind (k := fun b rho S2 => match ixD S2 x b with
      | some d => R.ok d S2
      | none => R.bad) R1 q fun y S2 w H2 th2 _ R2 x2 r2 q2 => by
        cases e : ixD S2 x y with
        | none => rw [e] at q2; exact q2.elim
        | some d =>
          rw [e] at q2
          rw [← hK]
          exact ix_run R2 (r1.ext x2) r2 e fun {v} r => q2 v H2 th2 R2 (.refl _ _) r
end

/-! ### slices -/
def cutD {α : Type} (xs : List α) (lo hi : Option Int) : List α := (xs.drop (HT.sIx xs.length 0 lo)).take (HT.sIx xs.length xs.length hi - HT.sIx xs.length 0 lo)
theorem RpL.cut {K : PySem.W.Frag} {H : Hp} {A : Av} {ds : List PyData} {xs : List V} (h : RpL K H A ds xs) (lo hi : Option Int) : RpL K H A (cutD ds lo hi) (cutV xs lo hi) := by
  unfold cutD cutV
  rw [h.len]
  exact (h.drop _).take _
def slD (lo hi : Option Int) : O1 := fun a => match vw a with
  | some (.tuple ds) => some (.dat (.tuple (cutD ds lo hi)))
  | some (.list ds) => if isScr a = false then some (.dat (.list (cutD ds lo hi))) else none
  | some (.str z) => if z.length ≤ sizeLine then some (.dat (.str (cutS z lo hi))) else none
  | _ => none
abbrev OF := Sl → Store → R (Option Int)
def oNone : OF := fun _ S => .ok none S
def oSome (f : EF) : OF := fun rho S => (f rho S).bind fun a S1 => match a with
  | .dat (.int i) => .ok (some i) S1
  | _ => .bad
abbrev relO : Hp → Av → List Addr → Option Int → Option Int → Prop := fun _ _ _ b c => b = c
def LO (X : Cx) (W : WX) (e : Option Expr) (f : OF) : Prop := ∀ g : Gh, g.K = X.K → g.mg = X.mg → PO X e (tL g W relO f)
def eSl (f : EF) (l h : OF) : EF := fun rho S => (f rho S).bind fun a S1 => (l rho S1).bind fun lo S2 => (h rho S2).bind fun hi S3 => match slD lo hi a with
  | some d => .ok d S3
  | none => .bad
theorem cutD_whole {α : Type} {xs : List α} {lo hi : Option Int} (h : HT.sIx xs.length 0 lo = 0 ∧ HT.sIx xs.length xs.length hi = xs.length) : cutD xs lo hi = xs := by
  unfold cutD
  rw [h.1, h.2, List.drop_zero, Nat.sub_zero, List.take_length]
section
variable {X : Cx} {W : WX} {e : Expr} {f : EF} {pos p2 : Pos} {lo hi : Option Expr} {l h : OF}
theorem lo_none : LO X W none oNone := fun g hK hm => ⟨fun pins s sg H Q I ⟨th, rho, S, R0, p⟩ => po_none.run pins s sg H Q I (p none H th R0 (.refl _ _) rfl)⟩
theorem lo_some {e : Expr} {f : EF} (he : LE X W e f) : LO X W (some e) (oSome f) := fun g hK hm => ⟨fun pins s sg H Q I ⟨th, rho, S, R0, p⟩ => (po_some (he g hK hm)).run pins s sg H Q I
  (tL.bind (k := fun a rho S1 => match a with
    | .dat (.int i) => R.ok (some i) S1
    | _ => R.bad) R0 p fun x S1 v H1 th1 _ R1 _ r1 q => by
      cases x with
      | dat d => cases d with
        | int i => exact ⟨i, rd_int.mp r1, q _ H1 th1 R1 (.refl _ _) rfl⟩
        | _ => exact q.elim
      | _ => exact q.elim)⟩
theorem l_sl (he : LE X W e f) (hl : LO X W lo l) (hh : LO X W hi h) : LE X W (.Subscript e (.Slice lo hi none p2) pos) (eSl f l h) := fun g hK hm =>
  (pe_slice (SlR.or sl_tupS (SlR.or sl_list sl_str)) (he g hK hm) (hl g hK hm) (hh g hK hm)).of fun sg H Q ⟨th, rho, S, R0, p⟩ =>
    tL.bind (k := fun a rho S1 => (l rho S1).bind fun lo S2 => (h rho S2).bind fun hi S3 => match slD lo hi a with
      | some d => R.ok d S3
      | none => R.bad) R0 p fun x S1 v H1 th1 _ R1 _ r1 q => tL.bind (k := fun lo rho S2 => (h rho S2).bind fun hi S3 => match slD lo hi x with
      | some d => R.ok d S3
      | none => R.bad) R1 q fun y S2 w H2 th2 _ R2 x2 r2 q2 => tL.bind (k := fun hi rho S3 => match slD y hi x with
      | some d => R.ok d S3
      | none => R.bad) R2 q2 fun z S3 u H3 th3 _ R3 x3 r3 q3 => by
        subst r2 r3
        have r1 := (r1.ext x2).ext x3
        cases e : slD y z x with
        | none => rw [e] at q3; exact q3.elim
        | some d =>
          rw [e] at q3
          have fin : Fin g th3 rho S3 sg H3 (some d) Q := fun v H' R' x' r' => q3 v H' th3 R' x' r'
          unfold slD at e
          split at e
          · next ds ev =>
            cases vw_dat ev (fun _ z => by cases z)
            cases Option.some.inj e
            obtain ⟨p, xs, rfl, l, rl⟩ := rd_tup.mp r1
            refine .inl ⟨p, xs, rfl, by rw [← hK]; exact l.sq, fun hw => ?_, fun hw => fin.tupN R3 (rl.cut _ _)⟩
            rw [rl.len] at hw
            rw [cutD_whole hw] at fin
            exact fin.at R3 (rd_tup.mpr ⟨p, xs, rfl, l, rl⟩)
          · next ds ev =>
            split at e
            · next hs =>
              cases Option.some.inj e
              obtain ⟨p, xs, rfl, l, rl⟩ := rd_list r1 ev (not_scr hs)
              exact .inr (.inl ⟨p, xs, rfl, .of l, fun n nn => fin.lstN R3 (rl.cut _ _) nn⟩)
            · cases e
          · next s ev =>
            cases vw_dat ev (fun _ z => by cases z)
            split at e
            · next hl =>
              cases Option.some.inj e
              exact .inr (.inr ⟨s, rd_str.mp r1, hl, Fin.str fin R3⟩)
            · cases e
          · cases e
end

/-! ### sep.join(list) -/
/-- the items of a list or a tuple -/
def sqs (a : D) : Option (List PyData) := match vw a with
  | some (.list ds) => if isScr a = false then some ds else none
  | some (.tuple ds) => some ds
  | _ => none
theorem sqs_ok {K : PySem.W.Frag} {H : Hp} {A : Av} {th : List Addr} {d : D} {v : V} {ds : List PyData} (r : RD K H A th d v) (e : sqs d = some ds) : ∃ a xs, v = .ref a ∧ (SqL K H a xs ∨ SqT K H a xs) ∧ RpL K H A ds xs := by
  unfold sqs at e
  split at e
  · next es ev =>
    split at e
    · next hs =>
      cases Option.some.inj e
      obtain ⟨a, xs, e1, h, q⟩ := rd_list r ev (not_scr hs)
      exact ⟨a, xs, e1, .inl (.of h), q⟩
    · cases e
  · next es ev =>
    cases Option.some.inj e
    cases vw_dat ev (fun _ z => by cases z)
    obtain ⟨a, xs, e1, l, q⟩ := rd_tup.mp r
    exact ⟨a, xs, e1, .inr l.sq, q⟩
  · cases e
def joinS (x : Str) : O1 := fun b => ((sqs b).bind asStrs).bind fun ys => if (ys.map (·.length)).sum + ys.length * x.length ≤ 16777216 then some (.dat (.str (Str.join x ys))) else none
def eJoin (f h : EF) : EF := fun rho S => (f rho S).bind fun a S1 => match a with
  | .dat (.str x) => (h rho S1).bind fun b S2 => (match joinS x b with
    | some d => .ok d S2
    | none => .bad)
  | _ => .bad
section
variable {X : Cx} {W : WX} {o e : Expr} {f h : EF} {pos apos : Pos}
theorem l_join (ho : LE X W o f) (he : LE X W e h) (hs : starEach [e] X.env = [(false, eval e X.env)] := by rfl) (hbase : attributeBase o "join" X.env (eval o X.env) = eval o X.env := by rfl) (hline : (apos.endLine == pos.line) = true := by rfl) :
    LE X W (.Call (.Attribute o "join" apos) [e] [] pos) (eJoin f h) := fun g hK hm =>
  (pe_join (ho g hK hm) (he g hK hm) hs hbase hline).of fun sg H Q ⟨th, rho, S, R0, p⟩ =>
    tL.bind (k := fun a rho S1 => match a with
      | .dat (.str x) => (h rho S1).bind fun b S2 => (match joinS x b with
        | some d => R.ok d S2
        | none => R.bad)
      | _ => R.bad) R0 p fun x S1 v H1 th1 _ R1 _ r1 q => by
        cases x with
        | dat d => cases d with
          | str y =>
            have e1 := rd_str.mp r1
            subst e1
            refine ⟨⟨y, rfl⟩, tL.bind (k := fun b rho S2 => match joinS y b with
              | some d => R.ok d S2
              | none => R.bad) R1 q fun z S2 w H2 th2 _ R2 x2 r2 q2 => ?_⟩
            have q3 := q2.fin R2
            unfold joinS at q3
            cases e3 : sqs z with
            | none => rw [e3] at q3; exact q3.elim
            | some ds =>
              cases e4 : asStrs ds with
              | none => rw [e3] at q3; simp only [Option.bind_some, e4] at q3; exact q3.elim
              | some ys =>
                rw [e3] at q3
                simp only [Option.bind_some, e4] at q3
                split at q3
                · next hl =>
                  obtain ⟨p, xs, rfl, l, rl⟩ := sqs_ok r2 e3
                  exact ⟨y, p, ys, rfl, rfl, by rw [← strs_ok rl e4, ← hK]; exact l, hl, by rw [TL.join_eq]; exact Fin.str q3 R2⟩
                · exact q3.elim
          | _ => exact q.elim
        | _ => exact q.elim
end
end L3

/-! L3Call -/
namespace L3
open PySem PySem.Spec PyProof.Rows L2

/-! ### a def and its promise, where no guard is around -/
structure FnG (P : Program) (w : World) (K : PySem.W.Frag) (mg : Str → Option Value) (base : Heap) (k : Nat) (f : Addr) (fd : FuncData) (ps : List Str) (sp : Sp) : Prop where
  len : ∀ vs H Q E, sp vs H Q E → vs.length = ps.length
  run : ∀ (A : Around) (outer : List PySem.Env) (s : Shared) (H : Hp) (args : Args) (us : List Value) (vs : List V) (Q : VK) (E : XK), Room k A → A.guards = some [] → Env0 P w K mg base A outer s H → BindsTo s fd args (ps.zip us) → Vals vs us → sp vs H Q E →
    codeAny (model P w) A (.call (.ref f) args) (CR (L2.CX P w) outer P w H s Q E) s
theorem FnG.mono {P : Program} {w : World} {K : PySem.W.Frag} {mg : Str → Option Value} {base : Heap} {j k : Nat} {f : Addr} {fd : FuncData} {ps : List Str} {sp : Sp} (F : FnG P w K mg base j f fd ps sp) (h : j ≤ k) : FnG P w K mg base k f fd ps sp :=
  ⟨F.len, fun A outer s H args us vs Q E hr => F.run A outer s H args us vs Q E (hr.mono h)⟩
/-- what a function of values promises -/
def spL (K : PySem.W.Frag) (mg : Str → Option Value) (n : Nat) (F : FF) : Sp := fun vs H Q E => ∃ (B : Av) (th : List Addr) (S : Store) (ds : List D), vs.length = n ∧ RelF ⟨K, mg, B, H, th⟩ th S H ∧ RSL K H (Avf ⟨K, mg, B, H, th⟩ th) th ds vs ∧
  match F ds S with
  | .ok d S' => ∀ v H' th', RelF ⟨K, mg, B, H, th⟩ th' S' H' → RS K H' (Avf ⟨K, mg, B, H, th⟩ th') th' d v → Q v H'
  | .exc c a S' => ∀ cls dv H' th', RelF ⟨K, mg, B, H, th⟩ th' S' H' → mg c = some cls → ExD K H' (Avf ⟨K, mg, B, H, th⟩ th') th' a dv → E cls dv H'
  | .bad => False
/-- a def of the module by its name -/
structure Knows (P : Program) (w : World) (K : PySem.W.Frag) (mg : Str → Option Value) (base : Heap) (k : Nat) (x : Str) (n : Nat) (F : FF) : Prop where
  ex : ∃ (f : Addr) (fd : FuncData) (ps : List Str), mg x = some (.ref f) ∧ PySem.W.keepIn K (.ref f) = true ∧ Binds K fd ps [] ∧ ps.length = n ∧ FnG P w K mg base k f fd ps (spL K mg n F)
/-- an expression's heap, from the callee's -/
theorem RelF.ext {g : Gh} {th : List Addr} {S : Store} {H : Hp} {B : Av} {H0 : Hp} {th0 : List Addr} (R0 : RelF ⟨g.K, g.mg, B, H0, th0⟩ th S H) : Ext th0 H0 th H := ⟨R0.pre, R0.keep, R0.new⟩
def stables (ds : List D) : Bool := ds.all D.stable
theorem rsl_of {K : PySem.W.Frag} {H : Hp} {A : Av} {th : List Addr} : ∀ {ds : List D} {xs : List V}, RDL K H A th ds xs → stables ds = true → RSL K H A th ds xs
  | [], _, h, _ => h
  | d :: ds, _, ⟨x, r, e, p, t⟩, s => by
    simp only [stables, List.all_cons, Bool.and_eq_true] at s
    exact ⟨x, r, e, p.rs s.1, rsl_of t s.2⟩
theorem RDL.len {K : PySem.W.Frag} {H : Hp} {A : Av} {th : List Addr} : ∀ {ds : List D} {xs : List V}, RDL K H A th ds xs → xs.length = ds.length
  | [], _, h => by rw [show _ = _ from h]; rfl
  | d :: ds, _, ⟨x, r, e, _, t⟩ => by rw [e, List.length_cons, List.length_cons, RDL.len t]
def eCall (F : FF) (n : Nat) (r : AF) : EF := fun rho S => (r rho S).bind fun ds S1 => if ds.length = n ∧ stables ds = true then F ds S1 else .bad
/-- what a body leaves to its caller -/
theorem call_back {g : Gh} {th : List Addr} {rho : Sl} {S : Store} {sg : L2.St} {H : Hp} (R0 : Rel g th rho S sg H) {th' : List Addr} {S' : Store} {H' : Hp}
    (R1 : RelF ⟨g.K, g.mg, fun a => g.B a ∨ ∃ i, Ow rho sg i a, H, th⟩ th' S' H') : Rel g th' rho S' sg H' ∧ Ext th H th' H' := by
  have x : Ext th H th' H' := ⟨R1.pre, R1.keep, R1.new⟩
  refine ⟨R0.step x ?_ R1.nd R1.trT, x⟩
  have e : Avf ⟨g.K, g.mg, fun a => g.B a ∨ ∃ i, Ow rho sg i a, H, th⟩ th' = Avd g th' rho sg := by
    funext a
    show ((g.B a ∨ ∃ i, Ow rho sg i a) ∨ a ∈ th') = (g.B a ∨ a ∈ th' ∨ ∃ i, Ow rho sg i a)
    exact propext ⟨fun h => h.elim (fun h => h.elim .inl fun h => .inr (.inr h)) fun h => .inr (.inl h), fun h => h.elim (fun h => .inl (.inl h)) fun h => h.elim .inr fun h => .inl (.inr h)⟩
  rw [← e]
  exact R1.st
theorem avf_eq {g : Gh} {th th1 : List Addr} {rho : Sl} {sg : L2.St} {H : Hp} : Avf ⟨g.K, g.mg, fun a => g.B a ∨ ∃ i, Ow rho sg i a, H, th1⟩ th = Avd g th rho sg := by
  funext a
  show ((g.B a ∨ ∃ i, Ow rho sg i a) ∨ a ∈ th) = (g.B a ∨ a ∈ th ∨ ∃ i, Ow rho sg i a)
  exact propext ⟨fun h => h.elim (fun h => h.elim .inl fun h => .inr (.inr h)) fun h => .inr (.inl h), fun h => h.elim (fun h => .inl (.inl h)) fun h => h.elim .inr fun h => .inl (.inr h)⟩
theorem rel_in {g : Gh} {th : List Addr} {rho : Sl} {S : Store} {sg : L2.St} {H : Hp} (R0 : Rel g th rho S sg H) : RelF ⟨g.K, g.mg, fun a => g.B a ∨ ∃ i, Ow rho sg i a, H, th⟩ th S H where
  nd := R0.nd
  pre := List.prefix_refl _
  new := fun a m n => absurd m n
  keep := fun a o e _ => e
  bth := fun a m b => b.elim (R0.bth a m) fun ⟨i, o⟩ => (R0.own2 i a o).1 m
  trB := fun a b => by
    rcases b with b | ⟨i, b⟩
    · exact R0.trB a b
    · obtain ⟨ds, e1, e2⟩ := b
      obtain ⟨v, e3, r⟩ := R0.slot i _ e1
      rw [e2] at e3
      cases Option.some.inj (Option.some.inj e3)
      obtain ⟨b, xs, e4, e5, _⟩ := r
      cases e4
      rw [e5]
      rfl
  trT := R0.trT
  st := by
    rw [avf_eq]
    exact R0.st
section
variable {X : Cx} {W : WX} {e : Expr} {es : List Expr} {r : AF} {pos p : Pos} {x : Str} {k n : Nat} {F : FF}
/-- the callee runs, with what it leaves to its caller -/
theorem call_run {pins : List (Addr × Obj)} {s : Shared} {sg : L2.St} {H : Hp} {Q : VK} {us : List Value} {vs : List V} {g : Gh} {th : List Addr} {rho : Sl} {S : Store} {ds : List D} (hK : g.K = X.K) (hm : g.mg = X.mg) (hr : Room k X.A) (am : Amb X) (tk : Takes X W)
    {f : Addr} {fd : FuncData} {ps : List Str} {dvs : List V} {dfs : List Value} (hb : Binds X.K fd ps dfs) (hd : Vals dvs dfs) {es : List D} (rd : RSL g.K H (Avd g th rho sg) th (ds ++ es) (vs ++ dvs)) (hl : ps.length = n) (G : FnG X.prog X.w X.K X.mg X.base k f fd ps (spL X.K X.mg n F)) (I : Inv X pins sg H s) (r : Vals vs us) (R0 : Rel g th rho S sg H)
    (hn : (ds ++ es).length = n) (h : Post g W (relE g) th rho sg H (F (ds ++ es) S) Q) : wpAny (model X.prog X.w) X.A (call (.ref f) us) (EP X pins sg Q) X.xe s := by
  have R1 := rel_in R0
  have r2 : Vals (vs ++ dvs) (us ++ dfs) := r.append hd
  have hlen : (us ++ dfs).length = ps.length := by rw [← r2.length, rd.len, hn, hl]
  have hsp : spL X.K X.mg n F (vs ++ dvs) H Q (WE W sg) := by
    refine ⟨_, th, S, ds ++ es, by rw [rd.len, hn], by rw [← hK, ← hm]; exact R1, by rw [← hK, ← hm, avf_eq]; exact rd, ?_⟩
    rw [← hK, ← hm]
    cases eF : F (ds ++ es) S with
    | ok d S' =>
      rw [eF] at h
      intro v H' th' R2 rv
      obtain ⟨R3, x⟩ := call_back R0 R2
      rw [avf_eq] at rv
      exact h v H' th' R3 x rv.rd
    | exc c a S' =>
      rw [eF] at h
      intro cls dv H' th' R2 ec ed
      obtain ⟨R3, x⟩ := call_back R0 R2
      rw [avf_eq] at ed
      exact h cls dv H' th' R3 x ec ed
    | bad => rw [eF] at h; exact h
  refine wpAny_call (codeAny_mono (G.run X.A X.stack s H ⟨us, []⟩ (us ++ dfs) (vs ++ dvs) Q (WE W sg) hr am.gd I.env0 (hb s us I.kIn hlen) r2 hsp) fun r s' hq => ?_)
  cases r with
  | error e => exact passAt tk sg pins H s e s' I hq
  | ok fl =>
    cases fl with
    | ret u => exact I.after hq
    | next => exact hq.elim
    | brk => exact hq.elim
    | cont => exact hq.elim
theorem RDL.rs_ext {g : Gh} {th : List Addr} {rho : Sl} {sg : L2.St} {H : Hp} {ds : List D} {xs : List V} (h : RDL g.K H (Avd g th rho sg) th ds xs) (s : stables ds = true) : RSL g.K H (Avd g th rho sg) th (ds ++ []) (xs ++ []) := by
  rw [List.append_nil, List.append_nil]
  exact rsl_of h s
/-- f(e, ..) of a def of the module -/
theorem l_call (kn : Knows X.prog X.w X.K X.mg X.base k x n F) (hr : Room k X.A) (am : Amb X) (tk : Takes X W) (ha : LA' X W (e :: es) r) (hg : Gl X x) (hdb : (x == ("__debug__" : Str)) = false := by decide)
    (he : starEach (e :: es) X.env = (false, eval e X.env) :: starEach es X.env := by rfl) (hpl : (backTo pos (starEach es X.env)).any (·.1) = false := by rfl) : LE X W (.Call (.Name x p) (e :: es) [] pos) (eCall F n r) := fun g hK hm => ⟨fun pins s sg H Q I h => by
  obtain ⟨f, fd, ps, hmg, hk, hb, hl, G⟩ := kn.ex
  refine wpAny_Call_Name_kw (ld_glob I hg hmg ?_ hdb)
  refine PySem.W.callWith_K (h₀ := X.base) I.ok.mod.kin hk (thn ((ha g hK hm).run pos pins s sg H
    (fun vs H1 => ∃ th1 S1 rho ds, Rel g th1 rho S1 sg H1 ∧ RSL g.K H1 (Avd g th1 rho sg) th1 (ds ++ []) (vs ++ []) ∧ (ds ++ []).length = n ∧ Post g W (relE g) th1 rho sg H1 (F (ds ++ []) S1) Q) I ?_) fun us s1 ⟨vs, H1, I1, rv, q⟩ => ⟨I1.kIn, ?_⟩) he hpl
  · obtain ⟨th, rho, S, R0, p⟩ := h
    exact tL.bind (k := fun ds rho S1 => if ds.length = n ∧ stables ds = true then F ds S1 else .bad) R0 p fun ds S1 vs H1 th1 _ R1 _ r1 q => by
      split at q
      · next hc => exact ⟨th1, S1, rho, ds, R1, r1.rs_ext hc.2, by rw [List.append_nil]; exact hc.1, by rw [List.append_nil]; exact q⟩
      · exact q.elim
  · obtain ⟨th1, S1, rho, ds, R1, rd, hn, p⟩ := q
    exact call_run (dvs := []) (dfs := []) (es := []) hK hm hr am tk hb .nil rd hl G I1 rv R1 hn p⟩
/-- f() -/
theorem l_call0 (kn : Knows X.prog X.w X.K X.mg X.base k x 0 F) (hr : Room k X.A) (am : Amb X) (tk : Takes X W) (hg : Gl X x) (hdb : (x == ("__debug__" : Str)) = false := by decide) : LE X W (.Call (.Name x p) [] [] pos) (eCall F 0 aNil) := fun g hK hm => ⟨fun pins s sg H Q I h => by
  obtain ⟨f, fd, ps, hmg, hk, hb, hl, G⟩ := kn.ex
  refine wpAny_Call_Name_kw (ld_glob I hg hmg ?_ hdb)
  obtain ⟨th, rho, S, R0, p⟩ := h
  exact PySem.W.callWith_K0 I.kIn hk (call_run (us := []) (vs := []) (ds := []) (dvs := []) (dfs := []) (es := []) hK hm hr am tk hb .nil rfl hl G I .nil R0 rfl p)⟩
end
end L3

/-! L3Stmt -/
namespace L3
open PySem PySem.Spec PyProof.Rows L2

inductive SR where
  | nx (rho : Sl) (S : Store)
  | rt (d : D) (S : Store)
  | bk (rho : Sl) (S : Store)
  | ct (rho : Sl) (S : Store)
  | exc (c : Str) (arg : Option (Str × D)) (rho : Sl) (S : Store)
  | bad
abbrev SF := Sl → Store → SR
/-- an expression's result in a statement -/
def R.stm {α : Type} (rho : Sl) : R α → (α → Store → SR) → SR
  | .ok a S, k => k a S
  | .exc c x S, _ => .exc c x rho S
  | .bad, _ => .bad
/-- what a statement keeps -/
structure Pres (g : Gh) (th : List Addr) (rho : Sl) (sg : L2.St) (H : Hp) (th' : List Addr) (rho' : Sl) (sg' : L2.St) (H' : Hp) : Prop where
  pre : th <+: th'
  kp : Kp H (Avd g th rho sg) H' (Avd g th' rho' sg')
theorem Kp.trans {H H1 H2 : Hp} {A A1 A2 : Av} (a : Kp H A H1 A1) (b : Kp H1 A1 H2 A2) : Kp H A H2 A2 := fun x o e n => b x o (a x o e n).1 (a x o e n).2
theorem Pres.refl {g : Gh} {th : List Addr} {rho : Sl} {sg : L2.St} {H : Hp} : Pres g th rho sg H th rho sg H := ⟨List.prefix_refl _, fun _ _ e n => ⟨e, n⟩⟩
theorem Pres.trans {g : Gh} {th th1 th2 : List Addr} {rho rho1 rho2 : Sl} {sg sg1 sg2 : L2.St} {H H1 H2 : Hp} (a : Pres g th rho sg H th1 rho1 sg1 H1) (b : Pres g th1 rho1 sg1 H1 th2 rho2 sg2 H2) : Pres g th rho sg H th2 rho2 sg2 H2 := ⟨a.pre.trans b.pre, a.kp.trans b.kp⟩
theorem Ext.pres {g : Gh} {th th' : List Addr} {rho : Sl} {sg : L2.St} {H H' : Hp} (x : Ext th H th' H') : Pres g th rho sg H th' rho sg H' := ⟨x.pre, x.kp⟩
def PostS (g : Gh) (W : WX) (th : List Addr) (rho : Sl) (sg : L2.St) (H : Hp) (r : SR) (D : Ends) : Prop := match r with
  | .nx rho' S' => ∀ sg' H' th', Rel g th' rho' S' sg' H' → Pres g th rho sg H th' rho' sg' H' → D.nx sg' H'
  | .bk rho' S' => ∀ sg' H' th', Rel g th' rho' S' sg' H' → Pres g th rho sg H th' rho' sg' H' → D.bk sg' H'
  | .ct rho' S' => ∀ sg' H' th', Rel g th' rho' S' sg' H' → Pres g th rho sg H th' rho' sg' H' → D.ct sg' H'
  | .rt d S' => ∀ v H' th', RelF g th' S' H' → RS g.K H' (Avf g th') th' d v → D.rt v H'
  | .exc c a rho' S' => ∀ cls dv sg' H' th', Rel g th' rho' S' sg' H' → g.mg c = some cls → ExD g.K H' (Avd g th' rho' sg') th' a dv → W cls dv sg' H'
  | .bad => False
def tS (g : Gh) (W : WX) (f : SF) : TS := fun D sg H => ∃ th rho S, Rel g th rho S sg H ∧ PostS g W th rho sg H (f rho S) D
def LS (X : Cx) (W : WX) (st : Stmt) (f : SF) : Prop := ∀ g : Gh, g.K = X.K → g.mg = X.mg → PS X st (tS g W f)
def LSs (X : Cx) (W : WX) (sts : List Stmt) (f : SF) : Prop := ∀ g : Gh, g.K = X.K → g.mg = X.mg → PSs X sts (tS g W f)
theorem _root_.L2.PS.of {X : Cx} {e : Stmt} {t t' : TS} (h : PS X e t) (k : ∀ D sg H, t' D sg H → t D sg H) : PS X e t' := ⟨fun pins s sg H Q I q => h.run pins s sg H Q I (k Q sg H q)⟩
theorem _root_.L2.PSs.of {X : Cx} {e : List Stmt} {t t' : TS} (h : PSs X e t) (k : ∀ D sg H, t' D sg H → t D sg H) : PSs X e t' := ⟨fun pins s sg H Q I q => h.run pins s sg H Q I (k Q sg H q)⟩
theorem PostS.pre {g : Gh} {W : WX} {th th1 : List Addr} {rho rho1 : Sl} {sg sg1 : L2.St} {H H1 : Hp} {r : SR} {D : Ends} (x : Pres g th rho sg H th1 rho1 sg1 H1) (h : PostS g W th rho sg H r D) : PostS g W th1 rho1 sg1 H1 r D := by
  cases r with
  | nx rho' S' => exact fun sg' H' th' R y => h sg' H' th' R (x.trans y)
  | bk rho' S' => exact fun sg' H' th' R y => h sg' H' th' R (x.trans y)
  | ct rho' S' => exact fun sg' H' th' R y => h sg' H' th' R (x.trans y)
  | rt d S' => exact h
  | exc c a rho' S' => exact h
  | bad => exact h
/-- an expression, then what follows it in a statement -/
theorem tL.stm {α β : Type} {g : Gh} {W : WX} {rel : Hp → Av → List Addr → α → β → Prop} {f : Sl → Store → R α} {k : α → Store → SR} {th : List Addr} {rho : Sl} {S : Store} {sg : L2.St} {H : Hp} {Q : β → Hp → Prop} {D : Ends} (R0 : Rel g th rho S sg H)
    (h : PostS g W th rho sg H ((f rho S).stm rho k) D) (q : ∀ a S' v H' th', f rho S = .ok a S' → Rel g th' rho S' sg H' → Ext th H th' H' → rel H' (Avd g th' rho sg) th' a v → PostS g W th' rho sg H' (k a S') D → Q v H') : tL g W rel f sg H Q := by
  refine ⟨th, rho, S, R0, ?_⟩
  cases e : f rho S with
  | ok a S' =>
    rw [e] at h
    exact fun v H' th' R1 x r => q a S' v H' th' e R1 x r (PostS.pre x.pres h)
  | exc c a S' =>
    rw [e] at h
    exact fun cls dv H' th' R1 x ec ed => h cls dv sg H' th' R1 ec ed
  | bad =>
    rw [e] at h
    exact h

/-! ### slots -/
theorem getset {α : Type} {l : List (Option α)} {i j : Nat} {o : Option α} {d : α} (e : (l.set i o)[j]? = some (some d)) : (i = j ∧ o = some d ∧ i < l.length) ∨ (i ≠ j ∧ l[j]? = some (some d)) := by
  rw [List.getElem?_set] at e
  split at e
  · next h =>
    subst h
    split at e
    · next hl => exact .inl ⟨rfl, Option.some.inj e, hl⟩
    · cases e
  · next h => exact .inr ⟨h, e⟩
theorem RD.sub {K : PySem.W.Frag} {H : Hp} {A A' : Av} {th : List Addr} (s : ∀ a, A' a → A a) : ∀ {d : D} {v : V}, RD K H A th d v → RD K H A' th d v
  | .dat d, v, h => Rp.kp (fun a o e n => ⟨e, fun q => n (s a q)⟩) d v h
  | .ref n, v, h => h
  | .own ds, v, h => by
    obtain ⟨a, xs, e, q, r, n⟩ := h
    exact ⟨a, xs, e, q, RpL.kp (fun a o e n => ⟨e, fun q => n (s a q)⟩) ds xs r, n⟩
  | .scr _, _, h => by
    obtain ⟨a, e, q⟩ := h
    exact ⟨a, e, q.kp fun a o e n => ⟨e, fun q => n (s a q)⟩⟩
theorem SRel.sub {K : PySem.W.Frag} {mg : Str → Option Value} {H : Hp} {A A' : Av} {th : List Addr} {S : Store} (s : ∀ a, A' a → A a) (h : SRel K mg H A th S) : SRel K mg H A' th S :=
  SRel.kp (fun a o e n => ⟨e, fun q => n (s a q)⟩) h fun _ _ => rfl
section
variable {g : Gh} {th : List Addr} {rho : Sl} {S : Store} {sg : L2.St} {H : Hp}
/-- a slot that holds no longer what it held -/
theorem ow_set {i j : Nat} {a : Addr} {o : Option D} {v : Option V} (hn : ∀ ds, o ≠ some (.own ds)) (h : Ow (rho.set i o) (sg.set i v) j a) : Ow rho sg j a := by
  obtain ⟨ds, e1, e2⟩ := h
  rcases getset e1 with ⟨_, e, _⟩ | ⟨n, e⟩
  · exact (hn ds e).elim
  · rw [List.getElem?_set_ne n] at e2
    exact ⟨ds, e, e2⟩
theorem avd_set {i : Nat} {o : Option D} {v : Option V} (hn : ∀ ds, o ≠ some (.own ds)) (a : Addr) (h : Avd g th (rho.set i o) (sg.set i v) a) : Avd g th rho sg a :=
  h.elim .inl fun h => h.elim (fun h => .inr (.inl h)) fun ⟨j, h⟩ => .inr (.inr ⟨j, ow_set hn h⟩)
theorem Rel.set (R0 : Rel g th rho S sg H) {i : Nat} {d : D} {v : V} (hs : d.stable = true) (r : RD g.K H (Avd g th rho sg) th d v) : Rel g th (rho.set i (some d)) S (sg.set i (some v)) H := by
  have hn : ∀ ds, some d ≠ some (.own ds) := fun ds e => by cases Option.some.inj e; cases hs
  have sub := fun a => avd_set (g := g) (th := th) (rho := rho) (sg := sg) (i := i) (o := some d) (v := some v) hn a
  exact {
    toRelG := R0.toRelG
    st := R0.st.sub sub
    len := by rw [List.length_set, List.length_set]; exact R0.len
    slot := fun j c e => by
      rcases getset e with ⟨ij, e', hl⟩ | ⟨n, e⟩
      · subst ij
        cases e'
        exact ⟨v, by rw [List.getElem?_set_self (by rw [← R0.len]; exact hl)], r.sub sub⟩
      · obtain ⟨u, e2, r2⟩ := R0.slot j c e
        exact ⟨u, by rw [List.getElem?_set_ne n]; exact e2, r2.sub sub⟩
    own1 := fun j l a h1 h2 => R0.own1 j l a (ow_set hn h1) (ow_set hn h2)
    own2 := fun j a h => R0.own2 j a (ow_set hn h) }
theorem Rel.unset (R0 : Rel g th rho S sg H) {i : Nat} {v : Option V} : Rel g th (rho.set i none) S (sg.set i v) H := by
  have hn : ∀ ds, (none : Option D) ≠ some (.own ds) := fun ds e => by cases e
  have sub := fun a => avd_set (g := g) (th := th) (rho := rho) (sg := sg) (i := i) (o := none) (v := v) hn a
  exact {
    toRelG := R0.toRelG
    st := R0.st.sub sub
    len := by rw [List.length_set, List.length_set]; exact R0.len
    slot := fun j c e => by
      rcases getset e with ⟨_, e, _⟩ | ⟨n, e⟩
      · cases e
      · obtain ⟨u, e2, r2⟩ := R0.slot j c e
        exact ⟨u, by rw [List.getElem?_set_ne n]; exact e2, r2.sub sub⟩
    own1 := fun j l a h1 h2 => R0.own1 j l a (ow_set hn h1) (ow_set hn h2)
    own2 := fun j a h => R0.own2 j a (ow_set hn h) }
theorem pres_sub {rho' : Sl} {sg' : L2.St} (s : ∀ a, Avd g th rho' sg' a → Avd g th rho sg a) : Pres g th rho sg H th rho' sg' H := ⟨List.prefix_refl _, fun a o e n => ⟨e, fun q => n (s a q)⟩⟩
theorem Rel.pres_set (R0 : Rel g th rho S sg H) {i : Nat} {d : D} {v : V} (hs : d.stable = true) : Pres g th rho sg H th (rho.set i (some d)) (sg.set i (some v)) H :=
  pres_sub fun a => avd_set (fun ds e => by cases Option.some.inj e; cases hs) a
/-- one more thing that is not to be met in data -/
abbrev Gh.add (g : Gh) (p : Addr) : Gh := { g with B := fun a => g.B a ∨ a = p }
theorem RelG.h0_none (R0 : RelG g th H) {p : Addr} (n : H p = none) : g.H0 p = none := by
  cases e : g.H0 p with
  | none => rfl
  | some o =>
    by_cases q : p ∈ g.th0
    · have := R0.trT p (R0.pre.subset q)
      rw [n] at this
      cases this
    · rw [R0.keep p o e q] at n
      cases n
theorem Rel.addB (R0 : Rel g th rho S sg H) {p : Addr} {o : HO} (n : H p = none) : Rel (g.add p) th rho S sg (L2.upd H p o) := by
  have R1 := R0.fresh (o := o) n
  have na := R0.notAv n
  have kp : Kp H (Avd g th rho sg) (L2.upd H p o) (Avd (g.add p) th rho sg) := fun a u e q => ⟨by rw [upd_ne (ne_of_none e n)]; exact e, fun z => by
    rcases z with z | z | z
    · rcases z with z | z
      · exact q (.inl z)
      · exact ne_of_none e n z
    · exact q (.inr (.inl z))
    · exact q (.inr (.inr z))⟩
  have nt : ∀ a ∈ th, a ≠ p := fun a m e => na (.inr (.inl (e ▸ m)))
  exact {
    nd := R1.nd
    pre := R1.pre
    new := R1.new
    keep := R1.keep
    bth := fun a m b => b.elim (R1.bth a m) (nt a m)
    trB := fun a b => b.elim (R1.trB a) fun e => by rw [e, upd_same]; rfl
    trT := R1.trT
    st := SRel.kp kp R0.st fun a m => upd_ne (nt a m)
    len := R0.len
    slot := fun i d e => by
      obtain ⟨v, e1, r⟩ := R0.slot i d e
      refine ⟨v, e1, ?_⟩
      cases d with
      | dat d => exact Rp.kp kp d v r
      | ref m => exact r
      | own ds =>
        obtain ⟨a, xs, e2, q, rl, nn⟩ := r
        exact ⟨a, xs, e2, by rw [upd_ne (ne_of_none q n)]; exact q, RpL.kp kp ds xs rl, nn⟩
      | scr ns =>
        obtain ⟨a, e2, q⟩ := r
        exact ⟨a, e2, q.kp kp⟩
    own1 := R0.own1
    own2 := fun i a h => by
      obtain ⟨h1, h2, h3⟩ := R0.own2 i a h
      exact ⟨h1, fun b => b.elim h2 fun e => na (.inr (.inr ⟨i, e ▸ h⟩)), h3⟩ }
theorem Rel.dropB {p : Addr} (R0 : Rel (g.add p) th rho S sg H) : Rel g th rho S sg H := by
  have sub : ∀ a, Avd g th rho sg a → Avd (g.add p) th rho sg a := fun a h => h.elim (fun h => .inl (.inl h)) .inr
  exact {
    nd := R0.nd
    pre := R0.pre
    new := R0.new
    keep := R0.keep
    bth := fun a m b => R0.bth a m (.inl b)
    trB := fun a b => R0.trB a (.inl b)
    trT := R0.trT
    st := R0.st.sub sub
    len := R0.len
    slot := fun i d e => by
      obtain ⟨v, e1, r⟩ := R0.slot i d e
      exact ⟨v, e1, r.sub sub⟩
    own1 := R0.own1
    own2 := fun i a h => by
      obtain ⟨h1, h2, h3⟩ := R0.own2 i a h
      exact ⟨h1, fun b => h2 (.inl b), h3⟩ }
/-- a slot takes a list that is its own -/
theorem Rel.setOwn {p : Addr} {xs : List V} {ds : List PyData} {i : Nat} (R0 : Rel (g.add p) th rho S sg H) (hp : H p = some (.lst xs)) (rl : RpL g.K H (Avd (g.add p) th rho sg) ds xs) (nb : ¬ g.B p) (nt : p ∉ th) (h0 : g.H0 p = none) :
    Rel g th (rho.set i (some (.own ds))) S (sg.set i (some (.ref p))) H := by
  have ow : ∀ j a, Ow (rho.set i (some (.own ds))) (sg.set i (some (.ref p))) j a → (j = i ∧ a = p) ∨ (j ≠ i ∧ Ow rho sg j a) := fun j a ⟨es, e1, e2⟩ => by
    rcases getset e1 with ⟨ij, e, hl⟩ | ⟨n, e⟩
    · subst ij
      rw [List.getElem?_set_self (by rw [← R0.len]; exact hl)] at e2
      exact .inl ⟨rfl, by cases e2; rfl⟩
    · rw [List.getElem?_set_ne n] at e2
      exact .inr ⟨Ne.symm n, es, e, e2⟩
  have sub : ∀ a, Avd g th (rho.set i (some (.own ds))) (sg.set i (some (.ref p))) a → Avd (g.add p) th rho sg a := fun a h => by
    rcases h with h | h | ⟨j, h⟩
    · exact .inl (.inl h)
    · exact .inr (.inl h)
    · rcases ow j a h with ⟨_, e⟩ | ⟨_, h⟩
      · exact .inl (.inr e)
      · exact .inr (.inr ⟨j, h⟩)
  exact {
    nd := R0.nd
    pre := R0.pre
    new := R0.new
    keep := R0.keep
    bth := fun a m b => R0.bth a m (.inl b)
    trB := fun a b => R0.trB a (.inl b)
    trT := R0.trT
    st := R0.st.sub sub
    len := by rw [List.length_set, List.length_set]; exact R0.len
    slot := fun j c e => by
      rcases getset e with ⟨ij, e', hl⟩ | ⟨n, e⟩
      · subst ij
        cases e'
        exact ⟨.ref p, by rw [List.getElem?_set_self (by rw [← R0.len]; exact hl)], p, xs, rfl, hp, RpL.kp (fun a o e n => ⟨e, fun q => n (sub a q)⟩) ds xs rl, nt⟩
      · obtain ⟨u, e2, r2⟩ := R0.slot j c e
        exact ⟨u, by rw [List.getElem?_set_ne n]; exact e2, r2.sub sub⟩
    own1 := fun j l a h1 h2 => by
      rcases ow j a h1 with ⟨e1, e2⟩ | ⟨n1, q1⟩ <;> rcases ow l a h2 with ⟨e3, e4⟩ | ⟨n3, q3⟩
      · rw [e1, e3]
      · exact ((R0.own2 l a q3).2.1 (.inr e2)).elim
      · exact ((R0.own2 j a q1).2.1 (.inr e4)).elim
      · exact R0.own1 j l a q1 q3
    own2 := fun j a h => by
      rcases ow j a h with ⟨_, e⟩ | ⟨_, q⟩
      · subst e
        exact ⟨nt, nb, h0⟩
      · obtain ⟨h1, h2, h3⟩ := R0.own2 j a q
        exact ⟨h1, fun b => h2 (.inl b), h3⟩ }
/-- a local's own list is let go: data from now on -/
theorem Rel.freeze (R0 : Rel g th rho S sg H) {i : Nat} {ds : List PyData} (e : rho[i]? = some (some (.own ds))) : Rel g th (rho.set i (some (.dat (.list ds)))) S sg H ∧ ∀ a, Avd g th (rho.set i (some (.dat (.list ds)))) sg a → Avd g th rho sg a := by
  obtain ⟨v, ev, p, xs, rfl, hp, rl, nt⟩ := R0.slot i _ e
  have hi : i < rho.length := (List.getElem?_eq_some_iff.mp e).1
  have ow : ∀ j a, Ow (rho.set i (some (.dat (.list ds)))) sg j a → j ≠ i ∧ Ow rho sg j a := fun j a ⟨es, e1, e2⟩ => by
    rcases getset e1 with ⟨_, e, _⟩ | ⟨n, e⟩
    · cases e
    · exact ⟨Ne.symm n, es, e, e2⟩
  have sub : ∀ a, Avd g th (rho.set i (some (.dat (.list ds)))) sg a → Avd g th rho sg a := fun a h => h.elim .inl fun h => h.elim (fun h => .inr (.inl h)) fun ⟨j, h⟩ => .inr (.inr ⟨j, (ow j a h).2⟩)
  have owp : Ow rho sg i p := ⟨ds, e, ev⟩
  obtain ⟨_, nb, h0⟩ := R0.own2 i p owp
  have np : ¬ Avd g th (rho.set i (some (.dat (.list ds)))) sg p := fun h => by
    rcases h with h | h | ⟨j, h⟩
    · exact nb h
    · exact nt h
    · obtain ⟨n, q⟩ := ow j p h
      exact n (R0.own1 j i p q owp)
  refine ⟨{
    toRelG := R0.toRelG
    st := R0.st.sub sub
    len := by rw [List.length_set]; exact R0.len
    slot := fun j c e' => by
      rcases getset e' with ⟨ij, e2, _⟩ | ⟨n, e2⟩
      · subst ij
        cases e2
        exact ⟨.ref p, ev, rd_lst.mpr ⟨p, xs, rfl, ⟨np, hp⟩, RpL.kp (fun a o e n => ⟨e, fun q => n (sub a q)⟩) ds xs rl⟩⟩
      · obtain ⟨u, e3, r2⟩ := R0.slot j c e2
        exact ⟨u, e3, r2.sub sub⟩
    own1 := fun j l a h1 h2 => R0.own1 j l a (ow j a h1).2 (ow l a h2).2
    own2 := fun j a h => R0.own2 j a (ow j a h).2 }, sub⟩
end

/-! ### targets -/
inductive Tg where
  | nm (i : Nat)
  | tup (ts : List Tg)
mutual
def gT (K : PySem.W.Frag) : Tg → TG
  | .nm i => gName i
  | .tup ts => gTup K ts.length (gTs K ts)
def gTs (K : PySem.W.Frag) : List Tg → TGs
  | [] => gNil
  | t :: ts => gCons (gT K t) (gTs K ts)
end
mutual
/-- how a value goes to a target -/
def put : Tg → D → Sl → Option Sl
  | .nm i, d, rho => if d.stable = true then some (rho.set i (some d)) else none
  | .tup ts, d, rho => match d with
    | .dat (.tuple ds) => if ds.length = ts.length then puts ts ds rho else none
    | _ => none
def puts : List Tg → List PyData → Sl → Option Sl
  | [], [], rho => some rho
  | t :: ts, d :: ds, rho => (put t (.dat d) rho).bind fun rho1 => puts ts ds rho1
  | _, _, _ => none
end
mutual
def Tg.ixs : Tg → List Nat
  | .nm i => [i]
  | .tup ts => ixss ts
def ixss : List Tg → List Nat
  | [] => []
  | t :: ts => t.ixs ++ ixss ts
end
def wipeG {α : Type} (rho : List (Option α)) : List Nat → List (Option α)
  | [] => rho
  | v :: vs => (wipeG rho vs).set v none
theorem wipe_eq (σ : L2.St) : ∀ vs : List Nat, wipe σ vs = wipeG σ vs
  | [] => rfl
  | v :: vs => by
    show (wipe σ vs).set v none = (wipeG σ vs).set v none
    rw [wipe_eq σ vs]
theorem wipeG_len {α : Type} (τ : List (Option α)) : ∀ l : List Nat, (wipeG τ l).length = τ.length
  | [] => rfl
  | x :: l => by
    show ((wipeG τ l).set x none).length = τ.length
    rw [List.length_set, wipeG_len τ l]
theorem wipeG_get {α : Type} (τ : List (Option α)) : ∀ (l : List Nat) (j : Nat), (wipeG τ l)[j]? = if j ∈ l ∧ j < τ.length then some none else τ[j]?
  | [], j => by simp [wipeG]
  | x :: l, j => by
    show ((wipeG τ l).set x none)[j]? = _
    by_cases hx : x = j
    · subst hx
      rw [List.getElem?_set, if_pos rfl, wipeG_len]
      by_cases hl : x < τ.length
      · rw [if_pos hl, if_pos ⟨List.mem_cons_self .., hl⟩]
      · rw [if_neg hl, if_neg (fun q => hl q.2), List.getElem?_eq_none (by omega)]
    · rw [List.getElem?_set_ne hx, wipeG_get τ l j]
      by_cases hj : j ∈ l
      · simp [hj]
      · rw [if_neg (fun q => hj q.1), if_neg (fun q => (List.mem_cons.mp q.1).elim (fun z => hx z.symm) hj)]
theorem wipeG_ext {α : Type} {τ τ' : List (Option α)} {l : List Nat} (hl : τ'.length = τ.length) (h : ∀ j, j ∉ l → τ'[j]? = τ[j]?) : wipeG τ' l = wipeG τ l := by
  apply List.ext_getElem?
  intro j
  rw [wipeG_get, wipeG_get, hl]
  by_cases m : j ∈ l
  · by_cases q : j < τ.length
    · rw [if_pos ⟨m, q⟩, if_pos ⟨m, q⟩]
    · rw [if_neg (fun z => q z.2), if_neg (fun z => q z.2), List.getElem?_eq_none (by omega), List.getElem?_eq_none (by omega)]
  · rw [if_neg (fun z => m z.1), if_neg (fun z => m z.1), h j m]
theorem wipeG_set {α : Type} {σ : List (Option α)} {v : Option α} {vs : List Nat} {i : Nat} (m : i ∈ vs) : wipeG (σ.set i v) vs = wipeG σ vs :=
  wipeG_ext (by rw [List.length_set]) fun j n => by rw [List.getElem?_set_ne (fun z : i = j => n (by rw [← z]; exact m))]
theorem wipeG_two {α : Type} (σ : List (Option α)) (vs : List Nat) : wipeG (wipeG σ vs) vs = wipeG σ vs :=
  wipeG_ext (wipeG_len σ vs) fun j n => by rw [wipeG_get, if_neg (fun z => n z.1)]
theorem wipe_set {σ : L2.St} {v : Option V} {vs : List Nat} {i : Nat} (m : i ∈ vs) : wipe (σ.set i v) vs = wipe σ vs := by
  rw [wipe_eq, wipe_eq, wipeG_set m]
theorem wipe_two (σ : L2.St) (vs : List Nat) : wipe (wipe σ vs) vs = wipe σ vs := by
  rw [wipe_eq, wipe_eq, wipeG_two]
mutual
theorem put_wipe {vs : List Nat} : ∀ (t : Tg) (d : D) (rho rho' : Sl), put t d rho = some rho' → (∀ i ∈ t.ixs, i ∈ vs) → wipeG rho' vs = wipeG rho vs ∧ rho'.length = rho.length
  | .nm i, d, rho, rho', e, h => by
    simp only [put] at e
    split at e
    · cases Option.some.inj e
      exact ⟨wipeG_set (h i (by simp [Tg.ixs])), by rw [List.length_set]⟩
    · cases e
  | .tup ts, d, rho, rho', e, h => by
    have hd : ∃ ds, d = .dat (.tuple ds) := by
      cases d with
      | dat d => cases d with
        | tuple ds => exact ⟨ds, rfl⟩
        | _ => simp [put] at e
      | _ => simp [put] at e
    obtain ⟨ds, rfl⟩ := hd
    simp only [put] at e
    split at e
    · exact puts_wipe ts ds rho rho' e (by simpa only [Tg.ixs] using h)
    · cases e
theorem puts_wipe {vs : List Nat} : ∀ (ts : List Tg) (ds : List PyData) (rho rho' : Sl), puts ts ds rho = some rho' → (∀ i ∈ ixss ts, i ∈ vs) → wipeG rho' vs = wipeG rho vs ∧ rho'.length = rho.length
  | [], [], rho, rho', e, h => by
    simp only [puts] at e
    cases Option.some.inj e
    exact ⟨rfl, rfl⟩
  | t :: ts, d :: ds, rho, rho', e, h => by
    simp only [puts] at e
    cases e1 : put t (.dat d) rho with
    | none => rw [e1] at e; cases e
    | some rho1 =>
      rw [e1] at e
      have a := put_wipe t (.dat d) rho rho1 e1 fun i m => h i (by simp only [ixss, List.mem_append]; exact .inl m)
      have b := puts_wipe ts ds rho1 rho' e fun i m => h i (by simp only [ixss, List.mem_append]; exact .inr m)
      exact ⟨b.1.trans a.1, b.2.trans a.2⟩
  | [], _ :: _, _, _, e, _ => by simp [puts] at e
  | _ :: _, [], _, _, e, _ => by simp [puts] at e
end
section
variable {g : Gh} {th : List Addr} {S : Store} {H : Hp}
mutual
theorem put_ok : ∀ (t : Tg) (d : D) (v : V) (rho rho' : Sl) (sg : L2.St), Rel g th rho S sg H → RD g.K H (Avd g th rho sg) th d v → put t d rho = some rho' →
    ∃ sg', (∀ Q : L2.St → Hp → Prop, Q sg' H → gT g.K t v sg H Q) ∧ Rel g th rho' S sg' H ∧ (∀ a, Avd g th rho' sg' a → Avd g th rho sg a) ∧ ∀ vs, (∀ i ∈ t.ixs, i ∈ vs) → wipe sg' vs = wipe sg vs
  | .nm i, d, v, rho, rho', sg, R0, r, e => by
    simp only [put] at e
    split at e
    · next hs =>
      cases Option.some.inj e
      refine ⟨sg.set i (some v), fun Q q => ?_, R0.set hs r, fun a => avd_set (fun ds e => by cases Option.some.inj e; cases hs) a, fun vs h => wipe_set (h i (by simp [Tg.ixs]))⟩
      simp only [gT, gName]
      exact q
    · cases e
  | .tup ts, d, v, rho, rho', sg, R0, r, e => by
    have hd : ∃ ds, d = .dat (.tuple ds) := by
      cases d with
      | dat d => cases d with
        | tuple ds => exact ⟨ds, rfl⟩
        | _ => simp [put] at e
      | _ => simp [put] at e
    obtain ⟨ds, rfl⟩ := hd
    simp only [put] at e
    split at e
    · next hl =>
      obtain ⟨a, xs, rfl, l, rl⟩ := rd_tup.mp r
      obtain ⟨sg', h1, h2, h3, h4⟩ := puts_ok ts ds xs rho rho' sg R0 rl e
      refine ⟨sg', fun Q q => ?_, h2, h3, fun vs h => h4 vs (by simpa only [Tg.ixs] using h)⟩
      simp only [gT, gTup]
      exact ⟨a, xs, rfl, l.sq, by rw [rl.len]; exact hl, h1 Q q⟩
    · cases e
theorem puts_ok : ∀ (ts : List Tg) (ds : List PyData) (xs : List V) (rho rho' : Sl) (sg : L2.St), Rel g th rho S sg H → RpL g.K H (Avd g th rho sg) ds xs → puts ts ds rho = some rho' →
    ∃ sg', (∀ Q : L2.St → Hp → Prop, Q sg' H → gTs g.K ts xs sg H Q) ∧ Rel g th rho' S sg' H ∧ (∀ a, Avd g th rho' sg' a → Avd g th rho sg a) ∧ ∀ vs, (∀ i ∈ ixss ts, i ∈ vs) → wipe sg' vs = wipe sg vs
  | [], [], xs, rho, rho', sg, R0, r, e => by
    simp only [puts] at e
    cases Option.some.inj e
    simp only [RpL] at r
    refine ⟨sg, fun Q q => ?_, R0, fun a h => h, fun vs _ => rfl⟩
    simp only [gTs, gNil]
    exact ⟨r, q⟩
  | t :: ts, d :: ds, xs, rho, rho', sg, R0, r, e => by
    simp only [puts] at e
    cases e1 : put t (.dat d) rho with
    | none => rw [e1] at e; cases e
    | some rho1 =>
      rw [e1] at e
      simp only [RpL] at r
      obtain ⟨x, xr, rfl, p, rl⟩ := r
      obtain ⟨sg1, h1, h2, h3, h4⟩ := put_ok t (.dat d) x rho rho1 sg R0 p e1
      obtain ⟨sg2, k1, k2, k3, k4⟩ := puts_ok ts ds xr rho1 rho' sg1 h2 (RpL.kp (fun a o e n => ⟨e, fun q => n (h3 a q)⟩) ds xr rl) e
      refine ⟨sg2, fun Q q => ?_, k2, fun a h => h3 a (k3 a h), fun vs h => ?_⟩
      · simp only [gTs, gCons]
        exact ⟨x, xr, rfl, h1 _ (k1 Q q)⟩
      · rw [k4 vs fun i m => h i (by simp only [ixss, List.mem_append]; exact .inr m), h4 vs fun i m => h i (by simp only [ixss, List.mem_append]; exact .inl m)]
  | [], _ :: _, _, _, _, _, _, _, e => by simp [puts] at e
  | _ :: _, [], _, _, _, _, _, _, e => by simp [puts] at e
end
end
end L3

/-! L3Flow -/
namespace L3
open PySem PySem.Spec PyProof.Rows L2

section
variable {g : Gh} {W : WX} {th : List Addr} {rho : Sl} {S : Store} {sg : L2.St} {H : Hp} {D0 : Ends}
theorem Rel.relF (R0 : Rel g th rho S sg H) : RelF g th S H := ⟨R0.toRelG, R0.st.sub fun a h => Avd.sub a h⟩
end

/-! ### small statements -/
def sPass : SF := fun rho S => .nx rho S
def sBreak : SF := fun rho S => .bk rho S
def sCont : SF := fun rho S => .ct rho S
def sSeq (f h : SF) : SF := fun rho S => match f rho S with
  | .nx rho1 S1 => h rho1 S1
  | r => r
def sExpr (f : EF) : SF := fun rho S => (f rho S).stm rho fun _ S1 => .nx rho S1
def sRet (f : EF) : SF := fun rho S => (f rho S).stm rho fun d S1 => if d.stable = true then .rt d S1 else .bad
def sIf (t : TF) (f h : SF) : SF := fun rho S => (t rho S).stm rho fun b S1 => match b with
  | true => f rho S1
  | false => h rho S1
def sAsg (t : Tg) (f : EF) : SF := fun rho S => (f rho S).stm rho fun d S1 => match put t d rho with
  | some rho' => .nx rho' S1
  | none => .bad
section
variable {X : Cx} {W : WX} {st : Stmt} {rest : List Stmt} {f h : SF} {e : Expr} {fe : EF} {pos : Pos}
theorem ls_nil : LSs X W [] sPass := fun g hK hm => pss_nil.of fun D sg H ⟨th, rho, S, R0, p⟩ => p sg H th R0 .refl
theorem ls_pass : LS X W (.Pass pos) sPass := fun g hK hm => ps_pass.of fun D sg H ⟨th, rho, S, R0, p⟩ => p sg H th R0 .refl
theorem ls_break : LS X W (.Break pos) sBreak := fun g hK hm => ps_break.of fun D sg H ⟨th, rho, S, R0, p⟩ => p sg H th R0 .refl
theorem ls_cont : LS X W (.Continue pos) sCont := fun g hK hm => ps_continue.of fun D sg H ⟨th, rho, S, R0, p⟩ => p sg H th R0 .refl
theorem ls_doc {x j pos'} : LS X W (.Expr (.Constant (.str x) j pos) pos') sPass := fun g hK hm => ps_doc.of fun D sg H ⟨th, rho, S, R0, p⟩ => p sg H th R0 .refl
def sNever : SF := fun _ _ => .bad
theorem ls_never : LS X W st sNever := fun g hK hm => ps_never.of fun D sg H ⟨th, rho, S, R0, p⟩ => p
theorem ls_one (h1 : LS X W st f) : LSs X W [st] f := fun g hK hm => pss_one (h1 g hK hm)
theorem ls_cons (h1 : LS X W st f) (h2 : LSs X W rest h) : LSs X W (st :: rest) (sSeq f h) := fun g hK hm => (pss_cons (h1 g hK hm) (h2 g hK hm)).of fun D sg H ⟨th, rho, S, R0, p⟩ => by
  refine ⟨th, rho, S, R0, ?_⟩
  unfold sSeq at p
  cases e : f rho S with
  | nx rho1 S1 =>
    rw [e] at p
    exact fun sg' H' th' R1 x => ⟨th', rho1, S1, R1, PostS.pre x p⟩
  | rt d S' => rw [e] at p; exact p
  | bk rho1 S1 => rw [e] at p; exact p
  | ct rho1 S1 => rw [e] at p; exact p
  | exc c a rho1 S1 => rw [e] at p; exact p
  | bad => rw [e] at p; exact p
theorem ls_expr (he : LE X W e fe) (hs : swapsWith e none pos.line X.env = pure false := by rfl) : LS X W (.Expr e pos) (sExpr fe) := fun g hK hm => (ps_expr (he g hK hm) hs).of fun D sg H ⟨th, rho, S, R0, p⟩ =>
  tL.stm (k := fun _ S1 => .nx rho S1) R0 p fun a S1 v H1 th1 _ R1 _ _ q => q sg H1 th1 R1 .refl
theorem ls_ret (he : LE X W e fe) : LS X W (.Return (some e) pos) (sRet fe) := fun g hK hm => (ps_ret (he g hK hm)).of fun D sg H ⟨th, rho, S, R0, p⟩ =>
  tL.stm (k := fun (d : L3.D) S1 => if d.stable = true then SR.rt d S1 else SR.bad) R0 p fun d S1 v H1 th1 _ R1 _ r q => by
    split at q
    · next hs => exact q v H1 th1 R1.relF (RD.sub (fun a h => Avd.sub a h) r |>.rs hs)
    · exact q.elim
theorem ls_retN : LS X W (.Return none pos) (sRet (eD .none)) := fun g hK hm => ps_retN.of fun D sg H ⟨th, rho, S, R0, p⟩ => p .non H th R0.relF (by simp only [RS, Rp])
theorem ls_if {c : Expr} {a b : List Stmt} {t : TF} (hc : LT X W c t) (ha : LSs X W a f) (hb : LSs X W b h) : LS X W (.If c a b pos) (sIf t f h) := fun g hK hm => (ps_if (hc g hK hm) (ha g hK hm) (hb g hK hm)).of fun D sg H ⟨th, rho, S, R0, p⟩ =>
  tL.stm (k := fun (b : Bool) S1 => match b with
    | true => f rho S1
    | false => h rho S1) R0 p fun b S1 v H1 th1 _ R1 _ r q => by
      subst r
      cases b with
      | true => exact iteT ⟨th1, rho, S1, R1, q⟩
      | false => exact iteF ⟨th1, rho, S1, R1, q⟩
theorem pg_nm {i : Nat} {x : Str} (hN : X.N.Nodup) (hi : X.N[i]? = some x) (hx : Loc X.env.scope x) (hf : X.fn x = true ∨ X.env.scope.names.lookup x = some .local := by first | exact .inl rfl | exact .inr rfl | assumption) : PG X (.Name x pos) (gT X.K (.nm i)) := by
  have e : gT X.K (.nm i) = gName i := by simp only [gT]
  rw [e]
  exact pg_name hN hi hx hf
theorem pg_tp {es : List Expr} {k : Nat} {ts : List Tg} (hc : X.calm = true) (h : PGs X es (gTs X.K ts)) (hn : (assignEach es X.env).length = ts.length := by rfl) (hst : (assignEach es X.env).findIdx? (·.1) = none := by rfl) : PG X (.Tuple es k pos) (gT X.K (.tup ts)) := by
  have e : gT X.K (.tup ts) = gTup X.K ts.length (gTs X.K ts) := by simp only [gT]
  rw [e]
  exact pg_tup hc h hn hst
theorem pgs_n : PGs X [] (gTs X.K []) := by
  have e : gTs X.K [] = gNil := by simp only [gTs]
  rw [e]
  exact pgs_nil
theorem pgs_c {e : Expr} {es : List Expr} {t : Tg} {ts : List Tg} (h1 : PG X e (gT X.K t)) (h2 : PGs X es (gTs X.K ts)) (hs : (assignEach (e :: es) X.env).map (·.2) = assign e X.env :: (assignEach es X.env).map (·.2) := by rfl) : PGs X (e :: es) (gTs X.K (t :: ts)) := by
  have e' : gTs X.K (t :: ts) = gCons (gT X.K t) (gTs X.K ts) := by simp only [gTs]
  rw [e']
  exact pgs_cons h1 h2 hs
theorem ls_asg {tg : Expr} {t : Tg} (he : LE X W e fe) (hg : PG X tg (gT X.K t)) (hs : swapsWithSole [tg] e pos.line X.env = pure false := by rfl) (hw : swappedStores [tg] e X.env = pure none := by rfl)
    (h1 : (assignEach [tg] X.env).map (·.2) = [assign tg X.env] := by rfl) : LS X W (.Assign [tg] e pos) (sAsg t fe) := fun g hK hm => (ps_asg (he g hK hm) hg hs hw h1).of fun D sg H ⟨th, rho, S, R0, p⟩ =>
  tL.stm (k := fun d S1 => match put t d rho with
    | some rho' => .nx rho' S1
    | none => .bad) R0 p fun d S1 v H1 th1 _ R1 _ r q => by
      cases e : put t d rho with
      | none => rw [e] at q; exact q.elim
      | some rho' =>
        rw [e] at q
        obtain ⟨sg', h1, h2, h3, _⟩ := put_ok t d v rho rho' sg R1 r e
        rw [← hK]
        exact h1 _ (q sg' H1 th1 h2 (pres_sub h3))
/-- x, y = a, b (two local names) -/
def sPar (is : List Nat) (r : AF) : SF := fun rho S => (r rho S).stm rho fun ds S1 => if ds.length = is.length ∧ stables ds = true then .nx ((is.zip ds).foldl (fun r p => r.set p.1 (some p.2)) rho) S1 else .bad
theorem ls_par {i j : Nat} {x y : Str} {a b : Expr} {r : AF} {px py pt : Pos} {kt k2 pt2} (hc : X.calm = true) (hN : X.N.Nodup) (hi : X.N[i]? = some x) (hj : X.N[j]? = some y) (hij : i ≠ j)
    (hx : X.env.scope.names.lookup x = some .local) (hy : X.env.scope.names.lookup y = some .local) (ha : LA' X W [a, b] r)
    (hw : swappedStores [.Tuple [.Name x px, .Name y py] kt pt] (.Tuple [a, b] k2 pt2) X.env = pure (some [x, y]))
    (hs : swapsWithSole [.Tuple [.Name x px, .Name y py] kt pt] (.Tuple [a, b] k2 pt2) pos.line X.env = pure false := by rfl) :
    LS X W (.Assign [.Tuple [.Name x px, .Name y py] kt pt] (.Tuple [a, b] k2 pt2) pos) (sPar [i, j] r) := fun g hK hm => (ps_par hc hN hi hj hij hx hy (ha g hK hm) hw hs).of fun D sg H ⟨th, rho, S, R0, p⟩ =>
  tL.stm (k := fun (ds : List L3.D) S1 => if ds.length = 2 ∧ stables ds = true then SR.nx (([i, j].zip ds).foldl (fun (r : Sl) (p : Nat × L3.D) => r.set p.1 (some p.2)) rho) S1 else SR.bad) R0 p fun ds S1 vs H1 th1 _ R1 _ r q => by
    split at q
    · next hc =>
      match ds, hc with
      | [d1, d2], hc =>
        obtain ⟨v1, t1, rfl, r1, v2, t2, rfl, r2, e0⟩ := r
        have e0' : t2 = [] := e0
        subst e0'
        have h1 : d1.stable = true := by have := hc.2; simp only [stables, List.all_cons, Bool.and_eq_true] at this; exact this.1
        have h2 : d2.stable = true := by have := hc.2; simp only [stables, List.all_cons, Bool.and_eq_true] at this; exact this.2.1
        have R2 := R1.set (i := i) h1 r1
        have p2 := R1.pres_set (i := i) (v := some v1 |>.get rfl) h1
        have r2' := RD.sub (A' := Avd g th1 (rho.set i (some d1)) (sg.set i (some v1))) (fun a => avd_set (fun ds e => by cases Option.some.inj e; cases h1) a) r2
        exact ⟨v1, v2, rfl, q _ H1 th1 (R2.set (i := j) h2 r2') ((R1.pres_set h1).trans (R2.pres_set h2))⟩
    · exact q.elim
theorem ls_par3 {i j l : Nat} {x y z : Str} {a b c : Expr} {r : AF} {px py pz pt : Pos} {kt k2 pt2} (hc : X.calm = true) (hN : X.N.Nodup) (hi : X.N[i]? = some x) (hj : X.N[j]? = some y) (hl : X.N[l]? = some z) (hij : i ≠ j) (hil : i ≠ l) (hjl : j ≠ l)
    (hx : X.env.scope.names.lookup x = some .local) (hy : X.env.scope.names.lookup y = some .local) (hz : X.env.scope.names.lookup z = some .local) (ha : LA' X W [a, b, c] r)
    (hw : swappedStores [.Tuple [.Name x px, .Name y py, .Name z pz] kt pt] (.Tuple [a, b, c] k2 pt2) X.env = pure (some [x, y, z]))
    (hs : swapsWithSole [.Tuple [.Name x px, .Name y py, .Name z pz] kt pt] (.Tuple [a, b, c] k2 pt2) pos.line X.env = pure false := by rfl) :
    LS X W (.Assign [.Tuple [.Name x px, .Name y py, .Name z pz] kt pt] (.Tuple [a, b, c] k2 pt2) pos) (sPar [i, j, l] r) := fun g hK hm => (ps_par3 hc hN hi hj hl hij hil hjl hx hy hz (ha g hK hm) hw hs).of fun D sg H ⟨th, rho, S, R0, p⟩ =>
  tL.stm (k := fun (ds : List L3.D) S1 => if ds.length = 3 ∧ stables ds = true then SR.nx (([i, j, l].zip ds).foldl (fun (r : Sl) (p : Nat × L3.D) => r.set p.1 (some p.2)) rho) S1 else SR.bad) R0 p fun ds S1 vs H1 th1 _ R1 _ r q => by
    split at q
    · next hc =>
      match ds, hc with
      | [d1, d2, d3], hc =>
        obtain ⟨v1, t1, rfl, r1, v2, t2, rfl, r2, v3, t3, rfl, r3, e0⟩ := r
        have e0' : t3 = [] := e0
        subst e0'
        have hs := hc.2
        simp only [stables, List.all_cons, Bool.and_eq_true] at hs
        obtain ⟨h1, h2, h3, _⟩ := hs
        have R2 := R1.set (i := i) h1 r1
        have s1 : ∀ a, Avd g th1 (rho.set i (some d1)) (sg.set i (some v1)) a → Avd g th1 rho sg a := fun a => avd_set (fun ds e => by cases Option.some.inj e; cases h1) a
        have R3 := R2.set (i := j) h2 (RD.sub s1 r2)
        have s2 : ∀ a, Avd g th1 ((rho.set i (some d1)).set j (some d2)) ((sg.set i (some v1)).set j (some v2)) a → Avd g th1 (rho.set i (some d1)) (sg.set i (some v1)) a := fun a => avd_set (fun ds e => by cases Option.some.inj e; cases h2) a
        exact ⟨v1, v2, v3, rfl, q _ H1 th1 (R3.set (i := l) h3 (RD.sub s2 (RD.sub s1 r3))) (((R1.pres_set h1).trans (R2.pres_set h2)).trans (R3.pres_set h3))⟩
    · exact q.elim
/-- a local's own list is let go ahead of what follows -/
def sFrz (i : Nat) (f : SF) : SF := fun rho S => match rho[i]? with
  | some (some (.own ds)) => f (rho.set i (some (.dat (.list ds)))) S
  | _ => f rho S
theorem ls_frz {sts : List Stmt} (i : Nat) (h1 : LSs X W sts f) : LSs X W sts (sFrz i f) := fun g hK hm => (h1 g hK hm).of fun D sg H ⟨th, rho, S, R0, p⟩ => by
  unfold sFrz at p
  split at p
  · next ds e =>
    obtain ⟨R1, sub⟩ := R0.freeze e
    exact ⟨th, _, S, R1, PostS.pre (pres_sub sub) p⟩
  · exact ⟨th, rho, S, R0, p⟩
end

/-! ### new lists -/
abbrev NF := Sl → Store → R (List PyData)
def PostN (g : Gh) (W : WX) (th : List Addr) (rho : Sl) (sg : L2.St) (H : Hp) (r : R (List PyData)) (Q : VK) : Prop := match r with
  | .ok ds S' => ∀ p xs H' th', Rel (g.add p) th' rho S' sg H' → Ext th H th' H' → H' p = some (.lst xs) → RpL g.K H' (Avd (g.add p) th' rho sg) ds xs → ¬ g.B p → p ∉ th' → g.H0 p = none → H p = none → Q (.ref p) H'
  | .exc c a S' => ∀ cls dv H' th', Rel g th' rho S' sg H' → Ext th H th' H' → g.mg c = some cls → ExD g.K H' (Avd g th' rho sg) th' a dv → W cls dv sg H'
  | .bad => False
def tN (g : Gh) (W : WX) (f : NF) : TE := fun sg H Q => ∃ th rho S, Rel g th rho S sg H ∧ PostN g W th rho sg H (f rho S) Q
def LN (X : Cx) (W : WX) (e : Expr) (f : NF) : Prop := ∀ g : Gh, g.K = X.K → g.mg = X.mg → PE X e (tN g W f)
def eOfN (f : NF) : EF := fun rho S => (f rho S).bind fun ds S1 => .ok (.dat (.list ds)) S1
def sNew (i : Nat) (f : NF) : SF := fun rho S => (f rho S).stm rho fun ds S1 => .nx (rho.set i (some (.own ds))) S1
section
variable {g : Gh} {W : WX} {th th' : List Addr} {rho : Sl} {S S' : Store} {sg : L2.St} {H H' : Hp}
/-- the list that was new is not to be met elsewhere -/
theorem Rel.new_notAv {p : Addr} (R0 : Rel (g.add p) th rho S sg H) (nb : ¬ g.B p) (nt : p ∉ th) : ¬ Avd g th rho sg p := fun h => h.elim nb fun h => h.elim nt fun ⟨i, h⟩ => (R0.own2 i p h).2.1 (.inr rfl)
theorem new_rd {p : Addr} {xs : List V} {ds : List PyData} (R0 : Rel (g.add p) th rho S sg H) (hp : H p = some (.lst xs)) (rl : RpL g.K H (Avd (g.add p) th rho sg) ds xs) (nb : ¬ g.B p) (nt : p ∉ th) : RD g.K H (Avd g th rho sg) th (.dat (.list ds)) (.ref p) :=
  rd_lst.mpr ⟨p, xs, rfl, ⟨R0.new_notAv nb nt, hp⟩, RpL.kp (fun a o e n => ⟨e, fun q => n (q.elim (fun h => .inl (.inl h)) .inr)⟩) ds xs rl⟩
end
section
variable {X : Cx} {W : WX} {e : Expr} {f : NF} {pos : Pos}
theorem l_new (he : LN X W e f) : LE X W e (eOfN f) := fun g hK hm => (he g hK hm).of fun sg H Q ⟨th, rho, S, R0, p⟩ => by
  refine ⟨th, rho, S, R0, ?_⟩
  unfold eOfN at p
  cases e : f rho S with
  | ok ds S' =>
    rw [e] at p
    exact fun q xs H' th' R1 x hp rl nb nt h0 _ => p (.ref q) H' th' R1.dropB x (new_rd R1 hp rl nb nt)
  | exc c a S' => rw [e] at p; exact p
  | bad => rw [e] at p; exact p
/-- from the new list's place: the slot, and what is kept -/
theorem set_new {g : Gh} {th th' : List Addr} {rho : Sl} {S S' : Store} {sg : L2.St} {H H' : Hp} {D : Ends} {i : Nat} {ds : List PyData} {xs : List V} {q : Addr} (R0 : Rel g th rho S sg H) (p : PostS g W th rho sg H (.nx (rho.set i (some (.own ds))) S') D)
    (R1 : Rel (g.add q) th' rho S' sg H') (x : Ext th H th' H') (hp : H' q = some (.lst xs)) (rl : RpL g.K H' (Avd (g.add q) th' rho sg) ds xs) (nb : ¬ g.B q) (nt : q ∉ th') (h0 : g.H0 q = none) (hq : H q = none) : D.nx (sg.set i (some (.ref q))) H' := by
  refine p _ H' th' (R1.setOwn hp rl nb nt h0) ⟨x.pre, fun a o e n => ?_⟩
  obtain ⟨e', n'⟩ := (x.kp (g := g) (rho := rho) (sg := sg) x.new) a o e n
  refine ⟨e', fun z => ?_⟩
  rcases z with z | z | ⟨j, es, z1, z2⟩
  · exact n' (.inl z)
  · exact n' (.inr (.inl z))
  · rcases getset z1 with ⟨ij, z, hl⟩ | ⟨nn, z⟩
    · subst ij
      rw [List.getElem?_set_self (by rw [← R1.len]; exact hl)] at z2
      cases z2
      rw [hq] at e
      cases e
    · rw [List.getElem?_set_ne nn] at z2
      exact n' (.inr (.inr ⟨j, es, z, z2⟩))
theorem asg_new {g : Gh} {i : Nat} {D : Ends} {sg : L2.St} {H : Hp} (q : tS g W (sNew i f) D sg H) : tN g W f sg H fun v H' => D.nx (sg.set i (some v)) H' := by
  obtain ⟨th, rho, S, R0, p⟩ := q
  refine ⟨th, rho, S, R0, ?_⟩
  unfold sNew at p
  cases e : f rho S with
  | ok ds S' =>
    rw [e] at p
    exact fun q xs H' th' R1 x hp rl nb nt h0 hq => set_new R0 p R1 x hp rl nb nt h0 hq
  | exc c a S' => rw [e] at p; exact fun cls dv H' th' R1 x ec ed => p cls dv sg H' th' R1 ec ed
  | bad => rw [e] at p; exact p
theorem ls_new {i : Nat} {x : Str} {pos' : Pos} (hN : X.N.Nodup) (hi : X.N[i]? = some x) (hx : Loc X.env.scope x) (he : LN X W e f) (hs : swapsWith e (some (.Name x pos')) pos.line X.env = pure false := by rfl) (hf : X.fn x = true ∨ X.env.scope.names.lookup x = some .local := by first | exact .inl rfl | exact .inr rfl | assumption) :
    LS X W (.Assign [.Name x pos'] e pos) (sNew i f) := fun g hK hm => (ps_set hN hi hx (he g hK hm) hs hf).of fun D sg H q => asg_new q
/-- [a, b, ..] -/
def nLst (r : AF) : NF := fun rho S => (r rho S).bind fun as S1 => match dats as with
  | some ds => if ds.length ≤ sizeLine then .ok ds S1 else .bad
  | none => .bad
theorem Rel.ntB {g : Gh} {th : List Addr} {rho : Sl} {S : Store} {sg : L2.St} {H : Hp} (R0 : Rel g th rho S sg H) {p : Addr} (n : H p = none) : ¬ g.B p ∧ p ∉ th := ⟨fun h => R0.notAv n (.inl h), fun h => R0.notAv n (.inr (.inl h))⟩
theorem n_lst {es : List Expr} {r : AF} (h : LA' X W es r) : LN X W (.List es pos) (nLst r) := fun g hK hm =>
  (pe_lst (h g hK hm)).of fun sg H Q ⟨th, rho, S, R0, p⟩ => by
    refine ⟨th, rho, S, R0, ?_⟩
    unfold nLst at p
    cases e : r rho S with
    | exc c a S' => rw [e] at p; exact p
    | bad => rw [e] at p; exact p
    | ok as S1 =>
      rw [e] at p
      have p' : PostN g W th rho sg H (match dats as with
        | some ds => if ds.length ≤ sizeLine then .ok ds S1 else .bad
        | none => .bad) Q := p
      cases e2 : dats as with
      | none => rw [e2] at p'; exact p'.elim
      | some ds =>
        rw [e2] at p'
        have p2 : PostN g W th rho sg H (if ds.length ≤ sizeLine then .ok ds S1 else .bad) Q := p'
        split at p2
        · next hl =>
          intro vs H1 th1 R1 x1 r1
          have rl := dats_ok r1 e2
          refine ⟨by rw [rl.len]; exact hl, fun q nq => ?_⟩
          have nH : H q = none := by
            cases e : H q with
            | none => rfl
            | some o =>
              by_cases m : q ∈ th
              · have := R1.trT q (x1.pre.subset m)
                rw [nq] at this
                cases this
              · rw [x1.keep q o e m] at nq
                cases nq
          obtain ⟨nb, nt⟩ := R1.ntB nq
          refine p2 q vs _ th1 (R1.addB nq) (x1.trans (.upd nq)) upd_same (RpL.kp (fun a o e n => ⟨by rw [upd_ne (ne_of_none e nq)]; exact e, fun z => ?_⟩) ds vs rl) nb nt (R1.h0_none nq) nH
          rcases z with z | z
          · exact z.elim (fun z => n (.inl z)) (ne_of_none e nq)
          · exact n (.inr z)
        · exact p2.elim
end
end L3

/-! L3Loop -/
namespace L3
open PySem PySem.Spec PyProof.Rows L2

/-! ### what changes: x.append(e), x[i] = e -/
section
variable {g : Gh} {W : WX} {th : List Addr} {rho : Sl} {S : Store} {sg : L2.St} {H : Hp}
theorem Rel.ownAt (R0 : Rel g th rho S sg H) {i : Nat} {ds : List PyData} {v : V} (e : rho[i]? = some (some (.own ds))) (ev : sg[i]? = some (some v)) : ∃ a xs, v = .ref a ∧ H a = some (.lst xs) ∧ RpL g.K H (Avd g th rho sg) ds xs ∧ a ∉ th ∧ Ow rho sg i a := by
  obtain ⟨u, eu, a, xs, rfl, q, rl, nt⟩ := R0.slot i _ e
  rw [ev] at eu
  cases Option.some.inj (Option.some.inj eu)
  exact ⟨a, xs, rfl, q, rl, nt, ds, e, ev⟩
/-- a local's own list gets other items -/
theorem Rel.putOwn (R0 : Rel g th rho S sg H) {i : Nat} {ds ds' : List PyData} {a : Addr} {xs' : List V} (e : rho[i]? = some (some (.own ds))) (ev : sg[i]? = some (some (.ref a))) (rl : RpL g.K H (Avd g th rho sg) ds' xs') :
    Rel g th (rho.set i (some (.own ds'))) S sg (L2.upd H a (.lst xs')) ∧ Pres g th rho sg H th (rho.set i (some (.own ds'))) sg (L2.upd H a (.lst xs')) := by
  obtain ⟨b, xs, eb, hb, _, nt, ow⟩ := R0.ownAt e ev
  cases eb
  have hi : i < rho.length := (List.getElem?_eq_some_iff.mp e).1
  obtain ⟨_, nb, h0⟩ := R0.own2 i a ow
  have owi : ∀ j b, Ow (rho.set i (some (.own ds'))) sg j b ↔ Ow rho sg j b := fun j b => by
    constructor
    · rintro ⟨es, e1, e2⟩
      rcases getset e1 with ⟨ij, z, _⟩ | ⟨n, z⟩
      · subst ij
        exact ⟨ds, e, e2⟩
      · exact ⟨es, z, e2⟩
    · rintro ⟨es, e1, e2⟩
      by_cases ij : i = j
      · subst ij
        exact ⟨ds', by rw [List.getElem?_set_self hi], e2⟩
      · exact ⟨es, by rw [List.getElem?_set_ne ij]; exact e1, e2⟩
  have eA : Avd g th (rho.set i (some (.own ds'))) sg = Avd g th rho sg := by
    funext b
    have : (∃ j, Ow (rho.set i (some (.own ds'))) sg j b) = ∃ j, Ow rho sg j b := propext ⟨fun ⟨j, h⟩ => ⟨j, (owi j b).mp h⟩, fun ⟨j, h⟩ => ⟨j, (owi j b).mpr h⟩⟩
    show (g.B b ∨ b ∈ th ∨ _) = (g.B b ∨ b ∈ th ∨ _)
    rw [this]
  have av : Avd g th rho sg a := .inr (.inr ⟨i, ow⟩)
  have kp : Kp H (Avd g th rho sg) (L2.upd H a (.lst xs')) (Avd g th rho sg) := fun b o eb n => ⟨by rw [upd_ne (fun z : b = a => n (z ▸ av))]; exact eb, n⟩
  have ne_th : ∀ b ∈ th, b ≠ a := fun b m z => nt (z ▸ m)
  refine ⟨{
    nd := R0.nd
    pre := R0.pre
    new := R0.new
    keep := fun b o eb n => by
      rw [upd_ne (fun z : b = a => by rw [z, h0] at eb; cases eb)]
      exact R0.keep b o eb n
    bth := R0.bth
    trB := fun b hb => by rw [upd_ne (fun z : b = a => nb (z ▸ hb))]; exact R0.trB b hb
    trT := fun b m => by rw [upd_ne (ne_th b m)]; exact R0.trT b m
    st := by rw [eA]; exact SRel.kp kp R0.st fun b m => upd_ne (ne_th b m)
    len := by rw [List.length_set]; exact R0.len
    slot := fun j c ec => by
      rw [eA]
      rcases getset ec with ⟨ij, z, _⟩ | ⟨n, z⟩
      · subst ij
        cases z
        exact ⟨.ref a, ev, a, xs', rfl, upd_same, RpL.kp kp _ _ rl, nt⟩
      · obtain ⟨u, eu, r⟩ := R0.slot j c z
        refine ⟨u, eu, ?_⟩
        cases c with
        | dat d => exact Rp.kp kp d u r
        | ref m => exact r
        | scr ns =>
          obtain ⟨b, eb, q⟩ := r
          exact ⟨b, eb, q.kp kp⟩
        | own es =>
          obtain ⟨b, ys, rfl, q, rl2, n2⟩ := r
          exact ⟨b, ys, rfl, by rw [upd_ne (fun z2 : b = a => n (R0.own1 i j a ow (by subst z2; exact ⟨es, z, eu⟩)))]; exact q, RpL.kp kp es ys rl2, n2⟩
    own1 := fun j l b h1 h2 => R0.own1 j l b ((owi j b).mp h1) ((owi l b).mp h2)
    own2 := fun j b h => R0.own2 j b ((owi j b).mp h) }, List.prefix_refl _, by rw [eA]; exact kp⟩
theorem nodup_at {α : Type} : ∀ {l : List α} {i j : Nat} {a : α}, l.Nodup → l[i]? = some a → l[j]? = some a → i = j := fun nd h1 h2 => nd_ix nd h1 h2
/-- a place of the store takes another object -/
theorem Rel.putSt (R0 : Rel g th rho S sg H) {n : Nat} {a : Addr} {o : MO} {u : HO} (en : th[n]? = some a) (m : MR g.K g.mg (L2.upd H a u) (Avd g th rho sg) th o a) :
    Rel g th rho (S.set n o) sg (L2.upd H a u) ∧ Pres g th rho sg H th rho sg (L2.upd H a u) := by
  have mem : a ∈ th := List.mem_of_getElem? en
  have av : Avd g th rho sg a := .inr (.inl mem)
  have kp : Kp H (Avd g th rho sg) (L2.upd H a u) (Avd g th rho sg) := fun b o eb n => ⟨by rw [upd_ne (fun z : b = a => n (z ▸ av))]; exact eb, n⟩
  refine ⟨{
    nd := R0.nd
    pre := R0.pre
    new := R0.new
    keep := fun b o eb n => by
      rw [upd_ne (fun z => ?_)]
      · exact R0.keep b o eb n
      · subst z
        have := R0.new b mem n
        rw [eb] at this
        cases this
    bth := R0.bth
    trB := fun b hb => by rw [upd_ne (fun z : b = a => R0.bth a mem (z ▸ hb))]; exact R0.trB b hb
    trT := fun b mb => by
      by_cases z : b = a
      · subst z
        rw [upd_same]
        rfl
      · rw [upd_ne z]
        exact R0.trT b mb
    st := ⟨by rw [List.length_set]; exact R0.st.len, fun j o' b ej eb => by
      rw [List.getElem?_set] at ej
      split at ej
      · next h =>
        subst h
        split at ej
        · cases Option.some.inj ej
          rw [en] at eb
          cases eb
          exact m
        · cases ej
      · next h =>
        have nab : b ≠ a := fun z => by
          subst z
          exact h (nd_ix R0.nd en eb)
        exact (R0.st.at_ j o' b ej eb).kp kp (List.prefix_refl _) (upd_ne nab)⟩
    len := R0.len
    slot := fun j c ec => by
      obtain ⟨v, ev, r⟩ := R0.slot j c ec
      refine ⟨v, ev, ?_⟩
      cases c with
      | dat d => exact Rp.kp kp d v r
      | ref m => exact r
      | scr ns =>
        obtain ⟨b, eb, q⟩ := r
        exact ⟨b, eb, q.kp kp⟩
      | own es =>
        obtain ⟨b, ys, rfl, q, rl2, n2⟩ := r
        exact ⟨b, ys, rfl, by rw [upd_ne (fun z : b = a => n2 (by subst z; exact mem))]; exact q, RpL.kp kp es ys rl2, n2⟩
    own1 := R0.own1
    own2 := R0.own2 }, List.prefix_refl _, kp⟩
end
/-- x.append(e) -/
def sApp (i : Nat) (f : EF) : SF := fun rho S => match rho[i]? with
  | some (some (.own ds)) => (f rho S).stm rho fun d S1 => (match d with
    | .dat p => if ds.length < sizeLine then .nx (rho.set i (some (.own (ds ++ [p])))) S1 else .bad
    | _ => .bad)
  | some (some (.ref n)) => (match S[n]? with
    | some (.lst _) => (f rho S).stm rho fun d S1 => (match S1[n]? with
      | some (.lst ds) => if d.stable = true ∧ ds.length < sizeLine then .nx rho (S1.set n (.lst (ds ++ [d]))) else .bad
      | _ => .bad)
    | _ => .bad)
  | _ => .bad
theorem RS.upd_st {g : Gh} {th : List Addr} {rho : Sl} {sg : L2.St} {H : Hp} {a : Addr} {u : HO} {d : D} {v : V} (mem : a ∈ th) (r : RS g.K H (Avd g th rho sg) th d v) : RS g.K (L2.upd H a u) (Avd g th rho sg) th d v :=
  r.kp (fun b o eb n => ⟨by rw [upd_ne (fun z : b = a => n (by subst z; exact .inr (.inl mem)))]; exact eb, n⟩) (List.prefix_refl _)
theorem RSL.upd_st {g : Gh} {th : List Addr} {rho : Sl} {sg : L2.St} {H : Hp} {a : Addr} {u : HO} {d : List D} {v : List V} (mem : a ∈ th) (r : RSL g.K H (Avd g th rho sg) th d v) : RSL g.K (L2.upd H a u) (Avd g th rho sg) th d v :=
  r.kp (fun b o eb n => ⟨by rw [upd_ne (fun z : b = a => n (by subst z; exact .inr (.inl mem)))]; exact eb, n⟩) (List.prefix_refl _)
section
variable {X : Cx} {W : WX} {e : Expr} {f : EF} {pos apos cpos npos : Pos} {x : Str}
theorem ls_app {i : Nat} (ho : PE X (.Name x npos) (tVar i)) (he : LE X W e f) (hbase : attributeBase (.Name x npos) "append" X.env (eval (.Name x npos) X.env) = eval (.Name x npos) X.env := by rfl)
    (hfew : ((backTo cpos (starEach [e] X.env)).all (fun x => !x.1) && (backToKw cpos (keywordEach [] X.env)).all (fun x => x.1.isSome)
      && decide (([e] : List Expr).length + ([] : List Keyword).length + (if ([] : List Keyword).isEmpty then 0 else 1) < 30)) = true := by rfl)
    (hline : (apos.endLine == cpos.line) = true := by rfl) (hs : starEach [e] X.env = (false, eval e X.env) :: starEach [] X.env := by rfl) (hsw : swapsWith (.Call (.Attribute (.Name x npos) "append" apos) [e] [] cpos) none pos.line X.env = pure false := by rfl) :
    LS X W (.Expr (.Call (.Attribute (.Name x npos) "append" apos) [e] [] cpos) pos) (sApp i f) := fun g hK hm =>
  (ps_expr (pe_bm PySem.F.plainAttrs_list PySem.F.slot_list_append PySem.F.type_list_append mt_append ho (pa_cons (he g hK hm) pa_nil hs) hbase hfew hline hs rfl) hsw).of fun D sg H ⟨th, rho, S, R0, p⟩ => by
    unfold sApp at p
    split at p
    · next ds er =>
      obtain ⟨v, ev, a, xs, rfl, hx, rl, nt⟩ := R0.slot i _ er
      refine ⟨.ref a, ev, .inl ⟨rfl, xs, .of hx⟩, ?_⟩
      refine tL.stm (k := fun d S1 => (match d with
        | .dat p => if ds.length < sizeLine then SR.nx (rho.set i (some (.own (ds ++ [p])))) S1 else SR.bad
        | _ => SR.bad)) R0 p fun d S1 w H1 th1 _ R1 x1 r1 q => ?_
      cases d with
      | dat d =>
        have q' : PostS g W th1 rho sg H1 (if ds.length < sizeLine then SR.nx (rho.set i (some (.own (ds ++ [d])))) S1 else SR.bad) D := q
        split at q'
        · next hl =>
          obtain ⟨b, ys, eb, hb, rl2, nt2, _⟩ := R1.ownAt er ev
          cases eb
          obtain ⟨R2, pr⟩ := R1.putOwn er ev (rl2.append (.one r1))
          exact ⟨a, ys, w, rfl, rfl, hb, by rw [rl2.len]; exact hl, q' sg _ th1 R2 pr⟩
        · exact q'.elim
      | _ => exact q.elim
    · next n er =>
      obtain ⟨v, ev, a, rfl, en⟩ := R0.slot i _ er
      split at p
      · next ds0 es =>
        obtain ⟨xs, hx, _⟩ := R0.st.at_ n _ a es en
        refine ⟨.ref a, ev, .inl ⟨rfl, xs, .of hx⟩, ?_⟩
        refine tL.stm (k := fun d S1 => (match S1[n]? with
          | some (.lst ds) => if d.stable = true ∧ ds.length < sizeLine then SR.nx rho (S1.set n (.lst (ds ++ [d]))) else SR.bad
          | _ => SR.bad)) R0 p fun d S1 w H1 th1 _ R1 x1 r1 q => ?_
        have en1 : th1[n]? = some a := getp x1.pre en
        cases e1 : S1[n]? with
        | none => rw [e1] at q; exact q.elim
        | some o => cases o with
          | lst ds =>
            rw [e1] at q
            have q' : PostS g W th1 rho sg H1 (if d.stable = true ∧ ds.length < sizeLine then SR.nx rho (S1.set n (.lst (ds ++ [d]))) else SR.bad) D := q
            split at q'
            · next hl =>
              obtain ⟨ys, hy, rl⟩ := R1.st.at_ n _ a e1 en1
              have mem : a ∈ th1 := List.mem_of_getElem? en1
              obtain ⟨R2, pr⟩ := R1.putSt (o := .lst (ds ++ [d])) (u := .lst (ys ++ [w])) en1 ⟨_, upd_same, RSL.app (RS.upd_st mem (r1.rs hl.1)) (RSL.upd_st mem rl)⟩
              exact ⟨a, ys, w, rfl, rfl, hy, by rw [rl.len]; exact hl.2, q' sg _ th1 R2 pr⟩
            · exact q'.elim
          | _ => rw [e1] at q; exact q.elim
      · exact p.elim
    · exact p.elim
/-- o[i] = e, o a list of the store -/
def sSet (fo fi fe : EF) : SF := fun rho S => (fe rho S).stm rho fun d S1 => (fo rho S1).stm rho fun o S2 => (fi rho S2).stm rho fun k S3 => match o, k with
  | .ref n, .dat (.int j) => (match S3[n]? with
    | some (.lst ds) => (match ixN ds.length j with
      | some m => if d.stable = true then .nx rho (S3.set n (.lst (ds.set m d))) else .bad
      | none => .bad)
    | _ => .bad)
  | _, _ => .bad
def setK (rho : Sl) (d o k : D) (S3 : Store) : SR := match o, k with
  | .ref n, .dat (.int j) => (match S3[n]? with
    | some (.lst ds) => (match ixN ds.length j with
      | some m => if d.stable = true then .nx rho (S3.set n (.lst (ds.set m d))) else .bad
      | none => .bad)
    | _ => .bad)
  | _, _ => .bad
theorem ls_set {o i : Expr} {fo fi fe : EF} {tpos : Pos} (he : LE X W e fe) (ho : LE X W o fo) (hi : LE X W i fi)
    (ha : ∀ v, assign (.Subscript o i tpos) X.env v = (do
      let ov ← holding [v] (eval o X.env)
      let iv ← holding [v, ov] (eval i X.env)
      standAt tpos
      holding [v, ov, iv] (setItem ov iv v)
      release [v, ov, iv] []) := by intro _; rfl)
    (hs : swapsWithSole [.Subscript o i tpos] e pos.line X.env = pure false := by rfl) (hw : swappedStores [.Subscript o i tpos] e X.env = pure none := by rfl)
    (h1 : (assignEach [.Subscript o i tpos] X.env).map (·.2) = [assign (.Subscript o i tpos) X.env] := by rfl) : LS X W (.Assign [.Subscript o i tpos] e pos) (sSet fo fi fe) := fun g hK hm =>
  (ps_asg (he g hK hm) (pg_sub (ho g hK hm) (hi g hK hm) set_list ha) hs hw h1).of fun D sg H ⟨th, rho, S, R0, p⟩ => by
    refine tL.stm (k := fun d S1 => (fo rho S1).stm rho fun o S2 => (fi rho S2).stm rho fun k S3 => setK rho d o k S3) R0 p fun d S1 v H1 th1 _ R1 x1 r1 q => ?_
    refine tL.stm (k := fun o S2 => (fi rho S2).stm rho fun k S3 => setK rho d o k S3) R1 q fun o S2 w H2 th2 _ R2 x2 r2 q2 => ?_
    refine tL.stm (k := fun k S3 => setK rho d o k S3) R2 q2 fun k S3 u H3 th3 _ R3 x3 r3 q3 => ?_
    have r1 := (r1.ext x2).ext x3
    have r2 := r2.ext x3
    unfold setK at q3
    split at q3
    · next n j =>
      obtain ⟨a, rfl, en⟩ := r2
      have ej := rd_int.mp r3
      subst ej
      split at q3
      · next ds es =>
        split at q3
        · next m em =>
          split at q3
          · next hs =>
            obtain ⟨ys, hy, rl⟩ := R3.st.at_ _ _ a es en
            have mem : a ∈ th3 := List.mem_of_getElem? en
            obtain ⟨R4, pr⟩ := R3.putSt (o := .lst (ds.set m d)) (u := .lst (ys.set m v)) en ⟨_, upd_same, RSL.set (RS.upd_st mem (r1.rs hs)) m (RSL.upd_st mem rl)⟩
            exact ⟨a, ys, _, m, rfl, rfl, hy, by rw [rl.len]; exact em, q3 sg _ th3 R4 pr⟩
          · exact q3.elim
        · exact q3.elim
      · exact q3.elim
    · exact q3.elim
end

/-! ### what is walked -/
/-- what a turn's value stands for: data; where tuples are made for each turn and taken apart (wk), a tuple of data -/
def RpY (wk : Bool) (K : PySem.W.Frag) (H : Hp) (A : Av) (d : PyData) (v : V) : Prop := Rp K H A d v ∨ (wk = true ∧ ∃ ds a xs, d = .tuple ds ∧ v = .ref a ∧ H a = some (.tup xs) ∧ RpL K H A ds xs)
def isTupE : Expr → Bool
  | .Tuple _ _ _ => true
  | _ => false
def TgOk (tg : Expr) (t : Tg) : Prop := isTupE tg = true → ∃ ts, t = .tup ts
theorem tgok_nm {x : Str} {p : Pos} {t : Tg} : TgOk (.Name x p) t := fun h => by cases h
theorem tgok_tp {tg : Expr} {ts : List Tg} : TgOk tg (.tup ts) := fun _ => ⟨ts, rfl⟩
theorem put_okY {g : Gh} {th : List Addr} {S : Store} {H : Hp} {wk : Bool} (t : Tg) (d : PyData) (v : V) (rho rho' : Sl) (sg : L2.St) (R0 : Rel g th rho S sg H) (r : RpY wk g.K H (Avd g th rho sg) d v) (hw : wk = true → ∃ ts, t = .tup ts) (e : put t (.dat d) rho = some rho') :
    ∃ sg', (∀ Q : L2.St → Hp → Prop, Q sg' H → gT g.K t v sg H Q) ∧ Rel g th rho' S sg' H ∧ (∀ a, Avd g th rho' sg' a → Avd g th rho sg a) ∧ ∀ vs, (∀ i ∈ t.ixs, i ∈ vs) → L2.wipe sg' vs = L2.wipe sg vs := by
  rcases r with r | ⟨hk, ds, a, xs, rfl, rfl, hr, rl⟩
  · exact put_ok t (.dat d) v rho rho' sg R0 r e
  · obtain ⟨ts, rfl⟩ := hw hk
    simp only [put] at e
    split at e
    · next hl =>
      obtain ⟨sg', h1, h2, h3, h4⟩ := puts_ok ts ds xs rho rho' sg R0 rl e
      refine ⟨sg', fun Q q => ?_, h2, h3, fun vs h => h4 vs (by simpa only [Tg.ixs] using h)⟩
      simp only [gT, gTup]
      exact ⟨a, xs, rfl, .inl (.inl hr), by rw [rl.len]; exact hl, h1 Q q⟩
    · cases e
/-- the iterator J gives values that stand for ds, as long as G holds -/
structure ItL (wk : Bool) (K : PySem.W.Frag) (J : It) (ds : List PyData) (G : Hp → Av → Prop) : Prop where
  stay : ∀ H A H' A', G H A → Kp H A H' A' → G H' A'
  go : ∀ i d H A, G H A → ds[i]? = some d → J.go i H
  yld : ∀ i d H A x H', G H A → ds[i]? = some d → J.yld i H x H' → (H' = H ∧ RpY wk K H A d x) ∨ ∃ p u, H p = none ∧ H' = L2.upd H p u ∧ (¬ A p → RpY wk K H' A d x)
  stop : ∀ i H A, G H A → ds.length ≤ i → J.stop i H
def PostI (wk : Bool) (g : Gh) (W : WX) (th : List Addr) (rho : Sl) (sg : L2.St) (H : Hp) (r : R (List PyData)) (Q : It → Hp → Prop) : Prop := match r with
  | .ok ds S' => ∀ J H' th' G, Rel g th' rho S' sg H' → Ext th H th' H' → ItL wk g.K J ds G → G H' (Avd g th' rho sg) → Q J H'
  | .exc c a S' => ∀ cls dv H' th', Rel g th' rho S' sg H' → Ext th H th' H' → g.mg c = some cls → ExD g.K H' (Avd g th' rho sg) th' a dv → W cls dv sg H'
  | .bad => False
def tI (wk : Bool) (g : Gh) (W : WX) (f : NF) : TI := fun sg H Q => ∃ th rho S, Rel g th rho S sg H ∧ PostI wk g W th rho sg H (f rho S) Q
def LI (X : Cx) (W : WX) (tg iter : Expr) (f : NF) : Prop := ∀ g : Gh, g.K = X.K → g.mg = X.mg → PI X tg iter (tI (isTupE tg) g W f)
theorem _root_.L2.PI.of {X : Cx} {tg e : Expr} {t t' : TI} (h : PI X tg e t) (k : ∀ sg H Q, t' sg H Q → t sg H Q) : PI X tg e t' := ⟨fun pins s sg H Q I q => h.run pins s sg H Q I (k sg H Q q)⟩
theorem it_tup {wk : Bool} {K : PySem.W.Frag} {a : Addr} {ds : List PyData} : ItL wk K (Itt K a) ds (fun H A => ∃ xs, TpA (keyB ds) K H A a xs ∧ RpL K H A ds xs) where
  stay := fun H A H' A' ⟨xs, l, r⟩ k => ⟨xs, l.kp k, RpL.kp k ds xs r⟩
  go := fun i d H A ⟨xs, l, r⟩ e => by
    obtain ⟨x, ex, _⟩ := r.get e
    exact ⟨xs, x, l.sq, ex⟩
  yld := fun i d H A x H' ⟨xs, l, r⟩ e ⟨e1, h⟩ => by
    obtain ⟨y, ey, ry⟩ := r.get e
    have := h xs l.sq
    rw [ey] at this
    cases Option.some.inj this
    exact .inl ⟨e1, .inl ry⟩
  stop := fun i H A ⟨xs, l, r⟩ h => ⟨xs, l.sq, by rw [r.len]; exact h⟩
theorem it_lst {wk : Bool} {K : PySem.W.Frag} {a : Addr} {ds : List PyData} : ItL wk K (Itl K a) ds (fun H A => ∃ xs, LsA K H A a xs ∧ RpL K H A ds xs) where
  stay := fun H A H' A' ⟨xs, l, r⟩ k => ⟨xs, l.kp k, RpL.kp k ds xs r⟩
  go := fun i d H A ⟨xs, l, r⟩ e => by
    obtain ⟨x, ex, _⟩ := r.get e
    exact ⟨xs, x, l.sq, ex⟩
  yld := fun i d H A x H' ⟨xs, l, r⟩ e ⟨e1, h⟩ => by
    obtain ⟨y, ey, ry⟩ := r.get e
    have := h xs l.sq
    rw [ey] at this
    cases Option.some.inj this
    exact .inl ⟨e1, .inl ry⟩
  stop := fun i H A ⟨xs, l, r⟩ h => ⟨xs, l.sq, by rw [r.len]; exact h⟩
theorem it_rng {wk : Bool} {K : PySem.W.Frag} {lo : Int} {n : Nat} : ItL wk K (Itr lo n) ((List.range n).map fun i => PyData.int (lo + (i : Nat))) (fun _ _ => True) where
  stay := fun _ _ _ _ _ _ => True.intro
  go := fun i d H A _ e => by
    rw [List.getElem?_map, Option.map_eq_some_iff] at e
    obtain ⟨j, ej, _⟩ := e
    have := (List.getElem?_eq_some_iff.mp ej).1
    rw [List.length_range] at this
    exact this
  yld := fun i d H A x H' _ e ⟨e1, ex⟩ => by
    rw [List.getElem?_map, Option.map_eq_some_iff] at e
    obtain ⟨j, ej, rfl⟩ := e
    have hj : j = i := by
      have := List.getElem?_range (n := n) (i := i)
      by_cases h : i < n
      · rw [this h] at ej; exact (Option.some.inj ej).symm
      · rw [List.getElem?_eq_none (by rw [List.length_range]; omega)] at ej; cases ej
    subst hj
    exact .inl ⟨e1, .inl (by simp only [Rp]; exact ex)⟩
  stop := fun i H A _ h => by
    rw [List.length_map, List.length_range] at h
    exact h
/-- a list or a tuple -/
def iSeq (f : EF) : NF := fun rho S => (f rho S).bind fun a S1 => match a with
  | .dat (.tuple ds) => .ok ds S1
  | _ => .bad
def iLst (f : EF) : NF := fun rho S => (f rho S).bind fun a S1 => match a with
  | .dat (.list ds) => .ok ds S1
  | _ => .bad
/-- an expression, then what follows where something is to be walked -/
theorem tL.iter {α β : Type} {wk : Bool} {g : Gh} {W : WX} {rel : Hp → Av → List Addr → α → β → Prop} {f : Sl → Store → R α} {k : α → Sl → Store → R (List PyData)} {th : List Addr} {rho : Sl} {S : Store} {sg : L2.St} {H : Hp} {Q : β → Hp → Prop} {Q2 : It → Hp → Prop} (R0 : Rel g th rho S sg H)
    (h : PostI wk g W th rho sg H ((f rho S).bind fun a S' => k a rho S') Q2) (q : ∀ a S' v H' th', f rho S = .ok a S' → Rel g th' rho S' sg H' → Ext th H th' H' → rel H' (Avd g th' rho sg) th' a v → PostI wk g W th' rho sg H' (k a rho S') Q2 → Q v H') : tL g W rel f sg H Q := by
  refine ⟨th, rho, S, R0, ?_⟩
  cases e : f rho S with
  | ok a S' =>
    rw [e] at h
    refine fun v H' th' R1 x r => q a S' v H' th' e R1 x r ?_
    have h' : PostI wk g W th rho sg H (k a rho S') Q2 := h
    cases e2 : k a rho S' with
    | ok ds S2 => rw [e2] at h'; exact fun J H2 th2 G R2 x2 => h' J H2 th2 G R2 (x.trans x2)
    | exc c b S2 => rw [e2] at h'; exact fun cls dv H2 th2 R2 x2 => h' cls dv H2 th2 R2 (x.trans x2)
    | bad => rw [e2] at h'; exact h'
  | exc c a S' => rw [e] at h; exact h
  | bad => rw [e] at h; exact h
section
variable {X : Cx} {W : WX} {tg e : Expr} {f : EF} {pos p : Pos}
theorem li_tup (he : LE X W e f) : LI X W tg e (iSeq f) := fun g hK hm => (pi_tup (he g hK hm)).of fun sg H Q ⟨th, rho, S, R0, q⟩ =>
  tL.iter (k := fun (a : L3.D) rho S1 => match a with
    | .dat (.tuple ds) => R.ok ds S1
    | _ => R.bad) R0 q fun a S1 v H1 th1 _ R1 _ r q => by
      cases a with
      | dat d => cases d with
        | tuple ds =>
          obtain ⟨b, xs, rfl, l, rl⟩ := rd_tup.mp r
          exact ⟨b, rfl, ⟨xs, by rw [← hK]; exact l.sq⟩, by rw [← hK]; exact q _ H1 th1 _ R1 (.refl _ _) it_tup ⟨xs, l, rl⟩⟩
        | _ => exact q.elim
      | _ => exact q.elim
theorem li_lst (he : LE X W e f) : LI X W tg e (iLst f) := fun g hK hm => (pi_list (he g hK hm)).of fun sg H Q ⟨th, rho, S, R0, q⟩ =>
  tL.iter (k := fun (a : L3.D) rho S1 => match a with
    | .dat (.list ds) => R.ok ds S1
    | _ => R.bad) R0 q fun a S1 v H1 th1 _ R1 _ r q => by
      cases a with
      | dat d => cases d with
        | list ds =>
          obtain ⟨b, xs, rfl, l, rl⟩ := rd_lst.mp r
          exact ⟨b, rfl, ⟨xs, .of l.2⟩, by rw [← hK]; exact q _ H1 th1 _ R1 (.refl _ _) it_lst ⟨xs, l, rl⟩⟩
        | _ => exact q.elim
      | _ => exact q.elim
/-- range(n) -/
def rngD (lo : Int) (n : Nat) : List PyData := (List.range n).map fun i => PyData.int (lo + (i : Nat))
def iRng (f : EF) : NF := fun rho S => (f rho S).bind fun a S1 => match a with
  | .dat (.int j) => if -(2 ^ 62) ≤ j ∧ j < 2 ^ 62 then .ok (rngD 0 j.toNat) S1 else .bad
  | _ => .bad
theorem li_rng (hm0 : X.mg "range" = none) (he : LE X W e f) (hg : Gl X "range") (hs : starEach [e] X.env = [(false, eval e X.env)] := by rfl) (hs2 : starEach [e] X.env = (false, eval e X.env) :: starEach [] X.env := by rfl) : LI X W tg (.Call (.Name "range" p) [e] [] pos) (iRng f) := fun g hK hm =>
  (pi_range1 hg hm0 (pa_cons (he g hK hm) pa_nil hs2) hs).of fun sg H Q ⟨th, rho, S, R0, q⟩ =>
  tL.iter (k := fun (a : L3.D) rho S1 => match a with
    | .dat (.int j) => if -(2 ^ 62) ≤ j ∧ j < 2 ^ 62 then R.ok (rngD 0 j.toNat) S1 else R.bad
    | _ => R.bad) R0 q fun a S1 v H1 th1 _ R1 _ r q => by
      cases a with
      | dat d => cases d with
        | int j =>
          have ej := rd_int.mp r
          subst ej
          have q' : PostI _ g W th1 rho sg H1 (if -(2 ^ 62) ≤ j ∧ j < 2 ^ 62 then R.ok (rngD 0 j.toNat) S1 else R.bad) Q := q
          split at q'
          · next hj => exact ⟨j, rfl, hj.1, hj.2, q' _ H1 th1 _ R1 (.refl _ _) it_rng True.intro⟩
          · exact q'.elim
        | _ => exact q.elim
      | _ => exact q.elim
def rngK (a b : D) (S : Store) : R (List PyData) := match a, b with
  | .dat (.int i), .dat (.int j) => if -(2 ^ 62) ≤ i ∧ i < 2 ^ 62 ∧ -(2 ^ 62) ≤ j ∧ j < 2 ^ 62 then .ok (rngD i (j - i).toNat) S else .bad
  | _, _ => .bad
def iRng2 (f h : EF) : NF := fun rho S => (f rho S).bind fun a S1 => (h rho S1).bind fun b S2 => rngK a b S2
theorem li_rng2 {e2 : Expr} {h : EF} (hm0 : X.mg "range" = none) (he : LE X W e f) (he2 : LE X W e2 h) (hg : Gl X "range") (hs : starEach [e, e2] X.env = [(false, eval e X.env), (false, eval e2 X.env)] := by rfl) (hs2 : starEach [e2] X.env = [(false, eval e2 X.env)] := by rfl)
    (hs3 : starEach [e, e2] X.env = (false, eval e X.env) :: starEach [e2] X.env := by rfl) (hs4 : starEach [e2] X.env = (false, eval e2 X.env) :: starEach [] X.env := by rfl) : LI X W tg (.Call (.Name "range" p) [e, e2] [] pos) (iRng2 f h) := fun g hK hm =>
  (pi_range2 hg hm0 (pa_cons (he g hK hm) (pa_cons (he2 g hK hm) pa_nil hs4) hs3) hs hs2).of fun sg H Q ⟨th, rho, S, R0, q⟩ =>
  tL.iter (k := fun (a : L3.D) rho S1 => (h rho S1).bind fun b S2 => rngK a b S2) R0 q fun a S1 v H1 th1 _ R1 _ r q => 
  tL.iter (k := fun (b : L3.D) rho S2 => rngK a b S2) R1 q fun b S2 w H2 th2 _ R2 x2 r2 q => by
      have r := r.ext x2
      unfold rngK at q
      split at q
      · have ei := rd_int.mp r
        have ej := rd_int.mp r2
        subst ei ej
        split at q
        · next hj => exact ⟨_, _, rfl, ⟨hj.1, hj.2.1, hj.2.2.1, hj.2.2.2⟩, q _ H2 th2 _ R2 (.refl _ _) it_rng True.intro⟩
        · exact q.elim
      · exact q.elim
end

/-! ### for -/
def forL (t : Tg) (body : SF) : List PyData → SF
  | [], rho, S => .nx rho S
  | d :: ds, rho, S => match put t (.dat d) rho with
    | none => .bad
    | some rho1 => match body rho1 S with
      | .nx rho2 S2 => forL t body ds rho2 S2
      | .ct rho2 S2 => forL t body ds rho2 S2
      | .bk rho2 S2 => .nx rho2 S2
      | r => r
def sFor (items : NF) (t : Tg) (body : SF) : SF := fun rho S => (items rho S).stm rho fun ds S1 => forL t body ds rho S1
theorem drop_cons {α : Type} {l : List α} {i : Nat} {a : α} (e : l[i]? = some a) : l.drop i = a :: l.drop (i + 1) := by
  have hi := (List.getElem?_eq_some_iff.mp e).1
  rw [List.drop_eq_getElem_cons hi, (List.getElem?_eq_some_iff.mp e).2]
section
variable {X : Cx} {W : WX} {tg iter : Expr} {body : List Stmt} {items : NF} {t : Tg} {f : SF} {pos : Pos}
theorem ls_for (hp : PassesOwn (model X.prog X.w) X.A X.env X.xe) (hc : X.calm = true) (hi : LI X W tg iter items) (ht : PG X tg (gT X.K t)) (hb : LSs X W body f) (hs : ∀ x, foldedSetIterable iter X.env x = pure x := by intro _; rfl) (hw : TgOk tg t := by first | exact L3.tgok_nm | exact L3.tgok_tp) : LS X W (.For tg iter body [] pos) (sFor items t f) := fun g hK hm =>
  (ps_for hp hc (hi g hK hm) ht (hb g hK hm) hs).of fun D sg H ⟨th, rho, S, R0, p⟩ => by
    refine ⟨th, rho, S, R0, ?_⟩
    unfold sFor at p
    cases e : items rho S with
    | exc c a S1 => rw [e] at p; exact fun cls dv H' th' R1 x ec ed => p cls dv sg H' th' R1 ec ed
    | bad => rw [e] at p; exact p
    | ok ds S1 =>
      rw [e] at p
      intro J H1 th1 G R1 x1 it hG
      have p1 : PostS g W th1 rho sg H1 (forL t f ds rho S1) D := PostS.pre x1.pres p
      refine ⟨fun i m sg H => m = ds.length - i ∧ i ≤ ds.length ∧ ∃ th rho S, Rel g th rho S sg H ∧ G H (Avd g th rho sg) ∧ PostS g W th rho sg H (forL t f (ds.drop i) rho S) D, ⟨ds.length, by omega, Nat.zero_le _, th1, rho, S1, R1, hG, p1⟩, fun i m sg H hW => ?_⟩
      obtain ⟨rfl, hi, th, rho, S, R0, hG, p⟩ := hW
      by_cases hlt : i < ds.length
      · obtain ⟨d, ed⟩ : ∃ d, ds[i]? = some d := ⟨_, List.getElem?_eq_getElem hlt⟩
        rw [drop_cons ed] at p
        refine .inr ⟨it.go i d H _ hG ed, fun sg' H' => i + 1 ≤ ds.length ∧ ∃ th rho S, Rel g th rho S sg' H' ∧ G H' (Avd g th rho sg') ∧ PostS g W th rho sg' H' (forL t f (ds.drop (i + 1)) rho S) D, fun sg' H' hN => ⟨ds.length - (i + 1), by omega, rfl, hN.1, hN.2⟩, fun x H' hy => ?_⟩
        have step : ∃ x1 : Rel g th rho S sg H', Ext th H th H' ∧ RpY (isTupE tg) g.K H' (Avd g th rho sg) d x := by
          rcases it.yld i d H _ x H' hG ed hy with ⟨rfl, r⟩ | ⟨q, u, nq, rfl, r⟩
          · exact ⟨R0, .refl _ _, r⟩
          · exact ⟨R0.fresh nq, .upd nq, r (R0.notAv nq)⟩
        obtain ⟨R1, x1, r1⟩ := step
        have p1 := PostS.pre (g := g) (W := W) x1.pres p
        simp only [forL] at p1
        cases ep : put t (.dat d) rho with
        | none => rw [ep] at p1; exact p1.elim
        | some rho1 =>
          rw [ep] at p1
          obtain ⟨sg1, h1, h2, h3, _⟩ := put_okY t d x rho rho1 sg R1 r1 hw ep
          have pr1 : Pres g th rho sg H th rho1 sg1 H' := (x1.pres).trans (pres_sub h3)
          rw [← hK]
          refine h1 _ ⟨th, rho1, S, h2, ?_⟩
          have p2 := PostS.pre (pres_sub h3) p1
          have nxt : ∀ rho2 S2, PostS g W th rho1 sg1 H' (forL t f (ds.drop (i + 1)) rho2 S2) D → ∀ sg' H2 th2, Rel g th2 rho2 S2 sg' H2 → Pres g th rho1 sg1 H' th2 rho2 sg' H2 → i + 1 ≤ ds.length ∧ ∃ th rho S, Rel g th rho S sg' H2 ∧ G H2 (Avd g th rho sg') ∧ PostS g W th rho sg' H2 (forL t f (ds.drop (i + 1)) rho S) D :=
            fun rho2 S2 q sg' H2 th2 R2 pr2 => ⟨hlt, th2, rho2, S2, R2, it.stay _ _ _ _ hG (pr1.trans pr2).kp, PostS.pre pr2 q⟩
          have p3 : PostS g W th rho1 sg1 H' (match f rho1 S with
            | .nx rho2 S2 => forL t f (ds.drop (i + 1)) rho2 S2
            | .ct rho2 S2 => forL t f (ds.drop (i + 1)) rho2 S2
            | .bk rho2 S2 => .nx rho2 S2
            | r => r) D := p2
          cases ef : f rho1 S with
          | nx rho2 S2 => rw [ef] at p3; exact nxt rho2 S2 p3
          | ct rho2 S2 => rw [ef] at p3; exact nxt rho2 S2 p3
          | bk rho2 S2 => rw [ef] at p3; exact p3
          | rt d S2 => rw [ef] at p3; exact p3
          | exc c a rho2 S2 => rw [ef] at p3; exact p3
          | bad => rw [ef] at p3; exact p3
      · have hl : ds.length = i := by omega
        rw [List.drop_eq_nil_of_le (by omega)] at p
        exact .inl ⟨it.stop i H _ hG (by omega), p sg H th R0 .refl⟩

/-! ### while, with fuel -/
def whileL (t : TF) (body : SF) : Nat → SF
  | 0, _, _ => .bad
  | k + 1, rho, S => (t rho S).stm rho fun b S1 => match b with
    | false => .nx rho S1
    | true => match body rho S1 with
      | .nx rho2 S2 => whileL t body k rho2 S2
      | .ct rho2 S2 => whileL t body k rho2 S2
      | .bk rho2 S2 => .nx rho2 S2
      | r => r
def sWhile (n : Sl → Store → Nat) (t : TF) (body : SF) : SF := fun rho S => whileL t body (n rho S) rho S
theorem ls_while {c : Expr} {n : Sl → Store → Nat} {tc : TF} (hp : PassesOwn (model X.prog X.w) X.A X.env X.xe) (hc : LT X W c tc) (hb : LSs X W body f) : LS X W (.While c body [] pos) (sWhile n tc f) := fun g hK hm =>
  (ps_while hp (hc g hK hm) (hb g hK hm)).of fun D sg H ⟨th, rho, S, R0, p⟩ => by
    refine ⟨fun m sg H => ∃ th rho S, Rel g th rho S sg H ∧ PostS g W th rho sg H (whileL tc f m rho S) D, ⟨n rho S, th, rho, S, R0, p⟩, fun m sg H hW => ?_⟩
    obtain ⟨th, rho, S, R0, p⟩ := hW
    cases m with
    | zero => exact p.elim
    | succ k =>
      simp only [whileL] at p
      refine tL.stm (k := fun (b : Bool) S1 => match b with
        | false => .nx rho S1
        | true => match f rho S1 with
          | .nx rho2 S2 => whileL tc f k rho2 S2
          | .ct rho2 S2 => whileL tc f k rho2 S2
          | .bk rho2 S2 => .nx rho2 S2
          | r => r) R0 p fun b S1 v H1 th1 _ R1 x1 r1 q => ?_
      subst r1
      cases b with
      | false => exact iteF (q sg H1 th1 R1 .refl)
      | true =>
        refine iteT ⟨fun sg' H' => ∃ th rho S, Rel g th rho S sg' H' ∧ PostS g W th rho sg' H' (whileL tc f k rho S) D, fun sg' H' hN => ⟨k, Nat.lt_succ_self k, hN⟩, th1, rho, S1, R1, ?_⟩
        have q' : PostS g W th1 rho sg H1 (match f rho S1 with
          | .nx rho2 S2 => whileL tc f k rho2 S2
          | .ct rho2 S2 => whileL tc f k rho2 S2
          | .bk rho2 S2 => .nx rho2 S2
          | r => r) D := q
        cases ef : f rho S1 with
        | nx rho2 S2 => rw [ef] at q'; exact fun sg' H2 th2 R2 pr2 => ⟨th2, rho2, S2, R2, PostS.pre pr2 q'⟩
        | ct rho2 S2 => rw [ef] at q'; exact fun sg' H2 th2 R2 pr2 => ⟨th2, rho2, S2, R2, PostS.pre pr2 q'⟩
        | bk rho2 S2 => rw [ef] at q'; exact q'
        | rt d S2 => rw [ef] at q'; exact q'
        | exc c a rho2 S2 => rw [ef] at q'; exact q'
        | bad => rw [ef] at q'; exact q'
end
end L3

/-! L3Comp -/
namespace L3
open PySem PySem.Spec PyProof.Rows L2

/-! ### list comprehensions -/
def wipeD (rho : Sl) (vs : List Nat) : Sl := wipeG rho vs
def notOwn (rho : Sl) (vs : List Nat) : Bool := vs.all fun v => match rho[v]? with
  | some (some (.own _)) => false
  | _ => true
def lcL (t : Tg) (cond : TF) (elt : EF) (rw : Sl) : List PyData → List PyData → Store → R (List PyData)
  | [], acc, S => .ok acc S
  | d :: ds, acc, S => match put t (.dat d) rw with
    | none => .bad
    | some rho1 => match cond rho1 S with
      | .ok true S1 => (match elt rho1 S1 with
        | .ok (.dat p) S2 => if acc.length < sizeLine then lcL t cond elt rw ds (acc ++ [p]) S2 else .bad
        | _ => .bad)
      | .ok false S1 => lcL t cond elt rw ds acc S1
      | _ => .bad
def nLc (items : NF) (t : Tg) (cond : TF) (elt : EF) (vs : List Nat) : NF := fun rho S => (items rho S).bind fun ds S1 => if notOwn rho vs = true ∧ (t.ixs.all fun i => decide (i ∈ vs)) = true then lcL t cond elt (wipeD rho vs) ds [] S1 else .bad
def tTrue : TF := fun _ S => .ok true S
abbrev W0 : WX := fun _ _ _ _ => False
def LTs (X : Cx) (W : WX) (es : List Expr) (f : TF) : Prop := ∀ g : Gh, g.K = X.K → g.mg = X.mg → PTs X es (tT g W f)
theorem _root_.L2.PTs.of {X : Cx} {e : List Expr} {t t' : TT} (h : PTs X e t) (k : ∀ sg H Q, t' sg H Q → t sg H Q) : PTs X e t' := ⟨fun pins s sg H Q I q => h.run pins s sg H Q I (k sg H Q q)⟩
section
variable {X : Cx} {W : WX}
theorem lts_nil : LTs X W [] tTrue := fun g hK hm => pts_nil.of fun sg H Q ⟨th, rho, S, R0, p⟩ => p true H th R0 (.refl _ _) rfl
theorem lts_one {e : Expr} {f : TF} (h : LT X W e f) : LTs X W [e] f := fun g hK hm => pts_one (h g hK hm)
end
section
variable {g : Gh} {th : List Addr} {rho : Sl} {S : Store} {sg : L2.St} {H : Hp}
theorem wipe_ow : ∀ {vs : List Nat} {i : Nat} {a : Addr}, Ow (wipeD rho vs) (wipe sg vs) i a → Ow rho sg i a
  | [], i, a, h => h
  | v :: vs, i, a, h => wipe_ow (vs := vs) (ow_set (i := v) (o := none) (v := none) (fun ds e => by cases e) h)
theorem Rel.wipe (R0 : Rel g th rho S sg H) : ∀ vs : List Nat, Rel g th (wipeD rho vs) S (wipe sg vs) H
  | [] => R0
  | v :: vs => (Rel.wipe R0 vs).unset
theorem wipeD_at {vs : List Nat} {i : Nat} (n : i ∉ vs) : (wipeD rho vs)[i]? = rho[i]? := by
  unfold wipeD
  rw [wipeG_get, if_neg fun z => n z.1]
theorem wipe_at {vs : List Nat} {i : Nat} (n : i ∉ vs) : (wipe sg vs)[i]? = sg[i]? := wipe_out n
theorem avd_wipe {vs : List Nat} (h : notOwn rho vs = true) (a : Addr) : Avd g th rho sg a → Avd g th (wipeD rho vs) (wipe sg vs) a := fun q => by
  rcases q with q | q | ⟨i, ds, e1, e2⟩
  · exact .inl q
  · exact .inr (.inl q)
  · refine .inr (.inr ⟨i, ds, ?_, ?_⟩)
    · have ni : i ∉ vs := fun m => by
        have := List.all_eq_true.mp h i m
        rw [e1] at this
        cases this
      rw [wipeD_at ni, e1]
    · have ni : i ∉ vs := fun m => by
        have := List.all_eq_true.mp h i m
        rw [e1] at this
        cases this
      rw [wipe_out ni, e2]

/-- what is kept out of data takes another content -/
theorem Rel.putB (R0 : Rel g th rho S sg H) {p : Addr} {u : HO} (hb : g.B p) (h0 : g.H0 p = none) : Rel g th rho S sg (L2.upd H p u) ∧ Kp H (Avd g th rho sg) (L2.upd H p u) (Avd g th rho sg) := by
  have av : Avd g th rho sg p := .inl hb
  have kp : Kp H (Avd g th rho sg) (L2.upd H p u) (Avd g th rho sg) := fun b o eb n => ⟨by rw [upd_ne (fun z : b = p => n (z ▸ av))]; exact eb, n⟩
  have ne_th : ∀ b ∈ th, b ≠ p := fun b m z => R0.bth b m (z ▸ hb)
  exact ⟨{
    nd := R0.nd
    pre := R0.pre
    new := R0.new
    keep := fun b o eb n => by
      rw [upd_ne (fun z : b = p => by rw [z, h0] at eb; cases eb)]
      exact R0.keep b o eb n
    bth := R0.bth
    trB := fun b hb' => by
      by_cases z : b = p
      · rw [z, upd_same]; rfl
      · rw [upd_ne z]; exact R0.trB b hb'
    trT := fun b m => by rw [upd_ne (ne_th b m)]; exact R0.trT b m
    st := SRel.kp kp R0.st fun b m => upd_ne (ne_th b m)
    len := R0.len
    slot := fun j c ec => by
      obtain ⟨v, ev, r⟩ := R0.slot j c ec
      refine ⟨v, ev, ?_⟩
      cases c with
      | dat d => exact Rp.kp kp d v r
      | ref m => exact r
      | scr ns =>
        obtain ⟨b, eb, q⟩ := r
        exact ⟨b, eb, q.kp kp⟩
      | own es =>
        obtain ⟨b, ys, rfl, q, rl2, n2⟩ := r
        exact ⟨b, ys, rfl, by rw [upd_ne (fun z : b = p => (R0.own2 j b ⟨es, ec, ev⟩).2.1 (z ▸ hb))]; exact q, RpL.kp kp es ys rl2, n2⟩
    own1 := R0.own1
    own2 := R0.own2 }, kp⟩
/-- the wiped slots come back -/
theorem Rel.unwipe {g' : Gh} {th' : List Addr} {S' : Store} {H' : Hp} {vs : List Nat} (R0 : Rel g' th rho S sg H) (x : Ext th H th' H') (R1 : Rel g' th' (wipeD rho vs) S' (L2.wipe sg vs) H') (hv : notOwn rho vs = true) : Rel g' th' rho S' sg H' :=
  R0.step x (R1.st.sub fun a h => avd_wipe hv a h) R1.nd R1.trT
end
section
variable {X : Cx} {W : WX} {g : Gh}
/-- the reading of a comprehension -/
theorem lc_read {wi : TI} {K : PySem.W.Frag} {t : Tg} {tt : TT} {te : TE} {vs : List Nat} {items : NF} {cond : TF} {elt : EF} {wk : Bool} (hw : wk = true → ∃ ts, t = .tup ts) (hK : g.K = K) (hwi : ∀ sg H Q, tI wk g W items sg H Q → wi sg H Q)
    (htt : ∀ (g' : Gh) sg H Q, g'.K = g.K → g'.mg = g.mg → tT g' W0 cond sg H Q → tt sg H Q) (hte : ∀ (g' : Gh) sg H Q, g'.K = g.K → g'.mg = g.mg → tE g' W0 elt sg H Q → te sg H Q)
    (sg : L2.St) (H : Hp) (Q : VK) (q : tN g W (nLc items t cond elt vs) sg H Q) : tLc wi (gT K t) tt te vs sg H Q := by
  obtain ⟨th, rho, S, R0, p⟩ := q
  refine hwi sg H _ ⟨th, rho, S, R0, ?_⟩
  unfold nLc at p
  cases e : items rho S with
  | exc c a S1 => rw [e] at p; exact p
  | bad => rw [e] at p; exact p
  | ok ds S1 =>
    rw [e] at p
    have p' : PostN g W th rho sg H (if notOwn rho vs = true ∧ (t.ixs.all fun i => decide (i ∈ vs)) = true then lcL t cond elt (wipeD rho vs) ds [] S1 else .bad) Q := p
    split at p'
    case isFalse => exact p'.elim
    rename_i hvs
    intro J H1 th1 G R1 x1 it hG C nC
    have nCH : H C = none := by
      cases e : H C with
      | none => rfl
      | some o =>
        by_cases m : C ∈ th
        · have := R1.trT C (x1.pre.subset m)
          rw [nC] at this
          cases this
        · rw [x1.keep C o e m] at nC
          cases nC
    obtain ⟨nb, nt⟩ := R1.ntB nC
    have h0 := R1.h0_none nC
    -- behind i turns: what is made, and how it goes on
    let Pv : Nat → Hp → Prop := fun i H' => i ≤ ds.length ∧ ∃ th' S' acc xs, Rel (g.add C) th' (wipeD rho vs) S' (wipe sg vs) H' ∧ Ext th1 H1 th' H' ∧ H' C = some (.lst xs) ∧ RpL g.K H' (Avd (g.add C) th' (wipeD rho vs) (wipe sg vs)) acc xs ∧
      PostN g W th rho sg H (lcL t cond elt (wipeD rho vs) (ds.drop i) acc S') Q
    have kpC : Kp H1 (Avd g th1 rho sg) (upd H1 C (.lst [])) (Avd (g.add C) th1 (wipeD rho vs) (wipe sg vs)) := fun a o ea n => ⟨by rw [upd_ne (ne_of_none ea nC)]; exact ea, fun z => by
      rcases z with z | z | ⟨i, z⟩
      · exact z.elim (fun z => n (.inl z)) (ne_of_none ea nC)
      · exact n (.inr (.inl z))
      · exact n (.inr (.inr ⟨i, wipe_ow z⟩))⟩
    refine ⟨fun i m H' => m = ds.length - i ∧ Pv i H', ⟨ds.length, by omega, Nat.zero_le _, th1, S1, [], [], (R1.addB nC).wipe vs, .upd nC, upd_same, .nil, p'⟩, fun i m H' hW => ?_⟩
    obtain ⟨rfl, hi, th', S', acc, xs, R2, x2, hC, rl, p2⟩ := hW
    -- the walked thing stands
    have kp2 : Kp H1 (Avd g th1 rho sg) H' (Avd (g.add C) th' (wipeD rho vs) (wipe sg vs)) := fun a o ea n => by
      have nth : a ∉ th1 := fun m => n (.inr (.inl m))
      refine ⟨x2.keep a o ea nth, fun z => ?_⟩
      rcases z with z | z | ⟨i, z⟩
      · exact z.elim (fun z => n (.inl z)) (ne_of_none ea nC)
      · have := x2.new a z nth
        rw [ea] at this
        cases this
      · exact n (.inr (.inr ⟨i, wipe_ow z⟩))
    have hG2 := it.stay _ _ _ _ hG kp2
    by_cases hlt : i < ds.length
    · obtain ⟨d, ed⟩ : ∃ d, ds[i]? = some d := ⟨_, List.getElem?_eq_getElem hlt⟩
      rw [drop_cons ed] at p2
      refine .inr ⟨it.go i d H' _ hG2 ed, Pv (i + 1), fun H2 hN => ⟨ds.length - (i + 1), by omega, rfl, hN⟩, fun x H2 hy => ?_⟩
      have step : ∃ R3 : Rel (g.add C) th' (wipeD rho vs) S' (wipe sg vs) H2, Ext th' H' th' H2 ∧ RpY wk g.K H2 (Avd (g.add C) th' (wipeD rho vs) (wipe sg vs)) d x ∧ H2 C = some (.lst xs) ∧ RpL g.K H2 (Avd (g.add C) th' (wipeD rho vs) (wipe sg vs)) acc xs := by
        rcases it.yld i d H' _ x H2 hG2 ed hy with ⟨rfl, r⟩ | ⟨q, u, nq, rfl, r⟩
        · exact ⟨R2, .refl _ _, r, hC, rl⟩
        · exact ⟨R2.fresh nq, .upd nq, r (R2.notAv nq), by rw [upd_ne (ne_of_none hC nq)]; exact hC, rl.at_new nq⟩
      obtain ⟨R3, x3, r3, hC3, rl3⟩ := step
      simp only [lcL] at p2
      cases ep : put t (.dat d) (wipeD rho vs) with
      | none => rw [ep] at p2; exact p2.elim
      | some rho1 =>
        rw [ep] at p2
        obtain ⟨sg1, h1, h2, h3, h4⟩ := put_okY t d x (wipeD rho vs) rho1 (wipe sg vs) R3 r3 hw ep
        rw [← hK]
        have hix : ∀ i ∈ t.ixs, i ∈ vs := fun i m => of_decide_eq_true (List.all_eq_true.mp hvs.2 i m)
        have w1 : wipe sg1 vs = wipe sg vs := by rw [h4 vs hix, wipe_two]
        have w2 := (put_wipe (vs := vs) t (.dat d) _ rho1 ep hix).1
        refine h1 _ ⟨w1, ?_⟩
        -- a turn's own slots own nothing
        have sub : ∀ th a, Avd (g.add C) th (wipeD rho vs) (wipe sg vs) a → Avd (g.add C) th rho1 sg1 a := fun th a z => by
          rcases z with z | z | ⟨j, es, e1, e2⟩
          · exact .inl z
          · exact .inr (.inl z)
          · have nj : j ∉ vs := fun m => by
              unfold wipeD at e1
              rw [wipeG_get] at e1
              split at e1
              · cases e1
              · next hq => 
                have : j < rho.length := (List.getElem?_eq_some_iff.mp e1).1
                exact hq ⟨m, this⟩
            refine .inr (.inr ⟨j, es, ?_, ?_⟩)
            · have q : (wipeG rho1 vs)[j]? = (wipeG (wipeD rho vs) vs)[j]? := by rw [w2]
              rw [wipeG_get, wipeG_get, if_neg (fun z => nj z.1), if_neg (fun z => nj z.1)] at q
              rw [q, e1]
            · have q : (wipe sg1 vs)[j]? = (wipe sg vs)[j]? := by rw [w1]
              rw [wipe_out nj] at q
              rw [q, e2]
        have back : ∀ (th3 : List Addr) (S3 : Store) (H3 : Hp), Rel (g.add C) th3 rho1 S3 sg1 H3 → Ext th' H2 th3 H3 → Rel (g.add C) th3 (wipeD rho vs) S3 (wipe sg vs) H3 := fun th3 S3 H3 R x => R3.step x (R.st.sub (sub th3)) R.nd R.trT
        have acc3 : ∀ (th3 : List Addr) (H3 : Hp), Ext th' H2 th3 H3 → H3 C = some (.lst xs) ∧ RpL g.K H3 (Avd (g.add C) th3 (wipeD rho vs) (wipe sg vs)) acc xs ∧ C ∉ th3 := fun th3 H3 x => by
          have nC' : C ∉ th' := fun m => R3.bth C m (.inr rfl)
          refine ⟨x.keep C _ hC3 nC', RpL.kp x.kp acc xs rl3, fun m => ?_⟩
          have := x.new C m nC'
          rw [hC3] at this
          cases this
        refine htt (g.add C) sg1 H2 _ rfl rfl ⟨th', rho1, S', h2, ?_⟩
        have p2' : PostN g W th rho sg H (match cond rho1 S' with
          | .ok true S1 => (match elt rho1 S1 with
            | .ok (.dat p) S2 => if acc.length < sizeLine then lcL t cond elt (wipeD rho vs) (ds.drop (i + 1)) (acc ++ [p]) S2 else .bad
            | _ => .bad)
          | .ok false S1 => lcL t cond elt (wipeD rho vs) (ds.drop (i + 1)) acc S1
          | _ => .bad) Q := p2
        cases ec : cond rho1 S' with
        | exc c a S1 => rw [ec] at p2'; exact p2'.elim
        | bad => rw [ec] at p2'; exact p2'.elim
        | ok b S2 =>
          intro b' H3 th3 R4 x4 eb
          subst eb
          cases b with
          | false =>
            rw [ec] at p2'
            obtain ⟨c1, c2, c3⟩ := acc3 th3 H3 x4
            exact iteF ⟨hlt, th3, S2, acc, xs, back th3 S2 H3 R4 x4, x2.trans (x3.trans x4), c1, c2, p2'⟩
          | true =>
            rw [ec] at p2'
            refine iteT (hte (g.add C) sg1 H3 _ rfl rfl ⟨th3, rho1, S2, R4, ?_⟩)
            have p3 : PostN g W th rho sg H (match elt rho1 S2 with
              | .ok (.dat p) S2 => if acc.length < sizeLine then lcL t cond elt (wipeD rho vs) (ds.drop (i + 1)) (acc ++ [p]) S2 else .bad
              | _ => .bad) Q := p2'
            cases ee : elt rho1 S2 with
            | exc c a S1 => rw [ee] at p3; exact p3.elim
            | bad => rw [ee] at p3; exact p3.elim
            | ok y S3 =>
              cases y with
              | dat y =>
                rw [ee] at p3
                have p4 : PostN g W th rho sg H (if acc.length < sizeLine then lcL t cond elt (wipeD rho vs) (ds.drop (i + 1)) (acc ++ [y]) S3 else .bad) Q := p3
                split at p4
                case isFalse => exact p4.elim
                rename_i hl
                intro v H4 th4 R5 x5 r5
                obtain ⟨c1, c2, c3⟩ := acc3 th4 H4 (x4.trans x5)
                refine ⟨xs, c1, by rw [rl3.len]; exact hl, hlt, th4, S3, acc ++ [y], xs ++ [v], ?_, ?_, upd_same, ?_, p4⟩
                · exact ((back th4 S3 H4 R5 (x4.trans x5)).putB (.inr rfl) h0).1
                · have z := x2.trans (x3.trans (x4.trans x5))
                  exact ⟨z.pre, fun a o e n => by rw [upd_ne (ne_of_none e nC)]; exact z.keep a o e n, z.new⟩
                · have kk := ((back th4 S3 H4 R5 (x4.trans x5)).putB (u := .lst (xs ++ [v])) (.inr rfl) h0).2
                  exact RpL.kp kk _ _ (c2.append (.one (RD.sub (sub th4) r5)))
              | _ => rw [ee] at p3; exact p3.elim
    · have hl : ds.length = i := by omega
      rw [List.drop_eq_nil_of_le (by omega)] at p2
      refine .inl ⟨it.stop i H' _ hG2 (by omega), ?_⟩
      have p3 : PostN g W th rho sg H (.ok acc S') Q := p2
      have xa : Ext th1 (upd H1 C (.lst xs)) th' H' := ⟨x2.pre, fun a o e n => by
        by_cases z : a = C
        · subst z; rw [upd_same] at e; rw [hC]; exact e
        · rw [upd_ne z] at e; exact x2.keep a o e n, fun a m n => by
        rw [upd_ne (fun z : a = C => R2.bth C (z ▸ m) (.inr rfl))]
        exact x2.new a m n⟩
      have Rb : Rel (g.add C) th' rho S' sg H' := (R1.addB (o := .lst xs) nC).unwipe xa R2 hvs.1
      have nt' : C ∉ th' := fun m => R2.bth C m (.inr rfl)
      exact p3 C xs H' th' Rb (x1.trans x2) hC (RpL.kp (fun a o e n => ⟨e, fun z => n (avd_wipe hvs.1 a z)⟩) acc xs rl) nb nt' h0 nCH
end
section
variable {X : Cx} {W : WX}
theorem LE.ex {e : Expr} {f : EF} (h : LE X W e f) {K : PySem.W.Frag} {mg : Str → Option Value} (hK : K = X.K) (hm : mg = X.mg) : PE X e fun sg H Q => ∃ g : Gh, g.K = K ∧ g.mg = mg ∧ tE g W f sg H Q :=
  ⟨fun pins s sg H Q I ⟨g, h1, h2, q⟩ => (h g (h1.trans hK) (h2.trans hm)).run pins s sg H Q I q⟩
theorem LTs.ex {e : List Expr} {f : TF} (h : LTs X W e f) {K : PySem.W.Frag} {mg : Str → Option Value} (hK : K = X.K) (hm : mg = X.mg) : PTs X e fun sg H Q => ∃ g : Gh, g.K = K ∧ g.mg = mg ∧ tT g W f sg H Q :=
  ⟨fun pins s sg H Q I ⟨g, h1, h2, q⟩ => (h g (h1.trans hK) (h2.trans hm)).run pins s sg H Q I q⟩
variable {elt tg iter : Expr} {ifs : List Expr} {scope : Scope} {own : List (Str × Nat)} {pos : Pos} {items : NF} {t : Tg} {cond : TF} {felt : EF}
theorem n_lc (hc : X.calm = true) (hN : X.N.Nodup) (hi : LI X W tg iter items) (ok : BlkOk X.N X.env.scope scope own)
    (hg : ∀ (s : Shared) (H : Hp) (C : Addr) (cl : List (Str × Addr)) (fp : List Addr), PG (X.blk s H scope (compEnvC scope cl C X.env) fp) tg (gT X.K t)) (ht : ∀ (s : Shared) (H : Hp) (C : Addr) (cl : List (Str × Addr)) (fp : List Addr), LTs (X.blk s H scope (compEnvC scope cl C X.env) fp) W0 ifs cond)
    (he : ∀ (s : Shared) (H : Hp) (C : Addr) (cl : List (Str × Addr)) (fp : List Addr), LE (X.blk s H scope (compEnvC scope cl C X.env) fp) W0 elt felt) (hs : ∀ x, foldedSetIterable iter X.env x = pure x := by intro _; rfl) (hw : TgOk tg t := by first | exact L3.tgok_nm | exact L3.tgok_tp) :
    LN X W (.ListComp elt [⟨tg, iter, ifs, 0⟩] scope pos) (nLc items t cond felt (own.map (·.2))) := fun g hK hm =>
  (pe_lc hc hN (hi g hK hm) ok hg (fun s H C cl fp => (ht s H C cl fp).ex (K := g.K) (mg := g.mg) hK hm) (fun s H C cl fp => (he s H C cl fp).ex (K := g.K) (mg := g.mg) hK hm) hs).of fun sg H Q q =>
    lc_read hw hK (fun _ _ _ z => z) (fun g' _ _ _ h1 h2 z => ⟨g', h1, h2, z⟩) (fun g' _ _ _ h1 h2 z => ⟨g', h1, h2, z⟩) sg H Q q
theorem ls_setLc {i : Nat} {y : Str} {py spos : Pos} (hc : X.calm = true) (hN : X.N.Nodup) (hy : X.N[i]? = some y) (hyl : X.env.scope.names.lookup y = some .local)
    (hsw : swapsWith (.ListComp elt [⟨tg, iter, ifs, 0⟩] scope pos) (some (.Name y py)) spos.line X.env = pure true) (hi : LI X W tg iter items) (ok : BlkOk X.N X.env.scope scope own)
    (hg : ∀ (s : Shared) (H : Hp) (C : Addr) (cl : List (Str × Addr)) (fp : List Addr), PG (X.blk s H scope (compEnvC scope cl C X.env) fp) tg (gT X.K t)) (ht : ∀ (s : Shared) (H : Hp) (C : Addr) (cl : List (Str × Addr)) (fp : List Addr), LTs (X.blk s H scope (compEnvC scope cl C X.env) fp) W0 ifs cond)
    (he : ∀ (s : Shared) (H : Hp) (C : Addr) (cl : List (Str × Addr)) (fp : List Addr), LE (X.blk s H scope (compEnvC scope cl C X.env) fp) W0 elt felt) (hs : ∀ x, foldedSetIterable iter X.env x = pure x := by intro _; rfl) (hw : TgOk tg t := by first | exact L3.tgok_nm | exact L3.tgok_tp) :
    LS X W (.Assign [.Name y py] (.ListComp elt [⟨tg, iter, ifs, 0⟩] scope pos) spos) (sNew i (nLc items t cond felt (own.map (·.2)))) := fun g hK hm =>
  (ps_setLc hc hN hy hyl hsw (hi g hK hm) ok hg (fun s H C cl fp => (ht s H C cl fp).ex (K := g.K) (mg := g.mg) hK hm) (fun s H C cl fp => (he s H C cl fp).ex (K := g.K) (mg := g.mg) hK hm) hs).of fun D sg H q => by
    show tLc _ _ _ _ _ sg H _
    exact lc_read hw hK (fun _ _ _ z => z) (fun g' _ _ _ h1 h2 z => ⟨g', h1, h2, z⟩) (fun g' _ _ _ h1 h2 z => ⟨g', h1, h2, z⟩) sg H _ (asg_new q)
end
end L3

/-! L3Body -/
namespace L3
open PySem PySem.Spec PyProof.Rows L2

/-! ### a new list becomes a place of the store -/
/-- return [..]: the list is one that changes -/
def sRetRef (f : NF) : SF := fun rho S => (f rho S).stm rho fun ds S1 => .rt (.ref S1.length) (S1 ++ [.lst (ds.map .dat)])
theorem RpL.rsl {K : PySem.W.Frag} {H : Hp} {A : Av} {th : List Addr} : ∀ {ds : List PyData} {xs : List V}, RpL K H A ds xs → RSL K H A th (ds.map .dat) xs
  | [], _, h => by
    simp only [RpL] at h
    exact h
  | d :: ds, _, h => by
    simp only [RpL] at h
    obtain ⟨x, r, e, p, q⟩ := h
    exact ⟨x, r, e, p, RpL.rsl q⟩
section
variable {g : Gh} {th : List Addr} {rho : Sl} {S : Store} {sg : L2.St} {H : Hp}
theorem Rel.promote {p : Addr} {xs : List V} {ds : List PyData} (R0 : Rel (g.add p) th rho S sg H) (hp : H p = some (.lst xs)) (rl : RpL g.K H (Avd (g.add p) th rho sg) ds xs) (nb : ¬ g.B p) (nt : p ∉ th) (h0 : g.H0 p = none) (hn : p ∉ g.th0) :
    RelF g (th ++ [p]) (S ++ [.lst (ds.map .dat)]) H := by
  have R1 := R0.dropB
  have sub : ∀ a, Avf g (th ++ [p]) a → Avd (g.add p) th rho sg a := fun a h => by
    rcases h with h | h
    · exact .inl (.inl h)
    · rcases List.mem_append.mp h with h | h
      · exact .inr (.inl h)
      · exact .inl (.inr (List.mem_singleton.mp h))
  have kp : Kp H (Avd (g.add p) th rho sg) H (Avf g (th ++ [p])) := fun a o e n => ⟨e, fun q => n (sub a q)⟩
  exact {
    nd := List.nodup_append.mpr ⟨R0.nd, by simp, fun a m b mb e => nt (by rw [List.mem_singleton.mp mb] at e; exact e ▸ m)⟩
    pre := R0.pre.trans (List.prefix_append _ _)
    new := fun a m n => by
      rcases List.mem_append.mp m with m | m
      · exact R0.new a m n
      · rw [List.mem_singleton.mp m]; exact h0
    keep := R0.keep
    bth := fun a m b => by
      rcases List.mem_append.mp m with m | m
      · exact R0.bth a m (.inl b)
      · exact nb (List.mem_singleton.mp m ▸ b)
    trB := R1.trB
    trT := fun a m => by
      rcases List.mem_append.mp m with m | m
      · exact R0.trT a m
      · rw [List.mem_singleton.mp m, hp]; rfl
    st := ⟨by rw [List.length_append, List.length_append, R0.st.len]; rfl, fun n o a es et => by
      by_cases hn : n < S.length
      · rw [List.getElem?_append_left hn] at es
        rw [List.getElem?_append_left (by rw [R0.st.len]; exact hn)] at et
        exact (R0.st.at_ n o a es et).kp kp (List.prefix_append _ _) rfl
      · have hn' : n = S.length := by
          have := (List.getElem?_eq_some_iff.mp es).1
          rw [List.length_append] at this
          simp only [List.length_cons, List.length_nil] at this
          omega
        subst hn'
        rw [List.getElem?_append_right (Nat.le_refl _), Nat.sub_self] at es
        rw [List.getElem?_append_right (by rw [R0.st.len]; exact Nat.le_refl _), R0.st.len, Nat.sub_self] at et
        cases Option.some.inj es
        cases Option.some.inj et
        exact ⟨xs, hp, (RpL.kp kp ds xs rl).rsl⟩⟩ }
end
section
variable {X : Cx} {W : WX} {e : Expr} {f : NF} {pos : Pos}
theorem ls_retR (he : LN X W e f) : LS X W (.Return (some e) pos) (sRetRef f) := fun g hK hm => (ps_ret (he g hK hm)).of fun D sg H ⟨th, rho, S, R0, p⟩ => by
  refine ⟨th, rho, S, R0, ?_⟩
  unfold sRetRef at p
  cases e : f rho S with
  | ok ds S' =>
    rw [e] at p
    intro q xs H' th' R1 x hp rl nb nt h0 _
    have hn : q ∉ g.th0 := fun m => nt (R1.pre.subset m)
    refine p (.ref q) H' (th' ++ [q]) (R1.promote hp rl nb nt h0 hn) ⟨q, rfl, ?_⟩
    rw [← R1.st.len, List.getElem?_append_right (Nat.le_refl _), Nat.sub_self]
    rfl
  | exc c a S' => rw [e] at p; exact fun cls dv H' th' R1 x ec ed => p cls dv sg H' th' R1 ec ed
  | bad => rw [e] at p; exact p
end

/-! ### a body -/
def fnF (m : Nat) (body : SF) : FF := fun ds S => match body (ds.map some ++ List.replicate m none) S with
  | .rt d S' => .ok d S'
  | .nx _ S' => .ok (.dat .none) S'
  | .exc c a _ S' => .exc c a S'
  | _ => .bad
theorem RSL.getd {K : PySem.W.Frag} {H : Hp} {A : Av} {th : List Addr} : ∀ {ds : List D} {xs : List V} {i : Nat} {d : D}, RSL K H A th ds xs → ds[i]? = some d → ∃ x, xs[i]? = some x ∧ RS K H A th d x
  | d :: ds, _, 0, _, ⟨x, r, e, p, _⟩, h => by
    subst e
    cases Option.some.inj h
    exact ⟨x, rfl, p⟩
  | d :: ds, _, i + 1, _, ⟨x, r, e, _, q⟩, h => by
    subst e
    exact RSL.getd (i := i) q (by simpa only [List.getElem?_cons_succ] using h)
theorem start_at {ds : List D} {m i : Nat} {d : D} (e : (ds.map some ++ List.replicate m none)[i]? = some (some d)) : ds[i]? = some d := by
  by_cases h : i < ds.length
  · rw [List.getElem?_append_left (by rw [List.length_map]; exact h), List.getElem?_map] at e
    cases q : ds[i]? with
    | none => rw [q] at e; cases e
    | some c => rw [q] at e; cases e; rfl
  · rw [List.getElem?_append_right (by rw [List.length_map]; omega), List.getElem?_replicate] at e
    split at e <;> cases e
theorem rel_start {g : Gh} {th : List Addr} {S : Store} {H : Hp} {ds : List D} {vs : List V} {N : List Str} {m : Nat} (R0 : RelF g th S H) (r : RSL g.K H (Avf g th) th ds vs) (hN : N.length = vs.length + m) : Rel g th (ds.map some ++ List.replicate m none) S (start N vs) H := by
  have now : ∀ i a, ¬ Ow (ds.map some ++ List.replicate m none) (start N vs) i a := fun i a ⟨es, e1, _⟩ => by
    obtain ⟨x, _, h⟩ := r.getd (start_at e1)
    exact h
  have sub : ∀ a, Avd g th (ds.map some ++ List.replicate m none) (start N vs) a → Avf g th a := fun a h => h.elim .inl fun h => h.elim .inr fun ⟨i, h⟩ => (now i a h).elim
  exact {
    toRelG := R0.toRelG
    st := R0.st.sub sub
    len := by
      unfold L2.start
      rw [List.length_append, List.length_append, List.length_map, List.length_map, List.length_replicate, List.length_replicate, r.len]
      have := r.len
      omega
    slot := fun i d e => by
      obtain ⟨x, ex, h⟩ := r.getd (start_at e)
      refine ⟨x, ?_, RD.sub sub h.rd⟩
      unfold L2.start
      have hi := (List.getElem?_eq_some_iff.mp ex).1
      rw [List.getElem?_append_left (by rw [List.length_map]; exact hi), List.getElem?_map, ex]
      rfl
    own1 := fun i j a h _ => (now i a h).elim
    own2 := fun i a h => (now i a h).elim }
theorem RS.sub {K : PySem.W.Frag} {H : Hp} {A A' : Av} {th : List Addr} (s : ∀ a, A' a → A a) {d : D} {v : V} (h : RS K H A th d v) : RS K H A' th d v := h.kp (fun a o e n => ⟨e, fun q => n (s a q)⟩) (List.prefix_refl _)
theorem ExD.sub {K : PySem.W.Frag} {H : Hp} {A A' : Av} {th : List Addr} (s : ∀ a, A' a → A a) : ∀ {x : Option (Str × D)} {dv : Option Addr}, ExD K H A th x dv → ExD K H A' th x dv
  | none, _, h => h
  | some (f, d), _, ⟨a, v, e1, e2, r⟩ => ⟨a, v, e1, e2, r.sub s⟩
section
variable {P : Program} {w : World} {K : PySem.W.Frag} {mg : Str → Option Value} {base : Heap} {k : Nat} {f : Addr} {name qual : Str} {params : Arguments} {body : List Stmt} {scope : Scope} {dV kV doc pm cdv ct oc : Value} {an od : Option Addr} {osl : Array (Option Value)} {N ps : List Str} {m : Nat} {F : SF}
/-- a def by its body -/
theorem fng_of (lk : K.lookup f = some ⟨oc, od, .func (PySem.W.fnOf name qual params body scope dV kV doc pm an cdv ct), osl⟩) (hcd : PySem.W.codeIn K cdv qual = true) (Sc : FnScope N ps scope) (hN : N.length = ps.length + m)
    (hbody : ∀ (A : Around) (outer : List PySem.Env) (s : Shared) (H : Hp) (E : XK), (A.deeper (envOfC qual scope s.heap.objs.size f cdv)).guards = some [] → Room k (A.deeper (envOfC qual scope s.heap.objs.size f cdv)) →
      LSs (cxOf (L2.CX P w) P w K mg base N qual scope f cdv A outer s H E) (fun cls d _ H' => E cls d H') body F) :
    FnG P w K mg base (k + 1) f (PySem.W.fnOf name qual params body scope dV kV doc pm an cdv ct) ps (spL K mg ps.length (fnF m F)) := by
  refine ⟨fun vs H Q E ⟨_, _, _, _, h, _⟩ => h, fun A outer s H args us vs Q E room gd env0 binds rel hsp => ?_⟩
  obtain ⟨B, th, S, ds, hl, R0, rd, post⟩ := hsp
  have inK : K.In s.heap := env0.mod.kin.keeps fun b o e => (env0.bs b o e).1
  have noLim : s.heap.NoLimit := env0.mod.nolimit.keeps fun b o e => (env0.bs b o e).1
  have kinds : ∀ y ∈ ps.zip us, scope.names.lookup y.1 = some .local ∨ (scope.names.lookup y.1 = some .cell ∧ ((cellsFrom (s.heap.objs.size + 1) scope.names []).lookup y.1).isSome = true) := fun ⟨n, v⟩ hy =>
    (Sc.par n (List.of_mem_zip hy).1).imp id fun q => ⟨q, PySem.W.cellsFrom_some _ _ _ (.inl q)⟩
  refine codeAny_call_function room.depth (inK _ _ lk) rfl Sc.co Sc.gen rfl (PySem.W.codeRec_of inK hcd) (binds _ _ _ _ ?_)
  refine wpAny_newFunctionEnv_cells Sc.kind kinds fun env he s1 x => ?_
  subst he
  refine ⟨noLim.keeps x.toInCall.keep, codeAny_func ?_⟩
  have I : Inv (cxOf (L2.CX P w) P w K mg base N qual scope f cdv A outer s H E) [] (start N vs) H s1 := inv_start Sc room.hd env0 hl rel x
  have ht := hbody A outer s H E gd (room.deeper _) ⟨K, mg, B, H, th⟩ rfl rfl
  have RS0 := rel_start (g := ⟨K, mg, B, H, th⟩) (N := N) (m := m) R0 rd (by rw [hN, hl])
  refine wpAny_mono (ht.run [] s1 (start N vs) H { nx := fun _ H' => Q .non H', rt := Q } I ⟨th, _, S, RS0, ?_⟩) (fun fl s' hs => ?_) fun e s' hs => hs
  · unfold fnF at post
    cases e : F (ds.map some ++ List.replicate m none) S with
    | nx rho' S' =>
      rw [e] at post
      exact fun sg' H' th' R1 _ => post .non H' th' R1.relF (by simp only [RS, Rp])
    | rt d S' =>
      rw [e] at post
      exact fun v H' th' R1 r => post v H' th' R1 r
    | exc c a rho' S' =>
      rw [e] at post
      exact fun cls dv sg' H' th' R1 ec ed => post cls dv H' th' R1.relF ec (ed.sub fun a h => Avd.sub a h)
    | bk rho' S' => rw [e] at post; exact post.elim
    | ct rho' S' => rw [e] at post; exact post.elim
    | bad => rw [e] at post; exact post.elim
  · have fin : ∀ {σ' : L2.St} {H' : Hp} {v : V} {u : Value}, Inv (cxOf (L2.CX P w) P w K mg base N qual scope f cdv A outer s H E) [] σ' H' s' → RelV v u → Q v H' → CE outer P w H s Q u s' :=
      fun {σ' H' v u} J rv q => ⟨v, H', J.os, J.bare, J.base, J.hok, rv, q⟩
    cases fl with
    | ret u =>
      obtain ⟨v, σ', H', J, rv, q⟩ := hs
      exact fin J rv q
    | next =>
      obtain ⟨σ', H', J, q⟩ := hs
      exact fin (v := V.non) (u := Value.none) J rfl q
    | brk =>
      obtain ⟨_, _, _, q⟩ := hs
      exact q.elim
    | cont =>
      obtain ⟨_, _, _, q⟩ := hs
      exact q.elim
theorem amb_of {A : Around} {outer : List PySem.Env} {s : Shared} {H : Hp} {E : XK} (gd : (A.deeper (envOfC qual scope s.heap.objs.size f cdv)).guards = some []) (r : Room k (A.deeper (envOfC qual scope s.heap.objs.size f cdv))) : Amb (cxOf (L2.CX P w) P w K mg base N qual scope f cdv A outer s H E) :=
  ⟨gd, by have := r.un; show (A.deeper (envOfC qual scope s.heap.objs.size f cdv)).units + 150 < cLine; omega, r.hd⟩
end
end L3

/-! L3End -/
namespace L3
open PySem PySem.Spec PyProof.Rows L2 PySem.W

/-! ### the law's own call -/
theorem end_core {P : Program} {w : World} {K : PySem.W.Frag} {mg mb : Str → Option Value} {k : Nat} {fa a : Addr} {fd : FuncData} {x : Str} {s1 : Shared} {vs : List Value} {ns : List Int} {F : FF} {H : Hp}
    (inK : K.In s1.heap) (gM : s1.heap.Ns mainGlobals mg) (gB : s1.heap.Ns builtinsNs mb) (boot : ∀ x : Str, x ≠ "__name__" → mb x = bootBuiltins x) (noLim : s1.heap.NoLimit) (noGen : s1.gens = #[])
    (obj : s1.heap.get? a = some { cls := .type "list", data := .seq vs.toArray }) (room : Room k callerA) (gd : callerA.guards = some [])
    (G : ∀ base : Heap, K.In base → base.Ns mainGlobals mg → FnG P w K mg base k fa fd [x] (spL K mg 1 F)) (binds : ∀ (s : Shared) (u : Value), BindsTo s fd ⟨[u], []⟩ [(x, u)]) (good : ∃ S, F [.scr ns] [] = .ok (.dat (.bool true)) S)
    (only : ∀ b u, H b = some u → b = a ∧ ∃ o xs, u = .frz o (.lst xs)) (sc : ScA K H (fun _ => False ∨ False) a (ns.map V.int)) (hok : HOk P w H s1.heap) (apart : H a ≠ none → K.lookup a = none) :
    codeAny (model P w) callerA (.call (.ref fa) ⟨[.ref a], []⟩) (fun r s' => r = .ok (.ret (.bool true)) ∧ OldK s1.heap s'.heap ∧ s'.os = s1.os ∧ AllBare s'.gens) s1 := by
  have onlyA : ∀ b, H b ≠ none → b = a := fun b z => by
    cases e : H b with
    | none => exact (z e).elim
    | some u => exact (only b u e).1
  have untr : ∀ b : Addr, (∀ z : b = a, H a = none) → H b = none := fun b z => by
    cases e : H b with
    | none => rfl
    | some u =>
      have q := (only b u e).1
      have := z q
      rw [← q, e] at this
      cases this
  have dictFree : ∀ {b : Addr} {o : Obj} {es : Array DictEntry} {ep : Nat}, s1.heap.get? b = some o → o.data = .dict es ep → H b = none := fun {b o es ep} e d => untr b fun z => by
    subst z
    rw [obj] at e
    cases e
    have d' : Data.seq vs.toArray _ = Data.dict es ep := d
    cases d'
  have low : ∀ {b : Addr} {m : Str → Option Value}, s1.heap.Ns b m → (hidT s1.heap H).Ns b m := fun {b m} ⟨o, es, ep, e, d, r⟩ => ⟨o, es, ep, hidT_get e (dictFree e d), d, r⟩
  have inB : K.In (hidT s1.heap H) := fun b o e => hidT_get (inK b o e) (untr b fun z => by
    cases q : H a with
    | none => rfl
    | some u =>
      have := apart (by rw [q]; simp)
      rw [← z, e] at this
      cases this)
  obtain ⟨mc, hc1, hc2⟩ := noLim
  have md : Mod K mg (hidT s1.heap H) := ⟨inB, low gM, ⟨mb, low gB, boot⟩, mc, low hc1, hc2⟩
  have env0 : Env0 P w K mg (hidT s1.heap H) callerA [] s1 H := ⟨rfl, md, fun b o e => of_hidT e, Nat.le_of_eq (hidT_size _ _), trivial, fun b hb => absurd (show b ∈ ([] : List Addr) from hb) (by simp), hok, .of_eq noGen⟩
  obtain ⟨S, eF⟩ := good
  have wish : spL K mg 1 F [.ref a] H (fun v _ => v = .bl true) fun _ _ _ => False := by
    refine ⟨fun _ => False, [], [], [.scr ns], rfl, ⟨⟨.nil, List.prefix_refl _, fun _ m => (nomatch m), fun _ _ e _ => e, fun _ m => (nomatch m), fun _ b => b.elim, fun _ m => (nomatch m)⟩, ⟨rfl, fun n o a e => by simp at e⟩⟩, ?_, ?_⟩
    · refine ⟨.ref a, [], rfl, ⟨a, rfl, ?_⟩, rfl⟩
      rcases sc with ⟨_, o, e⟩ | q
      · exact .inl ⟨fun z => z.elim id fun z => (nomatch z), o, e⟩
      · exact .inr q
    · rw [eF]
      exact fun v H' th' _ r => by
        have : Rp K H' (Avf ⟨K, mg, fun _ => False, H, []⟩ th') (.bool true) v := r
        simpa only [Rp] using this
  refine codeAny_mono ((G _ inB (low gM)).run callerA [] s1 H ⟨[.ref a], []⟩ [.ref a] [.ref a] _ _ room gd env0 (binds s1 (.ref a)) (.cons rfl .nil) wish) fun r s' h => ?_
  cases r with
  | error e =>
    obtain ⟨_, _, _, _, _, _, _, _, _, _, _, _, z⟩ := h
    exact z.elim
  | ok fl =>
    cases fl with
    | next => exact False.elim h
    | brk => exact False.elim h
    | cont => exact False.elim h
    | ret u =>
      obtain ⟨v, H', os, bare, un, hok', r', q⟩ := h
      have q' : v = .bl true := q
      subst q'
      obtain rfl : u = Value.bool true := r'
      refine ⟨rfl, OldK.of_keep fun b o e => ?_, os, bare⟩
      cases q : H b with
      | none => exact un.keep b o e q (by intro z; exact absurd (show b ∈ ([] : List Addr) from z) (by simp)) (by simp)
      | some u =>
        obtain ⟨_, ob, xs, rfl⟩ := only b u q
        obtain ⟨e1, _⟩ := hok b _ q
        obtain ⟨e2, _⟩ := hok' b _ (un.frzs b ob _ q)
        rw [e] at e1
        cases e1
        exact e2
theorem end_call {P : Program} {w : World} {K : PySem.W.Frag} {mg mb : Str → Option Value} {k : Nat} {fa a : Addr} {fd : FuncData} {x : Str} {s1 : Shared} {vs : List Value} {ns : List Int} {F : FF}
    (inK : K.In s1.heap) (gM : s1.heap.Ns mainGlobals mg) (gB : s1.heap.Ns builtinsNs mb) (boot : ∀ x : Str, x ≠ "__name__" → mb x = bootBuiltins x) (noLim : s1.heap.NoLimit) (noGen : s1.gens = #[])
    (obj : s1.heap.get? a = some { cls := .type "list", data := .seq vs.toArray }) (hi : IntsAre vs ns) (hl : ns.length ≤ sizeLine) (room : Room k callerA) (gd : callerA.guards = some [])
    (G : ∀ base : Heap, K.In base → base.Ns mainGlobals mg → FnG P w K mg base k fa fd [x] (spL K mg 1 F)) (binds : ∀ (s : Shared) (u : Value), BindsTo s fd ⟨[u], []⟩ [(x, u)]) (good : ∃ S, F [.scr ns] [] = .ok (.dat (.bool true)) S) :
    codeAny (model P w) callerA (.call (.ref fa) ⟨[.ref a], []⟩) (fun r s' => r = .ok (.ret (.bool true)) ∧ OldK s1.heap s'.heap ∧ s'.os = s1.os ∧ AllBare s'.gens) s1 := by
  have rv := vals_ints hi
  cases hk : K.lookup a with
  | some o =>
    have e := inK a o hk
    rw [obj] at e
    cases e
    exact end_core (H := fun _ => none) inK gM gB boot noLim noGen obj room gd G binds good (fun b u z => by cases z) (.inr ⟨_, vs.toArray, _, hk, rfl, rfl, rfl, by rw [List.size_toArray, hi.length]; exact hl, by simpa using rv⟩)
      (fun b u z => by cases z) fun z => absurd rfl z
  | none =>
    refine end_core (H := fun b => if b = a then some (.frz { cls := .type "list", data := .seq vs.toArray } (.lst (ns.map V.int))) else none) inK gM gB boot noLim noGen obj room gd G binds good (fun b u z => ?_) (.inl ⟨fun z => z.elim id id, _, if_pos rfl⟩) (fun b u z => ?_) fun _ => hk
    · by_cases hb : b = a
      · rw [if_pos hb] at z
        exact ⟨hb, _, _, (Option.some.inj z).symm⟩
      · rw [if_neg hb] at z
        cases z
    · by_cases hb : b = a
      · subst hb
        have z' := (if_pos rfl).symm.trans z
        cases z'
        exact ⟨obj, by rw [List.length_map]; exact hl, vs, _, rv, obj⟩
      · have z' := (if_neg hb).symm.trans z
        cases z'
/-- the goal that the head leaves -/
theorem walk_g {l : PySem.W.OpenLaw} {n k : Nat} {q : Program} {loose : List Str} {XP : (Str → Option Value) → Heap → Prop} {YP : World → Heap → Prop} {d : DefRec} {K : Params → PySem.W.Frag} {x : Str} {F : FF}
    (most : l.most = some n) (hn2 : n ≤ sizeLine) (nodef : d.params.defaults = []) (room : Room k callerA) (gd : callerA.guards = some [])
    (inK : ∀ (w : World) (h : Heap), YP w h → (K w.params).In h)
    (G : ∀ (w : World) (mg : Str → Option Value) (fa : Addr) (h : Heap), (K w.params).In h → h.Ns mainGlobals mg → mg d.name = some (.ref fa) →
      ∃ fd : FuncData, (∀ (s : Shared) (u : Value), BindsTo s fd ⟨[u], []⟩ [(x, u)]) ∧
        ∀ base : Heap, (K w.params).In base → base.Ns mainGlobals mg → FnG l.prog w (K w.params) mg base k fa fd [x] (spL (K w.params) mg 1 F))
    (good : ∀ ns : List Int, ns.length ≤ n → ∃ S, F [.scr ns] [] = .ok (.dat (.bool true)) S) :
    PySem.W.WalkO q loose XP YP l.row.toRowW d [] (fun f vs => PySem.call f vs) := by
  refine Att.attach_call most nodef fun w s0 s1 mg mb fa o pm cd doc a vs ns Gr Y ho hd hcd hmg hobj hints hlen hg => ?_
  have KX := inK w _ Y
  obtain ⟨fd, hb, hF⟩ := G w mg fa _ KX Gr.T.g hmg
  exact end_call KX Gr.T.g Gr.T.b Gr.T.builtins Gr.T.nolimit hg hobj hints (Nat.le_trans hlen hn2) room gd hF hb (good ns hlen)
end L3

/-! L3Iter -/
namespace L3
open PySem PySem.Spec PyProof.Rows L2

/-! ### strings, zip, enumerate -/
def chrsD (x : Str) : List PyData := x.cps.toList.map fun c => .str ⟨#[c]⟩
theorem it_str {wk : Bool} {K : PySem.W.Frag} {x : Str} : ItL wk K (Its x) (chrsD x) (fun _ _ => True) where
  stay := fun _ _ _ _ _ _ => True.intro
  go := fun i d H A _ e => by
    have := (List.getElem?_eq_some_iff.mp e).1
    unfold chrsD at this
    rw [List.length_map, Array.length_toList] at this
    exact this
  yld := fun i d H A y H' _ e ⟨e1, c, ec, ey⟩ => by
    unfold chrsD at e
    rw [List.getElem?_map, Option.map_eq_some_iff] at e
    obtain ⟨c', e2, rfl⟩ := e
    rw [Array.getElem?_toList] at e2
    rw [ec] at e2
    cases e2
    exact .inl ⟨e1, .inl (by simp only [Rp]; exact ey)⟩
  stop := fun i H A _ h => by
    unfold chrsD at h
    rw [List.length_map, Array.length_toList] at h
    exact h
def zipD (ds es : List PyData) : List PyData := (ds.zip es).map fun p => .tuple [p.1, p.2]
theorem zip_at {ds es : List PyData} {i : Nat} {d : PyData} (e : (zipD ds es)[i]? = some d) : ∃ a b, ds[i]? = some a ∧ es[i]? = some b ∧ d = .tuple [a, b] := by
  unfold zipD at e
  rw [List.getElem?_map, Option.map_eq_some_iff] at e
  obtain ⟨⟨a, b⟩, e1, rfl⟩ := e
  rw [List.getElem?_zip_eq_some] at e1
  exact ⟨a, b, e1.1, e1.2, rfl⟩
theorem zip_len {ds es : List PyData} {i : Nat} (h : (zipD ds es).length ≤ i) : ds.length ≤ i ∨ es.length ≤ i := by
  unfold zipD at h
  rw [List.length_map, List.length_zip] at h
  omega
theorem kp_new {H : Hp} {A : Av} {p : Addr} {u : HO} (n : H p = none) : Kp H A (L2.upd H p u) A := fun a o e q => ⟨by rw [upd_ne (ne_of_none e n)]; exact e, q⟩
theorem it_zipT {K : PySem.W.Frag} {a b : Addr} {ds es : List PyData} : ItL true K (RZ.ItzT K a b) (zipD ds es) (fun H A => ∃ xs ys, TpA (keyB ds) K H A a xs ∧ RpL K H A ds xs ∧ TpA (keyB es) K H A b ys ∧ RpL K H A es ys) where
  stay := fun H A H' A' ⟨xs, ys, l, r, l2, r2⟩ k => ⟨xs, ys, l.kp k, RpL.kp k ds xs r, l2.kp k, RpL.kp k es ys r2⟩
  go := fun i d H A ⟨xs, ys, l, r, l2, r2⟩ e => by
    obtain ⟨p, q, e1, e2, _⟩ := zip_at e
    obtain ⟨x, ex, _⟩ := r.get e1
    obtain ⟨y, ey, _⟩ := r2.get e2
    exact ⟨xs, ys, x, y, l.sq, l2.sq, ex, ey⟩
  yld := fun i d H A v H' ⟨xs, ys, l, r, l2, r2⟩ e ⟨T, x, y, ev, nT, eH, f1, f2⟩ => by
    obtain ⟨p, q, e1, e2, rfl⟩ := zip_at e
    obtain ⟨x', ex, rx⟩ := r.get e1
    obtain ⟨y', ey, ry⟩ := r2.get e2
    have h1 := f1 xs l.sq
    have h2 := f2 ys l2.sq
    rw [ex] at h1
    rw [ey] at h2
    cases h1
    cases h2
    subst ev eH
    refine .inr ⟨T, _, nT, rfl, fun nA => ?_⟩
    exact .inr ⟨rfl, _, T, _, rfl, rfl, upd_same, .cons (Rp.kp (kp_new nT) p _ rx) (.one (Rp.kp (kp_new nT) q _ ry))⟩
  stop := fun i H A ⟨xs, ys, l, r, l2, r2⟩ h => ⟨xs, ys, l.sq, l2.sq, by rw [r.len, r2.len]; exact zip_len h⟩
theorem it_zipL {K : PySem.W.Frag} {a b : Addr} {ds es : List PyData} : ItL true K (Itz K a b) (zipD ds es) (fun H A => ∃ xs ys, LsA K H A a xs ∧ RpL K H A ds xs ∧ LsA K H A b ys ∧ RpL K H A es ys) where
  stay := fun H A H' A' ⟨xs, ys, l, r, l2, r2⟩ k => ⟨xs, ys, l.kp k, RpL.kp k ds xs r, l2.kp k, RpL.kp k es ys r2⟩
  go := fun i d H A ⟨xs, ys, l, r, l2, r2⟩ e => by
    obtain ⟨p, q, e1, e2, _⟩ := zip_at e
    obtain ⟨x, ex, _⟩ := r.get e1
    obtain ⟨y, ey, _⟩ := r2.get e2
    exact ⟨xs, ys, x, y, l.sq, l2.sq, ex, ey⟩
  yld := fun i d H A v H' ⟨xs, ys, l, r, l2, r2⟩ e ⟨T, x, y, ev, nT, eH, f1, f2⟩ => by
    obtain ⟨p, q, e1, e2, rfl⟩ := zip_at e
    obtain ⟨x', ex, rx⟩ := r.get e1
    obtain ⟨y', ey, ry⟩ := r2.get e2
    have h1 := f1 xs l.sq
    have h2 := f2 ys l2.sq
    rw [ex] at h1
    rw [ey] at h2
    cases h1
    cases h2
    subst ev eH
    refine .inr ⟨T, _, nT, rfl, fun nA => ?_⟩
    exact .inr ⟨rfl, _, T, _, rfl, rfl, upd_same, .cons (Rp.kp (kp_new nT) p _ rx) (.one (Rp.kp (kp_new nT) q _ ry))⟩
  stop := fun i H A ⟨xs, ys, l, r, l2, r2⟩ h => ⟨xs, ys, l.sq, l2.sq, by rw [r.len, r2.len]; exact zip_len h⟩
def iStrs (f : EF) : NF := fun rho S => (f rho S).bind fun a S1 => match a with
  | .dat (.str x) => .ok (chrsD x) S1
  | _ => .bad
def iZips (r : AF) : NF := fun rho S => (r rho S).bind fun as S1 => match as with
  | [.dat (.tuple ds), .dat (.tuple es)] => .ok (zipD ds es) S1
  | [.dat (.list ds), .dat (.list es)] => .ok (zipD ds es) S1
  | _ => .bad
section
variable {X : Cx} {W : WX} {tg e e2 : Expr} {f : EF} {r : AF} {pos p tpos : Pos} {elts : List Expr} {kk : Nat}
theorem li_str (he : LE X W e f) : LI X W tg e (iStrs f) := fun g hK hm => (pi_str (he g hK hm)).of fun sg H Q ⟨th, rho, S, R0, q⟩ =>
  tL.iter (k := fun (a : L3.D) rho S1 => match a with
    | .dat (.str x) => R.ok (chrsD x) S1
    | _ => R.bad) R0 q fun a S1 v H1 th1 _ R1 _ r q => by
      cases a with
      | dat d => cases d with
        | str x =>
          have ev : v = .str x := by simpa only [RD, Rp] using r
          exact ⟨x, ev, q _ H1 th1 _ R1 (.refl _ _) it_str True.intro⟩
        | _ => exact q.elim
      | _ => exact q.elim
theorem li_zip (hm0 : X.mg "zip" = none) (ha : LA' X W [e, e2] r) (hg : Gl X "zip") (hs : starEach [e, e2] X.env = (false, eval e X.env) :: starEach [e2] X.env := by rfl) (hpl : (backTo pos (starEach [e2] X.env)).any (·.1) = false := by rfl) :
    LI X W (.Tuple elts kk tpos) (.Call (.Name "zip" p) [e, e2] [] pos) (iZips r) := fun g hK hm => (RZ.pi_zipA hg hm0 (ha g hK hm) hs hpl).of fun sg H Q ⟨th, rho, S, R0, q⟩ =>
  tL.iter (k := fun (as : List L3.D) rho S1 => match as with
    | [.dat (.tuple ds), .dat (.tuple es)] => R.ok (zipD ds es) S1
    | [.dat (.list ds), .dat (.list es)] => R.ok (zipD ds es) S1
    | _ => R.bad) R0 q fun as S1 vs H1 th1 _ R1 _ r q => by
      split at q
      · next ds es =>
        obtain ⟨v1, t1, rfl, r1, v2, t2, rfl, r2, e0⟩ := r
        have e0' : t2 = [] := e0
        subst e0'
        obtain ⟨a, xs, rfl, l, rl⟩ := rd_tup.mp r1
        obtain ⟨b, ys, rfl, l2, rl2⟩ := rd_tup.mp r2
        exact ⟨a, b, xs, ys, rfl, .inr ⟨by rw [← hK]; exact l.sq, by rw [← hK]; exact l2.sq, by rw [← hK]; exact q _ H1 th1 _ R1 (.refl _ _) it_zipT ⟨xs, ys, l, rl, l2, rl2⟩⟩⟩
      · next ds es =>
        obtain ⟨v1, t1, rfl, r1, v2, t2, rfl, r2, e0⟩ := r
        have e0' : t2 = [] := e0
        subst e0'
        obtain ⟨a, xs, rfl, l, rl⟩ := rd_lst.mp r1
        obtain ⟨b, ys, rfl, l2, rl2⟩ := rd_lst.mp r2
        exact ⟨a, b, xs, ys, rfl, .inl ⟨by rw [← hK]; exact l.sq, by rw [← hK]; exact l2.sq, by rw [← hK]; exact q _ H1 th1 _ R1 (.refl _ _) it_zipL ⟨xs, ys, l, rl, l2, rl2⟩⟩⟩
      · exact q.elim
end
end L3

/-! L3Dict -/
namespace L3
open PySem PySem.Spec PyProof.Rows L2

/-! ### keys -/
def asKey : PyData → Option Key
  | .int i => some (.inl i)
  | .str x => some (.inr x)
  | _ => none
def asKeyL : List PyData → Option (List Key)
  | [] => some []
  | d :: r => match asKey d, asKeyL r with
    | some q, some s => some (q :: s)
    | _, _ => none
def asKeys : PyData → Option (List Key)
  | .tuple ds => asKeyL ds
  | _ => none
theorem asKey_D : ∀ q : Key, asKey (keyD q) = some q
  | .inl _ => rfl
  | .inr _ => rfl
theorem asKey_of : ∀ {d : PyData} {q : Key}, asKey d = some q → d = keyD q
  | .int i, q, e => by cases e; rfl
  | .str x, q, e => by cases e; rfl
  | .none, _, e => by cases e
  | .bool _, _, e => by cases e
  | .list _, _, e => by cases e
  | .tuple _, _, e => by cases e
  | .dict _, _, e => by cases e
theorem asKeyL_D : ∀ qs : List Key, asKeyL (qs.map keyD) = some qs
  | [] => rfl
  | q :: r => by simp only [List.map_cons, asKeyL, asKey_D, asKeyL_D r]
theorem asKeyL_of : ∀ {ds : List PyData} {qs : List Key}, asKeyL ds = some qs → ds = qs.map keyD
  | [], qs, e => by cases e; rfl
  | d :: r, qs, e => by
    simp only [asKeyL] at e
    cases e1 : asKey d with
    | none => rw [e1] at e; cases e
    | some q =>
      cases e2 : asKeyL r with
      | none => rw [e1, e2] at e; cases e
      | some s =>
        rw [e1, e2] at e
        cases e
        rw [asKey_of e1, asKeyL_of e2]
        rfl
theorem asKeys_D (qs : List Key) : asKeys (.tuple (qs.map keyD)) = some qs := asKeyL_D qs
theorem rp_key {K : PySem.W.Frag} {H : Hp} {A : Av} : ∀ {q : Key} {v : V}, Rp K H A (keyD q) v → v = kV q
  | .inl i, v, h => by
    simp only [keyD, Rp] at h
    exact h
  | .inr x, v, h => by
    simp only [keyD, Rp] at h
    exact h
theorem rp_ofKey {K : PySem.W.Frag} {H : Hp} {A : Av} : ∀ {q : Key}, Rp K H A (keyD q) (kV q)
  | .inl i => by simp only [keyD, kV, Rp]
  | .inr x => by simp only [keyD, kV, Rp]
theorem rpl_keys {K : PySem.W.Frag} {H : Hp} {A : Av} : ∀ {qs : List Key} {vs : List V}, RpL K H A (qs.map keyD) vs → vs = qs.map kV
  | [], vs, h => by simp only [List.map_nil, RpL] at h; exact h
  | q :: r, vs, h => by
    simp only [List.map_cons, RpL] at h
    obtain ⟨x, s, rfl, p, t⟩ := h
    rw [rp_key p, rpl_keys t]
    rfl
def kFind {κ : Type} [DecidableEq κ] (f : PyData → Option κ) (kvs : List (PyData × PyData)) (q : κ) : Option PyData := (kvs.find? fun p => decide (f p.1 = some q)).map (·.2)
def dget (kvs : List (PyData × PyData)) (k : PyData) : Option (Option PyData) := match asKey k with
  | some q => if (kvs.all fun p => (asKey p.1).isSome) = true then some (kFind asKey kvs q) else none
  | none => match asKeys k with
    | some q => if (kvs.all fun p => (asKeys p.1).isSome) = true then some (kFind asKeys kvs q) else none
    | none => none
def RpO (K : PySem.W.Frag) (H : Hp) (A : Av) : Option PyData → Option V → Prop
  | none, o => o = none
  | some d, o => ∃ v, o = some v ∧ Rp K H A d v
theorem RpK.find {K : PySem.W.Frag} {H : Hp} {A : Av} (q : Key) : ∀ {kvs : List (PyData × PyData)} {ks : List (Key × V)}, RpK K H A kvs ks → RpO K H A (kFind asKey kvs q) (valV ks q)
  | [], ks, h => by simp only [RpK] at h; subst h; rfl
  | (k, d) :: r, ks, h => by
    simp only [RpK] at h
    obtain ⟨q', v, s, rfl, rfl, p, t⟩ := h
    unfold kFind
    rw [List.find?_cons, asKey_D]
    by_cases e : q' = q
    · subst e
      rw [valV_pos rfl]
      simp only [decide_true]
      exact ⟨v, rfl, p⟩
    · rw [valV_neg e, show decide (some q' = some q) = false from decide_eq_false fun z => e (Option.some.inj z)]
      exact RpK.find q t
theorem RpT.find {K : PySem.W.Frag} {H : Hp} {A : Av} (q : List Key) : ∀ {kvs : List (PyData × PyData)} {ks : List (List Key × V)}, RpT K H A kvs ks → RpO K H A (kFind asKeys kvs q) (valV ks q)
  | [], ks, h => by simp only [RpT] at h; subst h; rfl
  | (k, d) :: r, ks, h => by
    simp only [RpT] at h
    obtain ⟨q', v, s, rfl, rfl, p, t⟩ := h
    unfold kFind
    rw [List.find?_cons, asKeys_D]
    by_cases e : q' = q
    · subst e
      rw [valV_pos rfl]
      simp only [decide_true]
      exact ⟨v, rfl, p⟩
    · rw [valV_neg e, show decide (some q' = some q) = false from decide_eq_false fun z => e (Option.some.inj z)]
      exact RpT.find q t
theorem asKey_tup (ds : List PyData) : asKey (.tuple ds) = none := rfl
theorem asKeys_key : ∀ q : Key, asKeys (keyD q) = none
  | .inl _ => rfl
  | .inr _ => rfl
section
variable {X : Cx} {pins : List (Addr × Obj)} {σ : L2.St} {H : Hp} {s : Shared} {A0 : Av} {kvs : List (PyData × PyData)} {k : PyData} {o : Option PyData} {a : Addr} {y : V} {u : Value}
/-- what a look-up of a dict meets -/
structure Look (X : Cx) (s : Shared) (H : Hp) (A0 : Av) (a : Addr) (u : Value) (o : Option PyData) : Prop where
  nsm : (a == sysModules) = false
  ty : s.TypeIs (.ref a) "dict"
  nod : ∀ b, Value.ref a = .ref b → ∃ ob, s.heap.get? b = some ob ∧ ob.dict = none
  at_ : ∃ ov : Option V, RpO X.K H A0 o ov ∧ ((∃ q vs, (mixKind X.prog X.w).is q u = true ∧ s.heap.DictOf (mixKind X.prog X.w) a vs ∧ RelO ov (valueAt vs q)) ∨
    ∃ b q xs, u = .ref b ∧ (tupleKind (mixKind X.prog X.w)).is s.heap q b ∧ s.heap.DictOfH (tupleKind (mixKind X.prog X.w)) a xs ∧ RelO ov ((atKey xs q).map (·.2)))
theorem isD_of (rd : Rp X.K H A0 (.dict kvs) (.ref a)) : IsD H a := by
  simp only [Rp] at rd
  obtain ⟨b, e, _, h⟩ := rd
  cases e
  rcases h with ⟨ks, h, _⟩ | ⟨ks, h, _⟩
  · exact .inl ⟨ks, .inl h⟩
  · exact .inr ⟨ks, .inl h⟩
theorem look (I : Inv X pins σ H s) (rd : Rp X.K H A0 (.dict kvs) (.ref a)) (rk : Rp X.K H A0 k y) (ry : RelV y u) (e : dget kvs k = some o) : Look X s H A0 a u o := by
  obtain ⟨t1, t2, t3⟩ := isD_at I (isD_of rd)
  refine ⟨t3, t1, t2, ?_⟩
  simp only [Rp] at rd
  obtain ⟨b, eb, _, h⟩ := rd
  cases eb
  unfold dget at e
  cases ek : asKey k with
  | some q =>
    simp only [ek] at e
    split at e
    case isFalse => cases e
    rename_i hall
    cases Option.some.inj e
    rw [asKey_of ek] at rk
    rw [rp_key rk] at ry
    rcases h with ⟨ks, hk, r⟩ | ⟨ks, hk, r⟩
    · obtain ⟨_, _, vs, rel, dd⟩ := dk_of I.hok hk
      exact ⟨valV ks q, r.find q, .inl ⟨q, vs, kV_is ry, dd, rel.val q⟩⟩
    · cases kvs with
      | cons p r' =>
        simp only [RpT] at r
        obtain ⟨q', v, s', _, e2, _⟩ := r
        simp only [List.all_cons, Bool.and_eq_true, e2, asKey_tup] at hall
        exact absurd hall.1 (by simp)
      | nil =>
        simp only [RpT] at r
        subst r
        obtain ⟨_, _, xs, rel, ob, es, ep, h1, h2, h3, h4, h5, h6⟩ := dt_of I.hok hk
        cases rel
        have hes : es = #[] := by simpa using h4
        subst hes
        exact ⟨none, rfl, .inl ⟨q, [], kV_is ry, ⟨ob, #[], ep, h1, h2, h3, by intro e' he; simp at he, .nil, by simp⟩, True.intro⟩⟩
  | none =>
    simp only [ek] at e
    cases ek2 : asKeys k with
    | none => rw [ek2] at e; cases e
    | some q =>
      simp only [ek2] at e
      split at e
      case isFalse => cases e
      rename_i hall
      cases Option.some.inj e
      have hkd : k = .tuple (q.map keyD) := by
        cases k with
        | tuple ds => rw [asKeyL_of (show asKeyL ds = some q from ek2)]
        | _ => cases ek2
      subst hkd
      simp only [Rp] at rk
      obtain ⟨c, xs, rfl, l, rl⟩ := rk
      rw [rpl_keys rl] at l
      obtain ⟨its, rv, ⟨oc, g1, g2, n, g3⟩, _⟩ := I.tuple l.sq
      obtain rfl : u = Value.ref c := ry
      have his : (tupleKind (mixKind X.prog X.w)).is s.heap q c := ⟨oc, its.toArray, n, g1, g2, g3, by simpa using items_are rv⟩
      rcases h with ⟨ks, hk, r⟩ | ⟨ks, hk, r⟩
      · cases kvs with
        | cons p r' =>
          simp only [RpK] at r
          obtain ⟨q', v, s', _, e2, _⟩ := r
          simp only [List.all_cons, Bool.and_eq_true, e2, asKeys_key] at hall
          exact absurd hall.1 (by simp)
        | nil =>
          simp only [RpK] at r
          subst r
          obtain ⟨_, _, vs, rel, ob, es, ep, h1, h2, h3, h4, h5, h6⟩ := dk_of I.hok hk
          cases rel
          have hes : es = #[] := by
            have : es.toList.length = 0 := h5.length
            rw [Array.length_toList] at this
            exact Array.eq_empty_of_size_eq_zero this
          subst hes
          exact ⟨none, rfl, .inr ⟨c, q, [], rfl, his, ⟨ob, #[], ep, h1, h2, h3, rfl, fun x hx => (nomatch hx), List.nodup_nil⟩, True.intro⟩⟩
      · obtain ⟨_, _, xs, rel, dd⟩ := dt_of I.hok hk
        exact ⟨valV ks q, r.find q, .inr ⟨c, q, xs, rfl, his, dd, rel.val q⟩⟩
variable {A : Around} {E : Value → Shared → Prop}
theorem Look.get {d : PyData} {Q : Value → Shared → Prop} (hu : A.units + 1 < cLine) (I : Inv X pins σ H s) (l : Look X s H A0 a u (some d)) (h : ∀ v w' s', Inv X pins σ H s' → RelV v w' → Rp X.K H A0 d v → Q w' s') : wpAny (model X.prog X.w) A (getItem (.ref a) u) Q E s := by
  obtain ⟨ov, ⟨v, rfl, rp⟩, c⟩ := l.at_
  rcases c with ⟨q, vs, k1, dd, r⟩ | ⟨b, q, xs, rfl, k1, dd, r⟩
  · cases hv : valueAt vs q with
    | none => rw [hv] at r; exact r.elim
    | some w' => rw [hv] at r; exact wpAny_getItem_of k1 dd.mapOf hv (h v w' _ (I.tok _) r rp)
  · cases hv : atKey xs q with
    | none => rw [hv] at r; exact r.elim
    | some p => rw [hv] at r; exact wpAny_getItem_heap (tupleKind_room_in1 hu) k1 dd hv (h v p.2 _ (I.tok _) r rp)
theorem RpO.some {K : PySem.W.Frag} {ov : Option V} (h : RpO K H A0 o ov) : ov.isSome = o.isSome := by
  cases o with
  | none => rw [show ov = none from h]; rfl
  | some d => obtain ⟨v, rfl, _⟩ := h; rfl
theorem Look.in_ {Q : Value → Shared → Prop} (hu : A.units + 1 < cLine) (I : Inv X pins σ H s) (l : Look X s H A0 a u o) (h : ∀ s', Inv X pins σ H s' → Q (.bool o.isSome) s') : wpAny (model X.prog X.w) A (compareOp .In u (.ref a)) Q E s := by
  obtain ⟨ov, rp, c⟩ := l.at_
  rw [← rp.some] at h
  rcases c with ⟨q, vs, k1, dd, r⟩ | ⟨b, q, xs, rfl, k1, dd, r⟩
  · refine wpAny_in_of k1 l.nsm dd.mapOf ?_
    rw [← r.isSome_eq]
    exact h _ (I.tok _)
  · refine wpAny_in_heap (tupleKind_room_in1 hu) k1 l.nsm dd ?_
    have z := r.isSome_eq
    rw [Option.isSome_map] at z
    rw [← z]
    exact h _ (I.tok _)
theorem Look.notin {Q : Value → Shared → Prop} (hu : A.units + 1 < cLine) (I : Inv X pins σ H s) (l : Look X s H A0 a u o) (h : ∀ s', Inv X pins σ H s' → Q (.bool (!o.isSome)) s') : wpAny (model X.prog X.w) A (compareOp .NotIn u (.ref a)) Q E s := by
  obtain ⟨ov, rp, c⟩ := l.at_
  rw [← rp.some] at h
  rcases c with ⟨q, vs, k1, dd, r⟩ | ⟨b, q, xs, rfl, k1, dd, r⟩
  · refine wpAny_notIn_of k1 l.nsm dd.mapOf ?_
    rw [← r.isSome_eq]
    exact h _ (I.tok _)
  · refine wpAny_notIn_heap (tupleKind_room_in1 hu) k1 l.nsm dd ?_
    have z := r.isSome_eq
    rw [Option.isSome_map] at z
    rw [← z]
    exact h _ (I.tok _)
theorem Look.rel {K : PySem.W.Frag} {ov : Option V} {dv : PyData} {z : V} (h : RpO K H A0 o ov) (rz : Rp K H A0 dv z) : Rp K H A0 (o.getD dv) (ov.getD z) := by
  cases o with
  | none => rw [show ov = none from h]; exact rz
  | some d => obtain ⟨v, rfl, p⟩ := h; exact p
theorem Look.get1 {Q : Value → Shared → Prop} (hu : A.units + 1 < cLine) (I : Inv X pins σ H s) (l : Look X s H A0 a u o) (h : ∀ v w' s', Inv X pins σ H s' → RelV v w' → Rp X.K H A0 (o.getD .none) v → Q w' s') : wpAny (model X.prog X.w) A (call (.builtin "dict.get") [.ref a, u]) Q E s := by
  obtain ⟨ov, rp, c⟩ := l.at_
  have rz := Look.rel rp (dv := .none) (z := .non) (by simp only [Rp])
  rcases c with ⟨q, vs, k1, dd, r⟩ | ⟨b, q, xs, rfl, k1, dd, r⟩
  · exact call_meetsIn PySem.F.slot_dict_get l.ty PySem.F.entry_dict_get (PySem.F.args_dict_get_2 _ _) (meets_dict_get (mixKind X.prog X.w) a k1 l.nsm) ⟨_, dd.mapOf, h _ _ _ (I.tok _) (r.getD (show RelV .non .none from rfl)) rz⟩
  · exact call_meetsIn PySem.F.slot_dict_get l.ty PySem.F.entry_dict_get (PySem.F.args_dict_get_2 _ _) (meetsH_dict_get (tupleKind (mixKind X.prog X.w)) a b l.nsm) ⟨tupleKind_room_in1 hu, q, xs, k1, dd, h _ _ _ (I.tok _) (r.getD (show RelV .non .none from rfl)) rz⟩
theorem Look.get2 {Q : Value → Shared → Prop} {dv : PyData} {z : V} {r' : Value} (hu : A.units + 1 < cLine) (I : Inv X pins σ H s) (l : Look X s H A0 a u o) (rz : Rp X.K H A0 dv z) (rr : RelV z r') (h : ∀ v w' s', Inv X pins σ H s' → RelV v w' → Rp X.K H A0 (o.getD dv) v → Q w' s') : wpAny (model X.prog X.w) A (call (.builtin "dict.get") [.ref a, u, r']) Q E s := by
  obtain ⟨ov, rp, c⟩ := l.at_
  have rz := Look.rel rp rz
  rcases c with ⟨q, vs, k1, dd, r⟩ | ⟨b, q, xs, rfl, k1, dd, r⟩
  · exact call_meetsIn PySem.F.slot_dict_get l.ty PySem.F.entry_dict_get (PySem.F.args_dict_get_3 _ _ _) (meets_dict_get_default (mixKind X.prog X.w) a k1 l.nsm r') ⟨_, dd.mapOf, h _ _ _ (I.tok _) (r.getD rr) rz⟩
  · exact call_meetsIn PySem.F.slot_dict_get l.ty PySem.F.entry_dict_get (PySem.F.args_dict_get_3 _ _ _) (meetsH_dict_get_default (tupleKind (mixKind X.prog X.w)) a b l.nsm r') ⟨tupleKind_room_in1 hu, q, xs, k1, dd, h _ _ _ (I.tok _) (r.getD rr) rz⟩
end

/-! ### d[k], d.get(k), k in d -/
def dixD : O2 := fun a k => match a, k with
  | .dat (.dict kvs), .dat k => match dget kvs k with
    | some (some d) => some (.dat d)
    | _ => none
  | _, _ => none
def dinD (f : Bool → Bool) : O2 := fun k a => match a, k with
  | .dat (.dict kvs), .dat k => match dget kvs k with
    | some o => some (.dat (.bool (f o.isSome)))
    | _ => none
  | _, _ => none
def get1K (kvs : List (PyData × PyData)) (k : D) (S : Store) : R D := match k with
  | .dat k => (match dget kvs k with
    | some o => .ok (.dat (o.getD .none)) S
    | none => .bad)
  | _ => .bad
def onDict (a : D) (c : List (PyData × PyData) → R D) : R D := match a with
  | .dat (.dict kvs) => c kvs
  | _ => .bad
def eDget1 (f h : EF) : EF := fun rho S => (f rho S).bind fun a S1 => onDict a fun kvs => (h rho S1).bind fun k S2 => get1K kvs k S2
def get2K (kvs : List (PyData × PyData)) (k z : D) (S : Store) : R D := match k, z with
  | .dat k, .dat z => (match dget kvs k with
    | some o => .ok (.dat (o.getD z)) S
    | none => .bad)
  | _, _ => .bad
def eDget2 (f h j : EF) : EF := fun rho S => (f rho S).bind fun a S1 => onDict a fun kvs => (h rho S1).bind fun k S2 => (j rho S2).bind fun z S3 => get2K kvs k z S3
theorem on_dict {g : Gh} {W : WX} {th : List Addr} {rho : Sl} {sg : L2.St} {H : Hp} {a : D} {c : List (PyData × PyData) → R D} {Q : VK} (q : Post g W (relE g) th rho sg H (onDict a c) Q) : ∃ kvs, a = .dat (.dict kvs) ∧ Post g W (relE g) th rho sg H (c kvs) Q := by
  unfold onDict at q
  split at q
  · exact ⟨_, rfl, q⟩
  · exact q.elim
theorem dixD_some {a k d : D} (e : dixD a k = some d) : ∃ kvs q p, a = .dat (.dict kvs) ∧ k = .dat q ∧ dget kvs q = some (some p) ∧ d = .dat p := by
  unfold dixD at e
  split at e
  · split at e
    · next h => cases e; exact ⟨_, _, _, rfl, rfl, h, rfl⟩
    · cases e
  · cases e
theorem dinD_some {f : Bool → Bool} {a k d : D} (e : dinD f k a = some d) : ∃ kvs q o, a = .dat (.dict kvs) ∧ k = .dat q ∧ dget kvs q = some o ∧ d = .dat (.bool (f o.isSome)) := by
  unfold dinD at e
  split at e
  · split at e
    · next h => cases e; exact ⟨_, _, _, rfl, rfl, h, rfl⟩
    · cases e
  · cases e
section
variable {X : Cx} {W : WX} {o i e z : Expr} {f h j : EF} {pos apos cpos : Pos}
theorem l_dix (am : Amb X) (ho : LE X W o f) (hi : LE X W i h) (hs : NoSl i := by exact fun _ _ => rfl) : LE X W (.Subscript o i pos) (eBin dixD f h) := fun g hK hm => ⟨fun pins s sg H Q I ⟨th, rho, S, R0, p⟩ => by
  refine subD_of PySem.F.slot_dict_getitem.lookup hs (thn ((ho g hK hm).run pins s sg H (fun x H1 => ∃ th1 rho S1 a, Rel g th1 rho S1 sg H1 ∧ RD g.K H1 (Avd g th1 rho sg) th1 a x ∧ Post g W (relE g) th1 rho sg H1 ((h rho S1).bind fun b S2 => match dixD a b with
    | some d => .ok d S2
    | none => .bad) Q) I ?_) fun u s1 ⟨x, H1, I1, rx, th1, rho1, S1, a, R1, r1, q⟩ => thn ((hi g hK hm).run pins s1 sg H1 (fun y H2 => ∃ th2 rho S2 b, Rel g th2 rho S2 sg H2 ∧ RD g.K H2 (Avd g th2 rho sg) th2 a x ∧ RD g.K H2 (Avd g th2 rho sg) th2 b y ∧ Post g W (relE g) th2 rho sg H2 (match dixD a b with
    | some d => .ok d S2
    | none => .bad) Q) I1 ?_) fun iv s2 ⟨y, H2, I2, ry, th2, rho2, S2, b, R2, r1', r2, q2⟩ => ?_)
  · exact tL.bind (k := fun a rho S1 => (h rho S1).bind fun b S2 => match dixD a b with
      | some d => .ok d S2
      | none => .bad) R0 p fun a S1 v H1 th1 _ R1 _ r q => ⟨th1, rho, S1, a, R1, r, q⟩
  · exact tL.bind (k := fun b rho S2 => match dixD a b with
      | some d => .ok d S2
      | none => .bad) R1 q fun b S2 v H2 th2 _ R2 x2 r q => ⟨th2, rho1, S2, b, R2, r1.ext x2, r, q⟩
  · cases e : dixD a b with
    | none => rw [e] at q2; exact q2.elim
    | some d =>
      rw [e] at q2
      obtain ⟨kvs, q, p, rfl, rfl, e2, rfl⟩ := dixD_some e
      have ra : Rp X.K H2 (Avd g th2 rho2 sg) (.dict kvs) x := by rw [← hK]; exact r1'
      obtain ⟨c, rfl⟩ : ∃ c, x = .ref c := by
        simp only [Rp] at ra
        obtain ⟨c, e, _⟩ := ra
        exact ⟨c, e⟩
      obtain rfl : u = Value.ref c := rx
      have l := look I2 ra (by rw [← hK]; exact r2) ry e2
      exact ⟨l.ty, l.get (by have := am.un; omega) I2 fun v w' s3 I3 rw' rp => ⟨v, H2, I3, rw', q2 v H2 th2 R2 (.refl _ _) (by show Rp g.K _ _ _ _; rw [hK]; exact rp)⟩⟩⟩
theorem dict_ref {K : PySem.W.Frag} {H : Hp} {A : Av} {kvs : List (PyData × PyData)} {x : V} (h : Rp K H A (.dict kvs) x) : ∃ c, x = .ref c := by
  simp only [Rp] at h
  obtain ⟨c, e, _⟩ := h
  exact ⟨c, e⟩
theorem o_din (am : Amb X) : OpL X (compareOp .In) (dinD id) := fun g hK hm pins s sg H x y u v Q I rx ry ⟨th, rho, S, sg', a, b, R0, r1, r2, q⟩ => by
  cases e : dinD id a b with
  | none => rw [e] at q; exact q.elim
  | some d =>
    rw [e] at q
    obtain ⟨kvs, k, o, rfl, rfl, e2, rfl⟩ := dinD_some e
    have rb : Rp X.K H (Avd g th rho sg') (.dict kvs) y := by rw [← hK]; exact r2
    obtain ⟨c, rfl⟩ := dict_ref rb
    obtain rfl : v = Value.ref c := ry
    exact (look I rb (by rw [← hK]; exact r1) rx e2).in_ (by have := am.un; omega) I fun s3 I3 => ⟨.bl o.isSome, H, I3, rfl, Fin.rd q R0 (by simp only [RD, Rp]; rfl)⟩
theorem o_dnin (am : Amb X) : OpL X (compareOp .NotIn) (dinD not) := fun g hK hm pins s sg H x y u v Q I rx ry ⟨th, rho, S, sg', a, b, R0, r1, r2, q⟩ => by
  cases e : dinD not a b with
  | none => rw [e] at q; exact q.elim
  | some d =>
    rw [e] at q
    obtain ⟨kvs, k, o, rfl, rfl, e2, rfl⟩ := dinD_some e
    have rb : Rp X.K H (Avd g th rho sg') (.dict kvs) y := by rw [← hK]; exact r2
    obtain ⟨c, rfl⟩ := dict_ref rb
    obtain rfl : v = Value.ref c := ry
    exact (look I rb (by rw [← hK]; exact r1) rx e2).notin (by have := am.un; omega) I fun s3 I3 => ⟨.bl (!o.isSome), H, I3, rfl, Fin.rd q R0 (by simp only [RD, Rp])⟩
theorem l_dget1 (am : Amb X) (ho : LE X W o f) (he : LE X W e h) (hb : attributeBase o "get" X.env (eval o X.env) = eval o X.env := by rfl) (hl : (apos.endLine == cpos.line) = true := by rfl)
    (hf : ((backTo cpos (starEach [e] X.env)).all (fun x => !x.1) && (backToKw cpos (keywordEach [] X.env)).all (fun x => x.1.isSome) && decide (([e] : List Expr).length + ([] : List Keyword).length + (if ([] : List Keyword).isEmpty then 0 else 1) < 30)) = true := by rfl)
    (ht : backTo cpos (starEach [e] X.env) = [(false, eval e X.env)] := by rfl) : LE X W (.Call (.Attribute o "get" apos) [e] [] cpos) (eDget1 f h) := fun g hK hm => ⟨fun pins s sg H Q I ⟨th, rho, S, R0, p⟩ => by
  refine wpAny_Call_method hb hf hl PySem.F.plainAttrs_dict PySem.F.slot_dict_get PySem.F.type_dict_get (thn ((ho g hK hm).run pins s sg H (fun x H1 => ∃ th1 rho S1 kvs, Rel g th1 rho S1 sg H1 ∧ Rp g.K H1 (Avd g th1 rho sg) (.dict kvs) x ∧ Post g W (relE g) th1 rho sg H1 ((h rho S1).bind fun k S2 => get1K kvs k S2) Q) I ?_) fun u s1 ⟨x, H1, I1, rx, th1, rho1, S1, kvs, R1, r1, q⟩ => ?_)
  · exact tL.bind (k := fun a rho S1 => onDict a fun kvs => (h rho S1).bind fun k S2 => get1K kvs k S2) R0 p fun a S1 v H1 th1 _ R1 _ r q => by
        obtain ⟨kvs, rfl, q⟩ := on_dict q
        exact ⟨th1, rho, S1, _, R1, r, q⟩
  · obtain ⟨c, rfl⟩ := dict_ref r1
    obtain rfl : u = Value.ref c := rx
    obtain ⟨t1, t2, _⟩ := isD_at I1 (isD_of (X := X) (kvs := kvs) (by rw [← hK]; exact r1))
    refine ⟨t1, t2, ?_⟩
    rw [ht]
    refine Calls.callWith_builtin rfl (Calls.evalArgs_plain (Calls.spliced_cons (thn ((he g hK hm).run pins s1 sg H1 (fun y H2 => ∃ th2 rho S2 b, Rel g th2 rho S2 sg H2 ∧ Rp g.K H2 (Avd g th2 rho sg) (.dict kvs) (.ref c) ∧ RD g.K H2 (Avd g th2 rho sg) th2 b y ∧ Post g W (relE g) th2 rho sg H2 (get1K kvs b S2) Q) I1 ?_) fun iv s2 ⟨y, H2, I2, ry, th2, rho2, S2, b, R2, r1', r2, q2⟩ => Calls.spliced_nil ?_)))
    · exact tL.bind (k := fun b rho S2 => get1K kvs b S2) R1 q fun b S2 v H2 th2 _ R2 x2 r q => ⟨th2, rho1, S2, b, R2, RD.ext (d := .dat (.dict kvs)) x2 r1, r, q⟩
    · unfold get1K at q2
      split at q2
      · next k =>
        split at q2
        · next o e2 =>
          exact (look I2 (by rw [← hK]; exact r1') (by rw [← hK]; exact r2) ry e2).get1 (by have := am.un; omega) I2 fun v w' s3 I3 rw' rp => ⟨v, H2, I3, rw', q2 v H2 th2 R2 (.refl _ _) (by show Rp g.K _ _ _ _; rw [hK]; exact rp)⟩
        · exact q2.elim
      · exact q2.elim⟩
theorem l_dget2 (am : Amb X) (ho : LE X W o f) (he : LE X W e h) (hz : LE X W z j) (hb : attributeBase o "get" X.env (eval o X.env) = eval o X.env := by rfl) (hl : (apos.endLine == cpos.line) = true := by rfl)
    (hf : ((backTo cpos (starEach [e, z] X.env)).all (fun x => !x.1) && (backToKw cpos (keywordEach [] X.env)).all (fun x => x.1.isSome) && decide (([e, z] : List Expr).length + ([] : List Keyword).length + (if ([] : List Keyword).isEmpty then 0 else 1) < 30)) = true := by rfl)
    (ht : backTo cpos (starEach [e, z] X.env) = [(false, eval e X.env), (false, eval z X.env)] := by rfl) : LE X W (.Call (.Attribute o "get" apos) [e, z] [] cpos) (eDget2 f h j) := fun g hK hm => ⟨fun pins s sg H Q I ⟨th, rho, S, R0, p⟩ => by
  refine wpAny_Call_method hb hf hl PySem.F.plainAttrs_dict PySem.F.slot_dict_get PySem.F.type_dict_get (thn ((ho g hK hm).run pins s sg H (fun x H1 => ∃ th1 rho S1 kvs, Rel g th1 rho S1 sg H1 ∧ Rp g.K H1 (Avd g th1 rho sg) (.dict kvs) x ∧ Post g W (relE g) th1 rho sg H1 ((h rho S1).bind fun k S2 => (j rho S2).bind fun z S3 => get2K kvs k z S3) Q) I ?_) fun u s1 ⟨x, H1, I1, rx, th1, rho1, S1, kvs, R1, r1, q⟩ => ?_)
  · exact tL.bind (k := fun a rho S1 => onDict a fun kvs => (h rho S1).bind fun k S2 => (j rho S2).bind fun z S3 => get2K kvs k z S3) R0 p fun a S1 v H1 th1 _ R1 _ r q => by
        obtain ⟨kvs, rfl, q⟩ := on_dict q
        exact ⟨th1, rho, S1, _, R1, r, q⟩
  · obtain ⟨c, rfl⟩ := dict_ref r1
    obtain rfl : u = Value.ref c := rx
    obtain ⟨t1, t2, _⟩ := isD_at I1 (isD_of (X := X) (kvs := kvs) (by rw [← hK]; exact r1))
    refine ⟨t1, t2, ?_⟩
    rw [ht]
    refine Calls.callWith_builtin rfl (Calls.evalArgs_plain (Calls.spliced_cons (thn ((he g hK hm).run pins s1 sg H1 (fun y H2 => ∃ th2 rho S2 b, Rel g th2 rho S2 sg H2 ∧ Rp g.K H2 (Avd g th2 rho sg) (.dict kvs) (.ref c) ∧ RD g.K H2 (Avd g th2 rho sg) th2 b y ∧ Post g W (relE g) th2 rho sg H2 ((j rho S2).bind fun z S3 => get2K kvs b z S3) Q) I1 ?_) fun iv s2 ⟨y, H2, I2, ry, th2, rho2, S2, b, R2, r1', r2, q2⟩ =>
      Calls.spliced_cons (thn ((hz g hK hm).run pins s2 sg H2 (fun y3 H3 => ∃ th3 rho S3 d, Rel g th3 rho S3 sg H3 ∧ Rp g.K H3 (Avd g th3 rho sg) (.dict kvs) (.ref c) ∧ RD g.K H3 (Avd g th3 rho sg) th3 b y ∧ RD g.K H3 (Avd g th3 rho sg) th3 d y3 ∧ Post g W (relE g) th3 rho sg H3 (get2K kvs b d S3) Q) I2 ?_) fun jv s3 ⟨y3, H3, I3, ry3, th3, rho3, S3, d, R3, r1'', r2', r3, q3⟩ => Calls.spliced_nil ?_))))
    · exact tL.bind (k := fun b rho S2 => (j rho S2).bind fun z S3 => get2K kvs b z S3) R1 q fun b S2 v H2 th2 _ R2 x2 r q => ⟨th2, rho1, S2, b, R2, RD.ext (d := .dat (.dict kvs)) x2 r1, r, q⟩
    · exact tL.bind (k := fun d rho S3 => get2K kvs b d S3) R2 q2 fun d S3 v H3 th3 _ R3 x3 r q => ⟨th3, rho2, S3, d, R3, RD.ext (d := .dat (.dict kvs)) x3 r1', r2.ext x3, r, q⟩
    · unfold get2K at q3
      split at q3
      · next k z =>
        split at q3
        · next o e2 =>
          exact (look I3 (by rw [← hK]; exact r1'') (by rw [← hK]; exact r2') ry e2).get2 (by have := am.un; omega) I3 (by rw [← hK]; exact r3) ry3 fun v w' s4 I4 rw' rp => ⟨v, H3, I4, rw', q3 v H3 th3 R3 (.refl _ _) (by show Rp g.K _ _ _ _; rw [hK]; exact rp)⟩
        · exact q3.elim
      · exact q3.elim⟩
end
end L3

/-! L3DictC -/
namespace L3
open PySem PySem.Spec PyProof.Rows L2

/-! ### dict comprehensions, keys plain or tuples -/
section
variable {X : Cx} {pins : List (Addr × Obj)} {σ : L2.St} {H : Hp} {s : Shared}
/-- one entry is stored -/
theorem dput_set {E : Value → Shared → Prop} {D : Addr} {y v : V} {u r : Value} {H' : Hp} {Q : Unit → Shared → Prop} (hu : X.A.units + 1 < cLine) (I : Inv X pins σ H s) (p : DPut H D y v H') (ry : RelV y u) (rv : RelV v r) (h : ∀ s', Inv X pins σ H' s' → Q () s') :
    wpAny (model X.prog X.w) X.A (dictSet D u r) Q E s := by
  rcases p with ⟨kvs, k, e, rfl, l, rfl⟩ | ⟨kvs, k, b, e, rfl, eb, l, rfl⟩
  · exact d_dictSet I e l ry rv h
  · obtain rfl : u = Value.ref b := ry
    obtain ⟨z, nsm, xs, rel, dd⟩ := dt_of I.hok e
    have bound : xs.length ≤ sizeLine := by rw [← Paired.length rel]; exact z
    refine wpAny_dictSet_heap (hsz := bound) (show (tupleKind (mixKind X.prog X.w)).room X.A from by show X.A.units < cLine; omega) (key_of I.hok eb) dd fun h2 d2 same => h _ ?_
    obtain ⟨ob, es, ep, get, exact_, dat, ents, _, nod⟩ := d2
    have len2 : (putK kvs k v).length ≤ sizeLine := Nat.le_trans (length_putK kvs k v) l
    refine d_write I (by rw [e]; exact True.intro) same ⟨ob, get⟩ ⟨len2, nsm, _, (rel.put k eb rv).keeps fun c ys ec => ?_, ob, es, ep, get, exact_, dat, ents, nod⟩
    rw [upd_ne (L2.ne_of ec e (fun z => nomatch z))]
    exact ec
/-- the loop of such a comprehension: D the new dict, o0 what it is at first -/
def tDg (o0 : HO) (wi : TI) (g : TG) (tt : TT) (tk tv : TE) (vs : List Nat) : TE := fun σ H Q => wi σ H fun J H1 => ∀ D, H1 D = none → ∃ W : Nat → Nat → Hp → Prop, (∃ m, W 0 m (L2.upd H1 D o0)) ∧ ∀ i m H, W i m H →
  (J.stop i H ∧ Q (.ref D) H) ∨ (J.go i H ∧ ∃ Nx : Hp → Prop, (∀ H', Nx H' → ∃ m', m' < m ∧ W (i + 1) m' H') ∧ ∀ x H', J.yld i H x H' → g x (wipe σ vs) H' fun σ2 H2 => wipe σ2 vs = wipe σ vs ∧ tt σ2 H2 fun b H3 =>
    if b = true then tk σ2 H3 fun y H4 => tv σ2 H4 fun z H5 => ∃ H6, DPut H5 D y z H6 ∧ Nx H6 else Nx H3)
variable {kx vx tg iter : Expr} {ifs : List Expr} {scope : Scope} {own : List (Str × Nat)} {pos pos' : Pos} {wi : TI} {g : TG} {tt : TT} {tk tv : TE} {o0 : HO}
theorem dg_core {pins : List (Addr × Obj)} {s : Shared} {σ : L2.St} {H : Hp} {Q : VK} {pos' : Pos} {use : Option (Value → Sem Unit)} {Qf : Value → Shared → Prop} (I : Inv X pins σ H s) (want : tDg o0 wi g tt tk tv (own.map (·.2)) σ H Q)
    (hRR : ∀ D C s' m H', Inv X pins σ H' s' → Q (.ref D) H' → s'.heap.Ns C m → FpOk X pins H' C → compPost (model X.prog X.w) X.A X.xe use Qf (.ref D) C (.ok .next) s')
    (new0 : ∀ (H : Hp) (h : Heap), sysModules < h.objs.size → ObjOk X.prog X.w H (h.push { cls := .type "dict", data := .dict #[] }) h.objs.size o0) (hu : X.A.units + 1 < cLine) (calm : X.calm = true) (hN : X.N.Nodup) (hi : PI X tg iter wi) (ok : BlkOk X.N X.env.scope scope own)
    (hg : ∀ (s : Shared) (H : Hp) (C : Addr) (cl : List (Str × Addr)) (fp : List Addr), PG (X.blk s H scope (compEnvC scope cl C X.env) fp) tg g) (ht : ∀ (s : Shared) (H : Hp) (C : Addr) (cl : List (Str × Addr)) (fp : List Addr), PTs (X.blk s H scope (compEnvC scope cl C X.env) fp) ifs tt)
    (hk : ∀ (s : Shared) (H : Hp) (C : Addr) (cl : List (Str × Addr)) (fp : List Addr), PE (X.blk s H scope (compEnvC scope cl C X.env) fp) kx tk) (hv : ∀ (s : Shared) (H : Hp) (C : Addr) (cl : List (Str × Addr)) (fp : List Addr), PE (X.blk s H scope (compEnvC scope cl C X.env) fp) vx tv)
    (hs : ∀ x, foldedSetIterable iter X.env x = pure x) : wpAny (model X.prog X.w) X.A (comprehension (.DictComp kx vx [⟨tg, iter, ifs, 0⟩] scope pos) scope X.env pos' newDict false (eval iter X.env) use) Qf X.xe s := by
  have clo : ∀ y ∈ scope.names, y.2 = .free → ∃ c, X.env.cells.lookup y.1 = some c := fun y hy e => (ok.free y hy e).elim (fun k => I.ok.has _ (.inl k)) fun k => I.ok.has _ (.inr k)
  refine wpAny_comprehension_free (use := use) rfl hs (closure_ok clo) ok.kind (fun y hy e => by rw [ok.uniq y hy, e])
    (thn (hi.run pins s σ H _ I want) fun xv s1 hx => thn hx fun itv s2 first => ?_)
  obtain ⟨it, fp, tn, J, H2, rfl, I2, T, ready, apart, q⟩ := first
  refine wpAny_newObj_type (newEnv_comp ?_)
  generalize eD : s2.heap.objs.size = D
  have freeD : H2 D = none := I2.hok.fresh (Nat.le_of_eq eD)
  obtain ⟨W, ⟨m0, w0⟩, turn⟩ := q D freeD
  generalize eT : ({ s2 with heap := s2.heap.push { cls := .type "dict", data := .dict #[] } } : Shared) = t3
  have J3 : Inv X pins σ (L2.upd H2 D o0) t3 := by
    rw [← eT]
    refine I2.laid (t' := s2.toks) (fun b o e => Heap.get?_push_of_some _ e) (Nat.le_of_eq eD) ?_
    rw [← eD]
    exact new0 _ s2.heap I2.big
  have heap3 : t3.heap = s2.heap.push { cls := .type "dict", data := .dict #[] } := by rw [← eT]
  have small : ∀ b ∈ fp, b < s2.heap.objs.size := fun b hb => let ⟨o, e, _⟩ := T.obj _ _ ready b hb; Heap.lt_size e
  have away : ∀ b ∈ fp, FpOk X pins (L2.upd H2 D o0) b ∧ b < t3.heap.objs.size := fun b hb => by
    have hlt := small b hb
    refine ⟨⟨?_, (apart b hb).2⟩, by rw [heap3, Heap.size_push]; exact Nat.lt_succ_of_lt hlt⟩
    rw [upd_ne (by rw [← eD]; exact Nat.ne_of_lt hlt)]
    exact (apart b hb).1
  have ready3 : tn 0 t3.heap := T.keep _ _ _ ready fun b _ o e => by rw [heap3]; exact Heap.get?_push_of_some _ e
  have J4 := block_start J3 ok hN away
  have runG := hg t3 (L2.upd H2 D o0) t3.heap.objs.size (cellsFrom (t3.heap.objs.size + 1) scope.names (cloFrom X.env.cells scope.names [])) fp
  have runT := ht t3 (L2.upd H2 D o0) t3.heap.objs.size (cellsFrom (t3.heap.objs.size + 1) scope.names (cloFrom X.env.cells scope.names [])) fp
  have runK := hk t3 (L2.upd H2 D o0) t3.heap.objs.size (cellsFrom (t3.heap.objs.size + 1) scope.names (cloFrom X.env.cells scope.names [])) fp
  have runV := hv t3 (L2.upd H2 D o0) t3.heap.objs.size (cellsFrom (t3.heap.objs.size + 1) scope.names (cloFrom X.env.cells scope.names [])) fp
  show codeAny _ _ (.compStart (.DictComp kx vx [⟨tg, iter, ifs, 0⟩] scope pos) 0 (.ref it) (.ref D) (compEnvC scope (cellsFrom (t3.heap.objs.size + 1) scope.names (cloFrom X.env.cells scope.names [])) t3.heap.objs.size X.env)) (compPost (model X.prog X.w) X.A X.xe use _ (.ref D) t3.heap.objs.size) { t3 with heap := pushCells (t3.heap.push { cls := .type "dict", data := .dict #[] }) scope.names }
  have noFp : ∀ b ∈ fp, (L2.upd H2 D o0) b = none := fun b hb => (away b hb).1.1
  generalize eC : compEnvC scope (cellsFrom (t3.heap.objs.size + 1) scope.names (cloFrom X.env.cells scope.names [])) t3.heap.objs.size X.env = ce at J4 runG runT runK runV ⊢
  have locC : ce.locals = t3.heap.objs.size := by subst eC; rfl
  generalize eH : L2.upd H2 D o0 = H3 at J3 J4 runG runT runK runV w0 noFp away
  generalize eS : ({ t3 with heap := pushCells (t3.heap.push { cls := .type "dict", data := .dict #[] }) scope.names } : Shared) = t4 at J4 ⊢
  have ready4 : tn 0 t4.heap := T.keep _ _ _ ready3 fun b _ o e => by rw [← eS]; exact pushCells_keeps _ _ _ _ (Heap.get?_push_of_some _ e)
  have still : ∀ {σ' : L2.St} {H' : Hp} {s' : Shared}, Inv (X.blk t3 H3 scope ce fp) [] σ' H' s' → (∀ b ∈ fp, H' b = none) → ∀ b ∈ fp, FpOk (X.blk t3 H3 scope ce fp) [] H' b := fun {σ' H' s'} I' hn b hb =>
    ⟨hn b hb, (I'.ok.exf b hb).1, I'.ok.exfs b hb, .inl hb, fun x c e => (I'.ok.exf b hb).2 x c e, fun p hp => absurd (show p ∈ ([] : List (Addr × Obj)) ++ [] from hp) (by simp)⟩
  have whole : codeAny (model X.prog X.w) X.A (.compLoop (.DictComp kx vx [⟨tg, iter, ifs, 0⟩] scope pos) 0 (.ref it) (.ref D) ce) (compPost (model X.prog X.w) X.A X.xe use Qf (.ref D) t3.heap.objs.size) t4 := by
    refine compLoop_anyD (fun n s' => ∃ i H', Inv (X.blk t3 H3 scope ce fp) [] (wipe σ (own.map (·.2))) H' s' ∧ tn i s'.heap ∧ (∀ b ∈ fp, H' b = none) ∧ W i n H') ?_ m0 ⟨0, H3, J4, ready4, noFp, w0⟩
    rintro n t5 ⟨i, H5, J5, ready5, noFp5, w5⟩
    rcases turn i n H5 w5 with ⟨stop, done⟩ | ⟨go, Nx, next, step⟩
    · refine thnF (T.done (X.blk t3 H3 scope ce fp) rfl rfl rfl calm i [] t5 _ H5 (fun _ _ => False) J5 (still J5 noFp5) ready5 stop) fun r t6 ⟨hr, J6⟩ => ?_
      subst hr
      have back : Inv X pins σ H5 t6 := J3.call' (ch := fp) J6.os J6.base J6.hok J6.bare fun b hb => ⟨(away b hb).1.2.2.2.1, (away b hb).1.2.1, (away b hb).1.2.2.2.2.1, (away b hb).1.2.2.2.2.2⟩
      have freeC : H5 t3.heap.objs.size = none := by
        have z : H5 ce.locals = none := J6.free
        rw [locC] at z
        exact z
      obtain ⟨m, hn, _⟩ := J6.loc
      have hn : t6.heap.Ns ce.locals m := hn
      rw [locC] at hn
      exact hRR D _ t6 m H5 back done hn (J3.fpOk (Nat.le_refl _) freeC)
    · refine thnF (T.item (X.blk t3 H3 scope ce fp) rfl rfl rfl calm i [] t5 _ H5 (fun _ _ => False) J5 (still J5 noFp5) ready5 go) fun r t6 ⟨u, hr, got⟩ => ?_
      subst hr
      refine thnF got fun _ t7 ⟨x, H7, J7, r7, y7, ready7, noFp7⟩ => ?_
      have P7 := J7.pinned (still J7 noFp7) (T.obj _ _ ready7)
      refine thnF (runG.run _ t7 _ H7 x u _ P7 r7 (step x H7 y7)) fun _ t8 ⟨σ8, H8, J8, wiped, q8⟩ => ?_
      refine thnF (runT.run _ t8 σ8 H8 _ J8 q8) fun b t9 ⟨H9, J9, q9⟩ => ?_
      have round : ∀ {s' : Shared} {H' : Hp}, Inv (X.blk t3 H3 scope ce fp) ([] ++ pinsAt fp t7.heap) σ8 H' s' → Nx H' → ∃ m, m < n ∧ ∃ i H', Inv (X.blk t3 H3 scope ce fp) [] (wipe σ (own.map (·.2))) H' s' ∧ tn i s'.heap ∧ (∀ b ∈ fp, H' b = none) ∧ W i m H' := fun {s' H'} I' nx => by
        obtain ⟨m', hm, w'⟩ := next H' nx
        have held : ∀ b ∈ fp, ∀ o, t7.heap.get? b = some o → s'.heap.get? b = some o ∧ H' b = none := fun b hb o e =>
          let z := I'.pin (b, o) (List.mem_append_right _ (List.mem_append_right _ (mem_pinsAt hb e)))
          ⟨z.1, z.2.1⟩
        have hl : (wipe σ (own.map (·.2))).length = σ8.length := by rw [← wiped, wipe_length]
        refine ⟨m', hm, i + 1, H', (I'.unpinned (pins := [])).weak hl (fun j v e => ?_), T.keep _ _ _ ready7 fun b hb o e => (held b hb o e).1, fun b hb => ?_, w'⟩
        · rw [← wiped] at e
          exact (wipe_some e).1
        · obtain ⟨o, e, _⟩ := T.obj _ _ ready7 b hb
          exact (held b hb o e).2
      cases b with
      | false =>
        simp only [Bool.false_eq_true, if_false] at q9 ⊢
        exact round J9 q9
      | true =>
        simp only [if_true] at q9 ⊢
        refine thnF (runK.run _ t9 σ8 H9 _ J9 q9) fun z t10 ⟨yk, H10, J10, r10, q10⟩ => ?_
        refine thnF (runV.run _ t10 σ8 H10 _ J10 q10) fun z2 t11 ⟨yv, H11, J11, r11, H12, put, nx⟩ => ?_
        exact dput_set (X := X.blk t3 H3 scope ce fp) hu J11 put r10 r11 fun s12 J12 => round J12 nx
  exact codeAny_compStart_dict whole (T.self X.A 0 _ _ _ ready4 whole)
theorem pe_dg (new0 : ∀ (H : Hp) (h : Heap), sysModules < h.objs.size → ObjOk X.prog X.w H (h.push { cls := .type "dict", data := .dict #[] }) h.objs.size o0) (hu : X.A.units + 1 < cLine) (calm : X.calm = true) (hN : X.N.Nodup) (hi : PI X tg iter wi) (ok : BlkOk X.N X.env.scope scope own)
    (hg : ∀ (s : Shared) (H : Hp) (C : Addr) (cl : List (Str × Addr)) (fp : List Addr), PG (X.blk s H scope (compEnvC scope cl C X.env) fp) tg g) (ht : ∀ (s : Shared) (H : Hp) (C : Addr) (cl : List (Str × Addr)) (fp : List Addr), PTs (X.blk s H scope (compEnvC scope cl C X.env) fp) ifs tt)
    (hk : ∀ (s : Shared) (H : Hp) (C : Addr) (cl : List (Str × Addr)) (fp : List Addr), PE (X.blk s H scope (compEnvC scope cl C X.env) fp) kx tk) (hv : ∀ (s : Shared) (H : Hp) (C : Addr) (cl : List (Str × Addr)) (fp : List Addr), PE (X.blk s H scope (compEnvC scope cl C X.env) fp) vx tv)
    (hs : ∀ x, foldedSetIterable iter X.env x = pure x := by intro _; rfl) : PE X (.DictComp kx vx [⟨tg, iter, ifs, 0⟩] scope pos) (tDg o0 wi g tt tk tv (own.map (·.2))) := by
  refine ⟨fun pins s σ H Q I want => ?_⟩
  rw [arm_eval_DictComp]
  refine dg_core I want (fun D C s' m H' I' q hn f => ⟨m, hn, fun h2 sb => ?_⟩) new0 hu calm hN hi ok hg ht hk hv hs
  obtain ⟨f0, f1, f2, f3, f4, f5⟩ := f
  exact ⟨.ref D, H', I'.turned (t' := s'.toks) (fun b o hb e => (sb.2 b hb).trans e) f0 f1 f3 f4 f5, rfl, q⟩
/-- name = {..} on one line, the name a local -/
theorem ps_setDg {i : Nat} {y : Str} {py spos : Pos} (new0 : ∀ (H : Hp) (h : Heap), sysModules < h.objs.size → ObjOk X.prog X.w H (h.push { cls := .type "dict", data := .dict #[] }) h.objs.size o0) (hu : X.A.units + 1 < cLine) (calm : X.calm = true) (hN : X.N.Nodup) (hy : X.N[i]? = some y) (hyl : X.env.scope.names.lookup y = some .local)
    (hsw : swapsWith (.DictComp kx vx [⟨tg, iter, ifs, 0⟩] scope pos) (some (.Name y py)) spos.line X.env = pure true) (hi : PI X tg iter wi) (ok : BlkOk X.N X.env.scope scope own)
    (hg : ∀ (s : Shared) (H : Hp) (C : Addr) (cl : List (Str × Addr)) (fp : List Addr), PG (X.blk s H scope (compEnvC scope cl C X.env) fp) tg g) (ht : ∀ (s : Shared) (H : Hp) (C : Addr) (cl : List (Str × Addr)) (fp : List Addr), PTs (X.blk s H scope (compEnvC scope cl C X.env) fp) ifs tt)
    (hk : ∀ (s : Shared) (H : Hp) (C : Addr) (cl : List (Str × Addr)) (fp : List Addr), PE (X.blk s H scope (compEnvC scope cl C X.env) fp) kx tk) (hv : ∀ (s : Shared) (H : Hp) (C : Addr) (cl : List (Str × Addr)) (fp : List Addr), PE (X.blk s H scope (compEnvC scope cl C X.env) fp) vx tv)
    (hs : ∀ x, foldedSetIterable iter X.env x = pure x := by intro _; rfl) : PS X (.Assign [.Name y py] (.DictComp kx vx [⟨tg, iter, ifs, 0⟩] scope pos) spos) (tAsg (tDg o0 wi g tt tk tv (own.map (·.2))) (gName i)) := by
  refine ⟨fun pins s σ H D I h => ?_⟩
  rw [exec_Assign_Name_used _ _ _ _ hsw]
  refine wpAny_bind (wpAny_standAt (wpAny_bind ?_))
  show wpAny _ X.A (do let _ ← comprehension (.DictComp kx vx [⟨tg, iter, ifs, 0⟩] scope pos) scope X.env (firstIterPos [⟨tg, iter, ifs, 0⟩] pos) newDict false (eval iter X.env) (some (assign (.Name y py) X.env))) _ _ s
  have h : tDg o0 wi g tt tk tv (own.map (·.2)) σ H (fun x H1 => gName i x σ H1 D.nx) := h
  refine wpAny_bind (thn (dg_core (Qf := fun _ s' => SP X pins D .next s') I h (fun L C s' m H' I' q hn f => ?_) new0 hu calm hN hi ok hg ht hk hv hs) fun _ s' hq => wpAny_pure (wpAny_pure hq))
  show wpAny _ _ (assign (.Name y py) X.env (.ref L)) _ _ _
  refine wpAny_assign_Name (store_ok2 (v := V.ref L) I' hN hy (.inl hyl) rfl (fun s2 I2 ⟨a, sb, ha⟩ => ?_) (.inr hyl))
  obtain ⟨f0, f1, f2, f3, f4, f5⟩ := f
  have haC : C ≠ a := by
    rcases ha with z | z
    · rw [z]; exact f1
    · exact fun e => f4 y a z e.symm
  refine ⟨m, hn.sameBut sb haC, fun h3 sb3 => ?_⟩
  exact ⟨_, H', I2.turned (t' := s2.toks) (fun b o hb e => (sb3.2 b hb).trans e) f0 f1 f3 f4 f5, q⟩
end

/-! ### kinds of dicts -/
def tupK (q : List Key) : PyData := .tuple (q.map keyD)
def kPut {κ : Type} [DecidableEq κ] (f : PyData → Option κ) (kvs : List (PyData × PyData)) (k : PyData) (q : κ) (d : PyData) : List (PyData × PyData) :=
  if (kvs.any fun p => decide (f p.1 = some q)) = true then kvs.map (fun p => if f p.1 = some q then (p.1, d) else p) else kvs ++ [(k, d)]
structure DKind (K : PySem.W.Frag) where
  κ : Type
  dec : DecidableEq κ
  f : PyData → Option κ
  kd : κ → PyData
  o : List (κ × V) → HO
  Rq : Hp → Av → List (PyData × PyData) → List (κ × V) → Prop
  KR : Hp → List Addr → κ → V → Prop
  nil : ∀ H A, Rq H A [] []
  kp : ∀ {H H' A A' kvs ks}, Kp H A H' A' → Rq H A kvs ks → Rq H' A' kvs ks
  put : ∀ {H A kvs ks q d x}, Rq H A kvs ks → Rp K H A d x → Rq H A (kPut f kvs (kd q) q d) (putK ks q x)
  len : ∀ {H A kvs ks}, Rq H A kvs ks → ks.length = kvs.length
  ext : ∀ {th th' : List Addr} {H H' : Hp} {q y}, Ext th H th' H' → KR H th q y → KR H' th' q y
  dput : ∀ {H : Hp} {th : List Addr} {a : Addr} {ks q y v}, H a = some (o ks) → KR H th q y → ks.length < sizeLine → DPut H a y v (L2.upd H a (o (putK ks q v)))
  new0 : ∀ (P : Program) (w : World) (H : Hp) (h : Heap), sysModules < h.objs.size → ObjOk P w H (h.push { cls := .type "dict", data := .dict #[] }) h.objs.size (o [])
  rp : ∀ {H A a kvs ks}, ¬ A a → H a = some (o ks) → Rq H A kvs ks → Rp K H A (.dict kvs) (.ref a)
instance {K : PySem.W.Frag} (D : DKind K) : DecidableEq D.κ := D.dec
theorem RpK.any {K : PySem.W.Frag} {H : Hp} {A : Av} (q : Key) : ∀ {kvs : List (PyData × PyData)} {ks : List (Key × V)}, RpK K H A kvs ks → (kvs.any fun p => decide (asKey p.1 = some q)) = ks.any fun kv => decide (kv.1 = q)
  | [], ks, h => by simp only [RpK] at h; subst h; rfl
  | (k, d) :: r, ks, h => by
    simp only [RpK] at h
    obtain ⟨q', v, s, rfl, rfl, p, t⟩ := h
    simp only [List.any_cons, asKey_D, Option.some.injEq, RpK.any q t]
theorem RpK.repl {K : PySem.W.Frag} {H : Hp} {A : Av} {q : Key} {d : PyData} {x : V} (rx : Rp K H A d x) : ∀ {kvs : List (PyData × PyData)} {ks : List (Key × V)}, RpK K H A kvs ks → RpK K H A (kvs.map fun p => if asKey p.1 = some q then (p.1, d) else p) (ks.map fun kv => if kv.1 = q then (kv.1, x) else kv)
  | [], ks, h => by simp only [RpK] at h; subst h; simp only [List.map_nil, RpK]
  | (k, e) :: r, ks, h => by
    simp only [RpK] at h
    obtain ⟨q', v, s, rfl, rfl, p, t⟩ := h
    simp only [List.map_cons, asKey_D, Option.some.injEq]
    by_cases z : q' = q
    · simp only [if_pos z, RpK]
      exact ⟨q', x, _, rfl, rfl, rx, RpK.repl rx t⟩
    · simp only [if_neg z, RpK]
      exact ⟨q', v, _, rfl, rfl, p, RpK.repl rx t⟩
theorem RpK.snoc {K : PySem.W.Frag} {H : Hp} {A : Av} {q : Key} {d : PyData} {x : V} (rx : Rp K H A d x) : ∀ {kvs : List (PyData × PyData)} {ks : List (Key × V)}, RpK K H A kvs ks → RpK K H A (kvs ++ [(keyD q, d)]) (ks ++ [(q, x)])
  | [], ks, h => by
    simp only [RpK] at h
    subst h
    simp only [List.nil_append, RpK]
    exact ⟨q, x, [], rfl, rfl, rx, rfl⟩
  | (k, e) :: r, ks, h => by
    simp only [RpK] at h
    obtain ⟨q', v, s, rfl, e2, p, t⟩ := h
    simp only [List.cons_append, RpK]
    exact ⟨q', v, _, rfl, e2, p, RpK.snoc rx t⟩
theorem RpT.any {K : PySem.W.Frag} {H : Hp} {A : Av} (q : List Key) : ∀ {kvs : List (PyData × PyData)} {ks : List (List Key × V)}, RpT K H A kvs ks → (kvs.any fun p => decide (asKeys p.1 = some q)) = ks.any fun kv => decide (kv.1 = q)
  | [], ks, h => by simp only [RpT] at h; subst h; rfl
  | (k, d) :: r, ks, h => by
    simp only [RpT] at h
    obtain ⟨q', v, s, rfl, rfl, p, t⟩ := h
    simp only [List.any_cons, asKeys_D, Option.some.injEq, RpT.any q t]
theorem RpT.repl {K : PySem.W.Frag} {H : Hp} {A : Av} {q : List Key} {d : PyData} {x : V} (rx : Rp K H A d x) : ∀ {kvs : List (PyData × PyData)} {ks : List (List Key × V)}, RpT K H A kvs ks → RpT K H A (kvs.map fun p => if asKeys p.1 = some q then (p.1, d) else p) (ks.map fun kv => if kv.1 = q then (kv.1, x) else kv)
  | [], ks, h => by simp only [RpT] at h; subst h; simp only [List.map_nil, RpT]
  | (k, e) :: r, ks, h => by
    simp only [RpT] at h
    obtain ⟨q', v, s, rfl, rfl, p, t⟩ := h
    simp only [List.map_cons, asKeys_D, Option.some.injEq]
    by_cases z : q' = q
    · simp only [if_pos z, RpT]
      exact ⟨q', x, _, rfl, rfl, rx, RpT.repl rx t⟩
    · simp only [if_neg z, RpT]
      exact ⟨q', v, _, rfl, rfl, p, RpT.repl rx t⟩
theorem RpT.snoc {K : PySem.W.Frag} {H : Hp} {A : Av} {q : List Key} {d : PyData} {x : V} (rx : Rp K H A d x) : ∀ {kvs : List (PyData × PyData)} {ks : List (List Key × V)}, RpT K H A kvs ks → RpT K H A (kvs ++ [(.tuple (q.map keyD), d)]) (ks ++ [(q, x)])
  | [], ks, h => by
    simp only [RpT] at h
    subst h
    simp only [List.nil_append, RpT]
    exact ⟨q, x, [], rfl, rfl, rx, rfl⟩
  | (k, e) :: r, ks, h => by
    simp only [RpT] at h
    obtain ⟨q', v, s, rfl, e2, p, t⟩ := h
    simp only [List.cons_append, RpT]
    exact ⟨q', v, _, rfl, e2, p, RpT.snoc rx t⟩
theorem RpK.len {K : PySem.W.Frag} {H : Hp} {A : Av} : ∀ {kvs : List (PyData × PyData)} {ks : List (Key × V)}, RpK K H A kvs ks → ks.length = kvs.length
  | [], ks, h => by simp only [RpK] at h; subst h; rfl
  | (k, e) :: r, ks, h => by
    simp only [RpK] at h
    obtain ⟨q', v, s, rfl, e2, p, t⟩ := h
    rw [List.length_cons, List.length_cons, RpK.len t]
theorem RpT.len {K : PySem.W.Frag} {H : Hp} {A : Av} : ∀ {kvs : List (PyData × PyData)} {ks : List (List Key × V)}, RpT K H A kvs ks → ks.length = kvs.length
  | [], ks, h => by simp only [RpT] at h; subst h; rfl
  | (k, e) :: r, ks, h => by
    simp only [RpT] at h
    obtain ⟨q', v, s, rfl, e2, p, t⟩ := h
    rw [List.length_cons, List.length_cons, RpT.len t]
/-- plain keys -/
def dkK (K : PySem.W.Frag) : DKind K where
  κ := Key
  dec := inferInstance
  f := asKey
  kd := keyD
  o := HO.dK
  Rq := RpK K
  KR := fun _ _ q y => y = kV q
  nil := fun H A => by simp only [RpK]
  kp := fun k h => RpK.kp k _ _ h
  put := fun {H A kvs ks q d x} h rx => by
    unfold kPut putK
    rw [h.any q]
    split
    · exact h.repl rx
    · exact h.snoc rx
  len := RpK.len
  ext := fun _ h => h
  dput := fun {H th a ks q y v} e h l => by
    subst h
    exact .k e l
  new0 := fun P w H h hb => dk_empty h hb
  rp := fun {H A a kvs ks} n e h => by
    simp only [Rp]
    exact ⟨a, rfl, n, .inl ⟨ks, e, h⟩⟩
/-- keys that are tuples -/
def dkT (K : PySem.W.Frag) : DKind K where
  κ := List Key
  dec := inferInstance
  f := asKeys
  kd := tupK
  o := HO.dT
  Rq := RpT K
  KR := fun H th q y => ∃ b, y = .ref b ∧ H b = some (.tup (q.map kV)) ∧ b ∉ th
  nil := fun H A => by simp only [RpT]
  kp := fun k h => RpT.kp k _ _ h
  put := fun {H A kvs ks q d x} h rx => by
    unfold kPut putK
    rw [h.any q]
    split
    · exact h.repl rx
    · exact h.snoc rx
  len := RpT.len
  ext := fun {th th' H H' q y} x ⟨b, e1, e2, n⟩ => ⟨b, e1, x.keep b _ e2 n, fun m => by
    have := x.new b m n
    rw [e2] at this
    cases this⟩
  dput := fun {H th a ks q y v} e ⟨b, e1, e2, n⟩ l => by
    subst e1
    exact .t e e2 l
  new0 := fun P w H h hb => dt_empty h hb
  rp := fun {H A a kvs ks} n e h => by
    simp only [Rp]
    exact ⟨a, rfl, n, .inr ⟨ks, e, h⟩⟩
abbrev KF (κ : Type) := Sl → Store → R κ
/-- a key's expression -/
def LK (X : Cx) (W : WX) (D : DKind X.K) (e : Expr) (f : KF D.κ) : Prop := ∀ g : Gh, g.K = X.K → g.mg = X.mg → PE X e (tL g W (fun H _ th q y => D.KR H th q y) f)
def kPl (f : EF) : KF Key := fun rho S => (f rho S).bind fun d S1 => match d with
  | .dat d => (match asKey d with
    | some q => .ok q S1
    | none => .bad)
  | _ => .bad
def kTu (r : AF) : KF (List Key) := fun rho S => (r rho S).bind fun ds S1 => match (dats ds).bind asKeyL with
  | some qs => if qs.length ≤ sizeLine then .ok qs S1 else .bad
  | none => .bad
section
variable {X : Cx} {W : WX} {e : Expr} {es : List Expr} {f : EF} {r : AF} {pos : Pos}
theorem k_pl (he : LE X W e f) : LK X W (dkK X.K) e (kPl f) := fun g hK hm => (he g hK hm).of fun sg H Q ⟨th, rho, S, R0, p⟩ =>
  tL.bind (k := fun (d : L3.D) rho S1 => (match d with
    | .dat d => (match asKey d with
      | some q => R.ok q S1
      | none => R.bad)
    | _ => R.bad)) R0 p fun a S1 v H1 th1 _ R1 _ r q => by
      cases a with
      | dat d =>
        cases e : asKey d with
        | none => simp only [e] at q; exact q.elim
        | some k =>
          simp only [e] at q
          rw [asKey_of e] at r
          exact q v H1 th1 R1 (.refl _ _) (rp_key r)
      | _ => exact q.elim
theorem k_tu {k1} (h : LA' X W es r) : LK X W (dkT X.K) (.Tuple es k1 pos) (kTu r) := fun g hK hm => (pe_tup (h g hK hm)).of fun sg H Q ⟨th, rho, S, R0, p⟩ =>
  tL.bind (k := fun (ds : List L3.D) rho S1 => (match (dats ds).bind asKeyL with
    | some qs => if qs.length ≤ sizeLine then R.ok qs S1 else R.bad
    | none => R.bad)) R0 p fun as S1 vs H1 th1 _ R1 _ r1 q => by
      cases e : dats as with
      | none => simp only [e, Option.bind_none] at q; exact q.elim
      | some ds =>
        simp only [e, Option.bind_some] at q
        cases e2 : asKeyL ds with
        | none => simp only [e2] at q; exact q.elim
        | some qs =>
          simp only [e2] at q
          have rl := dats_ok r1 e
          rw [asKeyL_of e2] at rl
          have ev := rpl_keys rl
          subst ev
          split at q
          · next hl => exact ⟨by rw [List.length_map]; exact hl, fun p np => q (.ref p) _ th1 (R1.fresh np) (.upd np) ⟨p, rfl, upd_same, fun m => R1.notAv np (.inr (.inl m))⟩⟩
          · exact q.elim
end
def dcL {κ : Type} [DecidableEq κ] (f : PyData → Option κ) (kd : κ → PyData) (t : Tg) (cond : TF) (fk : KF κ) (fv : EF) (rw : Sl) : List PyData → List (PyData × PyData) → Store → R (List (PyData × PyData))
  | [], acc, S => .ok acc S
  | d :: ds, acc, S => match put t (.dat d) rw with
    | none => .bad
    | some rho1 => match cond rho1 S with
      | .ok true S1 => (match fk rho1 S1 with
        | .ok q S2 => (match fv rho1 S2 with
          | .ok (.dat p) S3 => if acc.length < sizeLine then dcL f kd t cond fk fv rw ds (kPut f acc (kd q) q p) S3 else .bad
          | _ => .bad)
        | _ => .bad)
      | .ok false S1 => dcL f kd t cond fk fv rw ds acc S1
      | _ => .bad
def eDc {κ : Type} [DecidableEq κ] (f : PyData → Option κ) (kd : κ → PyData) (items : NF) (t : Tg) (cond : TF) (fk : KF κ) (fv : EF) (vs : List Nat) : EF := fun rho S => (items rho S).bind fun ds S1 =>
  if notOwn rho vs = true ∧ (t.ixs.all fun i => decide (i ∈ vs)) = true then (dcL f kd t cond fk fv (wipeD rho vs) ds [] S1).bind fun kvs S2 => .ok (.dat (.dict kvs)) S2 else .bad
section
variable {W : WX} {g : Gh}
theorem dg_read {K : PySem.W.Frag} {wi : TI} {t : Tg} {tt : TT} {tk tv : TE} {vs : List Nat} {items : NF} {cond : TF} {D : DKind K} {fk : KF D.κ} {fv : EF} {wk : Bool} (hw : wk = true → ∃ ts, t = .tup ts) (hK : g.K = K) (hwi : ∀ sg H Q, tI wk g W items sg H Q → wi sg H Q)
    (htt : ∀ (g' : Gh) sg H Q, g'.K = g.K → g'.mg = g.mg → tT g' W0 cond sg H Q → tt sg H Q) (htk : ∀ (g' : Gh) sg H Q, g'.K = g.K → g'.mg = g.mg → tL g' W0 (fun H _ th q y => D.KR H th q y) fk sg H Q → tk sg H Q)
    (htv : ∀ (g' : Gh) sg H Q, g'.K = g.K → g'.mg = g.mg → tE g' W0 fv sg H Q → tv sg H Q)
    (sg : L2.St) (H : Hp) (Q : VK) (q : tE g W (eDc D.f D.kd items t cond fk fv vs) sg H Q) : tDg (D.o []) wi (gT K t) tt tk tv vs sg H Q := by
  subst hK
  obtain ⟨th, rho, S, R0, p⟩ := q
  refine hwi sg H _ ⟨th, rho, S, R0, ?_⟩
  unfold eDc at p
  cases e : items rho S with
  | exc c a S1 => rw [e] at p; exact p
  | bad => rw [e] at p; exact p
  | ok ds S1 =>
    rw [e] at p
    have p' : Post g W (relE g) th rho sg H (if notOwn rho vs = true ∧ (t.ixs.all fun i => decide (i ∈ vs)) = true then (dcL D.f D.kd t cond fk fv (wipeD rho vs) ds [] S1).bind fun kvs S2 => .ok (.dat (.dict kvs)) S2 else .bad) Q := p
    split at p'
    case isFalse => exact p'.elim
    rename_i hvs
    intro J H1 th1 G R1 x1 it hG C nC
    obtain ⟨nb, nt⟩ := R1.ntB nC
    have h0 := R1.h0_none nC
    let Fin : R (List (PyData × PyData)) → R L3.D := fun r => r.bind fun kvs S2 => .ok (.dat (.dict kvs)) S2
    let Pv : Nat → Hp → Prop := fun i H' => i ≤ ds.length ∧ ∃ th' S' acc xs, Rel (g.add C) th' (wipeD rho vs) S' (L2.wipe sg vs) H' ∧ Ext th1 H1 th' H' ∧ H' C = some (D.o xs) ∧ D.Rq H' (Avd (g.add C) th' (wipeD rho vs) (L2.wipe sg vs)) acc xs ∧
      Post g W (relE g) th rho sg H (Fin (dcL D.f D.kd t cond fk fv (wipeD rho vs) (ds.drop i) acc S')) Q
    refine ⟨fun i m H' => m = ds.length - i ∧ Pv i H', ⟨ds.length, by omega, Nat.zero_le _, th1, S1, [], [], (R1.addB nC).wipe vs, .upd nC, upd_same, D.nil _ _, p'⟩, fun i m H' hW => ?_⟩
    obtain ⟨rfl, hi, th', S', acc, xs, R2, x2, hC, rl, p2⟩ := hW
    have kp2 : Kp H1 (Avd g th1 rho sg) H' (Avd (g.add C) th' (wipeD rho vs) (L2.wipe sg vs)) := fun a o ea n => by
      have nth : a ∉ th1 := fun m => n (.inr (.inl m))
      refine ⟨x2.keep a o ea nth, fun z => ?_⟩
      rcases z with z | z | ⟨i, z⟩
      · exact z.elim (fun z => n (.inl z)) (ne_of_none ea nC)
      · have := x2.new a z nth
        rw [ea] at this
        cases this
      · exact n (.inr (.inr ⟨i, wipe_ow z⟩))
    have hG2 := it.stay _ _ _ _ hG kp2
    by_cases hlt : i < ds.length
    · obtain ⟨d, ed⟩ : ∃ d, ds[i]? = some d := ⟨_, List.getElem?_eq_getElem hlt⟩
      rw [drop_cons ed] at p2
      refine .inr ⟨it.go i d H' _ hG2 ed, Pv (i + 1), fun H2 hN => ⟨ds.length - (i + 1), by omega, rfl, hN⟩, fun x H2 hy => ?_⟩
      have step : ∃ R3 : Rel (g.add C) th' (wipeD rho vs) S' (L2.wipe sg vs) H2, Ext th' H' th' H2 ∧ RpY wk g.K H2 (Avd (g.add C) th' (wipeD rho vs) (L2.wipe sg vs)) d x ∧ H2 C = some (D.o xs) ∧ D.Rq H2 (Avd (g.add C) th' (wipeD rho vs) (L2.wipe sg vs)) acc xs := by
        rcases it.yld i d H' _ x H2 hG2 ed hy with ⟨rfl, r⟩ | ⟨q, u, nq, rfl, r⟩
        · exact ⟨R2, .refl _ _, r, hC, rl⟩
        · exact ⟨R2.fresh nq, .upd nq, r (R2.notAv nq), by rw [upd_ne (ne_of_none hC nq)]; exact hC, D.kp (kp_new nq) rl⟩
      obtain ⟨R3, x3, r3, hC3, rl3⟩ := step
      simp only [dcL] at p2
      cases ep : put t (.dat d) (wipeD rho vs) with
      | none => rw [ep] at p2; exact p2.elim
      | some rho1 =>
        rw [ep] at p2
        obtain ⟨sg1, h1, h2, h3, h4⟩ := put_okY t d x (wipeD rho vs) rho1 (L2.wipe sg vs) R3 r3 hw ep
        have hix : ∀ i ∈ t.ixs, i ∈ vs := fun i m => of_decide_eq_true (List.all_eq_true.mp hvs.2 i m)
        have w1 : L2.wipe sg1 vs = L2.wipe sg vs := by rw [h4 vs hix, wipe_two]
        have w2 := (put_wipe (vs := vs) t (.dat d) _ rho1 ep hix).1
        refine h1 _ ⟨w1, ?_⟩
        have sub : ∀ th a, Avd (g.add C) th (wipeD rho vs) (L2.wipe sg vs) a → Avd (g.add C) th rho1 sg1 a := fun th a z => by
          rcases z with z | z | ⟨j, es, e1, e2⟩
          · exact .inl z
          · exact .inr (.inl z)
          · have nj : j ∉ vs := fun m => by
              unfold wipeD at e1
              rw [wipeG_get] at e1
              split at e1
              · cases e1
              · next hq =>
                have : j < rho.length := (List.getElem?_eq_some_iff.mp e1).1
                exact hq ⟨m, this⟩
            refine .inr (.inr ⟨j, es, ?_, ?_⟩)
            · have q : (wipeG rho1 vs)[j]? = (wipeG (wipeD rho vs) vs)[j]? := by rw [w2]
              rw [wipeG_get, wipeG_get, if_neg (fun z => nj z.1), if_neg (fun z => nj z.1)] at q
              rw [q, e1]
            · have q : (L2.wipe sg1 vs)[j]? = (L2.wipe sg vs)[j]? := by rw [w1]
              rw [wipe_out nj] at q
              rw [q, e2]
        have back : ∀ (th3 : List Addr) (S3 : Store) (H3 : Hp), Rel (g.add C) th3 rho1 S3 sg1 H3 → Ext th' H2 th3 H3 → Rel (g.add C) th3 (wipeD rho vs) S3 (L2.wipe sg vs) H3 := fun th3 S3 H3 R x => R3.step x (R.st.sub (sub th3)) R.nd R.trT
        have acc3 : ∀ (th3 : List Addr) (H3 : Hp), Ext th' H2 th3 H3 → H3 C = some (D.o xs) ∧ D.Rq H3 (Avd (g.add C) th3 (wipeD rho vs) (L2.wipe sg vs)) acc xs ∧ C ∉ th3 := fun th3 H3 x => by
          have nC' : C ∉ th' := fun m => R3.bth C m (.inr rfl)
          refine ⟨x.keep C _ hC3 nC', D.kp x.kp rl3, fun m => ?_⟩
          have := x.new C m nC'
          rw [hC3] at this
          cases this
        refine htt (g.add C) sg1 H2 _ rfl rfl ⟨th', rho1, S', h2, ?_⟩
        cases ec : cond rho1 S' with
        | exc c a S1 => simp only [ec] at p2; exact p2.elim
        | bad => simp only [ec] at p2; exact p2.elim
        | ok b S2 =>
          simp only [ec] at p2
          intro b' H3 th3 R4 x4 eb
          subst eb
          cases b with
          | false =>
            obtain ⟨c1, c2, c3⟩ := acc3 th3 H3 x4
            exact iteF ⟨hlt, th3, S2, acc, xs, back th3 S2 H3 R4 x4, x2.trans (x3.trans x4), c1, c2, p2⟩
          | true =>
            refine iteT (htk (g.add C) sg1 H3 _ rfl rfl ⟨th3, rho1, S2, R4, ?_⟩)
            cases ek : fk rho1 S2 with
            | exc c a S1 => simp only [ek] at p2; exact p2.elim
            | bad => simp only [ek] at p2; exact p2.elim
            | ok k S3 =>
              simp only [ek] at p2
              intro y H4 th4 R5 x5 rk
              refine htv (g.add C) sg1 H4 _ rfl rfl ⟨th4, rho1, S3, R5, ?_⟩
              cases ee : fv rho1 S3 with
              | exc c a S1 => simp only [ee] at p2; exact p2.elim
              | bad => simp only [ee] at p2; exact p2.elim
              | ok y S4 =>
                cases y with
                | dat y =>
                  simp only [ee] at p2
                  intro v H5 th5 R6 x6 r6
                  split at p2
                  case isFalse => exact p2.elim
                  rename_i hl
                  obtain ⟨c1, c2, c3⟩ := acc3 th5 H5 (x4.trans (x5.trans x6))
                  have B5 := (back th5 S4 H5 R6 (x4.trans (x5.trans x6))).putB (u := D.o (putK xs k v)) (.inr rfl) h0
                  have z := x2.trans (x3.trans (x4.trans (x5.trans x6)))
                  refine ⟨_, D.dput c1 (D.ext x6 rk) (by rw [D.len c2]; exact hl), hlt, th5, S4, _, _, B5.1, ⟨z.pre, fun a o e n => by rw [upd_ne (ne_of_none e nC)]; exact z.keep a o e n, z.new⟩, upd_same, D.kp B5.2 (D.put c2 (RD.sub (sub th5) r6)), p2⟩
                | _ => simp only [ee] at p2; exact p2.elim
    · have hl : ds.length = i := by omega
      rw [List.drop_eq_nil_of_le (by omega)] at p2
      refine .inl ⟨it.stop i H' _ hG2 (by omega), ?_⟩
      have p3 : Post g W (relE g) th rho sg H (.ok (.dat (.dict acc)) S') Q := p2
      have xa : Ext th1 (L2.upd H1 C (D.o xs)) th' H' := ⟨x2.pre, fun a o e n => by
        by_cases z : a = C
        · subst z; rw [upd_same] at e; rw [hC]; exact e
        · rw [upd_ne z] at e; exact x2.keep a o e n, fun a m n => by
        rw [upd_ne (fun z : a = C => R2.bth C (z ▸ m) (.inr rfl))]
        exact x2.new a m n⟩
      have Rb : Rel (g.add C) th' rho S' sg H' := (R1.addB (o := D.o xs) nC).unwipe xa R2 hvs.1
      have nt' : C ∉ th' := fun m => R2.bth C m (.inr rfl)
      have nav := Rb.new_notAv nb nt'
      exact p3 (.ref C) H' th' Rb.dropB (x1.trans x2) (D.rp nav hC (D.kp (fun a o e n => ⟨e, fun z => n ((avd_wipe (g := g) hvs.1 a z).elim (fun z => .inl (.inl z)) .inr)⟩) rl))
end
section
variable {X : Cx} {W : WX} {kx vx tg iter : Expr} {ifs : List Expr} {scope : Scope} {own : List (Str × Nat)} {pos : Pos} {items : NF} {t : Tg} {cond : TF} {fv : EF} {D : DKind X.K} {fk : KF D.κ}
theorem l_dc (am : Amb X) (hc : X.calm = true) (hN : X.N.Nodup) (hi : LI X W tg iter items) (ok : BlkOk X.N X.env.scope scope own)
    (hg : ∀ (s : Shared) (H : Hp) (C : Addr) (cl : List (Str × Addr)) (fp : List Addr), PG (X.blk s H scope (compEnvC scope cl C X.env) fp) tg (gT X.K t)) (ht : ∀ (s : Shared) (H : Hp) (C : Addr) (cl : List (Str × Addr)) (fp : List Addr), LTs (X.blk s H scope (compEnvC scope cl C X.env) fp) W0 ifs cond)
    (hk : ∀ (s : Shared) (H : Hp) (C : Addr) (cl : List (Str × Addr)) (fp : List Addr), LK (X.blk s H scope (compEnvC scope cl C X.env) fp) W0 D kx fk)
    (he : ∀ (s : Shared) (H : Hp) (C : Addr) (cl : List (Str × Addr)) (fp : List Addr), LE (X.blk s H scope (compEnvC scope cl C X.env) fp) W0 vx fv) (hs : ∀ x, foldedSetIterable iter X.env x = pure x := by intro _; rfl) (hw : TgOk tg t := by first | exact L3.tgok_nm | exact L3.tgok_tp) :
    LE X W (.DictComp kx vx [⟨tg, iter, ifs, 0⟩] scope pos) (eDc D.f D.kd items t cond fk fv (own.map (·.2))) := fun g hK hm =>
  (pe_dg (o0 := D.o []) (tk := fun sg H Q => ∃ g' : Gh, g'.K = g.K ∧ g'.mg = g.mg ∧ tL g' W0 (fun H _ th q y => D.KR H th q y) fk sg H Q) (fun H h hb => D.new0 _ _ H h hb) (by have := am.un; omega) hc hN (hi g hK hm) ok hg (fun s H C cl fp => (ht s H C cl fp).ex (K := g.K) (mg := g.mg) hK hm)
    (fun s H C cl fp => ⟨fun pins s2 sg H2 Q I ⟨g', h1, h2, q⟩ => (hk s H C cl fp g' (h1.trans hK) (h2.trans hm)).run pins s2 sg H2 Q I q⟩) (fun s H C cl fp => (he s H C cl fp).ex (K := g.K) (mg := g.mg) hK hm) hs).of fun sg H Q q =>
    dg_read hw hK (fun _ _ _ z => z) (fun g' _ _ _ h1 h2 z => ⟨g', h1, h2, z⟩) (fun g' _ _ _ h1 h2 z => ⟨g', h1, h2, z⟩) (fun g' _ _ _ h1 h2 z => ⟨g', h1, h2, z⟩) sg H Q q
end
end L3

/-! L3Asg -/
namespace L3
open PySem PySem.Spec PyProof.Rows L2

theorem sw_trueD {kx vx : Expr} {gs : List Comprehension} {scope : Scope} {pos py : Pos} {y : Str} {l : Nat} {env : PySem.Env} (hk : env.scope.kind = .function) (hy : env.scope.names.lookup y = some .local) (hl : (py.line == pos.line) = true)
    (ha : (scope.names.any fun (n, k) => n == y && (k == .local || k == .cell)) = false) : swapsWith (.DictComp kx vx gs scope pos) (some (.Name y py)) l env = pure true := by
  have ky : env.kindOf y = some .local := hy
  have hb : env.blockKind = .function := by unfold Env.blockKind; rw [hk]; rfl
  unfold swapsWith
  simp only [hb, ky, ha, Expr.pos, hl]
  rfl
section
variable {g : Gh} {W : WX} {th th1 : List Addr} {rho : Sl} {sg : L2.St} {H : Hp}
theorem asg_read {K : PySem.W.Frag} {t : Tg} {fe : EF} {D : Ends} (hK : g.K = K) (q : tS g W (sAsg t fe) D sg H) : tE g W fe sg H fun x H1 => gT K t x sg H1 D.nx := by
  obtain ⟨th, rho, S, R0, p⟩ := q
  exact tL.stm (k := fun d S1 => match put t d rho with
    | some rho' => .nx rho' S1
    | none => .bad) R0 p fun d S1 v H1 th1 _ R1 _ r q => by
      cases e : put t d rho with
      | none => rw [e] at q; exact q.elim
      | some rho' =>
        rw [e] at q
        obtain ⟨sg', h1, h2, h3, _⟩ := put_ok t d v rho rho' sg R1 r e
        rw [← hK]
        exact h1 _ (q sg' H1 th1 h2 (pres_sub h3))
theorem new_read {f : NF} {Q : VK} (q : tE g W (eOfN f) sg H Q) : tN g W f sg H Q := by
  obtain ⟨th, rho, S, R0, p⟩ := q
  refine ⟨th, rho, S, R0, ?_⟩
  unfold eOfN at p
  cases e : f rho S with
  | ok ds S' =>
    rw [e] at p
    exact fun q xs H' th' R1 x hp rl nb nt h0 _ => p (.ref q) H' th' R1.dropB x (new_rd R1 hp rl nb nt)
  | exc c a S' => rw [e] at p; exact p
  | bad => rw [e] at p; exact p
end
section
variable {X : Cx} {W : WX} {elt kx vx tg iter : Expr} {ifs : List Expr} {scope : Scope} {own : List (Str × Nat)} {pos spos py : Pos} {items : NF} {t : Tg} {cond : TF} {felt fv : EF} {D : DKind X.K} {fk : KF D.κ} {i : Nat} {y : Str}
theorem ls_asgLc (hc : X.calm = true) (hN : X.N.Nodup) (hy : X.N[i]? = some y) (hyl : X.env.scope.names.lookup y = some .local)
    (hsw : swapsWith (.ListComp elt [⟨tg, iter, ifs, 0⟩] scope pos) (some (.Name y py)) spos.line X.env = pure true) (hi : LI X W tg iter items) (ok : BlkOk X.N X.env.scope scope own)
    (hg : ∀ (s : Shared) (H : Hp) (C : Addr) (cl : List (Str × Addr)) (fp : List Addr), PG (X.blk s H scope (compEnvC scope cl C X.env) fp) tg (gT X.K t)) (ht : ∀ (s : Shared) (H : Hp) (C : Addr) (cl : List (Str × Addr)) (fp : List Addr), LTs (X.blk s H scope (compEnvC scope cl C X.env) fp) W0 ifs cond)
    (he : ∀ (s : Shared) (H : Hp) (C : Addr) (cl : List (Str × Addr)) (fp : List Addr), LE (X.blk s H scope (compEnvC scope cl C X.env) fp) W0 elt felt) (hs : ∀ x, foldedSetIterable iter X.env x = pure x := by intro _; rfl) (hw : TgOk tg t := by first | exact L3.tgok_nm | exact L3.tgok_tp) :
    LS X W (.Assign [.Name y py] (.ListComp elt [⟨tg, iter, ifs, 0⟩] scope pos) spos) (sAsg (.nm i) (eOfN (nLc items t cond felt (own.map (·.2))))) := fun g hK hm =>
  (ps_setLc hc hN hy hyl hsw (hi g hK hm) ok hg (fun s H C cl fp => (ht s H C cl fp).ex (K := g.K) (mg := g.mg) hK hm) (fun s H C cl fp => (he s H C cl fp).ex (K := g.K) (mg := g.mg) hK hm) hs).of fun D sg H q => by
    have q := new_read (asg_read hK q)
    simp only [gT] at q
    exact lc_read hw hK (fun _ _ _ z => z) (fun g' _ _ _ h1 h2 z => ⟨g', h1, h2, z⟩) (fun g' _ _ _ h1 h2 z => ⟨g', h1, h2, z⟩) sg H _ q
theorem ls_asgDc (am : Amb X) (hc : X.calm = true) (hN : X.N.Nodup) (hy : X.N[i]? = some y) (hyl : X.env.scope.names.lookup y = some .local)
    (hsw : swapsWith (.DictComp kx vx [⟨tg, iter, ifs, 0⟩] scope pos) (some (.Name y py)) spos.line X.env = pure true) (hi : LI X W tg iter items) (ok : BlkOk X.N X.env.scope scope own)
    (hg : ∀ (s : Shared) (H : Hp) (C : Addr) (cl : List (Str × Addr)) (fp : List Addr), PG (X.blk s H scope (compEnvC scope cl C X.env) fp) tg (gT X.K t)) (ht : ∀ (s : Shared) (H : Hp) (C : Addr) (cl : List (Str × Addr)) (fp : List Addr), LTs (X.blk s H scope (compEnvC scope cl C X.env) fp) W0 ifs cond)
    (hk : ∀ (s : Shared) (H : Hp) (C : Addr) (cl : List (Str × Addr)) (fp : List Addr), LK (X.blk s H scope (compEnvC scope cl C X.env) fp) W0 D kx fk)
    (he : ∀ (s : Shared) (H : Hp) (C : Addr) (cl : List (Str × Addr)) (fp : List Addr), LE (X.blk s H scope (compEnvC scope cl C X.env) fp) W0 vx fv) (hs : ∀ x, foldedSetIterable iter X.env x = pure x := by intro _; rfl) (hw : TgOk tg t := by first | exact L3.tgok_nm | exact L3.tgok_tp) :
    LS X W (.Assign [.Name y py] (.DictComp kx vx [⟨tg, iter, ifs, 0⟩] scope pos) spos) (sAsg (.nm i) (eDc D.f D.kd items t cond fk fv (own.map (·.2)))) := fun g hK hm =>
  (ps_setDg (o0 := D.o []) (tk := fun sg H Q => ∃ g' : Gh, g'.K = g.K ∧ g'.mg = g.mg ∧ tL g' W0 (fun H _ th q y => D.KR H th q y) fk sg H Q) (fun H h hb => D.new0 _ _ H h hb) (by have := am.un; omega) hc hN hy hyl hsw (hi g hK hm) ok hg (fun s H C cl fp => (ht s H C cl fp).ex (K := g.K) (mg := g.mg) hK hm)
    (fun s H C cl fp => ⟨fun pins s2 sg H2 Q I ⟨g', h1, h2, q⟩ => (hk s H C cl fp g' (h1.trans hK) (h2.trans hm)).run pins s2 sg H2 Q I q⟩) (fun s H C cl fp => (he s H C cl fp).ex (K := g.K) (mg := g.mg) hK hm) hs).of fun D sg H q => by
    have q := asg_read hK q
    simp only [gT] at q
    exact dg_read hw hK (fun _ _ _ z => z) (fun g' _ _ _ h1 h2 z => ⟨g', h1, h2, z⟩) (fun g' _ _ _ h1 h2 z => ⟨g', h1, h2, z⟩) (fun g' _ _ _ h1 h2 z => ⟨g', h1, h2, z⟩) sg H _ q
end
end L3

/-! L3Gen -/
namespace L3
open PySem PySem.Spec PyProof.Rows L2

/-! ### defs of a text -/
theorem Knows.mono {P : Program} {w : World} {K : PySem.W.Frag} {mg : Str → Option Value} {base : Heap} {j k n : Nat} {x : Str} {F : FF} (h : Knows P w K mg base j x n F) (hj : j ≤ k := by decide) : Knows P w K mg base k x n F :=
  ⟨let ⟨f, fd, ps, h1, h2, h3, h4, h5⟩ := h.ex; ⟨f, fd, ps, h1, h2, h3, h4, h5.mono hj⟩⟩
theorem l_gl {X : Cx} {W : WX} {x : Str} {d : PyData} {pos : Pos} (h : ∃ u, X.mg x = some u ∧ KD X.K d u) (hg : Gl X x := by rfl) (hdb : (x == ("__debug__" : Str)) = false := by decide) : LE X W (.Name x pos) (eD d) :=
  let ⟨_, h1, h2⟩ := h; l_glob hg h1 h2 hdb
theorem Amb.blk {X : Cx} (a : Amb X) {s : Shared} {H : Hp} {scope : Scope} {ce : PySem.Env} {fp : List Addr} : Amb (X.blk s H scope ce fp) := ⟨a.gd, a.un, a.hd⟩
theorem takes0 {X : Cx} : Takes X W0 := fun _ _ ⟨_, _, _, _, _, _, _, _, _, _, _, _, _, _, _, _, w⟩ => w.elim
abbrev cxF (P : Program) (w : World) (K : PySem.W.Frag) (mg : Str → Option Value) (base : Heap) (N : List Str) (qual : Str) (st : Stmt) (f : Addr) (cdv : Value) (A : Around) (outer : List PySem.Env) (s : Shared) (H : Hp) (E : XK) : Cx :=
  cxOf (L2.CX P w) P w K mg base N qual (defScope st) f cdv A outer s H E
abbrev wxF (E : XK) : WX := fun cls d _ H' => E cls d H'
/-- what a def's body is shown to do, at every entry -/
def Body (P : Program) (w : World) (K : PySem.W.Frag) (mg : Str → Option Value) (base : Heap) (k : Nat) (N : List Str) (qual : Str) (st : Stmt) (F : SF) : Prop :=
  ∀ (f : Addr) (cdv : Value) (A : Around) (outer : List PySem.Env) (s : Shared) (H : Hp) (E : XK), Amb (cxF P w K mg base N qual st f cdv A outer s H E) → Room k (cxF P w K mg base N qual st f cdv A outer s H E).A → Takes (cxF P w K mg base N qual st f cdv A outer s H E) (wxF E) →
    PassesOwn (model P w) (cxF P w K mg base N qual st f cdv A outer s H E).A (cxF P w K mg base N qual st f cdv A outer s H E).env (cxF P w K mg base N qual st f cdv A outer s H E).xe → LSs (cxF P w K mg base N qual st f cdv A outer s H E) (wxF E) (defBody st) F
section
variable {P : Program} {w : World} {K : PySem.W.Frag} {mg : Str → Option Value} {base : Heap} {k m : Nat} {x qual : Str} {st : Stmt} {f : Addr} {fd : FuncData} {N ps : List Str} {F : SF}
theorem fun_g (Fn : Fun K x qual st f fd) (Sc : FnScope N ps (defScope st)) (hN : N.length = ps.length + m) (hb : Body P w K mg base k N qual st F) : FnG P w K mg base (k + 1) f fd ps (spL K mg ps.length (fnF m F)) := by
  obtain ⟨oc, od, kV, doc, pm, an, cdv, ct, osl, rfl, lk, hcd⟩ := Fn.ex
  exact fng_of lk hcd Sc hN fun A outer s H E gd room => hb f cdv A outer s H E (amb_of gd room) room (takes_of rfl rfl rfl rfl) (passes_of rfl)
theorem knows_of (hm : ∃ f fd, mg x = some (.ref f) ∧ Fun K x qual st f fd) (hbind : ∀ f fd, Fun K x qual st f fd → Binds K fd ps []) (Sc : FnScope N ps (defScope st)) (hN : N.length = ps.length + m) (hb : Body P w K mg base k N qual st F) : Knows P w K mg base (k + 1) x ps.length (fnF m F) :=
  let ⟨f, fd, h1, h2⟩ := hm; ⟨f, fd, ps, h1, h2.kp, hbind f fd h2, rfl, fun_g h2 Sc hN hb⟩
end
section
variable {K : PySem.W.Frag} {mg : Str → Option Value} {h : Heap} {x : Str}
theorem kd_int {i : Int} {t : Tok} (X : K.In h) (G : h.Ns mainGlobals mg) (a : PySem.W.nsIn K mainGlobals x = some (some (.int i t))) : ∃ u, mg x = some u ∧ KD K (.int i) u :=
  ⟨_, PySem.W.mg_of X G a, .int i, ⟨t, rfl⟩, fun _ _ => by simp only [Rp]⟩
theorem kd_str {y : Str} {t : Tok} (X : K.In h) (G : h.Ns mainGlobals mg) (a : PySem.W.nsIn K mainGlobals x = some (some (.str y t))) : ∃ u, mg x = some u ∧ KD K (.str y) u :=
  ⟨_, PySem.W.mg_of X G a, .str y, ⟨t, rfl⟩, fun _ _ => by simp only [Rp]⟩
theorem kd_tup {a : Addr} {o : Obj} {its : Array Value} {n : Nat} {ds : List PyData} {xs : List V} (X : K.In h) (G : h.Ns mainGlobals mg) (e : PySem.W.nsIn K mainGlobals x = some (some (.ref a))) (l : K.lookup a = some o) (c : o.cls = .type "tuple") (dd : o.dict = none) (d : o.data = .seq its n) (z : its.size ≤ sizeLine)
    (v : Vals xs its.toList) (r : ∀ H A, RpL K H A ds xs) (hb : keyB ds = false := by rfl) : ∃ u, mg x = some u ∧ KD K (.tuple ds) u :=
  ⟨_, PySem.W.mg_of X G e, .ref a, rfl, fun H A => by
    simp only [Rp]
    rw [hb]
    exact ⟨a, xs, rfl, .inr ⟨o, its, n, l, c, dd, d, z, v⟩, r H A⟩⟩
theorem fun_at {qual : Str} {st : Stmt} {f : Addr} {oc : Value} {od an : Option Addr} {osl : Array (Option Value)} {kV doc pm cdv ct : Value} (X : K.In h) (G : h.Ns mainGlobals mg) (a : PySem.W.nsIn K mainGlobals x = some (some (.ref f)))
    (l : K.lookup f = some ⟨oc, od, .func (PySem.W.fnOf x qual (defArgs st) (defBody st) (defScope st) .none kV doc pm an cdv ct), osl⟩) (c : PySem.W.codeIn K cdv qual = true) (k : PySem.W.keepIn K (.ref f) = true) : ∃ f fd, mg x = some (.ref f) ∧ Fun K x qual st f fd :=
  ⟨f, _, PySem.W.mg_of X G a, fun_mk l c k⟩
end
end L3

/-! L3Eval -/
namespace L3
open PySem PySem.Spec PyProof.Rows L2

/-! ### the mirror functions, evaluated -/
def SR.andThen : SR → SF → SR
  | .nx rho S, f => f rho S
  | r, _ => r
def optR (o : Option D) (S : Store) : R D := match o with
  | some d => .ok d S
  | none => .bad
def optB (o : Option Bool) (S : Store) : R Bool := match o with
  | some d => .ok d S
  | none => .bad
section
variable {α β : Type} {a : α} {S : Store} {rho : Sl} {k : α → Store → R β} {ks : α → Store → SR} {f h j : EF} {t u : TF} {p q : SF} {r : AF} {i : Nat} {c : Str} {x : Option (Str × D)}
theorem e_bind_ok : (R.ok a S).bind k = k a S := id rfl
theorem e_stm_ok : (R.ok a S).stm rho ks = ks a S := id rfl
theorem e_then_nx : (SR.nx rho S).andThen p = p rho S := id rfl
theorem e_then_rt {d : D} : (SR.rt d S).andThen p = .rt d S := id rfl
theorem e_then_bk : (SR.bk rho S).andThen p = .bk rho S := id rfl
theorem e_then_ct : (SR.ct rho S).andThen p = .ct rho S := id rfl
theorem e_optR {d : D} : optR (some d) S = .ok d S := id rfl
theorem e_optB {d : Bool} : optB (some d) S = .ok d S := id rfl
theorem e_seq : sSeq p q rho S = (p rho S).andThen q := by unfold sSeq SR.andThen; cases p rho S <;> rfl
theorem e_pass : sPass rho S = .nx rho S := id rfl
theorem e_break : sBreak rho S = .bk rho S := id rfl
theorem e_cont : sCont rho S = .ct rho S := id rfl
theorem e_asg {tg : Tg} : sAsg tg f rho S = (f rho S).stm rho fun d S1 => match put tg d rho with
  | some rho' => .nx rho' S1
  | none => .bad := id rfl
theorem e_put {d : D} : put (.nm i) d rho = if d.stable = true then some (rho.set i (some d)) else none := by simp only [put]
theorem e_ret : sRet f rho S = (f rho S).stm rho fun d S1 => if d.stable = true then .rt d S1 else .bad := id rfl
theorem e_if : sIf t p q rho S = (t rho S).stm rho fun b S1 => if b = true then p rho S1 else q rho S1 := by
  unfold sIf
  congr 1
  funext b S1
  cases b <;> rfl
theorem e_var : eVar i rho S = match rho[i]? with
  | some (some d) => .ok d S
  | _ => .bad := id rfl
theorem e_d {d : PyData} : eD d rho S = .ok (.dat d) S := id rfl
theorem e_bin {o : O2} : eBin o f h rho S = (f rho S).bind fun a S1 => (h rho S1).bind fun b S2 => optR (o a b) S2 := id rfl
theorem e_un {o : O1} : eUn o f rho S = (f rho S).bind fun a S1 => optR (o a) S1 := id rfl
theorem e_ix : eIx f h rho S = (f rho S).bind fun a S1 => (h rho S1).bind fun b S2 => optR (ixD S2 a b) S2 := id rfl
theorem e_tOf : tOf f rho S = (f rho S).bind fun a S1 => optB (tru a) S1 := id rfl
theorem e_tOfB : tOfB f rho S = (f rho S).bind fun a S1 => optB (dB a) S1 := id rfl
theorem e_and : tAndL t u rho S = (t rho S).bind fun b S1 => if b = true then u rho S1 else .ok false S1 := by
  unfold tAndL
  congr 1
  funext b S1
  cases b <;> rfl
theorem e_or : tOrL t u rho S = (t rho S).bind fun b S1 => if b = true then .ok true S1 else u rho S1 := by
  unfold tOrL
  congr 1
  funext b S1
  cases b <;> rfl
theorem e_tnot : tNotL t rho S = (t rho S).bind fun b S1 => .ok (!b) S1 := id rfl
def optV (o : Option Bool) (k : Bool → R D) : R D := match o with
  | some b => k b
  | none => .bad
theorem e_optV {b : Bool} {k : Bool → R D} : optV (some b) k = k b := id rfl
theorem e_vand : eAnd f h rho S = (f rho S).bind fun a S1 => optV (dB a) fun b => if b = true then h rho S1 else .ok (.dat (.bool false)) S1 := by
  unfold eAnd
  congr 1
  funext a S1
  cases dB a with
  | none => rfl
  | some b => cases b <;> rfl
theorem e_vor : eOr f h rho S = (f rho S).bind fun a S1 => optV (dB a) fun b => if b = true then .ok (.dat (.bool true)) S1 else h rho S1 := by
  unfold eOr
  congr 1
  funext a S1
  cases dB a with
  | none => rfl
  | some b => cases b <;> rfl
theorem e_vnot : eNot f rho S = (f rho S).bind fun a S1 => optV (dB a) fun b => .ok (.dat (.bool !b)) S1 := id rfl
theorem e_vif : eIf t f h rho S = (t rho S).bind fun b S1 => if b = true then f rho S1 else h rho S1 := by
  unfold eIf
  congr 1
  funext b S1
  cases b <;> rfl
theorem e_nil : aNil rho S = .ok [] S := id rfl
theorem e_cons : aCons f r rho S = (f rho S).bind fun a S1 => (r rho S1).bind fun as S2 => .ok (a :: as) S2 := id rfl
theorem e_cb {o : OL} : eCB o r rho S = (r rho S).bind fun as S1 => optR (o as) S1 := id rfl
theorem e_call {F : FF} {n : Nat} : eCall F n r rho S = (r rho S).bind fun ds S1 => if ds.length = n ∧ stables ds = true then F ds S1 else .bad := id rfl
theorem e_isi {T : String} : eIsi T f rho S = (f rho S).bind fun a S1 => match tyD a with
  | some t => .ok (.dat (.bool (isa t T))) S1
  | none => .bad := id rfl
def optT (o : Option (List PyData)) (S : Store) (mk : List PyData → D) : R D := match o with
  | some ds => if ds.length ≤ sizeLine then .ok (mk ds) S else .bad
  | none => .bad
theorem e_optT {ds : List PyData} {mk : List PyData → D} : optT (some ds) S mk = if ds.length ≤ sizeLine then .ok (mk ds) S else .bad := id rfl
theorem e_tup : eTup r rho S = (r rho S).bind fun as S1 => optT (dats as) S1 fun ds => .dat (.tuple ds) := id rfl
theorem e_lst : eLst r rho S = (r rho S).bind fun as S1 => optT (dats as) S1 fun ds => .dat (.list ds) := id rfl
theorem e_dats_nil : dats [] = some [] := id rfl
theorem e_dats_cons {d : PyData} {as : List D} : dats (.dat d :: as) = (dats as).map (d :: ·) := id rfl
theorem e_for {items : NF} {tg : Tg} {b : SF} : sFor items tg b rho S = (items rho S).stm rho fun ds S1 => forL tg b ds rho S1 := id rfl
def rngO (a : D) (S : Store) : R (List PyData) := match a with
  | .dat (.int j) => if -(2 ^ 62) ≤ j ∧ j < 2 ^ 62 then .ok (rngD 0 j.toNat) S else .bad
  | _ => .bad
theorem e_rng : iRng f rho S = (f rho S).bind fun a S1 => rngO a S1 := id rfl
theorem rngO_n {n : Nat} (h : n ≤ 1000000) : rngO (.dat (.int (n : Nat))) S = .ok (rngD 0 n) S := by
  have h1 : -(2 ^ 62) ≤ (n : Int) ∧ (n : Int) < 2 ^ 62 := by
    have e : (2 : Int) ^ 62 = 4611686018427387904 := by decide
    rw [e]
    omega
  unfold rngO
  simp only [if_pos h1, Int.toNat_natCast]
def seqO (a : D) (S : Store) : R (List PyData) := match a with
  | .dat (.tuple ds) => .ok ds S
  | _ => .bad
def strO (a : D) (S : Store) : R (List PyData) := match a with
  | .dat (.str x) => .ok (chrsD x) S
  | _ => .bad
theorem e_sqi : iSeq f rho S = (f rho S).bind fun a S1 => seqO a S1 := id rfl
theorem e_sti : iStrs f rho S = (f rho S).bind fun a S1 => strO a S1 := id rfl
theorem seqO_t {ds : List PyData} : seqO (.dat (.tuple ds)) S = .ok ds S := id rfl
theorem strO_s {y : Str} : strO (.dat (.str y)) S = .ok (chrsD y) S := id rfl
theorem e_set {fo fi fe : EF} : sSet fo fi fe rho S = (fe rho S).stm rho fun d S1 => (fo rho S1).stm rho fun o S2 => (fi rho S2).stm rho fun k S3 => setK rho d o k S3 := id rfl
theorem e_new {g : NF} : sNew i g rho S = (g rho S).stm rho fun ds S1 => .nx (rho.set i (some (.own ds))) S1 := id rfl
theorem e_retref {g : NF} : sRetRef g rho S = (g rho S).stm rho fun ds S1 => .rt (.ref S1.length) (S1 ++ [.lst (ds.map .dat)]) := id rfl
theorem e_nlst : nLst r rho S = (r rho S).bind fun as S1 => match dats as with
  | some ds => if ds.length ≤ sizeLine then .ok ds S1 else .bad
  | none => .bad := id rfl
theorem e_eOfN {g : NF} : eOfN g rho S = (g rho S).bind fun ds S1 => .ok (.dat (.list ds)) S1 := id rfl
theorem e_sl {l m : OF} : eSl f l m rho S = (f rho S).bind fun a S1 => (l rho S1).bind fun lo S2 => (m rho S2).bind fun hi S3 => optR (slD lo hi a) S3 := id rfl
theorem e_onone : oNone rho S = .ok none S := id rfl
theorem e_osome : oSome f rho S = (f rho S).bind fun a S1 => match a with
  | .dat (.int i) => .ok (some i) S1
  | _ => .bad := id rfl
end
/-! values -/
theorem v_lt (i j : Int) : ltD (.dat (.int i)) (.dat (.int j)) = some (.dat (.bool (decide (i < j)))) := by
  simp [ltD, ord, two, vw, PyData.plain, PyData.depth, PySem.W.alike, nnone, bD, PySem.W.dataLt_int]
theorem v_gt (i j : Int) : gtD (.dat (.int i)) (.dat (.int j)) = some (.dat (.bool (decide (j < i)))) := by
  simp [gtD, ord, two, vw, PyData.plain, PyData.depth, PySem.W.alike, nnone, bD, PySem.W.dataLt_int]
theorem v_le (i j : Int) : leD (.dat (.int i)) (.dat (.int j)) = some (.dat (.bool (decide (i ≤ j)))) := by
  simp only [leD, ord, two, vw, PyData.plain, PyData.depth, PySem.W.alike, nnone, bD, PySem.W.dataLt_int]
  by_cases h : i ≤ j
  · simp [h, Int.not_lt.mpr h]
  · simp [h, Int.not_le.mp h]
theorem v_ge (i j : Int) : geD (.dat (.int i)) (.dat (.int j)) = some (.dat (.bool (decide (j ≤ i)))) := by
  simp only [geD, ord, two, vw, PyData.plain, PyData.depth, PySem.W.alike, nnone, bD, PySem.W.dataLt_int]
  by_cases h : j ≤ i
  · simp [h, Int.not_lt.mpr h]
  · simp [h, Int.not_le.mp h]
theorem v_eq (i j : Int) : eqD (.dat (.int i)) (.dat (.int j)) = some (.dat (.bool (decide (i = j)))) := by
  simp [eqD, two, vw, PyData.plain, PyData.depth, bD, PyData.eqv]
  rfl
theorem v_ne (i j : Int) : neD (.dat (.int i)) (.dat (.int j)) = some (.dat (.bool (!decide (i = j)))) := by
  simp [neD, two, vw, PyData.plain, PyData.depth, bD, PyData.eqv]
  rfl
theorem v_add (i j : Int) : addD (.dat (.int i)) (.dat (.int j)) = some (.dat (.int (i + j))) := rfl
theorem v_sub (i j : Int) : subD (.dat (.int i)) (.dat (.int j)) = some (.dat (.int (i - j))) := rfl
theorem v_mod {i j : Int} (h : 0 < j) : modD (.dat (.int i)) (.dat (.int j)) = some (.dat (.int (i % j))) := by
  simp [modD, intD, h]
theorem v_fdiv {i j : Int} (h : 0 < j ∧ j.natAbs.log2 < 9000) : fdivD (.dat (.int i)) (.dat (.int j)) = some (.dat (.int (i / j))) := by
  simp [fdivD, intD, h]
theorem v_mul {i j : Int} (h : i.natAbs.log2 + j.natAbs.log2 < 1000000) : mulD (.dat (.int i)) (.dat (.int j)) = some (.dat (.int (i * j))) := by
  simp [mulD, vw, mulI, h]
theorem v_pow {i j : Int} (h : 0 ≤ j ∧ (Builtin.Int.intBits i : Int) * j ≤ 2 ^ 27) : powD (.dat (.int i)) (.dat (.int j)) = some (.dat (.int (i ^ j.toNat))) := by
  simp only [powD, intD, if_pos h, Option.map_some]
theorem v_ixr {S : Store} {r : Nat} {ds : List D} (i : Int) (h : S[r]? = some (.lst ds)) : ixD S (.ref r) (.dat (.int i)) = atI ds i := by simp [ixD, h]
theorem log2_lt {i : Int} {n : Nat} (h0 : 0 ≤ i) (h : i < 2 ^ n) (hn : 0 < n) : i.natAbs.log2 < n := by
  by_cases hz : i.natAbs = 0
  · rw [hz]; simpa using hn
  · rw [Nat.log2_lt hz]
    have e : ((i.natAbs : Nat) : Int) = i := Int.natAbs_of_nonneg h0
    have : ((i.natAbs : Nat) : Int) < ((2 ^ n : Nat) : Int) := by rw [e]; simpa using h
    exact Int.ofNat_lt.mp this
theorem s_dat {d : PyData} : (D.dat d).stable = true := id rfl
theorem s_ref {n : Nat} : (D.ref n).stable = true := id rfl
theorem s_scr {ns : List Int} : (D.scr ns).stable = true := id rfl
theorem s_nil : stables [] = true := id rfl
theorem s_cons {d : D} {ds : List D} : stables (d :: ds) = (d.stable && stables ds) := id rfl
def SR.toR : SR → R D
  | .rt d S' => .ok d S'
  | .nx _ S' => .ok (.dat .none) S'
  | .exc c a _ S' => .exc c a S'
  | _ => .bad
theorem e_fn {m : Nat} {b : SF} {ds : List D} {S : Store} : fnF m b ds S = (b (ds.map some ++ List.replicate m none) S).toR := by
  unfold fnF SR.toR
  cases b (ds.map some ++ List.replicate m none) S <;> rfl
theorem e_to_rt {d : D} {S : Store} : (SR.rt d S).toR = .ok d S := id rfl
theorem e_to_nx {rho : Sl} {S : Store} : (SR.nx rho S).toR = .ok (.dat .none) S := id rfl
theorem e_setK {rho : Sl} {S : Store} {r : Nat} {ds : List D} {d : D} {i : Int} {m : Nat} (h : S[r]? = some (.lst ds)) (hi : ixN ds.length i = some m) (hd : d.stable = true) : setK rho d (.ref r) (.dat (.int i)) S = .nx rho (S.set r (.lst (ds.set m d))) := by
  simp only [setK, h, hi, hd, if_true]
theorem e_o1 {o : O1} {a : D} : o1 o [a] = o a := id rfl
def parK (is : List Nat) (rho : Sl) (ds : List D) (S : Store) : SR := if ds.length = is.length ∧ stables ds = true then .nx ((is.zip ds).foldl (fun r p => r.set p.1 (some p.2)) rho) S else .bad
theorem e_par2 {is : List Nat} {r : AF} {rho : Sl} {S : Store} : sPar is r rho S = (r rho S).stm rho fun ds S1 => parK is rho ds S1 := id rfl
theorem e_park2 {i j : Nat} {rho : Sl} {a b : D} {S : Store} (ha : a.stable = true) (hb : b.stable = true) : parK [i, j] rho [a, b] S = .nx ((rho.set i (some a)).set j (some b)) S := by
  unfold parK
  rw [if_pos ⟨rfl, by rw [s_cons, s_cons, ha, hb]; rfl⟩]
  rfl
theorem e_park3 {i j k : Nat} {rho : Sl} {a b c : D} {S : Store} (ha : a.stable = true) (hb : b.stable = true) (hc : c.stable = true) : parK [i, j, k] rho [a, b, c] S = .nx (((rho.set i (some a)).set j (some b)).set k (some c)) S := by
  unfold parK
  rw [if_pos ⟨rfl, by rw [s_cons, s_cons, s_cons, ha, hb, hc]; rfl⟩]
  rfl
/-! loops and comprehensions by an invariant -/
theorem lcL_ix {t : Tg} {elt : EF} {rw : Sl} (P : Nat → List PyData → Store → Prop) : ∀ (ds : List PyData) (i : Nat) (acc : List PyData) (S : Store), P i acc S →
    (∀ j d acc S, ds[j]? = some d → P (i + j) acc S → ∃ rho1 p S2, put t (.dat d) rw = some rho1 ∧ elt rho1 S = .ok (.dat p) S2 ∧ acc.length < sizeLine ∧ P (i + j + 1) (acc ++ [p]) S2) →
    ∃ acc' S', lcL t tTrue elt rw ds acc S = .ok acc' S' ∧ P (i + ds.length) acc' S'
  | [], i, acc, S, h, _ => ⟨acc, S, rfl, h⟩
  | d :: ds, i, acc, S, h, k => by
    obtain ⟨rho1, p, S2, e1, e2, e3, h2⟩ := k 0 d acc S rfl h
    obtain ⟨acc', S', e4, h4⟩ := lcL_ix P ds (i + 1) (acc ++ [p]) S2 h2 fun j d' acc S e q => by
      have := k (j + 1) d' acc S (by simpa using e) (by rw [show i + (j + 1) = i + 1 + j by omega]; exact q)
      rw [show i + (j + 1) + 1 = i + 1 + j + 1 by omega] at this
      exact this
    refine ⟨acc', S', ?_, by rw [List.length_cons, show i + (ds.length + 1) = i + 1 + ds.length by omega]; exact h4⟩
    simp only [lcL, e1, tTrue, e2, if_pos e3]
    exact e4
/-- a comprehension that changes nothing -/
theorem lcL_map {t : Tg} {elt : EF} {rw : Sl} {S : Store} (f : PyData → PyData) : ∀ (ds acc : List PyData), acc.length + ds.length ≤ sizeLine → (∀ d ∈ ds, ∃ rho1, put t (.dat d) rw = some rho1 ∧ elt rho1 S = .ok (.dat (f d)) S) →
    lcL t tTrue elt rw ds acc S = .ok (acc ++ ds.map f) S
  | [], acc, _, _ => by rw [List.map_nil, List.append_nil]; rfl
  | d :: ds, acc, hz, k => by
    obtain ⟨rho1, e1, e2⟩ := k d (List.mem_cons_self ..)
    rw [List.length_cons] at hz
    have hlt : acc.length < sizeLine := by omega
    simp only [lcL, e1, tTrue, e2, if_pos hlt]
    rw [lcL_map f ds (acc ++ [f d]) (by rw [List.length_append, List.length_cons, List.length_nil]; omega) fun x hx => k x (List.mem_cons_of_mem _ hx), List.map_cons, List.append_assoc]
    rfl
theorem forL_ix {t : Tg} {body : SF} (P : Nat → Sl → Store → Prop) : ∀ (ds : List PyData) (i : Nat) (rho : Sl) (S : Store), P i rho S →
    (∀ j d rho S, ds[j]? = some d → P (i + j) rho S → ∃ rho1, put t (.dat d) rho = some rho1 ∧ ∃ rho2 S2, (body rho1 S = .nx rho2 S2 ∨ body rho1 S = .ct rho2 S2) ∧ P (i + j + 1) rho2 S2) →
    ∃ rho' S', forL t body ds rho S = .nx rho' S' ∧ P (i + ds.length) rho' S'
  | [], i, rho, S, h, _ => ⟨rho, S, rfl, h⟩
  | d :: ds, i, rho, S, h, k => by
    obtain ⟨rho1, e1, rho2, S2, e2, h2⟩ := k 0 d rho S rfl h
    obtain ⟨rho', S', e4, h4⟩ := forL_ix P ds (i + 1) rho2 S2 h2 fun j d' acc S e q => by
      have := k (j + 1) d' acc S (by simpa using e) (by rw [show i + (j + 1) = i + 1 + j by omega]; exact q)
      rw [show i + (j + 1) + 1 = i + 1 + j + 1 by omega] at this
      exact this
    refine ⟨rho', S', ?_, by rw [List.length_cons, show i + (ds.length + 1) = i + 1 + ds.length by omega]; exact h4⟩
    simp only [forL, e1]
    rcases e2 with e2 | e2 <;> (rw [e2]; exact e4)
theorem e_nlc {items : NF} {t : Tg} {cond : TF} {elt : EF} {vs : List Nat} {rho : Sl} {S : Store} : nLc items t cond elt vs rho S = (items rho S).bind fun ds S1 => if notOwn rho vs = true ∧ (t.ixs.all fun i => decide (i ∈ vs)) = true then lcL t cond elt (wipeD rho vs) ds [] S1 else .bad := id rfl
theorem rng_len {lo : Int} {n : Nat} : (rngD lo n).length = n := by unfold rngD; rw [List.length_map, List.length_range]
theorem rng_at {lo : Int} {n j : Nat} {d : PyData} (e : (rngD lo n)[j]? = some d) : j < n ∧ d = .int (lo + (j : Nat)) := by
  unfold rngD at e
  rw [List.getElem?_map, Option.map_eq_some_iff] at e
  obtain ⟨k, ek, rfl⟩ := e
  obtain ⟨h1, h2⟩ := List.getElem?_eq_some_iff.mp ek
  rw [List.length_range] at h1
  rw [List.getElem_range] at h2
  subst h2
  exact ⟨h1, rfl⟩
end L3

/-! L3Typ -/
namespace L3
open PySem PySem.Spec PyProof.Rows L2

/-! ### != of two built-in classes -/
theorem slot_type_ne : Slot "type" (cmpInfo .NotEq).2.1 "object.__ne__" :=
  .of (owner := "object") (n := "__ne__") (by rw [typeLookup_type, builtinLookup_eq_fast]; kernel_rfl) (by decide +kernel) (by decide +kernel) (by decide +kernel)
    (by first | exact .inl (by decide +kernel) | exact .inr (by decide +kernel)) (by rw [isSubtype_type]; kernel_rfl)
theorem slot_type_ne_r : Slot "type" (cmpInfo .NotEq).2.2 "object.__ne__" :=
  .of (owner := "object") (n := "__ne__") (by rw [typeLookup_type, builtinLookup_eq_fast]; kernel_rfl) (by decide +kernel) (by decide +kernel) (by decide +kernel)
    (by first | exact .inl (by decide +kernel) | exact .inr (by decide +kernel)) (by rw [isSubtype_type]; kernel_rfl)
section
variable {prog : Program} {w : World} {A : Around} {E : Value → Shared → Prop} {s : Shared}
theorem cty_eq_same {T : String} (ha : s.TypeIs (.type T) "type") {Q : Option Value → Shared → Prop} (h : Q (some (.bool true)) s) : wpAny (model prog w) A (callSpecialIfBound? (.type T) (Str.ofString "__eq__") [.type T]) Q E s :=
  wpAny_callSpecialIfBound?_slot ha PySem.TypeEq.slot_type_eq (call_gives PySem.TypeEq.slot_type_eq ha F.entry_object_eq (F.args_object_eq_2 _ _) (PySem.TypeEq.object_eq_same rfl (by simp)) h)
theorem cty_eq_other {T U : String} (ha : s.TypeIs (.type T) "type") (hn : (Value.type T == Value.type U) = false) {Q : Option Value → Shared → Prop} (h : Q (some .notImplemented) s) : wpAny (model prog w) A (callSpecialIfBound? (.type T) (Str.ofString "__eq__") [.type U]) Q E s :=
  wpAny_callSpecialIfBound?_slot ha PySem.TypeEq.slot_type_eq (call_gives PySem.TypeEq.slot_type_eq ha F.entry_object_eq (F.args_object_eq_2 _ _) (PySem.TypeEq.object_eq_other rfl hn) h)
theorem call_ne_same {T : String} (ha : s.TypeIs (.type T) "type") {Q : Value → Shared → Prop} (h : Q (.bool false) s) : wpAny (model prog w) A (call (.builtin "object.__ne__") [.type T, .type T]) Q E s := by
  refine wpAny_call_entry slot_type_ne ha F.entry_object_ne ?_ (F.args_object_ne_2 _ _)
  unfold Builtin.«object.__ne__»
  repeat (first | with_reducible refine cty_eq_same ha ?_ | wp_step)
  exact ⟨_, rfl, h⟩
theorem call_ne_other {T U : String} (ha : s.TypeIs (.type T) "type") (hn : (Value.type T == Value.type U) = false) {Q : Value → Shared → Prop} (h : Q .notImplemented s) : wpAny (model prog w) A (call (.builtin "object.__ne__") [.type T, .type U]) Q E s := by
  refine wpAny_call_entry slot_type_ne ha F.entry_object_ne ?_ (F.args_object_ne_2 _ _)
  unfold Builtin.«object.__ne__»
  repeat (first | with_reducible refine cty_eq_other ha hn ?_ | wp_step)
  exact ⟨_, rfl, h⟩
theorem ne_type_same {X : String} (hX : ∀ s' : Shared, s'.TypeIs (.type X) "type") {Q : Value → Shared → Prop} (h : Q (.bool false) s) : wpAny (model prog w) A (compareOp .NotEq (.type X) (.type X)) Q E s := by
  show wpAny _ A (richCompare .NotEq _ _) Q E s
  exact wpAny_richCompare_same (T := "type") (hX s) (hX s) slot_type_ne (call_ne_same (hX s) ⟨(by intro e; cases e), h⟩)
theorem ne_type_other {X Y : String} (hX : ∀ s' : Shared, s'.TypeIs (.type X) "type") (hY : ∀ s' : Shared, s'.TypeIs (.type Y) "type") (hne : (Value.type X == Value.type Y) = false) {Q : Value → Shared → Prop} (h : Q (.bool true) s) : wpAny (model prog w) A (compareOp .NotEq (.type X) (.type Y)) Q E s := by
  have hne' : (Value.type Y == Value.type X) = false := by
    rw [Bool.eq_false_iff] at hne ⊢
    intro e
    exact hne (by rw [beq_iff_eq] at e ⊢; exact e.symm)
  show wpAny _ A (richCompare .NotEq _ _) Q E s
  have h1 := slot_type_ne
  have h2 := slot_type_ne_r
  rcases hi : cmpInfo CmpOp.NotEq with ⟨sym, f, r⟩
  rw [hi] at h1 h2
  simp only [richCompare, hi, (hX s).oneThing_none]
  try with_reducible refine wpAny_holding ?_
  refine wpAny_bind (wpAny_cRoomFor_or (.inl rfl) ?_)
  refine wpAny_bind (wpAny_typeOf (hX s) (wpAny_bind (wpAny_typeOf (hY s) ?_)))
  simp only [bne_self_eq_false, Bool.false_eq_true, if_false, pure_bind, Bool.not_false, if_true]
  refine wpAny_bind (m := tryCompare (.type X) _ (.type Y)) (wpAny_tryCompare_declines (hX s) h1 (call_ne_other (hX s) hne ⟨rfl, ?_⟩))
  refine wpAny_bind (m := tryCompare (.type Y) _ (.type X)) (wpAny_tryCompare_declines (hY s) h2 (call_ne_other (hY s) hne' ⟨rfl, ?_⟩))
  refine wpAny_bind (wpAny_rule (wpAny_bind (wpAny_of_eq (show isSame (.type X) (.type Y) = pure false by rw [isSame_plain rfl, hne]) (wpAny_pure ?_))))
  exact h
end

/-! ### type(e) == T -/
theorem meta_of : ∀ T ∈ tys, ∀ s' : Shared, s'.TypeIs (.type T) "type" := by
  intro T hT
  simp only [tys, List.mem_cons, List.not_mem_nil, or_false] at hT
  rcases hT with rfl | rfl | rfl | rfl | rfl | rfl | rfl
  · exact PySem.TypeEq.meta_NoneType
  · exact PySem.TypeEq.meta_bool
  · exact PySem.TypeEq.meta_int
  · exact PySem.TypeEq.meta_str
  · exact PySem.TypeEq.meta_list
  · exact PySem.TypeEq.meta_tuple
  · exact PySem.TypeEq.meta_dict
theorem nbf_of : ∀ T ∈ tys, (Value.type T == Value.type "builtin_function_or_method") = false := by decide +kernel
section
variable {X : Cx} {pins : List (Addr × Obj)} {σ : L2.St} {H : Hp} {s : Shared}
theorem typeIs_of {x : V} {u : Value} {T : String} (I : Inv X pins σ H s) (rx : RelV x u) (ty : TyX X.K H x (.type T)) : s.TypeIs u T := by
  generalize et : Value.type T = t at ty
  cases ty with
  | base b =>
    cases b with
    | non => cases et; cases (show u = Value.none from rx); rfl
    | bl y => cases et; cases (show u = Value.bool y from rx); rfl
    | int i => cases et; obtain ⟨t, q⟩ := (show ∃ t, u = Value.int i t from rx); cases q; rfl
    | str y => cases et; obtain ⟨t, q⟩ := (show ∃ t, u = Value.str y t from rx); cases q; rfl
    | flt y => cases et; obtain ⟨t, q⟩ := (show ∃ t, u = Value.float y t from rx); cases q; rfl
    | @lst a xs ea =>
      cases et
      cases (show u = Value.ref a from rx)
      obtain ⟨_, _, n, _, h1⟩ := (show ObjOk X.prog X.w H s.heap a (.lst xs) from I.hok a _ ea)
      exact ⟨_, h1, rfl⟩
    | @frz a ob xs ea =>
      cases et
      cases (show u = Value.ref a from rx)
      obtain ⟨_, _, _, n, _, h1⟩ := (show ObjOk X.prog X.w H s.heap a (.frz ob (.lst xs)) from I.hok a _ ea)
      exact ⟨_, h1, rfl⟩
    | @tup a xs ea =>
      cases et
      cases (show u = Value.ref a from rx)
      obtain ⟨_, _, _, o, h1, h2, _⟩ := (show ObjOk X.prog X.w H s.heap a (.tup xs) from I.hok a _ ea)
      exact ⟨o, h1, h2⟩
    | @dK a kvs ea =>
      cases et
      cases (show u = Value.ref a from rx)
      obtain ⟨_, _, vs, _, o, es, ep, h1, h2, _⟩ := (show ObjOk X.prog X.w H s.heap a (.dK kvs) from I.hok a _ ea)
      exact ⟨o, h1, h2.1⟩
    | @dT a kvs ea =>
      cases et
      cases (show u = Value.ref a from rx)
      obtain ⟨_, _, xs, _, o, es, ep, h1, h2, _⟩ := (show ObjOk X.prog X.w H s.heap a (.dT kvs) from I.hok a _ ea)
      exact ⟨o, h1, h2.1⟩
    | ins _ _ _ _ _ => cases et
  | byt y => cases et; obtain ⟨t, q⟩ := (show ∃ t, u = Value.bytes y t from rx); cases q; exact PySem.W.typeIs_bytes _ _ _
  | @set a S n ea =>
    cases et
    cases (show u = Value.ref a from rx)
    obtain ⟨o, _, _, _, e, ex, _⟩ := I.hok a _ ea
    exact ⟨o, e, ex.1⟩
  | @kList a o e c =>
    cases et
    cases (show u = Value.ref a from rx)
    exact ⟨o, I.kIn a o e, c⟩
  | @kTuple a o e c =>
    cases et
    cases (show u = Value.ref a from rx)
    exact ⟨o, I.kIn a o e, c⟩
  | @kDict a o e c =>
    cases et
    cases (show u = Value.ref a from rx)
    exact ⟨o, I.kIn a o e, c⟩
  | @fTuple a ob xs ea =>
    cases et
    cases (show u = Value.ref a from rx)
    obtain ⟨_, _, _, _, o, h1, h2, _⟩ := (show ObjOk X.prog X.w H s.heap a (.frz ob (.tup xs)) from I.hok a _ ea)
    exact ⟨o, h1, h2⟩
  | @fDict a ob kvs ea =>
    cases et
    cases (show u = Value.ref a from rx)
    obtain ⟨_, _, _, vs, _, o, es, ep, h1, h2, _⟩ := (show ObjOk X.prog X.w H s.heap a (.frz ob (.dK kvs)) from I.hok a _ ea)
    exact ⟨o, h1, h2.1⟩
end
def kTy (K : PySem.W.Frag) (x : V) (H : Hp) (Q : VK) : Prop := ∃ T, T ∈ tys ∧ TyX K H x (.type T) ∧ Q (.ty T) H
section
variable {X : Cx}
theorem rl_ty (pins : List (Addr × Obj)) (s : Shared) (σ : L2.St) (H : Hp) (x : V) (v : Value) (Q : VK) (I : Inv X pins σ H s) (r : RelV x v) (h : kTy X.K x H Q) :
    wpAny (model X.prog X.w) X.A (call (.type "type") [v]) (EP X pins σ Q) X.xe s := by
  obtain ⟨T, hT, ty, q⟩ := h
  exact call_type_of (Tx := T) (typeIs_of I r ty) (nbf_of T hT) ⟨.ty T, H, I, rfl, q⟩
theorem pe_ty {a : Expr} {ta : TE} {p pos : Pos} (hg : Gl X "type") (hm : X.mg "type" = none) (ha : PE X a ta) (na : starEach [a] X.env = (false, eval a X.env) :: starEach [] X.env := by rfl) :
    PE X (.Call (.Name "type" p) [a] [] pos) (tThenZ ta (kTy X.K)) := pe_callTy (call_r1 rl_ty) hg hm (by decide +kernel) (pa_cons ha pa_nil na) (he := na)
def rTy (k : Bool → Bool) (x y : V) (H : Hp) (Q : VK) : Prop := ∃ m n, x = .ty m ∧ y = .ty n ∧ m ∈ tys ∧ n ∈ tys ∧ Q (.bl (k (m == n))) H
theorem op_eqTy : OpR X (compareOp .Eq) (rTy id) := by
  intro pins s σ H x y v u Q I rx ry h
  obtain ⟨m, n, rfl, rfl, hm, hn, q⟩ := h
  cases (show v = Value.type m from rx)
  cases (show u = Value.type n from ry)
  by_cases e : m = n
  · subst e
    exact PySem.TypeEq.eq_type_same (meta_of m hm) ⟨.bl true, H, I, rfl, by simpa using q⟩
  · exact PySem.TypeEq.eq_type_other (meta_of m hm) (meta_of n hn) (by rw [beq_eq_false_iff_ne]; exact fun z => e (Value.type.inj z)) ⟨.bl false, H, I, rfl, by rw [show (m == n) = false from beq_eq_false_iff_ne.mpr e] at q; exact q⟩
theorem op_neTy : OpR X (compareOp .NotEq) (rTy not) := by
  intro pins s σ H x y v u Q I rx ry h
  obtain ⟨m, n, rfl, rfl, hm, hn, q⟩ := h
  cases (show v = Value.type m from rx)
  cases (show u = Value.type n from ry)
  by_cases e : m = n
  · subst e
    exact ne_type_same (meta_of m hm) ⟨.bl false, H, I, rfl, by simpa using q⟩
  · exact ne_type_other (meta_of m hm) (meta_of n hn) (by rw [beq_eq_false_iff_ne]; exact fun z => e (Value.type.inj z)) ⟨.bl true, H, I, rfl, by rw [show (m == n) = false from beq_eq_false_iff_ne.mpr e] at q; exact q⟩
/-- type(e) == T, type(e) != T -/
def eTyIs (k : Bool → Bool) (T : String) (f : EF) : EF := fun rho S => (f rho S).bind fun a S1 => match tyD a with
  | some t => .ok (.dat (.bool (k (t == T)))) S1
  | none => .bad
theorem tyis_of {K : PySem.W.Frag} {g : Gh} {W : WX} {f : EF} {k : Bool → Bool} {T : String} {sg : L2.St} {H : Hp} {Q : VK} (hK : g.K = K) (hT : T ∈ tys) (q : tE g W (eTyIs k T f) sg H Q) : tE g W f sg H fun x H1 => kTy K x H1 fun y H2 => rTy k y (.ty T) H2 Q := by
  obtain ⟨th, rho, S, R0, p⟩ := q
  refine tL.bind (k := fun a rho S1 => match tyD a with
    | some t => R.ok (D.dat (.bool (k (t == T)))) S1
    | none => R.bad) R0 p fun x S1 v H1 th1 _ R1 _ r q => ?_
  cases e : tyD x with
  | none => rw [e] at q; exact q.elim
  | some t =>
    rw [e] at q
    exact ⟨t, tyD_mem e, by rw [← hK]; exact ty_of r e, t, T, rfl, rfl, tyD_mem e, hT, q _ H1 th1 R1 (.refl _ _) (rd_bool.mpr rfl)⟩
variable {W : WX} {e : Expr} {f : EF} {p p2 pos pos2 : Pos} {T : String} {t : Str} {op : CmpOp} {k : Bool → Bool}
theorem l_tyis (ho : OpR X (compareOp op) (rTy k)) (hT : T ∈ tys) (hm : X.mg "type" = none) (hmt : X.mg t = none) (hv : bootBuiltins t = some (.type T)) (he : LE X W e f) (hg : Gl X "type") (hgt : Gl X t)
    (na : starEach [e] X.env = (false, eval e X.env) :: starEach [] X.env := by rfl) (hnt : t ≠ "__name__" := by decide) (hdt : (t == ("__debug__" : Str)) = false := by decide) (hmk : behindInMarks op (.Name t p2) = false := by rfl) :
    LE X W (.Compare (.Call (.Name "type" p) [e] [] pos) [op] [.Name t p2] pos2) (eTyIs k T f) := fun g hK hmg =>
  (pe_cmpR ho (pe_ty hg hm (he g hK hmg) na) (pe_bltn (v := .ty T) hgt hmt hv rfl hnt hdt) hmk).of fun sg H Q q => tyis_of hK hT q
theorem l_ttyis (ho : OpR X (compareOp op) (rTy k)) (hT : T ∈ tys) (hm : X.mg "type" = none) (hmt : X.mg t = none) (hv : bootBuiltins t = some (.type T)) (he : LE X W e f) (hg : Gl X "type") (hgt : Gl X t)
    (na : starEach [e] X.env = (false, eval e X.env) :: starEach [] X.env := by rfl) (hnt : t ≠ "__name__" := by decide) (hdt : (t == ("__debug__" : Str)) = false := by decide) (hmk : behindInMarks op (.Name t p2) = false := by rfl) :
    LT X W (.Compare (.Call (.Name "type" p) [e] [] pos) [op] [.Name t p2] pos2) (tOfB (eTyIs k T f)) := fun g hK hmg =>
  (pt_cmpR ho (pe_ty hg hm (he g hK hmg) na) (pe_bltn (v := .ty T) hgt hmt hv rfl hnt hdt) hmk).of fun sg H Q q => tyis_of hK hT (tst_of q)
end

/-! ### methods of a text without arguments -/
def eM0 (h : Str → PyData) (f : EF) : EF := fun rho S => (f rho S).bind fun a S1 => match a with
  | .dat (.str x) => .ok (.dat (h x)) S1
  | _ => .bad
section
variable {X : Cx} {W : WX} {o : Expr} {f : EF} {apos cpos : Pos} {name : Str} {id : String} {h : Str → Bool}
theorem l_m0 (slot : Slot "str" name id) (hty : typeOf (.builtin id) = pure (.type "method_descriptor")) (hm : MtR X id (fun x xs H Q => ∃ a, x = .str a ∧ xs = [] ∧ True ∧ Q (.bl (h a)) H)) (ho : LE X W o f)
    (hbase : attributeBase o name X.env (eval o X.env) = eval o X.env := by rfl) (hline : (apos.endLine == cpos.line) = true := by rfl) : LE X W (.Call (.Attribute o name apos) [] [] cpos) (eM0 (fun x => .bool (h x)) f) := fun g hK hmg =>
  (pe_bm0 PySem.F.plainAttrs_str slot hty hm (ho g hK hmg) hbase hline).of fun sg H Q ⟨th, rho, S, R0, p⟩ =>
    tL.bind (k := fun a rho S1 => match a with
      | .dat (.str x) => R.ok (D.dat (.bool (h x))) S1
      | _ => R.bad) R0 p fun x S1 v H1 th1 _ R1 _ r q => by
        cases x with
        | dat d => cases d with
          | str y =>
            have e := rd_str.mp r
            subst e
            exact ⟨rfl, y, rfl, rfl, True.intro, q _ H1 th1 R1 (.refl _ _) (rd_bool.mpr rfl)⟩
          | _ => exact q.elim
        | _ => exact q.elim
end

/-! ### or, and, not by truth, of values that are no bools -/
def eOrT (f h : EF) : EF := fun rho S => (f rho S).bind fun a S1 => match tru a with
  | some true => .ok a S1
  | some false => h rho S1
  | none => .bad
def eAndT (f h : EF) : EF := fun rho S => (f rho S).bind fun a S1 => match tru a with
  | some true => h rho S1
  | some false => .ok a S1
  | none => .bad
def eNotT (f : EF) : EF := fun rho S => (f rho S).bind fun a S1 => match tru a with
  | some b => .ok (.dat (.bool !b)) S1
  | none => .bad
section
variable {X : Cx} {W : WX} {a b : Expr} {rest : List Expr} {f h : EF} {pos : Pos}
theorem l_vnotT (ha : LE X W a f) : LE X W (.UnaryOp .Not a pos) (eNotT f) := fun g hK hm =>
  (pe_notT (ha g hK hm)).of fun sg H Q ⟨th, rho, S, R0, p⟩ => tL.bind (k := fun a rho S1 => match tru a with
    | some b => R.ok (D.dat (.bool !b)) S1
    | none => R.bad) R0 p fun x S1 v H1 th1 _ R1 _ r q => by
      cases e : tru x with
      | none => rw [e] at q; exact q.elim
      | some b =>
        rw [e] at q
        exact ⟨b, by rw [← hK]; exact tru_ok r e, q _ H1 th1 R1 (.refl _ _) (rd_bool.mpr rfl)⟩
theorem l_vorT (ha : LE X W a f) (hb : LE X W (.BoolOp .Or (b :: rest) pos) h) : LE X W (.BoolOp .Or (a :: b :: rest) pos) (eOrT f h) := fun g hK hm =>
  (pe_orT (ha g hK hm) (hb g hK hm)).of fun sg H Q ⟨th, rho, S, R0, p⟩ => tL.bind (k := fun a rho S1 => match tru a with
    | some true => R.ok a S1
    | some false => h rho S1
    | none => R.bad) R0 p fun x S1 v H1 th1 _ R1 _ r q => by
      cases e : tru x with
      | none => rw [e] at q; exact q.elim
      | some b =>
        rw [e] at q
        refine ⟨b, by rw [← hK]; exact tru_ok r e, ?_⟩
        cases b with
        | true => exact q v H1 th1 R1 (.refl _ _) r
        | false => exact ⟨th1, rho, S1, R1, q⟩
theorem l_vandT (ha : LE X W a f) (hb : LE X W (.BoolOp .And (b :: rest) pos) h) : LE X W (.BoolOp .And (a :: b :: rest) pos) (eAndT f h) := fun g hK hm =>
  (pe_andT (ha g hK hm) (hb g hK hm)).of fun sg H Q ⟨th, rho, S, R0, p⟩ => tL.bind (k := fun a rho S1 => match tru a with
    | some true => h rho S1
    | some false => R.ok a S1
    | none => R.bad) R0 p fun x S1 v H1 th1 _ R1 _ r q => by
      cases e : tru x with
      | none => rw [e] at q; exact q.elim
      | some b =>
        rw [e] at q
        refine ⟨b, by rw [← hK]; exact tru_ok r e, ?_⟩
        cases b with
        | false => exact q v H1 th1 R1 (.refl _ _) r
        | true => exact ⟨th1, rho, S1, R1, q⟩
end
end L3

/-! L3More -/
namespace L3
open PySem PySem.Spec PyProof.Rows L2

/-! ### in, of lists, tuples, texts and dicts -/
def inA (k : Bool → Bool) : O2 := fun a b => match b with
  | .dat (.dict _) => dinD k a b
  | _ => inn k a b
section
variable {X : Cx}
theorem o_inA_of {F : Value → Value → Sem Value} {k : Bool → Bool} (h1 : OpL X F (inn k)) (h2 : OpL X F (dinD k)) : OpL X F (inA k) := fun g hK hm pins s σ H x y v u Q I rx ry ⟨th, rho, S, sg, a, b, R0, ra, rb, q⟩ => by
  unfold inA at q
  split at q
  · exact h2 g hK hm pins s σ H x y v u Q I rx ry ⟨th, rho, S, sg, a, _, R0, ra, rb, q⟩
  · exact h1 g hK hm pins s σ H x y v u Q I rx ry ⟨th, rho, S, sg, a, b, R0, ra, rb, q⟩
theorem o_inA (am : Amb X) : OpL X (compareOp .In) (inA id) := o_inA_of (o_in am.u) (o_din am)
theorem o_ninA (am : Amb X) : OpL X (compareOp .NotIn) (inA not) := o_inA_of (o_nin am.u) (o_dnin am)
end

/-! ### a local's own list: [..] * n, x[i] = e -/
theorem RpL.set {K : PySem.W.Frag} {H : Hp} {A : Av} {d : PyData} {x : V} (p : Rp K H A d x) : ∀ {ds : List PyData} {xs : List V} (i : Nat), RpL K H A ds xs → RpL K H A (ds.set i d) (xs.set i x)
  | [], _, i, h => by
    simp only [RpL] at h
    subst h
    exact .nil
  | c :: ds, _, 0, h => by
    simp only [RpL] at h
    obtain ⟨y, r, rfl, _, t⟩ := h
    exact .cons p t
  | c :: ds, _, i + 1, h => by
    simp only [RpL] at h
    obtain ⟨y, r, rfl, q, t⟩ := h
    exact .cons q (RpL.set p i t)
theorem postN_new {g : Gh} {W : WX} {th th1 : List Addr} {rho : Sl} {S1 : Store} {sg : L2.St} {H H1 : Hp} {ds : List PyData} {vs : List V} {q : Addr} {Q : VK} (p2 : PostN g W th rho sg H (.ok ds S1) Q) (R1 : Rel g th1 rho S1 sg H1) (x1 : Ext th H th1 H1) (rl : RpL g.K H1 (Avd g th1 rho sg) ds vs) (nq : H1 q = none) :
    Q (.ref q) (L2.upd H1 q (.lst vs)) := by
  have nH : H q = none := by
    cases e : H q with
    | none => rfl
    | some o =>
      by_cases m : q ∈ th
      · have := R1.trT q (x1.pre.subset m)
        rw [nq] at this
        cases this
      · rw [x1.keep q o e m] at nq
        cases nq
  obtain ⟨nb, nt⟩ := R1.ntB nq
  refine p2 q vs _ th1 (R1.addB nq) (x1.trans (.upd nq)) upd_same (RpL.kp (fun a o e n => ⟨by rw [upd_ne (ne_of_none e nq)]; exact e, fun z => ?_⟩) ds vs rl) nb nt (R1.h0_none nq) nH
  rcases z with z | z
  · exact z.elim (fun z => n (.inl z)) (ne_of_none e nq)
  · exact n (.inr z)
def repK (a b : D) (S : Store) : R (List PyData) := match lis a, b with
  | some ds, .dat (.int k) => if 0 ≤ k ∧ k < 2 ^ 62 ∧ ds.length * k.toNat ≤ sizeLine then .ok (List.replicate k.toNat ds).flatten S else .bad
  | _, _ => .bad
/-- [e, ..] * n, a new list -/
def nRep (f h : EF) : NF := fun rho S => (f rho S).bind fun a S1 => (h rho S1).bind fun b S2 => repK a b S2
section
variable {X : Cx} {W : WX} {a b : Expr} {f h : EF} {pos : Pos}
theorem n_rep (ha : LE X W a f) (hb : LE X W b h) : LN X W (.BinOp a .Mult b pos) (nRep f h) := fun g hK hm =>
  (pe_op op_rep (ha g hK hm) (hb g hK hm)).of fun sg H Q ⟨th, rho, S, R0, p⟩ => by
    refine ⟨th, rho, S, R0, ?_⟩
    unfold nRep at p
    cases e : f rho S with
    | exc c a S' => rw [e] at p; exact fun cls dv H1 th1 R1 x1 ec ed => p cls dv H1 th1 R1 x1 ec ed
    | bad => rw [e] at p; exact p
    | ok d S1 =>
      rw [e] at p
      intro v H1 th1 R1 x1 r1
      refine ⟨th1, rho, S1, R1, ?_⟩
      have p' : PostN g W th rho sg H ((h rho S1).bind fun b S2 => repK d b S2) Q := p
      cases e2 : h rho S1 with
      | exc c a S' => rw [e2] at p'; exact fun cls dv H2 th2 R2 x2 ec ed => p' cls dv H2 th2 R2 (x1.trans x2) ec ed
      | bad => rw [e2] at p'; exact p'
      | ok k S2 =>
        rw [e2] at p'
        have p2 : PostN g W th rho sg H (repK d k S2) Q := p'
        intro w H2 th2 R2 x2 r2
        unfold repK at p2
        split at p2
        · next ds j el =>
          split at p2
          · next hh =>
            obtain ⟨l, xs, rfl, hl, rl⟩ := lis_ok (r1.ext x2) el
            exact ⟨l, j, xs, rfl, rd_int.mp r2, hl, by omega, by omega, by rw [rl.len]; exact hh.2.2, fun n nn => postN_new p2 R2 (x1.trans x2) (rl.rep _) nn⟩
          · exact p2.elim
        · exact p2.elim
end
def setO (io : Nat) (rho : Sl) (ds : List PyData) (d k : D) (S : Store) : SR := match d, k with
  | .dat p, .dat (.int j) => (match ixN ds.length j with
    | some m => .nx (rho.set io (some (.own (ds.set m p)))) S
    | none => .bad)
  | _, _ => .bad
def sSetO (io : Nat) (fi fe : EF) : SF := fun rho S => match rho[io]? with
  | some (some (.own ds)) => (fe rho S).stm rho fun d S1 => (fi rho S1).stm rho fun k S2 => setO io rho ds d k S2
  | _ => .bad
section
variable {X : Cx} {W : WX} {e i : Expr} {fe fi : EF} {x : Str} {pos npos tpos : Pos}
theorem ls_setO {io : Nat} (ho : PE X (.Name x npos) (tVar io)) (he : LE X W e fe) (hi : LE X W i fi)
    (ha : ∀ v, assign (.Subscript (.Name x npos) i tpos) X.env v = (do
      let ov ← holding [v] (eval (.Name x npos) X.env)
      let iv ← holding [v, ov] (eval i X.env)
      standAt tpos
      holding [v, ov, iv] (setItem ov iv v)
      release [v, ov, iv] []) := by intro _; rfl)
    (hs : swapsWithSole [.Subscript (.Name x npos) i tpos] e pos.line X.env = pure false := by rfl) (hw : swappedStores [.Subscript (.Name x npos) i tpos] e X.env = pure none := by rfl)
    (h1 : (assignEach [.Subscript (.Name x npos) i tpos] X.env).map (·.2) = [assign (.Subscript (.Name x npos) i tpos) X.env] := by rfl) : LS X W (.Assign [.Subscript (.Name x npos) i tpos] e pos) (sSetO io fi fe) := fun g hK hm =>
  (ps_asg (he g hK hm) (pg_sub ho (hi g hK hm) set_list ha) hs hw h1).of fun D sg H ⟨th, rho, S, R0, p⟩ => by
    unfold sSetO at p
    split at p
    · next ds er =>
      obtain ⟨v0, ev, _⟩ := R0.slot io _ er
      refine tL.stm (k := fun d S1 => (fi rho S1).stm rho fun k S2 => setO io rho ds d k S2) R0 p fun d S1 v H1 th1 _ R1 x1 r1 q => ?_
      refine ⟨v0, ev, tL.stm (k := fun k S2 => setO io rho ds d k S2) R1 q fun k S2 u H2 th2 _ R2 x2 r2 q2 => ?_⟩
      have r1 := r1.ext x2
      unfold setO at q2
      cases d with
      | dat pd => cases k with
        | dat kd => cases kd with
          | int j =>
            have ej := rd_int.mp r2
            subst ej
            have q3 : PostS g W th2 rho sg H2 (match ixN ds.length j with
              | some m => .nx (rho.set io (some (.own (ds.set m pd)))) S2
              | none => .bad) D := q2
            cases em : ixN ds.length j with
            | none => rw [em] at q3; exact q3.elim
            | some m =>
              rw [em] at q3
              obtain ⟨b, ys, eb, hb, rl2, nt2, _⟩ := R2.ownAt er ev
              subst eb
              obtain ⟨R3, pr⟩ := R2.putOwn er ev (rl2.set (show Rp g.K H2 _ pd v from r1) m)
              exact ⟨b, ys, _, m, rfl, rfl, hb, by rw [rl2.len]; exact em, q3 sg _ th2 R3 pr⟩
          | _ => exact q2.elim
        | _ => exact q2.elim
      | _ => exact q2.elim
    · exact p.elim
end
end L3

/-! L3Pairs -/
/-! dict(list of pairs) -/
namespace L3
open PySem PySem.Spec PyProof.Rows L2
def pairsOf : List PyData → Option (List (PyData × PyData))
  | [] => some []
  | .tuple [k, v] :: r => (pairsOf r).map ((k, v) :: ·)
  | _ => none
def asKeyT : PyData → Option (List Key)
  | .tuple ds => if keyB ds = true then asKeyL ds else none
  | _ => none
def keysP {κ : Type} (f : PyData → Option κ) : List (PyData × PyData) → Option (List (κ × PyData))
  | [] => some []
  | (k, d) :: r => (f k).bind fun q => (keysP f r).map ((q, d) :: ·)
def putAll {κ : Type} [DecidableEq κ] (f : PyData → Option κ) (kd : κ → PyData) (ks : List (κ × PyData)) : List (PyData × PyData) → List (PyData × PyData) :=
  ks.foldl (fun acc p => kPut f acc (kd p.1) p.1 p.2)
def dctL : O1 := fun a => match lis a with
  | some ds => (match pairsOf ds with
    | some kvs => (match keysP asKey kvs with
      | some ks => some (.dat (.dict (putAll asKey keyD ks [])))
      | none => (match keysP asKeyT kvs with
        | some ks => some (.dat (.dict (putAll asKeys tupK ks [])))
        | none => none))
    | none => none)
  | none => none
structure Rec where
  T : Addr
  q : List Key
  b : Addr
  d : PyData
  y : V
  u : Value
def putsV {κ : Type} [DecidableEq κ] (ks : List (κ × V)) : List (κ × V) → List (κ × V) := ks.foldl (fun acc p => putK acc p.1 p.2)
section
variable {X : Cx} {pins : List (Addr × Obj)} {σ : L2.St} {H : Hp} {s : Shared} {A0 : Av}
theorem pairsOf_some : ∀ {ds : List PyData} {kvs}, pairsOf ds = some kvs → ds = kvs.map fun p => .tuple [p.1, p.2]
  | [], kvs, e => by cases e; rfl
  | d :: r, kvs, e => by
    unfold pairsOf at e
    split at e
    · next e' => cases e'
    · next k v r' e' =>
      cases e'
      cases er : pairsOf r with
      | none => rw [er] at e; cases e
      | some kvs' =>
        rw [er] at e
        cases e
        rw [List.map_cons, ← pairsOf_some er]
    · cases e
theorem rp_pair {k d : PyData} {x : V} (r : Rp X.K H A0 (.tuple [k, d]) x) : ∃ a y z, x = .ref a ∧ SqT X.K H a [y, z] ∧ Rp X.K H A0 k y ∧ Rp X.K H A0 d z := by
  simp only [Rp] at r
  obtain ⟨a, xs, rfl, t, rl⟩ := r
  simp only [RpL] at rl
  obtain ⟨y, _, rfl, r1, z, _, rfl, r2, rfl⟩ := rl
  exact ⟨a, y, z, rfl, t.sq, r1, r2⟩
theorem rp_keyT {k : PyData} {y : V} {q : List Key} (r : Rp X.K H A0 k y) (e : asKeyT k = some q) : k = tupK q ∧ ∃ b, y = .ref b ∧ H b = some (.tup (q.map kV)) := by
  unfold asKeyT at e
  split at e
  · next ds =>
    split at e
    · next hb =>
      have ed := asKeyL_of e
      subst ed
      simp only [Rp, hb] at r
      obtain ⟨a, xs, rfl, t, rl⟩ := r
      rw [rpl_keys rl] at t
      exact ⟨rfl, a, rfl, t.2⟩
    · cases e
  · cases e
theorem recs (I : L2.Inv X pins σ H s) : ∀ {kvs : List (PyData × PyData)} {ks : List (List Key × PyData)} {xs : List V} {its : List Value}, keysP asKeyT kvs = some ks → RpL X.K H A0 (kvs.map fun p => .tuple [p.1, p.2]) xs → Vals xs its →
    ∃ rs : List Rec, its = rs.map (fun r => Value.ref r.T) ∧ ks = rs.map (fun r => (r.q, r.d)) ∧ ∀ r ∈ rs, Rp X.K H A0 r.d r.y ∧ RelV r.y r.u ∧ H r.b = some (.tup (r.q.map kV)) ∧ IsTup s.heap r.T #[.ref r.b, r.u]
  | [], ks, xs, its, e, r, v => by
    cases e
    simp only [List.map_nil, RpL] at r
    subst r
    rw [Vals.zero v]
    exact ⟨[], rfl, rfl, fun r hr => (List.not_mem_nil hr).elim⟩
  | (k, d) :: kvs, ks, xs, its, e, r, v => by
    simp only [List.map_cons, RpL] at r
    obtain ⟨x, xs', rfl, r1, r2⟩ := r
    obtain ⟨a, y, z, rfl, sq, rk, rd⟩ := rp_pair r1
    simp only [keysP] at e
    cases ek : asKeyT k with
    | none => rw [ek] at e; cases e
    | some q =>
      cases ek2 : keysP asKeyT kvs with
      | none => rw [ek, ek2] at e; cases e
      | some ks' =>
        rw [ek, ek2] at e
        cases e
        obtain ⟨_, b, rfl, hb⟩ := rp_keyT rk ek
        cases v with
        | cons ru v' =>
          obtain ⟨rs, e1, e2, e3⟩ := recs I ek2 r2 v'
          obtain ⟨its2, r3, pl, _⟩ := I.tuple sq
          cases r3 with
          | cons ry r4 =>
            cases r4 with
            | cons rz r5 =>
              cases r5
              cases ry
              cases (show _ = Value.ref a from ru)
              rename_i uz
              refine ⟨⟨a, q, b, d, z, uz⟩ :: rs, by rw [e1]; rfl, by rw [e2]; rfl, fun r hr => ?_⟩
              rcases List.mem_cons.mp hr with rfl | hr
              · exact ⟨rd, rz, hb, pl⟩
              · exact e3 r hr
theorem kt_all {H' : Hp} : ∀ {rs : List Rec} {kvs : List (List Key × V)} {xs : List (List Key × Addr × Value)}, KT H' kvs xs → (∀ r ∈ rs, RelV r.y r.u ∧ H' r.b = some (.tup (r.q.map kV))) →
    KT H' (putsV (rs.map fun r => (r.q, r.y)) kvs) (storedAllH xs (rs.map fun r => (r.q, r.b, r.u)))
  | [], kvs, xs, k, h => k
  | r :: rs, kvs, xs, k, h => by
    obtain ⟨h1, h2⟩ := h r List.mem_cons_self
    exact kt_all (rs := rs) (k.put r.q h2 h1) fun r hr => h r (List.mem_cons_of_mem _ hr)
theorem rq_all (D : DKind X.K) : ∀ {ls : List (D.κ × PyData × V)} {kvs : List (PyData × PyData)} {ks : List (D.κ × V)}, D.Rq H A0 kvs ks → (∀ r ∈ ls, Rp X.K H A0 r.2.1 r.2.2) →
    D.Rq H A0 (putAll D.f D.kd (ls.map fun r => (r.1, r.2.1)) kvs) (putsV (ls.map fun r => (r.1, r.2.2)) ks)
  | [], kvs, ks, k, h => k
  | r :: ls, kvs, ks, k, h => rq_all D (ls := ls) (D.put (q := r.1) k (h r List.mem_cons_self)) fun r hr => h r (List.mem_cons_of_mem _ hr)
theorem putsV_len {κ : Type} [DecidableEq κ] : ∀ {ls : List (κ × V)} {ks : List (κ × V)}, (putsV ls ks).length ≤ ks.length + ls.length
  | [], ks => Nat.le_refl _
  | p :: ls, ks => by
    refine Nat.le_trans (putsV_len (ls := ls)) ?_
    have : (putK ks p.1 p.2).length ≤ ks.length + 1 := by
      unfold putK
      split
      · rw [List.length_map]; omega
      · rw [List.length_append]; exact Nat.le_refl _
    rw [List.length_cons]
    show (putK ks p.1 p.2).length + ls.length ≤ _
    omega
theorem IsTup.key {h : Heap} {c : Addr} {its : List Value} {q : List Key} (rv : Vals (q.map kV) its) (t : IsTup h c its.toArray) : (tupleKind (mixKind X.prog X.w)).is h q c := by
  obtain ⟨oc, g1, g2, n, g3⟩ := t
  exact ⟨oc, its.toArray, n, g1, g2, g3, by simpa using items_are rv⟩
theorem IsTup.keep {h h' : Heap} {c : Addr} {its : Array Value} (t : IsTup h c its) (k : ∀ o, h.get? c = some o → h'.get? c = some o) : IsTup h' c its := by
  obtain ⟨oc, g1, g⟩ := t
  exact ⟨oc, k _ g1, g⟩
theorem recsP : ∀ {kvs : List (PyData × PyData)} {ks : List (Key × PyData)} {xs : List V}, keysP asKey kvs = some ks → RpL X.K H A0 (kvs.map fun p => .tuple [p.1, p.2]) xs →
    ∃ (ps : List Addr) (ls : List (Key × PyData × V)), xs = ps.map V.ref ∧ ks = ls.map (fun r => (r.1, r.2.1)) ∧ (∀ r ∈ ls, Rp X.K H A0 r.2.1 r.2.2) ∧ Paired (fun p kv => SqT X.K H p [kV kv.1, kv.2]) ps (ls.map fun r => (r.1, r.2.2))
  | [], ks, xs, e, r => by
    cases e
    simp only [List.map_nil, RpL] at r
    subst r
    exact ⟨[], [], rfl, rfl, fun r hr => (List.not_mem_nil hr).elim, .nil⟩
  | (k, d) :: kvs, ks, xs, e, r => by
    simp only [List.map_cons, RpL] at r
    obtain ⟨x, xs', rfl, r1, r2⟩ := r
    obtain ⟨a, y, z, rfl, sq, rk, rd⟩ := rp_pair r1
    simp only [keysP] at e
    cases ek : asKey k with
    | none => rw [ek] at e; cases e
    | some q =>
      cases ek2 : keysP asKey kvs with
      | none => rw [ek, ek2] at e; cases e
      | some ks' =>
        rw [ek, ek2] at e
        cases e
        rw [asKey_of ek] at rk
        rw [rp_key rk] at sq
        obtain ⟨ps, ls, e1, e2, e3, e4⟩ := recsP ek2 r2
        refine ⟨a :: ps, (q, d, z) :: ls, by rw [e1]; rfl, by rw [e2]; rfl, fun r hr => ?_, .cons sq e4⟩
        rcases List.mem_cons.mp hr with rfl | hr
        · exact rd
        · exact e3 r hr
theorem rd_dct {K : PySem.W.Frag} {A : Av} {th : List Addr} {kvs : List (PyData × PyData)} {v : V} (h : Rp K H A (.dict kvs) v) : RD K H A th (.dat (.dict kvs)) v := by simpa only [RD] using h
theorem c_dctL (hc : X.calm = true) (am : Amb X) : CallL X (.type "dict") (o1 dctL) := CallL.one o1_eq fun g hK pins s σ th rho S sg H a d x u Q I ru R0 ra e q => by
  unfold dctL at e
  split at e
  case h_2 => cases e
  rename_i ds el
  split at e
  case h_2 => cases e
  rename_i kvs ep
  obtain ⟨p, xs, rfl, hp, rl⟩ := lis_ok ra el
  cases (show u = Value.ref p from ru)
  have eds := pairsOf_some ep
  subst eds
  rw [hK] at rl
  split at e
  · next ks ek =>
    cases Option.some.inj e
    obtain ⟨ps, ls, rfl, e2, e3, e4⟩ := recsP ek rl
    refine call_dictP hc pins s σ H [.ref p] [.ref p] Q I (.cons rfl .nil) ⟨p, ps, ls.map fun r => (r.1, r.2.2), rfl, .of hp, e4, fun n nn => ?_⟩
    refine q.new R0 nn (rd_dct ?_)
    rw [hK]
    refine (dkK X.K).rp (R0.notAv nn) upd_same ?_
    have := rq_all (dkK X.K) (H := upd H n (.dK (mergeK [] (ls.map fun r => (r.1, r.2.2))))) (A0 := Avd g th rho sg) (ls := ls) ((dkK X.K).nil _ _) fun r hr => (e3 r hr).at_new nn
    rw [e2]
    exact this
  split at e
  case h_2 => cases e
  rename_i ks ek
  cases Option.some.inj e
  obtain ⟨its, rv, hl, hz⟩ := I.list (.of hp)
  obtain ⟨rs, e1, e2, e3⟩ := recs I ek rl rv
  have elen : rs.length ≤ sizeLine := by
    have := rv.length
    rw [e1, List.length_map] at this
    omega
  have fr : H s.heap.objs.size = none := I.hok.fresh (Nat.le_refl _)
  have hne : ∀ {b : Addr} {o : HO}, H b = some o → b ≠ s.heap.objs.size := fun hb z => by rw [z, fr] at hb; cases hb
  have pa := PairArg.list (prog := X.prog) (w := X.w) p its.toArray (fun j => (rs[j]?.map (·.T)).getD 0) (rs.map fun r => (Value.ref r.b, r.u))
  refine call_dict_pairsH (knd := tupleKind (mixKind X.prog X.w)) (ps := rs.map fun r => (r.q, r.b, r.u)) pa ?_ ?_ ?_ ?_ ?_ ?_ ?_
  · exact am.hd
  · exact tupleKind_room_in1 (A := X.A.in1) (by have := am.un; show X.A.units + 1 + 1 < cLine; omega)
  · refine ⟨hl, ?_, ?_⟩
    · rw [e1]; simp
    · intro j k v hj
      rw [List.getElem?_map] at hj
      cases er : rs[j]? with
      | none => rw [er] at hj; cases hj
      | some r =>
        rw [er] at hj
        cases hj
        refine ⟨?_, .inl ?_⟩
        · rw [e1]; simp [er]
        · have := (e3 r (List.mem_of_getElem? er)).2.2.2
          show Heap.IsTuple s.heap ((rs[j]?.map (·.T)).getD 0) _
          rw [er]
          exact this
  · refine ⟨by simp, fun i key v h => ?_⟩
    have h : (rs.map fun r => (Value.ref r.b, r.u))[i]? = some (key, v) := h
    rw [List.getElem?_map] at h
    cases er : rs[i]? with
    | none => rw [er] at h; cases h
    | some r =>
      rw [er] at h
      cases h
      exact ⟨r.q, r.b, by rw [List.getElem?_map, er]; rfl, rfl⟩
  · intro h' k x hx
    obtain ⟨r, hr, rfl⟩ := List.mem_map.mp hx
    obtain ⟨_, _, h3, _⟩ := e3 r hr
    obtain ⟨its2, r3, pl, _⟩ := I.tuple (.inl (.inl h3))
    exact IsTup.key r3 (IsTup.keep pl fun o ho => k _ _ (hne h3) (by simp) ho)
  · rw [List.length_map]; exact elen
  · intro h' tk dd hk
    refine ⟨.ref _, upd H s.heap.objs.size (.dT (putsV (rs.map fun r => (r.q, r.y)) [])), I.laid (t' := tk) (fun b o e => hk b o (by simp) e) (Nat.le_refl _) ?_, rfl, ?_⟩
    · refine ⟨?_, ?_, _, kt_all (.nil) (fun r hr => ⟨(e3 r hr).2.1, ?_⟩), (by obtain ⟨o, es, ep, a1, a2, a3, a4, _, a6⟩ := dd; exact ⟨o, es, ep, a1, a2, a3, a4, a6⟩)⟩
      · refine Nat.le_trans putsV_len ?_
        simp only [List.length_nil, List.length_map]
        omega
      · exact beq_eq_false_iff_ne.mpr (Nat.ne_of_gt I.big)
      · rw [upd_ne (hne (e3 r hr).2.2.1)]
        exact (e3 r hr).2.2.1
    · refine q.new R0 fr (rd_dct ?_)
      rw [hK]
      refine (dkT X.K).rp (R0.notAv fr) upd_same ?_
      have := rq_all (dkT X.K) (H := upd H s.heap.objs.size (.dT (putsV (rs.map fun r => (r.q, r.y)) []))) (A0 := Avd g th rho sg) (ls := rs.map fun r => (r.q, r.d, r.y)) ((dkT X.K).nil _ _) fun r hr => by
        obtain ⟨r', hr', rfl⟩ := List.mem_map.mp hr
        exact (e3 r' hr').1.at_new fr
      simp only [List.map_map, Function.comp_def] at this
      rw [e2]
      exact this
structure RecK where
  T : Addr
  q : Key
  d : PyData
  y : V
  kv : Value
  u : Value
theorem recsK (I : L2.Inv X pins σ H s) : ∀ {kvs : List (PyData × PyData)} {ks : List (Key × PyData)} {xs : List V} {its : List Value}, keysP asKey kvs = some ks → RpL X.K H A0 (kvs.map fun p => .tuple [p.1, p.2]) xs → Vals xs its →
    ∃ rs : List RecK, its = rs.map (fun r => Value.ref r.T) ∧ ks = rs.map (fun r => (r.q, r.d)) ∧ ∀ r ∈ rs, Rp X.K H A0 r.d r.y ∧ RelV r.y r.u ∧ RelV (kV r.q) r.kv ∧ IsTup s.heap r.T #[r.kv, r.u]
  | [], ks, xs, its, e, r, v => by
    cases e
    simp only [List.map_nil, RpL] at r
    subst r
    rw [Vals.zero v]
    exact ⟨[], rfl, rfl, fun r hr => (List.not_mem_nil hr).elim⟩
  | (k, d) :: kvs, ks, xs, its, e, r, v => by
    simp only [List.map_cons, RpL] at r
    obtain ⟨x, xs', rfl, r1, r2⟩ := r
    obtain ⟨a, y, z, rfl, sq, rk, rd⟩ := rp_pair r1
    simp only [keysP] at e
    cases ek : asKey k with
    | none => rw [ek] at e; cases e
    | some q =>
      cases ek2 : keysP asKey kvs with
      | none => rw [ek, ek2] at e; cases e
      | some ks' =>
        rw [ek, ek2] at e
        cases e
        rw [asKey_of ek] at rk
        rw [rp_key rk] at sq
        cases v with
        | cons ru v' =>
          obtain ⟨rs, e1, e2, e3⟩ := recsK I ek2 r2 v'
          obtain ⟨its2, r3, pl, _⟩ := I.tuple sq
          cases r3 with
          | cons ry r4 =>
            cases r4 with
            | cons rz r5 =>
              cases r5
              cases (show _ = Value.ref a from ru)
              rename_i kz uz
              refine ⟨⟨a, q, d, z, kz, uz⟩ :: rs, by rw [e1]; rfl, by rw [e2]; rfl, fun r hr => ?_⟩
              rcases List.mem_cons.mp hr with rfl | hr
              · exact ⟨rd, rz, ry, pl⟩
              · exact e3 r hr
def dctA : O1 := fun a => match a with
  | .dat (.tuple ds) => (match pairsOf ds with
    | some kvs => (match keysP asKey kvs with
      | some ks => some (.dat (.dict (putAll asKey keyD ks [])))
      | none => none)
    | none => none)
  | a => dctL a
theorem pairs_keyB {ds : List PyData} {kvs : List (PyData × PyData)} (e : pairsOf ds = some kvs) : keyB ds = false := by
  rw [pairsOf_some e]
  match kvs with
  | [] => rfl
  | [_] => rfl
  | [_, _] => rfl
  | _ :: _ :: _ :: _ => rfl
theorem plain_tup (I : L2.Inv X pins σ H s) {p : Addr} {xs : List V} (h : TpA false X.K H A0 p xs) : ∃ its : List Value, Vals xs its ∧ PlainSeq "tuple" s.heap p its.toArray ∧ xs.length ≤ sizeLine := by
  rcases h with ⟨_, o, od, e⟩ | ⟨o, its, n, l, c, d, z1, z2, v⟩
  · obtain ⟨g, hz, its, r, ⟨o', g', c', n, d'⟩⟩ := (show ObjOk X.prog X.w H s.heap p (.frz o (.tup xs)) from I.hok p _ e)
    rw [g] at g'
    cases g'
    exact ⟨its, r, ⟨o, n, g, c', od, d'⟩, hz⟩
  · exact ⟨its.toList, v, ⟨o, n, I.kIn p o l, c, d, by rw [z1]⟩, by rw [v.length, Array.length_toList]; exact z2⟩
theorem c_dctA (hc : X.calm = true) (am : Amb X) : CallL X (.type "dict") (o1 dctA) := fun g hK hm pins s σ H xs us Q I rx ⟨th, rho, S, sg, as, R0, ra, q⟩ => by
  by_cases ht : ∃ ds, as = [.dat (.tuple ds)]
  case neg =>
    have e : o1 dctA as = o1 dctL as := by
      match as with
      | [] => rfl
      | _ :: _ :: _ => rfl
      | [a] =>
        cases a with
        | dat d =>
          cases d with
          | tuple ds => exact (ht ⟨ds, rfl⟩).elim
          | _ => rfl
        | _ => rfl
    rw [e] at q
    exact c_dctL hc am g hK hm pins s σ H xs us Q I rx ⟨th, rho, S, sg, as, R0, ra, q⟩
  obtain ⟨ds, rfl⟩ := ht
  obtain ⟨x, r, rfl, rx1, e0⟩ := ra
  have e0 : r = [] := e0
  subst e0
  have q : Fin g th rho S sg H (match pairsOf ds with
    | some kvs => (match keysP asKey kvs with
      | some ks => some (.dat (.dict (putAll asKey keyD ks [])))
      | none => none)
    | none => none) Q := q
  cases ep : pairsOf ds with
  | none => rw [ep] at q; exact q.elim
  | some kvs =>
    rw [ep] at q
    cases ek : keysP asKey kvs with
    | none => simp only [ek] at q; exact q.elim
    | some ks =>
      simp only [ek] at q
      obtain ⟨p, xs, rfl, tp, rl⟩ := rd_tup.mp rx1
      rw [pairs_keyB ep, hK] at tp
      rw [pairsOf_some ep, hK] at rl
      obtain ⟨u, rfl, ru⟩ := vals1 rx
      cases (show u = Value.ref p from ru)
      obtain ⟨its, rv, hl, hz⟩ := plain_tup I tp
      obtain ⟨rs, e1, e2, e3⟩ := recsK I ek rl rv
      have elen : rs.length ≤ sizeLine := by
        have := rv.length
        rw [e1, List.length_map] at this
        omega
      have fr : H s.heap.objs.size = none := I.hok.fresh (Nat.le_refl _)
      have pa := PairArg.tuple (prog := X.prog) (w := X.w) p its.toArray (fun j => (rs[j]?.map (·.T)).getD 0) (rs.map fun r => (r.kv, r.u))
      refine PySem.call_dict_pairs (knd := mixKind X.prog X.w) (kvs := rs.map fun r => (r.q, r.u)) pa am.hd ?_ ?_ ?_ ?_
      · refine ⟨hl, ?_, ?_⟩
        · rw [e1]; simp
        · intro j k v hj
          rw [List.getElem?_map] at hj
          cases er : rs[j]? with
          | none => rw [er] at hj; cases hj
          | some r =>
            rw [er] at hj
            cases hj
            refine ⟨?_, .inl ?_⟩
            · rw [e1]; simp [er]
            · have := (e3 r (List.mem_of_getElem? er)).2.2.2
              show Heap.IsTuple s.heap ((rs[j]?.map (·.T)).getD 0) _
              rw [er]
              exact this
      · refine ⟨by simp, fun i key v h => ?_⟩
        have h : (rs.map fun r => (r.kv, r.u))[i]? = some (key, v) := h
        rw [List.getElem?_map] at h
        cases er : rs[i]? with
        | none => rw [er] at h; cases h
        | some r =>
          rw [er] at h
          cases h
          exact ⟨r.q, by rw [List.getElem?_map, er]; rfl, kV_is (e3 r (List.mem_of_getElem? er)).2.2.1⟩
      · rw [List.length_map]; exact elen
      · intro h' tk dd hk
        have kv : ∀ l : List RecK, (∀ r ∈ l, RelV r.y r.u) → KV (l.map fun r => (r.q, r.y)) (l.map fun r => (r.q, r.u)) := fun l => by
          induction l with
          | nil => intro _; exact .nil
          | cons r l ih => intro h; exact .cons ⟨rfl, h r List.mem_cons_self⟩ (ih fun r hr => h r (List.mem_cons_of_mem _ hr))
        refine ⟨.ref _, upd H s.heap.objs.size (.dK (mergeK [] (rs.map fun r => (r.q, r.y)))), I.laid (t' := tk) (fun b o e => hk b o (by simp) e) (Nat.le_refl _) ⟨?_, beq_eq_false_iff_ne.mpr (Nat.ne_of_gt I.big), _, (kv rs fun r hr => (e3 r hr).2.1).merge (kvs := []) (vs := []) .nil, dd⟩, rfl, ?_⟩
        · refine Nat.le_trans (length_mergeK _ _) ?_
          simp only [List.length_nil, List.length_map]
          omega
        · refine q.new R0 fr (rd_dct ?_)
          rw [hK]
          refine (dkK X.K).rp (R0.notAv fr) upd_same ?_
          have := rq_all (dkK X.K) (H := upd H s.heap.objs.size (.dK (mergeK [] (rs.map fun r => (r.q, r.y))))) (A0 := Avd g th rho sg) (ls := rs.map fun r => (r.q, r.d, r.y)) ((dkK X.K).nil _ _) fun r hr => by
            obtain ⟨r', hr', rfl⟩ := List.mem_map.mp hr
            exact (e3 r' hr').1.at_new fr
          simp only [List.map_map, Function.comp_def] at this
          rw [e2]
          exact this
end
end L3

/-! L3Kw -/
/-! a def with one keyword-only parameter that has a default -/
namespace L3
open PySem PySem.Spec PyProof.Rows L2
structure KnowsK (P : Program) (w : World) (K : PySem.W.Frag) (mg : Str → Option Value) (base : Heap) (k : Nat) (x : Str) (n : Nat) (kw : Str) (dflt : PyData) (F : FF) : Prop where
  ex : ∃ (f : Addr) (fd : FuncData) (ps : List Str), mg x = some (.ref f) ∧ PySem.W.keepIn K (.ref f) = true ∧
    (∀ (s : Shared) (us ws : List Value), K.In s.heap → us.length = n → ws.length = 1 → BindsTo s fd { pos := us, kw := [kw].zip ws } (ps.zip (us ++ ws))) ∧
    (∃ (dv : V) (du : Value), (∀ H A, Rp K H A dflt dv) ∧ Vals [dv] [du] ∧ Binds K fd ps [du]) ∧ ps.length = n + 1 ∧ FnG P w K mg base k f fd ps (spL K mg (n + 1) F)
theorem KnowsK.mono {P : Program} {w : World} {K : PySem.W.Frag} {mg : Str → Option Value} {base : Heap} {j k n : Nat} {x kw : Str} {d : PyData} {F : FF} (h : KnowsK P w K mg base j x n kw d F) (hj : j ≤ k := by decide) : KnowsK P w K mg base k x n kw d F :=
  ⟨let ⟨f, fd, ps, h1, h2, h3, h4, h5, h6⟩ := h.ex; ⟨f, fd, ps, h1, h2, h3, h4, h5, h6.mono hj⟩⟩
def eCallK (F : FF) (n : Nat) (r : AF) (fk : EF) : EF := fun rho S => (r rho S).bind fun ds S1 => (fk rho S1).bind fun d S2 => if ds.length = n ∧ stables (ds ++ [d]) = true then F (ds ++ [d]) S2 else .bad
def eCallD (F : FF) (n : Nat) (dflt : PyData) (r : AF) : EF := fun rho S => (r rho S).bind fun ds S1 => if ds.length = n ∧ stables ds = true then F (ds ++ [.dat dflt]) S1 else .bad
theorem rdl_ext {K : PySem.W.Frag} {g : Gh} {th th1 : List Addr} {rho : Sl} {sg : L2.St} {H H1 : Hp} (x : Ext th H th1 H1) : ∀ {ds : List D} {vs : List V}, RDL g.K H (Avd g th rho sg) th ds vs → RDL g.K H1 (Avd g th1 rho sg) th1 ds vs
  | [], _, h => h
  | d :: ds, _, ⟨v, r, e, p, t⟩ => ⟨v, r, e, p.ext x, rdl_ext (K := K) x t⟩
theorem rdl_snoc {K : PySem.W.Frag} {H : Hp} {A : Av} {th : List Addr} {d : D} {v : V} (h : RD K H A th d v) : ∀ {ds : List D} {vs : List V}, RDL K H A th ds vs → RDL K H A th (ds ++ [d]) (vs ++ [v])
  | [], _, e => by
    rw [show _ = _ from e]
    exact ⟨v, [], rfl, h, rfl⟩
  | d' :: ds, _, ⟨v', r, e, p, t⟩ => by
    subst e
    exact ⟨v', _, rfl, p, rdl_snoc h t⟩
theorem rsl_snoc {K : PySem.W.Frag} {H : Hp} {A : Av} {th : List Addr} {d : D} {v : V} (h : RS K H A th d v) : ∀ {ds : List D} {vs : List V}, RSL K H A th ds vs → RSL K H A th (ds ++ [d]) (vs ++ [v])
  | [], _, e => by
    rw [show _ = _ from e]
    exact ⟨v, [], rfl, h, rfl⟩
  | d' :: ds, _, ⟨v', r, e, p, t⟩ => by
    subst e
    exact ⟨v', _, rfl, p, rsl_snoc h t⟩
section
variable {X : Cx} {W : WX} {e ek : Expr} {es : List Expr} {r : AF} {fk : EF} {pos p kpos : Pos} {x kw : Str} {k n : Nat} {F : FF} {dflt : PyData}
theorem call_runA {pins : List (Addr × Obj)} {s : Shared} {sg : L2.St} {H : Hp} {Q : VK} {args : Args} {us : List Value} {vs : List V} {g : Gh} {th : List Addr} {rho : Sl} {S : Store} {ds : List D} (hK : g.K = X.K) (hm : g.mg = X.mg) (hr : Room k X.A) (am : Amb X) (tk : Takes X W)
    {f : Addr} {fd : FuncData} {ps : List Str} (hb : BindsTo s fd args (ps.zip us)) (hl : ps.length = n) (G : FnG X.prog X.w X.K X.mg X.base k f fd ps (spL X.K X.mg n F)) (I : L2.Inv X pins sg H s) (r2 : Vals vs us) (R0 : Rel g th rho S sg H) (rd : RSL g.K H (Avd g th rho sg) th ds vs)
    (hn : ds.length = n) (h : Post g W (relE g) th rho sg H (F ds S) Q) : wpAny (model X.prog X.w) X.A (call (.ref f) args.pos args.kw) (EP X pins sg Q) X.xe s := by
  have R1 := rel_in R0
  have hsp : spL X.K X.mg n F vs H Q (WE W sg) := by
    refine ⟨_, th, S, ds, by rw [rd.len, hn], by rw [← hK, ← hm]; exact R1, by rw [← hK, ← hm, avf_eq]; exact rd, ?_⟩
    rw [← hK, ← hm]
    cases eF : F ds S with
    | ok d S' =>
      rw [eF] at h
      intro v H' th' R2 rv
      obtain ⟨R3, x⟩ := call_back R0 R2
      rw [avf_eq] at rv
      exact h v H' th' R3 x rv.rd
    | exc c a S' =>
      rw [eF] at h
      intro cls dv H' th' R2 ec ed
      obtain ⟨R3, x⟩ := call_back R0 R2
      rw [avf_eq] at ed
      exact h cls dv H' th' R3 x ec ed
    | bad => rw [eF] at h; exact h
  refine wpAny_call (codeAny_mono (G.run X.A X.stack s H args us vs Q (WE W sg) hr am.gd I.env0 hb r2 hsp) fun r s' hq => ?_)
  cases r with
  | error e => exact passAt tk sg pins H s e s' I hq
  | ok fl =>
    cases fl with
    | ret u => exact I.after hq
    | next => exact hq.elim
    | brk => exact hq.elim
    | cont => exact hq.elim
/-- f(e, .., kw=ek) -/
theorem l_callKw (kn : KnowsK X.prog X.w X.K X.mg X.base k x n kw dflt F) (hr : Room k X.A) (am : Amb X) (tk : Takes X W) (ha : LA' X W (e :: es) r) (hk : LE X W ek fk) (hg : Gl X x) (hdb : (x == ("__debug__" : Str)) = false := by decide)
    (he : starEach (e :: es) X.env = (false, eval e X.env) :: starEach es X.env := by rfl)
    (hall : ((backToKw pos (keywordEach [⟨some kw, ek, kpos⟩] X.env)).all fun x => x.1.isSome) = true := by rfl)
    (hks : (backToKw pos (keywordEach [⟨some kw, ek, kpos⟩] X.env)).filterMap (fun x => x.1) = [kw] := by rfl)
    (hpl : (((backTo pos (starEach (e :: es) X.env)).any fun x => x.1) || (backToKw pos (keywordEach [⟨some kw, ek, kpos⟩] X.env)).any fun x => x.1.isNone) = false := by rfl) :
    LE X W (.Call (.Name x p) (e :: es) [⟨some kw, ek, kpos⟩] pos) (eCallK F n r fk) := fun g hK hm => ⟨fun pins s sg H Q I h => by
  obtain ⟨f, fd, ps, hmg, hkp, hb, _, hl, G⟩ := kn.ex
  refine wpAny_Call_Name_kw (ld_glob I hg hmg ?_ hdb)
  refine PySem.W.callWith_KW (h₀ := X.base) I.ok.mod.kin hkp hall (thn ((ha g hK hm).run pos pins s sg H
    (fun vs H1 => ∃ th1 S1 rho ds, Rel g th1 rho S1 sg H1 ∧ RDL g.K H1 (Avd g th1 rho sg) th1 ds vs ∧ Post g W (relE g) th1 rho sg H1 ((fk rho S1).bind fun d S2 => if ds.length = n ∧ stables (ds ++ [d]) = true then F (ds ++ [d]) S2 else .bad) Q) I ?_) fun us s1 ⟨vs, H1, I1, rv, q⟩ => ?_) hpl he
  · obtain ⟨th, rho, S, R0, p⟩ := h
    exact tL.bind (k := fun ds rho S1 => (fk rho S1).bind fun d S2 => if ds.length = n ∧ stables (ds ++ [d]) = true then F (ds ++ [d]) S2 else .bad) R0 p fun ds S1 vs H1 th1 _ R1 _ r1 q => ⟨th1, S1, rho, ds, R1, r1, q⟩
  · obtain ⟨th1, S1, rho, ds, R1, rd, q⟩ := q
    refine thn ((pk_cons (nm := some kw) (kpos := kpos) (hk g hK hm) pk_nil).run pos pins s1 sg H1
      (fun zs H2 => ∃ th2 S2 d z, zs = [z] ∧ Rel g th2 rho S2 sg H2 ∧ RSL g.K H2 (Avd g th2 rho sg) th2 (ds ++ [d]) (vs ++ [z]) ∧ ds.length = n ∧ Post g W (relE g) th2 rho sg H2 (F (ds ++ [d]) S2) Q) I1 ?_) fun ws s2 ⟨zs, H2, I2, rz, q2⟩ => ⟨I2.kIn, ?_⟩
    · exact tL.bind (k := fun d rho S2 => if ds.length = n ∧ stables (ds ++ [d]) = true then F (ds ++ [d]) S2 else .bad) R1 q fun d S2 z H2 th2 _ R2 x2 r2 q2 => by
        split at q2
        · next hc => exact ⟨th2, S2, d, z, rfl, R2, rsl_of (rdl_snoc r2 (rdl_ext (K := g.K) x2 rd)) hc.2, hc.1, q2⟩
        · exact q2.elim
    · obtain ⟨th2, S2, d, z, rfl, R2, rs, hn, q3⟩ := q2
      rw [hks]
      have hlen : us.length = n := by
        have h1 := rv.length
        have h2 := rd.len
        omega
      have wl : ws.length = 1 := by rw [← rz.length]; rfl
      exact call_runA (args := ⟨us, [kw].zip ws⟩) (n := n + 1) hK hm hr am tk (hb s2 us ws I2.kIn hlen wl) hl G I2 (rv.append rz) R2 rs (by rw [List.length_append, hn]; rfl) q3⟩
/-- f(e, ..), the keyword left out -/
theorem l_callDf (kn : KnowsK X.prog X.w X.K X.mg X.base k x n kw dflt F) (hr : Room k X.A) (am : Amb X) (tk : Takes X W) (ha : LA' X W (e :: es) r) (hg : Gl X x) (hdb : (x == ("__debug__" : Str)) = false := by decide)
    (he : starEach (e :: es) X.env = (false, eval e X.env) :: starEach es X.env := by rfl) (hpl : (backTo pos (starEach es X.env)).any (·.1) = false := by rfl) : LE X W (.Call (.Name x p) (e :: es) [] pos) (eCallD F n dflt r) := fun g hK hm => ⟨fun pins s sg H Q I h => by
  obtain ⟨f, fd, ps, hmg, hkp, _, ⟨dv, du, hdv, vd, hb⟩, hl, G⟩ := kn.ex
  refine wpAny_Call_Name_kw (ld_glob I hg hmg ?_ hdb)
  refine PySem.W.callWith_K (h₀ := X.base) I.ok.mod.kin hkp (thn ((ha g hK hm).run pos pins s sg H
    (fun vs H1 => ∃ th1 S1 rho ds, Rel g th1 rho S1 sg H1 ∧ RSL g.K H1 (Avd g th1 rho sg) th1 ds vs ∧ ds.length = n ∧ Post g W (relE g) th1 rho sg H1 (F (ds ++ [.dat dflt]) S1) Q) I ?_) fun us s1 ⟨vs, H1, I1, rv, q⟩ => ⟨I1.kIn, ?_⟩) he hpl
  · obtain ⟨th, rho, S, R0, p⟩ := h
    exact tL.bind (k := fun ds rho S1 => if ds.length = n ∧ stables ds = true then F (ds ++ [.dat dflt]) S1 else .bad) R0 p fun ds S1 vs H1 th1 _ R1 _ r1 q => by
      split at q
      · next hc => exact ⟨th1, S1, rho, ds, R1, rsl_of r1 hc.2, hc.1, q⟩
      · exact q.elim
  · obtain ⟨th1, S1, rho, ds, R1, rd, hn, p⟩ := q
    have hu : (us ++ [du]).length = ps.length := by
      have h1 := rv.length
      have h2 := rd.len
      rw [List.length_append, hl]
      show us.length + 1 = n + 1
      omega
    refine call_runA (args := ⟨us, []⟩) (n := n + 1) hK hm hr am tk (hb s1 us I1.kIn hu) hl G I1 (rv.append vd) R1 (rsl_snoc (d := .dat dflt) (v := dv) ?_ rd) (by rw [List.length_append, hn]; rfl) p
    show Rp _ _ _ _ _
    rw [hK]
    exact hdv _ _⟩
end
section
variable {P : Program} {w : World} {K : PySem.W.Frag} {mg : Str → Option Value} {base : Heap} {k m n : Nat} {x qual kw : Str} {st : Stmt} {f : Addr} {fd : FuncData} {N ps : List Str} {F : SF} {dvs : List V} {kws : List (Str × V)} {dflt : PyData} {dv : V}
theorem fun_gD (Fn : FunD K x qual (defArgs st) (defBody st) (defScope st) dvs kws f fd) (Sc : FnScope N ps (defScope st)) (hN : N.length = ps.length + m) (hb : Body P w K mg base k N qual st F) : FnG P w K mg base (k + 1) f fd ps (spL K mg ps.length (fnF m F)) := by
  obtain ⟨oc, od, dV, kV, doc, pm, an, cdv, ct, osl, rfl, lk, hcd, _, _⟩ := Fn.ex
  exact fng_of lk hcd Sc hN fun A outer s H E gd room => hb f cdv A outer s H E (amb_of gd room) room (takes_of rfl rfl rfl rfl) (passes_of rfl)
theorem knowsK_of (hm : ∃ f fd, mg x = some (.ref f) ∧ FunD K x qual (defArgs st) (defBody st) (defScope st) [] [(kw, dv)] f fd) (hd : ∀ H A, Rp K H A dflt dv)
    (hk : ∀ (kV doc pm : Value) (an : Option Addr) (cdv ct : Value) (us ws : List Value), us.length = n → ws.length = 1 → bindArgs (PySem.W.fnOf x qual (defArgs st) (defBody st) (defScope st) .none kV doc pm an cdv ct) ⟨us, [kw].zip ws⟩ = pure (ps.zip (us ++ ws)))
    (h0 : ∀ (D : Addr) (doc pm : Value) (an : Option Addr) (cdv ct : Value) (us ks : List Value), us.length = n → ks.length = 1 → KwChain D ([kw].zip ks) (bindArgs (PySem.W.fnOf x qual (defArgs st) (defBody st) (defScope st) .none (.ref D) doc pm an cdv ct) ⟨us, []⟩) (ps.zip (us ++ ks)))
    (hl : ps.length = n + 1) (Sc : FnScope N ps (defScope st)) (hN : N.length = ps.length + m) (hb : Body P w K mg base k N qual st F) : KnowsK P w K mg base (k + 1) x n kw dflt (fnF m F) := by
  obtain ⟨f, fd, h1, Fn⟩ := hm
  have G := fun_gD Fn Sc hN hb
  rw [hl] at G
  obtain ⟨ds, vd, hb0⟩ := Fn.binds0 (ps := ps) n (by simp) (by rw [hl]; rfl) h0
  refine ⟨f, fd, ps, h1, Fn.kp, fun s us ws _ l1 l2 => ?_, ?_, hl, G⟩
  · obtain ⟨oc, od, dV, kV, doc, pm, an, cdv, ct, osl, rfl, lk, hcd, hdv, _⟩ := Fn.ex
    rcases hdv with ⟨_, rfl⟩ | ⟨h, _⟩
    · intro M A E Q q
      rw [hk kV doc pm an cdv ct us ws l1 l2]
      exact wpAny_pure q
    · exact (h rfl).elim
  · obtain ⟨u, rfl, ru⟩ := vals1 vd
    exact ⟨dv, u, hd, .cons ru .nil, hb0⟩
theorem fund_at {h : Heap} {t : Tok} {D : Addr} {i : Int} {oc : Value} {od an : Option Addr} {osl : Array (Option Value)} {doc pm cdv ct : Value} (X : K.In h) (G : h.Ns mainGlobals mg) (a : PySem.W.nsIn K mainGlobals x = some (some (.ref f)))
    (l : K.lookup f = some ⟨oc, od, .func (PySem.W.fnOf x qual (defArgs st) (defBody st) (defScope st) .none (.ref D) doc pm an cdv ct), osl⟩) (c : PySem.W.codeIn K cdv qual = true) (k : PySem.W.keepIn K (.ref f) = true) (q : PySem.W.nsIn K D kw = some (some (.int i t))) :
    ∃ f fd, mg x = some (.ref f) ∧ FunD K x qual (defArgs st) (defBody st) (defScope st) [] [(kw, .int i)] f fd :=
  ⟨f, _, PySem.W.mg_of X G a, ⟨_, _, _, _, _, _, _, _, _, _, rfl, l, c, .inl ⟨rfl, rfl⟩, .inr ⟨D, rfl, fun p hp => by rw [List.mem_singleton.mp hp]; exact ⟨_, q, t, rfl⟩⟩⟩, k⟩
theorem fund_atB {h : Heap} {D : Addr} {i : Bool} {oc : Value} {od an : Option Addr} {osl : Array (Option Value)} {doc pm cdv ct : Value} (X : K.In h) (G : h.Ns mainGlobals mg) (a : PySem.W.nsIn K mainGlobals x = some (some (.ref f)))
    (l : K.lookup f = some ⟨oc, od, .func (PySem.W.fnOf x qual (defArgs st) (defBody st) (defScope st) .none (.ref D) doc pm an cdv ct), osl⟩) (c : PySem.W.codeIn K cdv qual = true) (k : PySem.W.keepIn K (.ref f) = true) (q : PySem.W.nsIn K D kw = some (some (.bool i))) :
    ∃ f fd, mg x = some (.ref f) ∧ FunD K x qual (defArgs st) (defBody st) (defScope st) [] [(kw, .bl i)] f fd :=
  ⟨f, _, PySem.W.mg_of X G a, ⟨_, _, _, _, _, _, _, _, _, _, rfl, l, c, .inl ⟨rfl, rfl⟩, .inr ⟨D, rfl, fun p hp => by rw [List.mem_singleton.mp hp]; exact ⟨_, q, rfl⟩⟩⟩, k⟩
end
end L3

/-! L3Par -/
/-! x, y = [..], e : the first is a local's own list -/
namespace L3
open PySem PySem.Spec PyProof.Rows L2
def sParOE (i j : Nat) (f1 : NF) (f2 : EF) : SF := fun rho S => (f1 rho S).stm rho fun ds S1 => (f2 rho S1).stm rho fun d S2 => if d.stable = true then .nx ((rho.set i (some (.own ds))).set j (some d)) S2 else .bad
def sParOO (i j : Nat) (f1 f2 : NF) : SF := fun rho S => (f1 rho S).stm rho fun ds S1 => (f2 rho S1).stm rho fun es S2 => .nx ((rho.set i (some (.own ds))).set j (some (.own es))) S2
section
variable {g : Gh} {W : WX} {th th' : List Addr} {rho : Sl} {S S' : Store} {sg : L2.St} {H H' : Hp}
theorem pres_new {i : Nat} {ds : List PyData} {q : Addr} (R1 : Rel (g.add q) th' rho S' sg H') (x : Ext th H th' H') (hq : H q = none) : Pres g th rho sg H th' (rho.set i (some (.own ds))) (sg.set i (some (.ref q))) H' := by
  refine ⟨x.pre, fun a o e n => ?_⟩
  obtain ⟨e', n'⟩ := (x.kp (g := g) (rho := rho) (sg := sg) x.new) a o e n
  refine ⟨e', fun z => ?_⟩
  rcases z with z | z | ⟨j, es, z1, z2⟩
  · exact n' (.inl z)
  · exact n' (.inr (.inl z))
  · rcases getset z1 with ⟨ij, z, hl⟩ | ⟨nn, z⟩
    · subst ij
      rw [List.getElem?_set_self (by rw [← R1.len]; exact hl)] at z2
      cases z2
      rw [hq] at e
      cases e
    · rw [List.getElem?_set_ne nn] at z2
      exact n' (.inr (.inr ⟨j, es, z, z2⟩))
theorem avd_own {i : Nat} {ds : List PyData} {q : Addr} (R1 : Rel (g.add q) th rho S sg H) (a : Addr) (h : Avd g th (rho.set i (some (.own ds))) (sg.set i (some (.ref q))) a) : Avd (g.add q) th rho sg a := by
  rcases h with z | z | ⟨j, es, z1, z2⟩
  · exact .inl (.inl z)
  · exact .inr (.inl z)
  · rcases getset z1 with ⟨ij, z, hl⟩ | ⟨nn, z⟩
    · subst ij
      rw [List.getElem?_set_self (by rw [← R1.len]; exact hl)] at z2
      cases z2
      exact .inl (.inr rfl)
    · rw [List.getElem?_set_ne nn] at z2
      exact .inr (.inr ⟨j, es, z, z2⟩)
end
section
variable {X : Cx} {W : WX} {f1 : NF} {f2 : EF} {pos : Pos}
theorem pe_some {α : Type} {e : Expr} {t : α → TE} (h : ∀ a, PE X e (t a)) : PE X e (fun sg H Q => ∃ a, t a sg H Q) := ⟨fun pins s sg H Q I ⟨a, q⟩ => (h a).run pins s sg H Q I q⟩
theorem ls_parOE {i j : Nat} {x y : Str} {a b : Expr} {px py pt : Pos} {kt k2 pt2} (hc : X.calm = true) (hN : X.N.Nodup) (hi : X.N[i]? = some x) (hj : X.N[j]? = some y) (hij : i ≠ j)
    (hx : X.env.scope.names.lookup x = some .local) (hy : X.env.scope.names.lookup y = some .local) (ha : LN X W a f1) (hb : LE X W b f2)
    (hw : swappedStores [.Tuple [.Name x px, .Name y py] kt pt] (.Tuple [a, b] k2 pt2) X.env = pure (some [x, y]))
    (h1 : starEach [a, b] X.env = (false, eval a X.env) :: starEach [b] X.env := by rfl) (h2 : starEach [b] X.env = (false, eval b X.env) :: starEach [] X.env := by rfl)
    (hs : swapsWithSole [.Tuple [.Name x px, .Name y py] kt pt] (.Tuple [a, b] k2 pt2) pos.line X.env = pure false := by rfl) :
    LS X W (.Assign [.Tuple [.Name x px, .Name y py] kt pt] (.Tuple [a, b] k2 pt2) pos) (sParOE i j f1 f2) := fun g hK hm =>
  (ps_par hc hN hi hj hij hx hy (pa_cons (ha g hK hm) (pa_cons (pe_some fun q : Addr => hb (g.add q) hK hm) pa_nil h2) h1) hw hs).of fun D sg H ⟨th, rho, S, R0, p⟩ => by
    refine ⟨th, rho, S, R0, ?_⟩
    unfold sParOE at p
    cases e1 : f1 rho S with
    | exc c a S' => rw [e1] at p; exact fun cls dv H' th' R1 x ec ed => p cls dv sg H' th' R1 ec ed
    | bad => rw [e1] at p; exact p
    | ok ds S1 =>
      rw [e1] at p
      intro q xs H1 th1 R1 x1 hp rl nb nt h0 hq
      refine ⟨q, th1, rho, S1, R1, ?_⟩
      have p : PostS g W th rho sg H ((f2 rho S1).stm rho fun d S2 => if d.stable = true then .nx ((rho.set i (some (.own ds))).set j (some d)) S2 else .bad) D := p
      cases e2 : f2 rho S1 with
      | exc c a S' =>
        rw [e2] at p
        exact fun cls dv H' th' R2 x ec ed => p cls dv sg H' th' R2.dropB ec (ed.sub fun a h => h.elim (fun h => .inl (.inl h)) .inr)
      | bad => rw [e2] at p; exact p
      | ok d S2 =>
        rw [e2] at p
        have p : PostS g W th rho sg H (if d.stable = true then .nx ((rho.set i (some (.own ds))).set j (some d)) S2 else .bad) D := p
        split at p
        · next hd =>
          intro v H2 th2 R2 x2 rd
          have hp2 := x2.keep q _ hp nt
          have nt2 : q ∉ th2 := fun m => (R2.own1 |> fun _ => R2.bth q m) (.inr rfl)
          have rl2 : RpL g.K H2 (Avd (g.add q) th2 rho sg) ds xs := RpL.kp (x2.kp (g := g.add q) (rho := rho) (sg := sg) x2.new) ds xs rl
          have R3 := R2.setOwn (i := i) hp2 rl2 nb nt2 h0
          have rd' : RD g.K H2 (Avd g th2 (rho.set i (some (.own ds))) (sg.set i (some (.ref q)))) th2 d v := RD.sub (fun a => avd_own R2 a) rd
          have R4 := R3.set (i := j) hd rd'
          exact ⟨_, _, rfl, p _ H2 th2 R4 ((pres_new R2 (x1.trans x2) hq).trans (R3.pres_set hd))⟩
        · exact p.elim
end
end L3

/-! L3Div -/
/-! divmod; x, y = [..], [..] (both a local's own) -/
namespace L3
open PySem PySem.Spec PyProof.Rows L2
def divmodD : OL := fun as => match as with
  | [.dat (.int i), .dat (.int j)] => if 0 < j ∧ Builtin.divisionGoesByPylong i j = false then some (.dat (.tuple [.int (i / j), .int (i % j)])) else none
  | _ => none
theorem c_divmod {X : Cx} : CallL X (.builtin "divmod") divmodD := CallL.of call_divmodW fun g hK th rho S sg H as xs Q R0 ra q => by
  unfold divmodD at q
  split at q
  · next i j =>
    split at q
    · next hc =>
      obtain ⟨x, r, rfl, ra1, y, t, rfl, ra2, ra3⟩ := ra
      have e0 : t = [] := ra3
      subst e0
      refine ⟨i, j, by rw [rd_int.mp ra1, rd_int.mp ra2], hc, fun p np => q.new R0 np (rd_tup.mpr ⟨p, _, rfl, ⟨R0.notAv np, upd_same⟩, ?_⟩)⟩
      simp only [RpL, Rp]
      exact ⟨_, _, rfl, rfl, _, _, rfl, rfl, rfl⟩
    · exact q.elim
  · exact q.elim
section
variable {X : Cx} {W : WX} {f1 f2 : NF} {pos : Pos}
theorem ls_parOO {i j : Nat} {x y : Str} {a b : Expr} {px py pt : Pos} {kt k2 pt2} (hc : X.calm = true) (hN : X.N.Nodup) (hi : X.N[i]? = some x) (hj : X.N[j]? = some y) (hij : i ≠ j)
    (hx : X.env.scope.names.lookup x = some .local) (hy : X.env.scope.names.lookup y = some .local) (ha : LN X W a f1) (hb : LN X W b f2)
    (hw : swappedStores [.Tuple [.Name x px, .Name y py] kt pt] (.Tuple [a, b] k2 pt2) X.env = pure (some [x, y]))
    (h1 : starEach [a, b] X.env = (false, eval a X.env) :: starEach [b] X.env := by rfl) (h2 : starEach [b] X.env = (false, eval b X.env) :: starEach [] X.env := by rfl)
    (hs : swapsWithSole [.Tuple [.Name x px, .Name y py] kt pt] (.Tuple [a, b] k2 pt2) pos.line X.env = pure false := by rfl) :
    LS X W (.Assign [.Tuple [.Name x px, .Name y py] kt pt] (.Tuple [a, b] k2 pt2) pos) (sParOO i j f1 f2) := fun g hK hm =>
  (ps_par hc hN hi hj hij hx hy (pa_cons (ha g hK hm) (pa_cons (pe_some fun q : Addr => hb (g.add q) hK hm) pa_nil h2) h1) hw hs).of fun D sg H ⟨th, rho, S, R0, p⟩ => by
    refine ⟨th, rho, S, R0, ?_⟩
    unfold sParOO at p
    cases e1 : f1 rho S with
    | exc c a S' => rw [e1] at p; exact fun cls dv H' th' R1 x ec ed => p cls dv sg H' th' R1 ec ed
    | bad => rw [e1] at p; exact p
    | ok ds S1 =>
      rw [e1] at p
      intro q xs H1 th1 R1 x1 hp rl nb nt h0 hq
      refine ⟨q, th1, rho, S1, R1, ?_⟩
      have p : PostS g W th rho sg H ((f2 rho S1).stm rho fun es S2 => .nx ((rho.set i (some (.own ds))).set j (some (.own es))) S2) D := p
      cases e2 : f2 rho S1 with
      | exc c a S' =>
        rw [e2] at p
        exact fun cls dv H' th' R2 x ec ed => p cls dv sg H' th' R2.dropB ec (ed.sub fun a h => h.elim (fun h => .inl (.inl h)) .inr)
      | bad => rw [e2] at p; exact p
      | ok es S2 =>
        rw [e2] at p
        have p : PostS g W th rho sg H (.nx ((rho.set i (some (.own ds))).set j (some (.own es))) S2) D := p
        intro q2 ys H2 th2 R2 x2 hp2 rl2 nb2 nt2 h02 hq2
        have e : (g.add q).add q2 = (g.add q2).add q := by
          have : (fun a => (g.B a ∨ a = q) ∨ a = q2) = fun a => (g.B a ∨ a = q2) ∨ a = q := funext fun a => propext ⟨fun h => h.elim (fun h => h.elim (fun h => .inl (.inl h)) .inr) fun h => .inl (.inr h), fun h => h.elim (fun h => h.elim (fun h => .inl (.inl h)) .inr) fun h => .inl (.inr h)⟩
          show ({ g with B := fun a => (g.B a ∨ a = q) ∨ a = q2 } : Gh) = { g with B := fun a => (g.B a ∨ a = q2) ∨ a = q }
          rw [this]
        have ne : q ≠ q2 := fun z => by rw [z, hq2] at hp; cases hp
        have hpq := x2.keep q _ hp nt
        have ntq : q ∉ th2 := fun m => R2.bth q m (.inl (.inr rfl))
        have R2' := R2
        rw [e] at R2' rl2
        have rlq : RpL g.K H2 (Avd ((g.add q2).add q) th2 rho sg) ds xs := by
          refine RpL.kp (fun a o ea n => ?_) ds xs rl
          obtain ⟨e', n'⟩ := (x2.kp (g := g.add q) (rho := rho) (sg := sg) x2.new) a o ea n
          refine ⟨e', fun z => ?_⟩
          rcases z with (z | z) | z | z
          · rcases z with z | z
            · exact n' (.inl (.inl z))
            · rw [z, hq2] at ea; cases ea
          · exact n' (.inl (.inr z))
          · exact n' (.inr (.inl z))
          · exact n' (.inr (.inr z))
        have R4 := R2'.setOwn (i := i) hpq rlq (fun z => z.elim nb ne) ntq h0
        have rl2' : RpL g.K H2 (Avd (g.add q2) th2 (rho.set i (some (.own ds))) (sg.set i (some (.ref q)))) es ys := RpL.kp (fun a o ea n => ⟨ea, fun z => n (avd_own R2' a z)⟩) es ys rl2
        have R5 := R4.setOwn (i := j) hp2 rl2' (fun z => nb2 (.inl z)) nt2 h02
        exact ⟨_, _, rfl, p _ H2 th2 R5 ((pres_new R1 x1 hq).trans (pres_new R4 x2 hq2))⟩
end
end L3

/-! L3Enum -/
/-! enumerate(v) with one argument over a tuple or a list. -/
namespace L3
open PySem PySem.Spec PyProof.Rows L2 Sem
set_option maxHeartbeats 1000000 in
theorem meets_enumerate_newV {v : Value} {o : Obj} {H : Heap → Prop} (B : Begins v o H) :
    Meets (Builtin.«enumerate.__new__» ⟨[.type "enumerate", v], []⟩) (fun _ R s => H s.heap ∧
      R (.ok (.ret (.ref (s.heap.push o).objs.size))) { s with heap := (s.heap.push o).push { cls := .type "enumerate", data := .fields #[.none, .bool false, .ref s.heap.objs.size, rawInt 0, .none, .none] } }) :=
  .of_wp fun prog w A R s h => by
    obtain ⟨hp, g, d, tk, os⟩ := s; obtain ⟨h1, h⟩ := h
    have hsub := sub_enumerate
    have q1 : ∀ {A' : Around} {E : Value → Shared → Prop} {Q : Value → Shared → Prop}, Q (.ref hp.objs.size) ⟨hp.push o, g, d, tk, os⟩ → wpAny (model prog w) A' (pyIter v) Q E ⟨hp, g, d, tk, os⟩ :=
      fun q => B.iter prog w _ _ ⟨hp, g, d, tk, os⟩ _ h1 q
    wp_walk using q1
    refine wpAny_stack_any fun st => wpAny_pure ?_
    split
    · rename_i c _ _ _ _ _
      cases (c == Value.type "enumerate")
      · wp_walk using q1
        exact ⟨_, rfl, h⟩
      · wp_walk using q1
        exact ⟨_, rfl, h⟩
    · wp_walk using q1
      exact ⟨_, rfl, h⟩
section
variable {prog : Program} {w : World} {A : Around} {E : Value → Shared → Prop} {s : Shared}
theorem enum_begins1 {v : Value} {o : Obj} {H : Heap → Prop} {Q : Value → Shared → Prop} (B : Begins v o H) (h1 : H s.heap) (tc : checkTypeCall "enumerate" ⟨[v], []⟩ = pure ()) (nc : checkBuiltinCall "enumerate.__new__" ⟨[.type "enumerate", v], []⟩ = pure ())
    (h : ∀ h', IsEnum h' (s.heap.objs.size + 1) s.heap.objs.size 0 .none → h'.get? s.heap.objs.size = some o → h'.objs.size = s.heap.objs.size + 2 →
      (∀ b o, s.heap.get? b = some o → h'.get? b = some o) → Q (.ref (s.heap.objs.size + 1)) { s with heap := h' }) :
    wpAny (model prog w) A (call (.type "enumerate") [v]) Q E s := by
  refine callType_new F.called_enumerate (by decide) tc nc (fun obj => F.args_object_init_2 obj _) F.entry_enumerate_new
    (meets_enumerate_newV B) ⟨h1, ?_⟩
  have hz : (s.heap.push o).objs.size = s.heap.objs.size + 1 := Heap.size_push ..
  show _ ∧ _
  rw [hz]
  have he : IsEnum ((s.heap.push o).push { cls := .type "enumerate", data := .fields #[.none, .bool false, .ref s.heap.objs.size, rawInt 0, .none, .none] }) (s.heap.objs.size + 1) s.heap.objs.size 0 .none := by
    have := Heap.get?_push_size (s.heap.push o) (o := { cls := .type "enumerate", data := .fields #[.none, .bool false, .ref s.heap.objs.size, rawInt 0, .none, .none] }) rfl
    rw [hz] at this; exact this
  refine ⟨⟨_, he, rfl⟩, h _ he (Heap.get?_push_of_some _ (Heap.get?_push_size _ B.free)) (by rw [Heap.size_push, hz]) fun b o x => Heap.get?_push_of_some _ (Heap.get?_push_of_some _ x)⟩
theorem enum_end_tuple {e it t : Addr} {i : Nat} {c : Int} {items : Array Value} {old : Value} {Q : Option Value → Shared → Prop} (hh : A.in1.handled = none)
    (he : IsEnum s.heap e it c old) (hit : s.heap.IsTupleIter it t i) (ht : s.heap.IsTuple t items) (hx : items[i]? = none)
    (hQ : ∀ h', Heap.ExtBut it s.heap h' → Q none { s with heap := h' }) : wpAny (model prog w) A (pyNext (.ref e)) Q E s := by
  have hT : s.TypeIs (.ref e) "enumerate" := ⟨_, he, rfl⟩
  unfold pyNext
  refine wpAny_bind (wpAny_attempt (wpAny_callSpecial?_slot (name := Str.ofString "__next__") hT F.slot_enumerate_next
    (wpAny_call_entry F.slot_enumerate_next hT F.entry_enumerate_next ?_ (F.args_enumerate_next_1 _))))
  show wpAny _ _ (field (.ref e) 2 >>= _) _ _ _
  refine wpAny_bind (wpAny_field he rfl (x := .ref it) rfl ?_)
  refine wpAny_bind (wpAny_nextOf_tuple_end hh hit ht hx fun h' x he' hx' => ?_)
  obtain ⟨o, ho, hc⟩ := hx'
  refine wpAny_bind (wpAny_isInstance (T := "StopIteration") (b := true) ⟨o, ho, hc⟩ isSubtype_stop ?_)
  exact wpAny_pure (hQ _ he')
theorem F_typeCall_enumerate_r (a : Addr) : checkTypeCall "enumerate" ⟨[.ref a], []⟩ = pure () := F.typeCall_enumerate_1 _
end
/-- the tuple at a, each item in a new pair -/
def IteT (K : PySem.W.Frag) (a : Addr) : It :=
  ⟨fun i H => ∃ (xs : List V) (x : V), SqT K H a xs ∧ xs[i]? = some x, fun i H v H' => ∃ T x, v = .ref T ∧ H T = none ∧ H' = L2.upd H T (.tup [.int (i : Nat), x]) ∧ ∀ xs, SqT K H a xs → xs[i]? = some x, fun i H => ∃ xs : List V, SqT K H a xs ∧ xs.length ≤ i⟩
theorem turn_enumT {P : Program} {w : World} {K : PySem.W.Frag} {elts : List Expr} {kk : Nat} {tpos : Pos} (a e it : Addr) (hae : a ≠ e) (hai : a ≠ it) (hei : e ≠ it) :
    Turn P w K (.Tuple elts kk tpos) (IteT K a) [e, it] e (fun i h => (∃ old, IsEnum h e it ((i : Nat) : Int) old) ∧ h.IsTupleIter it a i) where
  mem := by simp
  obj := fun i h st b hb => by
    obtain ⟨⟨old, he⟩, ⟨o, ho, hc, hd⟩⟩ := st
    have e' : b = e ∨ b = it := by simpa using hb
    rcases e' with z | z
    · rw [z]; exact ⟨_, he, fun v q => nomatch q⟩
    · rw [z]; exact ⟨o, ho, fun v q => by rw [hd] at q; cases q⟩
  keep := fun i h h' st k => let ⟨⟨old, he⟩, hi⟩ := st; ⟨⟨old, k e (by simp) _ he⟩, hi.at fun o q => k it (by simp) o q⟩
  item := by
    intro X hP hw hK hc i pins s σ H E I hf st hg
    subst hP hw hK
    obtain ⟨⟨old, he⟩, hit⟩ := st
    obtain ⟨xs, x, hq, hx⟩ := hg
    obtain ⟨its, rv, p, hz⟩ := I.tuple hq
    obtain ⟨u, hu, ru⟩ := rv.get hx
    have hel : e < s.heap.objs.size := Heap.lt_size he
    have hil : it < s.heap.objs.size := by obtain ⟨_, q, _⟩ := hit; exact Heap.lt_size q
    have hlen := (List.getElem?_eq_some_iff.mp hu).1
    refine wpAny_pyNext_enum_itemD (Draws.tuple (A := X.A.in1) (show X.A.in1.handled = none from I.ok.hd hc) it a hai its.toArray) he ⟨hit, p⟩ (by simpa using hlen) hei (by simp; exact ⟨hei, fun q => hae q.symm⟩) fun x' h' tk hP ho hit' hT hsz hk => ?_
    have ex : x' = u := by
      have h1 : its.toArray[i]? = some x' := hP
      rw [List.getElem?_toArray, hu] at h1
      exact (Option.some.inj h1).symm
    subst ex
    refine ⟨_, rfl, wpAny_letOwnedTupleGo_enum (s := { s with heap := h', toks := tk + 1 }) ho fun h'' he' sb => ?_⟩
    have hT2 : h''.get? s.heap.objs.size = some { cls := .type "tuple", data := .seq #[.int i tk, x'] } := (sb.2 _ (Nat.ne_of_gt hel)).trans hT
    have new : ObjOk X.prog X.w (L2.upd H s.heap.objs.size (.tup [.int (i : Nat), x])) h'' s.heap.objs.size (.tup [.int (i : Nat), x]) :=
      ⟨by show 2 ≤ sizeLine; decide, [.int i tk, x'], .cons ⟨_, rfl⟩ (.cons ru .nil), ⟨_, hT2, rfl, _, rfl⟩⟩
    have I1 : L2.Inv X pins σ (L2.upd H s.heap.objs.size (.tup [.int (i : Nat), x])) { s with heap := h'', toks := tk + 1 } :=
      I.turnedNew (ch := [e, it]) (fun b ob hb q => (sb.2 b (fun z => hb (by simp [z]))).trans (hk b ob (fun z => hb (by simp [z])) (fun z => hb (by simp [z])) q)) hf (Nat.le_refl _) new
    refine ⟨.ref s.heap.objs.size, _, I1, rfl, ⟨_, x, rfl, I.hok.fresh (Nat.le_refl _), rfl, fun ys hy => by rw [I.tuple_inj hy hq]; exact hx⟩, ⟨⟨x', ?_⟩, hit'.1.at fun o q => (sb.2 it (Ne.symm hei)).trans q⟩, fun b hb => ?_⟩
    · have e1 : ((i + 1 : Nat) : Int) = (i : Int) + 1 := by omega
      rw [e1]; exact he'
    · have hb' : b < s.heap.objs.size := by
        have e' : b = e ∨ b = it := by simpa using hb
        rcases e' with z | z
        · rw [z]; exact hel
        · rw [z]; exact hil
      rw [upd_ne (Nat.ne_of_lt hb')]
      exact (hf b hb).1
  done := by
    intro X hP hw hK hc i pins s σ H E I hf st hg
    subst hP hw hK
    obtain ⟨⟨old, he⟩, hit⟩ := st
    obtain ⟨xs, hq, hx⟩ := hg
    obtain ⟨its, rv, p, hz⟩ := I.tuple hq
    obtain ⟨f0, f1, f2, f3, f4, f5⟩ := hf it (by simp)
    have hl := rv.length
    exact enum_end_tuple (show X.A.in1.handled = none from I.ok.hd hc) he hit p (by simp; omega) fun h' eb => ⟨rfl, I.turned (t' := s.toks) (fun b o hb q => eb b o hb q) f0 f1 f3 f4 f5⟩
  self := fun A i s Q E st h => let ⟨⟨_, he⟩, _⟩ := st; wpAny_pyIter_enum he h
def iEnumV (K : PySem.W.Frag) (ta : TA) : TI := fun σ H R => ta σ H fun vs H1 => ∃ a xs, vs = [.ref a] ∧ ((SqL K H1 a xs ∧ R (Ite K a) H1) ∨ (SqT K H1 a xs ∧ R (IteT K a) H1))
theorem pi_enumV {X : Cx} {e : Expr} {ta : TA} {p pos tpos : Pos} {elts : List Expr} {kk : Nat} (hg : Gl X "enumerate") (hm : X.mg "enumerate" = none) (ha : PA X [e] ta) (hs : starEach [e] X.env = [(false, eval e X.env)] := by rfl) :
    PI X (.Tuple elts kk tpos) (.Call (.Name "enumerate" p) [e] [] pos) (iEnumV X.K ta) := by
  refine ⟨fun pins s σ H R I h => ?_⟩
  refine Call_ (ld_blt I hg hm boot_enumerate (PyProof.Rows.callWith_type1 (thn (ha.run pos pins s σ H _ I h) fun us s1 ⟨vs, H1, I1, r1, q1⟩ => ?_) hs rfl))
  obtain ⟨a, xs, ex, q1⟩ := q1
  subst ex
  cases r1 with
  | cons r rr =>
    cases rr
    cases r
    have fr : ∀ b, b ∈ [s1.heap.objs.size + 1, s1.heap.objs.size] → FpOk X pins H1 b := fun b hb => by
      have e' : b = s1.heap.objs.size + 1 ∨ b = s1.heap.objs.size := by simpa using hb
      have hle : s1.heap.objs.size ≤ b := by
        rcases e' with z | z
        · rw [z]; exact Nat.le_add_right _ _
        · rw [z]; exact Nat.le_refl _
      exact I1.fpOk hle (I1.hok.fresh hle)
    rcases q1 with ⟨hq, q⟩ | ⟨hq, q⟩
    · obtain ⟨its, rv, p', hz⟩ := I1.list hq
      refine call_enumerate_list p'.isList fun h' he hit hsz hk => wpAny_pyIter_enum he ?_
      have I2 : L2.Inv X pins σ H1 { s1 with heap := h' } := I1.kept (t' := s1.toks) hk
      exact ⟨s1.heap.objs.size + 1, [s1.heap.objs.size + 1, s1.heap.objs.size], _, _, H1, rfl, I2, turn_enum a (s1.heap.objs.size + 1) s1.heap.objs.size, ⟨⟨.none, he⟩, hit, Nat.succ_ne_self _⟩, fr, q⟩
    · obtain ⟨its, rv, p', hz⟩ := I1.tuple hq
      obtain ⟨o1, ho1, _⟩ := id p'
      have hal := Heap.lt_size ho1
      refine enum_begins1 (begins_tuple a its.toArray) p' (F.typeCall_enumerate_1 _) (F.newCall_enumerate_1 _) fun h' he hit hsz hk => wpAny_pyIter_enum he ?_
      have I2 : L2.Inv X pins σ H1 { s1 with heap := h' } := I1.kept (t' := s1.toks) hk
      exact ⟨s1.heap.objs.size + 1, [s1.heap.objs.size + 1, s1.heap.objs.size], _, _, H1, rfl, I2, turn_enumT a (s1.heap.objs.size + 1) s1.heap.objs.size (Nat.ne_of_lt (Nat.lt_succ_of_lt hal)) (Nat.ne_of_lt hal) (Nat.succ_ne_self _), ⟨⟨.none, he⟩, ⟨_, hit, rfl, rfl⟩⟩, fr, q⟩
def enumD (ds : List PyData) : List PyData := ds.mapIdx fun i d => .tuple [.int (i : Nat), d]
theorem enum_at {ds : List PyData} {i : Nat} {d : PyData} (e : (enumD ds)[i]? = some d) : ∃ a, ds[i]? = some a ∧ d = .tuple [.int (i : Nat), a] := by
  unfold enumD at e
  rw [List.getElem?_mapIdx, Option.map_eq_some_iff] at e
  obtain ⟨a, e1, rfl⟩ := e
  exact ⟨a, e1, rfl⟩
theorem it_enumT {K : PySem.W.Frag} {a : Addr} {ds : List PyData} : ItL true K (IteT K a) (enumD ds) (fun H A => ∃ xs, TpA (keyB ds) K H A a xs ∧ RpL K H A ds xs) where
  stay := fun H A H' A' ⟨xs, l, r⟩ k => ⟨xs, l.kp k, RpL.kp k ds xs r⟩
  go := fun i d H A ⟨xs, l, r⟩ e => by
    obtain ⟨p, e1, _⟩ := enum_at e
    obtain ⟨x, ex, _⟩ := r.get e1
    exact ⟨xs, x, l.sq, ex⟩
  yld := fun i d H A v H' ⟨xs, l, r⟩ e ⟨T, x, ev, nT, eH, f1⟩ => by
    obtain ⟨p, e1, rfl⟩ := enum_at e
    obtain ⟨x', ex, rx⟩ := r.get e1
    have h1 := f1 xs l.sq
    rw [ex] at h1
    cases h1
    subst ev eH
    refine .inr ⟨T, _, nT, rfl, fun nA => ?_⟩
    exact .inr ⟨rfl, _, T, _, rfl, rfl, upd_same, .cons (by simp only [Rp]) (.one (Rp.kp (kp_new nT) p _ rx))⟩
  stop := fun i H A ⟨xs, l, r⟩ h => ⟨xs, l.sq, by rw [r.len]; unfold enumD at h; rwa [List.length_mapIdx] at h⟩
theorem it_enumL {K : PySem.W.Frag} {a : Addr} {ds : List PyData} : ItL true K (Ite K a) (enumD ds) (fun H A => ∃ xs, LsA K H A a xs ∧ RpL K H A ds xs) where
  stay := fun H A H' A' ⟨xs, l, r⟩ k => ⟨xs, l.kp k, RpL.kp k ds xs r⟩
  go := fun i d H A ⟨xs, l, r⟩ e => by
    obtain ⟨p, e1, _⟩ := enum_at e
    obtain ⟨x, ex, _⟩ := r.get e1
    exact ⟨xs, x, l.sq, ex⟩
  yld := fun i d H A v H' ⟨xs, l, r⟩ e ⟨T, x, ev, nT, eH, f1⟩ => by
    obtain ⟨p, e1, rfl⟩ := enum_at e
    obtain ⟨x', ex, rx⟩ := r.get e1
    have h1 := f1 xs l.sq
    rw [ex] at h1
    cases h1
    subst ev eH
    refine .inr ⟨T, _, nT, rfl, fun nA => ?_⟩
    exact .inr ⟨rfl, _, T, _, rfl, rfl, upd_same, .cons (by simp only [Rp]) (.one (Rp.kp (kp_new nT) p _ rx))⟩
  stop := fun i H A ⟨xs, l, r⟩ h => ⟨xs, l.sq, by rw [r.len]; unfold enumD at h; rwa [List.length_mapIdx] at h⟩
def iEnum (r : AF) : NF := fun rho S => (r rho S).bind fun as S1 => match as with
  | [.dat (.tuple ds)] => .ok (enumD ds) S1
  | [.dat (.list ds)] => .ok (enumD ds) S1
  | _ => .bad
theorem li_enum {X : Cx} {W : WX} {e : Expr} {r : AF} {pos p tpos : Pos} {elts : List Expr} {kk : Nat} (hm0 : X.mg "enumerate" = none) (ha : LA' X W [e] r) (hg : Gl X "enumerate") (hs : starEach [e] X.env = [(false, eval e X.env)] := by rfl) :
    LI X W (.Tuple elts kk tpos) (.Call (.Name "enumerate" p) [e] [] pos) (iEnum r) := fun g hK hm => (pi_enumV hg hm0 (ha g hK hm) hs).of fun sg H Q ⟨th, rho, S, R0, q⟩ =>
  tL.iter (k := fun (as : List L3.D) rho S1 => match as with
    | [.dat (.tuple ds)] => R.ok (enumD ds) S1
    | [.dat (.list ds)] => R.ok (enumD ds) S1
    | _ => R.bad) R0 q fun as S1 vs H1 th1 _ R1 _ r q => by
      split at q
      · next ds =>
        obtain ⟨v1, t1, rfl, r1, e0⟩ := r
        have e0' : t1 = [] := e0
        subst e0'
        obtain ⟨a, xs, rfl, l, rl⟩ := rd_tup.mp r1
        exact ⟨a, xs, rfl, .inr ⟨by rw [← hK]; exact l.sq, by rw [← hK]; exact q _ H1 th1 _ R1 (.refl _ _) it_enumT ⟨xs, l, rl⟩⟩⟩
      · next ds =>
        obtain ⟨v1, t1, rfl, r1, e0⟩ := r
        have e0' : t1 = [] := e0
        subst e0'
        obtain ⟨a, xs, rfl, l, rl⟩ := rd_lst.mp r1
        exact ⟨a, xs, rfl, .inl ⟨by rw [← hK]; exact l.sq, by rw [← hK]; exact q _ H1 th1 _ R1 (.refl _ _) it_enumL ⟨xs, l, rl⟩⟩⟩
      · exact q.elim
end L3

/-! L3Max -/
/-! max, min of a list of ints. -/
namespace L3
open PySem PySem.Spec PyProof.Rows L2
def maxLD : O1 := fun a => ((lis a).bind asInts).bind fun ns => ns.max?.map fun m => .dat (.int m)
def minLD : O1 := fun a => ((lis a).bind asInts).bind fun ns => ns.min?.map fun m => .dat (.int m)
section
variable {X : Cx}
theorem c_maxL (hc : X.calm = true) : CallL X (.builtin "max") (o1 maxLD) := c_one (cr_max hc) fun g hK th rho S sg H a d x Q R0 ra e q => by
  unfold maxLD at e
  obtain ⟨ns, e1, e2⟩ := Option.bind_eq_some_iff.mp e
  obtain ⟨ds, e3, e4⟩ := Option.bind_eq_some_iff.mp e1
  obtain ⟨m, em, rfl⟩ := Option.map_eq_some_iff.mp e2
  obtain ⟨p, xs, rfl, h, r⟩ := lis_ok ra e3
  obtain ⟨m1, m2⟩ := List.max?_eq_some_iff.mp em
  refine ⟨p, ns, rfl, by rw [← ints_ok r e4]; exact .of h, List.length_pos_of_mem m1, fun k h1 h2 => ?_⟩
  have : k = m := Int.le_antisymm (m2 k h1) (h2 m m1)
  rw [this]
  exact Fin.int q R0
theorem c_minL (hc : X.calm = true) : CallL X (.builtin "min") (o1 minLD) := c_one (cr_min hc) fun g hK th rho S sg H a d x Q R0 ra e q => by
  unfold minLD at e
  obtain ⟨ns, e1, e2⟩ := Option.bind_eq_some_iff.mp e
  obtain ⟨ds, e3, e4⟩ := Option.bind_eq_some_iff.mp e1
  obtain ⟨m, em, rfl⟩ := Option.map_eq_some_iff.mp e2
  obtain ⟨p, xs, rfl, h, r⟩ := lis_ok ra e3
  obtain ⟨m1, m2⟩ := List.min?_eq_some_iff.mp em
  refine ⟨p, ns, rfl, by rw [← ints_ok r e4]; exact .of h, List.length_pos_of_mem m1, fun k h1 h2 => ?_⟩
  have : k = m := Int.le_antisymm (h2 m m1) (m2 k h1)
  rw [this]
  exact Fin.int q R0
end
end L3

/-! L3V -/
namespace L3
open PySem PySem.Spec PyProof.Rows L2
theorem v_mulb {i j : Int} (h0 : 0 ≤ i) (h1 : i < 10 ^ 700) (h2 : 0 ≤ j) (h3 : j < 10 ^ 700) : mulD (.dat (.int i)) (.dat (.int j)) = some (.dat (.int (i * j))) := v_mul (by
  have a := log2_lt (n := 2400) h0 (Int.lt_trans h1 (by decide)) (by decide)
  have b := log2_lt (n := 2400) h2 (Int.lt_trans h3 (by decide)) (by decide)
  omega)
def sv3 (a b c : Int) : MO := .lst [.dat (.int a), .dat (.int b), .dat (.int c)]
def SV (r : Nat) (m : Nat) (S : Store) : Prop := ∃ a b c : Int, S[r]? = some (sv3 a b c) ∧ 0 ≤ a ∧ a < 10 ^ 660 ∧ 0 ≤ b ∧ b < 10 ^ 660 ∧ 0 ≤ c ∧ c ≤ m
theorem v_toInt (b : Bool) : ∃ k : Int, toIntD (.dat (.bool b)) = some (.dat (.int k)) ∧ 0 ≤ k ∧ k ≤ 1 := by
  cases b
  · exact ⟨0, rfl, by omega, by omega⟩
  · exact ⟨1, rfl, by omega, by omega⟩
theorem v_lenS {ns : List Int} : lenD (.scr ns) = some (.dat (.int ns.length)) := by simp [lenD, vw]
theorem v_ixS {S : Store} {ns : List Int} {i : Nat} (h : i < ns.length) : ixD S (.scr ns) (.dat (.int i)) = some (.dat (.int ns[i])) := by
  unfold ixD
  simp only [vw]
  rw [atI_nat (v := PyData.int ns[i]) (by simp [h])]
  rfl
theorem e_join {x : Str} {h : EF} {rho : Sl} {S : Store} : eJoin (eD (.str x)) h rho S = (h rho S).bind fun b S2 => match joinS x b with
  | some d => .ok d S2
  | none => .bad := id rfl
theorem join_cps : ∀ ys : List Str, (Str.join "" ys).cps.toList = (ys.map (·.cps.toList)).flatten
  | [] => rfl
  | [x] => by simp [Str.join]
  | x :: y :: r => by
    have := join_cps (y :: r)
    simp only [Str.join] at this ⊢
    show (x.cps ++ #[] ++ _).toList = _
    simp only [Array.toList_append, List.append_nil, this, List.map_cons, List.flatten_cons]
theorem asStrs_map : ∀ ys : List Str, asStrs (ys.map .str) = some ys
  | [] => rfl
  | x :: r => by simp only [List.map_cons, asStrs, asStrs_map r, Option.map_some]
/-- 'abc'[..] -/
def abc (c : Nat) : Prop := 97 ≤ c ∧ c ≤ 99
theorem abc_at {v : Int} {S : Store} (h0 : 0 ≤ v) (h1 : v < 3) : ∃ c, abc c ∧ ixD S (.dat (.str "abc")) (.dat (.int v)) = some (.dat (.str ⟨#[c]⟩)) := by
  have : v = 0 ∨ v = 1 ∨ v = 2 := by omega
  rcases this with rfl | rfl | rfl
  · exact ⟨97, by unfold abc; omega, rfl⟩
  · exact ⟨98, by unfold abc; omega, rfl⟩
  · exact ⟨99, by unfold abc; omega, rfl⟩
theorem put_nm {i : Nat} {d : PyData} {rho : Sl} : put (.nm i) (.dat d) rho = some (rho.set i (some (.dat d))) := by simp only [put, s_dat, if_true]
theorem SV.mono {r m m' : Nat} {S : Store} (h : SV r m S) (l : m ≤ m') : SV r m' S := by
  obtain ⟨a, b, c, hs, ha, ha2, hb, hb2, hc, hc2⟩ := h
  exact ⟨a, b, c, hs, ha, ha2, hb, hb2, hc, by omega⟩
theorem v_adds {x y : Str} (h : x.length + y.length ≤ 1000) : addD (.dat (.str x)) (.dat (.str y)) = some (.dat (.str (x ++ y))) := by
  show okLen (x.length + y.length) (.str (x ++ y)) = _
  unfold okLen
  rw [if_pos (Nat.le_trans h (by decide))]
theorem v_ixl {S : Store} {ds : List PyData} {i : Nat} {d : PyData} (h : ds[i]? = some d) : ixD S (.dat (.list ds)) (.dat (.int (i : Nat))) = some (.dat d) := by
  show (atI ds (i : Nat)).map D.dat = _
  rw [atI_nat h]
  rfl
theorem v_ixt {S : Store} {ds : List PyData} {i : Nat} {d : PyData} (h : ds[i]? = some d) : ixD S (.dat (.tuple ds)) (.dat (.int (i : Nat))) = some (.dat d) := by
  show (atI ds (i : Nat)).map D.dat = _
  rw [atI_nat h]
  rfl
/-- one of four numbers -/
theorem pick4 {S : Store} {v : Int} {a b c d : Int} (h0 : 0 ≤ v) (h1 : v < 4) : ∃ w, (w = a ∨ w = b ∨ w = c ∨ w = d) ∧ ixD S (.dat (.list [.int a, .int b, .int c, .int d])) (.dat (.int v)) = some (.dat (.int w)) := by
  have : v = 0 ∨ v = 1 ∨ v = 2 ∨ v = 3 := by omega
  rcases this with rfl | rfl | rfl | rfl
  · exact ⟨a, by simp, rfl⟩
  · exact ⟨b, by simp, rfl⟩
  · exact ⟨c, by simp, rfl⟩
  · exact ⟨d, by simp, rfl⟩
theorem marks_at {S : Store} {j : Nat} (h : j < 12) : ixD S (.dat (.str "defghijklmno")) (.dat (.int (j : Nat))) = some (.dat (.str ⟨#[100 + j]⟩)) := by
  have : j = 0 ∨ j = 1 ∨ j = 2 ∨ j = 3 ∨ j = 4 ∨ j = 5 ∨ j = 6 ∨ j = 7 ∨ j = 8 ∨ j = 9 ∨ j = 10 ∨ j = 11 := by omega
  rcases this with rfl | rfl | rfl | rfl | rfl | rfl | rfl | rfl | rfl | rfl | rfl | rfl <;> rfl
/-- the k-th name drawn -/
def NameAt (k : Nat) (x : Str) : Prop := ∃ p q : List Nat, x.cps.toList = p ++ (100 + k) :: q ∧ p.length ≤ 3 ∧ q.length ≤ 4 ∧ (∀ c ∈ p, abc c) ∧ ∀ c ∈ q, abc c
theorem cps_app (x y : Str) : (x ++ y).cps.toList = x.cps.toList ++ y.cps.toList := by
  show (x.cps ++ y.cps).toList = _
  rw [Array.toList_append]
theorem len_app (x y : Str) : (x ++ y).length = x.length + y.length := by
  show (x.cps ++ y.cps).size = _
  rw [Array.size_append]
  rfl
theorem len_cps (x : Str) : x.cps.toList.length = x.length := Array.length_toList ..
def leS (x y : Str) : Bool := decide (x.cps.toList ≤ y.cps.toList)
theorem le0_str (x y : Str) : le0 (.str x) (.str y) = leS x y := congrFun (congrFun (PySem.W.dataLe_str (β := Str) id) x) y
theorem plain_strs : ∀ ys : List Str, PyData.plainAll (ys.map .str) = true
  | [] => rfl
  | x :: r => by simp only [List.map_cons, PyData.plainAll, PyData.plain, plain_strs r, Bool.and_self]
theorem depth_strs : ∀ ys : List Str, PyData.depthAll (ys.map .str) ≤ 60
  | [] => by simp [PyData.depthAll]
  | x :: r => by
    simp only [List.map_cons, PyData.depthAll, PyData.depth]
    have := depth_strs r
    omega
theorem sorted_strs (ys : List Str) : sortedD (.own (ys.map .str)) = some (.dat (.list ((ys.mergeSort leS).map .str))) := by
  have e1 : lis (.own (ys.map .str)) = some (ys.map .str) := rfl
  have al : alikeB (ys.map PyData.str) = true := by
    unfold alikeB
    simp [PySem.W.alike]
  have so : sortB (ys.map PyData.str) = true := by
    unfold sortB
    rw [Bool.or_eq_true]
    right
    simp
  unfold sortedD
  rw [e1]
  simp only [plain_strs, al, so, depth_strs, and_self, if_true]
  rw [List.map_mergeSort (r := leS) (s := le0) fun a _ b _ => (le0_str a b).symm]
def NameOk (x : Str) : Prop := 1 ≤ x.length ∧ x.length ≤ 8 ∧ ∀ c ∈ x.cps.toList, 97 ≤ c ∧ c ≤ 122
def ltS (x y : Str) : Prop := x.cps.toList < y.cps.toList
structure Names (n : Nat) (ls : List Str) : Prop where
  len : ls.length = n
  asc : ls.Pairwise ltS
  ok : ∀ x ∈ ls, NameOk x
theorem NameAt.ok {k : Nat} {x : Str} (hk : k < 12) (h : NameAt k x) : NameOk x := by
  obtain ⟨p, q, e, hp, hq, ap, aq⟩ := h
  have hl := len_cps x
  rw [e, List.length_append, List.length_cons] at hl
  refine ⟨by omega, by omega, fun c hc => ?_⟩
  rw [e] at hc
  rcases List.mem_append.mp hc with hc | hc
  · have := ap c hc; unfold abc at this; omega
  · rcases List.mem_cons.mp hc with hc | hc
    · omega
    · have := aq c hc; unfold abc at this; omega
theorem NameAt.inj {j k : Nat} {x : Str} (hj : NameAt j x) (hk : NameAt k x) : j = k := by
  obtain ⟨p, q, e, _, _, ap, aq⟩ := hj
  obtain ⟨p', q', e', _, _, ap', aq'⟩ := hk
  have hm : 100 + j ∈ x.cps.toList := by rw [e]; simp
  rw [e'] at hm
  rcases List.mem_append.mp hm with hm | hm
  · have := ap' _ hm; unfold abc at this; omega
  · rcases List.mem_cons.mp hm with hm | hm
    · omega
    · have := aq' _ hm; unfold abc at this; omega
theorem sort_names {ys : List Str} {n : Nat} (hn : n ≤ 12) (hl : ys.length = n) (h : ∀ k x, ys[k]? = some x → NameAt k x) : Names n (ys.mergeSort leS) where
  len := by rw [List.length_mergeSort, hl]
  asc := by
    have nd : ys.Nodup := List.nodup_iff_pairwise_ne.mpr (List.pairwise_iff_getElem.mpr fun i j hi hj hij e => by
      have h1 := h i _ (List.getElem?_eq_getElem hi)
      have h2 := h j _ (List.getElem?_eq_getElem hj)
      rw [e] at h1
      have := h1.inj h2
      omega)
    have nd2 : (ys.mergeSort leS).Nodup := (List.mergeSort_perm ys leS).nodup_iff.mpr nd
    have so := List.pairwise_mergeSort (le := leS) (fun a b c h1 h2 => by
      unfold leS at *
      exact decide_eq_true (List.le_trans (of_decide_eq_true h1) (of_decide_eq_true h2))) (fun a b => by
      unfold leS
      rw [Bool.or_eq_true, decide_eq_true_eq, decide_eq_true_eq]
      exact List.le_total _ _) ys
    have both := List.Pairwise.and so (List.nodup_iff_pairwise_ne.mp nd2)
    refine both.imp fun {a b} ⟨h1, h2⟩ => ?_
    have h1 : a.cps.toList ≤ b.cps.toList := of_decide_eq_true h1
    rcases Classical.em (a.cps.toList < b.cps.toList) with h | h
    · exact h
    · exact (h2 (PySem.W.str_of_cps (List.le_antisymm h1 (List.not_lt.mp h)))).elim
  ok := fun x hx => by
    have hx := (List.mergeSort_perm ys leS).mem_iff.mp hx
    obtain ⟨k, hk, e⟩ := List.getElem_of_mem hx
    exact (h k x (by rw [List.getElem?_eq_getElem hk, e])).ok (by omega)
theorem v_lenT {ds : List PyData} : lenD (.dat (.tuple ds)) = some (.dat (.int ds.length)) := by simp [lenD, vw]
theorem tup_of (ds : List PyData) : tupD (.dat (.list ds)) = some (.dat (.tuple ds)) := rfl
def tupS (ls : List Str) : PyData := .tuple (ls.map .str)
abbrev Tgt := Nat ⊕ Str
def encG : Tgt → PyData
  | .inl n => .int n
  | .inr x => .str x
abbrev Rule := Nat × Str × Tgt × List Str
def encR (r : Rule) : PyData := .tuple [.int r.1, .str r.2.1, encG r.2.2.1, tupS r.2.2.2]
def encE (e : Str × Nat) : PyData := .tuple [.str e.1, .int e.2]
structure Md where
  labels : List Str
  size : Nat
  entries : List (Str × Nat)
  exits : List Str
  rules : List Rule
def encM (m : Md) : PyData := .tuple [tupS m.labels, .int m.size, .tuple (m.entries.map encE), tupS m.exits, .tuple (m.rules.map encR)]
def headLt (a b : Rule) : Prop := a.1 < b.1 ∨ (a.1 = b.1 ∧ ltS a.2.1 b.2.1)
structure Fits (labels : List Str) (size : Nat) (exits : List Str) (r : Rule) : Prop where
  state : r.1 < size
  top : r.2.1 = "" ∨ r.2.1 ∈ labels
  tgt : match r.2.2.1 with
    | .inl n => n < size
    | .inr x => x ∈ exits
  push : ∀ x ∈ r.2.2.2, x ∈ labels
  few : r.2.2.2.length ≤ 20
structure Valid (m : Md) : Prop where
  labels : Names m.labels.length m.labels
  some_ : 1 ≤ m.labels.length
  most_ : m.labels.length ≤ 12
  size1 : 1 ≤ m.size
  size2 : m.size ≤ 100
  entries : Names m.entries.length (m.entries.map (·.1))
  doors : m.entries.length ≤ 12
  at_ : ∀ e ∈ m.entries, e.2 < m.size
  exits : Names m.exits.length m.exits
  outs : m.exits.length ≤ 12
  rules : m.rules.Pairwise headLt
  fits : ∀ r ∈ m.rules, Fits m.labels m.size m.exits r
theorem v_addt {xs ys : List PyData} (h : xs.length + ys.length ≤ 10000) : addD (.dat (.tuple xs)) (.dat (.tuple ys)) = some (.dat (.tuple (xs ++ ys))) := by
  show okLen (xs.length + ys.length) (.tuple (xs ++ ys)) = _
  unfold okLen
  rw [if_pos (Nat.le_trans h (by decide))]
theorem tops_asc {n : Nat} {ls : List Str} (h : Names n ls) : (("" : Str) :: ls).Pairwise ltS := by
  refine List.pairwise_cons.mpr ⟨fun x hx => ?_, h.asc⟩
  have := (h.ok x hx).1
  rw [← len_cps] at this
  unfold ltS
  show ([] : List Nat) < x.cps.toList
  cases e : x.cps.toList with
  | nil => rw [e] at this; simp at this
  | cons a l => exact List.nil_lt_cons a l
/-- the rules so far: all heads lie below (i, j-th top) -/
structure Below (labels : List Str) (size : Nat) (exits : List Str) (i j : Nat) (rs : List Rule) : Prop where
  asc : rs.Pairwise headLt
  fits : ∀ r ∈ rs, Fits labels size exits r
  low : ∀ r ∈ rs, r.1 < i ∨ (r.1 = i ∧ ∃ k, k < j ∧ (("" : Str) :: labels)[k]? = some r.2.1)
theorem Below.add {labels exits : List Str} {size i j n : Nat} {rs : List Rule} (h : Below labels size exits i j rs) (hl : Names n labels) (hi : i < size) {t : Str} (ht : (("" : Str) :: labels)[j]? = some t) {g : Tgt} {p : List Str}
    (hg : match g with
    | .inl n => n < size
    | .inr x => x ∈ exits) (hp : ∀ x ∈ p, x ∈ labels) (hf : p.length ≤ 20) : Below labels size exits i (j + 1) (rs ++ [(i, t, g, p)]) where
  asc := by
    refine List.pairwise_append.mpr ⟨h.asc, List.pairwise_singleton _ _, fun a ha b hb => ?_⟩
    rw [List.mem_singleton.mp hb]
    rcases h.low a ha with q | ⟨e, k, hk, ek⟩
    · exact .inl q
    · refine .inr ⟨e, ?_⟩
      obtain ⟨h1, e1⟩ := List.getElem?_eq_some_iff.mp ek
      obtain ⟨h2, e2⟩ := List.getElem?_eq_some_iff.mp ht
      have := List.pairwise_iff_getElem.mp (tops_asc hl) k j h1 h2 hk
      rw [e1, e2] at this
      exact this
  fits := fun r hr => by
    rcases List.mem_append.mp hr with hr | hr
    · exact h.fits r hr
    · rw [List.mem_singleton.mp hr]
      refine ⟨hi, ?_, hg, hp, hf⟩
      have := List.mem_of_getElem? ht
      rcases List.mem_cons.mp this with e | e
      · exact .inl e
      · exact .inr e
  low := fun r hr => by
    rcases List.mem_append.mp hr with hr | hr
    · rcases h.low r hr with q | ⟨e, k, hk, ek⟩
      · exact .inl q
      · exact .inr ⟨e, k, by omega, ek⟩
    · rw [List.mem_singleton.mp hr]
      exact .inr ⟨rfl, j, by omega, ht⟩
theorem Below.skip {labels exits : List Str} {size i j : Nat} {rs : List Rule} (h : Below labels size exits i j rs) : Below labels size exits i (j + 1) rs :=
  ⟨h.asc, h.fits, fun r hr => (h.low r hr).imp id fun ⟨e, k, hk, ek⟩ => ⟨e, k, by omega, ek⟩⟩
theorem Below.next {labels exits : List Str} {size i j : Nat} {rs : List Rule} (h : Below labels size exits i j rs) : Below labels size exits (i + 1) 0 rs :=
  ⟨h.asc, h.fits, fun r hr => .inl ((h.low r hr).elim (fun q => by omega) fun ⟨e, _⟩ => by omega)⟩
theorem tops_ok {ls : List Str} {rho : Sl} {S : Store} (h : rho[1]? = some (some (.dat (tupS ls)))) (hl : ls.length ≤ 100) : iSeq (eBin addD (eTup (aCons (eD (.str "")) aNil)) (eVar 1)) rho S = .ok ((("" : Str) :: ls).map .str) S := by
  have ea : addD (.dat (.tuple [.str ""])) (.dat (tupS ls)) = some (.dat (.tuple ((("" : Str) :: ls).map .str))) := v_addt (by rw [List.length_map]; show 1 + ls.length ≤ 10000; omega)
  simp only [e_bind_ok, e_stm_ok, e_then_nx, e_then_rt, e_then_bk, e_then_ct, e_optR, e_optB, e_optV, e_optT, e_seq, e_pass, e_asg, e_put, e_ret, e_if, e_var, e_d, e_bin, e_un, e_ix, e_tOf, e_tOfB, e_and, e_or, e_tnot, e_vand, e_vor, e_vnot, e_vif, e_set, e_par2, e_park2, e_park3, e_retref, e_nlst, e_nil, e_cons, e_cb, e_call, e_isi, e_tup, e_lst, e_dats_nil, e_dats_cons, e_for, e_rng, e_sqi, e_sti, seqO_t, strO_s, e_new, e_eOfN, e_sl, e_onone, e_osome, s_dat, s_ref, s_scr, s_nil, s_cons, e_fn, e_to_rt, e_to_nx, e_o1, Option.map_some, List.getElem?_cons_zero, List.getElem?_cons_succ, List.map_cons, List.map_nil, List.cons_append, List.nil_append, List.replicate, List.set_cons_zero, List.set_cons_succ, List.length_cons, List.length_nil, if_true, v_lt, v_gt, v_le, v_ge, v_eq, v_ne, v_add, v_sub, dB, decide_eq_true_eq, Bool.and_self, Bool.false_eq_true, if_false, Nat.reduceAdd, Nat.reduceEqDiff, and_self, true_and, decide_true, decide_false, Bool.not_true, Bool.not_false, h, ea, show 1 ≤ sizeLine by decide]
end L3

/-! L3M -/
namespace L3
open PySem PySem.Spec PyProof.Rows L2

/-! ### more of the mirror functions, evaluated -/
section
variable {S : Store} {rho : Sl} {f h k : EF} {o o' : O2}
theorem e_chain : eChain o o' f h k rho S = (f rho S).bind fun a S1 => (h rho S1).bind fun b S2 => optV ((o a b).bind dB) fun c => if c = true then (k rho S2).bind fun c S3 => optR (o' b c) S3 else .ok (.dat (.bool false)) S2 := by
  unfold eChain
  congr 1
  funext a S1
  congr 1
  funext b S2
  cases o a b with
  | none => rfl
  | some d => cases d with
    | dat d => cases d with
      | bool c => cases c <;> rfl
      | _ => rfl
    | _ => rfl
theorem e_vorT : eOrT f h rho S = (f rho S).bind fun a S1 => optV (tru a) fun b => if b = true then .ok a S1 else h rho S1 := by
  unfold eOrT
  congr 1
  funext a S1
  cases tru a with
  | none => rfl
  | some b => cases b <;> rfl
theorem e_vandT : eAndT f h rho S = (f rho S).bind fun a S1 => optV (tru a) fun b => if b = true then h rho S1 else .ok a S1 := by
  unfold eAndT
  congr 1
  funext a S1
  cases tru a with
  | none => rfl
  | some b => cases b <;> rfl
theorem e_vnotT : eNotT f rho S = (f rho S).bind fun a S1 => optV (tru a) fun b => .ok (.dat (.bool !b)) S1 := id rfl
theorem e_tyis {c : Bool → Bool} {T : String} : eTyIs c T f rho S = (f rho S).bind fun a S1 => match tyD a with
  | some t => .ok (.dat (.bool (c (t == T)))) S1
  | none => .bad := id rfl
def m0K (g : Str → PyData) (a : D) (S : Store) : R D := match a with
  | .dat (.str x) => .ok (.dat (g x)) S
  | _ => .bad
theorem e_m0 {g : Str → PyData} : eM0 g f rho S = (f rho S).bind fun a S1 => m0K g a S1 := id rfl
theorem m0K_s {g : Str → PyData} {x : Str} : m0K g (.dat (.str x)) S = .ok (.dat (g x)) S := id rfl
def joinK (a : D) (h : R D) : R D := match a with
  | .dat (.str x) => h.bind fun b S2 => optR (joinS x b) S2
  | _ => .bad
theorem e_join2 : eJoin f h rho S = (f rho S).bind fun a S1 => joinK a (h rho S1) := by
  unfold eJoin joinK
  congr 1
theorem joinK_s {x : Str} {r : R D} : joinK (.dat (.str x)) r = r.bind fun b S2 => optR (joinS x b) S2 := id rfl
theorem e_setO {io : Nat} {fi fe : EF} {ds : List PyData} (e : rho[io]? = some (some (.own ds))) : sSetO io fi fe rho S = (fe rho S).stm rho fun d S1 => (fi rho S1).stm rho fun k S2 => setO io rho ds d k S2 := by
  unfold sSetO; simp only [e]
theorem tru_bool {b : Bool} : tru (.dat (.bool b)) = some b := id rfl
theorem tru_tup {ds : List PyData} : tru (.dat (.tuple ds)) = some (!ds.isEmpty) := id rfl
theorem tru_lst {ds : List PyData} : tru (.dat (.list ds)) = some (!ds.isEmpty) := id rfl
theorem tru_none : tru (.dat .none) = some false := id rfl
theorem tru_int {i : Int} : tru (.dat (.int i)) = some (i != 0) := id rfl
theorem dB_bool {b : Bool} : dB (.dat (.bool b)) = some b := id rfl
theorem e_expr : sExpr f rho S = (f rho S).stm rho fun _ S1 => .nx rho S1 := id rfl
theorem e_raise_bad : sNever rho S = .bad := id rfl
theorem e_nrep : nRep f h rho S = (f rho S).bind fun a S1 => (h rho S1).bind fun b S2 => repK a b S2 := id rfl
end
/-! ### what a value is -/
def tyP : PyData → String
  | .none => "NoneType"
  | .bool _ => "bool"
  | .int _ => "int"
  | .str _ => "str"
  | .list _ => "list"
  | .tuple _ => "tuple"
  | .dict _ => "dict"
theorem tyD_dat {v : PyData} : tyD (.dat v) = some (tyP v) := by cases v <;> rfl
def isTup : PyData → Bool
  | .tuple _ => true
  | _ => false
def isStr : PyData → Bool
  | .str _ => true
  | _ => false
def isInt : PyData → Bool
  | .int _ => true
  | _ => false
def isBol : PyData → Bool
  | .bool _ => true
  | _ => false
theorem isa_tuple {v : PyData} : isa (tyP v) "tuple" = isTup v := by cases v <;> rfl
theorem isa_str {v : PyData} : isa (tyP v) "str" = isStr v := by cases v <;> rfl
theorem isa_int {v : PyData} : isa (tyP v) "int" = (isInt v || isBol v) := by cases v <;> rfl
theorem isa_bool {v : PyData} : isa (tyP v) "bool" = isBol v := by cases v <;> rfl
theorem ty_int {v : PyData} : (tyP v == "int") = isInt v := by cases v <;> rfl
theorem isTup_eq {v : PyData} (h : isTup v = true) : ∃ ds, v = .tuple ds := by
  cases v with
  | tuple ds => exact ⟨ds, rfl⟩
  | _ => cases h
theorem isStr_eq {v : PyData} (h : isStr v = true) : ∃ x, v = .str x := by
  cases v with
  | str ds => exact ⟨ds, rfl⟩
  | _ => cases h
theorem isInt_eq {v : PyData} (h : isInt v = true) : ∃ x, v = .int x := by
  cases v with
  | int ds => exact ⟨ds, rfl⟩
  | _ => cases h
theorem isTup_none : isTup (.none) = false := id rfl
theorem isTup_bool {b : Bool} : isTup (.bool b) = false := id rfl
theorem isTup_int {i : Int} : isTup (.int i) = false := id rfl
theorem isTup_str {x : Str} : isTup (.str x) = false := id rfl
theorem isTup_list {ds : List PyData} : isTup (.list ds) = false := id rfl
theorem isTup_tuple {ds : List PyData} : isTup (.tuple ds) = true := id rfl
theorem isTup_dict {kv : List (PyData × PyData)} : isTup (.dict kv) = false := id rfl
theorem isStr_none : isStr (.none) = false := id rfl
theorem isStr_bool {b : Bool} : isStr (.bool b) = false := id rfl
theorem isStr_int {i : Int} : isStr (.int i) = false := id rfl
theorem isStr_str {x : Str} : isStr (.str x) = true := id rfl
theorem isStr_list {ds : List PyData} : isStr (.list ds) = false := id rfl
theorem isStr_tuple {ds : List PyData} : isStr (.tuple ds) = false := id rfl
theorem isStr_dict {kv : List (PyData × PyData)} : isStr (.dict kv) = false := id rfl
theorem isInt_none : isInt (.none) = false := id rfl
theorem isInt_bool {b : Bool} : isInt (.bool b) = false := id rfl
theorem isInt_int {i : Int} : isInt (.int i) = true := id rfl
theorem isInt_str {x : Str} : isInt (.str x) = false := id rfl
theorem isInt_list {ds : List PyData} : isInt (.list ds) = false := id rfl
theorem isInt_tuple {ds : List PyData} : isInt (.tuple ds) = false := id rfl
theorem isInt_dict {kv : List (PyData × PyData)} : isInt (.dict kv) = false := id rfl
theorem isBol_none : isBol (.none) = false := id rfl
theorem isBol_bool {b : Bool} : isBol (.bool b) = true := id rfl
theorem isBol_int {i : Int} : isBol (.int i) = false := id rfl
theorem isBol_str {x : Str} : isBol (.str x) = false := id rfl
theorem isBol_list {ds : List PyData} : isBol (.list ds) = false := id rfl
theorem isBol_tuple {ds : List PyData} : isBol (.tuple ds) = false := id rfl
theorem isBol_dict {kv : List (PyData × PyData)} : isBol (.dict kv) = false := id rfl
/-! ### values -/
theorem v_lts (x y : Str) : ltD (.dat (.str x)) (.dat (.str y)) = some (.dat (.bool (decide (x.cps.toList < y.cps.toList)))) := by
  simp [ltD, ord, two, vw, PyData.plain, PyData.depth, PySem.W.alike, nnone, bD, PySem.W.dataLt_str]
theorem v_les (x y : Str) : leD (.dat (.str x)) (.dat (.str y)) = some (.dat (.bool (!decide (y.cps.toList < x.cps.toList)))) := by
  simp [leD, ord, two, vw, PyData.plain, PyData.depth, PySem.W.alike, nnone, bD, PySem.W.dataLt_str]
theorem v_lenT2 {ds : List PyData} : lenD (.dat (.tuple ds)) = some (.dat (.int ds.length)) := v_lenT
theorem v_lens {x : Str} (h : x.length ≤ sizeLine) : lenD (.dat (.str x)) = some (.dat (.int x.length)) := by simp [lenD, vw, h]
/-! ### the values of the document -/
def letterB (c : Nat) : Bool := decide (97 ≤ c) && decide (c ≤ 122)
def wholeB (v : PyData) (lo hi : Int) : Bool := match v with
  | .int i => decide (lo ≤ i) && decide (i ≤ hi)
  | _ => false
def okLen8 (x : Str) : Bool := decide (1 ≤ x.length) && decide (x.length ≤ 8)
def nmLen (asc : Bool) : Str → List PyData → Bool
  | _, [] => true
  | last, .str x :: r => okLen8 x && (!asc || decide (last.cps.toList < x.cps.toList)) && nmLen asc x r
  | _, _ :: _ => false
def lettersB : PyData → Bool
  | .str x => x.cps.toList.all letterB
  | _ => false
def namesB (asc : Bool) (v : PyData) : Bool := match v with
  | .tuple ds => nmLen asc "" ds && ds.all lettersB
  | _ => false
/-! ### loops that look for a fault -/
def foldO {α : Type} (step : α → PyData → Option α) : α → List PyData → Option α
  | a, [] => some a
  | a, d :: ds => match step a d with
    | some a' => foldO step a' ds
    | none => none
theorem forL_chk {α : Type} {t : Tg} {body : SF} {S : Store} {r : D} (Inv : α → Sl → Prop) (step : α → PyData → Option α) : ∀ (ds : List PyData) (a : α) (rho : Sl), Inv a rho →
    (∀ a d rho, d ∈ ds → Inv a rho → ∃ rho1, put t (.dat d) rho = some rho1 ∧ ((∃ a' rho2, step a d = some a' ∧ body rho1 S = .nx rho2 S ∧ Inv a' rho2) ∨ (step a d = none ∧ body rho1 S = .rt r S))) →
    (∃ a' rho', foldO step a ds = some a' ∧ forL t body ds rho S = .nx rho' S ∧ Inv a' rho') ∨ (foldO step a ds = none ∧ forL t body ds rho S = .rt r S)
  | [], a, rho, h, _ => .inl ⟨a, rho, rfl, rfl, h⟩
  | d :: ds, a, rho, h, k => by
    obtain ⟨rho1, e1, h2⟩ := k a d rho (List.mem_cons_self ..) h
    rcases h2 with ⟨a', rho2, e2, e3, h3⟩ | ⟨e2, e3⟩
    · have ih := forL_chk Inv step ds a' rho2 h3 fun a d rho m => k a d rho (List.mem_cons_of_mem _ m)
      simp only [foldO, forL, e1, e2, e3]
      exact ih
    · refine .inr ?_
      simp only [foldO, forL, e1, e2, e3, and_self]
def nmStep (asc : Bool) (last : Str) (d : PyData) : Option Str := match d with
  | .str x => if (okLen8 x && (!asc || decide (last.cps.toList < x.cps.toList))) = true then some x else none
  | _ => none
theorem nmLen_fold {asc : Bool} : ∀ (ds : List PyData) (last : Str), nmLen asc last ds = (foldO (nmStep asc) last ds).isSome
  | [], _ => rfl
  | d :: ds, last => by
    cases d with
    | str x =>
      simp only [nmLen, foldO, nmStep]
      by_cases h : (okLen8 x && (!asc || decide (last.cps.toList < x.cps.toList))) = true
      · rw [h, if_pos rfl, Bool.true_and]
        exact nmLen_fold ds x
      · rw [Bool.not_eq_true] at h
        rw [h]
        rfl
    | _ => rfl
/-! ### small data -/
mutual
def Sm : PyData → Prop
  | .str x => x.length ≤ 100000
  | .list ds => ds.length ≤ 100000 ∧ SmL ds
  | .tuple ds => ds.length ≤ 100000 ∧ SmL ds
  | .dict kvs => kvs = []
  | _ => True
def SmL : List PyData → Prop
  | [] => True
  | d :: r => Sm d ∧ SmL r
end
theorem SmL.mem : ∀ {ds : List PyData} {d : PyData}, SmL ds → d ∈ ds → Sm d
  | e :: ds, d, h, m => by
    simp only [SmL] at h
    rcases List.mem_cons.mp m with rfl | m
    · exact h.1
    · exact SmL.mem h.2 m
theorem SmL.of : ∀ {ds : List PyData}, (∀ d ∈ ds, Sm d) → SmL ds
  | [], _ => by simp only [SmL]
  | d :: ds, h => by
    simp only [SmL]
    exact ⟨h d (List.mem_cons_self ..), SmL.of fun e m => h e (List.mem_cons_of_mem _ m)⟩
theorem Sm.tup {ds : List PyData} (h : Sm (.tuple ds)) : ds.length ≤ 100000 ∧ ∀ d ∈ ds, Sm d := by
  simp only [Sm] at h
  exact ⟨h.1, fun d m => h.2.mem m⟩
theorem Sm.of_tup {ds : List PyData} (h : ds.length ≤ 100000) (k : ∀ d ∈ ds, Sm d) : Sm (.tuple ds) := by
  simp only [Sm]
  exact ⟨h, SmL.of k⟩
theorem line_ge {n : Nat} (h : n ≤ 10000000) : n ≤ sizeLine := Nat.le_trans h (by decide)
theorem Sm.str {x : Str} (h : Sm (.str x)) : x.length ≤ sizeLine := by
  simp only [Sm] at h
  exact line_ge (by omega)
/-! ### texts of small letters -/
theorem ascii_letters : ∀ c, c < 128 → (Unicode.isAlpha c && !(Unicode.isUpper c || Unicode.isTitle c)) = letterB c := by decide +kernel
theorem lower_letters : ∀ c, c < 128 → letterB c = true → Unicode.isLower c = true ∧ Unicode.isAlpha c = true ∧ (Unicode.isUpper c || Unicode.isTitle c) = false := by decide +kernel
theorem txt_letters {x : Str} (h : 0 < x.length) : (Txt.isascii x && (Txt.isalpha x && Txt.islower x)) = x.cps.toList.all letterB := by
  have e1 : Txt.isascii x = x.cps.toList.all (· < 128) := by unfold Txt.isascii; rw [Array.all_toList]
  have e2 : Txt.isalpha x = x.cps.toList.all Unicode.isAlpha := by unfold Txt.isalpha; rw [Array.all_toList, decide_eq_true h, Bool.true_and]
  have e3 : Txt.islower x = (x.cps.toList.any Unicode.isLower && !x.cps.toList.any fun c => Unicode.isUpper c || Unicode.isTitle c) := by unfold Txt.islower; rw [Array.any_toList, Array.any_toList]
  have hl : x.cps.toList ≠ [] := fun e => by
    have := len_cps x
    rw [e] at this
    simp at this
    omega
  rw [e1, e2, e3]
  generalize x.cps.toList = l at hl
  cases hb : l.all letterB with
  | true =>
    rw [List.all_eq_true] at hb
    have lt : ∀ c ∈ l, c < 128 := fun c m => by
      have := hb c m
      simp only [letterB, Bool.and_eq_true, decide_eq_true_eq] at this
      omega
    have a1 : l.all (· < 128) = true := List.all_eq_true.mpr fun c m => decide_eq_true (lt c m)
    have a2 : l.all Unicode.isAlpha = true := List.all_eq_true.mpr fun c m => (lower_letters c (lt c m) (hb c m)).2.1
    have a3 : l.any Unicode.isLower = true := by
      cases l with
      | nil => exact (hl rfl).elim
      | cons c l => rw [List.any_cons, (lower_letters c (lt c (List.mem_cons_self ..)) (hb c (List.mem_cons_self ..))).1, Bool.true_or]
    have a4 : (l.any fun c => Unicode.isUpper c || Unicode.isTitle c) = false := by
      rw [Bool.eq_false_iff]
      intro e
      obtain ⟨c, m, e⟩ := List.any_eq_true.mp e
      rw [(lower_letters c (lt c m) (hb c m)).2.2] at e
      cases e
    rw [a1, a2, a3, a4]
    rfl
  | false =>
    rw [Bool.eq_false_iff]
    intro e
    simp only [Bool.and_eq_true, Bool.not_eq_true'] at e
    obtain ⟨a1, a2, a3, a4⟩ := e
    rw [Bool.eq_false_iff] at hb
    refine hb (List.all_eq_true.mpr fun c m => ?_)
    have h1 := of_decide_eq_true (List.all_eq_true.mp a1 c m)
    rw [← ascii_letters c h1, List.all_eq_true.mp a2 c m, Bool.true_and, Bool.not_eq_true', ← Bool.not_eq_true]
    intro z
    rw [Bool.eq_false_iff] at a4
    exact a4 (List.any_eq_true.mpr ⟨c, m, z⟩)
theorem nmLen_strs {asc : Bool} : ∀ {ds : List PyData} {last : Str}, nmLen asc last ds = true → ∃ xs : List Str, ds = xs.map .str ∧ ∀ x ∈ xs, 1 ≤ x.length ∧ x.length ≤ 8
  | [], _, _ => ⟨[], rfl, by simp⟩
  | d :: ds, last, h => by
    cases d with
    | str x =>
      simp only [nmLen, Bool.and_eq_true, okLen8, decide_eq_true_eq] at h
      obtain ⟨xs, rfl, hx⟩ := nmLen_strs h.2
      exact ⟨x :: xs, rfl, fun y m => by
        rcases List.mem_cons.mp m with rfl | m
        · exact h.1.1
        · exact hx y m⟩
    | _ => cases h
theorem sum_le_mul {xs : List Str} {k : Nat} (h : ∀ x ∈ xs, x.length ≤ k) : (xs.map (·.length)).sum ≤ xs.length * k := by
  induction xs with
  | nil => simp
  | cons x xs ih =>
    have h1 := h x (List.mem_cons_self ..)
    have h2 := ih fun y m => h y (List.mem_cons_of_mem _ m)
    rw [List.map_cons, List.sum_cons, List.length_cons, Nat.succ_mul]
    omega
theorem join_tup {xs : List Str} (h : (xs.map (·.length)).sum ≤ 16777216) : joinS "" (.dat (.tuple (xs.map .str))) = some (.dat (.str (Str.join "" xs))) := by
  have e1 : sqs (.dat (.tuple (xs.map PyData.str))) = some (xs.map PyData.str) := rfl
  unfold joinS
  rw [e1, Option.bind_some, asStrs_map, Option.bind_some, if_pos]
  show (xs.map (·.length)).sum + xs.length * 0 ≤ 16777216
  omega
theorem letters_flat : ∀ xs : List Str, (xs.map (·.cps.toList)).flatten.all letterB = (xs.map PyData.str).all lettersB
  | [] => rfl
  | x :: xs => by
    rw [List.map_cons, List.flatten_cons, List.all_append, List.map_cons, List.all_cons, letters_flat xs]
    rfl
/-! ### in a tuple of texts, in a dict of texts -/
def memS (v : PyData) (xs : List Str) : Bool := match v with
  | .str y => decide (y ∈ xs)
  | _ => false
theorem eqv_str {x : Str} {v : PyData} : PyData.eqv (.str x) v = memS v [x] := by
  cases v with
  | str y =>
    simp only [PyData.eqv, memS, List.mem_singleton]
    rw [Bool.eq_iff_iff, beq_iff_eq, decide_eq_true_eq]
    exact ⟨Eq.symm, Eq.symm⟩
  | _ => simp only [PyData.eqv, memS]
theorem any_strs {v : PyData} : ∀ xs : List Str, ((xs.map PyData.str).any fun z => PyData.eqv z v) = memS v xs
  | [] => by cases v <;> rfl
  | x :: xs => by
    rw [List.map_cons, List.any_cons, any_strs xs, eqv_str]
    cases v with
    | str y => simp only [memS, List.mem_singleton, List.mem_cons]; rw [Bool.eq_iff_iff]; simp
    | _ => rfl
theorem v_innT {k : Bool → Bool} {v : PyData} {xs : List Str} (hp : v.plain = true) : inn k (.dat v) (.dat (.tuple (xs.map .str))) = some (.dat (.bool (k (memS v xs)))) := by
  have hd : min (PyData.depthAll (xs.map .str)) v.depth ≤ 60 := Nat.le_trans (Nat.min_le_left _ _) (depth_strs xs)
  have e : inn k (.dat v) (.dat (.tuple (xs.map .str))) = if v.plain = true ∧ PyData.plainAll (xs.map PyData.str) = true ∧ min (PyData.depthAll (xs.map .str)) v.depth ≤ 60 then bD (k ((xs.map PyData.str).any fun z => PyData.eqv z v)) else none := by cases v <;> rfl
  rw [e, if_pos ⟨hp, plain_strs xs, hd⟩, any_strs]
  rfl
def Cont (c : PyData) (mem : Str → Bool) : Prop := ∀ (k : Bool → Bool) (x : Str), inA k (.dat (.str x)) (.dat c) = some (.dat (.bool (k (mem x))))
theorem cont_tup (xs : List Str) : Cont (.tuple (xs.map .str)) (fun x => decide (x ∈ xs)) := fun k x => by
  have e : inA k (.dat (.str x)) (.dat (.tuple (xs.map .str))) = inn k (.dat (.str x)) (.dat (.tuple (xs.map .str))) := by unfold inA; rfl
  rw [e, v_innT rfl]
  rfl
structure Kn (kvs : List (PyData × PyData)) (ms : List Str) : Prop where
  keys : ∀ p ∈ kvs, ∃ x, p.1 = .str x
  find : ∀ x, (kFind asKey kvs (.inr x)).isSome = decide (x ∈ ms)
theorem kfind_some {kvs : List (PyData × PyData)} {x : Str} : (kFind asKey kvs (.inr x)).isSome = kvs.any fun p => decide (asKey p.1 = some (.inr x)) := by
  unfold kFind
  rw [Option.isSome_map, List.isSome_find?]
theorem Kn.nil : Kn [] [] := ⟨by simp, fun x => by rw [kfind_some]; simp⟩
theorem Kn.put {kvs : List (PyData × PyData)} {ms : List Str} (h : Kn kvs ms) (x : Str) (d : PyData) : Kn (kPut asKey kvs (.str x) (.inr x) d) (ms ++ [x]) := by
  unfold kPut
  split
  · next e =>
    refine ⟨fun p m => ?_, fun y => ?_⟩
    · obtain ⟨q, mq, rfl⟩ := List.mem_map.mp m
      obtain ⟨z, hz⟩ := h.keys q mq
      split <;> exact ⟨z, hz⟩
    · have hx : x ∈ ms := by
        have := h.find x
        rw [kfind_some, e] at this
        exact of_decide_eq_true this.symm
      have e2 : ((kvs.map fun p => if asKey p.1 = some (.inr x) then (p.1, d) else p).any fun p => decide (asKey p.1 = some (.inr y))) = kvs.any fun p => decide (asKey p.1 = some (.inr y)) := by
        rw [List.any_map]
        congr 1
        funext p
        simp only [Function.comp_apply]
        split <;> rfl
      rw [kfind_some, e2, ← kfind_some, h.find y]
      congr 1
      simp only [List.mem_append, List.mem_singleton, eq_iff_iff]
      exact ⟨.inl, fun z => z.elim id fun e => e ▸ hx⟩
  · next e =>
    refine ⟨fun p m => ?_, fun y => ?_⟩
    · rcases List.mem_append.mp m with m | m
      · exact h.keys p m
      · rw [List.mem_singleton.mp m]; exact ⟨x, rfl⟩
    · rw [kfind_some, List.any_append, ← kfind_some, h.find y]
      simp only [List.any_cons, List.any_nil, Bool.or_false, asKey, Option.some.injEq, Sum.inr.injEq]
      rw [Bool.eq_iff_iff, Bool.or_eq_true, decide_eq_true_eq, decide_eq_true_eq, decide_eq_true_eq, List.mem_append, List.mem_singleton]
      exact ⟨fun z => z.imp id Eq.symm, fun z => z.imp id Eq.symm⟩
theorem cont_dict {kvs : List (PyData × PyData)} {ms : List Str} (h : Kn kvs ms) : Cont (.dict kvs) (fun x => decide (x ∈ ms)) := fun k x => by
  have hk : (kvs.all fun p => (asKey p.1).isSome) = true := List.all_eq_true.mpr fun p m => by
    obtain ⟨z, hz⟩ := h.keys p m
    rw [hz]
    rfl
  have e : dget kvs (.str x) = some (kFind asKey kvs (.inr x)) := by
    show (if (kvs.all fun p => (asKey p.1).isSome) = true then some (kFind asKey kvs (.inr x)) else none) = _
    rw [if_pos hk]
  unfold inA dinD
  simp only [e]
  rw [h.find x]
theorem kPut_len {kvs : List (PyData × PyData)} {k d : PyData} {q : Key} : (kPut asKey kvs k q d).length ≤ kvs.length + 1 := by
  unfold kPut
  split
  · rw [List.length_map]; omega
  · rw [List.length_append]; exact Nat.le_refl _
theorem dcL_known {i : Nat} {rw : Sl} {S : Store} {v : PyData} (hi : i < rw.length) : ∀ (xs : List Str) (acc : List (PyData × PyData)) (ms : List Str), acc.length + xs.length ≤ 1000000 → Kn acc ms →
    ∃ kvs, dcL asKey keyD (.nm i) tTrue (kPl (eVar i)) (eD v) rw (xs.map .str) acc S = .ok kvs S ∧ Kn kvs (ms ++ xs)
  | [], acc, ms, _, h => ⟨acc, rfl, by rw [List.append_nil]; exact h⟩
  | x :: xs, acc, ms, hl, h => by
    have e1 : kPl (eVar i) (rw.set i (some (.dat (.str x)))) S = .ok (.inr x) S := by
      unfold kPl
      rw [e_var, List.getElem?_set_self hi]
      rfl
    rw [List.length_cons] at hl
    have lt : acc.length < sizeLine := Nat.lt_of_lt_of_le (show acc.length < 1000001 by omega) (by decide)
    have e2 : dcL asKey keyD (.nm i) tTrue (kPl (eVar i)) (eD v) rw ((x :: xs).map .str) acc S = dcL asKey keyD (.nm i) tTrue (kPl (eVar i)) (eD v) rw (xs.map .str) (kPut asKey acc (.str x) (.inr x) v) S := by
      simp only [List.map_cons, dcL, put_nm, tTrue, e1, e_d, if_pos lt]
      rfl
    obtain ⟨kvs, e3, h3⟩ := dcL_known hi xs _ (ms ++ [x]) (by have := kPut_len (kvs := acc) (k := .str x) (d := v) (q := .inr x); omega) (h.put x v)
    rw [List.append_assoc] at h3
    exact ⟨kvs, by rw [e2, e3], h3⟩
/-- of a tuple that stands for texts -/
theorem eqvAll_strs : ∀ {ds : List PyData} {ws : List Str}, PyData.eqvAll ds (ws.map .str) = true → ds = ws.map .str
  | [], [], _ => rfl
  | [], _ :: _, h => by simp [PyData.eqvAll] at h
  | _ :: _, [], h => by simp [PyData.eqvAll] at h
  | d :: ds, w :: ws, h => by
    simp only [List.map_cons, PyData.eqvAll, Bool.and_eq_true] at h
    rw [List.map_cons, eqvAll_strs h.2]
    congr 1
    have h1 := h.1
    cases d with
    | str x => simp only [PyData.eqv, beq_iff_eq] at h1; rw [h1]
    | _ => simp [PyData.eqv] at h1
def strB (mem : Str → Bool) : PyData → Bool
  | .str x => mem x
  | _ => false
def wordB (mem : Str → Bool) (v : PyData) : Bool := match v with
  | .tuple ds => ds.all (strB mem)
  | _ => false
theorem foldO_all {p : PyData → Bool} : ∀ l : List PyData, (foldO (fun (_ : Unit) d => if p d = true then some () else none) () l).isSome = l.all p
  | [] => rfl
  | d :: l => by
    have ih := foldO_all (p := p) l
    simp only [foldO, List.all_cons]
    cases p d with
    | true => simpa using ih
    | false => rfl
theorem word_strs {mem : Str → Bool} {v : PyData} (h : wordB mem v = true) : ∃ ws : List Str, v = .tuple (ws.map .str) ∧ ∀ x ∈ ws, mem x = true := by
  cases v with
  | tuple ds =>
    simp only [wordB] at h
    have : ∃ ws : List Str, ds = ws.map .str ∧ ∀ x ∈ ws, mem x = true := by
      induction ds with
      | nil => exact ⟨[], rfl, by simp⟩
      | cons d ds ih =>
        rw [List.all_cons, Bool.and_eq_true] at h
        obtain ⟨ws, rfl, hw⟩ := ih h.2
        cases d with
        | str x => exact ⟨x :: ws, rfl, fun y m => by
            rcases List.mem_cons.mp m with rfl | m
            · exact h.1
            · exact hw y m⟩
        | _ => cases h.1
    obtain ⟨ws, rfl, hw⟩ := this
    exact ⟨ws, rfl, hw⟩
  | _ => cases h
theorem strs_word {mem : Str → Bool} {ws : List Str} (h : ∀ x ∈ ws, mem x = true) : wordB mem (.tuple (ws.map .str)) = true := by
  simp only [wordB, List.all_map, List.all_eq_true]
  exact fun x m => h x m
/-! ### modules -/
def lenB (v : PyData) (lo hi : Nat) : Bool := match v with
  | .tuple ds => decide (lo ≤ ds.length) && decide (ds.length ≤ hi)
  | _ => false
def labelsB (v : PyData) : Bool := namesB true v && lenB v 1 12
def exitsB (v : PyData) : Bool := namesB true v && lenB v 0 12
def entB (size : Int) (d : PyData) : Bool := match d with
  | .tuple [_, s] => wholeB s 0 (size - 1)
  | _ => false
def fstD : PyData → PyData
  | .tuple (a :: _) => a
  | d => d
def entriesB (size : Int) (asc : Bool) (v : PyData) : Bool := match v with
  | .tuple ds => ds.all (entB size) && namesB asc (.tuple (ds.map fstD))
  | _ => false
def tgtB (size : Int) (exits : List Str) (v : PyData) : Bool := match v with
  | .int i => decide (0 ≤ i) && decide (i < size)
  | v => memS v exits
def pushB (labels : List Str) (v : PyData) : Bool := lenB v 0 20 && wordB (fun x => decide (x ∈ labels)) v
def ruleStep (labels : List Str) (size : Int) (exits : List Str) (asc : Bool) (st : Int × Str) (d : PyData) : Option (Int × Str) := match d with
  | .tuple [.int q, .str x, tgt, push] => if (decide (0 ≤ q) && decide (q < size) && (decide (x = "") || decide (x ∈ labels)) && (!asc || decide (st.1 < q) || (decide (st.1 = q) && decide (st.2.cps.toList < x.cps.toList))) && tgtB size exits tgt && pushB labels push) = true then some (q, x) else none
  | _ => none
def rulesB (labels : List Str) (size : Int) (exits : List Str) (asc : Bool) (v : PyData) : Bool := match v with
  | .tuple ds => (foldO (ruleStep labels size exits asc) (-1, "") ds).isSome
  | _ => false
def strsOf : List PyData → List Str
  | .str x :: r => x :: strsOf r
  | _ :: r => strsOf r
  | [] => []
theorem strsOf_map : ∀ xs : List Str, strsOf (xs.map .str) = xs
  | [] => rfl
  | x :: xs => by rw [List.map_cons, strsOf, strsOf_map xs]
def itemsD : PyData → List PyData
  | .tuple ds => ds
  | _ => []
def isMod (v : PyData) : Bool := match v with
  | .tuple [l, .int s, e, x, r] => labelsB l && (decide (1 ≤ s) && decide (s ≤ 100)) && entriesB s true e && lenB e 0 12 && exitsB x && rulesB (strsOf (itemsD l)) s (strsOf (itemsD x)) true r
  | _ => false
/-- what the look at rules compares is free of dicts -/
def RPlain (v : PyData) : Prop := ∀ ds, v = .tuple ds → ∀ a b c p, PyData.tuple [a, b, c, p] ∈ ds → c.plain = true ∧ p.plain = true ∧ p.depth ≤ 1000
def MPlain (v : PyData) : Prop := ∀ l s e x r, v = .tuple [l, s, e, x, r] → RPlain r
theorem namesB_strs {asc : Bool} {v : PyData} (h : namesB asc v = true) : ∃ xs : List Str, v = .tuple (xs.map .str) ∧ ∀ x ∈ xs, 1 ≤ x.length ∧ x.length ≤ 8 := by
  cases v with
  | tuple ds =>
    simp only [namesB, Bool.and_eq_true] at h
    obtain ⟨xs, rfl, hx⟩ := nmLen_strs h.1
    exact ⟨xs, rfl, hx⟩
  | _ => cases h
theorem cut4 {a b c d e : PyData} : slD none (some 4) (.dat (.tuple [a, b, c, d, e])) = some (.dat (.tuple [a, b, c, d])) := rfl
section
variable {rho : Sl} {a b c d e : PyData} {i j k l m : Nat}
theorem put_t2 : put (.tup [.nm i, .nm j]) (.dat (.tuple [a, b])) rho = some ((rho.set i (some (.dat a))).set j (some (.dat b))) := by
  simp only [put, puts, s_dat, if_true, List.length_cons, List.length_nil, Option.bind_some]
theorem put_t3 : put (.tup [.nm i, .nm j, .nm k]) (.dat (.tuple [a, b, c])) rho = some (((rho.set i (some (.dat a))).set j (some (.dat b))).set k (some (.dat c))) := by
  simp only [put, puts, s_dat, if_true, List.length_cons, List.length_nil, Option.bind_some]
theorem put_t4 : put (.tup [.nm i, .nm j, .nm k, .nm l]) (.dat (.tuple [a, b, c, d])) rho = some ((((rho.set i (some (.dat a))).set j (some (.dat b))).set k (some (.dat c))).set l (some (.dat d))) := by
  simp only [put, puts, s_dat, if_true, List.length_cons, List.length_nil, Option.bind_some]
theorem put_t5 : put (.tup [.nm i, .nm j, .nm k, .nm l, .nm m]) (.dat (.tuple [a, b, c, d, e])) rho = some (((((rho.set i (some (.dat a))).set j (some (.dat b))).set k (some (.dat c))).set l (some (.dat d))).set m (some (.dat e))) := by
  simp only [put, puts, s_dat, if_true, List.length_cons, List.length_nil, Option.bind_some]
end
theorem v_neT {p q : PyData} (hp : p.plain = true) (hq : q.plain = true) (hd : min p.depth q.depth ≤ 60) : neD (.dat p) (.dat q) = some (.dat (.bool (!PyData.eqv p q))) := by
  have e : neD (.dat p) (.dat q) = if p.plain = true ∧ q.plain = true ∧ min p.depth q.depth ≤ 60 then bD (!PyData.eqv p q) else none := rfl
  rw [e, if_pos ⟨hp, hq, hd⟩]
  rfl
theorem v_eqT {p q : PyData} (hp : p.plain = true) (hq : q.plain = true) (hd : min p.depth q.depth ≤ 60) : eqD (.dat p) (.dat q) = some (.dat (.bool (PyData.eqv p q))) := by
  have e : eqD (.dat p) (.dat q) = if p.plain = true ∧ q.plain = true ∧ min p.depth q.depth ≤ 60 then bD (PyData.eqv p q) else none := rfl
  rw [e, if_pos ⟨hp, hq, hd⟩]
  rfl
theorem depth_strT (ws : List Str) : (PyData.tuple (ws.map .str)).depth ≤ 60 := by
  have : PyData.depthAll (ws.map PyData.str) = 0 := by
    induction ws with
    | nil => rfl
    | cons w ws ih => rw [List.map_cons, PyData.depthAll, ih]; rfl
  rw [PyData.depth, this]
  omega
theorem plain_strT (ws : List Str) : (PyData.tuple (ws.map .str)).plain = true := by rw [PyData.plain]; exact plain_strs ws
theorem v_nes (x y : Str) : neD (.dat (.str x)) (.dat (.str y)) = some (.dat (.bool (!decide (x = y)))) := by
  rw [v_neT rfl rfl (by simp [PyData.depth])]
  congr 3
theorem v_eqs (x y : Str) : eqD (.dat (.str x)) (.dat (.str y)) = some (.dat (.bool (decide (x = y)))) := by
  rw [v_eqT rfl rfl (by simp [PyData.depth])]
  congr 3
theorem v_ixo {S : Store} {ds : List PyData} {i : Nat} {d : PyData} (h : ds[i]? = some d) : ixD S (.own ds) (.dat (.int (i : Nat))) = some (.dat d) := by
  show (atI ds (i : Nat)).map D.dat = _
  rw [atI_nat h]
  rfl
theorem v_lenO {ds : List PyData} : lenD (.own ds) = some (.dat (.int ds.length)) := by simp [lenD, vw]
theorem ixN_nat {n i : Nat} (h : i < n) : ixN n (i : Int) = some i := by
  unfold ixN
  simp
  omega
/-- the words that were looked at -/
structure Seen (labels : List Str) (ws : List PyData) : Prop where
  len : ws.length = 21
  ok : ∀ k w, ws[k]? = some w → ∃ xs : List Str, w = .tuple (xs.map .str) ∧ (∀ x ∈ xs, x ∈ labels) ∧ xs.length ≤ k
def words0 : List PyData := List.replicate 21 (.tuple [])
theorem Seen.start (labels : List Str) : Seen labels words0 where
  len := List.length_replicate ..
  ok := fun k w h => by
    have := List.mem_of_getElem? (show (List.replicate 21 (PyData.tuple []))[k]? = some w from h)
    rw [(List.mem_replicate.mp this).2]
    exact ⟨[], rfl, by simp, Nat.zero_le _⟩
theorem Seen.set {labels : List Str} {ws : List PyData} (h : Seen labels ws) {xs : List Str} {k : Nat} (hk : xs.length = k) (hx : ∀ x ∈ xs, x ∈ labels) : Seen labels (ws.set k (.tuple (xs.map .str))) where
  len := by rw [List.length_set, h.len]
  ok := fun j w e => by
    rw [List.getElem?_set] at e
    split at e
    · next hj =>
      split at e
      · cases Option.some.inj e
        exact ⟨xs, rfl, hx, by omega⟩
      · cases e
    · exact h.ok j w e
/-! ### a valid module is a module -/
theorem names_namesB {n : Nat} {ls : List Str} (h : Names n ls) : namesB true (tupS ls) = true := by
  have gen : ∀ (ls : List Str) (last : Str), (∀ x ∈ ls, NameOk x) → (last :: ls).Pairwise ltS → nmLen true last (ls.map .str) = true ∧ (ls.map PyData.str).all lettersB = true := by
    intro ls
    induction ls with
    | nil => exact fun last _ _ => ⟨rfl, rfl⟩
    | cons x ls ih =>
      intro last ok pw
      obtain ⟨p1, p2⟩ := List.pairwise_cons.mp pw
      obtain ⟨i1, i2⟩ := ih x (fun y m => ok y (List.mem_cons_of_mem _ m)) p2
      obtain ⟨o1, o2, o3⟩ := ok x (List.mem_cons_self ..)
      have lt : last.cps.toList < x.cps.toList := p1 x (List.mem_cons_self ..)
      refine ⟨?_, ?_⟩
      · simp only [List.map_cons, nmLen, okLen8, i1, decide_eq_true o1, decide_eq_true o2, decide_eq_true lt, Bool.and_self, Bool.or_true]
      · simp only [List.map_cons, List.all_cons, i2, Bool.and_true, lettersB, List.all_eq_true]
        intro c m
        have := o3 c m
        simp only [letterB, Bool.and_eq_true, decide_eq_true_eq]
        exact this
  obtain ⟨g1, g2⟩ := gen ls "" h.ok (tops_asc h)
  simp only [tupS, namesB, g1, g2, Bool.and_self]
theorem valid_rules {labels exits : List Str} {size : Nat} : ∀ {rs : List Rule} {q : Int} {x : Str}, (∀ r ∈ rs, Fits labels size exits r) → (∀ r ∈ rs, q < r.1 ∨ (q = r.1 ∧ ltS x r.2.1)) → rs.Pairwise headLt → (foldO (ruleStep labels size exits true) (q, x) (rs.map encR)).isSome = true
  | [], q, x, _, _, _ => rfl
  | r :: rs, q, x, hf, hq, hp => by
    obtain ⟨p1, p2⟩ := List.pairwise_cons.mp hp
    obtain ⟨f1, f2, f3, f4, f5⟩ := hf r (List.mem_cons_self ..)
    have hq1 := hq r (List.mem_cons_self ..)
    obtain ⟨st, top, tgt, push⟩ := r
    have e : ruleStep labels size exits true (q, x) (encR (st, top, tgt, push)) = some ((st : Int), top) := by
      have a1 : decide ((0 : Int) ≤ (st : Int)) = true := decide_eq_true (by omega)
      have a2 : decide ((st : Int) < (size : Int)) = true := decide_eq_true (by have : st < size := f1; omega)
      have a3 : (decide (top = "") || decide (top ∈ labels)) = true := by
        rcases f2 with z | z
        · rw [decide_eq_true (show top = "" from z)]; rfl
        · rw [decide_eq_true (show top ∈ labels from z), Bool.or_true]
      have a4 : (!true || decide (q < (st : Int)) || (decide (q = (st : Int)) && decide (x.cps.toList < top.cps.toList))) = true := by
        rcases hq1 with z | ⟨z1, z2⟩
        · rw [decide_eq_true (show q < (st : Int) from z)]; rfl
        · rw [decide_eq_true (show q = (st : Int) from z1), decide_eq_true (show x.cps.toList < top.cps.toList from z2), Bool.and_self, Bool.or_true]
      have a5 : tgtB size exits (encG tgt) = true := by
        cases tgt with
        | inl n => simp only [encG, tgtB, Bool.and_eq_true, decide_eq_true_eq]; have : n < size := f3; omega
        | inr y => simp only [encG, tgtB, memS, decide_eq_true_eq]; exact f3
      have a6 : pushB labels (tupS push) = true := by
        have := strs_word (mem := fun y => decide (y ∈ labels)) fun y m => decide_eq_true (f4 y m)
        simp only [pushB, tupS, this, lenB, List.length_map, Bool.and_true, Bool.and_eq_true, decide_eq_true_eq]
        exact ⟨Nat.zero_le _, f5⟩
      simp only [encR, ruleStep, a1, a2, a3, a4, a5, a6, Bool.and_self, if_true]
    rw [List.map_cons, foldO, e]
    exact valid_rules (fun r m => hf r (List.mem_cons_of_mem _ m)) (fun r m => by
      rcases p1 r m with z | ⟨z1, z2⟩
      · exact .inl (by have : st < r.1 := z; omega)
      · exact .inr ⟨by have : st = r.1 := z1; omega, z2⟩) p2
theorem Valid.isMod {m : Md} (h : Valid m) : isMod (encM m) = true := by
  have e1 : labelsB (tupS m.labels) = true := by
    have h1 := h.some_
    have h2 := h.most_
    have nn := names_namesB h.labels
    unfold tupS at nn ⊢
    simp only [labelsB, nn, lenB, List.length_map, Bool.true_and, Bool.and_eq_true, decide_eq_true_eq]
    exact ⟨h1, h2⟩
  have e2 : (decide ((1 : Int) ≤ (m.size : Int)) && decide ((m.size : Int) ≤ 100)) = true := by
    have h1 := h.size1
    have h2 := h.size2
    simp only [Bool.and_eq_true, decide_eq_true_eq]
    omega
  have e3 : entriesB m.size true (.tuple (m.entries.map encE)) = true := by
    have a1 : (m.entries.map encE).all (entB m.size) = true := by
      rw [List.all_map, List.all_eq_true]
      intro e me
      have := h.at_ e me
      simp only [Function.comp_apply, encE, entB, wholeB, Bool.and_eq_true, decide_eq_true_eq]
      omega
    have a2 : (m.entries.map encE).map fstD = (m.entries.map (·.1)).map .str := by
      rw [List.map_map, List.map_map]
      rfl
    simp only [entriesB, a1, a2, Bool.true_and]
    exact names_namesB h.entries
  have e4 : lenB (.tuple (m.entries.map encE)) 0 12 = true := by
    have := h.doors
    simp only [lenB, List.length_map, Bool.and_eq_true, decide_eq_true_eq]
    exact ⟨Nat.zero_le _, this⟩
  have e5 : exitsB (tupS m.exits) = true := by
    have := h.outs
    have nn := names_namesB h.exits
    unfold tupS at nn ⊢
    simp only [exitsB, nn, lenB, List.length_map, Bool.true_and, Bool.and_eq_true, decide_eq_true_eq]
    exact ⟨Nat.zero_le _, this⟩
  have e6 : rulesB m.labels m.size m.exits true (.tuple (m.rules.map encR)) = true := by
    simp only [rulesB]
    exact valid_rules h.fits (fun r mr => .inl (by omega)) h.rules
  unfold tupS at e1 e5
  simp only [L3.isMod, encM, tupS, e1, e2, e3, e4, e5, itemsD, strsOf_map, Bool.true_and]
  exact e6
theorem sm_name {x : Str} (h : x.length ≤ 100000) : Sm (.str x) := by simp only [Sm]; exact h
theorem sm_tupS {ls : List Str} (h : ls.length ≤ 100000) (k : ∀ x ∈ ls, x.length ≤ 100000) : Sm (tupS ls) := Sm.of_tup (by rw [List.length_map]; exact h) fun d m => by
  obtain ⟨x, mx, rfl⟩ := List.mem_map.mp m
  exact sm_name (k x mx)
theorem Names.small {n : Nat} {ls : List Str} (h : Names n ls) : ∀ x ∈ ls, x.length ≤ 100000 := fun x m => by have := (h.ok x m).2.1; omega
theorem Valid.sm {m : Md} (h : Valid m) (hr : m.rules.length ≤ 100000) : Sm (encM m) := by
  have hl := h.labels.small
  have hx := h.exits.small
  refine Sm.of_tup (by simp) fun d md => ?_
  simp only [List.mem_cons, List.not_mem_nil, or_false] at md
  rcases md with rfl | rfl | rfl | rfl | rfl
  · exact sm_tupS (by have := h.most_; omega) hl
  · simp only [Sm]
  · refine Sm.of_tup (by rw [List.length_map]; have := h.doors; omega) fun d md => ?_
    obtain ⟨e, me, rfl⟩ := List.mem_map.mp md
    refine Sm.of_tup (by simp) fun d md => ?_
    simp only [List.mem_cons, List.not_mem_nil, or_false] at md
    rcases md with rfl | rfl
    · exact sm_name (h.entries.small _ (List.mem_map.mpr ⟨e, me, rfl⟩))
    · simp only [Sm]
  · exact sm_tupS (by have := h.outs; omega) hx
  · refine Sm.of_tup (by rw [List.length_map]; exact hr) fun d md => ?_
    obtain ⟨r, mr, rfl⟩ := List.mem_map.mp md
    obtain ⟨f1, f2, f3, f4, f5⟩ := h.fits r mr
    refine Sm.of_tup (by simp) fun d md => ?_
    simp only [List.mem_cons, List.not_mem_nil, or_false] at md
    rcases md with rfl | rfl | rfl | rfl
    · simp only [Sm]
    · refine sm_name ?_
      rcases f2 with z | z
      · rw [z]; exact Nat.zero_le _
      · exact hl _ z
    · cases e : r.2.2.1 with
      | inl n => simp only [encG, Sm]
      | inr y => rw [e] at f3; exact sm_name (hx _ f3)
    · exact sm_tupS (by omega) fun x mx => hl _ (f4 x mx)
theorem enc_plain (m : Md) : MPlain (encM m) := fun l s e x r h ds hr a b c p hm => by
  have e5 : r = .tuple (m.rules.map encR) := by
    simp only [encM, PyData.tuple.injEq, List.cons.injEq] at h
    exact h.2.2.2.2.1.symm
  rw [e5] at hr
  cases hr
  obtain ⟨rl, _, e⟩ := List.mem_map.mp hm
  simp only [encR, PyData.tuple.injEq, List.cons.injEq] at e
  obtain ⟨_, _, rfl, rfl, _⟩ := e
  exact ⟨by cases rl.2.2.1 <;> rfl, plain_strT _, Nat.le_trans (depth_strT _) (by omega)⟩
/-! ### a while loop with a size that falls -/
theorem whileL_ms {t : TF} {body : SF} (P : Nat → Sl → Store → Prop) (step : ∀ n rho S, P n rho S → t rho S = .ok false S ∨ ∃ S1 rho2 S2 n', t rho S = .ok true S1 ∧ body rho S1 = .nx rho2 S2 ∧ n' < n ∧ P n' rho2 S2) :
    ∀ (fuel n : Nat) (rho : Sl) (S : Store), n < fuel → P n rho S → ∃ n' rho' S', whileL t body fuel rho S = .nx rho' S' ∧ P n' rho' S' ∧ t rho' S' = .ok false S'
  | 0, n, _, _, h, _ => absurd h (Nat.not_lt_zero _)
  | fuel + 1, n, rho, S, h, p => by
    rcases step n rho S p with e | ⟨S1, rho2, S2, n', e1, e2, hn, p2⟩
    · refine ⟨n, rho, S, ?_, p, e⟩
      simp only [whileL, e, e_stm_ok]
    · obtain ⟨m, rho', S', e3, p3, e4⟩ := whileL_ms P step fuel n' rho2 S2 (by omega) p2
      refine ⟨m, rho', S', ?_, p3, e4⟩
      simp only [whileL, e1, e_stm_ok, e2, e3]
theorem e_while {n : Sl → Store → Nat} {t : TF} {body : SF} {rho : Sl} {S : Store} : sWhile n t body rho S = whileL t body (n rho S) rho S := id rfl
/-! ### heads -/
def hdB (q : Int) (x : Str) (r : Rule) : Bool := decide ((r.1 : Int) < q) || (decide ((r.1 : Int) = q) && decide (r.2.1.cps.toList < x.cps.toList))
theorem v_ltH (a b : Int) (x y : Str) : ltD (.dat (.tuple [.int a, .str x])) (.dat (.tuple [.int b, .str y])) = some (.dat (.bool (decide (a < b) || (decide (a = b) && decide (x.cps.toList < y.cps.toList))))) := by
  have e1 : PySem.W.dataLt (.tuple [.int a, .str x]) (.tuple [.int b, .str y]) = if a = b then decide (x.cps.toList < y.cps.toList) else decide (a < b) := PySem.W.DatumOrd.lt_eq (α := Int × Str) (a, x) (b, y)
  have e2 : PySem.W.alike (.tuple [.int a, .str x]) (.tuple [.int b, .str y]) = true := PySem.W.DatumOrd.alike (α := Int × Str) (a, x) (b, y)
  have e3 : ltD (.dat (.tuple [.int a, .str x])) (.dat (.tuple [.int b, .str y])) = if PySem.W.alike (.tuple [.int a, .str x]) (.tuple [.int b, .str y]) = true ∧ nnone (.tuple [.int a, .str x]) = true then bD (PySem.W.dataLt (.tuple [.int a, .str x]) (.tuple [.int b, .str y])) else none := rfl
  rw [e3, if_pos ⟨e2, rfl⟩, e1]
  by_cases h : a = b
  · subst h
    simp [bD]
  · simp [bD, h]
theorem hd_mono {rs : List Rule} (hp : rs.Pairwise headLt) {q : Int} {x : Str} {i j : Nat} {a b : Rule} (ha : rs[i]? = some a) (hb : rs[j]? = some b) (hij : i ≤ j) (h : hdB q x b = true) : hdB q x a = true := by
  by_cases e : i = j
  · subst e
    rw [ha] at hb
    cases Option.some.inj hb
    exact h
  · obtain ⟨h1, e1⟩ := List.getElem?_eq_some_iff.mp ha
    obtain ⟨h2, e2⟩ := List.getElem?_eq_some_iff.mp hb
    have lt := List.pairwise_iff_getElem.mp hp i j h1 h2 (by omega)
    rw [e1, e2] at lt
    simp only [hdB, Bool.or_eq_true, Bool.and_eq_true, decide_eq_true_eq] at h ⊢
    rcases lt with z | ⟨z1, z2⟩
    · rcases h with h | ⟨h3, h4⟩
      · exact .inl (by omega)
      · exact .inl (by omega)
    · rcases h with h | ⟨h3, h4⟩
      · exact .inl (by omega)
      · exact .inr ⟨by omega, List.lt_trans z2 h4⟩
theorem cut2 {a b c d : PyData} : slD none (some 2) (.dat (.tuple [a, b, c, d])) = some (.dat (.tuple [a, b])) := rfl
theorem cut2b {a b c d : PyData} : slD (some 2) none (.dat (.tuple [a, b, c, d])) = some (.dat (.tuple [c, d])) := rfl
def ruleAt (rs : List Rule) (q : Int) (x : Str) : Option Rule := rs.find? fun r => decide ((r.1 : Int) = q) && decide (r.2.1 = x)
theorem ruleAt_place {rs : List Rule} (hp : rs.Pairwise headLt) {q : Int} {x : Str} {k : Nat} (hk : ∀ i r, rs[i]? = some r → (hdB q x r = true ↔ i < k)) :
    ruleAt rs q x = (rs[k]?).bind fun r => if (decide ((r.1 : Int) = q) && decide (r.2.1 = x)) = true then some r else none := by
  have heq : ∀ r : Rule, (decide ((r.1 : Int) = q) && decide (r.2.1 = x)) = true → hdB q x r = false := fun r h => by
    simp only [Bool.and_eq_true, decide_eq_true_eq] at h
    obtain ⟨h1, h2⟩ := h
    simp [hdB, h1, h2]
  have later : ∀ (i : Nat) (r : Rule), rs[i]? = some r → (decide ((r.1 : Int) = q) && decide (r.2.1 = x)) = true → i = k := fun i r hr h => by
    have h1 : ¬ i < k := fun z => by
      have := (hk i r hr).mpr z
      rw [heq r h] at this
      cases this
    rcases Nat.lt_or_ge k i with h2 | h2
    · obtain ⟨hi, ei⟩ := List.getElem?_eq_some_iff.mp hr
      have hkl : k < rs.length := by omega
      have lt := List.pairwise_iff_getElem.mp hp k i hkl hi h2
      rw [ei] at lt
      have h3 : hdB q x rs[k] = true := by
        simp only [Bool.and_eq_true, decide_eq_true_eq] at h
        obtain ⟨h5, h6⟩ := h
        simp only [hdB, Bool.or_eq_true, Bool.and_eq_true, decide_eq_true_eq]
        rcases lt with z | ⟨z1, z2⟩
        · exact .inl (by omega)
        · exact .inr ⟨by omega, by rw [← h6]; exact z2⟩
      have := (hk k _ (List.getElem?_eq_getElem hkl)).mp h3
      omega
    · omega
  unfold ruleAt
  cases hr : rs[k]? with
  | none =>
    rw [Option.bind_none, List.find?_eq_none]
    intro r m h
    obtain ⟨i, hi, e⟩ := List.getElem_of_mem m
    have := later i r (by rw [List.getElem?_eq_getElem hi, e]) h
    subst this
    rw [List.getElem?_eq_getElem hi] at hr
    cases hr
  | some r =>
    rw [Option.bind_some]
    split
    · next h =>
      obtain ⟨hkl, ek⟩ := List.getElem?_eq_some_iff.mp hr
      rw [List.find?_eq_some_iff_getElem]
      refine ⟨h, k, hkl, ek, fun j hj => ?_⟩
      have hjl : j < rs.length := by omega
      cases z : (decide ((rs[j].1 : Int) = q) && decide (rs[j].2.1 = x)) with
      | false => rfl
      | true =>
        have := later j _ (List.getElem?_eq_getElem hjl) z
        omega
    · next h =>
      rw [List.find?_eq_none]
      intro r' m h'
      obtain ⟨i, hi, e⟩ := List.getElem_of_mem m
      have := later i r' (by rw [List.getElem?_eq_getElem hi, e]) h'
      subst this
      rw [List.getElem?_eq_getElem hi, e] at hr
      cases Option.some.inj hr
      exact h h'
def topOf : List Str → Str
  | [] => ""
  | x :: _ => x
def stuckD : PyData := .tuple [.str "stuck"]
def effD (o : Option Rule) (ws : List Str) : PyData := match o with
  | none => stuckD
  | some r => .tuple [.str (match r.2.2.1 with
    | .inl _ => "state"
    | .inr _ => "exit"), encG r.2.2.1, tupS (r.2.2.2 ++ ws.drop 1)]
def stepD (m : Md) (q : Nat) (ws : List Str) : PyData := effD (ruleAt m.rules q (topOf ws)) ws
theorem cutD_drop {α : Type} (xs : List α) (k : Nat) : cutD xs (some (k : Int)) none = xs.drop k := by
  unfold cutD
  rw [HT.sIx_nat, HT.sIx_none]
  rcases Nat.le_total k xs.length with h | h
  · rw [Nat.min_eq_left h, List.take_of_length_le (by rw [List.length_drop]; exact Nat.le_refl _)]
  · rw [Nat.min_eq_right h, List.drop_eq_nil_of_le (Nat.le_refl _), List.drop_eq_nil_of_le h, List.take_nil]
theorem cutD_take {α : Type} (xs : List α) (k : Nat) : cutD xs none (some (k : Int)) = xs.take k := by
  unfold cutD
  rw [HT.sIx_nat, HT.sIx_none, Nat.sub_zero, List.drop_zero]
  rcases Nat.le_total k xs.length with h | h
  · rw [Nat.min_eq_left h]
  · rw [Nat.min_eq_right h, List.take_of_length_le (Nat.le_refl _), List.take_of_length_le h]
theorem sl_drop {ds : List PyData} (k : Nat) : slD (some (k : Int)) none (.dat (.tuple ds)) = some (.dat (.tuple (ds.drop k))) := by
  show some (D.dat (.tuple (cutD ds (some (k : Int)) none))) = _
  rw [cutD_drop]
theorem sl_take {ds : List PyData} (k : Nat) : slD none (some (k : Int)) (.dat (.tuple ds)) = some (.dat (.tuple (ds.take k))) := by
  show some (D.dat (.tuple (cutD ds none (some (k : Int))))) = _
  rw [cutD_take]
theorem sl_tail {ws : List Str} : slD (some 1) none (.dat (tupS ws)) = some (.dat (tupS (ws.drop 1))) := by
  unfold tupS
  rw [List.map_drop]
  exact sl_drop 1
theorem tru_tupS {ws : List Str} : tru (.dat (tupS ws)) = some (!ws.isEmpty) := by
  show some (!(ws.map PyData.str).isEmpty) = _
  cases ws <;> rfl
theorem ix0_tupS {w : Str} {ws : List Str} {S : Store} : ixD S (.dat (tupS (w :: ws))) (.dat (.int 0)) = some (.dat (.str w)) := v_ixt (i := 0) rfl
theorem ix_tupS {ws : List Str} {S : Store} {i : Nat} {w : Str} (h : ws[i]? = some w) : ixD S (.dat (tupS ws)) (.dat (.int (i : Nat))) = some (.dat (.str w)) := v_ixt (by rw [List.getElem?_map, h]; rfl)
theorem len_tupS {ws : List Str} : lenD (.dat (tupS ws)) = some (.dat (.int ws.length)) := by unfold tupS; rw [v_lenT, List.length_map]
/-! ### loops that look for the first of a kind -/
theorem forL_find {t : Tg} {body : SF} {S : Store} (Inv : Sl → Prop) (p : PyData → Bool) (g : PyData → D) : ∀ (ds : List PyData) (rho : Sl), Inv rho →
    (∀ d rho, d ∈ ds → Inv rho → ∃ rho1, put t (.dat d) rho = some rho1 ∧ ((p d = true ∧ body rho1 S = .rt (g d) S) ∨ (p d = false ∧ ∃ rho2, body rho1 S = .nx rho2 S ∧ Inv rho2))) →
    (∃ d, ds.find? p = some d ∧ forL t body ds rho S = .rt (g d) S) ∨ (ds.find? p = none ∧ ∃ rho', forL t body ds rho S = .nx rho' S ∧ Inv rho')
  | [], rho, h, _ => .inr ⟨rfl, rho, rfl, h⟩
  | d :: ds, rho, h, k => by
    obtain ⟨rho1, e1, h2⟩ := k d rho (List.mem_cons_self ..) h
    rcases h2 with ⟨e2, e3⟩ | ⟨e2, rho2, e3, h3⟩
    · refine .inl ⟨d, by rw [List.find?_cons, e2], ?_⟩
      simp only [forL, e1, e3]
    · have ih := forL_find Inv p g ds rho2 h3 fun d rho m => k d rho (List.mem_cons_of_mem _ m)
      simp only [List.find?_cons, forL, e1, e2, e3]
      exact ih
/-! ### repr -/
mutual
def sz : PyData → Nat
  | .none => 4
  | .bool _ => 5
  | .int i => if i.natAbs < 1000 then 4 else 1922
  | .str x => 10 * x.length + 2
  | .list ds => szL ds + 2
  | .tuple ds => szL ds + 3
  | .dict _ => 0
def szL : List PyData → Nat
  | [] => 0
  | d :: r => sz d + 2 + szL r
end
mutual
/-- may be shown: signs of eight hex digits, ints of some hundred digits -/
def Shw : PyData → Prop
  | .int i => i.natAbs.log2 < 1920
  | .str x => ∀ c ∈ x.cps.toList, c < 16 ^ 8
  | .list ds => ShwL ds
  | .tuple ds => ShwL ds
  | .dict _ => False
  | _ => True
def ShwL : List PyData → Prop
  | [] => True
  | d :: r => Shw d ∧ ShwL r
end
theorem textFrom_len2 : ∀ (ts : List Str) (k : Nat) (acc : Str), (PySem.textFrom k acc ts).length ≤ acc.length + (ts.map fun t => t.length + 2).sum
  | [], k, acc => Nat.le_add_right ..
  | t :: r, k, acc => by
    have ih := textFrom_len2 r (k + 1) (acc ++ (if k > 0 then ", " else "" : String) ++ t)
    have hs : ((if k > 0 then ", " else "" : String) : Str).length ≤ 2 := by split <;> decide
    rw [len_app, len_app] at ih
    simp only [List.map_cons, List.sum_cons]
    show (PySem.textFrom (k + 1) (acc ++ (if k > 0 then ", " else "" : String) ++ t) r).length ≤ _
    omega
theorem join_len2 : ∀ ts : List Str, (Str.join ", " ts).length ≤ (ts.map fun t => t.length + 2).sum
  | [] => Nat.zero_le _
  | [x] => by show x.length ≤ _; simp
  | x :: y :: r => by
    have ih := join_len2 (y :: r)
    have e : (Str.join ", " (x :: y :: r)).length = x.length + 2 + (Str.join ", " (y :: r)).length := by
      show (x ++ (", " : Str) ++ Str.join ", " (y :: r)).length = _
      rw [len_app, len_app]
      rfl
    rw [e]
    simp only [List.map_cons, List.sum_cons] at ih ⊢
    omega
mutual
theorem shown_len : ∀ d : PyData, Shw d → d.shown.length ≤ sz d
  | .none, _ => by simp only [PyData.shown, sz]; decide
  | .bool b, _ => by cases b <;> (simp only [PyData.shown, sz]; decide)
  | .int i, h => by
    simp only [Shw] at h
    simp only [PyData.shown, sz]
    have e : ((toString i : String) : Str).length = (toString i).length := by
      show (PySem.Str.ofString (toString i)).length = _
      exact PySem.ofString_length _
    split
    · next hi => rw [e]; exact PySem.int_text_length_le10 (k := 3) (by decide) hi
    · rw [e]; exact Nat.le_trans (PySem.int_text_length_le (k := 1920) (by decide) h) (by decide)
  | .str x, h => by
    simp only [Shw] at h
    simp only [PyData.shown, sz]
    exact PySem.StrLaws.reprText_len x h
  | .list ds, h => by
    simp only [Shw] at h
    simp only [PyData.shown, sz]
    have h1 := shownAll_len ds h
    have h2 := textFrom_len2 (PyData.shownAll ds) 0 "["
    show (PySem.textFrom 0 "[" (PyData.shownAll ds) ++ ("]" : Str)).length ≤ _
    rw [len_app]
    have e1 : ("[" : Str).length = 1 := by decide
    have e2 : ("]" : Str).length = 1 := by decide
    omega
  | .tuple ds, h => by
    simp only [Shw] at h
    simp only [PyData.shown, sz]
    have h1 := shownAll_len ds h
    have h2 := join_len2 (PyData.shownAll ds)
    show (("(" : Str) ++ Str.join ", " (PyData.shownAll ds) ++ ((if (PyData.shownAll ds).length == 1 then ",)" else ")" : String) : Str)).length ≤ _
    have e1 : ("(" : Str).length = 1 := by decide
    have e2 : (((if (PyData.shownAll ds).length == 1 then ",)" else ")" : String) : Str)).length ≤ 2 := by split <;> decide
    rw [len_app, len_app]
    omega
  | .dict _, h => by simp only [Shw] at h
theorem shownAll_len : ∀ ds : List PyData, ShwL ds → ((PyData.shownAll ds).map fun t => t.length + 2).sum ≤ szL ds
  | [], _ => Nat.le_refl _
  | d :: r, h => by
    simp only [ShwL] at h
    have h1 := shown_len d h.1
    have h2 := shownAll_len r h.2
    simp only [PyData.shownAll, List.map_cons, List.sum_cons, szL]
    omega
end
mutual
theorem shw_plain : ∀ d : PyData, Shw d → d.plain = true ∧ d.showable = true
  | .none, _ => ⟨rfl, rfl⟩
  | .bool _, _ => ⟨rfl, rfl⟩
  | .int i, h => by simp only [Shw] at h; exact ⟨rfl, by simp only [PyData.showable, decide_eq_true h]⟩
  | .str _, _ => ⟨rfl, rfl⟩
  | .list ds, h => by simp only [Shw] at h; simp only [PyData.plain, PyData.showable]; exact shwL_plain ds h
  | .tuple ds, h => by simp only [Shw] at h; simp only [PyData.plain, PyData.showable]; exact shwL_plain ds h
  | .dict _, h => by simp only [Shw] at h
theorem shwL_plain : ∀ ds : List PyData, ShwL ds → PyData.plainAll ds = true ∧ PyData.showableAll ds = true
  | [], _ => ⟨rfl, rfl⟩
  | d :: r, h => by
    simp only [ShwL] at h
    obtain ⟨a1, a2⟩ := shw_plain d h.1
    obtain ⟨b1, b2⟩ := shwL_plain r h.2
    simp only [PyData.plainAll, PyData.showableAll, a1, a2, b1, b2, Bool.and_self, and_self]
end
theorem v_repr {d : PyData} (h : Shw d) (hd : d.depth ≤ 60) (hz : sz d ≤ 10000000) : reprD (.dat d) = some (.dat (.str d.shown)) := by
  obtain ⟨h1, h2⟩ := shw_plain d h
  have e : reprD (.dat d) = if d.plain = true ∧ d.showable = true ∧ d.depth ≤ 60 ∧ d.shown.length ≤ sizeLine then some (.dat (.str d.shown)) else none := rfl
  rw [e, if_pos ⟨h1, h2, hd, line_ge (Nat.le_trans (shown_len d h) hz)⟩]
theorem depthAll_le {k : Nat} : ∀ {ds : List PyData}, (∀ d ∈ ds, d.depth ≤ k) → PyData.depthAll ds ≤ k
  | [], _ => Nat.zero_le _
  | d :: ds, h => by
    simp only [PyData.depthAll]
    exact Nat.max_le.mpr ⟨h d (List.mem_cons_self ..), depthAll_le fun e m => h e (List.mem_cons_of_mem _ m)⟩
theorem szL_le {k : Nat} : ∀ {ds : List PyData}, (∀ d ∈ ds, sz d ≤ k) → szL ds ≤ ds.length * (k + 2)
  | [], _ => Nat.zero_le _
  | d :: ds, h => by
    simp only [szL, List.length_cons, Nat.succ_mul]
    have h1 := h d (List.mem_cons_self ..)
    have h2 := szL_le fun e m => h e (List.mem_cons_of_mem _ m)
    omega
theorem ShwL.of : ∀ {ds : List PyData}, (∀ d ∈ ds, Shw d) → ShwL ds
  | [], _ => by simp only [ShwL]
  | d :: ds, h => by
    simp only [ShwL]
    exact ⟨h d (List.mem_cons_self ..), ShwL.of fun e m => h e (List.mem_cons_of_mem _ m)⟩
/-- a text that a name may be, or none -/
def Nm (x : Str) : Prop := x.length ≤ 8 ∧ ∀ c ∈ x.cps.toList, c < 16 ^ 8
theorem NameOk.nm {x : Str} (h : NameOk x) : Nm x := ⟨h.2.1, fun c m => by have := (h.2.2 c m).2; omega⟩
theorem nm_empty : Nm "" := ⟨by decide, by decide⟩
structure Rok (d : PyData) (n k : Nat) : Prop where
  shw : Shw d
  size : sz d ≤ n
  dep : d.depth ≤ k
theorem Nm.rok {x : Str} (h : Nm x) : Rok (.str x) 82 0 := ⟨by simp only [Shw]; exact h.2, by simp only [sz]; have := h.1; omega, Nat.le_refl _⟩
theorem rok_int {i : Int} (h0 : 0 ≤ i) (h : i < 1000) : Rok (.int i) 4 0 := ⟨by simp only [Shw]; exact Nat.lt_of_lt_of_le (log2_lt (n := 10) h0 (by omega) (by decide)) (by decide), by simp only [sz]; rw [if_pos (by omega)]; exact Nat.le_refl _, Nat.le_refl _⟩
theorem rok_tup {ds : List PyData} {n k len : Nat} (h : ∀ d ∈ ds, Rok d n k) (hl : ds.length ≤ len) : Rok (.tuple ds) (len * (n + 2) + 3) (k + 1) where
  shw := by simp only [Shw]; exact ShwL.of fun d m => (h d m).shw
  size := by
    simp only [sz]
    have h1 := szL_le fun d m => (h d m).size
    have h2 := Nat.mul_le_mul_right (n + 2) hl
    omega
  dep := by simp only [PyData.depth]; have := depthAll_le fun d m => (h d m).dep; omega
theorem rok_lst {ds : List PyData} {n k len : Nat} (h : ∀ d ∈ ds, Rok d n k) (hl : ds.length ≤ len) : Rok (.list ds) (len * (n + 2) + 3) (k + 1) where
  shw := by simp only [Shw]; exact ShwL.of fun d m => (h d m).shw
  size := by
    simp only [sz]
    have h1 := szL_le fun d m => (h d m).size
    have h2 := Nat.mul_le_mul_right (n + 2) hl
    omega
  dep := by simp only [PyData.depth]; have := depthAll_le fun d m => (h d m).dep; omega
theorem Rok.mono {d : PyData} {n k n' k' : Nat} (h : Rok d n k) (hn : n ≤ n') (hk : k ≤ k') : Rok d n' k' := ⟨h.shw, Nat.le_trans h.size hn, Nat.le_trans h.dep hk⟩
theorem rok_tupS {ws : List Str} {len : Nat} (h : ∀ x ∈ ws, Nm x) (hl : ws.length ≤ len) : Rok (tupS ws) (len * 84 + 3) 1 := rok_tup (n := 82) (k := 0) (fun d m => by
  obtain ⟨x, mx, rfl⟩ := List.mem_map.mp m
  exact (h x mx).rok) (by rw [List.length_map]; exact hl)
theorem Rok.repr {d : PyData} {n k : Nat} (h : Rok d n k) (hn : n ≤ 10000000 := by omega) (hk : k ≤ 60 := by omega) : reprD (.dat d) = some (.dat (.str d.shown)) := v_repr h.shw (Nat.le_trans h.dep hk) (Nat.le_trans h.size hn)
theorem rok_cons {d : PyData} {ds : List PyData} {n k : Nat} (h : Rok d n k) (hs : ∀ e ∈ ds, Rok e n k) : ∀ e ∈ d :: ds, Rok e n k := fun e m => (List.mem_cons.mp m).elim (fun z => z ▸ h) (hs e)
theorem rok_nil {n k : Nat} : ∀ e ∈ ([] : List PyData), Rok e n k := fun e m => by cases m
theorem Valid.nm {m : Md} (h : Valid m) : ∀ x ∈ m.labels, Nm x := fun x mx => (h.labels.ok x mx).nm
theorem Valid.rokR {m : Md} (h : Valid m) : ∀ r ∈ m.rules, Rok (encR r) 10000 2 := fun r mr => by
  obtain ⟨f1, f2, f3, f4, f5⟩ := h.fits r mr
  have s2 := h.size2
  refine Rok.mono (rok_tup (n := 20 * 84 + 3) (k := 1) (len := 4) (rok_cons ((rok_int (by omega) (by omega)).mono (by omega) (by omega)) (rok_cons (Rok.mono (n := 82) (k := 0) ?_ (by omega) (by omega)) (rok_cons (Rok.mono (n := 82) (k := 0) ?_ (by omega) (by omega)) (rok_cons (rok_tupS (fun x mx => h.nm x (f4 x mx)) f5) rok_nil)))) (by simp)) (by omega) (by omega)
  · rcases f2 with z | z
    · rw [z]; exact nm_empty.rok
    · exact (h.nm _ z).rok
  · cases e : r.2.2.1 with
    | inl n =>
      rw [e] at f3
      have f3 : n < m.size := f3
      exact (rok_int (by omega) (by omega)).mono (by omega) (by omega)
    | inr y =>
      rw [e] at f3
      exact (h.exits.ok y f3).nm.rok
theorem Valid.rok {m : Md} (h : Valid m) (hr : m.rules.length ≤ 300) : Rok (encM m) 3100000 4 := by
  have h1 : Rok (tupS m.labels) 1100 1 := (rok_tupS h.nm h.most_).mono (by omega) (by omega)
  have h2 : Rok (.int (m.size : Int)) 4 0 := rok_int (by omega) (by have := h.size2; omega)
  have h3 : Rok (.tuple (m.entries.map encE)) 10000 2 := (rok_tup (n := 200) (k := 1) (len := 12) (fun d md => by
    obtain ⟨e, me, rfl⟩ := List.mem_map.mp md
    have := h.at_ e me
    have s2 := h.size2
    exact (rok_tup (n := 82) (k := 0) (len := 2) (rok_cons (h.entries.ok _ (List.mem_map.mpr ⟨e, me, rfl⟩)).nm.rok (rok_cons ((rok_int (by omega) (by omega)).mono (by omega) (by omega)) rok_nil)) (by simp)).mono (by omega) (by omega)) (by rw [List.length_map]; exact h.doors)).mono (by omega) (by omega)
  have h4 : Rok (tupS m.exits) 1100 1 := (rok_tupS (fun x mx => (h.exits.ok x mx).nm) h.outs).mono (by omega) (by omega)
  have h5 : Rok (.tuple (m.rules.map encR)) 3010000 3 := (rok_tup (n := 10000) (k := 2) (len := 300) (fun d md => by
    obtain ⟨r, mr, rfl⟩ := List.mem_map.mp md
    exact h.rokR r mr) (by rw [List.length_map]; exact hr)).mono (by omega) (by omega)
  have e : szL [tupS m.labels, .int m.size, .tuple (m.entries.map encE), tupS m.exits, .tuple (m.rules.map encR)] ≤ 3099000 := by
    simp only [szL]
    have := h1.size; have := h2.size; have := h3.size; have := h4.size; have := h5.size
    omega
  refine ⟨?_, ?_, ?_⟩
  · simp only [encM, Shw]
    exact ShwL.of (by
      intro d md
      simp only [List.mem_cons, List.not_mem_nil, or_false] at md
      rcases md with rfl | rfl | rfl | rfl | rfl
      · exact h1.shw
      · exact h2.shw
      · exact h3.shw
      · exact h4.shw
      · exact h5.shw)
  · simp only [encM, sz]
    omega
  · simp only [encM, PyData.depth]
    have := depthAll_le (k := 3) (ds := [tupS m.labels, .int m.size, .tuple (m.entries.map encE), tupS m.exits, .tuple (m.rules.map encR)]) (by
      intro d md
      simp only [List.mem_cons, List.not_mem_nil, or_false] at md
      rcases md with rfl | rfl | rfl | rfl | rfl
      · exact Nat.le_trans h1.dep (by omega)
      · exact Nat.le_trans h2.dep (by omega)
      · exact Nat.le_trans h3.dep (by omega)
      · exact Nat.le_trans h4.dep (by omega)
      · exact h5.dep)
    omega
theorem forL_findM {α : Type} {t : Tg} {body : SF} {S : Store} (enc : α → PyData) (Inv : Sl → Prop) (p : α → Bool) (g : α → D) : ∀ (ds : List α) (rho : Sl), Inv rho →
    (∀ d rho, d ∈ ds → Inv rho → ∃ rho1, put t (.dat (enc d)) rho = some rho1 ∧ ((p d = true ∧ body rho1 S = .rt (g d) S) ∨ (p d = false ∧ ∃ rho2, body rho1 S = .nx rho2 S ∧ Inv rho2))) →
    (∃ d, ds.find? p = some d ∧ forL t body (ds.map enc) rho S = .rt (g d) S) ∨ (ds.find? p = none ∧ ∃ rho', forL t body (ds.map enc) rho S = .nx rho' S ∧ Inv rho')
  | [], rho, h, _ => .inr ⟨rfl, rho, rfl, h⟩
  | d :: ds, rho, h, k => by
    obtain ⟨rho1, e1, h2⟩ := k d rho (List.mem_cons_self ..) h
    rcases h2 with ⟨e2, e3⟩ | ⟨e2, rho2, e3, h3⟩
    · refine .inl ⟨d, by rw [List.find?_cons, e2], ?_⟩
      simp only [List.map_cons, forL, e1, e3]
    · have ih := forL_findM enc Inv p g ds rho2 h3 fun d rho m => k d rho (List.mem_cons_of_mem _ m)
      simp only [List.map_cons, List.find?_cons, forL, e1, e2, e3]
      exact ih
theorem ne_nilT {ws : List Str} : neD (.dat (tupS ws)) (.dat (.tuple [])) = some (.dat (.bool (!ws.isEmpty))) := by
  have e : neD (.dat (tupS ws)) (.dat (.tuple [])) = some (.dat (.bool (!PyData.eqv (tupS ws) (.tuple [])))) := v_neT (plain_strT ws) rfl (Nat.le_trans (Nat.min_le_left _ _) (depth_strT ws))
  rw [e]
  cases ws with
  | nil => simp [tupS, PyData.eqv, PyData.eqvAll]
  | cons w ws => simp [tupS, PyData.eqv, PyData.eqvAll]
theorem ix_r0 {r : Rule} {S : Store} : ixD S (.dat (encR r)) (.dat (.int 0)) = some (.dat (.int r.1)) := rfl
theorem ix_r1 {r : Rule} {S : Store} : ixD S (.dat (encR r)) (.dat (.int 1)) = some (.dat (.str r.2.1)) := rfl
theorem ix_r2 {r : Rule} {S : Store} : ixD S (.dat (encR r)) (.dat (.int 2)) = some (.dat (encG r.2.2.1)) := rfl
theorem ix_r3 {r : Rule} {S : Store} : ixD S (.dat (encR r)) (.dat (.int 3)) = some (.dat (tupS r.2.2.2)) := rfl
theorem add_tupS {xs ys : List Str} (h : xs.length + ys.length ≤ 10000) : addD (.dat (tupS xs)) (.dat (tupS ys)) = some (.dat (tupS (xs ++ ys))) := by
  unfold tupS
  rw [v_addt (by rw [List.length_map, List.length_map]; exact h), List.map_append]
end L3

/-! L3N -/
/-! rules around a head; lists that are sifted; plain modules -/
namespace L3
open PySem PySem.Spec PyProof.Rows L2
def hdA (q : Int) (x : Str) (r : Rule) : Bool := decide (q < (r.1 : Int)) || (decide ((r.1 : Int) = q) && decide (x.cps.toList < r.2.1.cps.toList))
def hdE (q : Int) (x : Str) (r : Rule) : Bool := decide ((r.1 : Int) = q) && decide (r.2.1 = x)
def loR (rs : List Rule) (q : Int) (x : Str) : List Rule := rs.filter (hdB q x)
def hiR (rs : List Rule) (q : Int) (x : Str) : List Rule := rs.filter (hdA q x)
theorem str_ext {x y : Str} (h : x.cps.toList = y.cps.toList) : x = y := by
  cases x; cases y
  simp only [Array.toList_inj] at h
  simp only [h]
theorem hd_tri (q : Int) (x : Str) (r : Rule) : hdB q x r = true ∨ hdE q x r = true ∨ hdA q x r = true := by
  unfold hdB hdE hdA
  simp only [Bool.or_eq_true, Bool.and_eq_true, decide_eq_true_eq]
  rcases Int.lt_trichotomy (r.1 : Int) q with h | h | h
  · exact .inl (.inl h)
  · by_cases h1 : r.2.1.cps.toList < x.cps.toList
    · exact .inl (.inr ⟨h, h1⟩)
    · by_cases h2 : x.cps.toList < r.2.1.cps.toList
      · exact .inr (.inr (.inr ⟨h, h2⟩))
      · exact .inr (.inl ⟨h, str_ext (List.le_antisymm (List.not_lt.mp h2) (List.not_lt.mp h1))⟩)
  · exact .inr (.inr (.inl h))
theorem hdB_E {q : Int} {x : Str} {r : Rule} (h : hdB q x r = true) : hdE q x r = false := by
  unfold hdB at h
  unfold hdE
  simp only [Bool.or_eq_true, Bool.and_eq_true, decide_eq_true_eq] at h
  simp only [Bool.and_eq_false_iff, decide_eq_false_iff_not]
  rcases h with h | ⟨h, h2⟩
  · exact .inl (by omega)
  · refine .inr fun e => ?_
    rw [e] at h2
    exact List.lt_irrefl _ h2
theorem hdB_A {q : Int} {x : Str} {r : Rule} (h : hdB q x r = true) : hdA q x r = false := by
  unfold hdB at h
  unfold hdA
  simp only [Bool.or_eq_true, Bool.and_eq_true, decide_eq_true_eq] at h
  simp only [Bool.or_eq_false_iff, Bool.and_eq_false_iff, decide_eq_false_iff_not]
  rcases h with h | ⟨h, h2⟩
  · exact ⟨by omega, .inl (by omega)⟩
  · exact ⟨by omega, .inr (List.lt_asymm h2)⟩
theorem hdE_A {q : Int} {x : Str} {r : Rule} (h : hdE q x r = true) : hdA q x r = false := by
  unfold hdE at h
  unfold hdA
  simp only [Bool.and_eq_true, decide_eq_true_eq] at h
  simp only [Bool.or_eq_false_iff, Bool.and_eq_false_iff, decide_eq_false_iff_not]
  refine ⟨by omega, .inr ?_⟩
  rw [h.2]
  exact List.lt_irrefl _
theorem hdA_B {q : Int} {x : Str} {r : Rule} (h : hdA q x r = true) : hdB q x r = false := by
  cases e : hdB q x r with
  | false => rfl
  | true => rw [hdB_A e] at h; cases h
theorem hdA_E {q : Int} {x : Str} {r : Rule} (h : hdA q x r = true) : hdE q x r = false := by
  cases e : hdE q x r with
  | false => rfl
  | true => rw [hdE_A e] at h; cases h
theorem hdE_B {q : Int} {x : Str} {r : Rule} (h : hdE q x r = true) : hdB q x r = false := by
  cases e : hdB q x r with
  | false => rfl
  | true => rw [hdB_E e] at h; cases h
theorem headLt_of {a b : Rule} {q : Int} {x : Str} (h : headLt a b) (ha : hdB q x a = false) : hdA q x b = true := by
  have t := hd_tri q x a
  rw [ha] at t
  unfold hdE hdA at t
  unfold hdA
  unfold headLt at h
  simp only [Bool.or_eq_true, Bool.and_eq_true, decide_eq_true_eq, Bool.false_eq_true, false_or] at t ⊢
  rcases t with ⟨t1, t2⟩ | t1 | ⟨t1, t2⟩
  · rcases h with h | ⟨h, h2⟩
    · exact .inl (by omega)
    · exact .inr ⟨by omega, by rw [← t2]; exact h2⟩
  · rcases h with h | ⟨h, h2⟩
    · exact .inl (by omega)
    · exact .inl (by omega)
  · rcases h with h | ⟨h, h2⟩
    · exact .inl (by omega)
    · exact .inr ⟨by omega, List.lt_trans t2 h2⟩
theorem split {q : Int} {x : Str} : ∀ {rs : List Rule}, rs.Pairwise headLt → rs = loR rs q x ++ (ruleAt rs q x).toList ++ hiR rs q x
  | [], _ => rfl
  | a :: l, hp => by
    have h1 := List.pairwise_cons.mp hp
    have ih := split (q := q) (x := x) h1.2
    unfold loR hiR ruleAt at *
    have allA : hdB q x a = false → l.filter (hdA q x) = l ∧ l.filter (hdB q x) = [] ∧ l.find? (hdE q x) = none := fun hb => by
      have k : ∀ b ∈ l, hdA q x b = true := fun b mb => headLt_of (h1.1 b mb) hb
      exact ⟨List.filter_eq_self.mpr k, List.filter_eq_nil_iff.mpr fun b mb z => (by rw [hdA_B (k b mb)] at z; cases z), List.find?_eq_none.mpr fun b mb z => by rw [hdA_E (k b mb)] at z; cases z⟩
    have ef : ∀ m : List Rule, (m.find? fun r => decide ((r.1 : Int) = q) && decide (r.2.1 = x)) = m.find? (hdE q x) := fun m => rfl
    rw [ef] at ih ⊢
    rcases hd_tri q x a with h | h | h
    · rw [List.filter_cons_of_pos h, List.find?_cons_of_neg (by rw [hdB_E h]; exact Bool.noConfusion), List.filter_cons_of_neg (by rw [hdB_A h]; exact Bool.noConfusion), List.cons_append, List.cons_append, ← ih]
    · obtain ⟨k1, k2, k3⟩ := allA (hdE_B h)
      rw [List.filter_cons_of_neg (by rw [hdE_B h]; exact Bool.noConfusion), List.find?_cons_of_pos h, List.filter_cons_of_neg (by rw [hdE_A h]; exact Bool.noConfusion), k1, k2]
      rfl
    · obtain ⟨k1, k2, k3⟩ := allA (hdA_B h)
      rw [List.filter_cons_of_neg (by rw [hdA_B h]; exact Bool.noConfusion), List.find?_cons_of_neg (by rw [hdA_E h]; exact Bool.noConfusion), List.filter_cons_of_pos h, k1, k2, k3]
      rfl
theorem filter_take {α : Type} (p : α → Bool) : ∀ (l : List α) (k : Nat), (∀ i r, l[i]? = some r → (p r = true ↔ i < k)) → l.filter p = l.take k
  | [], k, _ => by simp
  | a :: l, 0, h => by
    rw [List.take_zero]
    refine List.filter_eq_nil_iff.mpr fun b mb z => ?_
    obtain ⟨i, hi⟩ := List.mem_iff_getElem?.mp mb
    exact absurd ((h i b hi).mp z) (Nat.not_lt_zero _)
  | a :: l, k + 1, h => by
    rw [List.take_succ_cons, List.filter_cons_of_pos ((h 0 a rfl).mpr (Nat.succ_pos _)), filter_take p l k fun i r e => by
      have := h (i + 1) r (by simpa using e)
      rw [this]
      omega]
theorem mem_lo {rs : List Rule} {q : Int} {x : Str} {r : Rule} (h : r ∈ loR rs q x) : r ∈ rs ∧ hdB q x r = true := List.mem_filter.mp h
theorem mem_hi {rs : List Rule} {q : Int} {x : Str} {r : Rule} (h : r ∈ hiR rs q x) : r ∈ rs ∧ hdA q x r = true := List.mem_filter.mp h
theorem lo_head {q : Nat} {x : Str} {g : Tgt} {p : List Str} {r : Rule} (h : hdB q x r = true) : headLt r (q, x, g, p) := by
  unfold hdB at h
  simp only [Bool.or_eq_true, Bool.and_eq_true, decide_eq_true_eq] at h
  rcases h with h | ⟨h, h2⟩
  · exact .inl (by show r.1 < q; omega)
  · exact .inr ⟨by show r.1 = q; omega, h2⟩
theorem hi_head {q : Nat} {x : Str} {g : Tgt} {p : List Str} {r : Rule} (h : hdA q x r = true) : headLt (q, x, g, p) r := by
  unfold hdA at h
  simp only [Bool.or_eq_true, Bool.and_eq_true, decide_eq_true_eq] at h
  rcases h with h | ⟨h, h2⟩
  · exact .inl (by show q < r.1; omega)
  · exact .inr ⟨by show q = r.1; omega, h2⟩
theorem headLt_trans {a b c : Rule} (h1 : headLt a b) (h2 : headLt b c) : headLt a c := by
  unfold headLt at *
  rcases h1 with h1 | ⟨h1, k1⟩
  · rcases h2 with h2 | ⟨h2, k2⟩
    · exact .inl (by omega)
    · exact .inl (by omega)
  · rcases h2 with h2 | ⟨h2, k2⟩
    · exact .inl (by omega)
    · exact .inr ⟨by omega, List.lt_trans k1 k2⟩
def insR (rs : List Rule) (r : Rule) : List Rule := loR rs r.1 r.2.1 ++ r :: hiR rs r.1 r.2.1
def cutR (rs : List Rule) (q : Int) (x : Str) : List Rule := loR rs q x ++ hiR rs q x
theorem ins_pw {rs : List Rule} (hp : rs.Pairwise headLt) (r : Rule) : (insR rs r).Pairwise headLt := by
  obtain ⟨q, x, g, p⟩ := r
  refine List.pairwise_append.mpr ⟨hp.filter _, List.pairwise_cons.mpr ⟨fun b mb => hi_head (mem_hi mb).2, hp.filter _⟩, fun a ma b mb => ?_⟩
  have h1 : headLt a (q, x, g, p) := lo_head (mem_lo ma).2
  rcases List.mem_cons.mp mb with rfl | mb
  · exact h1
  · exact headLt_trans h1 (hi_head (mem_hi mb).2)
theorem cut_pw {rs : List Rule} (hp : rs.Pairwise headLt) (q : Int) (x : Str) : (cutR rs q x).Pairwise headLt := by
  have h := split (q := q) (x := x) hp
  rw [h] at hp
  refine hp.sublist ?_
  unfold cutR
  rw [List.append_assoc]
  exact List.Sublist.append_left (List.sublist_append_right _ _) _
theorem Valid.ins {m : Md} (h : Valid m) {r : Rule} (f : Fits m.labels m.size m.exits r) : Valid { m with rules := insR m.rules r } := { h with
  rules := ins_pw h.rules r
  fits := fun a ma => by
    rcases List.mem_append.mp ma with ma | ma
    · exact h.fits a (mem_lo ma).1
    · rcases List.mem_cons.mp ma with rfl | ma
      · exact f
      · exact h.fits a (mem_hi ma).1 }
theorem Valid.cut {m : Md} (h : Valid m) (q : Int) (x : Str) : Valid { m with rules := cutR m.rules q x } := { h with
  rules := cut_pw h.rules q x
  fits := fun a ma => by
    rcases List.mem_append.mp ma with ma | ma
    · exact h.fits a (mem_lo ma).1
    · exact h.fits a (mem_hi ma).1 }
theorem lo_len {rs : List Rule} {q : Int} {x : Str} : (cutR rs q x).length ≤ rs.length := by
  unfold cutR loR hiR
  rw [List.length_append]
  induction rs with
  | nil => exact Nat.le_refl _
  | cons a l ih =>
    rcases hd_tri q x a with h | h | h
    · rw [List.filter_cons_of_pos h, List.filter_cons_of_neg (by rw [hdB_A h]; exact Bool.noConfusion)]
      simp only [List.length_cons]; omega
    · rw [List.filter_cons_of_neg (by rw [hdE_B h]; exact Bool.noConfusion), List.filter_cons_of_neg (by rw [hdE_A h]; exact Bool.noConfusion)]
      simp only [List.length_cons]; omega
    · rw [List.filter_cons_of_neg (by rw [hdA_B h]; exact Bool.noConfusion), List.filter_cons_of_pos h]
      simp only [List.length_cons]; omega
theorem ins_len {rs : List Rule} {r : Rule} : (insR rs r).length ≤ rs.length + 1 := by
  have := lo_len (rs := rs) (q := r.1) (x := r.2.1)
  unfold insR
  unfold cutR at this
  rw [List.length_append, List.length_cons]
  rw [List.length_append] at this
  omega
section
variable {rs : List Rule} {q : Int} {x : Str}
theorem filt_lo : (loR rs q x).filter (hdB q x) = loR rs q x ∧ (loR rs q x).filter (hdA q x) = [] ∧ (loR rs q x).filter (fun r => !hdE q x r) = loR rs q x :=
  ⟨List.filter_eq_self.mpr fun a m => (mem_lo m).2, List.filter_eq_nil_iff.mpr fun a m z => (by rw [hdB_A (mem_lo m).2] at z; cases z), List.filter_eq_self.mpr fun a m => by rw [hdB_E (mem_lo m).2]; rfl⟩
theorem filt_hi : (hiR rs q x).filter (hdB q x) = [] ∧ (hiR rs q x).filter (hdA q x) = hiR rs q x ∧ (hiR rs q x).filter (fun r => !hdE q x r) = hiR rs q x :=
  ⟨List.filter_eq_nil_iff.mpr fun a m z => (by rw [hdA_B (mem_hi m).2] at z; cases z), List.filter_eq_self.mpr fun a m => (mem_hi m).2, List.filter_eq_self.mpr fun a m => by rw [hdA_E (mem_hi m).2]; rfl⟩
theorem at_E {r : Rule} (h : ruleAt rs q x = some r) : hdE q x r = true := by
  unfold ruleAt at h
  exact List.find?_some h
theorem filt_ne (hp : rs.Pairwise headLt) : rs.filter (fun r => !hdE q x r) = cutR rs q x := by
  have h := split (q := q) (x := x) hp
  rw [h, List.filter_append, List.filter_append, filt_lo.2.2, filt_hi.2.2, ← h]
  cases e : ruleAt rs q x with
  | none => rw [Option.toList_none, List.filter_nil, List.append_nil]; rfl
  | some r => rw [Option.toList_some, List.filter_cons_of_neg (by rw [at_E e]; exact Bool.noConfusion), List.filter_nil, List.append_nil]; rfl
theorem cut_lo : loR (cutR rs q x) q x = loR rs q x := by
  show (cutR rs q x).filter _ = _
  unfold cutR
  rw [List.filter_append, filt_lo.1, filt_hi.1, List.append_nil]
theorem cut_hi : hiR (cutR rs q x) q x = hiR rs q x := by
  show (cutR rs q x).filter _ = _
  unfold cutR
  rw [List.filter_append, filt_lo.2.1, filt_hi.2.1, List.nil_append]
theorem cut_at : ruleAt (cutR rs q x) q x = none := by
  unfold ruleAt
  refine List.find?_eq_none.mpr fun a m z => ?_
  have z : hdE q x a = true := z
  rcases List.mem_append.mp m with m | m
  · rw [hdB_E (mem_lo m).2] at z; cases z
  · rw [hdA_E (mem_hi m).2] at z; cases z
theorem cut_ins (hp : rs.Pairwise headLt) {r : Rule} (h : ruleAt rs q x = some r) : insR (cutR rs q x) r = rs := by
  have e := at_E h
  unfold hdE at e
  simp only [Bool.and_eq_true, decide_eq_true_eq] at e
  have s := split (q := q) (x := x) hp
  unfold insR
  rw [e.1, e.2, cut_lo, cut_hi]
  rw [h] at s
  have s' : rs = loR rs q x ++ r :: hiR rs q x := by simpa using s
  exact s'.symm
end
theorem ins_cut {rs : List Rule} (hp : rs.Pairwise headLt) {r : Rule} (h : ruleAt rs r.1 r.2.1 = none) : cutR (insR rs r) r.1 r.2.1 = rs := by
  have s := split (q := r.1) (x := r.2.1) hp
  rw [h] at s
  have hE : hdE r.1 r.2.1 r = true := by simp [hdE]
  have e1 : loR (insR rs r) r.1 r.2.1 = loR rs r.1 r.2.1 := by
    show (insR rs r).filter _ = _
    unfold insR
    rw [List.filter_append, List.filter_cons_of_neg (by rw [hdE_B hE]; exact Bool.noConfusion), filt_lo.1, filt_hi.1, List.append_nil]
  have e2 : hiR (insR rs r) r.1 r.2.1 = hiR rs r.1 r.2.1 := by
    show (insR rs r).filter _ = _
    unfold insR
    rw [List.filter_append, List.filter_cons_of_neg (by rw [hdE_A hE]; exact Bool.noConfusion), filt_lo.2.1, filt_hi.2.1, List.nil_append]
  show loR _ _ _ ++ hiR _ _ _ = _
  rw [e1, e2]
  simpa using s.symm
theorem ins_at {rs : List Rule} {r : Rule} : ruleAt (insR rs r) r.1 r.2.1 = some r := by
  unfold ruleAt insR
  rw [List.find?_append]
  have hE : hdE r.1 r.2.1 r = true := by simp [hdE]
  have h1 : (loR rs r.1 r.2.1).find? (fun a => decide ((a.1 : Int) = (r.1 : Int)) && decide (a.2.1 = r.2.1)) = none := List.find?_eq_none.mpr fun a m z => by
    have z : hdE r.1 r.2.1 a = true := z
    rw [hdB_E (mem_lo m).2] at z; cases z
  rw [h1]
  have h2 : List.find? (fun a => decide ((a.1 : Int) = (r.1 : Int)) && decide (a.2.1 = r.2.1)) (r :: hiR rs r.1 r.2.1) = some r := List.find?_cons_of_pos hE
  rw [h2]
  rfl
/-! sifted lists -/
theorem lcL_filter {t : Tg} {cond : TF} {elt : EF} {rw_ : Sl} {S : Store} (p : PyData → Bool) : ∀ (ds acc : List PyData), acc.length + ds.length ≤ sizeLine → (∀ d ∈ ds, ∃ rho1, put t (.dat d) rw_ = some rho1 ∧ cond rho1 S = .ok (p d) S ∧ elt rho1 S = .ok (.dat d) S) →
    lcL t cond elt rw_ ds acc S = .ok (acc ++ ds.filter p) S
  | [], acc, _, _ => by simp only [lcL, List.filter_nil, List.append_nil]
  | d :: ds, acc, hl, k => by
    obtain ⟨rho1, e1, e2, e3⟩ := k d List.mem_cons_self
    rw [List.length_cons] at hl
    have hlt : acc.length < sizeLine := by omega
    cases hp : p d with
    | true =>
      simp only [lcL, e1, e2, hp, e3, if_pos hlt]
      rw [lcL_filter p ds (acc ++ [d]) (by rw [List.length_append, List.length_cons, List.length_nil]; omega) fun x hx => k x (List.mem_cons_of_mem _ hx), List.filter_cons_of_pos hp, List.append_assoc]
      rfl
    | false =>
      simp only [lcL, e1, e2, hp]
      rw [lcL_filter p ds acc (by omega) fun x hx => k x (List.mem_cons_of_mem _ hx), List.filter_cons_of_neg (by rw [hp]; exact Bool.noConfusion)]
theorem plain_encG : ∀ g : Tgt, (encG g).plain = true
  | .inl n => rfl
  | .inr x => rfl
theorem plain_encR (r : Rule) : (encR r).plain = true := by
  show PyData.plain (.tuple [_, _, _, _]) = true
  simp only [PyData.plain, PyData.plainAll, plain_encG, plain_strT, tupS, Bool.and_true]
theorem plain_all {α : Type} (f : α → PyData) (h : ∀ a, (f a).plain = true) : ∀ l : List α, PyData.plainAll (l.map f) = true
  | [] => rfl
  | a :: l => by simp only [List.map_cons, PyData.plainAll, h a, plain_all f h l, Bool.and_self]
theorem plain_encM (m : Md) : (encM m).plain = true := by
  show PyData.plain (.tuple [_, _, _, _, _]) = true
  simp only [PyData.plain, PyData.plainAll, plain_strT, tupS, Bool.and_true, plain_all encR plain_encR, plain_all encE (fun e => rfl), Bool.and_self]
mutual
theorem eqv_refl : ∀ d : PyData, d.plain = true → PyData.eqv d d = true
  | .none, _ => rfl
  | .bool b, _ => by cases b <;> rfl
  | .int i, _ => by simp [PyData.eqv]
  | .str x, _ => by simp [PyData.eqv]
  | .tuple ds, h => by
    rw [PyData.plain] at h
    rw [PyData.eqv]
    exact eqv_reflL ds h
  | .list ds, h => by
    rw [PyData.plain] at h
    rw [PyData.eqv]
    exact eqv_reflL ds h
  | .dict kvs, h => by simp [PyData.plain] at h
theorem eqv_reflL : ∀ ds : List PyData, PyData.plainAll ds = true → PyData.eqvAll ds ds = true
  | [], _ => rfl
  | d :: ds, h => by
    rw [PyData.plainAll, Bool.and_eq_true] at h
    rw [PyData.eqvAll, eqv_refl d h.1, eqv_reflL ds h.2]
    rfl
end
def lstO (a : D) (S : Store) : R (List PyData) := match a with
  | .dat (.list ds) => .ok ds S
  | _ => .bad
theorem e_ilst {f : EF} {rho : Sl} {S : Store} : iLst f rho S = (f rho S).bind fun a S1 => lstO a S1 := id rfl
theorem lstO_l {ds : List PyData} {S : Store} : lstO (.dat (.list ds)) S = .ok ds S := id rfl
end L3

/-! L3Blk -/
/-! Blocks: words that are repeated. -/
namespace L3
open PySem PySem.Spec PyProof.Rows L2
abbrev Blk := List Str × Nat
def encK (b : Blk) : PyData := .tuple [tupS b.1, .int (b.2 : Nat)]
def bsD (bs : List Blk) : PyData := .tuple (bs.map encK)
def lenK : List Blk → Nat
  | [] => 0
  | b :: r => b.1.length * b.2 + lenK r
def labK : List Blk → Nat → Str
  | [], _ => ""
  | b :: r, p => if p < b.1.length * b.2 then b.1.getD (p % b.1.length) "" else labK r (p - b.1.length * b.2)
def restK (w : List Str) (t n : Nat) : List Blk :=
  if n % w.length = 0 then [(w, t - n / w.length)]
  else if t - n / w.length = 1 then [(w.drop (n % w.length), 1)]
  else [(w.drop (n % w.length), 1), (w, t - n / w.length - 1)]
def dropK : List Blk → Nat → List Blk
  | [], _ => []
  | b :: r, n => if n < b.1.length * b.2 then restK b.1 b.2 n ++ r else dropK r (n - b.1.length * b.2)
structure KOk (ls : List Str) (b : Blk) : Prop where
  ne : 0 < b.1.length
  mem : ∀ x ∈ b.1, x ∈ ls
  pos : 1 ≤ b.2
  most : b.2 ≤ 10 ^ 30
theorem lenK_app : ∀ a b : List Blk, lenK (a ++ b) = lenK a + lenK b
  | [], b => by simp [lenK]
  | x :: a, b => by simp only [List.cons_append, lenK, lenK_app a b]; omega
/-- what n is made of -/
theorem dm {L t n : Nat} (hL : 0 < L) (h : n < L * t) : n / L < t ∧ n = n / L * L + n % L ∧ n % L < L := by
  refine ⟨Nat.div_lt_of_lt_mul h, ?_, Nat.mod_lt _ hL⟩
  have := Nat.div_add_mod n L
  rw [Nat.mul_comm] at this
  exact this.symm
theorem dm_of {L q p : Nat} (h : p < L) : (q * L + p) / L = q ∧ (q * L + p) % L = p := by
  constructor
  · rw [Nat.mul_comm, Nat.mul_add_div (by omega), Nat.div_eq_of_lt h, Nat.add_zero]
  · rw [Nat.mul_comm, Nat.mul_add_mod, Nat.mod_eq_of_lt h]
theorem rest_of {w : List Str} {t q p : Nat} (h : p < w.length) : restK w t (q * w.length + p) = if p = 0 then [(w, t - q)] else if t - q = 1 then [(w.drop p, 1)] else [(w.drop p, 1), (w, t - q - 1)] := by
  unfold restK
  rw [(dm_of h).1, (dm_of h).2]
theorem lenK_rest {w : List Str} {t n : Nat} (hw : 0 < w.length) (h : n < w.length * t) : lenK (restK w t n) = w.length * t - n := by
  obtain ⟨hq, e, hp⟩ := dm hw h
  generalize n / w.length = q at *
  generalize n % w.length = p at *
  subst e
  rw [rest_of hp]
  obtain ⟨d, rfl⟩ : ∃ d, t = q + 1 + d := ⟨t - (q + 1), by omega⟩
  have e1 : w.length * (q + 1 + d) = q * w.length + w.length + w.length * d := by rw [Nat.mul_add, Nat.mul_add, Nat.mul_one, Nat.mul_comm w.length q]
  rw [e1]
  split
  · next h0 =>
    simp only [lenK]
    rw [show q + 1 + d - q = 1 + d by omega, Nat.mul_add, Nat.mul_one]
    omega
  · split
    · next h0 h1 =>
      have : d = 0 := by omega
      subst this
      simp only [lenK, List.length_drop]
      omega
    · next h0 h1 =>
      simp only [lenK, List.length_drop]
      rw [show q + 1 + d - q - 1 = d by omega]
      omega
theorem drop_rest {w : List Str} {t a b : Nat} {r : List Blk} (hw : 0 < w.length) (h : a < w.length * t) : dropK (restK w t a ++ r) b = if a + b < w.length * t then restK w t (a + b) ++ r else dropK r (a + b - w.length * t) := by
  obtain ⟨hq, e, hp⟩ := dm hw h
  generalize a / w.length = q at *
  generalize a % w.length = p at *
  subst e
  rw [rest_of hp]
  obtain ⟨d, rfl⟩ : ∃ d, t = q + 1 + d := ⟨t - (q + 1), by omega⟩
  have e1 : w.length * (q + 1 + d) = q * w.length + w.length + w.length * d := by rw [Nat.mul_add, Nat.mul_add, Nat.mul_one, Nat.mul_comm w.length q]
  have e2 : w.length * (1 + d) = w.length + w.length * d := by rw [Nat.mul_add, Nat.mul_one]
  -- the block w repeated m times behind q repetitions
  have key : ∀ m c : Nat, q + 1 + d = q + m + (1 + d - m) → m ≤ 1 + d → c < w.length * m → restK w m c = restK w (q + 1 + d) ((q + 1 + d - m) * w.length + c) := by
    intro m c _ hm hc
    obtain ⟨hq2, ec, hp2⟩ := dm hw hc
    generalize c / w.length = q2 at *
    generalize c % w.length = p2 at *
    subst ec
    have : (q + 1 + d - m) * w.length + (q2 * w.length + p2) = (q + 1 + d - m + q2) * w.length + p2 := by rw [Nat.add_mul]; omega
    rw [this, rest_of hp2, rest_of hp2, show q + 1 + d - (q + 1 + d - m + q2) = m - q2 by omega]
  rw [e1]
  by_cases h0 : p = 0
  · subst h0
    rw [if_pos rfl]
    simp only [List.cons_append, List.nil_append, dropK]
    rw [show q + 1 + d - q = 1 + d by omega, e2]
    by_cases hb : b < w.length + w.length * d
    · rw [if_pos hb, if_pos (by omega), key (1 + d) b (by omega) (by omega) (by rw [e2]; exact hb), show q + 1 + d - (1 + d) = q by omega]
      simp only [Nat.add_zero]
    · rw [if_neg hb, if_neg (by omega)]
      congr 1
      omega
  · rw [if_neg h0]
    have first : ∀ r', dropK ((w.drop p, 1) :: r') b = if b < w.length - p then (w.drop (p + b), 1) :: r' else dropK r' (b - (w.length - p)) := by
      intro r'
      simp only [dropK, List.length_drop, Nat.mul_one]
      by_cases hb : b < w.length - p
      · rw [if_pos hb, if_pos hb]
        have : restK (w.drop p) 1 b = [((w.drop p).drop b, 1)] := by
          have hb' : b < (w.drop p).length := by rw [List.length_drop]; exact hb
          have := rest_of (w := w.drop p) (t := 1) (q := 0) hb'
          rw [Nat.zero_mul, Nat.zero_add] at this
          rw [this]
          by_cases hb0 : b = 0
          · subst hb0; simp
          · rw [if_neg hb0, if_pos rfl]
        rw [this, List.drop_drop]
        rfl
      · rw [if_neg hb, if_neg hb]
    by_cases h1 : q + 1 + d - q = 1
    · have hd : d = 0 := by omega
      subst hd
      rw [if_pos h1]
      simp only [List.cons_append, List.nil_append]
      rw [first]
      by_cases hb : b < w.length - p
      · rw [if_pos hb, if_pos (by omega), show q * w.length + p + b = q * w.length + (p + b) by omega, rest_of (by omega), if_neg (by omega), if_pos h1]
        rfl
      · rw [if_neg hb, if_neg (by omega)]
        congr 1
        omega
    · rw [if_neg h1]
      simp only [List.cons_append, List.nil_append]
      rw [first, show q + 1 + d - q - 1 = d by omega]
      by_cases hb : b < w.length - p
      · rw [if_pos hb, if_pos (by omega), show q * w.length + p + b = q * w.length + (p + b) by omega, rest_of (by omega), if_neg (by omega), if_neg h1, show q + 1 + d - q - 1 = d by omega]
        rfl
      · rw [if_neg hb]
        simp only [dropK]
        by_cases hc : b - (w.length - p) < w.length * d
        · rw [if_pos hc, if_pos (by omega), key d _ (by omega) (by omega) hc]
          congr 2
          rw [show q + 1 + d - d = q + 1 by omega, Nat.add_mul]
          omega
        · rw [if_neg hc, if_neg (by omega)]
          congr 1
          omega
theorem lenK_drop : ∀ (bs : List Blk) (n : Nat), (∀ b ∈ bs, 0 < b.1.length) → lenK (dropK bs n) = lenK bs - n
  | [], n, _ => by simp [dropK, lenK]
  | b :: r, n, h => by
    simp only [dropK, lenK]
    split
    · next hn => rw [lenK_app, lenK_rest (h b List.mem_cons_self) hn]; omega
    · next hn => rw [lenK_drop r _ fun x hx => h x (List.mem_cons_of_mem _ hx)]; omega
theorem drop_add : ∀ (bs : List Blk) (a b : Nat), (∀ b ∈ bs, 0 < b.1.length) → dropK (dropK bs a) b = dropK bs (a + b)
  | [], a, b, _ => by simp [dropK]
  | x :: r, a, b, h => by
    simp only [dropK]
    by_cases ha : a < x.1.length * x.2
    · rw [if_pos ha, drop_rest (h x List.mem_cons_self) ha]
    · rw [if_neg ha, drop_add r _ _ fun y hy => h y (List.mem_cons_of_mem _ hy), if_neg (by omega)]
      congr 1
      omega
theorem restK_ok {ls : List Str} {b : Blk} {n : Nat} (h : KOk ls b) (hn : n < b.1.length * b.2) : ∀ x ∈ restK b.1 b.2 n, KOk ls x := by
  obtain ⟨hq, e, hp⟩ := dm h.ne hn
  generalize n / b.1.length = q at *
  generalize n % b.1.length = p at *
  subst e
  rw [rest_of hp]
  have h2 := h.most
  have d1 : ∀ k, 1 ≤ k → k ≤ b.2 → KOk ls (b.1, k) := fun k h1 h3 => ⟨h.ne, h.mem, h1, by show k ≤ _; omega⟩
  have d2 : KOk ls (b.1.drop p, 1) := ⟨by show 0 < (b.1.drop p).length; rw [List.length_drop]; omega, fun x hx => h.mem x (List.mem_of_mem_drop hx), Nat.le_refl _, by show 1 ≤ 10 ^ 30; decide⟩
  intro x hx
  split at hx
  · rw [List.mem_singleton.mp hx]
    exact d1 _ (by omega) (by omega)
  · split at hx
    · rw [List.mem_singleton.mp hx]; exact d2
    · rcases List.mem_cons.mp hx with rfl | hx
      · exact d2
      · rw [List.mem_singleton.mp hx]
        exact d1 _ (by omega) (by omega)
theorem dropK_ok {ls : List Str} : ∀ {bs : List Blk} {n : Nat}, (∀ b ∈ bs, KOk ls b) → ∀ x ∈ dropK bs n, KOk ls x
  | [], _, _, x, hx => by cases hx
  | b :: r, n, h, x, hx => by
    simp only [dropK] at hx
    split at hx
    · next hn =>
      rcases List.mem_append.mp hx with hx | hx
      · exact restK_ok (h b List.mem_cons_self) hn x hx
      · exact h x (List.mem_cons_of_mem _ hx)
    · exact dropK_ok (fun y hy => h y (List.mem_cons_of_mem _ hy)) x hx
theorem restK_len {w : List Str} {t n : Nat} : (restK w t n).length ≤ 2 := by
  unfold restK
  split
  · simp
  · split <;> simp
theorem dropK_len : ∀ {bs : List Blk} {n : Nat}, (dropK bs n).length ≤ bs.length + 1
  | [], _ => by simp [dropK]
  | b :: r, n => by
    simp only [dropK]
    split
    · have := restK_len (w := b.1) (t := b.2) (n := n)
      rw [List.length_append, List.length_cons]
      omega
    · have := dropK_len (bs := r) (n := n - b.1.length * b.2)
      rw [List.length_cons]
      omega
theorem lab0_rest {w : List Str} {t n : Nat} {r : List Blk} (hw : 0 < w.length) (h : n < w.length * t) : labK (restK w t n ++ r) 0 = w.getD (n % w.length) "" := by
  obtain ⟨hq, e, hp⟩ := dm hw h
  generalize eq : n / w.length = q at *
  generalize ep : n % w.length = p at *
  subst e
  rw [rest_of hp]
  have d2 : ∀ r', labK ((w.drop p, 1) :: r') 0 = w.getD p "" := fun r' => by
    simp only [labK, List.length_drop, Nat.mul_one, Nat.zero_mod]
    rw [if_pos (by omega)]
    simp [List.getD_eq_getElem?_getD]
  split
  · next h0 =>
    subst h0
    simp only [List.cons_append, List.nil_append, labK, Nat.zero_mod]
    rw [if_pos (Nat.mul_pos hw (by omega))]
  · split
    · exact d2 _
    · exact d2 _
theorem lab0_drop : ∀ (bs : List Blk) (n : Nat), (∀ b ∈ bs, 0 < b.1.length) → labK (dropK bs n) 0 = labK bs n
  | [], _, _ => rfl
  | b :: r, n, h => by
    simp only [dropK, labK]
    split
    · next hn => exact lab0_rest (h b List.mem_cons_self) hn
    · next hn => exact lab0_drop r _ fun y hy => h y (List.mem_cons_of_mem _ hy)
theorem lenK_pos {ls : List Str} : ∀ {bs : List Blk}, (∀ b ∈ bs, KOk ls b) → bs ≠ [] → 0 < lenK bs
  | [], _, h => absurd rfl h
  | b :: r, h, _ => by
    have hb := h b List.mem_cons_self
    have := Nat.mul_pos hb.ne hb.pos
    simp only [lenK]
    omega
theorem drop_nil {ls : List Str} {bs : List Blk} {n : Nat} (h : ∀ b ∈ bs, KOk ls b) : dropK bs n = [] ↔ lenK bs ≤ n := by
  have hl := lenK_drop bs n fun b hb => (h b hb).ne
  constructor
  · intro e
    rw [e] at hl
    simp only [lenK] at hl
    omega
  · intro hn
    by_cases e : dropK bs n = []
    · exact e
    · have := lenK_pos (dropK_ok h) e
      omega
theorem dropK_word {k : Nat} : ∀ {bs : List Blk} {n : Nat}, (∀ b ∈ bs, b.1.length ≤ k) → ∀ x ∈ dropK bs n, x.1.length ≤ k
  | [], _, _, x, hx => by cases hx
  | b :: r, n, h, x, hx => by
    simp only [dropK] at hx
    have hb := h b List.mem_cons_self
    split at hx
    · rcases List.mem_append.mp hx with hx | hx
      · unfold restK at hx
        have hd : (b.1.drop (n % b.1.length)).length ≤ k := by rw [List.length_drop]; omega
        split at hx
        · rw [List.mem_singleton.mp hx]; exact hb
        · split at hx
          · rw [List.mem_singleton.mp hx]; exact hd
          · rcases List.mem_cons.mp hx with rfl | hx
            · exact hd
            · rw [List.mem_singleton.mp hx]; exact hb
      · exact h x (List.mem_cons_of_mem _ hx)
    · exact dropK_word (fun y hy => h y (List.mem_cons_of_mem _ hy)) x hx
end L3

/-! L3W -/
/-! Walks of loops and comprehensions. -/
namespace L3
open PySem PySem.Spec PyProof.Rows L2
def SR.lp (r : SR) (k : SF) : SR := match r with
  | .nx rho S => k rho S
  | .ct rho S => k rho S
  | .bk rho S => .nx rho S
  | r => r
def putK (o : Option Sl) (k : Sl → SR) : SR := match o with
  | none => .bad
  | some rho => k rho
section
variable {t : Tg} {b : SF} {rho : Sl} {S : Store} {k : SF} {d : PyData} {ds : List PyData}
theorem forL_nil : forL t b [] rho S = .nx rho S := id rfl
theorem forL_cons : forL t b (d :: ds) rho S = putK (put t (.dat d) rho) fun rho1 => (b rho1 S).lp (forL t b ds) := by
  simp only [forL, putK]
  cases put t (.dat d) rho with
  | none => rfl
  | some rho1 => cases h : b rho1 S <;> simp [SR.lp, h]
theorem putK_some {kk : Sl → SR} : putK (some rho) kk = kk rho := id rfl
theorem lp_nx : (SR.nx rho S).lp k = k rho S := id rfl
theorem lp_ct : (SR.ct rho S).lp k = k rho S := id rfl
theorem lp_bk : (SR.bk rho S).lp k = .nx rho S := id rfl
theorem lp_rt {d : D} : (SR.rt d S).lp k = .rt d S := id rfl
end
def enumF : Nat → List PyData → List PyData
  | _, [] => []
  | k, d :: r => .tuple [.int (k : Nat), d] :: enumF (k + 1) r
theorem enumF_ix : ∀ (ds : List PyData) (k : Nat), ds.mapIdx (fun i d => PyData.tuple [.int ((k + i : Nat) : Int), d]) = enumF k ds
  | [], _ => rfl
  | d :: r, k => by
    rw [List.mapIdx_cons, enumF, ← enumF_ix r (k + 1)]
    refine List.cons_eq_cons.mpr ⟨rfl, ?_⟩
    congr 1
    funext i d
    rw [show k + (i + 1) = k + 1 + i by omega]
theorem enumD_eq (ds : List PyData) : enumD ds = enumF 0 ds := by
  rw [← enumF_ix]
  unfold enumD
  congr 1
  funext i d
  rw [Nat.zero_add]
def enuO (as : List D) (S : Store) : R (List PyData) := match as with
  | [.dat (.tuple ds)] => .ok (enumD ds) S
  | [.dat (.list ds)] => .ok (enumD ds) S
  | _ => .bad
theorem e_enum {r : AF} {rho : Sl} {S : Store} : iEnum r rho S = (r rho S).bind fun as S1 => enuO as S1 := id rfl
theorem enuO_t {ds : List PyData} {S : Store} : enuO [.dat (.tuple ds)] S = .ok (enumD ds) S := id rfl
theorem enuO_l {ds : List PyData} {S : Store} : enuO [.dat (.list ds)] S = .ok (enumD ds) S := id rfl
section
variable {items : NF} {t : Tg} {elt : EF} {cond : TF} {vs : List Nat} {rho : Sl} {S S1 : Store} {α : Type}
theorem lc_go {ds : List PyData} (hi : items rho S = .ok ds S1) (ho : notOwn rho vs = true) (hv : (t.ixs.all fun i => decide (i ∈ vs)) = true) : nLc items t cond elt vs rho S = lcL t cond elt (wipeD rho vs) ds [] S1 := by
  rw [e_nlc, hi, e_bind_ok, if_pos ⟨ho, hv⟩]
theorem nlc_map (as : List α) (enc g : α → PyData) (hi : items rho S = .ok (as.map enc) S1) (ho : notOwn rho vs = true) (hv : (t.ixs.all fun i => decide (i ∈ vs)) = true) (hz : as.length ≤ sizeLine)
    (k : ∀ a ∈ as, ∃ rho1, put t (.dat (enc a)) (wipeD rho vs) = some rho1 ∧ elt rho1 S1 = .ok (.dat (g a)) S1) : nLc items t tTrue elt vs rho S = .ok (as.map g) S1 := by
  rw [lc_go hi ho hv]
  have : ∀ (as : List α) (acc : List PyData), acc.length + as.length ≤ sizeLine → (∀ a ∈ as, ∃ rho1, put t (.dat (enc a)) (wipeD rho vs) = some rho1 ∧ elt rho1 S1 = .ok (.dat (g a)) S1) →
      lcL t tTrue elt (wipeD rho vs) (as.map enc) acc S1 = .ok (acc ++ as.map g) S1 := by
    intro as
    induction as with
    | nil => intro acc _ _; rw [List.map_nil, List.map_nil, List.append_nil]; rfl
    | cons a as ih =>
      intro acc hz k
      obtain ⟨rho1, e1, e2⟩ := k a (List.mem_cons_self ..)
      rw [List.length_cons] at hz
      have hlt : acc.length < sizeLine := by omega
      rw [List.map_cons]
      simp only [lcL, e1, tTrue, e2, if_pos hlt]
      rw [ih (acc ++ [g a]) (by rw [List.length_append, List.length_cons, List.length_nil]; omega) fun x hx => k x (List.mem_cons_of_mem _ hx), List.map_cons, List.append_assoc]
      rfl
  exact this as [] (by rw [List.length_nil]; omega) k
theorem nlc_filter (as : List α) (enc g : α → PyData) (p : α → Bool) (hi : items rho S = .ok (as.map enc) S1) (ho : notOwn rho vs = true) (hv : (t.ixs.all fun i => decide (i ∈ vs)) = true) (hz : as.length ≤ sizeLine)
    (k : ∀ a ∈ as, ∃ rho1, put t (.dat (enc a)) (wipeD rho vs) = some rho1 ∧ cond rho1 S1 = .ok (p a) S1 ∧ (p a = true → elt rho1 S1 = .ok (.dat (g a)) S1)) : nLc items t cond elt vs rho S = .ok ((as.filter p).map g) S1 := by
  rw [lc_go hi ho hv]
  have : ∀ (as : List α) (acc : List PyData), acc.length + as.length ≤ sizeLine → (∀ a ∈ as, ∃ rho1, put t (.dat (enc a)) (wipeD rho vs) = some rho1 ∧ cond rho1 S1 = .ok (p a) S1 ∧ (p a = true → elt rho1 S1 = .ok (.dat (g a)) S1)) →
      lcL t cond elt (wipeD rho vs) (as.map enc) acc S1 = .ok (acc ++ (as.filter p).map g) S1 := by
    intro as
    induction as with
    | nil => intro acc _ _; rw [List.map_nil, List.filter_nil, List.map_nil, List.append_nil]; rfl
    | cons a as ih =>
      intro acc hz k
      obtain ⟨rho1, e1, e2, e3⟩ := k a (List.mem_cons_self ..)
      rw [List.length_cons] at hz
      have hlt : acc.length < sizeLine := by omega
      rw [List.map_cons]
      cases hp : p a with
      | true =>
        rw [hp] at e2
        simp only [lcL, e1, e2, e3 hp, if_pos hlt]
        rw [ih (acc ++ [g a]) (by rw [List.length_append, List.length_cons, List.length_nil]; omega) fun x hx => k x (List.mem_cons_of_mem _ hx), List.filter_cons, if_pos hp, List.map_cons, List.append_assoc]
        rfl
      | false =>
        rw [hp] at e2
        simp only [lcL, e1, e2]
        rw [ih acc (by omega) fun x hx => k x (List.mem_cons_of_mem _ hx), List.filter_cons, if_neg (by rw [hp]; decide)]
  exact this as [] (by rw [List.length_nil]; omega) k
/-- a comprehension whose items draw -/
theorem nlc_ix (ds : List PyData) (P : Nat → List PyData → Store → Prop) (hi : items rho S = .ok ds S1) (ho : notOwn rho vs = true) (hv : (t.ixs.all fun i => decide (i ∈ vs)) = true) (h0 : P 0 [] S1)
    (k : ∀ j d acc S, ds[j]? = some d → P j acc S → ∃ rho1 p S2, put t (.dat d) (wipeD rho vs) = some rho1 ∧ elt rho1 S = .ok (.dat p) S2 ∧ acc.length < sizeLine ∧ P (j + 1) (acc ++ [p]) S2) :
    ∃ acc' S', nLc items t tTrue elt vs rho S = .ok acc' S' ∧ P ds.length acc' S' := by
  rw [lc_go hi ho hv]
  obtain ⟨acc', S', e, h⟩ := lcL_ix P ds 0 [] S1 h0 fun j d acc S e q => by
    rw [Nat.zero_add] at q ⊢
    exact k j d acc S e q
  rw [Nat.zero_add] at h
  exact ⟨acc', S', e, h⟩
end
theorem line_small {n : Nat} (h : n ≤ 10000000) : n ≤ sizeLine := line_ge h
theorem two_min (a b : Nat) : (two2 fun i j => if j < i then j else i) [.dat (.int (a : Nat)), .dat (.int (b : Nat))] = some (.dat (.int ((min a b : Nat) : Int))) := by
  show some (D.dat (.int (if (b : Int) < (a : Int) then (b : Int) else (a : Int)))) = _
  congr 3
  split <;> omega
theorem two_max (a b : Nat) : (two2 fun i j => if j > i then j else i) [.dat (.int (a : Nat)), .dat (.int (b : Nat))] = some (.dat (.int ((max a b : Nat) : Int))) := by
  show some (D.dat (.int (if (b : Int) > (a : Int) then (b : Int) else (a : Int)))) = _
  congr 3
  split <;> omega
theorem wipe_nil {rho : Sl} : wipeD rho [] = rho := rfl
end L3

/-! G23 -/
namespace L3.LK23
open PySem PySem.Spec PyProof.Rows L2 L3
def topS (i : Nat) : Stmt := PySem.Challenge.pw_piledoors_k23_labels_dropped.main.body.getD i (.Pass ⟨0, 0, 0, 0⟩)
abbrev s_is_whole : Stmt := topS 10
abbrev s_is_whole_within : Stmt := topS 11
abbrev s_is_tuple_of : Stmt := topS 12
abbrev s_are_names : Stmt := topS 13
abbrev s_is_labels : Stmt := topS 17
abbrev s_is_word : Stmt := topS 18
abbrev s_require_labels : Stmt := topS 19
abbrev s_is_blocks : Stmt := topS 22
abbrev s_blocks_length : Stmt := topS 23
abbrev s_label_at : Stmt := topS 24
abbrev s_dropped : Stmt := topS 25
abbrev s_is_block : Stmt := topS 26
abbrev s_length_of : Stmt := topS 27
abbrev s_label_of : Stmt := topS 28
abbrev s_without_first : Stmt := topS 29
abbrev s_rest_of_block : Stmt := topS 30
abbrev s_require_blocks : Stmt := topS 31
abbrev s_require_number : Stmt := topS 32
abbrev s__law_stream : Stmt := topS 34
abbrev s__law_draw : Stmt := topS 35
abbrev s__law_letters : Stmt := topS 36
abbrev s__law_names : Stmt := topS 37
abbrev s__law_times : Stmt := topS 38
abbrev s__law_block_word : Stmt := topS 39
abbrev s__law_blocks : Stmt := topS 40
abbrev s__law_length : Stmt := topS 41
abbrev s__law_label : Stmt := topS 42
abbrev s__law_positions : Stmt := topS 43
abbrev s__law_cut : Stmt := topS 44
abbrev s__law_same : Stmt := topS 45
abbrev s__law_drop_right : Stmt := topS 46
abbrev s_law : Stmt := topS 47
def k_MAX_LETTERS : PyData := .int 8
def k_EMPTY : PyData := .str ""
def k_MAX_LABELS : PyData := .int 12
def k_MAX_TIMES : PyData := .int 1000000000000000000000000000000
abbrev n_is_whole : List Str := ["value"]
theorem sc_is_whole : FnScope n_is_whole ["value"] (defScope s_is_whole) := ⟨rfl, rfl, rfl, by decide +kernel, rfl, by decide +kernel, by decide +kernel⟩
abbrev n_is_whole_within : List Str := ["value", "low", "high"]
theorem sc_is_whole_within : FnScope n_is_whole_within ["value", "low", "high"] (defScope s_is_whole_within) := ⟨rfl, rfl, rfl, by decide +kernel, rfl, by decide +kernel, by decide +kernel⟩
abbrev n_is_tuple_of : List Str := ["value", "length"]
theorem sc_is_tuple_of : FnScope n_is_tuple_of ["value", "length"] (defScope s_is_tuple_of) := ⟨rfl, rfl, rfl, by decide +kernel, rfl, by decide +kernel, by decide +kernel⟩
abbrev n_are_names : List Str := ["value", "ascending", "last", "name", "text"]
theorem sc_are_names : FnScope n_are_names ["value", "ascending"] (defScope s_are_names) := ⟨rfl, rfl, rfl, by decide +kernel, rfl, by decide +kernel, by decide +kernel⟩
abbrev n_is_labels : List Str := ["value"]
theorem sc_is_labels : FnScope n_is_labels ["value"] (defScope s_is_labels) := ⟨rfl, rfl, rfl, by decide +kernel, rfl, by decide +kernel, by decide +kernel⟩
abbrev n_is_word : List Str := ["labels", "value", "label"]
theorem sc_is_word : FnScope n_is_word ["labels", "value"] (defScope s_is_word) := ⟨rfl, rfl, rfl, by decide +kernel, rfl, by decide +kernel, by decide +kernel⟩
abbrev n_require_labels : List Str := ["labels"]
theorem sc_require_labels : FnScope n_require_labels ["labels"] (defScope s_require_labels) := ⟨rfl, rfl, rfl, by decide +kernel, rfl, by decide +kernel, by decide +kernel⟩
abbrev n_is_block : List Str := ["labels", "value"]
theorem sc_is_block : FnScope n_is_block ["labels", "value"] (defScope s_is_block) := ⟨rfl, rfl, rfl, by decide +kernel, rfl, by decide +kernel, by decide +kernel⟩
abbrev n_is_blocks : List Str := ["labels", "value", "part"]
theorem sc_is_blocks : FnScope n_is_blocks ["labels", "value"] (defScope s_is_blocks) := ⟨rfl, rfl, rfl, by decide +kernel, rfl, by decide +kernel, by decide +kernel⟩
abbrev n_length_of : List Str := ["blocks", "word", "times"]
theorem sc_length_of : FnScope n_length_of ["blocks"] (defScope s_length_of) := ⟨rfl, rfl, rfl, by decide +kernel, rfl, by decide +kernel, by decide +kernel⟩
abbrev n_require_blocks : List Str := ["labels", "blocks"]
theorem sc_require_blocks : FnScope n_require_blocks ["labels", "blocks"] (defScope s_require_blocks) := ⟨rfl, rfl, rfl, by decide +kernel, rfl, by decide +kernel, by decide +kernel⟩
abbrev n_blocks_length : List Str := ["labels", "blocks"]
theorem sc_blocks_length : FnScope n_blocks_length ["labels", "blocks"] (defScope s_blocks_length) := ⟨rfl, rfl, rfl, by decide +kernel, rfl, by decide +kernel, by decide +kernel⟩
abbrev n_label_of : List Str := ["blocks", "position", "word", "times"]
theorem sc_label_of : FnScope n_label_of ["blocks", "position"] (defScope s_label_of) := ⟨rfl, rfl, rfl, by decide +kernel, rfl, by decide +kernel, by decide +kernel⟩
abbrev n_require_number : List Str := ["value"]
theorem sc_require_number : FnScope n_require_number ["value"] (defScope s_require_number) := ⟨rfl, rfl, rfl, by decide +kernel, rfl, by decide +kernel, by decide +kernel⟩
abbrev n_label_at : List Str := ["labels", "blocks", "position"]
theorem sc_label_at : FnScope n_label_at ["labels", "blocks", "position"] (defScope s_label_at) := ⟨rfl, rfl, rfl, by decide +kernel, rfl, by decide +kernel, by decide +kernel⟩
abbrev n_rest_of_block : List Str := ["word", "times", "many", "whole", "part"]
theorem sc_rest_of_block : FnScope n_rest_of_block ["word", "times", "many"] (defScope s_rest_of_block) := ⟨rfl, rfl, rfl, by decide +kernel, rfl, by decide +kernel, by decide +kernel⟩
abbrev n_without_first : List Str := ["blocks", "many", "at", "word", "times"]
theorem sc_without_first : FnScope n_without_first ["blocks", "many"] (defScope s_without_first) := ⟨rfl, rfl, rfl, by decide +kernel, rfl, by decide +kernel, by decide +kernel⟩
abbrev n_dropped : List Str := ["labels", "blocks", "many"]
theorem sc_dropped : FnScope n_dropped ["labels", "blocks", "many"] (defScope s_dropped) := ⟨rfl, rfl, rfl, by decide +kernel, rfl, by decide +kernel, by decide +kernel⟩
abbrev n__law_stream : List Str := ["script", "at", "cell", "great"]
theorem sc__law_stream : FnScope n__law_stream ["script", "at"] (defScope s__law_stream) := ⟨rfl, rfl, rfl, by decide +kernel, rfl, by decide +kernel, by decide +kernel⟩
abbrev n__law_draw : List Str := ["stream", "total", "found", "one", "stir", "two"]
theorem sc__law_draw : FnScope n__law_draw ["stream", "total"] (defScope s__law_draw) := ⟨rfl, rfl, rfl, by decide +kernel, rfl, by decide +kernel, by decide +kernel⟩
abbrev n__law_letters : List Str := ["stream", "total", "turn"]
theorem sc__law_letters : FnScope n__law_letters ["stream", "total"] (defScope s__law_letters) := ⟨rfl, rfl, rfl, by decide +kernel, rfl, by decide +kernel, by decide +kernel⟩
abbrev n__law_names : List Str := ["stream", "total", "found", "at", "ahead", "behind"]
theorem sc__law_names : FnScope n__law_names ["stream", "total"] (defScope s__law_names) := ⟨rfl, rfl, rfl, by decide +kernel, rfl, by decide +kernel, by decide +kernel⟩
abbrev n__law_times : List Str := ["stream"]
theorem sc__law_times : FnScope n__law_times ["stream"] (defScope s__law_times) := ⟨rfl, rfl, rfl, by decide +kernel, rfl, by decide +kernel, by decide +kernel⟩
abbrev n__law_block_word : List Str := ["stream", "labels", "most", "turn"]
theorem sc__law_block_word : FnScope n__law_block_word ["stream", "labels", "most"] (defScope s__law_block_word) := ⟨rfl, rfl, rfl, by decide +kernel, rfl, by decide +kernel, by decide +kernel⟩
abbrev n__law_blocks : List Str := ["stream", "labels", "most", "found", "turn"]
theorem sc__law_blocks : FnScope n__law_blocks ["stream", "labels", "most"] (defScope s__law_blocks) := ⟨rfl, rfl, rfl, by decide +kernel, rfl, by decide +kernel, by decide +kernel⟩
abbrev n__law_length : List Str := ["blocks", "word", "times"]
theorem sc__law_length : FnScope n__law_length ["blocks"] (defScope s__law_length) := ⟨rfl, rfl, rfl, by decide +kernel, rfl, by decide +kernel, by decide +kernel⟩
abbrev n__law_label : List Str := ["blocks", "position", "word", "times"]
theorem sc__law_label : FnScope n__law_label ["blocks", "position"] (defScope s__law_label) := ⟨rfl, rfl, rfl, by decide +kernel, rfl, by decide +kernel, by decide +kernel⟩
abbrev n__law_positions : List Str := ["stream", "blocks", "length", "border", "found", "word", "times"]
theorem sc__law_positions : FnScope n__law_positions ["stream", "blocks"] (defScope s__law_positions) := ⟨rfl, rfl, rfl, by decide +kernel, rfl, by decide +kernel, by decide +kernel⟩
abbrev n__law_cut : List Str := ["blocks", "many", "at", "word", "count", "whole", "part", "broken", "left", "front", "back"]
theorem sc__law_cut : FnScope n__law_cut ["blocks", "many"] (defScope s__law_cut) := ⟨rfl, rfl, rfl, by decide +kernel, rfl, by decide +kernel, by decide +kernel⟩
abbrev n__law_same : List Str := ["first", "second", "total", "position", "places", "ends", "side", "word", "many", "one", "two", "place", "mine"]
theorem sc__law_same : FnScope n__law_same ["first", "second"] (defScope s__law_same) := ⟨rfl, rfl, rfl, by decide +kernel, rfl, by decide +kernel, by decide +kernel⟩
abbrev n__law_drop_right : List Str := ["stream", "labels", "blocks", "many", "expected", "found", "few"]
theorem sc__law_drop_right : FnScope n__law_drop_right ["stream", "labels", "blocks", "many"] (defScope s__law_drop_right) := ⟨rfl, rfl, rfl, by decide +kernel, rfl, by decide +kernel, by decide +kernel⟩
abbrev n_law : List Str := ["script", "at", "stream", "labels", "turn", "blocks", "before", "position", "found", "twice", "many", "rest"]
theorem sc_law : FnScope n_law ["script"] (defScope s_law) := ⟨rfl, rfl, rfl, by decide +kernel, rfl, by decide +kernel, by decide +kernel⟩
def m_is_whole : SF := (sRet (eTyIs id "int" (eVar 0)))
def f_is_whole : FF := fnF 0 m_is_whole
def m_is_whole_within : SF := (sRet (eAnd (eTyIs id "int" (eVar 0)) (eChain (leD) (leD) (eVar 1) (eVar 0) (eVar 2))))
def f_is_whole_within : FF := fnF 0 m_is_whole_within
def m_is_tuple_of : SF := (sRet (eAnd (eIsi "tuple" (eVar 0)) (eBin (eqD) (eCB (o1 lenD) (aCons (eVar 0) aNil)) (eVar 1))))
def f_is_tuple_of : FF := fnF 0 m_is_tuple_of
def lb_are_names_1 : SF := (sSeq (sIf (tOrL (tNotL (tOf (eIsi "str" (eVar 3)))) (tNotL (tOfB (eChain (leD) (leD) (eD (.int 1)) (eCB (o1 lenD) (aCons (eVar 3) aNil)) (eD k_MAX_LETTERS))))) (sRet (eD (.bool false))) sPass) (sSeq (sIf (tAndL (tOf (eVar 1)) (tOfB (eBin (leD) (eVar 3) (eVar 2)))) (sRet (eD (.bool false))) sPass) (sAsg (.nm 2) (eVar 3))))
def m_are_names : SF := (sSeq (sIf (tNotL (tOf (eIsi "tuple" (eVar 0)))) (sRet (eD (.bool false))) sPass) (sSeq (sAsg (.nm 2) (eD (.str ""))) (sSeq (sFor (iSeq (eVar 0)) (.nm 3) lb_are_names_1) (sSeq (sAsg (.nm 4) (eJoin (eD (.str "")) (eVar 0))) (sRet (eOr (eNotT (eVar 0)) (eAnd (eM0 (fun x => .bool (Txt.isascii x)) (eVar 4)) (eAnd (eM0 (fun x => .bool (Txt.isalpha x)) (eVar 4)) (eM0 (fun x => .bool (Txt.islower x)) (eVar 4))))))))))
def f_are_names : FF := fnF 3 m_are_names
def m_is_labels : SF := (sRet (eAnd (eCall f_are_names 2 (aCons (eVar 0) (aCons (eD (.bool true)) aNil))) (eChain (leD) (leD) (eD (.int 1)) (eCB (o1 lenD) (aCons (eVar 0) aNil)) (eD k_MAX_LABELS))))
def f_is_labels : FF := fnF 0 m_is_labels
def lb_is_word_1 : SF := (sIf (tOrL (tNotL (tOf (eIsi "str" (eVar 2)))) (tOfB (eBin (inA not) (eVar 2) (eVar 0)))) (sRet (eD (.bool false))) sPass)
def m_is_word : SF := (sSeq (sIf (tNotL (tOf (eIsi "tuple" (eVar 1)))) (sRet (eD (.bool false))) sPass) (sSeq (sFor (iSeq (eVar 1)) (.nm 2) lb_is_word_1) (sRet (eD (.bool true)))))
def f_is_word : FF := fnF 1 m_is_word
def m_require_labels : SF := (sIf (tNotL (tOf (eCall f_is_labels 1 (aCons (eVar 0) aNil)))) sNever sPass)
def f_require_labels : FF := fnF 0 m_require_labels
def m_is_block : SF := (sSeq (sIf (tNotL (tAndL (tOf (eCall f_is_tuple_of 2 (aCons (eVar 1) (aCons (eD (.int 2)) aNil)))) (tOf (eCall f_is_whole_within 3 (aCons (eIx (eVar 1) (eD (.int 1))) (aCons (eD (.int 1)) (aCons (eD k_MAX_TIMES) aNil))))))) (sRet (eD (.bool false))) sPass) (sRet (eAnd (eCall f_is_word 2 (aCons (eVar 0) (aCons (eIx (eVar 1) (eD (.int 0))) aNil))) (eBin (gtD) (eCB (o1 lenD) (aCons (eIx (eVar 1) (eD (.int 0))) aNil)) (eD (.int 0))))))
def f_is_block : FF := fnF 0 m_is_block
def le_is_blocks_1 : EF := (eCall f_is_block 2 (aCons (eVar 0) (aCons (eVar 2) aNil)))
def m_is_blocks : SF := (sSeq (sExpr (eCall f_require_labels 1 (aCons (eVar 0) aNil))) (sRet (eAnd (eIsi "tuple" (eVar 1)) (eCB (o1 allD) (aCons (eOfN (nLc (iSeq (eVar 1)) (.nm 2) tTrue le_is_blocks_1 [2])) aNil)))))
def f_is_blocks : FF := fnF 1 m_is_blocks
def le_length_of_1 : EF := (eBin mulD (eCB (o1 lenD) (aCons (eVar 1) aNil)) (eVar 2))
def m_length_of : SF := (sRet (eCB (o1 sumD) (aCons (eOfN (nLc (iSeq (eVar 0)) (.tup [.nm 1, .nm 2]) tTrue le_length_of_1 [1, 2])) aNil)))
def f_length_of : FF := fnF 2 m_length_of
def m_require_blocks : SF := (sIf (tNotL (tOf (eCall f_is_blocks 2 (aCons (eVar 0) (aCons (eVar 1) aNil))))) sNever sPass)
def f_require_blocks : FF := fnF 0 m_require_blocks
def m_blocks_length : SF := (sSeq (sExpr (eCall f_require_blocks 2 (aCons (eVar 0) (aCons (eVar 1) aNil)))) (sRet (eCall f_length_of 1 (aCons (eVar 1) aNil))))
def f_blocks_length : FF := fnF 0 m_blocks_length
def lb_label_of_1 : SF := (sSeq (sIf (tOfB (eBin (ltD) (eVar 1) (eBin mulD (eCB (o1 lenD) (aCons (eVar 2) aNil)) (eVar 3)))) (sRet (eIx (eVar 2) (eBin modD (eVar 1) (eCB (o1 lenD) (aCons (eVar 2) aNil))))) sPass) (sAsg (.nm 1) (eBin subD (eVar 1) (eBin mulD (eCB (o1 lenD) (aCons (eVar 2) aNil)) (eVar 3)))))
def m_label_of : SF := (sSeq (sFor (iSeq (eVar 0)) (.tup [.nm 2, .nm 3]) lb_label_of_1) (sRet (eD k_EMPTY)))
def f_label_of : FF := fnF 2 m_label_of
def m_require_number : SF := (sIf (tNotL (tAndL (tOf (eCall f_is_whole 1 (aCons (eVar 0) aNil))) (tOfB (eBin (geD) (eVar 0) (eD (.int 0)))))) sNever sPass)
def f_require_number : FF := fnF 0 m_require_number
def m_label_at : SF := (sSeq (sExpr (eCall f_require_blocks 2 (aCons (eVar 0) (aCons (eVar 1) aNil)))) (sSeq (sExpr (eCall f_require_number 1 (aCons (eVar 2) aNil))) (sRet (eCall f_label_of 2 (aCons (eVar 1) (aCons (eVar 2) aNil))))))
def f_label_at : FF := fnF 0 m_label_at
def m_rest_of_block : SF := (sSeq (sAsg (.tup [.nm 3, .nm 4]) (eCB (divmodD) (aCons (eVar 2) (aCons (eCB (o1 lenD) (aCons (eVar 0) aNil)) aNil)))) (sSeq (sIf (tOfB (eBin (eqD) (eVar 4) (eD (.int 0)))) (sRet (eTup (aCons (eTup (aCons (eVar 0) (aCons (eBin subD (eVar 1) (eVar 3)) aNil))) aNil))) sPass) (sSeq (sIf (tOfB (eBin (eqD) (eBin subD (eVar 1) (eVar 3)) (eD (.int 1)))) (sRet (eTup (aCons (eTup (aCons (eSl (eVar 0) (oSome (eVar 4)) oNone) (aCons (eD (.int 1)) aNil))) aNil))) sPass) (sRet (eTup (aCons (eTup (aCons (eSl (eVar 0) (oSome (eVar 4)) oNone) (aCons (eD (.int 1)) aNil))) (aCons (eTup (aCons (eVar 0) (aCons (eBin subD (eBin subD (eVar 1) (eVar 3)) (eD (.int 1))) aNil))) aNil)))))))
def f_rest_of_block : FF := fnF 2 m_rest_of_block
def lb_without_first_1 : SF := (sSeq (sIf (tOfB (eBin (ltD) (eVar 1) (eBin mulD (eCB (o1 lenD) (aCons (eVar 3) aNil)) (eVar 4)))) (sRet (eBin addD (eCall f_rest_of_block 3 (aCons (eVar 3) (aCons (eVar 4) (aCons (eVar 1) aNil)))) (eSl (eVar 0) (oSome (eBin addD (eVar 2) (eD (.int 1)))) oNone))) sPass) (sAsg (.nm 1) (eBin subD (eVar 1) (eBin mulD (eCB (o1 lenD) (aCons (eVar 3) aNil)) (eVar 4)))))
def m_without_first : SF := (sSeq (sFor (iEnum (aCons (eVar 0) aNil)) (.tup [.nm 2, .tup [.nm 3, .nm 4]]) lb_without_first_1) (sRet (eTup aNil)))
def f_without_first : FF := fnF 3 m_without_first
def m_dropped : SF := (sSeq (sExpr (eCall f_require_blocks 2 (aCons (eVar 0) (aCons (eVar 1) aNil)))) (sSeq (sExpr (eCall f_require_number 1 (aCons (eVar 2) aNil))) (sRet (eCall f_without_first 2 (aCons (eVar 1) (aCons (eVar 2) aNil))))))
def f_dropped : FF := fnF 0 m_dropped
def m__law_stream : SF := (sSeq (sAsg (.nm 2) (eBin addD (eBin mulD (eD (.int 7)) (eVar 1)) (eD (.int 2)))) (sSeq (sIf (tOfB (eBin (ltD) (eVar 1) (eCB (o1 lenD) (aCons (eVar 0) aNil)))) (sAsg (.nm 2) (eIx (eVar 0) (eVar 1))) sPass) (sSeq (sAsg (.nm 3) (eBin modD (eCB (o1 absD) (aCons (eVar 2) aNil)) (eBin powD (eBin powD (eD (.int 10)) (eD (.int 60))) (eD (.int 11))))) (sRetRef (nLst (aCons (eCB (two2 fun i j => if j > i then j else i) (aCons (eD (.int 0)) (aCons (eBin addD (eBin subD (eVar 3) (eBin powD (eD (.int 10)) (eD (.int 18)))) (eD (.int 1))) aNil))) (aCons (eBin modD (eBin addD (eBin addD (eBin addD (eBin mulD (eVar 3) (eD (.int 7046029267))) (eBin mulD (eD (.int 804379)) (eVar 1))) (eBin mulD (eD (.int 5)) (eCB (o1 toIntD) (aCons (eBin (ltD) (eVar 2) (eD (.int 0))) aNil)))) (eD (.int 3))) (eD (.int 4294967161))) (aCons (eD (.int 0)) aNil))))))))
def f__law_stream : FF := fnF 2 m__law_stream
def m__law_draw : SF := (sSeq (sIf (tOfB (eBin (gtD) (eIx (eVar 0) (eD (.int 0))) (eD (.int 0)))) (sSeq (sAsg (.nm 2) (eBin modD (eIx (eVar 0) (eD (.int 0))) (eVar 1))) (sSeq (sSet (eVar 0) (eD (.int 0)) (eBin fdivD (eIx (eVar 0) (eD (.int 0))) (eVar 1))) (sRet (eVar 2)))) sPass) (sSeq (sSet (eVar 0) (eD (.int 2)) (eBin addD (eIx (eVar 0) (eD (.int 2))) (eD (.int 1)))) (sSeq (sAsg (.nm 3) (eBin modD (eBin addD (eIx (eVar 0) (eD (.int 1))) (eBin mulD (eD (.int 1327217887)) (eIx (eVar 0) (eD (.int 2))))) (eD (.int 4294967143)))) (sSeq (sAsg (.nm 4) (eBin addD (eBin mulD (eBin modD (eBin mulD (eVar 3) (eVar 3)) (eD (.int 4294967111))) (eVar 3)) (eBin mulD (eD (.int 15013)) (eIx (eVar 0) (eD (.int 2)))))) (sSeq (sAsg (.nm 5) (eBin modD (eBin addD (eVar 4) (eBin modD (eIx (eVar 0) (eD (.int 1))) (eD (.int 65521)))) (eD (.int 4294967087)))) (sRet (eBin modD (eBin addD (eBin fdivD (eBin modD (eBin mulD (eVar 5) (eVar 5)) (eD (.int 4294967029))) (eD (.int 128))) (eBin mulD (eBin mulD (eVar 3) (eD (.int 33554432))) (eCB (o1 toIntD) (aCons (eBin (gtD) (eVar 1) (eBin powD (eD (.int 10)) (eD (.int 6)))) aNil)))) (eVar 1))))))))
def f__law_draw : FF := fnF 4 m__law_draw
def le__law_letters_1 : EF := (eIx (eD (.str "abc")) (eCall f__law_draw 2 (aCons (eVar 0) (aCons (eD (.int 3)) aNil))))
def m__law_letters : SF := (sRet (eJoin (eD (.str "")) (eOfN (nLc (iRng (eVar 1)) (.nm 2) tTrue le__law_letters_1 [2]))))
def f__law_letters : FF := fnF 1 m__law_letters
def lb__law_names_1 : SF := (sSeq (sAsg (.nm 4) (eCall f__law_letters 2 (aCons (eVar 0) (aCons (eIx (eLst (aCons (eD (.int 0)) (aCons (eD (.int 0)) (aCons (eD (.int 1)) (aCons (eD (.int 3)) aNil))))) (eCall f__law_draw 2 (aCons (eVar 0) (aCons (eD (.int 4)) aNil)))) aNil)))) (sSeq (sAsg (.nm 5) (eCall f__law_letters 2 (aCons (eVar 0) (aCons (eIx (eLst (aCons (eD (.int 0)) (aCons (eD (.int 0)) (aCons (eD (.int 1)) (aCons (eD (.int 4)) aNil))))) (eCall f__law_draw 2 (aCons (eVar 0) (aCons (eD (.int 4)) aNil)))) aNil)))) (sApp 2 (eBin addD (eBin addD (eVar 4) (eIx (eD (.str "defghijklmno")) (eVar 3))) (eVar 5)))))
def m__law_names : SF := (sSeq (sNew 2 (nLst aNil)) (sSeq (sFor (iRng (eVar 1)) (.nm 3) lb__law_names_1) (sRet (eCB (o1 tupD) (aCons (eCB (o1 sortedD) (aCons (eVar 2) aNil)) aNil)))))
def f__law_names : FF := fnF 4 m__law_names
def m__law_times : SF := (sRet (eIx (eLst (aCons (eD (.int 1)) (aCons (eD (.int 1)) (aCons (eD (.int 2)) (aCons (eD (.int 3)) (aCons (eBin addD (eD (.int 1)) (eCall f__law_draw 2 (aCons (eVar 0) (aCons (eD (.int 12)) aNil)))) (aCons (eBin addD (eD (.int 1)) (eCall f__law_draw 2 (aCons (eVar 0) (aCons (eBin powD (eD (.int 10)) (eD (.int 18))) aNil)))) (aCons (eBin powD (eD (.int 10)) (eD (.int 30))) aNil)))))))) (eCall f__law_draw 2 (aCons (eVar 0) (aCons (eD (.int 7)) aNil)))))
def f__law_times : FF := fnF 0 m__law_times
def le__law_block_word_1 : EF := (eIx (eVar 1) (eCall f__law_draw 2 (aCons (eVar 0) (aCons (eCB (o1 lenD) (aCons (eVar 1) aNil)) aNil))))
def m__law_block_word : SF := (sRet (eCB (o1 tupD) (aCons (eOfN (nLc (iRng (eBin addD (eD (.int 1)) (eCall f__law_draw 2 (aCons (eVar 0) (aCons (eVar 2) aNil))))) (.nm 3) tTrue le__law_block_word_1 [3])) aNil)))
def f__law_block_word : FF := fnF 1 m__law_block_word
def lb__law_blocks_1 : SF := (sApp 3 (eTup (aCons (eCall f__law_block_word 3 (aCons (eVar 0) (aCons (eVar 1) (aCons (eIx (eLst (aCons (eD (.int 1)) (aCons (eD (.int 2)) (aCons (eD (.int 3)) (aCons (eD (.int 5)) aNil))))) (eCall f__law_draw 2 (aCons (eVar 0) (aCons (eD (.int 4)) aNil)))) aNil)))) (aCons (eCall f__law_times 1 (aCons (eVar 0) aNil)) aNil))))
def m__law_blocks : SF := (sSeq (sNew 3 (nLst aNil)) (sSeq (sFor (iRng (eCall f__law_draw 2 (aCons (eVar 0) (aCons (eBin addD (eVar 2) (eD (.int 1))) aNil)))) (.nm 4) lb__law_blocks_1) (sRet (eCB (o1 tupD) (aCons (eVar 3) aNil)))))
def f__law_blocks : FF := fnF 2 m__law_blocks
def le__law_length_1 : EF := (eBin mulD (eCB (o1 lenD) (aCons (eVar 1) aNil)) (eVar 2))
def m__law_length : SF := (sRet (eCB (o1 sumD) (aCons (eOfN (nLc (iSeq (eVar 0)) (.tup [.nm 1, .nm 2]) tTrue le__law_length_1 [1, 2])) aNil)))
def f__law_length : FF := fnF 2 m__law_length
def lb__law_label_1 : SF := (sSeq (sIf (tOfB (eBin (ltD) (eVar 1) (eBin mulD (eCB (o1 lenD) (aCons (eVar 2) aNil)) (eVar 3)))) (sRet (eIx (eVar 2) (eBin modD (eVar 1) (eCB (o1 lenD) (aCons (eVar 2) aNil))))) sPass) (sAsg (.nm 1) (eBin subD (eVar 1) (eBin mulD (eCB (o1 lenD) (aCons (eVar 2) aNil)) (eVar 3)))))
def m__law_label : SF := (sSeq (sFor (iSeq (eVar 0)) (.tup [.nm 2, .nm 3]) lb__law_label_1) (sRet (eD (.str ""))))
def f__law_label : FF := fnF 2 m__law_label
def lb__law_positions_1 : SF := (sSeq (sAsg (.nm 3) (eBin addD (eVar 3) (eBin mulD (eCB (o1 lenD) (aCons (eVar 5) aNil)) (eVar 6)))) (sAsg (.nm 4) (eBin addD (eVar 4) (eLst (aCons (eBin subD (eVar 3) (eD (.int 1))) (aCons (eVar 3) (aCons (eBin addD (eVar 3) (eD (.int 1))) (aCons (eCB (two2 fun i j => if j > i then j else i) (aCons (eD (.int 0)) (aCons (eBin subD (eBin subD (eVar 3) (eD (.int 1))) (eCall f__law_draw 2 (aCons (eVar 0) (aCons (eD (.int 9)) aNil)))) aNil))) aNil))))))))
def m__law_positions : SF := (sSeq (sPar [2, 3] (aCons (eCall f__law_length 1 (aCons (eVar 1) aNil)) (aCons (eD (.int 0)) aNil))) (sSeq (sAsg (.nm 4) (eLst (aCons (eD (.int 0)) (aCons (eVar 2) (aCons (eBin addD (eVar 2) (eD (.int 1))) (aCons (eCB (two2 fun i j => if j > i then j else i) (aCons (eD (.int 0)) (aCons (eBin subD (eVar 2) (eD (.int 1))) aNil))) (aCons (eBin addD (eVar 2) (eBin powD (eD (.int 10)) (eD (.int 35)))) aNil))))))) (sSeq (sFor (iSeq (eVar 1)) (.tup [.nm 5, .nm 6]) lb__law_positions_1) (sRet (eBin addD (eVar 4) (eLst (aCons (eCall f__law_draw 2 (aCons (eVar 0) (aCons (eBin addD (eVar 2) (eD (.int 1))) aNil))) (aCons (eCall f__law_draw 2 (aCons (eVar 0) (aCons (eBin addD (eVar 2) (eD (.int 1))) aNil))) aNil))))))))
def f__law_positions : FF := fnF 5 m__law_positions
def lb__law_cut_1 : SF := (sSeq (sIf (tOfB (eBin (ltD) (eVar 1) (eBin mulD (eCB (o1 lenD) (aCons (eVar 3) aNil)) (eVar 4)))) (sSeq (sPar [5, 6] (aCons (eBin fdivD (eVar 1) (eCB (o1 lenD) (aCons (eVar 3) aNil))) (aCons (eBin modD (eVar 1) (eCB (o1 lenD) (aCons (eVar 3) aNil))) aNil))) (sSeq (sAsg (.nm 7) (eCB (o1 toIntD) (aCons (eBin (gtD) (eVar 6) (eD (.int 0))) aNil))) (sSeq (sAsg (.nm 8) (eBin subD (eBin subD (eVar 4) (eVar 5)) (eVar 7))) (sSeq (sAsg (.nm 9) (eBin addD (eBin mulD (eTup (aCons (eTup (aCons (eVar 3) (aCons (eVar 5) aNil))) aNil)) (eCB (o1 toIntD) (aCons (eBin (gtD) (eVar 5) (eD (.int 0))) aNil))) (eBin mulD (eTup (aCons (eTup (aCons (eSl (eVar 3) oNone (oSome (eVar 6))) (aCons (eD (.int 1)) aNil))) aNil)) (eVar 7)))) (sSeq (sAsg (.nm 10) (eBin addD (eBin mulD (eTup (aCons (eTup (aCons (eSl (eVar 3) (oSome (eVar 6)) oNone) (aCons (eD (.int 1)) aNil))) aNil)) (eVar 7)) (eBin mulD (eTup (aCons (eTup (aCons (eVar 3) (aCons (eVar 8) aNil))) aNil)) (eCB (o1 toIntD) (aCons (eBin (gtD) (eVar 8) (eD (.int 0))) aNil))))) (sRet (eTup (aCons (eBin addD (eSl (eVar 0) oNone (oSome (eVar 2))) (eVar 9)) (aCons (eBin addD (eVar 10) (eSl (eVar 0) (oSome (eBin addD (eVar 2) (eD (.int 1)))) oNone)) aNil))))))))) sPass) (sAsg (.nm 1) (eBin subD (eVar 1) (eBin mulD (eCB (o1 lenD) (aCons (eVar 3) aNil)) (eVar 4)))))
def m__law_cut : SF := (sSeq (sFor (iEnum (aCons (eVar 0) aNil)) (.tup [.nm 2, .tup [.nm 3, .nm 4]]) lb__law_cut_1) (sRet (eTup (aCons (eVar 0) (aCons (eTup aNil) aNil)))))
def f__law_cut : FF := fnF 9 m__law_cut
def lb__law_same_1 : SF := (sIf (tOfB (eBin (eqD) (eIx (eVar 5) (eVar 6)) (eVar 3))) (sSeq (sSetO 4 (eVar 6) (eBin addD (eIx (eVar 4) (eVar 6)) (eD (.int 1)))) (sSeq (sAsg (.tup [.nm 7, .nm 8]) (eIx (eIx (eLst (aCons (eVar 0) (aCons (eVar 1) aNil))) (eVar 6)) (eIx (eVar 4) (eVar 6)))) (sSetO 5 (eVar 6) (eBin addD (eVar 3) (eBin mulD (eCB (o1 lenD) (aCons (eVar 7) aNil)) (eVar 8)))))) sPass)
def lb__law_same_2 : SF := (sSeq (sAsg (.nm 12) (eIx (eVar 9) (eBin modD (eBin subD (eBin addD (eVar 11) (eVar 3)) (eIx (eVar 5) (eD (.int 0)))) (eCB (o1 lenD) (aCons (eVar 9) aNil))))) (sIf (tOfB (eBin (neD) (eVar 12) (eIx (eVar 10) (eBin modD (eBin subD (eBin addD (eVar 11) (eVar 3)) (eIx (eVar 5) (eD (.int 1)))) (eCB (o1 lenD) (aCons (eVar 10) aNil)))))) (sRet (eD (.bool false))) sPass))
def lb__law_same_3 : SF := (sSeq (sFor (iRng (eD (.int 2))) (.nm 6) lb__law_same_1) (sSeq (sPar [9, 10] (aCons (eIx (eIx (eVar 0) (eIx (eVar 4) (eD (.int 0)))) (eD (.int 0))) (aCons (eIx (eIx (eVar 1) (eIx (eVar 4) (eD (.int 1)))) (eD (.int 0))) aNil))) (sSeq (sFor (iRng (eCB (two2 fun i j => if j < i then j else i) (aCons (eBin subD (eCB (o1 minLD) (aCons (eVar 5) aNil)) (eVar 3)) (aCons (eBin addD (eCB (o1 lenD) (aCons (eVar 9) aNil)) (eCB (o1 lenD) (aCons (eVar 10) aNil))) aNil)))) (.nm 11) lb__law_same_2) (sAsg (.nm 3) (eCB (o1 minLD) (aCons (eVar 5) aNil))))))
def lt__law_same_1 : TF := (tOfB (eBin (ltD) (eVar 3) (eVar 2)))
def m__law_same : SF := (sSeq (sPar [2, 3] (aCons (eCall f__law_length 1 (aCons (eVar 0) aNil)) (aCons (eD (.int 0)) aNil))) (sSeq (sIf (tOfB (eBin (neD) (eVar 2) (eCall f__law_length 1 (aCons (eVar 1) aNil)))) (sRet (eD (.bool false))) sPass) (sSeq (sParOO 4 5 (nLst (aCons (eUn negD (eD (.int 1))) (aCons (eUn negD (eD (.int 1))) aNil))) (nLst (aCons (eD (.int 0)) (aCons (eD (.int 0)) aNil)))) (sSeq (sWhile (fun _ _ => 1000000) lt__law_same_1 lb__law_same_3) (sRet (eD (.bool true)))))))
def f__law_same : FF := fnF 11 m__law_same
def m__law_drop_right : SF := (sSeq (sAsg (.nm 4) (eIx (eCall f__law_cut 2 (aCons (eVar 2) (aCons (eVar 3) aNil))) (eD (.int 1)))) (sSeq (sAsg (.nm 5) (eCall f_dropped 3 (aCons (eVar 1) (aCons (eVar 2) (aCons (eVar 3) aNil))))) (sSeq (sIf (tOrL (tOfB (eBin (isD not) (eCall f_is_blocks 2 (aCons (eVar 1) (aCons (eVar 5) aNil))) (eD (.bool true)))) (tNotL (tOf (eCall f__law_same 2 (aCons (eVar 5) (aCons (eVar 4) aNil)))))) (sRet (eD (.bool false))) sPass) (sSeq (sIf (tOfB (eBin (neD) (eBin (eqD) (eVar 5) (eTup aNil)) (eBin (geD) (eVar 3) (eCall f__law_length 1 (aCons (eVar 2) aNil))))) (sRet (eD (.bool false))) sPass) (sSeq (sIf (tOfB (eBin (neD) (eCall f_blocks_length 2 (aCons (eVar 1) (aCons (eVar 5) aNil))) (eCB (two2 fun i j => if j > i then j else i) (aCons (eD (.int 0)) (aCons (eBin subD (eCall f__law_length 1 (aCons (eVar 2) aNil)) (eVar 3)) aNil))))) (sRet (eD (.bool false))) sPass) (sSeq (sIf (tOfB (eBin (neD) (eCall f_label_at 3 (aCons (eVar 1) (aCons (eVar 5) (aCons (eD (.int 0)) aNil)))) (eCall f__law_label 2 (aCons (eVar 2) (aCons (eVar 3) aNil))))) (sRet (eD (.bool false))) sPass) (sSeq (sAsg (.nm 6) (eCall f__law_draw 2 (aCons (eVar 0) (aCons (eBin addD (eVar 3) (eD (.int 1))) aNil)))) (sRet (eCall f__law_same 2 (aCons (eCall f_dropped 3 (aCons (eVar 1) (aCons (eCall f_dropped 3 (aCons (eVar 1) (aCons (eVar 2) (aCons (eVar 6) aNil)))) (aCons (eBin subD (eVar 3) (eVar 6)) aNil)))) (aCons (eVar 4) aNil)))))))))))
def f__law_drop_right : FF := fnF 3 m__law_drop_right
def lb_law_1 : SF := (sIf (tNotL (tOf (eCall f__law_drop_right 4 (aCons (eVar 2) (aCons (eVar 3) (aCons (eVar 5) (aCons (eCB (two2 fun i j => if j > i then j else i) (aCons (eD (.int 0)) (aCons (eVar 7) aNil))) aNil))))))) (sRet (eD (.bool false))) sPass)
def lb_law_2 : SF := (sSeq (sAsg (.nm 5) (eCall f__law_blocks 3 (aCons (eVar 2) (aCons (eVar 3) (aCons (eD (.int 5)) aNil))))) (sSeq (sAsg (.nm 6) (eCB (o1 reprD) (aCons (eVar 5) aNil))) (sSeq (sFor (iLst (eCall f__law_positions 2 (aCons (eVar 2) (aCons (eVar 5) aNil)))) (.nm 7) lb_law_1) (sIf (tOfB (eBin (neD) (eCB (o1 reprD) (aCons (eVar 5) aNil)) (eVar 6))) (sRet (eD (.bool false))) sPass))))
def lb_law_3 : SF := (sSeq (sAsg (.nm 2) (eCall f__law_stream 2 (aCons (eVar 0) (aCons (eVar 1) aNil)))) (sSeq (sAsg (.nm 3) (eCall f__law_names 2 (aCons (eVar 2) (aCons (eBin addD (eD (.int 1)) (eCall f__law_draw 2 (aCons (eVar 2) (aCons (eD (.int 3)) aNil)))) aNil)))) (sFor (iRng (eD (.int 3))) (.nm 4) lb_law_2)))
def le_law_1 : EF := (eCall f_dropped 3 (aCons (eTup (aCons (eD (.str "a")) (aCons (eD (.str "b")) (aCons (eD (.str "c")) aNil)))) (aCons (eVar 5) (aCons (eVar 10) aNil))))
def lb_law_4 : SF := (sSeq (sAsg (.nm 11) (eCall f_dropped 3 (aCons (eTup (aCons (eD (.str "a")) aNil)) (aCons (eVar 9) (aCons (eVar 10) aNil))))) (sIf (tOrL (tOfB (eBin (isD not) (eCall f_is_blocks 2 (aCons (eTup (aCons (eD (.str "a")) aNil)) (aCons (eVar 11) aNil))) (eD (.bool true)))) (tNotL (tOf (eCall f__law_same 2 (aCons (eVar 11) (aCons (eIx (eCall f__law_cut 2 (aCons (eVar 9) (aCons (eVar 10) aNil))) (eD (.int 1))) aNil)))))) (sRet (eD (.bool false))) sPass))
def m_law : SF := (sSeq (sFor (iRng (eCB (two2 fun i j => if j > i then j else i) (aCons (eD (.int 1)) (aCons (eCB (two2 fun i j => if j < i then j else i) (aCons (eD (.int 10)) (aCons (eCB (o1 lenD) (aCons (eVar 0) aNil)) aNil))) aNil)))) (.nm 1) lb_law_3) (sSeq (sAsg (.nm 5) (eTup (aCons (eTup (aCons (eTup (aCons (eD (.str "a")) (aCons (eD (.str "b")) (aCons (eD (.str "c")) aNil)))) (aCons (eBin powD (eD (.int 10)) (eD (.int 30))) aNil))) (aCons (eTup (aCons (eTup (aCons (eD (.str "c")) aNil)) (aCons (eD (.int 2)) aNil))) aNil)))) (sSeq (sAsg (.nm 8) (eOfN (nLc (iSeq (eTup (aCons (eBin subD (eBin mulD (eD (.int 3)) (eBin powD (eD (.int 10)) (eD (.int 30)))) (eD (.int 1))) (aCons (eBin addD (eBin mulD (eD (.int 3)) (eBin powD (eD (.int 10)) (eD (.int 30)))) (eD (.int 1))) (aCons (eBin addD (eBin mulD (eD (.int 3)) (eBin powD (eD (.int 10)) (eD (.int 30)))) (eD (.int 2))) aNil))))) (.nm 10) tTrue le_law_1 [10]))) (sSeq (sIf (tOrL (tNotL (tOf (eCall f__law_same 2 (aCons (eIx (eVar 8) (eD (.int 0))) (aCons (eTup (aCons (eTup (aCons (eTup (aCons (eD (.str "c")) aNil)) (aCons (eD (.int 3)) aNil))) aNil)) aNil))))) (tOrL (tNotL (tOf (eCall f__law_same 2 (aCons (eIx (eVar 8) (eD (.int 1))) (aCons (eTup (aCons (eTup (aCons (eTup (aCons (eD (.str "c")) aNil)) (aCons (eD (.int 1)) aNil))) aNil)) aNil))))) (tOfB (eBin (neD) (eIx (eVar 8) (eD (.int 2))) (eTup aNil))))) (sRet (eD (.bool false))) sPass) (sSeq (sAsg (.nm 9) (eBin mulD (eTup (aCons (eTup (aCons (eTup (aCons (eD (.str "a")) aNil)) (aCons (eBin powD (eD (.int 10)) (eD (.int 30))) aNil))) aNil)) (eD (.int 2)))) (sSeq (sFor (iSeq (eTup (aCons (eD (.int 0)) (aCons (eD (.int 1)) (aCons (eBin subD (eBin powD (eD (.int 10)) (eD (.int 30))) (eD (.int 1))) (aCons (eBin addD (eBin powD (eD (.int 10)) (eD (.int 30))) (eD (.int 1))) aNil)))))) (.nm 10) lb_law_4) (sRet (eAnd (eBin (eqD) (eCall f_dropped 3 (aCons (eTup (aCons (eD (.str "a")) aNil)) (aCons (eTup aNil) (aCons (eD (.int 0)) aNil)))) (eTup aNil)) (eBin (eqD) (eCall f_dropped 3 (aCons (eTup (aCons (eD (.str "a")) aNil)) (aCons (eTup aNil) (aCons (eBin powD (eD (.int 10)) (eD (.int 39))) aNil)))) (eTup aNil))))))))))
def f_law : FF := fnF 11 m_law
structure Nv (K : PySem.W.Frag) (mg : Str → Option Value) : Prop where
  z_abs : mg "abs" = none
  z_all : mg "all" = none
  z_divmod : mg "divmod" = none
  z_enumerate : mg "enumerate" = none
  z_int : mg "int" = none
  z_isinstance : mg "isinstance" = none
  z_len : mg "len" = none
  z_max : mg "max" = none
  z_min : mg "min" = none
  z_range : mg "range" = none
  z_repr : mg "repr" = none
  z_sorted : mg "sorted" = none
  z_str : mg "str" = none
  z_sum : mg "sum" = none
  z_tuple : mg "tuple" = none
  z_type : mg "type" = none
  k_MAX_LETTERS : ∃ u, mg "MAX_LETTERS" = some u ∧ KD K k_MAX_LETTERS u
  k_EMPTY : ∃ u, mg "EMPTY" = some u ∧ KD K k_EMPTY u
  k_MAX_LABELS : ∃ u, mg "MAX_LABELS" = some u ∧ KD K k_MAX_LABELS u
  k_MAX_TIMES : ∃ u, mg "MAX_TIMES" = some u ∧ KD K k_MAX_TIMES u
  d_is_whole : ∃ f fd, mg "is_whole" = some (.ref f) ∧ Fun K "is_whole" "is_whole" s_is_whole f fd
  d_is_whole_within : ∃ f fd, mg "is_whole_within" = some (.ref f) ∧ Fun K "is_whole_within" "is_whole_within" s_is_whole_within f fd
  d_is_tuple_of : ∃ f fd, mg "is_tuple_of" = some (.ref f) ∧ Fun K "is_tuple_of" "is_tuple_of" s_is_tuple_of f fd
  d_are_names : ∃ f fd, mg "are_names" = some (.ref f) ∧ Fun K "are_names" "are_names" s_are_names f fd
  d_is_labels : ∃ f fd, mg "is_labels" = some (.ref f) ∧ Fun K "is_labels" "is_labels" s_is_labels f fd
  d_is_word : ∃ f fd, mg "is_word" = some (.ref f) ∧ Fun K "is_word" "is_word" s_is_word f fd
  d_require_labels : ∃ f fd, mg "require_labels" = some (.ref f) ∧ Fun K "require_labels" "require_labels" s_require_labels f fd
  d_is_block : ∃ f fd, mg "is_block" = some (.ref f) ∧ Fun K "is_block" "is_block" s_is_block f fd
  d_is_blocks : ∃ f fd, mg "is_blocks" = some (.ref f) ∧ Fun K "is_blocks" "is_blocks" s_is_blocks f fd
  d_length_of : ∃ f fd, mg "length_of" = some (.ref f) ∧ Fun K "length_of" "length_of" s_length_of f fd
  d_require_blocks : ∃ f fd, mg "require_blocks" = some (.ref f) ∧ Fun K "require_blocks" "require_blocks" s_require_blocks f fd
  d_blocks_length : ∃ f fd, mg "blocks_length" = some (.ref f) ∧ Fun K "blocks_length" "blocks_length" s_blocks_length f fd
  d_label_of : ∃ f fd, mg "label_of" = some (.ref f) ∧ Fun K "label_of" "label_of" s_label_of f fd
  d_require_number : ∃ f fd, mg "require_number" = some (.ref f) ∧ Fun K "require_number" "require_number" s_require_number f fd
  d_label_at : ∃ f fd, mg "label_at" = some (.ref f) ∧ Fun K "label_at" "label_at" s_label_at f fd
  d_rest_of_block : ∃ f fd, mg "rest_of_block" = some (.ref f) ∧ Fun K "rest_of_block" "rest_of_block" s_rest_of_block f fd
  d_without_first : ∃ f fd, mg "without_first" = some (.ref f) ∧ Fun K "without_first" "without_first" s_without_first f fd
  d_dropped : ∃ f fd, mg "dropped" = some (.ref f) ∧ Fun K "dropped" "dropped" s_dropped f fd
  d__law_stream : ∃ f fd, mg "_law_stream" = some (.ref f) ∧ Fun K "_law_stream" "_law_stream" s__law_stream f fd
  d__law_draw : ∃ f fd, mg "_law_draw" = some (.ref f) ∧ Fun K "_law_draw" "_law_draw" s__law_draw f fd
  d__law_letters : ∃ f fd, mg "_law_letters" = some (.ref f) ∧ Fun K "_law_letters" "_law_letters" s__law_letters f fd
  d__law_names : ∃ f fd, mg "_law_names" = some (.ref f) ∧ Fun K "_law_names" "_law_names" s__law_names f fd
  d__law_times : ∃ f fd, mg "_law_times" = some (.ref f) ∧ Fun K "_law_times" "_law_times" s__law_times f fd
  d__law_block_word : ∃ f fd, mg "_law_block_word" = some (.ref f) ∧ Fun K "_law_block_word" "_law_block_word" s__law_block_word f fd
  d__law_blocks : ∃ f fd, mg "_law_blocks" = some (.ref f) ∧ Fun K "_law_blocks" "_law_blocks" s__law_blocks f fd
  d__law_length : ∃ f fd, mg "_law_length" = some (.ref f) ∧ Fun K "_law_length" "_law_length" s__law_length f fd
  d__law_label : ∃ f fd, mg "_law_label" = some (.ref f) ∧ Fun K "_law_label" "_law_label" s__law_label f fd
  d__law_positions : ∃ f fd, mg "_law_positions" = some (.ref f) ∧ Fun K "_law_positions" "_law_positions" s__law_positions f fd
  d__law_cut : ∃ f fd, mg "_law_cut" = some (.ref f) ∧ Fun K "_law_cut" "_law_cut" s__law_cut f fd
  d__law_same : ∃ f fd, mg "_law_same" = some (.ref f) ∧ Fun K "_law_same" "_law_same" s__law_same f fd
  d__law_drop_right : ∃ f fd, mg "_law_drop_right" = some (.ref f) ∧ Fun K "_law_drop_right" "_law_drop_right" s__law_drop_right f fd
  d_law : ∃ f fd, mg "law" = some (.ref f) ∧ Fun K "law" "law" s_law f fd
section
variable {P : Program} {w : World} {K : PySem.W.Frag} {mg : Str → Option Value} {base : Heap}
theorem b_is_whole (nv : Nv K mg) : Body P w K mg base 0 n_is_whole "is_whole" s_is_whole m_is_whole := fun f cdv A outer s H E am room tk pas => by
  unfold m_is_whole 
  exact (ls_one (ls_ret (l_tyis op_eqTy (T := "int") (by decide) nv.z_type nv.z_int (by decide +kernel) (l_var (pv 0)) (by rfl) (by rfl))))
theorem kn_is_whole (nv : Nv K mg) : Knows P w K mg base 1 "is_whole" 1 f_is_whole := knows_of (ps := ["value"]) nv.d_is_whole (fun f fd F => F.binds fun _ _ _ _ _ _ us hl => match us, hl with | [_], _ => rfl) sc_is_whole rfl (b_is_whole nv)
theorem b_is_whole_within (nv : Nv K mg) : Body P w K mg base 0 n_is_whole_within "is_whole_within" s_is_whole_within m_is_whole_within := fun f cdv A outer s H E am room tk pas => by
  unfold m_is_whole_within 
  exact (ls_one (ls_ret (l_vand (l_tyis op_eqTy (T := "int") (by decide) nv.z_type nv.z_int (by decide +kernel) (l_var (pv 0)) (by rfl) (by rfl)) (l_vone (l_chain (o_le am.u) (o_le am.u) (l_var (pv 1)) (l_var (pv 0)) (l_var (pv 2)))))))
theorem kn_is_whole_within (nv : Nv K mg) : Knows P w K mg base 1 "is_whole_within" 3 f_is_whole_within := knows_of (ps := ["value", "low", "high"]) nv.d_is_whole_within (fun f fd F => F.binds fun _ _ _ _ _ _ us hl => match us, hl with | [_, _, _], _ => rfl) sc_is_whole_within rfl (b_is_whole_within nv)
theorem b_is_tuple_of (nv : Nv K mg) : Body P w K mg base 0 n_is_tuple_of "is_tuple_of" s_is_tuple_of m_is_tuple_of := fun f cdv A outer s H E am room tk pas => by
  unfold m_is_tuple_of 
  exact (ls_one (ls_ret (l_vand (l_isi (T := "tuple") (by decide) nv.z_isinstance nv.z_tuple (by decide +kernel) (l_var (pv 0)) (by rfl) (by rfl)) (l_vone (l_cmp (o_eq am.u) (l_callB c_len (by rfl) nv.z_len (by decide +kernel) (a_cons (l_var (pv 0)) a_nil)) (l_var (pv 1)) (by rfl))))))
theorem kn_is_tuple_of (nv : Nv K mg) : Knows P w K mg base 1 "is_tuple_of" 2 f_is_tuple_of := knows_of (ps := ["value", "length"]) nv.d_is_tuple_of (fun f fd F => F.binds fun _ _ _ _ _ _ us hl => match us, hl with | [_, _], _ => rfl) sc_is_tuple_of rfl (b_is_tuple_of nv)
theorem b_are_names (nv : Nv K mg) : Body P w K mg base 0 n_are_names "are_names" s_are_names m_are_names := fun f cdv A outer s H E am room tk pas => by
  unfold m_are_names lb_are_names_1
  exact (ls_cons (ls_if (l_tnot (l_truth (l_isi (T := "tuple") (by decide) nv.z_isinstance nv.z_tuple (by decide +kernel) (l_var (pv 0)) (by rfl) (by rfl)) (fun _ => rfl))) (ls_one (ls_ret l_bool)) ls_nil)
    (ls_cons (ls_asg l_str (pg_nm sc_are_names.nd rfl (by first | exact .inl rfl | exact .inr rfl)))
    (ls_cons (ls_for pas rfl (li_tup (l_var (pv 0))) (pg_nm sc_are_names.nd rfl (by first | exact .inl rfl | exact .inr rfl)) (ls_cons (ls_if (LW.lt (l_or (l_tnot (l_truth (l_isi (T := "str") (by decide) nv.z_isinstance nv.z_str (by decide +kernel) (l_var (pv 3)) (by rfl) (by rfl)) (fun _ => rfl))) (l_or1 (l_tnot (l_tchain (o_le am.u) (o_le am.u) l_int (l_callB c_len (by rfl) nv.z_len (by decide +kernel) (a_cons (l_var (pv 3)) a_nil)) (l_gl nv.k_MAX_LETTERS)))))) (ls_one (ls_ret l_bool)) ls_nil)
    (ls_cons (ls_if (LW.lt (l_and (l_truth (l_var (pv 1)) (fun _ => rfl)) (l_and1 (l_tcmp (o_le am.u) (l_var (pv 3)) (l_var (pv 2)) (by rfl))))) (ls_one (ls_ret l_bool)) ls_nil)
    (ls_one (ls_asg (l_var (pv 3)) (pg_nm sc_are_names.nd rfl (by first | exact .inl rfl | exact .inr rfl)))))))
    (ls_cons (ls_asg (l_join l_str (l_var (pv 0))) (pg_nm sc_are_names.nd rfl (by first | exact .inl rfl | exact .inr rfl)))
    (ls_one (ls_ret (l_vor (l_vnotT (l_var (pv 0))) (l_vone (l_vand (l_m0 (h := Txt.isascii) PySem.F.slot_str_isascii PySem.F.type_str_isascii mt_isascii (l_var (pv 4))) (l_vand (l_m0 (h := Txt.isalpha) PySem.F.slot_str_isalpha PySem.F.type_str_isalpha mt_isalpha (l_var (pv 4))) (l_vone (l_m0 (h := Txt.islower) PySem.F.slot_str_islower PySem.F.type_str_islower mt_islower (l_var (pv 4))))))))))))))
theorem kn_are_names (nv : Nv K mg) : Knows P w K mg base 1 "are_names" 2 f_are_names := knows_of (ps := ["value", "ascending"]) nv.d_are_names (fun f fd F => F.binds fun _ _ _ _ _ _ us hl => match us, hl with | [_, _], _ => rfl) sc_are_names rfl (b_are_names nv)
theorem b_is_labels (nv : Nv K mg) : Body P w K mg base 1 n_is_labels "is_labels" s_is_labels m_is_labels := fun f cdv A outer s H E am room tk pas => by
  unfold m_is_labels 
  exact (ls_one (ls_ret (l_vand (l_call (kn_are_names nv).mono room am tk (a_cons (l_var (pv 0)) (a_cons l_bool a_nil)) (by rfl)) (l_vone (l_chain (o_le am.u) (o_le am.u) l_int (l_callB c_len (by rfl) nv.z_len (by decide +kernel) (a_cons (l_var (pv 0)) a_nil)) (l_gl nv.k_MAX_LABELS))))))
theorem kn_is_labels (nv : Nv K mg) : Knows P w K mg base 2 "is_labels" 1 f_is_labels := knows_of (ps := ["value"]) nv.d_is_labels (fun f fd F => F.binds fun _ _ _ _ _ _ us hl => match us, hl with | [_], _ => rfl) sc_is_labels rfl (b_is_labels nv)
theorem b_is_word (nv : Nv K mg) : Body P w K mg base 0 n_is_word "is_word" s_is_word m_is_word := fun f cdv A outer s H E am room tk pas => by
  unfold m_is_word lb_is_word_1
  exact (ls_cons (ls_if (l_tnot (l_truth (l_isi (T := "tuple") (by decide) nv.z_isinstance nv.z_tuple (by decide +kernel) (l_var (pv 1)) (by rfl) (by rfl)) (fun _ => rfl))) (ls_one (ls_ret l_bool)) ls_nil)
    (ls_cons (ls_for pas rfl (li_tup (l_var (pv 1))) (pg_nm sc_is_word.nd rfl (by first | exact .inl rfl | exact .inr rfl)) (ls_one (ls_if (LW.lt (l_or (l_tnot (l_truth (l_isi (T := "str") (by decide) nv.z_isinstance nv.z_str (by decide +kernel) (l_var (pv 2)) (by rfl) (by rfl)) (fun _ => rfl))) (l_or1 (l_tcmp (o_ninA am) (l_var (pv 2)) (l_var (pv 0)) (by rfl))))) (ls_one (ls_ret l_bool)) ls_nil)))
    (ls_one (ls_ret l_bool))))
theorem kn_is_word (nv : Nv K mg) : Knows P w K mg base 1 "is_word" 2 f_is_word := knows_of (ps := ["labels", "value"]) nv.d_is_word (fun f fd F => F.binds fun _ _ _ _ _ _ us hl => match us, hl with | [_, _], _ => rfl) sc_is_word rfl (b_is_word nv)
theorem b_require_labels (nv : Nv K mg) : Body P w K mg base 2 n_require_labels "require_labels" s_require_labels m_require_labels := fun f cdv A outer s H E am room tk pas => by
  unfold m_require_labels 
  exact (ls_one (ls_if (l_tnot (l_truth (l_call (kn_is_labels nv).mono room am tk (a_cons (l_var (pv 0)) a_nil) (by rfl)) (fun _ => rfl))) (ls_one ls_never) ls_nil))
theorem kn_require_labels (nv : Nv K mg) : Knows P w K mg base 3 "require_labels" 1 f_require_labels := knows_of (ps := ["labels"]) nv.d_require_labels (fun f fd F => F.binds fun _ _ _ _ _ _ us hl => match us, hl with | [_], _ => rfl) sc_require_labels rfl (b_require_labels nv)
theorem b_is_block (nv : Nv K mg) : Body P w K mg base 1 n_is_block "is_block" s_is_block m_is_block := fun f cdv A outer s H E am room tk pas => by
  unfold m_is_block 
  exact (ls_cons (ls_if (l_tnot (LW.lt (l_and (l_truth (l_call (kn_is_tuple_of nv).mono room am tk (a_cons (l_var (pv 1)) (a_cons l_int a_nil)) (by rfl)) (fun _ => rfl)) (l_and1 (l_truth (l_call (kn_is_whole_within nv).mono room am tk (a_cons (l_ix (l_var (pv 1)) l_int) (a_cons l_int (a_cons (l_gl nv.k_MAX_TIMES) a_nil))) (by rfl)) (fun _ => rfl)))))) (ls_one (ls_ret l_bool)) ls_nil)
    (ls_one (ls_ret (l_vand (l_call (kn_is_word nv).mono room am tk (a_cons (l_var (pv 0)) (a_cons (l_ix (l_var (pv 1)) l_int) a_nil)) (by rfl)) (l_vone (l_cmp (o_gt am.u) (l_callB c_len (by rfl) nv.z_len (by decide +kernel) (a_cons (l_ix (l_var (pv 1)) l_int) a_nil)) l_int (by rfl)))))))
theorem kn_is_block (nv : Nv K mg) : Knows P w K mg base 2 "is_block" 2 f_is_block := knows_of (ps := ["labels", "value"]) nv.d_is_block (fun f fd F => F.binds fun _ _ _ _ _ _ us hl => match us, hl with | [_, _], _ => rfl) sc_is_block rfl (b_is_block nv)
theorem b_is_blocks (nv : Nv K mg) : Body P w K mg base 3 n_is_blocks "is_blocks" s_is_blocks m_is_blocks := fun f cdv A outer s H E am room tk pas => by
  unfold m_is_blocks le_is_blocks_1
  exact (ls_cons (ls_expr (l_call (kn_require_labels nv).mono room am tk (a_cons (l_var (pv 0)) a_nil) (by rfl)))
    (ls_one (ls_ret (l_vand (l_isi (T := "tuple") (by decide) nv.z_isinstance nv.z_tuple (by decide +kernel) (l_var (pv 1)) (by rfl) (by rfl)) (l_vone (l_callB (c_all rfl) (by rfl) nv.z_all (by decide +kernel) (a_cons (l_new (n_lc rfl sc_is_blocks.nd (li_tup (l_var (pv 1))) (blkOk_by (own := [("part", 2)]) (show blkC n_is_blocks (defScope s_is_blocks) _ _ = true by decide +kernel)) (fun _ _ _ _ _ => (pg_nm sc_is_blocks.nd rfl (by first | exact .inl rfl | exact .inr rfl))) (fun _ _ _ _ _ => lts_nil) (fun _ _ _ _ _ => (l_call (kn_is_block nv).mono room am.blk takes0 (a_cons (l_var (pv 0)) (a_cons (l_var (pv 2)) a_nil)) (by rfl))))) a_nil)))))))
theorem kn_is_blocks (nv : Nv K mg) : Knows P w K mg base 4 "is_blocks" 2 f_is_blocks := knows_of (ps := ["labels", "value"]) nv.d_is_blocks (fun f fd F => F.binds fun _ _ _ _ _ _ us hl => match us, hl with | [_, _], _ => rfl) sc_is_blocks rfl (b_is_blocks nv)
theorem b_length_of (nv : Nv K mg) : Body P w K mg base 0 n_length_of "length_of" s_length_of m_length_of := fun f cdv A outer s H E am room tk pas => by
  unfold m_length_of le_length_of_1
  exact (ls_one (ls_ret (l_callB (c_sum rfl) (by rfl) nv.z_sum (by decide +kernel) (a_cons (l_new (n_lc rfl sc_length_of.nd (li_tup (l_var (pv 0))) (blkOk_by (own := [("word", 1), ("times", 2)]) (show blkC n_length_of (defScope s_length_of) _ _ = true by decide +kernel)) (fun _ _ _ _ _ => (pg_tp rfl (pgs_c (pg_nm sc_length_of.nd rfl (by first | exact .inl rfl | exact .inr rfl)) (pgs_c (pg_nm sc_length_of.nd rfl (by first | exact .inl rfl | exact .inr rfl)) pgs_n)))) (fun _ _ _ _ _ => lts_nil) (fun _ _ _ _ _ => (l_bin o_mul (l_callB c_len (by rfl) nv.z_len (by decide +kernel) (a_cons (l_var (pv 1)) a_nil)) (l_var (pv 2)))))) a_nil))))
theorem kn_length_of (nv : Nv K mg) : Knows P w K mg base 1 "length_of" 1 f_length_of := knows_of (ps := ["blocks"]) nv.d_length_of (fun f fd F => F.binds fun _ _ _ _ _ _ us hl => match us, hl with | [_], _ => rfl) sc_length_of rfl (b_length_of nv)
theorem b_require_blocks (nv : Nv K mg) : Body P w K mg base 4 n_require_blocks "require_blocks" s_require_blocks m_require_blocks := fun f cdv A outer s H E am room tk pas => by
  unfold m_require_blocks 
  exact (ls_one (ls_if (l_tnot (l_truth (l_call (kn_is_blocks nv).mono room am tk (a_cons (l_var (pv 0)) (a_cons (l_var (pv 1)) a_nil)) (by rfl)) (fun _ => rfl))) (ls_one ls_never) ls_nil))
theorem kn_require_blocks (nv : Nv K mg) : Knows P w K mg base 5 "require_blocks" 2 f_require_blocks := knows_of (ps := ["labels", "blocks"]) nv.d_require_blocks (fun f fd F => F.binds fun _ _ _ _ _ _ us hl => match us, hl with | [_, _], _ => rfl) sc_require_blocks rfl (b_require_blocks nv)
theorem b_blocks_length (nv : Nv K mg) : Body P w K mg base 5 n_blocks_length "blocks_length" s_blocks_length m_blocks_length := fun f cdv A outer s H E am room tk pas => by
  unfold m_blocks_length 
  exact (ls_cons (ls_expr (l_call (kn_require_blocks nv).mono room am tk (a_cons (l_var (pv 0)) (a_cons (l_var (pv 1)) a_nil)) (by rfl)))
    (ls_one (ls_ret (l_call (kn_length_of nv).mono room am tk (a_cons (l_var (pv 1)) a_nil) (by rfl)))))
theorem kn_blocks_length (nv : Nv K mg) : Knows P w K mg base 6 "blocks_length" 2 f_blocks_length := knows_of (ps := ["labels", "blocks"]) nv.d_blocks_length (fun f fd F => F.binds fun _ _ _ _ _ _ us hl => match us, hl with | [_, _], _ => rfl) sc_blocks_length rfl (b_blocks_length nv)
theorem b_label_of (nv : Nv K mg) : Body P w K mg base 0 n_label_of "label_of" s_label_of m_label_of := fun f cdv A outer s H E am room tk pas => by
  unfold m_label_of lb_label_of_1
  exact (ls_cons (ls_for pas rfl (li_tup (l_var (pv 0))) (pg_tp rfl (pgs_c (pg_nm sc_label_of.nd rfl (by first | exact .inl rfl | exact .inr rfl)) (pgs_c (pg_nm sc_label_of.nd rfl (by first | exact .inl rfl | exact .inr rfl)) pgs_n))) (ls_cons (ls_if (l_tcmp (o_lt am.u) (l_var (pv 1)) (l_bin o_mul (l_callB c_len (by rfl) nv.z_len (by decide +kernel) (a_cons (l_var (pv 2)) a_nil)) (l_var (pv 3))) (by rfl)) (ls_one (ls_ret (l_ix (l_var (pv 2)) (l_bin o_mod (l_var (pv 1)) (l_callB c_len (by rfl) nv.z_len (by decide +kernel) (a_cons (l_var (pv 2)) a_nil)))))) ls_nil)
    (ls_one (ls_asg (l_bin o_sub (l_var (pv 1)) (l_bin o_mul (l_callB c_len (by rfl) nv.z_len (by decide +kernel) (a_cons (l_var (pv 2)) a_nil)) (l_var (pv 3)))) (pg_nm sc_label_of.nd rfl (by first | exact .inl rfl | exact .inr rfl))))))
    (ls_one (ls_ret (l_gl nv.k_EMPTY))))
theorem kn_label_of (nv : Nv K mg) : Knows P w K mg base 1 "label_of" 2 f_label_of := knows_of (ps := ["blocks", "position"]) nv.d_label_of (fun f fd F => F.binds fun _ _ _ _ _ _ us hl => match us, hl with | [_, _], _ => rfl) sc_label_of rfl (b_label_of nv)
theorem b_require_number (nv : Nv K mg) : Body P w K mg base 1 n_require_number "require_number" s_require_number m_require_number := fun f cdv A outer s H E am room tk pas => by
  unfold m_require_number 
  exact (ls_one (ls_if (l_tnot (LW.lt (l_and (l_truth (l_call (kn_is_whole nv).mono room am tk (a_cons (l_var (pv 0)) a_nil) (by rfl)) (fun _ => rfl)) (l_and1 (l_tcmp (o_ge am.u) (l_var (pv 0)) l_int (by rfl)))))) (ls_one ls_never) ls_nil))
theorem kn_require_number (nv : Nv K mg) : Knows P w K mg base 2 "require_number" 1 f_require_number := knows_of (ps := ["value"]) nv.d_require_number (fun f fd F => F.binds fun _ _ _ _ _ _ us hl => match us, hl with | [_], _ => rfl) sc_require_number rfl (b_require_number nv)
theorem b_label_at (nv : Nv K mg) : Body P w K mg base 5 n_label_at "label_at" s_label_at m_label_at := fun f cdv A outer s H E am room tk pas => by
  unfold m_label_at 
  exact (ls_cons (ls_expr (l_call (kn_require_blocks nv).mono room am tk (a_cons (l_var (pv 0)) (a_cons (l_var (pv 1)) a_nil)) (by rfl)))
    (ls_cons (ls_expr (l_call (kn_require_number nv).mono room am tk (a_cons (l_var (pv 2)) a_nil) (by rfl)))
    (ls_one (ls_ret (l_call (kn_label_of nv).mono room am tk (a_cons (l_var (pv 1)) (a_cons (l_var (pv 2)) a_nil)) (by rfl))))))
theorem kn_label_at (nv : Nv K mg) : Knows P w K mg base 6 "label_at" 3 f_label_at := knows_of (ps := ["labels", "blocks", "position"]) nv.d_label_at (fun f fd F => F.binds fun _ _ _ _ _ _ us hl => match us, hl with | [_, _, _], _ => rfl) sc_label_at rfl (b_label_at nv)
theorem b_rest_of_block (nv : Nv K mg) : Body P w K mg base 0 n_rest_of_block "rest_of_block" s_rest_of_block m_rest_of_block := fun f cdv A outer s H E am room tk pas => by
  unfold m_rest_of_block 
  exact (ls_cons (ls_asg (l_callB c_divmod (by rfl) nv.z_divmod (by decide +kernel) (a_cons (l_var (pv 2)) (a_cons (l_callB c_len (by rfl) nv.z_len (by decide +kernel) (a_cons (l_var (pv 0)) a_nil)) a_nil))) (pg_tp rfl (pgs_c (pg_nm sc_rest_of_block.nd rfl (by first | exact .inl rfl | exact .inr rfl)) (pgs_c (pg_nm sc_rest_of_block.nd rfl (by first | exact .inl rfl | exact .inr rfl)) pgs_n))))
    (ls_cons (ls_if (l_tcmp (o_eq am.u) (l_var (pv 4)) l_int (by rfl)) (ls_one (ls_ret (l_tup (a_cons (l_tup (a_cons (l_var (pv 0)) (a_cons (l_bin o_sub (l_var (pv 1)) (l_var (pv 3))) a_nil))) a_nil)))) ls_nil)
    (ls_cons (ls_if (l_tcmp (o_eq am.u) (l_bin o_sub (l_var (pv 1)) (l_var (pv 3))) l_int (by rfl)) (ls_one (ls_ret (l_tup (a_cons (l_tup (a_cons (l_sl (l_var (pv 0)) (lo_some (l_var (pv 4))) lo_none) (a_cons l_int a_nil))) a_nil)))) ls_nil)
    (ls_one (ls_ret (l_tup (a_cons (l_tup (a_cons (l_sl (l_var (pv 0)) (lo_some (l_var (pv 4))) lo_none) (a_cons l_int a_nil))) (a_cons (l_tup (a_cons (l_var (pv 0)) (a_cons (l_bin o_sub (l_bin o_sub (l_var (pv 1)) (l_var (pv 3))) l_int) a_nil))) a_nil))))))))
theorem kn_rest_of_block (nv : Nv K mg) : Knows P w K mg base 1 "rest_of_block" 3 f_rest_of_block := knows_of (ps := ["word", "times", "many"]) nv.d_rest_of_block (fun f fd F => F.binds fun _ _ _ _ _ _ us hl => match us, hl with | [_, _, _], _ => rfl) sc_rest_of_block rfl (b_rest_of_block nv)
theorem b_without_first (nv : Nv K mg) : Body P w K mg base 1 n_without_first "without_first" s_without_first m_without_first := fun f cdv A outer s H E am room tk pas => by
  unfold m_without_first lb_without_first_1
  exact (ls_cons (ls_for pas rfl (li_enum nv.z_enumerate (a_cons (l_var (pv 0)) a_nil) (by rfl)) (pg_tp rfl (pgs_c (pg_nm sc_without_first.nd rfl (by first | exact .inl rfl | exact .inr rfl)) (pgs_c (pg_tp rfl (pgs_c (pg_nm sc_without_first.nd rfl (by first | exact .inl rfl | exact .inr rfl)) (pgs_c (pg_nm sc_without_first.nd rfl (by first | exact .inl rfl | exact .inr rfl)) pgs_n))) pgs_n))) (ls_cons (ls_if (l_tcmp (o_lt am.u) (l_var (pv 1)) (l_bin o_mul (l_callB c_len (by rfl) nv.z_len (by decide +kernel) (a_cons (l_var (pv 3)) a_nil)) (l_var (pv 4))) (by rfl)) (ls_one (ls_ret (l_bin o_add (l_call (kn_rest_of_block nv).mono room am tk (a_cons (l_var (pv 3)) (a_cons (l_var (pv 4)) (a_cons (l_var (pv 1)) a_nil))) (by rfl)) (l_sl (l_var (pv 0)) (lo_some (l_bin o_add (l_var (pv 2)) l_int)) lo_none)))) ls_nil)
    (ls_one (ls_asg (l_bin o_sub (l_var (pv 1)) (l_bin o_mul (l_callB c_len (by rfl) nv.z_len (by decide +kernel) (a_cons (l_var (pv 3)) a_nil)) (l_var (pv 4)))) (pg_nm sc_without_first.nd rfl (by first | exact .inl rfl | exact .inr rfl))))))
    (ls_one (ls_ret (l_tup a_nil))))
theorem kn_without_first (nv : Nv K mg) : Knows P w K mg base 2 "without_first" 2 f_without_first := knows_of (ps := ["blocks", "many"]) nv.d_without_first (fun f fd F => F.binds fun _ _ _ _ _ _ us hl => match us, hl with | [_, _], _ => rfl) sc_without_first rfl (b_without_first nv)
theorem b_dropped (nv : Nv K mg) : Body P w K mg base 5 n_dropped "dropped" s_dropped m_dropped := fun f cdv A outer s H E am room tk pas => by
  unfold m_dropped 
  exact (ls_cons (ls_expr (l_call (kn_require_blocks nv).mono room am tk (a_cons (l_var (pv 0)) (a_cons (l_var (pv 1)) a_nil)) (by rfl)))
    (ls_cons (ls_expr (l_call (kn_require_number nv).mono room am tk (a_cons (l_var (pv 2)) a_nil) (by rfl)))
    (ls_one (ls_ret (l_call (kn_without_first nv).mono room am tk (a_cons (l_var (pv 1)) (a_cons (l_var (pv 2)) a_nil)) (by rfl))))))
theorem kn_dropped (nv : Nv K mg) : Knows P w K mg base 6 "dropped" 3 f_dropped := knows_of (ps := ["labels", "blocks", "many"]) nv.d_dropped (fun f fd F => F.binds fun _ _ _ _ _ _ us hl => match us, hl with | [_, _, _], _ => rfl) sc_dropped rfl (b_dropped nv)
theorem b__law_stream (nv : Nv K mg) : Body P w K mg base 0 n__law_stream "_law_stream" s__law_stream m__law_stream := fun f cdv A outer s H E am room tk pas => by
  unfold m__law_stream 
  exact (ls_cons (ls_asg (l_bin o_add (l_bin o_mul l_int (l_var (pv 1))) l_int) (pg_nm sc__law_stream.nd rfl (by first | exact .inl rfl | exact .inr rfl)))
    (ls_cons (ls_if (l_tcmp (o_lt am.u) (l_var (pv 1)) (l_callB c_len (by rfl) nv.z_len (by decide +kernel) (a_cons (l_var (pv 0)) a_nil)) (by rfl)) (ls_one (ls_asg (l_ix (l_var (pv 0)) (l_var (pv 1))) (pg_nm sc__law_stream.nd rfl (by first | exact .inl rfl | exact .inr rfl)))) ls_nil)
    (ls_cons (ls_asg (l_bin o_mod (l_callB c_abs (by rfl) nv.z_abs (by decide +kernel) (a_cons (l_var (pv 2)) a_nil)) (l_bin o_pow (l_bin o_pow l_int l_int) l_int)) (pg_nm sc__law_stream.nd rfl (by first | exact .inl rfl | exact .inr rfl)))
    (ls_one (ls_retR (n_lst (a_cons (l_callB (c_max rfl) (by rfl) nv.z_max (by decide +kernel) (a_cons l_int (a_cons (l_bin o_add (l_bin o_sub (l_var (pv 3)) (l_bin o_pow l_int l_int)) l_int) a_nil))) (a_cons (l_bin o_mod (l_bin o_add (l_bin o_add (l_bin o_add (l_bin o_mul (l_var (pv 3)) l_int) (l_bin o_mul l_int (l_var (pv 1)))) (l_bin o_mul l_int (l_callTy c_int (by rfl) nv.z_int (by decide +kernel) (a_cons (l_cmp (o_lt am.u) (l_var (pv 2)) l_int (by rfl)) a_nil)))) l_int) l_int) (a_cons l_int a_nil)))))))))
theorem kn__law_stream (nv : Nv K mg) : Knows P w K mg base 1 "_law_stream" 2 f__law_stream := knows_of (ps := ["script", "at"]) nv.d__law_stream (fun f fd F => F.binds fun _ _ _ _ _ _ us hl => match us, hl with | [_, _], _ => rfl) sc__law_stream rfl (b__law_stream nv)
theorem b__law_draw (nv : Nv K mg) : Body P w K mg base 0 n__law_draw "_law_draw" s__law_draw m__law_draw := fun f cdv A outer s H E am room tk pas => by
  unfold m__law_draw 
  exact (ls_cons (ls_if (l_tcmp (o_gt am.u) (l_ix (l_var (pv 0)) l_int) l_int (by rfl)) (ls_cons (ls_asg (l_bin o_mod (l_ix (l_var (pv 0)) l_int) (l_var (pv 1))) (pg_nm sc__law_draw.nd rfl (by first | exact .inl rfl | exact .inr rfl)))
    (ls_cons (ls_set (l_bin o_fdiv (l_ix (l_var (pv 0)) l_int) (l_var (pv 1))) (l_var (pv 0)) l_int)
    (ls_one (ls_ret (l_var (pv 2)))))) ls_nil)
    (ls_cons (ls_set (l_bin o_add (l_ix (l_var (pv 0)) l_int) l_int) (l_var (pv 0)) l_int)
    (ls_cons (ls_asg (l_bin o_mod (l_bin o_add (l_ix (l_var (pv 0)) l_int) (l_bin o_mul l_int (l_ix (l_var (pv 0)) l_int))) l_int) (pg_nm sc__law_draw.nd rfl (by first | exact .inl rfl | exact .inr rfl)))
    (ls_cons (ls_asg (l_bin o_add (l_bin o_mul (l_bin o_mod (l_bin o_mul (l_var (pv 3)) (l_var (pv 3))) l_int) (l_var (pv 3))) (l_bin o_mul l_int (l_ix (l_var (pv 0)) l_int))) (pg_nm sc__law_draw.nd rfl (by first | exact .inl rfl | exact .inr rfl)))
    (ls_cons (ls_asg (l_bin o_mod (l_bin o_add (l_var (pv 4)) (l_bin o_mod (l_ix (l_var (pv 0)) l_int) l_int)) l_int) (pg_nm sc__law_draw.nd rfl (by first | exact .inl rfl | exact .inr rfl)))
    (ls_one (ls_ret (l_bin o_mod (l_bin o_add (l_bin o_fdiv (l_bin o_mod (l_bin o_mul (l_var (pv 5)) (l_var (pv 5))) l_int) l_int) (l_bin o_mul (l_bin o_mul (l_var (pv 3)) l_int) (l_callTy c_int (by rfl) nv.z_int (by decide +kernel) (a_cons (l_cmp (o_gt am.u) (l_var (pv 1)) (l_bin o_pow l_int l_int) (by rfl)) a_nil)))) (l_var (pv 1))))))))))
theorem kn__law_draw (nv : Nv K mg) : Knows P w K mg base 1 "_law_draw" 2 f__law_draw := knows_of (ps := ["stream", "total"]) nv.d__law_draw (fun f fd F => F.binds fun _ _ _ _ _ _ us hl => match us, hl with | [_, _], _ => rfl) sc__law_draw rfl (b__law_draw nv)
theorem b__law_letters (nv : Nv K mg) : Body P w K mg base 1 n__law_letters "_law_letters" s__law_letters m__law_letters := fun f cdv A outer s H E am room tk pas => by
  unfold m__law_letters le__law_letters_1
  exact (ls_one (ls_ret (l_join l_str (l_new (n_lc rfl sc__law_letters.nd (li_rng nv.z_range (l_var (pv 1)) (by rfl)) (blkOk_by (own := [("turn", 2)]) (show blkC n__law_letters (defScope s__law_letters) _ _ = true by decide +kernel)) (fun _ _ _ _ _ => (pg_nm sc__law_letters.nd rfl (by first | exact .inl rfl | exact .inr rfl))) (fun _ _ _ _ _ => lts_nil) (fun _ _ _ _ _ => (l_ix l_str (l_call (kn__law_draw nv).mono room am.blk takes0 (a_cons (l_var (pv 0)) (a_cons l_int a_nil)) (by rfl)))))))))
theorem kn__law_letters (nv : Nv K mg) : Knows P w K mg base 2 "_law_letters" 2 f__law_letters := knows_of (ps := ["stream", "total"]) nv.d__law_letters (fun f fd F => F.binds fun _ _ _ _ _ _ us hl => match us, hl with | [_, _], _ => rfl) sc__law_letters rfl (b__law_letters nv)
theorem b__law_names (nv : Nv K mg) : Body P w K mg base 2 n__law_names "_law_names" s__law_names m__law_names := fun f cdv A outer s H E am room tk pas => by
  unfold m__law_names lb__law_names_1
  exact (ls_cons (ls_new sc__law_names.nd rfl (by first | exact .inl rfl | exact .inr rfl) (n_lst a_nil))
    (ls_cons (ls_for pas rfl (li_rng nv.z_range (l_var (pv 1)) (by rfl)) (pg_nm sc__law_names.nd rfl (by first | exact .inl rfl | exact .inr rfl)) (ls_cons (ls_asg (l_call (kn__law_letters nv).mono room am tk (a_cons (l_var (pv 0)) (a_cons (l_ix (l_lst (a_cons l_int (a_cons l_int (a_cons l_int (a_cons l_int a_nil))))) (l_call (kn__law_draw nv).mono room am tk (a_cons (l_var (pv 0)) (a_cons l_int a_nil)) (by rfl))) a_nil)) (by rfl)) (pg_nm sc__law_names.nd rfl (by first | exact .inl rfl | exact .inr rfl)))
    (ls_cons (ls_asg (l_call (kn__law_letters nv).mono room am tk (a_cons (l_var (pv 0)) (a_cons (l_ix (l_lst (a_cons l_int (a_cons l_int (a_cons l_int (a_cons l_int a_nil))))) (l_call (kn__law_draw nv).mono room am tk (a_cons (l_var (pv 0)) (a_cons l_int a_nil)) (by rfl))) a_nil)) (by rfl)) (pg_nm sc__law_names.nd rfl (by first | exact .inl rfl | exact .inr rfl)))
    (ls_one (ls_app (pv 2) (l_bin o_add (l_bin o_add (l_var (pv 4)) (l_ix l_str (l_var (pv 3)))) (l_var (pv 5))))))))
    (ls_one (ls_ret (l_callTy c_tup (by rfl) nv.z_tuple (by decide +kernel) (a_cons (l_callB (c_sorted am) (by rfl) nv.z_sorted (by decide +kernel) (a_cons (l_var (pv 2)) a_nil)) a_nil))))))
theorem kn__law_names (nv : Nv K mg) : Knows P w K mg base 3 "_law_names" 2 f__law_names := knows_of (ps := ["stream", "total"]) nv.d__law_names (fun f fd F => F.binds fun _ _ _ _ _ _ us hl => match us, hl with | [_, _], _ => rfl) sc__law_names rfl (b__law_names nv)
theorem b__law_times (nv : Nv K mg) : Body P w K mg base 1 n__law_times "_law_times" s__law_times m__law_times := fun f cdv A outer s H E am room tk pas => by
  unfold m__law_times 
  exact (ls_one (ls_ret (l_ix (l_lst (a_cons l_int (a_cons l_int (a_cons l_int (a_cons l_int (a_cons (l_bin o_add l_int (l_call (kn__law_draw nv).mono room am tk (a_cons (l_var (pv 0)) (a_cons l_int a_nil)) (by rfl))) (a_cons (l_bin o_add l_int (l_call (kn__law_draw nv).mono room am tk (a_cons (l_var (pv 0)) (a_cons (l_bin o_pow l_int l_int) a_nil)) (by rfl))) (a_cons (l_bin o_pow l_int l_int) a_nil)))))))) (l_call (kn__law_draw nv).mono room am tk (a_cons (l_var (pv 0)) (a_cons l_int a_nil)) (by rfl)))))
theorem kn__law_times (nv : Nv K mg) : Knows P w K mg base 2 "_law_times" 1 f__law_times := knows_of (ps := ["stream"]) nv.d__law_times (fun f fd F => F.binds fun _ _ _ _ _ _ us hl => match us, hl with | [_], _ => rfl) sc__law_times rfl (b__law_times nv)
theorem b__law_block_word (nv : Nv K mg) : Body P w K mg base 1 n__law_block_word "_law_block_word" s__law_block_word m__law_block_word := fun f cdv A outer s H E am room tk pas => by
  unfold m__law_block_word le__law_block_word_1
  exact (ls_one (ls_ret (l_callTy c_tup (by rfl) nv.z_tuple (by decide +kernel) (a_cons (l_new (n_lc rfl sc__law_block_word.nd (li_rng nv.z_range (l_bin o_add l_int (l_call (kn__law_draw nv).mono room am tk (a_cons (l_var (pv 0)) (a_cons (l_var (pv 2)) a_nil)) (by rfl))) (by rfl)) (blkOk_by (own := [("turn", 3)]) (show blkC n__law_block_word (defScope s__law_block_word) _ _ = true by decide +kernel)) (fun _ _ _ _ _ => (pg_nm sc__law_block_word.nd rfl (by first | exact .inl rfl | exact .inr rfl))) (fun _ _ _ _ _ => lts_nil) (fun _ _ _ _ _ => (l_ix (l_var (pv 1)) (l_call (kn__law_draw nv).mono room am.blk takes0 (a_cons (l_var (pv 0)) (a_cons (l_callB c_len (by rfl) nv.z_len (by decide +kernel) (a_cons (l_var (pv 1)) a_nil)) a_nil)) (by rfl)))))) a_nil))))
theorem kn__law_block_word (nv : Nv K mg) : Knows P w K mg base 2 "_law_block_word" 3 f__law_block_word := knows_of (ps := ["stream", "labels", "most"]) nv.d__law_block_word (fun f fd F => F.binds fun _ _ _ _ _ _ us hl => match us, hl with | [_, _, _], _ => rfl) sc__law_block_word rfl (b__law_block_word nv)
theorem b__law_blocks (nv : Nv K mg) : Body P w K mg base 2 n__law_blocks "_law_blocks" s__law_blocks m__law_blocks := fun f cdv A outer s H E am room tk pas => by
  unfold m__law_blocks lb__law_blocks_1
  exact (ls_cons (ls_new sc__law_blocks.nd rfl (by first | exact .inl rfl | exact .inr rfl) (n_lst a_nil))
    (ls_cons (ls_for pas rfl (li_rng nv.z_range (l_call (kn__law_draw nv).mono room am tk (a_cons (l_var (pv 0)) (a_cons (l_bin o_add (l_var (pv 2)) l_int) a_nil)) (by rfl)) (by rfl)) (pg_nm sc__law_blocks.nd rfl (by first | exact .inl rfl | exact .inr rfl)) (ls_one (ls_app (pv 3) (l_tup (a_cons (l_call (kn__law_block_word nv).mono room am tk (a_cons (l_var (pv 0)) (a_cons (l_var (pv 1)) (a_cons (l_ix (l_lst (a_cons l_int (a_cons l_int (a_cons l_int (a_cons l_int a_nil))))) (l_call (kn__law_draw nv).mono room am tk (a_cons (l_var (pv 0)) (a_cons l_int a_nil)) (by rfl))) a_nil))) (by rfl)) (a_cons (l_call (kn__law_times nv).mono room am tk (a_cons (l_var (pv 0)) a_nil) (by rfl)) a_nil))))))
    (ls_one (ls_ret (l_callTy c_tup (by rfl) nv.z_tuple (by decide +kernel) (a_cons (l_var (pv 3)) a_nil))))))
theorem kn__law_blocks (nv : Nv K mg) : Knows P w K mg base 3 "_law_blocks" 3 f__law_blocks := knows_of (ps := ["stream", "labels", "most"]) nv.d__law_blocks (fun f fd F => F.binds fun _ _ _ _ _ _ us hl => match us, hl with | [_, _, _], _ => rfl) sc__law_blocks rfl (b__law_blocks nv)
theorem b__law_length (nv : Nv K mg) : Body P w K mg base 0 n__law_length "_law_length" s__law_length m__law_length := fun f cdv A outer s H E am room tk pas => by
  unfold m__law_length le__law_length_1
  exact (ls_one (ls_ret (l_callB (c_sum rfl) (by rfl) nv.z_sum (by decide +kernel) (a_cons (l_new (n_lc rfl sc__law_length.nd (li_tup (l_var (pv 0))) (blkOk_by (own := [("word", 1), ("times", 2)]) (show blkC n__law_length (defScope s__law_length) _ _ = true by decide +kernel)) (fun _ _ _ _ _ => (pg_tp rfl (pgs_c (pg_nm sc__law_length.nd rfl (by first | exact .inl rfl | exact .inr rfl)) (pgs_c (pg_nm sc__law_length.nd rfl (by first | exact .inl rfl | exact .inr rfl)) pgs_n)))) (fun _ _ _ _ _ => lts_nil) (fun _ _ _ _ _ => (l_bin o_mul (l_callB c_len (by rfl) nv.z_len (by decide +kernel) (a_cons (l_var (pv 1)) a_nil)) (l_var (pv 2)))))) a_nil))))
theorem kn__law_length (nv : Nv K mg) : Knows P w K mg base 1 "_law_length" 1 f__law_length := knows_of (ps := ["blocks"]) nv.d__law_length (fun f fd F => F.binds fun _ _ _ _ _ _ us hl => match us, hl with | [_], _ => rfl) sc__law_length rfl (b__law_length nv)
theorem b__law_label (nv : Nv K mg) : Body P w K mg base 0 n__law_label "_law_label" s__law_label m__law_label := fun f cdv A outer s H E am room tk pas => by
  unfold m__law_label lb__law_label_1
  exact (ls_cons (ls_for pas rfl (li_tup (l_var (pv 0))) (pg_tp rfl (pgs_c (pg_nm sc__law_label.nd rfl (by first | exact .inl rfl | exact .inr rfl)) (pgs_c (pg_nm sc__law_label.nd rfl (by first | exact .inl rfl | exact .inr rfl)) pgs_n))) (ls_cons (ls_if (l_tcmp (o_lt am.u) (l_var (pv 1)) (l_bin o_mul (l_callB c_len (by rfl) nv.z_len (by decide +kernel) (a_cons (l_var (pv 2)) a_nil)) (l_var (pv 3))) (by rfl)) (ls_one (ls_ret (l_ix (l_var (pv 2)) (l_bin o_mod (l_var (pv 1)) (l_callB c_len (by rfl) nv.z_len (by decide +kernel) (a_cons (l_var (pv 2)) a_nil)))))) ls_nil)
    (ls_one (ls_asg (l_bin o_sub (l_var (pv 1)) (l_bin o_mul (l_callB c_len (by rfl) nv.z_len (by decide +kernel) (a_cons (l_var (pv 2)) a_nil)) (l_var (pv 3)))) (pg_nm sc__law_label.nd rfl (by first | exact .inl rfl | exact .inr rfl))))))
    (ls_one (ls_ret l_str)))
theorem kn__law_label (nv : Nv K mg) : Knows P w K mg base 1 "_law_label" 2 f__law_label := knows_of (ps := ["blocks", "position"]) nv.d__law_label (fun f fd F => F.binds fun _ _ _ _ _ _ us hl => match us, hl with | [_, _], _ => rfl) sc__law_label rfl (b__law_label nv)
theorem b__law_positions (nv : Nv K mg) : Body P w K mg base 1 n__law_positions "_law_positions" s__law_positions m__law_positions := fun f cdv A outer s H E am room tk pas => by
  unfold m__law_positions lb__law_positions_1
  exact (ls_cons (ls_par rfl sc__law_positions.nd rfl rfl  (by decide)  rfl rfl  (a_cons (l_call (kn__law_length nv).mono room am tk (a_cons (l_var (pv 1)) a_nil) (by rfl)) (a_cons l_int a_nil)) (by rfl))
    (ls_cons (ls_asg (l_lst (a_cons l_int (a_cons (l_var (pv 2)) (a_cons (l_bin o_add (l_var (pv 2)) l_int) (a_cons (l_callB (c_max rfl) (by rfl) nv.z_max (by decide +kernel) (a_cons l_int (a_cons (l_bin o_sub (l_var (pv 2)) l_int) a_nil))) (a_cons (l_bin o_add (l_var (pv 2)) (l_bin o_pow l_int l_int)) a_nil)))))) (pg_nm sc__law_positions.nd rfl (by first | exact .inl rfl | exact .inr rfl)))
    (ls_cons (ls_for pas rfl (li_tup (l_var (pv 1))) (pg_tp rfl (pgs_c (pg_nm sc__law_positions.nd rfl (by first | exact .inl rfl | exact .inr rfl)) (pgs_c (pg_nm sc__law_positions.nd rfl (by first | exact .inl rfl | exact .inr rfl)) pgs_n))) (ls_cons (ls_asg (l_bin o_add (l_var (pv 3)) (l_bin o_mul (l_callB c_len (by rfl) nv.z_len (by decide +kernel) (a_cons (l_var (pv 5)) a_nil)) (l_var (pv 6)))) (pg_nm sc__law_positions.nd rfl (by first | exact .inl rfl | exact .inr rfl)))
    (ls_one (ls_asg (l_bin o_add (l_var (pv 4)) (l_lst (a_cons (l_bin o_sub (l_var (pv 3)) l_int) (a_cons (l_var (pv 3)) (a_cons (l_bin o_add (l_var (pv 3)) l_int) (a_cons (l_callB (c_max rfl) (by rfl) nv.z_max (by decide +kernel) (a_cons l_int (a_cons (l_bin o_sub (l_bin o_sub (l_var (pv 3)) l_int) (l_call (kn__law_draw nv).mono room am tk (a_cons (l_var (pv 0)) (a_cons l_int a_nil)) (by rfl))) a_nil))) a_nil)))))) (pg_nm sc__law_positions.nd rfl (by first | exact .inl rfl | exact .inr rfl))))))
    (ls_one (ls_ret (l_bin o_add (l_var (pv 4)) (l_lst (a_cons (l_call (kn__law_draw nv).mono room am tk (a_cons (l_var (pv 0)) (a_cons (l_bin o_add (l_var (pv 2)) l_int) a_nil)) (by rfl)) (a_cons (l_call (kn__law_draw nv).mono room am tk (a_cons (l_var (pv 0)) (a_cons (l_bin o_add (l_var (pv 2)) l_int) a_nil)) (by rfl)) a_nil)))))))))
theorem kn__law_positions (nv : Nv K mg) : Knows P w K mg base 2 "_law_positions" 2 f__law_positions := knows_of (ps := ["stream", "blocks"]) nv.d__law_positions (fun f fd F => F.binds fun _ _ _ _ _ _ us hl => match us, hl with | [_, _], _ => rfl) sc__law_positions rfl (b__law_positions nv)
theorem b__law_cut (nv : Nv K mg) : Body P w K mg base 0 n__law_cut "_law_cut" s__law_cut m__law_cut := fun f cdv A outer s H E am room tk pas => by
  unfold m__law_cut lb__law_cut_1
  exact (ls_cons (ls_for pas rfl (li_enum nv.z_enumerate (a_cons (l_var (pv 0)) a_nil) (by rfl)) (pg_tp rfl (pgs_c (pg_nm sc__law_cut.nd rfl (by first | exact .inl rfl | exact .inr rfl)) (pgs_c (pg_tp rfl (pgs_c (pg_nm sc__law_cut.nd rfl (by first | exact .inl rfl | exact .inr rfl)) (pgs_c (pg_nm sc__law_cut.nd rfl (by first | exact .inl rfl | exact .inr rfl)) pgs_n))) pgs_n))) (ls_cons (ls_if (l_tcmp (o_lt am.u) (l_var (pv 1)) (l_bin o_mul (l_callB c_len (by rfl) nv.z_len (by decide +kernel) (a_cons (l_var (pv 3)) a_nil)) (l_var (pv 4))) (by rfl)) (ls_cons (ls_par rfl sc__law_cut.nd rfl rfl  (by decide)  rfl rfl  (a_cons (l_bin o_fdiv (l_var (pv 1)) (l_callB c_len (by rfl) nv.z_len (by decide +kernel) (a_cons (l_var (pv 3)) a_nil))) (a_cons (l_bin o_mod (l_var (pv 1)) (l_callB c_len (by rfl) nv.z_len (by decide +kernel) (a_cons (l_var (pv 3)) a_nil))) a_nil)) (by rfl))
    (ls_cons (ls_asg (l_callTy c_int (by rfl) nv.z_int (by decide +kernel) (a_cons (l_cmp (o_gt am.u) (l_var (pv 6)) l_int (by rfl)) a_nil)) (pg_nm sc__law_cut.nd rfl (by first | exact .inl rfl | exact .inr rfl)))
    (ls_cons (ls_asg (l_bin o_sub (l_bin o_sub (l_var (pv 4)) (l_var (pv 5))) (l_var (pv 7))) (pg_nm sc__law_cut.nd rfl (by first | exact .inl rfl | exact .inr rfl)))
    (ls_cons (ls_asg (l_bin o_add (l_bin o_mul (l_tup (a_cons (l_tup (a_cons (l_var (pv 3)) (a_cons (l_var (pv 5)) a_nil))) a_nil)) (l_callTy c_int (by rfl) nv.z_int (by decide +kernel) (a_cons (l_cmp (o_gt am.u) (l_var (pv 5)) l_int (by rfl)) a_nil))) (l_bin o_mul (l_tup (a_cons (l_tup (a_cons (l_sl (l_var (pv 3)) lo_none (lo_some (l_var (pv 6)))) (a_cons l_int a_nil))) a_nil)) (l_var (pv 7)))) (pg_nm sc__law_cut.nd rfl (by first | exact .inl rfl | exact .inr rfl)))
    (ls_cons (ls_asg (l_bin o_add (l_bin o_mul (l_tup (a_cons (l_tup (a_cons (l_sl (l_var (pv 3)) (lo_some (l_var (pv 6))) lo_none) (a_cons l_int a_nil))) a_nil)) (l_var (pv 7))) (l_bin o_mul (l_tup (a_cons (l_tup (a_cons (l_var (pv 3)) (a_cons (l_var (pv 8)) a_nil))) a_nil)) (l_callTy c_int (by rfl) nv.z_int (by decide +kernel) (a_cons (l_cmp (o_gt am.u) (l_var (pv 8)) l_int (by rfl)) a_nil)))) (pg_nm sc__law_cut.nd rfl (by first | exact .inl rfl | exact .inr rfl)))
    (ls_one (ls_ret (l_tup (a_cons (l_bin o_add (l_sl (l_var (pv 0)) lo_none (lo_some (l_var (pv 2)))) (l_var (pv 9))) (a_cons (l_bin o_add (l_var (pv 10)) (l_sl (l_var (pv 0)) (lo_some (l_bin o_add (l_var (pv 2)) l_int)) lo_none)) a_nil)))))))))) ls_nil)
    (ls_one (ls_asg (l_bin o_sub (l_var (pv 1)) (l_bin o_mul (l_callB c_len (by rfl) nv.z_len (by decide +kernel) (a_cons (l_var (pv 3)) a_nil)) (l_var (pv 4)))) (pg_nm sc__law_cut.nd rfl (by first | exact .inl rfl | exact .inr rfl))))))
    (ls_one (ls_ret (l_tup (a_cons (l_var (pv 0)) (a_cons (l_tup a_nil) a_nil))))))
theorem kn__law_cut (nv : Nv K mg) : Knows P w K mg base 1 "_law_cut" 2 f__law_cut := knows_of (ps := ["blocks", "many"]) nv.d__law_cut (fun f fd F => F.binds fun _ _ _ _ _ _ us hl => match us, hl with | [_, _], _ => rfl) sc__law_cut rfl (b__law_cut nv)
theorem b__law_same (nv : Nv K mg) : Body P w K mg base 1 n__law_same "_law_same" s__law_same m__law_same := fun f cdv A outer s H E am room tk pas => by
  unfold m__law_same lt__law_same_1 lb__law_same_3 lb__law_same_2 lb__law_same_1
  exact (ls_cons (ls_par rfl sc__law_same.nd rfl rfl  (by decide)  rfl rfl  (a_cons (l_call (kn__law_length nv).mono room am tk (a_cons (l_var (pv 0)) a_nil) (by rfl)) (a_cons l_int a_nil)) (by rfl))
    (ls_cons (ls_if (l_tcmp (o_ne am.u) (l_var (pv 2)) (l_call (kn__law_length nv).mono room am tk (a_cons (l_var (pv 1)) a_nil) (by rfl)) (by rfl)) (ls_one (ls_ret l_bool)) ls_nil)
    (ls_cons (ls_parOO rfl sc__law_same.nd rfl rfl (by decide) rfl rfl (n_lst (a_cons (l_un o_neg l_int) (a_cons (l_un o_neg l_int) a_nil))) (n_lst (a_cons l_int (a_cons l_int a_nil))) (by rfl))
    (ls_cons (ls_while pas (l_tcmp (o_lt am.u) (l_var (pv 3)) (l_var (pv 2)) (by rfl)) (ls_cons (ls_for pas rfl (li_rng nv.z_range l_int (by rfl)) (pg_nm sc__law_same.nd rfl (by first | exact .inl rfl | exact .inr rfl)) (ls_one (ls_if (l_tcmp (o_eq am.u) (l_ix (l_var (pv 5)) (l_var (pv 6))) (l_var (pv 3)) (by rfl)) (ls_cons (ls_setO (pv 4) (l_bin o_add (l_ix (l_var (pv 4)) (l_var (pv 6))) l_int) (l_var (pv 6)))
    (ls_cons (ls_asg (l_ix (l_ix (l_lst (a_cons (l_var (pv 0)) (a_cons (l_var (pv 1)) a_nil))) (l_var (pv 6))) (l_ix (l_var (pv 4)) (l_var (pv 6)))) (pg_tp rfl (pgs_c (pg_nm sc__law_same.nd rfl (by first | exact .inl rfl | exact .inr rfl)) (pgs_c (pg_nm sc__law_same.nd rfl (by first | exact .inl rfl | exact .inr rfl)) pgs_n))))
    (ls_one (ls_setO (pv 5) (l_bin o_add (l_var (pv 3)) (l_bin o_mul (l_callB c_len (by rfl) nv.z_len (by decide +kernel) (a_cons (l_var (pv 7)) a_nil)) (l_var (pv 8)))) (l_var (pv 6)))))) ls_nil)))
    (ls_cons (ls_par rfl sc__law_same.nd rfl rfl  (by decide)  rfl rfl  (a_cons (l_ix (l_ix (l_var (pv 0)) (l_ix (l_var (pv 4)) l_int)) l_int) (a_cons (l_ix (l_ix (l_var (pv 1)) (l_ix (l_var (pv 4)) l_int)) l_int) a_nil)) (by rfl))
    (ls_cons (ls_for pas rfl (li_rng nv.z_range (l_callB (c_min rfl) (by rfl) nv.z_min (by decide +kernel) (a_cons (l_bin o_sub (l_callB (c_minL rfl) (by rfl) nv.z_min (by decide +kernel) (a_cons (l_var (pv 5)) a_nil)) (l_var (pv 3))) (a_cons (l_bin o_add (l_callB c_len (by rfl) nv.z_len (by decide +kernel) (a_cons (l_var (pv 9)) a_nil)) (l_callB c_len (by rfl) nv.z_len (by decide +kernel) (a_cons (l_var (pv 10)) a_nil))) a_nil))) (by rfl)) (pg_nm sc__law_same.nd rfl (by first | exact .inl rfl | exact .inr rfl)) (ls_cons (ls_asg (l_ix (l_var (pv 9)) (l_bin o_mod (l_bin o_sub (l_bin o_add (l_var (pv 11)) (l_var (pv 3))) (l_ix (l_var (pv 5)) l_int)) (l_callB c_len (by rfl) nv.z_len (by decide +kernel) (a_cons (l_var (pv 9)) a_nil)))) (pg_nm sc__law_same.nd rfl (by first | exact .inl rfl | exact .inr rfl)))
    (ls_one (ls_if (l_tcmp (o_ne am.u) (l_var (pv 12)) (l_ix (l_var (pv 10)) (l_bin o_mod (l_bin o_sub (l_bin o_add (l_var (pv 11)) (l_var (pv 3))) (l_ix (l_var (pv 5)) l_int)) (l_callB c_len (by rfl) nv.z_len (by decide +kernel) (a_cons (l_var (pv 10)) a_nil)))) (by rfl)) (ls_one (ls_ret l_bool)) ls_nil))))
    (ls_one (ls_asg (l_callB (c_minL rfl) (by rfl) nv.z_min (by decide +kernel) (a_cons (l_var (pv 5)) a_nil)) (pg_nm sc__law_same.nd rfl (by first | exact .inl rfl | exact .inr rfl))))))))
    (ls_one (ls_ret l_bool))))))
theorem kn__law_same (nv : Nv K mg) : Knows P w K mg base 2 "_law_same" 2 f__law_same := knows_of (ps := ["first", "second"]) nv.d__law_same (fun f fd F => F.binds fun _ _ _ _ _ _ us hl => match us, hl with | [_, _], _ => rfl) sc__law_same rfl (b__law_same nv)
theorem b__law_drop_right (nv : Nv K mg) : Body P w K mg base 6 n__law_drop_right "_law_drop_right" s__law_drop_right m__law_drop_right := fun f cdv A outer s H E am room tk pas => by
  unfold m__law_drop_right 
  exact (ls_cons (ls_asg (l_ix (l_call (kn__law_cut nv).mono room am tk (a_cons (l_var (pv 2)) (a_cons (l_var (pv 3)) a_nil)) (by rfl)) l_int) (pg_nm sc__law_drop_right.nd rfl (by first | exact .inl rfl | exact .inr rfl)))
    (ls_cons (ls_asg (l_call (kn_dropped nv).mono room am tk (a_cons (l_var (pv 1)) (a_cons (l_var (pv 2)) (a_cons (l_var (pv 3)) a_nil))) (by rfl)) (pg_nm sc__law_drop_right.nd rfl (by first | exact .inl rfl | exact .inr rfl)))
    (ls_cons (ls_if (LW.lt (l_or (l_tcmp o_isnot (l_call (kn_is_blocks nv).mono room am tk (a_cons (l_var (pv 1)) (a_cons (l_var (pv 5)) a_nil)) (by rfl)) l_bool (by rfl)) (l_or1 (l_tnot (l_truth (l_call (kn__law_same nv).mono room am tk (a_cons (l_var (pv 5)) (a_cons (l_var (pv 4)) a_nil)) (by rfl)) (fun _ => rfl)))))) (ls_one (ls_ret l_bool)) ls_nil)
    (ls_cons (ls_if (l_tcmp (o_ne am.u) (l_cmp (o_eq am.u) (l_var (pv 5)) (l_tup a_nil) (by rfl)) (l_cmp (o_ge am.u) (l_var (pv 3)) (l_call (kn__law_length nv).mono room am tk (a_cons (l_var (pv 2)) a_nil) (by rfl)) (by rfl)) (by rfl)) (ls_one (ls_ret l_bool)) ls_nil)
    (ls_cons (ls_if (l_tcmp (o_ne am.u) (l_call (kn_blocks_length nv).mono room am tk (a_cons (l_var (pv 1)) (a_cons (l_var (pv 5)) a_nil)) (by rfl)) (l_callB (c_max rfl) (by rfl) nv.z_max (by decide +kernel) (a_cons l_int (a_cons (l_bin o_sub (l_call (kn__law_length nv).mono room am tk (a_cons (l_var (pv 2)) a_nil) (by rfl)) (l_var (pv 3))) a_nil))) (by rfl)) (ls_one (ls_ret l_bool)) ls_nil)
    (ls_cons (ls_if (l_tcmp (o_ne am.u) (l_call (kn_label_at nv).mono room am tk (a_cons (l_var (pv 1)) (a_cons (l_var (pv 5)) (a_cons l_int a_nil))) (by rfl)) (l_call (kn__law_label nv).mono room am tk (a_cons (l_var (pv 2)) (a_cons (l_var (pv 3)) a_nil)) (by rfl)) (by rfl)) (ls_one (ls_ret l_bool)) ls_nil)
    (ls_cons (ls_asg (l_call (kn__law_draw nv).mono room am tk (a_cons (l_var (pv 0)) (a_cons (l_bin o_add (l_var (pv 3)) l_int) a_nil)) (by rfl)) (pg_nm sc__law_drop_right.nd rfl (by first | exact .inl rfl | exact .inr rfl)))
    (ls_one (ls_ret (l_call (kn__law_same nv).mono room am tk (a_cons (l_call (kn_dropped nv).mono room am tk (a_cons (l_var (pv 1)) (a_cons (l_call (kn_dropped nv).mono room am tk (a_cons (l_var (pv 1)) (a_cons (l_var (pv 2)) (a_cons (l_var (pv 6)) a_nil))) (by rfl)) (a_cons (l_bin o_sub (l_var (pv 3)) (l_var (pv 6))) a_nil))) (by rfl)) (a_cons (l_var (pv 4)) a_nil)) (by rfl)))))))))))
theorem kn__law_drop_right (nv : Nv K mg) : Knows P w K mg base 7 "_law_drop_right" 4 f__law_drop_right := knows_of (ps := ["stream", "labels", "blocks", "many"]) nv.d__law_drop_right (fun f fd F => F.binds fun _ _ _ _ _ _ us hl => match us, hl with | [_, _, _, _], _ => rfl) sc__law_drop_right rfl (b__law_drop_right nv)
theorem b_law (nv : Nv K mg) : Body P w K mg base 7 n_law "law" s_law m_law := fun f cdv A outer s H E am room tk pas => by
  unfold m_law lb_law_4 le_law_1 lb_law_3 lb_law_2 lb_law_1
  exact (ls_cons (ls_for pas rfl (li_rng nv.z_range (l_callB (c_max rfl) (by rfl) nv.z_max (by decide +kernel) (a_cons l_int (a_cons (l_callB (c_min rfl) (by rfl) nv.z_min (by decide +kernel) (a_cons l_int (a_cons (l_callB c_len (by rfl) nv.z_len (by decide +kernel) (a_cons (l_var (pv 0)) a_nil)) a_nil))) a_nil))) (by rfl)) (pg_nm sc_law.nd rfl (by first | exact .inl rfl | exact .inr rfl)) (ls_cons (ls_asg (l_call (kn__law_stream nv).mono room am tk (a_cons (l_var (pv 0)) (a_cons (l_var (pv 1)) a_nil)) (by rfl)) (pg_nm sc_law.nd rfl (by first | exact .inl rfl | exact .inr rfl)))
    (ls_cons (ls_asg (l_call (kn__law_names nv).mono room am tk (a_cons (l_var (pv 2)) (a_cons (l_bin o_add l_int (l_call (kn__law_draw nv).mono room am tk (a_cons (l_var (pv 2)) (a_cons l_int a_nil)) (by rfl))) a_nil)) (by rfl)) (pg_nm sc_law.nd rfl (by first | exact .inl rfl | exact .inr rfl)))
    (ls_one (ls_for pas rfl (li_rng nv.z_range l_int (by rfl)) (pg_nm sc_law.nd rfl (by first | exact .inl rfl | exact .inr rfl)) (ls_cons (ls_asg (l_call (kn__law_blocks nv).mono room am tk (a_cons (l_var (pv 2)) (a_cons (l_var (pv 3)) (a_cons l_int a_nil))) (by rfl)) (pg_nm sc_law.nd rfl (by first | exact .inl rfl | exact .inr rfl)))
    (ls_cons (ls_asg (l_callB (c_repr am) (by rfl) nv.z_repr (by decide +kernel) (a_cons (l_var (pv 5)) a_nil)) (pg_nm sc_law.nd rfl (by first | exact .inl rfl | exact .inr rfl)))
    (ls_cons (ls_for pas rfl (li_lst (l_call (kn__law_positions nv).mono room am tk (a_cons (l_var (pv 2)) (a_cons (l_var (pv 5)) a_nil)) (by rfl))) (pg_nm sc_law.nd rfl (by first | exact .inl rfl | exact .inr rfl)) (ls_one (ls_if (l_tnot (l_truth (l_call (kn__law_drop_right nv).mono room am tk (a_cons (l_var (pv 2)) (a_cons (l_var (pv 3)) (a_cons (l_var (pv 5)) (a_cons (l_callB (c_max rfl) (by rfl) nv.z_max (by decide +kernel) (a_cons l_int (a_cons (l_var (pv 7)) a_nil))) a_nil)))) (by rfl)) (fun _ => rfl))) (ls_one (ls_ret l_bool)) ls_nil)))
    (ls_one (ls_if (l_tcmp (o_ne am.u) (l_callB (c_repr am) (by rfl) nv.z_repr (by decide +kernel) (a_cons (l_var (pv 5)) a_nil)) (l_var (pv 6)) (by rfl)) (ls_one (ls_ret l_bool)) ls_nil))))))))))
    (ls_cons (ls_asg (l_tup (a_cons (l_tup (a_cons (l_tup (a_cons l_str (a_cons l_str (a_cons l_str a_nil)))) (a_cons (l_bin o_pow l_int l_int) a_nil))) (a_cons (l_tup (a_cons (l_tup (a_cons l_str a_nil)) (a_cons l_int a_nil))) a_nil))) (pg_nm sc_law.nd rfl (by first | exact .inl rfl | exact .inr rfl)))
    (ls_cons (ls_asgLc rfl sc_law.nd rfl rfl (sw_true rfl rfl rfl rfl) (li_tup (l_tup (a_cons (l_bin o_sub (l_bin o_mul l_int (l_bin o_pow l_int l_int)) l_int) (a_cons (l_bin o_add (l_bin o_mul l_int (l_bin o_pow l_int l_int)) l_int) (a_cons (l_bin o_add (l_bin o_mul l_int (l_bin o_pow l_int l_int)) l_int) a_nil))))) (blkOk_by (own := [("many", 10)]) (show blkC n_law (defScope s_law) _ _ = true by decide +kernel)) (fun _ _ _ _ _ => (pg_nm sc_law.nd rfl (by first | exact .inl rfl | exact .inr rfl))) (fun _ _ _ _ _ => lts_nil) (fun _ _ _ _ _ => (l_call (kn_dropped nv).mono room am.blk takes0 (a_cons (l_tup (a_cons l_str (a_cons l_str (a_cons l_str a_nil)))) (a_cons (l_var (pv 5)) (a_cons (l_var (pv 10)) a_nil))) (by rfl))))
    (ls_cons (ls_if (LW.lt (l_or (l_tnot (l_truth (l_call (kn__law_same nv).mono room am tk (a_cons (l_ix (l_var (pv 8)) l_int) (a_cons (l_tup (a_cons (l_tup (a_cons (l_tup (a_cons l_str a_nil)) (a_cons l_int a_nil))) a_nil)) a_nil)) (by rfl)) (fun _ => rfl))) (l_or (l_tnot (l_truth (l_call (kn__law_same nv).mono room am tk (a_cons (l_ix (l_var (pv 8)) l_int) (a_cons (l_tup (a_cons (l_tup (a_cons (l_tup (a_cons l_str a_nil)) (a_cons l_int a_nil))) a_nil)) a_nil)) (by rfl)) (fun _ => rfl))) (l_or1 (l_tcmp (o_ne am.u) (l_ix (l_var (pv 8)) l_int) (l_tup a_nil) (by rfl)))))) (ls_one (ls_ret l_bool)) ls_nil)
    (ls_cons (ls_asg (l_bin o_mul (l_tup (a_cons (l_tup (a_cons (l_tup (a_cons l_str a_nil)) (a_cons (l_bin o_pow l_int l_int) a_nil))) a_nil)) l_int) (pg_nm sc_law.nd rfl (by first | exact .inl rfl | exact .inr rfl)))
    (ls_cons (ls_for pas rfl (li_tup (l_tup (a_cons l_int (a_cons l_int (a_cons (l_bin o_sub (l_bin o_pow l_int l_int) l_int) (a_cons (l_bin o_add (l_bin o_pow l_int l_int) l_int) a_nil)))))) (pg_nm sc_law.nd rfl (by first | exact .inl rfl | exact .inr rfl)) (ls_cons (ls_asg (l_call (kn_dropped nv).mono room am tk (a_cons (l_tup (a_cons l_str a_nil)) (a_cons (l_var (pv 9)) (a_cons (l_var (pv 10)) a_nil))) (by rfl)) (pg_nm sc_law.nd rfl (by first | exact .inl rfl | exact .inr rfl)))
    (ls_one (ls_if (LW.lt (l_or (l_tcmp o_isnot (l_call (kn_is_blocks nv).mono room am tk (a_cons (l_tup (a_cons l_str a_nil)) (a_cons (l_var (pv 11)) a_nil)) (by rfl)) l_bool (by rfl)) (l_or1 (l_tnot (l_truth (l_call (kn__law_same nv).mono room am tk (a_cons (l_var (pv 11)) (a_cons (l_ix (l_call (kn__law_cut nv).mono room am tk (a_cons (l_var (pv 9)) (a_cons (l_var (pv 10)) a_nil)) (by rfl)) l_int) a_nil)) (by rfl)) (fun _ => rfl)))))) (ls_one (ls_ret l_bool)) ls_nil))))
    (ls_one (ls_ret (l_vand (l_cmp (o_eq am.u) (l_call (kn_dropped nv).mono room am tk (a_cons (l_tup (a_cons l_str a_nil)) (a_cons (l_tup a_nil) (a_cons l_int a_nil))) (by rfl)) (l_tup a_nil) (by rfl)) (l_vone (l_cmp (o_eq am.u) (l_call (kn_dropped nv).mono room am tk (a_cons (l_tup (a_cons l_str a_nil)) (a_cons (l_tup a_nil) (a_cons (l_bin o_pow l_int l_int) a_nil))) (by rfl)) (l_tup a_nil) (by rfl))))))))))))
theorem kn_law (nv : Nv K mg) : Knows P w K mg base 8 "law" 1 f_law := knows_of (ps := ["script"]) nv.d_law (fun f fd F => F.binds fun _ _ _ _ _ _ us hl => match us, hl with | [_], _ => rfl) sc_law rfl (b_law nv)
end
section
variable {K : PySem.W.Frag} {h : Heap} {mg : Str → Option Value}
theorem nv_mk (X : K.In h) (G : h.Ns mainGlobals mg) {t_MAX_LETTERS : Tok} {t_EMPTY : Tok} {t_MAX_LABELS : Tok} {t_MAX_TIMES : Tok} {f_is_whole : Addr} {oc_is_whole kV_is_whole dc_is_whole pm_is_whole cd_is_whole ct_is_whole : Value} {od_is_whole an_is_whole : Option Addr} {sl_is_whole : Array (Option Value)} {f_is_whole_within : Addr} {oc_is_whole_within kV_is_whole_within dc_is_whole_within pm_is_whole_within cd_is_whole_within ct_is_whole_within : Value} {od_is_whole_within an_is_whole_within : Option Addr} {sl_is_whole_within : Array (Option Value)} {f_is_tuple_of : Addr} {oc_is_tuple_of kV_is_tuple_of dc_is_tuple_of pm_is_tuple_of cd_is_tuple_of ct_is_tuple_of : Value} {od_is_tuple_of an_is_tuple_of : Option Addr} {sl_is_tuple_of : Array (Option Value)} {f_are_names : Addr} {oc_are_names kV_are_names dc_are_names pm_are_names cd_are_names ct_are_names : Value} {od_are_names an_are_names : Option Addr} {sl_are_names : Array (Option Value)} {f_is_labels : Addr} {oc_is_labels kV_is_labels dc_is_labels pm_is_labels cd_is_labels ct_is_labels : Value} {od_is_labels an_is_labels : Option Addr} {sl_is_labels : Array (Option Value)} {f_is_word : Addr} {oc_is_word kV_is_word dc_is_word pm_is_word cd_is_word ct_is_word : Value} {od_is_word an_is_word : Option Addr} {sl_is_word : Array (Option Value)} {f_require_labels : Addr} {oc_require_labels kV_require_labels dc_require_labels pm_require_labels cd_require_labels ct_require_labels : Value} {od_require_labels an_require_labels : Option Addr} {sl_require_labels : Array (Option Value)} {f_is_block : Addr} {oc_is_block kV_is_block dc_is_block pm_is_block cd_is_block ct_is_block : Value} {od_is_block an_is_block : Option Addr} {sl_is_block : Array (Option Value)} {f_is_blocks : Addr} {oc_is_blocks kV_is_blocks dc_is_blocks pm_is_blocks cd_is_blocks ct_is_blocks : Value} {od_is_blocks an_is_blocks : Option Addr} {sl_is_blocks : Array (Option Value)} {f_length_of : Addr} {oc_length_of kV_length_of dc_length_of pm_length_of cd_length_of ct_length_of : Value} {od_length_of an_length_of : Option Addr} {sl_length_of : Array (Option Value)} {f_require_blocks : Addr} {oc_require_blocks kV_require_blocks dc_require_blocks pm_require_blocks cd_require_blocks ct_require_blocks : Value} {od_require_blocks an_require_blocks : Option Addr} {sl_require_blocks : Array (Option Value)} {f_blocks_length : Addr} {oc_blocks_length kV_blocks_length dc_blocks_length pm_blocks_length cd_blocks_length ct_blocks_length : Value} {od_blocks_length an_blocks_length : Option Addr} {sl_blocks_length : Array (Option Value)} {f_label_of : Addr} {oc_label_of kV_label_of dc_label_of pm_label_of cd_label_of ct_label_of : Value} {od_label_of an_label_of : Option Addr} {sl_label_of : Array (Option Value)} {f_require_number : Addr} {oc_require_number kV_require_number dc_require_number pm_require_number cd_require_number ct_require_number : Value} {od_require_number an_require_number : Option Addr} {sl_require_number : Array (Option Value)} {f_label_at : Addr} {oc_label_at kV_label_at dc_label_at pm_label_at cd_label_at ct_label_at : Value} {od_label_at an_label_at : Option Addr} {sl_label_at : Array (Option Value)} {f_rest_of_block : Addr} {oc_rest_of_block kV_rest_of_block dc_rest_of_block pm_rest_of_block cd_rest_of_block ct_rest_of_block : Value} {od_rest_of_block an_rest_of_block : Option Addr} {sl_rest_of_block : Array (Option Value)} {f_without_first : Addr} {oc_without_first kV_without_first dc_without_first pm_without_first cd_without_first ct_without_first : Value} {od_without_first an_without_first : Option Addr} {sl_without_first : Array (Option Value)} {f_dropped : Addr} {oc_dropped kV_dropped dc_dropped pm_dropped cd_dropped ct_dropped : Value} {od_dropped an_dropped : Option Addr} {sl_dropped : Array (Option Value)} {f__law_stream : Addr} {oc__law_stream kV__law_stream dc__law_stream pm__law_stream cd__law_stream ct__law_stream : Value} {od__law_stream an__law_stream : Option Addr} {sl__law_stream : Array (Option Value)} {f__law_draw : Addr} {oc__law_draw kV__law_draw dc__law_draw pm__law_draw cd__law_draw ct__law_draw : Value} {od__law_draw an__law_draw : Option Addr} {sl__law_draw : Array (Option Value)} {f__law_letters : Addr} {oc__law_letters kV__law_letters dc__law_letters pm__law_letters cd__law_letters ct__law_letters : Value} {od__law_letters an__law_letters : Option Addr} {sl__law_letters : Array (Option Value)} {f__law_names : Addr} {oc__law_names kV__law_names dc__law_names pm__law_names cd__law_names ct__law_names : Value} {od__law_names an__law_names : Option Addr} {sl__law_names : Array (Option Value)} {f__law_times : Addr} {oc__law_times kV__law_times dc__law_times pm__law_times cd__law_times ct__law_times : Value} {od__law_times an__law_times : Option Addr} {sl__law_times : Array (Option Value)} {f__law_block_word : Addr} {oc__law_block_word kV__law_block_word dc__law_block_word pm__law_block_word cd__law_block_word ct__law_block_word : Value} {od__law_block_word an__law_block_word : Option Addr} {sl__law_block_word : Array (Option Value)} {f__law_blocks : Addr} {oc__law_blocks kV__law_blocks dc__law_blocks pm__law_blocks cd__law_blocks ct__law_blocks : Value} {od__law_blocks an__law_blocks : Option Addr} {sl__law_blocks : Array (Option Value)} {f__law_length : Addr} {oc__law_length kV__law_length dc__law_length pm__law_length cd__law_length ct__law_length : Value} {od__law_length an__law_length : Option Addr} {sl__law_length : Array (Option Value)} {f__law_label : Addr} {oc__law_label kV__law_label dc__law_label pm__law_label cd__law_label ct__law_label : Value} {od__law_label an__law_label : Option Addr} {sl__law_label : Array (Option Value)} {f__law_positions : Addr} {oc__law_positions kV__law_positions dc__law_positions pm__law_positions cd__law_positions ct__law_positions : Value} {od__law_positions an__law_positions : Option Addr} {sl__law_positions : Array (Option Value)} {f__law_cut : Addr} {oc__law_cut kV__law_cut dc__law_cut pm__law_cut cd__law_cut ct__law_cut : Value} {od__law_cut an__law_cut : Option Addr} {sl__law_cut : Array (Option Value)} {f__law_same : Addr} {oc__law_same kV__law_same dc__law_same pm__law_same cd__law_same ct__law_same : Value} {od__law_same an__law_same : Option Addr} {sl__law_same : Array (Option Value)} {f__law_drop_right : Addr} {oc__law_drop_right kV__law_drop_right dc__law_drop_right pm__law_drop_right cd__law_drop_right ct__law_drop_right : Value} {od__law_drop_right an__law_drop_right : Option Addr} {sl__law_drop_right : Array (Option Value)} {f_law : Addr} {oc_law kV_law dc_law pm_law cd_law ct_law : Value} {od_law an_law : Option Addr} {sl_law : Array (Option Value)}
    (z_abs : PySem.W.nsIn K mainGlobals "abs" = some none)
    (z_all : PySem.W.nsIn K mainGlobals "all" = some none)
    (z_divmod : PySem.W.nsIn K mainGlobals "divmod" = some none)
    (z_enumerate : PySem.W.nsIn K mainGlobals "enumerate" = some none)
    (z_int : PySem.W.nsIn K mainGlobals "int" = some none)
    (z_isinstance : PySem.W.nsIn K mainGlobals "isinstance" = some none)
    (z_len : PySem.W.nsIn K mainGlobals "len" = some none)
    (z_max : PySem.W.nsIn K mainGlobals "max" = some none)
    (z_min : PySem.W.nsIn K mainGlobals "min" = some none)
    (z_range : PySem.W.nsIn K mainGlobals "range" = some none)
    (z_repr : PySem.W.nsIn K mainGlobals "repr" = some none)
    (z_sorted : PySem.W.nsIn K mainGlobals "sorted" = some none)
    (z_str : PySem.W.nsIn K mainGlobals "str" = some none)
    (z_sum : PySem.W.nsIn K mainGlobals "sum" = some none)
    (z_tuple : PySem.W.nsIn K mainGlobals "tuple" = some none)
    (z_type : PySem.W.nsIn K mainGlobals "type" = some none)
    (a_MAX_LETTERS : PySem.W.nsIn K mainGlobals "MAX_LETTERS" = some (some (.int 8 t_MAX_LETTERS)))
    (a_EMPTY : PySem.W.nsIn K mainGlobals "EMPTY" = some (some (.str "" t_EMPTY)))
    (a_MAX_LABELS : PySem.W.nsIn K mainGlobals "MAX_LABELS" = some (some (.int 12 t_MAX_LABELS)))
    (a_MAX_TIMES : PySem.W.nsIn K mainGlobals "MAX_TIMES" = some (some (.int 1000000000000000000000000000000 t_MAX_TIMES)))
    (a_is_whole : PySem.W.nsIn K mainGlobals "is_whole" = some (some (.ref f_is_whole)))
    (l_is_whole : K.lookup f_is_whole = some ⟨oc_is_whole, od_is_whole, .func (PySem.W.fnOf "is_whole" "is_whole" (defArgs s_is_whole) (defBody s_is_whole) (defScope s_is_whole) .none kV_is_whole dc_is_whole pm_is_whole an_is_whole cd_is_whole ct_is_whole), sl_is_whole⟩)
    (c_is_whole : PySem.W.codeIn K cd_is_whole "is_whole" = true)
    (k_is_whole : PySem.W.keepIn K (.ref f_is_whole) = true)
    (a_is_whole_within : PySem.W.nsIn K mainGlobals "is_whole_within" = some (some (.ref f_is_whole_within)))
    (l_is_whole_within : K.lookup f_is_whole_within = some ⟨oc_is_whole_within, od_is_whole_within, .func (PySem.W.fnOf "is_whole_within" "is_whole_within" (defArgs s_is_whole_within) (defBody s_is_whole_within) (defScope s_is_whole_within) .none kV_is_whole_within dc_is_whole_within pm_is_whole_within an_is_whole_within cd_is_whole_within ct_is_whole_within), sl_is_whole_within⟩)
    (c_is_whole_within : PySem.W.codeIn K cd_is_whole_within "is_whole_within" = true)
    (k_is_whole_within : PySem.W.keepIn K (.ref f_is_whole_within) = true)
    (a_is_tuple_of : PySem.W.nsIn K mainGlobals "is_tuple_of" = some (some (.ref f_is_tuple_of)))
    (l_is_tuple_of : K.lookup f_is_tuple_of = some ⟨oc_is_tuple_of, od_is_tuple_of, .func (PySem.W.fnOf "is_tuple_of" "is_tuple_of" (defArgs s_is_tuple_of) (defBody s_is_tuple_of) (defScope s_is_tuple_of) .none kV_is_tuple_of dc_is_tuple_of pm_is_tuple_of an_is_tuple_of cd_is_tuple_of ct_is_tuple_of), sl_is_tuple_of⟩)
    (c_is_tuple_of : PySem.W.codeIn K cd_is_tuple_of "is_tuple_of" = true)
    (k_is_tuple_of : PySem.W.keepIn K (.ref f_is_tuple_of) = true)
    (a_are_names : PySem.W.nsIn K mainGlobals "are_names" = some (some (.ref f_are_names)))
    (l_are_names : K.lookup f_are_names = some ⟨oc_are_names, od_are_names, .func (PySem.W.fnOf "are_names" "are_names" (defArgs s_are_names) (defBody s_are_names) (defScope s_are_names) .none kV_are_names dc_are_names pm_are_names an_are_names cd_are_names ct_are_names), sl_are_names⟩)
    (c_are_names : PySem.W.codeIn K cd_are_names "are_names" = true)
    (k_are_names : PySem.W.keepIn K (.ref f_are_names) = true)
    (a_is_labels : PySem.W.nsIn K mainGlobals "is_labels" = some (some (.ref f_is_labels)))
    (l_is_labels : K.lookup f_is_labels = some ⟨oc_is_labels, od_is_labels, .func (PySem.W.fnOf "is_labels" "is_labels" (defArgs s_is_labels) (defBody s_is_labels) (defScope s_is_labels) .none kV_is_labels dc_is_labels pm_is_labels an_is_labels cd_is_labels ct_is_labels), sl_is_labels⟩)
    (c_is_labels : PySem.W.codeIn K cd_is_labels "is_labels" = true)
    (k_is_labels : PySem.W.keepIn K (.ref f_is_labels) = true)
    (a_is_word : PySem.W.nsIn K mainGlobals "is_word" = some (some (.ref f_is_word)))
    (l_is_word : K.lookup f_is_word = some ⟨oc_is_word, od_is_word, .func (PySem.W.fnOf "is_word" "is_word" (defArgs s_is_word) (defBody s_is_word) (defScope s_is_word) .none kV_is_word dc_is_word pm_is_word an_is_word cd_is_word ct_is_word), sl_is_word⟩)
    (c_is_word : PySem.W.codeIn K cd_is_word "is_word" = true)
    (k_is_word : PySem.W.keepIn K (.ref f_is_word) = true)
    (a_require_labels : PySem.W.nsIn K mainGlobals "require_labels" = some (some (.ref f_require_labels)))
    (l_require_labels : K.lookup f_require_labels = some ⟨oc_require_labels, od_require_labels, .func (PySem.W.fnOf "require_labels" "require_labels" (defArgs s_require_labels) (defBody s_require_labels) (defScope s_require_labels) .none kV_require_labels dc_require_labels pm_require_labels an_require_labels cd_require_labels ct_require_labels), sl_require_labels⟩)
    (c_require_labels : PySem.W.codeIn K cd_require_labels "require_labels" = true)
    (k_require_labels : PySem.W.keepIn K (.ref f_require_labels) = true)
    (a_is_block : PySem.W.nsIn K mainGlobals "is_block" = some (some (.ref f_is_block)))
    (l_is_block : K.lookup f_is_block = some ⟨oc_is_block, od_is_block, .func (PySem.W.fnOf "is_block" "is_block" (defArgs s_is_block) (defBody s_is_block) (defScope s_is_block) .none kV_is_block dc_is_block pm_is_block an_is_block cd_is_block ct_is_block), sl_is_block⟩)
    (c_is_block : PySem.W.codeIn K cd_is_block "is_block" = true)
    (k_is_block : PySem.W.keepIn K (.ref f_is_block) = true)
    (a_is_blocks : PySem.W.nsIn K mainGlobals "is_blocks" = some (some (.ref f_is_blocks)))
    (l_is_blocks : K.lookup f_is_blocks = some ⟨oc_is_blocks, od_is_blocks, .func (PySem.W.fnOf "is_blocks" "is_blocks" (defArgs s_is_blocks) (defBody s_is_blocks) (defScope s_is_blocks) .none kV_is_blocks dc_is_blocks pm_is_blocks an_is_blocks cd_is_blocks ct_is_blocks), sl_is_blocks⟩)
    (c_is_blocks : PySem.W.codeIn K cd_is_blocks "is_blocks" = true)
    (k_is_blocks : PySem.W.keepIn K (.ref f_is_blocks) = true)
    (a_length_of : PySem.W.nsIn K mainGlobals "length_of" = some (some (.ref f_length_of)))
    (l_length_of : K.lookup f_length_of = some ⟨oc_length_of, od_length_of, .func (PySem.W.fnOf "length_of" "length_of" (defArgs s_length_of) (defBody s_length_of) (defScope s_length_of) .none kV_length_of dc_length_of pm_length_of an_length_of cd_length_of ct_length_of), sl_length_of⟩)
    (c_length_of : PySem.W.codeIn K cd_length_of "length_of" = true)
    (k_length_of : PySem.W.keepIn K (.ref f_length_of) = true)
    (a_require_blocks : PySem.W.nsIn K mainGlobals "require_blocks" = some (some (.ref f_require_blocks)))
    (l_require_blocks : K.lookup f_require_blocks = some ⟨oc_require_blocks, od_require_blocks, .func (PySem.W.fnOf "require_blocks" "require_blocks" (defArgs s_require_blocks) (defBody s_require_blocks) (defScope s_require_blocks) .none kV_require_blocks dc_require_blocks pm_require_blocks an_require_blocks cd_require_blocks ct_require_blocks), sl_require_blocks⟩)
    (c_require_blocks : PySem.W.codeIn K cd_require_blocks "require_blocks" = true)
    (k_require_blocks : PySem.W.keepIn K (.ref f_require_blocks) = true)
    (a_blocks_length : PySem.W.nsIn K mainGlobals "blocks_length" = some (some (.ref f_blocks_length)))
    (l_blocks_length : K.lookup f_blocks_length = some ⟨oc_blocks_length, od_blocks_length, .func (PySem.W.fnOf "blocks_length" "blocks_length" (defArgs s_blocks_length) (defBody s_blocks_length) (defScope s_blocks_length) .none kV_blocks_length dc_blocks_length pm_blocks_length an_blocks_length cd_blocks_length ct_blocks_length), sl_blocks_length⟩)
    (c_blocks_length : PySem.W.codeIn K cd_blocks_length "blocks_length" = true)
    (k_blocks_length : PySem.W.keepIn K (.ref f_blocks_length) = true)
    (a_label_of : PySem.W.nsIn K mainGlobals "label_of" = some (some (.ref f_label_of)))
    (l_label_of : K.lookup f_label_of = some ⟨oc_label_of, od_label_of, .func (PySem.W.fnOf "label_of" "label_of" (defArgs s_label_of) (defBody s_label_of) (defScope s_label_of) .none kV_label_of dc_label_of pm_label_of an_label_of cd_label_of ct_label_of), sl_label_of⟩)
    (c_label_of : PySem.W.codeIn K cd_label_of "label_of" = true)
    (k_label_of : PySem.W.keepIn K (.ref f_label_of) = true)
    (a_require_number : PySem.W.nsIn K mainGlobals "require_number" = some (some (.ref f_require_number)))
    (l_require_number : K.lookup f_require_number = some ⟨oc_require_number, od_require_number, .func (PySem.W.fnOf "require_number" "require_number" (defArgs s_require_number) (defBody s_require_number) (defScope s_require_number) .none kV_require_number dc_require_number pm_require_number an_require_number cd_require_number ct_require_number), sl_require_number⟩)
    (c_require_number : PySem.W.codeIn K cd_require_number "require_number" = true)
    (k_require_number : PySem.W.keepIn K (.ref f_require_number) = true)
    (a_label_at : PySem.W.nsIn K mainGlobals "label_at" = some (some (.ref f_label_at)))
    (l_label_at : K.lookup f_label_at = some ⟨oc_label_at, od_label_at, .func (PySem.W.fnOf "label_at" "label_at" (defArgs s_label_at) (defBody s_label_at) (defScope s_label_at) .none kV_label_at dc_label_at pm_label_at an_label_at cd_label_at ct_label_at), sl_label_at⟩)
    (c_label_at : PySem.W.codeIn K cd_label_at "label_at" = true)
    (k_label_at : PySem.W.keepIn K (.ref f_label_at) = true)
    (a_rest_of_block : PySem.W.nsIn K mainGlobals "rest_of_block" = some (some (.ref f_rest_of_block)))
    (l_rest_of_block : K.lookup f_rest_of_block = some ⟨oc_rest_of_block, od_rest_of_block, .func (PySem.W.fnOf "rest_of_block" "rest_of_block" (defArgs s_rest_of_block) (defBody s_rest_of_block) (defScope s_rest_of_block) .none kV_rest_of_block dc_rest_of_block pm_rest_of_block an_rest_of_block cd_rest_of_block ct_rest_of_block), sl_rest_of_block⟩)
    (c_rest_of_block : PySem.W.codeIn K cd_rest_of_block "rest_of_block" = true)
    (k_rest_of_block : PySem.W.keepIn K (.ref f_rest_of_block) = true)
    (a_without_first : PySem.W.nsIn K mainGlobals "without_first" = some (some (.ref f_without_first)))
    (l_without_first : K.lookup f_without_first = some ⟨oc_without_first, od_without_first, .func (PySem.W.fnOf "without_first" "without_first" (defArgs s_without_first) (defBody s_without_first) (defScope s_without_first) .none kV_without_first dc_without_first pm_without_first an_without_first cd_without_first ct_without_first), sl_without_first⟩)
    (c_without_first : PySem.W.codeIn K cd_without_first "without_first" = true)
    (k_without_first : PySem.W.keepIn K (.ref f_without_first) = true)
    (a_dropped : PySem.W.nsIn K mainGlobals "dropped" = some (some (.ref f_dropped)))
    (l_dropped : K.lookup f_dropped = some ⟨oc_dropped, od_dropped, .func (PySem.W.fnOf "dropped" "dropped" (defArgs s_dropped) (defBody s_dropped) (defScope s_dropped) .none kV_dropped dc_dropped pm_dropped an_dropped cd_dropped ct_dropped), sl_dropped⟩)
    (c_dropped : PySem.W.codeIn K cd_dropped "dropped" = true)
    (k_dropped : PySem.W.keepIn K (.ref f_dropped) = true)
    (a__law_stream : PySem.W.nsIn K mainGlobals "_law_stream" = some (some (.ref f__law_stream)))
    (l__law_stream : K.lookup f__law_stream = some ⟨oc__law_stream, od__law_stream, .func (PySem.W.fnOf "_law_stream" "_law_stream" (defArgs s__law_stream) (defBody s__law_stream) (defScope s__law_stream) .none kV__law_stream dc__law_stream pm__law_stream an__law_stream cd__law_stream ct__law_stream), sl__law_stream⟩)
    (c__law_stream : PySem.W.codeIn K cd__law_stream "_law_stream" = true)
    (k__law_stream : PySem.W.keepIn K (.ref f__law_stream) = true)
    (a__law_draw : PySem.W.nsIn K mainGlobals "_law_draw" = some (some (.ref f__law_draw)))
    (l__law_draw : K.lookup f__law_draw = some ⟨oc__law_draw, od__law_draw, .func (PySem.W.fnOf "_law_draw" "_law_draw" (defArgs s__law_draw) (defBody s__law_draw) (defScope s__law_draw) .none kV__law_draw dc__law_draw pm__law_draw an__law_draw cd__law_draw ct__law_draw), sl__law_draw⟩)
    (c__law_draw : PySem.W.codeIn K cd__law_draw "_law_draw" = true)
    (k__law_draw : PySem.W.keepIn K (.ref f__law_draw) = true)
    (a__law_letters : PySem.W.nsIn K mainGlobals "_law_letters" = some (some (.ref f__law_letters)))
    (l__law_letters : K.lookup f__law_letters = some ⟨oc__law_letters, od__law_letters, .func (PySem.W.fnOf "_law_letters" "_law_letters" (defArgs s__law_letters) (defBody s__law_letters) (defScope s__law_letters) .none kV__law_letters dc__law_letters pm__law_letters an__law_letters cd__law_letters ct__law_letters), sl__law_letters⟩)
    (c__law_letters : PySem.W.codeIn K cd__law_letters "_law_letters" = true)
    (k__law_letters : PySem.W.keepIn K (.ref f__law_letters) = true)
    (a__law_names : PySem.W.nsIn K mainGlobals "_law_names" = some (some (.ref f__law_names)))
    (l__law_names : K.lookup f__law_names = some ⟨oc__law_names, od__law_names, .func (PySem.W.fnOf "_law_names" "_law_names" (defArgs s__law_names) (defBody s__law_names) (defScope s__law_names) .none kV__law_names dc__law_names pm__law_names an__law_names cd__law_names ct__law_names), sl__law_names⟩)
    (c__law_names : PySem.W.codeIn K cd__law_names "_law_names" = true)
    (k__law_names : PySem.W.keepIn K (.ref f__law_names) = true)
    (a__law_times : PySem.W.nsIn K mainGlobals "_law_times" = some (some (.ref f__law_times)))
    (l__law_times : K.lookup f__law_times = some ⟨oc__law_times, od__law_times, .func (PySem.W.fnOf "_law_times" "_law_times" (defArgs s__law_times) (defBody s__law_times) (defScope s__law_times) .none kV__law_times dc__law_times pm__law_times an__law_times cd__law_times ct__law_times), sl__law_times⟩)
    (c__law_times : PySem.W.codeIn K cd__law_times "_law_times" = true)
    (k__law_times : PySem.W.keepIn K (.ref f__law_times) = true)
    (a__law_block_word : PySem.W.nsIn K mainGlobals "_law_block_word" = some (some (.ref f__law_block_word)))
    (l__law_block_word : K.lookup f__law_block_word = some ⟨oc__law_block_word, od__law_block_word, .func (PySem.W.fnOf "_law_block_word" "_law_block_word" (defArgs s__law_block_word) (defBody s__law_block_word) (defScope s__law_block_word) .none kV__law_block_word dc__law_block_word pm__law_block_word an__law_block_word cd__law_block_word ct__law_block_word), sl__law_block_word⟩)
    (c__law_block_word : PySem.W.codeIn K cd__law_block_word "_law_block_word" = true)
    (k__law_block_word : PySem.W.keepIn K (.ref f__law_block_word) = true)
    (a__law_blocks : PySem.W.nsIn K mainGlobals "_law_blocks" = some (some (.ref f__law_blocks)))
    (l__law_blocks : K.lookup f__law_blocks = some ⟨oc__law_blocks, od__law_blocks, .func (PySem.W.fnOf "_law_blocks" "_law_blocks" (defArgs s__law_blocks) (defBody s__law_blocks) (defScope s__law_blocks) .none kV__law_blocks dc__law_blocks pm__law_blocks an__law_blocks cd__law_blocks ct__law_blocks), sl__law_blocks⟩)
    (c__law_blocks : PySem.W.codeIn K cd__law_blocks "_law_blocks" = true)
    (k__law_blocks : PySem.W.keepIn K (.ref f__law_blocks) = true)
    (a__law_length : PySem.W.nsIn K mainGlobals "_law_length" = some (some (.ref f__law_length)))
    (l__law_length : K.lookup f__law_length = some ⟨oc__law_length, od__law_length, .func (PySem.W.fnOf "_law_length" "_law_length" (defArgs s__law_length) (defBody s__law_length) (defScope s__law_length) .none kV__law_length dc__law_length pm__law_length an__law_length cd__law_length ct__law_length), sl__law_length⟩)
    (c__law_length : PySem.W.codeIn K cd__law_length "_law_length" = true)
    (k__law_length : PySem.W.keepIn K (.ref f__law_length) = true)
    (a__law_label : PySem.W.nsIn K mainGlobals "_law_label" = some (some (.ref f__law_label)))
    (l__law_label : K.lookup f__law_label = some ⟨oc__law_label, od__law_label, .func (PySem.W.fnOf "_law_label" "_law_label" (defArgs s__law_label) (defBody s__law_label) (defScope s__law_label) .none kV__law_label dc__law_label pm__law_label an__law_label cd__law_label ct__law_label), sl__law_label⟩)
    (c__law_label : PySem.W.codeIn K cd__law_label "_law_label" = true)
    (k__law_label : PySem.W.keepIn K (.ref f__law_label) = true)
    (a__law_positions : PySem.W.nsIn K mainGlobals "_law_positions" = some (some (.ref f__law_positions)))
    (l__law_positions : K.lookup f__law_positions = some ⟨oc__law_positions, od__law_positions, .func (PySem.W.fnOf "_law_positions" "_law_positions" (defArgs s__law_positions) (defBody s__law_positions) (defScope s__law_positions) .none kV__law_positions dc__law_positions pm__law_positions an__law_positions cd__law_positions ct__law_positions), sl__law_positions⟩)
    (c__law_positions : PySem.W.codeIn K cd__law_positions "_law_positions" = true)
    (k__law_positions : PySem.W.keepIn K (.ref f__law_positions) = true)
    (a__law_cut : PySem.W.nsIn K mainGlobals "_law_cut" = some (some (.ref f__law_cut)))
    (l__law_cut : K.lookup f__law_cut = some ⟨oc__law_cut, od__law_cut, .func (PySem.W.fnOf "_law_cut" "_law_cut" (defArgs s__law_cut) (defBody s__law_cut) (defScope s__law_cut) .none kV__law_cut dc__law_cut pm__law_cut an__law_cut cd__law_cut ct__law_cut), sl__law_cut⟩)
    (c__law_cut : PySem.W.codeIn K cd__law_cut "_law_cut" = true)
    (k__law_cut : PySem.W.keepIn K (.ref f__law_cut) = true)
    (a__law_same : PySem.W.nsIn K mainGlobals "_law_same" = some (some (.ref f__law_same)))
    (l__law_same : K.lookup f__law_same = some ⟨oc__law_same, od__law_same, .func (PySem.W.fnOf "_law_same" "_law_same" (defArgs s__law_same) (defBody s__law_same) (defScope s__law_same) .none kV__law_same dc__law_same pm__law_same an__law_same cd__law_same ct__law_same), sl__law_same⟩)
    (c__law_same : PySem.W.codeIn K cd__law_same "_law_same" = true)
    (k__law_same : PySem.W.keepIn K (.ref f__law_same) = true)
    (a__law_drop_right : PySem.W.nsIn K mainGlobals "_law_drop_right" = some (some (.ref f__law_drop_right)))
    (l__law_drop_right : K.lookup f__law_drop_right = some ⟨oc__law_drop_right, od__law_drop_right, .func (PySem.W.fnOf "_law_drop_right" "_law_drop_right" (defArgs s__law_drop_right) (defBody s__law_drop_right) (defScope s__law_drop_right) .none kV__law_drop_right dc__law_drop_right pm__law_drop_right an__law_drop_right cd__law_drop_right ct__law_drop_right), sl__law_drop_right⟩)
    (c__law_drop_right : PySem.W.codeIn K cd__law_drop_right "_law_drop_right" = true)
    (k__law_drop_right : PySem.W.keepIn K (.ref f__law_drop_right) = true)
    (a_law : PySem.W.nsIn K mainGlobals "law" = some (some (.ref f_law)))
    (l_law : K.lookup f_law = some ⟨oc_law, od_law, .func (PySem.W.fnOf "law" "law" (defArgs s_law) (defBody s_law) (defScope s_law) .none kV_law dc_law pm_law an_law cd_law ct_law), sl_law⟩)
    (c_law : PySem.W.codeIn K cd_law "law" = true)
    (k_law : PySem.W.keepIn K (.ref f_law) = true) : Nv K mg := {
  z_abs := PySem.W.mg_none_of X G z_abs
  z_all := PySem.W.mg_none_of X G z_all
  z_divmod := PySem.W.mg_none_of X G z_divmod
  z_enumerate := PySem.W.mg_none_of X G z_enumerate
  z_int := PySem.W.mg_none_of X G z_int
  z_isinstance := PySem.W.mg_none_of X G z_isinstance
  z_len := PySem.W.mg_none_of X G z_len
  z_max := PySem.W.mg_none_of X G z_max
  z_min := PySem.W.mg_none_of X G z_min
  z_range := PySem.W.mg_none_of X G z_range
  z_repr := PySem.W.mg_none_of X G z_repr
  z_sorted := PySem.W.mg_none_of X G z_sorted
  z_str := PySem.W.mg_none_of X G z_str
  z_sum := PySem.W.mg_none_of X G z_sum
  z_tuple := PySem.W.mg_none_of X G z_tuple
  z_type := PySem.W.mg_none_of X G z_type
  k_MAX_LETTERS := kd_int X G a_MAX_LETTERS
  k_EMPTY := kd_str X G a_EMPTY
  k_MAX_LABELS := kd_int X G a_MAX_LABELS
  k_MAX_TIMES := kd_int X G a_MAX_TIMES
  d_is_whole := fun_at X G a_is_whole l_is_whole c_is_whole k_is_whole
  d_is_whole_within := fun_at X G a_is_whole_within l_is_whole_within c_is_whole_within k_is_whole_within
  d_is_tuple_of := fun_at X G a_is_tuple_of l_is_tuple_of c_is_tuple_of k_is_tuple_of
  d_are_names := fun_at X G a_are_names l_are_names c_are_names k_are_names
  d_is_labels := fun_at X G a_is_labels l_is_labels c_is_labels k_is_labels
  d_is_word := fun_at X G a_is_word l_is_word c_is_word k_is_word
  d_require_labels := fun_at X G a_require_labels l_require_labels c_require_labels k_require_labels
  d_is_block := fun_at X G a_is_block l_is_block c_is_block k_is_block
  d_is_blocks := fun_at X G a_is_blocks l_is_blocks c_is_blocks k_is_blocks
  d_length_of := fun_at X G a_length_of l_length_of c_length_of k_length_of
  d_require_blocks := fun_at X G a_require_blocks l_require_blocks c_require_blocks k_require_blocks
  d_blocks_length := fun_at X G a_blocks_length l_blocks_length c_blocks_length k_blocks_length
  d_label_of := fun_at X G a_label_of l_label_of c_label_of k_label_of
  d_require_number := fun_at X G a_require_number l_require_number c_require_number k_require_number
  d_label_at := fun_at X G a_label_at l_label_at c_label_at k_label_at
  d_rest_of_block := fun_at X G a_rest_of_block l_rest_of_block c_rest_of_block k_rest_of_block
  d_without_first := fun_at X G a_without_first l_without_first c_without_first k_without_first
  d_dropped := fun_at X G a_dropped l_dropped c_dropped k_dropped
  d__law_stream := fun_at X G a__law_stream l__law_stream c__law_stream k__law_stream
  d__law_draw := fun_at X G a__law_draw l__law_draw c__law_draw k__law_draw
  d__law_letters := fun_at X G a__law_letters l__law_letters c__law_letters k__law_letters
  d__law_names := fun_at X G a__law_names l__law_names c__law_names k__law_names
  d__law_times := fun_at X G a__law_times l__law_times c__law_times k__law_times
  d__law_block_word := fun_at X G a__law_block_word l__law_block_word c__law_block_word k__law_block_word
  d__law_blocks := fun_at X G a__law_blocks l__law_blocks c__law_blocks k__law_blocks
  d__law_length := fun_at X G a__law_length l__law_length c__law_length k__law_length
  d__law_label := fun_at X G a__law_label l__law_label c__law_label k__law_label
  d__law_positions := fun_at X G a__law_positions l__law_positions c__law_positions k__law_positions
  d__law_cut := fun_at X G a__law_cut l__law_cut c__law_cut k__law_cut
  d__law_same := fun_at X G a__law_same l__law_same c__law_same k__law_same
  d__law_drop_right := fun_at X G a__law_drop_right l__law_drop_right c__law_drop_right k__law_drop_right
  d_law := fun_at X G a_law l_law c_law k_law }
theorem law_mk {P : Program} {w : World} {fa : Addr} (hfa : mg "law" = some (.ref fa)) (nv : Nv K mg) : ∃ fd : FuncData, (∀ (s : Shared) (v : Value), BindsTo s fd ⟨[v], []⟩ [("script", v)]) ∧ ∀ base : Heap, K.In base → base.Ns mainGlobals mg → FnG P w K mg base 8 fa fd ["script"] (spL K mg 1 f_law) := by
  obtain ⟨f, fd, e, F⟩ := nv.d_law
  rw [hfa] at e
  cases e
  refine ⟨fd, fun s v => ?_, fun base _ _ => fun_g F sc_law rfl (b_law nv)⟩
  obtain ⟨oc, od, kV, doc, pm, an, cdv, ct, osl, rfl, _⟩ := F.ex
  exact .of_eq rfl
end
end L3.LK23

/-! D23 -/
namespace L3.LK23
open PySem PySem.Spec PyProof.Rows L2 L3
theorem draw_ok {r m : Nat} {S : Store} {n : Int} (h : SV r m S) (hn : 0 < n) (hn2 : n < 10 ^ 60) (hm : m < 10 ^ 60) : ∃ v S', f__law_draw [.ref r, .dat (.int n)] S = .ok (.dat (.int v)) S' ∧ 0 ≤ v ∧ v < n ∧ SV r (m + 1) S' := by
  obtain ⟨a, b, c, hs, ha, ha2, hb, hb2, hc, hc2⟩ := h
  have i0 : ixD S (.ref r) (.dat (.int 0)) = some (.dat (.int a)) := by rw [v_ixr 0 hs]; rfl
  have i2 : ixD S (.ref r) (.dat (.int 2)) = some (.dat (.int c)) := by rw [v_ixr 2 hs]; rfl
  have hr : r < S.length := (List.getElem?_eq_some_iff.mp hs).1
  have ln : n.natAbs.log2 < 9000 := Nat.lt_of_lt_of_le (log2_lt (n := 200) (by omega) (by omega) (by decide)) (by decide)
  unfold f__law_draw m__law_draw
  simp only [e_bind_ok, e_stm_ok, e_then_nx, e_then_rt, e_then_bk, e_then_ct, e_optR, e_optB, e_optV, e_optT, e_seq, e_pass, e_asg, e_put, e_ret, e_if, e_var, e_d, e_bin, e_un, e_ix, e_tOf, e_tOfB, e_and, e_or, e_tnot, e_vand, e_vor, e_vnot, e_vif, e_set, e_par2, e_park2, e_park3, e_retref, e_nlst, e_nil, e_cons, e_cb, e_call, e_isi, e_tup, e_lst, e_dats_nil, e_dats_cons, e_for, e_rng, e_sqi, e_sti, seqO_t, strO_s, e_new, e_eOfN, e_sl, e_onone, e_osome, s_dat, s_ref, s_scr, s_nil, s_cons, e_fn, e_to_rt, e_to_nx, e_o1, Option.map_some, List.getElem?_cons_zero, List.getElem?_cons_succ, List.map_cons, List.map_nil, List.cons_append, List.nil_append, List.replicate, List.set_cons_zero, List.set_cons_succ, List.length_cons, List.length_nil, if_true, v_lt, v_gt, v_le, v_ge, v_eq, v_ne, v_add, v_sub, dB, decide_eq_true_eq, Bool.and_self, Bool.false_eq_true, if_false, Nat.reduceAdd, Nat.reduceEqDiff, and_self, true_and, decide_true, decide_false, Bool.not_true, Bool.not_false, i0]
  by_cases h0 : 0 < a
  · simp only [e_bind_ok, e_stm_ok, e_then_nx, e_then_rt, e_then_bk, e_then_ct, e_optR, e_optB, e_optV, e_optT, e_seq, e_pass, e_asg, e_put, e_ret, e_if, e_var, e_d, e_bin, e_un, e_ix, e_tOf, e_tOfB, e_and, e_or, e_tnot, e_vand, e_vor, e_vnot, e_vif, e_set, e_par2, e_park2, e_park3, e_retref, e_nlst, e_nil, e_cons, e_cb, e_call, e_isi, e_tup, e_lst, e_dats_nil, e_dats_cons, e_for, e_rng, e_sqi, e_sti, seqO_t, strO_s, e_new, e_eOfN, e_sl, e_onone, e_osome, s_dat, s_ref, s_scr, s_nil, s_cons, e_fn, e_to_rt, e_to_nx, e_o1, Option.map_some, List.getElem?_cons_zero, List.getElem?_cons_succ, List.map_cons, List.map_nil, List.cons_append, List.nil_append, List.replicate, List.set_cons_zero, List.set_cons_succ, List.length_cons, List.length_nil, if_true, v_lt, v_gt, v_le, v_ge, v_eq, v_ne, v_add, v_sub, dB, decide_eq_true_eq, Bool.and_self, Bool.false_eq_true, if_false, Nat.reduceAdd, Nat.reduceEqDiff, and_self, true_and, decide_true, decide_false, Bool.not_true, Bool.not_false, h0, i0, v_mod hn, v_fdiv ⟨hn, ln⟩, e_setK hs (show ixN 3 0 = some 0 from rfl) s_dat]
    refine ⟨_, _, rfl, Int.emod_nonneg _ (by omega), Int.emod_lt_of_pos _ hn, a / n, b, c, ?_, ?_, ?_, hb, hb2, hc, by omega⟩
    · rw [List.getElem?_set_self hr]; rfl
    · exact Int.ediv_nonneg ha (by omega)
    · exact Int.lt_of_le_of_lt (Int.ediv_le_self _ ha) ha2
  · simp only [e_bind_ok, e_stm_ok, e_then_nx, e_then_rt, e_then_bk, e_then_ct, e_optR, e_optB, e_optV, e_optT, e_seq, e_pass, e_asg, e_put, e_ret, e_if, e_var, e_d, e_bin, e_un, e_ix, e_tOf, e_tOfB, e_and, e_or, e_tnot, e_vand, e_vor, e_vnot, e_vif, e_set, e_par2, e_park2, e_park3, e_retref, e_nlst, e_nil, e_cons, e_cb, e_call, e_isi, e_tup, e_lst, e_dats_nil, e_dats_cons, e_for, e_rng, e_sqi, e_sti, seqO_t, strO_s, e_new, e_eOfN, e_sl, e_onone, e_osome, s_dat, s_ref, s_scr, s_nil, s_cons, e_fn, e_to_rt, e_to_nx, e_o1, Option.map_some, List.getElem?_cons_zero, List.getElem?_cons_succ, List.map_cons, List.map_nil, List.cons_append, List.nil_append, List.replicate, List.set_cons_zero, List.set_cons_succ, List.length_cons, List.length_nil, if_true, v_lt, v_gt, v_le, v_ge, v_eq, v_ne, v_add, v_sub, dB, decide_eq_true_eq, Bool.and_self, Bool.false_eq_true, if_false, Nat.reduceAdd, Nat.reduceEqDiff, and_self, true_and, decide_true, decide_false, Bool.not_true, Bool.not_false, h0, i2, e_setK hs (show ixN 3 2 = some 2 from rfl) s_dat]
    have hs2 : (List.set S r (MO.lst [D.dat (PyData.int a), D.dat (PyData.int b), D.dat (PyData.int (c + 1))]))[r]? = some (sv3 a b (c + 1)) := by rw [List.getElem?_set_self hr]; rfl
    generalize List.set S r (MO.lst [D.dat (PyData.int a), D.dat (PyData.int b), D.dat (PyData.int (c + 1))]) = S2 at hs2 ⊢
    have j1 : ixD S2 (.ref r) (.dat (.int 1)) = some (.dat (.int b)) := by rw [v_ixr 1 hs2]; rfl
    have j2 : ixD S2 (.ref r) (.dat (.int 2)) = some (.dat (.int (c + 1))) := by rw [v_ixr 2 hs2]; rfl
    simp only [e_bind_ok, e_stm_ok, e_then_nx, e_then_rt, e_then_bk, e_then_ct, e_optR, e_optB, e_optV, e_optT, e_seq, e_pass, e_asg, e_put, e_ret, e_if, e_var, e_d, e_bin, e_un, e_ix, e_tOf, e_tOfB, e_and, e_or, e_tnot, e_vand, e_vor, e_vnot, e_vif, e_set, e_par2, e_park2, e_park3, e_retref, e_nlst, e_nil, e_cons, e_cb, e_call, e_isi, e_tup, e_lst, e_dats_nil, e_dats_cons, e_for, e_rng, e_sqi, e_sti, seqO_t, strO_s, e_new, e_eOfN, e_sl, e_onone, e_osome, s_dat, s_ref, s_scr, s_nil, s_cons, e_fn, e_to_rt, e_to_nx, e_o1, Option.map_some, List.getElem?_cons_zero, List.getElem?_cons_succ, List.map_cons, List.map_nil, List.cons_append, List.nil_append, List.replicate, List.set_cons_zero, List.set_cons_succ, List.length_cons, List.length_nil, if_true, v_lt, v_gt, v_le, v_ge, v_eq, v_ne, v_add, v_sub, dB, decide_eq_true_eq, Bool.and_self, Bool.false_eq_true, if_false, Nat.reduceAdd, Nat.reduceEqDiff, and_self, true_and, decide_true, decide_false, Bool.not_true, Bool.not_false, j1, j2, v_mulb (i := 1327217887) (j := c + 1) (by omega) (by omega) (by omega) (by omega), v_mod (j := 4294967143) (by omega)]
    have o1 := Int.emod_nonneg (b + 1327217887 * (c + 1)) (show (4294967143 : Int) ≠ 0 by omega)
    have o2 := Int.emod_lt_of_pos (b + 1327217887 * (c + 1)) (show (0 : Int) < 4294967143 by omega)
    generalize (b + 1327217887 * (c + 1)) % 4294967143 = one at o1 o2 ⊢
    simp only [e_bind_ok, e_stm_ok, e_then_nx, e_then_rt, e_then_bk, e_then_ct, e_optR, e_optB, e_optV, e_optT, e_seq, e_pass, e_asg, e_put, e_ret, e_if, e_var, e_d, e_bin, e_un, e_ix, e_tOf, e_tOfB, e_and, e_or, e_tnot, e_vand, e_vor, e_vnot, e_vif, e_set, e_par2, e_park2, e_park3, e_retref, e_nlst, e_nil, e_cons, e_cb, e_call, e_isi, e_tup, e_lst, e_dats_nil, e_dats_cons, e_for, e_rng, e_sqi, e_sti, seqO_t, strO_s, e_new, e_eOfN, e_sl, e_onone, e_osome, s_dat, s_ref, s_scr, s_nil, s_cons, e_fn, e_to_rt, e_to_nx, e_o1, Option.map_some, List.getElem?_cons_zero, List.getElem?_cons_succ, List.map_cons, List.map_nil, List.cons_append, List.nil_append, List.replicate, List.set_cons_zero, List.set_cons_succ, List.length_cons, List.length_nil, if_true, v_lt, v_gt, v_le, v_ge, v_eq, v_ne, v_add, v_sub, dB, decide_eq_true_eq, Bool.and_self, Bool.false_eq_true, if_false, Nat.reduceAdd, Nat.reduceEqDiff, and_self, true_and, decide_true, decide_false, Bool.not_true, Bool.not_false, j1, j2, v_mulb (i := one) (j := one) o1 (by omega) o1 (by omega), v_mod (j := 4294967111) (by omega)]
    have p1 := Int.emod_nonneg (one * one) (show (4294967111 : Int) ≠ 0 by omega)
    have p2 := Int.emod_lt_of_pos (one * one) (show (0 : Int) < 4294967111 by omega)
    generalize (one * one) % 4294967111 = onq at p1 p2 ⊢
    simp only [e_bind_ok, e_stm_ok, e_then_nx, e_then_rt, e_then_bk, e_then_ct, e_optR, e_optB, e_optV, e_optT, e_seq, e_pass, e_asg, e_put, e_ret, e_if, e_var, e_d, e_bin, e_un, e_ix, e_tOf, e_tOfB, e_and, e_or, e_tnot, e_vand, e_vor, e_vnot, e_vif, e_set, e_par2, e_park2, e_park3, e_retref, e_nlst, e_nil, e_cons, e_cb, e_call, e_isi, e_tup, e_lst, e_dats_nil, e_dats_cons, e_for, e_rng, e_sqi, e_sti, seqO_t, strO_s, e_new, e_eOfN, e_sl, e_onone, e_osome, s_dat, s_ref, s_scr, s_nil, s_cons, e_fn, e_to_rt, e_to_nx, e_o1, Option.map_some, List.getElem?_cons_zero, List.getElem?_cons_succ, List.map_cons, List.map_nil, List.cons_append, List.nil_append, List.replicate, List.set_cons_zero, List.set_cons_succ, List.length_cons, List.length_nil, if_true, v_lt, v_gt, v_le, v_ge, v_eq, v_ne, v_add, v_sub, dB, decide_eq_true_eq, Bool.and_self, Bool.false_eq_true, if_false, Nat.reduceAdd, Nat.reduceEqDiff, and_self, true_and, decide_true, decide_false, Bool.not_true, Bool.not_false, j1, j2, v_mulb (i := onq) (j := one) p1 (by omega) o1 (by omega), v_mulb (i := 15013) (j := c + 1) (by omega) (by omega) (by omega) (by omega), v_mod (j := 65521) (by omega), v_mod (j := 4294967087) (by omega)]
    generalize onq * one + 15013 * (c + 1) = stir
    have q1 := Int.emod_nonneg (stir + b % 65521) (show (4294967087 : Int) ≠ 0 by omega)
    have q2 := Int.emod_lt_of_pos (stir + b % 65521) (show (0 : Int) < 4294967087 by omega)
    generalize (stir + b % 65521) % 4294967087 = two at q1 q2 ⊢
    simp only [e_bind_ok, e_stm_ok, e_then_nx, e_then_rt, e_then_bk, e_then_ct, e_optR, e_optB, e_optV, e_optT, e_seq, e_pass, e_asg, e_put, e_ret, e_if, e_var, e_d, e_bin, e_un, e_ix, e_tOf, e_tOfB, e_and, e_or, e_tnot, e_vand, e_vor, e_vnot, e_vif, e_set, e_par2, e_park2, e_park3, e_retref, e_nlst, e_nil, e_cons, e_cb, e_call, e_isi, e_tup, e_lst, e_dats_nil, e_dats_cons, e_for, e_rng, e_sqi, e_sti, seqO_t, strO_s, e_new, e_eOfN, e_sl, e_onone, e_osome, s_dat, s_ref, s_scr, s_nil, s_cons, e_fn, e_to_rt, e_to_nx, e_o1, Option.map_some, List.getElem?_cons_zero, List.getElem?_cons_succ, List.map_cons, List.map_nil, List.cons_append, List.nil_append, List.replicate, List.set_cons_zero, List.set_cons_succ, List.length_cons, List.length_nil, if_true, v_lt, v_gt, v_le, v_ge, v_eq, v_ne, v_add, v_sub, dB, decide_eq_true_eq, Bool.and_self, Bool.false_eq_true, if_false, Nat.reduceAdd, Nat.reduceEqDiff, and_self, true_and, decide_true, decide_false, Bool.not_true, Bool.not_false, v_mulb (i := two) (j := two) q1 (by omega) q1 (by omega), v_mod (j := 4294967029) (by omega), v_fdiv (j := 128) (by decide), v_mulb (i := one) (j := 33554432) o1 (by omega) (by omega) (by omega), v_pow (i := 10) (j := 6) (by decide)]
    have k01 : ∃ k : Int, toIntD (.dat (.bool (decide (10 ^ Int.toNat 6 < n)))) = some (.dat (.int k)) ∧ 0 ≤ k ∧ k ≤ 1 := by
      cases decide (10 ^ Int.toNat 6 < n)
      · exact ⟨0, rfl, by omega, by omega⟩
      · exact ⟨1, rfl, by omega, by omega⟩
    obtain ⟨k, ek, k0, k1⟩ := k01
    simp only [e_bind_ok, e_stm_ok, e_then_nx, e_then_rt, e_then_bk, e_then_ct, e_optR, e_optB, e_optV, e_optT, e_seq, e_pass, e_asg, e_put, e_ret, e_if, e_var, e_d, e_bin, e_un, e_ix, e_tOf, e_tOfB, e_and, e_or, e_tnot, e_vand, e_vor, e_vnot, e_vif, e_set, e_par2, e_park2, e_park3, e_retref, e_nlst, e_nil, e_cons, e_cb, e_call, e_isi, e_tup, e_lst, e_dats_nil, e_dats_cons, e_for, e_rng, e_sqi, e_sti, seqO_t, strO_s, e_new, e_eOfN, e_sl, e_onone, e_osome, s_dat, s_ref, s_scr, s_nil, s_cons, e_fn, e_to_rt, e_to_nx, e_o1, Option.map_some, List.getElem?_cons_zero, List.getElem?_cons_succ, List.map_cons, List.map_nil, List.cons_append, List.nil_append, List.replicate, List.set_cons_zero, List.set_cons_succ, List.length_cons, List.length_nil, if_true, v_lt, v_gt, v_le, v_ge, v_eq, v_ne, v_add, v_sub, dB, decide_eq_true_eq, Bool.and_self, Bool.false_eq_true, if_false, Nat.reduceAdd, Nat.reduceEqDiff, and_self, true_and, decide_true, decide_false, Bool.not_true, Bool.not_false, ek, v_mulb (i := one * 33554432) (j := k) (by omega) (by omega) k0 (by omega), v_mod hn]
    exact ⟨_, S2, rfl, Int.emod_nonneg _ (by omega), Int.emod_lt_of_pos _ hn, a, b, c + 1, hs2, ha, ha2, hb, hb2, by omega, by omega⟩
theorem stream_tail {ns : List Int} {at_ : Nat} {S : Store} (h : at_ < 100) (cell : Int) : ∃ S', (SR.andThen (.nx [some (.scr ns), some (.dat (.int at_)), some (.dat (.int cell)), none] S) (sSeq
                (sAsg (Tg.nm 3)
                  (eBin modD (eCB (o1 absD) (aCons (eVar 2) aNil))
                    (eBin powD (eBin powD (eD (PyData.int 10)) (eD (PyData.int 60))) (eD (PyData.int 11)))))
                (sRetRef
                  (nLst
                    (aCons
                      (eCB (two2 fun i j => if j > i then j else i)
                        (aCons (eD (PyData.int 0))
                          (aCons
                            (eBin addD (eBin subD (eVar 3) (eBin powD (eD (PyData.int 10)) (eD (PyData.int 18))))
                              (eD (PyData.int 1)))
                            aNil)))
                      (aCons
                        (eBin modD
                          (eBin addD
                            (eBin addD
                              (eBin addD (eBin mulD (eVar 3) (eD (PyData.int 7046029267)))
                                (eBin mulD (eD (PyData.int 804379)) (eVar 1)))
                              (eBin mulD (eD (PyData.int 5))
                                (eCB (o1 toIntD) (aCons (eBin ltD (eVar 2) (eD (PyData.int 0))) aNil))))
                            (eD (PyData.int 3)))
                          (eD (PyData.int 4294967161)))
                        (aCons (eD (PyData.int 0)) aNil))))))).toR = .ok (.ref S.length) S' ∧ SV S.length 0 S' := by
  obtain ⟨k, ek, k0, k1⟩ := v_toInt (decide (cell < 0))
  have ea : absD (.dat (.int cell)) = some (.dat (.int (if cell < 0 then -cell else cell))) := rfl
  have em : modD (.dat (.int (if cell < 0 then -cell else cell))) (.dat (.int ((10 ^ Int.toNat 60) ^ Int.toNat 11))) = some (.dat (.int ((if cell < 0 then -cell else cell) % ((10 ^ Int.toNat 60) ^ Int.toNat 11)))) := v_mod (by decide)
  simp only [e_bind_ok, e_stm_ok, e_then_nx, e_then_rt, e_then_bk, e_then_ct, e_optR, e_optB, e_optV, e_optT, e_seq, e_pass, e_asg, e_put, e_ret, e_if, e_var, e_d, e_bin, e_un, e_ix, e_tOf, e_tOfB, e_and, e_or, e_tnot, e_vand, e_vor, e_vnot, e_vif, e_set, e_par2, e_park2, e_park3, e_retref, e_nlst, e_nil, e_cons, e_cb, e_call, e_isi, e_tup, e_lst, e_dats_nil, e_dats_cons, e_for, e_rng, e_sqi, e_sti, seqO_t, strO_s, e_new, e_eOfN, e_sl, e_onone, e_osome, s_dat, s_ref, s_scr, s_nil, s_cons, e_fn, e_to_rt, e_to_nx, e_o1, Option.map_some, List.getElem?_cons_zero, List.getElem?_cons_succ, List.map_cons, List.map_nil, List.cons_append, List.nil_append, List.replicate, List.set_cons_zero, List.set_cons_succ, List.length_cons, List.length_nil, if_true, v_lt, v_gt, v_le, v_ge, v_eq, v_ne, v_add, v_sub, dB, decide_eq_true_eq, Bool.and_self, Bool.false_eq_true, if_false, Nat.reduceAdd, Nat.reduceEqDiff, and_self, true_and, decide_true, decide_false, Bool.not_true, Bool.not_false, ea, v_pow (i := 10) (j := 60) (by decide), v_pow (i := 10 ^ Int.toNat 60) (j := 11) (by decide), em]
  have g1 := Int.emod_nonneg (if cell < 0 then -cell else cell) (show ((10 ^ Int.toNat 60) ^ Int.toNat 11 : Int) ≠ 0 by decide)
  have g2 := Int.emod_lt_of_pos (if cell < 0 then -cell else cell) (show (0 : Int) < (10 ^ Int.toNat 60) ^ Int.toNat 11 by decide)
  generalize (if cell < 0 then -cell else cell) % ((10 ^ Int.toNat 60) ^ Int.toNat 11) = great at g1 g2 ⊢
  have g3 : great < 10 ^ 660 := Int.lt_of_lt_of_le g2 (by decide)
  have e2 : ∀ x : Int, (two2 fun i j => if j > i then j else i) [.dat (.int 0), .dat (.int x)] = some (.dat (.int (if x > 0 then x else 0))) := fun x => rfl
  simp only [e_bind_ok, e_stm_ok, e_then_nx, e_then_rt, e_then_bk, e_then_ct, e_optR, e_optB, e_optV, e_optT, e_seq, e_pass, e_asg, e_put, e_ret, e_if, e_var, e_d, e_bin, e_un, e_ix, e_tOf, e_tOfB, e_and, e_or, e_tnot, e_vand, e_vor, e_vnot, e_vif, e_set, e_par2, e_park2, e_park3, e_retref, e_nlst, e_nil, e_cons, e_cb, e_call, e_isi, e_tup, e_lst, e_dats_nil, e_dats_cons, e_for, e_rng, e_sqi, e_sti, seqO_t, strO_s, e_new, e_eOfN, e_sl, e_onone, e_osome, s_dat, s_ref, s_scr, s_nil, s_cons, e_fn, e_to_rt, e_to_nx, e_o1, Option.map_some, List.getElem?_cons_zero, List.getElem?_cons_succ, List.map_cons, List.map_nil, List.cons_append, List.nil_append, List.replicate, List.set_cons_zero, List.set_cons_succ, List.length_cons, List.length_nil, if_true, v_lt, v_gt, v_le, v_ge, v_eq, v_ne, v_add, v_sub, dB, decide_eq_true_eq, Bool.and_self, Bool.false_eq_true, if_false, Nat.reduceAdd, Nat.reduceEqDiff, and_self, true_and, decide_true, decide_false, Bool.not_true, Bool.not_false, v_mulb (i := great) (j := 7046029267) g1 (by omega) (by omega) (by omega), v_mulb (i := 804379) (j := at_) (by omega) (by omega) (by omega) (by omega), ek, v_mulb (i := 5) (j := k) (by omega) (by omega) k0 (by omega), v_mod (j := 4294967161) (by omega), v_pow (i := 10) (j := 18) (by decide), e2]
  have f1 := Int.emod_nonneg (great * 7046029267 + 804379 * (at_ : Int) + 5 * k + 3) (show (4294967161 : Int) ≠ 0 by omega)
  have f2 := Int.emod_lt_of_pos (great * 7046029267 + 804379 * (at_ : Int) + 5 * k + 3) (show (0 : Int) < 4294967161 by omega)
  generalize (great * 7046029267 + 804379 * (at_ : Int) + 5 * k + 3) % 4294967161 = b at f1 f2 ⊢
  have a1 : 0 ≤ (if great - 10 ^ Int.toNat 18 + 1 > 0 then great - 10 ^ Int.toNat 18 + 1 else 0) ∧ (if great - 10 ^ Int.toNat 18 + 1 > 0 then great - 10 ^ Int.toNat 18 + 1 else 0) < 10 ^ 660 := by
    have e18 : (10 : Int) ^ Int.toNat 18 = 1000000000000000000 := by decide
    rw [e18]
    split <;> omega
  generalize (if great - 10 ^ Int.toNat 18 + 1 > 0 then great - 10 ^ Int.toNat 18 + 1 else 0) = a at a1 ⊢
  simp only [e_bind_ok, e_stm_ok, e_then_nx, e_then_rt, e_then_bk, e_then_ct, e_optR, e_optB, e_optV, e_optT, e_seq, e_pass, e_asg, e_put, e_ret, e_if, e_var, e_d, e_bin, e_un, e_ix, e_tOf, e_tOfB, e_and, e_or, e_tnot, e_vand, e_vor, e_vnot, e_vif, e_set, e_par2, e_park2, e_park3, e_retref, e_nlst, e_nil, e_cons, e_cb, e_call, e_isi, e_tup, e_lst, e_dats_nil, e_dats_cons, e_for, e_rng, e_sqi, e_sti, seqO_t, strO_s, e_new, e_eOfN, e_sl, e_onone, e_osome, s_dat, s_ref, s_scr, s_nil, s_cons, e_fn, e_to_rt, e_to_nx, e_o1, Option.map_some, List.getElem?_cons_zero, List.getElem?_cons_succ, List.map_cons, List.map_nil, List.cons_append, List.nil_append, List.replicate, List.set_cons_zero, List.set_cons_succ, List.length_cons, List.length_nil, if_true, v_lt, v_gt, v_le, v_ge, v_eq, v_ne, v_add, v_sub, dB, decide_eq_true_eq, Bool.and_self, Bool.false_eq_true, if_false, Nat.reduceAdd, Nat.reduceEqDiff, and_self, true_and, decide_true, decide_false, Bool.not_true, Bool.not_false, show 3 ≤ sizeLine by decide]
  refine ⟨_, rfl, a, b, 0, ?_, a1.1, a1.2, f1, by omega, by omega, by omega⟩
  rw [List.getElem?_append_right (Nat.le_refl _), Nat.sub_self]
  rfl
theorem stream_ok {ns : List Int} {at_ : Nat} {S : Store} (h : at_ < 100) : ∃ S', f__law_stream [.scr ns, .dat (.int at_)] S = .ok (.ref S.length) S' ∧ SV S.length 0 S' := by
  have hA : sAsg (.nm 2) (eBin addD (eBin mulD (eD (.int 7)) (eVar 1)) (eD (.int 2))) [some (.scr ns), some (.dat (.int at_)), none, none] S = .nx [some (.scr ns), some (.dat (.int at_)), some (.dat (.int (7 * at_ + 2))), none] S := by
    simp only [e_bind_ok, e_stm_ok, e_then_nx, e_then_rt, e_then_bk, e_then_ct, e_optR, e_optB, e_optV, e_optT, e_seq, e_pass, e_asg, e_put, e_ret, e_if, e_var, e_d, e_bin, e_un, e_ix, e_tOf, e_tOfB, e_and, e_or, e_tnot, e_vand, e_vor, e_vnot, e_vif, e_set, e_par2, e_park2, e_park3, e_retref, e_nlst, e_nil, e_cons, e_cb, e_call, e_isi, e_tup, e_lst, e_dats_nil, e_dats_cons, e_for, e_rng, e_sqi, e_sti, seqO_t, strO_s, e_new, e_eOfN, e_sl, e_onone, e_osome, s_dat, s_ref, s_scr, s_nil, s_cons, e_fn, e_to_rt, e_to_nx, e_o1, Option.map_some, List.getElem?_cons_zero, List.getElem?_cons_succ, List.map_cons, List.map_nil, List.cons_append, List.nil_append, List.replicate, List.set_cons_zero, List.set_cons_succ, List.length_cons, List.length_nil, if_true, v_lt, v_gt, v_le, v_ge, v_eq, v_ne, v_add, v_sub, dB, decide_eq_true_eq, Bool.and_self, Bool.false_eq_true, if_false, Nat.reduceAdd, Nat.reduceEqDiff, and_self, true_and, decide_true, decide_false, Bool.not_true, Bool.not_false, v_mulb (i := 7) (j := at_) (by omega) (by omega) (by omega) (by omega)]
  obtain ⟨cell, hB⟩ : ∃ cell : Int, sIf (tOfB (eBin (ltD) (eVar 1) (eCB (o1 lenD) (aCons (eVar 0) aNil)))) (sAsg (.nm 2) (eIx (eVar 0) (eVar 1))) sPass [some (.scr ns), some (.dat (.int at_)), some (.dat (.int (7 * at_ + 2))), none] S = .nx [some (.scr ns), some (.dat (.int at_)), some (.dat (.int cell)), none] S := by
    by_cases hl : at_ < ns.length
    · have hi : ((at_ : Int) < (ns.length : Int)) := by omega
      exact ⟨ns[at_], by simp only [e_bind_ok, e_stm_ok, e_then_nx, e_then_rt, e_then_bk, e_then_ct, e_optR, e_optB, e_optV, e_optT, e_seq, e_pass, e_asg, e_put, e_ret, e_if, e_var, e_d, e_bin, e_un, e_ix, e_tOf, e_tOfB, e_and, e_or, e_tnot, e_vand, e_vor, e_vnot, e_vif, e_set, e_par2, e_park2, e_park3, e_retref, e_nlst, e_nil, e_cons, e_cb, e_call, e_isi, e_tup, e_lst, e_dats_nil, e_dats_cons, e_for, e_rng, e_sqi, e_sti, seqO_t, strO_s, e_new, e_eOfN, e_sl, e_onone, e_osome, s_dat, s_ref, s_scr, s_nil, s_cons, e_fn, e_to_rt, e_to_nx, e_o1, Option.map_some, List.getElem?_cons_zero, List.getElem?_cons_succ, List.map_cons, List.map_nil, List.cons_append, List.nil_append, List.replicate, List.set_cons_zero, List.set_cons_succ, List.length_cons, List.length_nil, if_true, v_lt, v_gt, v_le, v_ge, v_eq, v_ne, v_add, v_sub, dB, decide_eq_true_eq, Bool.and_self, Bool.false_eq_true, if_false, Nat.reduceAdd, Nat.reduceEqDiff, and_self, true_and, decide_true, decide_false, Bool.not_true, Bool.not_false, v_lenS, hi, v_ixS hl]⟩
    · have hi : ¬ ((at_ : Int) < (ns.length : Int)) := by omega
      exact ⟨7 * at_ + 2, by simp only [e_bind_ok, e_stm_ok, e_then_nx, e_then_rt, e_then_bk, e_then_ct, e_optR, e_optB, e_optV, e_optT, e_seq, e_pass, e_asg, e_put, e_ret, e_if, e_var, e_d, e_bin, e_un, e_ix, e_tOf, e_tOfB, e_and, e_or, e_tnot, e_vand, e_vor, e_vnot, e_vif, e_set, e_par2, e_park2, e_park3, e_retref, e_nlst, e_nil, e_cons, e_cb, e_call, e_isi, e_tup, e_lst, e_dats_nil, e_dats_cons, e_for, e_rng, e_sqi, e_sti, seqO_t, strO_s, e_new, e_eOfN, e_sl, e_onone, e_osome, s_dat, s_ref, s_scr, s_nil, s_cons, e_fn, e_to_rt, e_to_nx, e_o1, Option.map_some, List.getElem?_cons_zero, List.getElem?_cons_succ, List.map_cons, List.map_nil, List.cons_append, List.nil_append, List.replicate, List.set_cons_zero, List.set_cons_succ, List.length_cons, List.length_nil, if_true, v_lt, v_gt, v_le, v_ge, v_eq, v_ne, v_add, v_sub, dB, decide_eq_true_eq, Bool.and_self, Bool.false_eq_true, if_false, Nat.reduceAdd, Nat.reduceEqDiff, and_self, true_and, decide_true, decide_false, Bool.not_true, Bool.not_false, v_lenS, hi]⟩
  obtain ⟨S', e, v⟩ := stream_tail (ns := ns) (S := S) h cell
  refine ⟨S', Eq.trans ?_ e, v⟩
  unfold f__law_stream m__law_stream
  rw [e_fn]
  simp only [List.map_cons, List.map_nil, List.replicate, List.cons_append, List.nil_append]
  rw [e_seq, hA, e_then_nx, e_seq, hB]
theorem letters_ok {r m n : Nat} {S : Store} (h : SV r m S) (hn : n ≤ 100) (hm : m < 10 ^ 50) : ∃ x S', f__law_letters [.ref r, .dat (.int n)] S = .ok (.dat (.str x)) S' ∧ x.length = n ∧ (∀ c ∈ x.cps.toList, abc c) ∧ SV r (m + n) S' := by
  unfold f__law_letters m__law_letters
  simp only [e_bind_ok, e_stm_ok, e_then_nx, e_then_rt, e_then_bk, e_then_ct, e_optR, e_optB, e_optV, e_optT, e_seq, e_pass, e_asg, e_put, e_ret, e_if, e_var, e_d, e_bin, e_un, e_ix, e_tOf, e_tOfB, e_and, e_or, e_tnot, e_vand, e_vor, e_vnot, e_vif, e_set, e_par2, e_park2, e_park3, e_retref, e_nlst, e_nil, e_cons, e_cb, e_call, e_isi, e_tup, e_lst, e_dats_nil, e_dats_cons, e_for, e_rng, e_sqi, e_sti, seqO_t, strO_s, e_new, e_eOfN, e_sl, e_onone, e_osome, s_dat, s_ref, s_scr, s_nil, s_cons, e_fn, e_to_rt, e_to_nx, e_o1, Option.map_some, List.getElem?_cons_zero, List.getElem?_cons_succ, List.map_cons, List.map_nil, List.cons_append, List.nil_append, List.replicate, List.set_cons_zero, List.set_cons_succ, List.length_cons, List.length_nil, if_true, v_lt, v_gt, v_le, v_ge, v_eq, v_ne, v_add, v_sub, dB, decide_eq_true_eq, Bool.and_self, Bool.false_eq_true, if_false, Nat.reduceAdd, Nat.reduceEqDiff, and_self, true_and, decide_true, decide_false, Bool.not_true, Bool.not_false, e_join, e_nlc, rngO_n (show n ≤ 1000000 by omega)]
  rw [if_pos ⟨rfl, rfl⟩, show wipeD [some (D.ref r), some (D.dat (PyData.int n)), none] [2] = [some (D.ref r), some (D.dat (PyData.int n)), none] from rfl]
  obtain ⟨acc, S', e, ys, rfl, hl, hc, hS⟩ := lcL_ix (t := .nm 2) (elt := le__law_letters_1) (rw := [some (D.ref r), some (D.dat (PyData.int n)), none])
    (fun i acc S => ∃ ys : List Nat, acc = ys.map (fun c => .str ⟨#[c]⟩) ∧ ys.length = i ∧ (∀ c ∈ ys, abc c) ∧ SV r (m + i) S) (rngD 0 n) 0 [] S ⟨[], rfl, rfl, by simp, h⟩ (by
      rintro j d acc S hd ⟨ys, rfl, hl, hc, hS⟩
      obtain ⟨hj, rfl⟩ := rng_at hd
      obtain ⟨v, S2, e1, h0, h1, h2⟩ := draw_ok hS (n := 3) (by omega) (by omega) (by omega)
      obtain ⟨c, hc2, e2⟩ := abc_at (S := S2) h0 h1
      refine ⟨_, .str ⟨#[c]⟩, S2, put_nm, ?_, ?_, ys ++ [c], by rw [List.map_append]; rfl, by rw [List.length_append, hl]; rfl, ?_, h2⟩
      · unfold le__law_letters_1; simp only [e_bind_ok, e_stm_ok, e_then_nx, e_then_rt, e_then_bk, e_then_ct, e_optR, e_optB, e_optV, e_optT, e_seq, e_pass, e_asg, e_put, e_ret, e_if, e_var, e_d, e_bin, e_un, e_ix, e_tOf, e_tOfB, e_and, e_or, e_tnot, e_vand, e_vor, e_vnot, e_vif, e_set, e_par2, e_park2, e_park3, e_retref, e_nlst, e_nil, e_cons, e_cb, e_call, e_isi, e_tup, e_lst, e_dats_nil, e_dats_cons, e_for, e_rng, e_sqi, e_sti, seqO_t, strO_s, e_new, e_eOfN, e_sl, e_onone, e_osome, s_dat, s_ref, s_scr, s_nil, s_cons, e_fn, e_to_rt, e_to_nx, e_o1, Option.map_some, List.getElem?_cons_zero, List.getElem?_cons_succ, List.map_cons, List.map_nil, List.cons_append, List.nil_append, List.replicate, List.set_cons_zero, List.set_cons_succ, List.length_cons, List.length_nil, if_true, v_lt, v_gt, v_le, v_ge, v_eq, v_ne, v_add, v_sub, dB, decide_eq_true_eq, Bool.and_self, Bool.false_eq_true, if_false, Nat.reduceAdd, Nat.reduceEqDiff, and_self, true_and, decide_true, decide_false, Bool.not_true, Bool.not_false, e1, e2]
      · rw [List.length_map]
        exact Nat.lt_of_lt_of_le (show ys.length < 1000 by omega) (by decide)
      · intro x hx
        rcases List.mem_append.mp hx with hx | hx
        · exact hc x hx
        · rw [List.mem_singleton.mp hx]; exact hc2)
  rw [e]
  rw [rng_len, Nat.zero_add] at hl hS
  have ej : joinS "" (.dat (.list (ys.map fun c => .str ⟨#[c]⟩))) = some (.dat (.str (Str.join "" (ys.map fun c => ⟨#[c]⟩)))) := by
    have e1 : sqs (.dat (.list (ys.map fun c => PyData.str ⟨#[c]⟩))) = some (ys.map fun c => PyData.str ⟨#[c]⟩) := rfl
    have e2 : asStrs (ys.map fun c => PyData.str ⟨#[c]⟩) = some (ys.map fun c => ⟨#[c]⟩) := by
      have := asStrs_map (ys.map fun c => (⟨#[c]⟩ : Str))
      rw [List.map_map] at this
      exact this
    unfold joinS
    rw [e1, Option.bind_some, e2, Option.bind_some, if_pos]
    have : ∀ l : List Nat, ((l.map fun c => (⟨#[c]⟩ : Str)).map (·.length)).sum = l.length := fun l => by
      induction l with
      | nil => rfl
      | cons a l ih => rw [List.map_cons, List.map_cons, List.sum_cons, ih, List.length_cons]; show 1 + _ = _; omega
    rw [this, List.length_map]
    show ys.length + ys.length * 0 ≤ _
    omega
  simp only [e_bind_ok, e_stm_ok, e_then_nx, e_then_rt, e_then_bk, e_then_ct, e_optR, e_optB, e_optV, e_optT, e_seq, e_pass, e_asg, e_put, e_ret, e_if, e_var, e_d, e_bin, e_un, e_ix, e_tOf, e_tOfB, e_and, e_or, e_tnot, e_vand, e_vor, e_vnot, e_vif, e_set, e_par2, e_park2, e_park3, e_retref, e_nlst, e_nil, e_cons, e_cb, e_call, e_isi, e_tup, e_lst, e_dats_nil, e_dats_cons, e_for, e_rng, e_sqi, e_sti, seqO_t, strO_s, e_new, e_eOfN, e_sl, e_onone, e_osome, s_dat, s_ref, s_scr, s_nil, s_cons, e_fn, e_to_rt, e_to_nx, e_o1, Option.map_some, List.getElem?_cons_zero, List.getElem?_cons_succ, List.map_cons, List.map_nil, List.cons_append, List.nil_append, List.replicate, List.set_cons_zero, List.set_cons_succ, List.length_cons, List.length_nil, if_true, v_lt, v_gt, v_le, v_ge, v_eq, v_ne, v_add, v_sub, dB, decide_eq_true_eq, Bool.and_self, Bool.false_eq_true, if_false, Nat.reduceAdd, Nat.reduceEqDiff, and_self, true_and, decide_true, decide_false, Bool.not_true, Bool.not_false, ej]
  have ec : (Str.join "" (ys.map fun c => (⟨#[c]⟩ : Str))).cps.toList = ys := by
    rw [join_cps, List.map_map]
    clear e hc hS ej hl
    induction ys with
    | nil => rfl
    | cons a l ih => rw [List.map_cons, List.flatten_cons, ih]; rfl
  refine ⟨_, S', rfl, ?_, by rw [ec]; exact hc, hS⟩
  show (Str.join "" (ys.map fun c => (⟨#[c]⟩ : Str))).cps.size = n
  rw [← Array.length_toList, ec, hl]
theorem names_ok {r m n : Nat} {S : Store} (h : SV r m S) (hn : n ≤ 12) (hm : m < 10 ^ 45) : ∃ ls S', f__law_names [.ref r, .dat (.int n)] S = .ok (.dat (.tuple (ls.map .str))) S' ∧ Names n ls ∧ SV r (m + 20 * n) S' := by
  unfold f__law_names m__law_names
  simp only [e_bind_ok, e_stm_ok, e_then_nx, e_then_rt, e_then_bk, e_then_ct, e_optR, e_optB, e_optV, e_optT, e_seq, e_pass, e_asg, e_put, e_ret, e_if, e_var, e_d, e_bin, e_un, e_ix, e_tOf, e_tOfB, e_and, e_or, e_tnot, e_vand, e_vor, e_vnot, e_vif, e_set, e_par2, e_park2, e_park3, e_retref, e_nlst, e_nil, e_cons, e_cb, e_call, e_isi, e_tup, e_lst, e_dats_nil, e_dats_cons, e_for, e_rng, e_sqi, e_sti, seqO_t, strO_s, e_new, e_eOfN, e_sl, e_onone, e_osome, s_dat, s_ref, s_scr, s_nil, s_cons, e_fn, e_to_rt, e_to_nx, e_o1, Option.map_some, List.getElem?_cons_zero, List.getElem?_cons_succ, List.map_cons, List.map_nil, List.cons_append, List.nil_append, List.replicate, List.set_cons_zero, List.set_cons_succ, List.length_cons, List.length_nil, if_true, v_lt, v_gt, v_le, v_ge, v_eq, v_ne, v_add, v_sub, dB, decide_eq_true_eq, Bool.and_self, Bool.false_eq_true, if_false, Nat.reduceAdd, Nat.reduceEqDiff, and_self, true_and, decide_true, decide_false, Bool.not_true, Bool.not_false, rngO_n (show n ≤ 1000000 by omega), show 0 ≤ sizeLine by decide]
  obtain ⟨rho', S', e, ys, x4, x5, x6, rfl, hl, hy, hS⟩ := forL_ix (t := .nm 3) (body := lb__law_names_1)
    (fun i rho S => ∃ (ys : List Str) (x4 x5 x6 : Option D), rho = [some (.ref r), some (.dat (.int n)), some (.own (ys.map .str)), x4, x5, x6] ∧ ys.length = i ∧ (∀ k x, ys[k]? = some x → NameAt k x) ∧ SV r (m + 20 * i) S)
    (rngD 0 n) 0 [some (.ref r), some (.dat (.int n)), some (.own []), none, none, none] S ⟨[], none, none, none, rfl, rfl, by simp, h⟩ (by
      rintro j d rho S hd ⟨ys, x4, x5, x6, rfl, hl, hy, hS⟩
      obtain ⟨hj, rfl⟩ := rng_at hd
      refine ⟨_, put_nm, ?_⟩
      obtain ⟨v1, S1, d1, h10, h11, s1⟩ := draw_ok hS (n := 4) (by omega) (by omega) (by omega)
      obtain ⟨w1, hw1, p1⟩ := pick4 (S := S1) (a := 0) (b := 0) (c := 1) (d := 3) h10 h11
      obtain ⟨n1, rfl⟩ : ∃ n1 : Nat, w1 = n1 := ⟨w1.toNat, by omega⟩
      obtain ⟨x1, S2, l1, hx1, hc1, s2⟩ := letters_ok s1 (n := n1) (by omega) (by omega)
      obtain ⟨v2, S3, d2, h20, h21, s3⟩ := draw_ok s2 (n := 4) (by omega) (by omega) (by omega)
      obtain ⟨w2, hw2, p2⟩ := pick4 (S := S3) (a := 0) (b := 0) (c := 1) (d := 4) h20 h21
      obtain ⟨n2, rfl⟩ : ∃ n2 : Nat, w2 = n2 := ⟨w2.toNat, by omega⟩
      obtain ⟨x2, S4, l2, hx2, hc2, s4⟩ := letters_ok s3 (n := n2) (by omega) (by omega)
      have mk := marks_at (S := S4) (j := j) (by omega)
      have ej : (0 : Int) + (j : Nat) = (j : Nat) := by omega
      have la : (x1 ++ (⟨#[100 + j]⟩ : Str)).length = n1 + 1 := by rw [len_app, hx1]; rfl
      refine ⟨[some (.ref r), some (.dat (.int n)), some (.own ((ys ++ [x1 ++ ⟨#[100 + j]⟩ ++ x2]).map .str)), some (.dat (.int j)), some (.dat (.str x1)), some (.dat (.str x2))], S4, .inl ?_, ys ++ [x1 ++ ⟨#[100 + j]⟩ ++ x2], _, _, _, rfl, by rw [List.length_append, hl]; rfl, ?_, s4.mono (by omega)⟩
      · have lt : ys.length < sizeLine := Nat.lt_of_lt_of_le (show ys.length < 1000 by omega) (by decide)
        unfold lb__law_names_1
        simp only [e_bind_ok, e_stm_ok, e_then_nx, e_then_rt, e_then_bk, e_then_ct, e_optR, e_optB, e_optV, e_optT, e_seq, e_pass, e_asg, e_put, e_ret, e_if, e_var, e_d, e_bin, e_un, e_ix, e_tOf, e_tOfB, e_and, e_or, e_tnot, e_vand, e_vor, e_vnot, e_vif, e_set, e_par2, e_park2, e_park3, e_retref, e_nlst, e_nil, e_cons, e_cb, e_call, e_isi, e_tup, e_lst, e_dats_nil, e_dats_cons, e_for, e_rng, e_sqi, e_sti, seqO_t, strO_s, e_new, e_eOfN, e_sl, e_onone, e_osome, s_dat, s_ref, s_scr, s_nil, s_cons, e_fn, e_to_rt, e_to_nx, e_o1, Option.map_some, List.getElem?_cons_zero, List.getElem?_cons_succ, List.map_cons, List.map_nil, List.cons_append, List.nil_append, List.replicate, List.set_cons_zero, List.set_cons_succ, List.length_cons, List.length_nil, if_true, v_lt, v_gt, v_le, v_ge, v_eq, v_ne, v_add, v_sub, dB, decide_eq_true_eq, Bool.and_self, Bool.false_eq_true, if_false, Nat.reduceAdd, Nat.reduceEqDiff, and_self, true_and, decide_true, decide_false, Bool.not_true, Bool.not_false, d1, p1, l1, d2, p2, l2, mk, ej, show 4 ≤ sizeLine by decide]
        simp only [sApp, List.getElem?_cons_zero, List.getElem?_cons_succ]
        simp only [e_bind_ok, e_stm_ok, e_then_nx, e_then_rt, e_then_bk, e_then_ct, e_optR, e_optB, e_optV, e_optT, e_seq, e_pass, e_asg, e_put, e_ret, e_if, e_var, e_d, e_bin, e_un, e_ix, e_tOf, e_tOfB, e_and, e_or, e_tnot, e_vand, e_vor, e_vnot, e_vif, e_set, e_par2, e_park2, e_park3, e_retref, e_nlst, e_nil, e_cons, e_cb, e_call, e_isi, e_tup, e_lst, e_dats_nil, e_dats_cons, e_for, e_rng, e_sqi, e_sti, seqO_t, strO_s, e_new, e_eOfN, e_sl, e_onone, e_osome, s_dat, s_ref, s_scr, s_nil, s_cons, e_fn, e_to_rt, e_to_nx, e_o1, Option.map_some, List.getElem?_cons_zero, List.getElem?_cons_succ, List.map_cons, List.map_nil, List.cons_append, List.nil_append, List.replicate, List.set_cons_zero, List.set_cons_succ, List.length_cons, List.length_nil, if_true, v_lt, v_gt, v_le, v_ge, v_eq, v_ne, v_add, v_sub, dB, decide_eq_true_eq, Bool.and_self, Bool.false_eq_true, if_false, Nat.reduceAdd, Nat.reduceEqDiff, and_self, true_and, decide_true, decide_false, Bool.not_true, Bool.not_false, mk, v_adds (x := x1) (y := ⟨#[100 + j]⟩) (by rw [hx1]; show n1 + 1 ≤ 1000; omega), v_adds (x := x1 ++ ⟨#[100 + j]⟩) (y := x2) (by rw [la, hx2]; omega), List.length_map, lt, List.map_append]
      · intro k x hx
        rw [List.getElem?_append] at hx
        split at hx
        · exact hy k x hx
        · next hk =>
          rw [List.getElem?_singleton] at hx
          split at hx
          · next hk2 =>
            cases Option.some.inj hx
            have : k = j := by omega
            subst this
            refine ⟨x1.cps.toList, x2.cps.toList, ?_, by rw [len_cps, hx1]; omega, by rw [len_cps, hx2]; omega, hc1, hc2⟩
            rw [cps_app, cps_app, List.append_assoc]
            rfl
          · cases hx)
  rw [rng_len, Nat.zero_add] at hl hS
  simp only [e_bind_ok, e_stm_ok, e_then_nx, e_then_rt, e_then_bk, e_then_ct, e_optR, e_optB, e_optV, e_optT, e_seq, e_pass, e_asg, e_put, e_ret, e_if, e_var, e_d, e_bin, e_un, e_ix, e_tOf, e_tOfB, e_and, e_or, e_tnot, e_vand, e_vor, e_vnot, e_vif, e_set, e_par2, e_park2, e_park3, e_retref, e_nlst, e_nil, e_cons, e_cb, e_call, e_isi, e_tup, e_lst, e_dats_nil, e_dats_cons, e_for, e_rng, e_sqi, e_sti, seqO_t, strO_s, e_new, e_eOfN, e_sl, e_onone, e_osome, s_dat, s_ref, s_scr, s_nil, s_cons, e_fn, e_to_rt, e_to_nx, e_o1, Option.map_some, List.getElem?_cons_zero, List.getElem?_cons_succ, List.map_cons, List.map_nil, List.cons_append, List.nil_append, List.replicate, List.set_cons_zero, List.set_cons_succ, List.length_cons, List.length_nil, if_true, v_lt, v_gt, v_le, v_ge, v_eq, v_ne, v_add, v_sub, dB, decide_eq_true_eq, Bool.and_self, Bool.false_eq_true, if_false, Nat.reduceAdd, Nat.reduceEqDiff, and_self, true_and, decide_true, decide_false, Bool.not_true, Bool.not_false, e, sorted_strs]
  have et : tupD (.dat (.list ((ys.mergeSort leS).map .str))) = some (.dat (.tuple ((ys.mergeSort leS).map .str))) := rfl
  simp only [e_bind_ok, e_stm_ok, e_then_nx, e_then_rt, e_then_bk, e_then_ct, e_optR, e_optB, e_optV, e_optT, e_seq, e_pass, e_asg, e_put, e_ret, e_if, e_var, e_d, e_bin, e_un, e_ix, e_tOf, e_tOfB, e_and, e_or, e_tnot, e_vand, e_vor, e_vnot, e_vif, e_set, e_par2, e_park2, e_park3, e_retref, e_nlst, e_nil, e_cons, e_cb, e_call, e_isi, e_tup, e_lst, e_dats_nil, e_dats_cons, e_for, e_rng, e_sqi, e_sti, seqO_t, strO_s, e_new, e_eOfN, e_sl, e_onone, e_osome, s_dat, s_ref, s_scr, s_nil, s_cons, e_fn, e_to_rt, e_to_nx, e_o1, Option.map_some, List.getElem?_cons_zero, List.getElem?_cons_succ, List.map_cons, List.map_nil, List.cons_append, List.nil_append, List.replicate, List.set_cons_zero, List.set_cons_succ, List.length_cons, List.length_nil, if_true, v_lt, v_gt, v_le, v_ge, v_eq, v_ne, v_add, v_sub, dB, decide_eq_true_eq, Bool.and_self, Bool.false_eq_true, if_false, Nat.reduceAdd, Nat.reduceEqDiff, and_self, true_and, decide_true, decide_false, Bool.not_true, Bool.not_false, et]
  exact ⟨_, S', rfl, sort_names hn hl hy, hS⟩
end L3.LK23

/-! M23 -/
namespace L3.LK23
open PySem PySem.Spec PyProof.Rows L2 L3
theorem whole_ok (v : PyData) (lo hi : Int) (S : Store) : f_is_whole_within [.dat v, .dat (.int lo), .dat (.int hi)] S = .ok (.dat (.bool (wholeB v lo hi))) S := by
  unfold f_is_whole_within m_is_whole_within
  simp only [e_bind_ok, e_stm_ok, e_then_nx, e_then_rt, e_then_bk, e_then_ct, e_optR, e_optB, e_optV, e_optT, e_seq, e_pass, e_asg, e_put, e_ret, e_if, e_var, e_d, e_bin, e_un, e_ix, e_tOf, e_tOfB, e_and, e_or, e_tnot, e_vand, e_vor, e_vnot, e_vif, e_set, e_par2, e_park2, e_park3, e_retref, e_nlst, e_nil, e_cons, e_cb, e_call, e_isi, e_tup, e_lst, e_dats_nil, e_dats_cons, e_for, e_rng, e_sqi, e_sti, seqO_t, strO_s, e_new, e_eOfN, e_sl, e_onone, e_osome, s_dat, s_ref, s_scr, s_nil, s_cons, e_fn, e_to_rt, e_to_nx, e_o1, Option.map_some, List.getElem?_cons_zero, List.getElem?_cons_succ, List.map_cons, List.map_nil, List.cons_append, List.nil_append, List.replicate, List.set_cons_zero, List.set_cons_succ, List.length_cons, List.length_nil, if_true, v_lt, v_gt, v_le, v_ge, v_eq, v_ne, v_add, v_sub, dB, decide_eq_true_eq, Bool.and_self, Bool.false_eq_true, if_false, Nat.reduceAdd, Nat.reduceEqDiff, and_self, true_and, decide_true, decide_false, Bool.not_true, Bool.not_false, e_expr, e_chain, e_vorT, e_vandT, e_vnotT, e_tyis, e_m0, m0K_s, e_join2, joinK_s, tru_bool, tru_tup, dB_bool, e_nrep, tyD_dat, isa_tuple, isa_str, isa_int, isa_bool, ty_int, isTup_none, isTup_bool, isTup_int, isTup_str, isTup_list, isTup_tuple, isTup_dict, isStr_none, isStr_bool, isStr_int, isStr_str, isStr_list, isStr_tuple, isStr_dict, isInt_none, isInt_bool, isInt_int, isInt_str, isInt_list, isInt_tuple, isInt_dict, isBol_none, isBol_bool, isBol_int, isBol_str, isBol_list, isBol_tuple, isBol_dict, Option.bind_some, Option.bind_none, if_true, if_false, id_eq, Int.cast_ofNat_Int, eq_self]
  cases h : isInt v with
  | false =>
    simp only [e_bind_ok, e_stm_ok, e_then_nx, e_then_rt, e_then_bk, e_then_ct, e_optR, e_optB, e_optV, e_optT, e_seq, e_pass, e_asg, e_put, e_ret, e_if, e_var, e_d, e_bin, e_un, e_ix, e_tOf, e_tOfB, e_and, e_or, e_tnot, e_vand, e_vor, e_vnot, e_vif, e_set, e_par2, e_park2, e_park3, e_retref, e_nlst, e_nil, e_cons, e_cb, e_call, e_isi, e_tup, e_lst, e_dats_nil, e_dats_cons, e_for, e_rng, e_sqi, e_sti, seqO_t, strO_s, e_new, e_eOfN, e_sl, e_onone, e_osome, s_dat, s_ref, s_scr, s_nil, s_cons, e_fn, e_to_rt, e_to_nx, e_o1, Option.map_some, List.getElem?_cons_zero, List.getElem?_cons_succ, List.map_cons, List.map_nil, List.cons_append, List.nil_append, List.replicate, List.set_cons_zero, List.set_cons_succ, List.length_cons, List.length_nil, if_true, v_lt, v_gt, v_le, v_ge, v_eq, v_ne, v_add, v_sub, dB, decide_eq_true_eq, Bool.and_self, Bool.false_eq_true, if_false, Nat.reduceAdd, Nat.reduceEqDiff, and_self, true_and, decide_true, decide_false, Bool.not_true, Bool.not_false, e_expr, e_chain, e_vorT, e_vandT, e_vnotT, e_tyis, e_m0, m0K_s, e_join2, joinK_s, tru_bool, tru_tup, dB_bool, e_nrep, tyD_dat, isa_tuple, isa_str, isa_int, isa_bool, ty_int, isTup_none, isTup_bool, isTup_int, isTup_str, isTup_list, isTup_tuple, isTup_dict, isStr_none, isStr_bool, isStr_int, isStr_str, isStr_list, isStr_tuple, isStr_dict, isInt_none, isInt_bool, isInt_int, isInt_str, isInt_list, isInt_tuple, isInt_dict, isBol_none, isBol_bool, isBol_int, isBol_str, isBol_list, isBol_tuple, isBol_dict, Option.bind_some, Option.bind_none, if_true, if_false, id_eq, Int.cast_ofNat_Int, eq_self]
    cases v <;> first | rfl | cases h
  | true =>
    obtain ⟨i, rfl⟩ := isInt_eq h
    simp only [e_bind_ok, e_stm_ok, e_then_nx, e_then_rt, e_then_bk, e_then_ct, e_optR, e_optB, e_optV, e_optT, e_seq, e_pass, e_asg, e_put, e_ret, e_if, e_var, e_d, e_bin, e_un, e_ix, e_tOf, e_tOfB, e_and, e_or, e_tnot, e_vand, e_vor, e_vnot, e_vif, e_set, e_par2, e_park2, e_park3, e_retref, e_nlst, e_nil, e_cons, e_cb, e_call, e_isi, e_tup, e_lst, e_dats_nil, e_dats_cons, e_for, e_rng, e_sqi, e_sti, seqO_t, strO_s, e_new, e_eOfN, e_sl, e_onone, e_osome, s_dat, s_ref, s_scr, s_nil, s_cons, e_fn, e_to_rt, e_to_nx, e_o1, Option.map_some, List.getElem?_cons_zero, List.getElem?_cons_succ, List.map_cons, List.map_nil, List.cons_append, List.nil_append, List.replicate, List.set_cons_zero, List.set_cons_succ, List.length_cons, List.length_nil, if_true, v_lt, v_gt, v_le, v_ge, v_eq, v_ne, v_add, v_sub, dB, decide_eq_true_eq, Bool.and_self, Bool.false_eq_true, if_false, Nat.reduceAdd, Nat.reduceEqDiff, and_self, true_and, decide_true, decide_false, Bool.not_true, Bool.not_false, e_expr, e_chain, e_vorT, e_vandT, e_vnotT, e_tyis, e_m0, m0K_s, e_join2, joinK_s, tru_bool, tru_tup, dB_bool, e_nrep, tyD_dat, isa_tuple, isa_str, isa_int, isa_bool, ty_int, isTup_none, isTup_bool, isTup_int, isTup_str, isTup_list, isTup_tuple, isTup_dict, isStr_none, isStr_bool, isStr_int, isStr_str, isStr_list, isStr_tuple, isStr_dict, isInt_none, isInt_bool, isInt_int, isInt_str, isInt_list, isInt_tuple, isInt_dict, isBol_none, isBol_bool, isBol_int, isBol_str, isBol_list, isBol_tuple, isBol_dict, Option.bind_some, Option.bind_none, if_true, if_false, id_eq, Int.cast_ofNat_Int, eq_self]
    by_cases h1 : lo ≤ i
    · simp only [e_bind_ok, e_stm_ok, e_then_nx, e_then_rt, e_then_bk, e_then_ct, e_optR, e_optB, e_optV, e_optT, e_seq, e_pass, e_asg, e_put, e_ret, e_if, e_var, e_d, e_bin, e_un, e_ix, e_tOf, e_tOfB, e_and, e_or, e_tnot, e_vand, e_vor, e_vnot, e_vif, e_set, e_par2, e_park2, e_park3, e_retref, e_nlst, e_nil, e_cons, e_cb, e_call, e_isi, e_tup, e_lst, e_dats_nil, e_dats_cons, e_for, e_rng, e_sqi, e_sti, seqO_t, strO_s, e_new, e_eOfN, e_sl, e_onone, e_osome, s_dat, s_ref, s_scr, s_nil, s_cons, e_fn, e_to_rt, e_to_nx, e_o1, Option.map_some, List.getElem?_cons_zero, List.getElem?_cons_succ, List.map_cons, List.map_nil, List.cons_append, List.nil_append, List.replicate, List.set_cons_zero, List.set_cons_succ, List.length_cons, List.length_nil, if_true, v_lt, v_gt, v_le, v_ge, v_eq, v_ne, v_add, v_sub, dB, decide_eq_true_eq, Bool.and_self, Bool.false_eq_true, if_false, Nat.reduceAdd, Nat.reduceEqDiff, and_self, true_and, decide_true, decide_false, Bool.not_true, Bool.not_false, e_expr, e_chain, e_vorT, e_vandT, e_vnotT, e_tyis, e_m0, m0K_s, e_join2, joinK_s, tru_bool, tru_tup, dB_bool, e_nrep, tyD_dat, isa_tuple, isa_str, isa_int, isa_bool, ty_int, isTup_none, isTup_bool, isTup_int, isTup_str, isTup_list, isTup_tuple, isTup_dict, isStr_none, isStr_bool, isStr_int, isStr_str, isStr_list, isStr_tuple, isStr_dict, isInt_none, isInt_bool, isInt_int, isInt_str, isInt_list, isInt_tuple, isInt_dict, isBol_none, isBol_bool, isBol_int, isBol_str, isBol_list, isBol_tuple, isBol_dict, Option.bind_some, Option.bind_none, if_true, if_false, id_eq, Int.cast_ofNat_Int, eq_self, h1]
      by_cases h2 : i ≤ hi <;> simp [wholeB, h1, h2]
    · simp only [e_bind_ok, e_stm_ok, e_then_nx, e_then_rt, e_then_bk, e_then_ct, e_optR, e_optB, e_optV, e_optT, e_seq, e_pass, e_asg, e_put, e_ret, e_if, e_var, e_d, e_bin, e_un, e_ix, e_tOf, e_tOfB, e_and, e_or, e_tnot, e_vand, e_vor, e_vnot, e_vif, e_set, e_par2, e_park2, e_park3, e_retref, e_nlst, e_nil, e_cons, e_cb, e_call, e_isi, e_tup, e_lst, e_dats_nil, e_dats_cons, e_for, e_rng, e_sqi, e_sti, seqO_t, strO_s, e_new, e_eOfN, e_sl, e_onone, e_osome, s_dat, s_ref, s_scr, s_nil, s_cons, e_fn, e_to_rt, e_to_nx, e_o1, Option.map_some, List.getElem?_cons_zero, List.getElem?_cons_succ, List.map_cons, List.map_nil, List.cons_append, List.nil_append, List.replicate, List.set_cons_zero, List.set_cons_succ, List.length_cons, List.length_nil, if_true, v_lt, v_gt, v_le, v_ge, v_eq, v_ne, v_add, v_sub, dB, decide_eq_true_eq, Bool.and_self, Bool.false_eq_true, if_false, Nat.reduceAdd, Nat.reduceEqDiff, and_self, true_and, decide_true, decide_false, Bool.not_true, Bool.not_false, e_expr, e_chain, e_vorT, e_vandT, e_vnotT, e_tyis, e_m0, m0K_s, e_join2, joinK_s, tru_bool, tru_tup, dB_bool, e_nrep, tyD_dat, isa_tuple, isa_str, isa_int, isa_bool, ty_int, isTup_none, isTup_bool, isTup_int, isTup_str, isTup_list, isTup_tuple, isTup_dict, isStr_none, isStr_bool, isStr_int, isStr_str, isStr_list, isStr_tuple, isStr_dict, isInt_none, isInt_bool, isInt_int, isInt_str, isInt_list, isInt_tuple, isInt_dict, isBol_none, isBol_bool, isBol_int, isBol_str, isBol_list, isBol_tuple, isBol_dict, Option.bind_some, Option.bind_none, if_true, if_false, id_eq, Int.cast_ofNat_Int, eq_self, h1]
      simp [wholeB, h1]
def tupN (v : PyData) (n : Int) : Bool := match v with
  | .tuple ds => decide ((ds.length : Int) = n)
  | _ => false
theorem tuple_of_ok (v : PyData) (n : Int) (S : Store) : f_is_tuple_of [.dat v, .dat (.int n)] S = .ok (.dat (.bool (tupN v n))) S := by
  unfold f_is_tuple_of m_is_tuple_of
  simp only [e_bind_ok, e_stm_ok, e_then_nx, e_then_rt, e_then_bk, e_then_ct, e_optR, e_optB, e_optV, e_optT, e_seq, e_pass, e_asg, e_put, e_ret, e_if, e_var, e_d, e_bin, e_un, e_ix, e_tOf, e_tOfB, e_and, e_or, e_tnot, e_vand, e_vor, e_vnot, e_vif, e_set, e_par2, e_park2, e_park3, e_retref, e_nlst, e_nil, e_cons, e_cb, e_call, e_isi, e_tup, e_lst, e_dats_nil, e_dats_cons, e_for, e_rng, e_sqi, e_sti, seqO_t, strO_s, e_new, e_eOfN, e_sl, e_onone, e_osome, s_dat, s_ref, s_scr, s_nil, s_cons, e_fn, e_to_rt, e_to_nx, e_o1, Option.map_some, List.getElem?_cons_zero, List.getElem?_cons_succ, List.map_cons, List.map_nil, List.cons_append, List.nil_append, List.replicate, List.set_cons_zero, List.set_cons_succ, List.length_cons, List.length_nil, if_true, v_lt, v_gt, v_le, v_ge, v_eq, v_ne, v_add, v_sub, dB, decide_eq_true_eq, Bool.and_self, Bool.false_eq_true, if_false, Nat.reduceAdd, Nat.reduceEqDiff, and_self, true_and, decide_true, decide_false, Bool.not_true, Bool.not_false, e_expr, e_chain, e_vorT, e_vandT, e_vnotT, e_tyis, e_m0, m0K_s, e_join2, joinK_s, tru_bool, tru_tup, dB_bool, e_nrep, tyD_dat, isa_tuple, isa_str, isa_int, isa_bool, ty_int, isTup_none, isTup_bool, isTup_int, isTup_str, isTup_list, isTup_tuple, isTup_dict, isStr_none, isStr_bool, isStr_int, isStr_str, isStr_list, isStr_tuple, isStr_dict, isInt_none, isInt_bool, isInt_int, isInt_str, isInt_list, isInt_tuple, isInt_dict, isBol_none, isBol_bool, isBol_int, isBol_str, isBol_list, isBol_tuple, isBol_dict, Option.bind_some, Option.bind_none, if_true, if_false, id_eq, Int.cast_ofNat_Int, eq_self]
  cases h : isTup v with
  | false =>
    simp only [e_bind_ok, e_stm_ok, e_then_nx, e_then_rt, e_then_bk, e_then_ct, e_optR, e_optB, e_optV, e_optT, e_seq, e_pass, e_asg, e_put, e_ret, e_if, e_var, e_d, e_bin, e_un, e_ix, e_tOf, e_tOfB, e_and, e_or, e_tnot, e_vand, e_vor, e_vnot, e_vif, e_set, e_par2, e_park2, e_park3, e_retref, e_nlst, e_nil, e_cons, e_cb, e_call, e_isi, e_tup, e_lst, e_dats_nil, e_dats_cons, e_for, e_rng, e_sqi, e_sti, seqO_t, strO_s, e_new, e_eOfN, e_sl, e_onone, e_osome, s_dat, s_ref, s_scr, s_nil, s_cons, e_fn, e_to_rt, e_to_nx, e_o1, Option.map_some, List.getElem?_cons_zero, List.getElem?_cons_succ, List.map_cons, List.map_nil, List.cons_append, List.nil_append, List.replicate, List.set_cons_zero, List.set_cons_succ, List.length_cons, List.length_nil, if_true, v_lt, v_gt, v_le, v_ge, v_eq, v_ne, v_add, v_sub, dB, decide_eq_true_eq, Bool.and_self, Bool.false_eq_true, if_false, Nat.reduceAdd, Nat.reduceEqDiff, and_self, true_and, decide_true, decide_false, Bool.not_true, Bool.not_false, e_expr, e_chain, e_vorT, e_vandT, e_vnotT, e_tyis, e_m0, m0K_s, e_join2, joinK_s, tru_bool, tru_tup, dB_bool, e_nrep, tyD_dat, isa_tuple, isa_str, isa_int, isa_bool, ty_int, isTup_none, isTup_bool, isTup_int, isTup_str, isTup_list, isTup_tuple, isTup_dict, isStr_none, isStr_bool, isStr_int, isStr_str, isStr_list, isStr_tuple, isStr_dict, isInt_none, isInt_bool, isInt_int, isInt_str, isInt_list, isInt_tuple, isInt_dict, isBol_none, isBol_bool, isBol_int, isBol_str, isBol_list, isBol_tuple, isBol_dict, Option.bind_some, Option.bind_none, if_true, if_false, id_eq, Int.cast_ofNat_Int, eq_self]
    cases v <;> first | rfl | cases h
  | true =>
    obtain ⟨ds, rfl⟩ := isTup_eq h
    simp only [e_bind_ok, e_stm_ok, e_then_nx, e_then_rt, e_then_bk, e_then_ct, e_optR, e_optB, e_optV, e_optT, e_seq, e_pass, e_asg, e_put, e_ret, e_if, e_var, e_d, e_bin, e_un, e_ix, e_tOf, e_tOfB, e_and, e_or, e_tnot, e_vand, e_vor, e_vnot, e_vif, e_set, e_par2, e_park2, e_park3, e_retref, e_nlst, e_nil, e_cons, e_cb, e_call, e_isi, e_tup, e_lst, e_dats_nil, e_dats_cons, e_for, e_rng, e_sqi, e_sti, seqO_t, strO_s, e_new, e_eOfN, e_sl, e_onone, e_osome, s_dat, s_ref, s_scr, s_nil, s_cons, e_fn, e_to_rt, e_to_nx, e_o1, Option.map_some, List.getElem?_cons_zero, List.getElem?_cons_succ, List.map_cons, List.map_nil, List.cons_append, List.nil_append, List.replicate, List.set_cons_zero, List.set_cons_succ, List.length_cons, List.length_nil, if_true, v_lt, v_gt, v_le, v_ge, v_eq, v_ne, v_add, v_sub, dB, decide_eq_true_eq, Bool.and_self, Bool.false_eq_true, if_false, Nat.reduceAdd, Nat.reduceEqDiff, and_self, true_and, decide_true, decide_false, Bool.not_true, Bool.not_false, e_expr, e_chain, e_vorT, e_vandT, e_vnotT, e_tyis, e_m0, m0K_s, e_join2, joinK_s, tru_bool, tru_tup, dB_bool, e_nrep, tyD_dat, isa_tuple, isa_str, isa_int, isa_bool, ty_int, isTup_none, isTup_bool, isTup_int, isTup_str, isTup_list, isTup_tuple, isTup_dict, isStr_none, isStr_bool, isStr_int, isStr_str, isStr_list, isStr_tuple, isStr_dict, isInt_none, isInt_bool, isInt_int, isInt_str, isInt_list, isInt_tuple, isInt_dict, isBol_none, isBol_bool, isBol_int, isBol_str, isBol_list, isBol_tuple, isBol_dict, Option.bind_some, Option.bind_none, if_true, if_false, id_eq, Int.cast_ofNat_Int, eq_self, v_lenT]
    simp only [tupN]
theorem are_names_ok (v : PyData) (asc : Bool) (S : Store) (hs : Sm v) : f_are_names [.dat v, .dat (.bool asc)] S = .ok (.dat (.bool (namesB asc v))) S := by
  unfold f_are_names m_are_names
  simp only [e_bind_ok, e_stm_ok, e_then_nx, e_then_rt, e_then_bk, e_then_ct, e_optR, e_optB, e_optV, e_optT, e_seq, e_pass, e_asg, e_put, e_ret, e_if, e_var, e_d, e_bin, e_un, e_ix, e_tOf, e_tOfB, e_and, e_or, e_tnot, e_vand, e_vor, e_vnot, e_vif, e_set, e_par2, e_park2, e_park3, e_retref, e_nlst, e_nil, e_cons, e_cb, e_call, e_isi, e_tup, e_lst, e_dats_nil, e_dats_cons, e_for, e_rng, e_sqi, e_sti, seqO_t, strO_s, e_new, e_eOfN, e_sl, e_onone, e_osome, s_dat, s_ref, s_scr, s_nil, s_cons, e_fn, e_to_rt, e_to_nx, e_o1, Option.map_some, List.getElem?_cons_zero, List.getElem?_cons_succ, List.map_cons, List.map_nil, List.cons_append, List.nil_append, List.replicate, List.set_cons_zero, List.set_cons_succ, List.length_cons, List.length_nil, if_true, v_lt, v_gt, v_le, v_ge, v_eq, v_ne, v_add, v_sub, dB, decide_eq_true_eq, Bool.and_self, Bool.false_eq_true, if_false, Nat.reduceAdd, Nat.reduceEqDiff, and_self, true_and, decide_true, decide_false, Bool.not_true, Bool.not_false, e_expr, e_chain, e_vorT, e_vandT, e_vnotT, e_tyis, e_m0, m0K_s, e_join2, joinK_s, tru_bool, tru_tup, dB_bool, e_nrep, tyD_dat, isa_tuple, isa_str, isa_int, isa_bool, ty_int, isTup_none, isTup_bool, isTup_int, isTup_str, isTup_list, isTup_tuple, isTup_dict, isStr_none, isStr_bool, isStr_int, isStr_str, isStr_list, isStr_tuple, isStr_dict, isInt_none, isInt_bool, isInt_int, isInt_str, isInt_list, isInt_tuple, isInt_dict, isBol_none, isBol_bool, isBol_int, isBol_str, isBol_list, isBol_tuple, isBol_dict, Option.bind_some, Option.bind_none, if_true, if_false, id_eq, Int.cast_ofNat_Int, eq_self]
  cases h : isTup v with
  | false =>
    simp only [e_bind_ok, e_stm_ok, e_then_nx, e_then_rt, e_then_bk, e_then_ct, e_optR, e_optB, e_optV, e_optT, e_seq, e_pass, e_asg, e_put, e_ret, e_if, e_var, e_d, e_bin, e_un, e_ix, e_tOf, e_tOfB, e_and, e_or, e_tnot, e_vand, e_vor, e_vnot, e_vif, e_set, e_par2, e_park2, e_park3, e_retref, e_nlst, e_nil, e_cons, e_cb, e_call, e_isi, e_tup, e_lst, e_dats_nil, e_dats_cons, e_for, e_rng, e_sqi, e_sti, seqO_t, strO_s, e_new, e_eOfN, e_sl, e_onone, e_osome, s_dat, s_ref, s_scr, s_nil, s_cons, e_fn, e_to_rt, e_to_nx, e_o1, Option.map_some, List.getElem?_cons_zero, List.getElem?_cons_succ, List.map_cons, List.map_nil, List.cons_append, List.nil_append, List.replicate, List.set_cons_zero, List.set_cons_succ, List.length_cons, List.length_nil, if_true, v_lt, v_gt, v_le, v_ge, v_eq, v_ne, v_add, v_sub, dB, decide_eq_true_eq, Bool.and_self, Bool.false_eq_true, if_false, Nat.reduceAdd, Nat.reduceEqDiff, and_self, true_and, decide_true, decide_false, Bool.not_true, Bool.not_false, e_expr, e_chain, e_vorT, e_vandT, e_vnotT, e_tyis, e_m0, m0K_s, e_join2, joinK_s, tru_bool, tru_tup, dB_bool, e_nrep, tyD_dat, isa_tuple, isa_str, isa_int, isa_bool, ty_int, isTup_none, isTup_bool, isTup_int, isTup_str, isTup_list, isTup_tuple, isTup_dict, isStr_none, isStr_bool, isStr_int, isStr_str, isStr_list, isStr_tuple, isStr_dict, isInt_none, isInt_bool, isInt_int, isInt_str, isInt_list, isInt_tuple, isInt_dict, isBol_none, isBol_bool, isBol_int, isBol_str, isBol_list, isBol_tuple, isBol_dict, Option.bind_some, Option.bind_none, if_true, if_false, id_eq, Int.cast_ofNat_Int, eq_self]
    cases v <;> first | rfl | cases h
  | true =>
    obtain ⟨ds, rfl⟩ := isTup_eq h
    obtain ⟨hl, hd⟩ := hs.tup
    simp only [e_bind_ok, e_stm_ok, e_then_nx, e_then_rt, e_then_bk, e_then_ct, e_optR, e_optB, e_optV, e_optT, e_seq, e_pass, e_asg, e_put, e_ret, e_if, e_var, e_d, e_bin, e_un, e_ix, e_tOf, e_tOfB, e_and, e_or, e_tnot, e_vand, e_vor, e_vnot, e_vif, e_set, e_par2, e_park2, e_park3, e_retref, e_nlst, e_nil, e_cons, e_cb, e_call, e_isi, e_tup, e_lst, e_dats_nil, e_dats_cons, e_for, e_rng, e_sqi, e_sti, seqO_t, strO_s, e_new, e_eOfN, e_sl, e_onone, e_osome, s_dat, s_ref, s_scr, s_nil, s_cons, e_fn, e_to_rt, e_to_nx, e_o1, Option.map_some, List.getElem?_cons_zero, List.getElem?_cons_succ, List.map_cons, List.map_nil, List.cons_append, List.nil_append, List.replicate, List.set_cons_zero, List.set_cons_succ, List.length_cons, List.length_nil, if_true, v_lt, v_gt, v_le, v_ge, v_eq, v_ne, v_add, v_sub, dB, decide_eq_true_eq, Bool.and_self, Bool.false_eq_true, if_false, Nat.reduceAdd, Nat.reduceEqDiff, and_self, true_and, decide_true, decide_false, Bool.not_true, Bool.not_false, e_expr, e_chain, e_vorT, e_vandT, e_vnotT, e_tyis, e_m0, m0K_s, e_join2, joinK_s, tru_bool, tru_tup, dB_bool, e_nrep, tyD_dat, isa_tuple, isa_str, isa_int, isa_bool, ty_int, isTup_none, isTup_bool, isTup_int, isTup_str, isTup_list, isTup_tuple, isTup_dict, isStr_none, isStr_bool, isStr_int, isStr_str, isStr_list, isStr_tuple, isStr_dict, isInt_none, isInt_bool, isInt_int, isInt_str, isInt_list, isInt_tuple, isInt_dict, isBol_none, isBol_bool, isBol_int, isBol_str, isBol_list, isBol_tuple, isBol_dict, Option.bind_some, Option.bind_none, if_true, if_false, id_eq, Int.cast_ofNat_Int, eq_self]
    have key := forL_chk (t := .nm 3) (body := lb_are_names_1) (S := S) (r := .dat (.bool false)) (fun (a : Str) rho => ∃ x3, rho = [some (.dat (.tuple ds)), some (.dat (.bool asc)), some (.dat (.str a)), x3, none]) (nmStep asc) ds "" _ ⟨none, rfl⟩ (by
      rintro a d rho m ⟨x3, rfl⟩
      refine ⟨_, put_nm, ?_⟩
      unfold lb_are_names_1
      simp only [List.set_cons_succ, List.set_cons_zero]
      cases hd1 : isStr d with
      | false =>
        refine .inr ⟨by (cases d <;> first | rfl | cases hd1), ?_⟩
        simp only [e_bind_ok, e_stm_ok, e_then_nx, e_then_rt, e_then_bk, e_then_ct, e_optR, e_optB, e_optV, e_optT, e_seq, e_pass, e_asg, e_put, e_ret, e_if, e_var, e_d, e_bin, e_un, e_ix, e_tOf, e_tOfB, e_and, e_or, e_tnot, e_vand, e_vor, e_vnot, e_vif, e_set, e_par2, e_park2, e_park3, e_retref, e_nlst, e_nil, e_cons, e_cb, e_call, e_isi, e_tup, e_lst, e_dats_nil, e_dats_cons, e_for, e_rng, e_sqi, e_sti, seqO_t, strO_s, e_new, e_eOfN, e_sl, e_onone, e_osome, s_dat, s_ref, s_scr, s_nil, s_cons, e_fn, e_to_rt, e_to_nx, e_o1, Option.map_some, List.getElem?_cons_zero, List.getElem?_cons_succ, List.map_cons, List.map_nil, List.cons_append, List.nil_append, List.replicate, List.set_cons_zero, List.set_cons_succ, List.length_cons, List.length_nil, if_true, v_lt, v_gt, v_le, v_ge, v_eq, v_ne, v_add, v_sub, dB, decide_eq_true_eq, Bool.and_self, Bool.false_eq_true, if_false, Nat.reduceAdd, Nat.reduceEqDiff, and_self, true_and, decide_true, decide_false, Bool.not_true, Bool.not_false, e_expr, e_chain, e_vorT, e_vandT, e_vnotT, e_tyis, e_m0, m0K_s, e_join2, joinK_s, tru_bool, tru_tup, dB_bool, e_nrep, tyD_dat, isa_tuple, isa_str, isa_int, isa_bool, ty_int, isTup_none, isTup_bool, isTup_int, isTup_str, isTup_list, isTup_tuple, isTup_dict, isStr_none, isStr_bool, isStr_int, isStr_str, isStr_list, isStr_tuple, isStr_dict, isInt_none, isInt_bool, isInt_int, isInt_str, isInt_list, isInt_tuple, isInt_dict, isBol_none, isBol_bool, isBol_int, isBol_str, isBol_list, isBol_tuple, isBol_dict, Option.bind_some, Option.bind_none, if_true, if_false, id_eq, Int.cast_ofNat_Int, eq_self, hd1]
      | true =>
        obtain ⟨x, rfl⟩ := isStr_eq hd1
        have hx := (hd _ m).str
        simp only [e_bind_ok, e_stm_ok, e_then_nx, e_then_rt, e_then_bk, e_then_ct, e_optR, e_optB, e_optV, e_optT, e_seq, e_pass, e_asg, e_put, e_ret, e_if, e_var, e_d, e_bin, e_un, e_ix, e_tOf, e_tOfB, e_and, e_or, e_tnot, e_vand, e_vor, e_vnot, e_vif, e_set, e_par2, e_park2, e_park3, e_retref, e_nlst, e_nil, e_cons, e_cb, e_call, e_isi, e_tup, e_lst, e_dats_nil, e_dats_cons, e_for, e_rng, e_sqi, e_sti, seqO_t, strO_s, e_new, e_eOfN, e_sl, e_onone, e_osome, s_dat, s_ref, s_scr, s_nil, s_cons, e_fn, e_to_rt, e_to_nx, e_o1, Option.map_some, List.getElem?_cons_zero, List.getElem?_cons_succ, List.map_cons, List.map_nil, List.cons_append, List.nil_append, List.replicate, List.set_cons_zero, List.set_cons_succ, List.length_cons, List.length_nil, if_true, v_lt, v_gt, v_le, v_ge, v_eq, v_ne, v_add, v_sub, dB, decide_eq_true_eq, Bool.and_self, Bool.false_eq_true, if_false, Nat.reduceAdd, Nat.reduceEqDiff, and_self, true_and, decide_true, decide_false, Bool.not_true, Bool.not_false, e_expr, e_chain, e_vorT, e_vandT, e_vnotT, e_tyis, e_m0, m0K_s, e_join2, joinK_s, tru_bool, tru_tup, dB_bool, e_nrep, tyD_dat, isa_tuple, isa_str, isa_int, isa_bool, ty_int, isTup_none, isTup_bool, isTup_int, isTup_str, isTup_list, isTup_tuple, isTup_dict, isStr_none, isStr_bool, isStr_int, isStr_str, isStr_list, isStr_tuple, isStr_dict, isInt_none, isInt_bool, isInt_int, isInt_str, isInt_list, isInt_tuple, isInt_dict, isBol_none, isBol_bool, isBol_int, isBol_str, isBol_list, isBol_tuple, isBol_dict, Option.bind_some, Option.bind_none, if_true, if_false, id_eq, Int.cast_ofNat_Int, eq_self, v_lens hx, show k_MAX_LETTERS = .int 8 from rfl]
        by_cases h1 : (1 : Int) ≤ (x.length : Int)
        · by_cases h2 : (x.length : Int) ≤ 8
          · have ok8 : okLen8 x = true := by simp only [okLen8, Bool.and_eq_true, decide_eq_true_eq]; omega
            cases asc with
            | false =>
              refine .inl ⟨x, _, by simp only [nmStep, ok8]; rfl, by simp only [e_bind_ok, e_stm_ok, e_then_nx, e_then_rt, e_then_bk, e_then_ct, e_optR, e_optB, e_optV, e_optT, e_seq, e_pass, e_asg, e_put, e_ret, e_if, e_var, e_d, e_bin, e_un, e_ix, e_tOf, e_tOfB, e_and, e_or, e_tnot, e_vand, e_vor, e_vnot, e_vif, e_set, e_par2, e_park2, e_park3, e_retref, e_nlst, e_nil, e_cons, e_cb, e_call, e_isi, e_tup, e_lst, e_dats_nil, e_dats_cons, e_for, e_rng, e_sqi, e_sti, seqO_t, strO_s, e_new, e_eOfN, e_sl, e_onone, e_osome, s_dat, s_ref, s_scr, s_nil, s_cons, e_fn, e_to_rt, e_to_nx, e_o1, Option.map_some, List.getElem?_cons_zero, List.getElem?_cons_succ, List.map_cons, List.map_nil, List.cons_append, List.nil_append, List.replicate, List.set_cons_zero, List.set_cons_succ, List.length_cons, List.length_nil, if_true, v_lt, v_gt, v_le, v_ge, v_eq, v_ne, v_add, v_sub, dB, decide_eq_true_eq, Bool.and_self, Bool.false_eq_true, if_false, Nat.reduceAdd, Nat.reduceEqDiff, and_self, true_and, decide_true, decide_false, Bool.not_true, Bool.not_false, e_expr, e_chain, e_vorT, e_vandT, e_vnotT, e_tyis, e_m0, m0K_s, e_join2, joinK_s, tru_bool, tru_tup, dB_bool, e_nrep, tyD_dat, isa_tuple, isa_str, isa_int, isa_bool, ty_int, isTup_none, isTup_bool, isTup_int, isTup_str, isTup_list, isTup_tuple, isTup_dict, isStr_none, isStr_bool, isStr_int, isStr_str, isStr_list, isStr_tuple, isStr_dict, isInt_none, isInt_bool, isInt_int, isInt_str, isInt_list, isInt_tuple, isInt_dict, isBol_none, isBol_bool, isBol_int, isBol_str, isBol_list, isBol_tuple, isBol_dict, Option.bind_some, Option.bind_none, if_true, if_false, id_eq, Int.cast_ofNat_Int, eq_self, h1, h2]; exact rfl, _, rfl⟩
            | true =>
              simp only [e_bind_ok, e_stm_ok, e_then_nx, e_then_rt, e_then_bk, e_then_ct, e_optR, e_optB, e_optV, e_optT, e_seq, e_pass, e_asg, e_put, e_ret, e_if, e_var, e_d, e_bin, e_un, e_ix, e_tOf, e_tOfB, e_and, e_or, e_tnot, e_vand, e_vor, e_vnot, e_vif, e_set, e_par2, e_park2, e_park3, e_retref, e_nlst, e_nil, e_cons, e_cb, e_call, e_isi, e_tup, e_lst, e_dats_nil, e_dats_cons, e_for, e_rng, e_sqi, e_sti, seqO_t, strO_s, e_new, e_eOfN, e_sl, e_onone, e_osome, s_dat, s_ref, s_scr, s_nil, s_cons, e_fn, e_to_rt, e_to_nx, e_o1, Option.map_some, List.getElem?_cons_zero, List.getElem?_cons_succ, List.map_cons, List.map_nil, List.cons_append, List.nil_append, List.replicate, List.set_cons_zero, List.set_cons_succ, List.length_cons, List.length_nil, if_true, v_lt, v_gt, v_le, v_ge, v_eq, v_ne, v_add, v_sub, dB, decide_eq_true_eq, Bool.and_self, Bool.false_eq_true, if_false, Nat.reduceAdd, Nat.reduceEqDiff, and_self, true_and, decide_true, decide_false, Bool.not_true, Bool.not_false, e_expr, e_chain, e_vorT, e_vandT, e_vnotT, e_tyis, e_m0, m0K_s, e_join2, joinK_s, tru_bool, tru_tup, dB_bool, e_nrep, tyD_dat, isa_tuple, isa_str, isa_int, isa_bool, ty_int, isTup_none, isTup_bool, isTup_int, isTup_str, isTup_list, isTup_tuple, isTup_dict, isStr_none, isStr_bool, isStr_int, isStr_str, isStr_list, isStr_tuple, isStr_dict, isInt_none, isInt_bool, isInt_int, isInt_str, isInt_list, isInt_tuple, isInt_dict, isBol_none, isBol_bool, isBol_int, isBol_str, isBol_list, isBol_tuple, isBol_dict, Option.bind_some, Option.bind_none, if_true, if_false, id_eq, Int.cast_ofNat_Int, eq_self, h1, h2, v_les]
              by_cases h3 : a.cps.toList < x.cps.toList
              · exact .inl ⟨x, _, by simp [nmStep, ok8, h3], by simp only [e_bind_ok, e_stm_ok, e_then_nx, e_then_rt, e_then_bk, e_then_ct, e_optR, e_optB, e_optV, e_optT, e_seq, e_pass, e_asg, e_put, e_ret, e_if, e_var, e_d, e_bin, e_un, e_ix, e_tOf, e_tOfB, e_and, e_or, e_tnot, e_vand, e_vor, e_vnot, e_vif, e_set, e_par2, e_park2, e_park3, e_retref, e_nlst, e_nil, e_cons, e_cb, e_call, e_isi, e_tup, e_lst, e_dats_nil, e_dats_cons, e_for, e_rng, e_sqi, e_sti, seqO_t, strO_s, e_new, e_eOfN, e_sl, e_onone, e_osome, s_dat, s_ref, s_scr, s_nil, s_cons, e_fn, e_to_rt, e_to_nx, e_o1, Option.map_some, List.getElem?_cons_zero, List.getElem?_cons_succ, List.map_cons, List.map_nil, List.cons_append, List.nil_append, List.replicate, List.set_cons_zero, List.set_cons_succ, List.length_cons, List.length_nil, if_true, v_lt, v_gt, v_le, v_ge, v_eq, v_ne, v_add, v_sub, dB, decide_eq_true_eq, Bool.and_self, Bool.false_eq_true, if_false, Nat.reduceAdd, Nat.reduceEqDiff, and_self, true_and, decide_true, decide_false, Bool.not_true, Bool.not_false, e_expr, e_chain, e_vorT, e_vandT, e_vnotT, e_tyis, e_m0, m0K_s, e_join2, joinK_s, tru_bool, tru_tup, dB_bool, e_nrep, tyD_dat, isa_tuple, isa_str, isa_int, isa_bool, ty_int, isTup_none, isTup_bool, isTup_int, isTup_str, isTup_list, isTup_tuple, isTup_dict, isStr_none, isStr_bool, isStr_int, isStr_str, isStr_list, isStr_tuple, isStr_dict, isInt_none, isInt_bool, isInt_int, isInt_str, isInt_list, isInt_tuple, isInt_dict, isBol_none, isBol_bool, isBol_int, isBol_str, isBol_list, isBol_tuple, isBol_dict, Option.bind_some, Option.bind_none, if_true, if_false, id_eq, Int.cast_ofNat_Int, eq_self, h3]; exact rfl, _, rfl⟩
              · exact .inr ⟨by simp [nmStep, ok8, h3], by simp only [e_bind_ok, e_stm_ok, e_then_nx, e_then_rt, e_then_bk, e_then_ct, e_optR, e_optB, e_optV, e_optT, e_seq, e_pass, e_asg, e_put, e_ret, e_if, e_var, e_d, e_bin, e_un, e_ix, e_tOf, e_tOfB, e_and, e_or, e_tnot, e_vand, e_vor, e_vnot, e_vif, e_set, e_par2, e_park2, e_park3, e_retref, e_nlst, e_nil, e_cons, e_cb, e_call, e_isi, e_tup, e_lst, e_dats_nil, e_dats_cons, e_for, e_rng, e_sqi, e_sti, seqO_t, strO_s, e_new, e_eOfN, e_sl, e_onone, e_osome, s_dat, s_ref, s_scr, s_nil, s_cons, e_fn, e_to_rt, e_to_nx, e_o1, Option.map_some, List.getElem?_cons_zero, List.getElem?_cons_succ, List.map_cons, List.map_nil, List.cons_append, List.nil_append, List.replicate, List.set_cons_zero, List.set_cons_succ, List.length_cons, List.length_nil, if_true, v_lt, v_gt, v_le, v_ge, v_eq, v_ne, v_add, v_sub, dB, decide_eq_true_eq, Bool.and_self, Bool.false_eq_true, if_false, Nat.reduceAdd, Nat.reduceEqDiff, and_self, true_and, decide_true, decide_false, Bool.not_true, Bool.not_false, e_expr, e_chain, e_vorT, e_vandT, e_vnotT, e_tyis, e_m0, m0K_s, e_join2, joinK_s, tru_bool, tru_tup, dB_bool, e_nrep, tyD_dat, isa_tuple, isa_str, isa_int, isa_bool, ty_int, isTup_none, isTup_bool, isTup_int, isTup_str, isTup_list, isTup_tuple, isTup_dict, isStr_none, isStr_bool, isStr_int, isStr_str, isStr_list, isStr_tuple, isStr_dict, isInt_none, isInt_bool, isInt_int, isInt_str, isInt_list, isInt_tuple, isInt_dict, isBol_none, isBol_bool, isBol_int, isBol_str, isBol_list, isBol_tuple, isBol_dict, Option.bind_some, Option.bind_none, if_true, if_false, id_eq, Int.cast_ofNat_Int, eq_self, h3]⟩
          · have no8 : okLen8 x = false := by simp only [okLen8, Bool.and_eq_false_iff, decide_eq_false_iff_not]; omega
            exact .inr ⟨by simp [nmStep, no8], by simp only [e_bind_ok, e_stm_ok, e_then_nx, e_then_rt, e_then_bk, e_then_ct, e_optR, e_optB, e_optV, e_optT, e_seq, e_pass, e_asg, e_put, e_ret, e_if, e_var, e_d, e_bin, e_un, e_ix, e_tOf, e_tOfB, e_and, e_or, e_tnot, e_vand, e_vor, e_vnot, e_vif, e_set, e_par2, e_park2, e_park3, e_retref, e_nlst, e_nil, e_cons, e_cb, e_call, e_isi, e_tup, e_lst, e_dats_nil, e_dats_cons, e_for, e_rng, e_sqi, e_sti, seqO_t, strO_s, e_new, e_eOfN, e_sl, e_onone, e_osome, s_dat, s_ref, s_scr, s_nil, s_cons, e_fn, e_to_rt, e_to_nx, e_o1, Option.map_some, List.getElem?_cons_zero, List.getElem?_cons_succ, List.map_cons, List.map_nil, List.cons_append, List.nil_append, List.replicate, List.set_cons_zero, List.set_cons_succ, List.length_cons, List.length_nil, if_true, v_lt, v_gt, v_le, v_ge, v_eq, v_ne, v_add, v_sub, dB, decide_eq_true_eq, Bool.and_self, Bool.false_eq_true, if_false, Nat.reduceAdd, Nat.reduceEqDiff, and_self, true_and, decide_true, decide_false, Bool.not_true, Bool.not_false, e_expr, e_chain, e_vorT, e_vandT, e_vnotT, e_tyis, e_m0, m0K_s, e_join2, joinK_s, tru_bool, tru_tup, dB_bool, e_nrep, tyD_dat, isa_tuple, isa_str, isa_int, isa_bool, ty_int, isTup_none, isTup_bool, isTup_int, isTup_str, isTup_list, isTup_tuple, isTup_dict, isStr_none, isStr_bool, isStr_int, isStr_str, isStr_list, isStr_tuple, isStr_dict, isInt_none, isInt_bool, isInt_int, isInt_str, isInt_list, isInt_tuple, isInt_dict, isBol_none, isBol_bool, isBol_int, isBol_str, isBol_list, isBol_tuple, isBol_dict, Option.bind_some, Option.bind_none, if_true, if_false, id_eq, Int.cast_ofNat_Int, eq_self, h1, h2]⟩
        · have no8 : okLen8 x = false := by simp only [okLen8, Bool.and_eq_false_iff, decide_eq_false_iff_not]; omega
          exact .inr ⟨by simp [nmStep, no8], by simp only [e_bind_ok, e_stm_ok, e_then_nx, e_then_rt, e_then_bk, e_then_ct, e_optR, e_optB, e_optV, e_optT, e_seq, e_pass, e_asg, e_put, e_ret, e_if, e_var, e_d, e_bin, e_un, e_ix, e_tOf, e_tOfB, e_and, e_or, e_tnot, e_vand, e_vor, e_vnot, e_vif, e_set, e_par2, e_park2, e_park3, e_retref, e_nlst, e_nil, e_cons, e_cb, e_call, e_isi, e_tup, e_lst, e_dats_nil, e_dats_cons, e_for, e_rng, e_sqi, e_sti, seqO_t, strO_s, e_new, e_eOfN, e_sl, e_onone, e_osome, s_dat, s_ref, s_scr, s_nil, s_cons, e_fn, e_to_rt, e_to_nx, e_o1, Option.map_some, List.getElem?_cons_zero, List.getElem?_cons_succ, List.map_cons, List.map_nil, List.cons_append, List.nil_append, List.replicate, List.set_cons_zero, List.set_cons_succ, List.length_cons, List.length_nil, if_true, v_lt, v_gt, v_le, v_ge, v_eq, v_ne, v_add, v_sub, dB, decide_eq_true_eq, Bool.and_self, Bool.false_eq_true, if_false, Nat.reduceAdd, Nat.reduceEqDiff, and_self, true_and, decide_true, decide_false, Bool.not_true, Bool.not_false, e_expr, e_chain, e_vorT, e_vandT, e_vnotT, e_tyis, e_m0, m0K_s, e_join2, joinK_s, tru_bool, tru_tup, dB_bool, e_nrep, tyD_dat, isa_tuple, isa_str, isa_int, isa_bool, ty_int, isTup_none, isTup_bool, isTup_int, isTup_str, isTup_list, isTup_tuple, isTup_dict, isStr_none, isStr_bool, isStr_int, isStr_str, isStr_list, isStr_tuple, isStr_dict, isInt_none, isInt_bool, isInt_int, isInt_str, isInt_list, isInt_tuple, isInt_dict, isBol_none, isBol_bool, isBol_int, isBol_str, isBol_list, isBol_tuple, isBol_dict, Option.bind_some, Option.bind_none, if_true, if_false, id_eq, Int.cast_ofNat_Int, eq_self, h1]⟩)
    rcases key with ⟨a', rho', e1, e2, x3, rfl⟩ | ⟨e1, e2⟩
    · have ok : nmLen asc "" ds = true := by rw [nmLen_fold, e1]; rfl
      obtain ⟨xs, rfl, hx⟩ := nmLen_strs ok
      have hsum : (xs.map (·.length)).sum ≤ 16777216 := by
        have := sum_le_mul fun x m => (hx x m).2
        rw [List.length_map] at hl
        omega
      simp only [e_bind_ok, e_stm_ok, e_then_nx, e_then_rt, e_then_bk, e_then_ct, e_optR, e_optB, e_optV, e_optT, e_seq, e_pass, e_asg, e_put, e_ret, e_if, e_var, e_d, e_bin, e_un, e_ix, e_tOf, e_tOfB, e_and, e_or, e_tnot, e_vand, e_vor, e_vnot, e_vif, e_set, e_par2, e_park2, e_park3, e_retref, e_nlst, e_nil, e_cons, e_cb, e_call, e_isi, e_tup, e_lst, e_dats_nil, e_dats_cons, e_for, e_rng, e_sqi, e_sti, seqO_t, strO_s, e_new, e_eOfN, e_sl, e_onone, e_osome, s_dat, s_ref, s_scr, s_nil, s_cons, e_fn, e_to_rt, e_to_nx, e_o1, Option.map_some, List.getElem?_cons_zero, List.getElem?_cons_succ, List.map_cons, List.map_nil, List.cons_append, List.nil_append, List.replicate, List.set_cons_zero, List.set_cons_succ, List.length_cons, List.length_nil, if_true, v_lt, v_gt, v_le, v_ge, v_eq, v_ne, v_add, v_sub, dB, decide_eq_true_eq, Bool.and_self, Bool.false_eq_true, if_false, Nat.reduceAdd, Nat.reduceEqDiff, and_self, true_and, decide_true, decide_false, Bool.not_true, Bool.not_false, e_expr, e_chain, e_vorT, e_vandT, e_vnotT, e_tyis, e_m0, m0K_s, e_join2, joinK_s, tru_bool, tru_tup, dB_bool, e_nrep, tyD_dat, isa_tuple, isa_str, isa_int, isa_bool, ty_int, isTup_none, isTup_bool, isTup_int, isTup_str, isTup_list, isTup_tuple, isTup_dict, isStr_none, isStr_bool, isStr_int, isStr_str, isStr_list, isStr_tuple, isStr_dict, isInt_none, isInt_bool, isInt_int, isInt_str, isInt_list, isInt_tuple, isInt_dict, isBol_none, isBol_bool, isBol_int, isBol_str, isBol_list, isBol_tuple, isBol_dict, Option.bind_some, Option.bind_none, if_true, if_false, id_eq, Int.cast_ofNat_Int, eq_self, e2, join_tup hsum]
      simp only [namesB, ok, Bool.true_and]
      cases xs with
      | nil => rfl
      | cons x xs =>
        have he : ((x :: xs).map PyData.str).isEmpty = false := rfl
        have hpos : 0 < (Str.join "" (x :: xs)).length := by
          rw [← len_cps, join_cps, List.map_cons, List.flatten_cons, List.length_append, len_cps]
          have := (hx x (List.mem_cons_self ..)).1
          omega
        rw [← letters_flat, ← join_cps, ← txt_letters hpos]
        simp only [e_bind_ok, e_stm_ok, e_then_nx, e_then_rt, e_then_bk, e_then_ct, e_optR, e_optB, e_optV, e_optT, e_seq, e_pass, e_asg, e_put, e_ret, e_if, e_var, e_d, e_bin, e_un, e_ix, e_tOf, e_tOfB, e_and, e_or, e_tnot, e_vand, e_vor, e_vnot, e_vif, e_set, e_par2, e_park2, e_park3, e_retref, e_nlst, e_nil, e_cons, e_cb, e_call, e_isi, e_tup, e_lst, e_dats_nil, e_dats_cons, e_for, e_rng, e_sqi, e_sti, seqO_t, strO_s, e_new, e_eOfN, e_sl, e_onone, e_osome, s_dat, s_ref, s_scr, s_nil, s_cons, e_fn, e_to_rt, e_to_nx, e_o1, Option.map_some, List.getElem?_cons_zero, List.getElem?_cons_succ, List.map_cons, List.map_nil, List.cons_append, List.nil_append, List.replicate, List.set_cons_zero, List.set_cons_succ, List.length_cons, List.length_nil, if_true, v_lt, v_gt, v_le, v_ge, v_eq, v_ne, v_add, v_sub, dB, decide_eq_true_eq, Bool.and_self, Bool.false_eq_true, if_false, Nat.reduceAdd, Nat.reduceEqDiff, and_self, true_and, decide_true, decide_false, Bool.not_true, Bool.not_false, e_expr, e_chain, e_vorT, e_vandT, e_vnotT, e_tyis, e_m0, m0K_s, e_join2, joinK_s, tru_bool, tru_tup, dB_bool, e_nrep, tyD_dat, isa_tuple, isa_str, isa_int, isa_bool, ty_int, isTup_none, isTup_bool, isTup_int, isTup_str, isTup_list, isTup_tuple, isTup_dict, isStr_none, isStr_bool, isStr_int, isStr_str, isStr_list, isStr_tuple, isStr_dict, isInt_none, isInt_bool, isInt_int, isInt_str, isInt_list, isInt_tuple, isInt_dict, isBol_none, isBol_bool, isBol_int, isBol_str, isBol_list, isBol_tuple, isBol_dict, Option.bind_some, Option.bind_none, if_true, if_false, id_eq, Int.cast_ofNat_Int, eq_self, he]
        cases Txt.isascii (Str.join "" (x :: xs)) with
        | false => rfl
        | true =>
          simp only [e_bind_ok, e_stm_ok, e_then_nx, e_then_rt, e_then_bk, e_then_ct, e_optR, e_optB, e_optV, e_optT, e_seq, e_pass, e_asg, e_put, e_ret, e_if, e_var, e_d, e_bin, e_un, e_ix, e_tOf, e_tOfB, e_and, e_or, e_tnot, e_vand, e_vor, e_vnot, e_vif, e_set, e_par2, e_park2, e_park3, e_retref, e_nlst, e_nil, e_cons, e_cb, e_call, e_isi, e_tup, e_lst, e_dats_nil, e_dats_cons, e_for, e_rng, e_sqi, e_sti, seqO_t, strO_s, e_new, e_eOfN, e_sl, e_onone, e_osome, s_dat, s_ref, s_scr, s_nil, s_cons, e_fn, e_to_rt, e_to_nx, e_o1, Option.map_some, List.getElem?_cons_zero, List.getElem?_cons_succ, List.map_cons, List.map_nil, List.cons_append, List.nil_append, List.replicate, List.set_cons_zero, List.set_cons_succ, List.length_cons, List.length_nil, if_true, v_lt, v_gt, v_le, v_ge, v_eq, v_ne, v_add, v_sub, dB, decide_eq_true_eq, Bool.and_self, Bool.false_eq_true, if_false, Nat.reduceAdd, Nat.reduceEqDiff, and_self, true_and, decide_true, decide_false, Bool.not_true, Bool.not_false, e_expr, e_chain, e_vorT, e_vandT, e_vnotT, e_tyis, e_m0, m0K_s, e_join2, joinK_s, tru_bool, tru_tup, dB_bool, e_nrep, tyD_dat, isa_tuple, isa_str, isa_int, isa_bool, ty_int, isTup_none, isTup_bool, isTup_int, isTup_str, isTup_list, isTup_tuple, isTup_dict, isStr_none, isStr_bool, isStr_int, isStr_str, isStr_list, isStr_tuple, isStr_dict, isInt_none, isInt_bool, isInt_int, isInt_str, isInt_list, isInt_tuple, isInt_dict, isBol_none, isBol_bool, isBol_int, isBol_str, isBol_list, isBol_tuple, isBol_dict, Option.bind_some, Option.bind_none, if_true, if_false, id_eq, Int.cast_ofNat_Int, eq_self]
          cases Txt.isalpha (Str.join "" (x :: xs)) with
          | false => rfl
          | true => simp only [e_bind_ok, e_stm_ok, e_then_nx, e_then_rt, e_then_bk, e_then_ct, e_optR, e_optB, e_optV, e_optT, e_seq, e_pass, e_asg, e_put, e_ret, e_if, e_var, e_d, e_bin, e_un, e_ix, e_tOf, e_tOfB, e_and, e_or, e_tnot, e_vand, e_vor, e_vnot, e_vif, e_set, e_par2, e_park2, e_park3, e_retref, e_nlst, e_nil, e_cons, e_cb, e_call, e_isi, e_tup, e_lst, e_dats_nil, e_dats_cons, e_for, e_rng, e_sqi, e_sti, seqO_t, strO_s, e_new, e_eOfN, e_sl, e_onone, e_osome, s_dat, s_ref, s_scr, s_nil, s_cons, e_fn, e_to_rt, e_to_nx, e_o1, Option.map_some, List.getElem?_cons_zero, List.getElem?_cons_succ, List.map_cons, List.map_nil, List.cons_append, List.nil_append, List.replicate, List.set_cons_zero, List.set_cons_succ, List.length_cons, List.length_nil, if_true, v_lt, v_gt, v_le, v_ge, v_eq, v_ne, v_add, v_sub, dB, decide_eq_true_eq, Bool.and_self, Bool.false_eq_true, if_false, Nat.reduceAdd, Nat.reduceEqDiff, and_self, true_and, decide_true, decide_false, Bool.not_true, Bool.not_false, e_expr, e_chain, e_vorT, e_vandT, e_vnotT, e_tyis, e_m0, m0K_s, e_join2, joinK_s, tru_bool, tru_tup, dB_bool, e_nrep, tyD_dat, isa_tuple, isa_str, isa_int, isa_bool, ty_int, isTup_none, isTup_bool, isTup_int, isTup_str, isTup_list, isTup_tuple, isTup_dict, isStr_none, isStr_bool, isStr_int, isStr_str, isStr_list, isStr_tuple, isStr_dict, isInt_none, isInt_bool, isInt_int, isInt_str, isInt_list, isInt_tuple, isInt_dict, isBol_none, isBol_bool, isBol_int, isBol_str, isBol_list, isBol_tuple, isBol_dict, Option.bind_some, Option.bind_none, if_true, if_false, id_eq, Int.cast_ofNat_Int, eq_self]; rfl
    · have no : nmLen asc "" ds = false := by rw [nmLen_fold, e1]; rfl
      simp only [e_bind_ok, e_stm_ok, e_then_nx, e_then_rt, e_then_bk, e_then_ct, e_optR, e_optB, e_optV, e_optT, e_seq, e_pass, e_asg, e_put, e_ret, e_if, e_var, e_d, e_bin, e_un, e_ix, e_tOf, e_tOfB, e_and, e_or, e_tnot, e_vand, e_vor, e_vnot, e_vif, e_set, e_par2, e_park2, e_park3, e_retref, e_nlst, e_nil, e_cons, e_cb, e_call, e_isi, e_tup, e_lst, e_dats_nil, e_dats_cons, e_for, e_rng, e_sqi, e_sti, seqO_t, strO_s, e_new, e_eOfN, e_sl, e_onone, e_osome, s_dat, s_ref, s_scr, s_nil, s_cons, e_fn, e_to_rt, e_to_nx, e_o1, Option.map_some, List.getElem?_cons_zero, List.getElem?_cons_succ, List.map_cons, List.map_nil, List.cons_append, List.nil_append, List.replicate, List.set_cons_zero, List.set_cons_succ, List.length_cons, List.length_nil, if_true, v_lt, v_gt, v_le, v_ge, v_eq, v_ne, v_add, v_sub, dB, decide_eq_true_eq, Bool.and_self, Bool.false_eq_true, if_false, Nat.reduceAdd, Nat.reduceEqDiff, and_self, true_and, decide_true, decide_false, Bool.not_true, Bool.not_false, e_expr, e_chain, e_vorT, e_vandT, e_vnotT, e_tyis, e_m0, m0K_s, e_join2, joinK_s, tru_bool, tru_tup, dB_bool, e_nrep, tyD_dat, isa_tuple, isa_str, isa_int, isa_bool, ty_int, isTup_none, isTup_bool, isTup_int, isTup_str, isTup_list, isTup_tuple, isTup_dict, isStr_none, isStr_bool, isStr_int, isStr_str, isStr_list, isStr_tuple, isStr_dict, isInt_none, isInt_bool, isInt_int, isInt_str, isInt_list, isInt_tuple, isInt_dict, isBol_none, isBol_bool, isBol_int, isBol_str, isBol_list, isBol_tuple, isBol_dict, Option.bind_some, Option.bind_none, if_true, if_false, id_eq, Int.cast_ofNat_Int, eq_self, e2]
      simp only [namesB, no, Bool.false_and]
theorem is_labels_ok (v : PyData) (S : Store) (hs : Sm v) : f_is_labels [.dat v] S = .ok (.dat (.bool (labelsB v))) S := by
  unfold f_is_labels m_is_labels
  simp only [e_bind_ok, e_stm_ok, e_then_nx, e_then_rt, e_then_bk, e_then_ct, e_optR, e_optB, e_optV, e_optT, e_seq, e_pass, e_asg, e_put, e_ret, e_if, e_var, e_d, e_bin, e_un, e_ix, e_tOf, e_tOfB, e_and, e_or, e_tnot, e_vand, e_vor, e_vnot, e_vif, e_set, e_par2, e_park2, e_park3, e_retref, e_nlst, e_nil, e_cons, e_cb, e_call, e_isi, e_tup, e_lst, e_dats_nil, e_dats_cons, e_for, e_rng, e_sqi, e_sti, seqO_t, strO_s, e_new, e_eOfN, e_sl, e_onone, e_osome, s_dat, s_ref, s_scr, s_nil, s_cons, e_fn, e_to_rt, e_to_nx, e_o1, Option.map_some, List.getElem?_cons_zero, List.getElem?_cons_succ, List.map_cons, List.map_nil, List.cons_append, List.nil_append, List.replicate, List.set_cons_zero, List.set_cons_succ, List.length_cons, List.length_nil, if_true, v_lt, v_gt, v_le, v_ge, v_eq, v_ne, v_add, v_sub, dB, decide_eq_true_eq, Bool.and_self, Bool.false_eq_true, if_false, Nat.reduceAdd, Nat.reduceEqDiff, and_self, true_and, decide_true, decide_false, Bool.not_true, Bool.not_false, e_expr, e_chain, e_vorT, e_vandT, e_vnotT, e_tyis, e_m0, m0K_s, e_join2, joinK_s, tru_bool, tru_tup, dB_bool, e_nrep, tyD_dat, isa_tuple, isa_str, isa_int, isa_bool, ty_int, isTup_none, isTup_bool, isTup_int, isTup_str, isTup_list, isTup_tuple, isTup_dict, isStr_none, isStr_bool, isStr_int, isStr_str, isStr_list, isStr_tuple, isStr_dict, isInt_none, isInt_bool, isInt_int, isInt_str, isInt_list, isInt_tuple, isInt_dict, isBol_none, isBol_bool, isBol_int, isBol_str, isBol_list, isBol_tuple, isBol_dict, Option.bind_some, Option.bind_none, if_true, if_false, id_eq, Int.cast_ofNat_Int, eq_self, are_names_ok v true S hs]
  unfold labelsB
  cases h : namesB true v with
  | false => simp only [e_bind_ok, e_stm_ok, e_then_nx, e_then_rt, e_then_bk, e_then_ct, e_optR, e_optB, e_optV, e_optT, e_seq, e_pass, e_asg, e_put, e_ret, e_if, e_var, e_d, e_bin, e_un, e_ix, e_tOf, e_tOfB, e_and, e_or, e_tnot, e_vand, e_vor, e_vnot, e_vif, e_set, e_par2, e_park2, e_park3, e_retref, e_nlst, e_nil, e_cons, e_cb, e_call, e_isi, e_tup, e_lst, e_dats_nil, e_dats_cons, e_for, e_rng, e_sqi, e_sti, seqO_t, strO_s, e_new, e_eOfN, e_sl, e_onone, e_osome, s_dat, s_ref, s_scr, s_nil, s_cons, e_fn, e_to_rt, e_to_nx, e_o1, Option.map_some, List.getElem?_cons_zero, List.getElem?_cons_succ, List.map_cons, List.map_nil, List.cons_append, List.nil_append, List.replicate, List.set_cons_zero, List.set_cons_succ, List.length_cons, List.length_nil, if_true, v_lt, v_gt, v_le, v_ge, v_eq, v_ne, v_add, v_sub, dB, decide_eq_true_eq, Bool.and_self, Bool.false_eq_true, if_false, Nat.reduceAdd, Nat.reduceEqDiff, and_self, true_and, decide_true, decide_false, Bool.not_true, Bool.not_false, e_expr, e_chain, e_vorT, e_vandT, e_vnotT, e_tyis, e_m0, m0K_s, e_join2, joinK_s, tru_bool, tru_tup, dB_bool, e_nrep, tyD_dat, isa_tuple, isa_str, isa_int, isa_bool, ty_int, isTup_none, isTup_bool, isTup_int, isTup_str, isTup_list, isTup_tuple, isTup_dict, isStr_none, isStr_bool, isStr_int, isStr_str, isStr_list, isStr_tuple, isStr_dict, isInt_none, isInt_bool, isInt_int, isInt_str, isInt_list, isInt_tuple, isInt_dict, isBol_none, isBol_bool, isBol_int, isBol_str, isBol_list, isBol_tuple, isBol_dict, Option.bind_some, Option.bind_none, if_true, if_false, id_eq, Int.cast_ofNat_Int, eq_self]; rfl
  | true =>
    obtain ⟨xs, rfl, hx⟩ := namesB_strs h
    simp only [e_bind_ok, e_stm_ok, e_then_nx, e_then_rt, e_then_bk, e_then_ct, e_optR, e_optB, e_optV, e_optT, e_seq, e_pass, e_asg, e_put, e_ret, e_if, e_var, e_d, e_bin, e_un, e_ix, e_tOf, e_tOfB, e_and, e_or, e_tnot, e_vand, e_vor, e_vnot, e_vif, e_set, e_par2, e_park2, e_park3, e_retref, e_nlst, e_nil, e_cons, e_cb, e_call, e_isi, e_tup, e_lst, e_dats_nil, e_dats_cons, e_for, e_rng, e_sqi, e_sti, seqO_t, strO_s, e_new, e_eOfN, e_sl, e_onone, e_osome, s_dat, s_ref, s_scr, s_nil, s_cons, e_fn, e_to_rt, e_to_nx, e_o1, Option.map_some, List.getElem?_cons_zero, List.getElem?_cons_succ, List.map_cons, List.map_nil, List.cons_append, List.nil_append, List.replicate, List.set_cons_zero, List.set_cons_succ, List.length_cons, List.length_nil, if_true, v_lt, v_gt, v_le, v_ge, v_eq, v_ne, v_add, v_sub, dB, decide_eq_true_eq, Bool.and_self, Bool.false_eq_true, if_false, Nat.reduceAdd, Nat.reduceEqDiff, and_self, true_and, decide_true, decide_false, Bool.not_true, Bool.not_false, e_expr, e_chain, e_vorT, e_vandT, e_vnotT, e_tyis, e_m0, m0K_s, e_join2, joinK_s, tru_bool, tru_tup, dB_bool, e_nrep, tyD_dat, isa_tuple, isa_str, isa_int, isa_bool, ty_int, isTup_none, isTup_bool, isTup_int, isTup_str, isTup_list, isTup_tuple, isTup_dict, isStr_none, isStr_bool, isStr_int, isStr_str, isStr_list, isStr_tuple, isStr_dict, isInt_none, isInt_bool, isInt_int, isInt_str, isInt_list, isInt_tuple, isInt_dict, isBol_none, isBol_bool, isBol_int, isBol_str, isBol_list, isBol_tuple, isBol_dict, Option.bind_some, Option.bind_none, if_true, if_false, id_eq, Int.cast_ofNat_Int, eq_self, v_lenT, show k_MAX_LABELS = .int 12 from rfl, lenB, Bool.true_and]
    by_cases h1 : (1 : Int) ≤ ((xs.map PyData.str).length : Int)
    · simp only [e_bind_ok, e_stm_ok, e_then_nx, e_then_rt, e_then_bk, e_then_ct, e_optR, e_optB, e_optV, e_optT, e_seq, e_pass, e_asg, e_put, e_ret, e_if, e_var, e_d, e_bin, e_un, e_ix, e_tOf, e_tOfB, e_and, e_or, e_tnot, e_vand, e_vor, e_vnot, e_vif, e_set, e_par2, e_park2, e_park3, e_retref, e_nlst, e_nil, e_cons, e_cb, e_call, e_isi, e_tup, e_lst, e_dats_nil, e_dats_cons, e_for, e_rng, e_sqi, e_sti, seqO_t, strO_s, e_new, e_eOfN, e_sl, e_onone, e_osome, s_dat, s_ref, s_scr, s_nil, s_cons, e_fn, e_to_rt, e_to_nx, e_o1, Option.map_some, List.getElem?_cons_zero, List.getElem?_cons_succ, List.map_cons, List.map_nil, List.cons_append, List.nil_append, List.replicate, List.set_cons_zero, List.set_cons_succ, List.length_cons, List.length_nil, if_true, v_lt, v_gt, v_le, v_ge, v_eq, v_ne, v_add, v_sub, dB, decide_eq_true_eq, Bool.and_self, Bool.false_eq_true, if_false, Nat.reduceAdd, Nat.reduceEqDiff, and_self, true_and, decide_true, decide_false, Bool.not_true, Bool.not_false, e_expr, e_chain, e_vorT, e_vandT, e_vnotT, e_tyis, e_m0, m0K_s, e_join2, joinK_s, tru_bool, tru_tup, dB_bool, e_nrep, tyD_dat, isa_tuple, isa_str, isa_int, isa_bool, ty_int, isTup_none, isTup_bool, isTup_int, isTup_str, isTup_list, isTup_tuple, isTup_dict, isStr_none, isStr_bool, isStr_int, isStr_str, isStr_list, isStr_tuple, isStr_dict, isInt_none, isInt_bool, isInt_int, isInt_str, isInt_list, isInt_tuple, isInt_dict, isBol_none, isBol_bool, isBol_int, isBol_str, isBol_list, isBol_tuple, isBol_dict, Option.bind_some, Option.bind_none, if_true, if_false, id_eq, Int.cast_ofNat_Int, eq_self, h1]
      congr 3
      (rw [Bool.eq_iff_iff]; simp only [Bool.and_eq_true, Bool.or_eq_true, Bool.not_eq_true', decide_eq_true_eq, decide_eq_false_iff_not]; omega)
    · simp only [e_bind_ok, e_stm_ok, e_then_nx, e_then_rt, e_then_bk, e_then_ct, e_optR, e_optB, e_optV, e_optT, e_seq, e_pass, e_asg, e_put, e_ret, e_if, e_var, e_d, e_bin, e_un, e_ix, e_tOf, e_tOfB, e_and, e_or, e_tnot, e_vand, e_vor, e_vnot, e_vif, e_set, e_par2, e_park2, e_park3, e_retref, e_nlst, e_nil, e_cons, e_cb, e_call, e_isi, e_tup, e_lst, e_dats_nil, e_dats_cons, e_for, e_rng, e_sqi, e_sti, seqO_t, strO_s, e_new, e_eOfN, e_sl, e_onone, e_osome, s_dat, s_ref, s_scr, s_nil, s_cons, e_fn, e_to_rt, e_to_nx, e_o1, Option.map_some, List.getElem?_cons_zero, List.getElem?_cons_succ, List.map_cons, List.map_nil, List.cons_append, List.nil_append, List.replicate, List.set_cons_zero, List.set_cons_succ, List.length_cons, List.length_nil, if_true, v_lt, v_gt, v_le, v_ge, v_eq, v_ne, v_add, v_sub, dB, decide_eq_true_eq, Bool.and_self, Bool.false_eq_true, if_false, Nat.reduceAdd, Nat.reduceEqDiff, and_self, true_and, decide_true, decide_false, Bool.not_true, Bool.not_false, e_expr, e_chain, e_vorT, e_vandT, e_vnotT, e_tyis, e_m0, m0K_s, e_join2, joinK_s, tru_bool, tru_tup, dB_bool, e_nrep, tyD_dat, isa_tuple, isa_str, isa_int, isa_bool, ty_int, isTup_none, isTup_bool, isTup_int, isTup_str, isTup_list, isTup_tuple, isTup_dict, isStr_none, isStr_bool, isStr_int, isStr_str, isStr_list, isStr_tuple, isStr_dict, isInt_none, isInt_bool, isInt_int, isInt_str, isInt_list, isInt_tuple, isInt_dict, isBol_none, isBol_bool, isBol_int, isBol_str, isBol_list, isBol_tuple, isBol_dict, Option.bind_some, Option.bind_none, if_true, if_false, id_eq, Int.cast_ofNat_Int, eq_self, h1]
      have : ¬ 1 ≤ (xs.map PyData.str).length := by omega
      rw [decide_eq_false this]
      rfl
theorem is_word_ok (c v : PyData) (mem : Str → Bool) (S : Store) (hc : Cont c mem) : f_is_word [.dat c, .dat v] S = .ok (.dat (.bool (wordB mem v))) S := by
  unfold f_is_word m_is_word
  simp only [e_bind_ok, e_stm_ok, e_then_nx, e_then_rt, e_then_bk, e_then_ct, e_optR, e_optB, e_optV, e_optT, e_seq, e_pass, e_asg, e_put, e_ret, e_if, e_var, e_d, e_bin, e_un, e_ix, e_tOf, e_tOfB, e_and, e_or, e_tnot, e_vand, e_vor, e_vnot, e_vif, e_set, e_par2, e_park2, e_park3, e_retref, e_nlst, e_nil, e_cons, e_cb, e_call, e_isi, e_tup, e_lst, e_dats_nil, e_dats_cons, e_for, e_rng, e_sqi, e_sti, seqO_t, strO_s, e_new, e_eOfN, e_sl, e_onone, e_osome, s_dat, s_ref, s_scr, s_nil, s_cons, e_fn, e_to_rt, e_to_nx, e_o1, Option.map_some, List.getElem?_cons_zero, List.getElem?_cons_succ, List.map_cons, List.map_nil, List.cons_append, List.nil_append, List.replicate, List.set_cons_zero, List.set_cons_succ, List.length_cons, List.length_nil, if_true, v_lt, v_gt, v_le, v_ge, v_eq, v_ne, v_add, v_sub, dB, decide_eq_true_eq, Bool.and_self, Bool.false_eq_true, if_false, Nat.reduceAdd, Nat.reduceEqDiff, and_self, true_and, decide_true, decide_false, Bool.not_true, Bool.not_false, e_expr, e_chain, e_vorT, e_vandT, e_vnotT, e_tyis, e_m0, m0K_s, e_join2, joinK_s, tru_bool, tru_tup, dB_bool, e_nrep, tyD_dat, isa_tuple, isa_str, isa_int, isa_bool, ty_int, isTup_none, isTup_bool, isTup_int, isTup_str, isTup_list, isTup_tuple, isTup_dict, isStr_none, isStr_bool, isStr_int, isStr_str, isStr_list, isStr_tuple, isStr_dict, isInt_none, isInt_bool, isInt_int, isInt_str, isInt_list, isInt_tuple, isInt_dict, isBol_none, isBol_bool, isBol_int, isBol_str, isBol_list, isBol_tuple, isBol_dict, Option.bind_some, Option.bind_none, if_true, if_false, id_eq, Int.cast_ofNat_Int, eq_self]
  cases h : isTup v with
  | false =>
    simp only [e_bind_ok, e_stm_ok, e_then_nx, e_then_rt, e_then_bk, e_then_ct, e_optR, e_optB, e_optV, e_optT, e_seq, e_pass, e_asg, e_put, e_ret, e_if, e_var, e_d, e_bin, e_un, e_ix, e_tOf, e_tOfB, e_and, e_or, e_tnot, e_vand, e_vor, e_vnot, e_vif, e_set, e_par2, e_park2, e_park3, e_retref, e_nlst, e_nil, e_cons, e_cb, e_call, e_isi, e_tup, e_lst, e_dats_nil, e_dats_cons, e_for, e_rng, e_sqi, e_sti, seqO_t, strO_s, e_new, e_eOfN, e_sl, e_onone, e_osome, s_dat, s_ref, s_scr, s_nil, s_cons, e_fn, e_to_rt, e_to_nx, e_o1, Option.map_some, List.getElem?_cons_zero, List.getElem?_cons_succ, List.map_cons, List.map_nil, List.cons_append, List.nil_append, List.replicate, List.set_cons_zero, List.set_cons_succ, List.length_cons, List.length_nil, if_true, v_lt, v_gt, v_le, v_ge, v_eq, v_ne, v_add, v_sub, dB, decide_eq_true_eq, Bool.and_self, Bool.false_eq_true, if_false, Nat.reduceAdd, Nat.reduceEqDiff, and_self, true_and, decide_true, decide_false, Bool.not_true, Bool.not_false, e_expr, e_chain, e_vorT, e_vandT, e_vnotT, e_tyis, e_m0, m0K_s, e_join2, joinK_s, tru_bool, tru_tup, dB_bool, e_nrep, tyD_dat, isa_tuple, isa_str, isa_int, isa_bool, ty_int, isTup_none, isTup_bool, isTup_int, isTup_str, isTup_list, isTup_tuple, isTup_dict, isStr_none, isStr_bool, isStr_int, isStr_str, isStr_list, isStr_tuple, isStr_dict, isInt_none, isInt_bool, isInt_int, isInt_str, isInt_list, isInt_tuple, isInt_dict, isBol_none, isBol_bool, isBol_int, isBol_str, isBol_list, isBol_tuple, isBol_dict, Option.bind_some, Option.bind_none, if_true, if_false, id_eq, Int.cast_ofNat_Int, eq_self]
    cases v <;> first | rfl | cases h
  | true =>
    obtain ⟨ds, rfl⟩ := isTup_eq h
    simp only [e_bind_ok, e_stm_ok, e_then_nx, e_then_rt, e_then_bk, e_then_ct, e_optR, e_optB, e_optV, e_optT, e_seq, e_pass, e_asg, e_put, e_ret, e_if, e_var, e_d, e_bin, e_un, e_ix, e_tOf, e_tOfB, e_and, e_or, e_tnot, e_vand, e_vor, e_vnot, e_vif, e_set, e_par2, e_park2, e_park3, e_retref, e_nlst, e_nil, e_cons, e_cb, e_call, e_isi, e_tup, e_lst, e_dats_nil, e_dats_cons, e_for, e_rng, e_sqi, e_sti, seqO_t, strO_s, e_new, e_eOfN, e_sl, e_onone, e_osome, s_dat, s_ref, s_scr, s_nil, s_cons, e_fn, e_to_rt, e_to_nx, e_o1, Option.map_some, List.getElem?_cons_zero, List.getElem?_cons_succ, List.map_cons, List.map_nil, List.cons_append, List.nil_append, List.replicate, List.set_cons_zero, List.set_cons_succ, List.length_cons, List.length_nil, if_true, v_lt, v_gt, v_le, v_ge, v_eq, v_ne, v_add, v_sub, dB, decide_eq_true_eq, Bool.and_self, Bool.false_eq_true, if_false, Nat.reduceAdd, Nat.reduceEqDiff, and_self, true_and, decide_true, decide_false, Bool.not_true, Bool.not_false, e_expr, e_chain, e_vorT, e_vandT, e_vnotT, e_tyis, e_m0, m0K_s, e_join2, joinK_s, tru_bool, tru_tup, dB_bool, e_nrep, tyD_dat, isa_tuple, isa_str, isa_int, isa_bool, ty_int, isTup_none, isTup_bool, isTup_int, isTup_str, isTup_list, isTup_tuple, isTup_dict, isStr_none, isStr_bool, isStr_int, isStr_str, isStr_list, isStr_tuple, isStr_dict, isInt_none, isInt_bool, isInt_int, isInt_str, isInt_list, isInt_tuple, isInt_dict, isBol_none, isBol_bool, isBol_int, isBol_str, isBol_list, isBol_tuple, isBol_dict, Option.bind_some, Option.bind_none, if_true, if_false, id_eq, Int.cast_ofNat_Int, eq_self]
    have key := forL_chk (t := .nm 2) (body := lb_is_word_1) (S := S) (r := .dat (.bool false)) (fun (a : Unit) rho => ∃ x3, rho = [some (.dat c), some (.dat (.tuple ds)), x3]) (fun _ d => if strB mem d = true then some () else none) ds () _ ⟨none, rfl⟩ (by
      rintro a d rho m ⟨x3, rfl⟩
      refine ⟨_, put_nm, ?_⟩
      unfold lb_is_word_1
      simp only [List.set_cons_succ, List.set_cons_zero]
      cases hd1 : isStr d with
      | false =>
        refine .inr ⟨by (cases d <;> first | rfl | cases hd1), ?_⟩
        simp only [e_bind_ok, e_stm_ok, e_then_nx, e_then_rt, e_then_bk, e_then_ct, e_optR, e_optB, e_optV, e_optT, e_seq, e_pass, e_asg, e_put, e_ret, e_if, e_var, e_d, e_bin, e_un, e_ix, e_tOf, e_tOfB, e_and, e_or, e_tnot, e_vand, e_vor, e_vnot, e_vif, e_set, e_par2, e_park2, e_park3, e_retref, e_nlst, e_nil, e_cons, e_cb, e_call, e_isi, e_tup, e_lst, e_dats_nil, e_dats_cons, e_for, e_rng, e_sqi, e_sti, seqO_t, strO_s, e_new, e_eOfN, e_sl, e_onone, e_osome, s_dat, s_ref, s_scr, s_nil, s_cons, e_fn, e_to_rt, e_to_nx, e_o1, Option.map_some, List.getElem?_cons_zero, List.getElem?_cons_succ, List.map_cons, List.map_nil, List.cons_append, List.nil_append, List.replicate, List.set_cons_zero, List.set_cons_succ, List.length_cons, List.length_nil, if_true, v_lt, v_gt, v_le, v_ge, v_eq, v_ne, v_add, v_sub, dB, decide_eq_true_eq, Bool.and_self, Bool.false_eq_true, if_false, Nat.reduceAdd, Nat.reduceEqDiff, and_self, true_and, decide_true, decide_false, Bool.not_true, Bool.not_false, e_expr, e_chain, e_vorT, e_vandT, e_vnotT, e_tyis, e_m0, m0K_s, e_join2, joinK_s, tru_bool, tru_tup, dB_bool, e_nrep, tyD_dat, isa_tuple, isa_str, isa_int, isa_bool, ty_int, isTup_none, isTup_bool, isTup_int, isTup_str, isTup_list, isTup_tuple, isTup_dict, isStr_none, isStr_bool, isStr_int, isStr_str, isStr_list, isStr_tuple, isStr_dict, isInt_none, isInt_bool, isInt_int, isInt_str, isInt_list, isInt_tuple, isInt_dict, isBol_none, isBol_bool, isBol_int, isBol_str, isBol_list, isBol_tuple, isBol_dict, Option.bind_some, Option.bind_none, if_true, if_false, id_eq, Int.cast_ofNat_Int, eq_self, hd1]
      | true =>
        obtain ⟨x, rfl⟩ := isStr_eq hd1
        simp only [e_bind_ok, e_stm_ok, e_then_nx, e_then_rt, e_then_bk, e_then_ct, e_optR, e_optB, e_optV, e_optT, e_seq, e_pass, e_asg, e_put, e_ret, e_if, e_var, e_d, e_bin, e_un, e_ix, e_tOf, e_tOfB, e_and, e_or, e_tnot, e_vand, e_vor, e_vnot, e_vif, e_set, e_par2, e_park2, e_park3, e_retref, e_nlst, e_nil, e_cons, e_cb, e_call, e_isi, e_tup, e_lst, e_dats_nil, e_dats_cons, e_for, e_rng, e_sqi, e_sti, seqO_t, strO_s, e_new, e_eOfN, e_sl, e_onone, e_osome, s_dat, s_ref, s_scr, s_nil, s_cons, e_fn, e_to_rt, e_to_nx, e_o1, Option.map_some, List.getElem?_cons_zero, List.getElem?_cons_succ, List.map_cons, List.map_nil, List.cons_append, List.nil_append, List.replicate, List.set_cons_zero, List.set_cons_succ, List.length_cons, List.length_nil, if_true, v_lt, v_gt, v_le, v_ge, v_eq, v_ne, v_add, v_sub, dB, decide_eq_true_eq, Bool.and_self, Bool.false_eq_true, if_false, Nat.reduceAdd, Nat.reduceEqDiff, and_self, true_and, decide_true, decide_false, Bool.not_true, Bool.not_false, e_expr, e_chain, e_vorT, e_vandT, e_vnotT, e_tyis, e_m0, m0K_s, e_join2, joinK_s, tru_bool, tru_tup, dB_bool, e_nrep, tyD_dat, isa_tuple, isa_str, isa_int, isa_bool, ty_int, isTup_none, isTup_bool, isTup_int, isTup_str, isTup_list, isTup_tuple, isTup_dict, isStr_none, isStr_bool, isStr_int, isStr_str, isStr_list, isStr_tuple, isStr_dict, isInt_none, isInt_bool, isInt_int, isInt_str, isInt_list, isInt_tuple, isInt_dict, isBol_none, isBol_bool, isBol_int, isBol_str, isBol_list, isBol_tuple, isBol_dict, Option.bind_some, Option.bind_none, if_true, if_false, id_eq, Int.cast_ofNat_Int, eq_self, hc not x]
        cases hm : mem x with
        | true => exact .inl ⟨(), _, by simp [strB, hm], by simp only [e_bind_ok, e_stm_ok, e_then_nx, e_then_rt, e_then_bk, e_then_ct, e_optR, e_optB, e_optV, e_optT, e_seq, e_pass, e_asg, e_put, e_ret, e_if, e_var, e_d, e_bin, e_un, e_ix, e_tOf, e_tOfB, e_and, e_or, e_tnot, e_vand, e_vor, e_vnot, e_vif, e_set, e_par2, e_park2, e_park3, e_retref, e_nlst, e_nil, e_cons, e_cb, e_call, e_isi, e_tup, e_lst, e_dats_nil, e_dats_cons, e_for, e_rng, e_sqi, e_sti, seqO_t, strO_s, e_new, e_eOfN, e_sl, e_onone, e_osome, s_dat, s_ref, s_scr, s_nil, s_cons, e_fn, e_to_rt, e_to_nx, e_o1, Option.map_some, List.getElem?_cons_zero, List.getElem?_cons_succ, List.map_cons, List.map_nil, List.cons_append, List.nil_append, List.replicate, List.set_cons_zero, List.set_cons_succ, List.length_cons, List.length_nil, if_true, v_lt, v_gt, v_le, v_ge, v_eq, v_ne, v_add, v_sub, dB, decide_eq_true_eq, Bool.and_self, Bool.false_eq_true, if_false, Nat.reduceAdd, Nat.reduceEqDiff, and_self, true_and, decide_true, decide_false, Bool.not_true, Bool.not_false, e_expr, e_chain, e_vorT, e_vandT, e_vnotT, e_tyis, e_m0, m0K_s, e_join2, joinK_s, tru_bool, tru_tup, dB_bool, e_nrep, tyD_dat, isa_tuple, isa_str, isa_int, isa_bool, ty_int, isTup_none, isTup_bool, isTup_int, isTup_str, isTup_list, isTup_tuple, isTup_dict, isStr_none, isStr_bool, isStr_int, isStr_str, isStr_list, isStr_tuple, isStr_dict, isInt_none, isInt_bool, isInt_int, isInt_str, isInt_list, isInt_tuple, isInt_dict, isBol_none, isBol_bool, isBol_int, isBol_str, isBol_list, isBol_tuple, isBol_dict, Option.bind_some, Option.bind_none, if_true, if_false, id_eq, Int.cast_ofNat_Int, eq_self]; exact rfl, _, rfl⟩
        | false => exact .inr ⟨by simp [strB, hm], by simp only [e_bind_ok, e_stm_ok, e_then_nx, e_then_rt, e_then_bk, e_then_ct, e_optR, e_optB, e_optV, e_optT, e_seq, e_pass, e_asg, e_put, e_ret, e_if, e_var, e_d, e_bin, e_un, e_ix, e_tOf, e_tOfB, e_and, e_or, e_tnot, e_vand, e_vor, e_vnot, e_vif, e_set, e_par2, e_park2, e_park3, e_retref, e_nlst, e_nil, e_cons, e_cb, e_call, e_isi, e_tup, e_lst, e_dats_nil, e_dats_cons, e_for, e_rng, e_sqi, e_sti, seqO_t, strO_s, e_new, e_eOfN, e_sl, e_onone, e_osome, s_dat, s_ref, s_scr, s_nil, s_cons, e_fn, e_to_rt, e_to_nx, e_o1, Option.map_some, List.getElem?_cons_zero, List.getElem?_cons_succ, List.map_cons, List.map_nil, List.cons_append, List.nil_append, List.replicate, List.set_cons_zero, List.set_cons_succ, List.length_cons, List.length_nil, if_true, v_lt, v_gt, v_le, v_ge, v_eq, v_ne, v_add, v_sub, dB, decide_eq_true_eq, Bool.and_self, Bool.false_eq_true, if_false, Nat.reduceAdd, Nat.reduceEqDiff, and_self, true_and, decide_true, decide_false, Bool.not_true, Bool.not_false, e_expr, e_chain, e_vorT, e_vandT, e_vnotT, e_tyis, e_m0, m0K_s, e_join2, joinK_s, tru_bool, tru_tup, dB_bool, e_nrep, tyD_dat, isa_tuple, isa_str, isa_int, isa_bool, ty_int, isTup_none, isTup_bool, isTup_int, isTup_str, isTup_list, isTup_tuple, isTup_dict, isStr_none, isStr_bool, isStr_int, isStr_str, isStr_list, isStr_tuple, isStr_dict, isInt_none, isInt_bool, isInt_int, isInt_str, isInt_list, isInt_tuple, isInt_dict, isBol_none, isBol_bool, isBol_int, isBol_str, isBol_list, isBol_tuple, isBol_dict, Option.bind_some, Option.bind_none, if_true, if_false, id_eq, Int.cast_ofNat_Int, eq_self]⟩)
    rcases key with ⟨a', rho', e1, e2, x3, rfl⟩ | ⟨e1, e2⟩
    · simp only [e_bind_ok, e_stm_ok, e_then_nx, e_then_rt, e_then_bk, e_then_ct, e_optR, e_optB, e_optV, e_optT, e_seq, e_pass, e_asg, e_put, e_ret, e_if, e_var, e_d, e_bin, e_un, e_ix, e_tOf, e_tOfB, e_and, e_or, e_tnot, e_vand, e_vor, e_vnot, e_vif, e_set, e_par2, e_park2, e_park3, e_retref, e_nlst, e_nil, e_cons, e_cb, e_call, e_isi, e_tup, e_lst, e_dats_nil, e_dats_cons, e_for, e_rng, e_sqi, e_sti, seqO_t, strO_s, e_new, e_eOfN, e_sl, e_onone, e_osome, s_dat, s_ref, s_scr, s_nil, s_cons, e_fn, e_to_rt, e_to_nx, e_o1, Option.map_some, List.getElem?_cons_zero, List.getElem?_cons_succ, List.map_cons, List.map_nil, List.cons_append, List.nil_append, List.replicate, List.set_cons_zero, List.set_cons_succ, List.length_cons, List.length_nil, if_true, v_lt, v_gt, v_le, v_ge, v_eq, v_ne, v_add, v_sub, dB, decide_eq_true_eq, Bool.and_self, Bool.false_eq_true, if_false, Nat.reduceAdd, Nat.reduceEqDiff, and_self, true_and, decide_true, decide_false, Bool.not_true, Bool.not_false, e_expr, e_chain, e_vorT, e_vandT, e_vnotT, e_tyis, e_m0, m0K_s, e_join2, joinK_s, tru_bool, tru_tup, dB_bool, e_nrep, tyD_dat, isa_tuple, isa_str, isa_int, isa_bool, ty_int, isTup_none, isTup_bool, isTup_int, isTup_str, isTup_list, isTup_tuple, isTup_dict, isStr_none, isStr_bool, isStr_int, isStr_str, isStr_list, isStr_tuple, isStr_dict, isInt_none, isInt_bool, isInt_int, isInt_str, isInt_list, isInt_tuple, isInt_dict, isBol_none, isBol_bool, isBol_int, isBol_str, isBol_list, isBol_tuple, isBol_dict, Option.bind_some, Option.bind_none, if_true, if_false, id_eq, Int.cast_ofNat_Int, eq_self, e2]
      simp only [wordB]
      rw [← foldO_all, e1]
      rfl
    · simp only [e_bind_ok, e_stm_ok, e_then_nx, e_then_rt, e_then_bk, e_then_ct, e_optR, e_optB, e_optV, e_optT, e_seq, e_pass, e_asg, e_put, e_ret, e_if, e_var, e_d, e_bin, e_un, e_ix, e_tOf, e_tOfB, e_and, e_or, e_tnot, e_vand, e_vor, e_vnot, e_vif, e_set, e_par2, e_park2, e_park3, e_retref, e_nlst, e_nil, e_cons, e_cb, e_call, e_isi, e_tup, e_lst, e_dats_nil, e_dats_cons, e_for, e_rng, e_sqi, e_sti, seqO_t, strO_s, e_new, e_eOfN, e_sl, e_onone, e_osome, s_dat, s_ref, s_scr, s_nil, s_cons, e_fn, e_to_rt, e_to_nx, e_o1, Option.map_some, List.getElem?_cons_zero, List.getElem?_cons_succ, List.map_cons, List.map_nil, List.cons_append, List.nil_append, List.replicate, List.set_cons_zero, List.set_cons_succ, List.length_cons, List.length_nil, if_true, v_lt, v_gt, v_le, v_ge, v_eq, v_ne, v_add, v_sub, dB, decide_eq_true_eq, Bool.and_self, Bool.false_eq_true, if_false, Nat.reduceAdd, Nat.reduceEqDiff, and_self, true_and, decide_true, decide_false, Bool.not_true, Bool.not_false, e_expr, e_chain, e_vorT, e_vandT, e_vnotT, e_tyis, e_m0, m0K_s, e_join2, joinK_s, tru_bool, tru_tup, dB_bool, e_nrep, tyD_dat, isa_tuple, isa_str, isa_int, isa_bool, ty_int, isTup_none, isTup_bool, isTup_int, isTup_str, isTup_list, isTup_tuple, isTup_dict, isStr_none, isStr_bool, isStr_int, isStr_str, isStr_list, isStr_tuple, isStr_dict, isInt_none, isInt_bool, isInt_int, isInt_str, isInt_list, isInt_tuple, isInt_dict, isBol_none, isBol_bool, isBol_int, isBol_str, isBol_list, isBol_tuple, isBol_dict, Option.bind_some, Option.bind_none, if_true, if_false, id_eq, Int.cast_ofNat_Int, eq_self, e2]
      simp only [wordB]
      rw [← foldO_all, e1]
      rfl
end L3.LK23

/-! B23 -/
namespace L3.LK23
open PySem PySem.Spec PyProof.Rows L2 L3
structure BsOk (ls : List Str) (bs : List Blk) : Prop where
  ok : ∀ b ∈ bs, KOk ls b
  len : bs.length ≤ 1000
  word : ∀ b ∈ bs, b.1.length ≤ 1000
theorem encK0 {b : Blk} {S : Store} : ixD S (.dat (encK b)) (.dat (.int 0)) = some (.dat (tupS b.1)) := rfl
theorem encK1 {b : Blk} {S : Store} : ixD S (.dat (encK b)) (.dat (.int 1)) = some (.dat (.int (b.2 : Nat))) := rfl
theorem put_K {i j : Nat} {b : Blk} {rho : Sl} : put (.tup [.nm i, .nm j]) (.dat (encK b)) rho = some ((rho.set i (some (.dat (tupS b.1)))).set j (some (.dat (.int (b.2 : Nat))))) := put_t2
theorem mul_K {a b : Nat} (ha : a ≤ 1000) (hb : b ≤ 10 ^ 30) : mulD (.dat (.int (a : Nat))) (.dat (.int (b : Nat))) = some (.dat (.int ((a * b : Nat) : Int))) := by
  rw [v_mulb (by omega) (by have : (10 : Int) ^ 30 < 10 ^ 700 := by decide +kernel
                            omega) (by omega) (by have : ((10 ^ 30 : Nat) : Int) < 10 ^ 700 := by decide +kernel
                                                  omega)]
  push_cast
  rfl
theorem is_block_ok {ls : List Str} {b : Blk} (h : KOk ls b) (S : Store) : f_is_block [.dat (tupS ls), .dat (encK b)] S = .ok (.dat (.bool true)) S := by
  unfold f_is_block m_is_block
  have e1 : f_is_tuple_of [.dat (encK b), .dat (.int 2)] S = .ok (.dat (.bool true)) S := tuple_of_ok (encK b) 2 S
  have e2 : f_is_whole_within [.dat (.int (b.2 : Nat)), .dat (.int 1), .dat k_MAX_TIMES] S = .ok (.dat (.bool true)) S := by
    have h1 := h.pos
    have h2 := h.most
    have : wholeB (.int (b.2 : Nat)) 1 (10 ^ 30) = true := by
      simp only [wholeB]
      rw [decide_eq_true (by omega), decide_eq_true (by omega)]
      rfl
    have ek : k_MAX_TIMES = .int (10 ^ 30) := congrArg PyData.int (by decide +kernel)
    rw [ek, whole_ok (.int (b.2 : Nat)) 1 (10 ^ 30) S, this]
  have e3 : f_is_word [.dat (tupS ls), .dat (tupS b.1)] S = .ok (.dat (.bool true)) S := by
    rw [is_word_ok (tupS ls) (tupS b.1) _ S (cont_tup ls)]
    rw [show wordB (fun x => decide (x ∈ ls)) (tupS b.1) = true from strs_word fun x hx => decide_eq_true (h.mem x hx)]
  have h0 : (0 : Int) < b.1.length := by have := h.ne; omega
  simp only [e_bind_ok, e_stm_ok, e_then_nx, e_then_rt, e_then_bk, e_then_ct, e_optR, e_optB, e_optV, e_optT, e_seq, e_pass, e_asg, e_put, e_ret, e_if, e_var, e_d, e_bin, e_un, e_ix, e_tOf, e_tOfB, e_and, e_or, e_tnot, e_vand, e_vor, e_vnot, e_vif, e_set, e_par2, e_park2, e_park3, e_retref, e_nlst, e_nil, e_cons, e_cb, e_call, e_isi, e_tup, e_lst, e_dats_nil, e_dats_cons, e_for, e_rng, e_sqi, e_sti, seqO_t, strO_s, e_new, e_eOfN, e_sl, e_onone, e_osome, s_dat, s_ref, s_scr, s_nil, s_cons, e_fn, e_to_rt, e_to_nx, e_o1, Option.map_some, List.getElem?_cons_zero, List.getElem?_cons_succ, List.map_cons, List.map_nil, List.cons_append, List.nil_append, List.replicate, List.set_cons_zero, List.set_cons_succ, List.length_cons, List.length_nil, if_true, v_lt, v_gt, v_le, v_ge, v_eq, v_ne, v_add, v_sub, dB, decide_eq_true_eq, Bool.and_self, Bool.false_eq_true, if_false, Nat.reduceAdd, Nat.reduceEqDiff, and_self, true_and, decide_true, decide_false, Bool.not_true, Bool.not_false, e_expr, e_chain, e_vorT, e_vandT, e_vnotT, e_tyis, e_m0, m0K_s, e_join2, joinK_s, tru_bool, tru_tup, dB_bool, e_nrep, tyD_dat, isa_tuple, isa_str, isa_int, isa_bool, ty_int, isTup_none, isTup_bool, isTup_int, isTup_str, isTup_list, isTup_tuple, isTup_dict, isStr_none, isStr_bool, isStr_int, isStr_str, isStr_list, isStr_tuple, isStr_dict, isInt_none, isInt_bool, isInt_int, isInt_str, isInt_list, isInt_tuple, isInt_dict, isBol_none, isBol_bool, isBol_int, isBol_str, isBol_list, isBol_tuple, isBol_dict, Option.bind_some, Option.bind_none, if_true, if_false, id_eq, Int.cast_ofNat_Int, eq_self, e1, encK1, e2, encK0, e3, len_tupS, h0]
theorem is_blocks_ok {ls : List Str} (hl : labelsB (tupS ls) = true) (hs : Sm (tupS ls)) {bs : List Blk} (h : BsOk ls bs) (S : Store) : f_is_blocks [.dat (tupS ls), .dat (bsD bs)] S = .ok (.dat (.bool true)) S := by
  unfold f_is_blocks m_is_blocks
  have e1 : f_require_labels [.dat (tupS ls)] S = .ok (.dat .none) S := by
    unfold f_require_labels m_require_labels
    simp only [e_bind_ok, e_stm_ok, e_then_nx, e_then_rt, e_then_bk, e_then_ct, e_optR, e_optB, e_optV, e_optT, e_seq, e_pass, e_asg, e_put, e_ret, e_if, e_var, e_d, e_bin, e_un, e_ix, e_tOf, e_tOfB, e_and, e_or, e_tnot, e_vand, e_vor, e_vnot, e_vif, e_set, e_par2, e_park2, e_park3, e_retref, e_nlst, e_nil, e_cons, e_cb, e_call, e_isi, e_tup, e_lst, e_dats_nil, e_dats_cons, e_for, e_rng, e_sqi, e_sti, seqO_t, strO_s, e_new, e_eOfN, e_sl, e_onone, e_osome, s_dat, s_ref, s_scr, s_nil, s_cons, e_fn, e_to_rt, e_to_nx, e_o1, Option.map_some, List.getElem?_cons_zero, List.getElem?_cons_succ, List.map_cons, List.map_nil, List.cons_append, List.nil_append, List.replicate, List.set_cons_zero, List.set_cons_succ, List.length_cons, List.length_nil, if_true, v_lt, v_gt, v_le, v_ge, v_eq, v_ne, v_add, v_sub, dB, decide_eq_true_eq, Bool.and_self, Bool.false_eq_true, if_false, Nat.reduceAdd, Nat.reduceEqDiff, and_self, true_and, decide_true, decide_false, Bool.not_true, Bool.not_false, e_expr, e_chain, e_vorT, e_vandT, e_vnotT, e_tyis, e_m0, m0K_s, e_join2, joinK_s, tru_bool, tru_tup, dB_bool, e_nrep, tyD_dat, isa_tuple, isa_str, isa_int, isa_bool, ty_int, isTup_none, isTup_bool, isTup_int, isTup_str, isTup_list, isTup_tuple, isTup_dict, isStr_none, isStr_bool, isStr_int, isStr_str, isStr_list, isStr_tuple, isStr_dict, isInt_none, isInt_bool, isInt_int, isInt_str, isInt_list, isInt_tuple, isInt_dict, isBol_none, isBol_bool, isBol_int, isBol_str, isBol_list, isBol_tuple, isBol_dict, Option.bind_some, Option.bind_none, if_true, if_false, id_eq, Int.cast_ofNat_Int, eq_self, is_labels_ok (tupS ls) S hs, hl]
  have ei : isTup (bsD bs) = true := rfl
  have e2 : nLc (iSeq (eVar 1)) (.nm 2) tTrue le_is_blocks_1 [2] [some (.dat (tupS ls)), some (.dat (bsD bs)), none] S = .ok (bs.map fun _ => .bool true) S :=
    nlc_map bs encK (fun _ => .bool true) rfl rfl rfl (line_small (by have := h.len; omega)) fun b hb => ⟨_, put_nm, by
      unfold le_is_blocks_1
      rw [show wipeD [some (D.dat (tupS ls)), some (D.dat (bsD bs)), none] [2] = [some (D.dat (tupS ls)), some (D.dat (bsD bs)), none] from rfl]
      simp only [e_bind_ok, e_stm_ok, e_then_nx, e_then_rt, e_then_bk, e_then_ct, e_optR, e_optB, e_optV, e_optT, e_seq, e_pass, e_asg, e_put, e_ret, e_if, e_var, e_d, e_bin, e_un, e_ix, e_tOf, e_tOfB, e_and, e_or, e_tnot, e_vand, e_vor, e_vnot, e_vif, e_set, e_par2, e_park2, e_park3, e_retref, e_nlst, e_nil, e_cons, e_cb, e_call, e_isi, e_tup, e_lst, e_dats_nil, e_dats_cons, e_for, e_rng, e_sqi, e_sti, seqO_t, strO_s, e_new, e_eOfN, e_sl, e_onone, e_osome, s_dat, s_ref, s_scr, s_nil, s_cons, e_fn, e_to_rt, e_to_nx, e_o1, Option.map_some, List.getElem?_cons_zero, List.getElem?_cons_succ, List.map_cons, List.map_nil, List.cons_append, List.nil_append, List.replicate, List.set_cons_zero, List.set_cons_succ, List.length_cons, List.length_nil, if_true, v_lt, v_gt, v_le, v_ge, v_eq, v_ne, v_add, v_sub, dB, decide_eq_true_eq, Bool.and_self, Bool.false_eq_true, if_false, Nat.reduceAdd, Nat.reduceEqDiff, and_self, true_and, decide_true, decide_false, Bool.not_true, Bool.not_false, e_expr, e_chain, e_vorT, e_vandT, e_vnotT, e_tyis, e_m0, m0K_s, e_join2, joinK_s, tru_bool, tru_tup, dB_bool, e_nrep, tyD_dat, isa_tuple, isa_str, isa_int, isa_bool, ty_int, isTup_none, isTup_bool, isTup_int, isTup_str, isTup_list, isTup_tuple, isTup_dict, isStr_none, isStr_bool, isStr_int, isStr_str, isStr_list, isStr_tuple, isStr_dict, isInt_none, isInt_bool, isInt_int, isInt_str, isInt_list, isInt_tuple, isInt_dict, isBol_none, isBol_bool, isBol_int, isBol_str, isBol_list, isBol_tuple, isBol_dict, Option.bind_some, Option.bind_none, if_true, if_false, id_eq, Int.cast_ofNat_Int, eq_self, is_block_ok (h.ok b hb) S]⟩
  have e3 : allD (.dat (.list (bs.map fun _ => PyData.bool true))) = some (.dat (.bool true)) := by
    have : ∀ l : List Blk, asBools (l.map fun _ => PyData.bool true) = some (l.map fun _ => true) := fun l => by
      induction l with
      | nil => rfl
      | cons a l ih => simp only [List.map_cons, asBools, ih]; rfl
    unfold allD
    show ((asBools (bs.map fun _ => PyData.bool true)).map fun bs => D.dat (.bool (bs.all id))) = _
    rw [this]
    simp
  simp only [e_bind_ok, e_stm_ok, e_then_nx, e_then_rt, e_then_bk, e_then_ct, e_optR, e_optB, e_optV, e_optT, e_seq, e_pass, e_asg, e_put, e_ret, e_if, e_var, e_d, e_bin, e_un, e_ix, e_tOf, e_tOfB, e_and, e_or, e_tnot, e_vand, e_vor, e_vnot, e_vif, e_set, e_par2, e_park2, e_park3, e_retref, e_nlst, e_nil, e_cons, e_cb, e_call, e_isi, e_tup, e_lst, e_dats_nil, e_dats_cons, e_for, e_rng, e_sqi, e_sti, seqO_t, strO_s, e_new, e_eOfN, e_sl, e_onone, e_osome, s_dat, s_ref, s_scr, s_nil, s_cons, e_fn, e_to_rt, e_to_nx, e_o1, Option.map_some, List.getElem?_cons_zero, List.getElem?_cons_succ, List.map_cons, List.map_nil, List.cons_append, List.nil_append, List.replicate, List.set_cons_zero, List.set_cons_succ, List.length_cons, List.length_nil, if_true, v_lt, v_gt, v_le, v_ge, v_eq, v_ne, v_add, v_sub, dB, decide_eq_true_eq, Bool.and_self, Bool.false_eq_true, if_false, Nat.reduceAdd, Nat.reduceEqDiff, and_self, true_and, decide_true, decide_false, Bool.not_true, Bool.not_false, e_expr, e_chain, e_vorT, e_vandT, e_vnotT, e_tyis, e_m0, m0K_s, e_join2, joinK_s, tru_bool, tru_tup, dB_bool, e_nrep, tyD_dat, isa_tuple, isa_str, isa_int, isa_bool, ty_int, isTup_none, isTup_bool, isTup_int, isTup_str, isTup_list, isTup_tuple, isTup_dict, isStr_none, isStr_bool, isStr_int, isStr_str, isStr_list, isStr_tuple, isStr_dict, isInt_none, isInt_bool, isInt_int, isInt_str, isInt_list, isInt_tuple, isInt_dict, isBol_none, isBol_bool, isBol_int, isBol_str, isBol_list, isBol_tuple, isBol_dict, Option.bind_some, Option.bind_none, if_true, if_false, id_eq, Int.cast_ofNat_Int, eq_self, e1, ei, e2, e3]
theorem require_blocks_ok {ls : List Str} (hl : labelsB (tupS ls) = true) (hs : Sm (tupS ls)) {bs : List Blk} (h : BsOk ls bs) (S : Store) : f_require_blocks [.dat (tupS ls), .dat (bsD bs)] S = .ok (.dat .none) S := by
  unfold f_require_blocks m_require_blocks
  simp only [e_bind_ok, e_stm_ok, e_then_nx, e_then_rt, e_then_bk, e_then_ct, e_optR, e_optB, e_optV, e_optT, e_seq, e_pass, e_asg, e_put, e_ret, e_if, e_var, e_d, e_bin, e_un, e_ix, e_tOf, e_tOfB, e_and, e_or, e_tnot, e_vand, e_vor, e_vnot, e_vif, e_set, e_par2, e_park2, e_park3, e_retref, e_nlst, e_nil, e_cons, e_cb, e_call, e_isi, e_tup, e_lst, e_dats_nil, e_dats_cons, e_for, e_rng, e_sqi, e_sti, seqO_t, strO_s, e_new, e_eOfN, e_sl, e_onone, e_osome, s_dat, s_ref, s_scr, s_nil, s_cons, e_fn, e_to_rt, e_to_nx, e_o1, Option.map_some, List.getElem?_cons_zero, List.getElem?_cons_succ, List.map_cons, List.map_nil, List.cons_append, List.nil_append, List.replicate, List.set_cons_zero, List.set_cons_succ, List.length_cons, List.length_nil, if_true, v_lt, v_gt, v_le, v_ge, v_eq, v_ne, v_add, v_sub, dB, decide_eq_true_eq, Bool.and_self, Bool.false_eq_true, if_false, Nat.reduceAdd, Nat.reduceEqDiff, and_self, true_and, decide_true, decide_false, Bool.not_true, Bool.not_false, e_expr, e_chain, e_vorT, e_vandT, e_vnotT, e_tyis, e_m0, m0K_s, e_join2, joinK_s, tru_bool, tru_tup, dB_bool, e_nrep, tyD_dat, isa_tuple, isa_str, isa_int, isa_bool, ty_int, isTup_none, isTup_bool, isTup_int, isTup_str, isTup_list, isTup_tuple, isTup_dict, isStr_none, isStr_bool, isStr_int, isStr_str, isStr_list, isStr_tuple, isStr_dict, isInt_none, isInt_bool, isInt_int, isInt_str, isInt_list, isInt_tuple, isInt_dict, isBol_none, isBol_bool, isBol_int, isBol_str, isBol_list, isBol_tuple, isBol_dict, Option.bind_some, Option.bind_none, if_true, if_false, id_eq, Int.cast_ofNat_Int, eq_self, is_blocks_ok hl hs h S]
theorem require_number_ok (n : Nat) (S : Store) : f_require_number [.dat (.int (n : Nat))] S = .ok (.dat .none) S := by
  unfold f_require_number m_require_number
  have e1 : f_is_whole [.dat (.int (n : Nat))] S = .ok (.dat (.bool true)) S := by
    unfold f_is_whole m_is_whole
    simp only [e_bind_ok, e_stm_ok, e_then_nx, e_then_rt, e_then_bk, e_then_ct, e_optR, e_optB, e_optV, e_optT, e_seq, e_pass, e_asg, e_put, e_ret, e_if, e_var, e_d, e_bin, e_un, e_ix, e_tOf, e_tOfB, e_and, e_or, e_tnot, e_vand, e_vor, e_vnot, e_vif, e_set, e_par2, e_park2, e_park3, e_retref, e_nlst, e_nil, e_cons, e_cb, e_call, e_isi, e_tup, e_lst, e_dats_nil, e_dats_cons, e_for, e_rng, e_sqi, e_sti, seqO_t, strO_s, e_new, e_eOfN, e_sl, e_onone, e_osome, s_dat, s_ref, s_scr, s_nil, s_cons, e_fn, e_to_rt, e_to_nx, e_o1, Option.map_some, List.getElem?_cons_zero, List.getElem?_cons_succ, List.map_cons, List.map_nil, List.cons_append, List.nil_append, List.replicate, List.set_cons_zero, List.set_cons_succ, List.length_cons, List.length_nil, if_true, v_lt, v_gt, v_le, v_ge, v_eq, v_ne, v_add, v_sub, dB, decide_eq_true_eq, Bool.and_self, Bool.false_eq_true, if_false, Nat.reduceAdd, Nat.reduceEqDiff, and_self, true_and, decide_true, decide_false, Bool.not_true, Bool.not_false, e_expr, e_chain, e_vorT, e_vandT, e_vnotT, e_tyis, e_m0, m0K_s, e_join2, joinK_s, tru_bool, tru_tup, dB_bool, e_nrep, tyD_dat, isa_tuple, isa_str, isa_int, isa_bool, ty_int, isTup_none, isTup_bool, isTup_int, isTup_str, isTup_list, isTup_tuple, isTup_dict, isStr_none, isStr_bool, isStr_int, isStr_str, isStr_list, isStr_tuple, isStr_dict, isInt_none, isInt_bool, isInt_int, isInt_str, isInt_list, isInt_tuple, isInt_dict, isBol_none, isBol_bool, isBol_int, isBol_str, isBol_list, isBol_tuple, isBol_dict, Option.bind_some, Option.bind_none, if_true, if_false, id_eq, Int.cast_ofNat_Int, eq_self]
  have : (0 : Int) ≤ n := by omega
  simp only [e_bind_ok, e_stm_ok, e_then_nx, e_then_rt, e_then_bk, e_then_ct, e_optR, e_optB, e_optV, e_optT, e_seq, e_pass, e_asg, e_put, e_ret, e_if, e_var, e_d, e_bin, e_un, e_ix, e_tOf, e_tOfB, e_and, e_or, e_tnot, e_vand, e_vor, e_vnot, e_vif, e_set, e_par2, e_park2, e_park3, e_retref, e_nlst, e_nil, e_cons, e_cb, e_call, e_isi, e_tup, e_lst, e_dats_nil, e_dats_cons, e_for, e_rng, e_sqi, e_sti, seqO_t, strO_s, e_new, e_eOfN, e_sl, e_onone, e_osome, s_dat, s_ref, s_scr, s_nil, s_cons, e_fn, e_to_rt, e_to_nx, e_o1, Option.map_some, List.getElem?_cons_zero, List.getElem?_cons_succ, List.map_cons, List.map_nil, List.cons_append, List.nil_append, List.replicate, List.set_cons_zero, List.set_cons_succ, List.length_cons, List.length_nil, if_true, v_lt, v_gt, v_le, v_ge, v_eq, v_ne, v_add, v_sub, dB, decide_eq_true_eq, Bool.and_self, Bool.false_eq_true, if_false, Nat.reduceAdd, Nat.reduceEqDiff, and_self, true_and, decide_true, decide_false, Bool.not_true, Bool.not_false, e_expr, e_chain, e_vorT, e_vandT, e_vnotT, e_tyis, e_m0, m0K_s, e_join2, joinK_s, tru_bool, tru_tup, dB_bool, e_nrep, tyD_dat, isa_tuple, isa_str, isa_int, isa_bool, ty_int, isTup_none, isTup_bool, isTup_int, isTup_str, isTup_list, isTup_tuple, isTup_dict, isStr_none, isStr_bool, isStr_int, isStr_str, isStr_list, isStr_tuple, isStr_dict, isInt_none, isInt_bool, isInt_int, isInt_str, isInt_list, isInt_tuple, isInt_dict, isBol_none, isBol_bool, isBol_int, isBol_str, isBol_list, isBol_tuple, isBol_dict, Option.bind_some, Option.bind_none, if_true, if_false, id_eq, Int.cast_ofNat_Int, eq_self, e1, this]
theorem sum_K : ∀ bs : List Blk, ((bs.map fun b => ((b.1.length * b.2 : Nat) : Int)).sum) = ((lenK bs : Nat) : Int)
  | [] => rfl
  | b :: r => by rw [List.map_cons, List.sum_cons, sum_K r]; simp only [lenK]; push_cast; rfl
theorem sumD_K (bs : List Blk) : sumD (.dat (.list (bs.map fun b => .int ((b.1.length * b.2 : Nat) : Int)))) = some (.dat (.int (lenK bs : Nat))) := by
  have : ∀ l : List Blk, asInts (l.map fun b => PyData.int ((b.1.length * b.2 : Nat) : Int)) = some (l.map fun b => ((b.1.length * b.2 : Nat) : Int)) := fun l => by
    induction l with
    | nil => rfl
    | cons a l ih => simp only [List.map_cons, asInts, ih]; rfl
  unfold sumD
  show ((asInts (bs.map fun b => PyData.int ((b.1.length * b.2 : Nat) : Int))).map fun ns => D.dat (.int ns.sum)) = _
  rw [this, Option.map_some, sum_K]
theorem length_of_ok {ls : List Str} {bs : List Blk} (h : BsOk ls bs) (S : Store) : f_length_of [.dat (bsD bs)] S = .ok (.dat (.int (lenK bs : Nat))) S := by
  unfold f_length_of m_length_of
  have e2 : nLc (iSeq (eVar 0)) (.tup [.nm 1, .nm 2]) tTrue le_length_of_1 [1, 2] [some (.dat (bsD bs)), none, none] S = .ok (bs.map fun b => .int ((b.1.length * b.2 : Nat) : Int)) S :=
    nlc_map bs encK _ rfl rfl rfl (line_small (by have := h.len; omega)) fun b hb => ⟨_, put_K, by
      unfold le_length_of_1
      rw [show wipeD [some (D.dat (bsD bs)), none, none] [1, 2] = [some (D.dat (bsD bs)), none, none] from rfl]
      simp only [e_bind_ok, e_stm_ok, e_then_nx, e_then_rt, e_then_bk, e_then_ct, e_optR, e_optB, e_optV, e_optT, e_seq, e_pass, e_asg, e_put, e_ret, e_if, e_var, e_d, e_bin, e_un, e_ix, e_tOf, e_tOfB, e_and, e_or, e_tnot, e_vand, e_vor, e_vnot, e_vif, e_set, e_par2, e_park2, e_park3, e_retref, e_nlst, e_nil, e_cons, e_cb, e_call, e_isi, e_tup, e_lst, e_dats_nil, e_dats_cons, e_for, e_rng, e_sqi, e_sti, seqO_t, strO_s, e_new, e_eOfN, e_sl, e_onone, e_osome, s_dat, s_ref, s_scr, s_nil, s_cons, e_fn, e_to_rt, e_to_nx, e_o1, Option.map_some, List.getElem?_cons_zero, List.getElem?_cons_succ, List.map_cons, List.map_nil, List.cons_append, List.nil_append, List.replicate, List.set_cons_zero, List.set_cons_succ, List.length_cons, List.length_nil, if_true, v_lt, v_gt, v_le, v_ge, v_eq, v_ne, v_add, v_sub, dB, decide_eq_true_eq, Bool.and_self, Bool.false_eq_true, if_false, Nat.reduceAdd, Nat.reduceEqDiff, and_self, true_and, decide_true, decide_false, Bool.not_true, Bool.not_false, e_expr, e_chain, e_vorT, e_vandT, e_vnotT, e_tyis, e_m0, m0K_s, e_join2, joinK_s, tru_bool, tru_tup, dB_bool, e_nrep, tyD_dat, isa_tuple, isa_str, isa_int, isa_bool, ty_int, isTup_none, isTup_bool, isTup_int, isTup_str, isTup_list, isTup_tuple, isTup_dict, isStr_none, isStr_bool, isStr_int, isStr_str, isStr_list, isStr_tuple, isStr_dict, isInt_none, isInt_bool, isInt_int, isInt_str, isInt_list, isInt_tuple, isInt_dict, isBol_none, isBol_bool, isBol_int, isBol_str, isBol_list, isBol_tuple, isBol_dict, Option.bind_some, Option.bind_none, if_true, if_false, id_eq, Int.cast_ofNat_Int, eq_self, len_tupS, mul_K (h.word b hb) (h.ok b hb).most]⟩
  simp only [e_bind_ok, e_stm_ok, e_then_nx, e_then_rt, e_then_bk, e_then_ct, e_optR, e_optB, e_optV, e_optT, e_seq, e_pass, e_asg, e_put, e_ret, e_if, e_var, e_d, e_bin, e_un, e_ix, e_tOf, e_tOfB, e_and, e_or, e_tnot, e_vand, e_vor, e_vnot, e_vif, e_set, e_par2, e_park2, e_park3, e_retref, e_nlst, e_nil, e_cons, e_cb, e_call, e_isi, e_tup, e_lst, e_dats_nil, e_dats_cons, e_for, e_rng, e_sqi, e_sti, seqO_t, strO_s, e_new, e_eOfN, e_sl, e_onone, e_osome, s_dat, s_ref, s_scr, s_nil, s_cons, e_fn, e_to_rt, e_to_nx, e_o1, Option.map_some, List.getElem?_cons_zero, List.getElem?_cons_succ, List.map_cons, List.map_nil, List.cons_append, List.nil_append, List.replicate, List.set_cons_zero, List.set_cons_succ, List.length_cons, List.length_nil, if_true, v_lt, v_gt, v_le, v_ge, v_eq, v_ne, v_add, v_sub, dB, decide_eq_true_eq, Bool.and_self, Bool.false_eq_true, if_false, Nat.reduceAdd, Nat.reduceEqDiff, and_self, true_and, decide_true, decide_false, Bool.not_true, Bool.not_false, e_expr, e_chain, e_vorT, e_vandT, e_vnotT, e_tyis, e_m0, m0K_s, e_join2, joinK_s, tru_bool, tru_tup, dB_bool, e_nrep, tyD_dat, isa_tuple, isa_str, isa_int, isa_bool, ty_int, isTup_none, isTup_bool, isTup_int, isTup_str, isTup_list, isTup_tuple, isTup_dict, isStr_none, isStr_bool, isStr_int, isStr_str, isStr_list, isStr_tuple, isStr_dict, isInt_none, isInt_bool, isInt_int, isInt_str, isInt_list, isInt_tuple, isInt_dict, isBol_none, isBol_bool, isBol_int, isBol_str, isBol_list, isBol_tuple, isBol_dict, Option.bind_some, Option.bind_none, if_true, if_false, id_eq, Int.cast_ofNat_Int, eq_self, e2, sumD_K]
theorem law_length_ok {ls : List Str} {bs : List Blk} (h : BsOk ls bs) (S : Store) : f__law_length [.dat (bsD bs)] S = .ok (.dat (.int (lenK bs : Nat))) S := length_of_ok h S
/-- a loop that takes the blocks' lengths off -/
theorem lab_loop {body : SF} {ls : List Str} (x0 : Option D) (S : Store) (hb : ∀ (b : Blk) (n : Nat), KOk ls b → b.1.length ≤ 1000 → body [x0, some (.dat (.int (n : Nat))), some (.dat (tupS b.1)), some (.dat (.int (b.2 : Nat)))] S
      = if n < b.1.length * b.2 then .rt (.dat (.str (b.1.getD (n % b.1.length) ""))) S else .nx [x0, some (.dat (.int ((n - b.1.length * b.2 : Nat) : Int))), some (.dat (tupS b.1)), some (.dat (.int (b.2 : Nat)))] S) :
    ∀ (bs : List Blk) (n : Nat) (x2 x3 : Option D), (∀ b ∈ bs, KOk ls b) → (∀ b ∈ bs, b.1.length ≤ 1000) →
      (n < lenK bs ∧ forL (.tup [.nm 2, .nm 3]) body (bs.map encK) [x0, some (.dat (.int (n : Nat))), x2, x3] S = .rt (.dat (.str (labK bs n))) S) ∨
      (labK bs n = "" ∧ ∃ rho, forL (.tup [.nm 2, .nm 3]) body (bs.map encK) [x0, some (.dat (.int (n : Nat))), x2, x3] S = .nx rho S)
  | [], n, x2, x3, _, _ => .inr ⟨rfl, _, rfl⟩
  | b :: r, n, x2, x3, h, hw => by
    rw [List.map_cons, forL_cons, put_K, putK_some]
    simp only [List.set_cons_zero, List.set_cons_succ]
    rw [hb b n (h b List.mem_cons_self) (hw b List.mem_cons_self)]
    simp only [labK, lenK]
    by_cases hn : n < b.1.length * b.2
    · rw [if_pos hn, lp_rt, if_pos hn]
      exact .inl ⟨by omega, rfl⟩
    · rw [if_neg hn, lp_nx, if_neg hn]
      rcases lab_loop x0 S hb r (n - b.1.length * b.2) (some (.dat (tupS b.1))) (some (.dat (.int (b.2 : Nat)))) (fun y hy => h y (List.mem_cons_of_mem _ hy)) (fun y hy => hw y (List.mem_cons_of_mem _ hy)) with ⟨h1, e⟩ | e
      · exact .inl ⟨by omega, e⟩
      · exact .inr e
theorem lt_cast {a b : Nat} : decide ((a : Int) < (b : Int)) = decide (a < b) := by
  by_cases h : a < b
  · rw [decide_eq_true h, decide_eq_true (by omega)]
  · rw [decide_eq_false h, decide_eq_false (by omega)]
theorem lab_body {ls : List Str} (x0 : Option D) (S : Store) (b : Blk) (n : Nat) (h : KOk ls b) (hw : b.1.length ≤ 1000) : lb_label_of_1 [x0, some (.dat (.int (n : Nat))), some (.dat (tupS b.1)), some (.dat (.int (b.2 : Nat)))] S
      = if n < b.1.length * b.2 then .rt (.dat (.str (b.1.getD (n % b.1.length) ""))) S else .nx [x0, some (.dat (.int ((n - b.1.length * b.2 : Nat) : Int))), some (.dat (tupS b.1)), some (.dat (.int (b.2 : Nat)))] S := by
  unfold lb_label_of_1
  have h0 := h.ne
  have hm : modD (.dat (.int (n : Nat))) (.dat (.int (b.1.length : Nat))) = some (.dat (.int ((n % b.1.length : Nat) : Int))) := by
    rw [v_mod (by omega)]
    push_cast
    rfl
  have hlt := Nat.mod_lt n h0
  have hx : ixD S (.dat (tupS b.1)) (.dat (.int ((n % b.1.length : Nat) : Int))) = some (.dat (.str (b.1.getD (n % b.1.length) ""))) := ix_tupS (by rw [List.getD_eq_getElem?_getD, List.getElem?_eq_getElem hlt]; rfl)
  by_cases hn : n < b.1.length * b.2
  · rw [if_pos hn]
    simp only [e_bind_ok, e_stm_ok, e_then_nx, e_then_rt, e_then_bk, e_then_ct, e_optR, e_optB, e_optV, e_optT, e_seq, e_pass, e_asg, e_put, e_ret, e_if, e_var, e_d, e_bin, e_un, e_ix, e_tOf, e_tOfB, e_and, e_or, e_tnot, e_vand, e_vor, e_vnot, e_vif, e_set, e_par2, e_park2, e_park3, e_retref, e_nlst, e_nil, e_cons, e_cb, e_call, e_isi, e_tup, e_lst, e_dats_nil, e_dats_cons, e_for, e_rng, e_sqi, e_sti, seqO_t, strO_s, e_new, e_eOfN, e_sl, e_onone, e_osome, s_dat, s_ref, s_scr, s_nil, s_cons, e_fn, e_to_rt, e_to_nx, e_o1, Option.map_some, List.getElem?_cons_zero, List.getElem?_cons_succ, List.map_cons, List.map_nil, List.cons_append, List.nil_append, List.replicate, List.set_cons_zero, List.set_cons_succ, List.length_cons, List.length_nil, if_true, v_lt, v_gt, v_le, v_ge, v_eq, v_ne, v_add, v_sub, dB, decide_eq_true_eq, Bool.and_self, Bool.false_eq_true, if_false, Nat.reduceAdd, Nat.reduceEqDiff, and_self, true_and, decide_true, decide_false, Bool.not_true, Bool.not_false, e_expr, e_chain, e_vorT, e_vandT, e_vnotT, e_tyis, e_m0, m0K_s, e_join2, joinK_s, tru_bool, tru_tup, dB_bool, e_nrep, tyD_dat, isa_tuple, isa_str, isa_int, isa_bool, ty_int, isTup_none, isTup_bool, isTup_int, isTup_str, isTup_list, isTup_tuple, isTup_dict, isStr_none, isStr_bool, isStr_int, isStr_str, isStr_list, isStr_tuple, isStr_dict, isInt_none, isInt_bool, isInt_int, isInt_str, isInt_list, isInt_tuple, isInt_dict, isBol_none, isBol_bool, isBol_int, isBol_str, isBol_list, isBol_tuple, isBol_dict, Option.bind_some, Option.bind_none, if_true, if_false, id_eq, Int.cast_ofNat_Int, eq_self, len_tupS, mul_K hw h.most, lt_cast, decide_eq_true hn, hm, hx]
  · rw [if_neg hn]
    simp only [e_bind_ok, e_stm_ok, e_then_nx, e_then_rt, e_then_bk, e_then_ct, e_optR, e_optB, e_optV, e_optT, e_seq, e_pass, e_asg, e_put, e_ret, e_if, e_var, e_d, e_bin, e_un, e_ix, e_tOf, e_tOfB, e_and, e_or, e_tnot, e_vand, e_vor, e_vnot, e_vif, e_set, e_par2, e_park2, e_park3, e_retref, e_nlst, e_nil, e_cons, e_cb, e_call, e_isi, e_tup, e_lst, e_dats_nil, e_dats_cons, e_for, e_rng, e_sqi, e_sti, seqO_t, strO_s, e_new, e_eOfN, e_sl, e_onone, e_osome, s_dat, s_ref, s_scr, s_nil, s_cons, e_fn, e_to_rt, e_to_nx, e_o1, Option.map_some, List.getElem?_cons_zero, List.getElem?_cons_succ, List.map_cons, List.map_nil, List.cons_append, List.nil_append, List.replicate, List.set_cons_zero, List.set_cons_succ, List.length_cons, List.length_nil, if_true, v_lt, v_gt, v_le, v_ge, v_eq, v_ne, v_add, v_sub, dB, decide_eq_true_eq, Bool.and_self, Bool.false_eq_true, if_false, Nat.reduceAdd, Nat.reduceEqDiff, and_self, true_and, decide_true, decide_false, Bool.not_true, Bool.not_false, e_expr, e_chain, e_vorT, e_vandT, e_vnotT, e_tyis, e_m0, m0K_s, e_join2, joinK_s, tru_bool, tru_tup, dB_bool, e_nrep, tyD_dat, isa_tuple, isa_str, isa_int, isa_bool, ty_int, isTup_none, isTup_bool, isTup_int, isTup_str, isTup_list, isTup_tuple, isTup_dict, isStr_none, isStr_bool, isStr_int, isStr_str, isStr_list, isStr_tuple, isStr_dict, isInt_none, isInt_bool, isInt_int, isInt_str, isInt_list, isInt_tuple, isInt_dict, isBol_none, isBol_bool, isBol_int, isBol_str, isBol_list, isBol_tuple, isBol_dict, Option.bind_some, Option.bind_none, if_true, if_false, id_eq, Int.cast_ofNat_Int, eq_self, len_tupS, mul_K hw h.most, lt_cast, decide_eq_false hn]
    rw [show ((n : Nat) : Int) - ((b.1.length * b.2 : Nat) : Int) = ((n - b.1.length * b.2 : Nat) : Int) by omega]
theorem label_of_ok {ls : List Str} {bs : List Blk} (h : BsOk ls bs) (n : Nat) (S : Store) : f_label_of [.dat (bsD bs), .dat (.int (n : Nat))] S = .ok (.dat (.str (labK bs n))) S := by
  unfold f_label_of m_label_of
  have ei : seqO (.dat (bsD bs)) S = .ok (bs.map encK) S := rfl
  have ek : k_EMPTY = .str "" := rfl
  rcases lab_loop (body := lb_label_of_1) (some (.dat (bsD bs))) S (fun b n h hw => lab_body _ S b n h hw) bs n none none h.ok h.word with ⟨_, e⟩ | ⟨e0, rho, e⟩
  · simp only [e_bind_ok, e_stm_ok, e_then_nx, e_then_rt, e_then_bk, e_then_ct, e_optR, e_optB, e_optV, e_optT, e_seq, e_pass, e_asg, e_put, e_ret, e_if, e_var, e_d, e_bin, e_un, e_ix, e_tOf, e_tOfB, e_and, e_or, e_tnot, e_vand, e_vor, e_vnot, e_vif, e_set, e_par2, e_park2, e_park3, e_retref, e_nlst, e_nil, e_cons, e_cb, e_call, e_isi, e_tup, e_lst, e_dats_nil, e_dats_cons, e_for, e_rng, e_sqi, e_sti, seqO_t, strO_s, e_new, e_eOfN, e_sl, e_onone, e_osome, s_dat, s_ref, s_scr, s_nil, s_cons, e_fn, e_to_rt, e_to_nx, e_o1, Option.map_some, List.getElem?_cons_zero, List.getElem?_cons_succ, List.map_cons, List.map_nil, List.cons_append, List.nil_append, List.replicate, List.set_cons_zero, List.set_cons_succ, List.length_cons, List.length_nil, if_true, v_lt, v_gt, v_le, v_ge, v_eq, v_ne, v_add, v_sub, dB, decide_eq_true_eq, Bool.and_self, Bool.false_eq_true, if_false, Nat.reduceAdd, Nat.reduceEqDiff, and_self, true_and, decide_true, decide_false, Bool.not_true, Bool.not_false, e_expr, e_chain, e_vorT, e_vandT, e_vnotT, e_tyis, e_m0, m0K_s, e_join2, joinK_s, tru_bool, tru_tup, dB_bool, e_nrep, tyD_dat, isa_tuple, isa_str, isa_int, isa_bool, ty_int, isTup_none, isTup_bool, isTup_int, isTup_str, isTup_list, isTup_tuple, isTup_dict, isStr_none, isStr_bool, isStr_int, isStr_str, isStr_list, isStr_tuple, isStr_dict, isInt_none, isInt_bool, isInt_int, isInt_str, isInt_list, isInt_tuple, isInt_dict, isBol_none, isBol_bool, isBol_int, isBol_str, isBol_list, isBol_tuple, isBol_dict, Option.bind_some, Option.bind_none, if_true, if_false, id_eq, Int.cast_ofNat_Int, eq_self, ei, e]
  · simp only [e_bind_ok, e_stm_ok, e_then_nx, e_then_rt, e_then_bk, e_then_ct, e_optR, e_optB, e_optV, e_optT, e_seq, e_pass, e_asg, e_put, e_ret, e_if, e_var, e_d, e_bin, e_un, e_ix, e_tOf, e_tOfB, e_and, e_or, e_tnot, e_vand, e_vor, e_vnot, e_vif, e_set, e_par2, e_park2, e_park3, e_retref, e_nlst, e_nil, e_cons, e_cb, e_call, e_isi, e_tup, e_lst, e_dats_nil, e_dats_cons, e_for, e_rng, e_sqi, e_sti, seqO_t, strO_s, e_new, e_eOfN, e_sl, e_onone, e_osome, s_dat, s_ref, s_scr, s_nil, s_cons, e_fn, e_to_rt, e_to_nx, e_o1, Option.map_some, List.getElem?_cons_zero, List.getElem?_cons_succ, List.map_cons, List.map_nil, List.cons_append, List.nil_append, List.replicate, List.set_cons_zero, List.set_cons_succ, List.length_cons, List.length_nil, if_true, v_lt, v_gt, v_le, v_ge, v_eq, v_ne, v_add, v_sub, dB, decide_eq_true_eq, Bool.and_self, Bool.false_eq_true, if_false, Nat.reduceAdd, Nat.reduceEqDiff, and_self, true_and, decide_true, decide_false, Bool.not_true, Bool.not_false, e_expr, e_chain, e_vorT, e_vandT, e_vnotT, e_tyis, e_m0, m0K_s, e_join2, joinK_s, tru_bool, tru_tup, dB_bool, e_nrep, tyD_dat, isa_tuple, isa_str, isa_int, isa_bool, ty_int, isTup_none, isTup_bool, isTup_int, isTup_str, isTup_list, isTup_tuple, isTup_dict, isStr_none, isStr_bool, isStr_int, isStr_str, isStr_list, isStr_tuple, isStr_dict, isInt_none, isInt_bool, isInt_int, isInt_str, isInt_list, isInt_tuple, isInt_dict, isBol_none, isBol_bool, isBol_int, isBol_str, isBol_list, isBol_tuple, isBol_dict, Option.bind_some, Option.bind_none, if_true, if_false, id_eq, Int.cast_ofNat_Int, eq_self, ei, e, ek, e0]
theorem law_label_ok {ls : List Str} {bs : List Blk} (h : BsOk ls bs) (n : Nat) (S : Store) : f__law_label [.dat (bsD bs), .dat (.int (n : Nat))] S = .ok (.dat (.str (labK bs n))) S := label_of_ok h n S
theorem label_at_ok {ls : List Str} (hl : labelsB (tupS ls) = true) (hs : Sm (tupS ls)) {bs : List Blk} (h : BsOk ls bs) (n : Nat) (S : Store) : f_label_at [.dat (tupS ls), .dat (bsD bs), .dat (.int (n : Nat))] S = .ok (.dat (.str (labK bs n))) S := by
  unfold f_label_at m_label_at
  simp only [e_bind_ok, e_stm_ok, e_then_nx, e_then_rt, e_then_bk, e_then_ct, e_optR, e_optB, e_optV, e_optT, e_seq, e_pass, e_asg, e_put, e_ret, e_if, e_var, e_d, e_bin, e_un, e_ix, e_tOf, e_tOfB, e_and, e_or, e_tnot, e_vand, e_vor, e_vnot, e_vif, e_set, e_par2, e_park2, e_park3, e_retref, e_nlst, e_nil, e_cons, e_cb, e_call, e_isi, e_tup, e_lst, e_dats_nil, e_dats_cons, e_for, e_rng, e_sqi, e_sti, seqO_t, strO_s, e_new, e_eOfN, e_sl, e_onone, e_osome, s_dat, s_ref, s_scr, s_nil, s_cons, e_fn, e_to_rt, e_to_nx, e_o1, Option.map_some, List.getElem?_cons_zero, List.getElem?_cons_succ, List.map_cons, List.map_nil, List.cons_append, List.nil_append, List.replicate, List.set_cons_zero, List.set_cons_succ, List.length_cons, List.length_nil, if_true, v_lt, v_gt, v_le, v_ge, v_eq, v_ne, v_add, v_sub, dB, decide_eq_true_eq, Bool.and_self, Bool.false_eq_true, if_false, Nat.reduceAdd, Nat.reduceEqDiff, and_self, true_and, decide_true, decide_false, Bool.not_true, Bool.not_false, e_expr, e_chain, e_vorT, e_vandT, e_vnotT, e_tyis, e_m0, m0K_s, e_join2, joinK_s, tru_bool, tru_tup, dB_bool, e_nrep, tyD_dat, isa_tuple, isa_str, isa_int, isa_bool, ty_int, isTup_none, isTup_bool, isTup_int, isTup_str, isTup_list, isTup_tuple, isTup_dict, isStr_none, isStr_bool, isStr_int, isStr_str, isStr_list, isStr_tuple, isStr_dict, isInt_none, isInt_bool, isInt_int, isInt_str, isInt_list, isInt_tuple, isInt_dict, isBol_none, isBol_bool, isBol_int, isBol_str, isBol_list, isBol_tuple, isBol_dict, Option.bind_some, Option.bind_none, if_true, if_false, id_eq, Int.cast_ofNat_Int, eq_self, require_blocks_ok hl hs h S, require_number_ok n S, label_of_ok h n S]
theorem blocks_length_ok {ls : List Str} (hl : labelsB (tupS ls) = true) (hs : Sm (tupS ls)) {bs : List Blk} (h : BsOk ls bs) (S : Store) : f_blocks_length [.dat (tupS ls), .dat (bsD bs)] S = .ok (.dat (.int (lenK bs : Nat))) S := by
  unfold f_blocks_length m_blocks_length
  simp only [e_bind_ok, e_stm_ok, e_then_nx, e_then_rt, e_then_bk, e_then_ct, e_optR, e_optB, e_optV, e_optT, e_seq, e_pass, e_asg, e_put, e_ret, e_if, e_var, e_d, e_bin, e_un, e_ix, e_tOf, e_tOfB, e_and, e_or, e_tnot, e_vand, e_vor, e_vnot, e_vif, e_set, e_par2, e_park2, e_park3, e_retref, e_nlst, e_nil, e_cons, e_cb, e_call, e_isi, e_tup, e_lst, e_dats_nil, e_dats_cons, e_for, e_rng, e_sqi, e_sti, seqO_t, strO_s, e_new, e_eOfN, e_sl, e_onone, e_osome, s_dat, s_ref, s_scr, s_nil, s_cons, e_fn, e_to_rt, e_to_nx, e_o1, Option.map_some, List.getElem?_cons_zero, List.getElem?_cons_succ, List.map_cons, List.map_nil, List.cons_append, List.nil_append, List.replicate, List.set_cons_zero, List.set_cons_succ, List.length_cons, List.length_nil, if_true, v_lt, v_gt, v_le, v_ge, v_eq, v_ne, v_add, v_sub, dB, decide_eq_true_eq, Bool.and_self, Bool.false_eq_true, if_false, Nat.reduceAdd, Nat.reduceEqDiff, and_self, true_and, decide_true, decide_false, Bool.not_true, Bool.not_false, e_expr, e_chain, e_vorT, e_vandT, e_vnotT, e_tyis, e_m0, m0K_s, e_join2, joinK_s, tru_bool, tru_tup, dB_bool, e_nrep, tyD_dat, isa_tuple, isa_str, isa_int, isa_bool, ty_int, isTup_none, isTup_bool, isTup_int, isTup_str, isTup_list, isTup_tuple, isTup_dict, isStr_none, isStr_bool, isStr_int, isStr_str, isStr_list, isStr_tuple, isStr_dict, isInt_none, isInt_bool, isInt_int, isInt_str, isInt_list, isInt_tuple, isInt_dict, isBol_none, isBol_bool, isBol_int, isBol_str, isBol_list, isBol_tuple, isBol_dict, Option.bind_some, Option.bind_none, if_true, if_false, id_eq, Int.cast_ofNat_Int, eq_self, require_blocks_ok hl hs h S, length_of_ok h S]
end L3.LK23

/-! C23 -/
namespace L3.LK23
open PySem PySem.Spec PyProof.Rows L2 L3
theorem divmod_K {n l : Nat} (h : 0 < l) (hl : l ≤ 1000) : divmodD [.dat (.int (n : Nat)), .dat (.int (l : Nat))] = some (.dat (.tuple [.int ((n / l : Nat) : Int), .int ((n % l : Nat) : Int)])) := by
  have : Builtin.divisionGoesByPylong (n : Int) (l : Int) = false := by
    unfold Builtin.divisionGoesByPylong
    have : l.log2 < 10 := (Nat.log2_lt (by omega)).mpr (by omega)
    have h0 : ((l : Int) == 0) = false := by rw [beq_eq_false_iff_ne]; omega
    simp only [h0]
    have : (Int.natAbs (l : Int)).log2 / 30 + 1 ≤ 300 := by rw [Int.natAbs_natCast]; omega
    simp only [Bool.false_eq_true, if_false, Bool.and_eq_false_iff, decide_eq_false_iff_not]
    left
    omega
  unfold divmodD
  simp only [this, and_true]
  rw [if_pos (by omega)]
  push_cast
  rfl
theorem drop_tupS (ws : List Str) (k : Nat) : slD (some ((k : Nat) : Int)) none (.dat (tupS ws)) = some (.dat (tupS (ws.drop k))) := by
  unfold tupS
  rw [sl_drop, List.map_drop]
theorem take_tupS (ws : List Str) (k : Nat) : slD none (some ((k : Nat) : Int)) (.dat (tupS ws)) = some (.dat (tupS (ws.take k))) := by
  unfold tupS
  rw [sl_take, List.map_take]
theorem z2 : 2 ≤ sizeLine := by decide
theorem z1 : 1 ≤ sizeLine := by decide
theorem z0 : 0 ≤ sizeLine := by decide
theorem rest_ok {ls : List Str} {b : Blk} {n : Nat} (h : KOk ls b) (hw : b.1.length ≤ 1000) (hn : n < b.1.length * b.2) (S : Store) : f_rest_of_block [.dat (tupS b.1), .dat (.int (b.2 : Nat)), .dat (.int (n : Nat))] S = .ok (.dat (bsD (restK b.1 b.2 n))) S := by
  obtain ⟨hq, e, hp⟩ := dm h.ne hn
  unfold f_rest_of_block m_rest_of_block
  have e1 : (((n % b.1.length : Nat) : Int) = 0) = (n % b.1.length = 0) := by rw [eq_iff_iff]; omega
  have e2 : ((b.2 : Nat) : Int) - ((n / b.1.length : Nat) : Int) = ((b.2 - n / b.1.length : Nat) : Int) := by omega
  have e3 : (((b.2 - n / b.1.length : Nat) : Int) = 1) = (b.2 - n / b.1.length = 1) := by rw [eq_iff_iff]; omega
  by_cases h0 : n % b.1.length = 0
  · simp only [e_bind_ok, e_stm_ok, e_then_nx, e_then_rt, e_then_bk, e_then_ct, e_optR, e_optB, e_optV, e_optT, e_seq, e_pass, e_asg, e_put, e_ret, e_if, e_var, e_d, e_bin, e_un, e_ix, e_tOf, e_tOfB, e_and, e_or, e_tnot, e_vand, e_vor, e_vnot, e_vif, e_set, e_par2, e_park2, e_park3, e_retref, e_nlst, e_nil, e_cons, e_cb, e_call, e_isi, e_tup, e_lst, e_dats_nil, e_dats_cons, e_for, e_rng, e_sqi, e_sti, seqO_t, strO_s, e_new, e_eOfN, e_sl, e_onone, e_osome, s_dat, s_ref, s_scr, s_nil, s_cons, e_fn, e_to_rt, e_to_nx, e_o1, Option.map_some, List.getElem?_cons_zero, List.getElem?_cons_succ, List.map_cons, List.map_nil, List.cons_append, List.nil_append, List.replicate, List.set_cons_zero, List.set_cons_succ, List.length_cons, List.length_nil, if_true, v_lt, v_gt, v_le, v_ge, v_eq, v_ne, v_add, v_sub, dB, decide_eq_true_eq, Bool.and_self, Bool.false_eq_true, if_false, Nat.reduceAdd, Nat.reduceEqDiff, and_self, true_and, decide_true, decide_false, Bool.not_true, Bool.not_false, e_expr, e_chain, e_vorT, e_vandT, e_vnotT, e_tyis, e_m0, m0K_s, e_join2, joinK_s, tru_bool, tru_tup, dB_bool, e_nrep, tyD_dat, isa_tuple, isa_str, isa_int, isa_bool, ty_int, isTup_none, isTup_bool, isTup_int, isTup_str, isTup_list, isTup_tuple, isTup_dict, isStr_none, isStr_bool, isStr_int, isStr_str, isStr_list, isStr_tuple, isStr_dict, isInt_none, isInt_bool, isInt_int, isInt_str, isInt_list, isInt_tuple, isInt_dict, isBol_none, isBol_bool, isBol_int, isBol_str, isBol_list, isBol_tuple, isBol_dict, Option.bind_some, Option.bind_none, if_true, if_false, id_eq, Int.cast_ofNat_Int, eq_self, len_tupS, divmod_K h.ne hw, put_t2, e1, h0, e2, z1, z2]
    unfold restK
    rw [if_pos h0]
    rfl
  · by_cases h1 : b.2 - n / b.1.length = 1
    · simp only [e_bind_ok, e_stm_ok, e_then_nx, e_then_rt, e_then_bk, e_then_ct, e_optR, e_optB, e_optV, e_optT, e_seq, e_pass, e_asg, e_put, e_ret, e_if, e_var, e_d, e_bin, e_un, e_ix, e_tOf, e_tOfB, e_and, e_or, e_tnot, e_vand, e_vor, e_vnot, e_vif, e_set, e_par2, e_park2, e_park3, e_retref, e_nlst, e_nil, e_cons, e_cb, e_call, e_isi, e_tup, e_lst, e_dats_nil, e_dats_cons, e_for, e_rng, e_sqi, e_sti, seqO_t, strO_s, e_new, e_eOfN, e_sl, e_onone, e_osome, s_dat, s_ref, s_scr, s_nil, s_cons, e_fn, e_to_rt, e_to_nx, e_o1, Option.map_some, List.getElem?_cons_zero, List.getElem?_cons_succ, List.map_cons, List.map_nil, List.cons_append, List.nil_append, List.replicate, List.set_cons_zero, List.set_cons_succ, List.length_cons, List.length_nil, if_true, v_lt, v_gt, v_le, v_ge, v_eq, v_ne, v_add, v_sub, dB, decide_eq_true_eq, Bool.and_self, Bool.false_eq_true, if_false, Nat.reduceAdd, Nat.reduceEqDiff, and_self, true_and, decide_true, decide_false, Bool.not_true, Bool.not_false, e_expr, e_chain, e_vorT, e_vandT, e_vnotT, e_tyis, e_m0, m0K_s, e_join2, joinK_s, tru_bool, tru_tup, dB_bool, e_nrep, tyD_dat, isa_tuple, isa_str, isa_int, isa_bool, ty_int, isTup_none, isTup_bool, isTup_int, isTup_str, isTup_list, isTup_tuple, isTup_dict, isStr_none, isStr_bool, isStr_int, isStr_str, isStr_list, isStr_tuple, isStr_dict, isInt_none, isInt_bool, isInt_int, isInt_str, isInt_list, isInt_tuple, isInt_dict, isBol_none, isBol_bool, isBol_int, isBol_str, isBol_list, isBol_tuple, isBol_dict, Option.bind_some, Option.bind_none, if_true, if_false, id_eq, Int.cast_ofNat_Int, eq_self, len_tupS, divmod_K h.ne hw, put_t2, e1, h0, e2, e3, h1, drop_tupS, z1, z2]
      unfold restK
      rw [if_neg h0, if_pos h1]
      rfl
    · simp only [e_bind_ok, e_stm_ok, e_then_nx, e_then_rt, e_then_bk, e_then_ct, e_optR, e_optB, e_optV, e_optT, e_seq, e_pass, e_asg, e_put, e_ret, e_if, e_var, e_d, e_bin, e_un, e_ix, e_tOf, e_tOfB, e_and, e_or, e_tnot, e_vand, e_vor, e_vnot, e_vif, e_set, e_par2, e_park2, e_park3, e_retref, e_nlst, e_nil, e_cons, e_cb, e_call, e_isi, e_tup, e_lst, e_dats_nil, e_dats_cons, e_for, e_rng, e_sqi, e_sti, seqO_t, strO_s, e_new, e_eOfN, e_sl, e_onone, e_osome, s_dat, s_ref, s_scr, s_nil, s_cons, e_fn, e_to_rt, e_to_nx, e_o1, Option.map_some, List.getElem?_cons_zero, List.getElem?_cons_succ, List.map_cons, List.map_nil, List.cons_append, List.nil_append, List.replicate, List.set_cons_zero, List.set_cons_succ, List.length_cons, List.length_nil, if_true, v_lt, v_gt, v_le, v_ge, v_eq, v_ne, v_add, v_sub, dB, decide_eq_true_eq, Bool.and_self, Bool.false_eq_true, if_false, Nat.reduceAdd, Nat.reduceEqDiff, and_self, true_and, decide_true, decide_false, Bool.not_true, Bool.not_false, e_expr, e_chain, e_vorT, e_vandT, e_vnotT, e_tyis, e_m0, m0K_s, e_join2, joinK_s, tru_bool, tru_tup, dB_bool, e_nrep, tyD_dat, isa_tuple, isa_str, isa_int, isa_bool, ty_int, isTup_none, isTup_bool, isTup_int, isTup_str, isTup_list, isTup_tuple, isTup_dict, isStr_none, isStr_bool, isStr_int, isStr_str, isStr_list, isStr_tuple, isStr_dict, isInt_none, isInt_bool, isInt_int, isInt_str, isInt_list, isInt_tuple, isInt_dict, isBol_none, isBol_bool, isBol_int, isBol_str, isBol_list, isBol_tuple, isBol_dict, Option.bind_some, Option.bind_none, if_true, if_false, id_eq, Int.cast_ofNat_Int, eq_self, len_tupS, divmod_K h.ne hw, put_t2, e1, h0, e2, e3, h1, drop_tupS, z1, z2]
      unfold restK
      rw [if_neg h0, if_neg h1, show ((b.2 - n / b.1.length : Nat) : Int) - 1 = ((b.2 - n / b.1.length - 1 : Nat) : Int) by omega]
      rfl
theorem put_e {i j k : Nat} {n : Nat} {b : Blk} {rho : Sl} : put (.tup [.nm i, .tup [.nm j, .nm k]]) (.dat (.tuple [.int (n : Nat), encK b])) rho = some (((rho.set i (some (.dat (.int (n : Nat))))).set j (some (.dat (tupS b.1)))).set k (some (.dat (.int (b.2 : Nat))))) := by
  simp only [put, puts, encK, List.length_cons, List.length_nil, if_true, s_dat, Option.bind_some]
theorem add_bsD {xs ys : List Blk} (h : xs.length + ys.length ≤ 10000) : addD (.dat (bsD xs)) (.dat (bsD ys)) = some (.dat (bsD (xs ++ ys))) := by
  unfold bsD
  rw [v_addt (by rw [List.length_map, List.length_map]; exact h), List.map_append]
theorem drop_bsD (bs : List Blk) (k : Nat) : slD (some ((k : Nat) : Int)) none (.dat (bsD bs)) = some (.dat (bsD (bs.drop k))) := by
  unfold bsD
  rw [sl_drop, List.map_drop]
theorem take_bsD (bs : List Blk) (k : Nat) : slD none (some ((k : Nat) : Int)) (.dat (bsD bs)) = some (.dat (bsD (bs.take k))) := by
  unfold bsD
  rw [sl_take, List.map_take]
theorem wf_loop {ls : List Str} {bs : List Blk} (h : BsOk ls bs) (S : Store) : ∀ (suf pre : List Blk) (n : Nat) (x2 x3 x4 : Option D), bs = pre ++ suf →
    (n < lenK suf ∧ forL (.tup [.nm 2, .tup [.nm 3, .nm 4]]) lb_without_first_1 (enumF pre.length (suf.map encK)) [some (.dat (bsD bs)), some (.dat (.int (n : Nat))), x2, x3, x4] S = .rt (.dat (bsD (dropK suf n))) S) ∨
    (dropK suf n = [] ∧ ∃ rho, forL (.tup [.nm 2, .tup [.nm 3, .nm 4]]) lb_without_first_1 (enumF pre.length (suf.map encK)) [some (.dat (bsD bs)), some (.dat (.int (n : Nat))), x2, x3, x4] S = .nx rho S)
  | [], pre, n, x2, x3, x4, _ => .inr ⟨rfl, _, rfl⟩
  | b :: r, pre, n, x2, x3, x4, e => by
    have hb : b ∈ bs := by rw [e]; simp
    have hk := h.ok b hb
    have hw := h.word b hb
    have hlen := h.len
    rw [List.map_cons, enumF, forL_cons, put_e, putK_some]
    simp only [List.set_cons_zero, List.set_cons_succ, dropK, lenK]
    have ed : bs.drop (pre.length + 1) = r := by rw [e, List.drop_append]; simp
    have er : r.length ≤ 1000 := by rw [e, List.length_append, List.length_cons] at hlen; omega
    by_cases hn : n < b.1.length * b.2
    · rw [if_pos hn]
      left
      refine ⟨by omega, ?_⟩
      unfold lb_without_first_1
      have e4 := rest_ok hk hw hn S
      have e5 := drop_bsD bs (pre.length + 1)
      rw [ed] at e5
      have e6 := add_bsD (xs := restK b.1 b.2 n) (ys := r) (by have := restK_len (w := b.1) (t := b.2) (n := n); omega)
      have e7 : ((pre.length : Nat) : Int) + 1 = ((pre.length + 1 : Nat) : Int) := by omega
      simp only [e_bind_ok, e_stm_ok, e_then_nx, e_then_rt, e_then_bk, e_then_ct, e_optR, e_optB, e_optV, e_optT, e_seq, e_pass, e_asg, e_put, e_ret, e_if, e_var, e_d, e_bin, e_un, e_ix, e_tOf, e_tOfB, e_and, e_or, e_tnot, e_vand, e_vor, e_vnot, e_vif, e_set, e_par2, e_park2, e_park3, e_retref, e_nlst, e_nil, e_cons, e_cb, e_call, e_isi, e_tup, e_lst, e_dats_nil, e_dats_cons, e_for, e_rng, e_sqi, e_sti, seqO_t, strO_s, e_new, e_eOfN, e_sl, e_onone, e_osome, s_dat, s_ref, s_scr, s_nil, s_cons, e_fn, e_to_rt, e_to_nx, e_o1, Option.map_some, List.getElem?_cons_zero, List.getElem?_cons_succ, List.map_cons, List.map_nil, List.cons_append, List.nil_append, List.replicate, List.set_cons_zero, List.set_cons_succ, List.length_cons, List.length_nil, if_true, v_lt, v_gt, v_le, v_ge, v_eq, v_ne, v_add, v_sub, dB, decide_eq_true_eq, Bool.and_self, Bool.false_eq_true, if_false, Nat.reduceAdd, Nat.reduceEqDiff, and_self, true_and, decide_true, decide_false, Bool.not_true, Bool.not_false, e_expr, e_chain, e_vorT, e_vandT, e_vnotT, e_tyis, e_m0, m0K_s, e_join2, joinK_s, tru_bool, tru_tup, dB_bool, e_nrep, tyD_dat, isa_tuple, isa_str, isa_int, isa_bool, ty_int, isTup_none, isTup_bool, isTup_int, isTup_str, isTup_list, isTup_tuple, isTup_dict, isStr_none, isStr_bool, isStr_int, isStr_str, isStr_list, isStr_tuple, isStr_dict, isInt_none, isInt_bool, isInt_int, isInt_str, isInt_list, isInt_tuple, isInt_dict, isBol_none, isBol_bool, isBol_int, isBol_str, isBol_list, isBol_tuple, isBol_dict, Option.bind_some, Option.bind_none, if_true, if_false, id_eq, Int.cast_ofNat_Int, eq_self, len_tupS, mul_K hw hk.most, lt_cast, decide_eq_true hn, e4, e7, e5, e6, lp_rt]
    · rw [if_neg hn]
      have eb : lb_without_first_1 [some (.dat (bsD bs)), some (.dat (.int (n : Nat))), some (.dat (.int (pre.length : Nat))), some (.dat (tupS b.1)), some (.dat (.int (b.2 : Nat)))] S
          = .nx [some (.dat (bsD bs)), some (.dat (.int ((n - b.1.length * b.2 : Nat) : Int))), some (.dat (.int (pre.length : Nat))), some (.dat (tupS b.1)), some (.dat (.int (b.2 : Nat)))] S := by
        unfold lb_without_first_1
        simp only [e_bind_ok, e_stm_ok, e_then_nx, e_then_rt, e_then_bk, e_then_ct, e_optR, e_optB, e_optV, e_optT, e_seq, e_pass, e_asg, e_put, e_ret, e_if, e_var, e_d, e_bin, e_un, e_ix, e_tOf, e_tOfB, e_and, e_or, e_tnot, e_vand, e_vor, e_vnot, e_vif, e_set, e_par2, e_park2, e_park3, e_retref, e_nlst, e_nil, e_cons, e_cb, e_call, e_isi, e_tup, e_lst, e_dats_nil, e_dats_cons, e_for, e_rng, e_sqi, e_sti, seqO_t, strO_s, e_new, e_eOfN, e_sl, e_onone, e_osome, s_dat, s_ref, s_scr, s_nil, s_cons, e_fn, e_to_rt, e_to_nx, e_o1, Option.map_some, List.getElem?_cons_zero, List.getElem?_cons_succ, List.map_cons, List.map_nil, List.cons_append, List.nil_append, List.replicate, List.set_cons_zero, List.set_cons_succ, List.length_cons, List.length_nil, if_true, v_lt, v_gt, v_le, v_ge, v_eq, v_ne, v_add, v_sub, dB, decide_eq_true_eq, Bool.and_self, Bool.false_eq_true, if_false, Nat.reduceAdd, Nat.reduceEqDiff, and_self, true_and, decide_true, decide_false, Bool.not_true, Bool.not_false, e_expr, e_chain, e_vorT, e_vandT, e_vnotT, e_tyis, e_m0, m0K_s, e_join2, joinK_s, tru_bool, tru_tup, dB_bool, e_nrep, tyD_dat, isa_tuple, isa_str, isa_int, isa_bool, ty_int, isTup_none, isTup_bool, isTup_int, isTup_str, isTup_list, isTup_tuple, isTup_dict, isStr_none, isStr_bool, isStr_int, isStr_str, isStr_list, isStr_tuple, isStr_dict, isInt_none, isInt_bool, isInt_int, isInt_str, isInt_list, isInt_tuple, isInt_dict, isBol_none, isBol_bool, isBol_int, isBol_str, isBol_list, isBol_tuple, isBol_dict, Option.bind_some, Option.bind_none, if_true, if_false, id_eq, Int.cast_ofNat_Int, eq_self, len_tupS, mul_K hw hk.most, lt_cast, decide_eq_false hn]
        rw [show ((n : Nat) : Int) - ((b.1.length * b.2 : Nat) : Int) = ((n - b.1.length * b.2 : Nat) : Int) by omega]
      rw [eb, lp_nx]
      have ih := wf_loop h S r (pre ++ [b]) (n - b.1.length * b.2) (some (.dat (.int (pre.length : Nat)))) (some (.dat (tupS b.1))) (some (.dat (.int (b.2 : Nat)))) (by rw [e, List.append_assoc]; rfl)
      rw [List.length_append, List.length_singleton] at ih
      rcases ih with ⟨h1, e⟩ | e
      · exact .inl ⟨by omega, e⟩
      · exact .inr e
theorem without_first_ok {ls : List Str} {bs : List Blk} (h : BsOk ls bs) (n : Nat) (S : Store) : f_without_first [.dat (bsD bs), .dat (.int (n : Nat))] S = .ok (.dat (bsD (dropK bs n))) S := by
  unfold f_without_first m_without_first
  have ei : enuO [.dat (bsD bs)] S = .ok (enumF 0 (bs.map encK)) S := by
    unfold bsD
    rw [enuO_t, enumD_eq]
  rcases wf_loop h S bs [] n none none none rfl with ⟨_, e⟩ | ⟨e0, rho, e⟩
  · rw [List.length_nil] at e
    simp only [e_bind_ok, e_stm_ok, e_then_nx, e_then_rt, e_then_bk, e_then_ct, e_optR, e_optB, e_optV, e_optT, e_seq, e_pass, e_asg, e_put, e_ret, e_if, e_var, e_d, e_bin, e_un, e_ix, e_tOf, e_tOfB, e_and, e_or, e_tnot, e_vand, e_vor, e_vnot, e_vif, e_set, e_par2, e_park2, e_park3, e_retref, e_nlst, e_nil, e_cons, e_cb, e_call, e_isi, e_tup, e_lst, e_dats_nil, e_dats_cons, e_for, e_rng, e_sqi, e_sti, seqO_t, strO_s, e_new, e_eOfN, e_sl, e_onone, e_osome, s_dat, s_ref, s_scr, s_nil, s_cons, e_fn, e_to_rt, e_to_nx, e_o1, Option.map_some, List.getElem?_cons_zero, List.getElem?_cons_succ, List.map_cons, List.map_nil, List.cons_append, List.nil_append, List.replicate, List.set_cons_zero, List.set_cons_succ, List.length_cons, List.length_nil, if_true, v_lt, v_gt, v_le, v_ge, v_eq, v_ne, v_add, v_sub, dB, decide_eq_true_eq, Bool.and_self, Bool.false_eq_true, if_false, Nat.reduceAdd, Nat.reduceEqDiff, and_self, true_and, decide_true, decide_false, Bool.not_true, Bool.not_false, e_expr, e_chain, e_vorT, e_vandT, e_vnotT, e_tyis, e_m0, m0K_s, e_join2, joinK_s, tru_bool, tru_tup, dB_bool, e_nrep, tyD_dat, isa_tuple, isa_str, isa_int, isa_bool, ty_int, isTup_none, isTup_bool, isTup_int, isTup_str, isTup_list, isTup_tuple, isTup_dict, isStr_none, isStr_bool, isStr_int, isStr_str, isStr_list, isStr_tuple, isStr_dict, isInt_none, isInt_bool, isInt_int, isInt_str, isInt_list, isInt_tuple, isInt_dict, isBol_none, isBol_bool, isBol_int, isBol_str, isBol_list, isBol_tuple, isBol_dict, Option.bind_some, Option.bind_none, if_true, if_false, id_eq, Int.cast_ofNat_Int, eq_self, e_enum, ei, e]
  · rw [List.length_nil] at e
    simp only [e_bind_ok, e_stm_ok, e_then_nx, e_then_rt, e_then_bk, e_then_ct, e_optR, e_optB, e_optV, e_optT, e_seq, e_pass, e_asg, e_put, e_ret, e_if, e_var, e_d, e_bin, e_un, e_ix, e_tOf, e_tOfB, e_and, e_or, e_tnot, e_vand, e_vor, e_vnot, e_vif, e_set, e_par2, e_park2, e_park3, e_retref, e_nlst, e_nil, e_cons, e_cb, e_call, e_isi, e_tup, e_lst, e_dats_nil, e_dats_cons, e_for, e_rng, e_sqi, e_sti, seqO_t, strO_s, e_new, e_eOfN, e_sl, e_onone, e_osome, s_dat, s_ref, s_scr, s_nil, s_cons, e_fn, e_to_rt, e_to_nx, e_o1, Option.map_some, List.getElem?_cons_zero, List.getElem?_cons_succ, List.map_cons, List.map_nil, List.cons_append, List.nil_append, List.replicate, List.set_cons_zero, List.set_cons_succ, List.length_cons, List.length_nil, if_true, v_lt, v_gt, v_le, v_ge, v_eq, v_ne, v_add, v_sub, dB, decide_eq_true_eq, Bool.and_self, Bool.false_eq_true, if_false, Nat.reduceAdd, Nat.reduceEqDiff, and_self, true_and, decide_true, decide_false, Bool.not_true, Bool.not_false, e_expr, e_chain, e_vorT, e_vandT, e_vnotT, e_tyis, e_m0, m0K_s, e_join2, joinK_s, tru_bool, tru_tup, dB_bool, e_nrep, tyD_dat, isa_tuple, isa_str, isa_int, isa_bool, ty_int, isTup_none, isTup_bool, isTup_int, isTup_str, isTup_list, isTup_tuple, isTup_dict, isStr_none, isStr_bool, isStr_int, isStr_str, isStr_list, isStr_tuple, isStr_dict, isInt_none, isInt_bool, isInt_int, isInt_str, isInt_list, isInt_tuple, isInt_dict, isBol_none, isBol_bool, isBol_int, isBol_str, isBol_list, isBol_tuple, isBol_dict, Option.bind_some, Option.bind_none, if_true, if_false, id_eq, Int.cast_ofNat_Int, eq_self, e_enum, ei, e, z0]
    rw [e0]
    rfl
theorem dropped_ok {ls : List Str} (hl : labelsB (tupS ls) = true) (hs : Sm (tupS ls)) {bs : List Blk} (h : BsOk ls bs) (n : Nat) (S : Store) : f_dropped [.dat (tupS ls), .dat (bsD bs), .dat (.int (n : Nat))] S = .ok (.dat (bsD (dropK bs n))) S := by
  unfold f_dropped m_dropped
  simp only [e_bind_ok, e_stm_ok, e_then_nx, e_then_rt, e_then_bk, e_then_ct, e_optR, e_optB, e_optV, e_optT, e_seq, e_pass, e_asg, e_put, e_ret, e_if, e_var, e_d, e_bin, e_un, e_ix, e_tOf, e_tOfB, e_and, e_or, e_tnot, e_vand, e_vor, e_vnot, e_vif, e_set, e_par2, e_park2, e_park3, e_retref, e_nlst, e_nil, e_cons, e_cb, e_call, e_isi, e_tup, e_lst, e_dats_nil, e_dats_cons, e_for, e_rng, e_sqi, e_sti, seqO_t, strO_s, e_new, e_eOfN, e_sl, e_onone, e_osome, s_dat, s_ref, s_scr, s_nil, s_cons, e_fn, e_to_rt, e_to_nx, e_o1, Option.map_some, List.getElem?_cons_zero, List.getElem?_cons_succ, List.map_cons, List.map_nil, List.cons_append, List.nil_append, List.replicate, List.set_cons_zero, List.set_cons_succ, List.length_cons, List.length_nil, if_true, v_lt, v_gt, v_le, v_ge, v_eq, v_ne, v_add, v_sub, dB, decide_eq_true_eq, Bool.and_self, Bool.false_eq_true, if_false, Nat.reduceAdd, Nat.reduceEqDiff, and_self, true_and, decide_true, decide_false, Bool.not_true, Bool.not_false, e_expr, e_chain, e_vorT, e_vandT, e_vnotT, e_tyis, e_m0, m0K_s, e_join2, joinK_s, tru_bool, tru_tup, dB_bool, e_nrep, tyD_dat, isa_tuple, isa_str, isa_int, isa_bool, ty_int, isTup_none, isTup_bool, isTup_int, isTup_str, isTup_list, isTup_tuple, isTup_dict, isStr_none, isStr_bool, isStr_int, isStr_str, isStr_list, isStr_tuple, isStr_dict, isInt_none, isInt_bool, isInt_int, isInt_str, isInt_list, isInt_tuple, isInt_dict, isBol_none, isBol_bool, isBol_int, isBol_str, isBol_list, isBol_tuple, isBol_dict, Option.bind_some, Option.bind_none, if_true, if_false, id_eq, Int.cast_ofNat_Int, eq_self, require_blocks_ok hl hs h S, require_number_ok n S, without_first_ok h n S]
theorem mulT0 (d : PyData) : mulD (.dat (.tuple [d])) (.dat (.int 0)) = some (.dat (.tuple [])) := rfl
theorem mulT1 (d : PyData) : mulD (.dat (.tuple [d])) (.dat (.int 1)) = some (.dat (.tuple [d])) := rfl
theorem toInt_B (b : Bool) : toIntD (.dat (.bool b)) = some (.dat (.int (if b then 1 else 0))) := rfl
theorem cut_loop {ls : List Str} {bs : List Blk} (h : BsOk ls bs) (S : Store) : ∀ (suf pre : List Blk) (n : Nat) (x2 x3 x4 x5 x6 x7 x8 x9 x10 : Option D), bs = pre ++ suf →
    (n < lenK suf ∧ ∃ a, forL (.tup [.nm 2, .tup [.nm 3, .nm 4]]) lb__law_cut_1 (enumF pre.length (suf.map encK)) [some (.dat (bsD bs)), some (.dat (.int (n : Nat))), x2, x3, x4, x5, x6, x7, x8, x9, x10] S = .rt (.dat (.tuple [a, bsD (dropK suf n)])) S) ∨
    (dropK suf n = [] ∧ ∃ rho, forL (.tup [.nm 2, .tup [.nm 3, .nm 4]]) lb__law_cut_1 (enumF pre.length (suf.map encK)) [some (.dat (bsD bs)), some (.dat (.int (n : Nat))), x2, x3, x4, x5, x6, x7, x8, x9, x10] S = .nx (some (.dat (bsD bs)) :: rho) S)
  | [], pre, n, _, _, _, _, _, _, _, _, _, _ => .inr ⟨rfl, _, rfl⟩
  | b :: r, pre, n, x2, x3, x4, x5, x6, x7, x8, x9, x10, e => by
    have hb : b ∈ bs := by rw [e]; simp
    have hk := h.ok b hb
    have hw := h.word b hb
    have hlen := h.len
    rw [List.map_cons, enumF, forL_cons, put_e, putK_some]
    simp only [List.set_cons_zero, List.set_cons_succ, dropK, lenK]
    have ed : bs.drop (pre.length + 1) = r := by rw [e, List.drop_append]; simp
    have er : r.length ≤ 1000 := by rw [e, List.length_append, List.length_cons] at hlen; omega
    have ep : (bs.take pre.length).length ≤ 1000 := by rw [List.length_take]; omega
    by_cases hn : n < b.1.length * b.2
    · rw [if_pos hn]
      left
      refine ⟨by omega, ?_⟩
      unfold lb__law_cut_1
      have e5 := drop_bsD bs (pre.length + 1)
      rw [ed] at e5
      have e7 : ((pre.length : Nat) : Int) + 1 = ((pre.length + 1 : Nat) : Int) := by omega
      obtain ⟨hq, eq, hp⟩ := dm hk.ne hn
      have f1 : fdivD (.dat (.int (n : Nat))) (.dat (.int (b.1.length : Nat))) = some (.dat (.int ((n / b.1.length : Nat) : Int))) := by
        have : b.1.length.log2 < 10 := (Nat.log2_lt (by have := hk.ne; omega)).mpr (by omega)
        rw [v_fdiv ⟨by omega, by rw [Int.natAbs_natCast]; omega⟩]
        push_cast
        rfl
      have f2 : modD (.dat (.int (n : Nat))) (.dat (.int (b.1.length : Nat))) = some (.dat (.int ((n % b.1.length : Nat) : Int))) := by
        rw [v_mod (by omega)]
        push_cast
        rfl
      have e8 := take_bsD bs pre.length
      generalize hqq : n / b.1.length = q at *
      generalize hpp : n % b.1.length = p at *
      have t1 : ∀ d : PyData, dats [.dat d] = some [d] := fun _ => rfl
      have tq : ∃ j : Int, toIntD (.dat (.bool (decide (0 < ((q : Nat) : Int))))) = some (.dat (.int j)) ∧ ∃ a, mulD (.dat (.tuple [.tuple [tupS b.1, .int (q : Nat)]])) (.dat (.int j)) = some (.dat (bsD a)) ∧ a.length ≤ 1 := by
        by_cases hq0 : 0 < ((q : Nat) : Int)
        · rw [decide_eq_true hq0]; exact ⟨1, rfl, [(b.1, q)], rfl, by simp⟩
        · rw [decide_eq_false hq0]; exact ⟨0, rfl, [], rfl, by simp⟩
      obtain ⟨j, tq, a, ka, la⟩ := tq
      by_cases h0 : p = 0
      · have tp : toIntD (.dat (.bool (decide (0 < ((p : Nat) : Int))))) = some (.dat (.int 0)) := by rw [decide_eq_false (by omega)]; rfl
        have tl : toIntD (.dat (.bool (decide (0 < ((b.2 - q : Nat) : Int))))) = some (.dat (.int 1)) := by rw [decide_eq_true (by omega)]; rfl
        have g2 : ((b.2 : Nat) : Int) - ((q : Nat) : Int) - 0 = ((b.2 - q : Nat) : Int) := by omega
        have g4 : restK b.1 b.2 n = [(b.1, b.2 - q)] := by unfold restK; rw [hpp, if_pos h0, hqq]
        have g5 : addD (.dat (.tuple [])) (.dat (.tuple [.tuple [tupS b.1, .int ((b.2 - q : Nat) : Int)]])) = some (.dat (bsD [(b.1, b.2 - q)])) := rfl
        have e6 := add_bsD (xs := [(b.1, b.2 - q)]) (ys := r) (by simp; omega)
        have k2 : addD (.dat (bsD a)) (.dat (.tuple [])) = some (.dat (bsD a)) := by
          have := add_bsD (xs := a) (ys := []) (by simp; omega)
          rw [List.append_nil] at this
          exact this
        have k3 := add_bsD (xs := bs.take pre.length) (ys := a) (by omega)
        refine ⟨bsD (bs.take pre.length ++ a), ?_⟩
        simp only [e_bind_ok, e_stm_ok, e_then_nx, e_then_rt, e_then_bk, e_then_ct, e_optR, e_optB, e_optV, e_optT, e_seq, e_pass, e_asg, e_put, e_ret, e_if, e_var, e_d, e_bin, e_un, e_ix, e_tOf, e_tOfB, e_and, e_or, e_tnot, e_vand, e_vor, e_vnot, e_vif, e_set, e_par2, e_park2, e_park3, e_retref, e_nlst, e_nil, e_cons, e_cb, e_call, e_isi, e_tup, e_lst, e_dats_nil, e_dats_cons, e_for, e_rng, e_sqi, e_sti, seqO_t, strO_s, e_new, e_eOfN, e_sl, e_onone, e_osome, s_dat, s_ref, s_scr, s_nil, s_cons, e_fn, e_to_rt, e_to_nx, e_o1, Option.map_some, List.getElem?_cons_zero, List.getElem?_cons_succ, List.map_cons, List.map_nil, List.cons_append, List.nil_append, List.replicate, List.set_cons_zero, List.set_cons_succ, List.length_cons, List.length_nil, if_true, v_lt, v_gt, v_le, v_ge, v_eq, v_ne, v_add, v_sub, dB, decide_eq_true_eq, Bool.and_self, Bool.false_eq_true, if_false, Nat.reduceAdd, Nat.reduceEqDiff, and_self, true_and, decide_true, decide_false, Bool.not_true, Bool.not_false, e_expr, e_chain, e_vorT, e_vandT, e_vnotT, e_tyis, e_m0, m0K_s, e_join2, joinK_s, tru_bool, tru_tup, dB_bool, e_nrep, tyD_dat, isa_tuple, isa_str, isa_int, isa_bool, ty_int, isTup_none, isTup_bool, isTup_int, isTup_str, isTup_list, isTup_tuple, isTup_dict, isStr_none, isStr_bool, isStr_int, isStr_str, isStr_list, isStr_tuple, isStr_dict, isInt_none, isInt_bool, isInt_int, isInt_str, isInt_list, isInt_tuple, isInt_dict, isBol_none, isBol_bool, isBol_int, isBol_str, isBol_list, isBol_tuple, isBol_dict, Option.bind_some, Option.bind_none, if_true, if_false, id_eq, Int.cast_ofNat_Int, eq_self, len_tupS, mul_K hw hk.most, lt_cast, decide_eq_true hn, f1, f2, tp, tq, tl, g2, ka, z1, z2, take_tupS, drop_tupS, mulT0, mulT1, k2, e8, e7, e5, g5, k3, e6, lp_rt]
        rw [g4]
        rfl
      · have tp : toIntD (.dat (.bool (decide (0 < ((p : Nat) : Int))))) = some (.dat (.int 1)) := by rw [decide_eq_true (by omega)]; rfl
        have g2 : ((b.2 : Nat) : Int) - ((q : Nat) : Int) - 1 = ((b.2 - q - 1 : Nat) : Int) := by omega
        have k2 : addD (.dat (bsD a)) (.dat (.tuple [.tuple [tupS (b.1.take p), .int 1]])) = some (.dat (bsD (a ++ [(b.1.take p, 1)]))) := add_bsD (xs := a) (ys := [(b.1.take p, 1)]) (by simp; omega)
        have k3 := add_bsD (xs := bs.take pre.length) (ys := a ++ [(b.1.take p, 1)]) (by rw [List.length_append]; simp; omega)
        refine ⟨bsD (bs.take pre.length ++ (a ++ [(b.1.take p, 1)])), ?_⟩
        by_cases h1 : b.2 - q = 1
        · have tl : toIntD (.dat (.bool (decide (0 < ((b.2 - q - 1 : Nat) : Int))))) = some (.dat (.int 0)) := by rw [decide_eq_false (by omega)]; rfl
          have g4 : restK b.1 b.2 n = [(b.1.drop p, 1)] := by unfold restK; rw [hpp, if_neg h0, hqq, if_pos h1]
          have g5 : addD (.dat (.tuple [.tuple [tupS (b.1.drop p), .int 1]])) (.dat (.tuple [])) = some (.dat (bsD [(b.1.drop p, 1)])) := rfl
          have e6 := add_bsD (xs := [(b.1.drop p, 1)]) (ys := r) (by simp; omega)
          simp only [e_bind_ok, e_stm_ok, e_then_nx, e_then_rt, e_then_bk, e_then_ct, e_optR, e_optB, e_optV, e_optT, e_seq, e_pass, e_asg, e_put, e_ret, e_if, e_var, e_d, e_bin, e_un, e_ix, e_tOf, e_tOfB, e_and, e_or, e_tnot, e_vand, e_vor, e_vnot, e_vif, e_set, e_par2, e_park2, e_park3, e_retref, e_nlst, e_nil, e_cons, e_cb, e_call, e_isi, e_tup, e_lst, e_dats_nil, e_dats_cons, e_for, e_rng, e_sqi, e_sti, seqO_t, strO_s, e_new, e_eOfN, e_sl, e_onone, e_osome, s_dat, s_ref, s_scr, s_nil, s_cons, e_fn, e_to_rt, e_to_nx, e_o1, Option.map_some, List.getElem?_cons_zero, List.getElem?_cons_succ, List.map_cons, List.map_nil, List.cons_append, List.nil_append, List.replicate, List.set_cons_zero, List.set_cons_succ, List.length_cons, List.length_nil, if_true, v_lt, v_gt, v_le, v_ge, v_eq, v_ne, v_add, v_sub, dB, decide_eq_true_eq, Bool.and_self, Bool.false_eq_true, if_false, Nat.reduceAdd, Nat.reduceEqDiff, and_self, true_and, decide_true, decide_false, Bool.not_true, Bool.not_false, e_expr, e_chain, e_vorT, e_vandT, e_vnotT, e_tyis, e_m0, m0K_s, e_join2, joinK_s, tru_bool, tru_tup, dB_bool, e_nrep, tyD_dat, isa_tuple, isa_str, isa_int, isa_bool, ty_int, isTup_none, isTup_bool, isTup_int, isTup_str, isTup_list, isTup_tuple, isTup_dict, isStr_none, isStr_bool, isStr_int, isStr_str, isStr_list, isStr_tuple, isStr_dict, isInt_none, isInt_bool, isInt_int, isInt_str, isInt_list, isInt_tuple, isInt_dict, isBol_none, isBol_bool, isBol_int, isBol_str, isBol_list, isBol_tuple, isBol_dict, Option.bind_some, Option.bind_none, if_true, if_false, id_eq, Int.cast_ofNat_Int, eq_self, len_tupS, mul_K hw hk.most, lt_cast, decide_eq_true hn, f1, f2, tp, tq, tl, g2, ka, z1, z2, take_tupS, drop_tupS, mulT0, mulT1, k2, e8, e7, e5, g5, k3, e6, lp_rt]
          rw [g4]
          rfl
        · have tl : toIntD (.dat (.bool (decide (0 < ((b.2 - q - 1 : Nat) : Int))))) = some (.dat (.int 1)) := by rw [decide_eq_true (by omega)]; rfl
          have g4 : restK b.1 b.2 n = [(b.1.drop p, 1), (b.1, b.2 - q - 1)] := by unfold restK; rw [hpp, if_neg h0, hqq, if_neg h1]
          have g5 : addD (.dat (.tuple [.tuple [tupS (b.1.drop p), .int 1]])) (.dat (.tuple [.tuple [tupS b.1, .int ((b.2 - q - 1 : Nat) : Int)]])) = some (.dat (bsD [(b.1.drop p, 1), (b.1, b.2 - q - 1)])) := rfl
          have e6 := add_bsD (xs := [(b.1.drop p, 1), (b.1, b.2 - q - 1)]) (ys := r) (by simp; omega)
          simp only [e_bind_ok, e_stm_ok, e_then_nx, e_then_rt, e_then_bk, e_then_ct, e_optR, e_optB, e_optV, e_optT, e_seq, e_pass, e_asg, e_put, e_ret, e_if, e_var, e_d, e_bin, e_un, e_ix, e_tOf, e_tOfB, e_and, e_or, e_tnot, e_vand, e_vor, e_vnot, e_vif, e_set, e_par2, e_park2, e_park3, e_retref, e_nlst, e_nil, e_cons, e_cb, e_call, e_isi, e_tup, e_lst, e_dats_nil, e_dats_cons, e_for, e_rng, e_sqi, e_sti, seqO_t, strO_s, e_new, e_eOfN, e_sl, e_onone, e_osome, s_dat, s_ref, s_scr, s_nil, s_cons, e_fn, e_to_rt, e_to_nx, e_o1, Option.map_some, List.getElem?_cons_zero, List.getElem?_cons_succ, List.map_cons, List.map_nil, List.cons_append, List.nil_append, List.replicate, List.set_cons_zero, List.set_cons_succ, List.length_cons, List.length_nil, if_true, v_lt, v_gt, v_le, v_ge, v_eq, v_ne, v_add, v_sub, dB, decide_eq_true_eq, Bool.and_self, Bool.false_eq_true, if_false, Nat.reduceAdd, Nat.reduceEqDiff, and_self, true_and, decide_true, decide_false, Bool.not_true, Bool.not_false, e_expr, e_chain, e_vorT, e_vandT, e_vnotT, e_tyis, e_m0, m0K_s, e_join2, joinK_s, tru_bool, tru_tup, dB_bool, e_nrep, tyD_dat, isa_tuple, isa_str, isa_int, isa_bool, ty_int, isTup_none, isTup_bool, isTup_int, isTup_str, isTup_list, isTup_tuple, isTup_dict, isStr_none, isStr_bool, isStr_int, isStr_str, isStr_list, isStr_tuple, isStr_dict, isInt_none, isInt_bool, isInt_int, isInt_str, isInt_list, isInt_tuple, isInt_dict, isBol_none, isBol_bool, isBol_int, isBol_str, isBol_list, isBol_tuple, isBol_dict, Option.bind_some, Option.bind_none, if_true, if_false, id_eq, Int.cast_ofNat_Int, eq_self, len_tupS, mul_K hw hk.most, lt_cast, decide_eq_true hn, f1, f2, tp, tq, tl, g2, ka, z1, z2, take_tupS, drop_tupS, mulT0, mulT1, k2, e8, e7, e5, g5, k3, e6, lp_rt]
          rw [g4]
          rfl
    · rw [if_neg hn]
      have eb : lb__law_cut_1 [some (.dat (bsD bs)), some (.dat (.int (n : Nat))), some (.dat (.int (pre.length : Nat))), some (.dat (tupS b.1)), some (.dat (.int (b.2 : Nat))), x5, x6, x7, x8, x9, x10] S
          = .nx [some (.dat (bsD bs)), some (.dat (.int ((n - b.1.length * b.2 : Nat) : Int))), some (.dat (.int (pre.length : Nat))), some (.dat (tupS b.1)), some (.dat (.int (b.2 : Nat))), x5, x6, x7, x8, x9, x10] S := by
        unfold lb__law_cut_1
        simp only [e_bind_ok, e_stm_ok, e_then_nx, e_then_rt, e_then_bk, e_then_ct, e_optR, e_optB, e_optV, e_optT, e_seq, e_pass, e_asg, e_put, e_ret, e_if, e_var, e_d, e_bin, e_un, e_ix, e_tOf, e_tOfB, e_and, e_or, e_tnot, e_vand, e_vor, e_vnot, e_vif, e_set, e_par2, e_park2, e_park3, e_retref, e_nlst, e_nil, e_cons, e_cb, e_call, e_isi, e_tup, e_lst, e_dats_nil, e_dats_cons, e_for, e_rng, e_sqi, e_sti, seqO_t, strO_s, e_new, e_eOfN, e_sl, e_onone, e_osome, s_dat, s_ref, s_scr, s_nil, s_cons, e_fn, e_to_rt, e_to_nx, e_o1, Option.map_some, List.getElem?_cons_zero, List.getElem?_cons_succ, List.map_cons, List.map_nil, List.cons_append, List.nil_append, List.replicate, List.set_cons_zero, List.set_cons_succ, List.length_cons, List.length_nil, if_true, v_lt, v_gt, v_le, v_ge, v_eq, v_ne, v_add, v_sub, dB, decide_eq_true_eq, Bool.and_self, Bool.false_eq_true, if_false, Nat.reduceAdd, Nat.reduceEqDiff, and_self, true_and, decide_true, decide_false, Bool.not_true, Bool.not_false, e_expr, e_chain, e_vorT, e_vandT, e_vnotT, e_tyis, e_m0, m0K_s, e_join2, joinK_s, tru_bool, tru_tup, dB_bool, e_nrep, tyD_dat, isa_tuple, isa_str, isa_int, isa_bool, ty_int, isTup_none, isTup_bool, isTup_int, isTup_str, isTup_list, isTup_tuple, isTup_dict, isStr_none, isStr_bool, isStr_int, isStr_str, isStr_list, isStr_tuple, isStr_dict, isInt_none, isInt_bool, isInt_int, isInt_str, isInt_list, isInt_tuple, isInt_dict, isBol_none, isBol_bool, isBol_int, isBol_str, isBol_list, isBol_tuple, isBol_dict, Option.bind_some, Option.bind_none, if_true, if_false, id_eq, Int.cast_ofNat_Int, eq_self, len_tupS, mul_K hw hk.most, lt_cast, decide_eq_false hn]
        rw [show ((n : Nat) : Int) - ((b.1.length * b.2 : Nat) : Int) = ((n - b.1.length * b.2 : Nat) : Int) by omega]
      rw [eb, lp_nx]
      have ih := cut_loop h S r (pre ++ [b]) (n - b.1.length * b.2) (some (.dat (.int (pre.length : Nat)))) (some (.dat (tupS b.1))) (some (.dat (.int (b.2 : Nat)))) x5 x6 x7 x8 x9 x10 (by rw [e, List.append_assoc]; rfl)
      rw [List.length_append, List.length_singleton] at ih
      rcases ih with ⟨h1, e⟩ | e
      · exact .inl ⟨by omega, e⟩
      · exact .inr e
theorem law_cut_ok {ls : List Str} {bs : List Blk} (h : BsOk ls bs) (n : Nat) (S : Store) : ∃ a, f__law_cut [.dat (bsD bs), .dat (.int (n : Nat))] S = .ok (.dat (.tuple [a, bsD (dropK bs n)])) S := by
  unfold f__law_cut m__law_cut
  have ei : enuO [.dat (bsD bs)] S = .ok (enumF 0 (bs.map encK)) S := by
    unfold bsD
    rw [enuO_t, enumD_eq]
  rcases cut_loop h S bs [] n none none none none none none none none none rfl with ⟨_, a, e⟩ | ⟨e0, rho, e⟩
  · rw [List.length_nil] at e
    refine ⟨a, ?_⟩
    simp only [e_bind_ok, e_stm_ok, e_then_nx, e_then_rt, e_then_bk, e_then_ct, e_optR, e_optB, e_optV, e_optT, e_seq, e_pass, e_asg, e_put, e_ret, e_if, e_var, e_d, e_bin, e_un, e_ix, e_tOf, e_tOfB, e_and, e_or, e_tnot, e_vand, e_vor, e_vnot, e_vif, e_set, e_par2, e_park2, e_park3, e_retref, e_nlst, e_nil, e_cons, e_cb, e_call, e_isi, e_tup, e_lst, e_dats_nil, e_dats_cons, e_for, e_rng, e_sqi, e_sti, seqO_t, strO_s, e_new, e_eOfN, e_sl, e_onone, e_osome, s_dat, s_ref, s_scr, s_nil, s_cons, e_fn, e_to_rt, e_to_nx, e_o1, Option.map_some, List.getElem?_cons_zero, List.getElem?_cons_succ, List.map_cons, List.map_nil, List.cons_append, List.nil_append, List.replicate, List.set_cons_zero, List.set_cons_succ, List.length_cons, List.length_nil, if_true, v_lt, v_gt, v_le, v_ge, v_eq, v_ne, v_add, v_sub, dB, decide_eq_true_eq, Bool.and_self, Bool.false_eq_true, if_false, Nat.reduceAdd, Nat.reduceEqDiff, and_self, true_and, decide_true, decide_false, Bool.not_true, Bool.not_false, e_expr, e_chain, e_vorT, e_vandT, e_vnotT, e_tyis, e_m0, m0K_s, e_join2, joinK_s, tru_bool, tru_tup, dB_bool, e_nrep, tyD_dat, isa_tuple, isa_str, isa_int, isa_bool, ty_int, isTup_none, isTup_bool, isTup_int, isTup_str, isTup_list, isTup_tuple, isTup_dict, isStr_none, isStr_bool, isStr_int, isStr_str, isStr_list, isStr_tuple, isStr_dict, isInt_none, isInt_bool, isInt_int, isInt_str, isInt_list, isInt_tuple, isInt_dict, isBol_none, isBol_bool, isBol_int, isBol_str, isBol_list, isBol_tuple, isBol_dict, Option.bind_some, Option.bind_none, if_true, if_false, id_eq, Int.cast_ofNat_Int, eq_self, e_enum, ei, e]
  · rw [List.length_nil] at e
    refine ⟨bsD bs, ?_⟩
    simp only [e_bind_ok, e_stm_ok, e_then_nx, e_then_rt, e_then_bk, e_then_ct, e_optR, e_optB, e_optV, e_optT, e_seq, e_pass, e_asg, e_put, e_ret, e_if, e_var, e_d, e_bin, e_un, e_ix, e_tOf, e_tOfB, e_and, e_or, e_tnot, e_vand, e_vor, e_vnot, e_vif, e_set, e_par2, e_park2, e_park3, e_retref, e_nlst, e_nil, e_cons, e_cb, e_call, e_isi, e_tup, e_lst, e_dats_nil, e_dats_cons, e_for, e_rng, e_sqi, e_sti, seqO_t, strO_s, e_new, e_eOfN, e_sl, e_onone, e_osome, s_dat, s_ref, s_scr, s_nil, s_cons, e_fn, e_to_rt, e_to_nx, e_o1, Option.map_some, List.getElem?_cons_zero, List.getElem?_cons_succ, List.map_cons, List.map_nil, List.cons_append, List.nil_append, List.replicate, List.set_cons_zero, List.set_cons_succ, List.length_cons, List.length_nil, if_true, v_lt, v_gt, v_le, v_ge, v_eq, v_ne, v_add, v_sub, dB, decide_eq_true_eq, Bool.and_self, Bool.false_eq_true, if_false, Nat.reduceAdd, Nat.reduceEqDiff, and_self, true_and, decide_true, decide_false, Bool.not_true, Bool.not_false, e_expr, e_chain, e_vorT, e_vandT, e_vnotT, e_tyis, e_m0, m0K_s, e_join2, joinK_s, tru_bool, tru_tup, dB_bool, e_nrep, tyD_dat, isa_tuple, isa_str, isa_int, isa_bool, ty_int, isTup_none, isTup_bool, isTup_int, isTup_str, isTup_list, isTup_tuple, isTup_dict, isStr_none, isStr_bool, isStr_int, isStr_str, isStr_list, isStr_tuple, isStr_dict, isInt_none, isInt_bool, isInt_int, isInt_str, isInt_list, isInt_tuple, isInt_dict, isBol_none, isBol_bool, isBol_int, isBol_str, isBol_list, isBol_tuple, isBol_dict, Option.bind_some, Option.bind_none, if_true, if_false, id_eq, Int.cast_ofNat_Int, eq_self, e_enum, ei, e, z0, z2]
    rw [e0]
    rfl
end L3.LK23

/-! S23 -/
namespace L3.LK23
open PySem PySem.Spec PyProof.Rows L2 L3
theorem take_succ_len {bs : List Blk} {i : Nat} {b : Blk} (e : bs[i]? = some b) : lenK (bs.take (i + 1)) = lenK (bs.take i) + b.1.length * b.2 := by
  rw [List.take_succ, e, lenK_app]
  simp [lenK]
theorem min2 (e : Nat) : minLD (.own [.int (e : Nat), .int (e : Nat)]) = some (.dat (.int (e : Nat))) := by
  show (([((e : Nat) : Int), ((e : Nat) : Int)].min?).map fun m => D.dat (.int m)) = _
  simp [List.min?]
theorem ix_own {S : Store} {a b : PyData} : ixD S (.own [a, b]) (.dat (.int 0)) = some (.dat a) ∧ ixD S (.own [a, b]) (.dat (.int 1)) = some (.dat b) := ⟨rfl, rfl⟩
theorem ix_lst2 {S : Store} {a b : PyData} : ixD S (.dat (.list [a, b])) (.dat (.int 0)) = some (.dat a) ∧ ixD S (.dat (.list [a, b])) (.dat (.int 1)) = some (.dat b) := ⟨rfl, rfl⟩
theorem ix_bsD {S : Store} {bs : List Blk} {i : Nat} {b : Blk} (e : bs[i]? = some b) : ixD S (.dat (bsD bs)) (.dat (.int (i : Nat))) = some (.dat (encK b)) := v_ixt (by rw [List.getElem?_map, e]; rfl)
theorem same_side {ls : List Str} {bs : List Blk} (h : BsOk ls bs) {i : Nat} {b : Blk} (e : bs[i]? = some b) (x6 x7 x8 x9 x10 x11 x12 : Option D) (S : Store) :
    ∃ y6 y7 y8, forL (.nm 6) lb__law_same_1 [.int 0, .int 1] [some (.dat (bsD bs)), some (.dat (bsD bs)), some (.dat (.int (lenK bs : Nat))), some (.dat (.int (lenK (bs.take i) : Nat))), some (.own [.int ((i : Nat) - 1), .int ((i : Nat) - 1)]), some (.own [.int (lenK (bs.take i) : Nat), .int (lenK (bs.take i) : Nat)]), x6, x7, x8, x9, x10, x11, x12] S
      = .nx [some (.dat (bsD bs)), some (.dat (bsD bs)), some (.dat (.int (lenK bs : Nat))), some (.dat (.int (lenK (bs.take i) : Nat))), some (.own [.int (i : Nat), .int (i : Nat)]), some (.own [.int (lenK (bs.take (i + 1)) : Nat), .int (lenK (bs.take (i + 1)) : Nat)]), y6, y7, y8, x9, x10, x11, x12] S := by
  have hb := List.mem_of_getElem? e
  have m := mul_K (h.word b hb) (h.ok b hb).most
  have e1 : ((i : Nat) : Int) - 1 + 1 = (i : Nat) := by omega
  have e2 : ((lenK (bs.take i) : Nat) : Int) + ((b.1.length * b.2 : Nat) : Int) = ((lenK (bs.take (i + 1)) : Nat) : Int) := by rw [take_succ_len e]; omega
  have s0 : ∀ (io : Nat) (rho : Sl) (a b d : PyData) (S : Store), setO io rho [a, b] (.dat d) (.dat (.int 0)) S = .nx (rho.set io (some (.own [d, b]))) S := fun _ _ _ _ _ _ => rfl
  have s1 : ∀ (io : Nat) (rho : Sl) (a b d : PyData) (S : Store), setO io rho [a, b] (.dat d) (.dat (.int 1)) S = .nx (rho.set io (some (.own [a, d]))) S := fun _ _ _ _ _ _ => rfl
  refine ⟨some (.dat (.int 1)), some (.dat (tupS b.1)), some (.dat (.int (b.2 : Nat))), ?_⟩
  rw [forL_cons, put_nm, putK_some]
  simp only [List.set_cons_zero, List.set_cons_succ]
  unfold lb__law_same_1
  simp only [e_bind_ok, e_stm_ok, e_then_nx, e_then_rt, e_then_bk, e_then_ct, e_optR, e_optB, e_optV, e_optT, e_seq, e_pass, e_asg, e_put, e_ret, e_if, e_var, e_d, e_bin, e_un, e_ix, e_tOf, e_tOfB, e_and, e_or, e_tnot, e_vand, e_vor, e_vnot, e_vif, e_set, e_par2, e_park2, e_park3, e_retref, e_nlst, e_nil, e_cons, e_cb, e_call, e_isi, e_tup, e_lst, e_dats_nil, e_dats_cons, e_for, e_rng, e_sqi, e_sti, seqO_t, strO_s, e_new, e_eOfN, e_sl, e_onone, e_osome, s_dat, s_ref, s_scr, s_nil, s_cons, e_fn, e_to_rt, e_to_nx, e_o1, Option.map_some, List.getElem?_cons_zero, List.getElem?_cons_succ, List.map_cons, List.map_nil, List.cons_append, List.nil_append, List.replicate, List.set_cons_zero, List.set_cons_succ, List.length_cons, List.length_nil, if_true, v_lt, v_gt, v_le, v_ge, v_eq, v_ne, v_add, v_sub, dB, decide_eq_true_eq, Bool.and_self, Bool.false_eq_true, if_false, Nat.reduceAdd, Nat.reduceEqDiff, and_self, true_and, decide_true, decide_false, Bool.not_true, Bool.not_false, e_expr, e_chain, e_vorT, e_vandT, e_vnotT, e_tyis, e_m0, m0K_s, e_join2, joinK_s, tru_bool, tru_tup, dB_bool, e_nrep, tyD_dat, isa_tuple, isa_str, isa_int, isa_bool, ty_int, isTup_none, isTup_bool, isTup_int, isTup_str, isTup_list, isTup_tuple, isTup_dict, isStr_none, isStr_bool, isStr_int, isStr_str, isStr_list, isStr_tuple, isStr_dict, isInt_none, isInt_bool, isInt_int, isInt_str, isInt_list, isInt_tuple, isInt_dict, isBol_none, isBol_bool, isBol_int, isBol_str, isBol_list, isBol_tuple, isBol_dict, Option.bind_some, Option.bind_none, if_true, if_false, id_eq, Int.cast_ofNat_Int, eq_self, ix_own.1, ix_own.2, ix_lst2.1, ix_lst2.2, e1, ix_bsD e, put_K, z2, len_tupS, m, e2]
  simp only [sSetO, List.getElem?_cons_zero, List.getElem?_cons_succ]
  simp only [e_bind_ok, e_stm_ok, e_then_nx, e_then_rt, e_then_bk, e_then_ct, e_optR, e_optB, e_optV, e_optT, e_seq, e_pass, e_asg, e_put, e_ret, e_if, e_var, e_d, e_bin, e_un, e_ix, e_tOf, e_tOfB, e_and, e_or, e_tnot, e_vand, e_vor, e_vnot, e_vif, e_set, e_par2, e_park2, e_park3, e_retref, e_nlst, e_nil, e_cons, e_cb, e_call, e_isi, e_tup, e_lst, e_dats_nil, e_dats_cons, e_for, e_rng, e_sqi, e_sti, seqO_t, strO_s, e_new, e_eOfN, e_sl, e_onone, e_osome, s_dat, s_ref, s_scr, s_nil, s_cons, e_fn, e_to_rt, e_to_nx, e_o1, Option.map_some, List.getElem?_cons_zero, List.getElem?_cons_succ, List.map_cons, List.map_nil, List.cons_append, List.nil_append, List.replicate, List.set_cons_zero, List.set_cons_succ, List.length_cons, List.length_nil, if_true, v_lt, v_gt, v_le, v_ge, v_eq, v_ne, v_add, v_sub, dB, decide_eq_true_eq, Bool.and_self, Bool.false_eq_true, if_false, Nat.reduceAdd, Nat.reduceEqDiff, and_self, true_and, decide_true, decide_false, Bool.not_true, Bool.not_false, e_expr, e_chain, e_vorT, e_vandT, e_vnotT, e_tyis, e_m0, m0K_s, e_join2, joinK_s, tru_bool, tru_tup, dB_bool, e_nrep, tyD_dat, isa_tuple, isa_str, isa_int, isa_bool, ty_int, isTup_none, isTup_bool, isTup_int, isTup_str, isTup_list, isTup_tuple, isTup_dict, isStr_none, isStr_bool, isStr_int, isStr_str, isStr_list, isStr_tuple, isStr_dict, isInt_none, isInt_bool, isInt_int, isInt_str, isInt_list, isInt_tuple, isInt_dict, isBol_none, isBol_bool, isBol_int, isBol_str, isBol_list, isBol_tuple, isBol_dict, Option.bind_some, Option.bind_none, if_true, if_false, id_eq, Int.cast_ofNat_Int, eq_self, ix_own.1, ix_own.2, ix_lst2.1, ix_lst2.2, e1, ix_bsD e, put_K, z2, len_tupS, m, e2, s0, s1]
  simp only [sSetO, List.getElem?_cons_zero, List.getElem?_cons_succ]
  simp only [e_bind_ok, e_stm_ok, e_then_nx, e_then_rt, e_then_bk, e_then_ct, e_optR, e_optB, e_optV, e_optT, e_seq, e_pass, e_asg, e_put, e_ret, e_if, e_var, e_d, e_bin, e_un, e_ix, e_tOf, e_tOfB, e_and, e_or, e_tnot, e_vand, e_vor, e_vnot, e_vif, e_set, e_par2, e_park2, e_park3, e_retref, e_nlst, e_nil, e_cons, e_cb, e_call, e_isi, e_tup, e_lst, e_dats_nil, e_dats_cons, e_for, e_rng, e_sqi, e_sti, seqO_t, strO_s, e_new, e_eOfN, e_sl, e_onone, e_osome, s_dat, s_ref, s_scr, s_nil, s_cons, e_fn, e_to_rt, e_to_nx, e_o1, Option.map_some, List.getElem?_cons_zero, List.getElem?_cons_succ, List.map_cons, List.map_nil, List.cons_append, List.nil_append, List.replicate, List.set_cons_zero, List.set_cons_succ, List.length_cons, List.length_nil, if_true, v_lt, v_gt, v_le, v_ge, v_eq, v_ne, v_add, v_sub, dB, decide_eq_true_eq, Bool.and_self, Bool.false_eq_true, if_false, Nat.reduceAdd, Nat.reduceEqDiff, and_self, true_and, decide_true, decide_false, Bool.not_true, Bool.not_false, e_expr, e_chain, e_vorT, e_vandT, e_vnotT, e_tyis, e_m0, m0K_s, e_join2, joinK_s, tru_bool, tru_tup, dB_bool, e_nrep, tyD_dat, isa_tuple, isa_str, isa_int, isa_bool, ty_int, isTup_none, isTup_bool, isTup_int, isTup_str, isTup_list, isTup_tuple, isTup_dict, isStr_none, isStr_bool, isStr_int, isStr_str, isStr_list, isStr_tuple, isStr_dict, isInt_none, isInt_bool, isInt_int, isInt_str, isInt_list, isInt_tuple, isInt_dict, isBol_none, isBol_bool, isBol_int, isBol_str, isBol_list, isBol_tuple, isBol_dict, Option.bind_some, Option.bind_none, if_true, if_false, id_eq, Int.cast_ofNat_Int, eq_self, ix_own.1, ix_own.2, ix_lst2.1, ix_lst2.2, e1, ix_bsD e, put_K, z2, len_tupS, m, e2, s0, s1, lp_nx]
  rw [forL_cons, put_nm, putK_some]
  simp only [List.set_cons_zero, List.set_cons_succ]
  simp only [e_bind_ok, e_stm_ok, e_then_nx, e_then_rt, e_then_bk, e_then_ct, e_optR, e_optB, e_optV, e_optT, e_seq, e_pass, e_asg, e_put, e_ret, e_if, e_var, e_d, e_bin, e_un, e_ix, e_tOf, e_tOfB, e_and, e_or, e_tnot, e_vand, e_vor, e_vnot, e_vif, e_set, e_par2, e_park2, e_park3, e_retref, e_nlst, e_nil, e_cons, e_cb, e_call, e_isi, e_tup, e_lst, e_dats_nil, e_dats_cons, e_for, e_rng, e_sqi, e_sti, seqO_t, strO_s, e_new, e_eOfN, e_sl, e_onone, e_osome, s_dat, s_ref, s_scr, s_nil, s_cons, e_fn, e_to_rt, e_to_nx, e_o1, Option.map_some, List.getElem?_cons_zero, List.getElem?_cons_succ, List.map_cons, List.map_nil, List.cons_append, List.nil_append, List.replicate, List.set_cons_zero, List.set_cons_succ, List.length_cons, List.length_nil, if_true, v_lt, v_gt, v_le, v_ge, v_eq, v_ne, v_add, v_sub, dB, decide_eq_true_eq, Bool.and_self, Bool.false_eq_true, if_false, Nat.reduceAdd, Nat.reduceEqDiff, and_self, true_and, decide_true, decide_false, Bool.not_true, Bool.not_false, e_expr, e_chain, e_vorT, e_vandT, e_vnotT, e_tyis, e_m0, m0K_s, e_join2, joinK_s, tru_bool, tru_tup, dB_bool, e_nrep, tyD_dat, isa_tuple, isa_str, isa_int, isa_bool, ty_int, isTup_none, isTup_bool, isTup_int, isTup_str, isTup_list, isTup_tuple, isTup_dict, isStr_none, isStr_bool, isStr_int, isStr_str, isStr_list, isStr_tuple, isStr_dict, isInt_none, isInt_bool, isInt_int, isInt_str, isInt_list, isInt_tuple, isInt_dict, isBol_none, isBol_bool, isBol_int, isBol_str, isBol_list, isBol_tuple, isBol_dict, Option.bind_some, Option.bind_none, if_true, if_false, id_eq, Int.cast_ofNat_Int, eq_self, ix_own.1, ix_own.2, ix_lst2.1, ix_lst2.2, e1, ix_bsD e, put_K, z2, len_tupS, m, e2]
  simp only [sSetO, List.getElem?_cons_zero, List.getElem?_cons_succ]
  simp only [e_bind_ok, e_stm_ok, e_then_nx, e_then_rt, e_then_bk, e_then_ct, e_optR, e_optB, e_optV, e_optT, e_seq, e_pass, e_asg, e_put, e_ret, e_if, e_var, e_d, e_bin, e_un, e_ix, e_tOf, e_tOfB, e_and, e_or, e_tnot, e_vand, e_vor, e_vnot, e_vif, e_set, e_par2, e_park2, e_park3, e_retref, e_nlst, e_nil, e_cons, e_cb, e_call, e_isi, e_tup, e_lst, e_dats_nil, e_dats_cons, e_for, e_rng, e_sqi, e_sti, seqO_t, strO_s, e_new, e_eOfN, e_sl, e_onone, e_osome, s_dat, s_ref, s_scr, s_nil, s_cons, e_fn, e_to_rt, e_to_nx, e_o1, Option.map_some, List.getElem?_cons_zero, List.getElem?_cons_succ, List.map_cons, List.map_nil, List.cons_append, List.nil_append, List.replicate, List.set_cons_zero, List.set_cons_succ, List.length_cons, List.length_nil, if_true, v_lt, v_gt, v_le, v_ge, v_eq, v_ne, v_add, v_sub, dB, decide_eq_true_eq, Bool.and_self, Bool.false_eq_true, if_false, Nat.reduceAdd, Nat.reduceEqDiff, and_self, true_and, decide_true, decide_false, Bool.not_true, Bool.not_false, e_expr, e_chain, e_vorT, e_vandT, e_vnotT, e_tyis, e_m0, m0K_s, e_join2, joinK_s, tru_bool, tru_tup, dB_bool, e_nrep, tyD_dat, isa_tuple, isa_str, isa_int, isa_bool, ty_int, isTup_none, isTup_bool, isTup_int, isTup_str, isTup_list, isTup_tuple, isTup_dict, isStr_none, isStr_bool, isStr_int, isStr_str, isStr_list, isStr_tuple, isStr_dict, isInt_none, isInt_bool, isInt_int, isInt_str, isInt_list, isInt_tuple, isInt_dict, isBol_none, isBol_bool, isBol_int, isBol_str, isBol_list, isBol_tuple, isBol_dict, Option.bind_some, Option.bind_none, if_true, if_false, id_eq, Int.cast_ofNat_Int, eq_self, ix_own.1, ix_own.2, ix_lst2.1, ix_lst2.2, e1, ix_bsD e, put_K, z2, len_tupS, m, e2, s0, s1]
  simp only [sSetO, List.getElem?_cons_zero, List.getElem?_cons_succ]
  simp only [e_bind_ok, e_stm_ok, e_then_nx, e_then_rt, e_then_bk, e_then_ct, e_optR, e_optB, e_optV, e_optT, e_seq, e_pass, e_asg, e_put, e_ret, e_if, e_var, e_d, e_bin, e_un, e_ix, e_tOf, e_tOfB, e_and, e_or, e_tnot, e_vand, e_vor, e_vnot, e_vif, e_set, e_par2, e_park2, e_park3, e_retref, e_nlst, e_nil, e_cons, e_cb, e_call, e_isi, e_tup, e_lst, e_dats_nil, e_dats_cons, e_for, e_rng, e_sqi, e_sti, seqO_t, strO_s, e_new, e_eOfN, e_sl, e_onone, e_osome, s_dat, s_ref, s_scr, s_nil, s_cons, e_fn, e_to_rt, e_to_nx, e_o1, Option.map_some, List.getElem?_cons_zero, List.getElem?_cons_succ, List.map_cons, List.map_nil, List.cons_append, List.nil_append, List.replicate, List.set_cons_zero, List.set_cons_succ, List.length_cons, List.length_nil, if_true, v_lt, v_gt, v_le, v_ge, v_eq, v_ne, v_add, v_sub, dB, decide_eq_true_eq, Bool.and_self, Bool.false_eq_true, if_false, Nat.reduceAdd, Nat.reduceEqDiff, and_self, true_and, decide_true, decide_false, Bool.not_true, Bool.not_false, e_expr, e_chain, e_vorT, e_vandT, e_vnotT, e_tyis, e_m0, m0K_s, e_join2, joinK_s, tru_bool, tru_tup, dB_bool, e_nrep, tyD_dat, isa_tuple, isa_str, isa_int, isa_bool, ty_int, isTup_none, isTup_bool, isTup_int, isTup_str, isTup_list, isTup_tuple, isTup_dict, isStr_none, isStr_bool, isStr_int, isStr_str, isStr_list, isStr_tuple, isStr_dict, isInt_none, isInt_bool, isInt_int, isInt_str, isInt_list, isInt_tuple, isInt_dict, isBol_none, isBol_bool, isBol_int, isBol_str, isBol_list, isBol_tuple, isBol_dict, Option.bind_some, Option.bind_none, if_true, if_false, id_eq, Int.cast_ofNat_Int, eq_self, ix_own.1, ix_own.2, ix_lst2.1, ix_lst2.2, e1, ix_bsD e, put_K, z2, len_tupS, m, e2, s0, s1, lp_nx]
  rw [forL_nil]
theorem same_body {ls : List Str} {bs : List Blk} (h : BsOk ls bs) {i : Nat} {b : Blk} (e : bs[i]? = some b) (x6 x7 x8 x9 x10 x11 x12 : Option D) (S : Store) :
    ∃ y6 y7 y8 y9 y10 y11 y12, lb__law_same_3 [some (.dat (bsD bs)), some (.dat (bsD bs)), some (.dat (.int (lenK bs : Nat))), some (.dat (.int (lenK (bs.take i) : Nat))), some (.own [.int ((i : Nat) - 1), .int ((i : Nat) - 1)]), some (.own [.int (lenK (bs.take i) : Nat), .int (lenK (bs.take i) : Nat)]), x6, x7, x8, x9, x10, x11, x12] S
      = .nx [some (.dat (bsD bs)), some (.dat (bsD bs)), some (.dat (.int (lenK bs : Nat))), some (.dat (.int (lenK (bs.take (i + 1)) : Nat))), some (.own [.int (((i + 1 : Nat) : Int) - 1), .int (((i + 1 : Nat) : Int) - 1)]), some (.own [.int (lenK (bs.take (i + 1)) : Nat), .int (lenK (bs.take (i + 1)) : Nat)]), y6, y7, y8, y9, y10, y11, y12] S := by
  have hb := List.mem_of_getElem? e
  have hne := (h.ok b hb).ne
  have hw := h.word b hb
  obtain ⟨y6, y7, y8, e1⟩ := same_side h e x6 x7 x8 x9 x10 x11 x12 S
  have e0 : rngO (.dat (.int 2)) S = .ok [.int 0, .int 1] S := rfl
  have ei : ((i + 1 : Nat) : Int) - 1 = (i : Nat) := by omega
  have e3 : ixD S (.dat (encK b)) (.dat (.int 0)) = some (.dat (tupS b.1)) := rfl
  have e4 : ((lenK (bs.take (i + 1)) : Nat) : Int) - ((lenK (bs.take i) : Nat) : Int) = ((b.1.length * b.2 : Nat) : Int) := by rw [take_succ_len e]; omega
  have e5 : ((b.1.length : Nat) : Int) + ((b.1.length : Nat) : Int) = ((b.1.length + b.1.length : Nat) : Int) := by omega
  have e6 : (two2 fun i j => if j < i then j else i) [.dat (.int ((b.1.length * b.2 : Nat) : Int)), .dat (.int ((b.1.length + b.1.length : Nat) : Int))] = some (.dat (.int ((min (b.1.length * b.2) (b.1.length + b.1.length) : Nat) : Int))) := two_min _ _
  have er : rngO (.dat (.int ((min (b.1.length * b.2) (b.1.length + b.1.length) : Nat) : Int))) S = .ok (rngD 0 (min (b.1.length * b.2) (b.1.length + b.1.length))) S := rngO_n (by omega)
  have loop : ∀ (ds : List PyData) (x11 x12 : Option D), (∀ d ∈ ds, ∃ k : Int, d = .int k) → ∃ y11 y12, forL (.nm 11) lb__law_same_2 ds [some (.dat (bsD bs)), some (.dat (bsD bs)), some (.dat (.int (lenK bs : Nat))), some (.dat (.int (lenK (bs.take i) : Nat))), some (.own [.int (i : Nat), .int (i : Nat)]), some (.own [.int (lenK (bs.take (i + 1)) : Nat), .int (lenK (bs.take (i + 1)) : Nat)]), y6, y7, y8, some (.dat (tupS b.1)), some (.dat (tupS b.1)), x11, x12] S
      = .nx [some (.dat (bsD bs)), some (.dat (bsD bs)), some (.dat (.int (lenK bs : Nat))), some (.dat (.int (lenK (bs.take i) : Nat))), some (.own [.int (i : Nat), .int (i : Nat)]), some (.own [.int (lenK (bs.take (i + 1)) : Nat), .int (lenK (bs.take (i + 1)) : Nat)]), y6, y7, y8, some (.dat (tupS b.1)), some (.dat (tupS b.1)), y11, y12] S := by
    intro ds
    induction ds with
    | nil => intro x11 x12 _; exact ⟨_, _, rfl⟩
    | cons d ds ih =>
      intro x11 x12 hd
      obtain ⟨k, rfl⟩ := hd d List.mem_cons_self
      have hp : (0 : Int) < b.1.length := by omega
      have hk0 := Int.emod_nonneg (k + ((lenK (bs.take i) : Nat) : Int) - ((lenK (bs.take (i + 1)) : Nat) : Int)) (show (b.1.length : Int) ≠ 0 by omega)
      have hk1 := Int.emod_lt_of_pos (k + ((lenK (bs.take i) : Nat) : Int) - ((lenK (bs.take (i + 1)) : Nat) : Int)) hp
      obtain ⟨m, em⟩ : ∃ m : Nat, (k + ((lenK (bs.take i) : Nat) : Int) - ((lenK (bs.take (i + 1)) : Nat) : Int)) % (b.1.length : Int) = m := ⟨_, (Int.toNat_of_nonneg hk0).symm⟩
      have hm : m < b.1.length := by omega
      have ex : ixD S (.dat (tupS b.1)) (.dat (.int (m : Nat))) = some (.dat (.str b.1[m])) := ix_tupS (List.getElem?_eq_getElem hm)
      have eb : lb__law_same_2 [some (.dat (bsD bs)), some (.dat (bsD bs)), some (.dat (.int (lenK bs : Nat))), some (.dat (.int (lenK (bs.take i) : Nat))), some (.own [.int (i : Nat), .int (i : Nat)]), some (.own [.int (lenK (bs.take (i + 1)) : Nat), .int (lenK (bs.take (i + 1)) : Nat)]), y6, y7, y8, some (.dat (tupS b.1)), some (.dat (tupS b.1)), some (.dat (.int k)), x12] S
          = .nx [some (.dat (bsD bs)), some (.dat (bsD bs)), some (.dat (.int (lenK bs : Nat))), some (.dat (.int (lenK (bs.take i) : Nat))), some (.own [.int (i : Nat), .int (i : Nat)]), some (.own [.int (lenK (bs.take (i + 1)) : Nat), .int (lenK (bs.take (i + 1)) : Nat)]), y6, y7, y8, some (.dat (tupS b.1)), some (.dat (tupS b.1)), some (.dat (.int k)), some (.dat (.str b.1[m]))] S := by
        unfold lb__law_same_2
        simp only [e_bind_ok, e_stm_ok, e_then_nx, e_then_rt, e_then_bk, e_then_ct, e_optR, e_optB, e_optV, e_optT, e_seq, e_pass, e_asg, e_put, e_ret, e_if, e_var, e_d, e_bin, e_un, e_ix, e_tOf, e_tOfB, e_and, e_or, e_tnot, e_vand, e_vor, e_vnot, e_vif, e_set, e_par2, e_park2, e_park3, e_retref, e_nlst, e_nil, e_cons, e_cb, e_call, e_isi, e_tup, e_lst, e_dats_nil, e_dats_cons, e_for, e_rng, e_sqi, e_sti, seqO_t, strO_s, e_new, e_eOfN, e_sl, e_onone, e_osome, s_dat, s_ref, s_scr, s_nil, s_cons, e_fn, e_to_rt, e_to_nx, e_o1, Option.map_some, List.getElem?_cons_zero, List.getElem?_cons_succ, List.map_cons, List.map_nil, List.cons_append, List.nil_append, List.replicate, List.set_cons_zero, List.set_cons_succ, List.length_cons, List.length_nil, if_true, v_lt, v_gt, v_le, v_ge, v_eq, v_ne, v_add, v_sub, dB, decide_eq_true_eq, Bool.and_self, Bool.false_eq_true, if_false, Nat.reduceAdd, Nat.reduceEqDiff, and_self, true_and, decide_true, decide_false, Bool.not_true, Bool.not_false, e_expr, e_chain, e_vorT, e_vandT, e_vnotT, e_tyis, e_m0, m0K_s, e_join2, joinK_s, tru_bool, tru_tup, dB_bool, e_nrep, tyD_dat, isa_tuple, isa_str, isa_int, isa_bool, ty_int, isTup_none, isTup_bool, isTup_int, isTup_str, isTup_list, isTup_tuple, isTup_dict, isStr_none, isStr_bool, isStr_int, isStr_str, isStr_list, isStr_tuple, isStr_dict, isInt_none, isInt_bool, isInt_int, isInt_str, isInt_list, isInt_tuple, isInt_dict, isBol_none, isBol_bool, isBol_int, isBol_str, isBol_list, isBol_tuple, isBol_dict, Option.bind_some, Option.bind_none, if_true, if_false, id_eq, Int.cast_ofNat_Int, eq_self, ix_own.1, ix_own.2, len_tupS, v_mod hp, em, ex, v_nes]
      obtain ⟨y11, y12, e⟩ := ih (some (.dat (.int k))) (some (.dat (.str b.1[m]))) fun d hd' => hd d (List.mem_cons_of_mem _ hd')
      refine ⟨y11, y12, ?_⟩
      rw [forL_cons, put_nm, putK_some]
      simp only [List.set_cons_zero, List.set_cons_succ]
      rw [eb, lp_nx, e]
  obtain ⟨y11, y12, e2⟩ := loop (rngD 0 (min (b.1.length * b.2) (b.1.length + b.1.length))) x11 x12 fun d hd => by
    obtain ⟨j, hj⟩ := List.getElem?_of_mem hd
    exact ⟨_, (rng_at hj).2⟩
  refine ⟨y6, y7, y8, some (.dat (tupS b.1)), some (.dat (tupS b.1)), y11, y12, ?_⟩
  unfold lb__law_same_3
  rw [ei]
  simp only [e_bind_ok, e_stm_ok, e_then_nx, e_then_rt, e_then_bk, e_then_ct, e_optR, e_optB, e_optV, e_optT, e_seq, e_pass, e_asg, e_put, e_ret, e_if, e_var, e_d, e_bin, e_un, e_ix, e_tOf, e_tOfB, e_and, e_or, e_tnot, e_vand, e_vor, e_vnot, e_vif, e_set, e_par2, e_park2, e_park3, e_retref, e_nlst, e_nil, e_cons, e_cb, e_call, e_isi, e_tup, e_lst, e_dats_nil, e_dats_cons, e_for, e_rng, e_sqi, e_sti, seqO_t, strO_s, e_new, e_eOfN, e_sl, e_onone, e_osome, s_dat, s_ref, s_scr, s_nil, s_cons, e_fn, e_to_rt, e_to_nx, e_o1, Option.map_some, List.getElem?_cons_zero, List.getElem?_cons_succ, List.map_cons, List.map_nil, List.cons_append, List.nil_append, List.replicate, List.set_cons_zero, List.set_cons_succ, List.length_cons, List.length_nil, if_true, v_lt, v_gt, v_le, v_ge, v_eq, v_ne, v_add, v_sub, dB, decide_eq_true_eq, Bool.and_self, Bool.false_eq_true, if_false, Nat.reduceAdd, Nat.reduceEqDiff, and_self, true_and, decide_true, decide_false, Bool.not_true, Bool.not_false, e_expr, e_chain, e_vorT, e_vandT, e_vnotT, e_tyis, e_m0, m0K_s, e_join2, joinK_s, tru_bool, tru_tup, dB_bool, e_nrep, tyD_dat, isa_tuple, isa_str, isa_int, isa_bool, ty_int, isTup_none, isTup_bool, isTup_int, isTup_str, isTup_list, isTup_tuple, isTup_dict, isStr_none, isStr_bool, isStr_int, isStr_str, isStr_list, isStr_tuple, isStr_dict, isInt_none, isInt_bool, isInt_int, isInt_str, isInt_list, isInt_tuple, isInt_dict, isBol_none, isBol_bool, isBol_int, isBol_str, isBol_list, isBol_tuple, isBol_dict, Option.bind_some, Option.bind_none, if_true, if_false, id_eq, Int.cast_ofNat_Int, eq_self, e0, e1, ix_own.1, ix_own.2, ix_bsD e, e3, min2, e4, len_tupS, e5, e6, er, e2]
end L3.LK23

/-! S23b -/
namespace L3.LK23
open PySem PySem.Spec PyProof.Rows L2 L3
theorem law_same_ok {ls : List Str} {bs : List Blk} (h : BsOk ls bs) (S : Store) : f__law_same [.dat (bsD bs), .dat (bsD bs)] S = .ok (.dat (.bool true)) S := by
  unfold f__law_same m__law_same
  have hl : f__law_length [.dat (bsD bs)] S = .ok (.dat (.int (lenK bs : Nat))) S := law_length_ok h S
  have total : ∀ i, bs.length ≤ i → lenK (bs.take i) = lenK bs := fun i hi => by rw [List.take_of_length_le hi]
  have hn : ∀ i, i < bs.length → lenK (bs.take i) < lenK bs := fun i hi => by
    have e : bs[i]? = some bs[i] := List.getElem?_eq_getElem hi
    have h1 := take_succ_len e
    have h2 : lenK bs = lenK (bs.take (i + 1)) + lenK (bs.drop (i + 1)) := by rw [← lenK_app, List.take_append_drop]
    have hk := h.ok _ (List.mem_of_getElem? e)
    have := Nat.mul_pos hk.ne hk.pos
    omega
  obtain ⟨n', rho', S', e, p, ht⟩ := whileL_ms (t := lt__law_same_1) (body := lb__law_same_3) (fun n rho S' => S' = S ∧ ∃ (i : Nat) (x6 x7 x8 x9 x10 x11 x12 : Option D), i ≤ bs.length ∧ n = bs.length - i ∧ rho = [some (.dat (bsD bs)), some (.dat (bsD bs)), some (.dat (.int (lenK bs : Nat))), some (.dat (.int (lenK (bs.take i) : Nat))), some (.own [.int ((i : Nat) - 1), .int ((i : Nat) - 1)]), some (.own [.int (lenK (bs.take i) : Nat), .int (lenK (bs.take i) : Nat)]), x6, x7, x8, x9, x10, x11, x12]) (by
    rintro n rho S' ⟨rfl, i, x6, x7, x8, x9, x10, x11, x12, hi, rfl, rfl⟩
    by_cases hlt : i < bs.length
    · right
      have e : bs[i]? = some bs[i] := List.getElem?_eq_getElem hlt
      obtain ⟨y6, y7, y8, y9, y10, y11, y12, eb⟩ := same_body h e x6 x7 x8 x9 x10 x11 x12 S'
      refine ⟨S', _, S', bs.length - (i + 1), ?_, eb, by omega, rfl, i + 1, _, _, _, _, _, _, _, hlt, rfl, rfl⟩
      unfold lt__law_same_1
      have := hn i hlt
      simp only [e_bind_ok, e_stm_ok, e_then_nx, e_then_rt, e_then_bk, e_then_ct, e_optR, e_optB, e_optV, e_optT, e_seq, e_pass, e_asg, e_put, e_ret, e_if, e_var, e_d, e_bin, e_un, e_ix, e_tOf, e_tOfB, e_and, e_or, e_tnot, e_vand, e_vor, e_vnot, e_vif, e_set, e_par2, e_park2, e_park3, e_retref, e_nlst, e_nil, e_cons, e_cb, e_call, e_isi, e_tup, e_lst, e_dats_nil, e_dats_cons, e_for, e_rng, e_sqi, e_sti, seqO_t, strO_s, e_new, e_eOfN, e_sl, e_onone, e_osome, s_dat, s_ref, s_scr, s_nil, s_cons, e_fn, e_to_rt, e_to_nx, e_o1, Option.map_some, List.getElem?_cons_zero, List.getElem?_cons_succ, List.map_cons, List.map_nil, List.cons_append, List.nil_append, List.replicate, List.set_cons_zero, List.set_cons_succ, List.length_cons, List.length_nil, if_true, v_lt, v_gt, v_le, v_ge, v_eq, v_ne, v_add, v_sub, dB, decide_eq_true_eq, Bool.and_self, Bool.false_eq_true, if_false, Nat.reduceAdd, Nat.reduceEqDiff, and_self, true_and, decide_true, decide_false, Bool.not_true, Bool.not_false, e_expr, e_chain, e_vorT, e_vandT, e_vnotT, e_tyis, e_m0, m0K_s, e_join2, joinK_s, tru_bool, tru_tup, dB_bool, e_nrep, tyD_dat, isa_tuple, isa_str, isa_int, isa_bool, ty_int, isTup_none, isTup_bool, isTup_int, isTup_str, isTup_list, isTup_tuple, isTup_dict, isStr_none, isStr_bool, isStr_int, isStr_str, isStr_list, isStr_tuple, isStr_dict, isInt_none, isInt_bool, isInt_int, isInt_str, isInt_list, isInt_tuple, isInt_dict, isBol_none, isBol_bool, isBol_int, isBol_str, isBol_list, isBol_tuple, isBol_dict, Option.bind_some, Option.bind_none, if_true, if_false, id_eq, Int.cast_ofNat_Int, eq_self, lt_cast, decide_eq_true this]
    · left
      unfold lt__law_same_1
      have := total i (by omega)
      simp only [e_bind_ok, e_stm_ok, e_then_nx, e_then_rt, e_then_bk, e_then_ct, e_optR, e_optB, e_optV, e_optT, e_seq, e_pass, e_asg, e_put, e_ret, e_if, e_var, e_d, e_bin, e_un, e_ix, e_tOf, e_tOfB, e_and, e_or, e_tnot, e_vand, e_vor, e_vnot, e_vif, e_set, e_par2, e_park2, e_park3, e_retref, e_nlst, e_nil, e_cons, e_cb, e_call, e_isi, e_tup, e_lst, e_dats_nil, e_dats_cons, e_for, e_rng, e_sqi, e_sti, seqO_t, strO_s, e_new, e_eOfN, e_sl, e_onone, e_osome, s_dat, s_ref, s_scr, s_nil, s_cons, e_fn, e_to_rt, e_to_nx, e_o1, Option.map_some, List.getElem?_cons_zero, List.getElem?_cons_succ, List.map_cons, List.map_nil, List.cons_append, List.nil_append, List.replicate, List.set_cons_zero, List.set_cons_succ, List.length_cons, List.length_nil, if_true, v_lt, v_gt, v_le, v_ge, v_eq, v_ne, v_add, v_sub, dB, decide_eq_true_eq, Bool.and_self, Bool.false_eq_true, if_false, Nat.reduceAdd, Nat.reduceEqDiff, and_self, true_and, decide_true, decide_false, Bool.not_true, Bool.not_false, e_expr, e_chain, e_vorT, e_vandT, e_vnotT, e_tyis, e_m0, m0K_s, e_join2, joinK_s, tru_bool, tru_tup, dB_bool, e_nrep, tyD_dat, isa_tuple, isa_str, isa_int, isa_bool, ty_int, isTup_none, isTup_bool, isTup_int, isTup_str, isTup_list, isTup_tuple, isTup_dict, isStr_none, isStr_bool, isStr_int, isStr_str, isStr_list, isStr_tuple, isStr_dict, isInt_none, isInt_bool, isInt_int, isInt_str, isInt_list, isInt_tuple, isInt_dict, isBol_none, isBol_bool, isBol_int, isBol_str, isBol_list, isBol_tuple, isBol_dict, Option.bind_some, Option.bind_none, if_true, if_false, id_eq, Int.cast_ofNat_Int, eq_self, lt_cast, this, Nat.lt_irrefl]) 1000000 bs.length [some (.dat (bsD bs)), some (.dat (bsD bs)), some (.dat (.int (lenK bs : Nat))), some (.dat (.int 0)), some (.own [.int (-1), .int (-1)]), some (.own [.int 0, .int 0]), none, none, none, none, none, none, none] S (by have := h.len; omega) ⟨rfl, 0, _, _, _, _, _, _, _, by omega, by omega, rfl⟩
  obtain ⟨rfl, _⟩ := p
  have n1 : negD (.dat (.int 1)) = some (.dat (.int (-1))) := rfl
  have ep : ∀ (rho : Sl) (f1 f2 : NF) (S : Store), sParOO 4 5 f1 f2 rho S = (f1 rho S).stm rho fun ds S1 => (f2 rho S1).stm rho fun es S2 => .nx ((rho.set 4 (some (.own ds))).set 5 (some (.own es))) S2 := fun _ _ _ _ => rfl
  simp only [e_bind_ok, e_stm_ok, e_then_nx, e_then_rt, e_then_bk, e_then_ct, e_optR, e_optB, e_optV, e_optT, e_seq, e_pass, e_asg, e_put, e_ret, e_if, e_var, e_d, e_bin, e_un, e_ix, e_tOf, e_tOfB, e_and, e_or, e_tnot, e_vand, e_vor, e_vnot, e_vif, e_set, e_par2, e_park2, e_park3, e_retref, e_nlst, e_nil, e_cons, e_cb, e_call, e_isi, e_tup, e_lst, e_dats_nil, e_dats_cons, e_for, e_rng, e_sqi, e_sti, seqO_t, strO_s, e_new, e_eOfN, e_sl, e_onone, e_osome, s_dat, s_ref, s_scr, s_nil, s_cons, e_fn, e_to_rt, e_to_nx, e_o1, Option.map_some, List.getElem?_cons_zero, List.getElem?_cons_succ, List.map_cons, List.map_nil, List.cons_append, List.nil_append, List.replicate, List.set_cons_zero, List.set_cons_succ, List.length_cons, List.length_nil, if_true, v_lt, v_gt, v_le, v_ge, v_eq, v_ne, v_add, v_sub, dB, decide_eq_true_eq, Bool.and_self, Bool.false_eq_true, if_false, Nat.reduceAdd, Nat.reduceEqDiff, and_self, true_and, decide_true, decide_false, Bool.not_true, Bool.not_false, e_expr, e_chain, e_vorT, e_vandT, e_vnotT, e_tyis, e_m0, m0K_s, e_join2, joinK_s, tru_bool, tru_tup, dB_bool, e_nrep, tyD_dat, isa_tuple, isa_str, isa_int, isa_bool, ty_int, isTup_none, isTup_bool, isTup_int, isTup_str, isTup_list, isTup_tuple, isTup_dict, isStr_none, isStr_bool, isStr_int, isStr_str, isStr_list, isStr_tuple, isStr_dict, isInt_none, isInt_bool, isInt_int, isInt_str, isInt_list, isInt_tuple, isInt_dict, isBol_none, isBol_bool, isBol_int, isBol_str, isBol_list, isBol_tuple, isBol_dict, Option.bind_some, Option.bind_none, if_true, if_false, id_eq, Int.cast_ofNat_Int, eq_self, hl, ep, n1, z2, e_while, e]
end L3.LK23

/-! T23 -/
namespace L3.LK23
open PySem PySem.Spec PyProof.Rows L2 L3
theorem pow18 : powD (.dat (.int 10)) (.dat (.int 18)) = some (.dat (.int 1000000000000000000)) := by rw [v_pow (by decide)]; rfl
theorem pow30 : powD (.dat (.int 10)) (.dat (.int 30)) = some (.dat (.int 1000000000000000000000000000000)) := by rw [v_pow (by decide)]; rfl
theorem pow35 : powD (.dat (.int 10)) (.dat (.int 35)) = some (.dat (.int 100000000000000000000000000000000000)) := by rw [v_pow (by decide)]; rfl
theorem times_ok {r m : Nat} {S : Store} (h : SV r m S) (hm : m < 10 ^ 40) : ∃ (t : Nat) (S' : Store), f__law_times [.ref r] S = .ok (.dat (.int (t : Nat))) S' ∧ 1 ≤ t ∧ t ≤ 10 ^ 30 ∧ SV r (m + 3) S' := by
  obtain ⟨v1, S1, d1, h10, h11, s1⟩ := draw_ok h (n := 12) (by omega) (by omega) (by omega)
  obtain ⟨v2, S2, d2, h20, h21, s2⟩ := draw_ok s1 (n := 1000000000000000000) (by omega) (by omega) (by omega)
  obtain ⟨v3, S3, d3, h30, h31, s3⟩ := draw_ok s2 (n := 7) (by omega) (by omega) (by omega)
  have z7 : 7 ≤ sizeLine := by decide
  have ix : ∃ t : Nat, 1 ≤ t ∧ t ≤ 10 ^ 30 ∧ ixD S3 (.dat (.list [.int 1, .int 1, .int 2, .int 3, .int (1 + v1), .int (1 + v2), .int 1000000000000000000000000000000])) (.dat (.int v3)) = some (.dat (.int (t : Nat))) := by
    have : v3 = 0 ∨ v3 = 1 ∨ v3 = 2 ∨ v3 = 3 ∨ v3 = 4 ∨ v3 = 5 ∨ v3 = 6 := by omega
    rcases this with rfl | rfl | rfl | rfl | rfl | rfl | rfl
    · exact ⟨1, by omega, by omega, rfl⟩
    · exact ⟨1, by omega, by omega, rfl⟩
    · exact ⟨2, by omega, by omega, rfl⟩
    · exact ⟨3, by omega, by omega, rfl⟩
    · exact ⟨(1 + v1).toNat, by omega, by omega, by rw [Int.toNat_of_nonneg (by omega)]; rfl⟩
    · exact ⟨(1 + v2).toNat, by omega, by omega, by rw [Int.toNat_of_nonneg (by omega)]; rfl⟩
    · exact ⟨10 ^ 30, by omega, by omega, rfl⟩
  obtain ⟨t, t1, t2, ix⟩ := ix
  refine ⟨t, S3, ?_, t1, t2, s3⟩
  unfold f__law_times m__law_times
  simp only [e_bind_ok, e_stm_ok, e_then_nx, e_then_rt, e_then_bk, e_then_ct, e_optR, e_optB, e_optV, e_optT, e_seq, e_pass, e_asg, e_put, e_ret, e_if, e_var, e_d, e_bin, e_un, e_ix, e_tOf, e_tOfB, e_and, e_or, e_tnot, e_vand, e_vor, e_vnot, e_vif, e_set, e_par2, e_park2, e_park3, e_retref, e_nlst, e_nil, e_cons, e_cb, e_call, e_isi, e_tup, e_lst, e_dats_nil, e_dats_cons, e_for, e_rng, e_sqi, e_sti, seqO_t, strO_s, e_new, e_eOfN, e_sl, e_onone, e_osome, s_dat, s_ref, s_scr, s_nil, s_cons, e_fn, e_to_rt, e_to_nx, e_o1, Option.map_some, List.getElem?_cons_zero, List.getElem?_cons_succ, List.map_cons, List.map_nil, List.cons_append, List.nil_append, List.replicate, List.set_cons_zero, List.set_cons_succ, List.length_cons, List.length_nil, if_true, v_lt, v_gt, v_le, v_ge, v_eq, v_ne, v_add, v_sub, dB, decide_eq_true_eq, Bool.and_self, Bool.false_eq_true, if_false, Nat.reduceAdd, Nat.reduceEqDiff, and_self, true_and, decide_true, decide_false, Bool.not_true, Bool.not_false, e_expr, e_chain, e_vorT, e_vandT, e_vnotT, e_tyis, e_m0, m0K_s, e_join2, joinK_s, tru_bool, tru_tup, dB_bool, e_nrep, tyD_dat, isa_tuple, isa_str, isa_int, isa_bool, ty_int, isTup_none, isTup_bool, isTup_int, isTup_str, isTup_list, isTup_tuple, isTup_dict, isStr_none, isStr_bool, isStr_int, isStr_str, isStr_list, isStr_tuple, isStr_dict, isInt_none, isInt_bool, isInt_int, isInt_str, isInt_list, isInt_tuple, isInt_dict, isBol_none, isBol_bool, isBol_int, isBol_str, isBol_list, isBol_tuple, isBol_dict, Option.bind_some, Option.bind_none, if_true, if_false, id_eq, Int.cast_ofNat_Int, eq_self, d1, pow18, d2, pow30, d3, z7, ix]
theorem block_word_ok {r m most : Nat} {ls : List Str} {S : Store} (h : SV r m S) (hl0 : 0 < ls.length) (hl : ls.length ≤ 100) (h1 : 1 ≤ most) (hn : most ≤ 100) (hm : m < 10 ^ 40) : ∃ ws S', f__law_block_word [.ref r, .dat (tupS ls), .dat (.int most)] S = .ok (.dat (tupS ws)) S' ∧ 1 ≤ ws.length ∧ ws.length ≤ most ∧ (∀ x ∈ ws, x ∈ ls) ∧ SV r (m + most + 1) S' := by
  obtain ⟨v, S1, d1, h0, h1, s1⟩ := draw_ok h (n := most) (by omega) (by omega) (by omega)
  obtain ⟨n, en⟩ : ∃ n : Nat, 1 + v = n := ⟨(1 + v).toNat, by omega⟩
  obtain ⟨acc, S', e, ws, rfl, hw, hm2, hS⟩ := nlc_ix (items := iRng (eBin addD (eD (.int 1)) (eCall f__law_draw 2 (aCons (eVar 0) (aCons (eVar 2) aNil))))) (t := .nm 3) (elt := le__law_block_word_1) (vs := [3]) (rho := [some (D.ref r), some (D.dat (tupS ls)), some (D.dat (PyData.int most)), none]) (S := S) (S1 := S1)
    (rngD 0 n) (fun i acc S => ∃ ws : List Str, acc = ws.map .str ∧ ws.length = i ∧ (∀ x ∈ ws, x ∈ ls) ∧ SV r (m + 1 + i) S) (by simp only [e_bind_ok, e_stm_ok, e_then_nx, e_then_rt, e_then_bk, e_then_ct, e_optR, e_optB, e_optV, e_optT, e_seq, e_pass, e_asg, e_put, e_ret, e_if, e_var, e_d, e_bin, e_un, e_ix, e_tOf, e_tOfB, e_and, e_or, e_tnot, e_vand, e_vor, e_vnot, e_vif, e_set, e_par2, e_park2, e_park3, e_retref, e_nlst, e_nil, e_cons, e_cb, e_call, e_isi, e_tup, e_lst, e_dats_nil, e_dats_cons, e_for, e_rng, e_sqi, e_sti, seqO_t, strO_s, e_new, e_eOfN, e_sl, e_onone, e_osome, s_dat, s_ref, s_scr, s_nil, s_cons, e_fn, e_to_rt, e_to_nx, e_o1, Option.map_some, List.getElem?_cons_zero, List.getElem?_cons_succ, List.map_cons, List.map_nil, List.cons_append, List.nil_append, List.replicate, List.set_cons_zero, List.set_cons_succ, List.length_cons, List.length_nil, if_true, v_lt, v_gt, v_le, v_ge, v_eq, v_ne, v_add, v_sub, dB, decide_eq_true_eq, Bool.and_self, Bool.false_eq_true, if_false, Nat.reduceAdd, Nat.reduceEqDiff, and_self, true_and, decide_true, decide_false, Bool.not_true, Bool.not_false, e_expr, e_chain, e_vorT, e_vandT, e_vnotT, e_tyis, e_m0, m0K_s, e_join2, joinK_s, tru_bool, tru_tup, dB_bool, e_nrep, tyD_dat, isa_tuple, isa_str, isa_int, isa_bool, ty_int, isTup_none, isTup_bool, isTup_int, isTup_str, isTup_list, isTup_tuple, isTup_dict, isStr_none, isStr_bool, isStr_int, isStr_str, isStr_list, isStr_tuple, isStr_dict, isInt_none, isInt_bool, isInt_int, isInt_str, isInt_list, isInt_tuple, isInt_dict, isBol_none, isBol_bool, isBol_int, isBol_str, isBol_list, isBol_tuple, isBol_dict, Option.bind_some, Option.bind_none, if_true, if_false, id_eq, Int.cast_ofNat_Int, eq_self, d1, en, rngO_n (show n ≤ 1000000 by omega)]) rfl rfl ⟨[], rfl, rfl, by simp, s1⟩ (by
      rintro j d acc S hd ⟨ws, rfl, hw, hm2, hS⟩
      obtain ⟨hj, rfl⟩ := rng_at hd
      obtain ⟨v, S2, e1, h0, h1, h2⟩ := draw_ok hS (n := ls.length) (by omega) (by omega) (by omega)
      obtain ⟨k, rfl⟩ : ∃ k : Nat, v = k := ⟨v.toNat, by omega⟩
      have hk : k < ls.length := by omega
      have e2 : ixD S2 (.dat (tupS ls)) (.dat (.int (k : Nat))) = some (.dat (.str ls[k])) := ix_tupS (List.getElem?_eq_getElem hk)
      refine ⟨_, .str ls[k], S2, put_nm, ?_, ?_, ws ++ [ls[k]], by rw [List.map_append]; rfl, by rw [List.length_append, hw]; rfl, ?_, h2⟩
      · unfold le__law_block_word_1
        rw [show wipeD [some (D.ref r), some (D.dat (tupS ls)), some (D.dat (PyData.int most)), none] [3] = [some (D.ref r), some (D.dat (tupS ls)), some (D.dat (PyData.int most)), none] from rfl]
        simp only [e_bind_ok, e_stm_ok, e_then_nx, e_then_rt, e_then_bk, e_then_ct, e_optR, e_optB, e_optV, e_optT, e_seq, e_pass, e_asg, e_put, e_ret, e_if, e_var, e_d, e_bin, e_un, e_ix, e_tOf, e_tOfB, e_and, e_or, e_tnot, e_vand, e_vor, e_vnot, e_vif, e_set, e_par2, e_park2, e_park3, e_retref, e_nlst, e_nil, e_cons, e_cb, e_call, e_isi, e_tup, e_lst, e_dats_nil, e_dats_cons, e_for, e_rng, e_sqi, e_sti, seqO_t, strO_s, e_new, e_eOfN, e_sl, e_onone, e_osome, s_dat, s_ref, s_scr, s_nil, s_cons, e_fn, e_to_rt, e_to_nx, e_o1, Option.map_some, List.getElem?_cons_zero, List.getElem?_cons_succ, List.map_cons, List.map_nil, List.cons_append, List.nil_append, List.replicate, List.set_cons_zero, List.set_cons_succ, List.length_cons, List.length_nil, if_true, v_lt, v_gt, v_le, v_ge, v_eq, v_ne, v_add, v_sub, dB, decide_eq_true_eq, Bool.and_self, Bool.false_eq_true, if_false, Nat.reduceAdd, Nat.reduceEqDiff, and_self, true_and, decide_true, decide_false, Bool.not_true, Bool.not_false, e_expr, e_chain, e_vorT, e_vandT, e_vnotT, e_tyis, e_m0, m0K_s, e_join2, joinK_s, tru_bool, tru_tup, dB_bool, e_nrep, tyD_dat, isa_tuple, isa_str, isa_int, isa_bool, ty_int, isTup_none, isTup_bool, isTup_int, isTup_str, isTup_list, isTup_tuple, isTup_dict, isStr_none, isStr_bool, isStr_int, isStr_str, isStr_list, isStr_tuple, isStr_dict, isInt_none, isInt_bool, isInt_int, isInt_str, isInt_list, isInt_tuple, isInt_dict, isBol_none, isBol_bool, isBol_int, isBol_str, isBol_list, isBol_tuple, isBol_dict, Option.bind_some, Option.bind_none, if_true, if_false, id_eq, Int.cast_ofNat_Int, eq_self, e1, e2, len_tupS]
      · rw [List.length_map]
        exact Nat.lt_of_lt_of_le (show ws.length < 1000 by omega) (by decide)
      · intro x hx
        rcases List.mem_append.mp hx with hx | hx
        · exact hm2 x hx
        · rw [List.mem_singleton.mp hx]; exact List.getElem_mem hk)
  rw [rng_len] at hw hS
  refine ⟨ws, S', ?_, by omega, by omega, hm2, hS.mono (by omega)⟩
  unfold f__law_block_word m__law_block_word
  simp only [e_bind_ok, e_stm_ok, e_then_nx, e_then_rt, e_then_bk, e_then_ct, e_optR, e_optB, e_optV, e_optT, e_seq, e_pass, e_asg, e_put, e_ret, e_if, e_var, e_d, e_bin, e_un, e_ix, e_tOf, e_tOfB, e_and, e_or, e_tnot, e_vand, e_vor, e_vnot, e_vif, e_set, e_par2, e_park2, e_park3, e_retref, e_nlst, e_nil, e_cons, e_cb, e_call, e_isi, e_tup, e_lst, e_dats_nil, e_dats_cons, e_for, e_rng, e_sqi, e_sti, seqO_t, strO_s, e_new, e_eOfN, e_sl, e_onone, e_osome, s_dat, s_ref, s_scr, s_nil, s_cons, e_fn, e_to_rt, e_to_nx, e_o1, Option.map_some, List.getElem?_cons_zero, List.getElem?_cons_succ, List.map_cons, List.map_nil, List.cons_append, List.nil_append, List.replicate, List.set_cons_zero, List.set_cons_succ, List.length_cons, List.length_nil, if_true, v_lt, v_gt, v_le, v_ge, v_eq, v_ne, v_add, v_sub, dB, decide_eq_true_eq, Bool.and_self, Bool.false_eq_true, if_false, Nat.reduceAdd, Nat.reduceEqDiff, and_self, true_and, decide_true, decide_false, Bool.not_true, Bool.not_false, e_expr, e_chain, e_vorT, e_vandT, e_vnotT, e_tyis, e_m0, m0K_s, e_join2, joinK_s, tru_bool, tru_tup, dB_bool, e_nrep, tyD_dat, isa_tuple, isa_str, isa_int, isa_bool, ty_int, isTup_none, isTup_bool, isTup_int, isTup_str, isTup_list, isTup_tuple, isTup_dict, isStr_none, isStr_bool, isStr_int, isStr_str, isStr_list, isStr_tuple, isStr_dict, isInt_none, isInt_bool, isInt_int, isInt_str, isInt_list, isInt_tuple, isInt_dict, isBol_none, isBol_bool, isBol_int, isBol_str, isBol_list, isBol_tuple, isBol_dict, Option.bind_some, Option.bind_none, if_true, if_false, id_eq, Int.cast_ofNat_Int, eq_self, e, tup_of]
  rfl
theorem blocks_draw_ok {r m most : Nat} {ls : List Str} {S : Store} (h : SV r m S) (hl0 : 0 < ls.length) (hl : ls.length ≤ 100) (hn : most ≤ 10) (hm : m < 10 ^ 35) : ∃ bs S', f__law_blocks [.ref r, .dat (tupS ls), .dat (.int most)] S = .ok (.dat (bsD bs)) S' ∧ bs.length ≤ most ∧ (∀ b ∈ bs, KOk ls b ∧ b.1.length ≤ 5) ∧ SV r (m + 200) S' := by
  obtain ⟨v, S1, d1, h0, h1, s1⟩ := draw_ok h (n := most + 1) (by omega) (by omega) (by omega)
  obtain ⟨n, rfl⟩ : ∃ n : Nat, v = n := ⟨v.toNat, by omega⟩
  obtain ⟨rho', S', e, bs, x4, rfl, hw, hb, hS⟩ := forL_ix (t := .nm 4) (body := lb__law_blocks_1) (fun i rho S => ∃ (bs : List Blk) (x4 : Option D), rho = [some (.ref r), some (.dat (tupS ls)), some (.dat (.int most)), some (.own (bs.map encK)), x4] ∧ bs.length = i ∧ (∀ b ∈ bs, KOk ls b ∧ b.1.length ≤ 5) ∧ SV r (m + 1 + 12 * i) S)
    (rngD 0 n) 0 [some (.ref r), some (.dat (tupS ls)), some (.dat (.int most)), some (.own []), none] S1 ⟨[], none, rfl, rfl, by simp, s1⟩ (by
      rintro j d rho S hd ⟨bs, x4, rfl, hw, hb, hS⟩
      obtain ⟨hj, rfl⟩ := rng_at hd
      refine ⟨_, put_nm, ?_⟩
      obtain ⟨v2, S2, d2, h20, h21, s2⟩ := draw_ok hS (n := 4) (by omega) (by omega) (by omega)
      obtain ⟨w, hw2, p2⟩ := pick4 (S := S2) (a := 1) (b := 2) (c := 3) (d := 5) h20 h21
      obtain ⟨k, rfl⟩ : ∃ k : Nat, w = k := ⟨w.toNat, by omega⟩
      obtain ⟨ws, S3, e3, w1, w2, w3, s3⟩ := block_word_ok s2 hl0 hl (most := k) (by omega) (by omega) (by omega)
      obtain ⟨t, S4, e4, t1, t2, s4⟩ := times_ok s3 (by omega)
      have lt : bs.length < sizeLine := Nat.lt_of_lt_of_le (show bs.length < 1000 by omega) (by decide)
      have z4 : 4 ≤ sizeLine := by decide
      refine ⟨[some (.ref r), some (.dat (tupS ls)), some (.dat (.int most)), some (.own ((bs ++ [(ws, t)]).map encK)), some (.dat (.int (0 + (j : Nat))))], S4, .inl ?_, bs ++ [(ws, t)], _, rfl, by rw [List.length_append, hw]; rfl, ?_, s4.mono (by omega)⟩
      · unfold lb__law_blocks_1
        simp only [sApp, List.set_cons_zero, List.set_cons_succ, List.getElem?_cons_zero, List.getElem?_cons_succ]
        simp only [e_bind_ok, e_stm_ok, e_then_nx, e_then_rt, e_then_bk, e_then_ct, e_optR, e_optB, e_optV, e_optT, e_seq, e_pass, e_asg, e_put, e_ret, e_if, e_var, e_d, e_bin, e_un, e_ix, e_tOf, e_tOfB, e_and, e_or, e_tnot, e_vand, e_vor, e_vnot, e_vif, e_set, e_par2, e_park2, e_park3, e_retref, e_nlst, e_nil, e_cons, e_cb, e_call, e_isi, e_tup, e_lst, e_dats_nil, e_dats_cons, e_for, e_rng, e_sqi, e_sti, seqO_t, strO_s, e_new, e_eOfN, e_sl, e_onone, e_osome, s_dat, s_ref, s_scr, s_nil, s_cons, e_fn, e_to_rt, e_to_nx, e_o1, Option.map_some, List.getElem?_cons_zero, List.getElem?_cons_succ, List.map_cons, List.map_nil, List.cons_append, List.nil_append, List.replicate, List.set_cons_zero, List.set_cons_succ, List.length_cons, List.length_nil, if_true, v_lt, v_gt, v_le, v_ge, v_eq, v_ne, v_add, v_sub, dB, decide_eq_true_eq, Bool.and_self, Bool.false_eq_true, if_false, Nat.reduceAdd, Nat.reduceEqDiff, and_self, true_and, decide_true, decide_false, Bool.not_true, Bool.not_false, e_expr, e_chain, e_vorT, e_vandT, e_vnotT, e_tyis, e_m0, m0K_s, e_join2, joinK_s, tru_bool, tru_tup, dB_bool, e_nrep, tyD_dat, isa_tuple, isa_str, isa_int, isa_bool, ty_int, isTup_none, isTup_bool, isTup_int, isTup_str, isTup_list, isTup_tuple, isTup_dict, isStr_none, isStr_bool, isStr_int, isStr_str, isStr_list, isStr_tuple, isStr_dict, isInt_none, isInt_bool, isInt_int, isInt_str, isInt_list, isInt_tuple, isInt_dict, isBol_none, isBol_bool, isBol_int, isBol_str, isBol_list, isBol_tuple, isBol_dict, Option.bind_some, Option.bind_none, if_true, if_false, id_eq, Int.cast_ofNat_Int, eq_self, d2, p2, e3, e4, z4, z2, List.length_map, lt, List.map_append]
        rfl
      · intro x hx
        rcases List.mem_append.mp hx with hx | hx
        · exact hb x hx
        · rw [List.mem_singleton.mp hx]
          exact ⟨⟨by show 0 < ws.length; omega, w3, t1, t2⟩, by show ws.length ≤ 5; omega⟩)
  rw [rng_len, Nat.zero_add] at hw hS
  refine ⟨bs, S', ?_, by omega, hb, hS.mono (by omega)⟩
  unfold f__law_blocks m__law_blocks
  have e1 : ((most : Nat) : Int) + 1 = ((most + 1 : Nat) : Int) := by omega
  have d1' : f__law_draw [.ref r, .dat (.int ((most + 1 : Nat) : Int))] S = .ok (.dat (.int (n : Nat))) S1 := by
    rw [show ((most + 1 : Nat) : Int) = (most : Int) + 1 by omega]
    exact d1
  have tp : tupD (.own (bs.map encK)) = some (.dat (bsD bs)) := rfl
  simp only [e_bind_ok, e_stm_ok, e_then_nx, e_then_rt, e_then_bk, e_then_ct, e_optR, e_optB, e_optV, e_optT, e_seq, e_pass, e_asg, e_put, e_ret, e_if, e_var, e_d, e_bin, e_un, e_ix, e_tOf, e_tOfB, e_and, e_or, e_tnot, e_vand, e_vor, e_vnot, e_vif, e_set, e_par2, e_park2, e_park3, e_retref, e_nlst, e_nil, e_cons, e_cb, e_call, e_isi, e_tup, e_lst, e_dats_nil, e_dats_cons, e_for, e_rng, e_sqi, e_sti, seqO_t, strO_s, e_new, e_eOfN, e_sl, e_onone, e_osome, s_dat, s_ref, s_scr, s_nil, s_cons, e_fn, e_to_rt, e_to_nx, e_o1, Option.map_some, List.getElem?_cons_zero, List.getElem?_cons_succ, List.map_cons, List.map_nil, List.cons_append, List.nil_append, List.replicate, List.set_cons_zero, List.set_cons_succ, List.length_cons, List.length_nil, if_true, v_lt, v_gt, v_le, v_ge, v_eq, v_ne, v_add, v_sub, dB, decide_eq_true_eq, Bool.and_self, Bool.false_eq_true, if_false, Nat.reduceAdd, Nat.reduceEqDiff, and_self, true_and, decide_true, decide_false, Bool.not_true, Bool.not_false, e_expr, e_chain, e_vorT, e_vandT, e_vnotT, e_tyis, e_m0, m0K_s, e_join2, joinK_s, tru_bool, tru_tup, dB_bool, e_nrep, tyD_dat, isa_tuple, isa_str, isa_int, isa_bool, ty_int, isTup_none, isTup_bool, isTup_int, isTup_str, isTup_list, isTup_tuple, isTup_dict, isStr_none, isStr_bool, isStr_int, isStr_str, isStr_list, isStr_tuple, isStr_dict, isInt_none, isInt_bool, isInt_int, isInt_str, isInt_list, isInt_tuple, isInt_dict, isBol_none, isBol_bool, isBol_int, isBol_str, isBol_list, isBol_tuple, isBol_dict, Option.bind_some, Option.bind_none, if_true, if_false, id_eq, Int.cast_ofNat_Int, eq_self, e1, d1', rngO_n (show n ≤ 1000000 by omega), z0, e, tp]
end L3.LK23

/-! U23 -/
namespace L3.LK23
open PySem PySem.Spec PyProof.Rows L2 L3
theorem lenK_le {ls : List Str} : ∀ {bs : List Blk}, (∀ b ∈ bs, KOk ls b ∧ b.1.length ≤ 5) → lenK bs ≤ bs.length * (5 * 10 ^ 30)
  | [], _ => by simp [lenK]
  | b :: r, h => by
    obtain ⟨hb, hw⟩ := h b List.mem_cons_self
    have ih := lenK_le fun x hx => h x (List.mem_cons_of_mem _ hx)
    have : b.1.length * b.2 ≤ 5 * 10 ^ 30 := Nat.mul_le_mul hw hb.most
    simp only [lenK, List.length_cons]
    omega
theorem add_list (xs ys : List PyData) (h : xs.length + ys.length ≤ 10000) : addD (.dat (.list xs)) (.dat (.list ys)) = some (.dat (.list (xs ++ ys))) := by
  have : xs.length + ys.length ≤ sizeLine := line_small (by omega)
  simp [addD, vw, okLen, isScr, this]
theorem positions_ok {r m : Nat} {ls : List Str} {bs : List Blk} {S : Store} (h : SV r m S) (hb : ∀ b ∈ bs, KOk ls b ∧ b.1.length ≤ 5) (hl : bs.length ≤ 10) (hB : BsOk ls bs) (hm : m < 10 ^ 35) : ∃ (ps : List Int) (S' : Store), f__law_positions [.ref r, .dat (bsD bs)] S = .ok (.dat (.list (ps.map .int))) S' ∧ (∀ p ∈ ps, p < 10 ^ 36) ∧ ps.length ≤ 100 ∧ SV r (m + 50) S' := by
  have hL := lenK_le hb
  have hL2 : lenK bs ≤ 5 * 10 ^ 31 := by
    rw [show (5 * 10 ^ 30 : Nat) = 5000000000000000000000000000000 from rfl] at hL
    rw [show (5 * 10 ^ 31 : Nat) = 50000000000000000000000000000000 from rfl]
    omega
  unfold f__law_positions m__law_positions
  have el := law_length_ok hB S
  have emx : (two2 fun i j => if j > i then j else i) [.dat (.int 0), .dat (.int ((lenK bs : Nat) - 1))] = some (.dat (.int (if ((lenK bs : Nat) : Int) - 1 > 0 then ((lenK bs : Nat) : Int) - 1 else 0))) := rfl
  have z5 : 5 ≤ sizeLine := by decide
  have ei : seqO (.dat (bsD bs)) S = .ok (bs.map encK) S := rfl
  -- the loop
  have loop : ∀ (suf pre : List Blk) (ps : List Int) (x5 x6 : Option D) (S : Store) (k : Nat), bs = pre ++ suf → SV r (m + k) S → k + suf.length ≤ 20 → (∀ p ∈ ps, p < 10 ^ 36) → ps.length + 4 * suf.length ≤ 90 →
      ∃ (ps' : List Int) (x3 y5 y6 : Option D) (S' : Store), forL (.tup [.nm 5, .nm 6]) lb__law_positions_1 (suf.map encK) [some (.ref r), some (.dat (bsD bs)), some (.dat (.int (lenK bs : Nat))), some (.dat (.int (lenK pre : Nat))), some (.dat (.list (ps.map .int))), x5, x6] S
        = .nx [some (.ref r), some (.dat (bsD bs)), some (.dat (.int (lenK bs : Nat))), x3, some (.dat (.list (ps'.map .int))), y5, y6] S' ∧ (∀ p ∈ ps', p < 10 ^ 36) ∧ ps'.length ≤ 90 ∧ SV r (m + 20) S' := by
    intro suf
    induction suf with
    | nil => intro pre ps x5 x6 S k e hS hk hp hps; exact ⟨ps, some (.dat (.int (lenK pre : Nat))), x5, x6, S, rfl, hp, by simp at hps; omega, hS.mono (by simp at hk; omega)⟩
    | cons b suf ih =>
      intro pre ps x5 x6 S k e hS hk hp hps
      have hbm : b ∈ bs := by rw [e]; simp
      obtain ⟨v, S1, d1, h0, h1, s1⟩ := draw_ok hS (n := 9) (by omega) (by omega) (by omega)
      have el : lenK (pre ++ [b]) = lenK pre + b.1.length * b.2 := by rw [lenK_app]; simp [lenK]
      have ec : ((lenK pre : Nat) : Int) + ((b.1.length * b.2 : Nat) : Int) = ((lenK (pre ++ [b]) : Nat) : Int) := by rw [el]; omega
      have hle : lenK (pre ++ [b]) ≤ lenK bs := by
        have : lenK bs = lenK (pre ++ [b]) + lenK suf := by rw [e, ← lenK_app]; simp
        omega
      obtain ⟨A, hA⟩ : ∃ A, A = lenK (pre ++ [b]) := ⟨_, rfl⟩
      rw [← hA] at el ec hle
      have emx : ∀ x : Int, (two2 fun i j => if j > i then j else i) [.dat (.int 0), .dat (.int x)] = some (.dat (.int (if x > 0 then x else 0))) := fun _ => rfl
      have ea := add_list (ps.map .int) [.int ((A : Nat) - 1), .int (A : Nat), .int ((A : Nat) + 1), .int (if ((A : Nat) : Int) - 1 - v > 0 then ((A : Nat) : Int) - 1 - v else 0)] (by simp at hps ⊢; omega)
      have z4 : 4 ≤ sizeLine := by decide
      have ih' := ih (pre ++ [b]) (ps ++ [((A : Nat) : Int) - 1, ((A : Nat) : Int), ((A : Nat) : Int) + 1, if ((A : Nat) : Int) - 1 - v > 0 then ((A : Nat) : Int) - 1 - v else 0]) (some (.dat (tupS b.1))) (some (.dat (.int (b.2 : Nat)))) S1 (k + 1) (by rw [e]; simp) (s1.mono (by omega)) (by simp at hk; omega) (by
        intro p hp'
        rcases List.mem_append.mp hp' with q | q
        · exact hp p q
        · simp only [List.mem_cons, List.not_mem_nil, or_false] at q
          rcases q with rfl | rfl | rfl | rfl
          · omega
          · omega
          · omega
          · split <;> omega) (by simp at hps ⊢; omega)
      rw [List.map_append] at ih'
      obtain ⟨ps', y3, y5, y6, S', e', h1', h2', h3'⟩ := ih'
      refine ⟨ps', y3, y5, y6, S', ?_, h1', h2', h3'⟩
      rw [List.map_cons, forL_cons, put_K, putK_some]
      simp only [List.set_cons_zero, List.set_cons_succ]
      have eb : lb__law_positions_1 [some (.ref r), some (.dat (bsD bs)), some (.dat (.int (lenK bs : Nat))), some (.dat (.int (lenK pre : Nat))), some (.dat (.list (ps.map .int))), some (.dat (tupS b.1)), some (.dat (.int (b.2 : Nat)))] S
          = .nx [some (.ref r), some (.dat (bsD bs)), some (.dat (.int (lenK bs : Nat))), some (.dat (.int (A : Nat))), some (.dat (.list (ps.map .int ++ [.int ((A : Nat) - 1), .int (A : Nat), .int ((A : Nat) + 1), .int (if ((A : Nat) : Int) - 1 - v > 0 then ((A : Nat) : Int) - 1 - v else 0)]))), some (.dat (tupS b.1)), some (.dat (.int (b.2 : Nat)))] S1 := by
        unfold lb__law_positions_1
        simp only [e_bind_ok, e_stm_ok, e_then_nx, e_then_rt, e_then_bk, e_then_ct, e_optR, e_optB, e_optV, e_optT, e_seq, e_pass, e_asg, e_put, e_ret, e_if, e_var, e_d, e_bin, e_un, e_ix, e_tOf, e_tOfB, e_and, e_or, e_tnot, e_vand, e_vor, e_vnot, e_vif, e_set, e_par2, e_park2, e_park3, e_retref, e_nlst, e_nil, e_cons, e_cb, e_call, e_isi, e_tup, e_lst, e_dats_nil, e_dats_cons, e_for, e_rng, e_sqi, e_sti, seqO_t, strO_s, e_new, e_eOfN, e_sl, e_onone, e_osome, s_dat, s_ref, s_scr, s_nil, s_cons, e_fn, e_to_rt, e_to_nx, e_o1, Option.map_some, List.getElem?_cons_zero, List.getElem?_cons_succ, List.map_cons, List.map_nil, List.cons_append, List.nil_append, List.replicate, List.set_cons_zero, List.set_cons_succ, List.length_cons, List.length_nil, if_true, v_lt, v_gt, v_le, v_ge, v_eq, v_ne, v_add, v_sub, dB, decide_eq_true_eq, Bool.and_self, Bool.false_eq_true, if_false, Nat.reduceAdd, Nat.reduceEqDiff, and_self, true_and, decide_true, decide_false, Bool.not_true, Bool.not_false, e_expr, e_chain, e_vorT, e_vandT, e_vnotT, e_tyis, e_m0, m0K_s, e_join2, joinK_s, tru_bool, tru_tup, dB_bool, e_nrep, tyD_dat, isa_tuple, isa_str, isa_int, isa_bool, ty_int, isTup_none, isTup_bool, isTup_int, isTup_str, isTup_list, isTup_tuple, isTup_dict, isStr_none, isStr_bool, isStr_int, isStr_str, isStr_list, isStr_tuple, isStr_dict, isInt_none, isInt_bool, isInt_int, isInt_str, isInt_list, isInt_tuple, isInt_dict, isBol_none, isBol_bool, isBol_int, isBol_str, isBol_list, isBol_tuple, isBol_dict, Option.bind_some, Option.bind_none, if_true, if_false, id_eq, Int.cast_ofNat_Int, eq_self, len_tupS, mul_K (a := b.1.length) (b := b.2) (by have := (hb b hbm).2; omega) (hb b hbm).1.most, ec, d1, emx, z4, ea]
      rw [eb, lp_nx]
      rw [← hA] at e'
      exact e'
  obtain ⟨ps, x3, x5, x6, S1, e1, h1, h2, s1⟩ := loop bs [] [0, ((lenK bs : Nat) : Int), ((lenK bs : Nat) : Int) + 1, (if ((lenK bs : Nat) : Int) - 1 > 0 then ((lenK bs : Nat) : Int) - 1 else 0), ((lenK bs : Nat) : Int) + 100000000000000000000000000000000000] none none S 0 rfl h (by omega) (by
    intro p hp
    simp only [List.mem_cons, List.not_mem_nil, or_false] at hp
    rcases hp with rfl | rfl | rfl | rfl | rfl
    · omega
    · omega
    · omega
    · split <;> omega
    · omega) (by simp; omega)
  obtain ⟨v2, S2, d2, h20, h21, s2⟩ := draw_ok s1 (n := ((lenK bs : Nat) : Int) + 1) (by omega) (by omega) (by omega)
  obtain ⟨v3, S3, d3, h30, h31, s3⟩ := draw_ok s2 (n := ((lenK bs : Nat) : Int) + 1) (by omega) (by omega) (by omega)
  refine ⟨ps ++ [v2, v3], S3, ?_, ?_, by simp; omega, s3.mono (by omega)⟩
  · have ea := add_list (ps.map .int) [.int v2, .int v3] (by simp; omega)
    have e1 : forL (.tup [.nm 5, .nm 6]) lb__law_positions_1 (bs.map encK) [some (.ref r), some (.dat (bsD bs)), some (.dat (.int (lenK bs : Nat))), some (.dat (.int 0)), some (.dat (.list [.int 0, .int (lenK bs : Nat), .int ((lenK bs : Nat) + 1), .int (if ((lenK bs : Nat) : Int) - 1 > 0 then ((lenK bs : Nat) : Int) - 1 else 0), .int (((lenK bs : Nat) : Int) + 100000000000000000000000000000000000)])), none, none] S = _ := e1
    simp only [e_bind_ok, e_stm_ok, e_then_nx, e_then_rt, e_then_bk, e_then_ct, e_optR, e_optB, e_optV, e_optT, e_seq, e_pass, e_asg, e_put, e_ret, e_if, e_var, e_d, e_bin, e_un, e_ix, e_tOf, e_tOfB, e_and, e_or, e_tnot, e_vand, e_vor, e_vnot, e_vif, e_set, e_par2, e_park2, e_park3, e_retref, e_nlst, e_nil, e_cons, e_cb, e_call, e_isi, e_tup, e_lst, e_dats_nil, e_dats_cons, e_for, e_rng, e_sqi, e_sti, seqO_t, strO_s, e_new, e_eOfN, e_sl, e_onone, e_osome, s_dat, s_ref, s_scr, s_nil, s_cons, e_fn, e_to_rt, e_to_nx, e_o1, Option.map_some, List.getElem?_cons_zero, List.getElem?_cons_succ, List.map_cons, List.map_nil, List.cons_append, List.nil_append, List.replicate, List.set_cons_zero, List.set_cons_succ, List.length_cons, List.length_nil, if_true, v_lt, v_gt, v_le, v_ge, v_eq, v_ne, v_add, v_sub, dB, decide_eq_true_eq, Bool.and_self, Bool.false_eq_true, if_false, Nat.reduceAdd, Nat.reduceEqDiff, and_self, true_and, decide_true, decide_false, Bool.not_true, Bool.not_false, e_expr, e_chain, e_vorT, e_vandT, e_vnotT, e_tyis, e_m0, m0K_s, e_join2, joinK_s, tru_bool, tru_tup, dB_bool, e_nrep, tyD_dat, isa_tuple, isa_str, isa_int, isa_bool, ty_int, isTup_none, isTup_bool, isTup_int, isTup_str, isTup_list, isTup_tuple, isTup_dict, isStr_none, isStr_bool, isStr_int, isStr_str, isStr_list, isStr_tuple, isStr_dict, isInt_none, isInt_bool, isInt_int, isInt_str, isInt_list, isInt_tuple, isInt_dict, isBol_none, isBol_bool, isBol_int, isBol_str, isBol_list, isBol_tuple, isBol_dict, Option.bind_some, Option.bind_none, if_true, if_false, id_eq, Int.cast_ofNat_Int, eq_self, el, emx, pow35, z5, ei, e1, d2, d3, z2, ea, List.map_append]
  · intro p hp
    rcases List.mem_append.mp hp with q | q
    · exact h1 p q
    · simp only [List.mem_cons, List.not_mem_nil, or_false] at q
      rcases q with rfl | rfl <;> omega
end L3.LK23

/-! W23 -/
namespace L3.LK23
open PySem PySem.Spec PyProof.Rows L2 L3
def tl_m_law : SF := (sSeq (sAsg (.nm 5) (eTup (aCons (eTup (aCons (eTup (aCons (eD (.str "a")) (aCons (eD (.str "b")) (aCons (eD (.str "c")) aNil)))) (aCons (eBin powD (eD (.int 10)) (eD (.int 30))) aNil))) (aCons (eTup (aCons (eTup (aCons (eD (.str "c")) aNil)) (aCons (eD (.int 2)) aNil))) aNil)))) (sSeq (sAsg (.nm 8) (eOfN (nLc (iSeq (eTup (aCons (eBin subD (eBin mulD (eD (.int 3)) (eBin powD (eD (.int 10)) (eD (.int 30)))) (eD (.int 1))) (aCons (eBin addD (eBin mulD (eD (.int 3)) (eBin powD (eD (.int 10)) (eD (.int 30)))) (eD (.int 1))) (aCons (eBin addD (eBin mulD (eD (.int 3)) (eBin powD (eD (.int 10)) (eD (.int 30)))) (eD (.int 2))) aNil))))) (.nm 10) tTrue le_law_1 [10]))) (sSeq (sIf (tOrL (tNotL (tOf (eCall f__law_same 2 (aCons (eIx (eVar 8) (eD (.int 0))) (aCons (eTup (aCons (eTup (aCons (eTup (aCons (eD (.str "c")) aNil)) (aCons (eD (.int 3)) aNil))) aNil)) aNil))))) (tOrL (tNotL (tOf (eCall f__law_same 2 (aCons (eIx (eVar 8) (eD (.int 1))) (aCons (eTup (aCons (eTup (aCons (eTup (aCons (eD (.str "c")) aNil)) (aCons (eD (.int 1)) aNil))) aNil)) aNil))))) (tOfB (eBin (neD) (eIx (eVar 8) (eD (.int 2))) (eTup aNil))))) (sRet (eD (.bool false))) sPass) (sSeq (sAsg (.nm 9) (eBin mulD (eTup (aCons (eTup (aCons (eTup (aCons (eD (.str "a")) aNil)) (aCons (eBin powD (eD (.int 10)) (eD (.int 30))) aNil))) aNil)) (eD (.int 2)))) (sSeq (sFor (iSeq (eTup (aCons (eD (.int 0)) (aCons (eD (.int 1)) (aCons (eBin subD (eBin powD (eD (.int 10)) (eD (.int 30))) (eD (.int 1))) (aCons (eBin addD (eBin powD (eD (.int 10)) (eD (.int 30))) (eD (.int 1))) aNil)))))) (.nm 10) lb_law_4) (sRet (eAnd (eBin (eqD) (eCall f_dropped 3 (aCons (eTup (aCons (eD (.str "a")) aNil)) (aCons (eTup aNil) (aCons (eD (.int 0)) aNil)))) (eTup aNil)) (eBin (eqD) (eCall f_dropped 3 (aCons (eTup (aCons (eD (.str "a")) aNil)) (aCons (eTup aNil) (aCons (eBin powD (eD (.int 10)) (eD (.int 39))) aNil)))) (eTup aNil)))))))))
theorem sp_m_law : m_law = (sSeq (sFor (iRng (eCB (two2 fun i j => if j > i then j else i) (aCons (eD (.int 1)) (aCons (eCB (two2 fun i j => if j < i then j else i) (aCons (eD (.int 10)) (aCons (eCB (o1 lenD) (aCons (eVar 0) aNil)) aNil))) aNil)))) (.nm 1) lb_law_3) tl_m_law) := rfl
theorem tail_ok (x0 y1 y2 y3 y4 y5 y6 y7 : Option D) (S : Store) : tl_m_law [x0, y1, y2, y3, y4, y5, y6, y7, none, none, none, none] S = .rt (.dat (.bool true)) S := by kernel_rfl
end L3.LK23

/-! F23 -/
namespace L3.LK23
open PySem PySem.Spec PyProof.Rows L2 L3
theorem BsOk.of {ls : List Str} {bs : List Blk} (h : ∀ b ∈ bs, KOk ls b ∧ b.1.length ≤ 5) (hl : bs.length ≤ 10) : BsOk ls bs := ⟨fun b m => (h b m).1, by omega, fun b m => by have := (h b m).2; omega⟩
theorem BsOk.drop {ls : List Str} {bs : List Blk} (h : BsOk ls bs) (hl : bs.length ≤ 500) (n : Nat) : BsOk ls (dropK bs n) := ⟨dropK_ok h.ok, by have := dropK_len (bs := bs) (n := n); omega, dropK_word h.word⟩
theorem ixT1 {a b : PyData} {S : Store} : ixD S (.dat (.tuple [a, b])) (.dat (.int 1)) = some (.dat b) := rfl
theorem is_true : isD not (.dat (.bool true)) (.dat (.bool true)) = some (.dat (.bool false)) := rfl
theorem eqvAll_nil (ds : List PyData) : PyData.eqvAll ds [] = ds.isEmpty := by cases ds <;> simp [PyData.eqvAll]
theorem plain_K (bs : List Blk) : (bsD bs).plain = true := by
  unfold bsD
  rw [PyData.plain]
  exact plain_all encK (fun b => by unfold encK; simp [PyData.plain, PyData.plainAll, plain_strT b.1, tupS, plain_strs]) bs
theorem eq_nil (bs : List Blk) : eqD (.dat (bsD bs)) (.dat (.tuple [])) = some (.dat (.bool bs.isEmpty)) := by
  rw [v_eqT (plain_K bs) rfl (Nat.le_trans (Nat.min_le_right _ _) (by decide))]
  unfold bsD
  rw [PyData.eqv, eqvAll_nil]
  cases bs <;> rfl
theorem ne_bool (a b : Bool) : neD (.dat (.bool a)) (.dat (.bool b)) = some (.dat (.bool (a != b))) := by cases a <;> cases b <;> rfl
theorem drop_right_ok {r m n k : Nat} {ls : List Str} {bs : List Blk} {S : Store} (hS : SV r m S) (hm : m < 10 ^ 35) (hl : labelsB (tupS ls) = true) (hs : Sm (tupS ls)) (hb : ∀ b ∈ bs, KOk ls b ∧ b.1.length ≤ 5) (hbl : bs.length ≤ 10) (hn : n < 10 ^ 36) :
    ∃ S', f__law_drop_right [.ref r, .dat (tupS ls), .dat (bsD bs), .dat (.int (n : Nat))] S = .ok (.dat (.bool true)) S' ∧ SV r (m + 1) S' := by
  have hB := BsOk.of hb hbl
  have hD := hB.drop (by omega) n
  obtain ⟨a, ec⟩ := law_cut_ok hB n S
  have ed := dropped_ok hl hs hB n S
  have ei := is_blocks_ok hl hs hD S
  have es := law_same_ok hD S
  have el := law_length_ok hB S
  have ebl := blocks_length_ok hl hs hD S
  have ela := label_at_ok hl hs hD 0 S
  have ell := law_label_ok hB n S
  have hne : ∀ b ∈ bs, 0 < b.1.length := fun b mb => (hB.ok b mb).ne
  rw [lenK_drop bs n hne] at ebl
  rw [lab0_drop bs n hne] at ela
  have e1 : (dropK bs n).isEmpty = decide (((lenK bs : Nat) : Int) ≤ ((n : Nat) : Int)) := by
    rw [Bool.eq_iff_iff, List.isEmpty_iff, drop_nil hB.ok, decide_eq_true_eq]
    omega
  have e2 : ((dropK bs n).isEmpty != decide (((lenK bs : Nat) : Int) ≤ ((n : Nat) : Int))) = false := by rw [e1]; simp
  have emx : (two2 fun i j => if j > i then j else i) [.dat (.int 0), .dat (.int (((lenK bs : Nat) : Int) - ((n : Nat) : Int)))] = some (.dat (.int ((lenK bs - n : Nat) : Int))) := by
    show some (D.dat (.int (if ((lenK bs : Nat) : Int) - ((n : Nat) : Int) > 0 then ((lenK bs : Nat) : Int) - ((n : Nat) : Int) else 0))) = _
    congr 3
    split <;> omega
  obtain ⟨v, S2, d2, h20, h21, s2⟩ := draw_ok hS (n := ((n : Nat) : Int) + 1) (by omega) (by omega) (by omega)
  obtain ⟨few, rfl⟩ : ∃ f : Nat, v = f := ⟨v.toNat, by omega⟩
  have hF := hB.drop (by omega) few
  have ed1 := dropped_ok hl hs hB few S2
  have hFl : (dropK bs few).length ≤ 500 := by have := dropK_len (bs := bs) (n := few); omega
  have ed2 := dropped_ok hl hs hF (n - few) S2
  rw [drop_add bs few _ hne, show few + (n - few) = n by omega] at ed2
  have esb : ((n : Nat) : Int) - ((few : Nat) : Int) = ((n - few : Nat) : Int) := by omega
  have es2 := law_same_ok hD S2
  refine ⟨S2, ?_, s2⟩
  unfold f__law_drop_right m__law_drop_right
  have ela : f_label_at [.dat (tupS ls), .dat (bsD (dropK bs n)), .dat (.int 0)] S = .ok (.dat (.str (labK bs n))) S := ela
  simp only [e_bind_ok, e_stm_ok, e_then_nx, e_then_rt, e_then_bk, e_then_ct, e_optR, e_optB, e_optV, e_optT, e_seq, e_pass, e_asg, e_put, e_ret, e_if, e_var, e_d, e_bin, e_un, e_ix, e_tOf, e_tOfB, e_and, e_or, e_tnot, e_vand, e_vor, e_vnot, e_vif, e_set, e_par2, e_park2, e_park3, e_retref, e_nlst, e_nil, e_cons, e_cb, e_call, e_isi, e_tup, e_lst, e_dats_nil, e_dats_cons, e_for, e_rng, e_sqi, e_sti, seqO_t, strO_s, e_new, e_eOfN, e_sl, e_onone, e_osome, s_dat, s_ref, s_scr, s_nil, s_cons, e_fn, e_to_rt, e_to_nx, e_o1, Option.map_some, List.getElem?_cons_zero, List.getElem?_cons_succ, List.map_cons, List.map_nil, List.cons_append, List.nil_append, List.replicate, List.set_cons_zero, List.set_cons_succ, List.length_cons, List.length_nil, if_true, v_lt, v_gt, v_le, v_ge, v_eq, v_ne, v_add, v_sub, dB, decide_eq_true_eq, Bool.and_self, Bool.false_eq_true, if_false, Nat.reduceAdd, Nat.reduceEqDiff, and_self, true_and, decide_true, decide_false, Bool.not_true, Bool.not_false, e_expr, e_chain, e_vorT, e_vandT, e_vnotT, e_tyis, e_m0, m0K_s, e_join2, joinK_s, tru_bool, tru_tup, dB_bool, e_nrep, tyD_dat, isa_tuple, isa_str, isa_int, isa_bool, ty_int, isTup_none, isTup_bool, isTup_int, isTup_str, isTup_list, isTup_tuple, isTup_dict, isStr_none, isStr_bool, isStr_int, isStr_str, isStr_list, isStr_tuple, isStr_dict, isInt_none, isInt_bool, isInt_int, isInt_str, isInt_list, isInt_tuple, isInt_dict, isBol_none, isBol_bool, isBol_int, isBol_str, isBol_list, isBol_tuple, isBol_dict, Option.bind_some, Option.bind_none, if_true, if_false, id_eq, Int.cast_ofNat_Int, eq_self, ec, ixT1, ed, ei, is_true, es, eq_nil, el, v_ge, ne_bool, e2, ebl, emx, ela, ell, v_nes, d2, ed1, ed2, esb, es2, v_ne, z0]
theorem rok_K {ls : List Str} {b : Blk} (hn : ∀ x ∈ ls, Nm x) (h : KOk ls b) (hw : b.1.length ≤ 5) : Rok (encK b) 5000 2 := by
  have h1 : Rok (tupS b.1) 500 1 := (rok_tupS (len := 5) (fun x hx => hn x (h.mem x hx)) hw).mono (by omega) (by omega)
  have h2 : Rok (.int (b.2 : Nat)) 2000 1 := by
    refine ⟨?_, ?_, Nat.zero_le _⟩
    · simp only [Shw]
      have hm := h.most
      have : b.2.log2 < 101 := by
        by_cases h0 : b.2 = 0
        · rw [h0]; decide
        · exact (Nat.log2_lt h0).mpr (Nat.lt_of_le_of_lt hm (by decide))
      exact Nat.lt_trans (show _ < 101 from this) (by decide)
    · simp only [sz]
      split
      · omega
      · have hm := h.most
        have : b.2.log2 < 101 := by
          by_cases h0 : b.2 = 0
          · rw [h0]; decide
          · exact (Nat.log2_lt h0).mpr (Nat.lt_of_le_of_lt hm (by decide))
        have : ((b.2 : Nat) : Int).natAbs.log2 < 101 := this
        omega
  exact (rok_tup (n := 2000) (k := 1) (len := 2) (rok_cons (h1.mono (by omega) (by omega)) (rok_cons h2 rok_nil)) (by simp)).mono (by omega) (by omega)
end L3.LK23

/-! H23 -/
namespace L3.LK23
open PySem PySem.Spec PyProof.Rows L2 L3
/-- the positions of one value -/
theorem law_1 {r : Nat} {ls : List Str} {bs : List Blk} (hl : labelsB (tupS ls) = true) (hs : Sm (tupS ls)) (hb : ∀ b ∈ bs, KOk ls b ∧ b.1.length ≤ 5) (hbl : bs.length ≤ 10) (x0 x1 x4 x6 : Option D) :
    ∀ (ps : List Int) (x7 : Option D) (S : Store) (m : Nat), SV r m S → m + ps.length < 10 ^ 35 → (∀ p ∈ ps, p < 10 ^ 36) →
    ∃ (y7 : Option D) (S' : Store), forL (.nm 7) lb_law_1 (ps.map .int) [x0, x1, some (.ref r), some (.dat (tupS ls)), x4, some (.dat (bsD bs)), x6, x7, none, none, none, none] S = .nx [x0, x1, some (.ref r), some (.dat (tupS ls)), x4, some (.dat (bsD bs)), x6, y7, none, none, none, none] S' ∧ SV r (m + ps.length) S'
  | [], x7, S, m, hS, _, _ => ⟨x7, S, rfl, hS⟩
  | p :: ps, x7, S, m, hS, hm, hp => by
    rw [List.length_cons] at hm
    obtain ⟨n, en, hn⟩ : ∃ n : Nat, (two2 fun i j => if j > i then j else i) [.dat (.int 0), .dat (.int p)] = some (.dat (.int (n : Nat))) ∧ n < 10 ^ 36 := by
      have hp0 := hp p List.mem_cons_self
      refine ⟨p.toNat, ?_, by omega⟩
      show some (D.dat (.int (if p > 0 then p else 0))) = _
      congr 3
      split <;> omega
    obtain ⟨S1, e1, s1⟩ := drop_right_ok (k := 0) hS (by omega) hl hs hb hbl hn
    obtain ⟨y7, S', e2, s2⟩ := law_1 hl hs hb hbl x0 x1 x4 x6 ps (some (.dat (.int p))) S1 (m + 1) s1 (by omega) fun q hq => hp q (List.mem_cons_of_mem _ hq)
    refine ⟨y7, S', ?_, s2.mono (by rw [List.length_cons]; omega)⟩
    rw [List.map_cons, forL_cons, put_nm, putK_some]
    simp only [List.set_cons_zero, List.set_cons_succ]
    have eb : lb_law_1 [x0, x1, some (.ref r), some (.dat (tupS ls)), x4, some (.dat (bsD bs)), x6, some (.dat (.int p)), none, none, none, none] S = .nx [x0, x1, some (.ref r), some (.dat (tupS ls)), x4, some (.dat (bsD bs)), x6, some (.dat (.int p)), none, none, none, none] S1 := by
      unfold lb_law_1
      simp only [e_bind_ok, e_stm_ok, e_then_nx, e_then_rt, e_then_bk, e_then_ct, e_optR, e_optB, e_optV, e_optT, e_seq, e_pass, e_asg, e_put, e_ret, e_if, e_var, e_d, e_bin, e_un, e_ix, e_tOf, e_tOfB, e_and, e_or, e_tnot, e_vand, e_vor, e_vnot, e_vif, e_set, e_par2, e_park2, e_park3, e_retref, e_nlst, e_nil, e_cons, e_cb, e_call, e_isi, e_tup, e_lst, e_dats_nil, e_dats_cons, e_for, e_rng, e_sqi, e_sti, seqO_t, strO_s, e_new, e_eOfN, e_sl, e_onone, e_osome, s_dat, s_ref, s_scr, s_nil, s_cons, e_fn, e_to_rt, e_to_nx, e_o1, Option.map_some, List.getElem?_cons_zero, List.getElem?_cons_succ, List.map_cons, List.map_nil, List.cons_append, List.nil_append, List.replicate, List.set_cons_zero, List.set_cons_succ, List.length_cons, List.length_nil, if_true, v_lt, v_gt, v_le, v_ge, v_eq, v_ne, v_add, v_sub, dB, decide_eq_true_eq, Bool.and_self, Bool.false_eq_true, if_false, Nat.reduceAdd, Nat.reduceEqDiff, and_self, true_and, decide_true, decide_false, Bool.not_true, Bool.not_false, e_expr, e_chain, e_vorT, e_vandT, e_vnotT, e_tyis, e_m0, m0K_s, e_join2, joinK_s, tru_bool, tru_tup, dB_bool, e_nrep, tyD_dat, isa_tuple, isa_str, isa_int, isa_bool, ty_int, isTup_none, isTup_bool, isTup_int, isTup_str, isTup_list, isTup_tuple, isTup_dict, isStr_none, isStr_bool, isStr_int, isStr_str, isStr_list, isStr_tuple, isStr_dict, isInt_none, isInt_bool, isInt_int, isInt_str, isInt_list, isInt_tuple, isInt_dict, isBol_none, isBol_bool, isBol_int, isBol_str, isBol_list, isBol_tuple, isBol_dict, Option.bind_some, Option.bind_none, if_true, if_false, id_eq, Int.cast_ofNat_Int, eq_self, en, e1]
    rw [eb, lp_nx]
    exact e2
theorem law_2 {r n m : Nat} {ls : List Str} (hN : Names n ls) (h1 : 1 ≤ n) (hn : n ≤ 12) (x0 x1 x4 x5 x6 x7 : Option D) (S : Store) (hS : SV r m S) (hm : m < 10 ^ 30) :
    ∃ (y5 y6 y7 : Option D) (S' : Store), lb_law_2 [x0, x1, some (.ref r), some (.dat (tupS ls)), x4, x5, x6, x7, none, none, none, none] S = .nx [x0, x1, some (.ref r), some (.dat (tupS ls)), x4, y5, y6, y7, none, none, none, none] S' ∧ SV r (m + 1000) S' := by
  have hll : ls.length = n := hN.len
  have hl : labelsB (tupS ls) = true := by
    unfold labelsB
    rw [names_namesB hN]
    show (true && (decide (1 ≤ (ls.map PyData.str).length) && decide ((ls.map PyData.str).length ≤ 12))) = true
    rw [List.length_map, hll, decide_eq_true h1, decide_eq_true hn]
    rfl
  have hs : Sm (tupS ls) := sm_tupS (by omega) hN.small
  obtain ⟨bs, S1, e1, b1, b2, s1⟩ := blocks_draw_ok hS (ls := ls) (most := 5) (by omega) (by omega) (by omega) (by omega)
  have hB := BsOk.of b2 (by omega)
  obtain ⟨ps, S2, e2, p1, p2, s2⟩ := positions_ok s1 b2 (by omega) hB (by omega)
  have rk : Rok (bsD bs) 100000 3 := (rok_tup (n := 5000) (k := 2) (len := 10) (fun d md => by
    obtain ⟨b, mb, rfl⟩ := List.mem_map.mp md
    exact rok_K (fun x hx => (hN.ok x hx).nm) (b2 b mb).1 (b2 b mb).2) (by rw [List.length_map]; omega)).mono (by omega) (by omega)
  have q1 := rk.repr
  obtain ⟨y7, S3, e3, s3⟩ := law_1 hl hs b2 (by omega) x0 x1 x4 (some (.dat (.str (bsD bs).shown))) ps x7 S2 (m + 200 + 50) s2 (by omega) p1
  refine ⟨some (.dat (bsD bs)), some (.dat (.str (bsD bs).shown)), y7, S3, ?_, s3.mono (by omega)⟩
  unfold lb_law_2
  have e1 : f__law_blocks [.ref r, .dat (tupS ls), .dat (.int 5)] S = .ok (.dat (bsD bs)) S1 := e1
  simp only [e_bind_ok, e_stm_ok, e_then_nx, e_then_rt, e_then_bk, e_then_ct, e_optR, e_optB, e_optV, e_optT, e_seq, e_pass, e_asg, e_put, e_ret, e_if, e_var, e_d, e_bin, e_un, e_ix, e_tOf, e_tOfB, e_and, e_or, e_tnot, e_vand, e_vor, e_vnot, e_vif, e_set, e_par2, e_park2, e_park3, e_retref, e_nlst, e_nil, e_cons, e_cb, e_call, e_isi, e_tup, e_lst, e_dats_nil, e_dats_cons, e_for, e_rng, e_sqi, e_sti, seqO_t, strO_s, e_new, e_eOfN, e_sl, e_onone, e_osome, s_dat, s_ref, s_scr, s_nil, s_cons, e_fn, e_to_rt, e_to_nx, e_o1, Option.map_some, List.getElem?_cons_zero, List.getElem?_cons_succ, List.map_cons, List.map_nil, List.cons_append, List.nil_append, List.replicate, List.set_cons_zero, List.set_cons_succ, List.length_cons, List.length_nil, if_true, v_lt, v_gt, v_le, v_ge, v_eq, v_ne, v_add, v_sub, dB, decide_eq_true_eq, Bool.and_self, Bool.false_eq_true, if_false, Nat.reduceAdd, Nat.reduceEqDiff, and_self, true_and, decide_true, decide_false, Bool.not_true, Bool.not_false, e_expr, e_chain, e_vorT, e_vandT, e_vnotT, e_tyis, e_m0, m0K_s, e_join2, joinK_s, tru_bool, tru_tup, dB_bool, e_nrep, tyD_dat, isa_tuple, isa_str, isa_int, isa_bool, ty_int, isTup_none, isTup_bool, isTup_int, isTup_str, isTup_list, isTup_tuple, isTup_dict, isStr_none, isStr_bool, isStr_int, isStr_str, isStr_list, isStr_tuple, isStr_dict, isInt_none, isInt_bool, isInt_int, isInt_str, isInt_list, isInt_tuple, isInt_dict, isBol_none, isBol_bool, isBol_int, isBol_str, isBol_list, isBol_tuple, isBol_dict, Option.bind_some, Option.bind_none, if_true, if_false, id_eq, Int.cast_ofNat_Int, eq_self, e1, q1, e_ilst, e2, lstO_l, e3, v_nes]
theorem law_3 (ns : List Int) (k : Nat) (hk : k < 100) (x2 x3 x4 x5 x6 x7 : Option D) (S : Store) :
    ∃ y2 y3 y4 y5 y6 y7 S', lb_law_3 [some (.scr ns), some (.dat (.int k)), x2, x3, x4, x5, x6, x7, none, none, none, none] S = .nx [some (.scr ns), some (.dat (.int k)), y2, y3, y4, y5, y6, y7, none, none, none, none] S' := by
  obtain ⟨S1, e1, s1⟩ := stream_ok (ns := ns) (at_ := k) (S := S) hk
  obtain ⟨v1, S2, d2, h20, h21, s2⟩ := draw_ok s1 (n := 3) (by omega) (by omega) (by omega)
  obtain ⟨a, ea⟩ : ∃ a : Nat, 1 + v1 = a := ⟨(1 + v1).toNat, by omega⟩
  obtain ⟨ls, S3, e3, n3, s3⟩ := names_ok s2 (n := a) (by omega) (by omega)
  have e3 : f__law_names [.ref S.length, .dat (.int a)] S2 = .ok (.dat (tupS ls)) S3 := e3
  have er : rngO (.dat (.int 3)) S3 = .ok (rngD 0 3) S3 := rngO_n (n := 3) (by omega)
  obtain ⟨rho', S', e, y4, y5, y6, y7, n', rfl, hn', sn⟩ := forL_ix (t := .nm 4) (body := lb_law_2) (fun j rho S' => ∃ y4 y5 y6 y7 n', rho = [some (.scr ns), some (.dat (.int k)), some (.ref S.length), some (.dat (tupS ls)), y4, y5, y6, y7, none, none, none, none] ∧ n' ≤ 10 ^ 10 + 1000 * j ∧ SV S.length n' S') (rngD 0 3) 0 [some (.scr ns), some (.dat (.int k)), some (.ref S.length), some (.dat (tupS ls)), x4, x5, x6, x7, none, none, none, none] S3 ⟨_, _, _, _, _, rfl, by omega, s3⟩ (by
    rintro j d rho S' hd ⟨y4, y5, y6, y7, n', rfl, hn', sn⟩
    obtain ⟨hj, rfl⟩ := rng_at hd
    obtain ⟨z5, z6, z7, S9, e, s9⟩ := law_2 n3 (by omega) (by omega) (some (.scr ns)) (some (.dat (.int k))) (some (.dat (.int (0 + (j : Nat))))) y5 y6 y7 S' sn (by omega)
    exact ⟨_, put_nm, _, S9, .inl e, _, _, _, _, _, rfl, by omega, s9⟩)
  refine ⟨some (.ref S.length), some (.dat (tupS ls)), y4, y5, y6, y7, S', ?_⟩
  unfold lb_law_3
  simp only [e_bind_ok, e_stm_ok, e_then_nx, e_then_rt, e_then_bk, e_then_ct, e_optR, e_optB, e_optV, e_optT, e_seq, e_pass, e_asg, e_put, e_ret, e_if, e_var, e_d, e_bin, e_un, e_ix, e_tOf, e_tOfB, e_and, e_or, e_tnot, e_vand, e_vor, e_vnot, e_vif, e_set, e_par2, e_park2, e_park3, e_retref, e_nlst, e_nil, e_cons, e_cb, e_call, e_isi, e_tup, e_lst, e_dats_nil, e_dats_cons, e_for, e_rng, e_sqi, e_sti, seqO_t, strO_s, e_new, e_eOfN, e_sl, e_onone, e_osome, s_dat, s_ref, s_scr, s_nil, s_cons, e_fn, e_to_rt, e_to_nx, e_o1, Option.map_some, List.getElem?_cons_zero, List.getElem?_cons_succ, List.map_cons, List.map_nil, List.cons_append, List.nil_append, List.replicate, List.set_cons_zero, List.set_cons_succ, List.length_cons, List.length_nil, if_true, v_lt, v_gt, v_le, v_ge, v_eq, v_ne, v_add, v_sub, dB, decide_eq_true_eq, Bool.and_self, Bool.false_eq_true, if_false, Nat.reduceAdd, Nat.reduceEqDiff, and_self, true_and, decide_true, decide_false, Bool.not_true, Bool.not_false, e_expr, e_chain, e_vorT, e_vandT, e_vnotT, e_tyis, e_m0, m0K_s, e_join2, joinK_s, tru_bool, tru_tup, dB_bool, e_nrep, tyD_dat, isa_tuple, isa_str, isa_int, isa_bool, ty_int, isTup_none, isTup_bool, isTup_int, isTup_str, isTup_list, isTup_tuple, isTup_dict, isStr_none, isStr_bool, isStr_int, isStr_str, isStr_list, isStr_tuple, isStr_dict, isInt_none, isInt_bool, isInt_int, isInt_str, isInt_list, isInt_tuple, isInt_dict, isBol_none, isBol_bool, isBol_int, isBol_str, isBol_list, isBol_tuple, isBol_dict, Option.bind_some, Option.bind_none, if_true, if_false, id_eq, Int.cast_ofNat_Int, eq_self, e1, d2, ea, e3, er, e]
theorem good (ns : List Int) (hl : ns.length ≤ 63) : ∃ S, f_law [.scr ns] [] = .ok (.dat (.bool true)) S := by
  unfold f_law
  rw [sp_m_law]
  have e1 : lenD (.scr ns) = some (.dat (.int ns.length)) := v_lenS
  have em1 : (two2 fun i j => if j < i then j else i) [.dat (.int 10), .dat (.int ns.length)] = some (.dat (.int (min 10 ns.length : Nat))) := two_min 10 ns.length
  have em2 : (two2 fun i j => if j > i then j else i) [.dat (.int 1), .dat (.int (min 10 ns.length : Nat))] = some (.dat (.int (max 1 (min 10 ns.length) : Nat))) := two_max 1 _
  have er : rngO (.dat (.int (max 1 (min 10 ns.length) : Nat))) [] = .ok (rngD 0 (max 1 (min 10 ns.length))) [] := rngO_n (by omega)
  obtain ⟨rho', S', e, y1, y2, y3, y4, y5, y6, y7, rfl⟩ := forL_ix (t := .nm 1) (body := lb_law_3) (fun j rho S' => ∃ y1 y2 y3 y4 y5 y6 y7, rho = [some (.scr ns), y1, y2, y3, y4, y5, y6, y7, none, none, none, none]) (rngD 0 (max 1 (min 10 ns.length))) 0 [some (.scr ns), none, none, none, none, none, none, none, none, none, none, none] [] ⟨_, _, _, _, _, _, _, rfl⟩ (by
    rintro j d rho S' hd ⟨y1, y2, y3, y4, y5, y6, y7, rfl⟩
    obtain ⟨hj, rfl⟩ := rng_at hd
    have ej : (0 : Int) + (j : Nat) = (j : Nat) := by omega
    rw [ej]
    obtain ⟨z2, z3, z4, z5, z6, z7, S8, e⟩ := law_3 ns j (by omega) y2 y3 y4 y5 y6 y7 S'
    exact ⟨_, put_nm, _, S8, .inl e, _, _, _, _, _, _, _, rfl⟩)
  refine ⟨S', ?_⟩
  simp only [e_bind_ok, e_stm_ok, e_then_nx, e_then_rt, e_then_bk, e_then_ct, e_optR, e_optB, e_optV, e_optT, e_seq, e_pass, e_asg, e_put, e_ret, e_if, e_var, e_d, e_bin, e_un, e_ix, e_tOf, e_tOfB, e_and, e_or, e_tnot, e_vand, e_vor, e_vnot, e_vif, e_set, e_par2, e_park2, e_park3, e_retref, e_nlst, e_nil, e_cons, e_cb, e_call, e_isi, e_tup, e_lst, e_dats_nil, e_dats_cons, e_for, e_rng, e_sqi, e_sti, seqO_t, strO_s, e_new, e_eOfN, e_sl, e_onone, e_osome, s_dat, s_ref, s_scr, s_nil, s_cons, e_fn, e_to_rt, e_to_nx, e_o1, Option.map_some, List.getElem?_cons_zero, List.getElem?_cons_succ, List.map_cons, List.map_nil, List.cons_append, List.nil_append, List.replicate, List.set_cons_zero, List.set_cons_succ, List.length_cons, List.length_nil, if_true, v_lt, v_gt, v_le, v_ge, v_eq, v_ne, v_add, v_sub, dB, decide_eq_true_eq, Bool.and_self, Bool.false_eq_true, if_false, Nat.reduceAdd, Nat.reduceEqDiff, and_self, true_and, decide_true, decide_false, Bool.not_true, Bool.not_false, e_expr, e_chain, e_vorT, e_vandT, e_vnotT, e_tyis, e_m0, m0K_s, e_join2, joinK_s, tru_bool, tru_tup, dB_bool, e_nrep, tyD_dat, isa_tuple, isa_str, isa_int, isa_bool, ty_int, isTup_none, isTup_bool, isTup_int, isTup_str, isTup_list, isTup_tuple, isTup_dict, isStr_none, isStr_bool, isStr_int, isStr_str, isStr_list, isStr_tuple, isStr_dict, isInt_none, isInt_bool, isInt_int, isInt_str, isInt_list, isInt_tuple, isInt_dict, isBol_none, isBol_bool, isBol_int, isBol_str, isBol_list, isBol_tuple, isBol_dict, Option.bind_some, Option.bind_none, if_true, if_false, id_eq, Int.cast_ofNat_Int, eq_self, e1, em1, em2, er, e, tail_ok]
end L3.LK23

/-! G23_fin -/
open PySem PySem.W PyProof.Rows
set_option maxHeartbeats 0 in
theorem PySem.Challenge.cw_piledoors_k23_labels_dropped_holds : PySem.Challenge.rw_piledoors_k23_labels_dropped.Holds := by
  w_on; o_law; k_head; (case hw => w_witness2)
  k_fill
  refine L3.walk_g (l := PySem.Challenge.rw_piledoors_k23_labels_dropped) (n := 63) (k := 8) (x := "script") (F := L3.LK23.f_law) rfl (by decide) rfl ⟨rfl, by decide, by decide⟩ rfl (fun w h Y => PySem.W.kIn_of Y) ?F (fun ns hl => L3.LK23.good ns hl)
  case F =>
    intro w mg fa h KX G hmg
    refine L3.LK23.law_mk hmg ?nv
    refine' L3.LK23.nv_mk KX G ?z_abs ?z_all ?z_divmod ?z_enumerate ?z_int ?z_isinstance ?z_len ?z_max ?z_min ?z_range ?z_repr ?z_sorted ?z_str ?z_sum ?z_tuple ?z_type ?a_MAX_LETTERS ?a_EMPTY ?a_MAX_LABELS ?a_MAX_TIMES ?a_is_whole ?l_is_whole ?c_is_whole ?k_is_whole ?a_is_whole_within ?l_is_whole_within ?c_is_whole_within ?k_is_whole_within ?a_is_tuple_of ?l_is_tuple_of ?c_is_tuple_of ?k_is_tuple_of ?a_are_names ?l_are_names ?c_are_names ?k_are_names ?a_is_labels ?l_is_labels ?c_is_labels ?k_is_labels ?a_is_word ?l_is_word ?c_is_word ?k_is_word ?a_require_labels ?l_require_labels ?c_require_labels ?k_require_labels ?a_is_block ?l_is_block ?c_is_block ?k_is_block ?a_is_blocks ?l_is_blocks ?c_is_blocks ?k_is_blocks ?a_length_of ?l_length_of ?c_length_of ?k_length_of ?a_require_blocks ?l_require_blocks ?c_require_blocks ?k_require_blocks ?a_blocks_length ?l_blocks_length ?c_blocks_length ?k_blocks_length ?a_label_of ?l_label_of ?c_label_of ?k_label_of ?a_require_number ?l_require_number ?c_require_number ?k_require_number ?a_label_at ?l_label_at ?c_label_at ?k_label_at ?a_rest_of_block ?l_rest_of_block ?c_rest_of_block ?k_rest_of_block ?a_without_first ?l_without_first ?c_without_first ?k_without_first ?a_dropped ?l_dropped ?c_dropped ?k_dropped ?a__law_stream ?l__law_stream ?c__law_stream ?k__law_stream ?a__law_draw ?l__law_draw ?c__law_draw ?k__law_draw ?a__law_letters ?l__law_letters ?c__law_letters ?k__law_letters ?a__law_names ?l__law_names ?c__law_names ?k__law_names ?a__law_times ?l__law_times ?c__law_times ?k__law_times ?a__law_block_word ?l__law_block_word ?c__law_block_word ?k__law_block_word ?a__law_blocks ?l__law_blocks ?c__law_blocks ?k__law_blocks ?a__law_length ?l__law_length ?c__law_length ?k__law_length ?a__law_label ?l__law_label ?c__law_label ?k__law_label ?a__law_positions ?l__law_positions ?c__law_positions ?k__law_positions ?a__law_cut ?l__law_cut ?c__law_cut ?k__law_cut ?a__law_same ?l__law_same ?c__law_same ?k__law_same ?a__law_drop_right ?l__law_drop_right ?c__law_drop_right ?k__law_drop_right ?a_law ?l_law ?c_law ?k_law
    (case z_abs => k_is); (case z_all => k_is); (case z_divmod => k_is); (case z_enumerate => k_is); (case z_int => k_is); (case z_isinstance => k_is); (case z_len => k_is); (case z_max => k_is); (case z_min => k_is); (case z_range => k_is); (case z_repr => k_is); (case z_sorted => k_is); (case z_str => k_is); (case z_sum => k_is); (case z_tuple => k_is); (case z_type => k_is); (case a_MAX_LETTERS => k_is); (case a_EMPTY => k_is); (case a_MAX_LABELS => k_is); (case a_MAX_TIMES => k_is); (case a_is_whole => k_is); (case l_is_whole => k_is); (case c_is_whole => k_is); (case k_is_whole => k_is); (case a_is_whole_within => k_is); (case l_is_whole_within => k_is); (case c_is_whole_within => k_is); (case k_is_whole_within => k_is); (case a_is_tuple_of => k_is); (case l_is_tuple_of => k_is); (case c_is_tuple_of => k_is); (case k_is_tuple_of => k_is); (case a_are_names => k_is); (case l_are_names => k_is); (case c_are_names => k_is); (case k_are_names => k_is); (case a_is_labels => k_is); (case l_is_labels => k_is); (case c_is_labels => k_is); (case k_is_labels => k_is); (case a_is_word => k_is); (case l_is_word => k_is); (case c_is_word => k_is); (case k_is_word => k_is); (case a_require_labels => k_is); (case l_require_labels => k_is); (case c_require_labels => k_is); (case k_require_labels => k_is); (case a_is_block => k_is); (case l_is_block => k_is); (case c_is_block => k_is); (case k_is_block => k_is); (case a_is_blocks => k_is); (case l_is_blocks => k_is); (case c_is_blocks => k_is); (case k_is_blocks => k_is); (case a_length_of => k_is); (case l_length_of => k_is); (case c_length_of => k_is); (case k_length_of => k_is); (case a_require_blocks => k_is); (case l_require_blocks => k_is); (case c_require_blocks => k_is); (case k_require_blocks => k_is); (case a_blocks_length => k_is); (case l_blocks_length => k_is); (case c_blocks_length => k_is); (case k_blocks_length => k_is); (case a_label_of => k_is); (case l_label_of => k_is); (case c_label_of => k_is); (case k_label_of => k_is); (case a_require_number => k_is); (case l_require_number => k_is); (case c_require_number => k_is); (case k_require_number => k_is); (case a_label_at => k_is); (case l_label_at => k_is); (case c_label_at => k_is); (case k_label_at => k_is); (case a_rest_of_block => k_is); (case l_rest_of_block => k_is); (case c_rest_of_block => k_is); (case k_rest_of_block => k_is); (case a_without_first => k_is); (case l_without_first => k_is); (case c_without_first => k_is); (case k_without_first => k_is); (case a_dropped => k_is); (case l_dropped => k_is); (case c_dropped => k_is); (case k_dropped => k_is); (case a__law_stream => k_is); (case l__law_stream => k_is); (case c__law_stream => k_is); (case k__law_stream => k_is); (case a__law_draw => k_is); (case l__law_draw => k_is); (case c__law_draw => k_is); (case k__law_draw => k_is); (case a__law_letters => k_is); (case l__law_letters => k_is); (case c__law_letters => k_is); (case k__law_letters => k_is); (case a__law_names => k_is); (case l__law_names => k_is); (case c__law_names => k_is); (case k__law_names => k_is); (case a__law_times => k_is); (case l__law_times => k_is); (case c__law_times => k_is); (case k__law_times => k_is); (case a__law_block_word => k_is); (case l__law_block_word => k_is); (case c__law_block_word => k_is); (case k__law_block_word => k_is); (case a__law_blocks => k_is); (case l__law_blocks => k_is); (case c__law_blocks => k_is); (case k__law_blocks => k_is); (case a__law_length => k_is); (case l__law_length => k_is); (case c__law_length => k_is); (case k__law_length => k_is); (case a__law_label => k_is); (case l__law_label => k_is); (case c__law_label => k_is); (case k__law_label => k_is); (case a__law_positions => k_is); (case l__law_positions => k_is); (case c__law_positions => k_is); (case k__law_positions => k_is); (case a__law_cut => k_is); (case l__law_cut => k_is); (case c__law_cut => k_is); (case k__law_cut => k_is); (case a__law_same => k_is); (case l__law_same => k_is); (case c__law_same => k_is); (case k__law_same => k_is); (case a__law_drop_right => k_is); (case l__law_drop_right => k_is); (case c__law_drop_right => k_is); (case k__law_drop_right => k_is); (case a_law => k_is); (case l_law => k_is); (case c_law => k_is); (case k_law => k_is)
