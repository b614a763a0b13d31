import PyProof.Rows.All
import Wide.All
import OpenK.AllK
import Wide.FinOn
import HandS.ForMost
import HandS.Evl
import HandS.TupAny
import HandS.TupMul
import HandS.Style
import HandS.Deep
import HandS.IsInst
import HandS.Conv
import HandS.Flow
import HandS.StrMore
import PyProof.FactsAll.tuple_2
import HandS.Iter
import KE.GoesEnum
import HandS.SetFor
import HandS.ReCall
import KE.KxField
import HandS.IntHex
import HandS.Text
import KE.KRevSl
import HandS.WideBits
import HandS.Gcd
import KE.KMathGC
import HandS.More
import HandS.WordsExc
import HandS.ExcInit
import HandS.ExcField
import HandS.FStr
import HandS.ExcOwn
import KE.KExcIs
import HandS.TryMany
import HandS.ExcIs
import PyProof.StrBlock2
import HandS.ExcBuiltin
import PySem.Challenge.RW_sumsaid_k20_written_sayings_refused
set_option Elab.async false
set_option linter.all false
set_option maxRecDepth 100000
set_option maxHeartbeats 1000000
namespace Fx
open PySem PySem.Spec PyProof.Rows L2 HT
/-! ### new tuples, and that no dict hangs on them -/
/-- what is asked of a new tuple's end -/
def Tn (H : Hp) (Q : VK) (ys : List V) : Prop := ∀ (p : Addr) (o : Obj), H p = none → o.dict = none → Q (.ref p) (upd H p (.frz o (.tup ys)))
section
variable {X : Cx} {pins : List (Addr × Obj)} {σ : L2.St} {H : Hp} {s : Shared}
/-- a tuple is laid at the heap's end -/
theorem lay_tup (I : Inv X pins σ H s) {ys : List V} {its : List Value} (r : Vals ys its) (hz : ys.length ≤ sizeLine) {Q : VK} (q : Tn H Q ys) (t' : Nat) :
    EP X pins σ Q (.ref s.heap.objs.size) { s with heap := s.heap.push { cls := .type "tuple", data := .seq its.toArray }, toks := t' } := by
  have e := Heap.get?_push_size s.heap (o := { cls := .type "tuple", data := .seq its.toArray }) rfl
  exact ⟨.ref s.heap.objs.size, _, I.laid (t' := t') (o := .frz { cls := .type "tuple", data := .seq its.toArray } (.tup ys)) (fun b ob k => Heap.get?_push_of_some _ k) (Nat.le_refl _) ⟨e, hz, its, r, IsTup.new _ _⟩, rfl, q _ _ (I.hok.fresh (Nat.le_refl _)) rfl⟩
end
section
variable {X : Cx} {es : List Expr} {t : TA} {pos : Pos}
def tTupP (t : TA) : TE := fun σ H Q => t σ H fun xs H1 => xs.length ≤ sizeLine ∧ Tn H1 Q xs
theorem pe_tupP {k : Nat} (h : PA X es t) : PE X (.Tuple es k pos) (tTupP t) :=
  ⟨fun pins s σ H Q I hq => wpAny_Tuple_spliced (thn (h.run pos pins s σ H _ I hq) fun us s1 ⟨xs, H1, I1, r, z, q⟩ => ⟨by rw [← r.length]; exact z, lay_tup I1 r z q s1.toks⟩)⟩
def rTupleP (K : PySem.W.Frag) : List V → Hp → VK → Prop := fun xs H Q => ∃ p ys, xs = [.ref p] ∧ ((SqL K H p ys ∧ Tn H Q ys) ∨ (SqT K H p ys ∧ Q (.ref p) H))
theorem call_tupleP : CallR X (.type "tuple") (rTupleP X.K) := by
  intro pins s σ H xs us Q I r ⟨p, ys, e, h⟩
  subst e
  obtain ⟨u, rfl, rx⟩ := vals1 r
  cases rx
  rcases h with ⟨hq, q⟩ | ⟨hq, q⟩
  · obtain ⟨its, r', pl, hz⟩ := I.list hq
    refine call_tuple_list pl.isList (fun h' kp => ?_) (by rw [List.size_toArray, ← r'.length]; exact hz)
    exact lay_tup (I.kept (t' := s.toks) kp) r' hz q s.toks
  · obtain ⟨its, _, pl, _⟩ := I.tuple hq
    exact call_tuple_same pl ⟨.ref p, H, I, rfl, q⟩
def rCatP (K : PySem.W.Frag) : R2 := fun x y H Q => ∃ a b xs ys, x = .ref a ∧ y = .ref b ∧ SqT K H a xs ∧ SqT K H b ys ∧ xs.length + ys.length ≤ sizeLine ∧
  (xs = [] → Q (.ref b) H) ∧ (xs ≠ [] → ys = [] → Q (.ref a) H) ∧ (xs ≠ [] → ys ≠ [] → Tn H Q (xs ++ ys))
theorem op_catP : OpR X (binaryOp .Add) (rCatP X.K) := by
  intro pins s σ H x y v u Q I rx ry ⟨a, b, xs, ys, ex, ey, ha, hb, hz, q0, q1, q2⟩
  subst ex ey
  cases rx
  cases ry
  obtain ⟨its, r1, p1, _⟩ := I.tuple ha
  obtain ⟨jts, r2, p2, _⟩ := I.tuple hb
  by_cases hx : xs = []
  · subst hx
    cases r1
    exact cat_tup0 p1 p2 ⟨.ref b, H, I, rfl, q0 rfl⟩
  · refine HT.cat_tup p1 p2 (fun z => hx (r1.nil_iff.mp z)) (fun z => ⟨.ref a, H, I, rfl, q1 hx (r2.nil_iff.mp z)⟩) (fun z => ?_) (by rw [← r1.length, ← r2.length]; exact hz)
    exact lay_tup I (r1.append r2) (by rw [List.length_append]; exact hz) (q2 hx fun w => z (r2.nil_iff.mpr w)) s.toks
def rSlP (K : PySem.W.Frag) : V → Option Int → Option Int → Hp → VK → Prop := fun x lo hi H Q => ∃ a xs, x = .ref a ∧ SqT K H a xs ∧
  (sIx xs.length 0 lo = 0 ∧ sIx xs.length xs.length hi = xs.length → Q (.ref a) H) ∧ (¬ (sIx xs.length 0 lo = 0 ∧ sIx xs.length xs.length hi = xs.length) → Tn H Q (cutV xs lo hi))
theorem sl_tupP : L2.SlR X (rSlP X.K) := by
  intro pins s σ H x v vl vu lo hi sl Q I rx hs pl pu ⟨a, xs, ex, hx, q1, q2⟩
  subst ex
  cases rx
  obtain ⟨its, r, ht, hz⟩ := I.tuple hx
  have hlen : its.toArray.size = xs.length := by rw [List.size_toArray]; exact r.length.symm
  refine ⟨"tuple", _, PyProof.Rows.slot_tuple_getitem.lookup, ht.typeIs, ?_⟩
  by_cases hw : sIx xs.length 0 lo = 0 ∧ sIx xs.length xs.length hi = xs.length
  · exact getItem_tuple_whole ht hs pl pu (by rw [hlen]; exact hw) ⟨.ref a, H, I, rfl, q1 hw⟩
  · refine HT.getItem_tuple_cut ht hs pl pu (by rw [hlen]; exact hw) ?_ (by rw [hlen]; exact hz)
    rw [hlen]
    exact lay_tup I ((r.drop (sIx xs.length 0 lo)).take (sIx xs.length xs.length hi - sIx xs.length 0 lo)) (Nat.le_trans (cutV_length xs lo hi) hz) (q2 hw) s.toks
def rRepP (K : PySem.W.Frag) : R2 := fun x y H Q => ∃ l k xs, x = .ref l ∧ y = .int k ∧ SqT K H l xs ∧ xs ≠ [] ∧ 2 ≤ k ∧ k ≤ 1000 ∧ xs.length ≤ 1000 ∧ Tn H Q (List.replicate k.toNat xs).flatten
theorem op_repP : OpR X (binaryOp .Mult) (rRepP X.K) := by
  intro pins s σ H x y v u Q I rx ry ⟨l, k, xs, ex, ey, hT, hne, h1, h2, hz, q⟩
  subst ex ey
  cases rx
  obtain ⟨t, rfl⟩ := ry
  obtain ⟨its, r, ⟨⟨cls, dd, data, sl⟩, ho, hc, n, hd⟩, hs⟩ := I.tuple hT
  simp only at hc hd
  subst hc hd
  have hle := r.length
  have hp : 0 < its.length := by
    rw [← hle]
    exact List.length_pos_iff.mpr hne
  have hi : its.toArray.isEmpty = false := by
    cases its with
    | nil => cases hp
    | cons _ _ => rfl
  have sz : its.toArray.size = xs.length := by rw [List.size_toArray]; exact hle.symm
  have m1 : ((its.toArray.size : Nat) : Int) * k ≤ 1000000 := by
    rw [sz]
    have := Int.mul_le_mul (show ((xs.length : Nat) : Int) ≤ 1000 by omega) h2 (by omega) (by omega)
    omega
  have m2 : k.toNat * xs.length ≤ 1000000 := Nat.le_trans (Nat.mul_le_mul (show k.toNat ≤ 1000 by omega) hz) (by omega)
  have fl : (List.replicate k.toNat xs).flatten.length ≤ sizeLine := by rw [PyProof.Rows.lm_len_rep_flat, sizeLine_eq]; omega
  have fl2 : (List.replicate k.toNat its).flatten.length ≤ sizeLine := by rw [PyProof.Rows.lm_len_rep_flat, ← hle, sizeLine_eq]; omega
  have c0 : (decide (k < -(2 ^ 63)) || decide (k ≥ 2 ^ 63)) = false := by rw [decide_eq_false (by omega), decide_eq_false (by omega)]; rfl
  have c1 : (its.toArray.isEmpty || k == 1) = false := by rw [hi, Bool.false_or]; exact beq_eq_false_iff_ne.mpr (by omega)
  have c2 : (decide (k ≤ 0) || its.toArray.isEmpty) = false := by rw [hi, Bool.or_false]; exact decide_eq_false (by omega)
  have c4 : Builtin.Tuple.tupleTooMany (((its.toArray.size : Nat) : Int) * k) = false := by
    unfold Builtin.Tuple.tupleTooMany
    rw [sizeLine_eq]
    exact decide_eq_false (by omega)
  refine wpAny_binaryOp_repeat_ref (T := "tuple") (U := "int") (by decide) ⟨_, ho, rfl⟩ (fun s' => typeIs_int s' k t) noFill_tuple_mul F.fills_int_mul F.slot_int_rmul repeat_tuple F.slot_int_index.lookup
    (call_meets F.slot_int_rmul (typeIs_int s k t) F.entry_int_rmul (F.args_int_rmul_2 _ _) (int_rmul_tuple k t l its.toArray n dd sl) ⟨ho, rfl, ⟨_, ho, rfl⟩, ?_⟩)
  refine call_meets PySem.F.slot_tuple_mul ⟨_, ho, rfl⟩ PySem.F.entry_tuple_mul (PySem.F.args_tuple_mul_2 _ _) (tuple_mulW l its.toArray n dd sl k t c0 c1 c2 (by omega) c4 (by rw [size_rep, List.size_toArray]; exact fl2)) ⟨ho, ?_⟩
  rw [size_rep]
  exact lay_tup I (r.rep k.toNat) fl q s.toks
def rDvmP : List V → Hp → VK → Prop := fun xs H Q => ∃ i j, xs = [.int i, .int j] ∧ CDiv i j ∧ Tn H Q [.int (i / j), .int (i % j)]
theorem call_divmodP : CallR X (.builtin "divmod") rDvmP := by
  intro pins s σ H xs us Q I r ⟨i, j, e, hc, q⟩
  subst e
  obtain ⟨u, u', rfl, ⟨t, rfl⟩, ⟨t', rfl⟩⟩ := vals2 r
  have hj : 0 < j := hc.1
  have hj2 := hc.2
  refine divmod_int (by omega) ?_ (.inl (PyProof.noPylong_small (by omega)))
  rw [Int.fdiv_eq_ediv_of_nonneg i (by omega), Int.fmod_eq_emod_of_nonneg i (by omega)]
  have r2 : Vals [V.int (i / j), V.int (i % j)] [Value.int (i / j) s.toks, Value.int (i % j) (s.toks + 1)] := .cons ⟨_, rfl⟩ (.cons ⟨_, rfl⟩ .nil)
  exact lay_tup I r2 (by show 2 ≤ sizeLine; rw [sizeLine_eq]; omega) q _
end
end Fx
namespace Fx
open PySem PySem.Spec PyProof.Rows L2
open Evl (Ex)

/-- a value as data; ob: the k-th of the objects that change -/
inductive D where
  | non | bl (b : Bool) | int (i : Int) | str (s : Str) | tup (ds : List D) | lst (ds : List D) | frl (ds : List D) | ob (k : Nat)
/-- an object that changes -/
inductive MO where
  | lst (ds : List D)
  /-- an instance of the class that stands under a name -/
  | ins (c : String) (fs : List (String × D))
abbrev Tm := List MO

/-- a tuple that is tracked, or stands in the written part; no dict hangs on it -/
def TupK (K : PySem.W.Frag) (G : Hp) (a : Addr) (vs : List V) : Prop := (∃ o : Obj, G a = some (.frz o (.tup vs)) ∧ o.dict = none) ∨
  ∃ (o : Obj) (its : Array Value) (n : Nat), K.lookup a = some o ∧ o.cls = .type "tuple" ∧ o.data = .seq its n ∧ its.size ≤ sizeLine ∧ Vals vs its.toList ∧ o.dict = none
theorem TupK.seq {K : PySem.W.Frag} {G : Hp} {a : Addr} {vs : List V} (h : TupK K G a vs) : SqT K G a vs := by
  rcases h with ⟨o, h, _⟩ | ⟨o, its, n, h1, h2, h3, h4, h5, _⟩
  · exact .inl (.inr ⟨o, h⟩)
  · exact .inr ⟨o, its, n, h1, h2, h3, h4, h5⟩
theorem TupK.mono {K : PySem.W.Frag} {G H : Hp} {a : Addr} {vs : List V} (e : Ex G H) (h : TupK K G a vs) : TupK K H a vs := by
  rcases h with ⟨o, h, hd⟩ | h
  · exact .inl ⟨o, e _ _ h, hd⟩
  · exact .inr h
theorem TupK.new {K : PySem.W.Frag} {G : Hp} {a : Addr} {vs : List V} {o : Obj} (hd : o.dict = none) : TupK K (upd G a (.frz o (.tup vs))) a vs := .inl ⟨o, upd_same, hd⟩
mutual
inductive Rp (K : PySem.W.Frag) (G : Hp) (ad : List Addr) : V → D → Prop
  | non : Rp K G ad .non .non
  | bl (b : Bool) : Rp K G ad (.bl b) (.bl b)
  | int (i : Int) : Rp K G ad (.int i) (.int i)
  | str (s : Str) : Rp K G ad (.str s) (.str s)
  | tup {a : Addr} {vs : List V} {ds : List D} : TupK K G a vs → RpL K G ad vs ds → Rp K G ad (.ref a) (.tup ds)
  | lst {a : Addr} {vs : List V} {ds : List D} : G a = some (.lst vs) → RpL K G ad vs ds → Rp K G ad (.ref a) (.lst ds)
  | frl {a : Addr} {vs : List V} {ds : List D} : SqL K G a vs → RpL K G ad vs ds → Rp K G ad (.ref a) (.frl ds)
  | ob {a : Addr} {k : Nat} : ad[k]? = some a → Rp K G ad (.ref a) (.ob k)
inductive RpL (K : PySem.W.Frag) (G : Hp) (ad : List Addr) : List V → List D → Prop
  | nil : RpL K G ad [] []
  | cons {v : V} {vs : List V} {d : D} {ds : List D} : Rp K G ad v d → RpL K G ad vs ds → RpL K G ad (v :: vs) (d :: ds)
end

/-- what is known grows -/
def Pre (ad ad' : List Addr) : Prop := ∀ (k : Nat) (a : Addr), ad[k]? = some a → ad'[k]? = some a
theorem Pre.refl (ad : List Addr) : Pre ad ad := fun _ _ h => h
theorem Pre.trans {a b c : List Addr} (x : Pre a b) (y : Pre b c) : Pre a c := fun k e h => y k e (x k e h)
theorem Pre.mem {a b : List Addr} (x : Pre a b) {p : Addr} (h : p ∈ a) : p ∈ b := by
  obtain ⟨k, hk⟩ := List.mem_iff_getElem?.mp h
  exact List.mem_iff_getElem?.mpr ⟨k, x k p hk⟩

section
variable {K : PySem.W.Frag} {G G' : Hp} {ad ad' : List Addr}
mutual
theorem Rp.mono (e : Ex G G') (p : Pre ad ad') : ∀ {v : V} {d : D}, Rp K G ad v d → Rp K G' ad' v d
  | _, _, .non => .non
  | _, _, .bl b => .bl b
  | _, _, .int i => .int i
  | _, _, .str s => .str s
  | _, _, .tup h t => .tup (h.mono e) (RpL.mono e p t)
  | _, _, .lst h t => .lst (e _ _ h) (RpL.mono e p t)
  | _, _, .frl h t => .frl (Evl.ex_l e h) (RpL.mono e p t)
  | _, _, .ob h => .ob (p _ _ h)
theorem RpL.mono (e : Ex G G') (p : Pre ad ad') : ∀ {vs : List V} {ds : List D}, RpL K G ad vs ds → RpL K G' ad' vs ds
  | _, _, .nil => .nil
  | _, _, .cons h t => .cons (Rp.mono e p h) (RpL.mono e p t)
end
theorem RpL.length : ∀ {vs : List V} {ds : List D}, RpL K G ad vs ds → vs.length = ds.length
  | _, _, .nil => rfl
  | _, _, .cons _ t => by rw [List.length_cons, List.length_cons, RpL.length t]
theorem RpL.get : ∀ {vs : List V} {ds : List D} {i : Nat} {d : D}, RpL K G ad vs ds → ds[i]? = some d → ∃ v, vs[i]? = some v ∧ Rp K G ad v d
  | _, _, _, _, .nil, h => by simp at h
  | _, _, 0, _, .cons h _, e => by
    simp only [List.getElem?_cons_zero, Option.some.injEq] at e
    subst e
    exact ⟨_, by simp, h⟩
  | _, _, i + 1, _, .cons _ t, e => by
    simp only [List.getElem?_cons_succ] at e
    obtain ⟨v, h1, h2⟩ := RpL.get t e
    exact ⟨v, by simpa using h1, h2⟩
theorem RpL.getV : ∀ {vs : List V} {ds : List D} {i : Nat} {v : V}, RpL K G ad vs ds → vs[i]? = some v → ∃ d, ds[i]? = some d ∧ Rp K G ad v d
  | _, _, _, _, .nil, h => by simp at h
  | _, _, 0, _, .cons h _, e => by
    simp only [List.getElem?_cons_zero, Option.some.injEq] at e
    subst e
    exact ⟨_, by simp, h⟩
  | _, _, i + 1, _, .cons _ t, e => by
    simp only [List.getElem?_cons_succ] at e
    obtain ⟨v, h1, h2⟩ := RpL.getV t e
    exact ⟨v, by simpa using h1, h2⟩
theorem RpL.append : ∀ {vs ws : List V} {ds es : List D}, RpL K G ad vs ds → RpL K G ad ws es → RpL K G ad (vs ++ ws) (ds ++ es)
  | _, _, _, _, .nil, h => h
  | _, _, _, _, .cons h t, k => .cons h (RpL.append t k)
theorem RpL.take : ∀ {vs : List V} {ds : List D} (n : Nat), RpL K G ad vs ds → RpL K G ad (vs.take n) (ds.take n)
  | _, _, 0, _ => .nil
  | _, _, _ + 1, .nil => .nil
  | _, _, n + 1, .cons h t => .cons h (RpL.take n t)
theorem RpL.drop : ∀ {vs : List V} {ds : List D} (n : Nat), RpL K G ad vs ds → RpL K G ad (vs.drop n) (ds.drop n)
  | _, _, 0, h => h
  | _, _, _ + 1, .nil => .nil
  | _, _, n + 1, .cons _ t => RpL.drop n t
theorem RpL.set {v : V} {d : D} (r : Rp K G ad v d) : ∀ {vs : List V} {ds : List D} (n : Nat), RpL K G ad vs ds → RpL K G ad (vs.set n v) (ds.set n d)
  | _, _, _, .nil => .nil
  | _, _, 0, .cons _ t => .cons r t
  | _, _, n + 1, .cons h t => .cons h (RpL.set r n t)
theorem RpL.reverse {vs : List V} {ds : List D} (h : RpL K G ad vs ds) : RpL K G ad vs.reverse ds.reverse := by
  induction vs generalizing ds with
  | nil => cases h; exact .nil
  | cons v vs ih =>
    cases h with
    | cons a b =>
      rw [List.reverse_cons, List.reverse_cons]
      exact (ih b).append (.cons a .nil)
theorem RpL.rep {vs : List V} {ds : List D} (h : RpL K G ad vs ds) : ∀ n : Nat, RpL K G ad (List.replicate n vs).flatten (List.replicate n ds).flatten
  | 0 => .nil
  | n + 1 => by
    rw [List.replicate_succ, List.replicate_succ, List.flatten_cons, List.flatten_cons]
    exact h.append (RpL.rep h n)
theorem Rp.inv_int {v : V} {i : Int} (h : Rp K G ad v (.int i)) : v = .int i := by cases h; rfl
theorem Rp.inv_bl {v : V} {b : Bool} (h : Rp K G ad v (.bl b)) : v = .bl b := by cases h; rfl
theorem Rp.inv_non {v : V} (h : Rp K G ad v .non) : v = .non := by cases h; rfl
theorem Rp.inv_str {v : V} {s : Str} (h : Rp K G ad v (.str s)) : v = .str s := by cases h; rfl
theorem Rp.inv_tup {v : V} {ds : List D} (h : Rp K G ad v (.tup ds)) : ∃ a vs, v = .ref a ∧ TupK K G a vs ∧ RpL K G ad vs ds := by cases h; exact ⟨_, _, rfl, by assumption, by assumption⟩
theorem Rp.inv_lst {v : V} {ds : List D} (h : Rp K G ad v (.lst ds)) : ∃ a vs, v = .ref a ∧ G a = some (.lst vs) ∧ RpL K G ad vs ds := by cases h; exact ⟨_, _, rfl, by assumption, by assumption⟩
theorem Rp.inv_frl {v : V} {ds : List D} (h : Rp K G ad v (.frl ds)) : ∃ a vs, v = .ref a ∧ SqL K G a vs ∧ RpL K G ad vs ds := by cases h; exact ⟨_, _, rfl, by assumption, by assumption⟩
theorem Rp.inv_ob {v : V} {k : Nat} (h : Rp K G ad v (.ob k)) : ∃ a, v = .ref a ∧ ad[k]? = some a := by cases h; exact ⟨_, rfl, by assumption⟩
end

/-- the names that stand in the program's classes -/
def nmT : List String := ["number", "words", "at", "lines", "read", "next_word", "read_comparison", "read_factors", "read_number",
  "nodes", "used", "depths", "places", "neat", "steps", "spend", "can_spend", "node_of", "numbers_of", "depth_of", "kept", "kept_below", "kept_rest", "kept_all", "below", "rest", "new_rest",
  "forms", "bounds", "rests", "choices", "broken", "take", "take_below", "take_rest", "told_of", "told_of_below", "told_of_rest", "lighten", "lighter", "left_of", "whole",
  "factors", "constant", "divisor", "is_whole", "placed", "sign", "level", "times", "point_at", "parts", "lowers", "uppers", "repeat", "size", "look", "is_open", "has_shadow", "shadow", "side", "many_points", "is_free", "points", "narrowest", "unit",
  "tries", "view", "way", "many", "answers", "without", "worked_out", "some_without", "all_without", "best_plan", "by_plan",
  "form", "width", "cuts", "lows", "lengths", "set_stretches", "many_bits", "is_feasible", "cost", "bits_below", "bits_rest", "bits", "pieces",
  "remover", "worths", "told", "told_by", "told_by_both", "settled", "with_values", "write", "put", "place_of", "put_rest", "joined",
  "point", "kind", "cases", "traced", "crossings", "worth", "far_lines", "first_other", "last_other", "alone", "firsts", "take_line", "gathered",
  "found", "done", "undone", "stored", "many_made", "keep", "drop", "change", "undo", "redo", "names", "saying", "entry", "least", "solutions", "made"]
theorem nm_nd : (nmT.map Str.ofString).Nodup := by decide +kernel
theorem map_inj {α β : Type} {f : α → β} : ∀ {l : List α}, (l.map f).Nodup → ∀ {a b : α}, a ∈ l → b ∈ l → f a = f b → a = b
  | [], _, _, _, h, _, _ => by cases h
  | x :: l, nd, a, b, ha, hb, e => by
    rw [List.map_cons, List.nodup_cons] at nd
    rcases List.mem_cons.mp ha with p | p <;> rcases List.mem_cons.mp hb with q | q
    · rw [p, q]
    · exact absurd (List.mem_map.mpr ⟨b, q, by rw [← e, p]⟩) nd.1
    · exact absurd (List.mem_map.mpr ⟨a, p, by rw [e, q]⟩) nd.1
    · exact map_inj nd.2 p q e
theorem nm_inj {a b : String} (ha : a ∈ nmT) (hb : b ∈ nmT) (e : Str.ofString a = Str.ofString b) : a = b := map_inj nm_nd ha hb e
theorem nm_beq {a b : String} (ha : a ∈ nmT) (hb : b ∈ nmT) : (Str.ofString a == Str.ofString b) = (a == b) := by
  by_cases h : a = b
  · rw [h, beq_self_eq_true, beq_self_eq_true]
  · rw [beq_eq_false_iff_ne.mpr h, beq_eq_false_iff_ne.mpr fun e => h (nm_inj ha hb e)]
/-- the attributes of an instance -/
inductive FsL (K : PySem.W.Frag) (G : Hp) (ad : List Addr) : List (Str × V) → List (String × D) → Prop
  | nil : FsL K G ad [] []
  | cons {x : String} {v : V} {d : D} {us : List (Str × V)} {fs : List (String × D)} : x ∈ nmT → Rp K G ad v d → FsL K G ad us fs → FsL K G ad ((Str.ofString x, v) :: us) ((x, d) :: fs)
def ClsA (K : PySem.W.Frag) (c : String) (C : Addr) : Prop := PySem.W.nsIn K mainGlobals (Str.ofString c) = some (some (.ref C))
/-- what stands at the place of an object that changes -/
def MoR (K : PySem.W.Frag) (G : Hp) (ad : List Addr) (H : Hp) (a : Addr) : MO → Prop
  | .lst ds => ∃ vs, H a = some (.lst vs) ∧ RpL K G ad vs ds
  | .ins c fs => ∃ C dx us, H a = some (.ins C dx us) ∧ ClsA K c C ∧ FsL K G ad us fs
section
variable {K : PySem.W.Frag} {G G' : Hp} {ad ad' : List Addr} {H H' : Hp} {a : Addr}
theorem FsL.mono (e : Ex G G') (p : Pre ad ad') {us : List (Str × V)} {fs : List (String × D)} (h : FsL K G ad us fs) : FsL K G' ad' us fs := by
  induction h with
  | nil => exact .nil
  | cons hx r _ ih => exact .cons hx (r.mono e p) ih
theorem FsL.length {us : List (Str × V)} {fs : List (String × D)} (h : FsL K G ad us fs) : us.length = fs.length := by
  induction h with
  | nil => rfl
  | cons hx r _ ih => rw [List.length_cons, List.length_cons, ih]
theorem FsL.get {us : List (Str × V)} {fs : List (String × D)} (h : FsL K G ad us fs) {f : String} (hf : f ∈ nmT) {d : D} (e : fs.lookup f = some d) : ∃ v, us.lookup (Str.ofString f) = some v ∧ Rp K G ad v d := by
  induction h with
  | nil => cases e
  | @cons x v d' us fs hx r _ ih =>
    rw [List.lookup_cons] at e ⊢
    rw [nm_beq hf hx]
    cases q : (f == x) with
    | true =>
      rw [q] at e
      cases e
      exact ⟨v, rfl, r⟩
    | false =>
      rw [q] at e
      exact ih e
theorem FsL.none {us : List (Str × V)} {fs : List (String × D)} (h : FsL K G ad us fs) {f : String} (hf : f ∈ nmT) (e : fs.lookup f = Option.none) : us.lookup (Str.ofString f) = Option.none := by
  induction h with
  | nil => rfl
  | @cons x v d' us fs hx r _ ih =>
    rw [List.lookup_cons] at e ⊢
    rw [nm_beq hf hx]
    cases q : (f == x) with
    | true =>
      rw [q] at e
      cases e
    | false =>
      rw [q] at e
      exact ih e
/-- an attribute is written -/
def putD (f : String) (d : D) : List (String × D) → List (String × D)
  | [] => [(f, d)]
  | (x, e) :: fs => if x = f then (x, d) :: fs else (x, e) :: putD f d fs
theorem FsL.put {us : List (Str × V)} {fs : List (String × D)} (h : FsL K G ad us fs) {f : String} (hf : f ∈ nmT) {v : V} {d : D} (r : Rp K G ad v d) : FsL K G ad (putF (Str.ofString f) v us) (putD f d fs) := by
  induction h with
  | nil => exact .cons hf r .nil
  | @cons x w e us fs hx q t ih =>
    unfold putF putD
    by_cases c : x = f
    · subst c
      rw [if_pos rfl, if_pos rfl]
      exact .cons hx r t
    · rw [if_neg c, if_neg fun e => c (nm_inj hx hf e)]
      exact .cons hx q ih
theorem MoR.mono {m : MO} (h : MoR K G ad H a m) (e : Ex G G') (p : Pre ad ad') : MoR K G' ad' H a m := by
  cases m with
  | lst ds =>
    obtain ⟨vs, h1, h2⟩ := h
    exact ⟨vs, h1, h2.mono e p⟩
  | ins c fs =>
    obtain ⟨C, dx, us, h1, h2, h3⟩ := h
    exact ⟨C, dx, us, h1, h2, h3.mono e p⟩
theorem MoR.at {m : MO} (h : MoR K G ad H a m) : ∃ o, H a = some o := by
  cases m with
  | lst ds =>
    obtain ⟨vs, h1, h2⟩ := h
    exact ⟨_, h1⟩
  | ins c fs =>
    obtain ⟨C, dx, us, h1, h2, h3⟩ := h
    exact ⟨_, h1⟩
theorem MoR.frame {m : MO} (h : MoR K G ad H a m) (e : H' a = H a) : MoR K G ad H' a m := by
  cases m with
  | lst ds =>
    obtain ⟨vs, h1, h2⟩ := h
    exact ⟨vs, e.trans h1, h2⟩
  | ins c fs =>
    obtain ⟨C, dx, us, h1, h2, h3⟩ := h
    exact ⟨C, dx, us, e.trans h1, h2, h3⟩
end
/-! ### where one stands -/
/-- a def's entry -/
structure Zc where
  Ge : Hp
  He : Hp
  ad0 : List Addr

inductive Sl where
  | un | dat (d : D) | own (ds : List D)
abbrev Rho := List Sl

structure Iv (K : PySem.W.Frag) (Z : Zc) (G : Hp) (ad : List Addr) (T : Tm) (H : Hp) : Prop where
  ex : Ex G H
  out : ∀ a ∈ ad, G a = none
  nd : ad.Nodup
  len : ad.length = T.length
  obj : ∀ (k : Nat) (a : Addr) (m : MO), ad[k]? = some a → T[k]? = some m → MoR K G ad H a m
  gex : Ex Z.Ge G
  pre : Pre Z.ad0 ad
  frame : ∀ b o, Z.He b = some o → b ∉ Z.ad0 → H b = some o
  newG : ∀ b o, G b = some o → Z.Ge b = some o ∨ Z.He b = none
  newA : ∀ a, a ∈ ad → a ∈ Z.ad0 ∨ Z.He a = none

def SlR (K : PySem.W.Frag) (Z : Zc) (G : Hp) (ad : List Addr) (σ : L2.St) (H : Hp) (pa : Nat → Addr) (i : Nat) : Sl → Prop
  | .un => True
  | .dat d => ∃ v, σ[i]? = some (some v) ∧ Rp K G ad v d
  | .own ds => ∃ vs, σ[i]? = some (some (.ref (pa i))) ∧ H (pa i) = some (.lst vs) ∧ RpL K G ad vs ds ∧ G (pa i) = none ∧ pa i ∉ ad ∧ Z.He (pa i) = none

def paS (pa : Nat → Addr) (i : Nat) (p : Addr) : Nat → Addr := fun j => if j = i then p else pa j
theorem paS_same {pa : Nat → Addr} {i : Nat} {p : Addr} : paS pa i p i = p := if_pos rfl
theorem paS_ne {pa : Nat → Addr} {i j : Nat} {p : Addr} (h : j ≠ i) : paS pa i p j = pa j := if_neg h

structure En (K : PySem.W.Frag) (Z : Zc) (G : Hp) (ad : List Addr) (T : Tm) (ρ : Rho) (σ : L2.St) (H : Hp) (pa : Nat → Addr) : Prop where
  iv : Iv K Z G ad T H
  hl : ρ.length = σ.length
  env : ∀ i s, ρ[i]? = some s → SlR K Z G ad σ H pa i s
  ne : ∀ (i j : Nat) (ds es : List D), ρ[i]? = some (Sl.own ds) → ρ[j]? = some (Sl.own es) → i ≠ j → pa i ≠ pa j

section
variable {K : PySem.W.Frag} {Z : Zc} {G G' : Hp} {ad ad' : List Addr} {T T' : Tm} {ρ : Rho} {σ : L2.St} {H H' : Hp} {pa : Nat → Addr}
theorem Iv.at (I : Iv K Z G ad T H) {a : Addr} (h : a ∈ ad) : ∃ o, H a = some o := by
  obtain ⟨k, hk⟩ := List.mem_iff_getElem?.mp h
  have hl : k < T.length := by
    rw [← I.len]
    exact (List.getElem?_eq_some_iff.mp hk).1
  exact (I.obj k a T[k] hk (List.getElem?_eq_getElem hl)).at
theorem Iv.fresh (I : Iv K Z G ad T H) {p : Addr} (hp : H p = none) : p ∉ ad := fun h => by
  obtain ⟨vs, e⟩ := I.at h
  rw [hp] at e
  cases e
theorem Iv.freshG (I : Iv K Z G ad T H) {p : Addr} (hp : H p = none) : G p = none := Evl.fresh_back I.ex hp
theorem Iv.freshE (I : Iv K Z G ad T H) {p : Addr} (hp : H p = none) : Z.He p = none := by
  cases e : Z.He p with
  | none => rfl
  | some o =>
    by_cases hm : p ∈ Z.ad0
    · exact absurd (I.pre.mem hm) (I.fresh hp)
    · have := I.frame p o e hm
      rw [hp] at this
      cases this
/-- a new object, known from now on -/
theorem Iv.know (I : Iv K Z G ad T H) {p : Addr} (hp : H p = none) (o : HO) : Iv K Z (upd G p o) ad T (upd H p o) where
  ex := fun a u e => by
    by_cases h : a = p
    · subst h
      rw [upd_same] at e
      rw [upd_same]
      exact e
    · rw [upd_ne h] at e
      rw [upd_ne h]
      exact I.ex a u e
  out := fun a ha => by
    have : a ≠ p := fun e => I.fresh hp (e ▸ ha)
    rw [upd_ne this]
    exact I.out a ha
  nd := I.nd
  len := I.len
  obj := fun k a m h1 h2 => by
    have h3 := I.obj k a m h1 h2
    have : a ≠ p := fun e => I.fresh hp (e ▸ List.mem_of_getElem? h1)
    exact (h3.mono (Ex.new (I.freshG hp)) (Pre.refl _)).frame (upd_ne this)
  gex := I.gex.trans (Ex.new (I.freshG hp))
  pre := I.pre
  frame := fun b o' h1 h2 => by
    have h3 := I.frame b o' h1 h2
    rw [upd_ne (ne_of_none h3 hp)]
    exact h3
  newG := fun b u e => by
    by_cases h : b = p
    · subst h
      exact .inr (I.freshE hp)
    · rw [upd_ne h] at e
      exact I.newG b u e
  newA := I.newA
/-- a new list of one's own -/
theorem Iv.mine (I : Iv K Z G ad T H) {p : Addr} (hp : G p = none) (ha : p ∉ ad) (he : Z.He p = none) (o : HO) : Iv K Z G ad T (upd H p o) where
  ex := Ex.mut I.ex hp
  out := I.out
  nd := I.nd
  len := I.len
  obj := fun k a m h1 h2 => by
    have h3 := I.obj k a m h1 h2
    have : a ≠ p := fun e => ha (e ▸ List.mem_of_getElem? h1)
    exact h3.frame (upd_ne this)
  gex := I.gex
  pre := I.pre
  frame := fun b o' h1 h2 => by
    rw [upd_ne (ne_of_none h1 he)]
    exact I.frame b o' h1 h2
  newG := I.newG
  newA := I.newA
/-- an object that changes is written -/
theorem Iv.putM (I : Iv K Z G ad T H) {k : Nat} {a : Addr} (hk : ad[k]? = some a) {o : HO} {m : MO} (hr : MoR K G ad (upd H a o) a m) : Iv K Z G ad (T.set k m) (upd H a o) where
  ex := Ex.mut I.ex (I.out a (List.mem_of_getElem? hk))
  out := I.out
  nd := I.nd
  len := by rw [List.length_set]; exact I.len
  obj := fun j b m' h1 h2 => by
    by_cases h : j = k
    · subst h
      rw [hk] at h1
      cases h1
      have hj : j < T.length := by
        rw [← I.len]
        exact (List.getElem?_eq_some_iff.mp hk).1
      rw [List.getElem?_set_self hj] at h2
      cases h2
      exact hr
    · rw [List.getElem?_set_ne (Ne.symm h)] at h2
      have h3 := I.obj j b m' h1 h2
      have : b ≠ a := fun e => by
        subst e
        obtain ⟨i1, e1⟩ := List.getElem?_eq_some_iff.mp h1
        obtain ⟨i2, e2⟩ := List.getElem?_eq_some_iff.mp hk
        exact h ((List.getElem_inj I.nd).mp (e1.trans e2.symm))
      exact h3.frame (upd_ne this)
  gex := I.gex
  pre := I.pre
  frame := fun b o' h1 h2 => by
    have : b ≠ a := fun e => by
      subst e
      rcases I.newA b (List.mem_of_getElem? hk) with q | q
      · exact h2 q
      · rw [q] at h1
        cases h1
    rw [upd_ne this]
    exact I.frame b o' h1 h2
  newG := I.newG
  newA := I.newA
theorem Iv.put (I : Iv K Z G ad T H) {k : Nat} {a : Addr} (hk : ad[k]? = some a) {vs : List V} {ds : List D} (hr : RpL K G ad vs ds) : Iv K Z G ad (T.set k (.lst ds)) (upd H a (.lst vs)) :=
  I.putM (m := .lst ds) hk ⟨vs, upd_same, hr⟩
/-- a new list becomes an object that changes -/
theorem Iv.joinM (I : Iv K Z G ad T H) {p : Addr} (hp : G p = none) (ha : p ∉ ad) (he : Z.He p = none) {m : MO} (hr : MoR K G ad H p m) : Iv K Z G (ad ++ [p]) (T ++ [m]) H := by
  have pr : Pre ad (ad ++ [p]) := fun k a h => by
    rw [List.getElem?_append_left (List.getElem?_eq_some_iff.mp h).1]
    exact h
  refine ⟨I.ex, fun a h => ?_, ?_, ?_, fun k a m' h1 h2 => ?_, I.gex, I.pre.trans pr, I.frame, I.newG, fun a h => ?_⟩
  · rcases List.mem_append.mp h with h | h
    · exact I.out a h
    · rw [List.mem_singleton.mp h]
      exact hp
  · rw [List.nodup_append]
    refine ⟨I.nd, by simp, fun a h b h' e => ?_⟩
    rw [List.mem_singleton.mp h'] at e
    exact ha (e ▸ h)
  · rw [List.length_append, List.length_append, I.len]
    rfl
  · by_cases hk : k < ad.length
    · rw [List.getElem?_append_left hk] at h1
      rw [List.getElem?_append_left (by rw [← I.len]; exact hk)] at h2
      exact (I.obj k a m' h1 h2).mono (Ex.refl _) pr
    · have hk' : ad.length ≤ k := Nat.le_of_not_lt hk
      rw [List.getElem?_append_right hk'] at h1
      rw [List.getElem?_append_right (by rw [← I.len]; exact hk'), ← I.len] at h2
      have e0 : k - ad.length = 0 := by
        have := (List.getElem?_eq_some_iff.mp h1).1
        simp at this
        omega
      rw [e0] at h1 h2
      simp at h1 h2
      subst h1 h2
      exact hr.mono (Ex.refl _) pr
  · rcases List.mem_append.mp h with h | h
    · exact I.newA a h
    · rw [List.mem_singleton.mp h]
      exact .inr he

theorem Iv.join (I : Iv K Z G ad T H) {p : Addr} (hp : G p = none) (ha : p ∉ ad) (he : Z.He p = none) {vs : List V} {ds : List D} (hH : H p = some (.lst vs)) (hr : RpL K G ad vs ds) : Iv K Z G (ad ++ [p]) (T ++ [.lst ds]) H :=
  I.joinM (m := .lst ds) hp ha he ⟨vs, hH, hr⟩

theorem SlR.mono {i : Nat} {s : Sl} (h : SlR K Z G ad σ H pa i s) (e : Ex G G') (p : Pre ad ad')
    (hown : ∀ vs, H (pa i) = some (.lst vs) → G (pa i) = none → pa i ∉ ad → Z.He (pa i) = none → H' (pa i) = some (.lst vs) ∧ G' (pa i) = none ∧ pa i ∉ ad') : SlR K Z G' ad' σ H' pa i s := by
  cases s with
  | un => trivial
  | dat d =>
    obtain ⟨v, h1, h2⟩ := h
    exact ⟨v, h1, h2.mono e p⟩
  | own ds =>
    obtain ⟨vs, h1, h2, h3, h4, h5, h6⟩ := h
    obtain ⟨q1, q2, q3⟩ := hown vs h2 h4 h5 h6
    exact ⟨vs, h1, q1, h3.mono e p, q2, q3, h6⟩
theorem En.know (N : En K Z G ad T ρ σ H pa) {p : Addr} (hp : H p = none) (o : HO) : En K Z (upd G p o) ad T ρ σ (upd H p o) pa where
  iv := N.iv.know hp o
  hl := N.hl
  env := fun i s h => (N.env i s h).mono (Ex.new (N.iv.freshG hp)) (Pre.refl _) fun vs h1 h2 h3 _ => by
    have : pa i ≠ p := ne_of_none h1 hp
    rw [upd_ne this, upd_ne this]
    exact ⟨h1, h2, h3⟩
  ne := N.ne
theorem En.putM (N : En K Z G ad T ρ σ H pa) {k : Nat} {a : Addr} (hk : ad[k]? = some a) {o : HO} {m : MO} (hr : MoR K G ad (upd H a o) a m) : En K Z G ad (T.set k m) ρ σ (upd H a o) pa where
  iv := N.iv.putM hk hr
  hl := N.hl
  env := fun i s h => (N.env i s h).mono (Ex.refl _) (Pre.refl _) fun ws h1 h2 h3 _ => by
    have : pa i ≠ a := fun e => h3 (e ▸ List.mem_of_getElem? hk)
    rw [upd_ne this]
    exact ⟨h1, h2, h3⟩
  ne := N.ne
theorem En.put (N : En K Z G ad T ρ σ H pa) {k : Nat} {a : Addr} (hk : ad[k]? = some a) {vs : List V} {ds : List D} (hr : RpL K G ad vs ds) : En K Z G ad (T.set k (.lst ds)) ρ σ (upd H a (.lst vs)) pa :=
  N.putM (m := .lst ds) hk ⟨vs, upd_same, hr⟩
/-- a slot gets data -/
theorem En.setD (N : En K Z G ad T ρ σ H pa) (i : Nat) {v : V} {d : D} (r : Rp K G ad v d) : En K Z G ad T (ρ.set i (.dat d)) (σ.set i (some v)) H pa where
  iv := N.iv
  hl := by rw [List.length_set, List.length_set]; exact N.hl
  env := fun j s h => by
    by_cases hj : i = j
    · subst hj
      by_cases hi : i < ρ.length
      · rw [List.getElem?_set_self hi] at h
        cases h
        exact ⟨v, by rw [List.getElem?_set_self (by rw [← N.hl]; exact hi)], r⟩
      · rw [List.getElem?_eq_none (by rw [List.length_set]; omega)] at h
        cases h
    · rw [List.getElem?_set_ne hj] at h
      have q := N.env j s h
      cases s with
      | un => trivial
      | dat d =>
        obtain ⟨w, h1, h2⟩ := q
        exact ⟨w, by rw [List.getElem?_set_ne hj]; exact h1, h2⟩
      | own ds =>
        obtain ⟨vs, h1, h2⟩ := q
        exact ⟨vs, by rw [List.getElem?_set_ne hj]; exact h1, h2⟩
  ne := fun j k ds es h1 h2 hn => by
    have f : ∀ (m : Nat) (xs : List D), (ρ.set i (Sl.dat d))[m]? = some (Sl.own xs) → ρ[m]? = some (Sl.own xs) := fun m xs h => by
      by_cases hm : i = m
      · subst hm
        by_cases hi : i < ρ.length
        · rw [List.getElem?_set_self hi] at h
          cases h
        · rw [List.getElem?_eq_none (by rw [List.length_set]; omega)] at h
          cases h
      · rw [List.getElem?_set_ne hm] at h
        exact h
    exact N.ne j k ds es (f _ _ h1) (f _ _ h2) hn
/-- a slot gets a new list -/
theorem En.setO (N : En K Z G ad T ρ σ H pa) (i : Nat) {p : Addr} {vs : List V} {ds : List D} (hp : H p = none) (r : RpL K G ad vs ds) :
    En K Z G ad T (ρ.set i (.own ds)) (σ.set i (some (.ref p))) (upd H p (.lst vs)) (paS pa i p) where
  iv := N.iv.mine (N.iv.freshG hp) (N.iv.fresh hp) (N.iv.freshE hp) _
  hl := by rw [List.length_set, List.length_set]; exact N.hl
  env := fun j s h => by
    by_cases hj : i = j
    · subst hj
      by_cases hi : i < ρ.length
      · rw [List.getElem?_set_self hi] at h
        cases h
        refine ⟨vs, ?_, ?_, r, ?_, ?_, ?_⟩
        · rw [List.getElem?_set_self (by rw [← N.hl]; exact hi), paS_same]
        · rw [paS_same]; exact upd_same
        · rw [paS_same]; exact N.iv.freshG hp
        · rw [paS_same]; exact N.iv.fresh hp
        · rw [paS_same]; exact N.iv.freshE hp
      · rw [List.getElem?_eq_none (by rw [List.length_set]; omega)] at h
        cases h
    · rw [List.getElem?_set_ne hj] at h
      have q := N.env j s h
      have hj' : j ≠ i := Ne.symm hj
      cases s with
      | un => trivial
      | dat d =>
        obtain ⟨w, h1, h2⟩ := q
        exact ⟨w, by rw [List.getElem?_set_ne hj]; exact h1, h2⟩
      | own es =>
        obtain ⟨ws, h1, h2, h3, h4, h5, h6⟩ := q
        refine ⟨ws, ?_, ?_, h3, ?_, ?_, ?_⟩
        · rw [List.getElem?_set_ne hj, paS_ne hj']; exact h1
        · rw [paS_ne hj', upd_ne (ne_of_none h2 hp)]; exact h2
        · rw [paS_ne hj']; exact h4
        · rw [paS_ne hj']; exact h5
        · rw [paS_ne hj']; exact h6
  ne := fun j k es fs h1 h2 hn => by
    have f : ∀ (m : Nat) (xs : List D), m ≠ i → (ρ.set i (Sl.own ds))[m]? = some (Sl.own xs) → ρ[m]? = some (Sl.own xs) := fun m xs hm h => by
      rw [List.getElem?_set_ne (Ne.symm hm)] at h
      exact h
    have g : ∀ (m : Nat) (xs : List D), ρ[m]? = some (Sl.own xs) → pa m ≠ p := fun m xs h => by
      obtain ⟨ws, _, q, _⟩ := N.env m _ h
      exact ne_of_none q hp
    show paS pa i p j ≠ paS pa i p k
    by_cases e1 : j = i
    · by_cases e2 : k = i
      · exact absurd (e1.trans e2.symm) hn
      · rw [e1, paS_same, paS_ne e2]
        exact (g k fs (f k fs e2 h2)).symm
    · by_cases e2 : k = i
      · rw [e2, paS_same, paS_ne e1]
        exact g j es (f j es e1 h1)
      · rw [paS_ne e1, paS_ne e2]
        exact N.ne j k es fs (f j es e1 h1) (f k fs e2 h2) hn
/-- one's own list is written -/
theorem En.putO (N : En K Z G ad T ρ σ H pa) {i : Nat} {ds es : List D} {vs : List V} (hi : ρ[i]? = some (.own ds)) (r : RpL K G ad vs es) :
    En K Z G ad T (ρ.set i (.own es)) σ (upd H (pa i) (.lst vs)) pa := by
  obtain ⟨us, h1, h2, h3, h4, h5, h6⟩ := N.env i _ hi
  have hlt := (List.getElem?_eq_some_iff.mp hi).1
  refine ⟨N.iv.mine h4 h5 h6 _, by rw [List.length_set]; exact N.hl, fun j s h => ?_, fun j k es' fs h1' h2' hn => ?_⟩
  · by_cases hj : i = j
    · subst hj
      rw [List.getElem?_set_self hlt] at h
      cases h
      exact ⟨vs, h1, upd_same, r, h4, h5, h6⟩
    · rw [List.getElem?_set_ne hj] at h
      have q := N.env j s h
      cases s with
      | un => trivial
      | dat d => exact q
      | own fs =>
        obtain ⟨ws, q1, q2, q3, q4, q5, q6⟩ := q
        exact ⟨ws, q1, by rw [upd_ne (Ne.symm (N.ne i j _ _ hi h hj))]; exact q2, q3, q4, q5, q6⟩
  · have f : ∀ (m : Nat) (xs : List D), (ρ.set i (Sl.own es))[m]? = some (Sl.own xs) → ∃ ys, ρ[m]? = some (Sl.own ys) := fun m xs h => by
      by_cases hm : i = m
      · subst hm
        exact ⟨_, hi⟩
      · rw [List.getElem?_set_ne hm] at h
        exact ⟨_, h⟩
    obtain ⟨a, ha⟩ := f _ _ h1'
    obtain ⟨b, hb⟩ := f _ _ h2'
    exact N.ne j k a b ha hb hn
end
end Fx
namespace Fx
open PySem PySem.Spec PyProof.Rows L2
open Evl (Ex)

/-! ### functional steps -/
def bindF {α β : Type} (o : Option (α × Tm)) (k : α → Tm → Option β) : Option β := match o with
  | none => none
  | some (a, T) => k a T
@[simp] theorem bindF_some {α β : Type} (a : α) (T : Tm) (k : α → Tm → Option β) : bindF (some (a, T)) k = k a T := rfl
@[simp] theorem bindF_none {α β : Type} (k : α → Tm → Option β) : bindF none k = none := rfl
theorem bindF_eq {α β : Type} {o : Option (α × Tm)} {k : α → Tm → Option β} {b : β} (h : bindF o k = some b) : ∃ a T, o = some (a, T) ∧ k a T = some b := by
  cases o with
  | none => cases h
  | some p => exact ⟨p.1, p.2, rfl, h⟩
abbrev FE := Rho → Tm → Option (D × Tm)
abbrev FT := Rho → Tm → Option (Bool × Tm)
abbrev FA := Rho → Tm → Option (List D × Tm)
inductive Rz where
  | nx (ρ : Rho) | rt (d : D) | bk (ρ : Rho) | ct (ρ : Rho)
abbrev FS := Rho → Tm → Option (Rz × Tm)
/-- an operand: data, or one's own list -/
inductive Op where
  | val (d : D) | own (i : Nat) (ds : List D)
abbrev FO := Rho → Tm → Option (Op × Tm)

/-- what a step leaves as it is -/
structure Gr (G : Hp) (ad : List Addr) (H : Hp) (G' : Hp) (ad' : List Addr) (H' : Hp) : Prop where
  ex : Ex G G'
  pr : Pre ad ad'
  fr : ∀ b o, H b = some o → b ∉ ad → H' b = some o
  nG : ∀ b o, G' b = some o → G b = some o ∨ H b = none
  nA : ∀ a, a ∈ ad' → a ∈ ad ∨ H a = none
theorem Gr.refl (G : Hp) (ad : List Addr) (H : Hp) : Gr G ad H G ad H := ⟨Ex.refl _, Pre.refl _, fun _ _ h _ => h, fun _ _ h => .inl h, fun _ h => .inl h⟩
theorem Gr.back {G G' H H' : Hp} {ad ad' : List Addr} (x : Gr G ad H G' ad' H') (hat : ∀ a, a ∈ ad' → ∃ o, H' a = some o) {b : Addr} (h : H' b = none) : H b = none := by
  cases e : H b with
  | none => rfl
  | some o =>
    by_cases hb : b ∈ ad
    · obtain ⟨o', q⟩ := hat b (x.pr.mem hb)
      rw [h] at q
      cases q
    · have := x.fr b o e hb
      rw [h] at this
      cases this
theorem Gr.trans {G G1 G2 H H1 H2 : Hp} {ad ad1 ad2 : List Addr} (x : Gr G ad H G1 ad1 H1) (y : Gr G1 ad1 H1 G2 ad2 H2) (hat : ∀ a, a ∈ ad1 → ∃ o, H1 a = some o) : Gr G ad H G2 ad2 H2 where
  ex := x.ex.trans y.ex
  pr := x.pr.trans y.pr
  fr := fun b o h hb => y.fr b o (x.fr b o h hb) fun hm => by
    rcases x.nA b hm with q | q
    · exact hb q
    · rw [h] at q
      cases q
  nG := fun b o h => by
    rcases y.nG b o h with q | q
    · exact x.nG b o q
    · exact .inr (x.back hat q)
  nA := fun a h => by
    rcases y.nA a h with q | q
    · exact x.nA a q
    · exact .inr (x.back hat q)
/-- what is known behind -/
structure Nx (K : PySem.W.Frag) (Z : Zc) (G : Hp) (ad : List Addr) (H : Hp) (ρ : Rho) (σ : L2.St) (pa : Nat → Addr) (T' : Tm) (G' : Hp) (ad' : List Addr) (H' : Hp) : Prop where
  en : En K Z G' ad' T' ρ σ H' pa
  gr : Gr G ad H G' ad' H'
theorem Iv.ats {K : PySem.W.Frag} {Z : Zc} {G : Hp} {ad : List Addr} {T : Tm} {H : Hp} (I : Iv K Z G ad T H) : ∀ a, a ∈ ad → ∃ o, H a = some o := fun a h => I.at h
theorem Nx.trans {K : PySem.W.Frag} {Z : Zc} {G G1 G2 : Hp} {ad ad1 ad2 : List Addr} {ρ : Rho} {σ : L2.St} {pa : Nat → Addr} {T1 T2 : Tm} {H H1 H2 : Hp}
    (a : Nx K Z G ad H ρ σ pa T1 G1 ad1 H1) (b : Nx K Z G1 ad1 H1 ρ σ pa T2 G2 ad2 H2) : Nx K Z G ad H ρ σ pa T2 G2 ad2 H2 := ⟨b.en, a.gr.trans b.gr a.en.iv.ats⟩
theorem En.nx {K : PySem.W.Frag} {Z : Zc} {G : Hp} {ad : List Addr} {T : Tm} {ρ : Rho} {σ : L2.St} {H : Hp} {pa : Nat → Addr} (N : En K Z G ad T ρ σ H pa) : Nx K Z G ad H ρ σ pa T G ad H := ⟨N, Gr.refl _ _ _⟩
theorem Nx.rp {K : PySem.W.Frag} {Z : Zc} {G G1 : Hp} {ad ad1 : List Addr} {ρ : Rho} {σ : L2.St} {pa : Nat → Addr} {T1 : Tm} {H H1 : Hp} (a : Nx K Z G ad H ρ σ pa T1 G1 ad1 H1) {v : V} {d : D} (r : Rp K G ad v d) : Rp K G1 ad1 v d := r.mono a.gr.ex a.gr.pr
theorem Nx.rpl {K : PySem.W.Frag} {Z : Zc} {G G1 : Hp} {ad ad1 : List Addr} {ρ : Rho} {σ : L2.St} {pa : Nat → Addr} {T1 : Tm} {H H1 : Hp} (a : Nx K Z G ad H ρ σ pa T1 G1 ad1 H1) {v : List V} {d : List D} (r : RpL K G ad v d) : RpL K G1 ad1 v d := r.mono a.gr.ex a.gr.pr

/-- what an expression's end is to be -/
def tD (K : PySem.W.Frag) (f : FE) : TE := fun σ H Q => ∃ Z G ad T ρ pa d T', En K Z G ad T ρ σ H pa ∧ f ρ T = some (d, T') ∧
  ∀ v G' ad' H', Nx K Z G ad H ρ σ pa T' G' ad' H' → Rp K G' ad' v d → Q v H'
def tDT (K : PySem.W.Frag) (f : FT) : TT := fun σ H Q => ∃ Z G ad T ρ pa b T', En K Z G ad T ρ σ H pa ∧ f ρ T = some (b, T') ∧
  ∀ G' ad' H', Nx K Z G ad H ρ σ pa T' G' ad' H' → Q b H'
def tDA (K : PySem.W.Frag) (f : FA) : TA := fun σ H Q => ∃ Z G ad T ρ pa ds T', En K Z G ad T ρ σ H pa ∧ f ρ T = some (ds, T') ∧
  ∀ vs G' ad' H', Nx K Z G ad H ρ σ pa T' G' ad' H' → RpL K G' ad' vs ds → Q vs H'
/-- a list of one's own at p, held by no name yet -/
structure Nw (K : PySem.W.Frag) (Z : Zc) (G : Hp) (ad : List Addr) (ρ : Rho) (pa : Nat → Addr) (H : Hp) (p : Addr) (ds : List D) : Prop where
  g : G p = none
  a : p ∉ ad
  h : Z.He p = none
  o : ∀ (i : Nat) (es : List D), ρ[i]? = some (.own es) → pa i ≠ p
  at_ : ∃ vs, H p = some (.lst vs) ∧ RpL K G ad vs ds
def tDL (K : PySem.W.Frag) (f : FA) : TE := fun σ H Q => ∃ Z G ad T ρ pa ds T', En K Z G ad T ρ σ H pa ∧ f ρ T = some (ds, T') ∧
  ∀ p G' ad' H', Nx K Z G ad H ρ σ pa T' G' ad' H' → Nw K Z G' ad' ρ pa H' p ds → H p = none → Q (.ref p) H'
def OpOk (K : PySem.W.Frag) (G : Hp) (ad : List Addr) (ρ : Rho) (pa : Nat → Addr) (v : V) : Op → Prop
  | .val d => Rp K G ad v d
  | .own i ds => ρ[i]? = some (.own ds) ∧ v = .ref (pa i)
def tDO (K : PySem.W.Frag) (f : FO) : TE := fun σ H Q => ∃ Z G ad T ρ pa o T', En K Z G ad T ρ σ H pa ∧ f ρ T = some (o, T') ∧
  ∀ v G' ad' H', Nx K Z G ad H ρ σ pa T' G' ad' H' → OpOk K G' ad' ρ pa v o → Q v H'
def EndD (K : PySem.W.Frag) (Z : Zc) (G : Hp) (ad : List Addr) (T' : Tm) (D0 : Ends) : Rz → Prop
  | .nx ρ' => ∀ σ' G' ad' H' pa', En K Z G' ad' T' ρ' σ' H' pa' → Ex G G' → Pre ad ad' → D0.nx σ' H'
  | .bk ρ' => ∀ σ' G' ad' H' pa', En K Z G' ad' T' ρ' σ' H' pa' → Ex G G' → Pre ad ad' → D0.bk σ' H'
  | .ct ρ' => ∀ σ' G' ad' H' pa', En K Z G' ad' T' ρ' σ' H' pa' → Ex G G' → Pre ad ad' → D0.ct σ' H'
  | .rt d => ∀ v G' ad' H', Iv K Z G' ad' T' H' → Ex G G' → Pre ad ad' → Rp K G' ad' v d → D0.rt v H'
def tDS (K : PySem.W.Frag) (g : FS) : TS := fun D0 σ H => ∃ Z G ad T ρ pa r T', En K Z G ad T ρ σ H pa ∧ g ρ T = some (r, T') ∧ EndD K Z G ad T' D0 r

abbrev XE (X : Cx) (e : Expr) (f : FE) : Prop := PE X e (tD X.K f)
abbrev XO (X : Cx) (e : Expr) (f : FO) : Prop := PE X e (tDO X.K f)
abbrev XL (X : Cx) (e : Expr) (f : FA) : Prop := PE X e (tDL X.K f)
abbrev XT (X : Cx) (e : Expr) (f : FT) : Prop := PT X e (tDT X.K f)
abbrev XW (X : Cx) (e : Expr) (f : FT) : Prop := PW X e (tDT X.K f)
abbrev XA (X : Cx) (es : List Expr) (f : FA) : Prop := PA X es (tDA X.K f)
abbrev XS (X : Cx) (st : Stmt) (g : FS) : Prop := PS X st (tDS X.K g)
abbrev XSs (X : Cx) (sts : List Stmt) (g : FS) : Prop := PSs X sts (tDS X.K g)

section
variable {X : Cx} {e : Expr} {st : Stmt} {sts : List Stmt}
theorem pe_weak {t t' : TE} (h : PE X e t) (k : ∀ σ H Q, t' σ H Q → t σ H Q) : PE X e t' := ⟨fun pins s σ H Q I hw => h.run pins s σ H Q I (k σ H Q hw)⟩
theorem pt_weak {t t' : TT} (h : PT X e t) (k : ∀ σ H Q, t' σ H Q → t σ H Q) : PT X e t' := ⟨fun pins s σ H Q I hw => h.run pins s σ H Q I (k σ H Q hw)⟩
theorem pw_weak {t t' : TT} (h : PW X e t) (k : ∀ σ H Q, t' σ H Q → t σ H Q) : PW X e t' := ⟨fun wh pins s σ H Q I hw => h.run wh pins s σ H Q I (k σ H Q hw)⟩
theorem pa_weak {es : List Expr} {t t' : TA} (h : PA X es t) (k : ∀ σ H Q, t' σ H Q → t σ H Q) : PA X es t' := ⟨fun pos pins s σ H Q I hw => h.run pos pins s σ H Q I (k σ H Q hw)⟩
theorem ps_weak {t t' : TS} (h : PS X st t) (k : ∀ D σ H, t' D σ H → t D σ H) : PS X st t' := ⟨fun pins s σ H D I hw => h.run pins s σ H D I (k D σ H hw)⟩
theorem pss_weak {t t' : TS} (h : PSs X sts t) (k : ∀ D σ H, t' D σ H → t D σ H) : PSs X sts t' := ⟨fun pins s σ H D I hw => h.run pins s σ H D I (k D σ H hw)⟩
end

section
variable {K : PySem.W.Frag} {Z : Zc} {G G' : Hp} {ad ad' : List Addr} {T T' : Tm} {ρ : Rho} {σ : L2.St} {H H' : Hp} {pa : Nat → Addr} {p : Addr} {ds : List D}
/-- a list that nobody changes any more -/
theorem Iv.learn (I : Iv K Z G ad T H) {o : HO} (g : G p = none) (a : p ∉ ad) (h : Z.He p = none) (hH : H p = some o) : Iv K Z (upd G p o) ad T H where
  ex := fun b u e => by
    by_cases hb : b = p
    · subst hb
      rw [upd_same] at e
      cases e
      exact hH
    · rw [upd_ne hb] at e
      exact I.ex b u e
  out := fun b hb => by
    have : b ≠ p := fun e => a (e ▸ hb)
    rw [upd_ne this]
    exact I.out b hb
  nd := I.nd
  len := I.len
  obj := fun k b m h1 h2 => (I.obj k b m h1 h2).mono (Ex.new g) (Pre.refl _)
  gex := I.gex.trans (Ex.new g)
  pre := I.pre
  frame := I.frame
  newG := fun b u e => by
    by_cases hb : b = p
    · subst hb
      exact .inr h
    · rw [upd_ne hb] at e
      exact I.newG b u e
  newA := I.newA
theorem En.learn (N : En K Z G ad T ρ σ H pa) (w : Nw K Z G ad ρ pa H p ds) : ∃ G', En K Z G' ad T ρ σ H pa ∧ Ex G G' ∧ Rp K G' ad (.ref p) (.lst ds) ∧ (∀ b o, G' b = some o → G b = some o ∨ b = p) := by
  obtain ⟨vs, h1, h2⟩ := w.at_
  refine ⟨upd G p (.lst vs), ⟨N.iv.learn w.g w.a w.h h1, N.hl, fun i s h => ?_, N.ne⟩, Ex.new w.g, .lst upd_same (h2.mono (Ex.new w.g) (Pre.refl _)), fun b o hb => by
    by_cases e : b = p
    · exact .inr e
    · rw [upd_ne e] at hb
      exact .inl hb⟩
  have q := N.env i s h
  cases s with
  | un => trivial
  | dat d =>
    obtain ⟨v, q1, q2⟩ := q
    exact ⟨v, q1, q2.mono (Ex.new w.g) (Pre.refl _)⟩
  | own es =>
    obtain ⟨us, q1, q2, q3, q4, q5, q6⟩ := q
    exact ⟨us, q1, q2, q3.mono (Ex.new w.g) (Pre.refl _), by rw [upd_ne (w.o i es h)]; exact q4, q5, q6⟩
/-- a slot gets a list of one's own -/
theorem En.take (N : En K Z G ad T ρ σ H pa) (w : Nw K Z G ad ρ pa H p ds) (i : Nat) : En K Z G ad T (ρ.set i (.own ds)) (σ.set i (some (.ref p))) H (paS pa i p) := by
  obtain ⟨vs, hv, rv⟩ := w.at_
  refine ⟨N.iv, by rw [List.length_set, List.length_set]; exact N.hl, fun j s h => ?_, fun j k es fs h1 h2 hn => ?_⟩
  · by_cases hj : i = j
    · subst hj
      by_cases hi : i < ρ.length
      · rw [List.getElem?_set_self hi] at h
        cases h
        refine ⟨vs, ?_, ?_, rv, ?_, ?_, ?_⟩
        · rw [List.getElem?_set_self (by rw [← N.hl]; exact hi), paS_same]
        · rw [paS_same]; exact hv
        · rw [paS_same]; exact w.g
        · rw [paS_same]; exact w.a
        · rw [paS_same]; exact w.h
      · rw [List.getElem?_eq_none (by rw [List.length_set]; omega)] at h
        cases h
    · rw [List.getElem?_set_ne hj] at h
      have q := N.env j s h
      have hj' : j ≠ i := Ne.symm hj
      cases s with
      | un => trivial
      | dat d =>
        obtain ⟨x, h1, h2⟩ := q
        exact ⟨x, by rw [List.getElem?_set_ne hj]; exact h1, h2⟩
      | own es =>
        obtain ⟨ws, h1, h2, h3, h4, h5, h6⟩ := q
        refine ⟨ws, ?_, ?_, h3, ?_, ?_, ?_⟩
        · rw [List.getElem?_set_ne hj, paS_ne hj']; exact h1
        · rw [paS_ne hj']; exact h2
        · rw [paS_ne hj']; exact h4
        · rw [paS_ne hj']; exact h5
        · rw [paS_ne hj']; exact h6
  · have f : ∀ (m : Nat) (xs : List D), m ≠ i → (ρ.set i (Sl.own ds))[m]? = some (Sl.own xs) → ρ[m]? = some (Sl.own xs) := fun m xs hm h => by
      rw [List.getElem?_set_ne (Ne.symm hm)] at h
      exact h
    by_cases e1 : j = i
    · by_cases e2 : k = i
      · exact absurd (e1.trans e2.symm) hn
      · rw [e1, paS_same, paS_ne e2]
        exact (w.o k fs (f k fs e2 h2)).symm
    · by_cases e2 : k = i
      · rw [e2, paS_same, paS_ne e1]
        exact w.o j es (f j es e1 h1)
      · rw [paS_ne e1, paS_ne e2]
        exact N.ne j k es fs (f j es e1 h1) (f k fs e2 h2) hn
/-- it becomes an object that changes -/
theorem En.join (N : En K Z G ad T ρ σ H pa) (w : Nw K Z G ad ρ pa H p ds) : En K Z G (ad ++ [p]) (T ++ [.lst ds]) ρ σ H pa ∧ Pre ad (ad ++ [p]) ∧ Rp K G (ad ++ [p]) (.ref p) (.ob T.length) := by
  obtain ⟨vs, hv, rv⟩ := w.at_
  have pr : Pre ad (ad ++ [p]) := fun k a h => by
    rw [List.getElem?_append_left (List.getElem?_eq_some_iff.mp h).1]
    exact h
  refine ⟨⟨N.iv.join w.g w.a w.h hv rv, N.hl, fun i s h => ?_, N.ne⟩, pr, .ob ?_⟩
  · have q := N.env i s h
    cases s with
    | un => trivial
    | dat d =>
      obtain ⟨v, q1, q2⟩ := q
      exact ⟨v, q1, q2.mono (Ex.refl _) pr⟩
    | own es =>
      obtain ⟨us, q1, q2, q3, q4, q5, q6⟩ := q
      refine ⟨us, q1, q2, q3.mono (Ex.refl _) pr, q4, fun hm => ?_, q6⟩
      rcases List.mem_append.mp hm with hm | hm
      · exact q5 hm
      · exact w.o i es h (List.mem_singleton.mp hm)
  · rw [← N.iv.len]
    simp
/-- a new list just laid -/
theorem En.laid (N : En K Z G ad T ρ σ H pa) (hp : H p = none) {vs : List V} (r : RpL K G ad vs ds) : En K Z G ad T ρ σ (upd H p (.lst vs)) pa ∧ Nw K Z G ad ρ pa (upd H p (.lst vs)) p ds := by
  have ho : ∀ (i : Nat) (es : List D), ρ[i]? = some (.own es) → pa i ≠ p := fun i es h => by
    obtain ⟨ws, _, q, _⟩ := N.env i _ h
    exact ne_of_none q hp
  refine ⟨⟨N.iv.mine (N.iv.freshG hp) (N.iv.fresh hp) (N.iv.freshE hp) _, N.hl, fun i s h => ?_, N.ne⟩, ⟨N.iv.freshG hp, N.iv.fresh hp, N.iv.freshE hp, ho, vs, upd_same, r⟩⟩
  have q := N.env i s h
  cases s with
  | un => trivial
  | dat d => exact q
  | own es =>
    obtain ⟨us, q1, q2, q3⟩ := q
    exact ⟨us, q1, by rw [upd_ne (ho i es h)]; exact q2, q3⟩
/-- a slot is forgotten -/
theorem En.forget (N : En K Z G ad T ρ σ H pa) {σ' : L2.St} {ρ' : Rho} (hl : ρ'.length = σ'.length) (h : ∀ (i : Nat) (s : Sl), ρ'[i]? = some s → s = Sl.un ∨ (ρ[i]? = some s ∧ σ'[i]? = σ[i]?)) : En K Z G ad T ρ' σ' H pa := by
  refine ⟨N.iv, hl, fun i s hs => ?_, fun i j es fs h1 h2 hn => ?_⟩
  · rcases h i s hs with rfl | ⟨h1, h2⟩
    · trivial
    · have q := N.env i s h1
      cases s with
      | un => trivial
      | dat d =>
        obtain ⟨v, q1, q2⟩ := q
        exact ⟨v, h2.trans q1, q2⟩
      | own es =>
        obtain ⟨us, q1, q2⟩ := q
        exact ⟨us, h2.trans q1, q2⟩
  · rcases h i _ h1 with e | ⟨e1, _⟩
    · cases e
    · rcases h j _ h2 with e | ⟨e2, _⟩
      · cases e
      · exact N.ne i j es fs e1 e2 hn
end
end Fx
namespace Fx
open PySem PySem.Spec PyProof.Rows L2
open Evl (Ex)

section
variable {K : PySem.W.Frag} {Z : Zc} {G G' : Hp} {ad ad' : List Addr} {T T' : Tm} {ρ : Rho} {σ : L2.St} {H H' : Hp} {pa : Nat → Addr} {p : Addr} {ds : List D}
theorem En.knowN (N : En K Z G ad T ρ σ H pa) (hp : H p = none) (o : HO) : Nx K Z G ad H ρ σ pa T (upd G p o) ad (upd H p o) where
  en := N.know hp o
  gr := ⟨Ex.new (N.iv.freshG hp), Pre.refl _, fun b o' h _ => by rw [upd_ne (ne_of_none h hp)]; exact h, fun b o' h => by
    by_cases e : b = p
    · exact .inr (e ▸ hp)
    · rw [upd_ne e] at h
      exact .inl h, fun a h => .inl h⟩
theorem Nx.learn (x : Nx K Z G ad H ρ σ pa T' G' ad' H') (w : Nw K Z G' ad' ρ pa H' p ds) (hp : H p = none) : ∃ G2, Nx K Z G ad H ρ σ pa T' G2 ad' H' ∧ Ex G' G2 ∧ Rp K G2 ad' (.ref p) (.lst ds) := by
  obtain ⟨G2, N2, e2, r2, h2⟩ := x.en.learn w
  refine ⟨G2, ⟨N2, x.gr.ex.trans e2, x.gr.pr, x.gr.fr, fun b o h => ?_, x.gr.nA⟩, e2, r2⟩
  rcases h2 b o h with q | q
  · exact x.gr.nG b o q
  · exact .inr (q ▸ hp)
theorem Iv.tup (I : Iv K Z G ad T H) {a : Addr} {vs : List V} (h : TupK K G a vs) : SqT K H a vs := (h.mono I.ex).seq
theorem Iv.seq (I : Iv K Z G ad T H) {a : Addr} {vs : List V} (h : SqL K G a vs) : SqL K H a vs := Evl.ex_l I.ex h
end

/-! ### names, constants -/
def varF (i : Nat) : FE := fun ρ T => match ρ[i]? with
  | some (.dat d) => some (d, T)
  | _ => none
def varO (i : Nat) : FO := fun ρ T => match ρ[i]? with
  | some (.dat d) => some (.val d, T)
  | some (.own ds) => some (.own i ds, T)
  | _ => none
def constF (d : D) : FE := fun _ T => some (d, T)
section
variable {X : Cx} {a b c : Expr} {pos : Pos}
theorem xe_var (i : Nat) {x : Str} (h : PE X (.Name x pos) (tVar i) := by exact pv _) : XE X (.Name x pos) (varF i) := pe_weak h fun σ H Q h => by
  obtain ⟨Z, G, ad, T, ρ, pa, d, T', N, hf, k⟩ := h
  unfold varF at hf
  split at hf
  · rename_i d' hd
    cases hf
    obtain ⟨v, h1, h2⟩ := N.env i _ hd
    exact ⟨v, h1, k v G ad H N.nx h2⟩
  · cases hf
theorem xo_var (i : Nat) {x : Str} (h : PE X (.Name x pos) (tVar i) := by exact pv _) : XO X (.Name x pos) (varO i) := pe_weak h fun σ H Q h => by
  obtain ⟨Z, G, ad, T, ρ, pa, d, T', N, hf, k⟩ := h
  unfold varO at hf
  split at hf
  · rename_i d' hd
    cases hf
    obtain ⟨v, h1, h2⟩ := N.env i _ hd
    exact ⟨v, h1, k v G ad H N.nx h2⟩
  · rename_i d' hd
    cases hf
    obtain ⟨vs, h1, h2⟩ := N.env i _ hd
    exact ⟨_, h1, k _ G ad H N.nx ⟨hd, rfl⟩⟩
  · cases hf
theorem xe_c {v : V} {d : D} (h : PE X a (tC v)) (r : ∀ G ad, Rp X.K G ad v d) : XE X a (constF d) := pe_weak h fun σ H Q h => by
  obtain ⟨Z, G, ad, T, ρ, pa, d, T', N, hf, k⟩ := h
  cases hf
  exact k v G ad H N.nx (r G ad)
theorem xe_int {i : Int} {j : Nat} : XE X (.Constant (.int i) j pos) (constF (.int i)) := xe_c pe_int fun _ _ => .int i
theorem xe_bl {b : Bool} {j : Nat} : XE X (.Constant (.bool b) j pos) (constF (.bl b)) := xe_c pe_bl fun _ _ => .bl b
theorem xe_non {j : Nat} : XE X (.Constant .none j pos) (constF .non) := xe_c pe_non fun _ _ => .non
theorem xe_str {s : Str} {j : Nat} : XE X (.Constant (.str s) j pos) (constF (.str s)) := xe_c pe_str fun _ _ => .str s
theorem xe_gint {x : Str} {i : Int} (hg : Gl X x) (hm : ∃ t, X.mg x = some (.int i t)) (hd : (x == ("__debug__" : Str)) = false := by decide) : XE X (.Name x pos) (constF (.int i)) := by
  obtain ⟨t, hm⟩ := hm
  exact xe_c (v := .int i) (pe_glob hg hm ⟨t, rfl⟩ hd) fun _ _ => .int i
/-- an operand that is data -/
def ofF (f : FE) : FO := fun ρ T => bindF (f ρ T) fun d T' => some (.val d, T')
theorem xo_of {f : FE} (h : XE X a f) : XO X a (ofF f) := pe_weak h fun σ H Q h => by
  obtain ⟨Z, G, ad, T, ρ, pa, o, T', N, hf, k⟩ := h
  obtain ⟨d, T1, h1, h2⟩ := bindF_eq hf
  cases h2
  exact ⟨Z, G, ad, T, ρ, pa, d, _, N, h1, fun v G' ad' H' x r => k v G' ad' H' x r⟩
/-- a new list, not to be changed -/
def frzF (f : FA) : FE := fun ρ T => bindF (f ρ T) fun ds T' => some (.lst ds, T')
theorem xe_frz {f : FA} (h : XL X a f) : XE X a (frzF f) := pe_weak h fun σ H Q h => by
  obtain ⟨Z, G, ad, T, ρ, pa, o, T', N, hf, k⟩ := h
  obtain ⟨ds, T1, h1, h2⟩ := bindF_eq hf
  cases h2
  refine ⟨Z, G, ad, T, ρ, pa, ds, _, N, h1, fun p G' ad' H' x w hp => ?_⟩
  obtain ⟨G2, x2, e2, r2⟩ := x.learn w hp
  exact k _ G2 ad' H' x2 r2

/-! ### operators -/
def binF (g : D → D → Option D) (f1 f2 : FE) : FE := fun ρ T => bindF (f1 ρ T) fun x T1 => bindF (f2 ρ T1) fun y T2 => match g x y with
  | some z => some (z, T2)
  | none => none
def OkR (K : PySem.W.Frag) (r : R2) (g : D → D → Option D) : Prop := ∀ (Z : Zc) (G : Hp) (ad : List Addr) (T : Tm) (ρ : Rho) (σ : L2.St) (H : Hp) (pa : Nat → Addr) (v w : V) (x y z : D) (Q : VK),
  En K Z G ad T ρ σ H pa → Rp K G ad v x → Rp K G ad w y → g x y = some z → (∀ u G' ad' H', Nx K Z G ad H ρ σ pa T G' ad' H' → Rp K G' ad' u z → Q u H') → r v w H Q
theorem op_run {r : R2} {g : D → D → Option D} {f1 f2 : FE} {σ : L2.St} {H : Hp} {Q : VK} (hr : OkR X.K r g) (h : tD X.K (binF g f1 f2) σ H Q) : tOp r (tD X.K f1) (tD X.K f2) σ H Q := by
  obtain ⟨Z, G, ad, T, ρ, pa, d, T', N, hf, k⟩ := h
  obtain ⟨x, T1, h1, h2⟩ := bindF_eq hf
  obtain ⟨y, T2, h3, h4⟩ := bindF_eq h2
  cases e : g x y with
  | none => rw [e] at h4; cases h4
  | some z =>
    rw [e] at h4
    cases h4
    refine ⟨Z, G, ad, T, ρ, pa, x, T1, N, h1, fun v G1 ad1 H1 x1 r1 => ⟨Z, G1, ad1, T1, ρ, pa, y, _, x1.en, h3, fun w G2 ad2 H2 x2 r2 => ?_⟩⟩
    exact hr Z G2 ad2 _ ρ σ H2 pa v w x y _ Q x2.en (x2.rp r1) r2 e fun u G3 ad3 H3 x3 r3 => k u G3 ad3 H3 ((x1.trans x2).trans x3) r3
theorem xe_op {op : Operator} {r : R2} {g : D → D → Option D} {f1 f2 : FE} (ho : OpR X (binaryOp op) r) (hr : OkR X.K r g) (h1 : XE X a f1) (h2 : XE X b f2) : XE X (.BinOp a op b pos) (binF g f1 f2) :=
  pe_weak (pe_op ho h1 h2) fun _ _ _ => op_run hr
theorem xe_cmp {op : CmpOp} {r : R2} {g : D → D → Option D} {f1 f2 : FE} (ho : OpR X (compareOp op) r) (hr : OkR X.K r g) (h1 : XE X a f1) (h2 : XE X b f2) (hm : behindInMarks op b = false := by rfl) : XE X (.Compare a [op] [b] pos) (binF g f1 f2) :=
  pe_weak (pe_cmpR ho h1 h2 hm) fun _ _ _ => op_run hr
def testF (f : FE) : FT := fun ρ T => bindF (f ρ T) fun d T' => match d with
  | .bl b => some (b, T')
  | _ => none
theorem test_run {f : FE} {σ : L2.St} {H : Hp} {Q : Bool → Hp → Prop} (h : tDT X.K (testF f) σ H Q) : tD X.K f σ H fun x H' => ∃ k, x = .bl k ∧ Q k H' := by
  obtain ⟨Z, G, ad, T, ρ, pa, b, T', N, hf, k⟩ := h
  obtain ⟨d, T1, h1, h2⟩ := bindF_eq hf
  refine ⟨Z, G, ad, T, ρ, pa, d, T1, N, h1, fun v G1 ad1 H1 x1 r1 => ?_⟩
  cases d with
  | bl b' =>
    cases h2
    exact ⟨b, r1.inv_bl, k G1 ad1 H1 x1⟩
  | _ => cases h2
theorem xt_cmp {op : CmpOp} {r : R2} {g : D → D → Option D} {f1 f2 : FE} (ho : OpR X (compareOp op) r) (hr : OkR X.K r g) (h1 : XE X a f1) (h2 : XE X b f2) (hm : behindInMarks op b = false := by rfl) : XT X (.Compare a [op] [b] pos) (testF (binF g f1 f2)) := by
  refine pt_weak (pt_cmpR ho h1 h2 hm) fun σ H Q h => ?_
  have q := test_run h
  exact op_run hr q
theorem xt_val {f : FE} (h : XE X a f) (he : ∀ whole, isTrue a X.env whole = (do let v ← whole; standAt a.pos; holding [v] (truthy v)) := by intro _; rfl) : XT X a (testF f) :=
  pt_weak (pt_val h he) fun _ _ _ h => test_run h

def iiF (C : Int → Int → Bool) (f : Int → Int → D) : D → D → Option D := fun x y => match x, y with
  | .int i, .int j => if C i j then some (f i j) else none
  | _, _ => none
theorem iiF_eq {C : Int → Int → Bool} {f : Int → Int → D} {x y z : D} (h : iiF C f x y = some z) : ∃ i j, x = .int i ∧ y = .int j ∧ C i j = true ∧ z = f i j := by
  unfold iiF at h
  split at h
  · split at h
    · cases h
      exact ⟨_, _, rfl, rfl, by assumption, rfl⟩
    · cases h
  · cases h
@[simp] theorem iiF_int (C : Int → Int → Bool) (f : Int → Int → D) (i j : Int) : iiF C f (.int i) (.int j) = if C i j then some (f i j) else none := rfl
theorem ok_ii {K : PySem.W.Frag} {P : Int → Int → Prop} {C : Int → Int → Bool} {gV : Int → Int → V} {f : Int → Int → D} (hc : ∀ i j, C i j = true → P i j) (hf : ∀ i j G ad, Rp K G ad (gV i j) (f i j)) : OkR K (rI P gV) (iiF C f) :=
  fun Z G ad T ρ σ H pa v w x y z Q N rx ry hg k => by
    obtain ⟨i, j, rfl, rfl, h, rfl⟩ := iiF_eq hg
    exact ⟨i, j, rx.inv_int, ry.inv_int, hc i j h, k _ G ad H N.nx (hf i j G ad)⟩
theorem ok_ii0 {K : PySem.W.Frag} {C : Int → Int → Bool} {gV : Int → Int → V} {f : Int → Int → D} (hf : ∀ i j G ad, Rp K G ad (gV i j) (f i j)) : OkR K (rI0 gV) (iiF C f) :=
  fun Z G ad T ρ σ H pa v w x y z Q N rx ry hg k => by
    obtain ⟨i, j, rfl, rfl, h, rfl⟩ := iiF_eq hg
    exact ⟨i, j, rx.inv_int, ry.inv_int, k _ G ad H N.nx (hf i j G ad)⟩
def ctt : Int → Int → Bool := fun _ _ => true
@[simp] theorem ctt_eq (i j : Int) : ctt i j = true := rfl
/-- a decision that is not computed -/
noncomputable def dc (p : Prop) : Bool := @decide p (Classical.propDecidable _)
theorem dc_of {p : Prop} (h : p) : dc p = true := @decide_eq_true _ (Classical.propDecidable _) h
theorem of_dc {p : Prop} (h : dc p = true) : p := @of_decide_eq_true _ (Classical.propDecidable _) h
noncomputable def cMul : Int → Int → Bool := fun i j => dc ((-18446744073709551616 < i ∧ i < 18446744073709551616) ∨ (-18446744073709551616 < j ∧ j < 18446744073709551616))
theorem cMul_ok (i j : Int) (h : cMul i j = true) : CMul i j := by
  have := of_dc h
  unfold CMul
  omega
noncomputable def cDiv : Int → Int → Bool := fun _ j => dc (j ≠ 0 ∧ j.natAbs < 1073741824)
theorem cDiv_ok (i j : Int) (h : cDiv i j = true) : CDivN i j := of_dc h
noncomputable def cMod : Int → Int → Bool := fun _ j => dc (j ≠ 0)
noncomputable def cPow : Int → Int → Bool := fun i j => dc (0 ≤ j ∧ j ≤ 1000000 ∧ i.natAbs < 18446744073709551616)
theorem cPow_ok (i j : Int) (h : cPow i j = true) : CPow i j := by
  have := of_dc h
  exact ⟨this.1, this.2.1, by omega⟩
abbrev subD := iiF ctt fun i j => .int (i - j)
noncomputable abbrev divD := iiF cDiv fun i j => .int (i.fdiv j)
noncomputable abbrev modD := iiF cMod fun i j => .int (i.fmod j)
noncomputable abbrev powD := iiF cPow fun i j => .int (i ^ j.toNat)
abbrev ltD := iiF ctt fun i j => .bl (decide (i < j))
abbrev leD := iiF ctt fun i j => .bl (decide (i ≤ j))
abbrev gtD := iiF ctt fun i j => .bl (decide (j < i))
abbrev geD := iiF ctt fun i j => .bl (decide (j ≤ i))
noncomputable abbrev shlD := iiF cPow fun i j => .int (i * 2 ^ j.toNat)
abbrev shrD := iiF (fun _ j => decide (0 ≤ j)) fun i j => .int (i / 2 ^ j.toNat)
abbrev andD := iiF ctt fun i j => .int (Builtin.bitAnd i j)
abbrev orD := iiF ctt fun i j => .int (Builtin.bitOr i j)
abbrev xorD := iiF ctt fun i j => .int (Builtin.bitXor i j)
variable {f1 f2 : FE}
theorem xe_sub (h1 : XE X a f1) (h2 : XE X b f2) : XE X (.BinOp a .Sub b pos) (binF subD f1 f2) := xe_op op_sub (ok_ii0 fun _ _ _ _ => .int _) h1 h2
theorem xe_fdiv (h1 : XE X a f1) (h2 : XE X b f2) : XE X (.BinOp a .FloorDiv b pos) (binF divD f1 f2) := xe_op op_fdivN (ok_ii cDiv_ok fun _ _ _ _ => .int _) h1 h2
theorem xe_mod (h1 : XE X a f1) (h2 : XE X b f2) : XE X (.BinOp a .Mod b pos) (binF modD f1 f2) := xe_op op_modN (ok_ii (fun _ _ h => of_dc h) fun _ _ _ _ => .int _) h1 h2
theorem xe_pow (h1 : XE X a f1) (h2 : XE X b f2) : XE X (.BinOp a .Pow b pos) (binF powD f1 f2) := xe_op op_pow (ok_ii cPow_ok fun _ _ _ _ => .int _) h1 h2
theorem xe_shl (h1 : XE X a f1) (h2 : XE X b f2) : XE X (.BinOp a .LShift b pos) (binF shlD f1 f2) := xe_op op_shl (ok_ii cPow_ok fun _ _ _ _ => .int _) h1 h2
theorem xe_shr (h1 : XE X a f1) (h2 : XE X b f2) : XE X (.BinOp a .RShift b pos) (binF shrD f1 f2) := xe_op op_shr (ok_ii (fun _ _ h => of_decide_eq_true h) fun _ _ _ _ => .int _) h1 h2
theorem xe_and_ (h1 : XE X a f1) (h2 : XE X b f2) : XE X (.BinOp a .BitAnd b pos) (binF andD f1 f2) := xe_op op_and (ok_ii0 fun _ _ _ _ => .int _) h1 h2
theorem xe_or_ (h1 : XE X a f1) (h2 : XE X b f2) : XE X (.BinOp a .BitOr b pos) (binF orD f1 f2) := xe_op op_or (ok_ii0 fun _ _ _ _ => .int _) h1 h2
theorem xe_xor_ (h1 : XE X a f1) (h2 : XE X b f2) : XE X (.BinOp a .BitXor b pos) (binF xorD f1 f2) := xe_op op_xor (ok_ii0 fun _ _ _ _ => .int _) h1 h2
theorem xe_lt (h1 : XE X a f1) (h2 : XE X b f2) : XE X (.Compare a [.Lt] [b] pos) (binF ltD f1 f2) := xe_cmp op_lt (ok_ii0 fun _ _ _ _ => .bl _) h1 h2 (nomark _)
theorem xe_le (h1 : XE X a f1) (h2 : XE X b f2) : XE X (.Compare a [.LtE] [b] pos) (binF leD f1 f2) := xe_cmp op_le (ok_ii0 fun _ _ _ _ => .bl _) h1 h2 (nomark _)
theorem xe_gt (h1 : XE X a f1) (h2 : XE X b f2) : XE X (.Compare a [.Gt] [b] pos) (binF gtD f1 f2) := xe_cmp op_gt (ok_ii0 fun _ _ _ _ => .bl _) h1 h2 (nomark _)
theorem xe_ge (h1 : XE X a f1) (h2 : XE X b f2) : XE X (.Compare a [.GtE] [b] pos) (binF geD f1 f2) := xe_cmp op_ge (ok_ii0 fun _ _ _ _ => .bl _) h1 h2 (nomark _)
theorem xt_lt (h1 : XE X a f1) (h2 : XE X b f2) : XT X (.Compare a [.Lt] [b] pos) (testF (binF ltD f1 f2)) := xt_cmp op_lt (ok_ii0 fun _ _ _ _ => .bl _) h1 h2 (nomark _)
theorem xt_le (h1 : XE X a f1) (h2 : XE X b f2) : XT X (.Compare a [.LtE] [b] pos) (testF (binF leD f1 f2)) := xt_cmp op_le (ok_ii0 fun _ _ _ _ => .bl _) h1 h2 (nomark _)
theorem xt_gt (h1 : XE X a f1) (h2 : XE X b f2) : XT X (.Compare a [.Gt] [b] pos) (testF (binF gtD f1 f2)) := xt_cmp op_gt (ok_ii0 fun _ _ _ _ => .bl _) h1 h2 (nomark _)
theorem xt_ge (h1 : XE X a f1) (h2 : XE X b f2) : XT X (.Compare a [.GtE] [b] pos) (testF (binF geD f1 f2)) := xt_cmp op_ge (ok_ii0 fun _ _ _ _ => .bl _) h1 h2 (nomark _)

/-- + -/
def addD : D → D → Option D
  | .int i, .int j => some (.int (i + j))
  | .str x, .str y => if x.length + y.length ≤ sizeLine then some (.str (x ++ y)) else none
  | .tup xs, .tup ys => if xs.length + ys.length ≤ sizeLine then some (.tup (xs ++ ys)) else none
  | .lst xs, .lst ys => if xs.length + ys.length ≤ sizeLine then some (.lst (xs ++ ys)) else none
  | _, _ => none
@[simp] theorem addD_int (i j : Int) : addD (.int i) (.int j) = some (.int (i + j)) := rfl
@[simp] theorem addD_str (x y : Str) : addD (.str x) (.str y) = if x.length + y.length ≤ sizeLine then some (.str (x ++ y)) else none := rfl
@[simp] theorem addD_tup (x y : List D) : addD (.tup x) (.tup y) = if x.length + y.length ≤ sizeLine then some (.tup (x ++ y)) else none := rfl
@[simp] theorem addD_lst (x y : List D) : addD (.lst x) (.lst y) = if x.length + y.length ≤ sizeLine then some (.lst (x ++ y)) else none := rfl
def rAddU (K : PySem.W.Frag) : R2 := fun x y H Q => (rI0 fun i j => .int (i + j)) x y H Q ∨ (fun x y H Q => ∃ i j, x = .str i ∧ y = .str j ∧ i.length + j.length ≤ sizeLine ∧ Q (.str (i ++ j)) H : R2) x y H Q ∨ rCatP K x y H Q ∨ rCat x y H Q
theorem op_addU : OpR X (binaryOp .Add) (rAddU X.K) := op_add.or (op_add_str.or (op_catP.or op_cat))
theorem ok_add {K : PySem.W.Frag} : OkR K (rAddU K) addD := fun Z G ad T ρ σ H pa v w x y z Q N rx ry hg k => by
  unfold addD at hg
  split at hg
  · cases hg
    exact .inl ⟨_, _, rx.inv_int, ry.inv_int, k _ G ad H N.nx (.int _)⟩
  · split at hg
    · cases hg
      exact .inr (.inl ⟨_, _, rx.inv_str, ry.inv_str, by assumption, k _ G ad H N.nx (.str _)⟩)
    · cases hg
  · rename_i xs ys
    split at hg
    · rename_i hz
      cases hg
      obtain ⟨p, vs, rfl, h1, r1⟩ := rx.inv_tup
      obtain ⟨q, ws, rfl, h2, r2⟩ := ry.inv_tup
      refine .inr (.inr (.inl ⟨p, q, vs, ws, rfl, rfl, N.iv.tup h1, N.iv.tup h2, by rw [r1.length, r2.length]; exact hz, fun e => ?_, fun e e' => ?_, fun e e' q' o ho hd => ?_⟩))
      · subst e
        cases r1
        exact k _ G ad H N.nx (.tup h2 r2)
      · subst e'
        cases r2
        rw [List.append_nil] at k
        exact k _ G ad H N.nx (.tup h1 r1)
      · have x := N.knowN ho (.frz o (.tup (vs ++ ws)))
        exact k _ _ _ _ x (.tup (TupK.new hd) (x.rpl (r1.append r2)))
    · cases hg
  · rename_i xs ys
    split at hg
    · rename_i hz
      cases hg
      obtain ⟨p, vs, rfl, h1, r1⟩ := rx.inv_lst
      obtain ⟨q, ws, rfl, h2, r2⟩ := ry.inv_lst
      refine .inr (.inr (.inr ⟨p, q, vs, ws, rfl, rfl, N.iv.ex _ _ h1, N.iv.ex _ _ h2, by rw [r1.length, r2.length]; exact hz, fun o ho => ?_⟩))
      have x := N.knowN ho (.lst (vs ++ ws))
      exact k _ _ _ _ x (.lst upd_same (x.rpl (r1.append r2)))
    · cases hg
  · cases hg
theorem xe_add (h1 : XE X a f1) (h2 : XE X b f2) : XE X (.BinOp a .Add b pos) (binF addD f1 f2) := xe_op op_addU ok_add h1 h2

/-! ### ==, is -/
mutual
def toPy : D → Option PyData
  | .non => some .none
  | .bl b => some (.bool b)
  | .int i => some (.int i)
  | .str s => some (.str s)
  | .tup ds => (toPyL ds).map .tuple
  | .lst ds => (toPyL ds).map .list
  | .frl ds => (toPyL ds).map .list
  | .ob _ => none
def toPyL : List D → Option (List PyData)
  | [] => some []
  | d :: ds => match toPy d, toPyL ds with
    | some x, some xs => some (x :: xs)
    | _, _ => none
end
mutual
theorem Rp.dp {K : PySem.W.Frag} {G H : Hp} {ad : List Addr} (e : Ex G H) : ∀ {v : V} {d : D} {p : PyData}, Rp K G ad v d → toPy d = some p → Dp K H v p
  | _, _, _, .non, h => by rw [toPy] at h; cases h; exact .non
  | _, _, _, .bl b, h => by rw [toPy] at h; cases h; exact .bl b
  | _, _, _, .int i, h => by rw [toPy] at h; cases h; exact .int i
  | _, _, _, .str s, h => by rw [toPy] at h; cases h; exact .str s
  | _, _, _, .tup h t, g => by
    rw [toPy] at g
    obtain ⟨xs, h1, h2⟩ := Option.map_eq_some_iff.mp g
    subst h2
    exact .tup (h.mono e).seq (RpL.dp e t h1)
  | _, _, _, .lst h t, g => by
    rw [toPy] at g
    obtain ⟨xs, h1, h2⟩ := Option.map_eq_some_iff.mp g
    subst h2
    exact .lst (.inl (.inl (e _ _ h))) (RpL.dp e t h1)
  | _, _, _, .frl h t, g => by
    rw [toPy] at g
    obtain ⟨xs, h1, h2⟩ := Option.map_eq_some_iff.mp g
    subst h2
    exact .lst (Evl.ex_l e h) (RpL.dp e t h1)
  | _, _, _, .ob _, h => by rw [toPy] at h; cases h
theorem RpL.dp {K : PySem.W.Frag} {G H : Hp} {ad : List Addr} (e : Ex G H) : ∀ {vs : List V} {ds : List D} {ps : List PyData}, RpL K G ad vs ds → toPyL ds = some ps → DpAll K H vs ps
  | _, _, _, .nil, h => by rw [toPyL] at h; cases h; exact .nil
  | _, _, _, .cons h t, g => by
    rw [toPyL] at g
    split at g
    · rename_i x xs h1 h2
      cases g
      exact .cons (Rp.dp e h h1) (RpL.dp e t h2)
    · cases g
end
def eqB (x y : D) : Option Bool := match toPy x, toPy y with
  | some p, some q => if SeqAt.shaped p && SeqAt.shaped q then some (PyData.eqv p q) else none
  | _, _ => none
def eqD : D → D → Option D := fun x y => (eqB x y).map .bl
def neD : D → D → Option D := fun x y => (eqB x y).map fun b => .bl (!b)
theorem eqB_eq {x y : D} {b : Bool} (h : eqB x y = some b) : ∃ p q, toPy x = some p ∧ toPy y = some q ∧ SeqAt.shaped p = true ∧ SeqAt.shaped q = true ∧ b = PyData.eqv p q := by
  unfold eqB at h
  split at h
  · split at h
    · rename_i hc
      cases h
      rw [Bool.and_eq_true] at hc
      exact ⟨_, _, by assumption, by assumption, hc.1, hc.2, rfl⟩
    · cases h
  · cases h
theorem ok_eq {K : PySem.W.Frag} : OkR K (rEqD K) eqD := fun Z G ad T ρ σ H pa v w x y z Q N rx ry hg k => by
  obtain ⟨b, hb, rfl⟩ := Option.map_eq_some_iff.mp hg
  obtain ⟨p, q, h1, h2, h3, h4, rfl⟩ := eqB_eq hb
  exact ⟨p, q, rx.dp N.iv.ex h1, ry.dp N.iv.ex h2, h3, h4, k _ G ad H N.nx (.bl _)⟩
theorem ok_ne {K : PySem.W.Frag} : OkR K (rNeD K) neD := fun Z G ad T ρ σ H pa v w x y z Q N rx ry hg k => by
  obtain ⟨b, hb, rfl⟩ := Option.map_eq_some_iff.mp hg
  obtain ⟨p, q, h1, h2, h3, h4, rfl⟩ := eqB_eq hb
  exact ⟨p, q, rx.dp N.iv.ex h1, ry.dp N.iv.ex h2, h3, h4, k _ G ad H N.nx (.bl _)⟩
theorem xe_eq {k : Nat} (hr : Room k X.A) (h1 : XE X a f1) (h2 : XE X b f2) : XE X (.Compare a [.Eq] [b] pos) (binF eqD f1 f2) := xe_cmp (op_eqD hr.units) ok_eq h1 h2 (nomark _)
theorem xe_ne {k : Nat} (hr : Room k X.A) (h1 : XE X a f1) (h2 : XE X b f2) : XE X (.Compare a [.NotEq] [b] pos) (binF neD f1 f2) := xe_cmp (op_neD hr.units) ok_ne h1 h2 (nomark _)
theorem xt_eq {k : Nat} (hr : Room k X.A) (h1 : XE X a f1) (h2 : XE X b f2) : XT X (.Compare a [.Eq] [b] pos) (testF (binF eqD f1 f2)) := xt_cmp (op_eqD hr.units) ok_eq h1 h2 (nomark _)
theorem xt_ne {k : Nat} (hr : Room k X.A) (h1 : XE X a f1) (h2 : XE X b f2) : XT X (.Compare a [.NotEq] [b] pos) (testF (binF neD f1 f2)) := xt_cmp (op_neD hr.units) ok_ne h1 h2 (nomark _)
/-- is None, is a bool -/
def isNon : D → Bool
  | .non => true
  | _ => false
def isD : D → D → Option Bool
  | x, .non => some (isNon x)
  | .bl a, .bl b => some (decide (a = b))
  | _, _ => none
def isF : D → D → Option D := fun x y => (isD x y).map .bl
def isntF : D → D → Option D := fun x y => (isD x y).map fun b => .bl (!b)
def rIsU : R2 := fun x y H Q => (y = .non ∧ Q (.bl (decide (x = .non))) H) ∨ rIsB x y H Q
def rIsntU : R2 := fun x y H Q => (y = .non ∧ Q (.bl (!decide (x = .non))) H) ∨ rNotB x y H Q
theorem op_isU : OpR X (compareOp .Is) rIsU := op_isN.or op_isBl
theorem op_isntU : OpR X (compareOp .IsNot) rIsntU := op_notN.or op_notBl
theorem rp_non_iff {K : PySem.W.Frag} {G : Hp} {ad : List Addr} {v : V} {d : D} (r : Rp K G ad v d) : isNon d = decide (v = .non) := by
  cases r <;> rfl
theorem ok_is {K : PySem.W.Frag} : OkR K rIsU isF := fun Z G ad T ρ σ H pa v w x y z Q N rx ry hg k => by
  obtain ⟨b, hb, rfl⟩ := Option.map_eq_some_iff.mp hg
  unfold isD at hb
  split at hb
  · cases hb
    refine .inl ⟨ry.inv_non, ?_⟩
    rw [← rp_non_iff rx]
    exact k _ G ad H N.nx (.bl _)
  · cases hb
    exact .inr ⟨_, _, rx.inv_bl, ry.inv_bl, k _ G ad H N.nx (.bl _)⟩
  · cases hb
theorem ok_isnt {K : PySem.W.Frag} : OkR K rIsntU isntF := fun Z G ad T ρ σ H pa v w x y z Q N rx ry hg k => by
  obtain ⟨b, hb, rfl⟩ := Option.map_eq_some_iff.mp hg
  unfold isD at hb
  split at hb
  · cases hb
    refine .inl ⟨ry.inv_non, ?_⟩
    rw [← rp_non_iff rx]
    exact k _ G ad H N.nx (.bl _)
  · cases hb
    exact .inr ⟨_, _, rx.inv_bl, ry.inv_bl, k _ G ad H N.nx (.bl _)⟩
  · cases hb
theorem xe_is (h1 : XE X a f1) (h2 : XE X b f2) : XE X (.Compare a [.Is] [b] pos) (binF isF f1 f2) := xe_cmp op_isU ok_is h1 h2 (nomark _)
theorem xe_isnt (h1 : XE X a f1) (h2 : XE X b f2) : XE X (.Compare a [.IsNot] [b] pos) (binF isntF f1 f2) := xe_cmp op_isntU ok_isnt h1 h2 (nomark _)
theorem xt_is (h1 : XE X a f1) (h2 : XE X b f2) : XT X (.Compare a [.Is] [b] pos) (testF (binF isF f1 f2)) := xt_cmp op_isU ok_is h1 h2 (nomark _)
theorem xt_isnt (h1 : XE X a f1) (h2 : XE X b f2) : XT X (.Compare a [.IsNot] [b] pos) (testF (binF isntF f1 f2)) := xt_cmp op_isntU ok_isnt h1 h2 (nomark _)

/-! ### - x, not, and, or, if else -/
def negF (f : FE) : FE := fun ρ T => bindF (f ρ T) fun d T' => match d with
  | .int i => some (.int (-i), T')
  | _ => none
theorem xe_neg (h : XE X a f1) : XE X (.UnaryOp .USub a pos) (negF f1) := pe_weak (pe_un un_neg h) fun σ H Q h => by
  obtain ⟨Z, G, ad, T, ρ, pa, d, T', N, hf, k⟩ := h
  obtain ⟨x, T1, h1, h2⟩ := bindF_eq hf
  refine ⟨Z, G, ad, T, ρ, pa, x, T1, N, h1, fun v G1 ad1 H1 x1 r1 => ?_⟩
  cases x with
  | int i =>
    cases h2
    exact ⟨i, r1.inv_int, k _ G1 ad1 H1 x1 (.int _)⟩
  | _ => cases h2
variable {t1 t2 : FT} {rest : List Expr}
def notT (t : FT) : FT := fun ρ T => bindF (t ρ T) fun b T' => some (!b, T')
theorem xt_not (h : XT X a t1) : XT X (.UnaryOp .Not a pos) (notT t1) := pt_weak (pt_not h) fun σ H Q h => by
  obtain ⟨Z, G, ad, T, ρ, pa, d, T', N, hf, k⟩ := h
  obtain ⟨x, T1, h1, h2⟩ := bindF_eq hf
  cases h2
  exact ⟨Z, G, ad, T, ρ, pa, x, _, N, h1, fun G1 ad1 H1 x1 => k G1 ad1 H1 x1⟩
def andT (t u : FT) : FT := fun ρ T => bindF (t ρ T) fun b T' => if b then u ρ T' else some (false, T')
def orT (t u : FT) : FT := fun ρ T => bindF (t ρ T) fun b T' => if b then some (true, T') else u ρ T'
theorem xw_and1 (h : XT X a t1) : XW X (.BoolOp .And [a] pos) t1 := pw_and1 h
theorem xw_or1 (h : XT X a t1) : XW X (.BoolOp .Or [a] pos) t1 := pw_or1 h
theorem xw_and (h1 : XT X a t1) (h2 : XW X (.BoolOp .And (b :: rest) pos) t2) : XW X (.BoolOp .And (a :: b :: rest) pos) (andT t1 t2) := pw_weak (pw_and h1 h2) fun σ H Q h => by
  obtain ⟨Z, G, ad, T, ρ, pa, d, T', N, hf, k⟩ := h
  obtain ⟨x, T1, h1, h2⟩ := bindF_eq hf
  refine ⟨Z, G, ad, T, ρ, pa, x, T1, N, h1, fun G1 ad1 H1 x1 => ?_⟩
  cases x with
  | true => exact ⟨Z, G1, ad1, T1, ρ, pa, d, T', x1.en, h2, fun G2 ad2 H2 x2 => k G2 ad2 H2 (x1.trans x2)⟩
  | false => cases h2; exact k G1 ad1 H1 x1
theorem xw_or (h1 : XT X a t1) (h2 : XW X (.BoolOp .Or (b :: rest) pos) t2) : XW X (.BoolOp .Or (a :: b :: rest) pos) (orT t1 t2) := pw_weak (pw_or h1 h2) fun σ H Q h => by
  obtain ⟨Z, G, ad, T, ρ, pa, d, T', N, hf, k⟩ := h
  obtain ⟨x, T1, h1, h2⟩ := bindF_eq hf
  refine ⟨Z, G, ad, T, ρ, pa, x, T1, N, h1, fun G1 ad1 H1 x1 => ?_⟩
  cases x with
  | true => cases h2; exact k G1 ad1 H1 x1
  | false => exact ⟨Z, G1, ad1, T1, ρ, pa, d, T', x1.en, h2, fun G2 ad2 H2 x2 => k G2 ad2 H2 (x1.trans x2)⟩
theorem xt_w (h : XW X a t1) : XT X a t1 := h.pt
/-- as values -/
def andV (f g : FE) : FE := fun ρ T => bindF (f ρ T) fun d T' => match d with
  | .bl true => g ρ T'
  | .bl false => some (.bl false, T')
  | _ => none
def orV (f g : FE) : FE := fun ρ T => bindF (f ρ T) fun d T' => match d with
  | .bl false => g ρ T'
  | .bl true => some (.bl true, T')
  | _ => none
def notV (f : FE) : FE := fun ρ T => bindF (f ρ T) fun d T' => match d with
  | .bl b => some (.bl (!b), T')
  | _ => none
theorem xe_one {op : BoolOp} (h : XE X a f1) : XE X (.BoolOp op [a] pos) f1 := pe_one h
theorem xe_and (h1 : XE X a f1) (h2 : XE X (.BoolOp .And (b :: rest) pos) f2) : XE X (.BoolOp .And (a :: b :: rest) pos) (andV f1 f2) := pe_weak (pe_and h1 h2) fun σ H Q h => by
  obtain ⟨Z, G, ad, T, ρ, pa, d, T', N, hf, k⟩ := h
  obtain ⟨x, T1, h1, h2⟩ := bindF_eq hf
  refine ⟨Z, G, ad, T, ρ, pa, x, T1, N, h1, fun v G1 ad1 H1 x1 r1 => ?_⟩
  cases x with
  | bl c =>
    refine ⟨c, r1.inv_bl, ?_⟩
    cases c with
    | true => exact ⟨Z, G1, ad1, T1, ρ, pa, d, T', x1.en, h2, fun u G2 ad2 H2 x2 r2 => k u G2 ad2 H2 (x1.trans x2) r2⟩
    | false => cases h2; exact k _ G1 ad1 H1 x1 (.bl _)
  | _ => cases h2
theorem xe_or (h1 : XE X a f1) (h2 : XE X (.BoolOp .Or (b :: rest) pos) f2) : XE X (.BoolOp .Or (a :: b :: rest) pos) (orV f1 f2) := pe_weak (pe_or h1 h2) fun σ H Q h => by
  obtain ⟨Z, G, ad, T, ρ, pa, d, T', N, hf, k⟩ := h
  obtain ⟨x, T1, h1, h2⟩ := bindF_eq hf
  refine ⟨Z, G, ad, T, ρ, pa, x, T1, N, h1, fun v G1 ad1 H1 x1 r1 => ?_⟩
  cases x with
  | bl c =>
    refine ⟨c, r1.inv_bl, ?_⟩
    cases c with
    | false => exact ⟨Z, G1, ad1, T1, ρ, pa, d, T', x1.en, h2, fun u G2 ad2 H2 x2 r2 => k u G2 ad2 H2 (x1.trans x2) r2⟩
    | true => cases h2; exact k _ G1 ad1 H1 x1 (.bl _)
  | _ => cases h2
theorem xe_not (h : XE X a f1) : XE X (.UnaryOp .Not a pos) (notV f1) := pe_weak (pe_not h) fun σ H Q h => by
  obtain ⟨Z, G, ad, T, ρ, pa, d, T', N, hf, k⟩ := h
  obtain ⟨x, T1, h1, h2⟩ := bindF_eq hf
  refine ⟨Z, G, ad, T, ρ, pa, x, T1, N, h1, fun v G1 ad1 H1 x1 r1 => ?_⟩
  cases x with
  | bl b =>
    cases h2
    exact ⟨b, r1.inv_bl, k _ G1 ad1 H1 x1 (.bl _)⟩
  | _ => cases h2
def ifE (t : FT) (f g : FE) : FE := fun ρ T => bindF (t ρ T) fun b T' => if b then f ρ T' else g ρ T'
theorem xe_if (h : XT X c t1) (h1 : XE X a f1) (h2 : XE X b f2) : XE X (.IfExp c a b pos) (ifE t1 f1 f2) := pe_weak (pe_ifExp h h1 h2) fun σ H Q h => by
  obtain ⟨Z, G, ad, T, ρ, pa, d, T', N, hf, k⟩ := h
  obtain ⟨x, T1, h1, h2⟩ := bindF_eq hf
  refine ⟨Z, G, ad, T, ρ, pa, x, T1, N, h1, fun G1 ad1 H1 x1 => ?_⟩
  cases x with
  | true => exact ⟨Z, G1, ad1, T1, ρ, pa, d, T', x1.en, h2, fun u G2 ad2 H2 x2 r2 => k u G2 ad2 H2 (x1.trans x2) r2⟩
  | false => exact ⟨Z, G1, ad1, T1, ρ, pa, d, T', x1.en, h2, fun u G2 ad2 H2 x2 r2 => k u G2 ad2 H2 (x1.trans x2) r2⟩

/-! ### lists of expressions, displays -/
def nilF : FA := fun _ T => some ([], T)
def consF (f : FE) (g : FA) : FA := fun ρ T => bindF (f ρ T) fun d T1 => bindF (g ρ T1) fun ds T2 => some (d :: ds, T2)
variable {es : List Expr} {fs : FA}
theorem xa_nil : XA X [] nilF := pa_weak pa_nil fun σ H Q h => by
  obtain ⟨Z, G, ad, T, ρ, pa, d, T', N, hf, k⟩ := h
  cases hf
  exact k [] G ad H N.nx .nil
theorem xa_cons (h1 : XE X a f1) (h2 : XA X es fs) (hs : starEach (a :: es) X.env = (false, eval a X.env) :: starEach es X.env := by rfl) : XA X (a :: es) (consF f1 fs) := pa_weak (pa_cons h1 h2 hs) fun σ H Q h => by
  obtain ⟨Z, G, ad, T, ρ, pa, ds, T', N, hf, k⟩ := h
  obtain ⟨x, T1, h1, h2⟩ := bindF_eq hf
  obtain ⟨xs, T2, h3, h4⟩ := bindF_eq h2
  cases h4
  exact ⟨Z, G, ad, T, ρ, pa, x, T1, N, h1, fun v G1 ad1 H1 x1 r1 => ⟨Z, G1, ad1, T1, ρ, pa, xs, _, x1.en, h3, fun vs G2 ad2 H2 x2 r2 => k (v :: vs) G2 ad2 H2 (x1.trans x2) (.cons (x2.rp r1) r2)⟩⟩
def tupF (g : FA) : FE := fun ρ T => bindF (g ρ T) fun ds T' => if ds.length ≤ sizeLine then some (.tup ds, T') else none
theorem xe_tup {k : Nat} (h : XA X es fs) : XE X (.Tuple es k pos) (tupF fs) := pe_weak (pe_tupP h) fun σ H Q h => by
  obtain ⟨Z, G, ad, T, ρ, pa, d, T', N, hf, k⟩ := h
  obtain ⟨xs, T1, h1, h2⟩ := bindF_eq hf
  split at h2
  · rename_i hz
    cases h2
    refine ⟨Z, G, ad, T, ρ, pa, xs, _, N, h1, fun vs G1 ad1 H1 x1 r1 => ⟨by rw [r1.length]; exact hz, fun p o hp hd => ?_⟩⟩
    have x2 := x1.en.knowN hp (.frz o (.tup vs))
    exact k _ _ _ _ (x1.trans x2) (.tup (TupK.new hd) (x2.rpl r1))
  · cases h2
def lstF (g : FA) : FA := fun ρ T => bindF (g ρ T) fun ds T' => if ds.length ≤ sizeLine then some (ds, T') else none
theorem xl_lst (h : XA X es fs) : XL X (.List es pos) (lstF fs) := pe_weak (pe_lst h) fun σ H Q h => by
  obtain ⟨Z, G, ad, T, ρ, pa, d, T', N, hf, k⟩ := h
  obtain ⟨xs, T1, h1, h2⟩ := bindF_eq hf
  split at h2
  · rename_i hz
    cases h2
    refine ⟨Z, G, ad, T, ρ, pa, _, _, N, h1, fun vs G1 ad1 H1 x1 r1 => ⟨by rw [r1.length]; exact hz, fun p hp => ?_⟩⟩
    obtain ⟨N2, w2⟩ := x1.en.laid hp r1
    refine k p G1 ad1 _ ⟨N2, x1.gr.ex, x1.gr.pr, fun b o hb hm => ?_, x1.gr.nG, x1.gr.nA⟩ w2 (x1.gr.back x1.en.iv.ats hp)
    have q := x1.gr.fr b o hb hm
    rw [upd_ne (ne_of_none q hp)]
    exact q
  · cases h2
end
end Fx
namespace Fx
open PySem PySem.Spec PyProof.Rows L2
open Evl (Ex)

section
variable {K : PySem.W.Frag} {Z : Zc} {G G' : Hp} {ad ad' : List Addr} {T T' : Tm} {ρ : Rho} {σ : L2.St} {H H' : Hp} {pa : Nat → Addr} {p : Addr} {ds : List D}
theorem atI_rel {vs : List V} {i : Int} {d : D} (r : RpL K G ad vs ds) (h : atI ds i = some d) : ∃ v, atI vs i = some v ∧ Rp K G ad v d := by
  unfold atI at h ⊢
  obtain ⟨j, h1, h2⟩ := Option.bind_eq_some_iff.mp h
  obtain ⟨v, h3, h4⟩ := r.get h2
  exact ⟨v, by rw [r.length, h1]; exact h3, h4⟩
theorem En.ob (N : En K Z G ad T ρ σ H pa) {k : Nat} {a : Addr} (hk : ad[k]? = some a) (h : T[k]? = some (.lst ds)) : ∃ vs, H a = some (.lst vs) ∧ RpL K G ad vs ds := N.iv.obj k a (.lst ds) hk h
end

/-- the items of what is walked or indexed -/
def seqD (T : Tm) : Op → Option (Bool × List D)
  | .own _ ds => some (false, ds)
  | .val (.lst ds) => some (false, ds)
  | .val (.frl ds) => some (false, ds)
  | .val (.tup ds) => some (true, ds)
  | .val (.ob k) => match T[k]? with
    | some (.lst ds) => some (false, ds)
    | _ => none
  | _ => none
theorem seq_rel {K : PySem.W.Frag} {Z : Zc} {G : Hp} {ad : List Addr} {T : Tm} {ρ : Rho} {σ : L2.St} {H : Hp} {pa : Nat → Addr} {o : Op} {v : V} {b : Bool} {ds : List D} (N : En K Z G ad T ρ σ H pa) (r : OpOk K G ad ρ pa v o) (h : seqD T o = some (b, ds)) :
    ∃ a vs, v = .ref a ∧ RpL K G ad vs ds ∧ (b = false → SqL K H a vs) ∧ (b = true → SqT K H a vs) := by
  unfold seqD at h
  split at h
  · cases h
    obtain ⟨r1, rfl⟩ := r
    obtain ⟨vs, h1, h2, h3, _⟩ := N.env _ _ r1
    exact ⟨_, vs, rfl, h3, fun _ => .inl (.inl h2), fun q => by cases q⟩
  · cases h
    obtain ⟨a, vs, rfl, h1, h2⟩ := Rp.inv_lst r
    exact ⟨a, vs, rfl, h2, fun _ => .inl (.inl (N.iv.ex _ _ h1)), fun q => by cases q⟩
  · cases h
    obtain ⟨a, vs, rfl, h1, h2⟩ := Rp.inv_frl r
    exact ⟨a, vs, rfl, h2, fun _ => N.iv.seq h1, fun q => by cases q⟩
  · cases h
    obtain ⟨a, vs, rfl, h1, h2⟩ := Rp.inv_tup r
    exact ⟨a, vs, rfl, h2, (fun q => by cases q), fun _ => N.iv.tup h1⟩
  · split at h
    · cases h
      obtain ⟨a, rfl, h1⟩ := Rp.inv_ob r
      obtain ⟨vs, h2, h3⟩ := N.ob h1 (by assumption)
      exact ⟨a, vs, rfl, h3, fun _ => .inl (.inl h2), fun q => by cases q⟩
    · cases h
  · cases h
theorem seqD_tup {T : Tm} {o : Op} {ds : List D} (h : seqD T o = some (true, ds)) : o = .val (.tup ds) := by
  unfold seqD at h
  split at h <;> first | (cases h; done) | skip
  · cases h
    rfl
  · split at h <;> cases h
theorem OpOk.mono {K : PySem.W.Frag} {Z : Zc} {G G1 : Hp} {ad ad1 : List Addr} {ρ : Rho} {σ : L2.St} {pa : Nat → Addr} {T1 : Tm} {H H1 : Hp} {v : V} {o : Op} (r : OpOk K G ad ρ pa v o) (x : Nx K Z G ad H ρ σ pa T1 G1 ad1 H1) : OpOk K G1 ad1 ρ pa v o := by
  cases o with
  | val d => exact x.rp r
  | own i ds => exact r

def ixD (T : Tm) (o : Op) (i : D) : Option D := match seqD T o, i with
  | some (_, ds), .int i => atI ds i
  | none, .int i => match o with
    | .val (.str s) => if s.length ≤ sizeLine then (atI s.cps.toList i).map fun c => .str ⟨#[c]⟩ else none
    | _ => none
  | _, _ => none
def ixF (fo : FO) (fi : FE) : FE := fun ρ T => bindF (fo ρ T) fun o T1 => bindF (fi ρ T1) fun i T2 => (ixD T2 o i).map fun d => (d, T2)
section
variable {X : Cx} {a b c : Expr} {pos : Pos} {f1 f2 : FE} {o1 : FO} {fs : FA} {t1 : FT}
theorem xe_ix (ho : XO X a o1) (hi : XE X b f2) (hs : PlainIx b := by exact fun _ _ => rfl) : XE X (.Subscript a b pos) (ixF o1 f2) := pe_weak (pe_ix ix_seq ho hi hs) fun σ H Q h => by
  obtain ⟨Z, G, ad, T, ρ, pa, d, T', N, hf, k⟩ := h
  obtain ⟨o, T1, h1, h2⟩ := bindF_eq hf
  obtain ⟨i, T2, h3, h4⟩ := bindF_eq h2
  obtain ⟨d', h5, h6⟩ := Option.map_eq_some_iff.mp h4
  cases h6
  refine ⟨Z, G, ad, T, ρ, pa, o, T1, N, h1, fun v G1 ad1 H1 x1 r1 => ⟨Z, G1, ad1, T1, ρ, pa, i, _, x1.en, h3, fun w G2 ad2 H2 x2 r2 => ?_⟩⟩
  have x := x1.trans x2
  have r3 := r1.mono x2
  unfold ixD at h5
  split at h5
  · rename_i b' ds i' hs'
    obtain ⟨p, vs, rfl, hr, hl, ht⟩ := seq_rel x.en r3 hs'
    obtain ⟨u, hu, ru⟩ := atI_rel hr h5
    cases b' with
    | false => exact .inl ⟨p, vs, i', u, rfl, r2.inv_int, hl rfl, hu, k u G2 ad2 H2 x ru⟩
    | true => exact .inr (.inl ⟨p, vs, i', u, rfl, r2.inv_int, ht rfl, hu, k u G2 ad2 H2 x ru⟩)
  · split at h5
    · split at h5
      · rename_i hz
        obtain ⟨c, hc, e⟩ := Option.map_eq_some_iff.mp h5
        subst e
        exact .inr (.inr ⟨_, _, c, Rp.inv_str r3, r2.inv_int, hz, hc, k _ G2 ad2 H2 x (.str _)⟩)
      · cases h5
    · cases h5
  · cases h5

/-! ### slices -/
def cutD (xs : List D) (lo hi : Option Int) : List D := (xs.drop (HT.sIx xs.length 0 lo)).take (HT.sIx xs.length xs.length hi - HT.sIx xs.length 0 lo)
theorem cut_rel {K : PySem.W.Frag} {G : Hp} {ad : List Addr} {vs : List V} {ds : List D} (r : RpL K G ad vs ds) (lo hi : Option Int) : RpL K G ad (cutV vs lo hi) (cutD ds lo hi) := by
  unfold cutV cutD
  rw [r.length]
  exact (r.drop _).take _
abbrev FB := Rho → Tm → Option (Option Int × Tm)
def tDB (K : PySem.W.Frag) (f : FB) : TO := fun σ H Q => ∃ Z G ad T ρ pa o T', En K Z G ad T ρ σ H pa ∧ f ρ T = some (o, T') ∧ ∀ G' ad' H', Nx K Z G ad H ρ σ pa T' G' ad' H' → Q o H'
abbrev XB (X : Cx) (o : Option Expr) (f : FB) : Prop := PO X o (tDB X.K f)
def bNo : FB := fun _ T => some (none, T)
def bSo (f : FE) : FB := fun ρ T => bindF (f ρ T) fun d T' => match d with
  | .int i => some (some i, T')
  | _ => none
theorem xb_none : XB X none bNo := ⟨fun pins s σ H Q I h => by
  obtain ⟨Z, G, ad, T, ρ, pa, o, T', N, hf, k⟩ := h
  cases hf
  exact po_none.run pins s σ H Q I (k G ad H N.nx)⟩
theorem xb_some (h1 : XE X a f1) : XB X (some a) (bSo f1) := ⟨fun pins s σ H Q I h => by
  obtain ⟨Z, G, ad, T, ρ, pa, o, T', N, hf, k⟩ := h
  obtain ⟨d, T1, h2, h3⟩ := bindF_eq hf
  refine (po_some h1).run pins s σ H Q I ⟨Z, G, ad, T, ρ, pa, d, T1, N, h2, fun v G1 ad1 H1 x1 r1 => ?_⟩
  cases d with
  | int i =>
    cases h3
    exact ⟨i, r1.inv_int, k G1 ad1 H1 x1⟩
  | _ => cases h3⟩
/-- a slice: a new list | a tuple -/
def slLF (fo : FO) (l u : FB) : FA := fun ρ T => bindF (fo ρ T) fun o T1 => bindF (l ρ T1) fun lo T2 => bindF (u ρ T2) fun hi T3 => match seqD T3 o with
  | some (false, ds) => some (cutD ds lo hi, T3)
  | _ => none
variable {l u : FB} {lo hi : Option Expr} {p2 : Pos}
theorem xl_sl (ho : XO X a o1) (hl : XB X lo l) (hu : XB X hi u) : XL X (.Subscript a (.Slice lo hi none p2) pos) (slLF o1 l u) := pe_weak (pe_slice sl_list ho hl hu) fun σ H Q h => by
  obtain ⟨Z, G, ad, T, ρ, pa, d, T', N, hf, k⟩ := h
  obtain ⟨o, T1, h1, h2⟩ := bindF_eq hf
  obtain ⟨i, T2, h3, h4⟩ := bindF_eq h2
  obtain ⟨j, T3, h5, h6⟩ := bindF_eq h4
  refine ⟨Z, G, ad, T, ρ, pa, o, T1, N, h1, fun v G1 ad1 H1 x1 r1 => ⟨Z, G1, ad1, T1, ρ, pa, i, T2, x1.en, h3, fun G2 ad2 H2 x2 => ⟨Z, G2, ad2, T2, ρ, pa, j, T3, x2.en, h5, fun G3 ad3 H3 x3 => ?_⟩⟩⟩
  have x := (x1.trans x2).trans x3
  have r3 := (r1.mono x2).mono x3
  split at h6
  · rename_i ds hs'
    cases h6
    obtain ⟨p, vs, rfl, hr, hl, ht⟩ := seq_rel x.en r3 hs'
    refine ⟨p, vs, rfl, hl rfl, fun q hq => ?_⟩
    obtain ⟨N2, w2⟩ := x.en.laid hq (cut_rel hr i j)
    refine k q G3 ad3 _ ⟨N2, x.gr.ex, x.gr.pr, fun b o hb hm => ?_, x.gr.nG, x.gr.nA⟩ w2 (x.gr.back x.en.iv.ats hq)
    have q' := x.gr.fr b o hb hm
    rw [upd_ne (ne_of_none q' hq)]
    exact q'
  · cases h6
end
end Fx
namespace Fx
open PySem PySem.Spec PyProof.Rows L2
open Evl (Ex)

/-! ### calls of one's own -/
abbrev HF := List D → Tm → Option (D × Tm)
def Sf (K : PySem.W.Frag) (n : Nat) (h : HF) : Sp := fun vs H Q _ => vs.length = n ∧ ∃ G ad T ds d T', Iv K ⟨G, H, ad⟩ G ad T H ∧ RpL K G ad vs ds ∧ h ds T = some (d, T') ∧
  ∀ v G' ad' H', Iv K ⟨G, H, ad⟩ G' ad' T' H' → Rp K G' ad' v d → Q v H'
section
variable {K : PySem.W.Frag} {Z : Zc} {G G' : Hp} {ad ad' : List Addr} {T T' : Tm} {ρ : Rho} {σ : L2.St} {H H' : Hp} {pa : Nat → Addr} {p : Addr} {ds : List D}
theorem Iv.entry (I : Iv K Z G ad T H) : Iv K ⟨G, H, ad⟩ G ad T H := ⟨I.ex, I.out, I.nd, I.len, I.obj, Ex.refl _, Pre.refl _, fun _ _ h _ => h, fun _ _ h => .inl h, fun _ h => .inl h⟩
theorem En.after (N : En K Z G ad T ρ σ H pa) (I : Iv K ⟨G, H, ad⟩ G' ad' T' H') : Nx K Z G ad H ρ σ pa T' G' ad' H' where
  gr := ⟨I.gex, I.pre, I.frame, I.newG, I.newA⟩
  en := by
    have hfr : ∀ b o, Z.He b = some o → b ∉ Z.ad0 → b ∉ ad := fun b o h1 h2 hm => by
      rcases N.iv.newA b hm with q | q
      · exact h2 q
      · rw [q] at h1
        cases h1
    refine ⟨⟨I.ex, I.out, I.nd, I.len, I.obj, N.iv.gex.trans I.gex, N.iv.pre.trans I.pre, fun b o h1 h2 => I.frame b o (N.iv.frame b o h1 h2) (hfr b o h1 h2), fun b o h => ?_, fun a h => ?_⟩, N.hl, fun i s h => ?_, N.ne⟩
    · rcases I.newG b o h with q | q
      · exact N.iv.newG b o q
      · exact .inr (N.iv.freshE q)
    · rcases I.newA a h with q | q
      · exact N.iv.newA a q
      · exact .inr (N.iv.freshE q)
    · have q := N.env i s h
      cases s with
      | un => trivial
      | dat d =>
        obtain ⟨v, q1, q2⟩ := q
        exact ⟨v, q1, q2.mono I.gex I.pre⟩
      | own es =>
        obtain ⟨us, q1, q2, q3, q4, q5, q6⟩ := q
        refine ⟨us, q1, I.frame _ _ q2 q5, q3.mono I.gex I.pre, ?_, fun hm => ?_, q6⟩
        · cases e : G' (pa i) with
          | none => rfl
          | some o =>
            rcases I.newG _ o e with z | z
            · have z' : G (pa i) = some o := z
              rw [q4] at z'
              cases z'
            · have z' : H (pa i) = none := z
              rw [q2] at z'
              cases z'
        · rcases I.newA _ hm with z | z
          · exact q5 z
          · have z' : H (pa i) = none := z
            rw [q2] at z'
            cases z'
end
def callF (h : HF) (fa : FA) : FE := fun ρ T => bindF (fa ρ T) fun ds T' => h ds T'
section
variable {X : Cx} {a b c : Expr} {es : List Expr} {st : Stmt} {pos : Pos} {f1 f2 : FE} {o1 : FO} {fs : FA} {t1 : FT} {g1 g2 : FS}
theorem call_run {n : Nat} {h : HF} {σ : L2.St} {H : Hp} {Q : VK} {E : XK} (hw : tD X.K (callF h fs) σ H Q) (hn : ∀ ρ T ds T', fs ρ T = some (ds, T') → ds.length = n) : tDA X.K fs σ H fun vs H1 => Sf X.K n h (vs ++ []) H1 Q E := by
  obtain ⟨Z, G, ad, T, ρ, pa, d, T', N, hf, k⟩ := hw
  obtain ⟨ds, T1, h1, h2⟩ := bindF_eq hf
  refine ⟨Z, G, ad, T, ρ, pa, ds, T1, N, h1, fun vs G1 ad1 H1 x1 r1 => ?_⟩
  show Sf X.K n h (vs ++ []) H1 Q E
  rw [List.append_nil]
  refine ⟨by rw [r1.length]; exact hn ρ T ds T1 h1, G1, ad1, T1, ds, d, T', x1.en.iv.entry, r1, h2, fun v G2 ad2 H2 I2 r2 => ?_⟩
  exact k v G2 ad2 H2 (x1.trans (x1.en.after I2)) r2
theorem xe_call {n : Nat} {h : HF} {e : Expr} {E : XK} (hp : PE X e (tCall (Sf X.K n h) [] E (tDA X.K fs))) (hn : ∀ ρ T ds T', fs ρ T = some (ds, T') → ds.length = n) : XE X e (callF h fs) := pe_weak hp fun _ _ _ hw => call_run hw hn
/-- how many arguments there are -/
theorem len_nil : ∀ ρ T ds T', nilF ρ T = some (ds, T') → ds.length = 0 := fun _ _ _ _ h => by
  cases h
  rfl
theorem len_cons {n : Nat} (h : ∀ ρ T ds T', fs ρ T = some (ds, T') → ds.length = n) : ∀ ρ T ds T', consF f1 fs ρ T = some (ds, T') → ds.length = n + 1 := fun ρ T ds T' e => by
  obtain ⟨x, T1, h1, h2⟩ := bindF_eq e
  obtain ⟨xs, T2, h3, h4⟩ := bindF_eq h2
  cases h4
  rw [List.length_cons, h _ _ _ _ h3]

/-! ### built-ins -/
def blF (g : List D → Option D) (fa : FA) : FE := fun ρ T => bindF (fa ρ T) fun ds T' => (g ds).map fun d => (d, T')
def OkC (K : PySem.W.Frag) (r : List V → Hp → VK → Prop) (g : List D → Option D) : Prop := ∀ (Z : Zc) (G : Hp) (ad : List Addr) (T : Tm) (ρ : Rho) (σ : L2.St) (H : Hp) (pa : Nat → Addr) (vs : List V) (ds : List D) (z : D) (Q : VK),
  En K Z G ad T ρ σ H pa → RpL K G ad vs ds → g ds = some z → (∀ u G' ad' H', Nx K Z G ad H ρ σ pa T G' ad' H' → Rp K G' ad' u z → Q u H') → r vs H Q
theorem bl_run {r : List V → Hp → VK → Prop} {g : List D → Option D} {σ : L2.St} {H : Hp} {Q : VK} (hr : OkC X.K r g) (h : tD X.K (blF g fs) σ H Q) : tCB r (tDA X.K fs) σ H Q := by
  obtain ⟨Z, G, ad, T, ρ, pa, d, T', N, hf, k⟩ := h
  obtain ⟨ds, T1, h1, h2⟩ := bindF_eq hf
  obtain ⟨z, h3, h4⟩ := Option.map_eq_some_iff.mp h2
  cases h4
  exact ⟨Z, G, ad, T, ρ, pa, ds, _, N, h1, fun vs G1 ad1 H1 x1 r1 => hr Z G1 ad1 _ ρ σ H1 pa vs ds _ Q x1.en r1 h3 fun u G2 ad2 H2 x2 r2 => k u G2 ad2 H2 (x1.trans x2) r2⟩
theorem xe_bl_ {e : Expr} {r : List V → Hp → VK → Prop} {g : List D → Option D} (hp : PE X e (tCB r (tDA X.K fs))) (hr : OkC X.K r g) : XE X e (blF g fs) := pe_weak hp fun _ _ _ => bl_run hr
def g1I (f : Int → D) : List D → Option D
  | [.int i] => some (f i)
  | _ => none
def g2I (C : Int → Int → Bool) (f : Int → Int → D) : List D → Option D
  | [.int i, .int j] => if C i j then some (f i j) else none
  | _ => none
theorem RpL.one {K : PySem.W.Frag} {G : Hp} {ad : List Addr} {vs : List V} {d : D} (r : RpL K G ad vs [d]) : ∃ v, vs = [v] ∧ Rp K G ad v d := by
  cases r with
  | cons h t =>
    cases t
    exact ⟨_, rfl, h⟩
theorem RpL.two {K : PySem.W.Frag} {G : Hp} {ad : List Addr} {vs : List V} {d e : D} (r : RpL K G ad vs [d, e]) : ∃ v w, vs = [v, w] ∧ Rp K G ad v d ∧ Rp K G ad w e := by
  cases r with
  | cons h t =>
    obtain ⟨w, rfl, h2⟩ := t.one
    exact ⟨_, w, rfl, h, h2⟩
def absD : List D → Option D
  | [.int i] => some (.int (if i < 0 then -i else i))
  | _ => none
theorem ok_abs {K : PySem.W.Frag} : OkC K (fun xs H Q => ∃ i, xs = [.int i] ∧ Q (.int (if i < 0 then -i else i)) H) absD := fun Z G ad T ρ σ H pa vs ds z Q N r hg k => by
  unfold absD at hg
  split at hg
  · cases hg
    obtain ⟨v, rfl, h⟩ := r.one
    exact ⟨_, by rw [h.inv_int], k _ G ad H N.nx (.int _)⟩
  · cases hg
def minD : List D → Option D
  | [.int i, .int j] => some (.int (if j < i then j else i))
  | _ => none
def maxD : List D → Option D
  | [.int i, .int j] => some (.int (if j > i then j else i))
  | _ => none
theorem ok_min {K : PySem.W.Frag} : OkC K (fun xs H Q => ∃ i j, xs = [.int i, .int j] ∧ Q (.int (if j < i then j else i)) H) minD := fun Z G ad T ρ σ H pa vs ds z Q N r hg k => by
  unfold minD at hg
  split at hg
  · cases hg
    obtain ⟨v, w, rfl, h1, h2⟩ := r.two
    exact ⟨_, _, by rw [h1.inv_int, h2.inv_int], k _ G ad H N.nx (.int _)⟩
  · cases hg
theorem ok_max {K : PySem.W.Frag} : OkC K (fun xs H Q => ∃ i j, xs = [.int i, .int j] ∧ Q (.int (if j > i then j else i)) H) maxD := fun Z G ad T ρ σ H pa vs ds z Q N r hg k => by
  unfold maxD at hg
  split at hg
  · cases hg
    obtain ⟨v, w, rfl, h1, h2⟩ := r.two
    exact ⟨_, _, by rw [h1.inv_int, h2.inv_int], k _ G ad H N.nx (.int _)⟩
  · cases hg
def intD : List D → Option D
  | [.int i] => some (.int i)
  | [.bl b] => some (.int (if b then 1 else 0))
  | _ => none
theorem ok_int {K : PySem.W.Frag} : OkC K (fun xs H Q => (∃ i, xs = [.int i] ∧ Q (.int i) H) ∨ ∃ k, xs = [.bl k] ∧ Q (.int (if k then 1 else 0)) H) intD := fun Z G ad T ρ σ H pa vs ds z Q N r hg k => by
  unfold intD at hg
  split at hg
  · cases hg
    obtain ⟨v, rfl, h⟩ := r.one
    exact .inl ⟨_, by rw [h.inv_int], k _ G ad H N.nx (.int _)⟩
  · cases hg
    obtain ⟨v, rfl, h⟩ := r.one
    exact .inr ⟨_, by rw [h.inv_bl], k _ G ad H N.nx (.int _)⟩
  · cases hg
noncomputable def cDivP : Int → Int → Bool := fun _ j => dc (0 < j ∧ j < 1073741824)
noncomputable def dvmD : List D → Option D
  | [.int i, .int j] => if cDivP i j then some (.tup [.int (i / j), .int (i % j)]) else none
  | _ => none
theorem ok_dvm {K : PySem.W.Frag} : OkC K rDvmP dvmD := fun Z G ad T ρ σ H pa vs ds z Q N r hg k => by
  unfold dvmD at hg
  split at hg
  · split at hg
    · rename_i hc
      cases hg
      obtain ⟨v, w, rfl, h1, h2⟩ := r.two
      refine ⟨_, _, by rw [h1.inv_int, h2.inv_int], of_dc hc, fun p o hp hd => ?_⟩
      exact k _ _ _ _ (N.knowN hp _) (.tup (TupK.new hd) (.cons (.int _) (.cons (.int _) .nil)))
    · cases hg
  · cases hg
/-- len of an operand -/
def lenD (T : Tm) (o : Op) : Option D := match seqD T o with
  | some (_, ds) => some (.int ds.length)
  | none => match o with
    | .val (.str s) => if s.length ≤ sizeLine then some (.int s.length) else none
    | _ => none
def lenF (fo : FO) : FE := fun ρ T => bindF (fo ρ T) fun o T' => (lenD T' o).map fun d => (d, T')
theorem xe_len {e : Expr} (hp : PE X e (tCB (fun xs H Q => ∃ x n, xs = [x] ∧ LenV X.K x H n ∧ Q (.int n) H) (tCons (tDO X.K o1) tNil))) : XE X e (lenF o1) := by
  refine pe_weak hp fun σ H Q h => ?_
  obtain ⟨Z, G, ad, T, ρ, pa, d, T', N, hf, k⟩ := h
  obtain ⟨o, T1, h1, h2⟩ := bindF_eq hf
  obtain ⟨z, h3, h4⟩ := Option.map_eq_some_iff.mp h2
  cases h4
  refine ⟨Z, G, ad, T, ρ, pa, o, _, N, h1, fun v G1 ad1 H1 x1 r1 => ?_⟩
  unfold lenD at h3
  split at h3
  · rename_i b ds hs
    cases h3
    obtain ⟨q, vs, rfl, hr, hl, ht⟩ := seq_rel x1.en r1 hs
    refine ⟨.ref q, ds.length, rfl, ?_, k _ G1 ad1 H1 x1 (.int _)⟩
    cases b with
    | false => exact .inl ⟨vs, hl rfl, hr.length.symm⟩
    | true => exact .inr ⟨vs, ht rfl, hr.length.symm⟩
  · split at h3
    · split at h3
      · rename_i hz
        cases h3
        rw [Rp.inv_str r1]
        exact ⟨_, _, rfl, ⟨hz, rfl⟩, k _ G1 ad1 H1 x1 (.int _)⟩
      · cases h3
    · cases h3
/-- list(x), tuple(x) -/
def lofF (fo : FO) : FA := fun ρ T => bindF (fo ρ T) fun o T' => match seqD T' o with
  | some (_, ds) => some (ds, T')
  | none => none
theorem xl_list {e : Expr} (hp : PE X e (tCB (fun xs H Q => ∃ p ys, xs = [.ref p] ∧ (SqL X.K H p ys ∨ SqT X.K H p ys) ∧ ∀ l, H l = none → Q (.ref l) (upd H l (.lst ys))) (tCons (tDO X.K o1) tNil))) : XL X e (lofF o1) := by
  refine pe_weak hp fun σ H Q h => ?_
  obtain ⟨Z, G, ad, T, ρ, pa, d, T', N, hf, k⟩ := h
  obtain ⟨o, T1, h1, h2⟩ := bindF_eq hf
  refine ⟨Z, G, ad, T, ρ, pa, o, T1, N, h1, fun v G1 ad1 H1 x1 r1 => ?_⟩
  split at h2
  · rename_i b ds hs
    cases h2
    obtain ⟨q, vs, rfl, hr, hl, ht⟩ := seq_rel x1.en r1 hs
    have hh : SqL X.K H1 q vs ∨ SqT X.K H1 q vs := by
      cases b with
      | false => exact .inl (hl rfl)
      | true => exact .inr (ht rfl)
    refine ⟨q, vs, rfl, hh, fun l hq => ?_⟩
    obtain ⟨N2, w2⟩ := x1.en.laid hq hr
    refine k l G1 ad1 _ ⟨N2, x1.gr.ex, x1.gr.pr, fun b o hb hm => ?_, x1.gr.nG, x1.gr.nA⟩ w2 (x1.gr.back x1.en.iv.ats hq)
    have q' := x1.gr.fr b o hb hm
    rw [upd_ne (ne_of_none q' hq)]
    exact q'
  · cases h2
def tofF (fo : FO) : FE := fun ρ T => bindF (fo ρ T) fun o T' => match seqD T' o with
  | some (_, ds) => some (.tup ds, T')
  | none => none
theorem xe_tuple {e : Expr} (hp : PE X e (tCB (rTupleP X.K) (tCons (tDO X.K o1) tNil))) : XE X e (tofF o1) := by
  refine pe_weak hp fun σ H Q h => ?_
  obtain ⟨Z, G, ad, T, ρ, pa, d, T', N, hf, k⟩ := h
  obtain ⟨o, T1, h1, h2⟩ := bindF_eq hf
  refine ⟨Z, G, ad, T, ρ, pa, o, T1, N, h1, fun v G1 ad1 H1 x1 r1 => ?_⟩
  split at h2
  · rename_i b ds hs
    cases h2
    cases b with
    | false =>
      obtain ⟨q, vs, rfl, hr, hl, ht⟩ := seq_rel x1.en r1 hs
      refine ⟨q, vs, rfl, .inl ⟨hl rfl, fun l o hq hd => ?_⟩⟩
      have x4 := x1.en.knowN hq (.frz o (.tup vs))
      exact k _ _ _ _ (x1.trans x4) (.tup (TupK.new hd) (x4.rpl hr))
    | true =>
      obtain rfl := seqD_tup hs
      obtain ⟨q, vs, rfl, hG, hr⟩ := Rp.inv_tup r1
      exact ⟨q, vs, rfl, .inr ⟨x1.en.iv.tup hG, k _ G1 ad1 H1 x1 (.tup hG hr)⟩⟩
  · cases h2
/-- all, any of a list of bools -/
def bls : List D → Option (List Bool)
  | [] => some []
  | .bl b :: r => (bls r).map (b :: ·)
  | _ :: _ => none
theorem bls_rel {K : PySem.W.Frag} {G : Hp} {ad : List Addr} : ∀ {vs : List V} {ds : List D} {bs : List Bool}, RpL K G ad vs ds → bls ds = some bs → vs = bs.map V.bl
  | _, _, _, .nil, h => by cases h; rfl
  | _, _, _, .cons (d := d) h t, e => by
    cases d with
    | bl b =>
      obtain ⟨r, h1, h2⟩ := Option.map_eq_some_iff.mp e
      subst h2
      rw [h.inv_bl, bls_rel t h1]
      rfl
    | _ => cases e
def allF (fo : FO) : FE := fun ρ T => bindF (fo ρ T) fun o T' => match seqD T' o with
  | some (false, ds) => (bls ds).map fun bs => (.bl (bs.all id), T')
  | _ => none
def anyF (fo : FO) : FE := fun ρ T => bindF (fo ρ T) fun o T' => match seqD T' o with
  | some (false, ds) => (bls ds).map fun bs => (.bl (bs.any id), T')
  | _ => none
theorem xe_all {e : Expr} (hp : PE X e (tCB (rAll X.K) (tCons (tDO X.K o1) tNil))) : XE X e (allF o1) := by
  refine pe_weak hp fun σ H Q h => ?_
  obtain ⟨Z, G, ad, T, ρ, pa, d, T', N, hf, k⟩ := h
  obtain ⟨o, T1, h1, h2⟩ := bindF_eq hf
  refine ⟨Z, G, ad, T, ρ, pa, o, T1, N, h1, fun v G1 ad1 H1 x1 r1 => ?_⟩
  split at h2
  · rename_i ds hs
    obtain ⟨bs, h3, h4⟩ := Option.map_eq_some_iff.mp h2
    cases h4
    obtain ⟨q, vs, rfl, hr, hl, ht⟩ := seq_rel x1.en r1 hs
    rw [bls_rel hr h3] at hl
    exact ⟨q, bs, rfl, hl rfl, k _ G1 ad1 H1 x1 (.bl _)⟩
  · cases h2
theorem xe_any {e : Expr} (hp : PE X e (tCB (rAny X.K) (tCons (tDO X.K o1) tNil))) : XE X e (anyF o1) := by
  refine pe_weak hp fun σ H Q h => ?_
  obtain ⟨Z, G, ad, T, ρ, pa, d, T', N, hf, k⟩ := h
  obtain ⟨o, T1, h1, h2⟩ := bindF_eq hf
  refine ⟨Z, G, ad, T, ρ, pa, o, T1, N, h1, fun v G1 ad1 H1 x1 r1 => ?_⟩
  split at h2
  · rename_i ds hs
    obtain ⟨bs, h3, h4⟩ := Option.map_eq_some_iff.mp h2
    cases h4
    obtain ⟨q, vs, rfl, hr, hl, ht⟩ := seq_rel x1.en r1 hs
    rw [bls_rel hr h3] at hl
    exact ⟨q, bs, rfl, hl rfl, k _ G1 ad1 H1 x1 (.bl _)⟩
  · cases h2
/-- list(range(a, b)) -/
def rngL (i j : Int) : List D := (List.range (j - i).toNat).map fun k => .int (i + (k : Nat))
open Classical in
/-- nothing is reckoned here: the decision is not computed -/
noncomputable def in62 (i : Int) : Bool := @decide (-4611686018427387904 ≤ i ∧ i < 4611686018427387904) (Classical.propDecidable _)
theorem in62_of {i : Int} (h1 : -4611686018427387904 ≤ i) (h2 : i < 4611686018427387904) : in62 i = true := by
  unfold in62
  exact @decide_eq_true _ (Classical.propDecidable _) ⟨h1, h2⟩
theorem of_in62 {i : Int} (h : in62 i = true) : -(2 ^ 62) ≤ i ∧ i < 2 ^ 62 := by
  unfold in62 at h
  have := @of_decide_eq_true _ (Classical.propDecidable _) h
  omega
noncomputable def in24 (n : Nat) : Bool := @decide (n ≤ 16777216) (Classical.propDecidable _)
theorem in24_of {n : Nat} (h : n ≤ 16777216) : in24 n = true := by
  unfold in24
  exact @decide_eq_true _ (Classical.propDecidable _) h
theorem of_in24 {n : Nat} (h : in24 n = true) : n ≤ 2 ^ 24 := by
  unfold in24 at h
  exact @of_decide_eq_true _ (Classical.propDecidable _) h
noncomputable def rgOkB (i j : Int) : Bool := in62 i && in62 j && in24 (j - i).toNat
theorem rgOk_of {i j : Int} (h : rgOkB i j = true) : RgOk i j := by
  unfold rgOkB at h
  simp only [Bool.and_eq_true] at h
  exact ⟨(of_in62 h.1.1).1, (of_in62 h.1.1).2, (of_in62 h.1.2).1, (of_in62 h.1.2).2, of_in24 h.2⟩
theorem rng_rel {K : PySem.W.Frag} {G : Hp} {ad : List Addr} (i j : Int) : RpL K G ad (rgV i j) (rngL i j) := by
  unfold rgV rngL
  generalize List.range (j - i).toNat = l
  induction l with
  | nil => exact .nil
  | cons x l ih => exact .cons (.int _) ih
noncomputable def lrgF (f g : FE) : FA := fun ρ T => bindF (f ρ T) fun x T1 => bindF (g ρ T1) fun y T2 => match x, y with
  | .int i, .int j => if rgOkB i j then some (rngL i j, T2) else none
  | _, _ => none
theorem xl_lrg {e : Expr} (hp : PE X e (tLstRg (tRg2 (tD X.K f1) (tD X.K f2)))) : XL X e (lrgF f1 f2) := by
  refine pe_weak hp fun σ H Q h => ?_
  obtain ⟨Z, G, ad, T, ρ, pa, d, T', N, hf, k⟩ := h
  obtain ⟨x, T1, e1, e2⟩ := bindF_eq hf
  obtain ⟨y, T2, e3, e4⟩ := bindF_eq e2
  refine ⟨Z, G, ad, T, ρ, pa, x, T1, N, e1, fun v G1 ad1 H1 x1 r1 => ⟨Z, G1, ad1, T1, ρ, pa, y, T2, x1.en, e3, fun w G2 ad2 H2 x2 r2 => ?_⟩⟩
  split at e4
  · split at e4
    · rename_i hk
      cases e4
      refine ⟨_, _, r1.inv_int, r2.inv_int, rgOk_of hk, fun q hq => ?_⟩
      have x3 := x1.trans x2
      obtain ⟨N2, w2⟩ := x3.en.laid hq (rng_rel _ _)
      refine k q G2 ad2 _ ⟨N2, x3.gr.ex, x3.gr.pr, fun b o hb hm => ?_, x3.gr.nG, x3.gr.nA⟩ w2 (x3.gr.back x3.en.iv.ats hq)
      have q' := x3.gr.fr b o hb hm
      rw [upd_ne (ne_of_none q' hq)]
      exact q'
    · cases e4
  · cases e4
/-- isinstance(x, T) -/
def tyN : D → Option String
  | .non => some "NoneType"
  | .bl _ => some "bool"
  | .int _ => some "int"
  | .str _ => some "str"
  | .tup _ => some "tuple"
  | .lst _ => some "list"
  | _ => none
def isiF (t : String) (f : FE) : FE := fun ρ T => bindF (f ρ T) fun d T' => match tyN d with
  | some n => (kitB n t).map fun b => (.bl b, T')
  | none => none
theorem ty_rel {K : PySem.W.Frag} {Z : Zc} {G : Hp} {ad : List Addr} {T : Tm} {H : Hp} (I : Iv K Z G ad T H) {v : V} {d : D} {n : String} (r : Rp K G ad v d) (h : tyN d = some n) : TyX K H v (.type n) := by
  cases r with
  | non => cases h; exact .base .non
  | bl b => cases h; exact .base (.bl b)
  | int i => cases h; exact .base (.int i)
  | str s => cases h; exact .base (.str s)
  | tup h1 _ =>
    cases h
    rcases h1 with ⟨o, h1, _⟩ | ⟨o, its, n, e, c, _⟩
    · exact .fTuple (I.ex _ _ h1)
    · exact .kTuple e c
  | lst h1 _ => cases h; exact .base (.lst (I.ex _ _ h1))
  | frl _ _ => cases h
  | ob _ => cases h
theorem xe_isi {t : String} {e : Expr} (hp : PE X e (tCB (rIsi X.K) (tCons (tD X.K f1) (tCons (tC (.ty t)) tNil)))) : XE X e (isiF t f1) := pe_weak hp fun σ H Q h => by
  obtain ⟨Z, G, ad, T, ρ, pa, d, T', N, hf, k⟩ := h
  obtain ⟨x, T1, h1, h2⟩ := bindF_eq hf
  refine ⟨Z, G, ad, T, ρ, pa, x, T1, N, h1, fun v G1 ad1 H1 x1 r1 => ?_⟩
  split at h2
  · rename_i n hn
    obtain ⟨b, h3, h4⟩ := Option.map_eq_some_iff.mp h2
    cases h4
    exact ⟨v, .ty t, .type n, .type t, b, rfl, .ty t, ty_rel x1.en.iv r1 hn, kit_ty h3, k _ G1 ad1 H1 x1 (.bl b)⟩
  · cases h2
end
end Fx
namespace Fx
open PySem PySem.Spec PyProof.Rows L2
open Evl (Ex)

/-! ### targets -/
inductive Tgt where
  | nm (i : Nat) | tp (is : List Nat)
def gNs : List Nat → TGs
  | [] => gNil
  | i :: is => gCons (gName i) (gNs is)
def tgT (K : PySem.W.Frag) : Tgt → TG
  | .nm i => gName i
  | .tp is => gTup K is.length (gNs is)
def setN : List Nat → List D → Rho → Option Rho
  | [], [], ρ => some ρ
  | i :: is, d :: ds, ρ => setN is ds (ρ.set i (.dat d))
  | _, _, _ => none
def tgD : Tgt → D → Rho → Option Rho
  | .nm i, d, ρ => some (ρ.set i (.dat d))
  | .tp is, .tup ds, ρ => setN is ds ρ
  | _, _, _ => none
def setV : List Nat → List V → L2.St → L2.St
  | i :: is, v :: vs, σ => setV is vs (σ.set i (some v))
  | _, _, σ => σ
def tgS : Tgt → List V → L2.St → L2.St
  | .nm i, vs, σ => match vs with
    | v :: _ => σ.set i (some v)
    | [] => σ
  | .tp is, vs, σ => setV is vs σ
section
variable {K : PySem.W.Frag} {Z : Zc} {G G' : Hp} {ad ad' : List Addr} {T T' : Tm} {ρ ρ' : Rho} {σ : L2.St} {H H' : Hp} {pa : Nat → Addr} {p : Addr} {ds : List D}
theorem setN_run : ∀ {is : List Nat} {vs : List V} {ds : List D} {ρ ρ' : Rho} {σ : L2.St} {Q : L2.St → Hp → Prop}, En K Z G ad T ρ σ H pa → RpL K G ad vs ds → setN is ds ρ = some ρ' → (En K Z G ad T ρ' (setV is vs σ) H pa → Q (setV is vs σ) H) → vs.length = is.length ∧ gNs is vs σ H Q
  | [], _, [], _, _, _, _, N, .nil, h, k => by cases h; exact ⟨rfl, rfl, k N⟩
  | [], _, _ :: _, _, _, _, _, _, _, h, _ => by cases h
  | _ :: _, _, [], _, _, _, _, _, _, h, _ => by cases h
  | i :: is, _, d :: ds, ρ, ρ', σ, Q, N, .cons (v := v) (vs := vs) h t, e, k => by
    obtain ⟨h1, h2⟩ := setN_run (is := is) (σ := σ.set i (some v)) (Q := Q) (N.setD i h) t e k
    exact ⟨by rw [List.length_cons, List.length_cons, h1], v, vs, rfl, h2⟩
theorem tg_run {t : Tgt} {v : V} {d : D} {Q : L2.St → Hp → Prop} (N : En K Z G ad T ρ σ H pa) (r : Rp K G ad v d) (h : tgD t d ρ = some ρ') (k : ∀ vs, En K Z G ad T ρ' (tgS t vs σ) H pa → Q (tgS t vs σ) H) : tgT K t v σ H Q := by
  cases t with
  | nm i =>
    cases h
    exact k [v] (N.setD i r)
  | tp is =>
    cases d with
    | tup ds =>
      obtain ⟨a, vs, rfl, h1, r1⟩ := r.inv_tup
      obtain ⟨q1, q2⟩ := setN_run (Q := Q) N r1 h (k vs)
      exact ⟨a, vs, rfl, N.iv.tup h1, q1, q2⟩
    | _ => cases h
end

/-! ### statements -/
def seqS (a b : FS) : FS := fun ρ T => match a ρ T with
  | some (.nx ρ', T') => b ρ' T'
  | r => r
def nilS : FS := fun ρ T => some (.nx ρ, T)
def brkS : FS := fun ρ T => some (.bk ρ, T)
def cntS : FS := fun ρ T => some (.ct ρ, T)
def retF (fo : FO) : FS := fun ρ T => bindF (fo ρ T) fun o T' => match o with
  | .val d => some (.rt d, T')
  | .own _ ds => some (.rt (.lst ds), T')
def retN : FS := fun _ T => some (.rt .non, T)
def asgF (i : Nat) (f : FE) : FS := fun ρ T => bindF (f ρ T) fun d T' => some (.nx (ρ.set i (.dat d)), T')
def ownF (i : Nat) (f : FA) : FS := fun ρ T => bindF (f ρ T) fun ds T' => some (.nx (ρ.set i (.own ds)), T')
def objF (i : Nat) (f : FA) : FS := fun ρ T => bindF (f ρ T) fun ds T' => some (.nx (ρ.set i (.dat (.ob T'.length))), T' ++ [.lst ds])
def unpF (t : Tgt) (f : FE) : FS := fun ρ T => bindF (f ρ T) fun d T' => (tgD t d ρ).map fun ρ' => (.nx ρ', T')
def dropF (f : FE) : FS := fun ρ T => bindF (f ρ T) fun _ T' => some (.nx ρ, T')
def ifS (t : FT) (a b : FS) : FS := fun ρ T => bindF (t ρ T) fun c T' => if c then a ρ T' else b ρ T'
def augF (i : Nat) (g : D → D → Option D) (f : FE) : FS := fun ρ T => match ρ[i]? with
  | some (.dat x) => bindF (f ρ T) fun y T' => (g x y).map fun z => (.nx (ρ.set i (.dat z)), T')
  | _ => none
def appF (i : Nat) (f : FE) : FS := fun ρ T => match ρ[i]? with
  | some (.own ds) => bindF (f ρ T) fun d T' => if ds.length < sizeLine then some (.nx (ρ.set i (.own (ds ++ [d]))), T') else none
  | _ => none
def setF (i : Nat) (fi fv : FE) : FS := fun ρ T => bindF (fv ρ T) fun d T1 => bindF (fi ρ T1) fun j T2 => match ρ[i]?, j with
  | some (.own ds), .int j => (ixN ds.length j).map fun m => (.nx (ρ.set i (.own (ds.set m d))), T2)
  | some (.dat (.ob k)), .int j => match T2[k]? with
    | some (.lst ds) => (ixN ds.length j).map fun m => (.nx ρ, T2.set k (.lst (ds.set m d)))
    | _ => none
  | _, _ => none
def neverS : FS := fun _ _ => none
section
variable {X : Cx} {e c : Expr} {st : Stmt} {sts : List Stmt} {pos : Pos} {f f1 f2 : FE} {o1 : FO} {fs : FA} {t1 : FT} {g1 g2 : FS}
theorem xs_never : XS X st neverS := ps_weak ps_never fun D σ H h => by
  obtain ⟨Z, G, ad, T, ρ, pa, r, T', N, hf, k⟩ := h
  cases hf
theorem xss_nil : XSs X [] nilS := pss_weak pss_nil fun D σ H h => by
  obtain ⟨Z, G, ad, T, ρ, pa, r, T', N, hf, k⟩ := h
  cases hf
  exact k σ G ad H pa N (Ex.refl _) (Pre.refl _)
theorem EndD.mono {K : PySem.W.Frag} {Z : Zc} {G G1 : Hp} {ad ad1 : List Addr} {T' : Tm} {D0 : Ends} {r : Rz} (k : EndD K Z G ad T' D0 r) (e : Ex G G1) (p : Pre ad ad1) : EndD K Z G1 ad1 T' D0 r := by
  cases r with
  | nx ρ' => exact fun σ' G' ad' H' pa' N e' p' => k σ' G' ad' H' pa' N (e.trans e') (p.trans p')
  | bk ρ' => exact fun σ' G' ad' H' pa' N e' p' => k σ' G' ad' H' pa' N (e.trans e') (p.trans p')
  | ct ρ' => exact fun σ' G' ad' H' pa' N e' p' => k σ' G' ad' H' pa' N (e.trans e') (p.trans p')
  | rt d => exact fun v G' ad' H' I e' p' => k v G' ad' H' I (e.trans e') (p.trans p')
theorem xss_cons (h1 : XS X st g1) (h2 : XSs X sts g2) : XSs X (st :: sts) (seqS g1 g2) := pss_weak (pss_cons h1 h2) fun D σ H h => by
  obtain ⟨Z, G, ad, T, ρ, pa, r, T', N, hf, k⟩ := h
  unfold seqS at hf
  split at hf
  · rename_i ρ1 T1 h3
    exact ⟨Z, G, ad, T, ρ, pa, .nx ρ1, T1, N, h3, fun σ' G' ad' H' pa' N' e' p' => ⟨Z, G', ad', T1, ρ1, pa', r, T', N', hf, k.mono e' p'⟩⟩
  · rename_i hne
    refine ⟨Z, G, ad, T, ρ, pa, r, T', N, hf, ?_⟩
    cases r with
    | nx ρ' => exact absurd hf (hne ρ' T')
    | bk ρ' => exact k
    | ct ρ' => exact k
    | rt d => exact k
theorem xss_one (h1 : XS X st g1) : XSs X [st] g1 := pss_one h1
theorem xs_pass : XS X (.Pass pos) nilS := ps_weak ps_pass fun D σ H h => by
  obtain ⟨Z, G, ad, T, ρ, pa, r, T', N, hf, k⟩ := h
  cases hf
  exact k σ G ad H pa N (Ex.refl _) (Pre.refl _)
theorem xs_break : XS X (.Break pos) brkS := ps_weak ps_break fun D σ H h => by
  obtain ⟨Z, G, ad, T, ρ, pa, r, T', N, hf, k⟩ := h
  cases hf
  exact k σ G ad H pa N (Ex.refl _) (Pre.refl _)
theorem xs_continue : XS X (.Continue pos) cntS := ps_weak ps_continue fun D σ H h => by
  obtain ⟨Z, G, ad, T, ρ, pa, r, T', N, hf, k⟩ := h
  cases hf
  exact k σ G ad H pa N (Ex.refl _) (Pre.refl _)
theorem xs_ret (h : XO X e o1) : XS X (.Return (some e) pos) (retF o1) := ps_weak (ps_ret h) fun D σ H h => by
  obtain ⟨Z, G, ad, T, ρ, pa, r, T', N, hf, k⟩ := h
  obtain ⟨o, T1, h1, h2⟩ := bindF_eq hf
  refine ⟨Z, G, ad, T, ρ, pa, o, T1, N, h1, fun v G1 ad1 H1 x1 r1 => ?_⟩
  cases o with
  | val d =>
    cases h2
    exact k v G1 ad1 H1 x1.en.iv x1.gr.ex x1.gr.pr r1
  | own i ds =>
    cases h2
    obtain ⟨q1, rfl⟩ := r1
    obtain ⟨vs, h3, h4, h5, h6, h7, h8⟩ := x1.en.env i _ q1
    exact k _ (upd G1 (pa i) (.lst vs)) ad1 H1 (x1.en.iv.learn h6 h7 h8 h4) (x1.gr.ex.trans (Ex.new h6)) x1.gr.pr (.lst upd_same (h5.mono (Ex.new h6) (Pre.refl _)))
theorem xs_retN : XS X (.Return none pos) retN := ps_weak ps_retN fun D σ H h => by
  obtain ⟨Z, G, ad, T, ρ, pa, r, T', N, hf, k⟩ := h
  cases hf
  exact k _ G ad H N.iv (Ex.refl _) (Pre.refl _) .non
theorem xs_asg {i : Nat} (h : PS X st (tAsg (tD X.K f) (gName i))) : XS X st (asgF i f) := ps_weak h fun D σ H h => by
  obtain ⟨Z, G, ad, T, ρ, pa, r, T', N, hf, k⟩ := h
  obtain ⟨d, T1, h1, h2⟩ := bindF_eq hf
  cases h2
  exact ⟨Z, G, ad, T, ρ, pa, d, _, N, h1, fun v G1 ad1 H1 x1 r1 => k _ G1 ad1 H1 pa (x1.en.setD i r1) x1.gr.ex x1.gr.pr⟩
theorem xs_own {i : Nat} (h : PS X st (tAsg (tDL X.K fs) (gName i))) : XS X st (ownF i fs) := ps_weak h fun D σ H h => by
  obtain ⟨Z, G, ad, T, ρ, pa, r, T', N, hf, k⟩ := h
  obtain ⟨d, T1, h1, h2⟩ := bindF_eq hf
  cases h2
  exact ⟨Z, G, ad, T, ρ, pa, d, _, N, h1, fun p G1 ad1 H1 x1 w1 _ => k _ G1 ad1 H1 _ (x1.en.take w1 i) x1.gr.ex x1.gr.pr⟩
theorem xs_frz {i : Nat} (h : PS X st (tAsg (tDL X.K fs) (gName i))) : XS X st (asgF i (frzF fs)) := ps_weak h fun D σ H h => by
  obtain ⟨Z, G, ad, T, ρ, pa, r, T', N, hf, k⟩ := h
  obtain ⟨d, T1, h1, h2⟩ := bindF_eq hf
  obtain ⟨ds, T2, h3, h4⟩ := bindF_eq h1
  cases h2
  cases h4
  refine ⟨Z, G, ad, T, ρ, pa, ds, _, N, h3, fun p G1 ad1 H1 x1 w1 hp => ?_⟩
  obtain ⟨G2, x2, e2, r2⟩ := x1.learn w1 hp
  exact k _ G2 ad1 H1 pa (x2.en.setD i r2) x2.gr.ex x2.gr.pr
theorem xs_obj {i : Nat} (h : PS X st (tAsg (tDL X.K fs) (gName i))) : XS X st (objF i fs) := ps_weak h fun D σ H h => by
  obtain ⟨Z, G, ad, T, ρ, pa, r, T', N, hf, k⟩ := h
  obtain ⟨d, T1, h1, h2⟩ := bindF_eq hf
  cases h2
  refine ⟨Z, G, ad, T, ρ, pa, d, _, N, h1, fun p G1 ad1 H1 x1 w1 _ => ?_⟩
  obtain ⟨N2, p2, r2⟩ := x1.en.join w1
  exact k _ G1 (ad1 ++ [p]) H1 pa (N2.setD i r2) x1.gr.ex (x1.gr.pr.trans p2)
theorem xs_unp {t : Tgt} (h : PS X st (tAsg (tD X.K f) (tgT X.K t))) : XS X st (unpF t f) := ps_weak h fun D σ H h => by
  obtain ⟨Z, G, ad, T, ρ, pa, r, T', N, hf, k⟩ := h
  obtain ⟨d, T1, h1, h2⟩ := bindF_eq hf
  obtain ⟨ρ1, h3, h4⟩ := Option.map_eq_some_iff.mp h2
  cases h4
  exact ⟨Z, G, ad, T, ρ, pa, d, _, N, h1, fun v G1 ad1 H1 x1 r1 => tg_run x1.en r1 h3 fun vs N2 => k _ G1 ad1 H1 pa N2 x1.gr.ex x1.gr.pr⟩
theorem xs_expr (h : PS X st (tDrop (tD X.K f))) : XS X st (dropF f) := ps_weak h fun D σ H h => by
  obtain ⟨Z, G, ad, T, ρ, pa, r, T', N, hf, k⟩ := h
  obtain ⟨d, T1, h1, h2⟩ := bindF_eq hf
  cases h2
  exact ⟨Z, G, ad, T, ρ, pa, d, _, N, h1, fun v G1 ad1 H1 x1 r1 => k _ G1 ad1 H1 pa x1.en x1.gr.ex x1.gr.pr⟩
theorem xs_if {sb : List Stmt} (h : XT X c t1) (h1 : XSs X sts g1) (h2 : XSs X sb g2) : XS X (.If c sts sb pos) (ifS t1 g1 g2) := ps_weak (ps_if h h1 h2) fun D σ H h => by
  obtain ⟨Z, G, ad, T, ρ, pa, r, T', N, hf, k⟩ := h
  obtain ⟨b, T1, h1, h2⟩ := bindF_eq hf
  refine ⟨Z, G, ad, T, ρ, pa, b, T1, N, h1, fun G1 ad1 H1 x1 => ?_⟩
  cases b with
  | true => exact ⟨Z, G1, ad1, T1, ρ, pa, r, T', x1.en, h2, k.mono x1.gr.ex x1.gr.pr⟩
  | false => exact ⟨Z, G1, ad1, T1, ρ, pa, r, T', x1.en, h2, k.mono x1.gr.ex x1.gr.pr⟩
theorem xs_aug {i : Nat} {rr : R2} {g : D → D → Option D} (hr : OkR X.K rr g) (h : PS X st (tAug i (tD X.K f) rr)) : XS X st (augF i g f) := ps_weak h fun D σ H h => by
  obtain ⟨Z, G, ad, T, ρ, pa, r, T', N, hf, k⟩ := h
  unfold augF at hf
  split at hf
  · rename_i x hx
    obtain ⟨y, T1, h1, h2⟩ := bindF_eq hf
    obtain ⟨z, h3, h4⟩ := Option.map_eq_some_iff.mp h2
    cases h4
    obtain ⟨v, q1, q2⟩ := N.env i _ hx
    exact ⟨v, q1, Z, G, ad, T, ρ, pa, y, _, N, h1, fun w G1 ad1 H1 x1 r1 => hr Z G1 ad1 _ ρ σ H1 pa v w x y z _ x1.en (x1.rp q2) r1 h3 fun u G2 ad2 H2 x2 r2 => k _ G2 ad2 H2 pa ((x1.trans x2).en.setD i r2) (x1.trans x2).gr.ex (x1.trans x2).gr.pr⟩
  · cases hf
theorem xs_app {i : Nat} (h : PS X st (tDrop (tBM X.K "list" rAppend (tVar i) (tCons (tD X.K f) tNil)))) : XS X st (appF i f) := ps_weak h fun D σ H h => by
  obtain ⟨Z, G, ad, T, ρ, pa, r, T', N, hf, k⟩ := h
  unfold appF at hf
  split at hf
  · rename_i ds hx
    obtain ⟨y, T1, h1, h2⟩ := bindF_eq hf
    split at h2
    · rename_i hz
      cases h2
      obtain ⟨vs, q1, q2, q3, q4, q5, q6⟩ := N.env i _ hx
      refine ⟨_, q1, .inl ⟨rfl, vs, .inl (.inl q2)⟩, Z, G, ad, T, ρ, pa, y, _, N, h1, fun w G1 ad1 H1 x1 r1 => ?_⟩
      obtain ⟨us, s1, s2, s3, s4, s5, s6⟩ := x1.en.env i _ hx
      refine ⟨_, us, w, rfl, rfl, s2, by rw [s3.length]; exact hz, ?_⟩
      exact k _ G1 ad1 _ pa (x1.en.putO hx (s3.append (.cons r1 .nil))) x1.gr.ex x1.gr.pr
    · cases h2
  · cases hf
theorem xs_set {i : Nat} (h : PS X st (tAsg (tD X.K f1) (gSub (tVar i) (tD X.K f2) rSetL))) : XS X st (setF i f2 f1) := ps_weak h fun D σ H h => by
  obtain ⟨Z, G, ad, T, ρ, pa, r, T', N, hf, k⟩ := h
  obtain ⟨d, T1, h1, h2⟩ := bindF_eq hf
  obtain ⟨j, T2, h3, h4⟩ := bindF_eq h2
  refine ⟨Z, G, ad, T, ρ, pa, d, T1, N, h1, fun v G1 ad1 H1 x1 r1 => ?_⟩
  split at h4
  · rename_i ds j' hx
    obtain ⟨m, h5, h6⟩ := Option.map_eq_some_iff.mp h4
    cases h6
    obtain ⟨vs, q1, q2, q3, q4, q5, q6⟩ := x1.en.env i _ hx
    refine ⟨_, q1, Z, G1, ad1, T1, ρ, pa, _, _, x1.en, h3, fun w G2 ad2 H2 x2 r2 => ?_⟩
    obtain ⟨us, s1, s2, s3, s4, s5, s6⟩ := x2.en.env i _ hx
    refine ⟨_, us, j', m, rfl, r2.inv_int, s2, by rw [s3.length]; exact h5, ?_⟩
    have x := x1.trans x2
    exact k _ G2 ad2 _ pa (x.en.putO hx (s3.set (x2.rp r1) m)) x.gr.ex x.gr.pr
  · rename_i kk j' hx
    split at h4
    · rename_i ds hT
      obtain ⟨m, h5, h6⟩ := Option.map_eq_some_iff.mp h4
      cases h6
      obtain ⟨v0, q1, q2⟩ := x1.en.env i _ hx
      obtain ⟨a, rfl, q3⟩ := q2.inv_ob
      refine ⟨_, q1, Z, G1, ad1, T1, ρ, pa, _, _, x1.en, h3, fun w G2 ad2 H2 x2 r2 => ?_⟩
      have q4 := x2.gr.pr _ _ q3
      obtain ⟨us, s1, s2⟩ := x2.en.ob q4 hT
      refine ⟨_, us, j', m, rfl, r2.inv_int, s1, by rw [s2.length]; exact h5, ?_⟩
      have x := x1.trans x2
      exact k _ G2 ad2 _ pa (x.en.put q4 (s2.set (x2.rp r1) m)) x.gr.ex x.gr.pr
    · cases h4
  · cases h4
end

/-! ### walks -/
/-- a source of data, as it stands from (G, ad) on -/
structure ItOk (K : PySem.W.Frag) (J : It) (G0 : Hp) (ad0 : List Addr) (ds : List D) : Prop where
  go : ∀ (Z : Zc) (G : Hp) (ad : List Addr) (T : Tm) (ρ : Rho) (σ : L2.St) (H : Hp) (pa : Nat → Addr) (i : Nat), En K Z G ad T ρ σ H pa → Ex G0 G → Pre ad0 ad → i < ds.length → J.go i H
  stop : ∀ (Z : Zc) (G : Hp) (ad : List Addr) (T : Tm) (ρ : Rho) (σ : L2.St) (H : Hp) (pa : Nat → Addr) (i : Nat), En K Z G ad T ρ σ H pa → Ex G0 G → Pre ad0 ad → ds.length ≤ i → J.stop i H
  yld : ∀ (Z : Zc) (G : Hp) (ad : List Addr) (T : Tm) (ρ : Rho) (σ : L2.St) (H : Hp) (pa : Nat → Addr) (i : Nat) (x : V) (H' : Hp), En K Z G ad T ρ σ H pa → Ex G0 G → Pre ad0 ad → i < ds.length → J.yld i H x H' →
    ∃ G' d, Nx K Z G ad H ρ σ pa T G' ad H' ∧ ds[i]? = some d ∧ Rp K G' ad x d
def tDI (K : PySem.W.Frag) (f : FA) : TI := fun σ H R => ∃ Z G ad T ρ pa ds T', En K Z G ad T ρ σ H pa ∧ f ρ T = some (ds, T') ∧
  ∀ J G' ad' H', Nx K Z G ad H ρ σ pa T' G' ad' H' → ItOk K J G' ad' ds → R J H'
abbrev XI (X : Cx) (tg iter : Expr) (f : FA) : Prop := PI X tg iter (tDI X.K f)
theorem pi_weak {X : Cx} {tg e : Expr} {t t' : TI} (h : PI X tg e t) (k : ∀ σ H R, t' σ H R → t σ H R) : PI X tg e t' := ⟨fun pins s σ H R I hw => h.run pins s σ H R I (k σ H R hw)⟩
/-- over a tuple | a list that is data -/
def itT (f : FE) : FA := fun ρ T => bindF (f ρ T) fun d T' => match d with
  | .tup ds => some (ds, T')
  | _ => none
def itL (f : FE) : FA := fun ρ T => bindF (f ρ T) fun d T' => match d with
  | .lst ds => some (ds, T')
  | .frl ds => some (ds, T')
  | _ => none
section
variable {X : Cx} {e tg : Expr} {f f1 f2 : FE} {fs : FA}
theorem itOk_tup {K : PySem.W.Frag} {a : Addr} {G0 : Hp} {ad0 : List Addr} {vs : List V} {ds : List D} (h : TupK K G0 a vs) (r : RpL K G0 ad0 vs ds) (inj : ∀ (G : Hp), Ex G0 G → ∀ xs, SqT K G a xs → True) : ItOk K (Itt K a) G0 ad0 ds where
  go := fun Z G ad T ρ σ H pa i N e p hi => by
    have hv : i < vs.length := by rw [r.length]; exact hi
    exact ⟨vs, vs[i], N.iv.tup (h.mono e), List.getElem?_eq_getElem hv⟩
  stop := fun Z G ad T ρ σ H pa i N e p hi => ⟨vs, N.iv.tup (h.mono e), by rw [r.length]; exact hi⟩
  yld := fun Z G ad T ρ σ H pa i x H' N e p hi y => by
    obtain ⟨rfl, y⟩ := y
    obtain ⟨d, h1, h2⟩ := r.getV (y vs (N.iv.tup (h.mono e)))
    exact ⟨G, d, N.nx, h1, h2.mono e p⟩
theorem itOk_lst {K : PySem.W.Frag} {a : Addr} {G0 : Hp} {ad0 : List Addr} {vs : List V} {ds : List D} (h : SqL K G0 a vs) (r : RpL K G0 ad0 vs ds) : ItOk K (Itl K a) G0 ad0 ds where
  go := fun Z G ad T ρ σ H pa i N e p hi => by
    have hv : i < vs.length := by rw [r.length]; exact hi
    exact ⟨vs, vs[i], N.iv.seq (Evl.ex_l e h), List.getElem?_eq_getElem hv⟩
  stop := fun Z G ad T ρ σ H pa i N e p hi => ⟨vs, N.iv.seq (Evl.ex_l e h), by rw [r.length]; exact hi⟩
  yld := fun Z G ad T ρ σ H pa i x H' N e p hi y => by
    obtain ⟨rfl, y⟩ := y
    obtain ⟨d, h1, h2⟩ := r.getV (y vs (N.iv.seq (Evl.ex_l e h)))
    exact ⟨G, d, N.nx, h1, h2.mono e p⟩
theorem xi_tup (h : XE X e f) : XI X tg e (itT f) := pi_weak (pi_tup h) fun σ H R h => by
  obtain ⟨Z, G, ad, T, ρ, pa, ds, T', N, hf, k⟩ := h
  obtain ⟨d, T1, h1, h2⟩ := bindF_eq hf
  refine ⟨Z, G, ad, T, ρ, pa, d, T1, N, h1, fun v G1 ad1 H1 x1 r1 => ?_⟩
  split at h2
  · cases h2
    obtain ⟨a, vs, rfl, hh, hr⟩ := r1.inv_tup
    exact ⟨a, rfl, ⟨vs, x1.en.iv.tup hh⟩, k _ G1 ad1 H1 x1 (itOk_tup hh hr fun _ _ _ _ => trivial)⟩
  · cases h2
theorem xi_lst (h : XE X e f) : XI X tg e (itL f) := pi_weak (pi_list h) fun σ H R h => by
  obtain ⟨Z, G, ad, T, ρ, pa, ds, T', N, hf, k⟩ := h
  obtain ⟨d, T1, h1, h2⟩ := bindF_eq hf
  refine ⟨Z, G, ad, T, ρ, pa, d, T1, N, h1, fun v G1 ad1 H1 x1 r1 => ?_⟩
  split at h2
  · cases h2
    obtain ⟨a, vs, rfl, hh, hr⟩ := r1.inv_lst
    exact ⟨a, rfl, ⟨vs, .inl (.inl (x1.en.iv.ex _ _ hh))⟩, k _ G1 ad1 H1 x1 (itOk_lst (.inl (.inl hh)) hr)⟩
  · cases h2
    obtain ⟨a, vs, rfl, hh, hr⟩ := r1.inv_frl
    exact ⟨a, rfl, ⟨vs, x1.en.iv.seq hh⟩, k _ G1 ad1 H1 x1 (itOk_lst hh hr)⟩
  · cases h2
/-- over range(n), range(a, b) -/
noncomputable def rng1 (fs : FA) : FA := fun ρ T => bindF (fs ρ T) fun ds T' => match ds with
  | [.int j] => if in62 j then some (rngL 0 j, T') else none
  | _ => none
noncomputable def rng2 (fs : FA) : FA := fun ρ T => bindF (fs ρ T) fun ds T' => match ds with
  | [.int i, .int j] => if in62 i && in62 j then some (rngL i j, T') else none
  | _ => none
theorem rngL_len (i j : Int) : (rngL i j).length = (j - i).toNat := by unfold rngL; rw [List.length_map, List.length_range]
theorem itOk_rng {K : PySem.W.Frag} {G0 : Hp} {ad0 : List Addr} (i j : Int) : ItOk K (Itr i (j - i).toNat) G0 ad0 (rngL i j) where
  go := fun Z G ad T ρ σ H pa m N e p hi => by rw [rngL_len] at hi; exact hi
  stop := fun Z G ad T ρ σ H pa m N e p hi => by rw [rngL_len] at hi; exact hi
  yld := fun Z G ad T ρ σ H pa m x H' N e p hi y => by
    obtain ⟨rfl, rfl⟩ := y
    rw [rngL_len] at hi
    refine ⟨G, .int (i + (m : Nat)), N.nx, ?_, .int _⟩
    unfold rngL
    rw [List.getElem?_map, List.getElem?_range hi]
    rfl
theorem xi_rng1 (h : PI X tg e (iRng1 (tDA X.K fs))) : XI X tg e (rng1 fs) := pi_weak h fun σ H R h => by
  obtain ⟨Z, G, ad, T, ρ, pa, ds, T', N, hf, k⟩ := h
  obtain ⟨d, T1, h1, h2⟩ := bindF_eq hf
  refine ⟨Z, G, ad, T, ρ, pa, d, T1, N, h1, fun vs G1 ad1 H1 x1 r1 => ?_⟩
  split at h2
  · split at h2
    · rename_i hc
      cases h2
      obtain ⟨v, rfl, q⟩ := r1.one
      refine ⟨_, by rw [q.inv_int], (of_in62 hc).1, (of_in62 hc).2, k _ G1 ad1 H1 x1 ?_⟩
      have z := itOk_rng (K := X.K) (G0 := G1) (ad0 := ad1) 0 (by assumption)
      rw [Int.sub_zero] at z
      exact z
    · cases h2
  · cases h2
theorem xi_rng2 (h : PI X tg e (iRng2 (tDA X.K fs))) : XI X tg e (rng2 fs) := pi_weak h fun σ H R h => by
  obtain ⟨Z, G, ad, T, ρ, pa, ds, T', N, hf, k⟩ := h
  obtain ⟨d, T1, h1, h2⟩ := bindF_eq hf
  refine ⟨Z, G, ad, T, ρ, pa, d, T1, N, h1, fun vs G1 ad1 H1 x1 r1 => ?_⟩
  split at h2
  · split at h2
    · rename_i hc
      cases h2
      rw [Bool.and_eq_true] at hc
      obtain ⟨v, w, rfl, q1, q2⟩ := r1.two
      exact ⟨_, _, by rw [q1.inv_int, q2.inv_int], ⟨(of_in62 hc.1).1, (of_in62 hc.1).2, (of_in62 hc.2).1, (of_in62 hc.2).2⟩, k _ G1 ad1 H1 x1 (itOk_rng _ _)⟩
    · cases h2
  · cases h2
end

/-! ### for, while -/
def forL (t : Tgt) (body : FS) : List D → Rho → Tm → Option (Rz × Tm)
  | [], ρ, T => some (.nx ρ, T)
  | d :: ds, ρ, T => match tgD t d ρ with
    | none => none
    | some ρ1 => match body ρ1 T with
      | some (.nx ρ2, T2) => forL t body ds ρ2 T2
      | some (.ct ρ2, T2) => forL t body ds ρ2 T2
      | some (.bk ρ2, T2) => some (.nx ρ2, T2)
      | some (.rt d, T2) => some (.rt d, T2)
      | none => none
def forS (t : Tgt) (fs : FA) (body : FS) : FS := fun ρ T => bindF (fs ρ T) fun ds T' => forL t body ds ρ T'
def whL (c : FT) (body : FS) : Nat → Rho → Tm → Option (Rz × Tm)
  | 0, _, _ => none
  | n + 1, ρ, T => bindF (c ρ T) fun b T1 => if b then (match body ρ T1 with
      | some (.nx ρ2, T2) => whL c body n ρ2 T2
      | some (.ct ρ2, T2) => whL c body n ρ2 T2
      | some (.bk ρ2, T2) => some (.nx ρ2, T2)
      | some (.rt d, T2) => some (.rt d, T2)
      | none => none) else some (.nx ρ, T1)
open Classical in
/-- as many turns as it takes -/
noncomputable def whS (c : FT) (body : FS) : FS := fun ρ T => if h : ∃ n, (whL c body n ρ T).isSome = true then whL c body h.choose ρ T else none
theorem whL_mono (c : FT) (body : FS) : ∀ (n m : Nat) (ρ : Rho) (T : Tm) (r : Rz × Tm), whL c body n ρ T = some r → n ≤ m → whL c body m ρ T = some r
  | 0, _, _, _, _, h, _ => by cases h
  | n + 1, 0, _, _, _, _, hm => absurd hm (by omega)
  | n + 1, m + 1, ρ, T, r, h, hm => by
    unfold whL at h ⊢
    obtain ⟨b, T1, h1, h2⟩ := bindF_eq h
    rw [h1, bindF_some]
    cases b with
    | false => exact h2
    | true =>
      rw [if_pos rfl] at h2 ⊢
      split at h2
      · rename_i ρ2 T2 e
        exact whL_mono c body n m ρ2 T2 r h2 (by omega)
      · rename_i ρ2 T2 e
        exact whL_mono c body n m ρ2 T2 r h2 (by omega)
      · exact h2
      · exact h2
      · cases h2
theorem whS_of {c : FT} {body : FS} {n : Nat} {ρ : Rho} {T : Tm} {r : Rz × Tm} (h : whL c body n ρ T = some r) : whS c body ρ T = some r := by
  unfold whS
  have hx : ∃ n, (whL c body n ρ T).isSome = true := ⟨n, by rw [h]; rfl⟩
  rw [dif_pos hx]
  have hs := hx.choose_spec
  obtain ⟨r', e⟩ := Option.isSome_iff_exists.mp hs
  rw [e]
  have a := whL_mono c body _ (max n hx.choose) ρ T r h (Nat.le_max_left _ _)
  have b := whL_mono c body _ (max n hx.choose) ρ T r' e (Nat.le_max_right _ _)
  exact b.symm.trans a
theorem whS_eq {c : FT} {body : FS} {ρ : Rho} {T : Tm} {r : Rz × Tm} (h : whS c body ρ T = some r) : ∃ n, whL c body n ρ T = some r := by
  unfold whS at h
  split at h
  · exact ⟨_, h⟩
  · cases h
section
variable {X : Cx} {e tg c : Expr} {f f1 f2 : FE} {fs : FA} {t1 : FT} {st : Stmt} {sts : List Stmt} {pos : Pos} {g1 g2 : FS}
theorem xs_for {t : Tgt} (hp : PassesOwn (model X.prog X.w) X.A X.env X.xe) (hc : X.calm = true) (hi : XI X tg e fs) (hg : PG X tg (tgT X.K t)) (hb : XSs X sts g1) (hs : ∀ x, foldedSetIterable e X.env x = pure x := by intro _; rfl) :
    XS X (.For tg e sts [] pos) (forS t fs g1) := ps_weak (ps_for hp hc hi hg hb hs) fun D σ H h => by
  obtain ⟨Z, G, ad, T, ρ, pa, r, T', N, hf, k⟩ := h
  obtain ⟨ds, T1, h1, h2⟩ := bindF_eq hf
  refine ⟨Z, G, ad, T, ρ, pa, ds, T1, N, h1, fun J G1 ad1 H1 x1 it => ?_⟩
  refine ⟨fun i m σ' H' => m = ds.length - i ∧ i ≤ ds.length ∧ ∃ G2 ad2 T2 ρ2 pa2, En X.K Z G2 ad2 T2 ρ2 σ' H' pa2 ∧ Ex G1 G2 ∧ Pre ad1 ad2 ∧ forL t g1 (ds.drop i) ρ2 T2 = some (r, T'),
    ⟨ds.length, by simp, Nat.zero_le _, G1, ad1, T1, ρ, pa, x1.en, Ex.refl _, Pre.refl _, h2⟩, ?_⟩
  rintro i m σ' H' ⟨rfl, hi, G2, ad2, T2, ρ2, pa2, N2, e2, p2, h3⟩
  by_cases hlt : i < ds.length
  · refine .inr ⟨it.go _ _ _ _ _ _ _ _ i N2 e2 p2 hlt, fun σ' H' => i + 1 ≤ ds.length ∧ ∃ G2 ad2 T2 ρ2 pa2, En X.K Z G2 ad2 T2 ρ2 σ' H' pa2 ∧ Ex G1 G2 ∧ Pre ad1 ad2 ∧ forL t g1 (ds.drop (i + 1)) ρ2 T2 = some (r, T'),
      fun σ3 H3 hN => ⟨ds.length - (i + 1), by omega, rfl, hN.1, hN.2⟩, fun x H3 hy => ?_⟩
    obtain ⟨G3, d, x3, hd, r3⟩ := it.yld _ _ _ _ _ _ _ _ i x H3 N2 e2 p2 hlt hy
    rw [List.drop_eq_getElem_cons hlt] at h3
    have hd' : ds[i] = d := by
      rw [List.getElem?_eq_getElem hlt] at hd
      exact Option.some.inj hd
    rw [hd'] at h3
    unfold forL at h3
    split at h3
    · cases h3
    · rename_i ρ3 ht
      refine tg_run x3.en r3 ht fun vs N4 => ?_
      have eG : Ex G1 G3 := e2.trans x3.gr.ex
      have pA : Pre ad1 ad2 := p2.trans x3.gr.pr
      have base := k.mono (x1.gr.ex.trans eG) (x1.gr.pr.trans pA)
      split at h3
      · rename_i ρ4 T4 hb4
        exact ⟨Z, G3, ad2, T2, ρ3, pa2, .nx ρ4, T4, N4, hb4, fun σ5 G5 ad5 H5 pa5 N5 e5 p5 => ⟨by omega, G5, ad5, T4, ρ4, pa5, N5, eG.trans e5, pA.trans p5, h3⟩⟩
      · rename_i ρ4 T4 hb4
        exact ⟨Z, G3, ad2, T2, ρ3, pa2, .ct ρ4, T4, N4, hb4, fun σ5 G5 ad5 H5 pa5 N5 e5 p5 => ⟨by omega, G5, ad5, T4, ρ4, pa5, N5, eG.trans e5, pA.trans p5, h3⟩⟩
      · rename_i ρ4 T4 hb4
        cases h3
        exact ⟨Z, G3, ad2, T2, ρ3, pa2, .bk ρ4, _, N4, hb4, fun σ5 G5 ad5 H5 pa5 N5 e5 p5 => base σ5 G5 ad5 H5 pa5 N5 e5 p5⟩
      · rename_i d4 T4 hb4
        cases h3
        exact ⟨Z, G3, ad2, T2, ρ3, pa2, .rt d4, _, N4, hb4, fun v G5 ad5 H5 I5 e5 p5 r5 => base v G5 ad5 H5 I5 e5 p5 r5⟩
      · cases h3
  · have hi' : ds.length ≤ i := Nat.le_of_not_lt hlt
    rw [List.drop_eq_nil_of_le hi'] at h3
    cases h3
    exact .inl ⟨it.stop _ _ _ _ _ _ _ _ i N2 e2 p2 hi', k σ' G2 ad2 H' pa2 N2 (x1.gr.ex.trans e2) (x1.gr.pr.trans p2)⟩
theorem xs_while (hp : PassesOwn (model X.prog X.w) X.A X.env X.xe) (hc : XT X c t1) (hb : XSs X sts g1) : XS X (.While c sts [] pos) (whS t1 g1) := ps_weak (ps_while hp hc hb) fun D σ H h => by
  obtain ⟨Z, G, ad, T, ρ, pa, r, T', N, hf, k⟩ := h
  obtain ⟨n, hn⟩ := whS_eq hf
  refine ⟨fun m σ' H' => ∃ G2 ad2 T2 ρ2 pa2, En X.K Z G2 ad2 T2 ρ2 σ' H' pa2 ∧ Ex G G2 ∧ Pre ad ad2 ∧ whL t1 g1 m ρ2 T2 = some (r, T'), ⟨n, G, ad, T, ρ, pa, N, Ex.refl _, Pre.refl _, hn⟩, ?_⟩
  rintro m σ' H' ⟨G2, ad2, T2, ρ2, pa2, N2, e2, p2, h3⟩
  cases m with
  | zero => cases h3
  | succ m =>
    unfold whL at h3
    obtain ⟨b, T3, h4, h5⟩ := bindF_eq h3
    refine ⟨Z, G2, ad2, T2, ρ2, pa2, b, T3, N2, h4, fun G3 ad3 H3 x3 => ?_⟩
    have eG : Ex G G3 := e2.trans x3.gr.ex
    have pA : Pre ad ad3 := p2.trans x3.gr.pr
    have base := k.mono eG pA
    cases b with
    | false =>
      cases h5
      exact base σ' G3 ad3 H3 pa2 x3.en (Ex.refl _) (Pre.refl _)
    | true =>
      rw [if_pos rfl] at h5
      refine iteT ?_
      refine ⟨fun σ' H' => ∃ G2 ad2 T2 ρ2 pa2, En X.K Z G2 ad2 T2 ρ2 σ' H' pa2 ∧ Ex G G2 ∧ Pre ad ad2 ∧ whL t1 g1 m ρ2 T2 = some (r, T'), fun σ5 H5 hN => ⟨m, Nat.lt_succ_self m, hN⟩, ?_⟩
      split at h5
      · rename_i ρ4 T4 hb4
        exact ⟨Z, G3, ad3, T3, ρ2, pa2, .nx ρ4, T4, x3.en, hb4, fun σ5 G5 ad5 H5 pa5 N5 e5 p5 => ⟨G5, ad5, T4, ρ4, pa5, N5, eG.trans e5, pA.trans p5, h5⟩⟩
      · rename_i ρ4 T4 hb4
        exact ⟨Z, G3, ad3, T3, ρ2, pa2, .ct ρ4, T4, x3.en, hb4, fun σ5 G5 ad5 H5 pa5 N5 e5 p5 => ⟨G5, ad5, T4, ρ4, pa5, N5, eG.trans e5, pA.trans p5, h5⟩⟩
      · rename_i ρ4 T4 hb4
        cases h5
        exact ⟨Z, G3, ad3, T3, ρ2, pa2, .bk ρ4, _, x3.en, hb4, fun σ5 G5 ad5 H5 pa5 N5 e5 p5 => base σ5 G5 ad5 H5 pa5 N5 e5 p5⟩
      · rename_i d4 T4 hb4
        cases h5
        exact ⟨Z, G3, ad3, T3, ρ2, pa2, .rt d4, _, x3.en, hb4, fun v G5 ad5 H5 I5 e5 p5 r5 => base v G5 ad5 H5 I5 e5 p5 r5⟩
      · cases h5
end
end Fx
namespace Fx
open PySem PySem.Spec PyProof.Rows L2
open Evl (Ex)

section
variable {K : PySem.W.Frag} {Z : Zc} {G G' : Hp} {ad ad' : List Addr} {T T' : Tm} {ρ : Rho} {σ : L2.St} {H H' : Hp} {pa : Nat → Addr} {p : Addr} {ds : List D}
theorem En.carry (N : En K Z G ad T ρ σ H pa) (I : Iv K Z G' ad' T' H') (g : Gr G ad H G' ad' H') : En K Z G' ad' T' ρ σ H' pa := by
  refine ⟨I, N.hl, fun i s h => ?_, N.ne⟩
  have q := N.env i s h
  cases s with
  | un => trivial
  | dat d =>
    obtain ⟨v, q1, q2⟩ := q
    exact ⟨v, q1, q2.mono g.ex g.pr⟩
  | own es =>
    obtain ⟨us, q1, q2, q3, q4, q5, q6⟩ := q
    refine ⟨us, q1, g.fr _ _ q2 q5, q3.mono g.ex g.pr, ?_, fun hm => ?_, q6⟩
    · cases e : G' (pa i) with
      | none => rfl
      | some o =>
        rcases g.nG _ o e with z | z
        · rw [q4] at z
          cases z
        · rw [q2] at z
          cases z
    · rcases g.nA _ hm with z | z
      · exact q5 z
      · rw [q2] at z
        cases z
/-- the list that a comprehension fills -/
structure Fl (K : PySem.W.Frag) (Z : Zc) (G : Hp) (ad : List Addr) (H : Hp) (p : Addr) (acc : List D) : Prop where
  at_ : ∃ vs, H p = some (.lst vs) ∧ RpL K G ad vs acc
  g : G p = none
  a : p ∉ ad
  h : Z.He p = none
theorem Fl.step {acc : List D} (f : Fl K Z G ad H p acc) (g : Gr G ad H G' ad' H') : Fl K Z G' ad' H' p acc := by
  obtain ⟨vs, h1, h2⟩ := f.at_
  refine ⟨⟨vs, g.fr _ _ h1 f.a, h2.mono g.ex g.pr⟩, ?_, fun hm => ?_, f.h⟩
  · cases e : G' p with
    | none => rfl
    | some o =>
      rcases g.nG _ o e with z | z
      · rw [f.g] at z
        cases z
      · rw [h1] at z
        cases z
  · rcases g.nA _ hm with z | z
    · exact f.a z
    · rw [h1] at z
      cases z
theorem Fl.put {acc : List D} {vs : List V} {x : D} {v : V} (f : Fl K Z G ad H p acc) (hv : H p = some (.lst vs)) (r : RpL K G ad vs acc) (rx : Rp K G ad v x) : Fl K Z G ad (upd H p (.lst (vs ++ [v]))) p (acc ++ [x]) :=
  ⟨⟨_, upd_same, r.append (.cons rx .nil)⟩, f.g, f.a, f.h⟩
end
def wipeR (ρ : Rho) : List Nat → Rho
  | [] => ρ
  | v :: vs => (wipeR ρ vs).set v .un
theorem wipeR_length (ρ : Rho) : ∀ vs : List Nat, (wipeR ρ vs).length = ρ.length
  | [] => rfl
  | v :: vs => by unfold wipeR; rw [List.length_set, wipeR_length ρ vs]
theorem wipe_get (σ : L2.St) (i : Nat) : ∀ vs : List Nat, (wipe σ vs)[i]? = if i ∈ vs then (σ[i]?).map (fun _ => none) else σ[i]?
  | [] => by simp [wipe]
  | v :: vs => by
    unfold wipe
    by_cases hi : v = i
    · subst hi
      rw [if_pos List.mem_cons_self]
      by_cases hl : v < σ.length
      · rw [List.getElem?_set_self (by rw [wipe_length]; exact hl), List.getElem?_eq_getElem hl]
        rfl
      · rw [List.getElem?_eq_none (by rw [List.length_set, wipe_length]; omega), List.getElem?_eq_none (by omega)]
        rfl
    · rw [List.getElem?_set_ne hi, wipe_get σ i vs]
      by_cases hm : i ∈ vs
      · rw [if_pos hm, if_pos (List.mem_cons_of_mem _ hm)]
      · rw [if_neg hm, if_neg (by simp only [List.mem_cons, not_or]; exact ⟨fun e => hi e.symm, hm⟩)]
theorem wipeR_get (ρ : Rho) (i : Nat) : ∀ vs : List Nat, (wipeR ρ vs)[i]? = if i ∈ vs then (ρ[i]?).map (fun _ => Sl.un) else ρ[i]?
  | [] => by simp [wipeR]
  | v :: vs => by
    unfold wipeR
    by_cases hi : v = i
    · subst hi
      rw [if_pos List.mem_cons_self]
      by_cases hl : v < ρ.length
      · rw [List.getElem?_set_self (by rw [wipeR_length]; exact hl), List.getElem?_eq_getElem hl]
        rfl
      · rw [List.getElem?_eq_none (by rw [List.length_set, wipeR_length]; omega), List.getElem?_eq_none (by omega)]
        rfl
    · rw [List.getElem?_set_ne hi, wipeR_get ρ i vs]
      by_cases hm : i ∈ vs
      · rw [if_pos hm, if_pos (List.mem_cons_of_mem _ hm)]
      · rw [if_neg hm, if_neg (by simp only [List.mem_cons, not_or]; exact ⟨fun e => hi e.symm, hm⟩)]
theorem wipe_eq {σ1 σ2 : L2.St} {vs : List Nat} (hl : σ1.length = σ2.length) (h : ∀ i, i ∉ vs → σ1[i]? = σ2[i]?) : wipe σ1 vs = wipe σ2 vs := by
  apply List.ext_getElem?
  intro i
  rw [wipe_get, wipe_get]
  by_cases hm : i ∈ vs
  · rw [if_pos hm, if_pos hm]
    by_cases hi : i < σ1.length
    · rw [List.getElem?_eq_getElem hi, List.getElem?_eq_getElem (by omega)]
      rfl
    · rw [List.getElem?_eq_none (by omega), List.getElem?_eq_none (by omega)]
  · rw [if_neg hm, if_neg hm]
    exact h i hm
def tgIn : Tgt → List Nat → Bool
  | .nm i, vs => vs.contains i
  | .tp is, vs => is.all fun i => vs.contains i
theorem setV_length : ∀ (is : List Nat) (ws : List V) (σ : L2.St), (setV is ws σ).length = σ.length
  | [], _, _ => by simp [setV]
  | _ :: _, [], _ => by simp [setV]
  | i :: is, w :: ws, σ => by
    unfold setV
    rw [setV_length is ws, List.length_set]
theorem setV_out {i : Nat} : ∀ (is : List Nat) (ws : List V) (σ : L2.St), i ∉ is → (setV is ws σ)[i]? = σ[i]?
  | [], _, _, _ => by simp [setV]
  | _ :: _, [], _, _ => by simp [setV]
  | j :: is, w :: ws, σ, h => by
    unfold setV
    rw [setV_out is ws _ (fun z => h (List.mem_cons_of_mem _ z)), List.getElem?_set_ne (show j ≠ i from fun e => h (by rw [← e]; exact List.mem_cons_self))]
theorem tgS_wipe {t : Tgt} {vs : List Nat} (h : tgIn t vs = true) (ws : List V) (σ : L2.St) : wipe (tgS t ws (wipe σ vs)) vs = wipe σ vs := by
  have e : wipe (wipe σ vs) vs = wipe σ vs := by
    apply wipe_eq (wipe_length _ _)
    intro i hi
    rw [wipe_get, if_neg hi]
  refine Eq.trans (wipe_eq ?_ fun i hi => ?_) e
  · cases t with
    | nm i =>
      cases ws with
      | nil => rfl
      | cons w ws => exact List.length_set
    | tp is => exact setV_length _ _ _
  · cases t with
    | nm j =>
      cases ws with
      | nil => rfl
      | cons w ws =>
        have hj : j ∈ vs := by simpa [tgIn] using h
        exact List.getElem?_set_ne (show j ≠ i from fun e => hi (by rw [← e]; exact hj))
    | tp is =>
      refine setV_out _ _ _ fun hm => hi ?_
      have := List.all_eq_true.mp h i hm
      simpa using this
def compL (t : Tgt) (c : FT) (e : FE) (ρw : Rho) : List D → List D → Tm → Option (List D × Tm)
  | [], acc, T => some (acc, T)
  | d :: ds, acc, T => match tgD t d ρw with
    | none => none
    | some ρ1 => bindF (c ρ1 T) fun b T1 => if b then bindF (e ρ1 T1) fun x T2 => (if acc.length < sizeLine then compL t c e ρw ds (acc ++ [x]) T2 else none) else compL t c e ρw ds acc T1
def compF (t : Tgt) (fs : FA) (c : FT) (e : FE) (vs : List Nat) : FA := fun ρ T => if tgIn t vs = true then bindF (fs ρ T) fun ds T' => compL t c e (wipeR ρ vs) ds [] T' else none
def yesT : FT := fun _ T => some (true, T)
theorem yes_tt {K : PySem.W.Frag} {σ : L2.St} {H : Hp} {Q : Bool → Hp → Prop} (h : tDT K yesT σ H Q) : tYes σ H Q := by
  obtain ⟨Z, G, ad, T, ρ, pa, b, T', N, hf, k⟩ := h
  cases hf
  exact k G ad H N.nx
theorem xts_nil {X : Cx} : PTs X [] (tDT X.K yesT) := ⟨fun pins s σ H Q I h => pts_nil.run pins s σ H Q I (yes_tt h)⟩
theorem xts_one {X : Cx} {c : Expr} {t : FT} (h : XT X c t) : PTs X [c] (tDT X.K t) := pts_one h
theorem lc_imp {K : PySem.W.Frag} {t : Tgt} {fs : FA} {c : FT} {e : FE} {vs : List Nat} {σ : L2.St} {H : Hp} {Q : VK} (h : tDL K (compF t fs c e vs) σ H Q) : tLc (tDI K fs) (tgT K t) (tDT K c) (tD K e) vs σ H Q := by
  obtain ⟨Z, G, ad, T, ρ, pa, res, T', N, hf, k⟩ := h
  unfold compF at hf
  split at hf
  · rename_i hin
    obtain ⟨ds, T1, h1, h2⟩ := bindF_eq hf
    refine ⟨Z, G, ad, T, ρ, pa, ds, T1, N, h1, fun J G1 ad1 H1 x1 it p hp => ?_⟩
    have hp0 : H p = none := x1.gr.back x1.en.iv.ats hp
    have own_ne : ∀ (i : Nat) (es : List D), ρ[i]? = some (.own es) → pa i ≠ p := fun i es h => by
      obtain ⟨ws, _, q, _⟩ := x1.en.env i _ h
      exact ne_of_none q hp
    have wl : (wipeR ρ vs).length = (wipe σ vs).length := by rw [wipeR_length, wipe_length]; exact N.hl
    have wf : ∀ {G2 : Hp} {ad2 : List Addr} {T2 : Tm} {H2 : Hp}, En K Z G2 ad2 T2 ρ σ H2 pa → En K Z G2 ad2 T2 (wipeR ρ vs) (wipe σ vs) H2 pa := fun N2 => N2.forget wl fun i s hs => by
      rw [wipeR_get] at hs
      by_cases hm : i ∈ vs
      · rw [if_pos hm] at hs
        obtain ⟨_, _, e⟩ := Option.map_eq_some_iff.mp hs
        exact .inl e.symm
      · rw [if_neg hm] at hs
        exact .inr ⟨hs, by rw [wipe_get, if_neg hm]⟩
    obtain ⟨N0, w0⟩ := x1.en.laid (ds := []) hp .nil
    have g0 : Gr G1 ad1 H1 G1 ad1 (upd H1 p (.lst [])) := ⟨Ex.refl _, Pre.refl _, fun b o hb _ => by rw [upd_ne (ne_of_none hb hp)]; exact hb, fun _ _ h => .inl h, fun _ h => .inl h⟩
    refine ⟨fun i m Hc => m = ds.length - i ∧ i ≤ ds.length ∧ ∃ G2 ad2 T2 acc, Iv K Z G2 ad2 T2 Hc ∧ Gr G1 ad1 H1 G2 ad2 Hc ∧ Fl K Z G2 ad2 Hc p acc ∧ compL t c e (wipeR ρ vs) (ds.drop i) acc T2 = some (res, T'),
      ⟨ds.length, by simp, Nat.zero_le _, G1, ad1, T1, [], N0.iv, g0, ⟨w0.at_, w0.g, w0.a, w0.h⟩, h2⟩, ?_⟩
    rintro i m Hc ⟨rfl, hi, G2, ad2, T2, acc, I2, g2, f2, h3⟩
    have N2 : En K Z G2 ad2 T2 ρ σ Hc pa := x1.en.carry I2 g2
    by_cases hlt : i < ds.length
    · refine .inr ⟨it.go _ _ _ _ _ _ _ _ i N2 g2.ex g2.pr hlt, fun Hc => i + 1 ≤ ds.length ∧ ∃ G2 ad2 T2 acc, Iv K Z G2 ad2 T2 Hc ∧ Gr G1 ad1 H1 G2 ad2 Hc ∧ Fl K Z G2 ad2 Hc p acc ∧ compL t c e (wipeR ρ vs) (ds.drop (i + 1)) acc T2 = some (res, T'),
        fun H3 hN => ⟨ds.length - (i + 1), by omega, rfl, hN.1, hN.2⟩, fun x H3 hy => ?_⟩
      obtain ⟨G3, d, x3, hd, r3⟩ := it.yld _ _ _ _ _ _ _ _ i x H3 (wf N2) g2.ex g2.pr hlt hy
      rw [List.drop_eq_getElem_cons hlt] at h3
      have hd' : ds[i] = d := by
        rw [List.getElem?_eq_getElem hlt] at hd
        exact Option.some.inj hd
      rw [hd'] at h3
      unfold compL at h3
      split at h3
      · cases h3
      · rename_i ρ3 ht
        have g3 : Gr G1 ad1 H1 G3 ad2 H3 := g2.trans x3.gr I2.ats
        have f3 := f2.step x3.gr
        refine tg_run x3.en r3 ht fun ws N4 => ⟨tgS_wipe hin ws σ, ?_⟩
        obtain ⟨b, T4, h4, h5⟩ := bindF_eq h3
        refine ⟨Z, G3, ad2, T2, ρ3, pa, b, T4, N4, h4, fun G5 ad5 H5 x5 => ?_⟩
        have g5 := g3.trans x5.gr x3.en.iv.ats
        have f5 := f3.step x5.gr
        cases b with
        | false =>
          refine iteF ?_
          exact ⟨by omega, G5, ad5, T4, acc, x5.en.iv, g5, f5, h5⟩
        | true =>
          refine iteT ?_
          rw [if_pos rfl] at h5
          obtain ⟨y, T6, h6, h7⟩ := bindF_eq h5
          refine ⟨Z, G5, ad5, T4, ρ3, pa, y, T6, x5.en, h6, fun u G7 ad7 H7 x7 r7 => ?_⟩
          have g7 := g5.trans x7.gr x5.en.iv.ats
          have f7 := f5.step x7.gr
          split at h7
          · rename_i hz
            obtain ⟨us, q1, q2⟩ := f7.at_
            refine ⟨us, q1, by rw [q2.length]; exact hz, by omega, G7, ad7, T6, acc ++ [y], x7.en.iv.mine f7.g f7.a f7.h _, ⟨g7.ex, g7.pr, fun b o hb hm => ?_, g7.nG, g7.nA⟩, f7.put q1 q2 r7, h7⟩
            rw [upd_ne (ne_of_none hb hp)]
            exact g7.fr b o hb hm
          · cases h7
    · have hi' : ds.length ≤ i := Nat.le_of_not_lt hlt
      rw [List.drop_eq_nil_of_le hi'] at h3
      cases h3
      exact .inl ⟨it.stop _ _ _ _ _ _ _ _ i N2 g2.ex g2.pr hi', k p G2 ad2 Hc ⟨N2, x1.gr.trans g2 x1.en.iv.ats⟩ ⟨f2.g, f2.a, f2.h, own_ne, f2.at_⟩ hp0⟩
  · cases hf
section
variable {X : Cx} {e : Expr} {st : Stmt} {t : Tgt} {fs : FA} {c : FT} {f : FE} {vs : List Nat}
theorem xl_lc (h : PE X e (tLc (tDI X.K fs) (tgT X.K t) (tDT X.K c) (tD X.K f) vs)) : XL X e (compF t fs c f vs) := pe_weak h fun _ _ _ => lc_imp
/-- name = [..] -/
theorem asg_lc {i : Nat} (h : PS X st (tAsg (tLc (tDI X.K fs) (tgT X.K t) (tDT X.K c) (tD X.K f) vs) (gName i))) : PS X st (tAsg (tDL X.K (compF t fs c f vs)) (gName i)) := ps_weak h fun _ _ _ hw => lc_imp hw
/-- over a new list -/
def itN (f : FA) : FA := f
theorem xi_new {tg : Expr} (h : XL X e fs) : XI X tg e fs := pi_weak (pi_list h) fun σ H R h => by
  obtain ⟨Z, G, ad, T, ρ, pa, ds, T', N, hf, k⟩ := h
  refine ⟨Z, G, ad, T, ρ, pa, ds, T', N, hf, fun p G1 ad1 H1 x1 w1 hp => ?_⟩
  obtain ⟨G2, x2, e2, r2⟩ := x1.learn w1 hp
  obtain ⟨a, us, q, hh, hr⟩ := r2.inv_lst
  cases q
  exact ⟨p, rfl, ⟨us, .inl (.inl (x2.en.iv.ex _ _ hh))⟩, k _ G2 ad1 H1 x2 (itOk_lst (.inl (.inl hh)) hr)⟩
end

/-! ### a def -/
def runB (g : FS) (n : Nat) : HF := fun ds T => match g (ds.map Sl.dat ++ List.replicate (n - ds.length) Sl.un) T with
  | some (.rt d, T') => some (d, T')
  | some (.nx _, T') => some (.non, T')
  | _ => none
theorem en_start {K : PySem.W.Frag} {G : Hp} {ad : List Addr} {T : Tm} {H : Hp} {vs : List V} {ds : List D} {N : List Str} (I : Iv K ⟨G, H, ad⟩ G ad T H) (r : RpL K G ad vs ds) :
    En K ⟨G, H, ad⟩ G ad T (ds.map Sl.dat ++ List.replicate (N.length - ds.length) Sl.un) (L2.start N vs) H (fun _ => 0) := by
  have key : ∀ (i : Nat) (s : Sl), (ds.map Sl.dat ++ List.replicate (N.length - ds.length) Sl.un)[i]? = some s → s = .un ∨ ∃ d, ds[i]? = some d ∧ s = .dat d := fun i s h => by
    by_cases hi : i < ds.length
    · rw [List.getElem?_append_left (by rw [List.length_map]; exact hi), List.getElem?_map, List.getElem?_eq_getElem hi] at h
      cases h
      exact .inr ⟨_, List.getElem?_eq_getElem hi, rfl⟩
    · rw [List.getElem?_append_right (by rw [List.length_map]; omega)] at h
      have := List.mem_of_getElem? h
      rw [List.mem_replicate] at this
      exact .inl this.2
  refine ⟨I, ?_, fun i s h => ?_, fun i j es fs h1 h2 _ => ?_⟩
  · unfold L2.start
    rw [List.length_append, List.length_append, List.length_map, List.length_map, List.length_replicate, List.length_replicate, r.length]
  · rcases key i s h with rfl | ⟨d, h1, rfl⟩
    · trivial
    · obtain ⟨v, h2, h3⟩ := r.get h1
      refine ⟨v, ?_, h3⟩
      unfold L2.start
      rw [List.getElem?_append_left (by rw [List.length_map]; exact (List.getElem?_eq_some_iff.mp h2).1), List.getElem?_map, h2]
      rfl
  · rcases key i _ h1 with e | ⟨d, _, e⟩ <;> cases e
theorem fn_ok {P : Program} {w : World} {K : PySem.W.Frag} {mg : Str → Option Value} {base : Heap} {x qual : Str} {st : Stmt} {f : Addr} {fd : FuncData} {N ps : List Str} {k : Nat} {g : FS} (F : Fun K x qual st f fd) (S : FnScope N ps (defScope st))
    (hbody : ∀ (cdv : Value) (A : Around) (outer : List Env) (s : Shared) (H : Hp) (E : XK), Room k (A.deeper (envOfC qual (defScope st) s.heap.objs.size f cdv)) →
      XSs (cxOf CX0 P w K mg base N qual (defScope st) f cdv A outer s H E).nox (defBody st) g) : FnOk P w K mg base CX0 (k + 1) f fd ps (Sf K ps.length (runB g N.length)) := by
  refine F.ok S (fun vs H Q E h => h.1) (fun cdv A outer s H vs Q E hr h => ?_)
  obtain ⟨hn, G, ad, T, ds, d, T', I, r, hf, q⟩ := h
  refine ⟨_, hbody cdv A outer s H E hr, ⟨G, H, ad⟩, G, ad, T, (ds.map Sl.dat ++ List.replicate (N.length - ds.length) Sl.un), fun _ => 0, ?_⟩
  unfold runB at hf
  split at hf
  · rename_i d' T1 e
    cases hf
    exact ⟨.rt d, T', en_start I r, e, fun v G' ad' H' I' _ _ r' => q v G' ad' H' I' r'⟩
  · rename_i ρ' T1 e
    cases hf
    exact ⟨.nx ρ', T', en_start I r, e, fun σ' G' ad' H' pa' N' _ _ => q .non G' ad' H' N'.iv .non⟩
  · cases hf
end Fx
set_option maxHeartbeats 4000000
namespace Fx
open PySem PySem.Spec PyProof.Rows L2
open Evl (Ex)
/-! ### a tuple once -/
theorem mul_once (l : Addr) (xs : Array Value) (m : Nat) (dd : Option Addr) (sl : Array (Option Value)) (u : Tok) (hne : xs.isEmpty = false) :
    Meets (Builtin.«tuple.__mul__» ⟨[.ref l, .int 1 u], []⟩) (fun _ R s =>
      s.heap.get? l = some { cls := .type "tuple", dict := dd, data := .seq xs m, slots := sl } ∧ R (.ok (.ret (.ref l))) s) :=
  .of_wp fun prog w A R s h => by
    obtain ⟨hp, g, d, tk, os⟩ := s
    obtain ⟨hl, h⟩ := h
    have f1 := AutoSeq1.idx_int
    wp_walk using wpAny_loadPart' hl
    exact ⟨_, rfl, h⟩
def rOnce (K : PySem.W.Frag) : R2 := fun x y H Q => ∃ l xs, x = .ref l ∧ y = .int 1 ∧ SqT K H l xs ∧ xs ≠ [] ∧ Q (.ref l) H
section
variable {X : Cx}
theorem op_once : OpR X (binaryOp .Mult) (rOnce X.K) := by
  intro pins s σ H x y v u Q I rx ry h
  obtain ⟨l, xs, rfl, rfl, ht, hne, q⟩ := h
  cases rx
  obtain ⟨t, rfl⟩ := ry
  obtain ⟨its, r, hx, _⟩ := I.tuple ht
  obtain ⟨⟨cl, dd, da, sl⟩, ho, hc, m, hd⟩ := hx
  simp only at hc hd
  subst hc hd
  have he : its.toArray.isEmpty = false := by
    cases its with
    | nil =>
      cases r
      exact absurd rfl hne
    | cons a b => rfl
  refine wpAny_binaryOp_repeat_ref (T := "tuple") (U := "int") (by decide)
    ⟨_, ho, rfl⟩ (fun s' => typeIs_int s' 1 t) noFill_tuple_mul F.fills_int_mul
    F.slot_int_rmul repeat_tuple F.slot_int_index.lookup ?_
  refine call_meets F.slot_int_rmul (typeIs_int s 1 t) F.entry_int_rmul
    (F.args_int_rmul_2 _ _) (int_rmul_tuple 1 t l its.toArray m dd sl) ⟨ho, rfl, ⟨_, ho, rfl⟩, ?_⟩
  refine call_meets F.slot_tuple_mul ⟨_, ho, rfl⟩ F.entry_tuple_mul
    (F.args_tuple_mul_2 _ _) (mul_once l its.toArray m dd sl t he) ⟨ho, ?_⟩
  exact ⟨.ref l, H, I, rfl, q⟩
end
end Fx
set_option maxHeartbeats 4000000
namespace Fx
open PySem PySem.Spec PyProof.Rows L2
open Evl (Ex)
/-! ### t[::-1] -/
section
variable {prog : Program} {w : World} {A : Around} {E : Value → Shared → Prop} {s : Shared}
theorem back_places (n : Nat) : Builtin.Slice.slicePlaces ((n : Int) - 1) (-1) (-1) = n := by
  unfold Builtin.Slice.slicePlaces
  rw [if_neg (by decide)]
  by_cases h : (n : Int) - 1 > -1
  · rw [if_pos h]
    have : ((n : Int) - 1 - -1 - 1) / (- -1) + 1 = (n : Int) := by
      rw [show (- -1 : Int) = 1 from rfl, Int.ediv_one]
      omega
    rw [this]
    rfl
  · rw [if_neg h]
    have : n = 0 := by omega
    rw [this]
    rfl
theorem back_applied {sl : Addr} {vl vu vs : Value} {n : Nat} {Q : Int × Int × Nat → Shared → Prop} (hs : s.heap.IsSliceOf sl vl vu vs)
    (pl : IsPart vl none) (pu : IsPart vu none) (ps : IsPart vs (some (-1))) (h : Q ((n : Int) - 1, -1, n) s) :
    wpAny (model prog w) A (Builtin.Slice.sliceApplied (.ref sl) (pure (n : Int))) Q E s := by
  obtain ⟨ob, hob, _, hd⟩ := id hs
  unfold Builtin.Slice.sliceApplied
  unfold Builtin.Slice.sliceFields
  refine wpAny_bind (wpAny_bind (wpAny_field hob hd (x := vl) rfl (wpAny_bind
    (wpAny_field hob hd (x := vu) rfl (wpAny_bind (wpAny_field hob hd (x := vs) rfl (wpAny_pure ?_)))))))
  refine wpAny_bind (HT.slicePart_ ps ?_)
  show wpAny _ _ (if ((-1 : Int) == 0) = true then _ else _) _ _ s
  rw [if_neg (by decide : ¬ ((-1 : Int) == 0) = true)]
  refine wpAny_bind (HT.slicePart_ pl (wpAny_bind (HT.slicePart_ pu ?_)))
  refine wpAny_bind (wpAny_pure ?_)
  show wpAny _ _ (pure ((n : Int) - 1, (-1 : Int), Builtin.Slice.slicePlaces ((n : Int) - 1) (-1) (-1))) _ _ s
  rw [back_places]
  exact wpAny_pure h
theorem back_pick (xs : Array Value) : (List.range xs.size).filterMap (fun (k : Nat) => xs[((xs.size : Int) - 1 + (k : Int) * -1).toNat]?) = xs.toList.reverse := by
  have e : (List.range xs.size).filterMap (fun (k : Nat) => xs[((xs.size : Int) - 1 + (k : Int) * -1).toNat]?) = ((List.range xs.size).map fun k => xs.size - 1 - k).filterMap (xs[·]?) := by
    rw [List.filterMap_map]
    have key : ∀ (l : List Nat), (∀ k ∈ l, k < xs.size) → l.filterMap (fun (k : Nat) => xs[((xs.size : Int) - 1 + (k : Int) * -1).toNat]?) = l.filterMap ((fun x => xs[x]?) ∘ fun k => xs.size - 1 - k) := by
      intro l
      induction l with
      | nil => intro _; rfl
      | cons k l ih =>
        intro h
        have hk := h k List.mem_cons_self
        have e1 : ((xs.size : Int) - 1 + (k : Int) * -1).toNat = xs.size - 1 - k := by omega
        rw [List.filterMap_cons, List.filterMap_cons, ih fun j hj => h j (List.mem_cons_of_mem _ hj), e1]
        rfl
    exact key _ fun k hk => List.mem_range.mp hk
  rw [e, PySem.W.krv_range, List.filterMap_reverse, PySem.W.krv_all]
theorem back_tuple {t sl : Addr} {xs : Array Value} {vl vu vs : Value} {Q : Value → Shared → Prop} (ht : IsTup s.heap t xs) (hs : s.heap.IsSliceOf sl vl vu vs)
    (pl : IsPart vl none) (pu : IsPart vu none) (ps : IsPart vs (some (-1))) (hz : xs.size ≤ sizeLine)
    (h : Q (.ref s.heap.objs.size) { s with heap := s.heap.push { cls := .type "tuple", data := .seq xs.toList.reverse.toArray } }) :
    wpAny (model prog w) A (getItem (.ref t) (.ref sl)) Q E s := by
  have fits : sizeOk (.seq xs.toList.reverse.toArray) := by
    show xs.toList.reverse.toArray.size ≤ sizeLine
    rw [List.size_toArray, List.length_reverse, Array.length_toList]
    exact hz
  obtain ⟨ob, hob, hcb, _⟩ := id hs
  have hty : s.TypeIs (.ref sl) "slice" := ⟨ob, hob, hcb⟩
  unfold getItem
  try with_reducible refine wpAny_holding ?_
  first | refine wpAny_bind (wpAny_pure ?_) | skip
  refine wpAny_bind (wpAny_sequenceKey ht.typeIs (by decide) ?_)
  refine wpAny_bind (wpAny_callSpecial?_slot (name := Str.ofString "__getitem__") ht.typeIs
    PyProof.Rows.slot_tuple_getitem (wpAny_call_entry PyProof.Rows.slot_tuple_getitem ht.typeIs PyProof.Rows.entry_tuple_getitem ?_ (PyProof.Rows.args_tuple_getitem _ _)))
  show wpAny _ _ (Builtin.Tuple.tupleItemsOf (.ref t) >>= _) _ _ s
  refine wpAny_bind (PyProof.Rows.tupleItemsOf_ ht ?_)
  refine wpAny_bind (wpAny_typeOf hty ?_)
  rw [if_pos (by decide)]
  refine wpAny_bind (back_applied (n := xs.size) hs pl pu ps ?_)
  have no : ¬ (((xs.size : Int) - 1 == 0 && (-1 : Int) == 1 && xs.size == xs.size) = true) := by
    intro q
    rw [Bool.and_eq_true, Bool.and_eq_true] at q
    exact absurd q.1.2 (by decide)
  show wpAny _ _ (if (((xs.size : Int) - 1 == 0 && (-1 : Int) == 1 && xs.size == xs.size) = true) then _ else _) _ _ s
  rw [if_neg no, back_pick]
  first
    | exact wpAny_bind (m := Builtin.Tuple.tupleExact _) (wpAny_newObj_type (wpAny_pure ⟨_, rfl, wpAny_pure h⟩) fits)
    | exact wpAny_bind (m := Builtin.Tuple.tupleExact _) (wpAny_newObj_type (wpAny_bind (wpAny_pure (wpAny_pure ⟨_, rfl, wpAny_pure h⟩))) fits)
    | exact wpAny_bind (wpAny_bind (m := Builtin.Tuple.tupleExact _) (wpAny_newObj_type (wpAny_pure (wpAny_pure ⟨_, rfl, wpAny_pure h⟩)) fits))
    | exact wpAny_bind (wpAny_bind (m := Builtin.Tuple.tupleExact _) (wpAny_newObj_type (wpAny_pure ⟨_, rfl, wpAny_pure h⟩) fits))
end
section
variable {X : Cx}
def tBackT (K : PySem.W.Frag) (te : TE) : TE := fun σ H Q => te σ H fun x H1 => ∃ a xs, x = .ref a ∧ SqT K H1 a xs ∧ Tn H1 Q xs.reverse
theorem pe_backT {e : Expr} {te : TE} {k : Nat} {p1 p2 p3 pos : Pos} (he : PE X e te) : PE X (.Subscript e (.Slice none none (some (.UnaryOp .USub (.Constant (.int 1) k p1) p2)) p3) pos) (tBackT X.K te) := by
  refine ⟨fun pins s σ H Q I h => ?_⟩
  refine Subscript_ (thn (he.run pins s σ H _ I h) fun v s1 hv => ?_)
  obtain ⟨x, H1, I1, r1, a, xs, ex, hx, q⟩ := hv
  subst ex
  cases r1
  have hst : PO X (some (.UnaryOp .USub (.Constant (.int 1) k p1) p2)) (tPart (tUn (rU fun i => .int (-i)) (tC (.int 1)))) := po_some (pe_un un_neg pe_int)
  refine wpAny_Slice (thn (po_none.run pins s1 σ H1 (fun o H2 => o = none ∧ H2 = H1) I1 ⟨rfl, rfl⟩) fun vl s2 h2 => ?_)
  obtain ⟨l, H2, I2, pl, el, e2⟩ := h2
  subst el e2
  refine thn (po_none.run pins s2 σ H2 (fun o H3 => o = none ∧ H3 = H2) I2 ⟨rfl, rfl⟩) fun vu s3 h3 => ?_
  obtain ⟨u, H3, I3, pu, eu, e3⟩ := h3
  subst eu e3
  refine thn (hst.run pins s3 σ H3 (fun o H4 => o = some (-1) ∧ H4 = H3) I3 ⟨1, rfl, -1, rfl, rfl, rfl⟩) fun vs s4 h4 => ?_
  obtain ⟨o, H4, I4, ps, eo, e4⟩ := h4
  subst eo e4
  have I5 := I4.kept (h' := s4.heap.push { cls := .type "slice", data := .fields #[vl, vu, vs] }) (t' := s4.toks) fun b ob q => Heap.get?_push_of_some _ q
  obtain ⟨its, r, ht, hz⟩ := I5.tuple hx
  have hlen := r.length
  refine tail_any (ops := [.ref a, .ref s4.heap.objs.size]) ht.typeIs (PyProof.Rows.slot_tuple_getitem.lookup) ?_ (by with_unfolding_all rfl)
  refine back_tuple ht (Heap.IsSliceOf.new _ vl vu vs) pl pu ps (by rw [List.size_toArray]; omega) ?_
  exact lay_tup I5 r.reverse (by rw [List.length_reverse]; exact hz) q s4.toks
end
end Fx
set_option maxHeartbeats 4000000
namespace Fx
open PySem PySem.Spec PyProof.Rows L2
open Evl (Ex)
section
variable {X : Cx} {a b c : Expr} {es : List Expr} {st : Stmt} {sts : List Stmt} {pos : Pos} {f1 f2 f3 : FE} {o1 : FO} {fs : FA} {t1 : FT} {g1 g2 : FS}
/-! ### * -/
noncomputable def cRep (n : Nat) (k : Int) : Bool := dc (-9223372036854775808 ≤ k ∧ k < 9223372036854775808 ∧ n * k.toNat ≤ sizeLine)
noncomputable def cRepT (xs : List D) (k : Int) : Bool := dc (xs ≠ [] ∧ 1 ≤ k ∧ (k = 1 ∨ (k ≤ 1000 ∧ xs.length ≤ 1000)))
noncomputable def mulD : D → D → Option D
  | .int i, .int j => if cMul i j then some (.int (i * j)) else none
  | .lst xs, .int k => if cRep xs.length k then some (.lst (List.replicate k.toNat xs).flatten) else none
  | .tup xs, .int k => if cRepT xs k then some (.tup (List.replicate k.toNat xs).flatten) else none
  | _, _ => none
def rMulU (K : PySem.W.Frag) : R2 := fun x y H Q => (rI CMul fun i j => .int (i * j)) x y H Q ∨ rRep x y H Q ∨ rRepP K x y H Q ∨ rOnce K x y H Q
theorem op_mulU : OpR X (binaryOp .Mult) (rMulU X.K) := op_mul.or (op_rep.or (op_repP.or op_once))
theorem ok_mul {K : PySem.W.Frag} : OkR K (rMulU K) mulD := fun Z G ad T ρ σ H pa v w x y z Q N rx ry hg k => by
  unfold mulD at hg
  split at hg
  · split at hg
    · rename_i hc
      cases hg
      exact .inl ⟨_, _, rx.inv_int, ry.inv_int, cMul_ok _ _ hc, k _ G ad H N.nx (.int _)⟩
    · cases hg
  · split at hg
    · rename_i xs kk hc
      cases hg
      replace hc := of_dc hc
      obtain ⟨p, vs, rfl, h1, r1⟩ := rx.inv_lst
      refine .inr (.inl ⟨p, _, vs, rfl, ry.inv_int, N.iv.ex _ _ h1, by omega, by omega, by rw [r1.length]; exact hc.2.2, fun q hq => ?_⟩)
      have x := N.knowN hq (.lst (List.replicate kk.toNat vs).flatten)
      exact k _ _ _ _ x (.lst upd_same (x.rpl (r1.rep _)))
    · cases hg
  · split at hg
    · rename_i xs kk hc
      cases hg
      replace hc := of_dc hc
      obtain ⟨p, vs, rfl, h1, r1⟩ := rx.inv_tup
      have hv : vs ≠ [] := fun e => by
        subst e
        cases r1
        exact hc.1 rfl
      by_cases h2 : 2 ≤ kk
      · refine .inr (.inr (.inl ⟨p, _, vs, rfl, ry.inv_int, N.iv.tup h1, hv, h2, by rcases hc.2.2 with h | h <;> omega, by rw [r1.length]; rcases hc.2.2 with h | h; omega; exact h.2, fun q o hq hd => ?_⟩))
        have x := N.knowN hq (.frz o (.tup (List.replicate kk.toNat vs).flatten))
        exact k _ _ _ _ x (.tup (TupK.new hd) (x.rpl (r1.rep _)))
      · have e1 : kk = 1 := by have := hc.2.1; omega
        subst e1
        refine .inr (.inr (.inr ⟨p, vs, rfl, ry.inv_int, N.iv.tup h1, hv, k _ G ad H N.nx (.tup h1 ?_)⟩))
        have r2 := r1.rep 1
        have e2 : (List.replicate 1 vs).flatten = vs := by simp [List.replicate]
        rw [e2] at r2
        exact r2
    · cases hg
  · cases hg
theorem xe_mul (h1 : XE X a f1) (h2 : XE X b f2) : XE X (.BinOp a .Mult b pos) (binF mulD f1 f2) := xe_op op_mulU ok_mul h1 h2
/-- a new list, [x] * n, of one's own -/
noncomputable def repF (f : FA) (g : FE) : FA := fun ρ T => bindF (f ρ T) fun xs T1 => bindF (g ρ T1) fun y T2 => match y with
  | .int k => if cRep xs.length k then some ((List.replicate k.toNat xs).flatten, T2) else none
  | _ => none
theorem xl_rep (h1 : XL X a fs) (h2 : XE X b f2) : XL X (.BinOp a .Mult b pos) (repF fs f2) := pe_weak (pe_op op_rep (xe_frz h1) h2) fun σ H Q h => by
  obtain ⟨Z, G, ad, T, ρ, pa, d, T', N, hf, k⟩ := h
  obtain ⟨xs, T1, e1, e2⟩ := bindF_eq hf
  obtain ⟨y, T2, e3, e4⟩ := bindF_eq e2
  refine ⟨Z, G, ad, T, ρ, pa, .lst xs, T1, N, by unfold frzF; rw [e1]; rfl, fun v G1 ad1 H1 x1 r1 => ⟨Z, G1, ad1, T1, ρ, pa, y, T2, x1.en, e3, fun w G2 ad2 H2 x2 r2 => ?_⟩⟩
  split at e4
  · split at e4
    · rename_i hc
      cases e4
      replace hc := of_dc hc
      obtain ⟨p, vs, rfl, h1, q1⟩ := (x2.rp r1).inv_lst
      refine ⟨p, _, vs, rfl, r2.inv_int, x2.en.iv.ex _ _ h1, by omega, by omega, by rw [q1.length]; exact hc.2.2, fun q hq => ?_⟩
      have x3 := x1.trans x2
      obtain ⟨N2, w2⟩ := x3.en.laid hq (q1.rep _)
      refine k q G2 ad2 _ ⟨N2, x3.gr.ex, x3.gr.pr, fun b o hb hm => ?_, x3.gr.nG, x3.gr.nA⟩ w2 (x3.gr.back x3.en.iv.ats hq)
      have q' := x3.gr.fr b o hb hm
      rw [upd_ne (ne_of_none q' hq)]
      exact q'
    · cases e4
  · cases e4

/-! ### slices of whatever comes -/
def rSlU (K : PySem.W.Frag) : V → Option Int → Option Int → Hp → VK → Prop := fun x lo hi H Q => rSlP K x lo hi H Q ∨ rSlL K x lo hi H Q ∨ rSlS x lo hi H Q
theorem sl_U : L2.SlR X (rSlU X.K) := sl_tupP.or (sl_list.or sl_str)
def slD (T : Tm) (o : Op) (lo hi : Option Int) : Option D := match seqD T o with
  | some (true, ds) => some (.tup (cutD ds lo hi))
  | some (false, ds) => some (.lst (cutD ds lo hi))
  | none => match o with
    | .val (.str s) => if s.length ≤ sizeLine then some (.str (cutS s lo hi)) else none
    | _ => none
def slF (fo : FO) (l u : FB) : FE := fun ρ T => bindF (fo ρ T) fun o T1 => bindF (l ρ T1) fun lo T2 => bindF (u ρ T2) fun hi T3 => (slD T3 o lo hi).map fun d => (d, T3)
variable {l u : FB} {lo hi : Option Expr} {p2 : Pos}
theorem xe_sl (ho : XO X a o1) (hl : XB X lo l) (hu : XB X hi u) : XE X (.Subscript a (.Slice lo hi none p2) pos) (slF o1 l u) := pe_weak (pe_slice sl_U ho hl hu) fun σ H Q h => by
  obtain ⟨Z, G, ad, T, ρ, pa, d, T', N, hf, k⟩ := h
  obtain ⟨o, T1, h1, h2⟩ := bindF_eq hf
  obtain ⟨i, T2, h3, h4⟩ := bindF_eq h2
  obtain ⟨j, T3, h5, h6⟩ := bindF_eq h4
  obtain ⟨z, h7, h8⟩ := Option.map_eq_some_iff.mp h6
  cases h8
  refine ⟨Z, G, ad, T, ρ, pa, o, T1, N, h1, fun v G1 ad1 H1 x1 r1 => ⟨Z, G1, ad1, T1, ρ, pa, i, T2, x1.en, h3, fun G2 ad2 H2 x2 => ⟨Z, G2, ad2, T2, ρ, pa, j, _, x2.en, h5, fun G3 ad3 H3 x3 => ?_⟩⟩⟩
  have x := (x1.trans x2).trans x3
  have r3 := (r1.mono x2).mono x3
  unfold slD at h7
  split at h7
  · rename_i ds hs'
    cases h7
    obtain rfl := seqD_tup hs'
    obtain ⟨p, vs, rfl, hG, hr⟩ := Rp.inv_tup r3
    refine .inl ⟨p, vs, rfl, x.en.iv.tup hG, fun hw => ?_, fun _ q o hq hd => ?_⟩
    · have e : cutV vs i j = vs := by
        unfold cutV
        rw [hw.1, hw.2, List.drop_zero, Nat.sub_zero, List.take_length]
      have r4 := cut_rel hr i j
      rw [e] at r4
      exact k _ G3 ad3 H3 x (.tup hG r4)
    · have x4 := x.en.knowN hq (.frz o (.tup (cutV vs i j)))
      exact k _ _ _ _ (x.trans x4) (.tup (TupK.new hd) (x4.rpl (cut_rel hr i j)))
  · rename_i ds hs'
    cases h7
    obtain ⟨p, vs, rfl, hr, hl, ht⟩ := seq_rel x.en r3 hs'
    refine .inr (.inl ⟨p, vs, rfl, hl rfl, fun q hq => ?_⟩)
    have x4 := x.en.knowN hq (.lst (cutV vs i j))
    exact k _ _ _ _ (x.trans x4) (.lst upd_same (x4.rpl (cut_rel hr i j)))
  · split at h7
    · split at h7
      · rename_i hz
        cases h7
        have := Rp.inv_str r3
        subst this
        exact .inr (.inr ⟨_, rfl, hz, k _ G3 ad3 H3 x (.str _)⟩)
      · cases h7
    · cases h7
/-- t[::-1] -/
def bkF (f : FE) : FE := fun ρ T => bindF (f ρ T) fun d T' => match d with
  | .tup ds => some (.tup ds.reverse, T')
  | _ => none
theorem xe_bk {e : Expr} (h : PE X e (tBackT X.K (tD X.K f1))) : XE X e (bkF f1) := pe_weak h fun σ H Q h => by
  obtain ⟨Z, G, ad, T, ρ, pa, d, T', N, hf, k⟩ := h
  obtain ⟨x, T1, h1, h2⟩ := bindF_eq hf
  refine ⟨Z, G, ad, T, ρ, pa, x, T1, N, h1, fun v G1 ad1 H1 x1 r1 => ?_⟩
  split at h2
  · cases h2
    obtain ⟨p, vs, rfl, hG, hr⟩ := r1.inv_tup
    refine ⟨p, vs, rfl, x1.en.iv.tup hG, fun q o hq hd => ?_⟩
    have x4 := x1.en.knowN hq (.frz o (.tup vs.reverse))
    exact k _ _ _ _ (x1.trans x4) (.tup (TupK.new hd) (x4.rpl hr.reverse))
  · cases h2

/-! ### in -/
def flD : D → Bool
  | .non => true
  | .bl _ => true
  | .int _ => true
  | .str _ => true
  | _ => false
def eq1 : D → D → Bool
  | .non, .non => true
  | .bl a, .bl b => a == b
  | .bl a, .int b => (if a then 1 else 0) == b
  | .int a, .bl b => a == (if b then 1 else 0)
  | .int a, .int b => a == b
  | .str a, .str b => a == b
  | _, _ => false
theorem fl_rel {K : PySem.W.Frag} {G : Hp} {ad : List Addr} {v : V} {d : D} (r : Rp K G ad v d) (h : flD d = true) : flatV v = true := by
  cases r <;> first | rfl | cases h
theorem fls_rel {K : PySem.W.Frag} {G : Hp} {ad : List Addr} : ∀ {vs : List V} {ds : List D}, RpL K G ad vs ds → ds.all flD = true → vs.all flatV = true
  | _, _, .nil, _ => rfl
  | _, _, .cons h t, e => by
    rw [List.all_cons, Bool.and_eq_true] at e
    rw [List.all_cons, fl_rel h e.1, fls_rel t e.2]
    rfl
theorem eq1_rel {K : PySem.W.Frag} {G : Hp} {ad : List Addr} {v w : V} {d e : D} (r : Rp K G ad v d) (q : Rp K G ad w e) : eqV v w = eq1 d e := by
  cases r <;> cases q <;> rfl
theorem in_rel {K : PySem.W.Frag} {G : Hp} {ad : List Addr} {w : V} {e : D} (q : Rp K G ad w e) : ∀ {vs : List V} {ds : List D}, RpL K G ad vs ds → inV w vs = ds.any fun d => eq1 d e
  | _, _, .nil => rfl
  | _, _, .cons h t => by
    have := in_rel q t
    unfold inV at this ⊢
    rw [List.any_cons, List.any_cons, eq1_rel h q, this]
def inB (x y : D) : Option Bool := match y with
  | .tup ds => if flD x && ds.all flD then some (ds.any fun d => eq1 d x) else none
  | .lst ds => if flD x && ds.all flD then some (ds.any fun d => eq1 d x) else none
  | _ => none
/-- over data of any depth, a list -/
def inBD (x y : D) : Option Bool := match y with
  | .lst ds => match toPy x, toPyL ds with
    | some p, some ps => if SeqAt.shaped p && SeqAt.shaped (.list ps) then some (ps.any fun z => PyData.eqv z p) else none
    | _, _ => none
  | _ => none
def inB' (x y : D) : Option Bool := match inB x y with
  | some b => some b
  | none => inBD x y
def inD : D → D → Option D := fun x y => (inB' x y).map .bl
def ninD : D → D → Option D := fun x y => (inB' x y).map fun b => .bl (!b)
theorem inB_rel {K : PySem.W.Frag} {Z : Zc} {G : Hp} {ad : List Addr} {T : Tm} {ρ : Rho} {σ : L2.St} {H : Hp} {pa : Nat → Addr} {v w : V} {x y : D} {b : Bool} (N : En K Z G ad T ρ σ H pa) (rx : Rp K G ad v x) (ry : Rp K G ad w y) (h : inB x y = some b) :
    ∃ p xs, w = .ref p ∧ (SqL K H p xs ∨ SqT K H p xs) ∧ flatV v = true ∧ xs.all flatV = true ∧ inV v xs = b := by
  unfold inB at h
  split at h
  · split at h
    · rename_i hc
      cases h
      rw [Bool.and_eq_true] at hc
      obtain ⟨p, vs, rfl, hG, hr⟩ := ry.inv_tup
      exact ⟨p, vs, rfl, .inr (N.iv.tup hG), fl_rel rx hc.1, fls_rel hr hc.2, in_rel rx hr⟩
    · cases h
  · split at h
    · rename_i hc
      cases h
      rw [Bool.and_eq_true] at hc
      obtain ⟨p, vs, rfl, hG, hr⟩ := ry.inv_lst
      exact ⟨p, vs, rfl, .inl (.inl (.inl (N.iv.ex _ _ hG))), fl_rel rx hc.1, fls_rel hr hc.2, in_rel rx hr⟩
    · cases h
  · cases h
theorem inBD_rel {K : PySem.W.Frag} {Z : Zc} {G : Hp} {ad : List Addr} {T : Tm} {ρ : Rho} {σ : L2.St} {H : Hp} {pa : Nat → Addr} {v w : V} {x y : D} {b : Bool} (N : En K Z G ad T ρ σ H pa) (rx : Rp K G ad v x) (ry : Rp K G ad w y) (h : inBD x y = some b) :
    ∃ d ds, Dp K H v d ∧ Dp K H w (.list ds) ∧ SeqAt.shaped d = true ∧ SeqAt.shaped (.list ds) = true ∧ b = ds.any fun z => PyData.eqv z d := by
  unfold inBD at h
  split at h
  · rename_i es
    split at h
    · rename_i p ps h1 h2
      split at h
      · rename_i hc
        cases h
        rw [Bool.and_eq_true] at hc
        exact ⟨p, ps, rx.dp N.iv.ex h1, ry.dp N.iv.ex (by rw [toPy, h2]; rfl), hc.1, hc.2, rfl⟩
      · cases h
    · cases h
  · cases h
def rInU (K : PySem.W.Frag) : R2 := fun x y H Q => rIn K false x y H Q ∨ rInD K x y H Q
def rNinU (K : PySem.W.Frag) : R2 := fun x y H Q => rIn K true x y H Q ∨ rNotInD K x y H Q
theorem ok_in {K : PySem.W.Frag} : OkR K (rInU K) inD := fun Z G ad T ρ σ H pa v w x y z Q N rx ry hg k => by
  obtain ⟨b, hb, rfl⟩ := Option.map_eq_some_iff.mp hg
  unfold inB' at hb
  split at hb
  · rename_i b' hb'
    cases hb
    obtain ⟨p, xs, rfl, h1, h2, h3, rfl⟩ := inB_rel N rx ry hb'
    exact .inl ⟨p, xs, rfl, h1, h2, h3, k _ G ad H N.nx (.bl _)⟩
  · obtain ⟨d, ds, h1, h2, h3, h4, rfl⟩ := inBD_rel N rx ry hb
    exact .inr ⟨d, ds, h1, h2, h3, h4, k _ G ad H N.nx (.bl _)⟩
theorem ok_nin {K : PySem.W.Frag} : OkR K (rNinU K) ninD := fun Z G ad T ρ σ H pa v w x y z Q N rx ry hg k => by
  obtain ⟨b, hb, rfl⟩ := Option.map_eq_some_iff.mp hg
  unfold inB' at hb
  split at hb
  · rename_i b' hb'
    cases hb
    obtain ⟨p, xs, rfl, h1, h2, h3, rfl⟩ := inB_rel N rx ry hb'
    exact .inl ⟨p, xs, rfl, h1, h2, h3, k _ G ad H N.nx (.bl _)⟩
  · obtain ⟨d, ds, h1, h2, h3, h4, rfl⟩ := inBD_rel N rx ry hb
    exact .inr ⟨d, ds, h1, h2, h3, h4, k _ G ad H N.nx (.bl _)⟩
theorem op_inU {k : Nat} (hr : Room k X.A) : OpR X (compareOp .In) (rInU X.K) := op_in_seq.or (op_inD (by have := hr.un; omega))
theorem op_ninU {k : Nat} (hr : Room k X.A) : OpR X (compareOp .NotIn) (rNinU X.K) := op_notIn_seq.or (op_notInD (by have := hr.un; omega))
theorem xe_in {k : Nat} (hr : Room k X.A) (h1 : XE X a f1) (h2 : XE X b f2) (hm : behindInMarks .In b = false := by rfl) : XE X (.Compare a [.In] [b] pos) (binF inD f1 f2) := xe_cmp (op_inU hr) ok_in h1 h2 hm
theorem xe_nin {k : Nat} (hr : Room k X.A) (h1 : XE X a f1) (h2 : XE X b f2) (hm : behindInMarks .NotIn b = false := by rfl) : XE X (.Compare a [.NotIn] [b] pos) (binF ninD f1 f2) := xe_cmp (op_ninU hr) ok_nin h1 h2 hm
theorem xt_in {k : Nat} (hr : Room k X.A) (h1 : XE X a f1) (h2 : XE X b f2) (hm : behindInMarks .In b = false := by rfl) : XT X (.Compare a [.In] [b] pos) (testF (binF inD f1 f2)) := xt_cmp (op_inU hr) ok_in h1 h2 hm
theorem xt_nin {k : Nat} (hr : Room k X.A) (h1 : XE X a f1) (h2 : XE X b f2) (hm : behindInMarks .NotIn b = false := by rfl) : XT X (.Compare a [.NotIn] [b] pos) (testF (binF ninD f1 f2)) := xt_cmp (op_ninU hr) ok_nin h1 h2 hm

/-! ### a < b < c -/
def chF (g h : D → D → Option D) (f1 f2 f3 : FE) : FE := fun ρ T => bindF (f1 ρ T) fun x T1 => bindF (f2 ρ T1) fun y T2 => match g x y with
  | some (.bl true) => bindF (f3 ρ T2) fun z T3 => match h y z with
    | some r => some (r, T3)
    | none => none
  | some (.bl false) => some (.bl false, T2)
  | _ => none
def NoAl (K : PySem.W.Frag) (r : R2) (g : D → D → Option D) : Prop := ∀ (Z : Zc) (G : Hp) (ad : List Addr) (T : Tm) (ρ : Rho) (σ : L2.St) (H : Hp) (pa : Nat → Addr) (v w : V) (x y z : D) (Q : VK),
  En K Z G ad T ρ σ H pa → Rp K G ad v x → Rp K G ad w y → g x y = some z → (∀ u, Rp K G ad u z → Q u H) → r v w H Q
theorem na_ii0 {K : PySem.W.Frag} {C : Int → Int → Bool} {gV : Int → Int → V} {f : Int → Int → D} (hf : ∀ i j G ad, Rp K G ad (gV i j) (f i j)) : NoAl K (rI0 gV) (iiF C f) :=
  fun Z G ad T ρ σ H pa v w x y z Q N rx ry hg k => by
    obtain ⟨i, j, rfl, rfl, h, rfl⟩ := iiF_eq hg
    exact ⟨i, j, rx.inv_int, ry.inv_int, k _ (hf i j G ad)⟩
theorem ch_run {r r' : R2} {g h : D → D → Option D} {σ : L2.St} {H : Hp} {Q : VK} (hr : NoAl X.K r g) (hr' : OkR X.K r' h) (hw : tD X.K (chF g h f1 f2 f3) σ H Q) : tChain r r' (tD X.K f1) (tD X.K f2) (tD X.K f3) σ H Q := by
  obtain ⟨Z, G, ad, T, ρ, pa, d, T', N, hf, k⟩ := hw
  obtain ⟨x, T1, e1, e2⟩ := bindF_eq hf
  obtain ⟨y, T2, e3, e4⟩ := bindF_eq e2
  refine ⟨Z, G, ad, T, ρ, pa, x, T1, N, e1, fun v G1 ad1 H1 x1 r1 => ⟨Z, G1, ad1, T1, ρ, pa, y, T2, x1.en, e3, fun w G2 ad2 H2 x2 r2 => ?_⟩⟩
  split at e4
  · rename_i hg
    obtain ⟨z, T3, e5, e6⟩ := bindF_eq e4
    refine hr Z G2 ad2 T2 ρ σ H2 pa v w x y _ _ x2.en (x2.rp r1) r2 hg fun u ru => ⟨true, ru.inv_bl, iteT ?_⟩
    refine ⟨Z, G2, ad2, T2, ρ, pa, z, T3, x2.en, e5, fun w' G3 ad3 H3 x3 r3 => ?_⟩
    split at e6
    · rename_i zz hh
      cases e6
      exact hr' Z G3 ad3 _ ρ σ H3 pa w w' y z _ Q x3.en (x3.rp r2) r3 hh fun u G4 ad4 H4 x4 r4 => k u G4 ad4 H4 (((x1.trans x2).trans x3).trans x4) r4
    · cases e6
  · rename_i hg
    cases e4
    exact hr Z G2 ad2 _ ρ σ H2 pa v w x y _ _ x2.en (x2.rp r1) r2 hg fun u ru => ⟨false, ru.inv_bl, iteF (k _ G2 ad2 H2 (x1.trans x2) (.bl _))⟩
  · cases e4
theorem xe_ch {e : Expr} {r r' : R2} {g h : D → D → Option D} (hr : NoAl X.K r g) (hr' : OkR X.K r' h) (hp : PE X e (tChain r r' (tD X.K f1) (tD X.K f2) (tD X.K f3))) : XE X e (chF g h f1 f2 f3) := pe_weak hp fun _ _ _ => ch_run hr hr'
theorem xt_ch {e : Expr} {r r' : R2} {g h : D → D → Option D} (hr : NoAl X.K r g) (hr' : OkR X.K r' h) (hp : PT X e (tTest (tChain r r' (tD X.K f1) (tD X.K f2) (tD X.K f3)))) : XT X e (testF (chF g h f1 f2 f3)) := pt_weak hp fun _ _ _ hw => by
  have q := test_run hw
  exact ch_run hr hr' q

/-! ### a = b = e; a, b = e, f; try without a raise -/
def asg2F (i j : Nat) (f : FE) : FS := fun ρ T => bindF (f ρ T) fun d T' => some (.nx ((ρ.set i (.dat d)).set j (.dat d)), T')
theorem xs_asg2 {i j : Nat} (h : PS X st (tAsg2 (tD X.K f1) (gName i) (gName j))) : XS X st (asg2F i j f1) := ps_weak h fun D σ H h => by
  obtain ⟨Z, G, ad, T, ρ, pa, r, T', N, hf, k⟩ := h
  obtain ⟨d, T1, h1, h2⟩ := bindF_eq hf
  cases h2
  exact ⟨Z, G, ad, T, ρ, pa, d, _, N, h1, fun v G1 ad1 H1 x1 r1 => k _ G1 ad1 H1 pa ((x1.en.setD i r1).setD j r1) x1.gr.ex x1.gr.pr⟩
def parF (i j : Nat) (fs : FA) : FS := fun ρ T => bindF (fs ρ T) fun ds T' => match ds with
  | [x, y] => some (.nx ((ρ.set i (.dat x)).set j (.dat y)), T')
  | _ => none
theorem xs_par {i j : Nat} (h : PS X st (tPar i j (tDA X.K fs))) : XS X st (parF i j fs) := ps_weak h fun D σ H h => by
  obtain ⟨Z, G, ad, T, ρ, pa, r, T', N, hf, k⟩ := h
  obtain ⟨ds, T1, h1, h2⟩ := bindF_eq hf
  refine ⟨Z, G, ad, T, ρ, pa, ds, T1, N, h1, fun vs G1 ad1 H1 x1 r1 => ?_⟩
  split at h2
  · cases h2
    obtain ⟨v, w, rfl, q1, q2⟩ := r1.two
    exact ⟨v, w, rfl, k _ G1 ad1 H1 pa ((x1.en.setD i q1).setD j q2) x1.gr.ex x1.gr.pr⟩
  · cases h2
theorem ps_tryQ {body : List Stmt} {h0 : ExceptHandler} {hs : List ExceptHandler} {t : TS} (hx : X.xe = fun _ _ => False) (hb : PSs X body t) : PS X (.Try body (h0 :: hs) [] [] pos) t := by
  refine ⟨fun pins s σ H D I h => ?_⟩
  refine wpAny_Try_except ?_
  refine wpAny_mono (hb.run pins s σ H D I h) (fun f s1 q => ?_) fun e s1 z => ?_
  · cases f with
    | next => exact wpAny_execs_nil q
    | _ => exact q
  · rw [hx] at z
    exact z.elim
theorem xs_tryQ {body : List Stmt} {h0 : ExceptHandler} {hs : List ExceptHandler} (hx : X.xe = fun _ _ => False) (hb : XSs X body g1) : XS X (.Try body (h0 :: hs) [] [] pos) g1 := ps_tryQ hx hb
end

/-! ### what a caller knows of a def -/
structure Cal (P : Program) (w : World) (K : PySem.W.Frag) (mg : Str → Option Value) (base : Heap) (x : Str) (k n : Nat) (h : HF) : Prop where
  ok : ∃ f fd ps, FnOk P w K mg base CX0 k f fd ps (Sf K n h) ∧ mg x = some (.ref f) ∧ PySem.W.keepIn K (.ref f) = true ∧ Binds K fd ps []
theorem xe_own {X : Cx} {x : Str} {k n : Nat} {h : HF} {e : Expr} {es : List Expr} {p pos : Pos} {fs : FA} (C : Cal X.prog X.w X.K X.mg X.base x k n h) (hr : Room k X.A) (hg : Gl X x) (ha : XA X (e :: es) fs) (hn : ∀ ρ T ds T', fs ρ T = some (ds, T') → ds.length = n)
    (hdb : (x == ("__debug__" : Str)) = false := by decide) (he : starEach (e :: es) X.env = (false, eval e X.env) :: starEach es X.env := by rfl) (hpl : (backTo pos (starEach es X.env)).any (·.1) = false := by rfl) : XE X (.Call (.Name x p) (e :: es) [] pos) (callF h fs) := by
  obtain ⟨f, fd, ps, F, hm, hk, hb⟩ := C.ok
  exact xe_call (pe_call F hr hg hm hk hb .nil pass0 ha hdb he hpl) hn
theorem cal_of {P : Program} {w : World} {K : PySem.W.Frag} {mg : Str → Option Value} {base : Heap} {x qual : Str} {st : Stmt} {f : Addr} {fd : FuncData} {N ps : List Str} {k n m : Nat} {g : FS} (F : Fun K x qual st f fd) (hm : mg x = some (.ref f)) (hb : Binds K fd ps []) (S : FnScope N ps (defScope st))
    (hn : N.length = m) (hp : ps.length = n)
    (hbody : ∀ (cdv : Value) (A : Around) (outer : List Env) (s : Shared) (H : Hp) (E : XK), Room k (A.deeper (envOfC qual (defScope st) s.heap.objs.size f cdv)) →
      XSs (cxOf CX0 P w K mg base N qual (defScope st) f cdv A outer s H E).nox (defBody st) g) : Cal P w K mg base x (k + 1) n (runB g m) := by
  subst hn hp
  exact ⟨f, fd, ps, fn_ok F S hbody, hm, F.kp, hb⟩
end Fx
namespace Fx
open PySem PySem.Spec PyProof.Rows L2
open Evl (Ex)
/-! ### a walk over whatever comes -/
def itU (f : FE) : FA := fun ρ T => bindF (f ρ T) fun d T' => match d with
  | .tup ds => some (ds, T')
  | .lst ds => some (ds, T')
  | .frl ds => some (ds, T')
  | _ => none
theorem PI.or {X : Cx} {tg e : Expr} {t t' : TI} (h : PI X tg e t) (h' : PI X tg e t') : PI X tg e (fun σ H R => t σ H R ∨ t' σ H R) := ⟨fun pins s σ H R I hw => by
  rcases hw with hw | hw
  · exact h.run pins s σ H R I hw
  · exact h'.run pins s σ H R I hw⟩
theorem tD_map {K : PySem.W.Frag} {f g : FE} {σ : L2.St} {H : Hp} {Q : VK} (h : tD K g σ H Q) (k : ∀ ρ T d T', g ρ T = some (d, T') → f ρ T = some (d, T')) : tD K f σ H Q := by
  obtain ⟨Z, G, ad, T, ρ, pa, d, T', N, hf, q⟩ := h
  exact ⟨Z, G, ad, T, ρ, pa, d, T', N, k _ _ _ _ hf, q⟩
theorem xi_seq {X : Cx} {tg e : Expr} {f : FE} (h : XE X e f) : XI X tg e (itU f) := pi_weak (PI.or (xi_tup (tg := tg) h) (xi_lst (tg := tg) h)) fun σ H R h => by
  obtain ⟨Z, G, ad, T, ρ, pa, ds, T', N, hf, k⟩ := h
  obtain ⟨d, T1, h1, h2⟩ := bindF_eq hf
  split at h2
  · cases h2
    exact .inl ⟨Z, G, ad, T, ρ, pa, ds, _, N, by unfold itT; rw [h1]; rfl, k⟩
  · cases h2
    exact .inr ⟨Z, G, ad, T, ρ, pa, ds, _, N, by unfold itL; rw [h1]; rfl, k⟩
  · cases h2
    exact .inr ⟨Z, G, ad, T, ρ, pa, ds, _, N, by unfold itL; rw [h1]; rfl, k⟩
  · cases h2
/-! ### op= -/
abbrev addiD := iiF ctt fun i j => .int (i + j)
noncomputable abbrev muliD := iiF cMul fun i j => .int (i * j)
noncomputable abbrev dvpD := iiF cDivP fun i j => .int (i / j)
theorem cDivP_ok (i j : Int) (h : cDivP i j = true) : CDiv i j := of_dc h
theorem ok_ipadd {K : PySem.W.Frag} : OkR K (ipI fun i j => i + j) addiD := fun Z G ad T ρ σ H pa v w x y z Q N rx ry hg k => by
  obtain ⟨i, j, rfl, rfl, _, rfl⟩ := iiF_eq hg
  exact ⟨i, j, rx.inv_int, ry.inv_int, k _ G ad H N.nx (.int _)⟩
theorem ok_ipsub {K : PySem.W.Frag} : OkR K (ipI fun i j => i - j) subD := fun Z G ad T ρ σ H pa v w x y z Q N rx ry hg k => by
  obtain ⟨i, j, rfl, rfl, _, rfl⟩ := iiF_eq hg
  exact ⟨i, j, rx.inv_int, ry.inv_int, k _ G ad H N.nx (.int _)⟩
theorem xs_doc {X : Cx} {x : Str} {j : Nat} {pos pos' : Pos} : XS X (.Expr (.Constant (.str x) j pos) pos') nilS := ps_weak ps_doc fun D σ H h => by
  obtain ⟨Z, G, ad, T, ρ, pa, r, T', N, hf, k⟩ := h
  cases hf
  exact k σ G ad H pa N (Ex.refl _) (Pre.refl _)
/-- the law's own end -/
theorem law_sf {K : PySem.W.Frag} {H : Hp} {a : Addr} {ns : List Int} {h : HF} {E : XK} (hS : SqL K H a (ns.map V.int)) (hh : ∃ T, h [.frl (ns.map D.int)] [] = some (.bl true, T)) : Sf K 1 h [.ref a] H (fun v _ => v = .bl true) E := by
  obtain ⟨T, hT⟩ := hh
  have ri : ∀ l : List Int, RpL K H [] (l.map V.int) (l.map D.int) := fun l => by
    induction l with
    | nil => exact .nil
    | cons x l ih => exact .cons (.int x) ih
  exact ⟨rfl, H, [], [], [.frl (ns.map D.int)], .bl true, T, ⟨Ex.refl _, (fun _ h => by cases h), List.nodup_nil, rfl, (fun k a ds h _ => by simp at h), Ex.refl _, Pre.refl _, (fun _ _ h _ => h), (fun _ _ h => .inl h), (fun _ h => by cases h)⟩,
    .cons (.frl hS (ri ns)) .nil, hT, fun v G' ad' H' _ r => r.inv_bl⟩
end Fx
set_option maxHeartbeats 4000000
namespace Fx
open PySem PySem.Spec PyProof.Rows L2
open Evl (Ex)
/-! ### enumerate(tuple) -/
def IteT (K : PySem.W.Frag) (a : Addr) : It :=
  ⟨fun i H => ∃ (xs : List V) (x : V), SqT K H a xs ∧ xs[i]? = some x,
    fun i H v H' => ∃ T x o, v = .ref T ∧ H T = none ∧ o.dict = none ∧ H' = upd H T (.frz o (.tup [.int (i : Nat), x])) ∧ ∀ xs, SqT K H a xs → xs[i]? = some x,
    fun i H => ∃ xs : List V, SqT K H a xs ∧ xs.length ≤ i⟩
theorem tup_inj {X : Cx} {pins : List (Addr × Obj)} {σ : L2.St} {H : Hp} {s : Shared} {a : Addr} {xs ys : List V} (I : Inv X pins σ H s) (h : SqT X.K H a xs) (h' : SqT X.K H a ys) : xs = ys := by
  obtain ⟨its, r1, ⟨o, ho, _, n, hd⟩, _⟩ := I.tuple h
  obtain ⟨its', r2, ⟨o', ho', _, n', hd'⟩, _⟩ := I.tuple h'
  rw [ho] at ho'
  cases ho'
  rw [hd] at hd'
  have e : its.toArray = its'.toArray := by injection hd'
  have e' : its = its' := by simpa using e
  subst e'
  exact r1.inj r2
theorem turn_enumT {P : Program} {w : World} {K : PySem.W.Frag} {elts : List Expr} {kk : Nat} {tpos : Pos} (a e it : Addr) :
    Turn P w K (.Tuple elts kk tpos) (IteT K a) [e, it] e (fun i h => (∃ old, IsEnum h e it ((i : Nat) : Int) old) ∧ h.IsTupleIter it a i ∧ e ≠ it) where
  mem := List.mem_cons_self
  obj := fun i h st b hb => by
    obtain ⟨⟨old, he⟩, ⟨o, ho, hc, hd⟩, _⟩ := st
    rcases List.mem_cons.mp hb with z | z
    · subst z
      exact ⟨_, he, fun v q => nomatch q⟩
    · rw [List.mem_singleton.mp z]
      exact ⟨o, ho, fun v q => by rw [hd] at q; cases q⟩
  keep := fun i h h' st k => by
    obtain ⟨⟨old, he⟩, hi, hne⟩ := st
    exact ⟨⟨old, k e List.mem_cons_self _ he⟩, hi.at fun o q => k it (List.mem_cons_of_mem _ List.mem_cons_self) o q, hne⟩
  item := by
    intro X hP hw hK hc i pins s σ H E I hf st hg
    subst hP hw hK
    obtain ⟨⟨old, he⟩, hit, hne⟩ := st
    obtain ⟨xs, x, hq, hx⟩ := hg
    obtain ⟨its, rv, p, hz⟩ := I.tuple hq
    have hai : a ≠ it := fun z => by
      obtain ⟨o, ho, hco, _⟩ := p
      obtain ⟨o', ho', hco', _⟩ := hit
      rw [z, ho'] at ho
      cases ho
      rw [hco] at hco'
      exact absurd (Value.type.inj hco') (by decide)
    have hae : e ≠ a := fun z => by
      obtain ⟨o, ho, hco, _⟩ := p
      rw [← z] at ho
      rw [he] at ho
      cases ho
      exact absurd (Value.type.inj hco) (by decide)
    obtain ⟨u, hu, ru⟩ := rv.get hx
    have hlt : i < its.toArray.size := by
      rw [List.size_toArray]
      exact (List.getElem?_eq_some_iff.mp hu).1
    have hel : e < s.heap.objs.size := Heap.lt_size he
    have hil : it < s.heap.objs.size := by obtain ⟨_, q, _⟩ := hit; exact Heap.lt_size q
    have D := Draws.tuple (prog := X.prog) (w := X.w) (A := X.A.in1) (I.ok.hd hc) it a hai its.toArray
    refine wpAny_pyNext_enum_itemD D he ⟨hit, p⟩ hlt hne (by simp [hne, hae]) fun x' h' tk hpx ho hst' hT hsz hk => ?_
    have ex : x' = u := by
      have h1 : its[i]? = some x' := by simpa using hpx
      rw [hu] at h1
      exact (Option.some.inj h1).symm
    subst ex
    refine ⟨_, rfl, wpAny_letOwnedTupleGo_enum (s := { s with heap := h', toks := tk + 1 }) ho fun h'' he' sb => ?_⟩
    have hT2 := (sb.2 _ (Nat.ne_of_gt hel)).trans hT
    have new : ObjOk X.prog X.w (upd H s.heap.objs.size (.frz { cls := .type "tuple", data := .seq #[.int i tk, x'] } (.tup [.int (i : Nat), x]))) h'' s.heap.objs.size (.frz { cls := .type "tuple", data := .seq #[.int i tk, x'] } (.tup [.int (i : Nat), x])) :=
      ⟨hT2, by show 2 ≤ sizeLine; decide, [.int i tk, x'], .cons ⟨_, rfl⟩ (.cons ru .nil), ⟨_, hT2, rfl, _, rfl⟩⟩
    have I1 : Inv X pins σ (upd H s.heap.objs.size (.frz { cls := .type "tuple", data := .seq #[.int i tk, x'] } (.tup [.int (i : Nat), x]))) { s with heap := h'', toks := tk + 1 } :=
      I.turnedNew (ch := [e, it]) (fun b ob hb q => (sb.2 b (fun z => hb (z ▸ List.mem_cons_self))).trans (hk b ob (fun z => hb (z ▸ List.mem_cons_self)) (fun z => hb (z ▸ List.mem_cons_of_mem _ List.mem_cons_self)) q)) hf (Nat.le_refl _) new
    refine ⟨.ref s.heap.objs.size, _, I1, rfl, ⟨_, x, _, rfl, I.hok.fresh (Nat.le_refl _), rfl, rfl, fun ys hy => by rw [tup_inj I hy hq]; exact hx⟩, ⟨⟨x', ?_⟩, hst'.1.at fun o q => (sb.2 it (Ne.symm hne)).trans q, hne⟩, fun b hb => ?_⟩
    · rw [show ((i + 1 : Nat) : Int) = (i : Int) + 1 by omega]
      exact he'
    · have hb' : b < s.heap.objs.size := by
        rcases List.mem_cons.mp hb with z | z
        · rw [z]; exact hel
        · rw [List.mem_singleton.mp z]; exact hil
      rw [upd_ne (Nat.ne_of_lt hb')]
      exact (hf b hb).1
  done := by
    intro X hP hw hK hc i pins s σ H E I hf st hg
    subst hP hw hK
    obtain ⟨⟨old, he⟩, hit, hne⟩ := st
    obtain ⟨xs, hq, hx⟩ := hg
    obtain ⟨its, rv, p, hz⟩ := I.tuple hq
    have hai : a ≠ it := fun z => by
      obtain ⟨o, ho, hco, _⟩ := p
      obtain ⟨o', ho', hco', _⟩ := hit
      rw [z, ho'] at ho
      cases ho
      rw [hco] at hco'
      exact absurd (Value.type.inj hco') (by decide)
    have D : Draws X.prog X.w X.A.in1 it [it, a] i (fun _ _ => False) (fun j h => j = i ∧ h.IsTupleIter it a i ∧ h.IsTuple a its.toArray) :=
      { live := fun _ _ st => let ⟨o, ho, _⟩ := st.2.1; ⟨o, ho⟩
        frame := fun _ _ _ st hk => ⟨st.1, st.2.1.at fun o e => hk it (by simp) o e, st.2.2.at fun o e => hk a (by simp) o e⟩
        item := fun j s Q E hj st hQ => absurd st.1 (by omega)
        done := fun s Q E st hE => wpAny_nextOf_tuple_end (I.ok.hd hc) st.2.1 st.2.2 (by have := rv.length; simp; omega) hE }
    obtain ⟨f0, f1, f2, f3, f4, f5⟩ := hf it (by simp)
    exact wpAny_pyNext_enum_endD D he ⟨rfl, hit, p⟩ fun h' eb => ⟨rfl, I.turned (t' := s.toks) (fun b o hb q => eb b o hb q) f0 f1 f3 f4 f5⟩
  self := fun A i s Q E st h => wpAny_pyIter_enum st.1.choose_spec h
def itT_ (t : Addr) : Obj := { cls := .type "tuple_iterator", data := .fields #[.ref t, .int 0 0] }
def enT_ (a : Addr) : Obj := { cls := .type "enumerate", data := .fields #[.none, .bool false, .ref a, rawInt 0, .none, .none] }
theorem meets_enumT (t : Addr) (items : Array Value) : Meets (Builtin.«enumerate.__new__» ⟨[.type "enumerate", .ref t], []⟩)
    (fun _ R s => s.heap.IsTuple t items ∧ R (.ok (.ret (.ref (s.heap.push (itT_ t)).objs.size))) { s with heap := (s.heap.push (itT_ t)).push (enT_ s.heap.objs.size) }) :=
  .of_wp fun prog w A R s h => by
    obtain ⟨hp, g, d, tk, os⟩ := s
    obtain ⟨hL, h⟩ := h
    have hsub := sub_enumerate
    have q : ∀ {A' : Around} {E : Value → Shared → Prop} {Q : Value → Shared → Prop}, Q (.ref hp.objs.size) ⟨hp.push (itT_ t), g, d, tk, os⟩ → wpAny (model prog w) A' (pyIter (.ref t)) Q E ⟨hp, g, d, tk, os⟩ :=
      fun k => wpAny_pyIter_tuple hL k
    wp_walk using q
    refine wpAny_stack_any fun st => wpAny_pure ?_
    split
    · rename_i c _ _ _ _ _
      cases (c == Value.type "enumerate") <;> (wp_walk using q; exact ⟨_, rfl, h⟩)
    · wp_walk using q
      exact ⟨_, rfl, h⟩
theorem call_enumT {prog : Program} {w : World} {A : Around} {E : Value → Shared → Prop} {s : Shared} {t : Addr} {items : Array Value} {Q : Value → Shared → Prop} (hT : s.heap.IsTuple t items)
    (h : ∀ h', IsEnum h' (s.heap.objs.size + 1) s.heap.objs.size 0 .none → h'.IsTupleIter s.heap.objs.size t 0 → (∀ b o, s.heap.get? b = some o → h'.get? b = some o) → Q (.ref (s.heap.objs.size + 1)) { s with heap := h' }) :
    wpAny (model prog w) A (call (.type "enumerate") [.ref t]) Q E s := by
  refine callType_new F.called_enumerate (by decide) (F.typeCall_enumerate_1 _) (F.newCall_enumerate_1 _) (fun obj => F.args_object_init_2 obj _) F.entry_enumerate_new (meets_enumT t items) ⟨hT, ?_⟩
  have z : (s.heap.push (itT_ t)).objs.size = s.heap.objs.size + 1 := Heap.size_push ..
  show _ ∧ _
  rw [z]
  have e1 := Heap.get?_push_size (s.heap.push (itT_ t)) (o := enT_ s.heap.objs.size) rfl
  rw [z] at e1
  exact ⟨⟨_, e1, rfl⟩, h _ e1 ⟨_, Heap.get?_push_of_some _ (Heap.get?_push_size _ rfl), rfl, rfl⟩ fun b o k => Heap.get?_push_of_some _ (Heap.get?_push_of_some _ k)⟩
def iEnumT (K : PySem.W.Frag) (ta : TA) : TI := fun σ H R => ta σ H fun vs H1 => ∃ a xs, vs = [.ref a] ∧ SqT K H1 a xs ∧ R (IteT K a) H1
theorem pi_enumT {X : Cx} {e : Expr} {ta : TA} {p pos tpos : Pos} {elts : List Expr} {kk : Nat} (hg : Gl X "enumerate") (hm : X.mg "enumerate" = none) (ha : PA X [e] ta) (hs : starEach [e] X.env = [(false, eval e X.env)] := by rfl) :
    PI X (.Tuple elts kk tpos) (.Call (.Name "enumerate" p) [e] [] pos) (iEnumT X.K ta) := by
  refine ⟨fun pins s σ H R I h => ?_⟩
  refine Call_ (ld_blt I hg hm boot_enumerate (PyProof.Rows.callWith_type1 (thn (ha.run pos pins s σ H _ I h) fun us s1 ⟨vs, H1, I1, r1, q1⟩ => ?_) hs rfl))
  obtain ⟨a, xs, ex, hq, q⟩ := q1
  subst ex
  obtain ⟨u, rfl, ru⟩ := vals1 r1
  cases ru
  obtain ⟨its, rv, p', hz⟩ := I1.tuple hq
  refine call_enumT p' fun h' he hit hk => wpAny_pyIter_enum he ?_
  have I2 : Inv X pins σ H1 { s1 with heap := h' } := I1.kept (t' := s1.toks) hk
  refine ⟨s1.heap.objs.size + 1, [s1.heap.objs.size + 1, s1.heap.objs.size], _, _, H1, rfl, I2, turn_enumT a (s1.heap.objs.size + 1) s1.heap.objs.size, ⟨⟨.none, he⟩, hit, Nat.succ_ne_self _⟩, fun b hb => ?_, q⟩
  have hle : s1.heap.objs.size ≤ b := by
    rcases List.mem_cons.mp hb with z | z
    · rw [z]; exact Nat.le_add_right _ _
    · rw [List.mem_singleton.mp z]; exact Nat.le_refl _
  exact I1.fpOk hle (I1.hok.fresh hle)
/-- pairs of places and items -/
def enumL (i : Nat) : List D → List D
  | [] => []
  | d :: ds => .tup [.int (i : Int), d] :: enumL (i + 1) ds
theorem enumL_get : ∀ (ds : List D) (i k : Nat), (enumL i ds)[k]? = (ds[k]?).map fun d => .tup [.int ((i + k : Nat) : Int), d]
  | [], i, k => by simp [enumL]
  | d :: ds, i, 0 => by simp [enumL]
  | d :: ds, i, k + 1 => by
    simp only [enumL, List.getElem?_cons_succ]
    rw [enumL_get ds (i + 1) k, show i + 1 + k = i + (k + 1) by omega]
theorem enumL_len : ∀ (ds : List D) (i : Nat), (enumL i ds).length = ds.length
  | [], i => rfl
  | d :: ds, i => by simp [enumL, enumL_len ds]
def itE (f : FE) : FA := fun ρ T => bindF (f ρ T) fun d T' => match d with
  | .tup ds => some (enumL 0 ds, T')
  | _ => none
theorem itOk_enumT {K : PySem.W.Frag} {a : Addr} {G0 : Hp} {ad0 : List Addr} {vs : List V} {ds : List D} (h : TupK K G0 a vs) (r : RpL K G0 ad0 vs ds) : ItOk K (IteT K a) G0 ad0 (enumL 0 ds) where
  go := fun Z G ad T ρ σ H pa i N e p hi => by
    rw [enumL_len] at hi
    have hv : i < vs.length := by rw [r.length]; exact hi
    exact ⟨vs, vs[i], N.iv.tup (h.mono e), List.getElem?_eq_getElem hv⟩
  stop := fun Z G ad T ρ σ H pa i N e p hi => ⟨vs, N.iv.tup (h.mono e), by rw [enumL_len] at hi; rw [r.length]; exact hi⟩
  yld := fun Z G ad T ρ σ H pa i x H' N e p hi y => by
    obtain ⟨q, x', o, rfl, hq, hd, rfl, y⟩ := y
    obtain ⟨d, h1, h2⟩ := r.getV (y vs (N.iv.tup (h.mono e)))
    have n1 := N.knowN hq (.frz o (.tup [.int (i : Nat), x']))
    refine ⟨_, .tup [.int ((0 + i : Nat) : Int), d], n1, by rw [enumL_get, h1]; rfl, .tup (TupK.new hd) (.cons ?_ (.cons (n1.rp (h2.mono e p)) .nil))⟩
    rw [Nat.zero_add]
    exact .int _
theorem xi_enum {X : Cx} {e : Expr} {f : FE} {p pos tpos : Pos} {elts : List Expr} {kk : Nat} (hg : Gl X "enumerate") (hm : X.mg "enumerate" = none) (h : XE X e f) (hs : starEach [e] X.env = [(false, eval e X.env)] := by rfl) :
    XI X (.Tuple elts kk tpos) (.Call (.Name "enumerate" p) [e] [] pos) (itE f) := by
  have ha : PA X [e] (tDA X.K (consF f nilF)) := xa_cons h xa_nil (by rw [hs]; rfl)
  refine pi_weak (pi_enumT hg hm ha hs) fun σ H R h => ?_
  obtain ⟨Z, G, ad, T, ρ, pa, ds, T', N, hf, k⟩ := h
  obtain ⟨d, T1, h1, h2⟩ := bindF_eq hf
  have hc : consF f nilF ρ T = some ([d], T1) := by unfold consF nilF; rw [h1]; rfl
  cases d with
  | tup xs =>
    cases h2
    refine ⟨Z, G, ad, T, ρ, pa, [.tup xs], _, N, hc, fun vs G1 ad1 H1 x1 r1 => ?_⟩
    obtain ⟨v, rfl, q⟩ := r1.one
    obtain ⟨a, ws, rfl, hh, hr⟩ := q.inv_tup
    exact ⟨a, ws, rfl, x1.en.iv.tup hh, k _ G1 ad1 H1 x1 (itOk_enumT hh hr)⟩
  | _ => cases h2
end Fx
set_option maxHeartbeats 1000000
namespace Fx
open PySem PySem.Spec PyProof.Rows L2
open Evl (Ex)
/-! ### xs.count(True) -/
def eqb (k : Bool) (v : Value) : Bool := match v with
  | .bool b => b == k
  | _ => false
theorem eqb_at {A : Around} {s : Shared} {k : Bool} : ∀ {bs : List Bool} {us : List Value}, Vals (bs.map V.bl) us → ∀ y ∈ us, SeqAt.EqAt A s y (.bool k) (eqb k y)
  | [], _, .nil => fun y hy => by cases hy
  | b :: bs, _, .cons r h => fun y hy => by
    cases r
    rcases List.mem_cons.mp hy with e | e
    · subst e
      exact SeqAt.EqAt.bool_bool b k
    · exact eqb_at h y e
theorem eqb_count {k : Bool} : ∀ {bs : List Bool} {us : List Value}, Vals (bs.map V.bl) us → us.countP (eqb k) = bs.count k
  | [], _, .nil => rfl
  | b :: bs, _, .cons r h => by
    cases r
    rw [List.countP_cons, List.count_cons, eqb_count h]
    rfl
def rCntB (S : Hp → Addr → List V → Prop) : V → List V → Hp → VK → Prop := fun x xs H Q => ∃ (p : Addr) (bs : List Bool) (k : Bool), x = .ref p ∧ xs = [.bl k] ∧ S H p (bs.map V.bl) ∧ Q (.int ((bs.count k : Nat) : Int)) H
section
variable {X : Cx}
theorem mt_countL : MtR X "list.count" (rCntB (SqL X.K)) := by
  intro pins s σ H x xs v us Q I rx rxs ⟨p, bs, k, ex, exs, hs, q⟩
  subst ex exs
  cases rx
  obtain ⟨u, rfl, ru⟩ := rxs.one
  cases ru
  obtain ⟨its, rv, ⟨⟨cls, dd, data, sl⟩, n, ho, hc, hdn, hd⟩, _⟩ := I.list hs
  simp only at hc hd
  subst hc hd
  have ec := eqb_count (k := k) rv
  refine call_meets PySem.F.slot_list_count ⟨_, ho, rfl⟩ PySem.F.entry_list_count (PySem.F.args_list_count_2 _ _)
    (SeqAt.list_countAt p its.toArray n dd sl (.bool k) (eqb k)) ⟨ho, fun y hy => eqb_at rv y (by simpa using hy), .int ((bs.count k : Nat) : Int), H, I.tok _, ⟨s.toks, ?_⟩, q⟩
  show Value.int ((its.toArray.toList.countP (eqb k) : Nat) : Int) s.toks = _
  rw [show its.toArray.toList = its from rfl, ec]
theorem mt_countT : MtR X "tuple.count" (rCntB (SqT X.K)) := by
  intro pins s σ H x xs v us Q I rx rxs ⟨p, bs, k, ex, exs, hs, q⟩
  subst ex exs
  cases rx
  obtain ⟨u, rfl, ru⟩ := rxs.one
  cases ru
  obtain ⟨its, rv, ⟨⟨cls, dd, data, sl⟩, ho, hc, n, hd⟩, _⟩ := I.tuple hs
  simp only at hc hd
  subst hc hd
  have ec := eqb_count (k := k) rv
  refine call_meets PySem.F.slot_tuple_count ⟨_, ho, rfl⟩ PySem.F.entry_tuple_count (PySem.F.args_tuple_count_2 _ _)
    (SeqAt.tuple_countAt p its.toArray n dd sl (.bool k) (eqb k)) ⟨ho, fun y hy => eqb_at rv y (by simpa using hy), .int ((bs.count k : Nat) : Int), H, I.tok _, ⟨s.toks, ?_⟩, q⟩
  show Value.int ((its.toArray.toList.countP (eqb k) : Nat) : Int) s.toks = _
  rw [show its.toArray.toList = its from rfl, ec]
/-- a tuple on which no dict hangs -/
def tyTup (K : PySem.W.Frag) (x : V) (H : Hp) : Prop := ∃ a vs, x = .ref a ∧ TupK K H a vs
theorem ty_tup : TyOk X "tuple" (tyTup X.K) := by
  intro pins σ H s x v I r ⟨a, vs, ex, h⟩
  subst ex
  cases r
  obtain ⟨its, _, pl, _⟩ := I.tuple h.seq
  refine ⟨pl.typeIs, fun b e => ?_⟩
  cases e
  rcases h with ⟨o, h, hd⟩ | ⟨o, its, n, h1, h2, h3, h4, h5, hd⟩
  · exact ⟨o, (I.hok a _ h).1, hd⟩
  · exact ⟨o, I.kIn a o h1, hd⟩
theorem PE.or {e : Expr} {t t' : TE} (h : PE X e t) (h' : PE X e t') : PE X e (fun σ H Q => t σ H Q ∨ t' σ H Q) := ⟨fun pins s σ H Q I hw => by
  rcases hw with hw | hw
  · exact h.run pins s σ H Q I hw
  · exact h'.run pins s σ H Q I hw⟩
def cntF (k : Bool) (f : FE) : FE := fun ρ T => bindF (f ρ T) fun d T' => match d with
  | .tup ds => (bls ds).map fun bs => (.int ((bs.count k : Nat) : Int), T')
  | .lst ds => (bls ds).map fun bs => (.int ((bs.count k : Nat) : Int), T')
  | _ => none
theorem xe_count {o : Expr} {f : FE} {k : Bool} {j : Nat} {p1 apos cpos : Pos} (h : XE X o f)
    (hbase : attributeBase o "count" X.env (eval o X.env) = eval o X.env := by rfl) (hline : (apos.endLine == cpos.line) = true := by rfl) :
    XE X (.Call (.Attribute o "count" apos) [.Constant (.bool k) j p1] [] cpos) (cntF k f) := by
  have ha : PA X [.Constant (.bool k) j p1] (tDA X.K (consF (constF (.bl k)) nilF)) := xa_cons xe_bl xa_nil
  refine pe_weak (PE.or (pe_mG ty_tup PySem.F.plainAttrs_tuple PySem.F.slot_tuple_count PySem.F.type_tuple_count mt_countT h ha hbase rfl hline)
    (pe_bm PySem.F.plainAttrs_list PySem.F.slot_list_count PySem.F.type_list_count mt_countL h ha hbase rfl hline)) fun σ H Q hw => ?_
  obtain ⟨Z, G, ad, T, ρ, pa, d, T', N, hf, kk⟩ := hw
  obtain ⟨x, T1, h1, h2⟩ := bindF_eq hf
  have hc : ∀ T, consF (constF (.bl k)) nilF ρ T = some ([.bl k], T) := fun _ => rfl
  cases x with
  | tup ds =>
    obtain ⟨bs, h3, h4⟩ := Option.map_eq_some_iff.mp h2
    cases h4
    refine .inl ⟨Z, G, ad, T, ρ, pa, .tup ds, _, N, h1, fun v G1 ad1 H1 x1 r1 => ?_⟩
    obtain ⟨a, vs, rfl, hG, hr⟩ := r1.inv_tup
    refine ⟨⟨a, vs, rfl, hG.mono x1.en.iv.ex⟩, Z, G1, ad1, _, ρ, pa, [.bl k], _, x1.en, hc _, fun ws G2 ad2 H2 x2 r2 => ?_⟩
    obtain ⟨w, rfl, hw⟩ := r2.one
    have e := bls_rel hr h3
    subst e
    exact ⟨a, bs, k, rfl, by rw [hw.inv_bl], x2.en.iv.tup (hG.mono x2.gr.ex), kk _ G2 ad2 H2 (x1.trans x2) (.int _)⟩
  | lst ds =>
    obtain ⟨bs, h3, h4⟩ := Option.map_eq_some_iff.mp h2
    cases h4
    refine .inr ⟨Z, G, ad, T, ρ, pa, .lst ds, _, N, h1, fun v G1 ad1 H1 x1 r1 => ?_⟩
    obtain ⟨a, vs, rfl, hG, hr⟩ := r1.inv_lst
    refine ⟨.inl ⟨rfl, vs, .inl (.inl (x1.en.iv.ex _ _ hG))⟩, Z, G1, ad1, _, ρ, pa, [.bl k], _, x1.en, hc _, fun ws G2 ad2 H2 x2 r2 => ?_⟩
    obtain ⟨w, rfl, hw⟩ := r2.one
    have e := bls_rel hr h3
    subst e
    exact ⟨a, bs, k, rfl, by rw [hw.inv_bl], .inl (.inl (x2.en.iv.ex _ _ (x2.gr.ex _ _ hG))), kk _ G2 ad2 H2 (x1.trans x2) (.int _)⟩
  | _ => cases h2
end
end Fx
set_option maxHeartbeats 1000000
namespace Fx
open PySem PySem.Spec PyProof.Rows L2
open Builtin
/-! ### f'{x:b}', int(text, 2) -/
def fB : Float.FormatSpec := { fill := 32, align := 62, type := some 98 }
theorem parse_b : Float.parseFormatSpec (Str.ofString "b").cps.toList "int" 62 = .ok fB := by
  first | rfl | decide +kernel
/-- the signs of a number's binary digits -/
def binC (n : Nat) : List Nat := (Nat.toDigits 2 n).map Char.toNat
def binS (n : Nat) : Str := ⟨(binC n).toArray⟩
theorem binS_length (n : Nat) : (binS n).length = (Nat.toDigits 2 n).length := by
  show (binC n).toArray.size = _
  unfold binC
  rw [List.size_toArray, List.length_map]
theorem binC_ne (n : Nat) : (binC n).isEmpty = false := by
  have h1 := PyProof.Rows.tDigits_len_ge 2 n
  cases hc : binC n with
  | nil =>
    have : (binC n).length = 0 := by rw [hc]; rfl
    unfold binC at this
    rw [List.length_map] at this
    omega
  | cons _ _ => rfl
section
variable {prog : Program} {w : World} {A : Around} {E : Value → Shared → Prop} {s : Shared}
theorem format_b {n : Nat} {t : Tok} {Q : Value → Shared → Prop} (hlen : (binS n).length ≤ sizeLine) (h : ∀ t' k, Q (.str (binS n) t') { s with toks := k }) :
    wpAny (model prog w) A (formatField (.int (n : Int) t) (Str.ofString "b")) Q E s := by
  have hne : ((Str.ofString "b").length == 0) = false := by decide
  have hasc : (((Str.ofString "b").cps.toList.drop 1).any (· ≥ 128) || ((Str.ofString "b").cps.getD 0 0 ≥ 128 && !([60, 62, 61, 94] : List Nat).contains ((Str.ofString "b").cps.getD 1 0))) = false := by decide +kernel
  have ef : formatField (.int (n : Int) t) (Str.ofString "b") = holding [.int (n : Int) t] (pyFormat (.int (n : Int) t) (Str.ofString "b")) := by
    unfold formatField
    simp only [hne, Bool.false_eq_true, if_false]
  have hp := parse_b
  generalize hsp : Str.ofString "b" = spec at *
  rw [ef]
  refine wpAny_holding ?_
  unfold pyFormat
  refine wpAny_bind (wpAny_mkStr ?_ (by rw [← hsp]; decide +kernel))
  refine wpAny_bind (m := callSpecial? (.int (n : Int) t) (Str.ofString "__format__") [.str spec s.toks]) (wpAny_callSpecial?_slot (name := Str.ofString "__format__") (typeIs_int _ _ t) F.slot_int_format ?_)
  refine wpAny_call (codeAny_call_builtin F.slot_int_format.plain F.entry_int_format (F.slot_int_format.check _ _ _ _ _ _ _ _ (typeIs_int _ _ t) (F.args_int_format_2 _ _) ?_))
  unfold Builtin.«int.__format__»
  simp only [selfAndOne, noKeywords, Int.intOfSelf, asInt?, asStr?, List.isEmpty_nil, if_true, pure_bind, bind_pure, bind_assoc, hne, hasc, Bool.false_eq_true, if_false,
    show (Value.str spec s.toks == Value.none) = false from rfl]
  refine wpAny_bind (wpAny_typeNameOf (T := "str") (typeIs_str _ _ _) (by decide) fun _ => ?_)
  refine wpAny_bind (wpAny_typeNameOfCut_int ?_)
  have hty : fB.type.getD (if (spec.cps.back? == some 0) = true then 0 else 100) = 98 := rfl
  simp only [hp, hty]
  show wpAny _ _ (if _ then _ else _) _ _ _
  rw [if_pos (by decide)]
  have e2 : ((n : Int).natAbs) = n := Int.natAbs_natCast n
  have e3 : decide ((n : Int) < 0) = false := decide_eq_false (by omega)
  show wpAny _ _ (retStr _) _ _ _
  have ha : fB.alt = false := rfl
  have hb : ((2 : Nat) == 10) = false := by decide
  have ec : ((Nat.toDigits 2 n).map fun c => (if (98 : Nat) == 88 then c.toUpper else c).toNat) = binC n := by
    unfold binC
    apply List.map_congr_left
    intro c _
    rw [if_neg (by decide)]
  have hc : (binC n).isEmpty = false := binC_ne n
  have he : ∀ X : Str, X = binS n → X.length ≤ sizeLine := fun X e => by rw [e]; exact hlen
  refine PySem.W.KXf.ret_text (T := binS n) ?he (he _ ?he) fun t' k => ?_
  case he =>
    rw [e2, e3, ec, ha, hb]
    simp only [Bool.false_eq_true, if_false]
    unfold binS
    generalize binC n = ds at *
    conv => lhs; whnf
    have g1 : fB.fill = 32 := rfl
    have g2 : fB.align = 62 := rfl
    have g3 : fB.sign = none := rfl
    have g4 : fB.grouping = none := rfl
    have g5 : fB.width = none := rfl
    have c4 : ((32 : Nat) == 48) = false := by decide
    have c1 : ((62 : Nat) == 60) = false := by decide
    have c2 : ((62 : Nat) == 94) = false := by decide
    have c3 : ((62 : Nat) == 61) = false := by decide
    have rp : List.replicate ((0 : Int).toNat - ds.length) 48 = ([] : List Nat) := by
      rw [show (0 : Int).toNat - ds.length = 0 by simp]
      rfl
    simp only [g1, g2, g3, g4, g5, c4, c1, c2, c3, hc, Bool.false_and, Bool.false_eq_true, if_false, rp, List.nil_append, List.length_nil]
    have pad : ((-1 : Int) - (((0 : Nat) : Int) + ((0 : Nat) : Int) + ((0 : Nat) : Int)) - (ds.length : Int)).toNat = 0 := by omega
    rw [pad]
    simp
  exact wpAny_bind (wpAny_isInstance (typeIs_str _ _ _) isSubtype_str_str (wpAny_pure (h _ _)))
end
end Fx
set_option maxHeartbeats 1000000
namespace Fx
open PySem PySem.Spec PyProof.Rows L2
/-! ### int(text, 2) -/
namespace Bx
open PySem.NumText PySem.Calls
def IsBin (c : Nat) : Prop := c = 48 ∨ c = 49
def bv (c : Nat) : Nat := c - 48
def binNum (l : List Nat) : Nat := l.foldl (fun a c => a * 2 + bv c) 0
theorem IsBin.hex {c : Nat} (h : IsBin c) : Hx.IsHex c := .inl (by rcases h with h | h <;> omega)
theorem digit_bin {c : Nat} (h : IsBin c) : digit? c = some (bv c) := by
  rcases h with rfl | rfl <;> rfl
theorem step_bin {ds : Array Nat} {b : Bool} {c : Nat} (h : IsBin c) : PySem.NumText.step 2 (ds, b) c = some (ds.push (bv c), true) := by
  unfold PySem.NumText.step
  rw [if_neg (by rw [beq_iff_eq]; rcases h with h | h <;> omega), digit_bin h]
  exact if_pos (by unfold bv; rcases h with h | h <;> omega)
theorem fold_bin : ∀ (cs : List Nat) (ds : Array Nat), (∀ c ∈ cs, IsBin c) → cs.foldlM (PySem.NumText.step 2) (ds, true) = some (cs.foldl (fun acc c => acc.push (bv c)) ds, true)
  | [], _, _ => rfl
  | c :: cs, ds, h => by
    rw [List.foldlM_cons, step_bin (h c List.mem_cons_self)]
    exact fold_bin cs (ds.push (bv c)) fun d hd => h d (List.mem_cons_of_mem _ hd)
theorem digits_bin {cs : List Nat} (h : ∀ c ∈ cs, IsBin c) (hne : cs ≠ []) : digits? 2 cs = some (cs.foldl (fun acc c => acc.push (bv c)) #[]) := by
  cases cs with
  | nil => exact absurd rfl hne
  | cons c cs =>
    unfold digits?
    rw [List.foldlM_cons, step_bin (h c List.mem_cons_self)]
    show (cs.foldlM (PySem.NumText.step 2) ((#[] : Array Nat).push (bv c), true)).bind _ = _
    rw [fold_bin cs _ fun d hd => h d (List.mem_cons_of_mem _ hd)]
    rfl
theorem push_bin : ∀ (cs : List Nat) (ds : Array Nat), (cs.foldl (fun acc c => acc.push (bv c)) ds).foldl (fun acc d => acc * 2 + d) 0 = cs.foldl (fun a c => a * 2 + bv c) (ds.foldl (fun acc d => acc * 2 + d) 0)
  | [], _ => rfl
  | c :: cs, ds => by
    rw [List.foldl_cons, push_bin cs (ds.push (bv c)), List.foldl_cons]
    congr 1
    simp
theorem based_bin {cs : List Nat} (h : ∀ c ∈ cs, IsBin c) : based 2 cs = (2, false, cs) := by
  match cs, h with
  | [], _ => rfl
  | [a], h =>
    rcases h a List.mem_cons_self with rfl | rfl <;> rfl
  | a :: c :: r, h =>
    rcases h a List.mem_cons_self with rfl | rfl <;> rcases h c (List.mem_cons_of_mem _ List.mem_cons_self) with rfl | rfl <;> rfl
theorem read_bin {cs : List Nat} (h : ∀ c ∈ cs, IsBin c) (hne : cs ≠ []) : (int_private% "readNumeral") 0 2 cs = (int_private% "Numeral.value") ((binNum cs : Nat) : Int) := by
  have hx : ∀ c ∈ cs, Hx.IsHex c := fun c hc => (h c hc).hex
  have hr : ∀ c ∈ cs.reverse, Hx.IsHex c := fun c hc => hx c (List.mem_reverse.mp hc)
  have hb := based_bin h
  refine (readNumeral_eq 0 2 cs).trans ?_
  rw [Hx.dropB hx, Hx.signH hx]
  show judge 0 false (based 2 cs).1 (based 2 cs).2.1 (digits? (based 2 cs).1 (((based 2 cs).2.2.reverse.dropWhile blank).reverse)) = _
  rw [hb]
  show judge 0 false 2 false (digits? 2 ((cs.reverse.dropWhile blank).reverse)) = _
  rw [Hx.dropB hr, List.reverse_reverse, digits_bin h hne]
  show (int_private% "Numeral.value") (((cs.foldl (fun acc c => acc.push (bv c)) (#[] : Array Nat)).foldl (fun acc d => acc * 2 + d) 0 : Nat) : Int) = _
  rw [push_bin]
  rfl
set_option maxHeartbeats 4000000 in
theorem gives_bin {x : PySem.Str} {u t : Tok} (hl : x.length ≤ 640) (h : ∀ c ∈ x.cps.toList, IsBin c) (hne : x.cps.toList ≠ []) :
    Gives (Builtin.«int.__new__» ⟨[.type "int", .str x u, .int 2 t], []⟩) (.int ((binNum x.cps.toList : Nat) : Int)) :=
  .of_wp fun M A E s Q hQ => by
    obtain ⟨hp, g, d, tk, os⟩ := s
    have f1 := F.conv_sub_int
    have f2 := F.madeHere_int
    have f6 : typeOf (.str x u) = pure (.type "str") := rfl
    obtain ⟨e1, e2⟩ := Hx.seen_hex fun c hc => (h c hc).hex
    have hs : (numSeenOf x).length ≤ 640 := by
      rw [e2, Array.length_toList]
      exact hl
    have hr : (int_private% "readNumeral") 0 2 (numSeenOf x) = (int_private% "Numeral.value") ((binNum x.cps.toList : Nat) : Int) := by
      rw [e2]
      exact read_bin h hne
    have ha : ((numSeenOf x).length == (numTextOf x).length) = true := by
      rw [e1, e2]
      exact beq_self_eq_true _
    have hk := Hx.Hid.mk (And.intro hs (And.intro hr ha))
    clear hs hr ha e1 e2 hl hne h
    repeat (any_goals (first
      | assumption
      | ((with_reducible show wpAny _ _ ((int_private% "intFromText") _ _ _) _ _ _); refine Hx.wp_textB hk.out.1 hk.out.2.1 hk.out.2.2 ?_)
      | wp_step))
    all_goals first | exact ⟨_, rfl, hQ⟩ | skip
theorem call_bin {prog : Program} {w : World} {A : Around} {E : Value → Shared → Prop} {s : Shared} {Q : Value → Shared → Prop} {x : PySem.Str} {u t : Tok} (hl : x.length ≤ 640) (h : ∀ c ∈ x.cps.toList, IsBin c) (hne : x.cps.toList ≠ [])
    (hQ : Q (.int ((binNum x.cps.toList : Nat) : Int) s.toks) { s with toks := s.toks + 1 }) : wpAny (model prog w) A (call (.type "int") [.str x u, .int 2 t]) Q E s :=
  callType_new F.called_int F.newNe_int (Hx.typeCall_int_2 _ _) (Hx.newCall_int_2 _ _) (fun obj => F.initArgs_range_2 obj _ _) F.entry_int_new (gives_bin hl h hne).meets (show (Made.int ((binNum x.cps.toList : Nat) : Int)).post _ s from ⟨rfl, hQ⟩)
end Bx
end Fx
set_option maxHeartbeats 1000000
namespace Fx
open PySem PySem.Spec PyProof.Rows L2
/-! ### text[::-1] -/
def revS (z : Str) : Str := ⟨z.cps.toList.reverse.toArray⟩
theorem back_places_s (n : Nat) : Builtin.Str.strSliceIndices none none (-1) n = (List.range n).map fun k => n - 1 - k := by
  exact PySem.W.krv_sliceRange n
theorem back_pick_s (z : Str) : (Builtin.Str.strSliceIndices none none (-1) z.length).filterMap (z.cps[·]?) = z.cps.toList.reverse := by
  rw [back_places_s]
  show ((List.range z.cps.size).map fun k => z.cps.size - 1 - k).filterMap (z.cps[·]?) = _
  rw [PySem.W.krv_range, List.filterMap_reverse, PySem.W.krv_all]
section
variable {X : Cx}
def tBackS (te : TE) : TE := fun σ H Q => te σ H fun x H1 => ∃ z, x = .str z ∧ z.length ≤ sizeLine ∧ Q (.str (revS z)) H1
theorem pe_backS {e : Expr} {te : TE} {k : Nat} {p1 p2 p3 pos : Pos} (he : PE X e te) : PE X (.Subscript e (.Slice none none (some (.UnaryOp .USub (.Constant (.int 1) k p1) p2)) p3) pos) (tBackS te) := by
  refine ⟨fun pins s σ H Q I h => ?_⟩
  refine Subscript_ (thn (he.run pins s σ H _ I h) fun v s1 hv => ?_)
  obtain ⟨x, H1, I1, r1, z, ex, hz, q⟩ := hv
  subst ex
  obtain ⟨t, rfl⟩ := r1
  have hst : PO X (some (.UnaryOp .USub (.Constant (.int 1) k p1) p2)) (tPart (tUn (rU fun i => .int (-i)) (tC (.int 1)))) := po_some (pe_un un_neg pe_int)
  refine wpAny_Slice (thn (po_none.run pins s1 σ H1 (fun o H2 => o = none ∧ H2 = H1) I1 ⟨rfl, rfl⟩) fun vl s2 h2 => ?_)
  obtain ⟨l, H2, I2, pl, el, e2⟩ := h2
  subst el e2
  refine thn (po_none.run pins s2 σ H2 (fun o H3 => o = none ∧ H3 = H2) I2 ⟨rfl, rfl⟩) fun vu s3 h3 => ?_
  obtain ⟨u, H3, I3, pu, eu, e3⟩ := h3
  subst eu e3
  refine thn (hst.run pins s3 σ H3 (fun o H4 => o = some (-1) ∧ H4 = H3) I3 ⟨1, rfl, -1, rfl, rfl, rfl⟩) fun vs s4 h4 => ?_
  obtain ⟨o, H4, I4, ps, eo, e4⟩ := h4
  subst eo e4
  have I5 := I4.kept (h' := s4.heap.push { cls := .type "slice", data := .fields #[vl, vu, vs] }) (t' := s4.toks) fun b ob q => Heap.get?_push_of_some _ q
  obtain ⟨l', rfl, el⟩ := IsPart.raw pl
  obtain ⟨u', rfl, eu⟩ := IsPart.raw pu
  obtain ⟨st, rfl, es⟩ := IsPart.raw ps
  have hl' : l' = none := by cases l' with | none => rfl | some _ => cases el
  have hu' : u' = none := by cases u' with | none => rfl | some _ => cases eu
  obtain ⟨tk, rfl⟩ : ∃ tk, st = some (-1, tk) := by
    cases st with
    | none => cases es
    | some p => obtain ⟨i, tk⟩ := p; cases es; exact ⟨tk, rfl⟩
  subst hl' hu'
  refine tail_any (ops := [.str z t, .ref s4.heap.objs.size]) (typeIs_str _ _ _) (F.slot_str_getitem.lookup) ?_ (by with_unfolding_all rfl)
  refine wpAny_getItem_str_slice (l := none) (u := none) (st := some (-1, tk)) ?_ rfl ?_
  · exact Heap.IsSliceOf.new _ _ _ _
  · show Made.post (if ((-1 : Int) == 1 && _) = true then Made.val (.str z t) else Made.str ⟨((Builtin.Str.strSliceIndices none none (-1) z.length).filterMap (z.cps[·]?)).toArray⟩) (EP X pins σ Q) _
    rw [if_neg (by rw [show ((-1 : Int) == 1) = false by decide, Bool.false_and]; decide), back_pick_s]
    exact ⟨by show z.cps.toList.reverse.toArray.size ≤ _; rw [List.size_toArray, List.length_reverse, Array.length_toList]; exact hz, .str _, _, I5.tok _, ⟨_, rfl⟩, q⟩
end
end Fx
set_option maxHeartbeats 1000000
namespace Fx
open PySem PySem.Spec PyProof.Rows L2
open Evl (Ex)
section
variable {X : Cx}
/-! ### f'{x:b}' -/
def tFmtB (te : TE) : TE := fun σ H Q => te σ H fun x H1 => ∃ n : Nat, x = .int (n : Int) ∧ (binS n).length ≤ sizeLine ∧ Q (.str (binS n)) H1
theorem pe_fmtB {e : Expr} {te : TE} {k : Nat} {p1 p2 p3 p4 : Pos} (he : PE X e te) :
    PE X (.JoinedStr [.FormattedValue e (-1) (some (.JoinedStr [.Constant (.str (Str.ofString "b")) k p1] p2)) p3] p4) (tFmtB te) := by
  refine ⟨fun pins s σ H Q I h => ?_⟩
  refine wpAny_JoinedStr_one (wpAny_FormattedValue_spec (thn (he.run pins s σ H _ I h) fun v s1 hv => ?_))
  obtain ⟨x, H1, I1, r1, n, ex, hz, q⟩ := hv
  subst ex
  obtain ⟨t, rfl⟩ := r1
  have hb : PE X (.Constant (.str (Str.ofString "b")) k p1) (tC (.str (Str.ofString "b"))) := pe_str
  refine wpAny_JoinedStr_one (thn (hb.run pins s1 σ H1 (fun y H2 => y = .str (Str.ofString "b") ∧ H2 = H1) I1 ⟨rfl, rfl⟩) fun w s2 hw => ?_)
  obtain ⟨y, H2, I2, r2, ey, e2⟩ := hw
  subst ey e2
  obtain ⟨t2, rfl⟩ := r2
  exact ⟨_, _, rfl, format_b hz fun t' k => ⟨.str (binS n), H2, I2.tok k, ⟨t', rfl⟩, q⟩⟩
noncomputable def fmtBF (f : FE) : FE := fun ρ T => bindF (f ρ T) fun d T' => match d with
  | .int i => if dc (0 ≤ i ∧ (binS i.toNat).length ≤ sizeLine) then some (.str (binS i.toNat), T') else none
  | _ => none
theorem xe_fmtB {e : Expr} {f : FE} {k : Nat} {p1 p2 p3 p4 : Pos} (he : XE X e f) :
    XE X (.JoinedStr [.FormattedValue e (-1) (some (.JoinedStr [.Constant (.str (Str.ofString "b")) k p1] p2)) p3] p4) (fmtBF f) := pe_weak (pe_fmtB he) fun σ H Q h => by
  obtain ⟨Z, G, ad, T, ρ, pa, d, T', N, hf, kk⟩ := h
  obtain ⟨x, T1, h1, h2⟩ := bindF_eq hf
  refine ⟨Z, G, ad, T, ρ, pa, x, T1, N, h1, fun v G1 ad1 H1 x1 r1 => ?_⟩
  split at h2
  · split at h2
    · rename_i hc
      cases h2
      have hc := of_dc hc
      refine ⟨_, ?_, hc.2, kk _ G1 ad1 H1 x1 (.str _)⟩
      rw [r1.inv_int, Int.toNat_of_nonneg hc.1]
    · cases h2
  · cases h2
/-! ### int(text, 2) -/
def rInt2 : List V → Hp → VK → Prop := fun xs H Q => ∃ z : Str, xs = [.str z, .int 2] ∧ z.length ≤ 640 ∧ (∀ c ∈ z.cps.toList, Bx.IsBin c) ∧ z.cps.toList ≠ [] ∧ Q (.int ((Bx.binNum z.cps.toList : Nat) : Int)) H
theorem call_int2 : CallR X (.type "int") rInt2 := by
  intro pins s σ H xs us Q I rs ⟨z, ex, h1, h2, h3, q⟩
  subst ex
  obtain ⟨u, w, rfl, ⟨t, rfl⟩, ⟨t2, rfl⟩⟩ := Vals.two rs
  exact Bx.call_bin h1 h2 h3 ⟨.int ((Bx.binNum z.cps.toList : Nat) : Int), H, I.tok _, ⟨s.toks, rfl⟩, q⟩
noncomputable def int2D : List D → Option D
  | [.str z, .int i] => if dc (i = 2 ∧ z.length ≤ 640 ∧ (∀ c ∈ z.cps.toList, Bx.IsBin c) ∧ z.cps.toList ≠ []) then some (.int ((Bx.binNum z.cps.toList : Nat) : Int)) else none
  | _ => none
theorem ok_int2 {K : PySem.W.Frag} : OkC K rInt2 int2D := fun Z G ad T ρ σ H pa vs ds z Q N r hg k => by
  unfold int2D at hg
  split at hg
  · split at hg
    · rename_i hc
      cases hg
      have hc := of_dc hc
      obtain ⟨v, w, rfl, h1, h2⟩ := r.two
      refine ⟨_, ?_, hc.2.1, hc.2.2.1, hc.2.2.2, k _ G ad H N.nx (.int _)⟩
      rw [h1.inv_str, h2.inv_int, hc.1]
    · cases hg
  · cases hg
/-! ### text.join(xs), text.zfill(n) -/
def OkM (K : PySem.W.Frag) (r : V → List V → Hp → VK → Prop) (g : Str → D → Option D) : Prop := ∀ (Z : Zc) (G : Hp) (ad : List Addr) (T : Tm) (ρ : Rho) (σ : L2.St) (H : Hp) (pa : Nat → Addr) (z : Str) (w : V) (y u : D) (Q : VK),
  En K Z G ad T ρ σ H pa → Rp K G ad w y → g z y = some u → (∀ x G' ad' H', Nx K Z G ad H ρ σ pa T G' ad' H' → Rp K G' ad' x u → Q x H') → r (.str z) [w] H Q
def m1F (g : Str → D → Option D) (f1 f2 : FE) : FE := fun ρ T => bindF (f1 ρ T) fun a T1 => match a with
  | .str s => bindF (f2 ρ T1) fun b T2 => (g s b).map fun d => (d, T2)
  | _ => none
theorem xe_m1 {e : Expr} {r : V → List V → Hp → VK → Prop} {g : Str → D → Option D} {f1 f2 : FE} (h : PE X e (tM1 r (tD X.K f1) (tD X.K f2))) (hr : OkM X.K r g) : XE X e (m1F g f1 f2) := pe_weak h fun σ H Q h => by
  obtain ⟨Z, G, ad, T, ρ, pa, d, T', N, hf, k⟩ := h
  obtain ⟨a, T1, h1, h2⟩ := bindF_eq hf
  cases a with
  | str s =>
    obtain ⟨b, T2, h3, h4⟩ := bindF_eq h2
    obtain ⟨u, h5, h6⟩ := Option.map_eq_some_iff.mp h4
    cases h6
    refine ⟨Z, G, ad, T, ρ, pa, .str s, T1, N, h1, fun v G1 ad1 H1 x1 r1 => ?_⟩
    have := r1.inv_str
    subst this
    exact ⟨⟨s, rfl⟩, Z, G1, ad1, T1, ρ, pa, b, _, x1.en, h3, fun w G2 ad2 H2 x2 r2 => hr Z G2 ad2 _ ρ σ H2 pa s w b _ Q x2.en r2 h5 fun y G3 ad3 H3 x3 r3 => k y G3 ad3 H3 ((x1.trans x2).trans x3) r3⟩
  | _ => cases h2
def txts : List D → Option (List Str)
  | [] => some []
  | .str z :: r => (txts r).map (z :: ·)
  | _ :: _ => none
theorem txts_rel {K : PySem.W.Frag} {G : Hp} {ad : List Addr} : ∀ {vs : List V} {ds : List D} {zs : List Str}, RpL K G ad vs ds → txts ds = some zs → vs = zs.map V.str
  | _, _, _, .nil, h => by cases h; rfl
  | _, _, _, .cons (d := d) h t, e => by
    cases d with
    | str z =>
      obtain ⟨r, h1, h2⟩ := Option.map_eq_some_iff.mp e
      cases h2
      rw [h.inv_str, txts_rel t h1]
      rfl
    | _ => cases e
theorem txts_map (zs : List Str) : txts (zs.map D.str) = some zs := by
  induction zs with
  | nil => rfl
  | cons z zs ih => show (txts (zs.map D.str)).map (z :: ·) = _; rw [ih]; rfl
noncomputable def joinL (s : Str) (ds : List D) : Option D := match txts ds with
  | some zs => if dc ((zs.map fun x => x.length).sum + zs.length * s.length ≤ 16777216) then some (.str (Txt.join s zs)) else none
  | none => none
noncomputable def joinD : Str → D → Option D := fun s y => match y with
  | .tup ds => joinL s ds
  | .lst ds => joinL s ds
  | .frl ds => joinL s ds
  | _ => none
theorem ok_join {K : PySem.W.Frag} : OkM K (fun x xs H Q => ∃ a p ys, x = V.str a ∧ xs = [V.ref p] ∧ (SqL K H p (List.map V.str ys) ∨ SqT K H p (List.map V.str ys)) ∧ (List.map (fun x => x.length) ys).sum + ys.length * a.length ≤ 16777216 ∧ Q (V.str (Txt.join a ys)) H) joinD := fun Z G ad T ρ σ H pa z w y u Q N r hg k => by
  have key : ∀ {ds : List D} {vs : List V} {p : Addr}, RpL K G ad vs ds → joinL z ds = some u → (SqL K H p vs ∨ SqT K H p vs) → w = .ref p → ∃ a p ys, V.str z = V.str a ∧ [w] = [V.ref p] ∧ (SqL K H p (List.map V.str ys) ∨ SqT K H p (List.map V.str ys)) ∧ (List.map (fun x => x.length) ys).sum + ys.length * a.length ≤ 16777216 ∧ Q (V.str (Txt.join a ys)) H := fun {ds vs p} hr hj hs hw => by
    unfold joinL at hj
    split at hj
    · rename_i zs hz
      split at hj
      · rename_i hc
        cases hj
        have e := txts_rel hr hz
        subst e hw
        exact ⟨z, p, zs, rfl, rfl, hs, of_dc hc, k _ G ad H N.nx (.str _)⟩
      · cases hj
    · cases hj
  unfold joinD at hg
  split at hg
  · obtain ⟨a, vs, rfl, h1, h2⟩ := r.inv_tup
    exact key h2 hg (.inr (N.iv.tup h1)) rfl
  · obtain ⟨a, vs, rfl, h1, h2⟩ := r.inv_lst
    exact key h2 hg (.inl (.inl (.inl (N.iv.ex _ _ h1)))) rfl
  · obtain ⟨a, vs, rfl, h1, h2⟩ := r.inv_frl
    exact key h2 hg (.inl (N.iv.seq h1)) rfl
  · cases hg
noncomputable def zfillD : Str → D → Option D := fun s y => match y with
  | .int i => if dc (PadOk i = true) then some (.str (Txt.zfill s i)) else none
  | _ => none
theorem ok_zfill {K : PySem.W.Frag} : OkM K (fun x xs H Q => ∃ a i, x = V.str a ∧ xs = [V.int i] ∧ PadOk i = true ∧ Q (V.str (Txt.zfill a i)) H) zfillD := fun Z G ad T ρ σ H pa z w y u Q N r hg k => by
  unfold zfillD at hg
  split at hg
  · split at hg
    · rename_i hc
      cases hg
      exact ⟨z, _, rfl, by rw [r.inv_int], of_dc hc, k _ G ad H N.nx (.str _)⟩
    · cases hg
  · cases hg
/-! ### x[::-1] -/
def bk2F (fo : FO) : FE := fun ρ T => bindF (fo ρ T) fun o T' => match seqD T' o with
  | some (false, ds) => some (.lst ds.reverse, T')
  | some (true, ds) => some (.tup ds.reverse, T')
  | none => match o with
    | .val (.str s) => if s.length ≤ sizeLine then some (.str (revS s), T') else none
    | _ => none
theorem PE.or3 {e : Expr} {t t' t'' : TE} (h : PE X e t) (h' : PE X e t') (h'' : PE X e t'') : PE X e (fun σ H Q => t σ H Q ∨ t' σ H Q ∨ t'' σ H Q) := PE.or h (PE.or h' h'')
theorem xe_bk2 {e : Expr} {fo : FO} {k : Nat} {p1 p2 p3 pos : Pos} (he : XO X e fo) : XE X (.Subscript e (.Slice none none (some (.UnaryOp .USub (.Constant (.int 1) k p1) p2)) p3) pos) (bk2F fo) := by
  refine pe_weak (PE.or3 (pe_backT he) (pe_revL he) (pe_backS he)) fun σ H Q h => ?_
  obtain ⟨Z, G, ad, T, ρ, pa, d, T', N, hf, kk⟩ := h
  obtain ⟨o, T1, h1, h2⟩ := bindF_eq hf
  split at h2
  · rename_i ds hs
    cases h2
    refine .inr (.inl ⟨Z, G, ad, T, ρ, pa, o, _, N, h1, fun v G1 ad1 H1 x1 r1 => ?_⟩)
    obtain ⟨p, vs, rfl, hr, hl, ht⟩ := seq_rel x1.en r1 hs
    refine ⟨p, vs, rfl, hl rfl, fun q hq => ?_⟩
    have x4 := x1.en.knowN hq (.lst vs.reverse)
    exact kk _ _ _ _ (x1.trans x4) (.lst upd_same (x4.rpl hr.reverse))
  · rename_i ds hs
    cases h2
    refine .inl ⟨Z, G, ad, T, ρ, pa, o, _, N, h1, fun v G1 ad1 H1 x1 r1 => ?_⟩
    obtain ⟨p, vs, rfl, hr, hl, ht⟩ := seq_rel x1.en r1 hs
    refine ⟨p, vs, rfl, ht rfl, fun q o hq hd => ?_⟩
    have x4 := x1.en.knowN hq (.frz o (.tup vs.reverse))
    exact kk _ _ _ _ (x1.trans x4) (.tup (TupK.new hd) (x4.rpl hr.reverse))
  · split at h2
    · split at h2
      · rename_i hz
        cases h2
        refine .inr (.inr ⟨Z, G, ad, T, ρ, pa, _, _, N, h1, fun v G1 ad1 H1 x1 r1 => ?_⟩)
        exact ⟨_, Rp.inv_str r1, hz, kk _ G1 ad1 H1 x1 (.str _)⟩
      · cases h2
    · cases h2
/-! ### a walk over a text too -/
def chars (z : Str) : List D := z.cps.toList.map fun c => .str ⟨#[c]⟩
def itU2 (f : FE) : FA := fun ρ T => bindF (f ρ T) fun d T' => match d with
  | .tup ds => some (ds, T')
  | .lst ds => some (ds, T')
  | .frl ds => some (ds, T')
  | .str z => some (chars z, T')
  | _ => none
theorem itOk_str {K : PySem.W.Frag} {G0 : Hp} {ad0 : List Addr} (z : Str) : ItOk K (Its z) G0 ad0 (chars z) where
  go := fun Z G ad T ρ σ H pa m N e p hi => by
    unfold chars at hi
    rw [List.length_map, Array.length_toList] at hi
    exact hi
  stop := fun Z G ad T ρ σ H pa m N e p hi => by
    unfold chars at hi
    rw [List.length_map, Array.length_toList] at hi
    exact hi
  yld := fun Z G ad T ρ σ H pa m x H' N e p hi y => by
    obtain ⟨rfl, c, hc, rfl⟩ := y
    refine ⟨G, .str ⟨#[c]⟩, N.nx, ?_, .str _⟩
    unfold chars
    rw [List.getElem?_map, Array.getElem?_toList, hc]
    rfl
theorem xi_seq2 {tg e : Expr} {f : FE} (h : XE X e f) : XI X tg e (itU2 f) := pi_weak (PI.or (xi_seq (tg := tg) h) (pi_str (tg := tg) h)) fun σ H R h => by
  obtain ⟨Z, G, ad, T, ρ, pa, ds, T', N, hf, k⟩ := h
  obtain ⟨d, T1, h1, h2⟩ := bindF_eq hf
  split at h2
  · cases h2
    exact .inl ⟨Z, G, ad, T, ρ, pa, ds, _, N, by unfold itU; rw [h1]; rfl, k⟩
  · cases h2
    exact .inl ⟨Z, G, ad, T, ρ, pa, ds, _, N, by unfold itU; rw [h1]; rfl, k⟩
  · cases h2
    exact .inl ⟨Z, G, ad, T, ρ, pa, ds, _, N, by unfold itU; rw [h1]; rfl, k⟩
  · cases h2
    refine .inr ⟨Z, G, ad, T, ρ, pa, _, _, N, h1, fun v G1 ad1 H1 x1 r1 => ?_⟩
    exact ⟨_, r1.inv_str, k _ G1 ad1 H1 x1 (itOk_str _)⟩
  · cases h2
/-! ### bit_length, wide shifts -/
def bitsF (f : FE) : FE := fun ρ T => bindF (f ρ T) fun d T' => match d with
  | .int i => some (.int (Builtin.Int.intBits i), T')
  | _ => none
theorem xe_bits {o : Expr} {f : FE} {apos pos : Pos} (h : XE X o f) (hb : attributeBase o (Str.ofString "bit_length") X.env (eval o X.env) = eval o X.env := by rfl) (hl : (apos.endLine == pos.line) = true := by rfl) :
    XE X (.Call (.Attribute o (Str.ofString "bit_length") apos) [] [] pos) (bitsF f) := pe_weak (pe_bits h hb hl) fun σ H Q h => by
  obtain ⟨Z, G, ad, T, ρ, pa, d, T', N, hf, k⟩ := h
  obtain ⟨x, T1, h1, h2⟩ := bindF_eq hf
  refine ⟨Z, G, ad, T, ρ, pa, x, T1, N, h1, fun v G1 ad1 H1 x1 r1 => ?_⟩
  split at h2
  · cases h2
    exact ⟨_, r1.inv_int, k _ G1 ad1 H1 x1 (.int _)⟩
  · cases h2
noncomputable def cShl : Int → Int → Bool := fun i j => dc (0 ≤ j ∧ ((Builtin.Int.intBits i : Nat) : Int) + j ≤ 2 ^ 27)
theorem cShl_ok (i j : Int) (h : cShl i j = true) : CShl i j := of_dc h
noncomputable abbrev shwD := iiF cShl fun i j => .int (i * 2 ^ j.toNat)
theorem xe_shw {a b : Expr} {f1 f2 : FE} {pos : Pos} (h1 : XE X a f1) (h2 : XE X b f2) : XE X (.BinOp a .LShift b pos) (binF shwD f1 f2) := xe_op op_shlW (ok_ii cShl_ok fun _ _ _ _ => .int _) h1 h2
/-! ### range(a, b, c) -/
def rngD (i c : Int) (n : Nat) : List D := (List.range n).map fun (k : Nat) => .int (i + (k : Int) * c)
noncomputable def rng3 (fs : FA) : FA := fun ρ T => bindF (fs ρ T) fun ds T' => match ds with
  | [.int i, .int j, .int c] => if dc (RgC i j c (Builtin.Range.rangeSize i j c).toNat) then some (rngD i c (Builtin.Range.rangeSize i j c).toNat, T') else none
  | _ => none
theorem itOk_rng3 {K : PySem.W.Frag} {G0 : Hp} {ad0 : List Addr} (i c : Int) (n : Nat) : ItOk K (Itc i c n) G0 ad0 (rngD i c n) where
  go := fun Z G ad T ρ σ H pa m N e p hi => by
    unfold rngD at hi
    rw [List.length_map, List.length_range] at hi
    exact hi
  stop := fun Z G ad T ρ σ H pa m N e p hi => by
    unfold rngD at hi
    rw [List.length_map, List.length_range] at hi
    exact hi
  yld := fun Z G ad T ρ σ H pa m x H' N e p hi y => by
    obtain ⟨rfl, rfl⟩ := y
    unfold rngD at hi
    rw [List.length_map, List.length_range] at hi
    refine ⟨G, .int (i + (m : Int) * c), N.nx, ?_, .int _⟩
    unfold rngD
    rw [List.getElem?_map, List.getElem?_range hi]
    rfl
theorem RpL.three {K : PySem.W.Frag} {G : Hp} {ad : List Addr} {vs : List V} {d e f : D} (r : RpL K G ad vs [d, e, f]) : ∃ v w u, vs = [v, w, u] ∧ Rp K G ad v d ∧ Rp K G ad w e ∧ Rp K G ad u f := by
  cases r with
  | cons h t =>
    obtain ⟨w, u, rfl, h2, h3⟩ := t.two
    exact ⟨_, w, u, rfl, h, h2, h3⟩
theorem xi_rng3 {tg e : Expr} {fs : FA} (h : PI X tg e (iRng3 (tDA X.K fs))) : XI X tg e (rng3 fs) := pi_weak h fun σ H R h => by
  obtain ⟨Z, G, ad, T, ρ, pa, ds, T', N, hf, k⟩ := h
  obtain ⟨d, T1, h1, h2⟩ := bindF_eq hf
  refine ⟨Z, G, ad, T, ρ, pa, d, T1, N, h1, fun vs G1 ad1 H1 x1 r1 => ?_⟩
  split at h2
  · split at h2
    · rename_i hc
      cases h2
      obtain ⟨v, w, u, rfl, q1, q2, q3⟩ := r1.three
      exact ⟨_, _, _, _, by rw [q1.inv_int, q2.inv_int, q3.inv_int], of_dc hc, k _ G1 ad1 H1 x1 (itOk_rng3 _ _ _)⟩
    · cases h2
  · cases h2
end
end Fx
namespace Fx
open PySem PySem.Spec PyProof.Rows L2
/-! ### gcd, lcm -/
def gcdD : List D → Option D
  | [.int i, .int j] => some (.int ((i.natAbs.gcd j.natAbs : Nat) : Int))
  | _ => none
theorem ok_gcd {K : PySem.W.Frag} : OkC K rGcd gcdD := fun Z G ad T ρ σ H pa vs ds z Q N r hg k => by
  unfold gcdD at hg
  split at hg
  · cases hg
    obtain ⟨v, w, rfl, h1, h2⟩ := r.two
    exact ⟨_, _, by rw [h1.inv_int, h2.inv_int], k _ G ad H N.nx (.int _)⟩
  · cases hg
def rLcm : List V → Hp → VK → Prop := fun vs H Q => ∃ a b : Int, vs = [.int a, .int b] ∧ a.natAbs < 2 ^ 64 ∧ b.natAbs < 2 ^ 64 ∧ Q (.int ((a.natAbs.lcm b.natAbs : Nat) : Int)) H
theorem cr_lcm {X : Cx} : CallR X (.builtin "math.lcm") rLcm := by
  intro pins s σ H xs us Q I rs ⟨a, b, ex, h1, h2, q⟩
  subst ex
  obtain ⟨u, w, rfl, ⟨t, rfl⟩, ⟨t2, rfl⟩⟩ := Vals.two rs
  exact PySem.W.mc_lcm h1 h2 fun _ => ⟨.int _, H, I.tok _, ⟨s.toks, rfl⟩, q⟩
noncomputable def lcmD : List D → Option D
  | [.int i, .int j] => if dc (i.natAbs < 2 ^ 64 ∧ j.natAbs < 2 ^ 64) then some (.int ((i.natAbs.lcm j.natAbs : Nat) : Int)) else none
  | _ => none
theorem ok_lcm {K : PySem.W.Frag} : OkC K rLcm lcmD := fun Z G ad T ρ σ H pa vs ds z Q N r hg k => by
  unfold lcmD at hg
  split at hg
  · split at hg
    · rename_i hc
      cases hg
      obtain ⟨v, w, rfl, h1, h2⟩ := r.two
      exact ⟨_, _, by rw [h1.inv_int, h2.inv_int], (of_dc hc).1, (of_dc hc).2, k _ G ad H N.nx (.int _)⟩
    · cases hg
  · cases hg
end Fx
namespace Fx
open PySem PySem.Spec PyProof.Rows L2
open Evl (Ex)
/-! ### objects that change -/
section
variable {K : PySem.W.Frag} {Z : Zc} {G G' : Hp} {ad ad' : List Addr} {T T' : Tm} {ρ : Rho} {σ : L2.St} {H H' : Hp} {pa : Nat → Addr} {p : Addr} {ds : List D}
theorem En.mo (N : En K Z G ad T ρ σ H pa) {k : Nat} {a : Addr} (hk : ad[k]? = some a) {m : MO} (h : T[k]? = some m) : MoR K G ad H a m := N.iv.obj k a m hk h
theorem En.ob_val {v : V} {k : Nat} (N : En K Z G ad T ρ σ H pa) (r : Rp K G ad v (.ob k)) {m : MO} (h : T[k]? = some m) : ∃ a, v = .ref a ∧ ad[k]? = some a ∧ MoR K G ad H a m := by
  obtain ⟨a, rfl, h1⟩ := r.inv_ob
  exact ⟨a, rfl, h1, N.mo h1 h⟩
/-- an object at k is written -/
theorem En.putN (N : En K Z G ad T ρ σ H pa) {k : Nat} {a : Addr} (hk : ad[k]? = some a) {o : HO} {m : MO} (hr : MoR K G ad (upd H a o) a m) : Nx K Z G ad H ρ σ pa (T.set k m) G ad (upd H a o) where
  en := N.putM hk hr
  gr := ⟨Ex.refl _, Pre.refl _, fun b u h hb => by
    have : b ≠ a := fun e => hb (e ▸ List.mem_of_getElem? hk)
    rw [upd_ne this]
    exact h, fun _ _ h => .inl h, fun _ h => .inl h⟩
end
def objE (f : FA) : FE := fun ρ T => bindF (f ρ T) fun ds T' => some (.ob T'.length, T' ++ [.lst ds])
/-- the list that an operand is -/
def lstO (T : Tm) : D → Option (Nat × List D)
  | .ob k => match T[k]? with
    | some (.lst ds) => some (k, ds)
    | _ => none
  | _ => none
theorem lstO_eq {T : Tm} {d : D} {k : Nat} {ds : List D} (h : lstO T d = some (k, ds)) : d = .ob k ∧ T[k]? = some (.lst ds) := by
  unfold lstO at h
  split at h
  · split at h
    · cases h
      exact ⟨rfl, by assumption⟩
    · cases h
  · cases h
/-- o.append(x) -/
def appOF (fo f : FE) : FE := fun ρ T => bindF (fo ρ T) fun o T1 => bindF (f ρ T1) fun d T2 => match lstO T1 o, lstO T2 o with
  | some _, some (k, ds) => if ds.length < sizeLine then some (.non, T2.set k (.lst (ds ++ [d]))) else none
  | _, _ => none
/-- o.pop() -/
def popF (fo : FE) : FE := fun ρ T => bindF (fo ρ T) fun o T1 => match lstO T1 o with
  | some (k, ds) => match ds[ds.length - 1]? with
    | some d => some (d, T1.set k (.lst ds.dropLast))
    | none => none
  | none => none
/-- o.extend(new list) -/
def extF (fo : FE) (fl : FA) : FE := fun ρ T => bindF (fo ρ T) fun o T1 => bindF (fl ρ T1) fun es T2 => match lstO T1 o, lstO T2 o with
  | some _, some (k, ds) => if ds.length + es.length ≤ sizeLine then some (.non, T2.set k (.lst (ds ++ es))) else none
  | _, _ => none
theorem RpL.dropLast {K : PySem.W.Frag} {G : Hp} {ad : List Addr} {vs : List V} {ds : List D} (h : RpL K G ad vs ds) : RpL K G ad vs.dropLast ds.dropLast := by
  rw [List.dropLast_eq_take, List.dropLast_eq_take, h.length]
  exact h.take _
section
variable {X : Cx} {a b c e : Expr} {es : List Expr} {pos : Pos} {f f1 f2 fo : FE} {fs : FA} {st : Stmt}
theorem xe_obj (h : XL X a fs) : XE X a (objE fs) := pe_weak h fun σ H Q h => by
  obtain ⟨Z, G, ad, T, ρ, pa, o, T', N, hf, k⟩ := h
  obtain ⟨ds, T1, h1, h2⟩ := bindF_eq hf
  cases h2
  refine ⟨Z, G, ad, T, ρ, pa, ds, _, N, h1, fun p G' ad' H' x w hp => ?_⟩
  obtain ⟨N2, p2, r2⟩ := x.en.join w
  refine k _ G' (ad' ++ [p]) H' ⟨N2, x.gr.ex, x.gr.pr.trans p2, x.gr.fr, x.gr.nG, fun a h => ?_⟩ r2
  rcases List.mem_append.mp h with h | h
  · exact x.gr.nA a h
  · rw [List.mem_singleton.mp h]
    exact .inr hp
theorem xe_appO (h : PE X e (tBM X.K "list" rAppend (tD X.K fo) (tCons (tD X.K f) tNil))) : XE X e (appOF fo f) := pe_weak h fun σ H Q h => by
  obtain ⟨Z, G, ad, T, ρ, pa, d, T', N, hf, k⟩ := h
  obtain ⟨o, T1, h1, h2⟩ := bindF_eq hf
  obtain ⟨y, T2, h3, h4⟩ := bindF_eq h2
  refine ⟨Z, G, ad, T, ρ, pa, o, T1, N, h1, fun v G1 ad1 H1 x1 r1 => ?_⟩
  split at h4
  · rename_i q kk ds e1 e2
    obtain ⟨k1, ds1⟩ := q
    obtain ⟨rfl, t1⟩ := lstO_eq e1
    obtain ⟨ek, t2⟩ := lstO_eq e2
    cases ek
    split at h4
    · rename_i hz
      cases h4
      obtain ⟨p, rfl, hk, vs, hv, rv⟩ := x1.en.ob_val r1 t1
      refine ⟨.inl ⟨rfl, vs, .inl (.inl hv)⟩, Z, G1, ad1, T1, ρ, pa, y, T2, x1.en, h3, fun w G2 ad2 H2 x2 r2 => ?_⟩
      have hk2 := x2.gr.pr _ _ hk
      obtain ⟨us, hu, ru⟩ := x2.en.mo hk2 t2
      refine ⟨p, us, w, rfl, rfl, hu, by rw [ru.length]; exact hz, ?_⟩
      have x3 := x2.en.putN (m := .lst (ds ++ [y])) (o := .lst (us ++ [w])) hk2 ⟨_, upd_same, ru.append (.cons r2 .nil)⟩
      exact k _ G2 ad2 _ ((x1.trans x2).trans x3) .non
    · cases h4
  · cases h4
theorem xe_pop (h : PE X e (tBM0 X.K "list" rPop (tD X.K fo))) : XE X e (popF fo) := pe_weak h fun σ H Q h => by
  obtain ⟨Z, G, ad, T, ρ, pa, d, T', N, hf, k⟩ := h
  obtain ⟨o, T1, h1, h2⟩ := bindF_eq hf
  refine ⟨Z, G, ad, T, ρ, pa, o, T1, N, h1, fun v G1 ad1 H1 x1 r1 => ?_⟩
  split at h2
  · rename_i kk ds e1
    obtain ⟨rfl, t1⟩ := lstO_eq e1
    split at h2
    · rename_i y hy
      cases h2
      obtain ⟨p, rfl, hk, vs, hv, rv⟩ := x1.en.ob_val r1 t1
      obtain ⟨u, hu, ru⟩ := rv.get hy
      refine ⟨.inl ⟨rfl, vs, .inl (.inl hv)⟩, p, vs, u, rfl, rfl, hv, by rw [rv.length]; exact hu, ?_⟩
      have x3 := x1.en.putN (m := .lst ds.dropLast) (o := .lst vs.dropLast) hk ⟨_, upd_same, rv.dropLast⟩
      exact k _ G1 ad1 _ (x1.trans x3) ru
    · cases h2
  · cases h2
theorem xe_ext (h : PE X e (tBM X.K "list" rExtend (tD X.K fo) (tCons (tDL X.K fs) tNil))) : XE X e (extF fo fs) := pe_weak h fun σ H Q h => by
  obtain ⟨Z, G, ad, T, ρ, pa, d, T', N, hf, k⟩ := h
  obtain ⟨o, T1, h1, h2⟩ := bindF_eq hf
  obtain ⟨es, T2, h3, h4⟩ := bindF_eq h2
  refine ⟨Z, G, ad, T, ρ, pa, o, T1, N, h1, fun v G1 ad1 H1 x1 r1 => ?_⟩
  split at h4
  · rename_i q kk ds e1 e2
    obtain ⟨k1, ds1⟩ := q
    obtain ⟨rfl, t1⟩ := lstO_eq e1
    obtain ⟨ek, t2⟩ := lstO_eq e2
    cases ek
    split at h4
    · rename_i hz
      cases h4
      obtain ⟨p, rfl, hk, vs, hv, rv⟩ := x1.en.ob_val r1 t1
      refine ⟨.inl ⟨rfl, vs, .inl (.inl hv)⟩, Z, G1, ad1, T1, ρ, pa, es, T2, x1.en, h3, fun q G2 ad2 H2 x2 w2 hq => ?_⟩
      have hk2 := x2.gr.pr _ _ hk
      obtain ⟨us, hu, ru⟩ := x2.en.mo hk2 t2
      obtain ⟨ws, hw, rw_⟩ := w2.at_
      refine ⟨p, q, us, ws, rfl, rfl, hu, hw, by rw [ru.length, rw_.length]; exact hz, ?_⟩
      have x3 := x2.en.putN (m := .lst (ds ++ es)) (o := .lst (us ++ ws)) hk2 ⟨_, upd_same, ru.append rw_⟩
      exact k _ G2 ad2 _ ((x1.trans x2).trans x3) .non
    · cases h4
  · cases h4
end
/-! ### attributes -/
def fldD (T : Tm) (cs : List String) (f : String) : D → Option D
  | .ob k => match T[k]? with
    | some (.ins c fs) => if cs.contains c then fs.lookup f else none
    | _ => none
  | _ => none
def fldF (cs : List String) (f : String) (fo : FE) : FE := fun ρ T => bindF (fo ρ T) fun d T' => (fldD T' cs f d).map fun x => (x, T')
/-- the classes have no attribute of their own of the name -/
def NoA (K : PySem.W.Frag) (cs : List String) (f : String) : Prop := f ∈ nmT ∧ ∀ c ∈ cs, ∀ C, ClsA K c C → Cls K C ∧ NoAttr K C (Str.ofString f)
theorem fldD_eq {T : Tm} {cs : List String} {f : String} {d x : D} (h : fldD T cs f d = some x) : ∃ k c fs, d = .ob k ∧ T[k]? = some (.ins c fs) ∧ c ∈ cs ∧ fs.lookup f = some x := by
  unfold fldD at h
  split at h
  · split at h
    · split at h
      · rename_i hm hc
        exact ⟨_, _, _, rfl, by assumption, by simpa using hc, h⟩
      · cases h
    · cases h
  · cases h
/-- o.f = e -/
def fldS (cs : List String) (f : String) (fo fv : FE) : FS := fun ρ T => bindF (fv ρ T) fun y T1 => bindF (fo ρ T1) fun d T2 => match d with
  | .ob k => match T2[k]? with
    | some (.ins c fs) => if cs.contains c && decide (fs.length < 1000) then some (.nx ρ, T2.set k (.ins c (putD f y fs))) else none
    | _ => none
  | _ => none
/-- o.f += e, of ints -/
def fldA (cs : List String) (f : String) (g : Int → Int → Int) (fo fv : FE) : FS := fun ρ T => bindF (fo ρ T) fun d T1 => match d with
  | .ob k => match T1[k]? with
    | some (.ins c fs) => if cs.contains c then (match fs.lookup f with
      | some (.int i) => bindF (fv ρ T1) fun y T2 => match y, T2[k]? with
        | .int j, some (.ins c' fs') => if c' = c ∧ fs'.length < 1000 then some (.nx ρ, T2.set k (.ins c (putD f (.int (g i j)) fs'))) else none
        | _, _ => none
      | _ => none) else none
    | _ => none
  | _ => none
section
variable {X : Cx} {a b c e : Expr} {es : List Expr} {pos pos' tpos : Pos} {f f1 f2 fo fv : FE} {fs : FA} {st : Stmt} {cs : List String} {nm : String}
theorem xe_fld (A : NoA X.K cs nm) (h : XE X e fo) (hb : attributeBase e (Str.ofString nm) X.env (eval e X.env) = eval e X.env := by rfl) : XE X (.Attribute e (Str.ofString nm) pos) (fldF cs nm fo) := pe_weak (pe_fld h hb) fun σ H Q h => by
  obtain ⟨Z, G, ad, T, ρ, pa, d, T', N, hf, k⟩ := h
  obtain ⟨o, T1, h1, h2⟩ := bindF_eq hf
  obtain ⟨x, h3, h4⟩ := Option.map_eq_some_iff.mp h2
  cases h4
  refine ⟨Z, G, ad, T, ρ, pa, o, _, N, h1, fun v G1 ad1 H1 x1 r1 => ?_⟩
  obtain ⟨kk, c, fs, rfl, t1, hc, hl⟩ := fldD_eq h3
  obtain ⟨p, rfl, hk, C, dx, us, hv, hC, hfs⟩ := x1.en.ob_val r1 t1
  obtain ⟨cl, na⟩ := A.2 c hc C hC
  obtain ⟨u, hu, ru⟩ := hfs.get A.1 hl
  exact ⟨p, C, dx, us, u, rfl, hv, cl, na, hu, k u G1 ad1 H1 x1 ru⟩
theorem xs_fld (A : NoA X.K cs nm) (h : XE X e fo) (hv : XE X a fv) (hs : swapsWith a (some (.Attribute e (Str.ofString nm) pos')) pos.line X.env = pure false := by rfl) : XS X (.Assign [.Attribute e (Str.ofString nm) pos'] a pos) (fldS cs nm fo fv) := ps_weak (ps_fld h hv hs) fun D σ H h => by
  obtain ⟨Z, G, ad, T, ρ, pa, r, T', N, hf, k⟩ := h
  obtain ⟨y, T1, h1, h2⟩ := bindF_eq hf
  obtain ⟨d, T2, h3, h4⟩ := bindF_eq h2
  refine ⟨Z, G, ad, T, ρ, pa, y, T1, N, h1, fun v G1 ad1 H1 x1 r1 => ⟨Z, G1, ad1, T1, ρ, pa, d, T2, x1.en, h3, fun w G2 ad2 H2 x2 r2 => ?_⟩⟩
  split at h4
  · split at h4
    · rename_i kk c fs t2
      split at h4
      · rename_i hz
        cases h4
        rw [Bool.and_eq_true] at hz
        obtain ⟨p, rfl, hk, C, dx, us, hu, hC, hfs⟩ := x2.en.ob_val r2 t2
        obtain ⟨cl, na⟩ := A.2 c (by simpa using hz.1) C hC
        refine ⟨p, C, dx, us, rfl, hu, cl, na, by rw [hfs.length]; exact of_decide_eq_true hz.2, ?_⟩
        have x3 := x2.en.putN (m := .ins c (putD nm y fs)) (o := .ins C dx (putF (Str.ofString nm) v us)) hk ⟨C, dx, _, upd_same, hC, hfs.put A.1 (x2.rp r1)⟩
        have x := (x1.trans x2).trans x3
        exact k σ G2 ad2 _ pa x.en x.gr.ex x.gr.pr
      · cases h4
    · cases h4
  · cases h4
theorem xs_fldA {op : Operator} {g : Int → Int → Int} (hop : InOp X op (fun x y H Q => ∃ i j, x = .int i ∧ y = .int j ∧ Q (.int (g i j)) H)) (A : NoA X.K cs nm) (h : XE X e fo) (hv : XE X a fv) : XS X (.AugAssign (.Attribute e (Str.ofString nm) tpos) op a pos) (fldA cs nm g fo fv) :=
  ps_weak (ps_fldaug h hv hop) fun D σ H h => by
  obtain ⟨Z, G, ad, T, ρ, pa, r, T', N, hf, k⟩ := h
  obtain ⟨d, T1, h1, h2⟩ := bindF_eq hf
  refine ⟨Z, G, ad, T, ρ, pa, d, T1, N, h1, fun v G1 ad1 H1 x1 r1 => ?_⟩
  split at h2
  · split at h2
    · rename_i kk c fs t1
      split at h2
      · rename_i hc
        split at h2
        · rename_i i hl
          obtain ⟨y, T2, h3, h4⟩ := bindF_eq h2
          obtain ⟨p, rfl, hk, C, dx, us, hu, hC, hfs⟩ := x1.en.ob_val r1 t1
          obtain ⟨cl, na⟩ := A.2 c (by simpa using hc) C hC
          obtain ⟨u, hu2, ru⟩ := hfs.get A.1 hl
          refine ⟨p, C, dx, us, u, rfl, hu, cl, na, hu2, Z, G1, ad1, T1, ρ, pa, y, T2, x1.en, h3, fun w G2 ad2 H2 x2 r2 => ?_⟩
          split at h4
          · rename_i j c' fs' t2
            split at h4
            · rename_i hz
              cases h4
              obtain ⟨rfl, hz⟩ := hz
              have hk2 := x2.gr.pr _ _ hk
              obtain ⟨C', dx', us', hu', hC', hfs'⟩ := x2.en.mo hk2 t2
              have eC : C' = C := by
                unfold ClsA at hC hC'
                rw [hC] at hC'
                cases hC'
                rfl
              subst eC
              refine ⟨i, j, ru.inv_int, r2.inv_int, dx', us', hu', by rw [hfs'.length]; exact hz, ?_⟩
              have x3 := x2.en.putN (m := .ins c' (putD nm (.int (g i j)) fs')) (o := .ins C' dx' (putF (Str.ofString nm) (.int (g i j)) us')) hk2 ⟨C', dx', _, upd_same, hC', hfs'.put A.1 (.int _)⟩
              have x := (x1.trans x2).trans x3
              exact k σ G2 ad2 _ pa x.en x.gr.ex x.gr.pr
            · cases h4
          · cases h4
        · cases h2
      · cases h2
    · cases h2
  · cases h2
end
end Fx
namespace Fx
open PySem PySem.Spec PyProof.Rows L2
open Evl (Ex)
/-! ### methods, instances -/
section
variable {K : PySem.W.Frag} {Z : Zc} {G G' : Hp} {ad ad' : List Addr} {T T' : Tm} {ρ : Rho} {σ : L2.St} {H H' : Hp} {pa : Nat → Addr} {p : Addr} {ds : List D}
/-- a new place that nobody knows yet -/
theorem En.fresh (N : En K Z G ad T ρ σ H pa) (hp : H p = none) (o : HO) : En K Z G ad T ρ σ (upd H p o) pa := by
  refine ⟨N.iv.mine (N.iv.freshG hp) (N.iv.fresh hp) (N.iv.freshE hp) _, N.hl, fun i s h => ?_, N.ne⟩
  have q := N.env i s h
  cases s with
  | un => trivial
  | dat d => exact q
  | own es =>
    obtain ⟨us, q1, q2, q3⟩ := q
    exact ⟨us, q1, by rw [upd_ne (ne_of_none q2 hp)]; exact q2, q3⟩
theorem En.joinM (N : En K Z G ad T ρ σ H pa) {m : MO} (g : G p = none) (a : p ∉ ad) (h : Z.He p = none) (o : ∀ (i : Nat) (es : List D), ρ[i]? = some (.own es) → pa i ≠ p) (hr : MoR K G ad H p m) : En K Z G (ad ++ [p]) (T ++ [m]) ρ σ H pa ∧ Pre ad (ad ++ [p]) ∧ Rp K G (ad ++ [p]) (.ref p) (.ob T.length) := by
  have pr : Pre ad (ad ++ [p]) := fun k a h => by
    rw [List.getElem?_append_left (List.getElem?_eq_some_iff.mp h).1]
    exact h
  refine ⟨⟨N.iv.joinM g a h hr, N.hl, fun i s h => ?_, N.ne⟩, pr, .ob ?_⟩
  · have q := N.env i s h
    cases s with
    | un => trivial
    | dat d =>
      obtain ⟨v, q1, q2⟩ := q
      exact ⟨v, q1, q2.mono (Ex.refl _) pr⟩
    | own es =>
      obtain ⟨us, q1, q2, q3, q4, q5, q6⟩ := q
      refine ⟨us, q1, q2, q3.mono (Ex.refl _) pr, q4, fun hm => ?_, q6⟩
      rcases List.mem_append.mp hm with hm | hm
      · exact q5 hm
      · exact o i es h (List.mem_singleton.mp hm)
  · rw [← N.iv.len]
    simp
/-- a new instance -/
theorem En.make (N : En K Z G ad T ρ σ H pa) {c : String} {C x dx : Addr} (hC : ClsA K c C) (hx : H x = none) (hd : H dx = none) (ne : dx ≠ x) :
    Nx K Z G ad H ρ σ pa (T ++ [.ins c []]) G (ad ++ [x]) (upd (upd H dx (.own x)) x (.ins C dx [])) ∧ Rp K G (ad ++ [x]) (.ref x) (.ob T.length) := by
  have N1 := N.fresh hd (.own x)
  have hx1 : upd H dx (.own x) x = none := by rw [upd_ne ne.symm]; exact hx
  have N2 := N1.fresh hx1 (.ins C dx [])
  have o : ∀ (i : Nat) (es : List D), ρ[i]? = some (.own es) → pa i ≠ x := fun i es h => by
    obtain ⟨ws, _, q, _⟩ := N.env i _ h
    exact ne_of_none q hx
  obtain ⟨N3, pr, r⟩ := N2.joinM (p := x) (m := .ins c []) (N.iv.freshG hx) (N.iv.fresh hx) (N.iv.freshE hx) o ⟨C, dx, [], upd_same, hC, .nil⟩
  refine ⟨⟨N3, Ex.refl _, pr, fun b u h _ => ?_, fun _ _ h => .inl h, fun a h => ?_⟩, r⟩
  · rw [upd_ne (ne_of_none h hx), upd_ne (ne_of_none h hd)]
    exact h
  · rcases List.mem_append.mp h with h | h
    · exact .inl h
    · rw [List.mem_singleton.mp h]
      exact .inr hx
end
structure MCal (P : Program) (w : World) (K : PySem.W.Frag) (mg : Str → Option Value) (base : Heap) (c m : String) (k n : Nat) (h : HF) : Prop where
  nm : m ∈ nmT
  ok : ∃ C f fd ps, ClsA K c C ∧ Cls K C ∧ Meth K C (Str.ofString m) f ∧ FnOk P w K mg base CX0 k f fd ps (Sf K n h) ∧ Binds K fd ps []
structure KCal (P : Program) (w : World) (K : PySem.W.Frag) (mg : Str → Option Value) (base : Heap) (c : String) (k n : Nat) (h : HF) : Prop where
  ok : ∃ C f fd ps, ClsA K c C ∧ mg (Str.ofString c) = some (.ref C) ∧ Mk K C f ∧ FnOk P w K mg base CX0 k f fd ps (Sf K n h) ∧ Binds K fd ps []
def methF (c m : String) (h : HF) (fo : FE) (fa : FA) : FE := fun ρ T => bindF (fo ρ T) fun d T1 => match d with
  | .ob k => match T1[k]? with
    | some (.ins c' fs) => if c' = c ∧ (fs.lookup m).isNone = true then bindF (fa ρ T1) fun ds T2 => h (.ob k :: ds) T2 else none
    | _ => none
  | _ => none
def mkF (c : String) (h : HF) (fa : FA) : FE := fun ρ T => bindF (fa ρ T) fun ds T1 => match h (.ob T1.length :: ds) (T1 ++ [.ins c []]) with
  | some (.non, T2) => some (.ob T1.length, T2)
  | _ => none
section
variable {X : Cx} {e o : Expr} {es : List Expr} {p pos apos : Pos} {f fo : FE} {fs : FA} {c m : String} {k n : Nat} {h : HF}
theorem meth_run {C : Addr} {σ : L2.St} {H : Hp} {Q : VK} {E : XK} (hm : m ∈ nmT) (hC : ClsA X.K c C) (hw : tD X.K (methF c m h fo fs) σ H Q) (hn : ∀ ρ T ds T', fs ρ T = some (ds, T') → ds.length + 1 = n) : tMeth C (Str.ofString m) (Sf X.K n h) [] E (tD X.K fo) (tDA X.K fs) σ H Q := by
  obtain ⟨Z, G, ad, T, ρ, pa, d, T', N, hf, k⟩ := hw
  obtain ⟨o, T1, h1, h2⟩ := bindF_eq hf
  refine ⟨Z, G, ad, T, ρ, pa, o, T1, N, h1, fun v G1 ad1 H1 x1 r1 => ?_⟩
  cases o with
  | ob kk =>
    cases t1 : T1[kk]? with
    | none => simp only [t1] at h2; cases h2
    | some mo =>
      cases mo with
      | lst ds => simp only [t1] at h2; cases h2
      | ins c' us =>
        simp only [t1] at h2
        split at h2
        · rename_i hc
          obtain ⟨rfl, hl⟩ := hc
          obtain ⟨ds, T2, h3, h4⟩ := bindF_eq h2
          obtain ⟨a, rfl, hk, C', dx, vs, hv, hC', hfs⟩ := x1.en.ob_val r1 t1
          have eC : C' = C := by
            unfold ClsA at hC hC'
            rw [hC] at hC'
            cases hC'
            rfl
          subst eC
          refine ⟨a, dx, vs, rfl, hv, hfs.none hm (Option.isNone_iff_eq_none.mp hl), Z, G1, ad1, T1, ρ, pa, ds, T2, x1.en, h3, fun ws G2 ad2 H2 x2 r2 => ?_⟩
          show Sf X.K n h (.ref a :: (ws ++ [])) H2 Q E
          rw [List.append_nil]
          refine ⟨by rw [List.length_cons, r2.length]; exact hn ρ T1 ds T2 h3, G2, ad2, T2, .ob kk :: ds, d, T', x2.en.iv.entry, .cons (x2.rp r1) r2, h4, fun u G3 ad3 H3 I3 r3 => ?_⟩
          exact k u G3 ad3 H3 ((x1.trans x2).trans (x2.en.after I3)) r3
        · cases h2
  | _ => cases h2
theorem xe_meth {pl : Sem Bool} (M : MCal X.prog X.w X.K X.mg X.base c m k n h) (hr : Room k X.A) (ho : XE X o fo) (ha : XA X (e :: es) fs) (hn : ∀ ρ T ds T', fs ρ T = some (ds, T') → ds.length + 1 = n)
    (hst : starEach (e :: es) X.env = (false, eval e X.env) :: starEach es X.env := by rfl) (hpl : (backTo pos (starEach es X.env)).any (·.1) = false := by rfl)
    (ht : eval (.Call (.Attribute o (Str.ofString m) apos) (e :: es) [] pos) X.env = (do
      let ov ← eval o X.env
      standAt apos.atName
      let (f, first) ← holding [ov] (getMethod ov (Str.ofString m) pl)
      callWith pos f first (backTo pos (starEach (e :: es) X.env)) (backToKw pos (keywordEach [] X.env))) := by rfl) :
    XE X (.Call (.Attribute o (Str.ofString m) apos) (e :: es) [] pos) (methF c m h fo fs) := by
  obtain ⟨C, f, fd, ps, hC, cl, hm, F, hb⟩ := M.ok
  exact pe_weak (pe_meth (pl := pl) ho cl hm F hr hb .nil pass0 ha hst hpl ht) fun σ H Q hw => meth_run M.nm hC hw hn
theorem xe_meth0 {pl : Sem Bool} (M : MCal X.prog X.w X.K X.mg X.base c m k 1 h) (hr : Room k X.A) (ho : XE X o fo)
    (ht : eval (.Call (.Attribute o (Str.ofString m) apos) [] [] pos) X.env = (do
      let ov ← eval o X.env
      standAt apos.atName
      let (f, first) ← holding [ov] (getMethod ov (Str.ofString m) pl)
      callWith pos f first (backTo pos (starEach [] X.env)) (backToKw pos (keywordEach [] X.env))) := by rfl) :
    XE X (.Call (.Attribute o (Str.ofString m) apos) [] [] pos) (methF c m h fo nilF) := by
  obtain ⟨C, f, fd, ps, hC, cl, hm, F, hb⟩ := M.ok
  refine pe_weak (pe_meth0 (pl := pl) ho cl hm F hr hb .nil pass0 ht) fun σ H Q hw => ?_
  obtain ⟨Z, G, ad, T, ρ, pa, d, T', N, hf, kq⟩ := meth_run (E := L2.E0) M.nm hC hw (fun ρ T ds T' h => by cases h; rfl)
  refine ⟨Z, G, ad, T, ρ, pa, d, T', N, hf, fun v G1 ad1 H1 x1 r1 => ?_⟩
  obtain ⟨a, dx, fs, ex, ea, l, Z2, G2, ad2, T2, ρ2, pa2, ds, T3, N2, hf2, kk⟩ := kq v G1 ad1 H1 x1 r1
  cases hf2
  exact ⟨a, dx, fs, ex, ea, l, kk [] G2 ad2 H1 N2.nx .nil⟩
/-- C(..) -/
theorem make_run {C : Addr} {σ : L2.St} {H : Hp} {Q : VK} {E : XK} (hC : ClsA X.K c C) (hw : tD X.K (mkF c h fs) σ H Q) (hn : ∀ ρ T ds T', fs ρ T = some (ds, T') → ds.length + 1 = n) : tMake C (Sf X.K n h) [] E (tDA X.K fs) σ H Q := by
  obtain ⟨Z, G, ad, T, ρ, pa, d, T', N, hf, k⟩ := hw
  obtain ⟨ds, T1, h1, h2⟩ := bindF_eq hf
  refine ⟨Z, G, ad, T, ρ, pa, ds, T1, N, h1, fun vs G1 ad1 H1 x1 r1 => fun x dx hx hd ne => ?_⟩
  split at h2
  · rename_i T2 h3
    cases h2
    obtain ⟨x2, r2⟩ := x1.en.make hC hx hd ne
    show Sf X.K n h (.ref x :: (vs ++ [])) _ _ E
    rw [List.append_nil]
    refine ⟨by rw [List.length_cons, r1.length]; exact hn ρ T ds T1 h1, G1, ad1 ++ [x], T1 ++ [.ins c []], .ob T1.length :: ds, .non, T', x2.en.iv.entry, .cons r2 (x2.rpl r1), h3, fun u G3 ad3 H3 I3 r3 => ⟨r3.inv_non, ?_⟩⟩
    have x3 := x2.en.after I3
    exact k _ G3 ad3 H3 ((x1.trans x2).trans x3) (x3.rp r2)
  · cases h2
theorem xe_make (M : KCal X.prog X.w X.K X.mg X.base c k n h) (hr : Room (k + 1) X.A) (hg : Gl X (Str.ofString c)) (ha : XA X (e :: es) fs) (hn : ∀ ρ T ds T', fs ρ T = some (ds, T') → ds.length + 1 = n)
    (hdb : (Str.ofString c == ("__debug__" : Str)) = false := by decide) (he : starEach (e :: es) X.env = (false, eval e X.env) :: starEach es X.env := by rfl) (hpl : (backTo pos (starEach es X.env)).any (·.1) = false := by rfl) :
    XE X (.Call (.Name (Str.ofString c) p) (e :: es) [] pos) (mkF c h fs) := by
  obtain ⟨C, f, fd, ps, hC, hm, M, F, hb⟩ := M.ok
  exact pe_weak (pe_make M F hr hg hm hb .nil pass0 ha hdb he hpl) fun σ H Q hw => make_run hC hw hn
theorem xe_make0 (M : KCal X.prog X.w X.K X.mg X.base c k 1 h) (hr : Room (k + 1) X.A) (hg : Gl X (Str.ofString c)) (hdb : (Str.ofString c == ("__debug__" : Str)) = false := by decide) :
    XE X (.Call (.Name (Str.ofString c) p) [] [] pos) (mkF c h nilF) := by
  obtain ⟨C, f, fd, ps, hC, hm, M, F, hb⟩ := M.ok
  refine pe_weak (pe_make0 M F hr hg hm hb .nil pass0 hdb) fun σ H Q hw => ?_
  obtain ⟨Z, G, ad, T, ρ, pa, ds, T', N, hf, kq⟩ := make_run (E := L2.E0) hC hw (fun ρ T ds T' h => by cases h; rfl)
  cases hf
  exact kq [] G ad H N.nx .nil
/-- f() -/
theorem xe_own0 {x : Str} (C : Cal X.prog X.w X.K X.mg X.base x k 0 h) (hr : Room k X.A) (hg : Gl X x) (hdb : (x == ("__debug__" : Str)) = false := by decide) : XE X (.Call (.Name x p) [] [] pos) (callF h nilF) := by
  obtain ⟨f, fd, ps, F, hm, hk, hb⟩ := C.ok
  refine pe_weak (pe_call0 F hr hg hm hk hb .nil pass0 hdb) fun σ H Q hw => ?_
  obtain ⟨Z, G, ad, T, ρ, pa, ds, T', N, hf, kq⟩ := call_run (E := L2.E0) hw (fun ρ T ds T' h => by cases h; rfl)
  cases hf
  exact kq [] G ad H N.nx .nil
end
theorem mcal_of {P : Program} {w : World} {K : PySem.W.Frag} {mg : Str → Option Value} {base : Heap} {c m : String} {C : Addr} {x qual : Str} {st : Stmt} {f : Addr} {fd : FuncData} {N ps : List Str} {k n l : Nat} {g : FS} (nm : m ∈ nmT) (hC : ClsA K c C) (cl : Cls K C) (hm : Meth K C (Str.ofString m) f)
    (F : Fun K x qual st f fd) (hb : Binds K fd ps []) (S : FnScope N ps (defScope st)) (hn : N.length = l) (hp : ps.length = n)
    (hbody : ∀ (cdv : Value) (A : Around) (outer : List Env) (s : Shared) (H : Hp) (E : XK), Room k (A.deeper (envOfC qual (defScope st) s.heap.objs.size f cdv)) →
      XSs (cxOf CX0 P w K mg base N qual (defScope st) f cdv A outer s H E).nox (defBody st) g) : MCal P w K mg base c m (k + 1) n (runB g l) := by
  subst hn hp
  exact ⟨nm, C, f, fd, ps, hC, cl, hm, fn_ok F S hbody, hb⟩
theorem kcal_of {P : Program} {w : World} {K : PySem.W.Frag} {mg : Str → Option Value} {base : Heap} {c : String} {C : Addr} {x qual : Str} {st : Stmt} {f : Addr} {fd : FuncData} {N ps : List Str} {k n l : Nat} {g : FS} (hC : ClsA K c C) (hmg : mg (Str.ofString c) = some (.ref C)) (M : Mk K C f)
    (F : Fun K x qual st f fd) (hb : Binds K fd ps []) (S : FnScope N ps (defScope st)) (hn : N.length = l) (hp : ps.length = n)
    (hbody : ∀ (cdv : Value) (A : Around) (outer : List Env) (s : Shared) (H : Hp) (E : XK), Room k (A.deeper (envOfC qual (defScope st) s.heap.objs.size f cdv)) →
      XSs (cxOf CX0 P w K mg base N qual (defScope st) f cdv A outer s H E).nox (defBody st) g) : KCal P w K mg base c (k + 1) n (runB g l) := by
  subst hn hp
  exact ⟨C, f, fd, ps, hC, hmg, M, fn_ok F S hbody, hb⟩
end Fx
set_option maxHeartbeats 1000000
namespace Fx
open PySem PySem.Spec PyProof.Rows L2
open Evl (Ex)
/-! ### texts -/
noncomputable def strD : List D → Option D
  | [.int i] => if dc (i.natAbs.log2 < 1920) then some (.str (toString i)) else none
  | _ => none
theorem ok_str {K : PySem.W.Frag} : OkC K (fun xs H Q => ∃ i : Int, xs = [.int i] ∧ i.natAbs.log2 < 1920 ∧ Q (.str (toString i)) H) strD := fun Z G ad T ρ σ H pa vs ds z Q N r hg k => by
  unfold strD at hg
  split at hg
  · split at hg
    · rename_i hc
      cases hg
      obtain ⟨v, rfl, h1⟩ := r.one
      exact ⟨_, by rw [h1.inv_int], of_dc hc, k _ G ad H N.nx (.str _)⟩
    · cases hg
  · cases hg
noncomputable def intTD : List D → Option D
  | [.str z] => match PySem.intText? z with
    | some n => if dc (z.length ≤ 640) then some (.int n) else none
    | none => none
  | _ => none
theorem ok_intT {K : PySem.W.Frag} : OkC K (fun xs H Q => ∃ a n, xs = [.str a] ∧ PySem.intText? a = some n ∧ a.length ≤ 640 ∧ Q (.int n) H) intTD := fun Z G ad T ρ σ H pa vs ds z Q N r hg k => by
  unfold intTD at hg
  split at hg
  · split at hg
    · rename_i n hn
      split at hg
      · rename_i hc
        cases hg
        obtain ⟨v, rfl, h1⟩ := r.one
        exact ⟨_, n, by rw [h1.inv_str], hn, of_dc hc, k _ G ad H N.nx (.int _)⟩
      · cases hg
    · cases hg
  · cases hg
def startsD : Str → D → Option D := fun s y => match y with
  | .str b => some (.bl (Txt.startswith s b))
  | _ => none
theorem ok_starts {K : PySem.W.Frag} : OkM K (fun x xs H Q => ∃ a b, x = V.str a ∧ xs = [V.str b] ∧ Q (V.bl (Txt.startswith a b)) H) startsD := fun Z G ad T ρ σ H pa z w y u Q N r hg k => by
  unfold startsD at hg
  split at hg
  · cases hg
    exact ⟨z, _, rfl, by rw [r.inv_str], k _ G ad H N.nx (.bl _)⟩
  · cases hg
/-- a sign in a text -/
def inSD : D → D → Option D := fun x y => match x, y with
  | .str a, .str z => match a.cps.toList with
    | [c] => some (.bl (decide (c ∈ z.cps.toList)))
    | _ => none
  | _, _ => none
theorem ok_inS {K : PySem.W.Frag} : OkR K (fun x y H Q => ∃ (c : Nat) (z : Str), x = .str ⟨#[c]⟩ ∧ y = .str z ∧ Q (.bl (decide (c ∈ z.cps.toList))) H) inSD := fun Z G ad T ρ σ H pa v w x y z Q N rx ry hg k => by
  unfold inSD at hg
  split at hg
  · rename_i a s
    split at hg
    · rename_i c hc
      cases hg
      refine ⟨c, s, ?_, ry.inv_str, k _ G ad H N.nx (.bl _)⟩
      rw [rx.inv_str]
      obtain ⟨cs⟩ := a
      congr 2
      apply Array.toList_inj.mp
      exact hc
    · cases hg
  · cases hg
section
variable {X : Cx} {a b c e : Expr} {es : List Expr} {pos : Pos} {f f1 f2 : FE} {fs : FA} {st : Stmt} {o1 : FO}
theorem xe_inS (h1 : XE X a f1) (h2 : XE X b f2) (hm : behindInMarks .In b = false := by rfl) : XE X (.Compare a [.In] [b] pos) (binF inSD f1 f2) := xe_cmp op_in_sign ok_inS h1 h2 hm
theorem xe_gstr {x : Str} {z : Str} (hg : Gl X x) (hm : ∃ t, X.mg x = some (.str z t)) (hd : (x == ("__debug__" : Str)) = false := by decide) : XE X (.Name x pos) (constF (.str z)) := by
  obtain ⟨t, hm⟩ := hm
  exact xe_c (v := .str z) (pe_glob hg hm ⟨t, rfl⟩ hd) fun _ _ => .str z
/-- text.split(sep) -/
noncomputable def splitF (f1 f2 : FE) : FA := fun ρ T => bindF (f1 ρ T) fun a T1 => match a with
  | .str x => bindF (f2 ρ T1) fun b T2 => match b with
    | .str y => if dc ((y.length == 0) = false ∧ x.length + 2 ≤ sizeLine) then some ((Txt.split x y).map D.str, T2) else none
    | _ => none
  | _ => none
theorem strs_rel {K : PySem.W.Frag} {G : Hp} {ad : List Addr} : ∀ ys : List Str, RpL K G ad (ys.map V.str) (ys.map D.str)
  | [] => .nil
  | y :: ys => .cons (.str y) (strs_rel ys)
theorem xl_split (h : PE X e (tM1 (fun x xs H Q => ∃ a b, x = .str a ∧ xs = [.str b] ∧ (b.length == 0) = false ∧ a.length + 2 ≤ sizeLine ∧ rNewStrs (Txt.split a b) H Q) (tD X.K f1) (tD X.K f2))) : XL X e (splitF f1 f2) := pe_weak h fun σ H Q h => by
  obtain ⟨Z, G, ad, T, ρ, pa, ds, T', N, hf, k⟩ := h
  obtain ⟨a, T1, h1, h2⟩ := bindF_eq hf
  refine ⟨Z, G, ad, T, ρ, pa, a, T1, N, h1, fun v G1 ad1 H1 x1 r1 => ?_⟩
  split at h2
  · rename_i x
    obtain ⟨b, T2, h3, h4⟩ := bindF_eq h2
    refine ⟨⟨x, r1.inv_str⟩, Z, G1, ad1, T1, ρ, pa, b, T2, x1.en, h3, fun w G2 ad2 H2 x2 r2 => ?_⟩
    split at h4
    · rename_i y
      split at h4
      · rename_i hc
        cases h4
        have hc := of_dc hc
        refine ⟨x, y, r1.inv_str, by rw [r2.inv_str], hc.1, hc.2, fun q hq => ?_⟩
        have x := x1.trans x2
        obtain ⟨N2, w2⟩ := x.en.laid hq (strs_rel (Txt.split _ y))
        refine k q G2 ad2 _ ⟨N2, x.gr.ex, x.gr.pr, fun b o hb hm => ?_, x.gr.nG, x.gr.nA⟩ w2 (x.gr.back x.en.iv.ats hq)
        have q' := x.gr.fr b o hb hm
        rw [upd_ne (ne_of_none q' hq)]
        exact q'
      · cases h4
    · cases h4
  · cases h2
/-- sep.join(a list that changes, or data) -/
noncomputable def joinOF (f1 : FE) (fo : FO) : FE := fun ρ T => bindF (f1 ρ T) fun a T1 => match a with
  | .str s => bindF (fo ρ T1) fun o T2 => match seqD T2 o with
    | some (_, ds) => (joinL s ds).map fun d => (d, T2)
    | none => none
  | _ => none
theorem xe_joinO (h : PE X e (tM1 (fun x xs H Q => ∃ a p, ∃ ys : List Str, x = .str a ∧ xs = [.ref p] ∧ (SqL X.K H p (ys.map V.str) ∨ SqT X.K H p (ys.map V.str)) ∧ (ys.map (·.length)).sum + ys.length * a.length ≤ 16777216 ∧ Q (.str (Txt.join a ys)) H) (tD X.K f1) (tDO X.K o1))) : XE X e (joinOF f1 o1) := pe_weak h fun σ H Q h => by
  obtain ⟨Z, G, ad, T, ρ, pa, d, T', N, hf, k⟩ := h
  obtain ⟨a, T1, h1, h2⟩ := bindF_eq hf
  refine ⟨Z, G, ad, T, ρ, pa, a, T1, N, h1, fun v G1 ad1 H1 x1 r1 => ?_⟩
  split at h2
  · rename_i s
    obtain ⟨o, T2, h3, h4⟩ := bindF_eq h2
    refine ⟨⟨s, r1.inv_str⟩, Z, G1, ad1, T1, ρ, pa, o, T2, x1.en, h3, fun w G2 ad2 H2 x2 r2 => ?_⟩
    split at h4
    · rename_i b ds hs
      obtain ⟨u, h5, h6⟩ := Option.map_eq_some_iff.mp h4
      cases h6
      obtain ⟨p, vs, rfl, hr, hl, ht⟩ := seq_rel x2.en r2 hs
      unfold joinL at h5
      split at h5
      · rename_i zs hz
        split at h5
        · rename_i hc
          cases h5
          have e := txts_rel hr hz
          subst e
          refine ⟨s, p, zs, r1.inv_str, rfl, ?_, of_dc hc, k _ G2 ad2 H2 (x1.trans x2) (.str _)⟩
          cases b with
          | true => exact .inr (ht rfl)
          | false => exact .inl (hl rfl)
        · cases h5
      · cases h5
    · cases h4
  · cases h2
end
/-! ### a table of the module -/
structure KTab (K : PySem.W.Frag) (w : World) (mg : Str → Option Value) (x : Str) (tb : List (Str × Int)) : Prop where
  ok : ∃ d es n, mg x = some (.ref d) ∧ KDict K w d es n ∧ ∀ z, match tb.lookup z with
    | some i => ∃ t, PySem.W.nsIn K d z = some (some (.int i t))
    | none => PySem.W.nsIn K d z = some none
def inTF (tb : List (Str × Int)) (f : FE) : FE := fun ρ T => bindF (f ρ T) fun d T' => match d with
  | .str z => some (.bl (tb.lookup z).isSome, T')
  | _ => none
def ixTF (tb : List (Str × Int)) (f : FE) : FE := fun ρ T => bindF (f ρ T) fun d T' => match d with
  | .str z => (tb.lookup z).map fun i => (.int i, T')
  | _ => none
section
variable {X : Cx} {a b c e : Expr} {pos p2 : Pos} {f : FE} {x : Str} {tb : List (Str × Int)}
theorem pe_inT (D : KTab X.K X.w X.mg x tb) (hg : Gl X x) (h : XE X a f) (hd : (x == ("__debug__" : Str)) = false := by decide) (hm : behindInMarks .In (.Name x p2) = false := by rfl) : XE X (.Compare a [.In] [.Name x p2] pos) (inTF tb f) := by
  obtain ⟨d, es, n, hmg, kd, key⟩ := D.ok
  refine pe_weak (pe_cmpR (op_in_kd kd) h (pe_glob (v := .ref d) hg hmg rfl hd) hm) fun σ H Q h => ?_
  obtain ⟨Z, G, ad, T, ρ, pa, r, T', N, hf, k⟩ := h
  obtain ⟨y, T1, h1, h2⟩ := bindF_eq hf
  refine ⟨Z, G, ad, T, ρ, pa, y, T1, N, h1, fun v G1 ad1 H1 x1 r1 => ?_⟩
  split at h2
  · rename_i z
    cases h2
    have kz := key z
    cases e : tb.lookup z with
    | none =>
      rw [e] at kz k
      exact ⟨z, none, r1.inv_str, rfl, kz, k _ G1 ad1 H1 x1 (.bl _)⟩
    | some i =>
      rw [e] at kz k
      obtain ⟨t, kz⟩ := kz
      exact ⟨z, _, r1.inv_str, rfl, kz, k _ G1 ad1 H1 x1 (.bl _)⟩
  · cases h2
theorem xt_inT (D : KTab X.K X.w X.mg x tb) (hg : Gl X x) (h : XE X a f) (hd : (x == ("__debug__" : Str)) = false := by decide) (hm : behindInMarks .In (.Name x p2) = false := by rfl) : XT X (.Compare a [.In] [.Name x p2] pos) (testF (inTF tb f)) := by
  obtain ⟨d, es, n, hmg, kd, key⟩ := D.ok
  refine pt_weak (pt_cmpR (op_in_kd kd) h (pe_glob (v := .ref d) hg hmg rfl hd) hm) fun σ H Q h => ?_
  obtain ⟨Z, G, ad, T, ρ, pa, r, T', N, hf, k⟩ := test_run h
  obtain ⟨y, T1, h1, h2⟩ := bindF_eq hf
  refine ⟨Z, G, ad, T, ρ, pa, y, T1, N, h1, fun v G1 ad1 H1 x1 r1 => ?_⟩
  split at h2
  · rename_i z
    cases h2
    have kz := key z
    cases e : tb.lookup z with
    | none =>
      rw [e] at kz k
      exact ⟨z, none, r1.inv_str, rfl, kz, k _ G1 ad1 H1 x1 (.bl _)⟩
    | some i =>
      rw [e] at kz k
      obtain ⟨t, kz⟩ := kz
      exact ⟨z, _, r1.inv_str, rfl, kz, k _ G1 ad1 H1 x1 (.bl _)⟩
  · cases h2
theorem ix_kd {d : Addr} {es : Array DictEntry} {n : Nat} (D : KDict X.K X.w d es n) : IxR X (fun x y H Q => ∃ (z : Str) (u0 : Value) (v0 : V), x = .ref d ∧ y = .str z ∧ PySem.W.nsIn X.K d z = some (some u0) ∧ RelV v0 u0 ∧ Q v0 H) := by
  intro value slice pins s σ H x y v u Q I rx ry h hs
  obtain ⟨z, u0, v0, rfl, rfl, e, r, q⟩ := h
  cases rx
  obtain ⟨t, rfl⟩ := ry
  refine tail_any (kd_type D I) F.slot_dict_getitem.lookup ?_ hs
  exact wpAny_getItem_of (PySem.strKind_is X.prog X.w z t) (PySem.W.mapOf_K (prog := X.prog) I.kIn D.at_ D.lit) (PySem.W.find_K D.at_ e) ⟨v0, H, I.tok _, r, q⟩
theorem xe_ixT (D : KTab X.K X.w X.mg x tb) (hg : Gl X x) (h : XE X a f) (hs : PlainIx a := by exact fun _ _ => rfl) (hd : (x == ("__debug__" : Str)) = false := by decide) : XE X (.Subscript (.Name x p2) a pos) (ixTF tb f) := by
  obtain ⟨d, es, n, hmg, kd, key⟩ := D.ok
  refine pe_weak (pe_ix (ix_kd kd) (pe_glob (v := .ref d) hg hmg rfl hd) h hs) fun σ H Q h => ?_
  obtain ⟨Z, G, ad, T, ρ, pa, r, T', N, hf, k⟩ := h
  obtain ⟨y, T1, h1, h2⟩ := bindF_eq hf
  refine ⟨Z, G, ad, T, ρ, pa, y, T1, N, h1, fun v G1 ad1 H1 x1 r1 => ?_⟩
  split at h2
  · rename_i z
    obtain ⟨i, h3, h4⟩ := Option.map_eq_some_iff.mp h2
    cases h4
    have kz := key z
    rw [h3] at kz
    obtain ⟨t, kz⟩ := kz
    exact ⟨z, _, .int i, rfl, r1.inv_str, kz, ⟨t, rfl⟩, k _ G1 ad1 H1 x1 (.int _)⟩
  · cases h2
end
end Fx
set_option maxHeartbeats 4000000
namespace Fx
open PySem PySem.Spec PyProof.Rows L2
open Evl (Ex)
/-! ### t[:0:-1] -/
section
variable {prog : Program} {w : World} {A : Around} {E : Value → Shared → Prop} {s : Shared}
theorem back0_places (n : Nat) : Builtin.Slice.slicePlaces (((n + 1 : Nat) : Int) - 1) 0 (-1) = n := by
  unfold Builtin.Slice.slicePlaces
  rw [if_neg (by decide)]
  by_cases h : ((n + 1 : Nat) : Int) - 1 > 0
  · rw [if_pos h]
    have : (((n + 1 : Nat) : Int) - 1 - 0 - 1) / (- -1) + 1 = (n : Int) := by
      rw [show (- -1 : Int) = 1 from rfl, Int.ediv_one]
      omega
    rw [this]
    rfl
  · rw [if_neg h]
    have : n = 0 := by omega
    rw [this]
    rfl
theorem back0_applied {sl : Addr} {vl vu vs : Value} {n : Nat} {Q : Int × Int × Nat → Shared → Prop} (hs : s.heap.IsSliceOf sl vl vu vs)
    (pl : IsPart vl none) (pu : IsPart vu (some 0)) (ps : IsPart vs (some (-1))) (h : Q (((n + 1 : Nat) : Int) - 1, -1, n) s) :
    wpAny (model prog w) A (Builtin.Slice.sliceApplied (.ref sl) (pure ((n + 1 : Nat) : Int))) Q E s := by
  obtain ⟨ob, hob, _, hd⟩ := id hs
  unfold Builtin.Slice.sliceApplied
  unfold Builtin.Slice.sliceFields
  refine wpAny_bind (wpAny_bind (wpAny_field hob hd (x := vl) rfl (wpAny_bind
    (wpAny_field hob hd (x := vu) rfl (wpAny_bind (wpAny_field hob hd (x := vs) rfl (wpAny_pure ?_)))))))
  refine wpAny_bind (HT.slicePart_ ps ?_)
  show wpAny _ _ (if ((-1 : Int) == 0) = true then _ else _) _ _ s
  rw [if_neg (by decide : ¬ ((-1 : Int) == 0) = true)]
  refine wpAny_bind (HT.slicePart_ pl (wpAny_bind (HT.slicePart_ pu ?_)))
  refine wpAny_bind (wpAny_pure ?_)
  have e : Builtin.Slice.sliceAdjust none (some 0) (-1) ((n + 1 : Nat) : Int) = (((n + 1 : Nat) : Int) - 1, 0) := by
    unfold Builtin.Slice.sliceAdjust
    simp only [show ((-1 : Int) < 0) = True from by simp, if_true, show ((0 : Int) < 0) = False from by simp, if_false]
    congr 1
    omega
  show wpAny _ _ (pure ((Builtin.Slice.sliceAdjust none (some 0) (-1) ((n + 1 : Nat) : Int)).1, (-1 : Int), Builtin.Slice.slicePlaces (Builtin.Slice.sliceAdjust none (some 0) (-1) ((n + 1 : Nat) : Int)).1 (Builtin.Slice.sliceAdjust none (some 0) (-1) ((n + 1 : Nat) : Int)).2 (-1))) _ _ s
  rw [e]
  show wpAny _ _ (pure (((n + 1 : Nat) : Int) - 1, (-1 : Int), Builtin.Slice.slicePlaces (((n + 1 : Nat) : Int) - 1) 0 (-1))) _ _ s
  rw [back0_places]
  exact wpAny_pure h
theorem back0_pick (x : Value) (xs : List Value) : (List.range xs.length).filterMap (fun (k : Nat) => (x :: xs).toArray[(((xs.length + 1 : Nat) : Int) - 1 + (k : Int) * -1).toNat]?) = xs.reverse := by
  have e : (List.range xs.length).filterMap (fun (k : Nat) => (x :: xs).toArray[(((xs.length + 1 : Nat) : Int) - 1 + (k : Int) * -1).toNat]?) = (List.range xs.toArray.size).filterMap (fun (k : Nat) => xs.toArray[((xs.toArray.size : Int) - 1 + (k : Int) * -1).toNat]?) := by
    rw [List.size_toArray]
    have key : ∀ (l : List Nat), (∀ k ∈ l, k < xs.length) → l.filterMap (fun (k : Nat) => (x :: xs).toArray[(((xs.length + 1 : Nat) : Int) - 1 + (k : Int) * -1).toNat]?) = l.filterMap (fun (k : Nat) => xs.toArray[((xs.length : Int) - 1 + (k : Int) * -1).toNat]?) := by
      intro l
      induction l with
      | nil => intro _; rfl
      | cons k l ih =>
        intro h
        have hk := h k List.mem_cons_self
        rw [List.filterMap_cons, List.filterMap_cons, ih fun j hj => h j (List.mem_cons_of_mem _ hj)]
        have e1 : (((xs.length + 1 : Nat) : Int) - 1 + (k : Int) * -1).toNat = (xs.length - 1 - k) + 1 := by omega
        have e2 : ((xs.length : Int) - 1 + (k : Int) * -1).toNat = xs.length - 1 - k := by omega
        rw [e1, e2]
        have e3 : (x :: xs).toArray[xs.length - 1 - k + 1]? = xs.toArray[xs.length - 1 - k]? := by simp
        rw [e3]
    exact key _ fun k hk => List.mem_range.mp hk
  rw [e, back_pick]
theorem back0_tuple {t sl : Addr} {x : Value} {xs : List Value} {vl vu vs : Value} {Q : Value → Shared → Prop} (ht : IsTup s.heap t (x :: xs).toArray) (hs : s.heap.IsSliceOf sl vl vu vs)
    (pl : IsPart vl none) (pu : IsPart vu (some 0)) (ps : IsPart vs (some (-1))) (hz : xs.length ≤ sizeLine)
    (h : Q (.ref s.heap.objs.size) { s with heap := s.heap.push { cls := .type "tuple", data := .seq xs.reverse.toArray } }) :
    wpAny (model prog w) A (getItem (.ref t) (.ref sl)) Q E s := by
  have fits : sizeOk (.seq xs.reverse.toArray) := by
    show xs.reverse.toArray.size ≤ sizeLine
    rw [List.size_toArray, List.length_reverse]
    exact hz
  obtain ⟨ob, hob, hcb, _⟩ := id hs
  have hty : s.TypeIs (.ref sl) "slice" := ⟨ob, hob, hcb⟩
  unfold getItem
  try with_reducible refine wpAny_holding ?_
  first | refine wpAny_bind (wpAny_pure ?_) | skip
  refine wpAny_bind (wpAny_sequenceKey ht.typeIs (by decide) ?_)
  refine wpAny_bind (wpAny_callSpecial?_slot (name := Str.ofString "__getitem__") ht.typeIs
    PyProof.Rows.slot_tuple_getitem (wpAny_call_entry PyProof.Rows.slot_tuple_getitem ht.typeIs PyProof.Rows.entry_tuple_getitem ?_ (PyProof.Rows.args_tuple_getitem _ _)))
  show wpAny _ _ (Builtin.Tuple.tupleItemsOf (.ref t) >>= _) _ _ s
  refine wpAny_bind (PyProof.Rows.tupleItemsOf_ ht ?_)
  refine wpAny_bind (wpAny_typeOf hty ?_)
  rw [if_pos (by decide)]
  refine wpAny_bind (back0_applied (n := xs.length) hs pl pu ps ?_)
  have no : ¬ ((((xs.length + 1 : Nat) : Int) - 1 == 0 && (-1 : Int) == 1 && xs.length == (x :: xs).toArray.size) = true) := by
    intro q
    rw [Bool.and_eq_true, Bool.and_eq_true] at q
    exact absurd q.1.2 (by decide)
  show wpAny _ _ (if ((((xs.length + 1 : Nat) : Int) - 1 == 0 && (-1 : Int) == 1 && xs.length == (x :: xs).toArray.size) = true) then _ else _) _ _ s
  rw [if_neg no, back0_pick]
  first
    | exact wpAny_bind (m := Builtin.Tuple.tupleExact _) (wpAny_newObj_type (wpAny_pure ⟨_, rfl, wpAny_pure h⟩) fits)
    | exact wpAny_bind (m := Builtin.Tuple.tupleExact _) (wpAny_newObj_type (wpAny_bind (wpAny_pure (wpAny_pure ⟨_, rfl, wpAny_pure h⟩))) fits)
    | exact wpAny_bind (wpAny_bind (m := Builtin.Tuple.tupleExact _) (wpAny_newObj_type (wpAny_pure (wpAny_pure ⟨_, rfl, wpAny_pure h⟩)) fits))
    | exact wpAny_bind (wpAny_bind (m := Builtin.Tuple.tupleExact _) (wpAny_newObj_type (wpAny_pure ⟨_, rfl, wpAny_pure h⟩) fits))
end
section
variable {X : Cx}
def tBack0 (K : PySem.W.Frag) (te : TE) : TE := fun σ H Q => te σ H fun x H1 => ∃ a y xs, x = .ref a ∧ SqT K H1 a (y :: xs) ∧ Tn H1 Q xs.reverse
theorem pe_back0 {e : Expr} {te : TE} {k j : Nat} {p1 p2 p3 p4 pos : Pos} (he : PE X e te) : PE X (.Subscript e (.Slice none (some (.Constant (.int 0) j p4)) (some (.UnaryOp .USub (.Constant (.int 1) k p1) p2)) p3) pos) (tBack0 X.K te) := by
  refine ⟨fun pins s σ H Q I h => ?_⟩
  refine Subscript_ (thn (he.run pins s σ H _ I h) fun v s1 hv => ?_)
  obtain ⟨x, H1, I1, r1, a, y, xs, ex, hx, q⟩ := hv
  subst ex
  cases r1
  have hst : PO X (some (.UnaryOp .USub (.Constant (.int 1) k p1) p2)) (tPart (tUn (rU fun i => .int (-i)) (tC (.int 1)))) := po_some (pe_un un_neg pe_int)
  have hup : PO X (some (.Constant (.int 0) j p4)) (tPart (tC (.int 0))) := po_some pe_int
  refine wpAny_Slice (thn (po_none.run pins s1 σ H1 (fun o H2 => o = none ∧ H2 = H1) I1 ⟨rfl, rfl⟩) fun vl s2 h2 => ?_)
  obtain ⟨l, H2, I2, pl, el, e2⟩ := h2
  subst el e2
  refine thn (hup.run pins s2 σ H2 (fun o H3 => o = some 0 ∧ H3 = H2) I2 ⟨0, rfl, rfl, rfl⟩) fun vu s3 h3 => ?_
  obtain ⟨u, H3, I3, pu, eu, e3⟩ := h3
  subst eu e3
  refine thn (hst.run pins s3 σ H3 (fun o H4 => o = some (-1) ∧ H4 = H3) I3 ⟨1, rfl, -1, rfl, rfl, rfl⟩) fun vs s4 h4 => ?_
  obtain ⟨o, H4, I4, ps, eo, e4⟩ := h4
  subst eo e4
  have I5 := I4.kept (h' := s4.heap.push { cls := .type "slice", data := .fields #[vl, vu, vs] }) (t' := s4.toks) fun b ob q => Heap.get?_push_of_some _ q
  obtain ⟨its, r, ht, hz⟩ := I5.tuple hx
  cases r with
  | @cons _ u _ us ru rr =>
    have hlen := rr.length
    rw [List.length_cons] at hz
    refine tail_any (ops := [.ref a, .ref s4.heap.objs.size]) ht.typeIs (PyProof.Rows.slot_tuple_getitem.lookup) ?_ (by with_unfolding_all rfl)
    refine back0_tuple (xs := us) ht (Heap.IsSliceOf.new _ vl vu vs) pl pu ps (by omega) ?_
    exact lay_tup I5 (L2.Vals.reverse rr) (by rw [List.length_reverse]; omega) q s4.toks
end
/-- t[:0:-1] -/
def bk0F (f : FE) : FE := fun ρ T => bindF (f ρ T) fun d T' => match d with
  | .tup (_ :: ds) => some (.tup ds.reverse, T')
  | _ => none
theorem xe_bk0 {X : Cx} {e : Expr} {f1 : FE} (h : PE X e (tBack0 X.K (tD X.K f1))) : XE X e (bk0F f1) := pe_weak h fun σ H Q h => by
  obtain ⟨Z, G, ad, T, ρ, pa, d, T', N, hf, k⟩ := h
  obtain ⟨x, T1, h1, h2⟩ := bindF_eq hf
  refine ⟨Z, G, ad, T, ρ, pa, x, T1, N, h1, fun v G1 ad1 H1 x1 r1 => ?_⟩
  split at h2
  · cases h2
    obtain ⟨p, vs, rfl, hG, hr⟩ := r1.inv_tup
    cases hr with
    | @cons v us _ _ _ hr =>
      refine ⟨p, v, us, rfl, x1.en.iv.tup hG, fun q o hq hd => ?_⟩
      have x4 := x1.en.knowN hq (.frz o (.tup us.reverse))
      exact k _ _ _ _ (x1.trans x4) (.tup (TupK.new hd) (x4.rpl hr.reverse))
  · cases h2
end Fx
namespace Fx
open PySem PySem.Spec PyProof.Rows L2
/-! ### the ends -/
theorem clsA_inj {K : PySem.W.Frag} {c : String} {C D : Addr} (h : ClsA K c C) (h' : PySem.W.nsIn K mainGlobals (Str.ofString c) = some (some (.ref D))) : C = D := by
  unfold ClsA at h
  rw [h] at h'
  cases h'
  rfl
theorem noa_of {K : PySem.W.Frag} {cs : List String} {f : String} (h : f ∈ nmT) (k : ∀ c ∈ cs, ∀ C, ClsA K c C → Cls K C ∧ NoAttr K C (Str.ofString f)) : NoA K cs f := ⟨h, k⟩
/-- a def that calls itself, so deep -/
noncomputable def recH (g : HF → FS) (m : Nat) : Nat → HF
  | 0 => fun _ _ => none
  | n + 1 => runB (g (recH g m n)) m
/-- nothing is said -/
theorem cal_zero {P : Program} {w : World} {K : PySem.W.Frag} {mg : Str → Option Value} {base : Heap} {x qual : Str} {st : Stmt} {f : Addr} {fd : FuncData} {N ps : List Str} {k n : Nat} (F : Fun K x qual st f fd) (hm : mg x = some (.ref f)) (hb : Binds K fd ps []) (S : FnScope N ps (defScope st)) (hp : ps.length = n) : Cal P w K mg base x (k + 1) n (fun _ _ => none) := by
  refine ⟨f, fd, ps, F.ok S (fun vs H Q E h => ?_) (fun cdv A outer s H vs Q E hr h => ?_), hm, F.kp, hb⟩
  · obtain ⟨_, G, ad, T, ds, d, T', I, r, hf, q⟩ := h
    cases hf
  · obtain ⟨_, G, ad, T, ds, d, T', I, r, hf, q⟩ := h
    cases hf
/-- the entries of a table -/
def TabE (P : Params) : List (Str × Int) → List DictEntry → Prop
  | [], [] => True
  | (z, i) :: tb, e :: es => (∃ t, e.key = .str z t) ∧ e.hash = PyData.keyHash P z ∧ (∃ t, e.val = .int i t) ∧ TabE P tb es
  | _, _ => False
theorem TabE.lit {P : Params} : ∀ {tb : List (Str × Int)} {es : List DictEntry}, TabE P tb es → PySem.W.KeysLit P es
  | [], [], _ => trivial
  | (z, i) :: tb, e :: es, h => by
    obtain ⟨⟨t, h1⟩, h2, _, h3⟩ := h
    exact ⟨⟨z, t, h1, h2⟩, TabE.lit h3⟩
  | [], _ :: _, h => by cases h
  | _ :: _, [], h => by cases h
theorem TabE.find {P : Params} (z : Str) : ∀ {tb : List (Str × Int)} {es : List DictEntry}, TabE P tb es →
    (match tb.lookup z with
    | some i => ∃ e t, es.find? (·.key.isStr z) = some e ∧ e.val = .int i t
    | none => es.find? (·.key.isStr z) = none) ∧ es.any (·.refKey) = false
  | [], [], _ => ⟨rfl, rfl⟩
  | (y, i) :: tb, e :: es, h => by
    obtain ⟨⟨t, h1⟩, _, ⟨u, h2⟩, h3⟩ := h
    obtain ⟨q1, q2⟩ := TabE.find z h3
    have e1 : e.key.isStr z = (z == y) := by
      rw [h1, PySem.W.isStr_of]
      show (y == z) = (z == y)
      by_cases c : y = z
      · rw [c]
      · rw [beq_eq_false_iff_ne.mpr c, beq_eq_false_iff_ne.mpr (Ne.symm c)]
    refine ⟨?_, ?_⟩
    · rw [List.lookup_cons, List.find?_cons, e1]
      cases c : (z == y) with
      | true => exact ⟨e, u, rfl, h2⟩
      | false => exact q1
    · rw [List.any_cons, q2, Bool.or_false]
      unfold DictEntry.refKey
      rw [h1]
  | [], _ :: _, h => by cases h
  | _ :: _, [], h => by cases h
theorem tab_of {K : PySem.W.Frag} {w : World} {mg : Str → Option Value} {x : Str} {tb : List (Str × Int)} {d : Addr} {es : Array DictEntry} {n : Nat} (hm : mg x = some (.ref d)) (hl : K.lookup d = some ⟨.type "dict", none, .dict es n, #[]⟩) (h : TabE w.params tb es.toList) (hs : (d == sysModules) = false) : KTab K w mg x tb := by
  refine ⟨d, es, n, hm, ⟨hl, h.lit, hs⟩, fun z => ?_⟩
  obtain ⟨h1, h2⟩ := h.find z
  unfold PySem.W.nsIn
  rw [hl]
  cases q : tb.lookup z with
  | some i =>
    rw [q] at h1
    obtain ⟨e, t, h3, h4⟩ := h1
    refine ⟨t, ?_⟩
    simp only [h3, h4]
  | none =>
    rw [q] at h1
    simp only [h1, h2]
    rfl
end Fx
namespace Fx
open PySem PySem.Spec PyProof.Rows L2
open Evl (Ex)
/-! ### what raises -/
/-- an exception: its class' name, its fields -/
structure Xn where
  c : String
  fs : List (String × D)
structure ExR (mg : Str → Option Value) (K : PySem.W.Frag) (x : Xn) (cls : Value) (d : Option Addr) (G : Hp) (ad : List Addr) (H : Hp) : Prop where
  cls : mg (Str.ofString x.c) = some cls
  nof : x.fs = [] → d = none
  fld : x.fs ≠ [] → ∃ dd vs, d = some dd ∧ H dd = some (.xd vs) ∧ ∀ f z, x.fs.lookup f = some z → ∃ v, vs.lookup (Str.ofString f) = some v ∧ Rp K G ad v z
abbrev FXE := Rho → Tm → Option (Xn × Tm)
abbrev FXS := Rho → Tm → Option ((Xn × Rho) × Tm)
abbrev XF := List D → Tm → Option (Xn × Tm)
def tR (X : Cx) (W : WX) (g : FXE) : TE := fun σ H _ => ∃ Z G ad T ρ pa x T', En X.K Z G ad T ρ σ H pa ∧ g ρ T = some (x, T') ∧
  ∀ G' ad' H' cls d, Nx X.K Z G ad H ρ σ pa T' G' ad' H' → ExR X.mg X.K x cls d G' ad' H' → W cls d σ H'
def tRA (X : Cx) (W : WX) (g : FXE) : TA := fun σ H _ => ∃ Z G ad T ρ pa x T', En X.K Z G ad T ρ σ H pa ∧ g ρ T = some (x, T') ∧
  ∀ G' ad' H' cls d, Nx X.K Z G ad H ρ σ pa T' G' ad' H' → ExR X.mg X.K x cls d G' ad' H' → W cls d σ H'
def tRT (X : Cx) (W : WX) (g : FXE) : TT := fun σ H _ => ∃ Z G ad T ρ pa x T', En X.K Z G ad T ρ σ H pa ∧ g ρ T = some (x, T') ∧
  ∀ G' ad' H' cls d, Nx X.K Z G ad H ρ σ pa T' G' ad' H' → ExR X.mg X.K x cls d G' ad' H' → W cls d σ H'
def tRS (X : Cx) (W : WX) (g : FXS) : TS := fun _ σ H => ∃ Z G ad T ρ pa x ρ' T', En X.K Z G ad T ρ σ H pa ∧ g ρ T = some ((x, ρ'), T') ∧
  ∀ σ' G' ad' H' pa' cls d, En X.K Z G' ad' T' ρ' σ' H' pa' → Ex G G' → Pre ad ad' → ExR X.mg X.K x cls d G' ad' H' → W cls d σ' H'
abbrev RE (X : Cx) (W : WX) (e : Expr) (g : FXE) : Prop := PE X e (tR X W g)
abbrev RA (X : Cx) (W : WX) (es : List Expr) (g : FXE) : Prop := PA X es (tRA X W g)
abbrev RT (X : Cx) (W : WX) (e : Expr) (g : FXE) : Prop := PT X e (tRT X W g)
abbrev RS (X : Cx) (W : WX) (st : Stmt) (g : FXS) : Prop := PS X st (tRS X W g)
abbrev RSs (X : Cx) (W : WX) (sts : List Stmt) (g : FXS) : Prop := PSs X sts (tRS X W g)
/-- nothing is raised here -/
def noX : FXS := fun _ _ => none
/-- then -/
def thX {α : Type} (f : Rho → Tm → Option (α × Tm)) (g : FXE) : FXE := fun ρ T => bindF (f ρ T) fun _ T1 => g ρ T1
def liX (g : FXE) : FXS := fun ρ T => (g ρ T).map fun p => ((p.1, ρ), p.2)
def seqX (f : FS) (g1 g2 : FXS) : FXS := fun ρ T => match f ρ T with
  | some (.nx ρ', T') => g2 ρ' T'
  | some _ => none
  | none => g1 ρ T
def ifX (t : FT) (g1 g2 : FXS) : FXS := fun ρ T => bindF (t ρ T) fun b T1 => if b then g1 ρ T1 else g2 ρ T1
def whXL (c : FT) (b : FS) (cx : FXE) (bx : FXS) : Nat → Rho → Tm → Option ((Xn × Rho) × Tm)
  | 0, _, _ => none
  | n + 1, ρ, T => match c ρ T with
    | none => liX cx ρ T
    | some (false, _) => none
    | some (true, T1) => match b ρ T1 with
      | some (.nx ρ2, T2) => whXL c b cx bx n ρ2 T2
      | some (.ct ρ2, T2) => whXL c b cx bx n ρ2 T2
      | some _ => none
      | none => bx ρ T1
open Classical in
noncomputable def whX (c : FT) (b : FS) (cx : FXE) (bx : FXS) : FXS := fun ρ T => if h : ∃ n, (whXL c b cx bx n ρ T).isSome = true then whXL c b cx bx h.choose ρ T else none
theorem whXL_mono (c : FT) (b : FS) (cx : FXE) (bx : FXS) : ∀ (n m : Nat) (ρ : Rho) (T : Tm) (r : (Xn × Rho) × Tm), whXL c b cx bx n ρ T = some r → n ≤ m → whXL c b cx bx m ρ T = some r
  | 0, _, _, _, _, h, _ => by cases h
  | n + 1, 0, _, _, _, _, hm => absurd hm (by omega)
  | n + 1, m + 1, ρ, T, r, h, hm => by
    unfold whXL at h ⊢
    cases e1 : c ρ T with
    | none => rw [e1] at h; exact h
    | some p =>
      obtain ⟨k, T1⟩ := p
      rw [e1] at h
      cases k with
      | false => cases h
      | true =>
        dsimp only at h ⊢
        cases e2 : b ρ T1 with
        | none => rw [e2] at h; exact h
        | some q =>
          obtain ⟨z, T2⟩ := q
          rw [e2] at h
          cases z with
          | nx ρ2 => exact whXL_mono c b cx bx n m ρ2 T2 r h (by omega)
          | ct ρ2 => exact whXL_mono c b cx bx n m ρ2 T2 r h (by omega)
          | bk ρ2 => cases h
          | rt d => cases h
theorem whX_eq {c : FT} {b : FS} {cx : FXE} {bx : FXS} {ρ : Rho} {T : Tm} {r : (Xn × Rho) × Tm} (h : whX c b cx bx ρ T = some r) : ∃ n, whXL c b cx bx n ρ T = some r := by
  unfold whX at h
  split at h
  · exact ⟨_, h⟩
  · cases h
theorem whX_of {c : FT} {b : FS} {cx : FXE} {bx : FXS} {n : Nat} {ρ : Rho} {T : Tm} {r : (Xn × Rho) × Tm} (h : whXL c b cx bx n ρ T = some r) : whX c b cx bx ρ T = some r := by
  unfold whX
  have hx : ∃ n, (whXL c b cx bx n ρ T).isSome = true := ⟨n, by rw [h]; rfl⟩
  rw [dif_pos hx]
  obtain ⟨r', e⟩ := Option.isSome_iff_exists.mp hx.choose_spec
  rw [e]
  have a := whXL_mono c b cx bx _ (max n hx.choose) ρ T r h (Nat.le_max_left _ _)
  have z := whXL_mono c b cx bx _ (max n hx.choose) ρ T r' e (Nat.le_max_right _ _)
  exact z.symm.trans a
section
variable {X : Cx} {W : WX} {a b c e o : Expr} {es : List Expr} {st : Stmt} {sts sb : List Stmt} {pos p : Pos} {f fo : FE} {fs : FA} {t1 : FT} {g : FXE} {g1 g2 : FXS} {f1 f2 : FS}
/-! statements -/
theorem rs_none : RS X W st noX := ⟨fun _ _ σ H D I h => by
  obtain ⟨Z, G, ad, T, ρ, pa, x, ρ', T', N, hf, k⟩ := h
  cases hf⟩
theorem rss_nil : RSs X W sts noX := ⟨fun _ _ σ H D I h => by
  obtain ⟨Z, G, ad, T, ρ, pa, x, ρ', T', N, hf, k⟩ := h
  cases hf⟩
theorem rt_none : RT X W c (fun _ _ => none) := ⟨fun _ _ σ H Q I h => by
  obtain ⟨Z, G, ad, T, ρ, pa, x, T', N, hf, k⟩ := h
  cases hf⟩
theorem rss_cons (h1 : XS X st f1) (r1 : RS X W st g1) (r2 : RSs X W sts g2) : RSs X W (st :: sts) (seqX f1 g1 g2) := by
  have hc : PS X st (fun D σ H => tDS X.K f1 D σ H ∨ tRS X W g1 D σ H) := ⟨fun pins s σ H D I h => by
    rcases h with h | h
    · exact h1.run pins s σ H D I h
    · exact r1.run pins s σ H D I h⟩
  refine pss_weak (pss_cons hc r2) fun D σ H h => ?_
  obtain ⟨Z, G, ad, T, ρ, pa, x, ρ', T', N, hf, k⟩ := h
  unfold seqX at hf
  split at hf
  · rename_i ρ1 T1 h3
    exact .inl ⟨Z, G, ad, T, ρ, pa, .nx ρ1, T1, N, h3, fun σ' G' ad' H' pa' N' e' p' => ⟨Z, G', ad', T1, ρ1, pa', x, ρ', T', N', hf, fun σ2 G2 ad2 H2 pa2 cls d N2 e2 p2 => k σ2 G2 ad2 H2 pa2 cls d N2 (e'.trans e2) (p'.trans p2)⟩⟩
  · cases hf
  · exact .inr ⟨Z, G, ad, T, ρ, pa, x, ρ', T', N, hf, k⟩
theorem rs_if (h : XT X c t1) (h1 : RSs X W sts g1) (h2 : RSs X W sb g2) : RS X W (.If c sts sb pos) (ifX t1 g1 g2) := ps_weak (ps_if h h1 h2) fun D σ H h => by
  obtain ⟨Z, G, ad, T, ρ, pa, x, ρ', T', N, hf, k⟩ := h
  obtain ⟨b, T1, h1, h2⟩ := bindF_eq hf
  refine ⟨Z, G, ad, T, ρ, pa, b, T1, N, h1, fun G1 ad1 H1 x1 => ?_⟩
  have k' := fun σ2 G2 ad2 H2 pa2 cls d N2 e2 p2 => k σ2 G2 ad2 H2 pa2 cls d N2 (x1.gr.ex.trans e2) (x1.gr.pr.trans p2)
  cases b with
  | true => exact ⟨Z, G1, ad1, T1, ρ, pa, x, ρ', T', x1.en, h2, k'⟩
  | false => exact ⟨Z, G1, ad1, T1, ρ, pa, x, ρ', T', x1.en, h2, k'⟩
theorem li_imp {σ : L2.St} {H : Hp} {D : Ends} (h : tRS X W (liX g) D σ H) : ∀ Q, tR X W g σ H Q := fun Q => by
  obtain ⟨Z, G, ad, T, ρ, pa, x, ρ', T', N, hf, k⟩ := h
  obtain ⟨p, h1, h2⟩ := Option.map_eq_some_iff.mp hf
  obtain ⟨x1, T1⟩ := p
  cases h2
  exact ⟨Z, G, ad, T, ρ, pa, x1, T1, N, h1, fun G' ad' H' cls d n r => k σ G' ad' H' pa cls d n.en n.gr.ex n.gr.pr r⟩
theorem li_impT {σ : L2.St} {H : Hp} {D : Ends} (h : tRS X W (liX g) D σ H) : ∀ Q, tRT X W g σ H Q := fun Q => by
  obtain ⟨Z, G, ad, T, ρ, pa, x, ρ', T', N, hf, k⟩ := h
  obtain ⟨p, h1, h2⟩ := Option.map_eq_some_iff.mp hf
  obtain ⟨x1, T1⟩ := p
  cases h2
  exact ⟨Z, G, ad, T, ρ, pa, x1, T1, N, h1, fun G' ad' H' cls d n r => k σ G' ad' H' pa cls d n.en n.gr.ex n.gr.pr r⟩
theorem rs_asg {i : Nat} (h : PS X st (tAsg (tR X W g) (gName i))) : RS X W st (liX g) := ps_weak h fun D σ H h => li_imp h _
theorem rs_ret (h : RE X W e g) : RS X W (.Return (some e) pos) (liX g) := ps_weak (ps_ret h) fun D σ H h => li_imp h _
theorem rs_expr (h : PS X st (tDrop (tR X W g))) : RS X W st (liX g) := ps_weak h fun D σ H h => li_imp h _
theorem rs_while (hp : PassesOwn (model X.prog X.w) X.A X.env X.xe) (hc : XT X c t1) (rc : RT X W c g) (hb : XSs X sts f1) (rb : RSs X W sts g1) : RS X W (.While c sts [] pos) (whX t1 f1 g g1) := by
  have hc2 : PT X c (fun σ H Q => tDT X.K t1 σ H Q ∨ tRT X W g σ H Q) := ⟨fun pins s σ H Q I h => by
    rcases h with h | h
    · exact hc.run pins s σ H Q I h
    · exact rc.run pins s σ H Q I h⟩
  have hb2 : PSs X sts (fun D σ H => tDS X.K f1 D σ H ∨ tRS X W g1 D σ H) := ⟨fun pins s σ H D I h => by
    rcases h with h | h
    · exact hb.run pins s σ H D I h
    · exact rb.run pins s σ H D I h⟩
  refine ps_weak (ps_while hp hc2 hb2) fun D σ H h => ?_
  obtain ⟨Z, G, ad, T, ρ, pa, x, ρ', T', N, hf, k⟩ := h
  obtain ⟨n, hn⟩ := whX_eq hf
  refine ⟨fun m σ' H' => ∃ G2 ad2 T2 ρ2 pa2, En X.K Z G2 ad2 T2 ρ2 σ' H' pa2 ∧ Ex G G2 ∧ Pre ad ad2 ∧ whXL t1 f1 g g1 m ρ2 T2 = some ((x, ρ'), T'), ⟨n, G, ad, T, ρ, pa, N, Ex.refl _, Pre.refl _, hn⟩, ?_⟩
  rintro m σ' H' ⟨G2, ad2, T2, ρ2, pa2, N2, e2, p2, h3⟩
  cases m with
  | zero => cases h3
  | succ m =>
    unfold whXL at h3
    cases q1 : t1 ρ2 T2 with
    | none =>
      rw [q1] at h3
      exact .inr (li_impT (D := D) ⟨Z, G2, ad2, T2, ρ2, pa2, x, ρ', T', N2, h3, fun σ3 G3 ad3 H3 pa3 cls d N3 e3 p3 => k σ3 G3 ad3 H3 pa3 cls d N3 (e2.trans e3) (p2.trans p3)⟩ _)
    | some q =>
      obtain ⟨b, T3⟩ := q
      rw [q1] at h3
      refine .inl ⟨Z, G2, ad2, T2, ρ2, pa2, b, T3, N2, q1, fun G3 ad3 H3 x3 => ?_⟩
      have eG : Ex G G3 := e2.trans x3.gr.ex
      have pA : Pre ad ad3 := p2.trans x3.gr.pr
      cases b with
      | false => cases h3
      | true =>
        refine iteT ?_
        refine ⟨fun σ' H' => ∃ G2 ad2 T2 ρ2 pa2, En X.K Z G2 ad2 T2 ρ2 σ' H' pa2 ∧ Ex G G2 ∧ Pre ad ad2 ∧ whXL t1 f1 g g1 m ρ2 T2 = some ((x, ρ'), T'), fun σ5 H5 hN => ⟨m, Nat.lt_succ_self m, hN⟩, ?_⟩
        dsimp only at h3
        cases q2 : f1 ρ2 T3 with
        | none =>
          rw [q2] at h3
          exact .inr ⟨Z, G3, ad3, T3, ρ2, pa2, x, ρ', T', x3.en, h3, fun σ4 G4 ad4 H4 pa4 cls d N4 e4 p4 => k σ4 G4 ad4 H4 pa4 cls d N4 (eG.trans e4) (pA.trans p4)⟩
        | some q =>
          obtain ⟨z, T4⟩ := q
          rw [q2] at h3
          cases z with
          | nx ρ4 => exact .inl ⟨Z, G3, ad3, T3, ρ2, pa2, .nx ρ4, T4, x3.en, q2, fun σ5 G5 ad5 H5 pa5 N5 e5 p5 => ⟨G5, ad5, T4, ρ4, pa5, N5, eG.trans e5, pA.trans p5, h3⟩⟩
          | ct ρ4 => exact .inl ⟨Z, G3, ad3, T3, ρ2, pa2, .ct ρ4, T4, x3.en, q2, fun σ5 G5 ad5 H5 pa5 N5 e5 p5 => ⟨G5, ad5, T4, ρ4, pa5, N5, eG.trans e5, pA.trans p5, h3⟩⟩
          | bk ρ4 => cases h3
          | rt d => cases h3
/-! expressions -/
theorem th_runE {σ : L2.St} {H : Hp} {Q : VK} (h : tR X W (thX f g) σ H Q) : tD X.K f σ H fun _ H1 => ∀ Q, tR X W g σ H1 Q := by
  obtain ⟨Z, G, ad, T, ρ, pa, x, T', N, hf, k⟩ := h
  obtain ⟨d, T1, h1, h2⟩ := bindF_eq hf
  exact ⟨Z, G, ad, T, ρ, pa, d, T1, N, h1, fun v G1 ad1 H1 x1 r1 Q => ⟨Z, G1, ad1, T1, ρ, pa, x, T', x1.en, h2, fun G2 ad2 H2 cls dd x2 r2 => k G2 ad2 H2 cls dd (x1.trans x2) r2⟩⟩
theorem ra_here (h1 : RE X W a g) (hs : starEach (a :: es) X.env = (false, eval a X.env) :: starEach es X.env := by rfl) : RA X W (a :: es) g :=
  pa_weak (pa_cons (t := fun _ _ _ => False) h1 ⟨fun _ _ _ _ _ _ _ h => h.elim⟩ hs) fun σ H Q h => h
theorem ra_then (h1 : XE X a f) (h2 : RA X W es g) (hs : starEach (a :: es) X.env = (false, eval a X.env) :: starEach es X.env := by rfl) : RA X W (a :: es) (thX f g) := pa_weak (pa_cons h1 h2 hs) fun σ H Q h => by
  obtain ⟨Z, G, ad, T, ρ, pa, x, T', N, hf, k⟩ := h
  obtain ⟨d, T1, h1, h2⟩ := bindF_eq hf
  exact ⟨Z, G, ad, T, ρ, pa, d, T1, N, h1, fun v G1 ad1 H1 x1 r1 => ⟨Z, G1, ad1, T1, ρ, pa, x, T', x1.en, h2, fun G2 ad2 H2 cls dd x2 r2 => k G2 ad2 H2 cls dd (x1.trans x2) r2⟩⟩
theorem re_tup {k : Nat} (h : RA X W es g) : RE X W (.Tuple es k pos) g := pe_weak (pe_tupP h) fun σ H Q h => h
/-- o.append(e), e raising -/
def appX (fo : FE) (g : FXE) : FXE := fun ρ T => bindF (fo ρ T) fun o T1 => match lstO T1 o with
  | some _ => g ρ T1
  | none => none
theorem re_appO (h : PE X e (tBM X.K "list" rAppend (tD X.K fo) (tCons (tR X W g) tNil))) : RE X W e (appX fo g) := pe_weak h fun σ H Q h => by
  obtain ⟨Z, G, ad, T, ρ, pa, x, T', N, hf, k⟩ := h
  obtain ⟨o, T1, h1, h2⟩ := bindF_eq hf
  refine ⟨Z, G, ad, T, ρ, pa, o, T1, N, h1, fun v G1 ad1 H1 x1 r1 => ?_⟩
  split at h2
  · rename_i q e1
    obtain ⟨kk, ds⟩ := q
    obtain ⟨rfl, t1⟩ := lstO_eq e1
    obtain ⟨p, rfl, hk, vs, hv, rv⟩ := x1.en.ob_val r1 t1
    exact ⟨.inl ⟨rfl, vs, .inl (.inl hv)⟩, Z, G1, ad1, T1, ρ, pa, x, T', x1.en, h2, fun G2 ad2 H2 cls dd x2 r2 => k G2 ad2 H2 cls dd (x1.trans x2) r2⟩
  · cases h2
/-- name.append(e) of a list of one's own, e raising -/
def apwX (i : Nat) (g : FXE) : FXE := fun ρ T => match ρ[i]? with
  | some (.own _) => g ρ T
  | _ => none
theorem rs_app {i : Nat} (h : PS X st (tDrop (tBM X.K "list" rAppend (tVar i) (tCons (tR X W g) tNil)))) : RS X W st (liX (apwX i g)) := ps_weak h fun D σ H h => by
  have h' := li_imp h (fun _ _ => True)
  obtain ⟨Z, G, ad, T, ρ, pa, x, T', N, hf, k⟩ := h'
  unfold apwX at hf
  split at hf
  · rename_i ds hx
    obtain ⟨vs, q1, q2, q3, q4, q5, q6⟩ := N.env i _ hx
    exact ⟨.ref (pa i), q1, .inl ⟨rfl, vs, .inl (.inl q2)⟩, Z, G, ad, T, ρ, pa, x, T', N, hf, k⟩
  · cases hf
/-- a raising left side of a comparison -/
theorem rt_cmpl {op : CmpOp} {r : R2} (ho : OpR X (compareOp op) r) (h1 : RE X W a g) (hm : behindInMarks op b = false := by rfl) (hb : PE X b (fun _ _ _ => False) := by exact ⟨fun _ _ _ _ _ _ h => h.elim⟩) : RT X W (.Compare a [op] [b] pos) g :=
  pt_weak (pt_cmpR ho h1 hb hm) fun σ H Q h => h
end
end Fx
namespace Fx
open PySem PySem.Spec PyProof.Rows L2
open Evl (Ex)
/-! ### defs that raise -/
def Sx (mg : Str → Option Value) (K : PySem.W.Frag) (n : Nat) (h : HF) (g : XF) : Sp := fun vs H Q E => vs.length = n ∧ ∃ G ad T ds, Iv K ⟨G, H, ad⟩ G ad T H ∧ RpL K G ad vs ds ∧
  ((∃ d T', h ds T = some (d, T') ∧ ∀ v G' ad' H', Iv K ⟨G, H, ad⟩ G' ad' T' H' → Rp K G' ad' v d → Q v H') ∨
    ∃ x T', g ds T = some (x, T') ∧ ∀ G' ad' H' cls d, Iv K ⟨G, H, ad⟩ G' ad' T' H' → ExR mg K x cls d G' ad' H' → E cls d H')
def E0 : XK := fun _ _ _ => False
/-- what a def without exceptions gets of it -/
theorem fn_down {P : Program} {w : World} {K : PySem.W.Frag} {mg : Str → Option Value} {base : Heap} {k n : Nat} {f : Addr} {fd : FuncData} {ps : List Str} {h : HF} {g : XF} (F : FnOk P w K mg base (L2.CX P w) k f fd ps (Sx mg K n h g)) : FnOk P w K mg base CX0 k f fd ps (Sf K n h) := by
  have key : ∀ vs H Q E, Sf K n h vs H Q E → Sx mg K n h g vs H Q Fx.E0 := fun vs H Q E hs => by
    obtain ⟨hn, G, ad, T, ds, d, T', I, r, hf, q⟩ := hs
    exact ⟨hn, G, ad, T, ds, I, r, .inl ⟨d, T', hf, q⟩⟩
  refine ⟨fun vs H Q E hs => F.len vs H Q Fx.E0 (key _ _ _ _ hs), fun A outer s H args us vs Q E hr he hb hv hs => ?_⟩
  refine codeAny_mono (F.run A outer s H args us vs Q Fx.E0 hr he hb hv (key _ _ _ _ hs)) fun r s' hq => ?_
  cases r with
  | error e =>
    obtain ⟨_, _, _, _, _, _, _, _, _, _, _, _, z⟩ := hq
    exact z.elim
  | ok fl => cases fl <;> exact hq
structure CalX (P : Program) (w : World) (K : PySem.W.Frag) (mg : Str → Option Value) (base : Heap) (x : Str) (k n : Nat) (h : HF) (g : XF) : Prop where
  ok : ∃ f fd ps, FnOk P w K mg base (L2.CX P w) k f fd ps (Sx mg K n h g) ∧ mg x = some (.ref f) ∧ PySem.W.keepIn K (.ref f) = true ∧ Binds K fd ps []
structure MCalX (P : Program) (w : World) (K : PySem.W.Frag) (mg : Str → Option Value) (base : Heap) (c m : String) (k n : Nat) (h : HF) (g : XF) : Prop where
  nm : m ∈ nmT
  ok : ∃ C f fd ps, ClsA K c C ∧ Cls K C ∧ Meth K C (Str.ofString m) f ∧ FnOk P w K mg base (L2.CX P w) k f fd ps (Sx mg K n h g) ∧ Binds K fd ps []
theorem CalX.down {P : Program} {w : World} {K : PySem.W.Frag} {mg : Str → Option Value} {base : Heap} {x : Str} {k n : Nat} {h : HF} {g : XF} (C : CalX P w K mg base x k n h g) : Cal P w K mg base x k n h := by
  obtain ⟨f, fd, ps, F, hm, hk, hb⟩ := C.ok
  exact ⟨f, fd, ps, fn_down F, hm, hk, hb⟩
theorem MCalX.down {P : Program} {w : World} {K : PySem.W.Frag} {mg : Str → Option Value} {base : Heap} {c m : String} {k n : Nat} {h : HF} {g : XF} (C : MCalX P w K mg base c m k n h g) : MCal P w K mg base c m k n h := by
  obtain ⟨C', f, fd, ps, hC, cl, hm, F, hb⟩ := C.ok
  exact ⟨C.nm, C', f, fd, ps, hC, cl, hm, fn_down F, hb⟩
def runX (gx : FXS) (n : Nat) : XF := fun ds T => match gx (ds.map Sl.dat ++ List.replicate (n - ds.length) Sl.un) T with
  | some ((x, _), T') => some (x, T')
  | none => none
abbrev WE1 (E : XK) : WX := fun c d _ H => E c d H
/-- the context of a body that may raise -/
structure Lets (X : Cx) (E : XK) : Prop where
  tk : Takes X (WE1 E)
  own : PassesOwn (model X.prog X.w) X.A X.env X.xe
  calm : X.calm = true
theorem fnx_ok {P : Program} {w : World} {K : PySem.W.Frag} {mg : Str → Option Value} {base : Heap} {x qual : Str} {st : Stmt} {f : Addr} {fd : FuncData} {N ps : List Str} {k : Nat} {g : FS} {gx : FXS} (F : Fun K x qual st f fd) (S : FnScope N ps (defScope st))
    (hbody : ∀ (cdv : Value) (A : Around) (outer : List Env) (s : Shared) (H : Hp) (E : XK), Room k (A.deeper (envOfC qual (defScope st) s.heap.objs.size f cdv)) →
      XSs (cxOf CX0 P w K mg base N qual (defScope st) f cdv A outer s H E).nox (defBody st) g)
    (xbody : ∀ (cdv : Value) (A : Around) (outer : List Env) (s : Shared) (H : Hp) (E : XK), Room k (A.deeper (envOfC qual (defScope st) s.heap.objs.size f cdv)) →
      Lets (cxOf (L2.CX P w) P w K mg base N qual (defScope st) f cdv A outer s H E) E → RSs (cxOf (L2.CX P w) P w K mg base N qual (defScope st) f cdv A outer s H E) (WE1 E) (defBody st) gx) :
    FnOk P w K mg base (L2.CX P w) (k + 1) f fd ps (Sx mg K ps.length (runB g N.length) (runX gx N.length)) := by
  refine F.okX S (fun vs H Q E h => h.1) (fun cdv A outer s H vs Q E hr h => ?_)
  obtain ⟨hn, G, ad, T, ds, I, r, h⟩ := h
  rcases h with ⟨d, T', hf, q⟩ | ⟨x, T', hf, q⟩
  · have hb := hbody cdv A outer s H E hr
    refine ⟨tDS K g, PSs.nox (X := cxOf (L2.CX P w) P w K mg base N qual (defScope st) f cdv A outer s H E) hb, ⟨G, H, ad⟩, G, ad, T, (ds.map Sl.dat ++ List.replicate (N.length - ds.length) Sl.un), fun _ => 0, ?_⟩
    unfold runB at hf
    split at hf
    · rename_i d' T1 e
      cases hf
      exact ⟨.rt d, T', en_start I r, e, fun v G' ad' H' I' _ _ r' => q v G' ad' H' I' r'⟩
    · rename_i ρ' T1 e
      cases hf
      exact ⟨.nx ρ', T', en_start I r, e, fun σ' G' ad' H' pa' N' _ _ => q .non G' ad' H' N'.iv .non⟩
    · cases hf
  · refine ⟨_, xbody cdv A outer s H E hr ⟨takes_of rfl rfl rfl rfl, passes_of rfl, rfl⟩, ⟨G, H, ad⟩, G, ad, T, (ds.map Sl.dat ++ List.replicate (N.length - ds.length) Sl.un), fun _ => 0, ?_⟩
    unfold runX at hf
    split at hf
    · rename_i x' ρ' T1 e
      cases hf
      exact ⟨x, ρ', T', en_start I r, e, fun σ' G' ad' H' pa' cls d N' _ _ hx => q G' ad' H' cls d N'.iv hx⟩
    · cases hf
theorem calx_of {P : Program} {w : World} {K : PySem.W.Frag} {mg : Str → Option Value} {base : Heap} {x qual : Str} {st : Stmt} {f : Addr} {fd : FuncData} {N ps : List Str} {k n m : Nat} {g : FS} {gx : FXS} (F : Fun K x qual st f fd) (hm : mg x = some (.ref f)) (hb : Binds K fd ps []) (S : FnScope N ps (defScope st))
    (hn : N.length = m) (hp : ps.length = n)
    (hbody : ∀ (cdv : Value) (A : Around) (outer : List Env) (s : Shared) (H : Hp) (E : XK), Room k (A.deeper (envOfC qual (defScope st) s.heap.objs.size f cdv)) →
      XSs (cxOf CX0 P w K mg base N qual (defScope st) f cdv A outer s H E).nox (defBody st) g)
    (xbody : ∀ (cdv : Value) (A : Around) (outer : List Env) (s : Shared) (H : Hp) (E : XK), Room k (A.deeper (envOfC qual (defScope st) s.heap.objs.size f cdv)) →
      Lets (cxOf (L2.CX P w) P w K mg base N qual (defScope st) f cdv A outer s H E) E → RSs (cxOf (L2.CX P w) P w K mg base N qual (defScope st) f cdv A outer s H E) (WE1 E) (defBody st) gx) : CalX P w K mg base x (k + 1) n (runB g m) (runX gx m) := by
  subst hn hp
  exact ⟨f, fd, ps, fnx_ok F S hbody xbody, hm, F.kp, hb⟩
theorem mcalx_of {P : Program} {w : World} {K : PySem.W.Frag} {mg : Str → Option Value} {base : Heap} {c m : String} {C : Addr} {x qual : Str} {st : Stmt} {f : Addr} {fd : FuncData} {N ps : List Str} {k n l : Nat} {g : FS} {gx : FXS} (nm : m ∈ nmT) (hC : ClsA K c C) (cl : Cls K C) (hm : Meth K C (Str.ofString m) f)
    (F : Fun K x qual st f fd) (hb : Binds K fd ps []) (S : FnScope N ps (defScope st)) (hn : N.length = l) (hp : ps.length = n)
    (hbody : ∀ (cdv : Value) (A : Around) (outer : List Env) (s : Shared) (H : Hp) (E : XK), Room k (A.deeper (envOfC qual (defScope st) s.heap.objs.size f cdv)) →
      XSs (cxOf CX0 P w K mg base N qual (defScope st) f cdv A outer s H E).nox (defBody st) g)
    (xbody : ∀ (cdv : Value) (A : Around) (outer : List Env) (s : Shared) (H : Hp) (E : XK), Room k (A.deeper (envOfC qual (defScope st) s.heap.objs.size f cdv)) →
      Lets (cxOf (L2.CX P w) P w K mg base N qual (defScope st) f cdv A outer s H E) E → RSs (cxOf (L2.CX P w) P w K mg base N qual (defScope st) f cdv A outer s H E) (WE1 E) (defBody st) gx) : MCalX P w K mg base c m (k + 1) n (runB g l) (runX gx l) := by
  subst hn hp
  exact ⟨nm, C, f, fd, ps, hC, cl, hm, fnx_ok F S hbody xbody, hb⟩
/-! calls of them -/
def callX (g : XF) (fa : FA) : FXE := fun ρ T => bindF (fa ρ T) fun ds T' => g ds T'
def methX (c m : String) (g : XF) (fo : FE) (fa : FA) : FXE := fun ρ T => bindF (fo ρ T) fun d T1 => match d with
  | .ob k => match T1[k]? with
    | some (.ins c' fs) => if c' = c ∧ (fs.lookup m).isNone = true then bindF (fa ρ T1) fun ds T2 => g (.ob k :: ds) T2 else none
    | _ => none
  | _ => none
section
variable {X : Cx} {W : WX} {e o : Expr} {es : List Expr} {p pos apos : Pos} {f fo : FE} {fs : FA} {c m : String} {x : Str} {k n : Nat} {h : HF} {g : XF} {E : XK}
theorem re_own (C : CalX X.prog X.w X.K X.mg X.base x k n h g) (tk : Takes X W) (hr : Room k X.A) (hg : Gl X x) (ha : XA X (e :: es) fs) (hn : ∀ ρ T ds T', fs ρ T = some (ds, T') → ds.length = n)
    (hdb : (x == ("__debug__" : Str)) = false := by decide) (he : starEach (e :: es) X.env = (false, eval e X.env) :: starEach es X.env := by rfl) (hpl : (backTo pos (starEach es X.env)).any (·.1) = false := by rfl) : RE X W (.Call (.Name x p) (e :: es) [] pos) (callX g fs) := by
  obtain ⟨f, fd, ps, F, hm, hk, hb⟩ := C.ok
  refine pe_weak (pe_callS (E := WE W) F hr hg hm hk hb (passAt tk) ha hdb he hpl) fun σ H Q hw => ?_
  obtain ⟨Z, G, ad, T, ρ, pa, xn, T', N, hf, kk⟩ := hw
  obtain ⟨ds, T1, h1, h2⟩ := bindF_eq hf
  refine ⟨Z, G, ad, T, ρ, pa, ds, T1, N, h1, fun vs G1 ad1 H1 x1 r1 => ⟨by rw [r1.length]; exact hn ρ T ds T1 h1, G1, ad1, T1, ds, x1.en.iv.entry, r1, .inr ⟨xn, T', h2, fun G' ad' H' cls d I hx => ?_⟩⟩⟩
  exact kk G' ad' H' cls d (x1.trans (x1.en.after I)) hx
theorem methx_run {C : Addr} {σ : L2.St} {H : Hp} {Q Q0 : VK} (hm : m ∈ nmT) (hC : ClsA X.K c C) (hw : tR X (WE1 E) (methX c m g fo fs) σ H Q0) (hn : ∀ ρ T ds T', fs ρ T = some (ds, T') → ds.length + 1 = n) : tMeth C (Str.ofString m) (Sx X.mg X.K n h g) [] E (tD X.K fo) (tDA X.K fs) σ H Q := by
  obtain ⟨Z, G, ad, T, ρ, pa, xn, T', N, hf, k⟩ := hw
  obtain ⟨o, T1, h1, h2⟩ := bindF_eq hf
  refine ⟨Z, G, ad, T, ρ, pa, o, T1, N, h1, fun v G1 ad1 H1 x1 r1 => ?_⟩
  cases o with
  | ob kk =>
    cases t1 : T1[kk]? with
    | none => simp only [t1] at h2; cases h2
    | some mo =>
      cases mo with
      | lst ds => simp only [t1] at h2; cases h2
      | ins c' us =>
        simp only [t1] at h2
        split at h2
        · rename_i hc
          obtain ⟨rfl, hl⟩ := hc
          obtain ⟨ds, T2, h3, h4⟩ := bindF_eq h2
          obtain ⟨a, rfl, hk, C', dx, vs, hv, hC', hfs⟩ := x1.en.ob_val r1 t1
          have eC : C' = C := by
            unfold ClsA at hC hC'
            rw [hC] at hC'
            cases hC'
            rfl
          subst eC
          refine ⟨a, dx, vs, rfl, hv, hfs.none hm (Option.isNone_iff_eq_none.mp hl), Z, G1, ad1, T1, ρ, pa, ds, T2, x1.en, h3, fun ws G2 ad2 H2 x2 r2 => ?_⟩
          show Sx X.mg X.K n h g (.ref a :: (ws ++ [])) H2 Q E
          rw [List.append_nil]
          refine ⟨by rw [List.length_cons, r2.length]; exact hn ρ T1 ds T2 h3, G2, ad2, T2, .ob kk :: ds, x2.en.iv.entry, .cons (x2.rp r1) r2, .inr ⟨xn, T', h4, fun G3 ad3 H3 cls d I3 hx => ?_⟩⟩
          exact k G3 ad3 H3 cls d ((x1.trans x2).trans (x2.en.after I3)) hx
        · cases h2
  | _ => cases h2
theorem re_meth {pl : Sem Bool} (M : MCalX X.prog X.w X.K X.mg X.base c m k n h g) (tk : Takes X (WE1 E)) (hr : Room k X.A) (ho : XE X o fo) (ha : XA X (e :: es) fs) (hn : ∀ ρ T ds T', fs ρ T = some (ds, T') → ds.length + 1 = n)
    (hst : starEach (e :: es) X.env = (false, eval e X.env) :: starEach es X.env := by rfl) (hpl : (backTo pos (starEach es X.env)).any (·.1) = false := by rfl)
    (ht : eval (.Call (.Attribute o (Str.ofString m) apos) (e :: es) [] pos) X.env = (do
      let ov ← eval o X.env
      standAt apos.atName
      let (f, first) ← holding [ov] (getMethod ov (Str.ofString m) pl)
      callWith pos f first (backTo pos (starEach (e :: es) X.env)) (backToKw pos (keywordEach [] X.env))) := by rfl) :
    RE X (WE1 E) (.Call (.Attribute o (Str.ofString m) apos) (e :: es) [] pos) (methX c m g fo fs) := by
  obtain ⟨C, f, fd, ps, hC, cl, hm, F, hb⟩ := M.ok
  exact pe_weak (pe_meth (pl := pl) (E := E) ho cl hm F hr hb .nil (passes_call tk fun _ _ _ _ h => h) ha hst hpl ht) fun σ H Q hw => methx_run M.nm hC hw hn
theorem re_meth0 {pl : Sem Bool} (M : MCalX X.prog X.w X.K X.mg X.base c m k 1 h g) (tk : Takes X (WE1 E)) (hr : Room k X.A) (ho : XE X o fo)
    (ht : eval (.Call (.Attribute o (Str.ofString m) apos) [] [] pos) X.env = (do
      let ov ← eval o X.env
      standAt apos.atName
      let (f, first) ← holding [ov] (getMethod ov (Str.ofString m) pl)
      callWith pos f first (backTo pos (starEach [] X.env)) (backToKw pos (keywordEach [] X.env))) := by rfl) :
    RE X (WE1 E) (.Call (.Attribute o (Str.ofString m) apos) [] [] pos) (methX c m g fo nilF) := by
  obtain ⟨C, f, fd, ps, hC, cl, hm, F, hb⟩ := M.ok
  refine pe_weak (pe_meth0 (pl := pl) (E := E) ho cl hm F hr hb .nil (passes_call tk fun _ _ _ _ h => h) ht) fun σ H Q hw => ?_
  obtain ⟨Z, G, ad, T, ρ, pa, d, T', N, hf, kq⟩ := methx_run (Q := Q) (h := h) M.nm hC hw (fun ρ T ds T' h => by cases h; rfl)
  refine ⟨Z, G, ad, T, ρ, pa, d, T', N, hf, fun v G1 ad1 H1 x1 r1 => ?_⟩
  obtain ⟨a, dx, fs, ex, ea, l, Z2, G2, ad2, T2, ρ2, pa2, ds, T3, N2, hf2, kk⟩ := kq v G1 ad1 H1 x1 r1
  cases hf2
  exact ⟨a, dx, fs, ex, ea, l, kk [] G2 ad2 H1 N2.nx .nil⟩
end
end Fx
set_option maxHeartbeats 1000000
namespace Fx
open PySem PySem.Spec PyProof.Rows L2
open Evl (Ex)
/-! ### raise -/
abbrev veT : List Value := [.type "ValueError", .type "Exception", .type "BaseException", .type "object"]
/-- an exception class of one's own, without fields -/
structure OwX (K : PySem.W.Frag) (mg : Str → Option Value) (c : String) : Prop where
  ok : ∃ C, mg (Str.ofString c) = some (.ref C) ∧ PySem.W.excIn K C veT "ValueError.__new__" = true ∧ PySem.W.keepIn K (.ref C) = true ∧ PySem.W.subIn K (.ref C) (.type "BaseException") = some true ∧ PySem.W.typeIn K (.ref C) = some (.type "type")
section
variable {X : Cx} {E : XK} {c nm : String} {m : Str} {j k : Nat} {p p2 pos pos' : Pos} {e : Expr} {f : FE}
theorem rs_raise0 (O : OwX X.K X.mg c) (L : Lets X E) (hg : Gl X (Str.ofString c)) (hdb : (Str.ofString c == ("__debug__" : Str)) = false := by decide) :
    RS X (WE1 E) (.Raise (some (.Call (.Name (Str.ofString c) p) [.Constant (.str m) j p2] [] pos)) none pos') (liX fun _ T => some (⟨c, []⟩, T)) := by
  obtain ⟨C, gC, q, kC, bC, tC⟩ := O.ok
  refine ps_weak (ps_raise L.calm L.tk (pmk_own PySem.F.excBase_ValueError q gC kC (raises_own bC tC) hg hdb)) fun D σ H h => ?_
  obtain ⟨Z, G, ad, T, ρ, pa, x, T', N, hf, kk⟩ := li_imp h fun _ _ => True
  cases hf
  exact kk G ad H _ none N.nx ⟨gC, fun _ => rfl, fun z => absurd rfl z⟩
/-- what such a class' __init__(self, number) keeps -/
def SpI (K : PySem.W.Frag) (nm : String) : Sp := fun vs H Q _ => ∃ a C i, vs = [.ref a, .int i] ∧ i.natAbs.log2 < 1920 ∧ OexC K C ∧ PySem.W.findIn K (.ref C) (Str.ofString nm) = some none ∧ H a = some (exo a C none) ∧
  ∀ dx, H dx = none → dx ≠ a → Q .non (upd (upd H dx (exd dx [(Str.ofString nm, .int i)])) a (exo a C (some dx)))
structure KExc (P : Program) (w : World) (K : PySem.W.Frag) (mg : Str → Option Value) (base : Heap) (c nm : String) (k : Nat) : Prop where
  ok : ∃ C fI fd ps, mg (Str.ofString c) = some (.ref C) ∧ OexC K C ∧ PySem.W.findIn K (.ref C) (Str.ofString nm) = some none ∧ PySem.W.findIn K (.ref C) "__init__" = some (some (.ref fI)) ∧ PySem.W.typeIn K (.ref fI) = some (.type "function") ∧ Binds K fd ps [] ∧
    FnOk P w K mg base CX0 k fI fd ps (SpI K nm)
noncomputable def mkX (c nm : String) (f : FE) : FXE := fun ρ T => bindF (f ρ T) fun d T1 => match d with
  | .int i => if dc (i.natAbs.log2 < 1920) then some (⟨c, [(nm, .int i)]⟩, T1) else none
  | _ => none
theorem Nx.fresh {K : PySem.W.Frag} {Z : Zc} {G : Hp} {ad : List Addr} {T : Tm} {ρ : Rho} {σ : L2.St} {H : Hp} {pa : Nat → Addr} {p : Addr} (N : En K Z G ad T ρ σ H pa) (hp : H p = none) (o : HO) : Nx K Z G ad H ρ σ pa T G ad (upd H p o) :=
  ⟨N.fresh hp o, Ex.refl _, Pre.refl _, fun b u h _ => by rw [upd_ne (ne_of_none h hp)]; exact h, fun _ _ h => .inl h, fun _ h => .inl h⟩
theorem rs_raise1 (O : KExc X.prog X.w X.K X.mg X.base c nm k) (L : Lets X E) (hr : Room (k + 1) X.A) (hg : Gl X (Str.ofString c)) (he : XE X e f) (hdb : (Str.ofString c == ("__debug__" : Str)) = false := by decide)
    (hst : starEach [e] X.env = (false, eval e X.env) :: starEach [] X.env := by rfl) (hpl : (backTo pos (starEach [] X.env)).any (·.1) = false := by rfl) :
    RS X (WE1 E) (.Raise (some (.Call (.Name (Str.ofString c) p) [e] [] pos)) none pos') (liX (mkX c nm f)) := by
  obtain ⟨C, fI, fd, ps, gC, T, hno, iC, tI, hb, F⟩ := O.ok
  refine ps_weak (ps_raise L.calm L.tk (pmk_oex T iC tI F hr hb .nil pass0 hg gC (pa_cons he pa_nil hst) hdb hst hpl)) fun D σ H h => ?_
  obtain ⟨Z, G, ad, T0, ρ, pa, x, T', N, hf, kk⟩ := li_imp h fun _ _ => True
  obtain ⟨d, T1, h1, h2⟩ := bindF_eq hf
  refine ⟨Z, G, ad, T0, ρ, pa, d, T1, N, h1, fun v G1 ad1 H1 x1 r1 => ⟨by simp, fun a ha => ?_⟩⟩
  split at h2
  · rename_i i
    split at h2
    · rename_i hi
      cases h2
      obtain rfl := r1.inv_int
      refine ⟨a, C, i, rfl, of_dc hi, T, hno, upd_same, fun dx hdx ne => ⟨rfl, dx, _, upd_same, by rw [upd_ne ne]; exact upd_same, ?_, ?_⟩⟩
      · rw [upd_ne ne] at hdx
        exact hdx
      · have hdx' : H1 dx = none := by rw [upd_ne ne] at hdx; exact hdx
        have eH : upd (del (upd (upd (upd H1 a (exo a C none)) dx (exd dx [(Str.ofString nm, V.int i)])) a (exo a C (some dx))) a) dx (.xd [(Str.ofString nm, V.int i)]) = upd H1 dx (.xd [(Str.ofString nm, V.int i)]) := by
          funext b
          by_cases hb1 : b = dx
          · subst hb1
            rw [upd_same, upd_same]
          · rw [upd_ne hb1, upd_ne hb1]
            by_cases hb2 : b = a
            · subst hb2
              rw [del_same, ha]
            · rw [del_ne hb2, upd_ne hb2, upd_ne hb1, upd_ne hb2]
        rw [eH]
        have x2 := Nx.fresh x1.en hdx' (.xd [(Str.ofString nm, V.int i)])
        refine kk G1 ad1 _ (.ref C) (some dx) (x1.trans x2) ⟨gC, (fun z => nomatch z), fun _ => ⟨dx, _, rfl, upd_same, fun f z hz => ?_⟩⟩
        simp only [List.lookup] at hz
        split at hz
        · rename_i hf2
          cases hz
          have : f = nm := by simpa using hf2
          subst this
          exact ⟨.int i, by simp [List.lookup], .int i⟩
        · cases hz
    · cases h2
  · cases h2
end
/-! ### the __init__ of such a class -/
section
variable {X : Cx} {es : List Expr} {ta : TA} {p1 p2 pos : Pos} {e : Expr}
/-- C0.__init__(self, ..), C0 a class of one's own without __init__ -/
theorem pe_clsinit {pl : Sem Bool} {x : Str} {C0 : Addr} (hg : Gl X x) (hm : X.mg x = some (.ref C0)) (hs : PySem.W.specialIn X.K (.ref C0) "__getattribute__" = some (some (.builtin "type.__getattribute__"))) (ht : PySem.W.typeIn X.K (.ref C0) = some (.type "type"))
    (hr : PySem.W.readsIn X.K C0 (.type "type") = true) (vV : PySem.W.findCls X.K (.ref C0) (.type "type") "__init__" = some (.val (.builtin "ValueError.__init__"))) (ha : PA X (e :: es) ta) (hdb : (x == ("__debug__" : Str)) = false := by decide)
    (hc : eval (.Call (.Attribute (.Name x p1) "__init__" p2) (e :: es) [] pos) X.env = (do
      let ov ← eval (.Name x p1) X.env
      standAt p2.atName
      let (f, first) ← holding [ov] (getMethod ov "__init__" pl)
      callWith pos f first (backTo pos (starEach (e :: es) X.env)) (backToKw pos (keywordEach [] X.env))) := by rfl)
    (he : starEach (e :: es) X.env = (false, eval e X.env) :: starEach es X.env := by rfl) (hpl : (backTo pos (starEach es X.env)).any (·.1) = false := by rfl) :
    PE X (.Call (.Attribute (.Name x p1) "__init__" p2) (e :: es) [] pos) (tVeI X.K ta) := by
  refine ⟨fun pins s σ H Q I h => ?_⟩
  refine PySem.W.methodCall_KW (ld_glob I hg hm ?_ hdb) hc
  obtain ⟨m, fr⟩ := I.fr
  refine PySem.W.method_of_cls fr I.ok.mod.kin hs (PySem.W.cls_val fr I.ok.mod.kin ht hr vV (by decide +kernel) ?_)
  show wpAny _ _ (callWith pos (Value.builtin "ValueError.__init__") [] (backTo pos (starEach (e :: es) X.env)) []) _ _ _
  refine PyProof.Rows.callWith_method1 (thn (ha.run pos pins _ σ H _ (I.tok _) h) fun us s1 ⟨vs, H1, I1, r1, a, C, ws, ev, hl, T, ea, q⟩ => ?_) he hpl
  subst ev
  cases r1 with
  | @cons _ u0 _ ur ra rw' =>
    obtain rfl : u0 = Value.ref a := ra
    refine oinit_ok T I1 ea ?_ fun s' J => ⟨.non, H1, J, rfl, q⟩
    rw [← Paired.length rw', sizeLine_eq]
    omega
end
end Fx
set_option maxHeartbeats 2000000
namespace Fx
open PySem PySem.Spec PyProof.Rows L2
open Evl (Ex)
/-! ### several clauses 'except C as n' -/
/-- an exception at a that the try has in its hand -/
structure InHand (X : Cx) (pins : List (Addr × Obj)) (a : Addr) (B : Heap) (cls : Value) (d : Option Addr) (σ : L2.St) (H : Hp) (sI s : Shared) : Prop where
  J : Inv X pins σ H sI
  nb : ∀ b o, sI.heap.get? b = some o → b ∉ frs X.stack → B.get? b = some o
  up : sI.heap.UpToSlots s.heap
  os : s.os = sI.os
  ag : AllBare s.gens
  na : H a = none
  fl : HandSPX.FlyingZ B (X.env :: X.outer) a (L2.Zc cls d) s.heap
section
variable {X : Cx} {pins : List (Addr × Obj)} {a : Addr} {B : Heap} {cls : Value} {d : Option Addr} {σ : L2.St} {H : Hp} {sI s : Shared}
theorem InHand.now (h : InHand X pins a B cls d σ H sI s) : Inv X pins σ H s := h.J.landed h.nb h.fl.1 h.up h.os h.ag
theorem InHand.to {h' : Heap} (h : InHand X pins a B cls d σ H sI s) (fl : HandSPX.FlyingZ B (X.env :: X.outer) a (L2.Zc cls d) h') (u : s.heap.UpToSlots h') : InHand X pins a B cls d σ H sI { s with heap := h' } :=
  ⟨h.J, h.nb, h.up.trans u, h.os, h.ag, h.na, fl⟩
theorem InHand.apart (h : InHand X pins a B cls d σ H sI s) (hf : X.env.frame = some X.env.locals) : a ≠ X.env.locals ∧ a ∉ X.fs := by
  obtain ⟨oe, vs, he, hz, hd⟩ := h.fl.there
  have nfr : a ∉ frs (X.env :: X.outer) := fun hm => by
    obtain ⟨_, o', e', hnf⟩ := h.fl.2.2.1.mem hm
    rw [he] at e'
    cases e'
    exact hnf _ hd
  refine ⟨fun z => nfr (List.mem_filterMap.mpr ⟨X.env, List.mem_cons_self, by rw [hf, z]⟩), fun hm => ?_⟩
  obtain ⟨e, he', q⟩ := List.mem_filterMap.mp hm
  exact nfr (List.mem_filterMap.mpr ⟨e, List.mem_cons_of_mem _ he', q⟩)
theorem InHand.suite (h : InHand X pins a B cls d σ H sI s) (hf : X.env.frame = some X.env.locals) : ∃ oe, (∃ vs, oe.data = .fields vs) ∧ L2.Zc cls d oe ∧ Inv (X.suite a ((a, oe) :: (X.pn ++ pins))) [] σ H s := by
  obtain ⟨oe, vs, he, hz, hd⟩ := h.fl.there
  obtain ⟨n1, n2⟩ := h.apart hf
  exact ⟨oe, ⟨vs, hd⟩, hz, h.now.suite he hd h.na n1 n2⟩
end
/-- the clauses' wish -/
def wAll (K : PySem.W.Frag) (i : Nat) (Wout : WX) (D : Ends) : List (Value × (Addr → Value → Option Addr → TS)) → WX
  | [] => Wout
  | (c, ts) :: r => fun cls d σ H => ∃ b, PySem.W.exmOne K cls c = some b ∧ (b = true → ∀ a, H a = none → ts a cls d { nx := fun σ' H' => D.nx (σ'.set i none) H', rt := D.rt, bk := fun σ' H' => D.bk (σ'.set i none) H', ct := fun σ' H' => D.ct (σ'.set i none) H' } (σ.set i (some (.ref a))) H) ∧
      (b = false → wAll K i Wout D r cls d σ H)
inductive Clauses (X : Cx) (n : Str) : List ExceptHandler → List (Value × (Addr → Value → Option Addr → TS)) → Prop
  | nil : Clauses X n [] []
  | cons {x : Str} {c : Value} {ts : Addr → Value → Option Addr → TS} {b₀ : Stmt} {suite : List Stmt} {np pos' : Pos} {hds : List ExceptHandler} {l : List (Value × (Addr → Value → Option Addr → TS))} (hc : Names X x c)
      (hsu : ∀ (a : Addr) (oe : Obj) (cls : Value) (d : Option Addr) (pn : List (Addr × Obj)), L2.Zc cls d oe → (∃ vs, oe.data = .fields vs) → PSs (X.suite a ((a, oe) :: pn)) (b₀ :: suite) (ts a cls d)) (r : Clauses X n hds l) :
      Clauses X n (.ExceptHandler (some (.Name x np)) (some n) (b₀ :: suite) pos' :: hds) ((c, ts) :: l)
section
variable {X : Cx} {n : Str} {i : Nat} {body : List Stmt} {h₀ : ExceptHandler} {hds : List ExceptHandler} {l : List (Value × (Addr → Value → Option Addr → TS))} {pos : Pos} {tb : WX → TS} {Wout : WX}
theorem clauses_run (hs : X.stack = X.env :: X.outer) (hf : X.env.frame = some X.env.locals) (hN : X.N.Nodup) (hi : X.N[i]? = some n) (hln : X.env.kindOf n = some .local) (tk : Takes X Wout) {pins : List (Addr × Obj)} {D : Ends} {a : Addr} {B : Heap} {cls : Value} {d : Option Addr} {σ : L2.St} {H : Hp} {sI : Shared}
    (hh : Clauses X n hds l) : ∀ s, InHand X pins a B cls d σ H sI s → wAll X.K i Wout D l cls d σ H → wpAny (model X.prog X.w) X.A (handleBy (.ref a) X.env hds) (SP X pins D) X.xe s := by
  induction hh with
  | nil =>
    intro s h w
    refine wpAny_handleBy_nil ?_
    have fl := h.fl
    obtain ⟨k1, k2, k3, oe, vs, T, oT, ts', he, hz, hd, h1, hr⟩ := id fl
    unfold PySem.passOn
    refine wpAny_bind (wpAny_field he hd h1 ?_)
    rw [if_neg (show ¬ ((Value.ref T == Value.none) = true) from by simp)]
    have last : wpAny (model X.prog X.w) X.A (setFlight (.ref a) X.env.frame) (fun _ s4 => wpAny (model X.prog X.w) X.A (throw (.ref a) : Sem Flow) (SP X pins D) X.xe s4) X.xe s := by
      rw [hf]
      refine HandSPX.setFlight_upZ fl fun h4 hh4 up4 => wpAny_throw (tk _ _ ?_)
      exact ⟨a, B, sI, pins, σ, H, cls, d, rfl, h.J, h.nb, h.up.trans up4, .inr (.inr (by rw [hs]; exact hh4)), h.na, h.os, h.ag, w⟩
    first
      | exact wpAny_bind (wpAny_pure (wpAny_bind last))
      | exact wpAny_bind last
  | @cons x c ts b₀ suite np pos' hds2 l2 hc hsu r ih =>
    intro s h w
    obtain ⟨b, hb1, hyes, hno⟩ := w
    have J3 := h.now
    obtain ⟨oe3, f3, z3, S3⟩ := h.suite hf
    refine wpAny_handleBy_cons (codeAny_handlers_test ?_) (by intro q; cases q)
    have LT : PySem.W.Looks (model X.prog X.w) s.heap (typeOf (.ref a)) cls := fun A Q E s' k q => by
      obtain ⟨oe, vs, he, hz, hd⟩ := h.fl.there
      exact wpAny_typeOf_ref (k _ _ he) (by rw [hz.1]; exact q)
    have LM := PySem.W.exm_one (M := model X.prog X.w) J3.kIn LT hb1
    have test : ∀ {Q : Value → Shared → Prop} {E : Value → Shared → Prop}, Q c s → wpAny (model X.prog X.w) (X.A.mark (some (.ref a))) (eval (.Name x np) X.env) Q E s := fun {Q E} q => by
      obtain ⟨hg, hdbg, hm | ⟨hm, hv, hnn⟩⟩ := hc
      · exact ld_glob (X := X.suite a ((a, oe3) :: (X.pn ++ pins))) S3 hg hm q hdbg
      · exact ld_blt (X := X.suite a ((a, oe3) :: (X.pn ++ pins))) S3 hg hm hv q hnn hdbg
    refine test (LM.here ?_)
    cases b with
    | false => exact ih s h (hno rfl)
    | true =>
      refine codeAny_handlers_suite_as ?_
      refine HandSPX.lands_againZ h.fl fun h4 fl4 up4 => ?_
      have g4 := h.to fl4 up4
      have ok := g4.now.ok
      obtain ⟨oe4, f4, z4, S4⟩ := g4.suite hf
      refine store_ok (X := X.suite a ((a, oe4) :: (X.pn ++ pins))) (v := .ref a) S4 hN hi (.inl hln) rfl (fun s5 S5 => ?_) (.inr hln)
      refine wpAny_mono ((hsu a oe4 cls d (X.pn ++ pins) z4 f4).run [] s5 _ H _ S5 (hyes rfl a h.na)) (fun fw s6 hsp => ?_) (fun _ _ z => False.elim z)
      have leave : ∀ {σ6 : L2.St} {H6 : Hp} {Q : Shared → Prop}, Inv (X.suite a ((a, oe4) :: (X.pn ++ pins))) [] σ6 H6 s6 → (∀ s7, Inv X pins (σ6.set i none) H6 s7 → Q s7) →
          wpAny (model X.prog X.w) X.A (do bindName X.env n .none; unbindBehindTheSuite X.env n pos') (fun _ s7 => Q s7) X.xe s6 := fun S6 hq => gone_ok (S6.unsuite ok) hN hi hln hq
      cases fw with
      | ret u =>
        obtain ⟨v6, σ6, H6, S6, r6, q6⟩ := hsp
        exact leave S6 fun s7 J7 => ⟨_, _, _, J7, r6, q6⟩
      | next =>
        obtain ⟨σ6, H6, S6, q6⟩ := hsp
        exact leave S6 fun s7 J7 => ⟨_, _, J7, q6⟩
      | brk =>
        obtain ⟨σ6, H6, S6, q6⟩ := hsp
        exact leave S6 fun s7 J7 => ⟨_, _, J7, q6⟩
      | cont =>
        obtain ⟨σ6, H6, S6, q6⟩ := hsp
        exact leave S6 fun s7 J7 => ⟨_, _, J7, q6⟩
/-- try: body / except C as n: .. / except D as n: .. -/
theorem ps_try_all (hs : X.stack = X.env :: X.outer) (hf : X.env.frame = some X.env.locals) (hN : X.N.Nodup) (hi : X.N[i]? = some n) (hln : X.env.kindOf n = some .local) (tk : Takes X Wout)
    (hb : ∀ (W : WX) (pn : List (Addr × Obj)) (xe : Value → Shared → Prop), Takes (X.tr pn xe) W → PassesOwn (model X.prog X.w) X.A X.env xe → PSs (X.tr pn xe) body (tb W))
    (hh : Clauses X n (h₀ :: hds) l) : PS X (.Try body (h₀ :: hds) [] [] pos) (fun D σ H => tb (wAll X.K i Wout D l) D σ H) := by
  refine ⟨fun pins s σ H D I h => ?_⟩
  have ok := I.ok
  have hfr : X.A.frames = some (X.env :: X.outer) := by rw [ok.frames, hs]
  refine wpAny_Try_except ?_
  refine wpAny_mono ((hb (wAll X.K i Wout D l) (X.pn ++ pins) (fun e s₁ => wpAny (model X.prog X.w) X.A (noteFrame e X.env) (fun _ s₂ => wpAny (model X.prog X.w) X.A (setFlight e none) (fun _ s₃ =>
    wpAny (model X.prog X.w) X.A (handleBy e X.env (h₀ :: hds)) (SP X pins D) X.xe s₃) X.xe s₂) X.xe s₁) (fun u s' xx => ?_) PassesOwn.looking).run [] s σ H D (I.toTry _) h) (fun fw s1 hsp => ?_) (fun e s1 he => he)
  · obtain ⟨a, B, sI, pins', σ', H', cls, d, rfl, J', nb, up, sky, na, os, ag, w⟩ := xx
    have sky' : Sky B (X.env :: X.outer) a (L2.Zc cls d) X.env.locals s'.heap := by rw [← hs]; exact sky
    show wpAny (model X.prog X.w) X.A (noteFrame (.ref a) X.env) _ _ _
    exact Sky.land L2.Zc.steady hfr hf sky' fun h3 fl3 up3 => clauses_run hs hf hN hi hln tk hh _ ⟨J'.ofTry ok, nb, up.trans up3, os, ag, na, fl3⟩ w
  · cases fw with
    | ret u =>
      obtain ⟨v, σ', H', J', r, q⟩ := hsp
      exact ⟨v, σ', H', J'.ofTry ok, r, q⟩
    | next =>
      obtain ⟨σ', H', J', q⟩ := hsp
      exact wpAny_execs_nil ⟨σ', H', J'.ofTry ok, q⟩
    | brk =>
      obtain ⟨σ', H', J', q⟩ := hsp
      exact ⟨σ', H', J'.ofTry ok, q⟩
    | cont =>
      obtain ⟨σ', H', J', q⟩ := hsp
      exact ⟨σ', H', J'.ofTry ok, q⟩
end
end Fx
set_option maxHeartbeats 1000000
namespace Fx
open PySem PySem.Spec PyProof.Rows L2
open Evl (Ex)
/-! ### isinstance of what was caught; its field -/
def DOk (d : Option Addr) (H : Hp) : Prop := d = none ∨ ∃ dd fs, d = some dd ∧ H dd = some (.xd fs)
def rIsX (K : PySem.W.Frag) (D a : Addr) (d : Option Addr) : List V → Hp → VK → Prop := fun xs H Q => ∃ (c : V) (cv : Value) (b : Bool), xs = [.ref a, c] ∧ (∀ u, RelV c u → u = cv) ∧ PySem.W.kitOne K (.ref D) cv = some b ∧ DOk d H ∧ Q (.bl b) H
theorem call_isX {X : Cx} {a D : Addr} {oe : Obj} {d : Option Addr} {pn : List (Addr × Obj)} (C : ExcC X.K D) (hz : L2.Zc (.ref D) d oe) (hf : ∃ vs, oe.data = .fields vs) : CallR (X.suite a ((a, oe) :: pn)) (.builtin "isinstance") (rIsX X.K D a d) := by
  intro pins s σ H xs us Q I r h
  obtain ⟨c, cv, b, rfl, hcv, e, hd, q⟩ := h
  cases r with
  | cons rx rr =>
    cases rr with
    | cons rt rr =>
      cases rr
      cases rx
      have ec := hcv _ rt
      subst ec
      obtain ⟨hget, _⟩ := I.pin (a, oe) (List.mem_append.mpr (.inl List.mem_cons_self))
      obtain ⟨vs, hv⟩ := hf
      have J : ∃ od, PySem.W.InstAt s.heap a oe D od := by
        rcases hd with rfl | ⟨dd, fs, rfl, ea⟩
        · refine ⟨none, ⟨hget, hz.1, by unfold PySem.W.notCls; rw [hv] <;> rfl, ?_⟩⟩
          rw [hz.2]
          trivial
        · have hx : ObjOk X.prog X.w H s.heap dd (.xd fs) := I.hok dd _ ea
          obtain ⟨mA, hns, hr⟩ := hx
          obtain ⟨od, ho, hl⟩ := lookIn_ns hns
          exact ⟨some od, ⟨hget, hz.1, by unfold PySem.W.notCls; rw [hv] <;> rfl, by rw [hz.2]; exact ho⟩⟩
      obtain ⟨od, J⟩ := J
      obtain ⟨cd, hcd, _⟩ := PySem.W.any_some C.hd
      exact PySem.W.kia_one (PySem.W.kitx_exc (od := od) (by rw [hcd]; rfl) C.hg C.hk C.hs C.ha C.hn C.ht C.hm) I.kIn J e (fun z => nomatch z) fun tk => ⟨.bl b, H, I.kept (t' := tk) fun _ _ z => z, rfl, q⟩
def IsOk (i : Nat) (a : Addr) (d : Option Addr) (σ : L2.St) (H : Hp) : Prop := σ[i]? = some (some (.ref a)) ∧ DOk d H
def IsT (i : Nat) (a : Addr) (d : Option Addr) (b : Bool) : TT := fun σ H Q => IsOk i a d σ H ∧ Q b H
section
variable {X : Cx} {a D : Addr} {oe : Obj} {d : Option Addr} {pn : List (Addr × Obj)} {i : Nat} {n : Str} {e1 e2 e3 ce : Expr} {p p1 p2 pos q : Pos} {sts : List Stmt} {c : V} {cv : Value} {b : Bool}
theorem pt_is (C : ExcC X.K D) (hz : L2.Zc (.ref D) d oe) (hf : ∃ vs, oe.data = .fields vs) (ke : PySem.W.kitOne X.K (.ref D) cv = some b) (he : PE (X.suite a ((a, oe) :: pn)) (.Name n q) (tVar i)) (hc : PE (X.suite a ((a, oe) :: pn)) ce (tC c)) (hcv : ∀ u, RelV c u → u = cv)
    (hg : Gl X "isinstance") (hm : X.mg "isinstance" = none)
    (hst : starEach [.Name n q, ce] X.env = (false, eval (.Name n q) X.env) :: starEach [ce] X.env := by rfl) (hst2 : starEach [ce] X.env = (false, eval ce X.env) :: starEach [] X.env := by rfl) (hpl : (backTo pos (starEach [ce] X.env)).any (·.1) = false := by rfl)
    (hi : ∀ whole, isTrue (.Call (.Name "isinstance" p) [.Name n q, ce] [] pos) X.env whole = (do let v ← whole; standAt pos; holding [v] (truthy v)) := by intro _; rfl) :
    PT (X.suite a ((a, oe) :: pn)) (.Call (.Name "isinstance" p) [.Name n q, ce] [] pos) (IsT i a d b) := by
  refine pt_weak (pt_val (pe_callB (call_isX C hz hf) hg hm (by decide +kernel) (pa_cons he (pa_cons hc pa_nil hst2) hst) (he := hst) (hpl := hpl)) hi) fun σ H Q h => ?_
  obtain ⟨⟨h1, h2⟩, h3⟩ := h
  exact ⟨_, h1, c, cv, b, rfl, hcv, ke, h2, b, rfl, h3⟩
theorem pss_void {X : Cx} : PSs X sts (fun _ _ _ => False) := ⟨fun _ _ _ _ _ _ h => h.elim⟩
theorem if_no3 {X : Cx} (h1 : PT X e1 (IsT i a d false)) (h2 : PT X e2 (IsT i a d false)) (h3 : PT X e3 (IsT i a d false)) : PS X (.If (.BoolOp .Or [e1, e2, e3] p) sts [] q) (fun D σ H => IsOk i a d σ H ∧ D.nx σ H) :=
  ps_weak (ps_if (pw_or h1 (pw_or h2 (pw_or1 h3))).pt pss_void pss_nil) fun D σ H h => ⟨h.1, iteF ⟨h.1, iteF ⟨h.1, iteF h.2⟩⟩⟩
theorem if_no2n {X : Cx} (h1 : PT X e1 (IsT i a d true)) (h2 : PT X e2 (IsT i a d true)) : PS X (.If (.BoolOp .Or [.UnaryOp .Not e1 p1, .UnaryOp .Not e2 p2] p) sts [] q) (fun D σ H => IsOk i a d σ H ∧ D.nx σ H) :=
  ps_weak (ps_if (pw_or (pt_not h1) (pw_or1 (pt_not h2))).pt pss_void pss_nil) fun D σ H h => ⟨h.1, iteF ⟨h.1, iteF h.2⟩⟩
theorem if_no1n {X : Cx} (h1 : PT X e1 (IsT i a d true)) : PS X (.If (.UnaryOp .Not e1 p1) sts [] q) (fun D σ H => IsOk i a d σ H ∧ D.nx σ H) :=
  ps_weak (ps_if (pt_not h1) pss_void pss_nil) fun D σ H h => ⟨h.1, iteF h.2⟩
end
end Fx
set_option maxHeartbeats 1000000
namespace Fx
open PySem PySem.Spec PyProof.Rows L2
open Evl (Ex)
/-! ### C(number).field, C an exception class with its own __init__ -/
def tMkV (C : Addr) (sp : Sp) (ta : TA) : TE := fun σ H Q => ta σ H fun vs H1 => vs.length ≤ 1000 ∧ ∀ a, H1 a = none → sp (.ref a :: vs) (upd H1 a (exo a C none)) (fun v H2 => v = .non ∧ Q (.ref a) H2) (fun _ _ _ => False)
section
variable {X : Cx} {o e : Expr} {es : List Expr} {to te : TE} {ta : TA} {p pos : Pos} {n x : Str}
theorem pe_oexV {CX : CXT} {C fI : Addr} {k : Nat} {fd : FuncData} {ps : List Str} {sp : Sp} (T : OexC X.K C) (iC : PySem.W.findIn X.K (.ref C) "__init__" = some (some (.ref fI))) (tI : PySem.W.typeIn X.K (.ref fI) = some (.type "function"))
    (F1 : FnOk X.prog X.w X.K X.mg X.base CX k fI fd ps sp) (hr : Room (k + 1) X.A) (hb : Binds X.K fd ps []) (hx : Passes CX X (fun _ _ _ => False)) (hg : Gl X x) (hm : X.mg x = some (.ref C)) (ha : PA X (e :: es) ta)
    (hdb : (x == ("__debug__" : Str)) = false := by decide) (he : starEach (e :: es) X.env = (false, eval e X.env) :: starEach es X.env := by rfl) (hpl : (backTo pos (starEach es X.env)).any (·.1) = false := by rfl) :
    PE X (.Call (.Name x p) (e :: es) [] pos) (tMkV C sp ta) := by
  refine ⟨fun pins s σ H Q I h => ?_⟩
  obtain ⟨nm, q, N, bs, bm, sn, sub, ab, col, dd, k0, k1, k2, k3, k5, hC, hbm⟩ := T.cls
  refine wpAny_Call_Name_kw (ld_glob I hg hm ?_ hdb)
  refine PySem.W.callWith_K (h₀ := X.base) I.ok.mod.kin T.kC (thn (ha.run pos pins s σ H _ I h) fun us s1 ⟨vs, H1, I1, r1, hz, q1⟩ => ⟨I1.kIn, ?_⟩) he hpl
  show wpAny _ _ (call (.ref C) us) _ _ _
  obtain ⟨hp, g, dr, tk, os⟩ := s1
  have le1 : hp.objs.size ≤ hp.objs.size + 1 := Nat.le_succ _
  have hq := q1 (hp.objs.size + 1) (I1.hok.fresh le1)
  have kk : ∀ b o, hp.get? b = some o → ((hp.push (PySem.W.kdv_tup us)).push (PySem.HandSPX.excO C hp.objs.size)).get? b = some o := fun b o e => Heap.get?_push_of_some _ (Heap.get?_push_of_some _ e)
  have hget : ((hp.push (PySem.W.kdv_tup us)).push (PySem.HandSPX.excO C hp.objs.size)).get? (hp.objs.size + 1) = some (PySem.HandSPX.excO C hp.objs.size) := by heap_get
  have I2 := I1.laid (t' := tk) (a := hp.objs.size + 1) (o := exo (hp.objs.size + 1) C none) (h' := (hp.push (PySem.W.kdv_tup us)).push (PySem.HandSPX.excO C hp.objs.size)) kk le1 (exo_ok hget)
  have r2 : Vals (V.ref (hp.objs.size + 1) :: vs) (Value.ref (hp.objs.size + 1) :: us) := .cons rfl r1
  have hl : (Value.ref (hp.objs.size + 1) :: us).length = ps.length := by rw [← r2.length]; exact F1.len _ _ _ _ hq
  have hus : us.length ≤ sizeLine := by
    rw [← Paired.length r1, sizeLine_eq]
    omega
  have b := hb _ (Value.ref (hp.objs.size + 1) :: us) I2.kIn (by rw [List.append_nil]; exact hl)
  rw [List.append_nil] at b
  refine wpAny_call (PySem.HandSPX.call_own PySem.F.excBase_ValueError (fun Y => PySem.HandSPX.refsVE_contains Y bm hbm) (I1.kIn _ _ hC) (PySem.W.looks_findIn I1.kIn iC) (fun self => PySem.W.bind_fn I1.kIn self tI) hus
    (codeAny_mono (F1.run _ X.stack _ _ ⟨Value.ref (hp.objs.size + 1) :: us, []⟩ (Value.ref (hp.objs.size + 1) :: us) _ _ (fun _ _ _ => False) (hr.make C us []) (I2.env0.make C us []) b r2 hq) fun r s' hq' => ?_))
  cases r with
  | error er => exact hx pins σ _ _ er s' I2 hq'
  | ok fl =>
    cases fl with
    | ret u =>
      obtain ⟨v, H2, J, rv, ev, q2⟩ := I2.after hq'
      subst ev
      exact ⟨rv, .ref (hp.objs.size + 1), H2, J, rfl, q2⟩
    | next => exact False.elim hq'
    | brk => exact False.elim hq'
    | cont => exact False.elim hq'
def tExf (K : PySem.W.Frag) (n : Str) (te : TE) : TE := fun σ H Q => te σ H fun x H1 => ∃ (a C dd : Addr) (fs : List (Str × V)) (v : V), x = .ref a ∧ H1 a = some (exo a C (some dd)) ∧ H1 dd = some (exd dd fs) ∧ XfC K C ∧ PySem.W.findIn K (.ref C) n = some none ∧ fs.lookup n = some v ∧ Q v H1
theorem pe_exf (he : PE X e te) (hb : attributeBase e n X.env (eval e X.env) = eval e X.env := by rfl) : PE X (.Attribute e n pos) (tExf X.K n te) := by
  refine ⟨fun pins s σ H Q I h => ?_⟩
  refine attr_of hb (thn (he.run pins s σ H _ I h) fun u s1 hh => ?_)
  obtain ⟨x, H1, I1, rx, a, C, dd, fs, v, ex, ea, ed, T, hno, l, q⟩ := hh
  subst ex
  obtain rfl : u = Value.ref a := rx
  obtain ⟨t1, ho⟩ := exo_at I1.hok ea
  obtain ⟨mA, hns, rel⟩ := exd_at I1.hok ed
  obtain ⟨od, hod, hl⟩ := lookIn_ns hns
  obtain ⟨u, hu, ru⟩ := RelO.some_of (v := v) (o := mA n) (by rw [← l]; exact rel n)
  exact HandSPX.exc_get I1.kIn ⟨ho, rfl, rfl, hod⟩ T.ga T.gg T.exC (PySem.W.findObj_own T.hdC hno rfl (by rw [hl, hu])) (handed_of ru) ⟨v, H1, I1.tok _, ru, q⟩
/-- C(i).number -/
noncomputable def excF (f : FE) : FE := fun ρ T => bindF (f ρ T) fun d T1 => match d with
  | .int i => if dc (i.natAbs.log2 < 1920) then some (.int i, T1) else none
  | _ => none
theorem xe_excf {c nm : String} {k : Nat} {f : FE} {a : Expr} {p2 : Pos} (O : KExc X.prog X.w X.K X.mg X.base c nm k) (hXf : ∀ C, X.mg (Str.ofString c) = some (.ref C) → XfC X.K C) (hr : Room (k + 1) X.A) (hg : Gl X (Str.ofString c)) (he : XE X a f)
    (hdb : (Str.ofString c == ("__debug__" : Str)) = false := by decide)
    (hst : starEach [a] X.env = (false, eval a X.env) :: starEach [] X.env := by rfl) (hpl : (backTo pos (starEach [] X.env)).any (·.1) = false := by rfl)
    (hb : attributeBase (.Call (.Name (Str.ofString c) p) [a] [] pos) (Str.ofString nm) X.env (eval (.Call (.Name (Str.ofString c) p) [a] [] pos) X.env) = eval (.Call (.Name (Str.ofString c) p) [a] [] pos) X.env := by rfl) :
    XE X (.Attribute (.Call (.Name (Str.ofString c) p) [a] [] pos) (Str.ofString nm) p2) (excF f) := by
  obtain ⟨C, fI, fd, ps, gC, T, hno, iC, tI, hbn, F⟩ := O.ok
  refine pe_weak (pe_exf (pe_oexV T iC tI F hr hbn pass0 hg gC (pa_cons he pa_nil hst) hdb hst hpl) hb) fun σ H Q h => ?_
  obtain ⟨Z, G, ad, T0, ρ, pa, d, T', N, hf, kk⟩ := h
  obtain ⟨y, T1, h1, h2⟩ := bindF_eq hf
  refine ⟨Z, G, ad, T0, ρ, pa, y, T1, N, h1, fun v G1 ad1 H1 x1 r1 => ⟨by simp, fun z hz => ?_⟩⟩
  split at h2
  · rename_i i
    split at h2
    · rename_i hi
      cases h2
      obtain rfl := r1.inv_int
      refine ⟨z, C, i, rfl, of_dc hi, T, hno, upd_same, fun dx hdx ne => ⟨rfl, z, C, dx, [(Str.ofString nm, .int i)], .int i, rfl, upd_same, by rw [upd_ne ne]; exact upd_same, hXf C gC, hno, by simp [List.lookup], ?_⟩⟩
      have hdx' : H1 dx = none := by rw [upd_ne ne] at hdx; exact hdx
      have eH : upd (upd (upd H1 z (exo z C none)) dx (exd dx [(Str.ofString nm, V.int i)])) z (exo z C (some dx)) = upd (upd H1 dx (exd dx [(Str.ofString nm, V.int i)])) z (exo z C (some dx)) := by
        funext b
        by_cases hb1 : b = z
        · subst hb1
          rw [upd_same, upd_same]
        · rw [upd_ne hb1, upd_ne hb1]
          by_cases hb2 : b = dx
          · subst hb2
            rw [upd_same, upd_same]
          · rw [upd_ne hb2, upd_ne hb2, upd_ne hb1]
      rw [eH]
      have x2 := Nx.fresh x1.en hdx' (exd dx [(Str.ofString nm, V.int i)])
      have x3 := Nx.fresh x2.en (p := z) (by rw [upd_ne ne.symm]; exact hz) (exo z C (some dx))
      exact kk _ G1 ad1 _ ((x1.trans x2).trans x3) (.int i)
    · cases h2
  · cases h2
end
end Fx
set_option maxHeartbeats 1000000
namespace Fx
open PySem PySem.Spec PyProof.Rows L2
open Evl (Ex)
/-! ### what the written part says of the exception classes -/
def oexB (K : PySem.W.Frag) (C : Addr) : Bool := match K.lookup C with
  | some ⟨.type "type", _, .cls cd, sl⟩ => (match cd.mro, sl.toList with
    | .ref C' :: bm, [_, _, _, _, some (.builtin n), _] => C' == C && n == "ValueError.__new__" && !cd.hasDel && cd.hasDict && PySem.HandSPX.refsVE bm
    | _, _ => false)
  | _ => false
theorem oexB_cls {K : PySem.W.Frag} {C : Addr} (q : oexB K C = true) : ∃ nm q N bs bm sn sub ab col dd k0 k1 k2 k3 k5, K.lookup C = some (excClassObj nm q C N bs bm true sn sub ab col dd k0 k1 k2 k3 k5 "ValueError.__new__") ∧ PySem.HandSPX.refsVE bm = true := by
  unfold oexB at q
  split at q
  · rename_i dd cd sl ho
    split at q
    · rename_i C' bm k0 k1 k2 k3 n k5 hm hs
      simp only [Bool.and_eq_true, beq_iff_eq, Bool.not_eq_true'] at q
      obtain ⟨⟨⟨⟨rfl, rfl⟩, hdel⟩, hdi⟩, hve⟩ := q
      obtain ⟨nm, bs, mro, ns, qn, hd, sn, sub, ab, col, del⟩ := cd
      dsimp only at hm hdel hdi
      subst hm hdel hdi
      have hsl : sl = #[k0, k1, k2, k3, some (.builtin "ValueError.__new__"), k5] := by
        obtain ⟨l⟩ := sl
        simp only at hs
        rw [hs]
      subst hsl
      exact ⟨nm, qn, ns, bs, bm, sn, sub, ab, col, dd, k0, k1, k2, k3, k5, ho, hve⟩
    · cases q
  · cases q
abbrev ExcP (K : PySem.W.Frag) (D : Addr) : Prop := PySem.W.findIn K (.ref D) "__getattribute__" = some (some (.builtin "BaseException.__getattribute__")) ∧ PySem.W.findIn K (.ref D) "__getattr__" = some none ∧ PySem.W.subIn K (.ref D) (.type "BaseException") = some true ∧ PySem.W.hasDictIn K D = true ∧
  PySem.W.findIn K (.ref D) "__class__" = some (some (.builtin "object.__class__")) ∧ PySem.W.specialIn K (.builtin "object.__class__") "__get__" = some (some (.builtin "getset_descriptor.__get__")) ∧ PySem.W.takesIn K (.builtin "object.__class__") = some true ∧ PySem.W.mroIn K D (.type "object") = some true
theorem excP_ok {K : PySem.W.Frag} {D : Addr} (h : ExcP K D) : ExcC K D := by
  obtain ⟨h1, h2, h3, h4, h5, h6, h7, h8⟩ := h
  exact ⟨h1, h2, h3, h4, h5, h6, h7, h8⟩
def fcB (K : PySem.W.Frag) (C0 : Addr) : Bool := match PySem.W.findCls K (.ref C0) (.type "type") "__init__" with
  | some (.val (.builtin n)) => n == "ValueError.__init__"
  | _ => false
theorem fcB_ok {K : PySem.W.Frag} {C0 : Addr} (h : fcB K C0 = true) : PySem.W.findCls K (.ref C0) (.type "type") "__init__" = some (.val (.builtin "ValueError.__init__")) := by
  unfold fcB at h
  split at h
  · rename_i n hn
    obtain rfl : n = "ValueError.__init__" := by simpa using h
    exact hn
  · cases h
/-- the class with a number, the base class, the other classes -/
abbrev XcP (K : PySem.W.Frag) (nm : String) (IW TL SE UN NF : Addr) : Prop :=
  (oexB K IW = true ∧ PySem.W.findIn K (.ref IW) "__setattr__" = some (some (.builtin "object.__setattr__")) ∧ PySem.W.typeIn K (.ref IW) = some (.type "type") ∧ PySem.W.keepIn K (.ref IW) = true ∧ PySem.W.findIn K (.ref IW) (Str.ofString nm) = some none ∧ ExcP K IW) ∧
  (ExcP K TL ∧ PySem.W.keepIn K (.ref TL) = true ∧ PySem.W.typeIn K (.ref TL) = some (.type "type")) ∧
  (PySem.W.specialIn K (.ref SE) "__getattribute__" = some (some (.builtin "type.__getattribute__")) ∧ PySem.W.typeIn K (.ref SE) = some (.type "type") ∧ PySem.W.readsIn K SE (.type "type") = true ∧ fcB K SE = true) ∧
  (PySem.W.exmOne K (.ref IW) (.ref IW) = some true ∧ PySem.W.exmOne K (.ref TL) (.ref IW) = some false ∧ PySem.W.exmOne K (.ref TL) (.ref TL) = some true) ∧
  (PySem.W.kitOne K (.ref IW) (.ref TL) = some false ∧ PySem.W.kitOne K (.ref IW) (.ref UN) = some false ∧ PySem.W.kitOne K (.ref IW) (.ref NF) = some false ∧ PySem.W.kitOne K (.ref IW) (.ref SE) = some true ∧ PySem.W.kitOne K (.ref IW) (.type "ValueError") = some true) ∧
  PySem.W.kitOne K (.ref TL) (.ref NF) = some false ∧ PySem.W.kitOne K (.ref TL) (.ref UN) = some false ∧ PySem.W.kitOne K (.ref TL) (.ref IW) = some false ∧ PySem.W.kitOne K (.ref TL) (.ref SE) = some true
instance excP_dec (K : PySem.W.Frag) (D : Addr) : Decidable (ExcP K D) := inferInstance
set_option synthInstance.maxSize 2000 in
set_option synthInstance.maxHeartbeats 400000 in
instance xcP_dec (K : PySem.W.Frag) (nm : String) (IW TL SE UN NF : Addr) : Decidable (XcP K nm IW TL SE UN NF) := inferInstance
def xcB (K : PySem.W.Frag) (nm : String) (IW TL SE UN NF : Addr) : Bool := decide (XcP K nm IW TL SE UN NF)
/-- .. with the names -/
structure XcK (K : PySem.W.Frag) (mg : Str → Option Value) (IW TL SE UN NF : Addr) : Prop where
  p : XcP K "number" IW TL SE UN NF
  q : PySem.W.excIn K TL veT "ValueError.__new__" = true
  iw : mg (Str.ofString "InvalidWord") = some (.ref IW)
  tl : mg (Str.ofString "TooLarge") = some (.ref TL)
  se : mg (Str.ofString "SumsaidError") = some (.ref SE)
  un : mg (Str.ofString "UnknownName") = some (.ref UN)
  nf : mg (Str.ofString "NotFitting") = some (.ref NF)
section
variable {K : PySem.W.Frag} {mg : Str → Option Value} {IW TL SE UN NF : Addr}
theorem XcK.oex (h : XcK K mg IW TL SE UN NF) : OexC K IW := ⟨oexB_cls h.p.1.1, h.p.1.2.1, h.p.1.2.2.2.2.2.2.2.1, h.p.1.2.2.1, h.p.1.2.2.2.1⟩
theorem XcK.own (h : XcK K mg IW TL SE UN NF) : OwX K mg "TooLarge" := ⟨TL, h.tl, h.q, h.p.2.1.2.1, h.p.2.1.1.2.2.1, h.p.2.1.2.2⟩
theorem XcK.xf (h : XcK K mg IW TL SE UN NF) : XfC K IW := ⟨h.p.1.2.2.2.2.2.1, h.p.1.2.2.2.2.2.2.1, h.p.1.2.2.2.2.2.2.2.1, h.p.1.2.2.2.2.2.2.2.2.1⟩
end
/-! ### the __init__ of the class with a number -/
theorem int_len {i : Int} (h : i.natAbs.log2 < 1920) : (Str.ofString (toString i)).length ≤ 1921 := by
  have e := int_text_length_le (k := 1920) (by decide) h
  rw [PySem.ofString_length]
  exact e
theorem kx_of {P : Program} {w : World} {K : PySem.W.Frag} {mg : Str → Option Value} {base : Heap} {c nm : String} {s1 s2 : Str} {C fI : Addr} {qual x : Str} {st : Stmt} {fd : FuncData} {N : List Str} {p1 p2 : Str} (gC : mg (Str.ofString c) = some (.ref C)) (T : OexC K C) (hno : PySem.W.findIn K (.ref C) (Str.ofString nm) = some none)
    (iC : PySem.W.findIn K (.ref C) "__init__" = some (some (.ref fI))) (tI : PySem.W.typeIn K (.ref fI) = some (.type "function")) (hb : Binds K fd [p1, p2] []) (F : Fun K x qual st fI fd) (S : FnScope N [p1, p2] (defScope st)) (hN : N.length = 2) (l1 : s1.length ≤ 1000) (l2 : s2.length ≤ 1000)
    (hbody : ∀ (cdv : Value) (A : Around) (outer : List Env) (s : Shared) (H : Hp) (E : XK), Room 0 (A.deeper (envOfC qual (defScope st) s.heap.objs.size fI cdv)) →
      PSs (cxOf CX0 P w K mg base N qual (defScope st) fI cdv A outer s H E).nox (defBody st)
        (tSeq (tDrop (tVeI K (tCons (tVar 0) (tCons (fun σ H Q => tJs [tC (.str s1), tFmt (tVar 1), tC (.str s2)] Str.empty σ H fun out H1 => Q (.str out) H1) tNil)))) (tOst K (Str.ofString nm) (tVar 0) (tVar 1)))) :
    KExc P w K mg base c nm 1 := by
  refine ⟨C, fI, fd, [p1, p2], gC, T, hno, iC, tI, hb, ?_⟩
  refine F.ok (k := 0) S (fun vs H Q E h => by obtain ⟨a, C, i, rfl, _⟩ := h; rfl) (fun cdv A outer s H vs Q E hr h => ⟨_, hbody cdv A outer s H E hr, ?_⟩)
  obtain ⟨a, C', i, rfl, hi, T', hno', ha, q⟩ := h
  have es : L2.start N [V.ref a, V.int i] = [some (.ref a), some (.int i)] := by unfold L2.start; rw [hN]; rfl
  rw [es]
  have le := int_len hi
  have sl : ∀ x y : Str, (x ++ y).length = x.length + y.length := fun x y => by
    have := congrArg List.length (TL.tl_append x y)
    rw [List.length_append] at this
    have e : ∀ z : Str, (TL.tl z).length = z.length := fun z => Array.length_toList
    rw [e, e, e] at this
    exact this
  have e0 : Str.empty.length = 0 := rfl
  refine ⟨.ref a, rfl, ?_⟩
  refine ⟨s1, rfl, by rw [sl, e0, sizeLine_eq]; omega, ?_⟩
  refine ⟨.int i, rfl, .inr ⟨i, rfl, hi, _, rfl, by rw [sl, sl, e0, sizeLine_eq]; omega, ?_⟩⟩
  refine ⟨s2, rfl, by rw [sl, sl, sl, e0, sizeLine_eq]; omega, ?_⟩
  refine ⟨a, C', _, rfl, by simp, T', ha, ?_⟩
  refine ⟨.int i, rfl, .ref a, rfl, a, C', rfl, T', hno', .inl ⟨ha, fun dx hdx ne => q dx hdx ne⟩⟩
end Fx
set_option maxHeartbeats 1000000
namespace Fx
open PySem PySem.Spec PyProof.Rows L2
open Evl (Ex)
/-! ### try: f(..) / except InvalidWord as e: return e.number / except TooLarge as e: return -4 -/
def tsI (i : Nat) (IW : Addr) : Addr → Value → Option Addr → TS := fun a cls d D σ H => cls = .ref IW ∧ ∃ dd fs n, d = some dd ∧ H dd = some (.xd fs) ∧ fs.lookup (Str.ofString "number") = some (.int n) ∧ σ[i]? = some (some (.ref a)) ∧ D.rt (.int n) H
def tsT (i : Nat) (TL : Addr) : Addr → Value → Option Addr → TS := fun a cls d D σ H => cls = .ref TL ∧ d = none ∧ σ[i]? = some (some (.ref a)) ∧ D.rt (.int (0 - 4)) H
def toldF (i : Nat) (f : FE) (g : FXE) : FS := fun ρ T => match f ρ T with
  | some (_, T') => some (.nx ρ, T')
  | none => match g ρ T with
    | some (x, T') => if i < ρ.length then (if x.c = "InvalidWord" then (match x.fs with
        | [(k, .int n)] => if k = "number" then some (.rt (.int n), T') else none
        | _ => none) else if x.c = "TooLarge" ∧ x.fs.isEmpty = true then some (.rt (.int (0 - 4)), T') else none) else none
    | none => none
section
variable {X : Cx} {IW TL SE UN NF : Addr} {n : Str} {i : Nat} {e : Expr} {h₀ : ExceptHandler} {hds : List ExceptHandler} {p1 pos : Pos} {f : FE} {g : FXE}
theorem xs_told (XK : XcK X.K X.mg IW TL SE UN NF) (hs : X.stack = X.env :: X.outer) (hf : X.env.frame = some X.env.locals) (hN : X.N.Nodup) (hi : X.N[i]? = some n) (hln : X.env.kindOf n = some .local)
    (f1 : ∀ pn xe, XE (X.tr pn xe) e f) (g1 : ∀ W pn xe, Takes (X.tr pn xe) W → RE (X.tr pn xe) W e g) (hh : Clauses X n (h₀ :: hds) [(.ref IW, tsI i IW), (.ref TL, tsT i TL)])
    (hsw : swapsWith e none p1.line X.env = pure false := by rfl) : XS X (.Try [.Expr e p1] (h₀ :: hds) [] [] pos) (toldF i f g) := by
  refine ps_weak (ps_try_all (Wout := fun _ _ _ _ => False) (tb := fun W D σ H => tD X.K f σ H (fun _ H1 => D.nx σ H1) ∨ tR X W g σ H (fun _ _ => True)) hs hf hN hi hln takes0 (fun W pn xe tk hp => ?_) hh) fun D σ H h => ?_
  · have a1 : PS (X.tr pn xe) (.Expr e p1) (tDrop (tD X.K f)) := ps_expr (f1 pn xe) hsw
    have a2 : PS (X.tr pn xe) (.Expr e p1) (tDrop (tR X W g)) := ps_expr (g1 W pn xe tk) hsw
    refine pss_one ⟨fun pins s σ H D I h => ?_⟩
    rcases h with h | h
    · exact a1.run pins s σ H D I h
    · exact a2.run pins s σ H D I h
  · obtain ⟨Z, G, ad, T, ρ, pa, r, T', N, hf2, k⟩ := h
    unfold toldF at hf2
    cases e1 : f ρ T with
    | some q =>
      obtain ⟨d, T1⟩ := q
      rw [e1] at hf2
      cases hf2
      exact .inl ⟨Z, G, ad, T, ρ, pa, d, _, N, e1, fun v G1 ad1 H1 x1 r1 => k _ G1 ad1 H1 pa x1.en x1.gr.ex x1.gr.pr⟩
    | none =>
      rw [e1] at hf2
      cases e2 : g ρ T with
      | none => rw [e2] at hf2; cases hf2
      | some q =>
        obtain ⟨x, T1⟩ := q
        rw [e2] at hf2
        dsimp only at hf2
        split at hf2
        · rename_i hlt
          refine .inr ⟨Z, G, ad, T, ρ, pa, x, T1, N, e2, fun G1 ad1 H1 cls d x1 xr => ?_⟩
          have hls : i < σ.length := by rw [← N.hl]; exact hlt
          have get : ∀ a : Addr, (σ.set i (some (.ref a)))[i]? = some (some (.ref a)) := fun a => List.getElem?_set_self hls
          split at hf2
          · rename_i hc
            have ec : cls = .ref IW := by
              have := xr.cls
              rw [hc, XK.iw] at this
              exact (Option.some.inj this).symm
            split at hf2
            · rename_i kk m hfs
              split at hf2
              · rename_i hk
                cases hf2
                subst hk
                obtain ⟨dd, vs, hd, hH, hl⟩ := xr.fld (by rw [hfs]; exact fun z => nomatch z)
                obtain ⟨v, hv, rv⟩ := hl "number" (.int m) (by rw [hfs]; simp [List.lookup])
                obtain rfl := rv.inv_int
                refine ⟨true, by rw [ec]; exact XK.p.2.2.2.1.1, fun _ a ha => ⟨ec, dd, vs, m, hd, hH, hv, get a, ?_⟩, fun z => nomatch z⟩
                exact k (.int m) G1 ad1 H1 x1.en.iv x1.gr.ex x1.gr.pr (.int m)
              · cases hf2
            · cases hf2
          · split at hf2
            · rename_i hc
              cases hf2
              have ec : cls = .ref TL := by
                have := xr.cls
                rw [hc.1, XK.tl] at this
                exact (Option.some.inj this).symm
              have ed := xr.nof (by simpa using hc.2)
              refine ⟨false, by rw [ec]; exact XK.p.2.2.2.1.2.1, (fun z => nomatch z), fun _ => ⟨true, by rw [ec]; exact XK.p.2.2.2.1.2.2, fun _ a ha => ⟨ec, ed, get a, ?_⟩, fun z => nomatch z⟩⟩
              exact k _ G1 ad1 H1 x1.en.iv x1.gr.ex x1.gr.pr (.int _)
            · cases hf2
        · cases hf2
end
section
variable {X : Cx} {IW TL SE UN NF a : Addr} {n : Str} {i : Nat} {oe : Obj} {cls : Value} {d : Option Addr} {pn : List (Addr × Obj)} {sts : List Stmt}
/-- the suites -/
theorem suiteI_of {t : TS} (h : cls = .ref IW → PSs (X.suite a ((a, oe) :: pn)) sts t) (ht : ∀ D σ H, cls = .ref IW → (∃ dd fs n, d = some dd ∧ H dd = some (.xd fs) ∧ fs.lookup (Str.ofString "number") = some (.int n) ∧ σ[i]? = some (some (.ref a)) ∧ D.rt (.int n) H) → t D σ H) : PSs (X.suite a ((a, oe) :: pn)) sts (tsI i IW a cls d) :=
  ⟨fun pins s σ H D I h' => (h h'.1).run pins s σ H D I (ht D σ H h'.1 h'.2)⟩
theorem suiteT_of {t : TS} (h : cls = .ref TL → d = none → PSs (X.suite a ((a, oe) :: pn)) sts t) (ht : ∀ D σ H, cls = .ref TL → d = none → σ[i]? = some (some (.ref a)) → D.rt (.int (0 - 4)) H → t D σ H) : PSs (X.suite a ((a, oe) :: pn)) sts (tsT i TL a cls d) :=
  ⟨fun pins s σ H D I h' => (h h'.1 h'.2.1).run pins s σ H D I (ht D σ H h'.1 h'.2.1 h'.2.2.1 h'.2.2.2)⟩
end
end Fx
set_option maxHeartbeats 1000000
namespace Fx
open PySem PySem.Spec PyProof.Rows L2
open Evl (Ex)
/-! ### text * number -/
def rMulS : R2 := fun x y H Q => ∃ a n, x = .str a ∧ y = .int n ∧ MulOk a n ∧ Q (.str (Txt.mul a n)) H
theorem op_mulS {X : Cx} : OpR X (binaryOp .Mult) rMulS := by
  intro pins s σ H x y v u Q I rx ry h
  obtain ⟨a, n, rfl, rfl, hz, q⟩ := h
  obtain ⟨t, rfl⟩ := rx
  obtain ⟨t', rfl⟩ := ry
  exact SB.mul hz fun t' tk => ⟨.str (Txt.mul a n), H, I.tok _, ⟨_, rfl⟩, q⟩
noncomputable def mulSD : D → D → Option D
  | .str a, .int n => if dc (MulOk a n) then some (.str (Txt.mul a n)) else none
  | _, _ => none
theorem ok_mulS {K : PySem.W.Frag} : OkR K rMulS mulSD := fun Z G ad T ρ σ H pa v w x y z Q N rx ry hg k => by
  unfold mulSD at hg
  split at hg
  · split at hg
    · rename_i a n hc
      cases hg
      obtain rfl := rx.inv_str
      obtain rfl := ry.inv_int
      exact ⟨_, _, rfl, rfl, of_dc hc, k _ G ad H N.nx (.str _)⟩
    · cases hg
  · cases hg
theorem xe_mulS {X : Cx} {a b : Expr} {pos : Pos} {f1 f2 : FE} (h1 : XE X a f1) (h2 : XE X b f2) : XE X (.BinOp a .Mult b pos) (binF mulSD f1 f2) := xe_op op_mulS ok_mulS h1 h2
end Fx
/-! rows that repeat, patterns: the mathematics alone -/
namespace PM
def at_ (l : List Bool) (y : Int) : Bool := l.getD (y % (l.length : Int)).toNat false
def rep (k : Nat) (l : List Bool) : List Bool := (List.replicate (l.length / k) (l.take k)).flatten
def okK (l : List Bool) (k : Nat) : Bool := decide (l.length % k = 0) && decide (l = rep k l)
def short (l : List Bool) : List Bool := match (List.range l.length).find? (fun k => okK l (k + 1)) with
  | some k => l.take (k + 1)
  | none => l
def Per (f : Int → Bool) (n : Int) : Prop := ∀ y, f (y + n) = f y
theorem flat_get (xs : List Bool) (k : Nat) (hk : xs.length = k) (h0 : 0 < k) : ∀ (m i : Nat), i < m * k → (List.replicate m xs).flatten[i]? = xs[i % k]?
  | 0, i, h => by omega
  | m + 1, i, h => by
    rw [List.replicate_succ, List.flatten_cons]
    by_cases hi : i < k
    · rw [List.getElem?_append_left (by omega), Nat.mod_eq_of_lt hi]
    · rw [List.getElem?_append_right (by omega), hk, flat_get xs k hk h0 m (i - k) (by rw [Nat.succ_mul] at h; omega)]
      congr 1
      rw [← Nat.mod_eq_sub_mod (by omega)]
theorem flat_len (xs : List Bool) : ∀ m : Nat, (List.replicate m xs).flatten.length = m * xs.length
  | 0 => by simp
  | m + 1 => by rw [List.replicate_succ, List.flatten_cons, List.length_append, flat_len xs m, Nat.succ_mul]; omega
theorem rep_iff {l : List Bool} {k : Nat} (h0 : 0 < k) (hk : k ≤ l.length) (hd : l.length % k = 0) : l = rep k l ↔ ∀ i, i < l.length → l[i]? = l[i % k]? := by
  have ht : (l.take k).length = k := by rw [List.length_take]; omega
  have hm : l.length / k * k = l.length := Nat.div_mul_cancel (Nat.dvd_of_mod_eq_zero hd)
  have key : ∀ i, i < l.length → (rep k l)[i]? = l[i % k]? := fun i hi => by
    unfold rep
    rw [flat_get _ k ht h0 _ i (by omega), List.getElem?_take, if_pos (Nat.mod_lt _ h0)]
  constructor
  · intro h i hi
    rw [← key i hi, ← h]
  · intro h
    apply List.ext_getElem?
    intro i
    by_cases hi : i < l.length
    · rw [key i hi]
      exact h i hi
    · have : (rep k l).length = l.length := by unfold rep; rw [flat_len, ht, hm]
      rw [List.getElem?_eq_none (by omega), List.getElem?_eq_none (by omega)]
theorem at_get {l : List Bool} (h : l ≠ []) (y : Int) : l[(y % (l.length : Int)).toNat]? = some (at_ l y) := by
  have hp : 0 < l.length := List.length_pos_iff.mpr h
  have h1 := Int.emod_nonneg y (show (l.length : Int) ≠ 0 by omega)
  have h2 := Int.emod_lt_of_pos y (show (0 : Int) < l.length by omega)
  have h3 : (y % (l.length : Int)).toNat < l.length := by omega
  unfold at_
  rw [List.getD_eq_getElem?_getD, List.getElem?_eq_getElem h3]
  rfl
theorem at_nat {l : List Bool} {i : Nat} (hi : i < l.length) : l[i]? = some (at_ l (i : Int)) := by
  have h : l ≠ [] := fun e => by subst e; simp at hi
  have := at_get h (i : Int)
  rw [Int.emod_eq_of_lt (by omega) (by omega)] at this
  exact this
theorem at_per {l : List Bool} : Per (at_ l) l.length := fun y => by
  unfold at_
  rw [Int.add_emod_right]
theorem Per.mul {f : Int → Bool} {n : Int} (h : Per f n) : ∀ (k : Nat) (y : Int), f (y + k * n) = f y
  | 0, y => by simp
  | k + 1, y => by
    have e : y + ((k + 1 : Nat) : Int) * n = (y + k * n) + n := by
      rw [Int.natCast_succ, Int.add_mul, Int.one_mul]
      omega
    rw [e, h, Per.mul h k y]
theorem Per.neg {f : Int → Bool} {n : Int} (h : Per f n) : Per f (-n) := fun y => by
  have := h (y + -n)
  rw [show y + -n + n = y by omega] at this
  exact this.symm
theorem Per.imul {f : Int → Bool} {n : Int} (h : Per f n) (k : Int) (y : Int) : f (y + k * n) = f y := by
  rcases Int.le_total 0 k with hk | hk
  · have := h.mul k.toNat y
    rw [show ((k.toNat : Nat) : Int) = k by omega] at this
    exact this
  · have := h.neg.mul (-k).toNat y
    rw [show (((-k).toNat : Nat) : Int) = -k by omega, Int.neg_mul_neg] at this
    exact this
theorem Per.add {f : Int → Bool} {n m : Int} (h : Per f n) (g : Per f m) : Per f (n + m) := fun y => by
  rw [← Int.add_assoc, g, h]
theorem Per.times {f : Int → Bool} {n : Int} (h : Per f n) (k : Int) : Per f (k * n) := fun y => h.imul k y
/-- a common divisor of two periods -/
theorem Per.gcd {f : Int → Bool} : ∀ (n m : Nat), Per f n → Per f m → Per f (Nat.gcd n m) := by
  intro n m
  induction n, m using Nat.gcd.induction with
  | H0 m => intro _ h; rw [Nat.gcd_zero_left]; exact h
  | H1 n m hn ih =>
    intro h1 h2
    rw [Nat.gcd_rec]
    refine ih ?_ h1
    have e : ((m % n : Nat) : Int) = (m : Int) + (-(m / n : Nat)) * (n : Int) := by
      have := Nat.div_add_mod m n
      have h3 : (m : Int) = (n : Int) * ((m / n : Nat) : Int) + ((m % n : Nat) : Int) := by exact_mod_cast this.symm
      rw [Int.neg_mul, Int.mul_comm]
      omega
    rw [e]
    exact h2.add (h1.times _)
/-- a row repeats by k exactly if its function does -/
theorem okK_iff {l : List Bool} {k : Nat} (h0 : 0 < k) (hk : k ≤ l.length) : okK l k = true ↔ l.length % k = 0 ∧ Per (at_ l) k := by
  unfold okK
  rw [Bool.and_eq_true, decide_eq_true_eq, decide_eq_true_eq]
  constructor
  · rintro ⟨hd, hr⟩
    refine ⟨hd, fun y => ?_⟩
    have hl : l ≠ [] := fun e => by subst e; simp at hk; omega
    have hp : 0 < l.length := List.length_pos_iff.mpr hl
    have q := (rep_iff h0 hk hd).mp hr
    have step : ∀ y : Int, at_ l y = at_ l (y % (k : Int)) := fun y => by
      have a1 := at_get hl y
      have n1 := Int.emod_nonneg y (show (l.length : Int) ≠ 0 by omega)
      have n2 := Int.emod_lt_of_pos y (show (0 : Int) < l.length by omega)
      rw [q _ (by omega)] at a1
      have n3 := Int.emod_nonneg y (show (k : Int) ≠ 0 by omega)
      have n4 := Int.emod_lt_of_pos y (show (0 : Int) < k by omega)
      have e : (y % (l.length : Int)).toNat % k = (y % (k : Int)).toNat := by
        have e1 : (((y % (l.length : Int)).toNat % k : Nat) : Int) = y % (k : Int) := by
          rw [Int.natCast_emod, Int.toNat_of_nonneg n1]
          exact Int.emod_emod_of_dvd y (Int.natCast_dvd_natCast.mpr (Nat.dvd_of_mod_eq_zero hd))
        omega
      rw [e] at a1
      have a2 := at_nat (l := l) (i := (y % (k : Int)).toNat) (by omega)
      rw [a1] at a2
      rw [show (((y % (k : Int)).toNat : Nat) : Int) = y % (k : Int) by omega] at a2
      exact Option.some.inj a2
    rw [step (y + k), step y, Int.add_emod_right]
  · rintro ⟨hd, hp⟩
    refine ⟨hd, (rep_iff h0 hk hd).mpr fun i hi => ?_⟩
    have hm : i % k < l.length := by have := Nat.mod_lt i h0; omega
    rw [at_nat hi, at_nat hm]
    congr 1
    have := hp.mul (i / k) ((i % k : Nat) : Int)
    rw [← this]
    congr 1
    have e := Nat.mod_add_div i k
    have : (i : Int) = ((i % k : Nat) : Int) + (k : Int) * ((i / k : Nat) : Int) := by exact_mod_cast e.symm
    rw [Int.mul_comm ((i / k : Nat) : Int)]
    exact this
/-- as short as possible -/
def Short (l : List Bool) : Prop := l ≠ [] ∧ ∀ k : Nat, 0 < k → k ≤ l.length → l.length % k = 0 → Per (at_ l) k → k = l.length
theorem take_at {l : List Bool} {k : Nat} (h0 : 0 < k) (hk : k ≤ l.length) (hp : Per (at_ l) k) : at_ (l.take k) = at_ l := by
  funext y
  have ht : (l.take k).length = k := by rw [List.length_take]; omega
  have hne : l.take k ≠ [] := fun e => by rw [e] at ht; simp at ht; omega
  have a := at_get hne y
  rw [ht] at a
  have n3 := Int.emod_nonneg y (show (k : Int) ≠ 0 by omega)
  have n4 := Int.emod_lt_of_pos y (show (0 : Int) < k by omega)
  rw [List.getElem?_take, if_pos (by omega), at_nat (by omega)] at a
  rw [← Option.some.inj a, show (((y % (k : Int)).toNat : Nat) : Int) = y % (k : Int) by omega]
  have e := hp.imul (y / k) (y % k)
  rw [← e]
  congr 1
  have := Int.emod_add_mul_ediv y k
  rw [Int.mul_comm] at this
  exact this
theorem find_range {p : Nat → Bool} : ∀ (n : Nat), (∃ k, k < n ∧ p k = true) → ∃ k, (List.range n).find? p = some k ∧ k < n ∧ p k = true ∧ ∀ j, j < k → p j = false := by
  intro n h
  cases e : (List.range n).find? p with
  | none =>
    obtain ⟨k, h1, h2⟩ := h
    have := List.find?_eq_none.mp e k (List.mem_range.mpr h1)
    rw [h2] at this
    exact absurd rfl this
  | some k =>
    refine ⟨k, rfl, List.mem_range.mp (List.mem_of_find?_eq_some e), List.find?_some e, fun j hj => ?_⟩
    obtain ⟨_, as, bs, h1, h2⟩ := List.find?_eq_some_iff_append.mp e
    have hlen : as.length = k := by
      have h3 : (List.range n)[as.length]? = some k := by rw [h1]; simp
      have h4 := (List.getElem?_eq_some_iff.mp h3).1
      rw [List.getElem?_range (by simpa using h4)] at h3
      exact Option.some.inj h3
    have hm : j ∈ as := by
      have h3 : as[j]? = some j := by
        have h5 : (List.range n)[j]? = as[j]? := by rw [h1, List.getElem?_append_left (by omega)]
        have h6 : j < n := by
          have := List.mem_range.mp (List.mem_of_find?_eq_some e)
          omega
        rw [← h5, List.getElem?_range h6]
      exact List.mem_of_getElem? h3
    simpa using h2 j hm
theorem short_spec {l : List Bool} (h : l ≠ []) : Short (short l) ∧ at_ (short l) = at_ l ∧ (short l).length ≤ l.length := by
  have hp : 0 < l.length := List.length_pos_iff.mpr h
  have full : okK l (l.length - 1 + 1) = true := by
    rw [show l.length - 1 + 1 = l.length by omega]
    exact (okK_iff hp (Nat.le_refl _)).mpr ⟨Nat.mod_self _, at_per⟩
  obtain ⟨k, h1, h2, h3, h4⟩ := find_range (p := fun k => okK l (k + 1)) l.length ⟨l.length - 1, by omega, full⟩
  have hs : short l = l.take (k + 1) := by unfold short; rw [h1]
  rw [hs]
  obtain ⟨hd, hper⟩ := (okK_iff (by omega) (by omega)).mp h3
  have hat := take_at (by omega) (by omega) hper
  have ht : (l.take (k + 1)).length = k + 1 := by rw [List.length_take]; omega
  refine ⟨⟨fun e => by rw [e] at ht; simp at ht, fun j j0 jl jd jp => ?_⟩, hat, by rw [ht]; omega⟩
  rw [ht] at jl jd ⊢
  rw [hat] at jp
  by_cases hj : j = k + 1
  · exact hj
  · have h5 := h4 (j - 1) (by omega)
    rw [show j - 1 + 1 = j by omega] at h5
    have : okK l j = true := (okK_iff j0 (by omega)).mpr ⟨?_, jp⟩
    · rw [this] at h5
      cases h5
    · exact Nat.mod_eq_zero_of_dvd (Nat.dvd_trans (Nat.dvd_of_mod_eq_zero jd) (Nat.dvd_of_mod_eq_zero hd))
/-- short rows are told by their functions -/
theorem short_inj {l m : List Bool} (hl : Short l) (hm : Short m) (h : at_ l = at_ m) : l = m := by
  have p1 : 0 < l.length := List.length_pos_iff.mpr hl.1
  have p2 : 0 < m.length := List.length_pos_iff.mpr hm.1
  have g1 : Per (at_ l) (Nat.gcd l.length m.length) := Per.gcd _ _ at_per (by rw [h]; exact at_per)
  have d1 := Nat.gcd_dvd_left l.length m.length
  have d2 := Nat.gcd_dvd_right l.length m.length
  have gp : 0 < Nat.gcd l.length m.length := Nat.gcd_pos_of_pos_left _ p1
  have e1 := hl.2 _ gp (Nat.le_of_dvd p1 d1) (Nat.mod_eq_zero_of_dvd d1) g1
  have e2 := hm.2 _ gp (Nat.le_of_dvd p2 d2) (Nat.mod_eq_zero_of_dvd d2) (by rw [← h]; exact g1)
  have e : l.length = m.length := e1.symm.trans e2
  apply List.ext_getElem?
  intro i
  by_cases hi : i < l.length
  · rw [at_nat hi, at_nat (by omega), h]
  · rw [List.getElem?_eq_none (by omega), List.getElem?_eq_none (by omega)]
end PM
/-! patterns, the next ones, written in one way -/
namespace PM
structure Pat where
  l : List Bool
  s : Int
  m : List Bool
  r : List Bool
def Pat.mem (p : Pat) (y : Int) : Bool := if y < p.s then at_ p.l y else if y < p.s + p.m.length then p.m.getD (y - p.s).toNat false else at_ p.r y
structure Pat.Ok (p : Pat) : Prop where
  l : p.l ≠ []
  r : p.r ≠ []
theorem pos_len {α : Type} {l : List α} (h : l ≠ []) : 0 < l.length := List.length_pos_iff.mpr h
theorem Pat.mem_l {p : Pat} {y : Int} (h : y < p.s) : p.mem y = at_ p.l y := if_pos h
theorem Pat.mem_r {p : Pat} {y : Int} (h : p.s + p.m.length ≤ y) : p.mem y = at_ p.r y := by
  unfold Pat.mem
  rw [if_neg (by omega), if_neg (by omega)]
theorem Pat.mem_m {p : Pat} {y : Int} (h : p.s ≤ y) (h2 : y < p.s + p.m.length) : p.mem y = p.m.getD (y - p.s).toNat false := by
  unfold Pat.mem
  rw [if_neg (by omega), if_pos h2]
/-- a row of what a function says -/
theorem at_map {g : Int → Bool} {n : Nat} (h0 : 0 < n) (hp : Per g n) (y : Int) : at_ ((List.range n).map fun (k : Nat) => g (k : Int)) y = g y := by
  have hl : ((List.range n).map fun (k : Nat) => g (k : Int)).length = n := by rw [List.length_map, List.length_range]
  have n1 := Int.emod_nonneg y (show (n : Int) ≠ 0 by omega)
  have n2 := Int.emod_lt_of_pos y (show (0 : Int) < n by omega)
  unfold at_
  rw [hl, List.getD_eq_getElem?_getD, List.getElem?_map, List.getElem?_range (by omega)]
  show g _ = g y
  rw [show (((y % (n : Int)).toNat : Nat) : Int) = y % (n : Int) by omega]
  have e := hp.imul (y / n) (y % n)
  rw [← e]
  congr 1
  have := Int.emod_add_mul_ediv y n
  rw [Int.mul_comm] at this
  exact this
/-- what repeats is told by one turn -/
theorem Per.window {f g : Int → Bool} {n : Int} (h0 : 0 < n) (hf : Per f n) (hg : Per g n) (a : Int) (h : ∀ w, a ≤ w → w < a + n → f w = g w) : f = g := by
  funext y
  have n1 := Int.emod_nonneg (y - a) (show n ≠ 0 by omega)
  have n2 := Int.emod_lt_of_pos (y - a) h0
  have e : a + (y - a) % n + (y - a) / n * n = y := by
    have := Int.emod_add_mul_ediv (y - a) n
    rw [Int.mul_comm] at this
    omega
  have q := h (a + (y - a) % n) (by omega) (by omega)
  have e1 := hf.imul ((y - a) / n) (a + (y - a) % n)
  have e2 := hg.imul ((y - a) / n) (a + (y - a) % n)
  rw [e] at e1 e2
  rw [e1, e2, q]
theorem per_const (b : Bool) (n : Int) : Per (fun _ => b) n := fun _ => rfl
theorem at_none {l : List Bool} (h : l ≠ []) (a : Int) (hw : ∀ w, a ≤ w → w < a + l.length → at_ l w = false) (y : Int) : at_ l y = false := by
  have hp := pos_len h
  exact congrFun (Per.window (by omega) (at_per (l := l)) (per_const false _) a hw) y
/-! ### the next one -/
def Next (f : Int → Bool) (y : Int) : Option Int → Prop
  | some z => y ≤ z ∧ f z = true ∧ ∀ w, y ≤ w → w < z → f w = false
  | none => ∀ w, y ≤ w → f w = false
def Prev (f : Int → Bool) (y : Int) : Option Int → Prop
  | some z => z ≤ y ∧ f z = true ∧ ∀ w, w ≤ y → z < w → f w = false
  | none => ∀ w, w ≤ y → f w = false
theorem Next.uniq {f : Int → Bool} {y : Int} : ∀ {a b : Option Int}, Next f y a → Next f y b → a = b
  | some a, some b, h, g => by
    rcases Int.lt_trichotomy a b with q | q | q
    · have := g.2.2 a h.1 q
      rw [h.2.1] at this
      cases this
    · rw [q]
    · have := h.2.2 b g.1 q
      rw [g.2.1] at this
      cases this
  | some a, none, h, g => by
    have := g a h.1
    rw [h.2.1] at this
    cases this
  | none, some b, h, g => by
    have := h b g.1
    rw [g.2.1] at this
    cases this
  | none, none, _, _ => rfl
theorem Prev.next {f : Int → Bool} {y : Int} : ∀ {a : Option Int}, Next (fun w => f (-w)) (-y) a ↔ Prev f y (a.map fun z => -z)
  | some a => by
    constructor
    · rintro ⟨h1, h2, h3⟩
      refine ⟨by show -a ≤ y; omega, h2, fun w h4 h5 => ?_⟩
      have := h3 (-w) (by omega) (by show -w < a; have : -a < w := h5; omega)
      simp only [Int.neg_neg] at this
      exact this
    · rintro ⟨h1, h2, h3⟩
      have h1' : -a ≤ y := h1
      refine ⟨by omega, h2, fun w h4 h5 => h3 (-w) (by omega) (by show -a < -w; omega)⟩
  | none => by
    constructor
    · intro h w hw
      have := h (-w) (by omega)
      simp only [Int.neg_neg] at this
      exact this
    · intro h w hw
      exact h (-w) (by omega)
theorem Prev.uniq {f : Int → Bool} {y : Int} {a b : Option Int} (h : Prev f y a) (g : Prev f y b) : a = b := by
  have e : ∀ o : Option Int, (o.map fun z => -z).map (fun z => -z) = o := fun o => by cases o <;> simp
  have h1 : Next (fun w => f (-w)) (-y) (a.map fun z => -z) := Prev.next.mpr (by rw [e]; exact h)
  have h2 : Next (fun w => f (-w)) (-y) (b.map fun z => -z) := Prev.next.mpr (by rw [e]; exact g)
  have := h1.uniq h2
  rw [← e a, this, e]
/-- the three searches -/
theorem next_a {p : Pat} (ok : p.Ok) {y : Int} (h : ∀ w, y ≤ w → w < (if y + p.l.length < p.s then y + p.l.length else p.s) → p.mem w = false) (w : Int) (h1 : y ≤ w) (h2 : w < p.s) : p.mem w = false := by
  by_cases hc : y + p.l.length < p.s
  · rw [if_pos hc] at h
    rw [Pat.mem_l h2]
    exact at_none ok.l y (fun v h3 h4 => by rw [← Pat.mem_l (by omega)]; exact h v h3 h4) w
  · rw [if_neg hc] at h
    exact h w h1 h2
theorem next_c {p : Pat} (ok : p.Ok) {low : Int} (hl : p.s + p.m.length ≤ low) (h : ∀ w, low ≤ w → w < low + p.r.length → p.mem w = false) (w : Int) (h1 : low ≤ w) : p.mem w = false := by
  rw [Pat.mem_r (by omega)]
  exact at_none ok.r low (fun v h3 h4 => by rw [← Pat.mem_r (by omega)]; exact h v h3 h4) w
/-- turned round -/
def neg (p : Pat) : Pat := ⟨(List.range p.r.length).map fun (k : Nat) => at_ p.r (-(k : Int)), 1 - p.s - p.m.length, p.m.reverse, (List.range p.l.length).map fun (k : Nat) => at_ p.l (-(k : Int))⟩
theorem neg_per {f : Int → Bool} {n : Int} (h : Per f n) : Per (fun y => f (-y)) n := fun y => by
  have := h.neg (-y)
  show f (-(y + n)) = f (-y)
  rw [← this]
  congr 1
  omega
theorem neg_ok {p : Pat} (ok : p.Ok) : (neg p).Ok := by
  have h1 := pos_len ok.l
  have h2 := pos_len ok.r
  constructor
  · apply List.ne_nil_of_length_pos
    show 0 < (List.map _ _).length
    rw [List.length_map, List.length_range]
    exact h2
  · apply List.ne_nil_of_length_pos
    show 0 < (List.map _ _).length
    rw [List.length_map, List.length_range]
    exact h1
theorem neg_mem {p : Pat} (ok : p.Ok) (y : Int) : (neg p).mem y = p.mem (-y) := by
  have h1 := pos_len ok.l
  have h2 := pos_len ok.r
  have el : ∀ y, at_ (neg p).l y = at_ p.r (-y) := fun y => at_map (g := fun y => at_ p.r (-y)) h2 (neg_per at_per) y
  have er : ∀ y, at_ (neg p).r y = at_ p.l (-y) := fun y => at_map (g := fun y => at_ p.l (-y)) h1 (neg_per at_per) y
  have es : (neg p).s = 1 - p.s - p.m.length := rfl
  have em : (neg p).m = p.m.reverse := rfl
  have eml : (neg p).m.length = p.m.length := by rw [em, List.length_reverse]
  by_cases c1 : y < 1 - p.s - p.m.length
  · rw [Pat.mem_l (by omega), el, Pat.mem_r (by omega)]
  · by_cases c2 : y < 1 - p.s
    · rw [Pat.mem_m (by omega) (by omega), Pat.mem_m (by omega) (by omega), em, es, List.getD_eq_getElem?_getD, List.getD_eq_getElem?_getD, List.getElem?_reverse (by omega)]
      congr 2
      omega
    · rw [Pat.mem_r (by omega), er, Pat.mem_l (by omega)]
/-! ### written in just one way -/
def IsA (f : Int → Bool) (l : List Bool) (a : Int) : Prop := f a ≠ at_ l a ∧ ∀ w, w < a → f w = at_ l w
def IsB (f : Int → Bool) (r : List Bool) (b : Int) : Prop := f (b - 1) ≠ at_ r (b - 1) ∧ ∀ w, b ≤ w → f w = at_ r w
structure Canon (p : Pat) : Prop where
  l : Short p.l
  r : Short p.r
  k : (p.l = p.r ∧ p.s = 0 ∧ p.m = []) ∨ ∃ a b, IsA p.mem p.l a ∧ IsB p.mem p.r b ∧ ((b ≤ a ∧ p.s = b ∧ p.m = []) ∨ (a < b ∧ p.s = a ∧ p.s + p.m.length = b))
theorem IsA.uniq {f : Int → Bool} {l : List Bool} {a b : Int} (h : IsA f l a) (g : IsA f l b) : a = b := by
  rcases Int.lt_trichotomy a b with q | q | q
  · exact absurd (g.2 a q) h.1
  · exact q
  · exact absurd (h.2 b q) g.1
theorem IsB.uniq {f : Int → Bool} {l : List Bool} {a b : Int} (h : IsB f l a) (g : IsB f l b) : a = b := by
  rcases Int.lt_trichotomy a b with q | q | q
  · exact absurd (h.2 (b - 1) (by omega)) g.1
  · exact q
  · exact absurd (g.2 (a - 1) (by omega)) h.1
theorem Canon.ok {p : Pat} (c : Canon p) : p.Ok := ⟨c.l.1, c.r.1⟩
/-- far below -/
theorem at_far {l m : List Bool} (hl : l ≠ []) (hm : m ≠ []) (a : Int) (h : ∀ w, w < a → at_ l w = at_ m w) : at_ l = at_ m := by
  have p1 := pos_len hl
  have p2 := pos_len hm
  have hn : (0 : Int) < (m.length : Int) * (l.length : Int) := Int.mul_pos (by omega) (by omega)
  refine Per.window (n := (m.length : Int) * (l.length : Int)) hn (at_per.times _) ?_ (a - (m.length : Int) * (l.length : Int)) fun w _ h2 => h w (by omega)
  rw [Int.mul_comm]
  exact at_per.times _
theorem at_far' {l m : List Bool} (hl : l ≠ []) (hm : m ≠ []) (a : Int) (h : ∀ w, a ≤ w → at_ l w = at_ m w) : at_ l = at_ m := by
  have p1 := pos_len hl
  have p2 := pos_len hm
  have hn : (0 : Int) < (m.length : Int) * (l.length : Int) := Int.mul_pos (by omega) (by omega)
  refine Per.window (n := (m.length : Int) * (l.length : Int)) hn (at_per.times _) ?_ a fun w h1 _ => h w h1
  rw [Int.mul_comm]
  exact at_per.times _
theorem Canon.all {p : Pat} (h1 : p.l = p.r) (h3 : p.m = []) : p.mem = at_ p.l := by
  funext y
  unfold Pat.mem
  rw [h3, h1]
  by_cases c : y < p.s
  · rw [if_pos c]
  · rw [if_neg c, if_neg (by simp; omega)]
theorem pat_eq {p q : Pat} (h : p.mem = q.mem) (e1 : p.l = q.l) (e2 : p.r = q.r) (e3 : p.s = q.s) (e4 : p.m.length = q.m.length) : p = q := by
  have em : p.m = q.m := by
    apply List.ext_getElem?
    intro i
    by_cases hi : i < p.m.length
    · have a1 := Pat.mem_m (p := p) (y := p.s + i) (by omega) (by omega)
      have a2 := Pat.mem_m (p := q) (y := p.s + i) (by omega) (by omega)
      rw [h, a2, List.getD_eq_getElem?_getD, List.getD_eq_getElem?_getD, show (p.s + (i : Int) - p.s).toNat = i by omega, show (p.s + (i : Int) - q.s).toNat = i by omega] at a1
      rw [List.getElem?_eq_getElem hi, List.getElem?_eq_getElem (by omega)] at a1 ⊢
      exact congrArg some a1.symm
    · rw [List.getElem?_eq_none (by omega), List.getElem?_eq_none (by omega)]
  cases p
  cases q
  simp_all
theorem Canon.uniq {p q : Pat} (c : Canon p) (d : Canon q) (h : p.mem = q.mem) : p = q := by
  have el : p.l = q.l := short_inj c.l d.l (at_far c.l.1 d.l.1 (if p.s < q.s then p.s else q.s) fun w hw => by
    split at hw
    · rw [← Pat.mem_l (by omega), h, Pat.mem_l (by omega)]
    · rw [← Pat.mem_l (by omega), h, Pat.mem_l (by omega)])
  have er : p.r = q.r := short_inj c.r d.r (at_far' c.r.1 d.r.1 (if p.s + p.m.length < q.s + q.m.length then q.s + q.m.length else p.s + p.m.length) fun w hw => by
    split at hw
    · rw [← Pat.mem_r (by omega), h, Pat.mem_r (by omega)]
    · rw [← Pat.mem_r (by omega), h, Pat.mem_r (by omega)])
  rcases c.k with ⟨a1, a2, a3⟩ | ⟨a, b, ha, hb, hc⟩
  · rcases d.k with ⟨b1, b2, b3⟩ | ⟨a', b', ha', _⟩
    · exact pat_eq h el er (by omega) (by rw [a3, b3])
    · have := Canon.all a1 a3
      rw [← el, ← h] at ha'
      exact absurd (by rw [this]) ha'.1
  · rcases d.k with ⟨b1, b2, b3⟩ | ⟨a', b', ha', hb', hc'⟩
    · have := Canon.all b1 b3
      rw [el, h] at ha
      exact absurd (by rw [this]) ha.1
    · rw [← el, ← h] at ha'
      rw [← er, ← h] at hb'
      have e1 := ha.uniq ha'
      have e2 := hb.uniq hb'
      subst e1 e2
      rcases hc with ⟨c1, c2, c3⟩ | ⟨c1, c2, c3⟩
      · rcases hc' with ⟨d1, d2, d3⟩ | ⟨d1, d2, d3⟩
        · exact pat_eq h el er (by omega) (by rw [c3, d3])
        · omega
      · rcases hc' with ⟨d1, d2, d3⟩ | ⟨d1, d2, d3⟩
        · omega
        · exact pat_eq h el er (by omega) (by omega)
end PM
/-! a pattern is written in one way, by looking at enough numbers -/
namespace PM
def rngZ (i j : Int) : List Int := (List.range (j - i).toNat).map fun (k : Nat) => i + (k : Int)
theorem rngZ_len (i j : Int) : (rngZ i j).length = (j - i).toNat := by unfold rngZ; rw [List.length_map, List.length_range]
theorem rngZ_mem {i j w : Int} : w ∈ rngZ i j ↔ i ≤ w ∧ w < j := by
  unfold rngZ
  rw [List.mem_map]
  constructor
  · rintro ⟨k, hk, rfl⟩
    have := List.mem_range.mp hk
    omega
  · rintro ⟨h1, h2⟩
    exact ⟨(w - i).toNat, List.mem_range.mpr (by omega), by omega⟩
theorem rngZ_lt (i j : Int) : (rngZ i j).Pairwise (· < ·) := by
  unfold rngZ
  rw [List.pairwise_map]
  exact List.pairwise_lt_range.imp fun h => by omega
theorem rngZ_get {i j : Int} {k : Nat} (h : k < (j - i).toNat) : (rngZ i j)[k]? = some (i + (k : Int)) := by
  unfold rngZ
  rw [List.getElem?_map, List.getElem?_range h]
  rfl
theorem filter_head {q : Int → Bool} {l : List Int} (hp : l.Pairwise (· < ·)) {a : Int} {xs : List Int} (h : l.filter q = a :: xs) : a ∈ l ∧ q a = true ∧ ∀ w ∈ l, w < a → q w = false := by
  have hm : a ∈ l.filter q := by rw [h]; exact List.mem_cons_self
  rw [List.mem_filter] at hm
  refine ⟨hm.1, hm.2, fun w hw hl => ?_⟩
  cases e : q w with
  | false => rfl
  | true =>
    have h1 : w ∈ l.filter q := List.mem_filter.mpr ⟨hw, e⟩
    have h2 : (l.filter q).Pairwise (· < ·) := hp.filter q
    rw [h] at h1 h2
    rcases List.mem_cons.mp h1 with h3 | h3
    · omega
    · have := (List.pairwise_cons.mp h2).1 w h3
      omega
theorem filter_last {q : Int → Bool} {l : List Int} (hp : l.Pairwise (· < ·)) {b : Int} {xs : List Int} (h : l.filter q = xs ++ [b]) : b ∈ l ∧ q b = true ∧ ∀ w ∈ l, b < w → q w = false := by
  have hm : b ∈ l.filter q := by rw [h]; exact List.mem_append_right _ List.mem_cons_self
  rw [List.mem_filter] at hm
  refine ⟨hm.1, hm.2, fun w hw hl => ?_⟩
  cases e : q w with
  | false => rfl
  | true =>
    have h1 : w ∈ l.filter q := List.mem_filter.mpr ⟨hw, e⟩
    have h2 : (l.filter q).Pairwise (· < ·) := hp.filter q
    rw [h] at h1 h2
    rcases List.mem_append.mp h1 with h3 | h3
    · have := (List.pairwise_append.mp h2).2.2 w h3 b List.mem_cons_self
      omega
    · rw [List.mem_singleton.mp h3] at hl
      omega
def dL (f : Int → Bool) (l : List Bool) (y : Int) : Bool := decide (f y ≠ at_ l y)
theorem dL_false {f : Int → Bool} {l : List Bool} {y : Int} : dL f l y = false ↔ f y = at_ l y := by
  unfold dL
  rw [decide_eq_false_iff_not]
  exact ⟨fun h => Decidable.byContradiction h, fun h h2 => h2 h⟩
theorem dL_true {f : Int → Bool} {l : List Bool} {y : Int} : dL f l y = true ↔ f y ≠ at_ l y := decide_eq_true_iff
/-- the ends of what is looked at -/
def lo_ (p : Pat) : Int := p.s - 2 * ((short p.l).length * (short p.r).length : Nat) - 2
def hi_ (p : Pat) : Int := p.s + p.m.length + 2 * ((short p.l).length * (short p.r).length : Nat) + 2
def odd_ (p : Pat) : List Int := (rngZ (lo_ p) (hi_ p)).filter (dL p.mem (short p.l))
def late_ (p : Pat) : List Int := (rngZ (lo_ p) (hi_ p)).filter (dL p.mem (short p.r))
/-- the pattern that is written, told by what is found -/
def wr0 (p : Pat) : Pat := ⟨short p.l, 0, [], short p.r⟩
def wr1 (p : Pat) (b : Int) : Pat := ⟨short p.l, b, [], short p.r⟩
def wr2 (p : Pat) (a b : Int) : Pat := ⟨short p.l, a, (rngZ a b).map p.mem, short p.r⟩
section
variable {p : Pat} (ok : p.Ok)
include ok
theorem sl_ : at_ (short p.l) = at_ p.l := (short_spec ok.l).2.1
theorem sr_ : at_ (short p.r) = at_ p.r := (short_spec ok.r).2.1
theorem pl_pos : 0 < (short p.l).length * (short p.r).length := Nat.mul_pos (pos_len (short_spec ok.l).1.1) (pos_len (short_spec ok.r).1.1)
theorem wr0_mem (h1 : short p.l = short p.r) (h2 : odd_ p = []) : (wr0 p).mem = p.mem := by
  have e : (wr0 p).mem = at_ (short p.l) := Canon.all (p := wr0 p) h1 rfl
  rw [e]
  funext y
  have pp := pl_pos ok
  by_cases c1 : y < p.s
  · rw [sl_ ok, Pat.mem_l c1]
  · by_cases c2 : p.s + p.m.length ≤ y
    · rw [h1, sr_ ok, Pat.mem_r c2]
    · have hm : y ∈ rngZ (lo_ p) (hi_ p) := rngZ_mem.mpr (by unfold lo_ hi_; omega)
      have := List.filter_eq_nil_iff.mp h2 y hm
      exact (dL_false.mp (by simpa using this)).symm
theorem wr0_canon (h1 : short p.l = short p.r) : Canon (wr0 p) := ⟨(short_spec ok.l).1, (short_spec ok.r).1, .inl ⟨h1, rfl, rfl⟩⟩
theorem odd_ne (h : ¬ (short p.l = short p.r ∧ odd_ p = [])) : odd_ p ≠ [] ∧ late_ p ≠ [] := by
  have pp := pl_pos ok
  have k1 := (short_spec ok.l).1
  have k2 := (short_spec ok.r).1
  by_cases h1 : short p.l = short p.r
  · have h2 : odd_ p ≠ [] := fun e => h ⟨h1, e⟩
    refine ⟨h2, ?_⟩
    unfold late_
    rw [← h1]
    exact h2
  · have hn : (0 : Int) < ((short p.l).length * (short p.r).length : Nat) := by omega
    have q1 : Per (at_ (short p.l)) ((short p.l).length * (short p.r).length : Nat) := by
      rw [Nat.mul_comm, Int.natCast_mul]
      exact at_per.times _
    have q2 : Per (at_ (short p.r)) ((short p.l).length * (short p.r).length : Nat) := by
      rw [Int.natCast_mul]
      exact at_per.times _
    have ex : ∀ a : Int, ∃ w, a ≤ w ∧ w < a + ((short p.l).length * (short p.r).length : Nat) ∧ at_ (short p.l) w ≠ at_ (short p.r) w := fun a => by
      apply Classical.byContradiction
      intro hc
      apply h1
      apply short_inj k1 k2
      refine Per.window hn q1 q2 a fun w h3 h4 => ?_
      apply Classical.byContradiction
      intro h5
      exact hc ⟨w, h3, h4, h5⟩
    constructor
    · obtain ⟨w, h3, h4, h5⟩ := ex (p.s + p.m.length)
      apply List.ne_nil_of_mem (a := w)
      refine List.mem_filter.mpr ⟨rngZ_mem.mpr (by unfold lo_ hi_; omega), dL_true.mpr ?_⟩
      rw [Pat.mem_r h3, ← sr_ ok]
      exact Ne.symm h5
    · obtain ⟨w, h3, h4, h5⟩ := ex (p.s - ((short p.l).length * (short p.r).length : Nat))
      apply List.ne_nil_of_mem (a := w)
      refine List.mem_filter.mpr ⟨rngZ_mem.mpr (by unfold lo_ hi_; omega), dL_true.mpr ?_⟩
      rw [Pat.mem_l (by omega), ← sl_ ok]
      exact h5
theorem odd_isA {a : Int} {xs : List Int} (h : odd_ p = a :: xs) : IsA p.mem (short p.l) a ∧ p.s ≤ a := by
  obtain ⟨h1, h2, h3⟩ := filter_head (rngZ_lt _ _) h
  have pp := pl_pos ok
  refine ⟨⟨dL_true.mp h2, fun w hw => ?_⟩, ?_⟩
  · by_cases c : lo_ p ≤ w
    · refine dL_false.mp (h3 w (rngZ_mem.mpr ⟨c, ?_⟩) hw)
      have := (rngZ_mem.mp h1).2
      omega
    · rw [sl_ ok, Pat.mem_l (by unfold lo_ at c; omega)]
  · apply Classical.byContradiction
    intro hc
    refine dL_true.mp h2 ?_
    rw [sl_ ok, Pat.mem_l (by omega)]
theorem late_isB {b : Int} {xs : List Int} (h : late_ p = xs ++ [b]) : IsB p.mem (short p.r) (b + 1) ∧ b < p.s + p.m.length := by
  obtain ⟨h1, h2, h3⟩ := filter_last (rngZ_lt _ _) h
  have pp := pl_pos ok
  refine ⟨⟨?_, fun w hw => ?_⟩, ?_⟩
  · rw [show b + 1 - 1 = b by omega]
    exact dL_true.mp h2
  · by_cases c : w < hi_ p
    · refine dL_false.mp (h3 w (rngZ_mem.mpr ⟨?_, c⟩) (by omega))
      have := (rngZ_mem.mp h1).1
      omega
    · rw [sr_ ok, Pat.mem_r (by unfold hi_ at c; omega)]
  · apply Classical.byContradiction
    intro hc
    refine dL_true.mp h2 ?_
    rw [sr_ ok, Pat.mem_r (by omega)]
theorem wr1_mem {a b : Int} (ha : IsA p.mem (short p.l) a) (hb : IsB p.mem (short p.r) b) (h : b ≤ a) : (wr1 p b).mem = p.mem := by
  funext y
  by_cases c : y < b
  · rw [Pat.mem_l (show y < (wr1 p b).s from c)]
    exact (ha.2 y (by omega)).symm
  · rw [Pat.mem_r (show (wr1 p b).s + ((wr1 p b).m.length : Int) ≤ y by show b + ((0 : Nat) : Int) ≤ y; omega)]
    exact (hb.2 y (by omega)).symm
theorem wr2_mem {a b : Int} (ha : IsA p.mem (short p.l) a) (hb : IsB p.mem (short p.r) b) (h : a < b) : (wr2 p a b).mem = p.mem := by
  funext y
  have hl : (wr2 p a b).m.length = (b - a).toNat := by show ((rngZ a b).map p.mem).length = _; rw [List.length_map, rngZ_len]
  have hs : (wr2 p a b).s = a := rfl
  by_cases c : y < a
  · rw [Pat.mem_l (by omega)]
    exact (ha.2 y (by omega)).symm
  · by_cases c2 : y < b
    · rw [Pat.mem_m (by omega) (by omega), hs]
      show ((rngZ a b).map p.mem).getD _ false = _
      rw [List.getD_eq_getElem?_getD, List.getElem?_map, rngZ_get (by omega)]
      show p.mem _ = _
      congr 1
      omega
    · rw [Pat.mem_r (by omega)]
      exact (hb.2 y (by omega)).symm
theorem wr1_canon {a b : Int} (ha : IsA p.mem (short p.l) a) (hb : IsB p.mem (short p.r) b) (h : b ≤ a) : Canon (wr1 p b) :=
  ⟨(short_spec ok.l).1, (short_spec ok.r).1, .inr ⟨a, b, by rw [wr1_mem ok ha hb h]; exact ha, by rw [wr1_mem ok ha hb h]; exact hb, .inl ⟨h, rfl, rfl⟩⟩⟩
theorem wr2_canon {a b : Int} (ha : IsA p.mem (short p.l) a) (hb : IsB p.mem (short p.r) b) (h : a < b) : Canon (wr2 p a b) := by
  have hl : (wr2 p a b).m.length = (b - a).toNat := by show ((rngZ a b).map p.mem).length = _; rw [List.length_map, rngZ_len]
  exact ⟨(short_spec ok.l).1, (short_spec ok.r).1, .inr ⟨a, b, by rw [wr2_mem ok ha hb h]; exact ha, by rw [wr2_mem ok ha hb h]; exact hb, .inr ⟨h, rfl, by rw [hl]; show a + _ = b; omega⟩⟩⟩
end
/-- a set that repeats with rows of at most six far below and far above -/
def Bd (f : Int → Bool) : Prop := ∃ l r : List Bool, l ≠ [] ∧ r ≠ [] ∧ l.length ≤ 6 ∧ r.length ≤ 6 ∧ (∀ y, y ≤ -50 → f y = at_ l y) ∧ ∀ y, 50 ≤ y → f y = at_ r y
theorem Bd.of {p : Pat} (ok : p.Ok) (h1 : p.l.length ≤ 6) (h2 : p.r.length ≤ 6) (h3 : -50 < p.s) (h4 : p.s + p.m.length ≤ 50) : Bd p.mem :=
  ⟨p.l, p.r, ok.l, ok.r, h1, h2, fun y hy => Pat.mem_l (by omega), fun y hy => Pat.mem_r (by omega)⟩
theorem Bd.neg {f : Int → Bool} (h : Bd f) : Bd fun y => f (-y) := by
  obtain ⟨l, r, h1, h2, h3, h4, h5, h6⟩ := h
  have p1 := pos_len h1
  have p2 := pos_len h2
  refine ⟨(List.range r.length).map fun (k : Nat) => at_ r (-(k : Int)), (List.range l.length).map fun (k : Nat) => at_ l (-(k : Int)), ?_, ?_, ?_, ?_, fun y hy => ?_, fun y hy => ?_⟩
  · exact List.ne_nil_of_length_pos (by rw [List.length_map, List.length_range]; exact p2)
  · exact List.ne_nil_of_length_pos (by rw [List.length_map, List.length_range]; exact p1)
  · rw [List.length_map, List.length_range]; exact h4
  · rw [List.length_map, List.length_range]; exact h3
  · rw [at_map (g := fun y => at_ r (-y)) p2 (neg_per at_per)]
    exact h6 (-y) (by omega)
  · rw [at_map (g := fun y => at_ l (-y)) p1 (neg_per at_per)]
    exact h5 (-y) (by omega)
theorem Bd.right {f : Int → Bool} (h : Bd f) {a : Int} (ha : 50 ≤ a) (hw : ∀ w, a ≤ w → w < a + 6 → f w = false) (w : Int) (hw2 : 50 ≤ w) : f w = false := by
  obtain ⟨l, r, h1, h2, h3, h4, h5, h6⟩ := h
  rw [h6 w hw2]
  exact at_none h2 a (fun v h7 h8 => by rw [← h6 v (by omega)]; exact hw v h7 (by omega)) w
theorem Bd.left {f : Int → Bool} (h : Bd f) {a : Int} (ha : a ≤ -56) (hw : ∀ w, a ≤ w → w < a + 6 → f w = false) (w : Int) (hw2 : w ≤ -50) : f w = false := by
  obtain ⟨l, r, h1, h2, h3, h4, h5, h6⟩ := h
  rw [h5 w hw2]
  exact at_none h1 a (fun v h7 h8 => by rw [← h5 v (by omega)]; exact hw v h7 (by omega)) w
theorem up_none1 {f : Int → Bool} (b : Bd f) {y : Int} (hy : -60 ≤ y) (h : ∀ w, y ≤ w → w < y + 120 → f w = false) : Next f y none := fun w hw => by
  by_cases c : w < y + 120
  · exact h w hw c
  · exact b.right (a := if 50 ≤ y then y else 50) (by split <;> omega) (fun v h1 h2 => h v (by split at h1 <;> omega) (by split at h2 <;> omega)) w (by omega)
theorem up_2 {f : Int → Bool} (b : Bd f) {y : Int} (hy : y < -60) (h : ∀ w, y ≤ w → w < y + 120 → f w = false) (w : Int) (h2 : w < -50) : f w = false :=
  b.left (a := y) (by omega) (fun v h1 h2 => h v h1 (by omega)) w (by omega)
theorem up_none2 {f : Int → Bool} (b : Bd f) {y : Int} (hy : y < -60) (h : ∀ w, y ≤ w → w < y + 120 → f w = false) (h2 : ∀ w, -60 ≤ w → w < 60 → f w = false) : Next f y none := fun w hw => by
  by_cases c : w < -50
  · exact up_2 b hy h w c
  · by_cases c2 : w < 60
    · exact h2 w (by omega) c2
    · exact b.right (a := 50) (by omega) (fun v h1 h3 => h2 v (by omega) (by omega)) w (by omega)
/-! ### counting -/
def cntN (f : Int → Bool) (a : Int) : Nat → Nat
  | 0 => 0
  | n + 1 => cntN f a n + if f (a + (n : Int)) then 1 else 0
def cnt (f : Int → Bool) (a b : Int) : Nat := cntN f a (b - a).toNat
theorem cntN_add (f : Int → Bool) (a : Int) (m : Nat) : ∀ n : Nat, cntN f a (m + n) = cntN f a m + cntN f (a + (m : Int)) n
  | 0 => rfl
  | n + 1 => by
    show cntN f a (m + n) + (if f (a + ((m + n : Nat) : Int)) then 1 else 0) = _
    rw [cntN_add f a m n]
    show _ = cntN f a m + (cntN f (a + (m : Int)) n + _)
    rw [show a + ((m + n : Nat) : Int) = a + (m : Int) + (n : Int) by omega]
    omega
theorem cnt_split (f : Int → Bool) {a b c : Int} (h1 : a ≤ b) (h2 : b ≤ c) : cnt f a c = cnt f a b + cnt f b c := by
  unfold cnt
  rw [show (c - a).toNat = (b - a).toNat + (c - b).toNat by omega, cntN_add, show a + ((b - a).toNat : Int) = b by omega]
theorem cnt_none (f : Int → Bool) {a b : Int} (h : b ≤ a) : cnt f a b = 0 := by
  unfold cnt
  rw [show (b - a).toNat = 0 by omega]
  rfl
theorem cntN_ext {f g : Int → Bool} {a : Int} : ∀ n : Nat, (∀ w, a ≤ w → w < a + n → f w = g w) → cntN f a n = cntN g a n
  | 0, _ => rfl
  | n + 1, h => by
    show cntN f a n + _ = cntN g a n + _
    rw [cntN_ext n fun w h1 h2 => h w h1 (by omega), h (a + n) (by omega) (by omega)]
theorem cnt_ext {f g : Int → Bool} {a b : Int} (h : ∀ w, a ≤ w → w < b → f w = g w) : cnt f a b = cnt g a b := by
  unfold cnt
  by_cases c : a ≤ b
  · exact cntN_ext _ fun w h1 h2 => h w h1 (by omega)
  · rw [show (b - a).toNat = 0 by omega]
    rfl
theorem cntN_step {f : Int → Bool} {p : Nat} (hp : Per f p) (a : Int) : cntN f a p = cntN f (a + 1) p := by
  have e1 := cntN_add f a 1 p
  have e2 := cntN_add f a p 1
  rw [Nat.add_comm] at e2
  rw [e1] at e2
  have e3 : cntN f (a + (p : Int)) 1 = cntN f a 1 := by
    show (0 + if f (a + (p : Int) + ((0 : Nat) : Int)) then 1 else 0) = 0 + if f (a + ((0 : Nat) : Int)) then 1 else 0
    rw [show a + (p : Int) + ((0 : Nat) : Int) = a + p by omega, show a + ((0 : Nat) : Int) = a by omega, hp a]
  rw [e3] at e2
  have e4 : a + ((1 : Nat) : Int) = a + 1 := rfl
  rw [e4] at e2
  omega
theorem cntN_turn {f : Int → Bool} {p : Nat} (hp : Per f p) (a : Int) : cntN f a p = cntN f 0 p := by
  have up : ∀ (n : Nat) (b : Int), cntN f (b + (n : Int)) p = cntN f b p := by
    intro n
    induction n with
    | zero => intro b; rw [show b + ((0 : Nat) : Int) = b by omega]
    | succ n ih => intro b; rw [show b + ((n + 1 : Nat) : Int) = b + (n : Int) + 1 by omega, ← cntN_step hp, ih]
  by_cases h : 0 ≤ a
  · have := up a.toNat 0
    rw [show (0 : Int) + (a.toNat : Int) = a by omega] at this
    exact this
  · have := up (-a).toNat a
    rw [show a + ((-a).toNat : Int) = 0 by omega] at this
    exact this.symm
theorem cntN_times {f : Int → Bool} {p : Nat} (hp : Per f p) (a : Int) : ∀ t : Nat, cntN f a (t * p) = t * cntN f 0 p
  | 0 => by rw [Nat.zero_mul, Nat.zero_mul]; rfl
  | t + 1 => by rw [Nat.succ_mul, cntN_add, cntN_times hp a t, cntN_turn hp (a + _), Nat.succ_mul]
theorem cntN_per {f : Int → Bool} {p : Nat} (hp : Per f p) (t : Nat) (a : Int) : ∀ n, cntN f (a + ((t * p : Nat) : Int)) n = cntN f a n
  | 0 => rfl
  | n + 1 => by
    show cntN _ _ n + _ = cntN _ _ n + _
    rw [cntN_per hp t a n]
    have := hp.mul t (a + n)
    rw [show a + ((t * p : Nat) : Int) + (n : Int) = a + n + (t : Int) * (p : Int) by rw [Int.natCast_mul]; omega, this]
/-- whole turns and a rest -/
theorem cnt_div {f : Int → Bool} {p : Nat} (hp : Per f p) (h0 : 0 < p) (a b : Int) (h : a ≤ b) : cnt f a b = ((b - a) / p).toNat * cntN f 0 p + cntN f a ((b - a) % p).toNat := by
  unfold cnt
  have n1 := Int.emod_nonneg (b - a) (show (p : Int) ≠ 0 by omega)
  have n2 := Int.ediv_nonneg (show 0 ≤ b - a by omega) (show (0 : Int) ≤ p by omega)
  have e : (b - a).toNat = ((b - a) / p).toNat * p + ((b - a) % p).toNat := by
    have := Int.emod_add_mul_ediv (b - a) p
    have e2 : (((b - a) / p).toNat * p : Nat) = (p : Int) * ((b - a) / p) := by
      rw [Int.natCast_mul, Int.toNat_of_nonneg n2, Int.mul_comm]
    omega
  rw [e, cntN_add, cntN_times hp, cntN_per hp]
theorem cnt_filter (f : Int → Bool) (a b : Int) : ((rngZ a b).filter f).length = cnt f a b := by
  unfold rngZ cnt
  generalize (b - a).toNat = n
  induction n with
  | zero => rfl
  | succ n ih =>
    rw [List.range_succ, List.map_append, List.filter_append, List.length_append, ih]
    show _ + (List.filter f [a + (n : Int)]).length = cntN f a n + _
    by_cases c : f (a + (n : Int)) <;> simp [List.filter_cons, c]
/-- the numbers of a pattern -/
theorem cnt_pat (p : Pat) (low high : Int) : cnt p.mem low high =
    cnt (at_ p.l) low (if high < p.s then high else p.s) + cnt p.mem (if low < p.s then p.s else low) (if high < p.s + p.m.length then high else p.s + p.m.length) +
      cnt (at_ p.r) (if low < p.s + p.m.length then p.s + p.m.length else low) high := by
  have el : ∀ a b, b ≤ p.s → cnt (at_ p.l) a b = cnt p.mem a b := fun a b h => cnt_ext fun w h1 h2 => (Pat.mem_l (by omega)).symm
  have er : ∀ a b, p.s + p.m.length ≤ a → cnt (at_ p.r) a b = cnt p.mem a b := fun a b h => cnt_ext fun w h1 h2 => (Pat.mem_r (by omega)).symm
  rw [el _ _ (by split <;> omega), er _ _ (by split <;> omega)]
  by_cases c : high ≤ low
  · rw [cnt_none _ c, cnt_none _ (by split <;> omega), cnt_none _ (by split <;> split <;> omega), cnt_none _ (by split <;> omega)]
  · by_cases c1 : high < p.s
    · rw [if_pos c1, cnt_none _ (show (if high < p.s + (p.m.length : Int) then high else p.s + (p.m.length : Int)) ≤ (if low < p.s then p.s else low) by split <;> split <;> omega), cnt_none _ (show high ≤ (if low < p.s + (p.m.length : Int) then p.s + (p.m.length : Int) else low) by split <;> omega)]
      rfl
    · rw [if_neg c1]
      by_cases c2 : high < p.s + p.m.length
      · rw [if_pos c2, cnt_none _ (show high ≤ (if low < p.s + (p.m.length : Int) then p.s + (p.m.length : Int) else low) by split <;> omega)]
        by_cases c3 : low < p.s
        · rw [if_pos c3, cnt_split _ (show low ≤ p.s by omega) (show p.s ≤ high by omega)]
          rfl
        · rw [if_neg c3, cnt_none _ (show p.s ≤ low by omega)]
          omega
      · rw [if_neg c2]
        by_cases c3 : low < p.s
        · rw [if_pos c3, if_pos (show low < p.s + (p.m.length : Int) by omega), cnt_split _ (show low ≤ p.s by omega) (show p.s ≤ high by omega), cnt_split _ (show p.s ≤ p.s + (p.m.length : Int) by omega) (show p.s + (p.m.length : Int) ≤ high by omega)]
          omega
        · rw [if_neg c3, cnt_none _ (show p.s ≤ low by omega)]
          by_cases c4 : low < p.s + p.m.length
          · rw [if_pos c4, cnt_split _ (show low ≤ p.s + (p.m.length : Int) by omega) (show p.s + (p.m.length : Int) ≤ high by omega)]
            omega
          · rw [if_neg c4, cnt_none _ (show p.s + (p.m.length : Int) ≤ low by omega)]
            omega
end PM
namespace LC
open PySem PySem.Spec PyProof.Rows L2 Fx
noncomputable def g__law_draw : FS := seqS (ifS (testF (binF ltD (ixF (varO 0) (constF (.int 0))) (varF 1))) (seqS (asgF 3 (ixF (varO 0) (constF (.int 1))))
      (seqS (setF 0 (constF (.int 1)) (binF addD (varF 3) (constF (.int 1))))
      (seqS (asgF 4 (constF (.int 0)))
      (seqS (ifS (testF (binF ltD (varF 3) (lenF (ofF (ixF (varO 0) (constF (.int 2))))))) (asgF 4 (ixF (ofF (ixF (varO 0) (constF (.int 2)))) (varF 3))) (nilS))
      (ifS (testF (binF geD (varF 4) (binF powD (constF (.int 10)) (constF (.int 18))))) (setF 0 (constF (.int 0)) (varF 4)) (seqS (setF 0 (constF (.int 3)) (binF modD (blF intD (consF (binF mulD (binF addD (binF addD (binF addD (ixF (varO 0) (constF (.int 3))) (binF modD (blF intD (consF (varF 4) (nilF))) (constF (.int 2147483629)))) (varF 3)) (constF (.int 1))) (constF (.int 48271))) (nilF))) (constF (.int 2147483647))))
      (seqS (asgF 5 (binF modD (blF intD (consF (binF addD (binF mulD (ixF (varO 0) (constF (.int 3))) (constF (.int 69621))) (constF (.int 11))) (nilF))) (constF (.int 2147483629))))
      (setF 0 (constF (.int 0)) (binF addD (binF mulD (varF 5) (constF (.int 2147483647))) (binF modD (blF intD (consF (binF addD (binF mulD (varF 5) (constF (.int 30011))) (ixF (varO 0) (constF (.int 3)))) (nilF))) (constF (.int 2147483587)))))))))))) (nilS))
      (seqS (asgF 2 (binF modD (blF intD (consF (ixF (varO 0) (constF (.int 0))) (nilF))) (varF 1)))
      (seqS (setF 0 (constF (.int 0)) (binF divD (ixF (varO 0) (constF (.int 0))) (varF 1)))
      (retF (varO 2))))
@[irreducible] noncomputable def h__law_draw : HF := runB g__law_draw 6
noncomputable def g_is_in : FS := seqS (unpF (.tp [2, 3, 4, 5]) (varF 0))
      (seqS (ifS (testF (binF ltD (varF 1) (varF 3))) (retF (ofF (ixF (varO 2) (binF modD (varF 1) (lenF (varO 2)))))) (nilS))
      (seqS (ifS (testF (binF ltD (varF 1) (binF addD (varF 3) (lenF (varO 4))))) (retF (ofF (ixF (varO 4) (binF subD (varF 1) (varF 3))))) (nilS))
      (retF (ofF (ixF (varO 5) (binF modD (varF 1) (lenF (varO 5))))))))
@[irreducible] noncomputable def h_is_in : HF := runB g_is_in 6
noncomputable def g__law_short : FS := seqS (forS (.nm 1) (rng2 (consF (constF (.int 1)) (consF (binF addD (lenF (varO 0)) (constF (.int 1))) (nilF)))) (ifS (andT (testF (binF eqD (binF modD (blF intD (consF (lenF (varO 0)) (nilF))) (varF 1)) (constF (.int 0)))) (testF (binF eqD (varF 0) (binF mulD (slF (varO 0) (bNo) (bSo (varF 1))) (binF divD (lenF (varO 0)) (varF 1)))))) (retF (ofF (slF (varO 0) (bNo) (bSo (varF 1))))) (nilS)))
      (retF (varO 0))
@[irreducible] noncomputable def h__law_short : HF := runB g__law_short 2
noncomputable def g__law_in : FS := seqS (unpF (.tp [2, 3, 4, 5]) (varF 0))
      (seqS (ifS (testF (binF ltD (varF 1) (varF 3))) (retF (ofF (ixF (varO 2) (binF modD (blF intD (consF (varF 1) (nilF))) (lenF (varO 2)))))) (nilS))
      (seqS (ifS (testF (binF ltD (varF 1) (binF addD (varF 3) (lenF (varO 4))))) (retF (ofF (ixF (varO 4) (binF subD (varF 1) (varF 3))))) (nilS))
      (retF (ofF (ixF (varO 5) (binF modD (blF intD (consF (varF 1) (nilF))) (lenF (varO 5))))))))
@[irreducible] noncomputable def h__law_in : HF := runB g__law_in 6
noncomputable def g__law_written : FS := seqS (asgF 1 (callF h__law_short (consF (ixF (varO 0) (constF (.int 0))) (nilF))))
      (seqS (asgF 2 (callF h__law_short (consF (ixF (varO 0) (constF (.int 3))) (nilF))))
      (seqS (asgF 3 (binF mulD (lenF (varO 1)) (lenF (varO 2))))
      (seqS (asgF 4 (frzF (lrgF (binF subD (binF subD (ixF (varO 0) (constF (.int 1))) (binF mulD (constF (.int 2)) (varF 3))) (constF (.int 2))) (binF addD (binF addD (binF addD (ixF (varO 0) (constF (.int 1))) (lenF (ofF (ixF (varO 0) (constF (.int 2)))))) (binF mulD (constF (.int 2)) (varF 3))) (constF (.int 2))))))
      (seqS (asgF 5 (frzF (compF (.nm 9) (itU (varF 4)) (testF (binF neD (callF h__law_in (consF (varF 0) (consF (varF 9) (nilF)))) (ixF (varO 1) (binF modD (blF intD (consF (varF 9) (nilF))) (lenF (varO 1)))))) (varF 9) [9])))
      (seqS (asgF 6 (frzF (compF (.nm 9) (itU (varF 4)) (testF (binF neD (callF h__law_in (consF (varF 0) (consF (varF 9) (nilF)))) (ixF (varO 2) (binF modD (blF intD (consF (varF 9) (nilF))) (lenF (varO 2)))))) (varF 9) [9])))
      (seqS (ifS (andT (testF (binF eqD (varF 1) (varF 2))) (testF (binF eqD (lenF (varO 5)) (constF (.int 0))))) (retF (ofF (tupF (consF (varF 1) (consF (constF (.int 0)) (consF (tupF (nilF)) (consF (varF 2) (nilF)))))))) (nilS))
      (seqS (asgF 7 (ixF (varO 5) (constF (.int 0))))
      (seqS (asgF 8 (binF addD (ixF (varO 6) (negF (constF (.int 1)))) (constF (.int 1))))
      (seqS (ifS (testF (binF leD (varF 8) (varF 7))) (retF (ofF (tupF (consF (varF 1) (consF (varF 8) (consF (tupF (nilF)) (consF (varF 2) (nilF)))))))) (nilS))
      (retF (ofF (tupF (consF (varF 1) (consF (varF 7) (consF (tofF (ofF (frzF (compF (.nm 9) (rng2 (consF (varF 7) (consF (varF 8) (nilF)))) (yesT) (callF h__law_in (consF (varF 0) (consF (varF 9) (nilF)))) [9])))) (consF (varF 2) (nilF)))))))))))))))))
@[irreducible] noncomputable def h__law_written : HF := runB g__law_written 10
noncomputable def g__law_row : FS := retF (ofF (tofF (ofF (frzF (compF (.nm 3) (rng1 (consF (binF addD (varF 1) (callF h__law_draw (consF (varF 0) (consF (binF addD (binF subD (varF 2) (varF 1)) (constF (.int 1))) (nilF))))) (nilF))) (yesT) (binF eqD (callF h__law_draw (consF (varF 0) (consF (constF (.int 2)) (nilF)))) (constF (.int 1))) [3])))))
@[irreducible] noncomputable def h__law_row : HF := runB g__law_row 4
noncomputable def g__law_pattern : FS := retF (ofF (callF h__law_written (consF (tupF (consF (callF h__law_row (consF (varF 0) (consF (constF (.int 1)) (consF (constF (.int 6)) (nilF))))) (consF (binF subD (callF h__law_draw (consF (varF 0) (consF (constF (.int 21)) (nilF)))) (constF (.int 10))) (consF (callF h__law_row (consF (varF 0) (consF (constF (.int 0)) (consF (constF (.int 6)) (nilF))))) (consF (callF h__law_row (consF (varF 0) (consF (constF (.int 1)) (consF (constF (.int 6)) (nilF))))) (nilF)))))) (nilF))))
@[irreducible] noncomputable def h__law_pattern : HF := runB g__law_pattern 1

end LC
namespace LC
open Fx PM
local macro_rules | `(tactic| walk_at "fx") => `(tactic| simp only [runB, seqS, nilS, asgF, ownF, retF, ifS, testF, binF, varF, varO, constF, ofF, ixF, ixD, seqD, lenF, lenD, unpF, tgD, setN, bindF_some, bindF_none, blF, consF, nilF, intD, iiF_int, ctt_eq, addD_int,
  List.map_cons, List.map_nil, List.cons_append, List.nil_append, List.length_cons, List.length_nil, List.length_map, List.replicate_succ, List.replicate_zero, List.getElem?_cons_zero, List.getElem?_cons_succ, List.set_cons_zero, List.set_cons_succ, Option.map_some, if_true, Nat.reduceAdd, Nat.reduceSub,
  decide_eq_true_eq, if_pos, if_neg, decide_true, decide_false, Bool.false_eq_true, if_false, ne_eq, not_false_eq_true, *])
def eB (bs : List Bool) : D := .tup (bs.map D.bl)
def eP (p : Pat) : D := .tup [eB p.l, .int p.s, eB p.m, eB p.r]
theorem cMod_nat {y : Int} {n : Nat} (h : 0 < n) : cMod y (n : Int) = true := by
  exact dc_of (by omega)
theorem fmod_nat (y : Int) (n : Nat) : y.fmod (n : Int) = y % (n : Int) := Int.fmod_eq_emod_of_nonneg y (by omega)
theorem atI_nn {α : Type} {xs : List α} {i : Int} (h0 : 0 ≤ i) (h1 : i < xs.length) : L2.atI xs i = xs[i.toNat]? := by
  unfold L2.atI L2.ixN
  rw [if_pos h0, if_pos h1]
  rfl
theorem atI_bl {l : List Bool} {i : Int} (h0 : 0 ≤ i) (h1 : i < l.length) : L2.atI (l.map D.bl) i = some (.bl (l.getD i.toNat false)) := by
  rw [atI_nn h0 (by rw [List.length_map]; exact h1), List.getElem?_map]
  have h2 : i.toNat < l.length := by omega
  rw [List.getElem?_eq_getElem h2, List.getD_eq_getElem?_getD, List.getElem?_eq_getElem h2]
  rfl
theorem atI_at {l : List Bool} (h : l ≠ []) (y : Int) : L2.atI (l.map D.bl) (y.fmod (l.length : Int)) = some (.bl (at_ l y)) := by
  have hp := pos_len h
  rw [fmod_nat]
  exact atI_bl (Int.emod_nonneg _ (by omega)) (Int.emod_lt_of_pos _ (by omega))
theorem in_run (p : Pat) (hl : p.l ≠ []) (hr : p.r ≠ []) (y : Int) (T : Tm) : h__law_in [eP p, .int y] T = some (.bl (p.mem y), T) := by
  unfold h__law_in g__law_in eP eB Pat.mem
  have c1 := cMod_nat (y := y) (pos_len hl)
  have c2 := cMod_nat (y := y) (pos_len hr)
  have a1 := atI_at hl y
  have a2 := atI_at hr y
  by_cases h1 : y < p.s
  · walk_at "fx"
  · by_cases h2 : y < p.s + p.m.length
    · have a3 := atI_bl (l := p.m) (i := y - p.s) (by omega) (by omega)
      walk_at "fx"
    · walk_at "fx"
end LC
namespace LC
open Fx PM
local macro_rules | `(tactic| walk_at "fx") => `(tactic| simp only [runB, seqS, nilS, asgF, ownF, retF, ifS, testF, binF, varF, varO, constF, ofF, ixF, ixD, seqD, lenF, lenD, unpF, tgD, setN, bindF_some, bindF_none, blF, consF, nilF, intD, iiF_int, ctt_eq, addD_int, setF, callF, tofF,
  List.map_cons, List.map_nil, List.cons_append, List.nil_append, List.length_cons, List.length_nil, List.length_map, List.replicate_succ, List.replicate_zero, List.getElem?_cons_zero, List.getElem?_cons_succ, List.set_cons_zero, List.set_cons_succ, Option.map_some, if_true, Nat.reduceAdd, Nat.reduceSub,
  decide_eq_true_eq, if_pos, if_neg, decide_true, decide_false, Bool.false_eq_true, if_false, ne_eq, not_false_eq_true, *])
/-- the law's state -/
def eS (ns : List Int) (a b c : Int) : Tm := [.lst [.int a, .int b, .lst (ns.map D.int), .int c]]
theorem ix0 (ds : List D) (x : D) : L2.atI (x :: ds) 0 = some x := by rw [atI_nn (by decide) (by simp only [List.length_cons]; omega)]; rfl
theorem ix1 (ds : List D) (x y : D) : L2.atI (x :: y :: ds) 1 = some y := by rw [atI_nn (by decide) (by simp only [List.length_cons]; omega)]; rfl
theorem ix2 (ds : List D) (x y z : D) : L2.atI (x :: y :: z :: ds) 2 = some z := by rw [atI_nn (by decide) (by simp only [List.length_cons]; omega)]; rfl
theorem ix3 (ds : List D) (x y z u : D) : L2.atI (x :: y :: z :: u :: ds) 3 = some u := by rw [atI_nn (by decide) (by simp only [List.length_cons]; omega)]; rfl
theorem n4_0 : L2.ixN 4 0 = some 0 := by decide
theorem n4_1 : L2.ixN 4 1 = some 1 := by decide
theorem n4_3 : L2.ixN 4 3 = some 3 := by decide
theorem cm {i j : Int} (h : -18446744073709551616 < j ∧ j < 18446744073709551616) : cMul i j = true := dc_of (.inr h)
theorem cmd {i j : Int} (h : j ≠ 0) : cMod i j = true := dc_of h
theorem cdv {i j : Int} (h : j ≠ 0) (h2 : j.natAbs < 1073741824) : cDiv i j = true := dc_of ⟨h, h2⟩
theorem cpw : cPow 10 18 = true := dc_of (by omega)
theorem fmod_lt (x : Int) {n : Int} (h : 0 < n) : 0 ≤ x.fmod n ∧ x.fmod n < n := by
  rw [Int.fmod_eq_emod_of_nonneg x (by omega)]
  exact ⟨Int.emod_nonneg _ (by omega), Int.emod_lt_of_pos _ h⟩
theorem atI_ints {ns : List Int} {b : Int} (h0 : 0 ≤ b) (h1 : b < ns.length) : ∃ v, L2.atI (ns.map D.int) b = some (.int v) := by
  rw [atI_nn h0 (by rw [List.length_map]; exact h1), List.getElem?_map]
  have h2 : b.toNat < ns.length := by omega
  rw [List.getElem?_eq_getElem h2]
  exact ⟨_, rfl⟩
set_option maxHeartbeats 4000000 in
theorem draw_run (ns : List Int) (a b c n : Int) (hb : 0 ≤ b) (hn : 0 < n) (hn2 : n < 1073741824) :
    ∃ d a' b' c', 0 ≤ d ∧ d < n ∧ 0 ≤ b' ∧ h__law_draw [.ob 0, .int n] (eS ns a b c) = some (.int d, eS ns a' b' c') := by
  unfold h__law_draw g__law_draw eS
  have d1 : ∀ x, cMod x n = true := fun x => cmd (by omega)
  have d2 : ∀ x, cDiv x n = true := fun x => cdv (by omega) (by omega)
  have m1 : ∀ x, cMod x 2147483629 = true := fun x => cmd (by decide)
  have m2 : ∀ x, cMod x 2147483647 = true := fun x => cmd (by decide)
  have m3 : ∀ x, cMod x 2147483587 = true := fun x => cmd (by decide)
  have p1 : ∀ x, cMul x 48271 = true := fun x => cm (by omega)
  have p2 : ∀ x, cMul x 69621 = true := fun x => cm (by omega)
  have p3 : ∀ x, cMul x 2147483647 = true := fun x => cm (by omega)
  have p4 : ∀ x, cMul x 30011 = true := fun x => cm (by omega)
  have q0 := @ix0
  have q1 := @ix1
  have q2 := @ix2
  have q3 := @ix3
  have e0 := n4_0
  have e1 := n4_1
  have e3 := n4_3
  have pw := cpw
  have mm : ∀ i j, mulD (.int i) (.int j) = if cMul i j then some (.int (i * j)) else none := fun _ _ => rfl
  by_cases h1 : a < n
  · by_cases h2 : b < ns.length
    · obtain ⟨v, hv⟩ := atI_ints (ns := ns) hb h2
      by_cases h3 : (10 : Int) ^ (18 : Int).toNat ≤ v
      · walk_at "fx"
        exact ⟨_, _, _, _, (fmod_lt v hn).1, (fmod_lt v hn).2, by omega, rfl⟩
      · walk_at "fx"
        exact ⟨_, _, _, _, (fmod_lt _ hn).1, (fmod_lt _ hn).2, by omega, rfl⟩
    · have h3 : ¬ (10 : Int) ^ (18 : Int).toNat ≤ 0 := by decide
      walk_at "fx"
      exact ⟨_, _, _, _, (fmod_lt _ hn).1, (fmod_lt _ hn).2, by omega, rfl⟩
  · walk_at "fx"
    exact ⟨_, _, _, _, (fmod_lt a hn).1, (fmod_lt a hn).2, hb, rfl⟩
end LC
namespace LC
open Fx PM
local macro_rules | `(tactic| walk_at "fx") => `(tactic| simp only [runB, seqS, nilS, asgF, ownF, retF, ifS, testF, binF, varF, varO, constF, ofF, ixF, ixD, seqD, lenF, lenD, unpF, tgD, setN, bindF_some, bindF_none, blF, consF, nilF, intD, iiF_int, ctt_eq, addD_int, setF, callF, tofF, frzF, tupF, negF, andT, slF, slD, bNo, bSo,
  List.map_cons, List.map_nil, List.cons_append, List.nil_append, List.length_cons, List.length_nil, List.length_map, List.replicate_succ, List.replicate_zero, List.getElem?_cons_zero, List.getElem?_cons_succ, List.set_cons_zero, List.set_cons_succ, Option.map_some, if_true, Nat.reduceAdd, Nat.reduceSub,
  decide_eq_true_eq, if_pos, if_neg, decide_true, decide_false, Bool.false_eq_true, if_false, ne_eq, not_false_eq_true, *])
/-! ### comprehensions and searches -/
theorem compL_all {t : Tgt} {e : FE} {ρw : Rho} {Pt : Fx.Tm → Prop} {R : D → Prop} : ∀ (ds : List D), (∀ d ∈ ds, ∀ T, Pt T → ∃ ρ1 x T', tgD t d ρw = some ρ1 ∧ e ρ1 T = some (x, T') ∧ R x ∧ Pt T') →
    ∀ (acc : List D) (T : Fx.Tm), Pt T → acc.length + ds.length ≤ PySem.sizeLine → ∃ xs T', compL t yesT e ρw ds acc T = some (acc ++ xs, T') ∧ xs.length = ds.length ∧ (∀ x ∈ xs, R x) ∧ Pt T'
  | [], _, acc, T, hp, _ => ⟨[], T, by simp [compL], rfl, (fun _ h => by cases h), hp⟩
  | d :: ds, step, acc, T, hp, hl => by
    obtain ⟨ρ1, x, T1, h1, h2, h3, h4⟩ := step d List.mem_cons_self T hp
    rw [List.length_cons] at hl
    obtain ⟨xs, T2, h5, h6, h7, h8⟩ := compL_all ds (fun d hd => step d (List.mem_cons_of_mem _ hd)) (acc ++ [x]) T1 h4 (by rw [List.length_append, List.length_singleton]; omega)
    refine ⟨x :: xs, T2, ?_, by rw [List.length_cons, List.length_cons, h6], fun y hy => ?_, h8⟩
    · unfold compL
      rw [h1]
      show bindF (yesT ρ1 T) _ = _
      rw [show yesT ρ1 T = some (true, T) from rfl, bindF_some, if_pos rfl, h2, bindF_some, if_pos (by omega), h5, List.append_assoc]
      rfl
    · rcases List.mem_cons.mp hy with rfl | hy
      · exact h3
      · exact h7 y hy
/-- nothing changes: a filter and a map -/
theorem compL_pure {t : Tgt} {c : FT} {e : FE} {ρw : Rho} {T : Fx.Tm} {p : D → Bool} {g : D → D} : ∀ (ds : List D), (∀ d ∈ ds, ∃ ρ1, tgD t d ρw = some ρ1 ∧ c ρ1 T = some (p d, T) ∧ (p d = true → e ρ1 T = some (g d, T))) →
    ∀ (acc : List D), acc.length + ds.length ≤ PySem.sizeLine → compL t c e ρw ds acc T = some (acc ++ (ds.filter p).map g, T)
  | [], _, acc, _ => by simp [compL]
  | d :: ds, step, acc, hl => by
    obtain ⟨ρ1, h1, h2, h3⟩ := step d List.mem_cons_self
    rw [List.length_cons] at hl
    have ih := fun (acc : List D) h => compL_pure ds (fun d hd => step d (List.mem_cons_of_mem _ hd)) acc h
    unfold compL
    rw [h1]
    show bindF (c ρ1 T) _ = _
    rw [h2, bindF_some]
    cases hp : p d with
    | false =>
      rw [if_neg (by decide), List.filter_cons, hp, if_neg (by decide)]
      exact ih acc (by omega)
    | true =>
      rw [if_pos rfl, h3 hp, bindF_some, if_pos (by omega), List.filter_cons, hp, if_pos rfl, ih (acc ++ [g d]) (by rw [List.length_append, List.length_singleton]; omega), List.map_cons, List.append_assoc]
      rfl
theorem forL_search {t : Tgt} {body : FS} {T : Fx.Tm} {p : D → Bool} {g : D → D} {inv : Rho → Prop} : ∀ (ds : List D), (∀ d ∈ ds, ∀ ρ, inv ρ → ∃ ρ1, tgD t d ρ = some ρ1 ∧ if p d = true then body ρ1 T = some (.rt (g d), T) else ∃ ρ2, inv ρ2 ∧ body ρ1 T = some (.nx ρ2, T)) →
    ∀ ρ, inv ρ → (∃ d, ds.find? p = some d ∧ forL t body ds ρ T = some (.rt (g d), T)) ∨ (ds.find? p = none ∧ ∃ ρ', inv ρ' ∧ forL t body ds ρ T = some (.nx ρ', T))
  | [], _, ρ, hi => .inr ⟨rfl, ρ, hi, rfl⟩
  | d :: ds, step, ρ, hi => by
    obtain ⟨ρ1, h1, h2⟩ := step d List.mem_cons_self ρ hi
    unfold forL
    simp only [h1]
    cases hp : p d with
    | true =>
      rw [hp, if_pos rfl] at h2
      refine .inl ⟨d, by rw [List.find?_cons, hp], ?_⟩
      simp only [h2]
    | false =>
      rw [hp, if_neg (by decide)] at h2
      obtain ⟨ρ2, h3, h4⟩ := h2
      have e1 : (d :: ds).find? p = ds.find? p := by rw [List.find?_cons, hp]
      rw [e1]
      have ih := forL_search ds (fun d hd => step d (List.mem_cons_of_mem _ hd)) ρ2 h3
      simp only [h4]
      exact ih
/-! ### == of rows -/
def pB (l : List Bool) : PySem.PyData := .tuple (l.map PySem.PyData.bool)
theorem toPyL_bl : ∀ l : List Bool, toPyL (l.map D.bl) = some (l.map PySem.PyData.bool)
  | [] => by simp [toPyL]
  | b :: l => by simp [toPyL, toPy, toPyL_bl l]
theorem toPy_eB (l : List Bool) : toPy (eB l) = some (pB l) := by
  unfold eB pB
  rw [toPy, toPyL_bl]
  rfl
theorem lay_bl : ∀ l : List Bool, PySem.PyData.canLayAll0 (l.map PySem.PyData.bool) = true
  | [] => by simp [PySem.PyData.canLayAll0]
  | b :: l => by simp [PySem.PyData.canLayAll0, PySem.PyData.canLay0, lay_bl l]
theorem dep_bl : ∀ l : List Bool, PySem.PyData.depthAll (l.map PySem.PyData.bool) = 0
  | [] => by simp [PySem.PyData.depthAll]
  | b :: l => by simp [PySem.PyData.depthAll, PySem.PyData.depth, dep_bl l]
theorem shaped_pB (l : List Bool) : PySem.SeqAt.shaped (pB l) = true := by
  unfold PySem.SeqAt.shaped pB
  simp [PySem.PyData.canLay0, lay_bl, PySem.PyData.depth, dep_bl]
theorem eqvAll_bl : ∀ a b : List Bool, PySem.PyData.eqvAll (a.map PySem.PyData.bool) (b.map PySem.PyData.bool) = decide (a = b)
  | [], [] => by simp [PySem.PyData.eqvAll]
  | [], _ :: _ => by simp [PySem.PyData.eqvAll]
  | _ :: _, [] => by simp [PySem.PyData.eqvAll]
  | x :: a, y :: b => by
    simp only [List.map_cons, PySem.PyData.eqvAll, PySem.PyData.eqv, eqvAll_bl a b, List.cons.injEq]
    by_cases h : x = y <;> by_cases h2 : a = b <;> simp [h, h2]
theorem eqv_pB (a b : List Bool) : PySem.PyData.eqv (pB a) (pB b) = decide (a = b) := by
  unfold pB
  rw [PySem.PyData.eqv, eqvAll_bl]
theorem eqD_eB (a b : List Bool) : eqD (eB a) (eB b) = some (.bl (decide (a = b))) := by
  unfold eqD eqB
  rw [toPy_eB, toPy_eB]
  simp only [shaped_pB, Bool.and_self, if_true, eqv_pB, Option.map_some]
theorem eqD_int (i j : Int) : eqD (.int i) (.int j) = some (.bl (decide (i = j))) := by
  unfold eqD eqB
  simp only [toPy]
  have h : ∀ i, PySem.SeqAt.shaped (.int i) = true := fun i => by simp [PySem.SeqAt.shaped, PySem.PyData.canLay0, PySem.PyData.depth]
  simp only [h, Bool.and_self, if_true, PySem.PyData.eqv, Option.map_some]
  by_cases e : i = j <;> simp [e]
theorem neD_bl (a b : Bool) : neD (.bl a) (.bl b) = some (.bl (decide (a ≠ b))) := by
  unfold neD eqB
  simp only [toPy]
  have h : ∀ i, PySem.SeqAt.shaped (.bool i) = true := fun i => by simp [PySem.SeqAt.shaped, PySem.PyData.canLay0, PySem.PyData.depth]
  simp only [h, Bool.and_self, if_true, PySem.PyData.eqv, Option.map_some]
  cases a <;> cases b <;> rfl
/-! ### a row -/
theorem line_eq : PySem.sizeLine = 16777216 := PySem.sizeLine_eq
theorem rngL_mem {i j : Int} {d : D} (h : d ∈ rngL i j) : ∃ k : Int, d = .int k ∧ i ≤ k ∧ k < j := by
  unfold rngL at h
  obtain ⟨m, hm, rfl⟩ := List.mem_map.mp h
  have := List.mem_range.mp hm
  exact ⟨_, rfl, by omega, by omega⟩
theorem bls_of : ∀ xs : List D, (∀ x ∈ xs, ∃ b, x = D.bl b) → ∃ bs : List Bool, xs = bs.map D.bl
  | [], _ => ⟨[], rfl⟩
  | x :: xs, h => by
    obtain ⟨b, rfl⟩ := h x List.mem_cons_self
    obtain ⟨bs, rfl⟩ := bls_of xs fun y hy => h y (List.mem_cons_of_mem _ hy)
    exact ⟨b :: bs, rfl⟩
set_option maxHeartbeats 4000000 in
theorem row_run (ns : List Int) (a b c lo hi : Int) (hb : 0 ≤ b) (h0 : 0 ≤ lo) (h1 : lo ≤ hi) (h2 : hi ≤ 1000) :
    ∃ (bs : List Bool) (a' b' c' : Int), lo ≤ bs.length ∧ (bs.length : Int) ≤ hi ∧ 0 ≤ b' ∧ h__law_row [.ob 0, .int lo, .int hi] (eS ns a b c) = some (eB bs, eS ns a' b' c') := by
  obtain ⟨d, a1, b1, c1, g1, g2, g3, g4⟩ := draw_run ns a b c (hi - lo + 1) hb (by omega) (by omega)
  have e1 : in62 (lo + d) = true := in62_of (by omega) (by omega)
  obtain ⟨xs, T', k1, k2, k3, k4⟩ := compL_all (t := .nm 3) (e := binF eqD (callF h__law_draw (consF (varF 0) (consF (constF (.int 2)) (nilF)))) (constF (.int 1)))
    (ρw := [.dat (.ob 0), .dat (.int lo), .dat (.int hi), .un]) (Pt := fun T => ∃ a b c, 0 ≤ b ∧ T = eS ns a b c) (R := fun x => ∃ b, x = D.bl b) (rngL 0 (lo + d)) (fun x hx T hT => by
      obtain ⟨k, rfl, _, _⟩ := rngL_mem hx
      obtain ⟨a2, b2, c2, h3, rfl⟩ := hT
      obtain ⟨d3, a3, b3, c3, _, _, h4, h5⟩ := draw_run ns a2 b2 c2 2 h3 (by decide) (by decide)
      have q := eqD_int d3 1
      refine ⟨_, .bl (decide (d3 = 1)), eS ns a3 b3 c3, rfl, ?_, ⟨_, rfl⟩, a3, b3, c3, h4, rfl⟩
      walk_at "fx") [] (eS ns a1 b1 c1) ⟨a1, b1, c1, g3, rfl⟩ (by rw [rngL_len, line_eq]; simp only [List.length_nil]; omega)
  obtain ⟨bs, rfl⟩ := bls_of xs k3
  obtain ⟨a2, b2, c2, h3, rfl⟩ := k4
  rw [List.length_map, rngL_len] at k2
  refine ⟨bs, a2, b2, c2, by omega, by omega, h3, ?_⟩
  unfold h__law_row g__law_row eB
  have in1 : tgIn (.nm 3) [3] = true := by decide
  simp only [runB, retF, ofF, tofF, frzF, compF, rng1, in1, wipeR, if_true]
  walk_at "fx"
end LC
namespace LC
open Fx PM
local macro_rules | `(tactic| walk_at "fx") => `(tactic| simp only [runB, seqS, nilS, asgF, ownF, retF, ifS, testF, binF, varF, varO, constF, ofF, ixF, ixD, seqD, lenF, lenD, unpF, tgD, setN, bindF_some, bindF_none, blF, consF, nilF, intD, iiF_int, ctt_eq, addD_int, setF, callF, tofF, frzF, tupF, negF, andT, orT, slF, slD, bNo, bSo, forS, rng1, rng2, lrgF, compF, yesT,
  List.map_cons, List.map_nil, List.cons_append, List.nil_append, List.length_cons, List.length_nil, List.length_map, List.replicate_succ, List.replicate_zero, List.getElem?_cons_zero, List.getElem?_cons_succ, List.set_cons_zero, List.set_cons_succ, Option.map_some, if_true, Nat.reduceAdd, Nat.reduceSub,
  decide_eq_true_eq, if_pos, if_neg, decide_true, decide_false, Bool.false_eq_true, if_false, ne_eq, not_false_eq_true, Bool.and_self, wipeR, *])
/-! ### ranges and loops -/
theorem rngL_cons {i j : Int} (h : i < j) : rngL i j = .int i :: rngL (i + 1) j := by
  unfold rngL
  rw [show (j - i).toNat = (j - (i + 1)).toNat + 1 by omega, List.range_succ_eq_map, List.map_cons, List.map_map]
  congr 1
  · congr 1
    omega
  · apply List.map_congr_left
    intro k _
    show D.int (i + ((k + 1 : Nat) : Int)) = D.int (i + 1 + (k : Int))
    congr 1
    omega
theorem rngL_nil {i j : Int} (h : j ≤ i) : rngL i j = [] := by
  unfold rngL
  rw [show (j - i).toNat = 0 by omega]
  rfl
theorem rngL_map (i j : Int) : rngL i j = (rngZ i j).map D.int := by
  unfold rngL rngZ
  rw [List.map_map]
  rfl
theorem forL_rng {t : Tgt} {body : FS} {T : Fx.Tm} {p : Int → Bool} {g : Int → D} {inv : Rho → Prop} {j : Int} : ∀ (n : Nat) (i : Int), (j - i).toNat = n →
    (∀ k, i ≤ k → k < j → ∀ ρ, inv ρ → ∃ ρ1, tgD t (.int k) ρ = some ρ1 ∧ if p k = true then body ρ1 T = some (.rt (g k), T) else ∃ ρ2, inv ρ2 ∧ body ρ1 T = some (.nx ρ2, T)) → ∀ ρ, inv ρ →
    (∃ z, i ≤ z ∧ z < j ∧ p z = true ∧ (∀ w, i ≤ w → w < z → p w = false) ∧ forL t body (rngL i j) ρ T = some (.rt (g z), T)) ∨ ((∀ w, i ≤ w → w < j → p w = false) ∧ ∃ ρ', inv ρ' ∧ forL t body (rngL i j) ρ T = some (.nx ρ', T))
  | 0, i, hn, step, ρ, hi => by
    rw [rngL_nil (by omega)]
    exact .inr ⟨fun w h1 h2 => by omega, ρ, hi, rfl⟩
  | n + 1, i, hn, step, ρ, hi => by
    rw [rngL_cons (by omega)]
    obtain ⟨ρ1, h1, h2⟩ := step i (by omega) (by omega) ρ hi
    unfold forL
    simp only [h1]
    cases hp : p i with
    | true =>
      rw [hp, if_pos rfl] at h2
      simp only [h2]
      exact .inl ⟨i, by omega, by omega, hp, fun w h3 h4 => by omega, rfl⟩
    | false =>
      rw [hp, if_neg (by decide)] at h2
      obtain ⟨ρ2, h3, h4⟩ := h2
      simp only [h4]
      rcases forL_rng n (i + 1) (by omega) (fun k h5 h6 => step k (by omega) h6) ρ2 h3 with ⟨z, a1, a2, a3, a4, a5⟩ | ⟨a1, a2⟩
      · exact .inl ⟨z, by omega, a2, a3, fun w h5 h6 => if c : w = i then c ▸ hp else a4 w (by omega) h6, a5⟩
      · exact .inr ⟨fun w h5 h6 => if c : w = i then c ▸ hp else a1 w (by omega) h6, a2⟩
/-- a loop that goes on -/
theorem forL_inv {t : Tgt} {body : FS} {inv : Rho → Fx.Tm → Prop} : ∀ (ds : List D), (∀ d ∈ ds, ∀ ρ T, inv ρ T → ∃ ρ1 ρ2 T2, tgD t d ρ = some ρ1 ∧ body ρ1 T = some (.nx ρ2, T2) ∧ inv ρ2 T2) →
    ∀ ρ T, inv ρ T → ∃ ρ' T', inv ρ' T' ∧ forL t body ds ρ T = some (.nx ρ', T')
  | [], _, ρ, T, h => ⟨ρ, T, h, rfl⟩
  | d :: ds, step, ρ, T, h => by
    obtain ⟨ρ1, ρ2, T2, h1, h2, h3⟩ := step d List.mem_cons_self ρ T h
    unfold forL
    simp only [h1, h2]
    exact forL_inv ds (fun d hd => step d (List.mem_cons_of_mem _ hd)) ρ2 T2 h3
/-! ### slices, products of rows -/
theorem take_len {α : Type} {xs : List α} {k : Nat} (h : k ≤ xs.length) : (xs.take k).length = k := by rw [List.length_take]; omega
theorem cutD_take {ds : List D} {k : Nat} (h : k ≤ ds.length) : cutD ds none (some (k : Int)) = ds.take k := by
  unfold cutD
  rw [HT.sIx_none, HT.sIx_nat, List.drop_zero, Nat.min_eq_left h]
  rfl
theorem slD_eB (T : Fx.Tm) {l : List Bool} {k : Nat} (h : k ≤ l.length) : slD T (.val (eB l)) none (some (k : Int)) = some (eB (l.take k)) := by
  unfold slD eB
  show some (D.tup (cutD _ _ _)) = _
  rw [cutD_take (by rw [List.length_map]; exact h), List.map_take]
theorem mulD_eB {l : List Bool} {k : Nat} (h0 : l ≠ []) (h1 : 1 ≤ k) (h2 : k ≤ 1000) (h3 : l.length ≤ 1000) : mulD (eB l) (.int (k : Int)) = some (eB (List.replicate k l).flatten) := by
  unfold mulD eB
  show (if _ then _ else _) = _
  rw [if_pos (show cRepT _ _ = true from dc_of ⟨by simpa using h0, by omega, .inr ⟨by omega, by rw [List.length_map]; exact h3⟩⟩), Int.toNat_natCast, List.map_flatten, List.map_replicate]
theorem lenD_eB (T : Fx.Tm) (l : List Bool) : lenD T (.val (eB l)) = some (.int (l.length : Int)) := by
  unfold lenD eB seqD
  show some (D.int _) = _
  rw [List.length_map]
theorem fmod_natnat (n k : Nat) : (n : Int).fmod (k : Int) = ((n % k : Nat) : Int) := by rw [fmod_nat, Int.natCast_emod]
theorem fdiv_natnat (n k : Nat) : (n : Int).fdiv (k : Int) = ((n / k : Nat) : Int) := by rw [Int.fdiv_eq_ediv_of_nonneg _ (by omega), Int.natCast_ediv]
/-- the first that fits -/
theorem short_first {l : List Bool} {z : Nat} (h0 : 1 ≤ z) (h1 : z ≤ l.length) (h2 : okK l z = true) (h3 : ∀ w : Nat, 1 ≤ w → w < z → okK l w = false) : short l = l.take z := by
  obtain ⟨k, q1, q2, q3, q4⟩ := find_range (p := fun k => okK l (k + 1)) l.length ⟨z - 1, by omega, by rw [show z - 1 + 1 = z by omega]; exact h2⟩
  have e : k + 1 = z := by
    rcases Nat.lt_trichotomy (k + 1) z with c | c | c
    · have := h3 (k + 1) (by omega) c
      rw [this] at q3
      cases q3
    · exact c
    · have := q4 (z - 1) (by omega)
      rw [show z - 1 + 1 = z by omega, h2] at this
      cases this
  unfold short
  rw [q1]
  show l.take (k + 1) = _
  rw [e]
theorem okK_full {l : List Bool} (h : l ≠ []) : okK l l.length = true := (okK_iff (pos_len h) (Nat.le_refl _)).mpr ⟨Nat.mod_self _, at_per⟩
set_option maxHeartbeats 1000000 in
theorem short_run (l : List Bool) (h : l ≠ []) (hl : l.length ≤ 1000) (T : Fx.Tm) : h__law_short [eB l] T = some (eB (short l), T) := by
  unfold h__law_short g__law_short
  have hp := pos_len h
  have el := lenD_eB T l
  have c1 : in62 1 = true := in62_of (by omega) (by omega)
  have c2 : in62 ((l.length : Int) + 1) = true := in62_of (by omega) (by omega)
  have key := forL_rng (t := .nm 1) (T := T) (body := ifS (andT (testF (binF eqD (binF modD (blF intD (consF (lenF (varO 0)) (nilF))) (varF 1)) (constF (.int 0)))) (testF (binF eqD (varF 0) (binF mulD (slF (varO 0) (bNo) (bSo (varF 1))) (binF divD (lenF (varO 0)) (varF 1)))))) (retF (ofF (slF (varO 0) (bNo) (bSo (varF 1))))) (nilS))
    (p := fun k => okK l k.toNat) (g := fun k => eB (l.take k.toNat)) (inv := fun ρ => ∃ x, ρ = [.dat (eB l), x]) (j := (l.length : Int) + 1) _ 1 rfl (fun k h1 h2 ρ hr => by
      obtain ⟨x, rfl⟩ := hr
      obtain ⟨k, rfl⟩ : ∃ n : Nat, k = (n : Int) := ⟨k.toNat, by omega⟩
      refine ⟨_, rfl, ?_⟩
      have hk : k ≤ l.length := by omega
      have m1 : cMod (l.length : Int) (k : Int) = true := cMod_nat (by omega)
      have m2 : cDiv (l.length : Int) (k : Int) = true := cdv (by omega) (by omega)
      have e1 := slD_eB T hk
      have e2 := eqD_int ((l.length : Int).fmod (k : Int)) 0
      rw [fmod_natnat] at e2
      have e3 := fdiv_natnat l.length k
      have e4 : mulD (eB (l.take k)) (.int ((l.length / k : Nat) : Int)) = some (eB (rep k l)) := mulD_eB (fun e => by have := take_len hk; rw [e] at this; simp at this; omega) (Nat.div_pos hk (by omega)) (Nat.le_trans (Nat.div_le_self _ _) hl) (by rw [take_len hk]; omega)
      have e5 := eqD_eB l (rep k l)
      have e6 := fmod_natnat l.length k
      show if okK l (Int.toNat (k : Int)) = true then _ else _
      rw [Int.toNat_natCast]
      by_cases a1 : l.length % k = 0
      · have a1' : ((l.length % k : Nat) : Int) = 0 := by omega
        by_cases a2 : l = rep k l
        · rw [if_pos (by unfold okK; rw [decide_eq_true a1, decide_eq_true a2]; rfl)]
          rw [decide_eq_true a1'] at e2
          rw [decide_eq_true a2] at e5
          simp only [runB, seqS, nilS, retF, ifS, testF, binF, varF, varO, constF, ofF, lenF, bindF_some, blF, consF, nilF, intD, iiF_int, andT, slF, bNo, bSo, List.getElem?_cons_zero, List.getElem?_cons_succ, List.set_cons_zero, List.set_cons_succ, Option.map_some, el, m1, m2, e1, e2, e3, e4, e5, e6, if_true, Int.toNat_natCast]
        · rw [if_neg (by unfold okK; rw [decide_eq_false a2, Bool.and_false]; decide)]
          rw [decide_eq_true a1'] at e2
          rw [decide_eq_false a2] at e5
          refine ⟨[.dat (eB l), .dat (.int (k : Int))], ⟨_, rfl⟩, ?_⟩
          simp only [runB, seqS, nilS, retF, ifS, testF, binF, varF, varO, constF, ofF, lenF, bindF_some, blF, consF, nilF, intD, iiF_int, andT, slF, bNo, bSo, List.getElem?_cons_zero, List.getElem?_cons_succ, List.set_cons_zero, List.set_cons_succ, Option.map_some, el, m1, m2, e1, e2, e3, e4, e5, e6, if_true, Bool.false_eq_true, if_false]
      · have a1' : ¬ ((l.length % k : Nat) : Int) = 0 := by omega
        rw [if_neg (by unfold okK; rw [decide_eq_false a1, Bool.false_and]; decide)]
        rw [decide_eq_false a1'] at e2
        refine ⟨[.dat (eB l), .dat (.int (k : Int))], ⟨_, rfl⟩, ?_⟩
        simp only [runB, seqS, nilS, retF, ifS, testF, binF, varF, varO, constF, ofF, lenF, bindF_some, blF, consF, nilF, intD, iiF_int, andT, slF, bNo, bSo, List.getElem?_cons_zero, List.getElem?_cons_succ, List.set_cons_zero, List.set_cons_succ, Option.map_some, el, m1, m2, e1, e2, e3, e4, e5, e6, if_true, Bool.false_eq_true, if_false]) [.dat (eB l), .un] ⟨_, rfl⟩
  rcases key with ⟨z, q1, q2, q3, q4, q5⟩ | ⟨q1, _⟩
  · obtain ⟨z, rfl⟩ : ∃ n : Nat, z = (n : Int) := ⟨z.toNat, by omega⟩
    rw [short_first (z := z) (by omega) (by omega) (by simpa using q3) fun w h1 h2 => by have := q4 (w : Int) (by omega) (by omega); simpa using this]
    rw [Int.toNat_natCast] at q5
    simp only [runB, seqS, forS, rng2, varO, lenF, binF, constF, consF, nilF, bindF_some, List.map_cons, List.map_nil, List.cons_append, List.nil_append, List.length_cons, List.length_nil, Nat.reduceAdd, Nat.reduceSub, List.replicate_succ, List.replicate_zero, List.getElem?_cons_zero, el, Option.map_some, addD_int, c1, c2, Bool.and_self, if_true, q5]
  · have := q1 (l.length : Int) (by omega) (by omega)
    rw [Int.toNat_natCast, okK_full h] at this
    cases this
theorem is_in_run (p : Pat) (ok : p.Ok) (y : Int) (T : Fx.Tm) : h_is_in [eP p, .int y] T = some (.bl (p.mem y), T) := by
  unfold h_is_in g_is_in eP eB Pat.mem
  have c1 := cMod_nat (y := y) (pos_len ok.l)
  have c2 := cMod_nat (y := y) (pos_len ok.r)
  have a1 := atI_at ok.l y
  have a2 := atI_at ok.r y
  by_cases h1 : y < p.s
  · walk_at "fx"
  · by_cases h2 : y < p.s + p.m.length
    · have a3 := atI_bl (l := p.m) (i := y - p.s) (by omega) (by omega)
      walk_at "fx"
    · walk_at "fx"
end LC
namespace LC
open Fx PM
/-! ### the law's own way to write a pattern -/
def pD (f : Int → Bool) (l : List Bool) : D → Bool
  | .int y => dL f l y
  | _ => false
theorem filter_rngL (f : Int → Bool) (l : List Bool) (i j : Int) : (rngL i j).filter (pD f l) = ((rngZ i j).filter (dL f l)).map D.int := by
  rw [rngL_map, List.filter_map]
  rfl
theorem atI_head {α : Type} (a : α) (xs : List α) : L2.atI (a :: xs) 0 = some a := by rw [atI_nn (by decide) (by simp only [List.length_cons]; omega)]; rfl
theorem atI_last {α : Type} (xs : List α) (b : α) : L2.atI (xs ++ [b]) (-1) = some b := by
  unfold L2.atI L2.ixN
  have hl : (xs ++ [b]).length = xs.length + 1 := by rw [List.length_append]; rfl
  rw [hl, if_neg (by omega), if_pos (by omega)]
  show (xs ++ [b])[(-1 + ((xs.length + 1 : Nat) : Int)).toNat]? = _
  rw [show (-1 + ((xs.length + 1 : Nat) : Int)).toNat = xs.length by omega, List.getElem?_append_right (Nat.le_refl _), Nat.sub_self]
  rfl
theorem ixD_eB (T : Fx.Tm) {l : List Bool} (h : l ≠ []) (y : Int) : ixD T (.val (eB l)) (.int (y.fmod (l.length : Int))) = some (.bl (at_ l y)) := by
  unfold ixD eB seqD
  exact atI_at h y
theorem ixD_lst (T : Fx.Tm) (ds : List D) (i : Int) : ixD T (.val (.lst ds)) (.int i) = L2.atI ds i := rfl
theorem ixD_tup (T : Fx.Tm) (ds : List D) (i : Int) : ixD T (.val (.tup ds)) (.int i) = L2.atI ds i := rfl
theorem lenD_lst (T : Fx.Tm) (ds : List D) : lenD T (.val (.lst ds)) = some (.int (ds.length : Int)) := rfl
theorem lenD_tup (T : Fx.Tm) (ds : List D) : lenD T (.val (.tup ds)) = some (.int (ds.length : Int)) := rfl
theorem seqD_lst (T : Fx.Tm) (ds : List D) : seqD T (.val (.lst ds)) = some (false, ds) := rfl
theorem seqD_tup (T : Fx.Tm) (ds : List D) : seqD T (.val (.tup ds)) = some (true, ds) := rfl
theorem intD_int (i : Int) : Fx.intD [.int i] = some (.int i) := rfl
theorem mulD_int (i j : Int) : mulD (.int i) (.int j) = if cMul i j then some (.int (i * j)) else none := rfl
structure PSz (p : Pat) (n : Int) : Prop where
  l : p.l.length ≤ 1000
  r : p.r.length ≤ 1000
  m : p.m.length ≤ 1000000
  s : -n ≤ p.s
  s' : p.s ≤ n
theorem rngL_ne {i j : Int} : (rngL i j).length = (j - i).toNat := rngL_len i j
local macro_rules | `(tactic| walk_at "fx") => `(tactic| simp only [runB, seqS, nilS, asgF, retF, ifS, testF, binF, varF, varO, constF, ofF, ixF, lenF, bindF_some, blF, consF, nilF, intD_int, iiF_int, ctt_eq, addD_int, mulD_int, callF, tofF, frzF, tupF, negF, andT, rng2, lrgF, compF, seqD_lst, seqD_tup, ixD_lst, ixD_tup, lenD_lst, lenD_tup, eqD_int, itU,
  List.map_cons, List.map_nil, List.cons_append, List.nil_append, List.length_cons, List.length_nil, List.replicate_succ, List.replicate_zero, List.getElem?_cons_zero, List.getElem?_cons_succ, List.set_cons_zero, List.set_cons_succ, Option.map_some, if_true, Nat.reduceAdd, Nat.reduceSub,
  Bool.false_eq_true, if_false, Bool.and_self, wipeR, *])
section
variable (p : Pat) (ok : p.Ok) (T : Fx.Tm)
include ok
theorem comp_dif {k : Nat} (l : List Bool) (h : l ≠ []) (x0 x1 x2 x3 x4 x5 x6 x7 x8 : Sl) (hx0 : x0 = .dat (eP p)) (hk : [x0, x1, x2, x3, x4, x5, x6, x7, x8][k]? = some (.dat (eB l))) (i j : Int) (hs : (j - i).toNat ≤ 16777216) :
    compL (.nm 9) (testF (binF neD (callF h__law_in (consF (varF 0) (consF (varF 9) (nilF)))) (ixF (varO k) (binF modD (blF Fx.intD (consF (varF 9) (nilF))) (lenF (varO k)))))) (varF 9) [x0, x1, x2, x3, x4, x5, x6, x7, x8, .un] (rngL i j) [] T
      = some (((rngZ i j).filter (dL p.mem l)).map D.int, T) := by
  have hk9 : k < 9 := (List.getElem?_eq_some_iff.mp hk).1
  rw [compL_pure (p := pD p.mem l) (g := id) (rngL i j) (fun d hd => ?_) [] (by rw [rngL_len, line_eq]; simpa using hs), filter_rngL, List.map_id]
  · rfl
  · obtain ⟨y, rfl, _, _⟩ := rngL_mem hd
    subst hx0
    refine ⟨[.dat (eP p), x1, x2, x3, x4, x5, x6, x7, x8, .dat (.int y)], rfl, ?_, fun _ => rfl⟩
    have e0 : [Sl.dat (eP p), x1, x2, x3, x4, x5, x6, x7, x8, .dat (.int y)][k]? = some (.dat (eB l)) := by
      rw [← hk]
      exact List.getElem?_append_left (l₁ := [Sl.dat (eP p), x1, x2, x3, x4, x5, x6, x7, x8]) (by simpa using hk9)
    have e1 := in_run p ok.l ok.r y T
    have e2 := lenD_eB T l
    have e3 := ixD_eB T h y
    have e4 := cMod_nat (y := y) (pos_len h)
    have e5 := neD_bl (p.mem y) (at_ l y)
    walk_at "fx"
    rfl
end
theorem eP_0 (T : Fx.Tm) (p : Pat) : ixD T (.val (eP p)) (.int 0) = some (eB p.l) := atI_head _ _
theorem eP_1 (T : Fx.Tm) (p : Pat) : ixD T (.val (eP p)) (.int 1) = some (.int p.s) := ix1 _ _ _
theorem eP_2 (T : Fx.Tm) (p : Pat) : ixD T (.val (eP p)) (.int 2) = some (eB p.m) := ix2 _ _ _ _
theorem eP_3 (T : Fx.Tm) (p : Pat) : ixD T (.val (eP p)) (.int 3) = some (eB p.r) := ix3 _ _ _ _ _
theorem eP_mk (l : List Bool) (s : Int) (m : List Bool) (r : List Bool) : D.tup [eB l, .int s, eB m, eB r] = eP ⟨l, s, m, r⟩ := rfl
theorem eB_nil : D.tup [] = eB [] := rfl
theorem len4 : ((0 + 1 + 1 + 1 + 1 : Nat) ≤ PySem.sizeLine) := by rw [line_eq]; omega
theorem len0 : ((0 : Nat) ≤ PySem.sizeLine) := Nat.zero_le _
theorem cm_l {i j : Int} (h : -18446744073709551616 < i ∧ i < 18446744073709551616) : cMul i j = true := dc_of (.inl h)
theorem atI_last' {ds : List D} {xs : List D} {b : D} (h : ds = xs ++ [b]) : L2.atI ds (-1) = some b := by rw [h]; exact atI_last xs b
local macro_rules | `(tactic| walk_at "fy") => `(tactic| simp only [runB, seqS, nilS, asgF, retF, ifS, testF, binF, varF, varO, constF, ofF, ixF, lenF, bindF_some, blF, consF, nilF, intD_int, iiF_int, ctt_eq, addD_int, mulD_int, callF, tofF, frzF, tupF, negF, andT, rng2, lrgF, compF, seqD_lst, seqD_tup, ixD_lst, ixD_tup, lenD_lst, lenD_tup, lenD_eB, eqD_int, itU, eP_0, eP_1, eP_2, eP_3, eqD_eB,
  List.map_cons, List.map_nil, List.cons_append, List.nil_append, List.length_cons, List.length_nil, List.replicate_succ, List.replicate_zero, List.getElem?_cons_zero, List.getElem?_cons_succ, List.set_cons_zero, List.set_cons_succ, Option.map_some, if_true, Nat.reduceAdd, Nat.reduceSub,
  Bool.false_eq_true, if_false, Bool.and_self, wipeR, *])
set_option maxHeartbeats 2000000 in
theorem written_run (p : Pat) (ok : p.Ok) {n : Int} (sz : PSz p n) (hn : n ≤ 1000000000) (T : Fx.Tm) : ∃ p' : Pat, Canon p' ∧ p'.mem = p.mem ∧ PSz p' (n + 3000002) ∧ h__law_written [eP p] T = some (eP p', T) := by
  have kl := short_spec ok.l
  have kr := short_spec ok.r
  have s1 := sz.s
  have s2 := sz.s'
  have s3 := sz.m
  have hP : (short p.l).length * (short p.r).length ≤ 1000 * 1000 := Nat.mul_le_mul (Nat.le_trans kl.2.2 sz.l) (Nat.le_trans kr.2.2 sz.r)
  have sl : (short p.l).length ≤ 1000 := Nat.le_trans kl.2.2 sz.l
  have sr : (short p.r).length ≤ 1000 := Nat.le_trans kr.2.2 sz.r
  have a1 := short_run p.l ok.l sz.l T
  have a2 := short_run p.r ok.r sz.r T
  have a3 : cMul ((short p.l).length : Int) ((short p.r).length : Int) = true := cm (by omega)
  have a4 : ((short p.l).length : Int) * ((short p.r).length : Int) = (((short p.l).length * (short p.r).length : Nat) : Int) := (Int.natCast_mul _ _).symm
  have a5 : cMul 2 (((short p.l).length * (short p.r).length : Nat) : Int) = true := cm_l (by omega)
  have e1 : p.s - 2 * (((short p.l).length * (short p.r).length : Nat) : Int) - 2 = lo_ p := rfl
  have e2 : p.s + (p.m.length : Int) + 2 * (((short p.l).length * (short p.r).length : Nat) : Int) + 2 = hi_ p := rfl
  have b1 : rgOkB (lo_ p) (hi_ p) = true := by
    unfold rgOkB
    rw [in62_of (by unfold lo_; omega) (by unfold lo_; omega), in62_of (by unfold hi_; omega) (by unfold hi_; omega), in24_of (by unfold lo_ hi_; omega)]
    rfl
  have hs : (hi_ p - lo_ p).toNat ≤ 16777216 := by unfold lo_ hi_; omega
  have c1 := comp_dif p ok T (k := 1) (short p.l) kl.1.1 (.dat (eP p)) (.dat (eB (short p.l))) (.dat (eB (short p.r))) (.dat (.int (((short p.l).length * (short p.r).length : Nat) : Int))) (.dat (.lst (rngL (lo_ p) (hi_ p)))) .un .un .un .un rfl rfl _ _ hs
  have c2 := comp_dif p ok T (k := 2) (short p.r) kr.1.1 (.dat (eP p)) (.dat (eB (short p.l))) (.dat (eB (short p.r))) (.dat (.int (((short p.l).length * (short p.r).length : Nat) : Int))) (.dat (.lst (rngL (lo_ p) (hi_ p)))) (.dat (.lst ((odd_ p).map D.int))) .un .un .un rfl rfl _ _ hs
  rw [show List.filter (dL p.mem (short p.l)) (rngZ (lo_ p) (hi_ p)) = odd_ p from rfl] at c1
  rw [show List.filter (dL p.mem (short p.r)) (rngZ (lo_ p) (hi_ p)) = late_ p from rfl] at c2
  have in9 : tgIn (.nm 9) [9] = true := by decide
  have l4 := len4
  have l0 := len0
  unfold h__law_written g__law_written
  by_cases h : short p.l = short p.r ∧ odd_ p = []
  · refine ⟨wr0 p, wr0_canon ok h.1, wr0_mem ok h.1 h.2, ⟨sl, sr, by show (0 : Nat) ≤ _; omega, by show _ ≤ (0 : Int); omega, by show (0 : Int) ≤ _; omega⟩, ?_⟩
    have h1 : decide (short p.l = short p.r) = true := decide_eq_true h.1
    have h2 : decide ((((odd_ p).map D.int).length : Int) = 0) = true := by rw [h.2]; rfl
    clear h kl kr sz ok
    walk_at "fy"
    rfl
  · obtain ⟨n1, n2⟩ := odd_ne ok h
    obtain ⟨a, xs, ho⟩ := List.exists_cons_of_ne_nil n1
    have hla := (List.dropLast_concat_getLast n2).symm
    generalize (late_ p).dropLast = ys at hla
    generalize (late_ p).getLast n2 = b at hla
    obtain ⟨ia, hsa⟩ := odd_isA ok ho
    obtain ⟨ib, hsb⟩ := late_isB ok hla
    have rb := rngZ_mem.mp (filter_last (rngZ_lt _ _) hla).1
    have ra := rngZ_mem.mp (filter_head (rngZ_lt _ _) ho).1
    unfold lo_ hi_ at ra rb
    have o1 : L2.atI ((odd_ p).map D.int) 0 = some (.int a) := by rw [ho]; exact atI_head _ _
    have o2 : L2.atI ((late_ p).map D.int) (-1) = some (.int b) := by rw [hla, List.map_append]; exact atI_last _ _
    have tst : (if decide (short p.l = short p.r) = true then some (decide ((((odd_ p).map D.int).length : Int) = 0), T) else some (false, T)) = some (false, T) := by
      by_cases h1 : short p.l = short p.r
      · rw [if_pos (decide_eq_true h1), show decide ((((odd_ p).map D.int).length : Int) = 0) = false from by rw [ho]; exact decide_eq_false (by rw [List.length_map, List.length_cons]; omega)]
      · rw [if_neg (by rw [decide_eq_false h1]; decide)]
    by_cases hc : b + 1 ≤ a
    · refine ⟨wr1 p (b + 1), wr1_canon ok ia ib hc, wr1_mem ok ia ib hc, ⟨sl, sr, by show (0 : Nat) ≤ _; omega, by show _ ≤ b + 1; omega, by show b + 1 ≤ _; omega⟩, ?_⟩
      have h3 : decide (b + 1 ≤ a) = true := decide_eq_true hc
      clear hc h ho hla kl kr sz ia ib
      walk_at "fy"
      rfl
    · have hlen : ((rngZ a (b + 1)).map p.mem).length = (b + 1 - a).toNat := by rw [List.length_map, rngZ_len]
      refine ⟨wr2 p a (b + 1), wr2_canon ok ia ib (by omega), wr2_mem ok ia ib (by omega), ⟨sl, sr, by show ((rngZ a (b + 1)).map p.mem).length ≤ _; rw [hlen]; omega, by show _ ≤ a; omega, by show a ≤ _; omega⟩, ?_⟩
      have h3 : decide (b + 1 ≤ a) = false := decide_eq_false hc
      have i1 : in62 a = true := in62_of (by omega) (by omega)
      have i2 : in62 (b + 1) = true := in62_of (by omega) (by omega)
      have k9 : compL (.nm 9) yesT (callF h__law_in (consF (varF 0) (consF (varF 9) (nilF)))) [.dat (eP p), .dat (eB (short p.l)), .dat (eB (short p.r)), .dat (.int (((short p.l).length * (short p.r).length : Nat) : Int)), .dat (.lst (rngL (lo_ p) (hi_ p))), .dat (.lst ((odd_ p).map D.int)), .dat (.lst ((late_ p).map D.int)), .dat (.int a), .dat (.int (b + 1)), .un] (rngL a (b + 1)) [] T = some ((rngL a (b + 1)).map fun d => match d with | .int y => .bl (p.mem y) | _ => .non, T) := by
        rw [compL_pure (p := fun _ => true) (g := fun d => match d with | .int y => .bl (p.mem y) | _ => .non) (rngL a (b + 1)) (fun d hd => ?_) [] (by rw [rngL_len, line_eq, List.length_nil]; omega), List.filter_eq_self.mpr fun _ _ => rfl]
        · rfl
        · obtain ⟨y, rfl, _, _⟩ := rngL_mem hd
          refine ⟨_, rfl, rfl, fun _ => ?_⟩
          have e1 := in_run p ok.l ok.r y T
          clear hc h ho hla kl kr sz ia ib tst
          walk_at "fy"
      clear hc h ho hla kl kr sz ia ib
      walk_at "fy"
      rw [rngL_map, List.map_map]
      show some (D.tup [eB _, .int a, .tup _, eB _], T) = _
      unfold wr2 eP
      congr 6
      unfold eB
      rw [List.map_map]
      rfl
end LC
namespace LC
open Fx PM
local macro_rules | `(tactic| walk_at "fy") => `(tactic| simp only [runB, seqS, nilS, asgF, retF, ifS, testF, binF, varF, varO, constF, ofF, ixF, lenF, bindF_some, blF, consF, nilF, intD_int, iiF_int, ctt_eq, addD_int, mulD_int, callF, tofF, frzF, tupF, negF, andT, rng2, lrgF, compF, seqD_lst, seqD_tup, ixD_lst, ixD_tup, lenD_lst, lenD_tup, lenD_eB, eqD_int, itU, eP_0, eP_1, eP_2, eP_3, eqD_eB,
  List.map_cons, List.map_nil, List.cons_append, List.nil_append, List.length_cons, List.length_nil, List.replicate_succ, List.replicate_zero, List.getElem?_cons_zero, List.getElem?_cons_succ, List.set_cons_zero, List.set_cons_succ, Option.map_some, if_true, Nat.reduceAdd, Nat.reduceSub,
  Bool.false_eq_true, if_false, Bool.and_self, wipeR, *])
/-- the law's state over a script -/
def St (ns : List Int) (T : Fx.Tm) : Prop := ∃ a b c, 0 ≤ b ∧ T = eS ns a b c
theorem draw_st {ns : List Int} {T : Fx.Tm} (h : St ns T) {n : Int} (h0 : 0 < n) (h1 : n < 1073741824) : ∃ d T', 0 ≤ d ∧ d < n ∧ St ns T' ∧ h__law_draw [.ob 0, .int n] T = some (.int d, T') := by
  obtain ⟨a, b, c, hb, rfl⟩ := h
  obtain ⟨d, a', b', c', h2, h3, h4, h5⟩ := draw_run ns a b c n hb h0 h1
  exact ⟨d, _, h2, h3, ⟨a', b', c', h4, rfl⟩, h5⟩
theorem row_st {ns : List Int} {T : Fx.Tm} (h : St ns T) {lo hi : Int} (h0 : 0 ≤ lo) (h1 : lo ≤ hi) (h2 : hi ≤ 1000) : ∃ bs T', lo ≤ bs.length ∧ (bs.length : Int) ≤ hi ∧ St ns T' ∧ h__law_row [.ob 0, .int lo, .int hi] T = some (eB bs, T') := by
  obtain ⟨a, b, c, hb, rfl⟩ := h
  obtain ⟨bs, a', b', c', h3, h4, h5, h6⟩ := row_run ns a b c lo hi hb h0 h1 h2
  exact ⟨bs, _, h3, h4, ⟨a', b', c', h5, rfl⟩, h6⟩
/-- a pattern as it is drawn -/
structure Raw (p : Pat) : Prop where
  ok : p.Ok
  l : p.l.length ≤ 6
  r : p.r.length ≤ 6
  m : p.m.length ≤ 6
  s : -10 ≤ p.s
  s' : p.s ≤ 10
theorem Raw.bd {p : Pat} (h : Raw p) : Bd p.mem := by
  have := h.s
  have := h.s'
  have := h.m
  exact Bd.of h.ok h.l h.r (by omega) (by omega)
theorem Raw.sz {p : Pat} (h : Raw p) : PSz p 10 := by
  have := h.s
  have := h.s'
  have := h.m
  have := h.l
  have := h.r
  exact ⟨by omega, by omega, by omega, by omega, by omega⟩
noncomputable def rawF (i : Nat) : FE := tupF (consF (callF h__law_row (consF (varF i) (consF (constF (.int 1)) (consF (constF (.int 6)) (nilF))))) (consF (binF subD (callF h__law_draw (consF (varF i) (consF (constF (.int 21)) (nilF)))) (constF (.int 10))) (consF (callF h__law_row (consF (varF i) (consF (constF (.int 0)) (consF (constF (.int 6)) (nilF))))) (consF (callF h__law_row (consF (varF i) (consF (constF (.int 1)) (consF (constF (.int 6)) (nilF))))) (nilF)))))
theorem raw_run {ns : List Int} {T : Fx.Tm} (h : St ns T) {i : Nat} {ρ : Rho} (hi : ρ[i]? = some (.dat (.ob 0))) : ∃ p T', Raw p ∧ St ns T' ∧ rawF i ρ T = some (eP p, T') := by
  obtain ⟨b1, T1, x1, y1, s1, e1⟩ := row_st h (lo := 1) (hi := 6) (by omega) (by omega) (by omega)
  obtain ⟨d, T2, x2, y2, s2, e2⟩ := draw_st s1 (n := 21) (by omega) (by omega)
  obtain ⟨b3, T3, x3, y3, s3, e3⟩ := row_st s2 (lo := 0) (hi := 6) (by omega) (by omega) (by omega)
  obtain ⟨b4, T4, x4, y4, s4, e4⟩ := row_st s3 (lo := 1) (hi := 6) (by omega) (by omega) (by omega)
  refine ⟨⟨b1, d - 10, b3, b4⟩, T4, ⟨⟨List.ne_nil_of_length_pos (by show 0 < b1.length; omega), List.ne_nil_of_length_pos (by show 0 < b4.length; omega)⟩, by show b1.length ≤ 6; omega, by show b4.length ≤ 6; omega, by show b3.length ≤ 6; omega, by show _ ≤ d - 10; omega, by show d - 10 ≤ _; omega⟩, s4, ?_⟩
  unfold rawF
  have l4 := len4
  clear x1 y1 x2 y2 x3 y3 x4 y4 s1 s2 s3 s4 h
  walk_at "fy"
  rfl
theorem pattern_run {ns : List Int} {T : Fx.Tm} (h : St ns T) : ∃ q p T', Raw q ∧ Canon p ∧ p.mem = q.mem ∧ PSz p 4000000 ∧ St ns T' ∧ h__law_pattern [.ob 0] T = some (eP p, T') := by
  obtain ⟨q, T1, hq, s1, e1⟩ := raw_run h (i := 0) (ρ := [.dat (.ob 0)]) rfl
  obtain ⟨p, c, m, sz, e2⟩ := written_run q hq.ok hq.sz (by omega) T1
  refine ⟨q, p, T1, hq, c, m, ⟨sz.l, sz.r, sz.m, by have := sz.s; omega, by have := sz.s'; omega⟩, s1, ?_⟩
  unfold h__law_pattern
  show runB (retF (ofF (callF h__law_written (consF (rawF 0) (nilF))))) 1 _ _ = _
  simp only [runB, List.map_cons, List.map_nil, List.cons_append, List.nil_append, List.length_cons, List.length_nil, List.replicate_succ, List.replicate_zero, Nat.reduceAdd, Nat.reduceSub, retF, ofF, callF, consF, nilF, bindF_some, e1, e2]
/-- the state at the law's start -/
theorem st_start (ns : List Int) : St ns [.lst [.int 0, .int 0, .lst (ns.map D.int), .int 1]] := ⟨0, 0, 1, by omega, rfl⟩
/-- an option as data -/
def eO : Option Int → D
  | none => .non
  | some z => .int z
theorem shp (x : PySem.PyData) (h : x = .none ∨ (∃ i, x = .int i) ∨ (∃ b, x = .bool b)) : PySem.SeqAt.shaped x = true := by
  rcases h with rfl | ⟨i, rfl⟩ | ⟨b, rfl⟩ <;> simp [PySem.SeqAt.shaped, PySem.PyData.canLay0, PySem.PyData.depth]
def pO : Option Int → PySem.PyData
  | none => .none
  | some z => .int z
theorem toPy_eO (o : Option Int) : toPy (eO o) = some (pO o) := by cases o <;> simp [eO, pO, toPy]
theorem shp_pO (o : Option Int) : PySem.SeqAt.shaped (pO o) = true := shp _ (by cases o <;> simp [pO])
theorem eqB_eO (a b : Option Int) : eqB (eO a) (eO b) = some (decide (a = b)) := by
  unfold eqB
  rw [toPy_eO, toPy_eO]
  simp only [shp_pO, Bool.and_self, if_true]
  congr 1
  cases a with
  | none => cases b <;> simp [pO, PySem.PyData.eqv]
  | some a =>
    cases b with
    | none => simp [pO, PySem.PyData.eqv]
    | some b => by_cases h : a = b <;> simp [pO, PySem.PyData.eqv, h]
theorem neD_eO (a b : Option Int) : neD (eO a) (eO b) = some (.bl (!decide (a = b))) := by
  unfold neD
  rw [eqB_eO]
  rfl
theorem eqD_eO (a b : Option Int) : eqD (eO a) (eO b) = some (.bl (decide (a = b))) := by
  unfold eqD
  rw [eqB_eO]
  rfl
theorem seqS_nx {a b : FS} {ρ ρ' : Rho} {T T' : Fx.Tm} (h : a ρ T = some (.nx ρ', T')) : seqS a b ρ T = b ρ' T' := by unfold seqS; rw [h]
theorem seqS_rt {a b : FS} {ρ : Rho} {d : D} {T T' : Fx.Tm} (h : a ρ T = some (.rt d, T')) : seqS a b ρ T = some (.rt d, T') := by unfold seqS; rw [h]
theorem seq3 {a b c : FS} {ρ ρ' : Rho} {T T' : Fx.Tm} (h : seqS a b ρ T = some (.nx ρ', T')) : seqS a (seqS b c) ρ T = c ρ' T' := by
  unfold seqS at h ⊢
  cases e : a ρ T with
  | none => rw [e] at h; cases h
  | some q =>
    obtain ⟨r, T1⟩ := q
    rw [e] at h
    cases r with
    | nx ρ1 => simp only at h ⊢; rw [h]
    | rt d => cases h
    | bk d => cases h
    | ct d => cases h
/-- a loop over a range that goes on, with its number -/
theorem forL_rngI {t : Tgt} {body : FS} {inv : Int → Rho → Fx.Tm → Prop} {j : Int} : ∀ (n : Nat) (i : Int), (j - i).toNat = n →
    (∀ k ρ T, i ≤ k → k < j → inv k ρ T → ∃ ρ1 ρ2 T2, tgD t (.int k) ρ = some ρ1 ∧ body ρ1 T = some (.nx ρ2, T2) ∧ inv (k + 1) ρ2 T2) → ∀ ρ T, inv i ρ T →
    ∃ ρ' T', inv (if i ≤ j then j else i) ρ' T' ∧ forL t body (rngL i j) ρ T = some (.nx ρ', T')
  | 0, i, hn, step, ρ, T, h => by
    rw [rngL_nil (by omega)]
    refine ⟨ρ, T, ?_, rfl⟩
    by_cases c : i ≤ j
    · rw [if_pos c, show j = i by omega]
      exact h
    · rw [if_neg c]
      exact h
  | n + 1, i, hn, step, ρ, T, h => by
    rw [rngL_cons (by omega)]
    obtain ⟨ρ1, ρ2, T2, h1, h2, h3⟩ := step i ρ T (by omega) (by omega) h
    obtain ⟨ρ', T', h4, h5⟩ := forL_rngI n (i + 1) (by omega) (fun k ρ T a b => step k ρ T (by omega) b) ρ2 T2 h3
    refine ⟨ρ', T', ?_, ?_⟩
    · rw [if_pos (by omega)] at h4 ⊢
      exact h4
    · unfold forL
      simp only [h1, h2]
      exact h5
end LC
namespace K1
open PySem PySem.Spec PyProof.Rows L2 Fx LC PM
noncomputable def g__law_factors : FS := seqS (asgF 3 (frzF (compF (.nm 4) (rng1 (consF (varF 1) (nilF))) (yesT) (binF subD (callF h__law_draw (consF (varF 0) (consF (binF addD (binF mulD (constF (.int 2)) (varF 2)) (constF (.int 1))) (nilF)))) (varF 2)) [4])))
      (retF (ofF (tofF (varO 3))))
@[irreducible] noncomputable def h__law_factors : HF := runB g__law_factors 5
noncomputable def g__law_atom : FS := seqS (asgF 3 (callF h__law_factors (consF (varF 0) (consF (varF 1) (consF (varF 2) (nilF))))))
      (seqS (ifS (testF (binF eqD (callF h__law_draw (consF (varF 0) (consF (constF (.int 3)) (nilF)))) (constF (.int 1)))) (seqS (asgF 4 (binF addD (constF (.int 1)) (callF h__law_draw (consF (varF 0) (consF (constF (.int 4)) (nilF))))))
      (retF (ofF (tupF (consF (constF (.str (Str.ofString "rest"))) (consF (varF 3) (consF (varF 4) (consF (callF h__law_draw (consF (varF 0) (consF (varF 4) (nilF)))) (nilF))))))))) (nilS))
      (retF (ofF (tupF (consF (constF (.str (Str.ofString "below"))) (consF (varF 3) (consF (binF subD (callF h__law_draw (consF (varF 0) (consF (constF (.int 21)) (nilF)))) (constF (.int 10))) (nilF))))))))
@[irreducible] noncomputable def h__law_atom : HF := runB g__law_atom 5
noncomputable def g__law_plain : FS := seqS (ownF 4 (lstF (consF (callF h__law_atom (consF (varF 0) (consF (varF 1) (consF (varF 3) (nilF))))) (nilF))))
      (seqS (forS (.nm 5) (rng1 (consF (callF h__law_draw (consF (varF 0) (consF (varF 2) (nilF)))) (nilF))) (seqS (asgF 6 (binF subD (lenF (varO 4)) (constF (.int 1))))
      (seqS (asgF 7 (callF h__law_draw (consF (varF 0) (consF (constF (.int 4)) (nilF)))))
      (seqS (appF 4 (callF h__law_atom (consF (varF 0) (consF (varF 1) (consF (varF 3) (nilF))))))
      (seqS (asgF 8 (binF subD (lenF (varO 4)) (constF (.int 1))))
      (seqS (ifS (testF (binF eqD (varF 7) (constF (.int 0)))) (seqS (appF 4 (tupF (consF (constF (.str (Str.ofString "not"))) (consF (varF 8) (nilF)))))
      (asgF 8 (binF subD (lenF (varO 4)) (constF (.int 1))))) (nilS))
      (seqS (ifS (testF (binF eqD (varF 7) (constF (.int 1)))) (seqS (appF 4 (tupF (consF (constF (.str (Str.ofString "not"))) (consF (varF 6) (nilF)))))
      (asgF 6 (binF subD (lenF (varO 4)) (constF (.int 1))))) (nilS))
      (seqS (appF 4 (tupF (consF (constF (.str (Str.ofString "both"))) (consF (varF 6) (consF (varF 8) (nilF))))))
      (ifS (andT (testF (binF gtD (varF 7) (constF (.int 1)))) (testF (binF eqD (callF h__law_draw (consF (varF 0) (consF (constF (.int 2)) (nilF)))) (constF (.int 1))))) (appF 4 (tupF (consF (constF (.str (Str.ofString "not"))) (consF (binF subD (lenF (varO 4)) (constF (.int 1))) (nilF))))) (nilS))))))))))
      (retF (ofF (tofF (varO 4)))))
@[irreducible] noncomputable def h__law_plain : HF := runB g__law_plain 9
noncomputable def g_are_factors : FS := retF (ofF (andV (binF leD (lenF (varO 0)) (constF (.int 6))) (allF (ofF (frzF (compF (.nm 1) (itU (varF 0)) (yesT) (binF leD (blF absD (consF (varF 1) (nilF))) (constF (.int 9))) [1]))))))
@[irreducible] noncomputable def h_are_factors : HF := runB g_are_factors 2
noncomputable def g_is_line : FS := seqS (ifS (andT (testF (binF eqD (lenF (varO 0)) (constF (.int 2)))) (testF (binF inD (ixF (varO 0) (constF (.int 0))) (tupF (consF (constF (.str (Str.ofString "not"))) (consF (constF (.str (Str.ofString "there"))) (nilF))))))) (retF (ofF (chF leD ltD (constF (.int 0)) (ixF (varO 0) (constF (.int 1))) (varF 1)))) (nilS))
      (seqS (ifS (andT (testF (binF eqD (lenF (varO 0)) (constF (.int 3)))) (testF (binF eqD (ixF (varO 0) (constF (.int 0))) (constF (.str (Str.ofString "both")))))) (retF (ofF (andV (chF leD ltD (constF (.int 0)) (ixF (varO 0) (constF (.int 1))) (varF 1)) (chF leD ltD (constF (.int 0)) (ixF (varO 0) (constF (.int 2))) (varF 1))))) (nilS))
      (seqS (ifS (andT (testF (binF eqD (lenF (varO 0)) (constF (.int 3)))) (testF (binF eqD (ixF (varO 0) (constF (.int 0))) (constF (.str (Str.ofString "below")))))) (retF (ofF (andV (callF h_are_factors (consF (ixF (varO 0) (constF (.int 1))) (nilF))) (binF leD (blF absD (consF (ixF (varO 0) (constF (.int 2))) (nilF))) (constF (.int 99)))))) (nilS))
      (seqS (ifS (andT (testF (binF eqD (lenF (varO 0)) (constF (.int 4)))) (testF (binF eqD (ixF (varO 0) (constF (.int 0))) (constF (.str (Str.ofString "rest")))))) (retF (ofF (andV (callF h_are_factors (consF (ixF (varO 0) (constF (.int 1))) (nilF))) (andV (chF leD leD (constF (.int 1)) (ixF (varO 0) (constF (.int 2))) (constF (.int 12))) (chF leD ltD (constF (.int 0)) (ixF (varO 0) (constF (.int 3))) (ixF (varO 0) (constF (.int 2)))))))) (nilS))
      (retF (ofF (constF (.bl false)))))))
@[irreducible] noncomputable def h_is_line : HF := runB g_is_line 2
noncomputable def g_is_saying : FS := seqS (ifS (notT (testF (chF leD leD (constF (.int 1)) (lenF (varO 0)) (constF (.int 40))))) (retF (ofF (constF (.bl false)))) (nilS))
      (retF (ofF (allF (ofF (frzF (compF (.tp [1, 2]) (itE (varF 0)) (yesT) (callF h_is_line (consF (varF 2) (consF (varF 1) (nilF)))) [1, 2]))))))
@[irreducible] noncomputable def h_is_saying : HF := runB g_is_saying 3
noncomputable def g_is_plain : FS := retF (ofF (allF (ofF (frzF (compF (.nm 1) (itU (varF 0)) (yesT) (binF neD (ixF (varO 1) (constF (.int 0))) (constF (.str (Str.ofString "there")))) [1])))))
@[irreducible] noncomputable def h_is_plain : HF := runB g_is_plain 2
noncomputable def g_law : FS := seqS (objF 1 (lstF (consF (constF (.int 0)) (consF (constF (.int 0)) (consF (frzF (lofF (varO 0))) (consF (constF (.int 1)) (nilF)))))))
      (seqS (asgF 2 (callF h__law_plain (consF (varF 1) (consF (constF (.int 3)) (consF (constF (.int 4)) (consF (constF (.int 3)) (nilF)))))))
      (seqS (asgF 3 (lenF (varO 2)))
      (seqS (asgF 4 (binF addD (varF 2) (tupF (consF (tupF (consF (constF (.str (Str.ofString "there"))) (consF (binF subD (varF 3) (constF (.int 1))) (nilF)))) (nilF)))))
      (seqS (ifS (orT (testF (binF isntF (callF h_is_saying (consF (varF 2) (nilF))) (constF (.bl true)))) (testF (binF isntF (callF h_is_saying (consF (varF 4) (nilF))) (constF (.bl true))))) (retF (ofF (constF (.bl false)))) (nilS))
      (seqS (asgF 5 (binF addD (varF 4) (binF mulD (tupF (consF (tupF (consF (constF (.str (Str.ofString "not"))) (consF (constF (.int 0)) (nilF)))) (nilF))) (binF addD (constF (.int 1)) (callF h__law_draw (consF (varF 1) (consF (constF (.int 5)) (nilF))))))))
      (seqS (ifS (orT (testF (binF isntF (callF h_is_plain (consF (varF 2) (nilF))) (constF (.bl true)))) (orT (testF (binF isntF (callF h_is_plain (consF (varF 4) (nilF))) (constF (.bl false)))) (testF (binF isntF (callF h_is_plain (consF (varF 5) (nilF))) (constF (.bl false)))))) (retF (ofF (constF (.bl false)))) (nilS))
      (seqS (asgF 6 (varF 2))
      (seqS (forS (.nm 7) (rng1 (consF (binF addD (constF (.int 2)) (callF h__law_draw (consF (varF 1) (consF (constF (.int 8)) (nilF))))) (nilF))) (asgF 6 (binF addD (varF 6) (tupF (consF (tupF (consF (constF (.str (Str.ofString "there"))) (consF (callF h__law_draw (consF (varF 1) (consF (lenF (varO 6)) (nilF)))) (nilF)))) (nilF))))))
      (seqS (ifS (orT (testF (binF isntF (callF h_is_saying (consF (varF 6) (nilF))) (constF (.bl true)))) (testF (binF isntF (callF h_is_saying (consF (varF 5) (nilF))) (constF (.bl true))))) (retF (ofF (constF (.bl false)))) (nilS))
      (seqS (asgF 8 (binF addD (constF (.int 1)) (callF h__law_draw (consF (varF 1) (consF (constF (.int 50)) (nilF))))))
      (seqS (asgF 9 (frzF (lstF (consF (tupF (nilF)) (consF (tupF (consF (constF (.str (Str.ofString "under"))) (consF (constF (.int 0)) (consF (constF (.int 0)) (nilF))))) (consF (tupF (consF (constF (.str (Str.ofString "under"))) (nilF))) (consF (tupF (consF (constF (.str (Str.ofString "not"))) (consF (binF subD (constF (.int 0)) (constF (.int 1))) (nilF)))) (consF (tupF (consF (constF (.str (Str.ofString "there"))) (consF (binF subD (constF (.int 0)) (varF 8)) (nilF)))) (consF (tupF (consF (constF (.str (Str.ofString "both"))) (consF (binF subD (constF (.int 0)) (varF 8)) (consF (constF (.int 0)) (nilF))))) (consF (tupF (consF (constF (.str (Str.ofString "rest"))) (consF (tupF (consF (constF (.int 1)) (nilF))) (consF (binF subD (constF (.int 0)) (constF (.int 1))) (consF (constF (.int 0)) (nilF)))))) (consF (tupF (consF (constF (.str (Str.ofString "rest"))) (consF (tupF (consF (constF (.int 0)) (consF (binF subD (binF subD (constF (.int 0)) (constF (.int 9))) (varF 8)) (nilF)))) (consF (constF (.int 3)) (consF (constF (.int 0)) (nilF)))))) (consF (tupF (consF (constF (.str (Str.ofString "below"))) (consF (tupF (consF (constF (.int 1)) (nilF))) (consF (binF addD (constF (.int 99)) (varF 8)) (nilF))))) (consF (tupF (consF (constF (.str (Str.ofString "below"))) (consF (tupF (consF (binF addD (constF (.int 9)) (varF 8)) (nilF))) (consF (constF (.int 1)) (nilF))))) (consF (tupF (consF (constF (.str (Str.ofString "rest"))) (consF (tupF (consF (constF (.int 1)) (nilF))) (consF (binF addD (constF (.int 12)) (varF 8)) (consF (constF (.int 0)) (nilF)))))) (consF (tupF (consF (constF (.str (Str.ofString "rest"))) (consF (tupF (consF (constF (.int 1)) (nilF))) (consF (constF (.int 3)) (consF (binF addD (constF (.int 2)) (varF 8)) (nilF)))))) (consF (tupF (consF (constF (.str (Str.ofString "not"))) (consF (binF addD (varF 3) (varF 8)) (nilF)))) (consF (tupF (consF (constF (.str (Str.ofString "below"))) (consF (tupF (consF (constF (.int 1)) (nilF))) (nilF)))) (consF (tupF (consF (constF (.str (Str.ofString "below"))) (consF (tupF (consF (constF (.int 1)) (nilF))) (consF (constF (.int 2)) (consF (constF (.int 3)) (nilF)))))) (consF (tupF (consF (constF (.str (Str.ofString "below"))) (consF (tupF (consF (constF (.int 10)) (nilF))) (consF (constF (.int 1)) (nilF))))) (consF (tupF (consF (constF (.str (Str.ofString "below"))) (consF (tupF (consF (constF (.int 0)) (consF (binF subD (constF (.int 0)) (constF (.int 10))) (nilF)))) (consF (constF (.int 1)) (nilF))))) (consF (tupF (consF (constF (.str (Str.ofString "below"))) (consF (binF mulD (tupF (consF (constF (.int 1)) (nilF))) (constF (.int 7))) (consF (constF (.int 1)) (nilF))))) (consF (tupF (consF (constF (.str (Str.ofString "below"))) (consF (tupF (consF (constF (.int 1)) (nilF))) (consF (constF (.int 100)) (nilF))))) (consF (tupF (consF (constF (.str (Str.ofString "below"))) (consF (tupF (consF (constF (.int 1)) (nilF))) (consF (binF subD (constF (.int 0)) (constF (.int 100))) (nilF))))) (consF (tupF (consF (constF (.str (Str.ofString "rest"))) (consF (tupF (consF (constF (.int 1)) (nilF))) (consF (constF (.int 3)) (nilF))))) (consF (tupF (consF (constF (.str (Str.ofString "rest"))) (consF (tupF (consF (constF (.int 1)) (nilF))) (consF (constF (.int 3)) (consF (constF (.int 3)) (nilF)))))) (consF (tupF (consF (constF (.str (Str.ofString "rest"))) (consF (tupF (consF (constF (.int 1)) (nilF))) (consF (constF (.int 0)) (consF (constF (.int 0)) (nilF)))))) (consF (tupF (consF (constF (.str (Str.ofString "rest"))) (consF (tupF (consF (constF (.int 1)) (nilF))) (consF (constF (.int 13)) (consF (constF (.int 0)) (nilF)))))) (consF (tupF (consF (constF (.str (Str.ofString "rest"))) (consF (tupF (consF (constF (.int 1)) (nilF))) (consF (constF (.int 3)) (consF (binF subD (constF (.int 0)) (constF (.int 1))) (nilF)))))) (consF (tupF (consF (constF (.str (Str.ofString "rest"))) (consF (tupF (consF (constF (.int 1)) (nilF))) (consF (constF (.int 3)) (consF (constF (.int 0)) (consF (constF (.int 0)) (nilF))))))) (consF (tupF (consF (constF (.str (Str.ofString "not"))) (consF (varF 3) (nilF)))) (consF (tupF (consF (constF (.str (Str.ofString "not"))) (nilF))) (consF (tupF (consF (constF (.str (Str.ofString "not"))) (consF (constF (.int 0)) (consF (constF (.int 0)) (nilF))))) (consF (tupF (consF (constF (.str (Str.ofString "both"))) (consF (constF (.int 0)) (nilF)))) (consF (tupF (consF (constF (.str (Str.ofString "both"))) (consF (constF (.int 0)) (consF (varF 3) (nilF))))) (consF (tupF (consF (constF (.str (Str.ofString "both"))) (consF (varF 3) (consF (constF (.int 0)) (nilF))))) (consF (tupF (consF (constF (.str (Str.ofString "both"))) (consF (constF (.int 0)) (consF (binF subD (constF (.int 0)) (constF (.int 1))) (nilF))))) (consF (tupF (consF (constF (.str (Str.ofString "there"))) (nilF))) (consF (tupF (consF (constF (.str (Str.ofString "there"))) (consF (varF 3) (nilF)))) (consF (tupF (consF (constF (.str (Str.ofString "both"))) (consF (constF (.int 0)) (consF (constF (.int 0)) (consF (constF (.int 0)) (nilF)))))) (consF (tupF (consF (constF (.str (Str.ofString "rest"))) (consF (binF mulD (tupF (consF (constF (.int 1)) (nilF))) (constF (.int 7))) (consF (constF (.int 3)) (consF (constF (.int 0)) (nilF)))))) (consF (tupF (consF (constF (.str (Str.ofString "rest"))) (consF (tupF (consF (constF (.int 0)) (consF (constF (.int 10)) (nilF)))) (consF (constF (.int 3)) (consF (constF (.int 0)) (nilF)))))) (nilF))))))))))))))))))))))))))))))))))))))))))
      (seqS (forS (.nm 10) (itU (varF 9)) (seqS (ifS (orT (testF (binF isntF (callF h_is_saying (consF (binF addD (varF 2) (tupF (consF (varF 10) (nilF)))) (nilF))) (constF (.bl false)))) (testF (binF isntF (callF h_is_saying (consF (binF addD (tupF (consF (varF 10) (nilF))) (varF 2)) (nilF))) (constF (.bl false))))) (retF (ofF (constF (.bl false)))) (nilS))
      (seqS (asgF 12 (callF h__law_draw (consF (varF 1) (consF (constF (.int 4)) (nilF)))))
      (seqS (asgF 11 (frzF (lstF (consF (tupF (consF (constF (.str (Str.ofString "below"))) (consF (tupF (consF (constF (.int 1)) (nilF))) (consF (constF (.int 2)) (nilF))))) (consF (tupF (consF (constF (.str (Str.ofString "rest"))) (consF (tupF (consF (constF (.int 0)) (consF (constF (.int 1)) (nilF)))) (consF (constF (.int 3)) (consF (constF (.int 1)) (nilF)))))) (consF (tupF (consF (constF (.str (Str.ofString "below"))) (consF (tupF (nilF)) (consF (constF (.int 0)) (nilF))))) (nilF)))))))
      (ifS (testF (binF ninD (varF 10) (frzF (lstF (consF (tupF (consF (constF (.str (Str.ofString "both"))) (consF (constF (.int 0)) (consF (varF 3) (nilF))))) (consF (tupF (consF (constF (.str (Str.ofString "both"))) (consF (varF 3) (consF (constF (.int 0)) (nilF))))) (consF (tupF (consF (constF (.str (Str.ofString "not"))) (consF (varF 3) (nilF)))) (consF (tupF (consF (constF (.str (Str.ofString "there"))) (consF (varF 3) (nilF)))) (consF (tupF (consF (constF (.str (Str.ofString "not"))) (consF (binF addD (varF 3) (varF 8)) (nilF)))) (nilF)))))))))) (ifS (testF (binF isntF (callF h_is_saying (consF (tofF (ofF (binF addD (binF addD (slF (varO 11) (bNo) (bSo (varF 12))) (frzF (lstF (consF (varF 10) (nilF))))) (slF (varO 11) (bSo (varF 12)) (bNo))))) (nilF))) (constF (.bl false)))) (retF (ofF (constF (.bl false)))) (nilS)) (nilS))))))
      (seqS (ifS (orT (testF (binF isntF (callF h_is_saying (consF (tupF (nilF)) (nilF))) (constF (.bl false)))) (testF (binF isntF (callF h_is_saying (consF (binF mulD (tupF (consF (tupF (consF (constF (.str (Str.ofString "below"))) (consF (tupF (nilF)) (consF (constF (.int 0)) (nilF))))) (nilF))) (constF (.int 41))) (nilF))) (constF (.bl false))))) (retF (ofF (constF (.bl false)))) (nilS))
      (seqS (ifS (testF (binF isntF (callF h_is_saying (consF (tupF (consF (tupF (consF (constF (.str (Str.ofString "not"))) (consF (constF (.int 1)) (nilF)))) (consF (tupF (consF (constF (.str (Str.ofString "below"))) (consF (tupF (nilF)) (consF (constF (.int 0)) (nilF))))) (nilF)))) (nilF))) (constF (.bl false)))) (retF (ofF (constF (.bl false)))) (nilS))
      (seqS (asgF 11 (frzF (lstF (consF (tupF (consF (constF (.str (Str.ofString "below"))) (consF (binF mulD (tupF (consF (constF (.int 9)) (consF (binF subD (constF (.int 0)) (constF (.int 9))) (nilF)))) (constF (.int 3))) (consF (constF (.int 99)) (nilF))))) (consF (tupF (consF (constF (.str (Str.ofString "below"))) (consF (tupF (nilF)) (consF (binF subD (constF (.int 0)) (constF (.int 99))) (nilF))))) (consF (tupF (consF (constF (.str (Str.ofString "rest"))) (consF (binF mulD (tupF (consF (constF (.int 9)) (nilF))) (constF (.int 6))) (consF (constF (.int 12)) (consF (constF (.int 11)) (nilF)))))) (consF (tupF (consF (constF (.str (Str.ofString "rest"))) (consF (tupF (nilF)) (consF (constF (.int 1)) (consF (constF (.int 0)) (nilF)))))) (nilF))))))))
      (retF (ofF (allF (ofF (frzF (compF (.nm 10) (itU (varF 11)) (yesT) (binF isF (callF h_is_saying (consF (binF mulD (tupF (consF (varF 10) (nilF))) (constF (.int 40))) (nilF))) (constF (.bl true))) [10])))))))))))))))))))))
@[irreducible] noncomputable def h_law : HF := runB g_law 13
end K1
namespace K1
open Fx LC PM
open PySem (Str)
/-! ### the words of a line -/
inductive Wd where
  | nt | th | bo | be | re | un
deriving DecidableEq
def Wd.str : Wd → Str
  | .nt => Str.ofString "not"
  | .th => Str.ofString "there"
  | .bo => Str.ofString "both"
  | .be => Str.ofString "below"
  | .re => Str.ofString "rest"
  | .un => Str.ofString "under"
theorem Wd.beq (a b : Wd) : (a.str == b.str) = decide (a = b) := by
  cases a <;> cases b <;> decide +kernel
theorem Wd.ok (a : Wd) : PySem.PyData.strOk a.str = true := by
  cases a <;> decide +kernel
def Wd.d (a : Wd) : D := .str a.str
theorem shp_str {x : Str} (h : PySem.PyData.strOk x = true) : PySem.SeqAt.shaped (.str x) = true := by simp [PySem.SeqAt.shaped, PySem.PyData.canLay0, PySem.PyData.depth, h]
theorem eqD_w (a b : Wd) : eqD a.d b.d = some (.bl (decide (a = b))) := by
  unfold eqD eqB Wd.d
  simp only [toPy, shp_str a.ok, shp_str b.ok, Bool.and_self, if_true, PySem.PyData.eqv, Wd.beq, Option.map_some]
theorem neD_w (a b : Wd) : neD a.d b.d = some (.bl (!decide (a = b))) := by
  unfold neD eqB Wd.d
  simp only [toPy, shp_str a.ok, shp_str b.ok, Bool.and_self, if_true, PySem.PyData.eqv, Wd.beq, Option.map_some]
theorem inD_w (a : Wd) : inD a.d (.tup [Wd.nt.d, Wd.th.d]) = some (.bl (decide (a = .nt) || decide (a = .th))) := by
  have e : ∀ b : Wd, eq1 b.d a.d = decide (a = b) := fun b => by
    show (b.str == a.str) = _
    rw [Wd.beq]
    by_cases h : a = b
    · rw [decide_eq_true h, decide_eq_true h.symm]
    · rw [decide_eq_false h, decide_eq_false fun z => h z.symm]
  show some (D.bl (eq1 Wd.nt.d a.d || (eq1 Wd.th.d a.d || false))) = _
  rw [e, e, Bool.or_false]
/-! ### lines -/
inductive Ag where
  | i (n : Int) | t (ns : List Int)
def eI (ns : List Int) : D := .tup (ns.map D.int)
def Ag.d : Ag → D
  | .i n => .int n
  | .t ns => eI ns
abbrev Line := Option (Wd × List Ag)
def Line.d : Line → D
  | none => .tup []
  | some (a, xs) => .tup (a.d :: xs.map Ag.d)
def facOk (ns : List Int) : Bool := decide ((ns.length : Int) ≤ 6) && ns.all fun n => decide ((if n < 0 then -n else n) ≤ 9)
def le_ (a b : Int) : Bool := decide (a ≤ b)
def lt_ (a b : Int) : Bool := decide (a < b)
def Line.ok : Line → Int → Bool
  | some (.nt, [.i f]), k => decide (0 ≤ f) && decide (f < k)
  | some (.th, [.i f]), k => decide (0 ≤ f) && decide (f < k)
  | some (.bo, [.i f, .i g]), k => (decide (0 ≤ f) && decide (f < k)) && (decide (0 ≤ g) && decide (g < k))
  | some (.be, [.t ns, .i c]), _ => facOk ns && decide ((if c < 0 then -c else c) ≤ 99)
  | some (.re, [.t ns, .i m, .i r]), _ => facOk ns && ((decide (1 ≤ m) && decide (m ≤ 12)) && (decide (0 ≤ r) && decide (r < m)))
  | _, _ => false
/-- the arguments are of the kinds that are read -/
def Line.fit : Line → Bool
  | some (.nt, [.t _]) => false
  | some (.th, [.t _]) => false
  | some (.bo, [.i _, .i _]) => true
  | some (.bo, [_, _]) => false
  | some (.be, [.t ns, .i _]) => decide (ns.length ≤ 1000)
  | some (.be, [_, _]) => false
  | some (.re, [.t ns, .i _, .i _]) => decide (ns.length ≤ 1000)
  | some (.re, [_, _, _]) => false
  | _ => true
local macro_rules | `(tactic| walk_at "fy") => `(tactic| simp only [runB, seqS, nilS, asgF, retF, ifS, testF, binF, varF, varO, constF, ofF, ixF, lenF, bindF_some, blF, consF, nilF, intD_int, iiF_int, ctt_eq, addD_int, mulD_int, callF, tofF, frzF, tupF, negF, andT, orT, notT, rng1, rng2, lrgF, compF, LC.seqD_lst, LC.seqD_tup, ixD_lst, ixD_tup, lenD_lst, lenD_tup, lenD_eB, eqD_int, itU, itE, eP_0, eP_1, eP_2, eP_3, eqD_eB, absD, minD, maxD, unpF, tgD, setN, forS, forL, lstF, ownF, setF, objF, lofF, appF, ifE, andV, chF, allF,
  List.map_cons, List.map_nil, List.cons_append, List.nil_append, List.length_cons, List.length_nil, List.replicate_succ, List.replicate_zero, List.getElem?_cons_zero, List.getElem?_cons_succ, List.set_cons_zero, List.set_cons_succ, Option.map_some, if_true, Nat.reduceAdd, Nat.reduceSub,
  Bool.false_eq_true, if_false, Bool.and_self, wipeR, decide_true, decide_false, Bool.not_true, Bool.not_false, *])
theorem bls_map : ∀ l : List Bool, bls (l.map D.bl) = some l
  | [] => rfl
  | b :: l => by
    show (bls (l.map D.bl)).map (b :: ·) = _
    rw [bls_map l]
    rfl
theorem factors_run (ns : List Int) (h : ns.length ≤ 1000) (T : Fx.Tm) : h_are_factors [eI ns] T = some (.bl (facOk ns), T) := by
  unfold h_are_factors g_are_factors
  have el : lenD T (.val (eI ns)) = some (.int (ns.length : Int)) := by show some (D.int ((ns.map D.int).length : Int)) = _; rw [List.length_map]
  have in1 : tgIn (.nm 1) [1] = true := by decide
  have cp : compL (.nm 1) yesT (binF leD (blF absD (consF (varF 1) (nilF))) (constF (.int 9))) [.dat (eI ns), .un] (ns.map D.int) [] T = some ((ns.map fun n => decide ((if n < 0 then -n else n) ≤ 9)).map D.bl, T) := by
    rw [compL_pure (p := fun _ => true) (g := fun d => match d with | .int n => .bl (decide ((if n < 0 then -n else n) ≤ 9)) | _ => .non) (ns.map D.int) (fun d hd => ?_) [] (by rw [List.length_map, line_eq, List.length_nil]; omega), List.filter_eq_self.mpr fun _ _ => rfl]
    · rw [List.map_map, List.map_map]
      rfl
    · obtain ⟨n, _, rfl⟩ := List.mem_map.mp hd
      exact ⟨_, rfl, rfl, fun _ => rfl⟩
  have ie : itU (varF 0) [.dat (eI ns), .un] T = some (ns.map D.int, T) := rfl
  have b1 := bls_map (ns.map fun n => decide ((if n < 0 then -n else n) ≤ 9))
  have w0 : wipeR [Sl.dat (eI ns), Sl.un] [1] = [.dat (eI ns), .un] := rfl
  have ev : ∀ l : List Bool, l.all id = l.all fun b => b := fun _ => rfl
  have ea : ((ns.map fun n => decide ((if n < 0 then -n else n) ≤ 9)).all id) = ns.all fun n => decide ((if n < 0 then -n else n) ≤ 9) := by rw [List.all_map]; rfl
  have cf : compF (.nm 1) (itU (varF 0)) yesT (binF leD (blF absD (consF (varF 1) (nilF))) (constF (.int 9))) [1] [.dat (eI ns), .un] T = some ((ns.map fun n => decide ((if n < 0 then -n else n) ≤ 9)).map D.bl, T) := by
    unfold compF
    rw [in1, if_pos rfl, ie, bindF_some, w0, cp]
  unfold facOk
  by_cases c : (ns.length : Int) ≤ 6
  · have c' : decide ((ns.length : Int) ≤ 6) = true := decide_eq_true c
    simp only [runB, retF, ofF, andV, allF, frzF, binF, lenF, varO, constF, bindF_some, List.map_cons, List.map_nil, List.cons_append, List.nil_append, List.length_cons, List.length_nil, List.replicate_succ, List.replicate_zero, List.getElem?_cons_zero, Nat.reduceAdd, Nat.reduceSub, el, Option.map_some, iiF_int, ctt_eq, if_true, c', cf, LC.seqD_lst, b1, ea, Bool.true_and]
  · have c' : decide ((ns.length : Int) ≤ 6) = false := decide_eq_false c
    simp only [runB, retF, ofF, andV, allF, frzF, binF, lenF, varO, constF, bindF_some, List.map_cons, List.map_nil, List.cons_append, List.nil_append, List.length_cons, List.length_nil, List.replicate_succ, List.replicate_zero, List.getElem?_cons_zero, Nat.reduceAdd, Nat.reduceSub, el, Option.map_some, iiF_int, ctt_eq, if_true, c', cf, LC.seqD_lst, b1, ea, Bool.false_and]

theorem w_nt : D.str (Str.ofString "not") = Wd.nt.d := rfl
theorem w_th : D.str (Str.ofString "there") = Wd.th.d := rfl
theorem w_bo : D.str (Str.ofString "both") = Wd.bo.d := rfl
theorem w_be : D.str (Str.ofString "below") = Wd.be.d := rfl
theorem w_re : D.str (Str.ofString "rest") = Wd.re.d := rfl
theorem w_un : D.str (Str.ofString "under") = Wd.un.d := rfl
theorem chd (T : Fx.Tm) (b c : Bool) : (match (some (D.bl b) : Option D) with
    | some (.bl true) => some (D.bl c, T)
    | some (.bl false) => some (D.bl false, T)
    | _ => none) = some (D.bl (b && c), T) := by cases b <;> rfl
theorem l2 : ((0 + 1 + 1 : Nat) ≤ PySem.sizeLine) := by rw [line_eq]; omega
theorem len_d (n : Nat) (m : Int) : decide (((n : Nat) : Int) = m) = decide ((n : Int) = m) := rfl
local macro_rules | `(tactic| walk_at "fz") => `(tactic| simp only [runB, seqS, nilS, retF, ifS, testF, binF, varF, varO, constF, ofF, ixF, lenF, bindF_some, blF, consF, nilF, iiF_int, ctt_eq, callF, tupF, andT, LC.seqD_tup, ixD_tup, lenD_tup, eqD_int, absD, andV, chF, Line.d, Ag.d, w_nt, w_th, w_bo, w_be, w_re, eqD_w, inD_w, ix0, ix1, ix2, ix3, l2, Line.ok, reduceCtorEq,
  List.map_cons, List.map_nil, List.cons_append, List.nil_append, List.length_cons, List.length_nil, List.length_map, List.replicate_succ, List.replicate_zero, List.getElem?_cons_zero, List.getElem?_cons_succ, List.set_cons_zero, List.set_cons_succ, Option.map_some, if_true, Nat.reduceAdd, Nat.reduceSub, Int.reduceEq, Int.cast_ofNat_Int,
  Bool.false_eq_true, if_false, Bool.and_self, decide_true, decide_false, Bool.not_true, Bool.not_false, Bool.or_true, Bool.or_false, Bool.true_or, Bool.false_or, Bool.true_and, Bool.false_and, Bool.and_true, Bool.and_false, *])
set_option maxHeartbeats 4000000 in
theorem line_run (l : Line) (h : l.fit = true) (k : Int) (T : Fx.Tm) : h_is_line [l.d, .int k] T = some (.bl (l.ok k), T) := by
  unfold h_is_line g_is_line
  match l, h with
  | none, _ => walk_at "fz"
  | some (a, []), _ => cases a <;> walk_at "fz"
  | some (a, [x]), h =>
    cases x with
    | i f =>
      by_cases c1 : 0 ≤ f <;> by_cases c2 : f < k <;> cases a <;> walk_at "fz"
    | t ns => cases a <;> first | (cases h; done) | (clear h; walk_at "fz")
  | some (a, [x, y]), h =>
    cases a with
    | bo =>
      cases x with
      | t ns => (cases h; done)
      | i f =>
        cases y with
        | t ns => (cases h; done)
        | i g =>
          clear h
          by_cases c1 : 0 ≤ f <;> by_cases c2 : f < k <;> by_cases c3 : 0 ≤ g <;> by_cases c4 : g < k <;> walk_at "fz"
    | be =>
      cases x with
      | i f => cases y <;> (cases h; done)
      | t ns =>
        cases y with
        | t ms => (cases h; done)
        | i c =>
          have e := factors_run ns (by simpa [Line.fit] using h) T
          clear h
          cases c1 : facOk ns <;> by_cases c2 : (if c < 0 then -c else c) ≤ 99 <;> walk_at "fz"
    | nt => clear h; walk_at "fz"
    | th => clear h; walk_at "fz"
    | re => clear h; walk_at "fz"
    | un => clear h; walk_at "fz"
  | some (a, [x, y, z]), h =>
    cases a with
    | re =>
      cases x with
      | i f => cases y <;> cases z <;> (cases h; done)
      | t ns =>
        cases y with
        | t ms => cases z <;> (cases h; done)
        | i m =>
          cases z with
          | t ms => (cases h; done)
          | i r =>
            have e := factors_run ns (by simpa [Line.fit] using h) T
            clear h
            cases c0 : facOk ns <;> by_cases c1 : 1 ≤ m <;> by_cases c2 : m ≤ 12 <;> by_cases c3 : 0 ≤ r <;> by_cases c4 : r < m <;> walk_at "fz"
    | nt => clear h; walk_at "fz"
    | th => clear h; walk_at "fz"
    | bo => clear h; walk_at "fz"
    | be => clear h; walk_at "fz"
    | un => clear h; walk_at "fz"
  | some (a, x :: y :: z :: u :: r), h =>
    clear h
    have n2 : decide ((((r.length + 1 + 1 + 1 + 1 + 1 : Nat) : Int)) = 2) = false := decide_eq_false (by omega)
    have n3 : decide ((((r.length + 1 + 1 + 1 + 1 + 1 : Nat) : Int)) = 3) = false := decide_eq_false (by omega)
    have n4 : decide ((((r.length + 1 + 1 + 1 + 1 + 1 : Nat) : Int)) = 4) = false := decide_eq_false (by omega)
    have lo : Line.ok (some (a, x :: y :: z :: u :: r)) k = false := by cases a <;> simp [Line.ok]
    rw [lo]
    clear lo
    walk_at "fz"
end K1
namespace K1
open Fx LC PM
open PySem (Str)
/-! ### sayings -/
def oks (i : Nat) : List Line → List Bool
  | [] => []
  | l :: r => l.ok (i : Int) :: oks (i + 1) r
theorem comp_lines (T : Fx.Tm) (x0 : Sl) : ∀ (ls : List Line) (i : Nat) (acc : List D), (∀ l ∈ ls, Line.fit l = true) → acc.length + ls.length ≤ PySem.sizeLine →
    compL (.tp [1, 2]) yesT (callF h_is_line (consF (varF 2) (consF (varF 1) (nilF)))) [x0, .un, .un] (enumL i (ls.map Line.d)) acc T = some (acc ++ (oks i ls).map D.bl, T)
  | [], i, acc, _, _ => by
    show some (acc, T) = _
    simp [oks]
  | l :: ls, i, acc, h, hl => by
    have e := line_run l (h l List.mem_cons_self) (i : Int) T
    rw [List.length_cons] at hl
    have ih := comp_lines T x0 ls (i + 1) (acc ++ [.bl (l.ok (i : Int))]) (fun l hl => h l (List.mem_cons_of_mem _ hl)) (by rw [List.length_append, List.length_singleton]; omega)
    show compL _ _ _ _ (.tup [.int (i : Int), l.d] :: enumL (i + 1) (ls.map Line.d)) acc T = _
    unfold compL
    have t1 : tgD (.tp [1, 2]) (.tup [.int (i : Int), l.d]) [x0, .un, .un] = some [x0, .dat (.int (i : Int)), .dat l.d] := rfl
    have e1 : callF h_is_line (consF (varF 2) (consF (varF 1) (nilF))) [x0, .dat (.int (i : Int)), .dat l.d] T = some (.bl (l.ok (i : Int)), T) := by
      simp only [callF, consF, varF, nilF, List.getElem?_cons_succ, List.getElem?_cons_zero, bindF_some, e]
    rw [t1]
    show bindF (yesT _ T) _ = _
    rw [show yesT [x0, Sl.dat (.int (i : Int)), Sl.dat l.d] T = some (true, T) from rfl, bindF_some, if_pos rfl, e1, bindF_some, if_pos (by omega), ih]
    show some (acc ++ [D.bl _] ++ _, T) = some (acc ++ (D.bl _ :: _), T)
    rw [List.append_assoc]
    rfl
def okS (ls : List Line) : Bool := decide (1 ≤ (ls.length : Int)) && decide ((ls.length : Int) ≤ 40) && (oks 0 ls).all id
def eY (ls : List Line) : D := .tup (ls.map Line.d)
theorem saying_run (ls : List Line) (h : ∀ l ∈ ls, Line.fit l = true) (hl : ls.length ≤ 1000) (T : Fx.Tm) : h_is_saying [eY ls] T = some (.bl (okS ls), T) := by
  have el : lenD T (.val (eY ls)) = some (.int (ls.length : Int)) := by show some (D.int ((ls.map Line.d).length : Int)) = _; rw [List.length_map]
  have cp := comp_lines T (.dat (eY ls)) ls 0 [] h (by rw [line_eq, List.length_nil]; omega)
  have cf : compF (.tp [1, 2]) (itE (varF 0)) yesT (callF h_is_line (consF (varF 2) (consF (varF 1) (nilF)))) [1, 2] [.dat (eY ls), .un, .un] T = some ((oks 0 ls).map D.bl, T) := by
    unfold compF
    rw [show tgIn (.tp [1, 2]) [1, 2] = true by decide, if_pos rfl, show itE (varF 0) [Sl.dat (eY ls), .un, .un] T = some (enumL 0 (ls.map Line.d), T) from rfl, bindF_some]
    exact cp
  have b1 := bls_map (oks 0 ls)
  unfold h_is_saying g_is_saying okS
  by_cases c1 : (1 : Int) ≤ (ls.length : Int)
  · by_cases c2 : (ls.length : Int) ≤ 40
    · simp only [runB, seqS, nilS, ifS, notT, testF, chF, retF, ofF, allF, frzF, lenF, varO, constF, bindF_some, List.map_cons, List.map_nil, List.cons_append, List.nil_append, List.length_cons, List.length_nil, List.replicate_succ, List.replicate_zero, List.getElem?_cons_zero, Nat.reduceAdd, Nat.reduceSub, el, Option.map_some, iiF_int, ctt_eq, if_true, c1, c2, decide_true, decide_false, cf, LC.seqD_lst, b1, Bool.true_and, Bool.not_true, Bool.false_eq_true, if_false]
    · simp only [runB, seqS, nilS, ifS, notT, testF, chF, retF, ofF, allF, frzF, lenF, varO, constF, bindF_some, List.map_cons, List.map_nil, List.cons_append, List.nil_append, List.length_cons, List.length_nil, List.replicate_succ, List.replicate_zero, List.getElem?_cons_zero, Nat.reduceAdd, Nat.reduceSub, el, Option.map_some, iiF_int, ctt_eq, if_true, c1, c2, decide_true, decide_false, Bool.true_and, Bool.false_and, Bool.not_false]
  · simp only [runB, seqS, nilS, ifS, notT, testF, chF, retF, ofF, allF, frzF, lenF, varO, constF, bindF_some, List.map_cons, List.map_nil, List.cons_append, List.nil_append, List.length_cons, List.length_nil, List.replicate_succ, List.replicate_zero, List.getElem?_cons_zero, Nat.reduceAdd, Nat.reduceSub, el, Option.map_some, iiF_int, ctt_eq, if_true, c1, decide_true, decide_false, Bool.true_and, Bool.false_and, Bool.not_false]
/-- there is no line there -/
def plW : Line → Bool
  | some (.th, _) => false
  | _ => true
theorem plain_run (ls : List Line) (h : ∀ l ∈ ls, l ≠ none) (hl : ls.length ≤ 1000) (T : Fx.Tm) : h_is_plain [eY ls] T = some (.bl (ls.all plW), T) := by
  have step : ∀ (ls : List Line) (acc : List D), (∀ l ∈ ls, l ≠ none) → acc.length + ls.length ≤ PySem.sizeLine → ∀ x0, compL (.nm 1) yesT (binF neD (ixF (varO 1) (constF (.int 0))) (constF (.str (Str.ofString "there")))) [x0, .un] (ls.map Line.d) acc T = some (acc ++ (ls.map plW).map D.bl, T) := by
    intro ls
    induction ls with
    | nil => intro acc _ _ x0; show some (acc, T) = _; simp
    | cons l ls ih =>
      intro acc h hl x0
      rw [List.length_cons] at hl
      obtain ⟨a, xs, rfl⟩ : ∃ a xs, l = some (a, xs) := by
        cases l with
        | none => exact absurd rfl (h none List.mem_cons_self)
        | some p => exact ⟨p.1, p.2, rfl⟩
      have e := neD_w a .th
      have e0 := ix0 (xs.map Ag.d) a.d
      have pw : plW (some (a, xs)) = !decide (a = .th) := by cases a <;> rfl
      have e1 : binF neD (ixF (varO 1) (constF (.int 0))) (constF (.str (Str.ofString "there"))) [x0, .dat (Line.d (some (a, xs)))] T = some (.bl (plW (some (a, xs))), T) := by
        simp only [binF, ixF, varO, constF, bindF_some, List.getElem?_cons_succ, List.getElem?_cons_zero, Line.d, ixD_tup, e0, Option.map_some, w_th, e, pw]
      show compL _ _ _ _ (Line.d (some (a, xs)) :: ls.map Line.d) acc T = _
      unfold compL
      rw [show tgD (.nm 1) (Line.d (some (a, xs))) [x0, .un] = some [x0, .dat (Line.d (some (a, xs)))] from rfl]
      show bindF (yesT _ T) _ = _
      rw [show yesT [x0, Sl.dat (Line.d (some (a, xs)))] T = some (true, T) from rfl, bindF_some, if_pos rfl, e1, bindF_some, if_pos (by omega), ih (acc ++ [D.bl (plW (some (a, xs)))]) (fun l hl => h l (List.mem_cons_of_mem _ hl)) (by rw [List.length_append, List.length_singleton]; omega)]
      show some (acc ++ [D.bl _] ++ _, T) = some (acc ++ (D.bl _ :: _), T)
      rw [List.append_assoc]
      rfl
  have cf : compF (.nm 1) (itU (varF 0)) yesT (binF neD (ixF (varO 1) (constF (.int 0))) (constF (.str (Str.ofString "there")))) [1] [.dat (eY ls), .un] T = some ((ls.map plW).map D.bl, T) := by
    unfold compF
    rw [show tgIn (.nm 1) [1] = true by decide, if_pos rfl, show itU (varF 0) [Sl.dat (eY ls), .un] T = some (ls.map Line.d, T) from rfl, bindF_some]
    exact step ls [] h (by rw [line_eq, List.length_nil]; omega) _
  have b1 := bls_map (ls.map plW)
  have ea : (ls.map plW).all id = ls.all plW := by rw [List.all_map]; rfl
  unfold h_is_plain g_is_plain
  simp only [runB, retF, ofF, allF, frzF, bindF_some, List.map_cons, List.map_nil, List.cons_append, List.nil_append, List.length_cons, List.length_nil, List.replicate_succ, List.replicate_zero, Nat.reduceAdd, Nat.reduceSub, Option.map_some, cf, LC.seqD_lst, b1, ea]
/-! ### drawn sayings -/
local macro_rules | `(tactic| walk_at "fy") => `(tactic| simp only [runB, seqS, nilS, asgF, retF, ifS, testF, binF, varF, varO, constF, ofF, ixF, lenF, bindF_some, blF, consF, nilF, intD_int, iiF_int, ctt_eq, addD_int, mulD_int, callF, tofF, frzF, tupF, negF, andT, orT, notT, rng1, rng2, lrgF, compF, LC.seqD_lst, LC.seqD_tup, ixD_lst, ixD_tup, lenD_lst, lenD_tup, eqD_int, itU, unpF, tgD, setN, forS, forL, lstF, ownF, setF, objF, lofF, appF, ifE, andV,
  List.map_cons, List.map_nil, List.cons_append, List.nil_append, List.length_cons, List.length_nil, List.replicate_succ, List.replicate_zero, List.getElem?_cons_zero, List.getElem?_cons_succ, List.set_cons_zero, List.set_cons_succ, Option.map_some, if_true, Nat.reduceAdd, Nat.reduceSub,
  Bool.false_eq_true, if_false, Bool.and_self, wipeR, decide_true, decide_false, Bool.not_true, Bool.not_false, *])
theorem facs_run {ns : List Int} {T : Fx.Tm} (h : St ns T) {count far : Int} (h0 : 0 ≤ count) (h1 : count ≤ 1000) (h2 : 0 ≤ far) (h3 : far ≤ 1000) :
    ∃ fs T', (fs.length : Int) = count ∧ (∀ f ∈ fs, -far ≤ f ∧ f ≤ far) ∧ St ns T' ∧ h__law_factors [.ob 0, .int count, .int far] T = some (eI fs, T') := by
  obtain ⟨xs, T', k1, k2, k3, k4⟩ := compL_all (t := .nm 4) (e := binF subD (callF h__law_draw (consF (varF 0) (consF (binF addD (binF mulD (constF (.int 2)) (varF 2)) (constF (.int 1))) (nilF)))) (varF 2))
    (ρw := [.dat (.ob 0), .dat (.int count), .dat (.int far), .un, .un]) (Pt := St ns) (R := fun x => ∃ f, x = .int f ∧ -far ≤ f ∧ f ≤ far) (rngL 0 count) (fun x hx T hT => by
      obtain ⟨k, rfl, _, _⟩ := rngL_mem hx
      obtain ⟨d, T1, g1, g2, t1, e1⟩ := draw_st hT (n := 2 * far + 1) (by omega) (by omega)
      refine ⟨_, .int (d - far), T1, rfl, ?_, ⟨_, rfl, by omega, by omega⟩, t1⟩
      have m1 : cMul 2 far = true := cm_l (by omega)
      clear hT t1 g1 g2 h0 h1 h2 h3 hx
      walk_at "fy") [] T h (by rw [rngL_len, line_eq, List.length_nil]; omega)
  have hx : ∀ xs : List D, (∀ x ∈ xs, ∃ f, x = .int f ∧ -far ≤ f ∧ f ≤ far) → ∃ fs : List Int, xs = fs.map D.int ∧ ∀ f ∈ fs, -far ≤ f ∧ f ≤ far := by
    intro xs
    induction xs with
    | nil => exact fun _ => ⟨[], rfl, fun _ h => by cases h⟩
    | cons x xs ih =>
      intro h
      obtain ⟨f, rfl, h1, h2⟩ := h x List.mem_cons_self
      obtain ⟨fs, rfl, h3⟩ := ih fun y hy => h y (List.mem_cons_of_mem _ hy)
      exact ⟨f :: fs, rfl, fun g hg => (List.mem_cons.mp hg).elim (fun e => e ▸ ⟨h1, h2⟩) (h3 g)⟩
  obtain ⟨fs, rfl, hf⟩ := hx xs k3
  rw [List.length_map, rngL_len] at k2
  refine ⟨fs, T', by omega, hf, k4, ?_⟩
  have r1 : in62 count = true := in62_of (by omega) (by omega)
  have in4 : tgIn (.nm 4) [4] = true := by decide
  unfold h__law_factors g__law_factors eI
  clear k3 k4 h hf
  walk_at "fy"
/-- what a line drawn is -/
structure Ln (l : Line) (n : Nat) : Prop where
  fit : Line.fit l = true
  ne : l ≠ none
  pl : plW l = true
  ok : l.ok (n : Int) = true
theorem fac3 {fs : List Int} {far : Int} (h : fs.length ≤ 6) (hf : ∀ f ∈ fs, -far ≤ f ∧ f ≤ far) (h9 : far ≤ 9) : facOk fs = true := by
  unfold facOk
  rw [decide_eq_true (show (fs.length : Int) ≤ 6 by omega), Bool.true_and, List.all_eq_true]
  intro f hm
  have := hf f hm
  apply decide_eq_true
  split <;> omega
theorem atom_run {ns : List Int} {T : Fx.Tm} (h : St ns T) {count far : Int} (h0 : 0 ≤ count) (h1 : count ≤ 6) (h2 : 0 ≤ far) (h3 : far ≤ 9) :
    ∃ l T', (∀ n, Ln l n) ∧ St ns T' ∧ h__law_atom [.ob 0, .int count, .int far] T = some (l.d, T') := by
  obtain ⟨fs, T1, q1, q2, t1, e1⟩ := facs_run h h0 (by omega) h2 (by omega)
  obtain ⟨d, T2, g1, g2, t2, e2⟩ := draw_st t1 (n := 3) (by omega) (by omega)
  have fk := fac3 (by omega) q2 h3
  by_cases c : d = 1
  · obtain ⟨m, T3, g3, g4, t3, e3⟩ := draw_st t2 (n := 4) (by omega) (by omega)
    obtain ⟨r, T4, g5, g6, t4, e4⟩ := draw_st t3 (n := 1 + m) (by omega) (by omega)
    refine ⟨some (.re, [.t fs, .i (1 + m), .i r]), T4, fun n => ⟨by simp [Line.fit]; omega, by simp, rfl, ?_⟩, t4, ?_⟩
    · show (facOk fs && ((decide (1 ≤ 1 + m) && decide (1 + m ≤ 12)) && (decide (0 ≤ r) && decide (r < 1 + m)))) = true
      rw [fk, decide_eq_true (show 1 ≤ 1 + m by omega), decide_eq_true (show 1 + m ≤ 12 by omega), decide_eq_true g5, decide_eq_true g6]
      rfl
    · have c' : decide (d = 1) = true := decide_eq_true c
      have l4 := len4
      unfold h__law_atom g__law_atom
      clear h h0 h1 h2 h3 q1 q2 t1 t2 t3 t4 g1 g2 g3 g4 g5 g6 c fk
      walk_at "fy"
      rfl
  · obtain ⟨k, T3, g3, g4, t3, e3⟩ := draw_st t2 (n := 21) (by omega) (by omega)
    refine ⟨some (.be, [.t fs, .i (k - 10)]), T3, fun n => ⟨by simp [Line.fit]; omega, by simp, rfl, ?_⟩, t3, ?_⟩
    · show (facOk fs && decide ((if k - 10 < 0 then -(k - 10) else k - 10) ≤ 99)) = true
      rw [fk, decide_eq_true (show (if k - 10 < 0 then -(k - 10) else k - 10) ≤ 99 by split <;> omega)]
      rfl
    · have c' : decide (d = 1) = false := decide_eq_false c
      have l3 : ((0 + 1 + 1 + 1 : Nat) ≤ PySem.sizeLine) := by rw [line_eq]; omega
      unfold h__law_atom g__law_atom
      clear h h0 h1 h2 h3 q1 q2 t1 t2 t3 g1 g2 g3 g4 c fk
      walk_at "fy"
      rfl
/-! ### the saying -/
noncomputable def plB : FS := seqS (asgF 6 (binF subD (lenF (varO 4)) (constF (.int 1))))
      (seqS (asgF 7 (callF h__law_draw (consF (varF 0) (consF (constF (.int 4)) (nilF)))))
      (seqS (appF 4 (callF h__law_atom (consF (varF 0) (consF (varF 1) (consF (varF 3) (nilF))))))
      (seqS (asgF 8 (binF subD (lenF (varO 4)) (constF (.int 1))))
      (seqS (ifS (testF (binF eqD (varF 7) (constF (.int 0)))) (seqS (appF 4 (tupF (consF (constF (.str (Str.ofString "not"))) (consF (varF 8) (nilF)))))
      (asgF 8 (binF subD (lenF (varO 4)) (constF (.int 1))))) (nilS))
      (seqS (ifS (testF (binF eqD (varF 7) (constF (.int 1)))) (seqS (appF 4 (tupF (consF (constF (.str (Str.ofString "not"))) (consF (varF 6) (nilF)))))
      (asgF 6 (binF subD (lenF (varO 4)) (constF (.int 1))))) (nilS))
      (seqS (appF 4 (tupF (consF (constF (.str (Str.ofString "both"))) (consF (varF 6) (consF (varF 8) (nilF))))))
      (ifS (andT (testF (binF gtD (varF 7) (constF (.int 1)))) (testF (binF eqD (callF h__law_draw (consF (varF 0) (consF (constF (.int 2)) (nilF)))) (constF (.int 1))))) (appF 4 (tupF (consF (constF (.str (Str.ofString "not"))) (consF (binF subD (lenF (varO 4)) (constF (.int 1))) (nilF))))) (nilS))))))))
theorem plain_eq : g__law_plain = seqS (ownF 4 (lstF (consF (callF h__law_atom (consF (varF 0) (consF (varF 1) (consF (varF 3) (nilF))))) (nilF))))
      (seqS (forS (.nm 5) (rng1 (consF (callF h__law_draw (consF (varF 0) (consF (varF 2) (nilF)))) (nilF))) plB)
      (retF (ofF (tofF (varO 4))))) := rfl


def Vl (ls : List Line) : Prop := ∀ (i : Nat) (l : Line), ls[i]? = some l → Ln l i
theorem Vl.snoc {ls : List Line} (h : Vl ls) {l : Line} (hl : Ln l ls.length) : Vl (ls ++ [l]) := fun i x hx => by
  by_cases hi : i < ls.length
  · rw [List.getElem?_append_left hi] at hx
    exact h i x hx
  · rw [List.getElem?_append_right (by omega)] at hx
    have e : i - ls.length = 0 := by
      have := (List.getElem?_eq_some_iff.mp hx).1
      simp at this
      omega
    rw [e] at hx
    cases hx
    rw [show i = ls.length by omega]
    exact hl
theorem vl_one {l : Line} (hl : Ln l 0) : Vl [l] := Vl.snoc (ls := []) (fun i x hx => by simp at hx) hl
theorem ln_no {f n : Nat} (h : f < n) : Ln (some (.nt, [.i (f : Int)])) n := ⟨rfl, by simp, rfl, by
  show (decide ((0 : Int) ≤ f) && decide ((f : Int) < n)) = true
  rw [decide_eq_true (by omega), decide_eq_true (by omega)]
  rfl⟩
theorem ln_bo {f g n : Nat} (h : f < n) (h2 : g < n) : Ln (some (.bo, [.i (f : Int), .i (g : Int)])) n := ⟨rfl, by simp, rfl, by
  show ((decide ((0 : Int) ≤ f) && decide ((f : Int) < n)) && (decide ((0 : Int) ≤ g) && decide ((g : Int) < n))) = true
  rw [decide_eq_true (by omega), decide_eq_true (by omega), decide_eq_true (by omega), decide_eq_true (by omega)]
  rfl⟩
theorem map_snoc (ls : List Line) (l : Line) : (ls.map Line.d) ++ [l.d] = (ls ++ [l]).map Line.d := by rw [List.map_append]; rfl
theorem lenD_own (T : Fx.Tm) (i : Nat) (ds : List D) : lenD T (.own i ds) = some (.int (ds.length : Int)) := rfl
theorem d_no (f : Int) : D.tup [Wd.nt.d, .int f] = Line.d (some (.nt, [.i f])) := rfl
theorem d_bo (f g : Int) : D.tup [Wd.bo.d, .int f, .int g] = Line.d (some (.bo, [.i f, .i g])) := rfl
theorem l3 : ((0 + 1 + 1 + 1 : Nat) ≤ PySem.sizeLine) := by rw [line_eq]; omega
theorem len_map (ls : List Line) : (ls.map Line.d).length = ls.length := List.length_map _
theorem len_sn (ls : List Line) (l : Line) : (ls ++ [l]).length = ls.length + 1 := by rw [List.length_append]; rfl
theorem succ_sub (n : Nat) : ((n + 1 : Nat) : Int) - 1 = (n : Int) := by omega
theorem lt_line {n : Nat} (h : n ≤ 1000) : n < PySem.sizeLine := by rw [line_eq]; omega
local macro_rules | `(tactic| walk_at "fl") => `(tactic| simp only [runB, seqS, nilS, asgF, retF, ifS, testF, binF, varF, varO, constF, ofF, ixF, lenF, bindF_some, blF, consF, nilF, intD_int, iiF_int, ctt_eq, addD_int, mulD_int, callF, tofF, frzF, tupF, negF, andT, orT, notT, rng1, rng2, lrgF, compF, LC.seqD_lst, LC.seqD_tup, ixD_lst, ixD_tup, lenD_lst, lenD_tup, lenD_own, w_nt, w_bo, w_th, d_no, d_bo, eqD_int, itU, unpF, tgD, setN, forS, forL, lstF, ownF, setF, objF, lofF, appF, ifE, andV,
  List.map_cons, List.map_nil, List.cons_append, List.nil_append, List.length_cons, List.length_nil, List.replicate_succ, List.replicate_zero, List.getElem?_cons_zero, List.getElem?_cons_succ, List.set_cons_zero, List.set_cons_succ, Option.map_some, if_true, Nat.reduceAdd, Nat.reduceSub,
  Bool.false_eq_true, if_false, Bool.and_self, wipeR, decide_true, decide_false, Bool.not_true, Bool.not_false, *])
set_option maxHeartbeats 4000000 in
theorem plB_run {ns : List Int} {T : Fx.Tm} (h : St ns T) (L : List Line) (hv : Vl L) (h1 : 1 ≤ L.length) (h2 : L.length ≤ 100) {count far : Int} (h0 : 0 ≤ count) (hc : count ≤ 6) (hf : 0 ≤ far) (hf9 : far ≤ 9) (many : Sl) (x5 x6 x7 x8 : Sl) :
    ∃ L' z6 z7 z8 T', Vl L' ∧ L.length ≤ L'.length ∧ L'.length ≤ L.length + 3 ∧ St ns T' ∧ plB [.dat (.ob 0), .dat (.int count), many, .dat (.int far), .own (L.map Line.d), x5, x6, x7, x8] T = some (.nx [.dat (.ob 0), .dat (.int count), many, .dat (.int far), .own (L'.map Line.d), x5, z6, z7, z8], T') := by
  obtain ⟨c, T1, g1, g2, t1, e1⟩ := draw_st h (n := 4) (by omega) (by omega)
  obtain ⟨l, T2, hl, t2, e2⟩ := atom_run t1 h0 hc hf hf9
  obtain ⟨n, hn⟩ : ∃ n : Nat, L.length = n + 1 := ⟨L.length - 1, by omega⟩
  have v1 := hv.snoc (hl L.length)
  have k1 : (L ++ [l]).length = n + 1 + 1 := by rw [len_sn, hn]
  have s1 : n + 1 < PySem.sizeLine := lt_line (by omega)
  have s2 : n + 1 + 1 < PySem.sizeLine := lt_line (by omega)
  have s3 : n + 1 + 1 + 1 < PySem.sizeLine := lt_line (by omega)
  have m0 := len_map L
  have m1 := len_map (L ++ [l])
  have a1 := map_snoc L l
  have u1 := succ_sub n
  have u2 := succ_sub (n + 1)
  have u3 := succ_sub (n + 1 + 1)
  have q2 := l2
  have q3 := l3
  have c4 : c = 0 ∨ c = 1 ∨ (1 < c ∧ c ≠ 0 ∧ c ≠ 1) := by omega
  unfold plB
  rcases c4 with rfl | rfl | ⟨cg, cn0, cn1⟩
  · -- 0: the new one denied
    have v2 := v1.snoc (l := some (.nt, [.i ((n + 1 : Nat) : Int)])) (ln_no (by omega))
    have k2 : (L ++ [l] ++ [some (Wd.nt, [Ag.i ((n + 1 : Nat) : Int)])]).length = n + 1 + 1 + 1 := by rw [len_sn, k1]
    have v3 := v2.snoc (l := some (.bo, [.i ((n : Nat) : Int), .i ((n + 1 + 1 : Nat) : Int)])) (ln_bo (by omega) (by omega))
    refine ⟨L ++ [l] ++ [some (.nt, [.i ((n + 1 : Nat) : Int)])] ++ [some (.bo, [.i ((n : Nat) : Int), .i ((n + 1 + 1 : Nat) : Int)])], .dat (.int (n : Int)), .dat (.int 0), .dat (.int ((n + 1 + 1 : Nat) : Int)), T2, v3, by rw [len_sn, k2]; omega, by rw [len_sn, k2]; omega, t2, ?_⟩
    have a2 := map_snoc (L ++ [l]) (some (.nt, [.i ((n + 1 : Nat) : Int)]))
    have a3 := map_snoc (L ++ [l] ++ [some (.nt, [.i ((n + 1 : Nat) : Int)])]) (some (.bo, [.i ((n : Nat) : Int), .i ((n + 1 + 1 : Nat) : Int)]))
    have m2 := len_map (L ++ [l] ++ [some (.nt, [.i ((n + 1 : Nat) : Int)])])
    have d0 : decide ((0 : Int) = 1) = false := decide_eq_false (by omega)
    have d1 : decide ((1 : Int) < 0) = false := decide_eq_false (by omega)
    rw [← a3]
    clear a3 v1 v2 v3 hv hl h t1 t2 g1 g2 h0 hc hf hf9 h1 h2
    walk_at "fl"
  · -- 1: the old one denied
    have v2 := v1.snoc (l := some (.nt, [.i ((n : Nat) : Int)])) (ln_no (by omega))
    have k2 : (L ++ [l] ++ [some (Wd.nt, [Ag.i ((n : Nat) : Int)])]).length = n + 1 + 1 + 1 := by rw [len_sn, k1]
    have v3 := v2.snoc (l := some (.bo, [.i ((n + 1 + 1 : Nat) : Int), .i ((n + 1 : Nat) : Int)])) (ln_bo (by omega) (by omega))
    refine ⟨L ++ [l] ++ [some (.nt, [.i ((n : Nat) : Int)])] ++ [some (.bo, [.i ((n + 1 + 1 : Nat) : Int), .i ((n + 1 : Nat) : Int)])], .dat (.int ((n + 1 + 1 : Nat) : Int)), .dat (.int 1), .dat (.int ((n + 1 : Nat) : Int)), T2, v3, by rw [len_sn, k2]; omega, by rw [len_sn, k2]; omega, t2, ?_⟩
    have a2 := map_snoc (L ++ [l]) (some (.nt, [.i ((n : Nat) : Int)]))
    have a3 := map_snoc (L ++ [l] ++ [some (.nt, [.i ((n : Nat) : Int)])]) (some (.bo, [.i ((n + 1 + 1 : Nat) : Int), .i ((n + 1 : Nat) : Int)]))
    have m2 := len_map (L ++ [l] ++ [some (.nt, [.i ((n : Nat) : Int)])])
    have d0 : decide ((1 : Int) = 0) = false := decide_eq_false (by omega)
    have d1 : decide ((1 : Int) < 1) = false := decide_eq_false (by omega)
    rw [← a3]
    clear a3 v1 v2 v3 hv hl h t1 t2 g1 g2 h0 hc hf hf9 h1 h2
    walk_at "fl"
  · -- 2, 3: both, perhaps denied
    obtain ⟨e, T3, g3, g4, t3, e3⟩ := draw_st t2 (n := 2) (by omega) (by omega)
    have v2 := v1.snoc (l := some (.bo, [.i ((n : Nat) : Int), .i ((n + 1 : Nat) : Int)])) (ln_bo (by omega) (by omega))
    have k2 : (L ++ [l] ++ [some (Wd.bo, [Ag.i ((n : Nat) : Int), .i ((n + 1 : Nat) : Int)])]).length = n + 1 + 1 + 1 := by rw [len_sn, k1]
    have a2 := map_snoc (L ++ [l]) (some (.bo, [.i ((n : Nat) : Int), .i ((n + 1 : Nat) : Int)]))
    have m2 := len_map (L ++ [l] ++ [some (.bo, [.i ((n : Nat) : Int), .i ((n + 1 : Nat) : Int)])])
    have d0 : decide (c = 0) = false := decide_eq_false cn0
    have d1 : decide (c = 1) = false := decide_eq_false cn1
    have d2 : decide (1 < c) = true := decide_eq_true cg
    by_cases ce : e = 1
    · have v3 := v2.snoc (l := some (.nt, [.i ((n + 1 + 1 : Nat) : Int)])) (ln_no (by omega))
      have a3 := map_snoc (L ++ [l] ++ [some (.bo, [.i ((n : Nat) : Int), .i ((n + 1 : Nat) : Int)])]) (some (.nt, [.i ((n + 1 + 1 : Nat) : Int)]))
      refine ⟨L ++ [l] ++ [some (.bo, [.i ((n : Nat) : Int), .i ((n + 1 : Nat) : Int)])] ++ [some (.nt, [.i ((n + 1 + 1 : Nat) : Int)])], .dat (.int (n : Int)), .dat (.int c), .dat (.int ((n + 1 : Nat) : Int)), T3, v3, by rw [len_sn, k2]; omega, by rw [len_sn, k2]; omega, t3, ?_⟩
      have d3 : decide (e = 1) = true := decide_eq_true ce
      rw [← a3]
      clear a3 v1 v2 v3 hv hl h t1 t2 t3 g1 g2 g3 g4 h0 hc hf hf9 h1 h2 ce cg cn0 cn1
      walk_at "fl"
    · refine ⟨L ++ [l] ++ [some (.bo, [.i ((n : Nat) : Int), .i ((n + 1 : Nat) : Int)])], .dat (.int (n : Int)), .dat (.int c), .dat (.int ((n + 1 : Nat) : Int)), T3, v2, by rw [k2]; omega, by rw [k2]; omega, t3, ?_⟩
      have d3 : decide (e = 1) = false := decide_eq_false ce
      rw [← a2]
      clear a2 v1 v2 hv hl h t1 t2 t3 g1 g2 g3 g4 h0 hc hf hf9 h1 h2 ce cg cn0 cn1
      walk_at "fl"
/-! ### the law of the lines -/
theorem plainS_run {ns : List Int} {T : Fx.Tm} (h : St ns T) {count many far : Int} (h0 : 0 ≤ count) (hc : count ≤ 6) (hf : 0 ≤ far) (hf9 : far ≤ 9) (hm : 1 ≤ many) (hm9 : many ≤ 10) :
    ∃ L T', Vl L ∧ 1 ≤ L.length ∧ (L.length : Int) ≤ 3 * many ∧ St ns T' ∧ h__law_plain [.ob 0, .int count, .int many, .int far] T = some (eY L, T') := by
  obtain ⟨l, T1, hl, t1, e1⟩ := atom_run h h0 hc hf hf9
  obtain ⟨d, T2, g1, g2, t2, e2⟩ := draw_st t1 (n := many) (by omega) (by omega)
  obtain ⟨ρ', T', ⟨L, z5, z6, z7, z8, rfl, hv, b1, b2, t'⟩, e⟩ := forL_rngI (t := .nm 5) (body := plB) (j := d)
    (inv := fun k ρ T => ∃ L x5 x6 x7 x8, ρ = [.dat (.ob 0), .dat (.int count), .dat (.int many), .dat (.int far), .own (L.map Line.d), x5, x6, x7, x8] ∧ Vl L ∧ 1 ≤ L.length ∧ (L.length : Int) ≤ 1 + 3 * k ∧ St ns T) _ 0 rfl
    (fun k ρ T a b hi => by
      obtain ⟨L, x5, x6, x7, x8, rfl, hv, b1, b2, t⟩ := hi
      obtain ⟨L', z6, z7, z8, T', hv', c1, c2, t', e⟩ := plB_run t L hv b1 (by omega) h0 hc hf hf9 (.dat (.int many)) (.dat (.int k)) x6 x7 x8
      exact ⟨_, _, T', rfl, e, L', _, _, _, _, rfl, hv', by omega, by omega, t'⟩)
    [.dat (.ob 0), .dat (.int count), .dat (.int many), .dat (.int far), .own [l.d], .un, .un, .un, .un] T2 ⟨[l], _, _, _, _, rfl, vl_one (hl 0), by simp, by simp, t2⟩
  rw [if_pos g1] at b2
  refine ⟨L, T', hv, b1, by omega, t', ?_⟩
  have r1 : in62 d = true := in62_of (by omega) (by omega)
  have l1 : ((0 + 1 : Nat) ≤ PySem.sizeLine) := by rw [line_eq]; omega
  have so : ∀ ds T, seqD T (.own 4 ds) = some (false, ds) := fun _ _ => rfl
  unfold h__law_plain
  rw [plain_eq]
  unfold eY
  clear h h0 hc hf hf9 hm hm9 hl t1 t2 t' g1 g2 hv b1 b2
  walk_at "fy"
theorem okS_of {L : List Line} (h : Vl L) (h1 : 1 ≤ L.length) (h2 : L.length ≤ 40) : okS L = true := by
  have key : ∀ (ls : List Line) (i : Nat), (∀ (k : Nat) (l : Line), ls[k]? = some l → l.ok ((i + k : Nat) : Int) = true) → (oks i ls).all id = true := by
    intro ls
    induction ls with
    | nil => intro i _; rfl
    | cons l ls ih =>
      intro i hk
      show (id (l.ok (i : Int)) && (oks (i + 1) ls).all id) = true
      rw [ih (i + 1) fun k x hx => by have := hk (k + 1) x (by simpa using hx); rw [show i + 1 + k = i + (k + 1) by omega]; exact this]
      have := hk 0 l (by simp)
      rw [Nat.add_zero] at this
      rw [Bool.and_true]
      exact this
  unfold okS
  rw [decide_eq_true (by omega), decide_eq_true (by omega), key L 0 fun k l hl => by rw [Nat.zero_add]; exact (h k l hl).ok]
  rfl
theorem oks_app : ∀ (a b : List Line) (i : Nat), oks i (a ++ b) = oks i a ++ oks (i + a.length) b
  | [], b, i => by simp [oks]
  | l :: a, b, i => by
    show l.ok (i : Int) :: oks (i + 1) (a ++ b) = _
    rw [oks_app a b (i + 1), List.length_cons, show i + 1 + a.length = i + (a.length + 1) by omega]
    rfl
/-- one line that does not fit -/
theorem okS_bad (a b : List Line) {l : Line} (h : l.ok (a.length : Int) = false) : okS (a ++ l :: b) = false := by
  unfold okS
  rw [oks_app]
  show (_ && (oks 0 a ++ (l.ok _ :: oks _ b)).all id) = false
  rw [List.all_append, List.all_cons, Nat.zero_add, h]
  simp
theorem okS_long {L : List Line} (h : 40 < L.length) : okS L = false := by
  unfold okS
  rw [decide_eq_false (show ¬ ((L.length : Int) ≤ 40) by omega)]
  simp
theorem vl_fit {L : List Line} (h : Vl L) : ∀ l ∈ L, Line.fit l = true := fun l hl => by
  obtain ⟨i, hi⟩ := List.mem_iff_getElem?.mp hl
  exact (h i l hi).fit
theorem vl_ne {L : List Line} (h : Vl L) : ∀ l ∈ L, l ≠ none := fun l hl => by
  obtain ⟨i, hi⟩ := List.mem_iff_getElem?.mp hl
  exact (h i l hi).ne
theorem vl_pl {L : List Line} (h : Vl L) : L.all plW = true := List.all_eq_true.mpr fun l hl => by
  obtain ⟨i, hi⟩ := List.mem_iff_getElem?.mp hl
  exact (h i l hi).pl
end K1
namespace K1
open Fx LC PM
open PySem (Str PyData)
/-! ### lines as data -/
def pyA : Ag → PyData
  | .i n => .int n
  | .t ns => .tuple (ns.map PyData.int)
def pyL : Line → PyData
  | none => .tuple []
  | some (a, xs) => .tuple (.str a.str :: xs.map pyA)
theorem toPyL_int : ∀ ns : List Int, toPyL (ns.map D.int) = some (ns.map PyData.int)
  | [] => by simp [toPyL]
  | n :: ns => by simp [toPyL, toPy, toPyL_int ns]
theorem toPy_ag (a : Ag) : toPy a.d = some (pyA a) := by
  cases a with
  | i n => simp [Ag.d, toPy, pyA]
  | t ns =>
    show toPy (.tup (ns.map D.int)) = _
    rw [toPy, toPyL_int]
    rfl
theorem toPyL_ags : ∀ xs : List Ag, toPyL (xs.map Ag.d) = some (xs.map pyA)
  | [] => by simp [toPyL]
  | x :: xs => by simp [toPyL, toPy_ag, toPyL_ags xs]
theorem toPy_line (l : Line) : toPy l.d = some (pyL l) := by
  match l with
  | none => simp [Line.d, toPy, toPyL, pyL]
  | some (a, xs) =>
    show toPy (.tup (.str a.str :: xs.map Ag.d)) = _
    rw [toPy, toPyL]
    simp only [toPy, toPyL_ags]
    rfl
theorem toPyL_lines : ∀ ls : List Line, toPyL (ls.map Line.d) = some (ls.map pyL)
  | [] => by simp [toPyL]
  | l :: ls => by simp [toPyL, toPy_line, toPyL_lines ls]
theorem lay_int : ∀ ns : List Int, PyData.canLayAll0 (ns.map PyData.int) = true
  | [] => by simp [PyData.canLayAll0]
  | n :: ns => by simp [PyData.canLayAll0, PyData.canLay0, lay_int ns]
theorem dep_int : ∀ ns : List Int, PyData.depthAll (ns.map PyData.int) = 0
  | [] => by simp [PyData.depthAll]
  | n :: ns => by simp [PyData.depthAll, PyData.depth, dep_int ns]
theorem lay_ags : ∀ xs : List Ag, PyData.canLayAll0 (xs.map pyA) = true ∧ PyData.depthAll (xs.map pyA) ≤ 1
  | [] => by simp [PyData.canLayAll0, PyData.depthAll]
  | x :: xs => by
    obtain ⟨h1, h2⟩ := lay_ags xs
    cases x with
    | i n => simp [PyData.canLayAll0, PyData.canLay0, PyData.depthAll, PyData.depth, pyA, h1, h2]
    | t ns => simp [PyData.canLayAll0, PyData.canLay0, PyData.depthAll, PyData.depth, pyA, h1, h2, lay_int, dep_int]
theorem lay_line (l : Line) : PyData.canLay0 (pyL l) = true ∧ PyData.depth (pyL l) ≤ 2 := by
  match l with
  | none => simp [pyL, PyData.canLay0, PyData.canLayAll0, PyData.depth, PyData.depthAll]
  | some (a, xs) =>
    obtain ⟨h1, h2⟩ := lay_ags xs
    simp [pyL, PyData.canLay0, PyData.canLayAll0, PyData.depth, PyData.depthAll, h1, a.ok]
    omega
theorem shp_line (l : Line) : PySem.SeqAt.shaped (pyL l) = true := by
  obtain ⟨h1, h2⟩ := lay_line l
  unfold PySem.SeqAt.shaped
  rw [h1, decide_eq_true (by omega)]
  rfl
theorem lay_lines : ∀ ls : List Line, PyData.canLayAll0 (ls.map pyL) = true ∧ PyData.depthAll (ls.map pyL) ≤ 2
  | [] => by simp [PyData.canLayAll0, PyData.depthAll]
  | l :: ls => by
    obtain ⟨h1, h2⟩ := lay_lines ls
    obtain ⟨h3, h4⟩ := lay_line l
    simp [PyData.canLayAll0, PyData.depthAll, h1, h3]
    omega
theorem shp_lines (ls : List Line) : PySem.SeqAt.shaped (.list (ls.map pyL)) = true := by
  obtain ⟨h1, h2⟩ := lay_lines ls
  unfold PySem.SeqAt.shaped
  rw [PyData.canLay0, h1, PyData.depth, decide_eq_true (by omega)]
  rfl
theorem eqv_int : ∀ ns : List Int, PyData.eqvAll (ns.map PyData.int) (ns.map PyData.int) = true
  | [] => by simp [PyData.eqvAll]
  | n :: ns => by simp [PyData.eqvAll, PyData.eqv, eqv_int ns]
theorem eqv_ags : ∀ xs : List Ag, PyData.eqvAll (xs.map pyA) (xs.map pyA) = true
  | [] => by simp [PyData.eqvAll]
  | .i n :: xs => by simp [PyData.eqvAll, PyData.eqv, pyA, eqv_ags xs]
  | .t ns :: xs => by simp [PyData.eqvAll, PyData.eqv, pyA, eqv_ags xs, eqv_int]
theorem eqv_line (l : Line) : PyData.eqv (pyL l) (pyL l) = true := by
  match l with
  | none => simp [pyL, PyData.eqv, PyData.eqvAll]
  | some (a, xs) => simp [pyL, PyData.eqv, PyData.eqvAll, eqv_ags]
theorem flD_line (l : Line) : flD l.d = false := by
  match l with
  | none => rfl
  | some (a, xs) => rfl
theorem nin_line (l : Line) (fs : List Line) : ninD l.d (.lst (fs.map Line.d)) = some (.bl (!((fs.map pyL).any fun z => PyData.eqv z (pyL l)))) := by
  have h1 : inB l.d (.lst (fs.map Line.d)) = none := by
    show (if flD l.d && (fs.map Line.d).all flD then _ else none) = none
    rw [flD_line, Bool.false_and, if_neg (by decide)]
  have h2 : inBD l.d (.lst (fs.map Line.d)) = some ((fs.map pyL).any fun z => PyData.eqv z (pyL l)) := by
    unfold inBD
    simp only [toPy_line, toPyL_lines, shp_line, shp_lines, Bool.and_self, if_true]
  unfold ninD inB'
  rw [h1, h2]
  rfl
theorem nin_mem {l : Line} {fs : List Line} (h : l ∈ fs) : ninD l.d (.lst (fs.map Line.d)) = some (.bl false) := by
  have e : ((fs.map pyL).any fun z => PyData.eqv z (pyL l)) = true := List.any_eq_true.mpr ⟨pyL l, List.mem_map.mpr ⟨l, h, rfl⟩, eqv_line l⟩
  rw [nin_line, e]
  rfl
/-! ### the lines that are wrong -/
def odds (n w : Int) : List Line :=
  [none, some (.un, [.i 0, .i 0]), some (.un, []), some (.nt, [.i (0 - 1)]), some (.th, [.i (0 - w)]), some (.bo, [.i (0 - w), .i 0]), some (.re, [.t [1], .i (0 - 1), .i 0]), some (.re, [.t [0, 0 - 9 - w], .i 3, .i 0]),
   some (.be, [.t [1], .i (99 + w)]), some (.be, [.t [9 + w], .i 1]), some (.re, [.t [1], .i (12 + w), .i 0]), some (.re, [.t [1], .i 3, .i (2 + w)]), some (.nt, [.i (n + w)]), some (.be, [.t [1]]), some (.be, [.t [1], .i 2, .i 3]),
   some (.be, [.t [10], .i 1]), some (.be, [.t [0, 0 - 10], .i 1]), some (.be, [.t [1, 1, 1, 1, 1, 1, 1], .i 1]), some (.be, [.t [1], .i 100]), some (.be, [.t [1], .i (0 - 100)]), some (.re, [.t [1], .i 3]), some (.re, [.t [1], .i 3, .i 3]),
   some (.re, [.t [1], .i 0, .i 0]), some (.re, [.t [1], .i 13, .i 0]), some (.re, [.t [1], .i 3, .i (0 - 1)]), some (.re, [.t [1], .i 3, .i 0, .i 0]), some (.nt, [.i n]), some (.nt, []), some (.nt, [.i 0, .i 0]), some (.bo, [.i 0]),
   some (.bo, [.i 0, .i n]), some (.bo, [.i n, .i 0]), some (.bo, [.i 0, .i (0 - 1)]), some (.th, []), some (.th, [.i n]), some (.bo, [.i 0, .i 0, .i 0]), some (.re, [.t [1, 1, 1, 1, 1, 1, 1], .i 3, .i 0]), some (.re, [.t [0, 10], .i 3, .i 0])]
def five (n w : Int) : List Line := [some (.bo, [.i 0, .i n]), some (.bo, [.i n, .i 0]), some (.nt, [.i n]), some (.th, [.i n]), some (.nt, [.i (n + w)])]
structure Cnd (n w : Int) (l : Line) : Prop where
  fit : Line.fit l = true
  ok_n : l.ok n = false
  ok_0 : l.ok 0 = false
  at_ : (∀ k, 0 ≤ k → k ≤ 3 → l.ok k = false) ∨ l ∈ five n w
set_option maxHeartbeats 4000000 in
theorem odds_cnd {n w : Int} (hn : 1 ≤ n) (hw : 1 ≤ w) : ∀ l ∈ odds n w, Cnd n w l := by
  intro l hl
  simp only [odds, List.mem_cons, List.not_mem_nil, or_false] at hl
  rcases hl with rfl | rfl | rfl | rfl | rfl | rfl | rfl | rfl | rfl | rfl | rfl | rfl | rfl | rfl | rfl | rfl | rfl | rfl | rfl | rfl | rfl | rfl | rfl | rfl | rfl | rfl | rfl | rfl | rfl | rfl | rfl | rfl | rfl | rfl | rfl | rfl | rfl | rfl <;>
    refine ⟨by simp [Line.fit], ?_, ?_, ?_⟩ <;> first
      | (simp only [Line.ok, facOk, List.all_cons, List.all_nil, Bool.and_eq_false_iff, decide_eq_false_iff_not, List.length_cons, List.length_nil]; omega)
      | rfl
      | (exact .inl fun k _ _ => rfl)
      | (refine .inl fun k h0 h1 => ?_; simp only [Line.ok, facOk, List.all_cons, List.all_nil, Bool.and_eq_false_iff, decide_eq_false_iff_not, List.length_cons, List.length_nil]; omega)
      | (exact .inr (by simp [five]))
      | skip
end K1
namespace K19
open PySem PySem.Spec PyProof.Rows L2 Fx LC PM K1
def tb_NAMED : List (Str × Int) := [((Str.ofString "not"), 1), ((Str.ofString "there"), 1), ((Str.ofString "both"), 2)]
noncomputable def g_Reading___init__ : FS := seqS (fldS ["Reading"] "words" (varF 0) (varF 1))
      (seqS (fldS ["Reading"] "at" (varF 0) (constF (.int 0)))
      (fldS ["Reading"] "lines" (varF 0) (objE (lstF (nilF)))))
@[irreducible] noncomputable def h_Reading___init__ : HF := runB g_Reading___init__ 2
noncomputable def g_Reading_next_word : FS := seqS (ifS (testF (binF geD (fldF ["Reading"] "at" (varF 0)) (lenF (ofF (fldF ["Reading"] "words" (varF 0)))))) (neverS) (nilS))
      (retF (ofF (ixF (ofF (fldF ["Reading"] "words" (varF 0))) (fldF ["Reading"] "at" (varF 0)))))
@[irreducible] noncomputable def h_Reading_next_word : HF := runB g_Reading_next_word 1
noncomputable def g_is_number : FS := seqS (asgF 1 (ifE (testF (m1F startsD (varF 0) (constF (.str (Str.ofString "-"))))) (slF (varO 0) (bSo (constF (.int 1))) (bNo)) (varF 0)))
      (seqS (ifS (orT (notT (testF (chF leD leD (constF (.int 1)) (lenF (varO 1)) (constF (.int 2))))) (notT (testF (allF (ofF (frzF (compF (.nm 2) (itU2 (varF 1)) (yesT) (binF inSD (varF 2) (constF (.str (Str.ofString "0123456789")))) [2]))))))) (retF (ofF (constF (.bl false)))) (nilS))
      (seqS (ifS (testF (m1F startsD (varF 1) (constF (.str (Str.ofString "0"))))) (retF (ofF (binF eqD (varF 0) (constF (.str (Str.ofString "0")))))) (nilS))
      (retF (ofF (constF (.bl true))))))
@[irreducible] noncomputable def h_is_number : HF := runB g_is_number 3
noncomputable def g_Reading_read_number : FS := seqS (asgF 3 (methF "Reading" "next_word" h_Reading_next_word (varF 0) (nilF)))
      (seqS (ifS (orT (notT (testF (callF h_is_number (consF (varF 3) (nilF))))) (notT (testF (chF leD leD (varF 1) (blF intTD (consF (varF 3) (nilF))) (varF 2))))) (neverS) (nilS))
      (seqS (fldA ["Reading"] "at" (fun i j => i + j) (varF 0) (constF (.int 1)))
      (retF (ofF (blF intTD (consF (varF 3) (nilF)))))))
@[irreducible] noncomputable def h_Reading_read_number : HF := runB g_Reading_read_number 4
noncomputable def g_Reading_read_factors : FS := seqS (ownF 1 (lstF (nilF)))
      (seqS (whS (testF (binF neD (methF "Reading" "next_word" h_Reading_next_word (varF 0) (nilF)) (constF (.str (Str.ofString ";"))))) (seqS (ifS (testF (binF eqD (lenF (varO 1)) (constF (.int 6)))) (neverS) (nilS))
      (appF 1 (methF "Reading" "read_number" h_Reading_read_number (varF 0) (consF (negF (constF (.int 9))) (consF (constF (.int 9)) (nilF)))))))
      (seqS (fldA ["Reading"] "at" (fun i j => i + j) (varF 0) (constF (.int 1)))
      (retF (ofF (tofF (varO 1))))))
@[irreducible] noncomputable def h_Reading_read_factors : HF := runB g_Reading_read_factors 2
noncomputable def g_Reading_read_comparison : FS := seqS (ifS (andT (testF (binF neD (varF 1) (constF (.str (Str.ofString "below"))))) (testF (binF neD (varF 1) (constF (.str (Str.ofString "rest")))))) (neverS) (nilS))
      (seqS (fldA ["Reading"] "at" (fun i j => i + j) (varF 0) (constF (.int 1)))
      (seqS (asgF 2 (methF "Reading" "read_factors" h_Reading_read_factors (varF 0) (nilF)))
      (seqS (ifS (testF (binF eqD (varF 1) (constF (.str (Str.ofString "below"))))) (retF (ofF (tupF (consF (varF 1) (consF (varF 2) (consF (methF "Reading" "read_number" h_Reading_read_number (varF 0) (consF (negF (constF (.int 99))) (consF (constF (.int 99)) (nilF)))) (nilF))))))) (nilS))
      (seqS (asgF 3 (methF "Reading" "read_number" h_Reading_read_number (varF 0) (consF (constF (.int 1)) (consF (constF (.int 12)) (nilF)))))
      (retF (ofF (tupF (consF (varF 1) (consF (varF 2) (consF (varF 3) (consF (methF "Reading" "read_number" h_Reading_read_number (varF 0) (consF (constF (.int 0)) (consF (binF subD (varF 3) (constF (.int 1))) (nilF)))) (nilF))))))))))))
@[irreducible] noncomputable def h_Reading_read_comparison : HF := runB g_Reading_read_comparison 4
noncomputable def g_Reading_read : FS := seqS (objF 1 (lstF (nilF)))
      (whS (testF (constF (.bl true))) (seqS (asgF 2 (methF "Reading" "next_word" h_Reading_next_word (varF 0) (nilF)))
      (seqS (ifS (testF (inTF tb_NAMED (varF 2))) (seqS (dropF (appOF (varF 1) (tupF (consF (varF 2) (consF (objE (lstF (nilF))) (nilF))))))
      (seqS (fldA ["Reading"] "at" (fun i j => i + j) (varF 0) (constF (.int 1)))
      (cntS))) (nilS))
      (seqS (dropF (appOF (fldF ["Reading"] "lines" (varF 0)) (methF "Reading" "read_comparison" h_Reading_read_comparison (varF 0) (consF (varF 2) (nilF)))))
      (seqS (whS (testF (binF gtD (lenF (varO 1)) (constF (.int 0)))) (seqS (unpF (.tp [2, 3]) (ixF (varO 1) (negF (constF (.int 1)))))
      (seqS (dropF (appOF (varF 3) (binF subD (lenF (ofF (fldF ["Reading"] "lines" (varF 0)))) (constF (.int 1)))))
      (seqS (ifS (testF (binF ltD (lenF (varO 3)) (ixTF tb_NAMED (varF 2)))) (brkS) (nilS))
      (seqS (dropF (popF (varF 1)))
      (dropF (appOF (fldF ["Reading"] "lines" (varF 0)) (binF addD (tupF (consF (varF 2) (nilF))) (tofF (varO 3))))))))))
      (ifS (testF (binF eqD (lenF (varO 1)) (constF (.int 0)))) (retF (ofF (tofF (ofF (fldF ["Reading"] "lines" (varF 0)))))) (nilS)))))))
@[irreducible] noncomputable def h_Reading_read : HF := runB g_Reading_read 4
noncomputable def g_parse_saying : FS := seqS (asgF 1 (mkF "Reading" h_Reading___init__ (consF (frzF (splitF (varF 0) (constF (.str (Str.ofString " "))))) (nilF))))
      (seqS (asgF 2 (methF "Reading" "read" h_Reading_read (varF 1) (nilF)))
      (seqS (ifS (testF (binF ltD (fldF ["Reading"] "at" (varF 1)) (lenF (ofF (fldF ["Reading"] "words" (varF 1)))))) (neverS) (nilS))
      (seqS (ifS (testF (binF gtD (lenF (varO 2)) (constF (.int 40)))) (neverS) (nilS))
      (retF (varO 2)))))
@[irreducible] noncomputable def h_parse_saying : HF := runB g_parse_saying 3
noncomputable def g__law_words (r__law_words : HF) : FS := seqS (asgF 2 (ixF (varO 0) (varF 1)))
      (seqS (ifS (testF (binF inD (ixF (varO 2) (constF (.int 0))) (frzF (lstF (consF (constF (.str (Str.ofString "below"))) (consF (constF (.str (Str.ofString "rest"))) (nilF))))))) (retF (ofF (binF addD (binF addD (binF addD (frzF (lstF (consF (ixF (varO 2) (constF (.int 0))) (nilF)))) (frzF (compF (.nm 5) (itU (ixF (varO 2) (constF (.int 1)))) (yesT) (blF strD (consF (varF 5) (nilF))) [5]))) (frzF (lstF (consF (constF (.str (Str.ofString ";"))) (nilF))))) (frzF (compF (.nm 5) (itU (slF (varO 2) (bSo (constF (.int 2))) (bNo))) (yesT) (blF strD (consF (varF 5) (nilF))) [5]))))) (nilS))
      (seqS (asgF 3 (frzF (lstF (consF (ixF (varO 2) (constF (.int 0))) (nilF)))))
      (seqS (forS (.nm 4) (itU (slF (varO 2) (bSo (constF (.int 1))) (bNo))) (asgF 3 (binF addD (varF 3) (callF r__law_words (consF (varF 0) (consF (varF 4) (nilF)))))))
      (retF (varO 3)))))
@[irreducible] noncomputable def h__law_words : Nat → HF := recH g__law_words 6
theorem h__law_words_0 : h__law_words 0 = fun _ _ => none := by unfold h__law_words; rfl
theorem h__law_words_s (n : Nat) : h__law_words (n + 1) = runB (g__law_words (h__law_words n)) 6 := by unfold h__law_words; rfl
noncomputable def g_format_saying : FS := seqS (objF 1 (lstF (nilF)))
      (seqS (objF 2 (lstF (consF (binF subD (lenF (varO 0)) (constF (.int 1))) (nilF))))
      (seqS (whS (testF (binF gtD (lenF (varO 2)) (constF (.int 0)))) (seqS (asgF 3 (ixF (varO 0) (popF (varF 2))))
      (seqS (dropF (appOF (varF 1) (ixF (varO 3) (constF (.int 0)))))
      (ifS (testF (inTF tb_NAMED (ixF (varO 3) (constF (.int 0))))) (dropF (extF (varF 2) (lofF (ofF (bk0F (varF 3)))))) (seqS (dropF (extF (varF 1) (compF (.nm 4) (itU (ixF (varO 3) (constF (.int 1)))) (yesT) (blF strD (consF (varF 4) (nilF))) [4])))
      (seqS (dropF (appOF (varF 1) (constF (.str (Str.ofString ";")))))
      (dropF (extF (varF 1) (compF (.nm 5) (itU (slF (varO 3) (bSo (constF (.int 2))) (bNo))) (yesT) (blF strD (consF (varF 5) (nilF))) [5])))))))))
      (retF (ofF (joinOF (constF (.str (Str.ofString " "))) (varO 1))))))
@[irreducible] noncomputable def h_format_saying : HF := runB g_format_saying 6
noncomputable def g__law_spread (r__law_spread : HF) : FS := seqS (asgF 2 (ixF (varO 0) (varF 1)))
      (seqS (ifS (testF (binF inD (ixF (varO 2) (constF (.int 0))) (frzF (lstF (consF (constF (.str (Str.ofString "below"))) (consF (constF (.str (Str.ofString "rest"))) (nilF))))))) (retF (ofF (frzF (lstF (consF (varF 2) (nilF)))))) (nilS))
      (seqS (ownF 3 (lstF (nilF)))
      (seqS (ownF 4 (lstF (nilF)))
      (seqS (forS (.nm 5) (itU (slF (varO 2) (bSo (constF (.int 1))) (bNo))) (seqS (asgF 6 (lenF (varO 3)))
      (seqS (forS (.nm 7) (itU (callF r__law_spread (consF (varF 0) (consF (varF 5) (nilF))))) (ifS (testF (binF inD (ixF (varO 7) (constF (.int 0))) (frzF (lstF (consF (constF (.str (Str.ofString "below"))) (consF (constF (.str (Str.ofString "rest"))) (nilF))))))) (appF 3 (varF 7)) (appF 3 (binF addD (tupF (consF (ixF (varO 7) (constF (.int 0))) (nilF))) (tofF (ofF (frzF (compF (.nm 8) (itU (slF (varO 7) (bSo (constF (.int 1))) (bNo))) (yesT) (binF addD (varF 6) (varF 8)) [8]))))))))
      (appF 4 (binF subD (lenF (varO 3)) (constF (.int 1)))))))
      (seqS (appF 3 (binF addD (tupF (consF (ixF (varO 2) (constF (.int 0))) (nilF))) (tofF (varO 4))))
      (retF (varO 3)))))))
@[irreducible] noncomputable def h__law_spread : Nat → HF := recH g__law_spread 9
theorem h__law_spread_0 : h__law_spread 0 = fun _ _ => none := by unfold h__law_spread; rfl
theorem h__law_spread_s (n : Nat) : h__law_spread (n + 1) = runB (g__law_spread (h__law_spread n)) 9 := by unfold h__law_spread; rfl
noncomputable def g_law : FS := seqS (objF 1 (lstF (consF (constF (.int 0)) (consF (constF (.int 0)) (consF (frzF (lofF (varO 0))) (consF (constF (.int 1)) (nilF)))))))
      (seqS (asgF 2 (callF h__law_plain (consF (varF 1) (consF (callF h__law_draw (consF (varF 1) (consF (constF (.int 7)) (nilF)))) (consF (constF (.int 3)) (consF (constF (.int 9)) (nilF)))))))
      (seqS (ifS (testF (binF eqD (callF h__law_draw (consF (varF 1) (consF (constF (.int 2)) (nilF)))) (constF (.int 1)))) (seqS (asgF 5 (binF addD (constF (.int 1)) (callF h__law_draw (consF (varF 1) (consF (constF (.int 12)) (nilF))))))
      (asgF 2 (binF addD (varF 2) (tupF (consF (tupF (consF (constF (.str (Str.ofString "rest"))) (consF (callF h__law_factors (consF (varF 1) (consF (callF h__law_draw (consF (varF 1) (consF (constF (.int 7)) (nilF)))) (consF (constF (.int 9)) (nilF))))) (consF (varF 5) (consF (callF h__law_draw (consF (varF 1) (consF (varF 5) (nilF)))) (nilF)))))) (consF (tupF (consF (constF (.str (Str.ofString "both"))) (consF (binF subD (lenF (varO 2)) (constF (.int 1))) (consF (lenF (varO 2)) (nilF))))) (nilF))))))) (nilS))
      (seqS (ifS (testF (binF eqD (callF h__law_draw (consF (varF 1) (consF (constF (.int 2)) (nilF)))) (constF (.int 1)))) (asgF 2 (binF addD (varF 2) (tupF (consF (tupF (consF (constF (.str (Str.ofString "there"))) (consF (binF subD (lenF (varO 2)) (constF (.int 1))) (nilF)))) (nilF))))) (nilS))
      (seqS (ifS (testF (binF eqD (callF h__law_draw (consF (varF 1) (consF (constF (.int 2)) (nilF)))) (constF (.int 1)))) (asgF 2 (binF addD (varF 2) (tupF (consF (tupF (consF (constF (.str (Str.ofString "both"))) (consF (binF subD (lenF (varO 2)) (constF (.int 1))) (consF (callF h__law_draw (consF (varF 1) (consF (lenF (varO 2)) (nilF)))) (nilF))))) (nilF))))) (nilS))
      (seqS (ifS (testF (binF eqD (callF h__law_draw (consF (varF 1) (consF (constF (.int 3)) (nilF)))) (constF (.int 1)))) (asgF 2 (binF addD (varF 2) (tupF (consF (tupF (consF (constF (.str (Str.ofString "below"))) (consF (tupF (nilF)) (consF (binF subD (callF h__law_draw (consF (varF 1) (consF (constF (.int 199)) (nilF)))) (constF (.int 99))) (nilF))))) (consF (tupF (consF (constF (.str (Str.ofString "both"))) (consF (binF subD (lenF (varO 2)) (constF (.int 1))) (consF (lenF (varO 2)) (nilF))))) (nilF)))))) (nilS))
      (seqS (asgF 3 (m1F joinD (constF (.str (Str.ofString " "))) (callF (h__law_words 60) (consF (varF 2) (consF (binF subD (lenF (varO 2)) (constF (.int 1))) (nilF))))))
      (seqS (ifS (testF (binF neD (callF h_format_saying (consF (varF 2) (nilF))) (varF 3))) (retF (ofF (constF (.bl false)))) (nilS))
      (seqS (asgF 4 (callF h_parse_saying (consF (varF 3) (nilF))))
      (retF (ofF (andV (isiF "tuple" (varF 4)) (andV (binF eqD (frzF (lofF (varO 4))) (callF (h__law_spread 60) (consF (varF 2) (consF (binF subD (lenF (varO 2)) (constF (.int 1))) (nilF))))) (binF eqD (callF h_format_saying (consF (varF 4) (nilF))) (varF 3))))))))))))))
@[irreducible] noncomputable def h_law : HF := runB g_law 6
end K19
namespace K19
open Fx LC PM K1
open PySem (Str PyData)
/-! ### the written numbers -/
def sI (i : Int) : Str := toString i
def nums : List Int := (List.range 199).map fun (k : Nat) => (k : Int) - 99
def dig (s : Str) : Str := if PySem.Txt.startswith s (Str.ofString "-") then ⟨(s.cps.toList.drop 1).toArray⟩ else s
def numB (s : Str) : Bool :=
  if !(decide ((1 : Int) ≤ ((dig s).length : Int)) && decide (((dig s).length : Int) ≤ 2)) || !((dig s).cps.toList.all fun c => decide (c ∈ (Str.ofString "0123456789").cps.toList)) then false
  else if PySem.Txt.startswith (dig s) (Str.ofString "0") then s == Str.ofString "0" else true
theorem nums_ok : nums.all (fun n => numB (sI n) && decide (PySem.intText? (sI n) = some n) && decide ((sI n).length ≤ 3) && (!(sI n).cps.toList.contains 32) && !(sI n == Str.ofString ";") && PyData.strOk (sI n)) = true := by decide +kernel
structure NumOk (n : Int) : Prop where
  b : numB (sI n) = true
  i : PySem.intText? (sI n) = some n
  l : (sI n).length ≤ 3
  sp : 32 ∉ (sI n).cps.toList
  ne : (sI n == Str.ofString ";") = false
  ok : PyData.strOk (sI n) = true
theorem num_ok {n : Int} (h1 : -99 ≤ n) (h2 : n ≤ 99) : NumOk n := by
  have hm : n ∈ nums := by
    unfold nums
    rw [List.mem_map]
    exact ⟨(n + 99).toNat, by rw [List.mem_range]; omega, by omega⟩
  have h := List.all_eq_true.mp nums_ok n hm
  simp only [Bool.and_eq_true, decide_eq_true_eq, Bool.not_eq_true'] at h
  obtain ⟨⟨⟨⟨⟨a, b⟩, c⟩, d⟩, e⟩, f⟩ := h
  exact ⟨a, b, c, by simpa using d, e, f⟩
/-! ### sayings as trees -/
inductive Tr where
  | be (ns : List Int) (c : Int) | re (ns : List Int) (m r : Int) | nt (t : Tr) | th (t : Tr) | bo (t u : Tr)
def Tr.size : Tr → Nat
  | .be _ _ => 1
  | .re _ _ _ => 1
  | .nt t => t.size + 1
  | .th t => t.size + 1
  | .bo t u => t.size + u.size + 1
def Tr.depth : Tr → Nat
  | .be _ _ => 1
  | .re _ _ _ => 1
  | .nt t => t.depth + 1
  | .th t => t.depth + 1
  | .bo t u => max t.depth u.depth + 1
def facB (ns : List Int) : Prop := ns.length ≤ 6 ∧ ∀ n ∈ ns, -9 ≤ n ∧ n ≤ 9
def Tr.ok : Tr → Prop
  | .be ns c => facB ns ∧ -99 ≤ c ∧ c ≤ 99
  | .re ns m r => facB ns ∧ 1 ≤ m ∧ m ≤ 12 ∧ 0 ≤ r ∧ r < m
  | .nt t => t.ok
  | .th t => t.ok
  | .bo t u => t.ok ∧ u.ok
def semi : Str := Str.ofString ";"
def Tr.words : Tr → List Str
  | .be ns c => Wd.be.str :: (ns.map sI ++ [semi, sI c])
  | .re ns m r => Wd.re.str :: (ns.map sI ++ [semi, sI m, sI r])
  | .nt t => Wd.nt.str :: t.words
  | .th t => Wd.th.str :: t.words
  | .bo t u => Wd.bo.str :: (t.words ++ u.words)
def Tr.spread : Tr → Nat → List Line
  | .be ns c, _ => [some (.be, [.t ns, .i c])]
  | .re ns m r, _ => [some (.re, [.t ns, .i m, .i r])]
  | .nt t, k => t.spread k ++ [some (.nt, [.i ((k + t.size : Nat) - 1 : Int)])]
  | .th t, k => t.spread k ++ [some (.th, [.i ((k + t.size : Nat) - 1 : Int)])]
  | .bo t u, k => t.spread k ++ u.spread (k + t.size) ++ [some (.bo, [.i ((k + t.size : Nat) - 1 : Int), .i ((k + t.size + u.size : Nat) - 1 : Int)])]
theorem Tr.size_pos : ∀ t : Tr, 1 ≤ t.size
  | .be _ _ => Nat.le_refl _
  | .re _ _ _ => Nat.le_refl _
  | .nt t => by unfold Tr.size; omega
  | .th t => by unfold Tr.size; omega
  | .bo t u => by unfold Tr.size; omega
theorem Tr.spread_len : ∀ (t : Tr) (k : Nat), (t.spread k).length = t.size
  | .be _ _, _ => rfl
  | .re _ _ _, _ => rfl
  | .nt t, k => by unfold Tr.spread Tr.size; rw [List.length_append, t.spread_len]; rfl
  | .th t, k => by unfold Tr.spread Tr.size; rw [List.length_append, t.spread_len]; rfl
  | .bo t u, k => by unfold Tr.spread Tr.size; rw [List.length_append, List.length_append, t.spread_len, u.spread_len]; rfl
/-- the line n stands for a tree -/
inductive Rep (L : List Line) : Nat → Tr → Prop
  | be {n : Nat} {ns : List Int} {c : Int} : L[n]? = some (some (.be, [.t ns, .i c])) → Rep L n (.be ns c)
  | re {n : Nat} {ns : List Int} {m r : Int} : L[n]? = some (some (.re, [.t ns, .i m, .i r])) → Rep L n (.re ns m r)
  | nt {n f : Nat} {t : Tr} : L[n]? = some (some (.nt, [.i (f : Int)])) → Rep L f t → Rep L n (.nt t)
  | th {n f : Nat} {t : Tr} : L[n]? = some (some (.th, [.i (f : Int)])) → Rep L f t → Rep L n (.th t)
  | bo {n f g : Nat} {t u : Tr} : L[n]? = some (some (.bo, [.i (f : Int), .i (g : Int)])) → Rep L f t → Rep L g u → Rep L n (.bo t u)
theorem get_app {α : Type} {L : List α} (M : List α) {n : Nat} {x : α} (h : L[n]? = some x) : (L ++ M)[n]? = some x := by
  rw [List.getElem?_append_left (List.getElem?_eq_some_iff.mp h).1]
  exact h
theorem Rep.app {L : List Line} (M : List Line) {n : Nat} {t : Tr} (h : Rep L n t) : Rep (L ++ M) n t := by
  induction h with
  | be e => exact .be (get_app M e)
  | re e => exact .re (get_app M e)
  | nt e _ ih => exact .nt (get_app M e) ih
  | th e _ ih => exact .th (get_app M e) ih
  | bo e _ _ ih1 ih2 => exact .bo (get_app M e) ih1 ih2
theorem get_at {L : List Line} (x : Line) {n : Nat} (h : n = L.length) : (L ++ [x])[n]? = some x := by subst h; simp
/-- what is laid out stands for the tree -/
theorem Tr.rep : ∀ (t : Tr) (L : List Line) (n : Nat), n = L.length + t.size - 1 → Rep (L ++ t.spread L.length) n t
  | .be ns c, L, n, h => .be (get_at _ (by unfold Tr.size at h; omega))
  | .re ns m r, L, n, h => .re (get_at _ (by unfold Tr.size at h; omega))
  | .nt t, L, n, h => by
    have p := t.size_pos
    have l := t.spread_len L.length
    unfold Tr.size at h
    unfold Tr.spread
    rw [← List.append_assoc]
    have e : (((L.length + t.size : Nat) : Int) - 1) = ((L.length + t.size - 1 : Nat) : Int) := by omega
    rw [e]
    exact .nt (get_at _ (by rw [List.length_append, l]; omega)) ((t.rep L _ rfl).app _)
  | .th t, L, n, h => by
    have p := t.size_pos
    have l := t.spread_len L.length
    unfold Tr.size at h
    unfold Tr.spread
    rw [← List.append_assoc]
    have e : (((L.length + t.size : Nat) : Int) - 1) = ((L.length + t.size - 1 : Nat) : Int) := by omega
    rw [e]
    exact .th (get_at _ (by rw [List.length_append, l]; omega)) ((t.rep L _ rfl).app _)
  | .bo t u, L, n, h => by
    have p := t.size_pos
    have q := u.size_pos
    have l := t.spread_len L.length
    have l2 := u.spread_len (L.length + t.size)
    unfold Tr.size at h
    unfold Tr.spread
    rw [← List.append_assoc, ← List.append_assoc]
    have e : (((L.length + t.size : Nat) : Int) - 1) = ((L.length + t.size - 1 : Nat) : Int) := by omega
    have e2 : (((L.length + t.size + u.size : Nat) : Int) - 1) = ((L.length + t.size + u.size - 1 : Nat) : Int) := by omega
    rw [e, e2]
    have r2 := u.rep (L ++ t.spread L.length) (L.length + t.size + u.size - 1) (by rw [List.length_append, l])
    rw [List.length_append, l] at r2
    exact .bo (get_at _ (by rw [List.length_append, List.length_append, l, l2]; omega)) (((t.rep L _ rfl).app _).app _) (r2.app _)
/-- the words have no space in them, and there are few -/
theorem wd_sp (a : Wd) : 32 ∉ a.str.cps.toList := by cases a <;> decide +kernel
theorem wd_len (a : Wd) : a.str.length ≤ 5 := by cases a <;> decide +kernel
theorem semi_sp : 32 ∉ semi.cps.toList := by decide +kernel
theorem semi_len : semi.length = 1 := by decide +kernel
theorem Tr.words_ok : ∀ t : Tr, t.ok → ∀ w ∈ t.words, 32 ∉ w.cps.toList ∧ w.length ≤ 5
  | .be ns c, h, w, hw => by
    obtain ⟨⟨_, h1⟩, h2, h3⟩ := h
    have k1 := wd_sp .be
    have k2 := wd_len .be
    have k3 := semi_sp
    have k4 := semi_len
    have k5 := num_ok h2 h3
    unfold Tr.words at hw
    simp only [List.mem_cons, List.mem_append, List.mem_map, List.not_mem_nil, or_false] at hw
    rcases hw with rfl | ⟨n, hn, rfl⟩ | rfl | rfl
    · exact ⟨k1, k2⟩
    · have := h1 n hn
      have k := num_ok (n := n) (by omega) (by omega)
      exact ⟨k.sp, by have := k.l; omega⟩
    · exact ⟨k3, by omega⟩
    · exact ⟨k5.sp, by have := k5.l; omega⟩
  | .re ns m r, h, w, hw => by
    obtain ⟨⟨_, h1⟩, h2, h3, h4, h5⟩ := h
    have k1 := wd_sp .re
    have k2 := wd_len .re
    have k3 := semi_sp
    have k4 := semi_len
    have k5 := num_ok (n := m) (by omega) (by omega)
    have k6 := num_ok (n := r) (by omega) (by omega)
    unfold Tr.words at hw
    simp only [List.mem_cons, List.mem_append, List.mem_map, List.not_mem_nil, or_false] at hw
    rcases hw with rfl | ⟨n, hn, rfl⟩ | rfl | rfl | rfl
    · exact ⟨k1, k2⟩
    · have := h1 n hn
      have k := num_ok (n := n) (by omega) (by omega)
      exact ⟨k.sp, by have := k.l; omega⟩
    · exact ⟨k3, by omega⟩
    · exact ⟨k5.sp, by have := k5.l; omega⟩
    · exact ⟨k6.sp, by have := k6.l; omega⟩
  | .nt t, h, w, hw => by
    rcases List.mem_cons.mp hw with rfl | hw
    · exact ⟨wd_sp .nt, wd_len .nt⟩
    · exact t.words_ok h w hw
  | .th t, h, w, hw => by
    rcases List.mem_cons.mp hw with rfl | hw
    · exact ⟨wd_sp .th, wd_len .th⟩
    · exact t.words_ok h w hw
  | .bo t u, h, w, hw => by
    rcases List.mem_cons.mp hw with rfl | hw
    · exact ⟨wd_sp .bo, wd_len .bo⟩
    · rcases List.mem_append.mp hw with hw | hw
      · exact t.words_ok h.1 w hw
      · exact u.words_ok h.2 w hw
theorem Tr.words_len : ∀ t : Tr, t.ok → t.words.length ≤ 10 * t.size
  | .be ns c, h => by
    have := h.1.1
    unfold Tr.words Tr.size
    simp only [List.length_cons, List.length_append, List.length_map, List.length_nil]
    omega
  | .re ns m r, h => by
    have := h.1.1
    unfold Tr.words Tr.size
    simp only [List.length_cons, List.length_append, List.length_map, List.length_nil]
    omega
  | .nt t, h => by
    have := t.words_len h
    unfold Tr.words Tr.size
    rw [List.length_cons]
    omega
  | .th t, h => by
    have := t.words_len h
    unfold Tr.words Tr.size
    rw [List.length_cons]
    omega
  | .bo t u, h => by
    have := t.words_len h.1
    have := u.words_len h.2
    unfold Tr.words Tr.size
    rw [List.length_cons, List.length_append]
    omega
end K19
namespace K19
open Fx LC PM K1
open PySem (Str PyData)
/-! ### a while, unfolded -/
theorem whS_eq1 (c : FT) (body : FS) (ρ : Rho) (T : Fx.Tm) : whS c body ρ T = bindF (c ρ T) fun b T1 => if b then (match body ρ T1 with
      | some (.nx ρ2, T2) => whS c body ρ2 T2
      | some (.ct ρ2, T2) => whS c body ρ2 T2
      | some (.bk ρ2, T2) => some (.nx ρ2, T2)
      | some (.rt d, T2) => some (.rt d, T2)
      | none => none) else some (.nx ρ, T1) := by
  apply Option.ext
  intro r
  constructor
  · intro h
    obtain ⟨n, hn⟩ := whS_eq h
    cases n with
    | zero => cases hn
    | succ m =>
      unfold whL at hn
      obtain ⟨b, T1, h1, h2⟩ := bindF_eq hn
      rw [h1, bindF_some]
      cases b with
      | false => exact h2
      | true =>
        rw [if_pos rfl] at h2 ⊢
        split at h2
        · rename_i ρ2 T2 e
          try rw [e]
          exact whS_of h2
        · rename_i ρ2 T2 e
          try rw [e]
          exact whS_of h2
        · rename_i ρ2 T2 e
          try rw [e]
          exact h2
        · rename_i d T2 e
          try rw [e]
          exact h2
        · cases h2
  · intro h
    obtain ⟨b, T1, h1, h2⟩ := bindF_eq h
    cases b with
    | false => exact whS_of (n := 1) (by unfold whL; rw [h1, bindF_some]; exact h2)
    | true =>
      rw [if_pos rfl] at h2
      split at h2
      · rename_i ρ2 T2 e
        obtain ⟨n, hn⟩ := whS_eq h2
        exact whS_of (n := n + 1) (by unfold whL; rw [h1, bindF_some, if_pos rfl, e]; exact hn)
      · rename_i ρ2 T2 e
        obtain ⟨n, hn⟩ := whS_eq h2
        exact whS_of (n := n + 1) (by unfold whL; rw [h1, bindF_some, if_pos rfl, e]; exact hn)
      · rename_i ρ2 T2 e
        exact whS_of (n := 1) (by unfold whL; rw [h1, bindF_some, if_pos rfl, e]; exact h2)
      · rename_i d T2 e
        exact whS_of (n := 1) (by unfold whL; rw [h1, bindF_some, if_pos rfl, e]; exact h2)
      · cases h2
theorem comp_pure {t : Tgt} {fs : FA} {c : FT} {e : FE} {vs : List Nat} {ρ : Rho} {T : Fx.Tm} {ds xs : List D} {p : D → Bool} {g : D → D} (ht : tgIn t vs = true) (hf : fs ρ T = some (ds, T)) (hl : ds.length ≤ 16777216)
    (h : ∀ d ∈ ds, ∃ ρ1, tgD t d (wipeR ρ vs) = some ρ1 ∧ c ρ1 T = some (p d, T) ∧ (p d = true → e ρ1 T = some (g d, T))) (hx : (ds.filter p).map g = xs) : compF t fs c e vs ρ T = some (xs, T) := by
  unfold compF
  rw [if_pos ht, hf, bindF_some, compL_pure ds h [] (by rw [line_eq]; simpa using hl), hx]
  rfl
/-! ### texts -/
theorem seqD_str (T : Fx.Tm) (s : Str) : seqD T (.val (.str s)) = none := rfl
theorem lenD_str (T : Fx.Tm) {s : Str} (h : s.length ≤ 1000) : lenD T (.val (.str s)) = some (.int (s.length : Int)) := by
  unfold lenD
  rw [seqD_str]
  exact if_pos (by rw [line_eq]; omega)
theorem cut1 {s : Str} : L2.cutS s (some 1) none = ⟨(s.cps.toList.drop 1).toArray⟩ := by
  unfold L2.cutS HT.sIx
  simp only [show ((1 : Int) < 0) = False from by simp, if_false, show (1 : Int).toNat = 1 from rfl]
  have hl : s.cps.toList.length = s.length := Array.length_toList
  congr 2
  by_cases h : 1 ≤ s.length
  · rw [Nat.min_eq_left h, List.take_of_length_le (by rw [List.length_drop]; omega)]
  · have h0 : s.cps.toList = [] := List.length_eq_zero_iff.mp (by omega)
    rw [h0]
    simp
theorem slD1 (T : Fx.Tm) {s : Str} (h : s.length ≤ 1000) : slD T (.val (.str s)) (some 1) none = some (.str ⟨(s.cps.toList.drop 1).toArray⟩) := by
  unfold slD
  rw [seqD_str]
  show (if s.length ≤ PySem.sizeLine then some (D.str (L2.cutS s (some 1) none)) else none) = _
  rw [if_pos (by rw [line_eq]; omega), cut1]
theorem eqD_str {a b : Str} (h1 : PyData.strOk a = true) (h2 : PyData.strOk b = true) : eqD (.str a) (.str b) = some (.bl (a == b)) := by
  unfold eqD eqB
  simp only [toPy, shp_str h1, shp_str h2, Bool.and_self, if_true, PySem.PyData.eqv, Option.map_some]
theorem neD_str {a b : Str} (h1 : PyData.strOk a = true) (h2 : PyData.strOk b = true) : neD (.str a) (.str b) = some (.bl !(a == b)) := by
  unfold neD eqB
  simp only [toPy, shp_str h1, shp_str h2, Bool.and_self, if_true, PySem.PyData.eqv, Option.map_some]
theorem dig_len {s : Str} (h : s.length ≤ 1000) : (dig s).length ≤ 1000 := by
  unfold dig
  split
  · show (s.cps.toList.drop 1).toArray.size ≤ 1000
    rw [List.size_toArray, List.length_drop, Array.length_toList]
    have : s.cps.size = s.length := rfl
    omega
  · exact h
theorem ok_zero : PyData.strOk (Str.ofString "0") = true := by decide +kernel
theorem ok_semi : PyData.strOk (Str.ofString ";") = true := by decide +kernel
local macro_rules | `(tactic| walk_at "wk") => `(tactic| simp only [runB, seqS, nilS, asgF, retF, ifS, ifE, testF, notT, orT, andT, andV, orV, chF, binF, varF, varO, constF, ofF, bindF_some, consF, nilF, callF, augF, appF, ownF, lstF, itU, tupF, tofF, frzF, unpF, parF, brkS, negF, setN, tgD, blF, ixF, lenF, slF, bSo, bNo, forS, m1F, allF, startsD, iiF_int, ctt_eq, eqD_int, addD_int, LC.seqD_lst,
  List.map_cons, List.map_nil, List.cons_append, List.nil_append, List.length_cons, List.length_nil, List.replicate_succ, List.replicate_zero, List.getElem?_cons_zero, List.getElem?_cons_succ, List.set_cons_zero, List.set_cons_succ, Option.map_some, if_true, Nat.reduceAdd, Nat.reduceSub, Bool.false_eq_true, if_false, Bool.and_self, Bool.not_true, Bool.not_false, *])
theorem comp_dig (s : Str) (h : s.length ≤ 1000) (x0 : Sl) (T : Fx.Tm) : compF (.nm 2) (itU2 (varF 1)) (yesT) (binF inSD (varF 2) (constF (.str (Str.ofString "0123456789")))) [2] [x0, .dat (.str s), .un] T = some ((s.cps.toList.map fun c => decide (c ∈ (Str.ofString "0123456789").cps.toList)).map D.bl, T) := by
  refine comp_pure (ds := chars s) (p := fun _ => true) (g := fun d => match d with | .str z => (match z.cps.toList with | [c] => .bl (decide (c ∈ (Str.ofString "0123456789").cps.toList)) | _ => .non) | _ => .non) rfl rfl (by unfold chars; rw [List.length_map, Array.length_toList]; have : s.cps.size = s.length := rfl; omega) (fun d hd => ?_) ?_
  · unfold chars at hd
    obtain ⟨c, hc, rfl⟩ := List.mem_map.mp hd
    exact ⟨[x0, .dat (.str s), .dat (.str ⟨#[c]⟩)], rfl, rfl, fun _ => rfl⟩
  · rw [List.filter_eq_self.mpr (fun _ _ => rfl)]
    unfold chars
    rw [List.map_map, List.map_map]
    rfl
theorem is_number_run {s : Str} (h : s.length ≤ 1000) (ok : PyData.strOk s = true) (T : Fx.Tm) : h_is_number [.str s] T = some (.bl (numB s), T) := by
  have e1 := slD1 T h
  have e2 := lenD_str T (dig_len h)
  have e3 := comp_dig (dig s) (dig_len h) (.dat (.str s)) T
  have e4 := eqD_str ok ok_zero
  have e5 := bls_map ((dig s).cps.toList.map fun c => decide (c ∈ (Str.ofString "0123456789").cps.toList))
  have e6 : ((dig s).cps.toList.map fun c => decide (c ∈ (Str.ofString "0123456789").cps.toList)).all id = (dig s).cps.toList.all fun c => decide (c ∈ (Str.ofString "0123456789").cps.toList) := by rw [List.all_map]; rfl
  have first : ∀ (k : FS) (T : Fx.Tm), seqS (asgF 1 (ifE (testF (m1F startsD (varF 0) (constF (.str (Str.ofString "-"))))) (slF (varO 0) (bSo (constF (.int 1))) (bNo)) (varF 0))) k [.dat (.str s), .un, .un] T = k [.dat (.str s), .dat (.str (dig s)), .un] T := fun k T => by
    have e1 := slD1 T h
    unfold dig
    cases q : PySem.Txt.startswith s (Str.ofString "-") <;> (clear h ok e2 e3 e4 e5 e6; walk_at "wk")
  unfold h_is_number g_is_number numB
  show (match (seqS _ _ : FS) [.dat (.str s), .un, .un] T with | some (.rt d, T') => some (d, T') | some (.nx _, T') => some (.non, T') | _ => none) = _
  rw [first]
  generalize (dig s).cps.toList.map (fun c => decide (c ∈ (Str.ofString "0123456789").cps.toList)) = bs at *
  generalize hb : (dig s).cps.toList.all (fun c => decide (c ∈ (Str.ofString "0123456789").cps.toList)) = b at *
  clear e1 h ok first
  cases c1 : decide ((1 : Int) ≤ ((dig s).length : Int)) with
  | false => walk_at "wk"; rfl
  | true =>
    cases c2 : decide (((dig s).length : Int) ≤ 2) with
    | false => walk_at "wk"; rfl
    | true =>
      cases b with
      | false => walk_at "wk"; rfl
      | true =>
        cases c3 : PySem.Txt.startswith (dig s) (Str.ofString "0") <;> (walk_at "wk") <;> rfl
end K19
namespace K19
open Fx LC PM K1
open PySem (Str PyData)
/-! ### the reader's methods -/
def RO (ws : List Str) (p : Nat) (l : Nat) : MO := .ins "Reading" [("words", .lst (ws.map D.str)), ("at", .int (p : Int)), ("lines", .ob l)]
theorem f_at {T : Fx.Tm} {r : Nat} {ws : List Str} {p l : Nat} (h : T[r]? = some (RO ws p l)) : fldD T ["Reading"] "at" (.ob r) = some (.int (p : Int)) := by
  unfold fldD
  simp only [h, RO]
  rfl
theorem f_words {T : Fx.Tm} {r : Nat} {ws : List Str} {p l : Nat} (h : T[r]? = some (RO ws p l)) : fldD T ["Reading"] "words" (.ob r) = some (.lst (ws.map D.str)) := by
  unfold fldD
  simp only [h, RO]
  rfl
theorem f_lines {T : Fx.Tm} {r : Nat} {ws : List Str} {p l : Nat} (h : T[r]? = some (RO ws p l)) : fldD T ["Reading"] "lines" (.ob r) = some (.ob l) := by
  unfold fldD
  simp only [h, RO]
  rfl
theorem set_same {α : Type} {T : List α} {r : Nat} {x : α} (h : T[r]? = some x) : T.set r x = T := by
  apply List.ext_getElem?
  intro i
  by_cases e : r = i
  · subst e
    rw [List.getElem?_set_self (List.getElem?_eq_some_iff.mp h).1, h]
  · rw [List.getElem?_set_ne e]
theorem set_at {α : Type} {T : List α} {r : Nat} {x y : α} (h : T[r]? = some x) : (T.set r y)[r]? = some y := List.getElem?_set_self (List.getElem?_eq_some_iff.mp h).1
theorem inc_at {T : Fx.Tm} {r : Nat} {ws : List Str} {p l : Nat} (h : T[r]? = some (RO ws p l)) {ρ : Rho} (h0 : ρ[0]? = some (.dat (.ob r))) : fldA ["Reading"] "at" (fun i j => i + j) (varF 0) (constF (.int 1)) ρ T = some (.nx ρ, T.set r (RO ws (p + 1) l)) := by
  unfold fldA
  simp only [varF, h0, bindF_some, h, RO, constF]
  rfl
theorem dr {α : Type} {ws : List α} {p : Nat} {w : α} {r : List α} (h : ws.drop p = w :: r) : ws[p]? = some w ∧ ws.drop (p + 1) = r := by
  constructor
  · have := List.getElem?_drop (xs := ws) (i := p) (j := 0)
    rw [h, Nat.add_zero] at this
    exact this.symm
  · rw [← List.drop_drop, h]
    rfl
theorem ix_words (T : Fx.Tm) {ws : List Str} {p : Nat} {w : Str} (h : ws[p]? = some w) : ixD T (.val (.lst (ws.map D.str))) (.int (p : Int)) = some (.str w) := by
  have hp := (List.getElem?_eq_some_iff.mp h).1
  rw [ixD_lst, atI_nn (by omega) (by rw [List.length_map]; omega), Int.toNat_natCast, List.getElem?_map, h]
  rfl
local macro_rules | `(tactic| walk_at "wk") => `(tactic| simp only [runB, seqS, nilS, asgF, retF, ifS, ifE, testF, notT, orT, andT, andV, orV, chF, binF, varF, varO, constF, ofF, bindF_some, consF, nilF, callF, augF, appF, ownF, lstF, itU, tupF, tofF, frzF, unpF, parF, brkS, negF, setN, tgD, blF, ixF, lenF, slF, bSo, bNo, forS, m1F, allF, fldF, startsD, iiF_int, ctt_eq, eqD_int, addD_int, LC.seqD_lst, lenD_lst,
  List.map_cons, List.map_nil, List.cons_append, List.nil_append, List.length_cons, List.length_nil, List.replicate_succ, List.replicate_zero, List.getElem?_cons_zero, List.getElem?_cons_succ, List.set_cons_zero, List.set_cons_succ, Option.map_some, if_true, Nat.reduceAdd, Nat.reduceSub, Bool.false_eq_true, if_false, Bool.and_self, Bool.not_true, Bool.not_false, *])
theorem next_run {T : Fx.Tm} {r : Nat} {ws : List Str} {p l : Nat} (h : T[r]? = some (RO ws p l)) {w : Str} (hw : ws[p]? = some w) : h_Reading_next_word [.ob r] T = some (.str w, T) := by
  have hp := (List.getElem?_eq_some_iff.mp hw).1
  have e1 := f_at h
  have e2 := f_words h
  have e3 := ix_words T hw
  have e4 : decide (((ws.map D.str).length : Int) ≤ (p : Int)) = false := decide_eq_false (by rw [List.length_map]; omega)
  unfold h_Reading_next_word g_Reading_next_word
  clear h hw hp
  walk_at "wk"
theorem mth {c m : String} {h : HF} {fa : FA} {ρ : Rho} {T : Fx.Tm} {r : Nat} {fs : List (String × D)} {ds : List D} (h1 : ρ[0]? = some (.dat (.ob r))) (h2 : T[r]? = some (.ins c fs)) (h3 : (fs.lookup m).isNone = true) (h4 : fa ρ T = some (ds, T)) : methF c m h (varF 0) fa ρ T = h (.ob r :: ds) T := by
  unfold methF
  simp only [varF, h1, bindF_some, h2, h3, h4, and_self, if_true]
theorem no_meth (ws : List Str) (p l : Nat) (m : String) (h1 : (m == "words") = false) (h2 : (m == "at") = false) (h3 : (m == "lines") = false) : (List.lookup m [("words", D.lst (ws.map D.str)), ("at", .int (p : Int)), ("lines", .ob l)]).isNone = true := by
  simp only [List.lookup_cons, h1, h2, h3, List.lookup_nil, Option.isNone_none]
theorem mth_r {m : String} {h : HF} {fa : FA} {ρ : Rho} {T : Fx.Tm} {r : Nat} {ws : List Str} {p l : Nat} {ds : List D} (hT : T[r]? = some (RO ws p l)) (h1 : ρ[0]? = some (.dat (.ob r))) (h4 : fa ρ T = some (ds, T)) (m1 : (m == "words") = false := by decide) (m2 : (m == "at") = false := by decide) (m3 : (m == "lines") = false := by decide) : methF "Reading" m h (varF 0) fa ρ T = h (.ob r :: ds) T :=
  mth h1 hT (no_meth ws p l m m1 m2 m3) h4
theorem read_number_run {T : Fx.Tm} {r : Nat} {ws : List Str} {p l : Nat} (h : T[r]? = some (RO ws p l)) {n : Int} (hw : ws[p]? = some (sI n)) (n1 : -99 ≤ n) (n2 : n ≤ 99) {low high : Int} (b1 : low ≤ n) (b2 : n ≤ high) :
    h_Reading_read_number [.ob r, .int low, .int high] T = some (.int n, T.set r (RO ws (p + 1) l)) := by
  have k := num_ok n1 n2
  have e1 := next_run h hw
  have e2 := is_number_run (s := sI n) (by have := k.l; omega) k.ok T
  rw [k.b] at e2
  have e3 : intTD [.str (sI n)] = some (.int n) := by
    unfold intTD
    simp only [k.i]
    exact if_pos (dc_of (by have := k.l; omega))
  have d1 : decide (low ≤ n) = true := decide_eq_true b1
  have d2 : decide (n ≤ high) = true := decide_eq_true b2
  have m1 := mth_r (m := "next_word") (h := h_Reading_next_word) (fa := nilF) (ρ := [.dat (.ob r), .dat (.int low), .dat (.int high), .un]) h rfl rfl
  have m2 := inc_at h (ρ := [.dat (.ob r), .dat (.int low), .dat (.int high), .dat (.str (sI n))]) rfl
  unfold h_Reading_read_number g_Reading_read_number
  clear k h hw n1 n2 b1 b2
  walk_at "wk"
noncomputable def rfC : FT := testF (binF neD (methF "Reading" "next_word" h_Reading_next_word (varF 0) (nilF)) (constF (.str (Str.ofString ";"))))
noncomputable def rfB : FS := seqS (ifS (testF (binF eqD (lenF (varO 1)) (constF (.int 6)))) (neverS) (nilS))
      (appF 1 (methF "Reading" "read_number" h_Reading_read_number (varF 0) (consF (negF (constF (.int 9))) (consF (constF (.int 9)) (nilF)))))
theorem read_factors_eq : g_Reading_read_factors = seqS (ownF 1 (lstF (nilF))) (seqS (whS rfC rfB)
      (seqS (fldA ["Reading"] "at" (fun i j => i + j) (varF 0) (constF (.int 1)))
      (retF (ofF (tofF (varO 1)))))) := rfl
theorem rfC_run {T : Fx.Tm} {r : Nat} {ws : List Str} {p l : Nat} (h : T[r]? = some (RO ws p l)) {w : Str} (hw : ws[p]? = some w) (ok : PyData.strOk w = true) (x1 : Sl) : rfC [.dat (.ob r), x1] T = some (!(w == Str.ofString ";"), T) := by
  have e1 := next_run h hw
  have e2 := neD_str ok ok_semi
  have m1 := mth_r (m := "next_word") (h := h_Reading_next_word) (fa := nilF) (ρ := [.dat (.ob r), x1]) h rfl rfl
  unfold rfC
  clear h hw ok
  walk_at "wk"
theorem rf_loop {r l : Nat} {ws : List Str} : ∀ (ns : List Int) (acc : List Int) (p : Nat) (T : Fx.Tm) (rest : List Str), T[r]? = some (RO ws p l) → ws.drop p = ns.map sI ++ semi :: rest → acc.length + ns.length ≤ 6 → (∀ n ∈ ns, -9 ≤ n ∧ n ≤ 9) →
    whS rfC rfB [.dat (.ob r), .own (acc.map D.int)] T = some (.nx [.dat (.ob r), .own ((acc ++ ns).map D.int)], T.set r (RO ws (p + ns.length) l))
  | [], acc, p, T, rest, h, hw, hl, hn => by
    have c := rfC_run h (dr hw).1 ok_semi (.own (acc.map D.int))
    rw [show (semi == Str.ofString ";") = true from beq_self_eq_true _] at c
    rw [whS_eq1, c, bindF_some, List.append_nil, show p + ([] : List Int).length = p from rfl, set_same h]
    rfl
  | n :: ns, acc, p, T, rest, h, hw, hl, hn => by
    rw [List.length_cons] at hl
    have hn1 := hn n List.mem_cons_self
    have k := num_ok (n := n) (by omega) (by omega)
    obtain ⟨w1, w2⟩ := dr (show ws.drop p = sI n :: (ns.map sI ++ semi :: rest) from hw)
    have c := rfC_run h w1 k.ok (.own (acc.map D.int))
    rw [k.ne] at c
    have e1 := read_number_run h w1 (by omega) (by omega) (low := -9) (high := 9) (by omega) (by omega)
    have ih := rf_loop ns (acc ++ [n]) (p + 1) (T.set r (RO ws (p + 1) l)) rest (set_at h) w2 (by rw [List.length_append, List.length_singleton]; omega) (fun m hm => hn m (List.mem_cons_of_mem _ hm))
    have bd : rfB [.dat (.ob r), .own (acc.map D.int)] T = some (.nx [.dat (.ob r), .own ((acc ++ [n]).map D.int)], T.set r (RO ws (p + 1) l)) := by
      have d1 : decide (((acc.map D.int).length : Int) = 6) = false := decide_eq_false (by rw [List.length_map]; omega)
      have l1 : (acc.map D.int).length < PySem.sizeLine := by rw [line_eq, List.length_map]; omega
      have e3 : (acc ++ [n]).map D.int = acc.map D.int ++ [.int n] := by rw [List.map_append]; rfl
      have m1 := mth_r (m := "read_number") (h := h_Reading_read_number) (fa := consF (negF (constF (.int 9))) (consF (constF (.int 9)) (nilF))) (ρ := [.dat (.ob r), .own (acc.map D.int)]) (ds := [.int (-9), .int 9]) h rfl rfl
      have o1 : lenD T (.own 1 (acc.map D.int)) = some (.int ((acc.map D.int).length : Int)) := rfl
      unfold rfB
      rw [e3]
      clear ih c w1 w2 k hn1 hl hn h hw e3
      walk_at "wk"
    rw [whS_eq1, c, bindF_some, Bool.not_false, if_pos rfl, bd]
    simp only
    rw [ih, List.set_set, List.append_assoc, List.length_cons, show p + 1 + ns.length = p + (ns.length + 1) by omega]
    rfl
theorem read_factors_run {r l : Nat} {ws : List Str} {ns : List Int} {p : Nat} {T : Fx.Tm} {rest : List Str} (h : T[r]? = some (RO ws p l)) (hw : ws.drop p = ns.map sI ++ semi :: rest) (hn : facB ns) :
    h_Reading_read_factors [.ob r] T = some (eI ns, T.set r (RO ws (p + ns.length + 1) l)) := by
  have e1 := rf_loop (r := r) (l := l) ns [] p T rest h hw (by have := hn.1; simp; omega) hn.2
  have e2 := inc_at (ρ := [.dat (.ob r), .own (ns.map D.int)]) (set_at (y := RO ws (p + ns.length) l) h) rfl
  rw [List.set_set] at e2
  have l0 : (0 : Nat) ≤ PySem.sizeLine := Nat.zero_le _
  have e3 : ∀ T, seqD T (.own 1 (ns.map D.int)) = some (false, ns.map D.int) := fun _ => rfl
  have e4 : D.tup (ns.map D.int) = eI ns := rfl
  rw [show (([] : List Int).map D.int) = [] from rfl, List.nil_append] at e1
  unfold h_Reading_read_factors
  rw [read_factors_eq]
  clear h hw hn
  walk_at "wk"
theorem w_neD (a b : Wd) : neD (.str a.str) (.str b.str) = some (.bl (!decide (a = b))) := neD_w a b
theorem w_eqD (a b : Wd) : eqD (.str a.str) (.str b.str) = some (.bl (decide (a = b))) := eqD_w a b
theorem read_below_run {r l : Nat} {ws : List Str} {ns : List Int} {c : Int} {p : Nat} {T : Fx.Tm} {rest : List Str} (h : T[r]? = some (RO ws p l)) (hw : ws.drop p = Wd.be.str :: (ns.map sI ++ [semi, sI c] ++ rest)) (hn : facB ns) (c1 : -99 ≤ c) (c2 : c ≤ 99) :
    h_Reading_read_comparison [.ob r, .str Wd.be.str] T = some (Line.d (some (.be, [.t ns, .i c])), T.set r (RO ws (p + ns.length + 3) l)) := by
  obtain ⟨w1, w2⟩ := dr hw
  rw [List.append_assoc] at w2
  have e1 := inc_at (ρ := [.dat (.ob r), .dat (.str Wd.be.str), .un, .un]) h rfl
  have h2 : (T.set r (RO ws (p + 1) l))[r]? = some (RO ws (p + 1) l) := set_at h
  have e2 := read_factors_run (rest := sI c :: rest) h2 w2 hn
  rw [List.set_set] at e2
  have h3 : (T.set r (RO ws (p + 1 + ns.length + 1) l))[r]? = some (RO ws (p + 1 + ns.length + 1) l) := set_at h
  have w3 : ws[p + 1 + ns.length + 1]? = some (sI c) := by
    have : ws.drop (p + 1 + ns.length) = semi :: sI c :: rest := by
      rw [← List.drop_drop, w2, List.drop_left' (by rw [List.length_map])]
      rfl
    exact (dr (dr this).2).1
  have e3 := read_number_run h3 w3 c1 c2 (low := -99) (high := 99) c1 c2
  rw [List.set_set] at e3
  have m1 := mth_r (m := "read_factors") (h := h_Reading_read_factors) (fa := nilF) (ρ := [.dat (.ob r), .dat (.str Wd.be.str), .un, .un]) h2 rfl rfl
  have m2 := mth_r (m := "read_number") (h := h_Reading_read_number) (fa := consF (negF (constF (.int 99))) (consF (constF (.int 99)) (nilF))) (ρ := [.dat (.ob r), .dat (.str Wd.be.str), .dat (eI ns), .un]) (ds := [.int (-99), .int 99]) h3 rfl rfl
  have q1 : neD (.str Wd.be.str) (.str Wd.be.str) = some (.bl false) := w_neD .be .be
  have q2 : eqD (.str Wd.be.str) (.str Wd.be.str) = some (.bl true) := w_eqD .be .be
  have l3 : (0 + 1 + 1 + 1 : Nat) ≤ PySem.sizeLine := by rw [line_eq]; omega
  have t1 : p + 1 + ns.length + 1 + 1 = p + ns.length + 3 := by omega
  rw [t1] at e3
  have ld : Line.d (some (.be, [.t ns, .i c])) = D.tup [.str Wd.be.str, eI ns, .int c] := rfl
  have wb : Str.ofString "below" = Wd.be.str := rfl
  have wr : Str.ofString "rest" = Wd.re.str := rfl
  unfold h_Reading_read_comparison g_Reading_read_comparison
  rw [ld]
  clear w1 w2 w3 h h2 h3 hw hn c1 c2 t1 ld
  rw [wb, wr]
  walk_at "wk"
theorem read_rest_run {r l : Nat} {ws : List Str} {ns : List Int} {m c : Int} {p : Nat} {T : Fx.Tm} {rest : List Str} (h : T[r]? = some (RO ws p l)) (hw : ws.drop p = Wd.re.str :: (ns.map sI ++ [semi, sI m, sI c] ++ rest)) (hn : facB ns) (m1 : 1 ≤ m) (m2 : m ≤ 12) (c1 : 0 ≤ c) (c2 : c < m) :
    h_Reading_read_comparison [.ob r, .str Wd.re.str] T = some (Line.d (some (.re, [.t ns, .i m, .i c])), T.set r (RO ws (p + ns.length + 4) l)) := by
  obtain ⟨w1, w2⟩ := dr hw
  rw [List.append_assoc] at w2
  have e1 := inc_at (ρ := [.dat (.ob r), .dat (.str Wd.re.str), .un, .un]) h rfl
  have h2 : (T.set r (RO ws (p + 1) l))[r]? = some (RO ws (p + 1) l) := set_at h
  have e2 := read_factors_run (rest := sI m :: sI c :: rest) h2 w2 hn
  rw [List.set_set] at e2
  have h3 : (T.set r (RO ws (p + 1 + ns.length + 1) l))[r]? = some (RO ws (p + 1 + ns.length + 1) l) := set_at h
  have w0 : ws.drop (p + 1 + ns.length) = semi :: sI m :: sI c :: rest := by
    rw [← List.drop_drop, w2, List.drop_left' (by rw [List.length_map])]
    rfl
  have w3 := (dr (dr w0).2).1
  have w4 := (dr (dr (dr w0).2).2).1
  have e3 := read_number_run h3 w3 (by omega) (by omega) (low := 1) (high := 12) (by omega) (by omega)
  rw [List.set_set] at e3
  have h4 : (T.set r (RO ws (p + 1 + ns.length + 1 + 1) l))[r]? = some (RO ws (p + 1 + ns.length + 1 + 1) l) := set_at h
  have e4 := read_number_run h4 w4 (by omega) (by omega) (low := 0) (high := m - 1) (by omega) (by omega)
  rw [List.set_set] at e4
  have k1 := mth_r (m := "read_factors") (h := h_Reading_read_factors) (fa := nilF) (ρ := [.dat (.ob r), .dat (.str Wd.re.str), .un, .un]) h2 rfl rfl
  have k2 := mth_r (m := "read_number") (h := h_Reading_read_number) (fa := consF (constF (.int 1)) (consF (constF (.int 12)) (nilF))) (ρ := [.dat (.ob r), .dat (.str Wd.re.str), .dat (eI ns), .un]) (ds := [.int 1, .int 12]) h3 rfl rfl
  have k3 := mth_r (m := "read_number") (h := h_Reading_read_number) (fa := consF (constF (.int 0)) (consF (binF subD (varF 3) (constF (.int 1))) (nilF))) (ρ := [.dat (.ob r), .dat (.str Wd.re.str), .dat (eI ns), .dat (.int m)]) (ds := [.int 0, .int (m - 1)]) h4 rfl rfl
  have q1 : neD (.str Wd.re.str) (.str Wd.be.str) = some (.bl true) := w_neD .re .be
  have q1' : neD (.str Wd.re.str) (.str Wd.re.str) = some (.bl false) := w_neD .re .re
  have q2 : eqD (.str Wd.re.str) (.str Wd.be.str) = some (.bl false) := w_eqD .re .be
  have l4 : (0 + 1 + 1 + 1 + 1 : Nat) ≤ PySem.sizeLine := by rw [line_eq]; omega
  have t1 : p + 1 + ns.length + 1 + 1 + 1 = p + ns.length + 4 := by omega
  rw [t1] at e4
  have ld : Line.d (some (.re, [.t ns, .i m, .i c])) = D.tup [.str Wd.re.str, eI ns, .int m, .int c] := rfl
  have wb : Str.ofString "below" = Wd.be.str := rfl
  have wr : Str.ofString "rest" = Wd.re.str := rfl
  unfold h_Reading_read_comparison g_Reading_read_comparison
  rw [ld]
  clear w0 w1 w2 w3 w4 h h2 h3 h4 hw hn c1 c2 m1 m2 t1 ld
  rw [wb, wr]
  walk_at "wk"
end K19
namespace K19
open Fx LC PM K1
open PySem (Str PyData)
/-! ### the reader's loop -/
noncomputable def innerC : FT := testF (binF gtD (lenF (varO 1)) (constF (.int 0)))
noncomputable def innerB : FS := seqS (unpF (.tp [2, 3]) (ixF (varO 1) (negF (constF (.int 1)))))
      (seqS (dropF (appOF (varF 3) (binF subD (lenF (ofF (fldF ["Reading"] "lines" (varF 0)))) (constF (.int 1)))))
      (seqS (ifS (testF (binF ltD (lenF (varO 3)) (ixTF tb_NAMED (varF 2)))) (brkS) (nilS))
      (seqS (dropF (popF (varF 1)))
      (dropF (appOF (fldF ["Reading"] "lines" (varF 0)) (binF addD (tupF (consF (varF 2) (nilF))) (tofF (varO 3))))))))
noncomputable def finS : FS := ifS (testF (binF eqD (lenF (varO 1)) (constF (.int 0)))) (retF (ofF (tofF (ofF (fldF ["Reading"] "lines" (varF 0)))))) (nilS)
noncomputable def outB : FS := seqS (asgF 2 (methF "Reading" "next_word" h_Reading_next_word (varF 0) (nilF)))
      (seqS (ifS (testF (inTF tb_NAMED (varF 2))) (seqS (dropF (appOF (varF 1) (tupF (consF (varF 2) (consF (objE (lstF (nilF))) (nilF))))))
      (seqS (fldA ["Reading"] "at" (fun i j => i + j) (varF 0) (constF (.int 1)))
      (cntS))) (nilS))
      (seqS (dropF (appOF (fldF ["Reading"] "lines" (varF 0)) (methF "Reading" "read_comparison" h_Reading_read_comparison (varF 0) (consF (varF 2) (nilF)))))
      (seqS (whS innerC innerB) finS)))
theorem read_eq : g_Reading_read = seqS (objF 1 (lstF (nilF))) (whS (testF (constF (.bl true))) outB) := rfl
noncomputable def outW : FS := whS (testF (constF (.bl true))) outB
noncomputable def cont : FS := fun ρ T => match seqS (whS innerC innerB) finS ρ T with
      | some (.nx ρ2, T2) => outW ρ2 T2
      | some (.ct ρ2, T2) => outW ρ2 T2
      | some (.bk ρ2, T2) => some (.nx ρ2, T2)
      | some (.rt d, T2) => some (.rt d, T2)
      | none => none
/-- where the reader stands -/
structure At (T : Fx.Tm) (r l b : Nat) (ws : List Str) (p : Nat) (ls : List Line) (B : List D) : Prop where
  hr : T[r]? = some (RO ws p l)
  hl : T[l]? = some (.lst (ls.map Line.d))
  hb : T[b]? = some (.lst B)
  rl : r ≠ l
  rb : r ≠ b
  lb : l ≠ b
def Keep (T T' : Fx.Tm) (r l b : Nat) : Prop := T.length ≤ T'.length ∧ ∀ j, j < T.length → j ≠ r → j ≠ l → j ≠ b → T'[j]? = T[j]?
local macro_rules | `(tactic| walk_at "wk") => `(tactic| simp only [seqS, nilS, brkS, cntS, asgF, retF, ifS, testF, binF, varF, varO, constF, ofF, bindF_some, consF, nilF, callF, lstF, tupF, tofF, unpF, negF, setN, tgD, ixF, lenF, dropF, fldF, inTF, ixTF, iiF_int, ctt_eq, eqD_int, addD_int,
  List.map_cons, List.map_nil, List.cons_append, List.nil_append, List.length_cons, List.length_nil, List.getElem?_cons_zero, List.getElem?_cons_succ, List.set_cons_zero, List.set_cons_succ, Option.map_some, Option.isSome_none, Option.isSome_some, if_true, Nat.reduceAdd, Nat.reduceSub, Bool.false_eq_true, if_false, *])
theorem ne_set {T : Fx.Tm} {i j : Nat} {x : MO} (h : i ≠ j) : (T.set i x)[j]? = T[j]? := List.getElem?_set_ne h
theorem lstO_ob {T : Fx.Tm} {k : Nat} {ds : List D} (h : T[k]? = some (.lst ds)) : lstO T (.ob k) = some (k, ds) := by
  unfold lstO
  simp only [h]
theorem seqD_ob {T : Fx.Tm} {k : Nat} {ds : List D} (h : T[k]? = some (.lst ds)) : seqD T (.val (.ob k)) = some (false, ds) := by
  unfold seqD
  simp only [h]
theorem lenD_ob {T : Fx.Tm} {k : Nat} {ds : List D} (h : T[k]? = some (.lst ds)) : lenD T (.val (.ob k)) = some (.int (ds.length : Int)) := by
  unfold lenD
  rw [seqD_ob h]
theorem app_of {fo f : FE} {ρ : Rho} {T T1 T2 : Fx.Tm} {k : Nat} {ds es : List D} {d : D} (h1 : fo ρ T = some (.ob k, T1)) (h2 : f ρ T1 = some (d, T2)) (h3 : T1[k]? = some (.lst es)) (h4 : T2[k]? = some (.lst ds)) (hl : ds.length < 1000000) : dropF (appOF fo f) ρ T = some (.nx ρ, T2.set k (.lst (ds ++ [d]))) := by
  unfold dropF appOF
  simp only [h1, bindF_some, h2, lstO_ob h3, lstO_ob h4]
  rw [if_pos (by rw [line_eq]; omega)]
  rfl
theorem tb_at {a : Wd} : tb_NAMED.lookup a.str = if a = .nt then some 1 else if a = .th then some 1 else if a = .bo then some 2 else none := by
  cases a <;> decide +kernel
theorem out_unf (ρ : Rho) (T : Fx.Tm) : outW ρ T = match outB ρ T with
      | some (.nx ρ2, T2) => outW ρ2 T2
      | some (.ct ρ2, T2) => outW ρ2 T2
      | some (.bk ρ2, T2) => some (.nx ρ2, T2)
      | some (.rt d, T2) => some (.rt d, T2)
      | none => none := by
  show whS (testF (constF (.bl true))) outB ρ T = _
  rw [whS_eq1]
  rfl
section
variable {T : Fx.Tm} {r l b p : Nat} {ws : List Str} {ls : List Line} {B : List D}
/-- a comparison is read -/
theorem out_atom (h : At T r l b ws p ls B) {w : Wd} (hw : ws[p]? = some w.str) (ht : tb_NAMED.lookup w.str = none) {x : Line} {q : Nat} (hc : h_Reading_read_comparison [.ob r, .str w.str] T = some (x.d, T.set r (RO ws q l))) (hl : ls.length < 100000) (x2 x3 : Sl) :
    outW [.dat (.ob r), .dat (.ob b), x2, x3] T = cont [.dat (.ob r), .dat (.ob b), .dat (.str w.str), x3] ((T.set r (RO ws q l)).set l (.lst ((ls ++ [x]).map Line.d))) ∧ At ((T.set r (RO ws q l)).set l (.lst ((ls ++ [x]).map Line.d))) r l b ws q (ls ++ [x]) B := by
  have e1 := next_run h.hr hw
  have m1 := mth_r (m := "next_word") (h := h_Reading_next_word) (fa := nilF) (ρ := [.dat (.ob r), .dat (.ob b), x2, x3]) h.hr rfl rfl
  have m2 := mth_r (m := "read_comparison") (h := h_Reading_read_comparison) (fa := consF (varF 2) (nilF)) (ρ := [.dat (.ob r), .dat (.ob b), .dat (.str w.str), x3]) (ds := [.str w.str]) h.hr rfl rfl
  have e2 : fldF ["Reading"] "lines" (varF 0) [.dat (.ob r), .dat (.ob b), .dat (.str w.str), x3] T = some (.ob l, T) := by
    have := f_lines h.hr
    unfold fldF
    simp only [varF, List.getElem?_cons_zero, bindF_some, this, Option.map_some]
  have e3 := app_of (fo := fldF ["Reading"] "lines" (varF 0)) (f := methF "Reading" "read_comparison" h_Reading_read_comparison (varF 0) (consF (varF 2) (nilF))) (ρ := [.dat (.ob r), .dat (.ob b), .dat (.str w.str), x3]) e2 (m2.trans hc) h.hl (by rw [ne_set h.rl]; exact h.hl) (by rw [List.length_map]; omega)
  have e4 : ls.map Line.d ++ [x.d] = (ls ++ [x]).map Line.d := map_snoc ls x
  rw [e4] at e3
  constructor
  · rw [out_unf]
    have : outB [.dat (.ob r), .dat (.ob b), x2, x3] T = seqS (whS innerC innerB) finS [.dat (.ob r), .dat (.ob b), .dat (.str w.str), x3] ((T.set r (RO ws q l)).set l (.lst ((ls ++ [x]).map Line.d))) := by
      unfold outB
      generalize seqS (whS innerC innerB) finS = K at *
      generalize dropF (appOF (fldF ["Reading"] "lines" (varF 0)) (methF "Reading" "read_comparison" h_Reading_read_comparison (varF 0) (consF (varF 2) (nilF)))) = Q at *
      clear e2 e4 m2 hc hw h
      walk_at "wk"
    rw [this]
    rfl
  · have hr : ((T.set r (RO ws q l)).set l (.lst ((ls ++ [x]).map Line.d)))[r]? = some (RO ws q l) := by rw [ne_set h.rl.symm]; exact set_at h.hr
    exact ⟨hr, set_at (x := .lst (ls.map Line.d)) (by rw [ne_set h.rl]; exact h.hl), by rw [ne_set h.lb, ne_set h.rb]; exact h.hb, h.rl, h.rb, h.lb⟩
/-- a line that names others is begun -/
theorem out_push (h : At T r l b ws p ls B) {w : Wd} (hw : ws[p]? = some w.str) {m : Int} (ht : tb_NAMED.lookup w.str = some m) (hB : B.length < 100000) (x2 x3 : Sl) :
    ∃ T', outW [.dat (.ob r), .dat (.ob b), x2, x3] T = outW [.dat (.ob r), .dat (.ob b), .dat (.str w.str), x3] T' ∧ At T' r l b ws (p + 1) ls (B ++ [.tup [.str w.str, .ob T.length]]) ∧ T'[T.length]? = some (.lst []) ∧ T'.length = T.length + 1 ∧ (∀ j, j < T.length → j ≠ r → j ≠ l → j ≠ b → T'[j]? = T[j]?) := by
  have rlt := (List.getElem?_eq_some_iff.mp h.hr).1
  have llt := (List.getElem?_eq_some_iff.mp h.hl).1
  have blt := (List.getElem?_eq_some_iff.mp h.hb).1
  have ap : ∀ j, j < T.length → (T ++ [MO.lst []])[j]? = T[j]? := fun j hj => List.getElem?_append_left hj
  have e1 := next_run h.hr hw
  have m1 := mth_r (m := "next_word") (h := h_Reading_next_word) (fa := nilF) (ρ := [.dat (.ob r), .dat (.ob b), x2, x3]) h.hr rfl rfl
  have l0 : (0 : Nat) ≤ PySem.sizeLine := Nat.zero_le _
  have l2 : (0 + 1 + 1 : Nat) ≤ PySem.sizeLine := by rw [line_eq]; omega
  have e2 : tupF (consF (varF 2) (consF (objE (lstF (nilF))) (nilF))) [.dat (.ob r), .dat (.ob b), .dat (.str w.str), x3] T = some (.tup [.str w.str, .ob T.length], T ++ [.lst []]) := by
    simp only [tupF, consF, nilF, varF, objE, lstF, List.getElem?_cons_zero, List.getElem?_cons_succ, bindF_some, List.length_cons, List.length_nil, l0, l2, if_true]
  have e3 := app_of (fo := varF 1) (f := tupF (consF (varF 2) (consF (objE (lstF (nilF))) (nilF)))) (ρ := [.dat (.ob r), .dat (.ob b), .dat (.str w.str), x3]) rfl e2 h.hb (by rw [ap b blt]; exact h.hb) (by omega)
  have hr1 : ((T ++ [MO.lst []]).set b (.lst (B ++ [.tup [.str w.str, .ob T.length]])))[r]? = some (RO ws p l) := by rw [ne_set h.rb.symm, ap r rlt]; exact h.hr
  have e4 := inc_at hr1 (ρ := [.dat (.ob r), .dat (.ob b), .dat (.str w.str), x3]) rfl
  refine ⟨((T ++ [MO.lst []]).set b (.lst (B ++ [.tup [.str w.str, .ob T.length]]))).set r (RO ws (p + 1) l), ?_, ⟨set_at hr1, ?_, ?_, h.rl, h.rb, h.lb⟩, ?_, ?_, fun j hj n1 n2 n3 => ?_⟩
  · rw [out_unf]
    have ob : outB [.dat (.ob r), .dat (.ob b), x2, x3] T = some (.ct [.dat (.ob r), .dat (.ob b), .dat (.str w.str), x3], ((T ++ [MO.lst []]).set b (.lst (B ++ [.tup [.str w.str, .ob T.length]]))).set r (RO ws (p + 1) l)) := by
      unfold outB
      generalize seqS (dropF (appOF (fldF ["Reading"] "lines" (varF 0)) (methF "Reading" "read_comparison" h_Reading_read_comparison (varF 0) (consF (varF 2) (nilF))))) (seqS (whS innerC innerB) finS) = K at *
      generalize dropF (appOF (varF 1) (tupF (consF (varF 2) (consF (objE (lstF (nilF))) (nilF))))) = Q at *
      clear e2 hr1 ap hw h l0 l2 rlt llt blt hB
      walk_at "wk"
    rw [ob]
  · rw [ne_set h.rl, ne_set h.lb.symm, ap l llt]
    exact h.hl
  · rw [ne_set h.rb]
    exact set_at (x := .lst B) (by rw [ap b blt]; exact h.hb)
  · rw [ne_set (by omega), ne_set (by omega), List.getElem?_append_right (Nat.le_refl _), Nat.sub_self]
    rfl
  · rw [List.length_set, List.length_set, List.length_append]
    rfl
  · rw [ne_set (Ne.symm n1), ne_set (Ne.symm n3), ap j hj]
/-- a named line is complete: the frame goes, its line is written -/
theorem in_pop {w : Wd} {k : Nat} {ids : List D} (h : At T r l b ws p ls (B ++ [.tup [.str w.str, .ob k]])) (hk : T[k]? = some (.lst ids)) (kr : k ≠ r) (kl : k ≠ l) (kb : k ≠ b) {m : Int} (ht : tb_NAMED.lookup w.str = some m) (hm : m ≤ (ids.length : Int) + 1) (hi : ids.length < 100) (hl : ls.length < 100000) (x2 x3 : Sl) :
    ∃ T', cont [.dat (.ob r), .dat (.ob b), x2, x3] T = cont [.dat (.ob r), .dat (.ob b), .dat (.str w.str), .dat (.ob k)] T' ∧ T'[r]? = some (RO ws p l) ∧ T'[l]? = some (.lst (ls.map Line.d ++ [.tup (.str w.str :: (ids ++ [.int ((ls.length : Int) - 1)]))])) ∧ T'[b]? = some (.lst B) ∧ T'.length = T.length ∧ (∀ j, j ≠ r → j ≠ l → j ≠ b → j ≠ k → T'[j]? = T[j]?) := by
  have e1 := ixD_lst T (B ++ [.tup [.str w.str, .ob k]]) (-1)
  have ib : ixD T (.val (.ob b)) (.int (-1)) = some (.tup [.str w.str, .ob k]) := by
    unfold ixD
    rw [seqD_ob h.hb]
    exact atI_last _ _
  have lb := lenD_ob h.hb
  have d1 : decide ((0 : Int) < (((B ++ [D.tup [.str w.str, .ob k]]).length : Nat) : Int)) = true := decide_eq_true (by have : (B ++ [D.tup [.str w.str, .ob k]]).length = B.length + 1 := List.length_append; omega)
  have f1 := f_lines h.hr
  have ll := lenD_ob h.hl
  have a1 := app_of (fo := varF 3) (f := binF subD (lenF (ofF (fldF ["Reading"] "lines" (varF 0)))) (constF (.int 1))) (ρ := [.dat (.ob r), .dat (.ob b), .dat (.str w.str), .dat (.ob k)]) (T := T) (T1 := T) (T2 := T) (k := k) (d := .int ((ls.length : Int) - 1)) rfl (by
    simp only [binF, lenF, ofF, fldF, varF, constF, bindF_some, List.getElem?_cons_zero, f1, Option.map_some, ll, iiF_int, ctt_eq, if_true, List.length_map]) hk hk (by omega)
  have kb' : (T.set k (.lst (ids ++ [.int ((ls.length : Int) - 1)])))[b]? = some (.lst (B ++ [.tup [.str w.str, .ob k]])) := by rw [ne_set kb]; exact h.hb
  have kr' : (T.set k (.lst (ids ++ [.int ((ls.length : Int) - 1)])))[r]? = some (RO ws p l) := by rw [ne_set kr]; exact h.hr
  have kl' : (T.set k (.lst (ids ++ [.int ((ls.length : Int) - 1)])))[l]? = some (.lst (ls.map Line.d)) := by rw [ne_set kl]; exact h.hl
  have kk' : (T.set k (.lst (ids ++ [.int ((ls.length : Int) - 1)])))[k]? = some (.lst (ids ++ [.int ((ls.length : Int) - 1)])) := set_at hk
  have lk := lenD_ob kk'
  have d2 : decide ((((ids ++ [D.int ((ls.length : Int) - 1)]).length : Nat) : Int) < m) = false := decide_eq_false (by rw [List.length_append]; simp; omega)
  have p1 : popF (varF 1) [.dat (.ob r), .dat (.ob b), .dat (.str w.str), .dat (.ob k)] (T.set k (.lst (ids ++ [.int ((ls.length : Int) - 1)]))) = some (.tup [.str w.str, .ob k], (T.set k (.lst (ids ++ [.int ((ls.length : Int) - 1)]))).set b (.lst B)) := by
    unfold popF
    simp only [varF, List.getElem?_cons_zero, List.getElem?_cons_succ, bindF_some, lstO_ob kb', List.dropLast_concat]
    rw [show (B ++ [D.tup [.str w.str, .ob k]])[(B ++ [D.tup [.str w.str, .ob k]]).length - 1]? = some (.tup [.str w.str, .ob k]) by simp]
  generalize hT1 : T.set k (.lst (ids ++ [.int ((ls.length : Int) - 1)])) = T1 at *
  have kr2 : (T1.set b (.lst B))[r]? = some (RO ws p l) := by rw [ne_set h.rb.symm]; exact kr'
  have kl2 : (T1.set b (.lst B))[l]? = some (.lst (ls.map Line.d)) := by rw [ne_set h.lb.symm]; exact kl'
  have kk2 : (T1.set b (.lst B))[k]? = some (.lst (ids ++ [.int ((ls.length : Int) - 1)])) := by rw [ne_set (Ne.symm kb)]; exact kk'
  have f2 := f_lines kr2
  have s2 := seqD_ob kk2
  have l1 : (0 + 1 : Nat) ≤ PySem.sizeLine := by rw [line_eq]; omega
  have ad : addD (.tup [.str w.str]) (.tup (ids ++ [.int ((ls.length : Int) - 1)])) = some (.tup (.str w.str :: (ids ++ [.int ((ls.length : Int) - 1)]))) := by
    rw [addD_tup, if_pos (by rw [line_eq, List.length_append]; simp; omega)]
    rfl
  have a2 := app_of (fo := fldF ["Reading"] "lines" (varF 0)) (f := binF addD (tupF (consF (varF 2) (nilF))) (tofF (varO 3))) (ρ := [.dat (.ob r), .dat (.ob b), .dat (.str w.str), .dat (.ob k)]) (T := T1.set b (.lst B)) (T1 := T1.set b (.lst B)) (T2 := T1.set b (.lst B)) (k := l) (d := .tup (.str w.str :: (ids ++ [.int ((ls.length : Int) - 1)]))) (by
    simp only [fldF, varF, bindF_some, List.getElem?_cons_zero, f2, Option.map_some]) (by
    simp only [binF, tupF, consF, nilF, tofF, varO, varF, bindF_some, List.getElem?_cons_zero, List.getElem?_cons_succ, s2, l1, List.length_cons, List.length_nil, if_true, ad]) kl2 kl2 (by rw [List.length_map]; omega)
  refine ⟨(T1.set b (.lst B)).set l (.lst (ls.map Line.d ++ [.tup (.str w.str :: (ids ++ [.int ((ls.length : Int) - 1)]))])), ?_, by rw [ne_set h.rl.symm]; exact kr2, set_at kl2, by rw [ne_set h.lb]; exact set_at kb', by rw [List.length_set, List.length_set, ← hT1, List.length_set], fun j n1 n2 n3 n4 => by rw [ne_set (Ne.symm n2), ne_set (Ne.symm n3), ← hT1, ne_set (Ne.symm n4)]⟩
  have key : whS innerC innerB [.dat (.ob r), .dat (.ob b), x2, x3] T = whS innerC innerB [.dat (.ob r), .dat (.ob b), .dat (.str w.str), .dat (.ob k)] ((T1.set b (.lst B)).set l (.lst (ls.map Line.d ++ [.tup (.str w.str :: (ids ++ [.int ((ls.length : Int) - 1)]))]))) := by
    rw [whS_eq1]
    have c1 : innerC [.dat (.ob r), .dat (.ob b), x2, x3] T = some (true, T) := by
      unfold innerC
      simp only [testF, binF, lenF, varO, constF, bindF_some, List.getElem?_cons_zero, List.getElem?_cons_succ, lb, Option.map_some, iiF_int, ctt_eq, if_true, d1]
    have b1 : innerB [.dat (.ob r), .dat (.ob b), x2, x3] T = some (.nx [.dat (.ob r), .dat (.ob b), .dat (.str w.str), .dat (.ob k)], (T1.set b (.lst B)).set l (.lst (ls.map Line.d ++ [.tup (.str w.str :: (ids ++ [.int ((ls.length : Int) - 1)]))]))) := by
      unfold innerB
      generalize dropF (appOF (varF 3) (binF subD (lenF (ofF (fldF ["Reading"] "lines" (varF 0)))) (constF (.int 1)))) = Q1 at *
      generalize dropF (appOF (fldF ["Reading"] "lines" (varF 0)) (binF addD (tupF (consF (varF 2) (nilF))) (tofF (varO 3)))) = Q2 at *
      clear c1 e1 f1 ll kk' kr' kl' kr2 kl2 kk2 f2 s2 ad hk kr kl kb hm hi hl h lb d1
      walk_at "wk"
    rw [c1, bindF_some, if_pos rfl, b1]
  unfold cont seqS
  rw [key]
/-- it is not complete -/
theorem in_brk {w : Wd} {k : Nat} {ids : List D} (h : At T r l b ws p ls (B ++ [.tup [.str w.str, .ob k]])) (hk : T[k]? = some (.lst ids)) (kr : k ≠ r) (kl : k ≠ l) (kb : k ≠ b) {m : Int} (ht : tb_NAMED.lookup w.str = some m) (hm : (ids.length : Int) + 1 < m) (hi : ids.length < 100) (hl : ls.length < 100000) (x2 x3 : Sl) :
    cont [.dat (.ob r), .dat (.ob b), x2, x3] T = outW [.dat (.ob r), .dat (.ob b), .dat (.str w.str), .dat (.ob k)] (T.set k (.lst (ids ++ [.int ((ls.length : Int) - 1)]))) := by
  have ib : ixD T (.val (.ob b)) (.int (-1)) = some (.tup [.str w.str, .ob k]) := by
    unfold ixD
    rw [seqD_ob h.hb]
    exact atI_last _ _
  have lb := lenD_ob h.hb
  have d1 : decide ((0 : Int) < (((B ++ [D.tup [.str w.str, .ob k]]).length : Nat) : Int)) = true := decide_eq_true (by have : (B ++ [D.tup [.str w.str, .ob k]]).length = B.length + 1 := List.length_append; omega)
  have d3 : decide ((((B ++ [D.tup [.str w.str, .ob k]]).length : Nat) : Int) = 0) = false := decide_eq_false (by rw [List.length_append]; simp; omega)
  have f1 := f_lines h.hr
  have ll := lenD_ob h.hl
  have a1 := app_of (fo := varF 3) (f := binF subD (lenF (ofF (fldF ["Reading"] "lines" (varF 0)))) (constF (.int 1))) (ρ := [.dat (.ob r), .dat (.ob b), .dat (.str w.str), .dat (.ob k)]) (T := T) (T1 := T) (T2 := T) (k := k) (d := .int ((ls.length : Int) - 1)) rfl (by
    simp only [binF, lenF, ofF, fldF, varF, constF, bindF_some, List.getElem?_cons_zero, f1, Option.map_some, ll, iiF_int, ctt_eq, if_true, List.length_map]) hk hk (by omega)
  have kb' : (T.set k (.lst (ids ++ [.int ((ls.length : Int) - 1)])))[b]? = some (.lst (B ++ [.tup [.str w.str, .ob k]])) := by rw [ne_set kb]; exact h.hb
  have kk' : (T.set k (.lst (ids ++ [.int ((ls.length : Int) - 1)])))[k]? = some (.lst (ids ++ [.int ((ls.length : Int) - 1)])) := set_at hk
  have lk := lenD_ob kk'
  have lb2 := lenD_ob kb'
  have d2 : decide ((((ids ++ [D.int ((ls.length : Int) - 1)]).length : Nat) : Int) < m) = true := decide_eq_true (by rw [List.length_append]; simp; omega)
  generalize T.set k (.lst (ids ++ [.int ((ls.length : Int) - 1)])) = T1 at *
  have c1 : innerC [.dat (.ob r), .dat (.ob b), x2, x3] T = some (true, T) := by
    unfold innerC
    simp only [testF, binF, lenF, varO, constF, bindF_some, List.getElem?_cons_zero, List.getElem?_cons_succ, lb, Option.map_some, iiF_int, ctt_eq, if_true, d1]
  have b1 : innerB [.dat (.ob r), .dat (.ob b), x2, x3] T = some (.bk [.dat (.ob r), .dat (.ob b), .dat (.str w.str), .dat (.ob k)], T1) := by
    unfold innerB
    generalize dropF (appOF (varF 3) (binF subD (lenF (ofF (fldF ["Reading"] "lines" (varF 0)))) (constF (.int 1)))) = Q1 at *
    clear c1 f1 ll kk' kb' hk kr kl kb hm hi hl h lb d1 lb2 d3
    walk_at "wk"
  have key : whS innerC innerB [.dat (.ob r), .dat (.ob b), x2, x3] T = some (.nx [.dat (.ob r), .dat (.ob b), .dat (.str w.str), .dat (.ob k)], T1) := by
    rw [whS_eq1, c1, bindF_some, if_pos rfl, b1]
  have fs : finS [.dat (.ob r), .dat (.ob b), .dat (.str w.str), .dat (.ob k)] T1 = some (.nx [.dat (.ob r), .dat (.ob b), .dat (.str w.str), .dat (.ob k)], T1) := by
    unfold finS
    simp only [ifS, nilS, testF, binF, lenF, varO, constF, bindF_some, List.getElem?_cons_zero, List.getElem?_cons_succ, lb2, Option.map_some, eqD_int, d3, Bool.false_eq_true, if_false]
  unfold cont seqS
  rw [key]
  simp only
  rw [fs]
/-- nothing is begun any more: the lines -/
theorem in_fin (h : At T r l b ws p ls []) (x2 x3 : Sl) : cont [.dat (.ob r), .dat (.ob b), x2, x3] T = some (.rt (.tup (ls.map Line.d)), T) := by
  have lb := lenD_ob h.hb
  have f1 := f_lines h.hr
  have s1 := seqD_ob h.hl
  have d1 : decide ((0 : Int) < ((([] : List D).length : Nat) : Int)) = false := rfl
  have d2 : decide (((([] : List D).length : Nat) : Int) = 0) = true := rfl
  have c1 : innerC [.dat (.ob r), .dat (.ob b), x2, x3] T = some (false, T) := by
    unfold innerC
    simp only [testF, binF, lenF, varO, constF, bindF_some, List.getElem?_cons_zero, List.getElem?_cons_succ, lb, Option.map_some, iiF_int, ctt_eq, if_true, d1]
  have key : whS innerC innerB [.dat (.ob r), .dat (.ob b), x2, x3] T = some (.nx [.dat (.ob r), .dat (.ob b), x2, x3], T) := by
    rw [whS_eq1, c1, bindF_some]
    rfl
  have fs : finS [.dat (.ob r), .dat (.ob b), x2, x3] T = some (.rt (.tup (ls.map Line.d)), T) := by
    unfold finS
    simp only [ifS, retF, ofF, tofF, fldF, testF, binF, lenF, varO, varF, constF, bindF_some, List.getElem?_cons_zero, List.getElem?_cons_succ, lb, Option.map_some, eqD_int, d2, f1, s1, if_true]
  unfold cont seqS
  rw [key]
  simp only
  rw [fs]
end
end K19
namespace K19
open Fx LC PM K1
open PySem (Str PyData)
theorem line_nt (i : Int) : Line.d (some (.nt, [.i i])) = D.tup (.str Wd.nt.str :: ([] ++ [.int i])) := rfl
theorem line_th (i : Int) : Line.d (some (.th, [.i i])) = D.tup (.str Wd.th.str :: ([] ++ [.int i])) := rfl
theorem line_bo (i j : Int) : Line.d (some (.bo, [.i i, .i j])) = D.tup (.str Wd.bo.str :: ([.int i] ++ [.int j])) := rfl
theorem tb_none {a : Wd} (h : a = .be ∨ a = .re) : tb_NAMED.lookup a.str = none := by
  rw [tb_at]
  rcases h with h | h <;> subst h <;> rfl
theorem tb_nt : tb_NAMED.lookup Wd.nt.str = some 1 := by rw [tb_at]; rfl
theorem tb_th : tb_NAMED.lookup Wd.th.str = some 1 := by rw [tb_at]; rfl
theorem tb_bo : tb_NAMED.lookup Wd.bo.str = some 2 := by rw [tb_at]; rfl
/-- one written saying is read: behind it stands the reader where a line was just written -/
def Reads (r l b : Nat) (ws : List Str) (t : Tr) : Prop := ∀ (p : Nat) (ls : List Line) (B : List D) (T : Fx.Tm) (x2 x3 : Sl) (rest : List Str), At T r l b ws p ls B → ws.drop p = t.words ++ rest → t.ok → ls.length + t.size < 10000 → B.length + t.size < 10000 →
  ∃ T' y2 y3, At T' r l b ws (p + t.words.length) (ls ++ t.spread ls.length) B ∧ Keep T T' r l b ∧ outW [.dat (.ob r), .dat (.ob b), x2, x3] T = cont [.dat (.ob r), .dat (.ob b), y2, y3] T'
theorem keep_set {T : Fx.Tm} {r l b : Nat} {x y : MO} : Keep T ((T.set r x).set l y) r l b := ⟨by rw [List.length_set, List.length_set]; exact Nat.le_refl _, fun j _ n1 n2 _ => by rw [ne_set (Ne.symm n2), ne_set (Ne.symm n1)]⟩
section
variable {r l b : Nat} {ws : List Str}
theorem reads_one {t : Tr} (ht : Reads r l b ws t) {w : Wd} (hw : tb_NAMED.lookup w.str = some 1) {p : Nat} {ls : List Line} {B : List D} {T : Fx.Tm} (x2 x3 : Sl) {rest : List Str} (h : At T r l b ws p ls B) (hd : ws.drop p = w.str :: (t.words ++ rest)) (ok : t.ok) (h1 : ls.length + (t.size + 1) < 10000) (h2 : B.length + (t.size + 1) < 10000)
    {z : Line} (hz : z.d = D.tup (.str w.str :: ([] ++ [.int ((ls.length + t.size : Nat) - 1 : Int)]))) :
    ∃ T' y2 y3, At T' r l b ws (p + (t.words.length + 1)) (ls ++ (t.spread ls.length ++ [z])) B ∧ Keep T T' r l b ∧ outW [.dat (.ob r), .dat (.ob b), x2, x3] T = cont [.dat (.ob r), .dat (.ob b), y2, y3] T' := by
  have rlt := (List.getElem?_eq_some_iff.mp h.hr).1
  have llt := (List.getElem?_eq_some_iff.mp h.hl).1
  have blt := (List.getElem?_eq_some_iff.mp h.hb).1
  obtain ⟨w1, w2⟩ := dr hd
  obtain ⟨T1, e1, A1, k1, len1, fr1⟩ := out_push h w1 hw (by omega) x2 x3
  obtain ⟨T2, y2, y3, A2, ⟨le2, fr2⟩, e2⟩ := ht (p + 1) ls (B ++ [.tup [.str w.str, .ob T.length]]) T1 (.dat (.str w.str)) x3 rest A1 w2 ok (by omega) (by rw [List.length_append]; simp; omega)
  have k2 : T2[T.length]? = some (.lst []) := by rw [fr2 _ (by omega) (by omega) (by omega) (by omega)]; exact k1
  have sl := t.spread_len ls.length
  obtain ⟨T3, e3, a1, a2, a3, len3, fr3⟩ := in_pop A2 k2 (by omega) (by omega) (by omega) hw (by simp) (by simp) (by rw [List.length_append, sl]; omega) y2 y3
  refine ⟨T3, _, _, ⟨?_, ?_, a3, h.rl, h.rb, h.lb⟩, ⟨by omega, fun j hj n1 n2 n3 => ?_⟩, e1.trans (e2.trans e3)⟩
  · rw [show p + (t.words.length + 1) = p + 1 + t.words.length by omega]
    exact a1
  · rw [a2, List.length_append, sl, ← List.append_assoc, List.map_append (l₂ := [z])]
    show some (MO.lst (_ ++ [_])) = some (MO.lst (_ ++ [z.d]))
    rw [hz]
  · rw [fr3 j n1 n2 n3 (by omega), fr2 j (by omega) n1 n2 n3, fr1 j hj n1 n2 n3]
theorem reads : ∀ t : Tr, Reads r l b ws t
  | .be ns c, p, ls, B, T, x2, x3, rest, h, hd, ok, h1, h2 => by
    obtain ⟨k1, k2, k3⟩ := ok
    have e := read_below_run (r := r) (l := l) (ns := ns) (c := c) h.hr (rest := rest) (by rw [hd]; unfold Tr.words; simp) k1 k2 k3
    have w1 : ws[p]? = some Wd.be.str := (dr (show ws.drop p = Wd.be.str :: _ from hd)).1
    obtain ⟨a1, a2⟩ := out_atom h w1 (tb_none (.inl rfl)) e (by omega) x2 x3
    refine ⟨_, _, _, ?_, keep_set, a1⟩
    rw [show (Tr.be ns c).words.length = ns.length + 3 by unfold Tr.words; simp, ← Nat.add_assoc]
    exact a2
  | .re ns m c, p, ls, B, T, x2, x3, rest, h, hd, ok, h1, h2 => by
    obtain ⟨k1, k2, k3, k4, k5⟩ := ok
    have e := read_rest_run (r := r) (l := l) (ns := ns) (m := m) (c := c) h.hr (rest := rest) (by rw [hd]; unfold Tr.words; simp) k1 k2 k3 k4 k5
    have w1 : ws[p]? = some Wd.re.str := (dr (show ws.drop p = Wd.re.str :: _ from hd)).1
    obtain ⟨a1, a2⟩ := out_atom h w1 (tb_none (.inr rfl)) e (by omega) x2 x3
    refine ⟨_, _, _, ?_, keep_set, a1⟩
    rw [show (Tr.re ns m c).words.length = ns.length + 4 by unfold Tr.words; simp, ← Nat.add_assoc]
    exact a2
  | .nt t, p, ls, B, T, x2, x3, rest, h, hd, ok, h1, h2 => reads_one (reads t) tb_nt x2 x3 h hd ok h1 h2 (line_nt _)
  | .th t, p, ls, B, T, x2, x3, rest, h, hd, ok, h1, h2 => reads_one (reads t) tb_th x2 x3 h hd ok h1 h2 (line_th _)
  | .bo t u, p, ls, B, T, x2, x3, rest, h, hd, ok, h1, h2 => by
    have rlt := (List.getElem?_eq_some_iff.mp h.hr).1
    have llt := (List.getElem?_eq_some_iff.mp h.hl).1
    have blt := (List.getElem?_eq_some_iff.mp h.hb).1
    unfold Tr.size at h1 h2
    have hd' : ws.drop p = Wd.bo.str :: (t.words ++ (u.words ++ rest)) := by
      rw [hd, show (Tr.bo t u).words = Wd.bo.str :: (t.words ++ u.words) from rfl, List.cons_append, List.append_assoc]
    obtain ⟨w1, w2⟩ := dr hd'
    obtain ⟨T1, e1, A1, k1, len1, fr1⟩ := out_push h w1 tb_bo (by omega) x2 x3
    obtain ⟨T2, y2, y3, A2, ⟨le2, fr2⟩, e2⟩ := reads t (p + 1) ls (B ++ [.tup [.str Wd.bo.str, .ob T.length]]) T1 (.dat (.str Wd.bo.str)) x3 (u.words ++ rest) A1 w2 ok.1 (by omega) (by rw [List.length_append]; simp; omega)
    have k2 : T2[T.length]? = some (.lst []) := by rw [fr2 _ (by omega) (by omega) (by omega) (by omega)]; exact k1
    have sl := t.spread_len ls.length
    have e3 := in_brk A2 k2 (by omega) (by omega) (by omega) tb_bo (by simp) (by simp) (by rw [List.length_append, sl]; omega) y2 y3
    have lA : (ls ++ t.spread ls.length).length = ls.length + t.size := by rw [List.length_append, sl]
    rw [lA] at e3
    have A3 : At (T2.set T.length (.lst ([] ++ [.int (((ls.length + t.size : Nat) : Int) - 1)]))) r l b ws (p + 1 + t.words.length) (ls ++ t.spread ls.length) (B ++ [.tup [.str Wd.bo.str, .ob T.length]]) :=
      ⟨by rw [ne_set (by omega)]; exact A2.hr, by rw [ne_set (by omega)]; exact A2.hl, by rw [ne_set (by omega)]; exact A2.hb, h.rl, h.rb, h.lb⟩
    have k3 : (T2.set T.length (.lst ([] ++ [.int (((ls.length + t.size : Nat) : Int) - 1)])))[T.length]? = some (.lst ([] ++ [.int (((ls.length + t.size : Nat) : Int) - 1)])) := set_at k2
    have l3 : (T2.set T.length (.lst ([] ++ [.int (((ls.length + t.size : Nat) : Int) - 1)]))).length = T2.length := List.length_set
    have fr3 : ∀ j, j ≠ T.length → (T2.set T.length (.lst ([] ++ [.int (((ls.length + t.size : Nat) : Int) - 1)])))[j]? = T2[j]? := fun j hj => ne_set (Ne.symm hj)
    have w3 : ws.drop (p + 1 + t.words.length) = u.words ++ rest := by rw [← List.drop_drop, w2, List.drop_left' rfl]
    generalize T2.set T.length (.lst ([] ++ [.int (((ls.length + t.size : Nat) : Int) - 1)])) = T3 at *
    obtain ⟨T4, z2, z3, A4, ⟨le4, fr4⟩, e4⟩ := reads u (p + 1 + t.words.length) (ls ++ t.spread ls.length) (B ++ [.tup [.str Wd.bo.str, .ob T.length]]) T3 (.dat (.str Wd.bo.str)) (.dat (.ob T.length)) rest A3 w3 ok.2 (by rw [lA]; omega) (by rw [List.length_append]; simp; omega)
    rw [lA] at A4
    have su := u.spread_len (ls.length + t.size)
    have k4 : T4[T.length]? = some (.lst ([] ++ [.int (((ls.length + t.size : Nat) : Int) - 1)])) := by rw [fr4 _ (by omega) (by omega) (by omega) (by omega)]; exact k3
    have lB : (ls ++ t.spread ls.length ++ u.spread (ls.length + t.size)).length = ls.length + t.size + u.size := by rw [List.length_append, lA, su]
    obtain ⟨T5, e5, a1, a2, a3, len5, fr5⟩ := in_pop A4 k4 (by omega) (by omega) (by omega) tb_bo (by simp) (by simp) (by rw [lB]; omega) z2 z3
    rw [lB] at a2
    refine ⟨T5, _, _, ⟨?_, ?_, a3, h.rl, h.rb, h.lb⟩, ⟨by omega, fun j hj n1 n2 n3 => ?_⟩, e1.trans (e2.trans (e3.trans (e4.trans e5)))⟩
    · rw [show p + (Tr.bo t u).words.length = p + 1 + t.words.length + u.words.length by rw [show (Tr.bo t u).words = Wd.bo.str :: (t.words ++ u.words) from rfl, List.length_cons, List.length_append]; omega]
      exact a1
    · have sp : (Tr.bo t u).spread ls.length = t.spread ls.length ++ u.spread (ls.length + t.size) ++ [some (.bo, [.i ((ls.length + t.size : Nat) - 1 : Int), .i ((ls.length + t.size + u.size : Nat) - 1 : Int)])] := rfl
      rw [a2, sp, ← List.append_assoc, ← List.append_assoc, List.map_append (l₂ := [some (Wd.bo, _)])]
      rfl
    · rw [fr5 j n1 n2 n3 (by omega), fr4 j (by omega) n1 n2 n3, fr3 j (by omega), fr2 j (by omega) n1 n2 n3, fr1 j hj n1 n2 n3]
end
/-- the whole text is read -/
theorem read_run {T : Fx.Tm} {r l : Nat} {t : Tr} (h1 : T[r]? = some (RO t.words 0 l)) (h2 : T[l]? = some (.lst [])) (ne : r ≠ l) (ok : t.ok) (hs : t.size ≤ 1000) :
    ∃ T', h_Reading_read [.ob r] T = some (.tup ((t.spread 0).map Line.d), T') ∧ T'[r]? = some (RO t.words t.words.length l) := by
  have rlt := (List.getElem?_eq_some_iff.mp h1).1
  have llt := (List.getElem?_eq_some_iff.mp h2).1
  have A : At (T ++ [.lst []]) r l T.length t.words 0 [] [] := ⟨by rw [List.getElem?_append_left rlt]; exact h1, by rw [List.getElem?_append_left llt]; exact h2, by rw [List.getElem?_append_right (Nat.le_refl _), Nat.sub_self]; rfl, ne, by omega, by omega⟩
  obtain ⟨T', y2, y3, A2, _, e⟩ := reads t 0 [] [] (T ++ [.lst []]) .un .un [] A (by simp) ok (by simp; omega) (by simp; omega)
  rw [List.nil_append] at A2
  have e2 := in_fin A2 y2 y3
  refine ⟨T', ?_, by have := A2.hr; rw [Nat.zero_add] at this; exact this⟩
  have e3 : whS (testF (constF (.bl true))) outB [.dat (.ob r), .dat (.ob T.length), .un, .un] (T ++ [.lst []]) = some (.rt (.tup ((t.spread 0).map Line.d)), T') := e.trans e2
  have l0 : (0 : Nat) ≤ PySem.sizeLine := Nat.zero_le _
  unfold h_Reading_read
  rw [read_eq]
  clear A A2 e e2 h1 h2 rlt llt
  simp only [runB, seqS, objF, lstF, nilF, bindF_some, l0, if_true, List.map_cons, List.map_nil, List.cons_append, List.nil_append, List.length_cons, List.length_nil, List.replicate_succ, List.replicate_zero, List.set_cons_zero, List.set_cons_succ, Nat.reduceAdd, Nat.reduceSub, e3]
end K19
namespace K19
open Fx LC PM K1
open PySem (Str PyData)
def sp_ : Str := Str.ofString " "
theorem strL (x y : Str) : (x ++ y).length = x.length + y.length := by
  have := congrArg List.length (TL.tl_append x y)
  rw [List.length_append] at this
  have e : ∀ z : Str, (TL.tl z).length = z.length := fun z => Array.length_toList
  rw [e, e, e] at this
  exact this
theorem join_len : ∀ ys : List Str, (PySem.Str.join sp_ ys).length ≤ (ys.map fun y => y.length + 1).sum
  | [] => by show (0 : Nat) ≤ _; omega
  | [y] => by show y.length ≤ _; simp
  | x :: y :: r => by
    have ih := join_len (y :: r)
    have e : PySem.Str.join sp_ (x :: y :: r) = x ++ sp_ ++ PySem.Str.join sp_ (y :: r) := rfl
    have s1 : sp_.length = 1 := by decide +kernel
    rw [e, strL, strL, s1, List.map_cons, List.sum_cons]
    omega
theorem sum_le : ∀ (ys : List Str) (k : Nat), (∀ y ∈ ys, y.length ≤ k) → (ys.map fun y => y.length + 1).sum ≤ ys.length * (k + 1) ∧ (ys.map fun y => y.length).sum ≤ ys.length * k
  | [], k, _ => by simp
  | y :: ys, k, h => by
    obtain ⟨h1, h2⟩ := sum_le ys k fun z hz => h z (List.mem_cons_of_mem _ hz)
    have := h y List.mem_cons_self
    rw [List.map_cons, List.sum_cons, List.map_cons, List.sum_cons, List.length_cons, Nat.add_mul, Nat.add_mul]
    omega
/-- the written saying -/
def Tr.text (t : Tr) : Str := PySem.Txt.join sp_ t.words
theorem words_ne (t : Tr) : t.words ≠ [] := by cases t <;> simp [Tr.words]
theorem text_split {t : Tr} (ok : t.ok) : PySem.Txt.split t.text sp_ = t.words := by
  have e : TL.tl sp_ = 32 :: [] := by decide +kernel
  refine TL.split_join e (by decide +kernel) (words_ne t) fun p hp => (t.words_ok ok p hp).1
theorem text_len {t : Tr} (ok : t.ok) (hs : t.size ≤ 1000) : t.text.length ≤ 60000 ∧ (t.words.map fun x => x.length).sum + t.words.length * sp_.length ≤ 16777216 := by
  have h := t.words_len ok
  obtain ⟨h1, h2⟩ := sum_le t.words 5 fun y hy => (t.words_ok ok y hy).2
  have h3 := join_len t.words
  have s1 : sp_.length = 1 := by decide +kernel
  have e : t.text = PySem.Str.join sp_ t.words := TL.join_eq sp_ t.words
  rw [e, s1]
  constructor <;> omega
/-! ### parsing -/
theorem mthG {c m : String} {h : HF} {fo : FE} {fa : FA} {ρ : Rho} {T : Fx.Tm} {r : Nat} {fs : List (String × D)} {ds : List D} (h1 : fo ρ T = some (.ob r, T)) (h2 : T[r]? = some (.ins c fs)) (h3 : (fs.lookup m).isNone = true) (h4 : fa ρ T = some (ds, T)) : methF c m h fo fa ρ T = h (.ob r :: ds) T := by
  unfold methF
  simp only [h1, bindF_some, h2, h3, h4, and_self, if_true]
theorem init_run (T : Fx.Tm) (ws : List Str) : h_Reading___init__ [.ob T.length, .lst (ws.map D.str)] (T ++ [.ins "Reading" []]) = some (.non, T ++ [RO ws 0 (T.length + 1), .lst []]) := by
  have at_ : ∀ x : MO, (T ++ [x])[T.length]? = some x := fun x => by rw [List.getElem?_append_right (Nat.le_refl _), Nat.sub_self]; rfl
  have at2 : ∀ x y : MO, (T ++ [x] ++ [y])[T.length]? = some x := fun x y => by rw [List.getElem?_append_left (by rw [List.length_append]; simp)]; exact at_ x
  have st : ∀ x y : MO, (T ++ [x]).set T.length y = T ++ [y] := fun x y => by rw [List.set_append_right _ _ (Nat.le_refl _), Nat.sub_self]; rfl
  have st2 : ∀ x y z : MO, (T ++ [x] ++ [z]).set T.length y = T ++ [y] ++ [z] := fun x y z => by rw [List.set_append_left _ _ (by rw [List.length_append]; simp), st]
  have l0 : (0 : Nat) ≤ PySem.sizeLine := Nat.zero_le _
  have c1 : ["Reading"].contains "Reading" = true := by decide
  have p1 : putD "words" (D.lst (ws.map D.str)) [] = [("words", .lst (ws.map D.str))] := rfl
  have p2 : putD "at" (D.int 0) [("words", .lst (ws.map D.str))] = [("words", .lst (ws.map D.str)), ("at", .int 0)] := by
    unfold putD
    rw [if_neg (by decide)]
    rfl
  have p3 : putD "lines" (D.ob (T.length + 1)) [("words", .lst (ws.map D.str)), ("at", .int 0)] = [("words", .lst (ws.map D.str)), ("at", .int 0), ("lines", .ob (T.length + 1))] := by
    unfold putD
    rw [if_neg (by decide)]
    unfold putD
    rw [if_neg (by decide)]
    rfl
  have e1 : fldS ["Reading"] "words" (varF 0) (varF 1) [.dat (.ob T.length), .dat (.lst (ws.map D.str))] (T ++ [.ins "Reading" []]) = some (.nx [.dat (.ob T.length), .dat (.lst (ws.map D.str))], T ++ [.ins "Reading" [("words", .lst (ws.map D.str))]]) := by
    unfold fldS
    simp only [varF, List.getElem?_cons_zero, List.getElem?_cons_succ, bindF_some, at_, c1, Bool.true_and, List.length_nil, show (0 : Nat) < 1000 from by omega, decide_true, if_true, p1, st]
  have e2 : fldS ["Reading"] "at" (varF 0) (constF (.int 0)) [.dat (.ob T.length), .dat (.lst (ws.map D.str))] (T ++ [.ins "Reading" [("words", .lst (ws.map D.str))]]) = some (.nx [.dat (.ob T.length), .dat (.lst (ws.map D.str))], T ++ [.ins "Reading" [("words", .lst (ws.map D.str)), ("at", .int 0)]]) := by
    unfold fldS
    simp only [varF, constF, List.getElem?_cons_zero, List.getElem?_cons_succ, bindF_some, at_, c1, Bool.true_and, List.length_cons, List.length_nil, show (0 + 1 : Nat) < 1000 from by omega, decide_true, if_true, p2, st]
  have e3 : fldS ["Reading"] "lines" (varF 0) (objE (lstF (nilF))) [.dat (.ob T.length), .dat (.lst (ws.map D.str))] (T ++ [.ins "Reading" [("words", .lst (ws.map D.str)), ("at", .int 0)]]) = some (.nx [.dat (.ob T.length), .dat (.lst (ws.map D.str))], T ++ [RO ws 0 (T.length + 1), .lst []]) := by
    have ll : (T ++ [MO.ins "Reading" [("words", .lst (ws.map D.str)), ("at", .int 0)]]).length = T.length + 1 := by rw [List.length_append]; rfl
    unfold fldS
    simp only [varF, objE, lstF, nilF, l0, if_true, List.getElem?_cons_zero, List.getElem?_cons_succ, bindF_some, ll, List.length_nil, at2, c1, Bool.true_and, List.length_cons, show (0 + 1 + 1 : Nat) < 1000 from by omega, decide_true, p3, st2]
    rw [List.append_assoc]
    rfl
  unfold h_Reading___init__ g_Reading___init__
  simp only [runB, seqS, List.map_cons, List.map_nil, List.cons_append, List.nil_append, List.length_cons, List.length_nil, List.replicate_zero, Nat.reduceAdd, Nat.reduceSub, e1, e2, e3, List.append_nil]
theorem parse_run {t : Tr} (ok : t.ok) (hs : t.size ≤ 40) (T : Fx.Tm) : ∃ T', h_parse_saying [.str t.text] T = some (.tup ((t.spread 0).map Line.d), T') := by
  have tl := text_len ok (by omega)
  have e0 : splitF (varF 0) (constF (.str (Str.ofString " "))) [.dat (.str t.text), .un, .un] T = some (t.words.map D.str, T) := by
    unfold splitF
    simp only [varF, constF, List.getElem?_cons_zero, bindF_some]
    rw [if_pos (dc_of ⟨by decide +kernel, by rw [line_eq]; omega⟩)]
    rw [show Str.ofString " " = sp_ from rfl, text_split ok]
  have e1 := init_run T t.words
  have hr : (T ++ [RO t.words 0 (T.length + 1), .lst []])[T.length]? = some (RO t.words 0 (T.length + 1)) := by rw [List.getElem?_append_right (Nat.le_refl _), Nat.sub_self]; rfl
  have hl : (T ++ [RO t.words 0 (T.length + 1), .lst []])[T.length + 1]? = some (.lst []) := by rw [List.getElem?_append_right (by omega), show T.length + 1 - T.length = 1 by omega]; rfl
  obtain ⟨T', e2, h2⟩ := read_run hr hl (by omega) ok (by omega)
  have f1 := f_at h2
  have f2 := f_words h2
  have sl := t.spread_len 0
  have d1 : decide (((t.words.length : Nat) : Int) < ((((t.words.map D.str).length : Nat)) : Int)) = false := decide_eq_false (by rw [List.length_map]; omega)
  have d2 : decide ((40 : Int) < ((((t.spread 0).map Line.d).length : Nat) : Int)) = false := decide_eq_false (by rw [List.length_map, sl]; omega)
  refine ⟨T', ?_⟩
  have mk : mkF "Reading" h_Reading___init__ (consF (frzF (splitF (varF 0) (constF (.str (Str.ofString " "))))) (nilF)) [.dat (.str t.text), .un, .un] T = some (.ob T.length, T ++ [RO t.words 0 (T.length + 1), .lst []]) := by
    unfold mkF
    simp only [consF, nilF, frzF, e0, bindF_some, e1]
  have m2 : methF "Reading" "read" h_Reading_read (varF 1) (nilF) [.dat (.str t.text), .dat (.ob T.length), .un] (T ++ [RO t.words 0 (T.length + 1), .lst []]) = some (.tup ((t.spread 0).map Line.d), T') := by
    have := mthG (c := "Reading") (m := "read") (h := h_Reading_read) (fo := varF 1) (fa := nilF) (ρ := [.dat (.str t.text), .dat (.ob T.length), .un]) (ds := []) rfl hr (no_meth t.words 0 (T.length + 1) "read" (by decide) (by decide) (by decide)) rfl
    exact this.trans e2
  unfold h_parse_saying g_parse_saying
  clear e0 e1 hr hl e2 h2 sl tl hs ok
  simp only [runB, seqS, nilS, asgF, retF, ifS, testF, binF, varF, varO, constF, ofF, bindF_some, lenF, fldF, iiF_int, ctt_eq, lenD_lst, lenD_tup, List.map_cons, List.map_nil, List.cons_append, List.nil_append, List.length_cons, List.length_nil, List.replicate_succ, List.replicate_zero, List.getElem?_cons_zero, List.getElem?_cons_succ, List.set_cons_zero, List.set_cons_succ, Option.map_some, if_true, Nat.reduceAdd, Nat.reduceSub, Bool.false_eq_true, if_false, mk, m2, f1, f2, d1, d2]
end K19
namespace K19
open Fx LC PM K1
open PySem (Str PyData)
/-! ### the law's words -/
theorem str_int {n : Int} (h1 : -99 ≤ n) (h2 : n ≤ 99) : strD [.int n] = some (.str (sI n)) := by
  unfold strD
  refine if_pos (dc_of ?_)
  by_cases h : n.natAbs = 0
  · rw [h]; decide
  · exact Nat.lt_trans ((Nat.log2_lt h).mpr (show n.natAbs < 2 ^ 7 by omega)) (by omega)
theorem comp_strs {i : Nat} {fs : FA} {ρ : Rho} {T : Fx.Tm} {ns : List Int} (hi : i < ρ.length) (h : fs ρ T = some (ns.map D.int, T)) (hn : ∀ n ∈ ns, -99 ≤ n ∧ n ≤ 99) (hl : ns.length ≤ 1000) :
    compF (.nm i) fs (yesT) (blF strD (consF (varF i) (nilF))) [i] ρ T = some ((ns.map sI).map D.str, T) := by
  refine comp_pure (ds := ns.map D.int) (p := fun _ => true) (g := fun d => match d with | .int n => .str (sI n) | _ => .non) (by show [i].contains i = true; simp) h (by rw [List.length_map]; omega) (fun d hd => ?_) ?_
  · obtain ⟨n, hn2, rfl⟩ := List.mem_map.mp hd
    obtain ⟨n1, n2⟩ := hn n hn2
    have w : (wipeR ρ [i]).length = ρ.length := wipeR_length ρ [i]
    refine ⟨(wipeR ρ [i]).set i (.dat (.int n)), rfl, rfl, fun _ => ?_⟩
    have g : ((wipeR ρ [i]).set i (.dat (.int n)))[i]? = some (.dat (.int n)) := List.getElem?_set_self (by omega)
    have e := str_int n1 n2
    simp only [blF, consF, varF, nilF, g, bindF_some, e, Option.map_some]
  · rw [List.filter_eq_self.mpr (fun _ _ => rfl), List.map_map, List.map_map]
    rfl
theorem in_br (a : Wd) : inD (.str a.str) (.lst [.str Wd.be.str, .str Wd.re.str]) = some (.bl (decide (a = .be) || decide (a = .re))) := by
  have e : ∀ b : Wd, eq1 (.str b.str) (.str a.str) = decide (a = b) := fun b => by
    show (b.str == a.str) = _
    rw [Wd.beq]
    by_cases h : a = b
    · rw [decide_eq_true h, decide_eq_true h.symm]
    · rw [decide_eq_false h, decide_eq_false fun z => h z.symm]
  show some (D.bl (eq1 (.str Wd.be.str) (.str a.str) || (eq1 (.str Wd.re.str) (.str a.str) || false))) = _
  rw [e, e, Bool.or_false]
theorem ix_line {L : List Line} {n : Nat} {x : Line} (h : L[n]? = some x) (T : Fx.Tm) : ixD T (.val (eY L)) (.int (n : Int)) = some x.d := by
  have hn := (List.getElem?_eq_some_iff.mp h).1
  unfold eY
  rw [ixD_tup, atI_nn (by omega) (by rw [List.length_map]; omega), Int.toNat_natCast, List.getElem?_map, h]
  rfl
theorem wbe : Str.ofString "below" = Wd.be.str := rfl
theorem wre : Str.ofString "rest" = Wd.re.str := rfl
theorem wse : Str.ofString ";" = semi := rfl
theorem itU_ints (f : FE) (ρ : Rho) (T : Fx.Tm) (ns : List Int) (h : f ρ T = some (eI ns, T)) : itU f ρ T = some (ns.map D.int, T) := by
  unfold itU
  simp only [h, bindF_some, eI]
/-- t[1:], t[2:] -/
theorem cutD1 (x : D) (xs : List D) : cutD (x :: xs) (some 1) none = xs := by
  unfold cutD HT.sIx
  simp only [show ((1 : Int) < 0) = False from by simp, if_false, show (1 : Int).toNat = 1 from rfl, List.length_cons, Nat.min_eq_left (show 1 ≤ xs.length + 1 by omega)]
  rw [List.drop_succ_cons, List.drop_zero, List.take_of_length_le (by omega)]
theorem cutD2 (x y : D) (xs : List D) : cutD (x :: y :: xs) (some 2) none = xs := by
  unfold cutD HT.sIx
  simp only [show ((2 : Int) < 0) = False from by simp, if_false, show (2 : Int).toNat = 2 from rfl, List.length_cons, Nat.min_eq_left (show 2 ≤ xs.length + 1 + 1 by omega)]
  rw [List.drop_succ_cons, List.drop_succ_cons, List.drop_zero, List.take_of_length_le (by omega)]
theorem slD_t1 (T : Fx.Tm) (x : D) (xs : List D) : slD T (.val (.tup (x :: xs))) (some 1) none = some (.tup xs) := by
  unfold slD
  rw [LC.seqD_tup]
  show some (D.tup (cutD (x :: xs) (some 1) none)) = _
  rw [cutD1]
theorem slD_t2 (T : Fx.Tm) (x y : D) (xs : List D) : slD T (.val (.tup (x :: y :: xs))) (some 2) none = some (.tup xs) := by
  unfold slD
  rw [LC.seqD_tup]
  show some (D.tup (cutD (x :: y :: xs) (some 2) none)) = _
  rw [cutD2]
theorem addL (xs ys : List D) (h : xs.length + ys.length ≤ 100000) : addD (.lst xs) (.lst ys) = some (.lst (xs ++ ys)) := by
  rw [addD_lst, if_pos (by rw [line_eq]; omega)]
local macro_rules | `(tactic| walk_at "wk") => `(tactic| simp only [runB, seqS, nilS, brkS, cntS, asgF, retF, ifS, testF, binF, varF, varO, constF, ofF, bindF_some, consF, nilF, callF, lstF, tupF, frzF, tofF, unpF, negF, setN, tgD, ixF, lenF, slF, bSo, bNo, dropF, fldF, inTF, ixTF, forS, iiF_int, ctt_eq, eqD_int, addD_int, ixD_tup, slD_t1, slD_t2, ix0, ix1,
  List.map_cons, List.map_nil, List.cons_append, List.nil_append, List.length_cons, List.length_nil, List.replicate_succ, List.replicate_zero, List.getElem?_cons_zero, List.getElem?_cons_succ, List.set_cons_zero, List.set_cons_succ, Option.map_some, Option.isSome_none, Option.isSome_some, if_true, Nat.reduceAdd, Nat.reduceSub, Bool.false_eq_true, if_false, *])
noncomputable def lwB (h : HF) : FS := asgF 3 (binF addD (varF 3) (callF h (consF (varF 0) (consF (varF 4) (nilF)))))
noncomputable def lwRet : FE := binF addD (binF addD (binF addD (frzF (lstF (consF (ixF (varO 2) (constF (.int 0))) (nilF)))) (frzF (compF (.nm 5) (itU (ixF (varO 2) (constF (.int 1)))) (yesT) (blF strD (consF (varF 5) (nilF))) [5]))) (frzF (lstF (consF (constF (.str (Str.ofString ";"))) (nilF))))) (frzF (compF (.nm 5) (itU (slF (varO 2) (bSo (constF (.int 2))) (bNo))) (yesT) (blF strD (consF (varF 5) (nilF))) [5]))
theorem lw_eq (h : HF) : g__law_words h = seqS (asgF 2 (ixF (varO 0) (varF 1)))
      (seqS (ifS (testF (binF inD (ixF (varO 2) (constF (.int 0))) (frzF (lstF (consF (constF (.str (Str.ofString "below"))) (consF (constF (.str (Str.ofString "rest"))) (nilF))))))) (retF (ofF lwRet)) (nilS))
      (seqS (asgF 3 (frzF (lstF (consF (ixF (varO 2) (constF (.int 0))) (nilF)))))
      (seqS (forS (.nm 4) (itU (slF (varO 2) (bSo (constF (.int 1))) (bNo))) (lwB h))
      (retF (varO 3))))) := rfl
theorem lwRet_run {w : Wd} {ns cs : List Int} (x0 x1 x3 x4 : Sl) (hn : ∀ n ∈ ns, -99 ≤ n ∧ n ≤ 99) (hc : ∀ n ∈ cs, -99 ≤ n ∧ n ≤ 99) (hl : ns.length ≤ 6) (hl2 : cs.length ≤ 6) (T : Fx.Tm) :
    lwRet [x0, x1, .dat (.tup (.str w.str :: eI ns :: cs.map D.int)), x3, x4, .un] T = some (.lst ((w.str :: (ns.map sI ++ semi :: cs.map sI)).map D.str), T) := by
  have e1 := comp_strs (i := 5) (fs := itU (ixF (varO 2) (constF (.int 1)))) (ρ := [x0, x1, .dat (.tup (.str w.str :: eI ns :: cs.map D.int)), x3, x4, .un]) (T := T) (ns := ns) (by simp) (itU_ints _ _ _ _ (by
    simp only [ixF, varO, constF, List.getElem?_cons_zero, List.getElem?_cons_succ, bindF_some, ixD_tup, ix1, Option.map_some])) hn (by omega)
  have e2 := comp_strs (i := 5) (fs := itU (slF (varO 2) (bSo (constF (.int 2))) (bNo))) (ρ := [x0, x1, .dat (.tup (.str w.str :: eI ns :: cs.map D.int)), x3, x4, .un]) (T := T) (ns := cs) (by simp) (itU_ints _ _ _ _ (by
    simp only [slF, bSo, bNo, varO, constF, List.getElem?_cons_zero, List.getElem?_cons_succ, bindF_some, slD_t2, Option.map_some]; rfl)) hc (by omega)
  have l1 : (0 + 1 : Nat) ≤ PySem.sizeLine := by rw [line_eq]; omega
  have a1 : addD (.lst [.str w.str]) (.lst ((ns.map sI).map D.str)) = some (.lst ([.str w.str] ++ (ns.map sI).map D.str)) := addL _ _ (by rw [List.length_map, List.length_map]; simp; omega)
  have a2 : addD (.lst ([.str w.str] ++ (ns.map sI).map D.str)) (.lst [.str semi]) = some (.lst ([.str w.str] ++ (ns.map sI).map D.str ++ [.str semi])) := addL _ _ (by rw [List.length_append, List.length_map, List.length_map]; simp; omega)
  have a3 : addD (.lst ([.str w.str] ++ (ns.map sI).map D.str ++ [.str semi])) (.lst ((cs.map sI).map D.str)) = some (.lst ([.str w.str] ++ (ns.map sI).map D.str ++ [.str semi] ++ (cs.map sI).map D.str)) := addL _ _ (by rw [List.length_append, List.length_append, List.length_map, List.length_map, List.length_map, List.length_map]; simp; omega)
  have fin : ([D.str w.str] ++ (ns.map sI).map D.str ++ [.str semi] ++ (cs.map sI).map D.str) = (w.str :: (ns.map sI ++ semi :: cs.map sI)).map D.str := by simp
  rw [fin] at a3
  have ws := wse
  unfold lwRet
  rw [ws]
  clear hn hc hl hl2 fin
  generalize compF (.nm 5) (itU (ixF (varO 2) (constF (.int 1)))) (yesT) (blF strD (consF (varF 5) (nilF))) [5] = C1 at *
  generalize compF (.nm 5) (itU (slF (varO 2) (bSo (constF (.int 2))) (bNo))) (yesT) (blF strD (consF (varF 5) (nilF))) [5] = C2 at *
  clear ws
  simp only [binF, varF, varO, constF, bindF_some, consF, nilF, lstF, frzF, ixF, ixD_tup, ix0, List.map_cons, List.map_nil, List.cons_append, List.nil_append, List.length_cons, List.length_nil, List.getElem?_cons_zero, List.getElem?_cons_succ, Option.map_some, if_true, e1, e2, l1]
  simp only [List.cons_append, List.nil_append] at a1 a2 a3
  rw [a1]
  simp only [bindF_some]
  rw [a2]
  simp only [bindF_some, e2]
  rw [a3]
  rfl
theorem lw_atom {w : Wd} {ns cs : List Int} {L : List Line} {n : Nat} {x : Line} (h : HF) (hx : L[n]? = some x) (hd : x.d = .tup (.str w.str :: eI ns :: cs.map D.int)) (hw : w = .be ∨ w = .re) (hn : ∀ n ∈ ns, -99 ≤ n ∧ n ≤ 99) (hc : ∀ n ∈ cs, -99 ≤ n ∧ n ≤ 99) (hl : ns.length ≤ 6) (hl2 : cs.length ≤ 6) (T : Fx.Tm) :
    runB (g__law_words h) 6 [eY L, .int (n : Int)] T = some (.lst ((w.str :: (ns.map sI ++ semi :: cs.map sI)).map D.str), T) := by
  have e0 := ix_line hx T
  rw [hd] at e0
  have e1 := in_br w
  have e2 : (decide (w = .be) || decide (w = .re)) = true := by rcases hw with r | r <;> subst r <;> rfl
  rw [e2] at e1
  have e3 := lwRet_run (w := w) (.dat (eY L)) (.dat (.int (n : Int))) .un .un hn hc hl hl2 T
  have l2 : (0 + 1 + 1 : Nat) ≤ PySem.sizeLine := by rw [line_eq]; omega
  have w1 := wbe
  have w2 := wre
  rw [lw_eq, w1, w2]
  clear hx hd hw hn hc hl hl2 e2 w1 w2
  walk_at "wk"
theorem lw_loop {L : List Line} {n : Nat} {ld : D} (h : HF) (T : Fx.Tm) : ∀ (fs : List Nat) (us : List (List Str)) (acc : List Str) (x4 : Sl), (∀ p ∈ fs.zip us, h [eY L, .int (p.1 : Int)] T = some (.lst (p.2.map D.str), T)) → fs.length = us.length → acc.length + us.flatten.length ≤ 50000 →
      ∃ z4, forL (.nm 4) (lwB h) (fs.map fun (f : Nat) => D.int (f : Int)) [.dat (eY L), .dat (.int (n : Int)), .dat ld, .dat (.lst (acc.map D.str)), x4, .un] T
        = some (.nx [.dat (eY L), .dat (.int (n : Int)), .dat ld, .dat (.lst ((acc ++ us.flatten).map D.str)), z4, .un], T)
  | [], [], acc, x4, _, _, _ => ⟨x4, by rw [List.flatten_nil, List.append_nil]; rfl⟩
  | [], _ :: _, _, _, _, hl, _ => by cases hl
  | _ :: _, [], _, _, _, hl, _ => by cases hl
  | f :: fs, u :: us, acc, x4, hz, hl, hb => by
    rw [List.flatten_cons, List.length_append] at hb
    have e1 := hz (f, u) List.mem_cons_self
    obtain ⟨z4, ih⟩ := lw_loop (L := L) (n := n) (ld := ld) h T fs us (acc ++ u) (.dat (.int (f : Int))) (fun p hp => hz p (List.mem_cons_of_mem _ hp)) (by simpa using hl) (by rw [List.length_append]; omega)
    have a1 := addL (acc.map D.str) (u.map D.str) (by rw [List.length_map, List.length_map]; omega)
    rw [← List.map_append] at a1
    have bd : lwB h [.dat (eY L), .dat (.int (n : Int)), .dat ld, .dat (.lst (acc.map D.str)), .dat (.int (f : Int)), .un] T = some (.nx [.dat (eY L), .dat (.int (n : Int)), .dat ld, .dat (.lst ((acc ++ u).map D.str)), .dat (.int (f : Int)), .un], T) := by
      unfold lwB
      simp only [asgF, binF, callF, consF, nilF, varF, bindF_some, List.getElem?_cons_zero, List.getElem?_cons_succ, List.set_cons_zero, List.set_cons_succ, e1, a1]
    refine ⟨z4, ?_⟩
    rw [List.map_cons]
    unfold forL
    show (match lwB h [.dat (eY L), .dat (.int (n : Int)), .dat ld, .dat (.lst (acc.map D.str)), .dat (.int (f : Int)), .un] T with | some (.nx ρ2, T2) => _ | some (.ct ρ2, T2) => _ | some (.bk ρ2, T2) => _ | some (.rt d, T2) => _ | none => _) = _
    rw [bd]
    show forL _ _ _ _ _ = _
    rw [ih, List.append_assoc, List.flatten_cons]
theorem lw_step {w : Wd} {L : List Line} {n : Nat} {x : Line} {fs : List Nat} {us : List (List Str)} (h : HF) (T : Fx.Tm) (hx : L[n]? = some x) (hd : x.d = .tup (.str w.str :: fs.map fun (f : Nat) => D.int (f : Int))) (hw : w ≠ .be ∧ w ≠ .re)
    (hz : ∀ p ∈ fs.zip us, h [eY L, .int (p.1 : Int)] T = some (.lst (p.2.map D.str), T)) (hl : fs.length = us.length) (hb : us.flatten.length + 1 ≤ 50000) :
    runB (g__law_words h) 6 [eY L, .int (n : Int)] T = some (.lst ((w.str :: us.flatten).map D.str), T) := by
  have e0 := ix_line hx T
  rw [hd] at e0
  have e1 := in_br w
  have e2 : (decide (w = .be) || decide (w = .re)) = false := by rw [decide_eq_false hw.1, decide_eq_false hw.2]; rfl
  rw [e2] at e1
  obtain ⟨z4, e3⟩ := lw_loop (L := L) (n := n) (ld := .tup (.str w.str :: fs.map fun (f : Nat) => D.int (f : Int))) h T fs us [w.str] .un hz hl (by rw [List.length_singleton]; omega)
  have l1 : (0 + 1 : Nat) ≤ PySem.sizeLine := by rw [line_eq]; omega
  have l2 : (0 + 1 + 1 : Nat) ≤ PySem.sizeLine := by rw [line_eq]; omega
  have w1 := wbe
  have w2 := wre
  have e4 : itU (slF (varO 2) (bSo (constF (.int 1))) (bNo)) [.dat (eY L), .dat (.int (n : Int)), .dat (.tup (.str w.str :: fs.map fun (f : Nat) => D.int (f : Int))), .dat (.lst ([w.str].map D.str)), .un, .un] T = some (fs.map fun (f : Nat) => D.int (f : Int), T) := by
    unfold itU
    simp only [slF, bSo, bNo, varO, constF, List.getElem?_cons_zero, List.getElem?_cons_succ, bindF_some, slD_t1, Option.map_some]
  rw [lw_eq, w1, w2]
  generalize hF : (fs.map fun (f : Nat) => D.int (f : Int)) = F at *
  generalize itU (slF (varO 2) (bSo (constF (.int 1))) (bNo)) = I at *
  rw [show [w.str].map D.str = [.str w.str] from rfl] at e3 e4
  rw [List.singleton_append] at e3
  clear hx hd hw e2 w1 w2 hz hl hb hF
  walk_at "wk"
theorem lw_run {L : List Line} {n : Nat} {t : Tr} (r : Rep L n t) (T : Fx.Tm) : t.ok → t.size ≤ 1000 → ∀ d, t.depth ≤ d → h__law_words d [eY L, .int (n : Int)] T = some (.lst (t.words.map D.str), T) := by
  induction r with
  | @be n ns c e =>
    intro ok hs d hd
    obtain ⟨⟨k1, k2⟩, k3, k4⟩ := ok
    unfold Tr.depth at hd
    obtain ⟨d, rfl⟩ : ∃ d', d = d' + 1 := ⟨d - 1, by omega⟩
    rw [h__law_words_s]
    exact lw_atom (w := .be) (cs := [c]) _ e rfl (.inl rfl) (fun n hn => by have := k2 n hn; omega) (fun n hn => by rw [List.mem_singleton.mp hn]; omega) (by omega) (by simp) T
  | @re n ns m c e =>
    intro ok hs d hd
    obtain ⟨⟨k1, k2⟩, k3, k4, k5, k6⟩ := ok
    unfold Tr.depth at hd
    obtain ⟨d, rfl⟩ : ∃ d', d = d' + 1 := ⟨d - 1, by omega⟩
    rw [h__law_words_s]
    exact lw_atom (w := .re) (cs := [m, c]) _ e rfl (.inr rfl) (fun n hn => by have := k2 n hn; omega) (fun n hn => by simp only [List.mem_cons, List.not_mem_nil, or_false] at hn; rcases hn with rfl | rfl <;> omega) (by omega) (by simp) T
  | @nt n f t e r ih =>
    intro ok hs d hd
    unfold Tr.depth at hd
    unfold Tr.size at hs
    have wl := t.words_len ok
    obtain ⟨d, rfl⟩ : ∃ d', d = d' + 1 := ⟨d - 1, by omega⟩
    rw [h__law_words_s]
    have := lw_step (w := .nt) (fs := [f]) (us := [t.words]) (h__law_words d) T e rfl (by simp) (fun p hp => by rw [List.mem_singleton.mp hp]; exact ih ok (by omega) d (by omega)) rfl (by simp; omega)
    rw [List.flatten_cons, List.flatten_nil, List.append_nil] at this
    exact this
  | @th n f t e r ih =>
    intro ok hs d hd
    unfold Tr.depth at hd
    unfold Tr.size at hs
    have wl := t.words_len ok
    obtain ⟨d, rfl⟩ : ∃ d', d = d' + 1 := ⟨d - 1, by omega⟩
    rw [h__law_words_s]
    have := lw_step (w := .th) (fs := [f]) (us := [t.words]) (h__law_words d) T e rfl (by simp) (fun p hp => by rw [List.mem_singleton.mp hp]; exact ih ok (by omega) d (by omega)) rfl (by simp; omega)
    rw [List.flatten_cons, List.flatten_nil, List.append_nil] at this
    exact this
  | @bo n f g t u e r1 r2 ih1 ih2 =>
    intro ok hs d hd
    unfold Tr.depth at hd
    unfold Tr.size at hs
    have wl := t.words_len ok.1
    have wl2 := u.words_len ok.2
    obtain ⟨d, rfl⟩ : ∃ d', d = d' + 1 := ⟨d - 1, by omega⟩
    rw [h__law_words_s]
    have := lw_step (w := .bo) (fs := [f, g]) (us := [t.words, u.words]) (h__law_words d) T e rfl (by simp) (fun p hp => by
      simp only [List.zip_cons_cons, List.zip_nil_right, List.mem_cons, List.not_mem_nil, or_false] at hp
      rcases hp with rfl | rfl
      · exact ih1 ok.1 (by omega) d (by omega)
      · exact ih2 ok.2 (by omega) d (by omega)) rfl (by simp; omega)
    rw [List.flatten_cons, List.flatten_cons, List.flatten_nil, List.append_nil] at this
    exact this
end K19
namespace K19
open Fx LC PM K1
open PySem (Str PyData)
/-! ### the law's lines, laid out -/
/-- a line of a saying -/
inductive Pr : Line → Prop
  | be (ns : List Int) (c : Int) : Pr (some (.be, [.t ns, .i c]))
  | re (ns : List Int) (m c : Int) : Pr (some (.re, [.t ns, .i m, .i c]))
  | nt (f : Int) : Pr (some (.nt, [.i f]))
  | th (f : Int) : Pr (some (.th, [.i f]))
  | bo (f g : Int) : Pr (some (.bo, [.i f, .i g]))
/-- the line further on -/
def shL (s : Int) : Line → Line
  | some (.nt, [.i f]) => some (.nt, [.i (s + f)])
  | some (.th, [.i f]) => some (.th, [.i (s + f)])
  | some (.bo, [.i f, .i g]) => some (.bo, [.i (s + f), .i (s + g)])
  | l => l
theorem Tr.pr : ∀ (t : Tr) (k : Nat), ∀ l ∈ t.spread k, Pr l
  | .be ns c, k, l, h => by rw [List.mem_singleton.mp h]; exact .be _ _
  | .re ns m c, k, l, h => by rw [List.mem_singleton.mp h]; exact .re _ _ _
  | .nt t, k, l, h => by
    rcases List.mem_append.mp h with h | h
    · exact t.pr k l h
    · rw [List.mem_singleton.mp h]; exact .nt _
  | .th t, k, l, h => by
    rcases List.mem_append.mp h with h | h
    · exact t.pr k l h
    · rw [List.mem_singleton.mp h]; exact .th _
  | .bo t u, k, l, h => by
    rcases List.mem_append.mp h with h | h
    · rcases List.mem_append.mp h with h | h
      · exact t.pr k l h
      · exact u.pr _ l h
    · rw [List.mem_singleton.mp h]; exact .bo _ _
theorem Tr.shift : ∀ (t : Tr) (k s : Nat), (t.spread k).map (shL (s : Int)) = t.spread (s + k)
  | .be ns c, k, s => rfl
  | .re ns m c, k, s => rfl
  | .nt t, k, s => by
    have ih := t.shift k s
    show (t.spread k ++ [_]).map _ = t.spread (s + k) ++ [_]
    rw [List.map_append, ih]
    congr 1
    show [some (Wd.nt, [Ag.i ((s : Int) + (((k + t.size : Nat) : Int) - 1))])] = _
    rw [show (s : Int) + (((k + t.size : Nat) : Int) - 1) = ((s + k + t.size : Nat) : Int) - 1 by omega]
  | .th t, k, s => by
    have ih := t.shift k s
    show (t.spread k ++ [_]).map _ = t.spread (s + k) ++ [_]
    rw [List.map_append, ih]
    congr 1
    show [some (Wd.th, [Ag.i ((s : Int) + (((k + t.size : Nat) : Int) - 1))])] = _
    rw [show (s : Int) + (((k + t.size : Nat) : Int) - 1) = ((s + k + t.size : Nat) : Int) - 1 by omega]
  | .bo t u, k, s => by
    have ih := t.shift k s
    have ih2 := u.shift (k + t.size) s
    show (t.spread k ++ u.spread (k + t.size) ++ [_]).map _ = t.spread (s + k) ++ u.spread (s + k + t.size) ++ [_]
    rw [List.map_append, List.map_append, ih, ih2, ← Nat.add_assoc]
    congr 1
    show [some (Wd.bo, [Ag.i ((s : Int) + (((k + t.size : Nat) : Int) - 1)), Ag.i ((s : Int) + (((k + t.size + u.size : Nat) : Int) - 1))])] = _
    rw [show (s : Int) + (((k + t.size : Nat) : Int) - 1) = ((s + k + t.size : Nat) : Int) - 1 by omega, show (s : Int) + (((k + t.size + u.size : Nat) : Int) - 1) = ((s + k + t.size + u.size : Nat) : Int) - 1 by omega]
noncomputable def lsI : FS := ifS (testF (binF inD (ixF (varO 7) (constF (.int 0))) (frzF (lstF (consF (constF (.str (Str.ofString "below"))) (consF (constF (.str (Str.ofString "rest"))) (nilF))))))) (appF 3 (varF 7)) (appF 3 (binF addD (tupF (consF (ixF (varO 7) (constF (.int 0))) (nilF))) (tofF (ofF (frzF (compF (.nm 8) (itU (slF (varO 7) (bSo (constF (.int 1))) (bNo))) (yesT) (binF addD (varF 6) (varF 8)) [8]))))))
noncomputable def lsB (h : HF) : FS := seqS (asgF 6 (lenF (varO 3)))
      (seqS (forS (.nm 7) (itU (callF h (consF (varF 0) (consF (varF 5) (nilF))))) lsI)
      (appF 4 (binF subD (lenF (varO 3)) (constF (.int 1)))))
theorem ls_eq (h : HF) : g__law_spread h = seqS (asgF 2 (ixF (varO 0) (varF 1)))
      (seqS (ifS (testF (binF inD (ixF (varO 2) (constF (.int 0))) (frzF (lstF (consF (constF (.str (Str.ofString "below"))) (consF (constF (.str (Str.ofString "rest"))) (nilF))))))) (retF (ofF (frzF (lstF (consF (varF 2) (nilF)))))) (nilS))
      (seqS (ownF 3 (lstF (nilF)))
      (seqS (ownF 4 (lstF (nilF)))
      (seqS (forS (.nm 5) (itU (slF (varO 2) (bSo (constF (.int 1))) (bNo))) (lsB h))
      (seqS (appF 3 (binF addD (tupF (consF (ixF (varO 2) (constF (.int 0))) (nilF))) (tofF (varO 4))))
      (retF (varO 3))))))) := rfl
local macro_rules | `(tactic| walk_at "wk") => `(tactic| simp only [runB, seqS, nilS, brkS, cntS, asgF, ownF, retF, ifS, testF, binF, varF, varO, constF, ofF, bindF_some, consF, nilF, callF, lstF, tupF, frzF, tofF, unpF, negF, setN, tgD, ixF, lenF, slF, bSo, bNo, appF, dropF, fldF, inTF, ixTF, forS, iiF_int, ctt_eq, eqD_int, addD_int, ixD_tup, slD_t1, slD_t2, ix0, ix1, LC.seqD_lst,
  List.map_cons, List.map_nil, List.cons_append, List.nil_append, List.length_cons, List.length_nil, List.replicate_succ, List.replicate_zero, List.getElem?_cons_zero, List.getElem?_cons_succ, List.set_cons_zero, List.set_cons_succ, Option.map_some, Option.isSome_none, Option.isSome_some, if_true, Nat.reduceAdd, Nat.reduceSub, Bool.false_eq_true, if_false, *])
theorem ls_comp (w : Wd) (s : Int) (fs : List Int) (hl : fs.length ≤ 1000) (x0 x1 x2 x3 x4 x5 : Sl) (T : Fx.Tm) : compF (.nm 8) (itU (slF (varO 7) (bSo (constF (.int 1))) (bNo))) (yesT) (binF addD (varF 6) (varF 8)) [8] [x0, x1, x2, x3, x4, x5, .dat (.int s), .dat (.tup (.str w.str :: fs.map D.int)), .un] T = some ((fs.map fun f => s + f).map D.int, T) := by
  refine comp_pure (ds := fs.map D.int) (p := fun _ => true) (g := fun d => match d with | .int f => .int (s + f) | _ => .non) rfl ?_ (by rw [List.length_map]; omega) (fun d hd => ?_) ?_
  · unfold itU
    simp only [slF, bSo, bNo, varO, constF, List.getElem?_cons_zero, List.getElem?_cons_succ, bindF_some, slD_t1, Option.map_some]
  · obtain ⟨f, _, rfl⟩ := List.mem_map.mp hd
    exact ⟨[x0, x1, x2, x3, x4, x5, .dat (.int s), .dat (.tup (.str w.str :: fs.map D.int)), .dat (.int f)], rfl, rfl, fun _ => rfl⟩
  · rw [List.filter_eq_self.mpr (fun _ _ => rfl), List.map_map, List.map_map]
    rfl
theorem lsI_a (w : Wd) (hw : w = .be ∨ w = .re) (xs : List D) (s : Int) (acc : List D) (hl : acc.length ≤ 50000) (x0 x1 x2 x4 x5 x8 : Sl) (T : Fx.Tm) :
    lsI [x0, x1, x2, .own acc, x4, x5, .dat (.int s), .dat (.tup (.str w.str :: xs)), x8] T = some (.nx [x0, x1, x2, .own (acc ++ [.tup (.str w.str :: xs)]), x4, x5, .dat (.int s), .dat (.tup (.str w.str :: xs)), x8], T) := by
  have e1 := in_br w
  have e2 : (decide (w = .be) || decide (w = .re)) = true := by rcases hw with r | r <;> subst r <;> rfl
  rw [e2] at e1
  have l2 : (0 + 1 + 1 : Nat) ≤ PySem.sizeLine := by rw [line_eq]; omega
  have l3 : acc.length < PySem.sizeLine := by rw [line_eq]; omega
  unfold lsI
  rw [wbe, wre]
  clear e2 hw hl
  walk_at "wk"
theorem lsI_b (w : Wd) (hw : w ≠ .be ∧ w ≠ .re) (fs : List Int) (hf : fs.length ≤ 1000) (s : Int) (acc : List D) (hl : acc.length ≤ 50000) (x0 x1 x2 x4 x5 : Sl) (T : Fx.Tm) :
    lsI [x0, x1, x2, .own acc, x4, x5, .dat (.int s), .dat (.tup (.str w.str :: fs.map D.int)), .un] T = some (.nx [x0, x1, x2, .own (acc ++ [.tup (.str w.str :: (fs.map fun f => s + f).map D.int)]), x4, x5, .dat (.int s), .dat (.tup (.str w.str :: fs.map D.int)), .un], T) := by
  have e1 := in_br w
  have e2 : (decide (w = .be) || decide (w = .re)) = false := by rw [decide_eq_false hw.1, decide_eq_false hw.2]; rfl
  rw [e2] at e1
  have e3 := ls_comp w s fs hf x0 x1 x2 (.own acc) x4 x5 T
  have l1 : (0 + 1 : Nat) ≤ PySem.sizeLine := by rw [line_eq]; omega
  have l2 : (0 + 1 + 1 : Nat) ≤ PySem.sizeLine := by rw [line_eq]; omega
  have l3 : acc.length < PySem.sizeLine := by rw [line_eq]; omega
  have ad : addD (.tup [.str w.str]) (.tup ((fs.map fun f => s + f).map D.int)) = some (.tup (.str w.str :: (fs.map fun f => s + f).map D.int)) := by
    rw [addD_tup, if_pos (by rw [line_eq, List.length_map, List.length_map]; simp; omega)]
    rfl
  unfold lsI
  rw [wbe, wre]
  generalize hF : fs.map D.int = F at *
  generalize compF (.nm 8) (itU (slF (varO 7) (bSo (constF (.int 1))) (bNo))) (yesT) (binF addD (varF 6) (varF 8)) [8] = C at *
  clear e2 hw hl hf hF
  walk_at "wk"
theorem ls_inner (s : Int) (x0 x1 x2 x4 x5 : Sl) (T : Fx.Tm) : ∀ (ls : List Line) (acc : List D) (x7 : Sl), (∀ l ∈ ls, Pr l) → acc.length + ls.length ≤ 50000 →
    ∃ z7, forL (.nm 7) lsI (ls.map Line.d) [x0, x1, x2, .own acc, x4, x5, .dat (.int s), x7, .un] T = some (.nx [x0, x1, x2, .own (acc ++ (ls.map (shL s)).map Line.d), x4, x5, .dat (.int s), z7, .un], T)
  | [], acc, x7, _, _ => ⟨x7, by rw [show ([] : List Line).map (shL s) = [] from rfl, List.map_nil, List.append_nil]; rfl⟩
  | l :: ls, acc, x7, hp, hl => by
    rw [List.length_cons] at hl
    obtain ⟨z7, ih⟩ := ls_inner s x0 x1 x2 x4 x5 T ls (acc ++ [(shL s l).d]) (.dat l.d) (fun l hl => hp l (List.mem_cons_of_mem _ hl)) (by rw [List.length_append, List.length_singleton]; omega)
    have bd : lsI [x0, x1, x2, .own acc, x4, x5, .dat (.int s), .dat l.d, .un] T = some (.nx [x0, x1, x2, .own (acc ++ [(shL s l).d]), x4, x5, .dat (.int s), .dat l.d, .un], T) := by
      cases hp l List.mem_cons_self with
      | be ns c => exact lsI_a .be (.inl rfl) [eI ns, .int c] s acc (by omega) x0 x1 x2 x4 x5 .un T
      | re ns m c => exact lsI_a .re (.inr rfl) [eI ns, .int m, .int c] s acc (by omega) x0 x1 x2 x4 x5 .un T
      | nt f => exact lsI_b .nt (by simp) [f] (by simp) s acc (by omega) x0 x1 x2 x4 x5 T
      | th f => exact lsI_b .th (by simp) [f] (by simp) s acc (by omega) x0 x1 x2 x4 x5 T
      | bo f g => exact lsI_b .bo (by simp) [f, g] (by simp) s acc (by omega) x0 x1 x2 x4 x5 T
    refine ⟨z7, ?_⟩
    rw [List.map_cons]
    unfold forL
    show (match lsI [x0, x1, x2, .own acc, x4, x5, .dat (.int s), .dat l.d, .un] T with | some (.nx ρ2, T2) => _ | some (.ct ρ2, T2) => _ | some (.bk ρ2, T2) => _ | some (.rt d, T2) => _ | none => _) = _
    rw [bd]
    show forL _ _ _ _ _ = _
    rw [ih, List.append_assoc]
    rfl
/-- one named line is laid out -/
theorem lsB_run {L : List Line} {n f : Nat} {t : Tr} {ld : D} {acc : List Line} {nums : List D} (h : HF) (T : Fx.Tm) (hz : h [eY L, .int (f : Int)] T = some (.lst ((t.spread 0).map Line.d), T)) (hl : acc.length + t.size ≤ 50000) (hn : nums.length ≤ 1000) (x6 x7 : Sl) :
    ∃ z6 z7, lsB h [.dat (eY L), .dat (.int (n : Int)), .dat ld, .own (acc.map Line.d), .own nums, .dat (.int (f : Int)), x6, x7, .un] T = some (.nx [.dat (eY L), .dat (.int (n : Int)), .dat ld, .own ((acc ++ t.spread acc.length).map Line.d), .own (nums ++ [.int (((acc.length + t.size : Nat) : Int) - 1)]), .dat (.int (f : Int)), z6, z7, .un], T) := by
  have sl := t.spread_len 0
  have sl2 := t.spread_len acc.length
  obtain ⟨z7, e1⟩ := ls_inner (acc.length : Int) (.dat (eY L)) (.dat (.int (n : Int))) (.dat ld) (.own nums) (.dat (.int (f : Int))) T (t.spread 0) (acc.map Line.d) x7 (t.pr 0) (by rw [List.length_map, sl]; omega)
  rw [t.shift 0 acc.length, Nat.add_zero, ← List.map_append] at e1
  refine ⟨.dat (.int (acc.length : Int)), z7, ?_⟩
  have o1 : lenD T (.own 3 (acc.map Line.d)) = some (.int (acc.length : Int)) := by show some (D.int ((acc.map Line.d).length : Int)) = _; rw [List.length_map]
  have o2 : lenD T (.own 3 ((acc ++ t.spread acc.length).map Line.d)) = some (.int ((acc.length + t.size : Nat) : Int)) := by
    show some (D.int (((acc ++ t.spread acc.length).map Line.d).length : Int)) = _
    rw [List.length_map, List.length_append, sl2]
  have l1 : nums.length < PySem.sizeLine := by rw [line_eq]; omega
  have it : itU (callF h (consF (varF 0) (consF (varF 5) (nilF)))) [.dat (eY L), .dat (.int (n : Int)), .dat ld, .own (acc.map Line.d), .own nums, .dat (.int (f : Int)), .dat (.int (acc.length : Int)), x7, .un] T = some ((t.spread 0).map Line.d, T) := by
    unfold itU
    simp only [callF, consF, nilF, varF, List.getElem?_cons_zero, List.getElem?_cons_succ, bindF_some, hz]
  unfold lsB
  generalize itU (callF h (consF (varF 0) (consF (varF 5) (nilF)))) = I at *
  clear hz hl hn sl sl2
  walk_at "wk"
/-- all named lines are laid out -/
def sizes : List Tr → Nat
  | [] => 0
  | t :: ts => t.size + sizes ts
def spreads : List Tr → Nat → List Line
  | [], _ => []
  | t :: ts, k => t.spread k ++ spreads ts (k + t.size)
def ends : List Tr → Nat → List D
  | [], _ => []
  | t :: ts, k => .int (((k + t.size : Nat) : Int) - 1) :: ends ts (k + t.size)
theorem ls_loop {L : List Line} {n : Nat} {ld : D} (h : HF) (T : Fx.Tm) : ∀ (fs : List Nat) (ts : List Tr) (acc : List Line) (nums : List D) (x5 x6 x7 : Sl), (∀ p ∈ fs.zip ts, h [eY L, .int (p.1 : Int)] T = some (.lst ((p.2.spread 0).map Line.d), T)) → fs.length = ts.length → acc.length + sizes ts ≤ 50000 → nums.length + ts.length ≤ 1000 →
    ∃ z5 z6 z7, forL (.nm 5) (lsB h) (fs.map fun (f : Nat) => D.int (f : Int)) [.dat (eY L), .dat (.int (n : Int)), .dat ld, .own (acc.map Line.d), .own nums, x5, x6, x7, .un] T
      = some (.nx [.dat (eY L), .dat (.int (n : Int)), .dat ld, .own ((acc ++ spreads ts acc.length).map Line.d), .own (nums ++ ends ts acc.length), z5, z6, z7, .un], T)
  | [], [], acc, nums, x5, x6, x7, _, _, _, _ => ⟨x5, x6, x7, by rw [show spreads [] acc.length = [] from rfl, show ends [] acc.length = [] from rfl, List.append_nil, List.append_nil]; rfl⟩
  | [], _ :: _, _, _, _, _, _, _, hl, _, _ => by cases hl
  | _ :: _, [], _, _, _, _, _, _, hl, _, _ => by cases hl
  | f :: fs, t :: ts, acc, nums, x5, x6, x7, hz, hl, hb, hn => by
    unfold sizes at hb
    rw [List.length_cons] at hn
    have sl := t.spread_len acc.length
    obtain ⟨y6, y7, e1⟩ := lsB_run (n := n) (ld := ld) (nums := nums) h T (hz (f, t) List.mem_cons_self) (acc := acc) (by show acc.length + t.size ≤ 50000; omega) (by omega) x6 x7
    obtain ⟨z5, z6, z7, ih⟩ := ls_loop (L := L) (n := n) (ld := ld) h T fs ts (acc ++ t.spread acc.length) (nums ++ [.int (((acc.length + t.size : Nat) : Int) - 1)]) (.dat (.int (f : Int))) y6 y7 (fun p hp => hz p (List.mem_cons_of_mem _ hp)) (by simpa using hl) (by rw [List.length_append, sl]; omega) (by rw [List.length_append, List.length_singleton]; omega)
    refine ⟨z5, z6, z7, ?_⟩
    rw [List.map_cons]
    unfold forL
    show (match lsB h [.dat (eY L), .dat (.int (n : Int)), .dat ld, .own (acc.map Line.d), .own nums, .dat (.int (f : Int)), x6, x7, .un] T with | some (.nx ρ2, T2) => _ | some (.ct ρ2, T2) => _ | some (.bk ρ2, T2) => _ | some (.rt d, T2) => _ | none => _) = _
    rw [e1]
    show forL _ _ _ _ _ = _
    rw [ih, List.append_assoc, List.append_assoc, List.length_append, sl]
    rfl
theorem ls_step {w : Wd} {L : List Line} {n : Nat} {x z : Line} {fs : List Nat} {ts : List Tr} (h : HF) (T : Fx.Tm) (hx : L[n]? = some x) (hd : x.d = .tup (.str w.str :: fs.map fun (f : Nat) => D.int (f : Int))) (hw : w ≠ .be ∧ w ≠ .re)
    (hz : ∀ p ∈ fs.zip ts, h [eY L, .int (p.1 : Int)] T = some (.lst ((p.2.spread 0).map Line.d), T)) (hl : fs.length = ts.length) (hb : sizes ts ≤ 40000) (hn : ts.length ≤ 10) (hs : (spreads ts 0).length ≤ 40000) (he : (ends ts 0).length ≤ 10) (hzd : z.d = .tup (.str w.str :: ends ts 0)) :
    runB (g__law_spread h) 9 [eY L, .int (n : Int)] T = some (.lst ((spreads ts 0 ++ [z]).map Line.d), T) := by
  have e0 := ix_line hx T
  rw [hd] at e0
  have e1 := in_br w
  have e2 : (decide (w = .be) || decide (w = .re)) = false := by rw [decide_eq_false hw.1, decide_eq_false hw.2]; rfl
  rw [e2] at e1
  obtain ⟨z5, z6, z7, e3⟩ := ls_loop (L := L) (n := n) (ld := .tup (.str w.str :: fs.map fun (f : Nat) => D.int (f : Int))) h T fs ts [] [] .un .un .un hz hl (by simp; omega) (by simp; omega)
  rw [List.map_nil, List.nil_append, List.nil_append, List.length_nil] at e3
  have l0 : (0 : Nat) ≤ PySem.sizeLine := Nat.zero_le _
  have l1 : (0 + 1 : Nat) ≤ PySem.sizeLine := by rw [line_eq]; omega
  have l2 : (0 + 1 + 1 : Nat) ≤ PySem.sizeLine := by rw [line_eq]; omega
  have e4 : itU (slF (varO 2) (bSo (constF (.int 1))) (bNo)) [.dat (eY L), .dat (.int (n : Int)), .dat (.tup (.str w.str :: fs.map fun (f : Nat) => D.int (f : Int))), .own [], .own [], .un, .un, .un, .un] T = some (fs.map fun (f : Nat) => D.int (f : Int), T) := by
    unfold itU
    simp only [slF, bSo, bNo, varO, constF, List.getElem?_cons_zero, List.getElem?_cons_succ, bindF_some, slD_t1, Option.map_some]
  have ad : addD (.tup [.str w.str]) (.tup (ends ts 0)) = some z.d := by
    rw [addD_tup, if_pos (by rw [line_eq]; simp; omega), hzd]
    rfl
  have s4 : ∀ ds, seqD T (.own 4 ds) = some (false, ds) := fun _ => rfl
  have l3 : ((spreads ts 0).map Line.d).length < PySem.sizeLine := by rw [line_eq, List.length_map]; omega
  have fin := map_snoc (spreads ts 0) z
  rw [ls_eq, wbe, wre, ← fin]
  generalize hF : (fs.map fun (f : Nat) => D.int (f : Int)) = F at *
  generalize itU (slF (varO 2) (bSo (constF (.int 1))) (bNo)) = I at *
  clear hx hd hw e2 hz hl hb hF hzd fin hs he hn
  walk_at "wk"
theorem ls_atom {w : Wd} {xs : List D} {L : List Line} {n : Nat} {x : Line} (h : HF) (T : Fx.Tm) (hx : L[n]? = some x) (hd : x.d = .tup (.str w.str :: xs)) (hw : w = .be ∨ w = .re) : runB (g__law_spread h) 9 [eY L, .int (n : Int)] T = some (.lst [x.d], T) := by
  have e0 := ix_line hx T
  rw [hd] at e0 ⊢
  have e1 := in_br w
  have e2 : (decide (w = .be) || decide (w = .re)) = true := by rcases hw with r | r <;> subst r <;> rfl
  rw [e2] at e1
  have l1 : (0 + 1 : Nat) ≤ PySem.sizeLine := by rw [line_eq]; omega
  have l2 : (0 + 1 + 1 : Nat) ≤ PySem.sizeLine := by rw [line_eq]; omega
  rw [ls_eq, wbe, wre]
  clear hx hd hw e2
  walk_at "wk"
theorem ls_run {L : List Line} {n : Nat} {t : Tr} (r : Rep L n t) (T : Fx.Tm) : t.size ≤ 1000 → ∀ d, t.depth ≤ d → h__law_spread d [eY L, .int (n : Int)] T = some (.lst ((t.spread 0).map Line.d), T) := by
  induction r with
  | @be n ns c e =>
    intro hs d hd
    unfold Tr.depth at hd
    obtain ⟨d, rfl⟩ : ∃ d', d = d' + 1 := ⟨d - 1, by omega⟩
    rw [h__law_spread_s]
    exact ls_atom (w := .be) (xs := [eI ns, .int c]) _ T e rfl (.inl rfl)
  | @re n ns m c e =>
    intro hs d hd
    unfold Tr.depth at hd
    obtain ⟨d, rfl⟩ : ∃ d', d = d' + 1 := ⟨d - 1, by omega⟩
    rw [h__law_spread_s]
    exact ls_atom (w := .re) (xs := [eI ns, .int m, .int c]) _ T e rfl (.inr rfl)
  | @nt n f t e r ih =>
    intro hs d hd
    unfold Tr.depth at hd
    unfold Tr.size at hs
    have sl := t.spread_len 0
    obtain ⟨d, rfl⟩ : ∃ d', d = d' + 1 := ⟨d - 1, by omega⟩
    rw [h__law_spread_s]
    have := ls_step (w := .nt) (fs := [f]) (ts := [t]) (z := some (.nt, [.i (((0 + t.size : Nat) : Int) - 1)])) (h__law_spread d) T e rfl (by simp) (fun p hp => by rw [List.mem_singleton.mp hp]; exact ih (by omega) d (by omega)) rfl (by simp [sizes]; omega) (by simp) (by simp [spreads]; omega) (by simp [ends]) rfl
    rw [show spreads [t] 0 = t.spread 0 ++ [] from rfl, List.append_nil] at this
    exact this
  | @th n f t e r ih =>
    intro hs d hd
    unfold Tr.depth at hd
    unfold Tr.size at hs
    have sl := t.spread_len 0
    obtain ⟨d, rfl⟩ : ∃ d', d = d' + 1 := ⟨d - 1, by omega⟩
    rw [h__law_spread_s]
    have := ls_step (w := .th) (fs := [f]) (ts := [t]) (z := some (.th, [.i (((0 + t.size : Nat) : Int) - 1)])) (h__law_spread d) T e rfl (by simp) (fun p hp => by rw [List.mem_singleton.mp hp]; exact ih (by omega) d (by omega)) rfl (by simp [sizes]; omega) (by simp) (by simp [spreads]; omega) (by simp [ends]) rfl
    rw [show spreads [t] 0 = t.spread 0 ++ [] from rfl, List.append_nil] at this
    exact this
  | @bo n f g t u e r1 r2 ih1 ih2 =>
    intro hs d hd
    unfold Tr.depth at hd
    unfold Tr.size at hs
    have sl := t.spread_len 0
    have sl2 := u.spread_len (0 + t.size)
    obtain ⟨d, rfl⟩ : ∃ d', d = d' + 1 := ⟨d - 1, by omega⟩
    rw [h__law_spread_s]
    have := ls_step (w := .bo) (fs := [f, g]) (ts := [t, u]) (z := some (.bo, [.i (((0 + t.size : Nat) : Int) - 1), .i (((0 + t.size + u.size : Nat) : Int) - 1)])) (h__law_spread d) T e rfl (by simp) (fun p hp => by
      simp only [List.zip_cons_cons, List.zip_nil_right, List.mem_cons, List.not_mem_nil, or_false] at hp
      rcases hp with rfl | rfl
      · exact ih1 (by omega) d (by omega)
      · exact ih2 (by omega) d (by omega)) rfl (by simp [sizes]; omega) (by simp) (by
        rw [show spreads [t, u] 0 = t.spread 0 ++ (u.spread (0 + t.size) ++ []) from rfl, List.append_nil, List.length_append, sl, sl2]; omega) (by simp [ends]) rfl
    rw [show spreads [t, u] 0 = t.spread 0 ++ (u.spread (0 + t.size) ++ []) from rfl, List.append_nil] at this
    exact this
end K19
namespace K19
open Fx LC PM K1
open PySem (Str PyData)
/-! ### writing -/
noncomputable def fmC : FT := testF (binF gtD (lenF (varO 2)) (constF (.int 0)))
noncomputable def fmA : FS := seqS (dropF (extF (varF 1) (compF (.nm 4) (itU (ixF (varO 3) (constF (.int 1)))) (yesT) (blF strD (consF (varF 4) (nilF))) [4])))
      (seqS (dropF (appOF (varF 1) (constF (.str (Str.ofString ";")))))
      (dropF (extF (varF 1) (compF (.nm 5) (itU (slF (varO 3) (bSo (constF (.int 2))) (bNo))) (yesT) (blF strD (consF (varF 5) (nilF))) [5]))))
noncomputable def fmB : FS := seqS (asgF 3 (ixF (varO 0) (popF (varF 2))))
      (seqS (dropF (appOF (varF 1) (ixF (varO 3) (constF (.int 0)))))
      (ifS (testF (inTF tb_NAMED (ixF (varO 3) (constF (.int 0))))) (dropF (extF (varF 2) (lofF (ofF (bk0F (varF 3)))))) fmA))
theorem fm_eq : g_format_saying = seqS (objF 1 (lstF (nilF)))
      (seqS (objF 2 (lstF (consF (binF subD (lenF (varO 0)) (constF (.int 1))) (nilF))))
      (seqS (whS fmC fmB)
      (retF (ofF (joinOF (constF (.str (Str.ofString " "))) (varO 1)))))) := rfl
theorem ext_of {fo : FE} {fl : FA} {ρ : Rho} {T T1 T2 : Fx.Tm} {k : Nat} {ds es xs : List D} (h1 : fo ρ T = some (.ob k, T1)) (h2 : fl ρ T1 = some (xs, T2)) (h3 : T1[k]? = some (.lst es)) (h4 : T2[k]? = some (.lst ds)) (hl : ds.length + xs.length ≤ 1000000) : dropF (extF fo fl) ρ T = some (.nx ρ, T2.set k (.lst (ds ++ xs))) := by
  unfold dropF extF
  simp only [h1, bindF_some, h2, lstO_ob h3, lstO_ob h4]
  rw [if_pos (by rw [line_eq]; omega)]
  rfl
def ixs (st : List Nat) : List D := st.map fun (n : Nat) => D.int (n : Int)
theorem ixs_snoc (st : List Nat) (n : Nat) : ixs (st ++ [n]) = ixs st ++ [.int (n : Int)] := by unfold ixs; rw [List.map_append]; rfl
section
variable {L : List Line} {n w v : Nat} {x : Line} {T : Fx.Tm} {st : List Nat} {W : List Str}
theorem fm_head {a : Wd} {xs : List D} (hx : L[n]? = some x) (hd : x.d = .tup (.str a.str :: xs)) (hw : T[w]? = some (.lst (W.map D.str))) (hv : T[v]? = some (.lst (ixs (st ++ [n])))) (ne : w ≠ v) (hl : W.length ≤ 100000) (x3 x4 x5 : Sl) (k : FS) :
    ∃ T1, seqS (asgF 3 (ixF (varO 0) (popF (varF 2)))) (seqS (dropF (appOF (varF 1) (ixF (varO 3) (constF (.int 0))))) k) [.dat (eY L), .dat (.ob w), .dat (.ob v), x3, x4, x5] T = k [.dat (eY L), .dat (.ob w), .dat (.ob v), .dat x.d, x4, x5] T1 ∧ T1[w]? = some (.lst ((W ++ [a.str]).map D.str)) ∧ T1[v]? = some (.lst (ixs st)) := by
  have e0 := ix_line hx (T.set v (.lst (ixs st)))
  have p1 : popF (varF 2) [.dat (eY L), .dat (.ob w), .dat (.ob v), x3, x4, x5] T = some (.int (n : Int), T.set v (.lst (ixs st))) := by
    rw [ixs_snoc] at hv
    unfold popF
    simp only [varF, List.getElem?_cons_zero, List.getElem?_cons_succ, bindF_some, lstO_ob hv, List.dropLast_concat]
    rw [show (ixs st ++ [D.int (n : Int)])[(ixs st ++ [D.int (n : Int)]).length - 1]? = some (.int (n : Int)) by simp]
  have a1 : asgF 3 (ixF (varO 0) (popF (varF 2))) [.dat (eY L), .dat (.ob w), .dat (.ob v), x3, x4, x5] T = some (.nx [.dat (eY L), .dat (.ob w), .dat (.ob v), .dat x.d, x4, x5], T.set v (.lst (ixs st))) := by
    simp only [asgF, ixF, varO, List.getElem?_cons_zero, bindF_some, p1, e0, Option.map_some, List.set_cons_zero, List.set_cons_succ]
  have w1 : (T.set v (.lst (ixs st)))[w]? = some (.lst (W.map D.str)) := by rw [ne_set (Ne.symm ne)]; exact hw
  have v1 : (T.set v (.lst (ixs st)))[v]? = some (.lst (ixs st)) := set_at hv
  generalize T.set v (.lst (ixs st)) = T1 at *
  have a2 := app_of (fo := varF 1) (f := ixF (varO 3) (constF (.int 0))) (ρ := [.dat (eY L), .dat (.ob w), .dat (.ob v), .dat x.d, x4, x5]) (T := T1) (T1 := T1) (T2 := T1) (k := w) (d := .str a.str) rfl (by
    rw [hd]
    simp only [ixF, varO, constF, List.getElem?_cons_zero, List.getElem?_cons_succ, bindF_some, ixD_tup, ix0, Option.map_some]) w1 w1 (by rw [List.length_map]; omega)
  refine ⟨T1.set w (.lst (W.map D.str ++ [.str a.str])), ?_, ?_, by rw [ne_set ne]; exact v1⟩
  · simp only [seqS, a1, a2]
  · rw [set_at w1, List.map_append]
    rfl
theorem fm_atom {a : Wd} {ns cs : List Int} (hx : L[n]? = some x) (hd : x.d = .tup (.str a.str :: eI ns :: cs.map D.int)) (ha : a = .be ∨ a = .re) (hn : ∀ n ∈ ns, -99 ≤ n ∧ n ≤ 99) (hc : ∀ n ∈ cs, -99 ≤ n ∧ n ≤ 99) (hl1 : ns.length ≤ 6) (hl2 : cs.length ≤ 6)
    (hw : T[w]? = some (.lst (W.map D.str))) (hv : T[v]? = some (.lst (ixs (st ++ [n])))) (ne : w ≠ v) (hl : W.length ≤ 100000) (x3 x4 : Sl) :
    ∃ T1, fmB [.dat (eY L), .dat (.ob w), .dat (.ob v), x3, x4, .un] T = some (.nx [.dat (eY L), .dat (.ob w), .dat (.ob v), .dat x.d, x4, .un], T1) ∧ T1[w]? = some (.lst ((W ++ (a.str :: (ns.map sI ++ semi :: cs.map sI))).map D.str)) ∧ T1[v]? = some (.lst (ixs st)) := by
  obtain ⟨T1, e1, w1, v1⟩ := fm_head (xs := eI ns :: cs.map D.int) hx hd hw hv ne hl x3 x4 .un (ifS (testF (inTF tb_NAMED (ixF (varO 3) (constF (.int 0))))) (dropF (extF (varF 2) (lofF (ofF (bk0F (varF 3)))))) fmA)
  have tn := tb_none ha
  have c1 := comp_strs (i := 4) (fs := itU (ixF (varO 3) (constF (.int 1)))) (ρ := [.dat (eY L), .dat (.ob w), .dat (.ob v), .dat x.d, x4, .un]) (T := T1) (ns := ns) (by simp) (itU_ints _ _ _ _ (by
    rw [hd]; simp only [ixF, varO, constF, List.getElem?_cons_zero, List.getElem?_cons_succ, bindF_some, ixD_tup, ix1, Option.map_some])) hn (by omega)
  have a1 := ext_of (fo := varF 1) (T := T1) (T1 := T1) (T2 := T1) (k := w) rfl c1 w1 w1 (by rw [List.length_map, List.length_map, List.length_map, List.length_append]; simp; omega)
  have w2 : (T1.set w (.lst ((W ++ [a.str]).map D.str ++ (ns.map sI).map D.str)))[w]? = some (.lst ((W ++ [a.str]).map D.str ++ (ns.map sI).map D.str)) := set_at w1
  have v2 : (T1.set w (.lst ((W ++ [a.str]).map D.str ++ (ns.map sI).map D.str)))[v]? = some (.lst (ixs st)) := by rw [ne_set ne]; exact v1
  generalize T1.set w (.lst ((W ++ [a.str]).map D.str ++ (ns.map sI).map D.str)) = T2 at *
  have a2 := app_of (fo := varF 1) (f := constF (.str (Str.ofString ";"))) (ρ := [.dat (eY L), .dat (.ob w), .dat (.ob v), .dat x.d, x4, .un]) (T := T2) (T1 := T2) (T2 := T2) (k := w) (d := .str semi) rfl rfl w2 w2 (by rw [List.length_append, List.length_map, List.length_map, List.length_map, List.length_append]; simp; omega)
  have w3 : (T2.set w (.lst ((W ++ [a.str]).map D.str ++ (ns.map sI).map D.str ++ [.str semi])))[w]? = some (.lst ((W ++ [a.str]).map D.str ++ (ns.map sI).map D.str ++ [.str semi])) := set_at w2
  have v3 : (T2.set w (.lst ((W ++ [a.str]).map D.str ++ (ns.map sI).map D.str ++ [.str semi])))[v]? = some (.lst (ixs st)) := by rw [ne_set ne]; exact v2
  generalize T2.set w (.lst ((W ++ [a.str]).map D.str ++ (ns.map sI).map D.str ++ [.str semi])) = T3 at *
  have c2 := comp_strs (i := 5) (fs := itU (slF (varO 3) (bSo (constF (.int 2))) (bNo))) (ρ := [.dat (eY L), .dat (.ob w), .dat (.ob v), .dat x.d, x4, .un]) (T := T3) (ns := cs) (by simp) (itU_ints _ _ _ _ (by
    rw [hd]; simp only [slF, bSo, bNo, varO, constF, List.getElem?_cons_zero, List.getElem?_cons_succ, bindF_some, slD_t2, Option.map_some]; rfl)) hc (by omega)
  have a3 := ext_of (fo := varF 1) (T := T3) (T1 := T3) (T2 := T3) (k := w) rfl c2 w3 w3 (by rw [List.length_append, List.length_append, List.length_map, List.length_map, List.length_map, List.length_map, List.length_map, List.length_append]; simp; omega)
  refine ⟨T3.set w (.lst ((W ++ [a.str]).map D.str ++ (ns.map sI).map D.str ++ [.str semi] ++ (cs.map sI).map D.str)), ?_, ?_, by rw [ne_set ne]; exact v3⟩
  · have tst : testF (inTF tb_NAMED (ixF (varO 3) (constF (.int 0)))) [.dat (eY L), .dat (.ob w), .dat (.ob v), .dat x.d, x4, .un] T1 = some (false, T1) := by
      rw [hd]
      simp only [testF, inTF, ixF, varO, constF, List.getElem?_cons_zero, List.getElem?_cons_succ, bindF_some, ixD_tup, ix0, Option.map_some, tn, Option.isSome_none]
    unfold fmB
    rw [e1]
    unfold ifS
    rw [tst, bindF_some]
    show fmA _ _ = _
    unfold fmA
    simp only [seqS, a1, a2, a3]
  · rw [set_at w3]
    simp
theorem fm_step {a : Wd} {fs : List Nat} (hx : L[n]? = some x) (hd : x.d = .tup (.str a.str :: ixs fs)) {m : Int} (ha : tb_NAMED.lookup a.str = some m) (hf : fs.length ≤ 10)
    (hw : T[w]? = some (.lst (W.map D.str))) (hv : T[v]? = some (.lst (ixs (st ++ [n])))) (ne : w ≠ v) (hl : W.length ≤ 100000) (hs : st.length ≤ 100000) (x3 x4 : Sl) :
    ∃ T1, fmB [.dat (eY L), .dat (.ob w), .dat (.ob v), x3, x4, .un] T = some (.nx [.dat (eY L), .dat (.ob w), .dat (.ob v), .dat x.d, x4, .un], T1) ∧ T1[w]? = some (.lst ((W ++ [a.str]).map D.str)) ∧ T1[v]? = some (.lst (ixs (st ++ fs.reverse))) := by
  obtain ⟨T1, e1, w1, v1⟩ := fm_head (xs := ixs fs) hx hd hw hv ne hl x3 x4 .un (ifS (testF (inTF tb_NAMED (ixF (varO 3) (constF (.int 0))))) (dropF (extF (varF 2) (lofF (ofF (bk0F (varF 3)))))) fmA)
  have c1 : lofF (ofF (bk0F (varF 3))) [.dat (eY L), .dat (.ob w), .dat (.ob v), .dat x.d, x4, .un] T1 = some ((ixs fs).reverse, T1) := by
    rw [hd]
    simp only [lofF, ofF, bk0F, varF, List.getElem?_cons_zero, List.getElem?_cons_succ, bindF_some, LC.seqD_tup]
  have le : (ixs st).length = st.length := by unfold ixs; rw [List.length_map]
  have le2 : (ixs fs).length = fs.length := by unfold ixs; rw [List.length_map]
  have a1 := ext_of (fo := varF 2) (T := T1) (T1 := T1) (T2 := T1) (k := v) rfl c1 v1 v1 (by rw [List.length_reverse, le, le2]; omega)
  refine ⟨T1.set v (.lst (ixs st ++ (ixs fs).reverse)), ?_, by rw [ne_set (Ne.symm ne)]; exact w1, ?_⟩
  · have tst : testF (inTF tb_NAMED (ixF (varO 3) (constF (.int 0)))) [.dat (eY L), .dat (.ob w), .dat (.ob v), .dat x.d, x4, .un] T1 = some (true, T1) := by
      rw [hd]
      simp only [testF, inTF, ixF, varO, constF, List.getElem?_cons_zero, List.getElem?_cons_succ, bindF_some, ixD_tup, ix0, Option.map_some, ha, Option.isSome_some]
    unfold fmB
    rw [e1]
    unfold ifS
    rw [tst, bindF_some]
    exact a1
  · rw [set_at v1]
    unfold ixs
    rw [List.map_append, List.map_reverse]
theorem fmC_run {sd : List D} (hv : T[v]? = some (.lst sd)) (x0 x1 x3 x4 x5 : Sl) : fmC [x0, x1, .dat (.ob v), x3, x4, x5] T = some (decide ((0 : Int) < (sd.length : Int)), T) := by
  have lv := lenD_ob hv
  unfold fmC
  simp only [testF, binF, lenF, varO, constF, bindF_some, List.getElem?_cons_zero, List.getElem?_cons_succ, lv, Option.map_some, iiF_int, ctt_eq, if_true]
end
/-- what stands in the stack, from its top -/
def stW : List (Nat × Tr) → List Str
  | [] => []
  | p :: s => p.2.words ++ stW s
def stS : List (Nat × Tr) → Nat
  | [] => 0
  | p :: s => p.2.size + stS s
theorem fm_loop {L : List Line} {w v : Nat} (ne : w ≠ v) : ∀ (k : Nat) (s : List (Nat × Tr)) (W : List Str) (T : Fx.Tm) (x3 x4 : Sl), stS s ≤ k → (∀ p ∈ s, Rep L p.1 p.2 ∧ p.2.ok) → T[w]? = some (.lst (W.map D.str)) → T[v]? = some (.lst (ixs (s.reverse.map (·.1)))) → W.length + 10 * stS s ≤ 50000 → s.length + stS s ≤ 50000 →
    ∃ T' y3 y4, whS fmC fmB [.dat (eY L), .dat (.ob w), .dat (.ob v), x3, x4, .un] T = some (.nx [.dat (eY L), .dat (.ob w), .dat (.ob v), y3, y4, .un], T') ∧ T'[w]? = some (.lst ((W ++ stW s).map D.str)) := by
  intro k
  induction k with
  | zero =>
    intro s W T x3 x4 hk hs hw hv hb hc
    cases s with
    | nil =>
      refine ⟨T, x3, x4, ?_, by rw [show stW [] = [] from rfl, List.append_nil]; exact hw⟩
      rw [whS_eq1, fmC_run hv, bindF_some]
      rfl
    | cons p s =>
      have := p.2.size_pos
      unfold stS at hk
      omega
  | succ k ih =>
    intro s W T x3 x4 hk hs hw hv hb hc
    cases s with
    | nil => exact ih [] W T x3 x4 (Nat.zero_le _) hs hw hv hb hc
    | cons p s =>
      obtain ⟨n, t⟩ := p
      obtain ⟨hr, ok⟩ := hs (n, t) List.mem_cons_self
      have hs' : ∀ p ∈ s, Rep L p.1 p.2 ∧ p.2.ok := fun p hp => hs p (List.mem_cons_of_mem _ hp)
      unfold stS at hk hb hc
      rw [List.length_cons] at hc
      have wl := t.words_len ok
      have ev : (((n, t) :: s).reverse.map (·.1)) = s.reverse.map (·.1) ++ [n] := by rw [List.reverse_cons, List.map_append]; rfl
      rw [ev] at hv
      have lrev : (s.reverse.map (·.1)).length = s.length := by rw [List.length_map, List.length_reverse]
      have c := fmC_run hv (.dat (eY L)) (.dat (.ob w)) x3 x4 .un
      rw [decide_eq_true (by rw [ixs_snoc, List.length_append]; simp)] at c
      have go : ∀ (T1 : Fx.Tm) (y : Sl) (s1 : List (Nat × Tr)) (W1 : List Str), fmB [.dat (eY L), .dat (.ob w), .dat (.ob v), x3, x4, .un] T = some (.nx [.dat (eY L), .dat (.ob w), .dat (.ob v), y, x4, .un], T1) → stS s1 ≤ k → (∀ p ∈ s1, Rep L p.1 p.2 ∧ p.2.ok) → T1[w]? = some (.lst (W1.map D.str)) → T1[v]? = some (.lst (ixs (s1.reverse.map (·.1)))) → W1.length + 10 * stS s1 ≤ 50000 → s1.length + stS s1 ≤ 50000 → W1 ++ stW s1 = W ++ (t.words ++ stW s) →
          ∃ T' y3 y4, whS fmC fmB [.dat (eY L), .dat (.ob w), .dat (.ob v), x3, x4, .un] T = some (.nx [.dat (eY L), .dat (.ob w), .dat (.ob v), y3, y4, .un], T') ∧ T'[w]? = some (.lst ((W ++ stW ((n, t) :: s)).map D.str)) := by
        intro T1 y s1 W1 e h1 h2 h3 h4 h5 h6 h7
        obtain ⟨T', y3, y4, e2, e3⟩ := ih s1 W1 T1 y x4 h1 h2 h3 h4 h5 h6
        refine ⟨T', y3, y4, ?_, ?_⟩
        · rw [whS_eq1, c, bindF_some, if_pos rfl, e]
          exact e2
        · rw [e3, h7]
          rfl
      cases hr with
      | @be _ ns cc e =>
        obtain ⟨⟨k1, k2⟩, k3, k4⟩ := ok
        obtain ⟨T1, b1, b2, b3⟩ := fm_atom (a := .be) (ns := ns) (cs := [cc]) e rfl (.inl rfl) (fun n hn => by have := k2 n hn; omega) (fun n hn => by rw [List.mem_singleton.mp hn]; omega) k1 (by simp) hw hv ne (by omega) x3 x4
        refine go T1 _ s _ b1 (by unfold Tr.size at hk; omega) hs' b2 b3 ?_ (by omega) (by rw [List.append_assoc]; rfl)
        have : (Tr.be ns cc).words.length ≤ 10 * (Tr.be ns cc).size := wl
        have hb' : W.length + 10 * ((Tr.be ns cc).size + stS s) ≤ 50000 := hb
        rw [List.length_append]
        show W.length + (Tr.be ns cc).words.length + _ ≤ _
        omega
      | @re _ ns m cc e =>
        obtain ⟨⟨k1, k2⟩, k3, k4, k5, k6⟩ := ok
        obtain ⟨T1, b1, b2, b3⟩ := fm_atom (a := .re) (ns := ns) (cs := [m, cc]) e rfl (.inr rfl) (fun n hn => by have := k2 n hn; omega) (fun n hn => by simp only [List.mem_cons, List.not_mem_nil, or_false] at hn; rcases hn with rfl | rfl <;> omega) k1 (by simp) hw hv ne (by omega) x3 x4
        refine go T1 _ s _ b1 (by unfold Tr.size at hk; omega) hs' b2 b3 ?_ (by omega) (by rw [List.append_assoc]; rfl)
        have : (Tr.re ns m cc).words.length ≤ 10 * (Tr.re ns m cc).size := wl
        have hb' : W.length + 10 * ((Tr.re ns m cc).size + stS s) ≤ 50000 := hb
        rw [List.length_append]
        show W.length + (Tr.re ns m cc).words.length + _ ≤ _
        omega
      | @nt _ f u e r =>
        obtain ⟨T1, b1, b2, b3⟩ := fm_step (a := .nt) (fs := [f]) e rfl tb_nt (by simp) hw hv ne (by omega) (by omega) x3 x4
        unfold Tr.size at hk hb hc
        refine go T1 _ ((f, u) :: s) _ b1 (by unfold stS; show u.size + stS s ≤ k; omega) (fun p hp => ?_) b2 (by rw [b3]; simp) (by unfold stS; rw [List.length_append, List.length_singleton]; show _ + 10 * (u.size + stS s) ≤ _; omega) (by unfold stS; rw [List.length_cons]; show _ + (u.size + stS s) ≤ _; omega) (by rw [List.append_assoc]; rfl)
        rcases List.mem_cons.mp hp with rfl | hp
        · exact ⟨r, ok⟩
        · exact hs' p hp
      | @th _ f u e r =>
        obtain ⟨T1, b1, b2, b3⟩ := fm_step (a := .th) (fs := [f]) e rfl tb_th (by simp) hw hv ne (by omega) (by omega) x3 x4
        unfold Tr.size at hk hb hc
        refine go T1 _ ((f, u) :: s) _ b1 (by unfold stS; show u.size + stS s ≤ k; omega) (fun p hp => ?_) b2 (by rw [b3]; simp) (by unfold stS; rw [List.length_append, List.length_singleton]; show _ + 10 * (u.size + stS s) ≤ _; omega) (by unfold stS; rw [List.length_cons]; show _ + (u.size + stS s) ≤ _; omega) (by rw [List.append_assoc]; rfl)
        rcases List.mem_cons.mp hp with rfl | hp
        · exact ⟨r, ok⟩
        · exact hs' p hp
      | @bo _ f g u u2 e r r2 =>
        obtain ⟨T1, b1, b2, b3⟩ := fm_step (a := .bo) (fs := [f, g]) e rfl tb_bo (by simp) hw hv ne (by omega) (by omega) x3 x4
        unfold Tr.size at hk hb hc
        refine go T1 _ ((f, u) :: (g, u2) :: s) _ b1 (by show u.size + (u2.size + stS s) ≤ k; omega) (fun p hp => ?_) b2 (by rw [b3]; simp) (by rw [List.length_append, List.length_singleton]; show _ + 10 * (u.size + (u2.size + stS s)) ≤ _; omega) (by rw [List.length_cons, List.length_cons]; show _ + (u.size + (u2.size + stS s)) ≤ _; omega) (by
          show W ++ [Wd.bo.str] ++ (u.words ++ (u2.words ++ stW s)) = W ++ (Wd.bo.str :: (u.words ++ u2.words) ++ stW s)
          simp)
        rcases List.mem_cons.mp hp with rfl | hp
        · exact ⟨r, ok.1⟩
        · rcases List.mem_cons.mp hp with rfl | hp
          · exact ⟨r2, ok.2⟩
          · exact hs' p hp
theorem format_run {L : List Line} {n : Nat} {t : Tr} (r : Rep L n t) (hn : L.length = n + 1) (ok : t.ok) (hs : t.size ≤ 1000) (T : Fx.Tm) : ∃ T', h_format_saying [eY L] T = some (.str t.text, T') := by
  have l0 : (0 : Nat) ≤ PySem.sizeLine := Nat.zero_le _
  have l1 : (0 + 1 : Nat) ≤ PySem.sizeLine := by rw [line_eq]; omega
  have el : lenD (T ++ [.lst []]) (.val (eY L)) = some (.int ((n + 1 : Nat) : Int)) := by show some (D.int ((L.map Line.d).length : Int)) = _; rw [List.length_map, hn]
  have sub : ((n + 1 : Nat) : Int) - 1 = (n : Int) := by omega
  have len1 : (T ++ [MO.lst []]).length = T.length + 1 := by rw [List.length_append]; rfl
  have hw : (T ++ [MO.lst []] ++ [.lst [.int (n : Int)]])[T.length]? = some (.lst (([] : List Str).map D.str)) := by
    rw [List.getElem?_append_left (by omega), List.getElem?_append_right (Nat.le_refl _), Nat.sub_self]
    rfl
  have hv : (T ++ [MO.lst []] ++ [.lst [.int (n : Int)]])[T.length + 1]? = some (.lst (ixs (([(n, t)] : List (Nat × Tr)).reverse.map (·.1)))) := by
    rw [List.getElem?_append_right (by omega), len1, Nat.sub_self]
    rfl
  obtain ⟨T', y3, y4, e1, e2⟩ := fm_loop (L := L) (w := T.length) (v := T.length + 1) (by omega) (t.size + 0) [(n, t)] [] (T ++ [MO.lst []] ++ [.lst [.int (n : Int)]]) .un .un (Nat.le_refl _) (fun p hp => by rw [List.mem_singleton.mp hp]; exact ⟨r, ok⟩) hw hv (by show 0 + 10 * (t.size + 0) ≤ _; omega) (by show 1 + (t.size + 0) ≤ _; omega)
  rw [List.nil_append, show stW [(n, t)] = t.words ++ [] from rfl, List.append_nil] at e2
  have sq := seqD_ob e2
  have tl := text_len ok hs
  have jn : joinL (Str.ofString " ") (t.words.map D.str) = some (.str t.text) := by
    unfold joinL
    rw [txts_map]
    exact if_pos (dc_of tl.2)
  refine ⟨T', ?_⟩
  unfold h_format_saying
  rw [fm_eq]
  clear hw hv e2 r hn ok hs tl
  simp only [runB, seqS, objF, lstF, consF, nilF, binF, lenF, varO, constF, retF, ofF, joinOF, bindF_some, l0, l1, if_true, List.map_cons, List.map_nil, List.cons_append, List.nil_append, List.length_cons, List.length_nil, List.replicate_succ, List.replicate_zero, List.set_cons_zero, List.set_cons_succ, List.getElem?_cons_zero, List.getElem?_cons_succ, Option.map_some, iiF_int, ctt_eq, Nat.reduceAdd, Nat.reduceSub, el, sub, len1, e1, sq, jn]
end K19
namespace K19
open Fx LC PM K1
open PySem (Str PyData)
/-! ### the law's saying -/
theorem Tr.depth_le : ∀ t : Tr, t.depth ≤ t.size
  | .be _ _ => Nat.le_refl _
  | .re _ _ _ => Nat.le_refl _
  | .nt t => by have := t.depth_le; unfold Tr.depth Tr.size; omega
  | .th t => by have := t.depth_le; unfold Tr.depth Tr.size; omega
  | .bo t u => by have := t.depth_le; have := u.depth_le; have := t.size_pos; have := u.size_pos; unfold Tr.depth Tr.size; omega
theorem facB_of {ns : List Int} (h : facOk ns = true) : facB ns := by
  unfold facOk at h
  rw [Bool.and_eq_true, decide_eq_true_eq, List.all_eq_true] at h
  refine ⟨by omega, fun n hn => ?_⟩
  have := h.2 n hn
  rw [decide_eq_true_eq] at this
  split at this <;> omega
def Atm (l : Line) : Prop := (∃ ns c, l = some (.be, [.t ns, .i c]) ∧ (Tr.be ns c).ok) ∨ ∃ ns m r, l = some (.re, [.t ns, .i m, .i r]) ∧ (Tr.re ns m r).ok
theorem atm_of {l : Line} (h : l.ok 0 = true) : Atm l := by
  unfold Line.ok at h
  split at h
  · simp at h; omega
  · simp at h; omega
  · simp at h; omega
  · rename_i ns c
    rw [Bool.and_eq_true, decide_eq_true_eq] at h
    refine .inl ⟨ns, c, rfl, facB_of h.1, ?_⟩
    have := h.2
    split at this <;> omega
  · rename_i ns m r
    simp only [Bool.and_eq_true, decide_eq_true_eq] at h
    exact .inr ⟨ns, m, r, rfl, facB_of h.1, h.2.1.1, h.2.1.2, h.2.2.1, h.2.2.2⟩
  · cases h
/-- the line i stands for a tree of at most k lines -/
def Rp (L : List Line) (i k : Nat) : Prop := ∃ t, Rep L i t ∧ t.ok ∧ t.size ≤ k
def Vz (L : List Line) : Prop := ∀ i, i < L.length → Rp L i (i + 1)
theorem Rp.app {L : List Line} {i k : Nat} (h : Rp L i k) (M : List Line) : Rp (L ++ M) i k := by
  obtain ⟨t, h1, h2, h3⟩ := h
  exact ⟨t, h1.app M, h2, h3⟩
theorem Rp.le {L : List Line} {i k k' : Nat} (h : Rp L i k) (hk : k ≤ k') : Rp L i k' := by
  obtain ⟨t, h1, h2, h3⟩ := h
  exact ⟨t, h1, h2, by omega⟩
theorem Rp.at {L : List Line} {l : Line} (h : Atm l) {n : Nat} (hn : n = L.length) : Rp (L ++ [l]) n 1 := by
  rcases h with ⟨ns, c, rfl, ok⟩ | ⟨ns, m, r, rfl, ok⟩
  · exact ⟨_, .be (get_at _ hn), ok, Nat.le_refl _⟩
  · exact ⟨_, .re (get_at _ hn), ok, Nat.le_refl _⟩
theorem Rp.no {L : List Line} {f k n : Nat} (h : Rp L f k) (hn : n = L.length) : Rp (L ++ [some (.nt, [.i (f : Int)])]) n (k + 1) := by
  obtain ⟨t, h1, h2, h3⟩ := h
  exact ⟨.nt t, .nt (get_at _ hn) (h1.app _), h2, by unfold Tr.size; omega⟩
theorem Rp.ther {L : List Line} {f k n : Nat} (h : Rp L f k) (hn : n = L.length) : Rp (L ++ [some (.th, [.i (f : Int)])]) n (k + 1) := by
  obtain ⟨t, h1, h2, h3⟩ := h
  exact ⟨.th t, .th (get_at _ hn) (h1.app _), h2, by unfold Tr.size; omega⟩
theorem Rp.bot {L : List Line} {f g k j n : Nat} (h : Rp L f k) (h' : Rp L g j) (hn : n = L.length) : Rp (L ++ [some (.bo, [.i (f : Int), .i (g : Int)])]) n (k + j + 1) := by
  obtain ⟨t, h1, h2, h3⟩ := h
  obtain ⟨u, g1, g2, g3⟩ := h'
  exact ⟨.bo t u, .bo (get_at _ hn) (h1.app _) (g1.app _), ⟨h2, g2⟩, by unfold Tr.size; omega⟩
theorem Vz.snoc {L : List Line} (h : Vz L) {l : Line} (hl : Rp (L ++ [l]) L.length (L.length + 1)) : Vz (L ++ [l]) := fun i hi => by
  by_cases c : i < L.length
  · exact (h i c).app _
  · rw [len_sn] at hi
    have e : i = L.length := by omega
    subst e
    exact hl
theorem vz_one {l : Line} (hl : Atm l) : Vz [l] := Vz.snoc (L := []) (fun i h => absurd h (by simp)) (Rp.at (L := []) hl rfl)
local macro_rules | `(tactic| walk_at "fy") => `(tactic| simp only [runB, seqS, nilS, asgF, retF, ifS, testF, binF, varF, varO, constF, ofF, ixF, lenF, bindF_some, blF, consF, nilF, intD_int, iiF_int, ctt_eq, addD_int, mulD_int, callF, tofF, frzF, tupF, negF, andT, orT, notT, rng1, rng2, lrgF, compF, LC.seqD_lst, LC.seqD_tup, ixD_lst, ixD_tup, lenD_lst, lenD_tup, eqD_int, itU, unpF, tgD, setN, forS, forL, lstF, ownF, setF, objF, lofF, appF, ifE, andV,
  List.map_cons, List.map_nil, List.cons_append, List.nil_append, List.length_cons, List.length_nil, List.replicate_succ, List.replicate_zero, List.getElem?_cons_zero, List.getElem?_cons_succ, List.set_cons_zero, List.set_cons_succ, Option.map_some, if_true, Nat.reduceAdd, Nat.reduceSub,
  Bool.false_eq_true, if_false, Bool.and_self, wipeR, decide_true, decide_false, Bool.not_true, Bool.not_false, *])
local macro_rules | `(tactic| walk_at "fl") => `(tactic| simp only [runB, seqS, nilS, asgF, retF, ifS, testF, binF, varF, varO, constF, ofF, ixF, lenF, bindF_some, blF, consF, nilF, intD_int, iiF_int, ctt_eq, addD_int, mulD_int, callF, tofF, frzF, tupF, negF, andT, orT, notT, rng1, rng2, lrgF, compF, LC.seqD_lst, LC.seqD_tup, ixD_lst, ixD_tup, lenD_lst, lenD_tup, lenD_own, w_nt, w_bo, w_th, d_no, d_bo, eqD_int, itU, unpF, tgD, setN, forS, forL, lstF, ownF, setF, objF, lofF, appF, ifE, andV,
  List.map_cons, List.map_nil, List.cons_append, List.nil_append, List.length_cons, List.length_nil, List.replicate_succ, List.replicate_zero, List.getElem?_cons_zero, List.getElem?_cons_succ, List.set_cons_zero, List.set_cons_succ, Option.map_some, if_true, Nat.reduceAdd, Nat.reduceSub,
  Bool.false_eq_true, if_false, Bool.and_self, wipeR, decide_true, decide_false, Bool.not_true, Bool.not_false, *])
set_option maxHeartbeats 4000000 in
theorem plZ_run {ns : List Int} {T : Fx.Tm} (h : St ns T) (L : List Line) (hv : Vz L) (h1 : 1 ≤ L.length) (h2 : L.length ≤ 100) {count far : Int} (h0 : 0 ≤ count) (hc : count ≤ 6) (hf : 0 ≤ far) (hf9 : far ≤ 9) (many : Sl) (x5 x6 x7 x8 : Sl) :
    ∃ L' z6 z7 z8 T', Vz L' ∧ L.length ≤ L'.length ∧ L'.length ≤ L.length + 3 ∧ St ns T' ∧ plB [.dat (.ob 0), .dat (.int count), many, .dat (.int far), .own (L.map Line.d), x5, x6, x7, x8] T = some (.nx [.dat (.ob 0), .dat (.int count), many, .dat (.int far), .own (L'.map Line.d), x5, z6, z7, z8], T') := by
  obtain ⟨c, T1, g1, g2, t1, e1⟩ := draw_st h (n := 4) (by omega) (by omega)
  obtain ⟨l, T2, hl, t2, e2⟩ := atom_run t1 h0 hc hf hf9
  obtain ⟨n, hn⟩ : ∃ n : Nat, L.length = n + 1 := ⟨L.length - 1, by omega⟩
  have at1 : Rp (L ++ [l]) (n + 1) 1 := Rp.at (atm_of (hl 0).ok) hn.symm
  have pr : Rp L n (n + 1) := hv n (by omega)
  have pr1 := pr.app [l]
  have v1 : Vz (L ++ [l]) := hv.snoc (by rw [hn]; exact at1.le (by omega))
  have k1 : (L ++ [l]).length = n + 1 + 1 := by rw [len_sn, hn]
  have s1 : n + 1 < PySem.sizeLine := lt_line (by omega)
  have s2 : n + 1 + 1 < PySem.sizeLine := lt_line (by omega)
  have s3 : n + 1 + 1 + 1 < PySem.sizeLine := lt_line (by omega)
  have m0 := len_map L
  have m1 := len_map (L ++ [l])
  have a1 := map_snoc L l
  have u1 := succ_sub n
  have u2 := succ_sub (n + 1)
  have u3 := succ_sub (n + 1 + 1)
  have q2 := l2
  have q3 := l3
  have c4 : c = 0 ∨ c = 1 ∨ (1 < c ∧ c ≠ 0 ∧ c ≠ 1) := by omega
  unfold plB
  rcases c4 with rfl | rfl | ⟨cg, cn0, cn1⟩
  · -- 0: the new one denied
    have w2 : Rp (L ++ [l] ++ [some (.nt, [.i ((n + 1 : Nat) : Int)])]) (n + 1 + 1) 2 := at1.no k1.symm
    have v2 : Vz (L ++ [l] ++ [some (.nt, [.i ((n + 1 : Nat) : Int)])]) := v1.snoc (by rw [k1]; exact w2.le (by omega))
    have k2 : (L ++ [l] ++ [some (Wd.nt, [Ag.i ((n + 1 : Nat) : Int)])]).length = n + 1 + 1 + 1 := by rw [len_sn, k1]
    have v3 : Vz (L ++ [l] ++ [some (.nt, [.i ((n + 1 : Nat) : Int)])] ++ [some (.bo, [.i ((n : Nat) : Int), .i ((n + 1 + 1 : Nat) : Int)])]) := v2.snoc (by rw [k2]; exact (Rp.bot (pr1.app _) w2 k2.symm).le (by omega))
    refine ⟨L ++ [l] ++ [some (.nt, [.i ((n + 1 : Nat) : Int)])] ++ [some (.bo, [.i ((n : Nat) : Int), .i ((n + 1 + 1 : Nat) : Int)])], .dat (.int (n : Int)), .dat (.int 0), .dat (.int ((n + 1 + 1 : Nat) : Int)), T2, v3, by rw [len_sn, k2]; omega, by rw [len_sn, k2]; omega, t2, ?_⟩
    have a2 := map_snoc (L ++ [l]) (some (.nt, [.i ((n + 1 : Nat) : Int)]))
    have a3 := map_snoc (L ++ [l] ++ [some (.nt, [.i ((n + 1 : Nat) : Int)])]) (some (.bo, [.i ((n : Nat) : Int), .i ((n + 1 + 1 : Nat) : Int)]))
    have m2 := len_map (L ++ [l] ++ [some (.nt, [.i ((n + 1 : Nat) : Int)])])
    have d0 : decide ((0 : Int) = 1) = false := decide_eq_false (by omega)
    have d1 : decide ((1 : Int) < 0) = false := decide_eq_false (by omega)
    rw [← a3]
    clear a3 v1 v2 v3 w2 at1 pr pr1 hv hl h t1 t2 g1 g2 h0 hc hf hf9 h1 h2
    walk_at "fl"
  · -- 1: the old one denied
    have w2 : Rp (L ++ [l] ++ [some (.nt, [.i ((n : Nat) : Int)])]) (n + 1 + 1) (n + 1 + 1) := pr1.no k1.symm
    have v2 : Vz (L ++ [l] ++ [some (.nt, [.i ((n : Nat) : Int)])]) := v1.snoc (by rw [k1]; exact w2.le (by omega))
    have k2 : (L ++ [l] ++ [some (Wd.nt, [Ag.i ((n : Nat) : Int)])]).length = n + 1 + 1 + 1 := by rw [len_sn, k1]
    have v3 : Vz (L ++ [l] ++ [some (.nt, [.i ((n : Nat) : Int)])] ++ [some (.bo, [.i ((n + 1 + 1 : Nat) : Int), .i ((n + 1 : Nat) : Int)])]) := v2.snoc (by rw [k2]; exact (Rp.bot w2 (at1.app _) k2.symm).le (by omega))
    refine ⟨L ++ [l] ++ [some (.nt, [.i ((n : Nat) : Int)])] ++ [some (.bo, [.i ((n + 1 + 1 : Nat) : Int), .i ((n + 1 : Nat) : Int)])], .dat (.int ((n + 1 + 1 : Nat) : Int)), .dat (.int 1), .dat (.int ((n + 1 : Nat) : Int)), T2, v3, by rw [len_sn, k2]; omega, by rw [len_sn, k2]; omega, t2, ?_⟩
    have a2 := map_snoc (L ++ [l]) (some (.nt, [.i ((n : Nat) : Int)]))
    have a3 := map_snoc (L ++ [l] ++ [some (.nt, [.i ((n : Nat) : Int)])]) (some (.bo, [.i ((n + 1 + 1 : Nat) : Int), .i ((n + 1 : Nat) : Int)]))
    have m2 := len_map (L ++ [l] ++ [some (.nt, [.i ((n : Nat) : Int)])])
    have d0 : decide ((1 : Int) = 0) = false := decide_eq_false (by omega)
    have d1 : decide ((1 : Int) < 1) = false := decide_eq_false (by omega)
    rw [← a3]
    clear a3 v1 v2 v3 w2 at1 pr pr1 hv hl h t1 t2 g1 g2 h0 hc hf hf9 h1 h2
    walk_at "fl"
  · -- 2, 3: both, perhaps denied
    obtain ⟨e, T3, g3, g4, t3, e3⟩ := draw_st t2 (n := 2) (by omega) (by omega)
    have w2 := Rp.bot pr1 at1 k1.symm
    have v2 : Vz (L ++ [l] ++ [some (.bo, [.i ((n : Nat) : Int), .i ((n + 1 : Nat) : Int)])]) := v1.snoc (by rw [k1]; exact w2.le (by omega))
    have k2 : (L ++ [l] ++ [some (Wd.bo, [Ag.i ((n : Nat) : Int), .i ((n + 1 : Nat) : Int)])]).length = n + 1 + 1 + 1 := by rw [len_sn, k1]
    have a2 := map_snoc (L ++ [l]) (some (.bo, [.i ((n : Nat) : Int), .i ((n + 1 : Nat) : Int)]))
    have m2 := len_map (L ++ [l] ++ [some (.bo, [.i ((n : Nat) : Int), .i ((n + 1 : Nat) : Int)])])
    have d0 : decide (c = 0) = false := decide_eq_false cn0
    have d1 : decide (c = 1) = false := decide_eq_false cn1
    have d2 : decide (1 < c) = true := decide_eq_true cg
    by_cases ce : e = 1
    · have v3 : Vz (L ++ [l] ++ [some (.bo, [.i ((n : Nat) : Int), .i ((n + 1 : Nat) : Int)])] ++ [some (.nt, [.i ((n + 1 + 1 : Nat) : Int)])]) := v2.snoc (by rw [k2]; exact (w2.no k2.symm).le (by omega))
      have a3 := map_snoc (L ++ [l] ++ [some (.bo, [.i ((n : Nat) : Int), .i ((n + 1 : Nat) : Int)])]) (some (.nt, [.i ((n + 1 + 1 : Nat) : Int)]))
      refine ⟨L ++ [l] ++ [some (.bo, [.i ((n : Nat) : Int), .i ((n + 1 : Nat) : Int)])] ++ [some (.nt, [.i ((n + 1 + 1 : Nat) : Int)])], .dat (.int (n : Int)), .dat (.int c), .dat (.int ((n + 1 : Nat) : Int)), T3, v3, by rw [len_sn, k2]; omega, by rw [len_sn, k2]; omega, t3, ?_⟩
      have d3 : decide (e = 1) = true := decide_eq_true ce
      rw [← a3]
      clear a3 v1 v2 v3 w2 at1 pr pr1 hv hl h t1 t2 t3 g1 g2 g3 g4 h0 hc hf hf9 h1 h2 ce cg cn0 cn1
      walk_at "fl"
    · refine ⟨L ++ [l] ++ [some (.bo, [.i ((n : Nat) : Int), .i ((n + 1 : Nat) : Int)])], .dat (.int (n : Int)), .dat (.int c), .dat (.int ((n + 1 : Nat) : Int)), T3, v2, by rw [k2]; omega, by rw [k2]; omega, t3, ?_⟩
      have d3 : decide (e = 1) = false := decide_eq_false ce
      rw [← a2]
      clear a2 v1 v2 w2 at1 pr pr1 hv hl h t1 t2 t3 g1 g2 g3 g4 h0 hc hf hf9 h1 h2 ce cg cn0 cn1
      walk_at "fl"
/-! ### the law of the lines -/
theorem plainZ_run {ns : List Int} {T : Fx.Tm} (h : St ns T) {count many far : Int} (h0 : 0 ≤ count) (hc : count ≤ 6) (hf : 0 ≤ far) (hf9 : far ≤ 9) (hm : 1 ≤ many) (hm9 : many ≤ 10) :
    ∃ L T', Vz L ∧ 1 ≤ L.length ∧ (L.length : Int) ≤ 3 * many ∧ St ns T' ∧ h__law_plain [.ob 0, .int count, .int many, .int far] T = some (eY L, T') := by
  obtain ⟨l, T1, hl, t1, e1⟩ := atom_run h h0 hc hf hf9
  obtain ⟨d, T2, g1, g2, t2, e2⟩ := draw_st t1 (n := many) (by omega) (by omega)
  obtain ⟨ρ', T', ⟨L, z5, z6, z7, z8, rfl, hv, b1, b2, t'⟩, e⟩ := forL_rngI (t := .nm 5) (body := plB) (j := d)
    (inv := fun k ρ T => ∃ L x5 x6 x7 x8, ρ = [.dat (.ob 0), .dat (.int count), .dat (.int many), .dat (.int far), .own (L.map Line.d), x5, x6, x7, x8] ∧ Vz L ∧ 1 ≤ L.length ∧ (L.length : Int) ≤ 1 + 3 * k ∧ St ns T) _ 0 rfl
    (fun k ρ T a b hi => by
      obtain ⟨L, x5, x6, x7, x8, rfl, hv, b1, b2, t⟩ := hi
      obtain ⟨L', z6, z7, z8, T', hv', c1, c2, t', e⟩ := plZ_run t L hv b1 (by omega) h0 hc hf hf9 (.dat (.int many)) (.dat (.int k)) x6 x7 x8
      exact ⟨_, _, T', rfl, e, L', _, _, _, _, rfl, hv', by omega, by omega, t'⟩)
    [.dat (.ob 0), .dat (.int count), .dat (.int many), .dat (.int far), .own [l.d], .un, .un, .un, .un] T2 ⟨[l], _, _, _, _, rfl, vz_one (atm_of (hl 0).ok), by simp, by simp, t2⟩
  rw [if_pos g1] at b2
  refine ⟨L, T', hv, b1, by omega, t', ?_⟩
  have r1 : in62 d = true := in62_of (by omega) (by omega)
  have l1 : ((0 + 1 : Nat) ≤ PySem.sizeLine) := by rw [line_eq]; omega
  have so : ∀ ds T, seqD T (.own 4 ds) = some (false, ds) := fun _ _ => rfl
  unfold h__law_plain
  rw [plain_eq]
  unfold eY
  clear h h0 hc hf hf9 hm hm9 hl t1 t2 t' g1 g2 hv b1 b2
  walk_at "fy"
end K19
set_option maxHeartbeats 4000000
namespace K19
open Fx LC PM K1
open PySem (Str PyData)
noncomputable def s1 : FS := ifS (testF (binF eqD (callF h__law_draw (consF (varF 1) (consF (constF (.int 2)) (nilF)))) (constF (.int 1)))) (seqS (asgF 5 (binF addD (constF (.int 1)) (callF h__law_draw (consF (varF 1) (consF (constF (.int 12)) (nilF))))))
      (asgF 2 (binF addD (varF 2) (tupF (consF (tupF (consF (constF (.str (Str.ofString "rest"))) (consF (callF h__law_factors (consF (varF 1) (consF (callF h__law_draw (consF (varF 1) (consF (constF (.int 7)) (nilF)))) (consF (constF (.int 9)) (nilF))))) (consF (varF 5) (consF (callF h__law_draw (consF (varF 1) (consF (varF 5) (nilF)))) (nilF)))))) (consF (tupF (consF (constF (.str (Str.ofString "both"))) (consF (binF subD (lenF (varO 2)) (constF (.int 1))) (consF (lenF (varO 2)) (nilF))))) (nilF))))))) (nilS)
noncomputable def s2 : FS := ifS (testF (binF eqD (callF h__law_draw (consF (varF 1) (consF (constF (.int 2)) (nilF)))) (constF (.int 1)))) (asgF 2 (binF addD (varF 2) (tupF (consF (tupF (consF (constF (.str (Str.ofString "there"))) (consF (binF subD (lenF (varO 2)) (constF (.int 1))) (nilF)))) (nilF))))) (nilS)
noncomputable def s3 : FS := ifS (testF (binF eqD (callF h__law_draw (consF (varF 1) (consF (constF (.int 2)) (nilF)))) (constF (.int 1)))) (asgF 2 (binF addD (varF 2) (tupF (consF (tupF (consF (constF (.str (Str.ofString "both"))) (consF (binF subD (lenF (varO 2)) (constF (.int 1))) (consF (callF h__law_draw (consF (varF 1) (consF (lenF (varO 2)) (nilF)))) (nilF))))) (nilF))))) (nilS)
noncomputable def s4 : FS := ifS (testF (binF eqD (callF h__law_draw (consF (varF 1) (consF (constF (.int 3)) (nilF)))) (constF (.int 1)))) (asgF 2 (binF addD (varF 2) (tupF (consF (tupF (consF (constF (.str (Str.ofString "below"))) (consF (tupF (nilF)) (consF (binF subD (callF h__law_draw (consF (varF 1) (consF (constF (.int 199)) (nilF)))) (constF (.int 99))) (nilF))))) (consF (tupF (consF (constF (.str (Str.ofString "both"))) (consF (binF subD (lenF (varO 2)) (constF (.int 1))) (consF (lenF (varO 2)) (nilF))))) (nilF)))))) (nilS)
theorem law_eq : g_law = seqS (objF 1 (lstF (consF (constF (.int 0)) (consF (constF (.int 0)) (consF (frzF (lofF (varO 0))) (consF (constF (.int 1)) (nilF)))))))
      (seqS (asgF 2 (callF h__law_plain (consF (varF 1) (consF (callF h__law_draw (consF (varF 1) (consF (constF (.int 7)) (nilF)))) (consF (constF (.int 3)) (consF (constF (.int 9)) (nilF)))))))
      (seqS s1
      (seqS s2
      (seqS s3
      (seqS s4
      (seqS (asgF 3 (m1F joinD (constF (.str (Str.ofString " "))) (callF (h__law_words 60) (consF (varF 2) (consF (binF subD (lenF (varO 2)) (constF (.int 1))) (nilF))))))
      (seqS (ifS (testF (binF neD (callF h_format_saying (consF (varF 2) (nilF))) (varF 3))) (retF (ofF (constF (.bl false)))) (nilS))
      (seqS (asgF 4 (callF h_parse_saying (consF (varF 3) (nilF))))
      (retF (ofF (andV (isiF "tuple" (varF 4)) (andV (binF eqD (frzF (lofF (varO 4))) (callF (h__law_spread 60) (consF (varF 2) (consF (binF subD (lenF (varO 2)) (constF (.int 1))) (nilF))))) (binF eqD (callF h_format_saying (consF (varF 4) (nilF))) (varF 3)))))))))))))) := rfl
local macro_rules | `(tactic| walk_at "fm") => `(tactic| simp only [runB, seqS, nilS, asgF, retF, ifS, testF, binF, varF, varO, constF, ofF, ixF, lenF, bindF_some, blF, consF, nilF, intD_int, iiF_int, ctt_eq, addD_int, mulD_int, callF, tofF, frzF, tupF, negF, andT, orT, notT, rng1, rng2, lrgF, compF, LC.seqD_lst, LC.seqD_tup, ixD_lst, ixD_tup, lenD_lst, lenD_tup, lenD_own, w_nt, w_bo, w_th, eqD_int, itU, unpF, tgD, isiF, tyN, m1F, joinD, w_re, w_be, setN, forS, forL, lstF, ownF, setF, objF, lofF, appF, ifE, andV,
  List.map_cons, List.map_nil, List.cons_append, List.nil_append, List.length_cons, List.length_nil, List.replicate_succ, List.replicate_zero, List.getElem?_cons_zero, List.getElem?_cons_succ, List.set_cons_zero, List.set_cons_succ, Option.map_some, if_true, Nat.reduceAdd, Nat.reduceSub,
  Bool.false_eq_true, if_false, Bool.and_self, wipeR, decide_true, decide_false, Bool.not_true, Bool.not_false, *])
/-! ### strings that are read -/
theorem strOk_tl (x : Str) : PyData.strOk x = true ↔ ∀ c ∈ TL.tl x, c < 0x110000 := by
  unfold PyData.strOk
  rw [← Array.all_toList, List.all_eq_true]
  constructor
  · intro h c hc
    exact of_decide_eq_true (h c hc)
  · intro h c hc
    exact decide_eq_true (h c hc)
theorem strOk_join : ∀ ys : List Str, (∀ y ∈ ys, PyData.strOk y = true) → PyData.strOk (PySem.Str.join sp_ ys) = true
  | [], _ => by decide +kernel
  | [y], h => h y List.mem_cons_self
  | x :: y :: r, h => by
    have ih := strOk_join (y :: r) fun z hz => h z (List.mem_cons_of_mem _ hz)
    have hx := h x List.mem_cons_self
    have hs : PyData.strOk sp_ = true := by decide +kernel
    rw [strOk_tl] at ih hx hs ⊢
    intro c hc
    rw [show PySem.Str.join sp_ (x :: y :: r) = x ++ sp_ ++ PySem.Str.join sp_ (y :: r) from rfl, TL.tl_append, TL.tl_append, List.mem_append, List.mem_append] at hc
    rcases hc with (hc | hc) | hc
    · exact hx c hc
    · exact hs c hc
    · exact ih c hc
theorem facs_ok {ns : List Int} (h : facB ns) : ∀ y ∈ ns.map sI, PyData.strOk y = true := fun y hy => by
  obtain ⟨n, hn, rfl⟩ := List.mem_map.mp hy
  have := h.2 n hn
  exact (num_ok (by omega) (by omega)).ok
theorem words_strOk : ∀ t : Tr, t.ok → ∀ y ∈ t.words, PyData.strOk y = true
  | .be ns c, h, y, hy => by
    obtain ⟨h1, h2, h3⟩ := h
    simp only [Tr.words, List.mem_cons, List.mem_append, List.not_mem_nil, or_false] at hy
    rcases hy with rfl | hy | rfl | rfl
    · exact Wd.ok _
    · exact facs_ok h1 y hy
    · decide +kernel
    · exact (num_ok (by omega) (by omega)).ok
  | .re ns m r, h, y, hy => by
    obtain ⟨h1, h2, h3, h4, h5⟩ := h
    simp only [Tr.words, List.mem_cons, List.mem_append, List.not_mem_nil, or_false] at hy
    rcases hy with rfl | hy | rfl | rfl | rfl
    · exact Wd.ok _
    · exact facs_ok h1 y hy
    · decide +kernel
    · exact (num_ok (by omega) (by omega)).ok
    · exact (num_ok (by omega) (by omega)).ok
  | .nt t, h, y, hy => by
    rcases List.mem_cons.mp hy with rfl | hy
    · exact Wd.ok _
    · exact words_strOk t h y hy
  | .th t, h, y, hy => by
    rcases List.mem_cons.mp hy with rfl | hy
    · exact Wd.ok _
    · exact words_strOk t h y hy
  | .bo t u, h, y, hy => by
    rcases List.mem_cons.mp hy with rfl | hy
    · exact Wd.ok _
    · rcases List.mem_append.mp hy with hy | hy
      · exact words_strOk t h.1 y hy
      · exact words_strOk u h.2 y hy
theorem text_ok {t : Tr} (ok : t.ok) : PyData.strOk t.text = true := by
  rw [show t.text = PySem.Str.join sp_ t.words from TL.join_eq sp_ t.words]
  exact strOk_join _ (words_strOk t ok)
theorem eqD_self {x : Str} (h : PyData.strOk x = true) : eqD (.str x) (.str x) = some (.bl true) := by
  unfold eqD eqB
  simp only [toPy, shp_str h, Bool.and_self, if_true, PyData.eqv, Option.map_some, beq_self_eq_true]
theorem neD_self {x : Str} (h : PyData.strOk x = true) : neD (.str x) (.str x) = some (.bl false) := by
  unfold neD eqB
  simp only [toPy, shp_str h, Bool.and_self, if_true, PyData.eqv, Option.map_some, beq_self_eq_true, Bool.not_true]
theorem eqvAll_lines : ∀ ls : List Line, PyData.eqvAll (ls.map pyL) (ls.map pyL) = true
  | [] => by simp [PyData.eqvAll]
  | l :: ls => by simp [PyData.eqvAll, eqv_line, eqvAll_lines ls]
theorem eqD_lines (ls : List Line) : eqD (.lst (ls.map Line.d)) (.lst (ls.map Line.d)) = some (.bl true) := by
  unfold eqD eqB
  simp only [toPy, toPyL_lines, Option.map_some, shp_lines, Bool.and_self, if_true, PyData.eqv, eqvAll_lines]
/-! ### the steps of the law -/
theorem eY_len (L : List Line) (T : Fx.Tm) : lenD T (.val (eY L)) = some (.int (L.length : Int)) := by show some (D.int ((L.map Line.d).length : Int)) = _; rw [List.length_map]
theorem eY_add (L M : List Line) (h : L.length + M.length ≤ 1000) : addD (eY L) (.tup (M.map Line.d)) = some (eY (L ++ M)) := by
  unfold eY
  rw [addD_tup, List.length_map, List.length_map, if_pos (by rw [line_eq]; omega), List.map_append]
theorem sub_len {L : List Line} {n : Nat} (h : L.length = n + 1) : (L.length : Int) - 1 = (n : Int) := by omega
theorem s1_run {ns : List Int} {T : Fx.Tm} (h : St ns T) {L : List Line} (hv : Vz L) (h1 : 1 ≤ L.length) (h2 : L.length ≤ 30) (x0 x5 : Sl) :
    ∃ L' y5 T', Vz L' ∧ 1 ≤ L'.length ∧ L'.length ≤ L.length + 2 ∧ St ns T' ∧ s1 [x0, .dat (.ob 0), .dat (eY L), .un, .un, x5] T = some (.nx [x0, .dat (.ob 0), .dat (eY L'), .un, .un, y5], T') := by
  obtain ⟨d, T1, g1, g2, t1, e1⟩ := draw_st h (n := 2) (by omega) (by omega)
  have el := eY_len L
  by_cases c : d = 1
  · obtain ⟨m, T2, g3, g4, t2, e2⟩ := draw_st t1 (n := 12) (by omega) (by omega)
    obtain ⟨k, T3, g5, g6, t3, e3⟩ := draw_st t2 (n := 7) (by omega) (by omega)
    obtain ⟨fs, T4, f1, f2, t4, e4⟩ := facs_run t3 (count := k) (far := 9) (by omega) (by omega) (by omega) (by omega)
    obtain ⟨r, T5, g7, g8, t5, e5⟩ := draw_st t4 (n := 1 + m) (by omega) (by omega)
    obtain ⟨n, hn⟩ : ∃ n : Nat, L.length = n + 1 := ⟨L.length - 1, by omega⟩
    have at1 : Rp (L ++ [some (Wd.re, [Ag.t fs, Ag.i (1 + m), Ag.i r])]) (n + 1) 1 := Rp.at (.inr ⟨fs, 1 + m, r, rfl, ⟨by omega, fun f hf => by have := f2 f hf; omega⟩, by omega, by omega, by omega, by omega⟩) hn.symm
    have v1 : Vz (L ++ [some (Wd.re, [Ag.t fs, Ag.i (1 + m), Ag.i r])]) := hv.snoc (by rw [hn]; exact at1.le (by omega))
    have k1 : (L ++ [some (Wd.re, [Ag.t fs, Ag.i (1 + m), Ag.i r])]).length = n + 1 + 1 := by rw [len_sn, hn]
    have pr : Rp L n (n + 1) := hv n (by omega)
    have w2 := Rp.bot (pr.app [some (Wd.re, [Ag.t fs, Ag.i (1 + m), Ag.i r])]) at1 k1.symm
    have v2 := v1.snoc (l := some (Wd.bo, [Ag.i (n : Int), Ag.i ((n + 1 : Nat) : Int)])) (by rw [k1]; exact w2.le (by omega))
    rw [List.append_assoc] at v2
    refine ⟨_, .dat (.int (1 + m)), T5, v2, by rw [List.length_append]; omega, by rw [List.length_append]; simp, t5, ?_⟩
    have c' : decide (d = 1) = true := decide_eq_true c
    have ad := eY_add L ([some (Wd.re, [Ag.t fs, Ag.i (1 + m), Ag.i r])] ++ [some (Wd.bo, [Ag.i (n : Int), Ag.i ((n + 1 : Nat) : Int)])]) (by simp; omega)
    have ad2 : addD (eY L) (.tup [.tup [Wd.re.d, eI fs, .int (1 + m), .int r], .tup [Wd.bo.d, .int (n : Int), .int ((n + 1 : Nat) : Int)]]) = some (eY (L ++ ([some (Wd.re, [Ag.t fs, Ag.i (1 + m), Ag.i r])] ++ [some (Wd.bo, [Ag.i (n : Int), Ag.i ((n + 1 : Nat) : Int)])]))) := ad
    have sb := sub_len hn
    rw [hn] at el sb
    have z4 := len4
    have z3 := l3
    have z2 := l2
    unfold s1
    clear h h1 h2 hv hn t1 t2 t3 t4 t5 g1 g2 g3 g4 g5 g6 g7 g8 f1 f2 at1 v1 k1 pr w2 v2 c ad
    walk_at "fm"
  · refine ⟨L, x5, T1, hv, h1, by omega, t1, ?_⟩
    have c' : decide (d = 1) = false := decide_eq_false c
    unfold s1
    clear h h1 h2 hv g1 g2 t1 c el
    walk_at "fm"
theorem s2_run {ns : List Int} {T : Fx.Tm} (h : St ns T) {L : List Line} (hv : Vz L) (h1 : 1 ≤ L.length) (h2 : L.length ≤ 30) (x0 x5 : Sl) :
    ∃ L' y5 T', Vz L' ∧ 1 ≤ L'.length ∧ L'.length ≤ L.length + 1 ∧ St ns T' ∧ s2 [x0, .dat (.ob 0), .dat (eY L), .un, .un, x5] T = some (.nx [x0, .dat (.ob 0), .dat (eY L'), .un, .un, y5], T') := by
  obtain ⟨d, T1, g1, g2, t1, e1⟩ := draw_st h (n := 2) (by omega) (by omega)
  have el := eY_len L
  by_cases c : d = 1
  · obtain ⟨n, hn⟩ : ∃ n : Nat, L.length = n + 1 := ⟨L.length - 1, by omega⟩
    have pr : Rp L n (n + 1) := hv n (by omega)
    have v2 := hv.snoc (l := some (Wd.th, [Ag.i (n : Int)])) (by rw [hn]; exact (pr.ther hn.symm).le (by omega))
    refine ⟨_, x5, T1, v2, by rw [len_sn]; omega, by rw [len_sn]; omega, t1, ?_⟩
    have c' : decide (d = 1) = true := decide_eq_true c
    have ad := eY_add L [some (Wd.th, [Ag.i (n : Int)])] (by simp; omega)
    have ad2 : addD (eY L) (.tup [.tup [Wd.th.d, .int (n : Int)]]) = some (eY (L ++ [some (Wd.th, [Ag.i (n : Int)])])) := ad
    have sb := sub_len hn
    rw [hn] at el sb
    have z2 := l2
    have z1 : ((0 + 1 : Nat) ≤ PySem.sizeLine) := by rw [line_eq]; omega
    unfold s2
    clear h h1 h2 hv hn t1 g1 g2 pr v2 c ad
    walk_at "fm"
  · refine ⟨L, x5, T1, hv, h1, by omega, t1, ?_⟩
    have c' : decide (d = 1) = false := decide_eq_false c
    unfold s2
    clear h h1 h2 hv g1 g2 t1 c el
    walk_at "fm"
theorem s3_run {ns : List Int} {T : Fx.Tm} (h : St ns T) {L : List Line} (hv : Vz L) (h1 : 1 ≤ L.length) (h2 : L.length ≤ 12) (x0 x5 : Sl) :
    ∃ L' n y5 T', L'.length = n + 1 ∧ n ≤ 15 ∧ Rp L' n 30 ∧ St ns T' ∧ s3 [x0, .dat (.ob 0), .dat (eY L), .un, .un, x5] T = some (.nx [x0, .dat (.ob 0), .dat (eY L'), .un, .un, y5], T') := by
  obtain ⟨d, T1, g1, g2, t1, e1⟩ := draw_st h (n := 2) (by omega) (by omega)
  have el := eY_len L
  obtain ⟨n, hn⟩ : ∃ n : Nat, L.length = n + 1 := ⟨L.length - 1, by omega⟩
  have pr : Rp L n (n + 1) := hv n (by omega)
  by_cases c : d = 1
  · obtain ⟨k, T2, g3, g4, t2, e2⟩ := draw_st t1 (n := ((n + 1 : Nat) : Int)) (by omega) (by omega)
    obtain ⟨j, rfl⟩ : ∃ j : Nat, k = (j : Int) := ⟨k.toNat, by omega⟩
    have pj := hv j (by omega)
    have w := (Rp.bot pr pj hn.symm).le (k' := 30) (by omega)
    refine ⟨_, n + 1, x5, T2, by rw [len_sn, hn], by omega, w, t2, ?_⟩
    have c' : decide (d = 1) = true := decide_eq_true c
    have ad := eY_add L [some (Wd.bo, [Ag.i (n : Int), Ag.i (j : Int)])] (by simp; omega)
    have ad2 : addD (eY L) (.tup [.tup [Wd.bo.d, .int (n : Int), .int (j : Int)]]) = some (eY (L ++ [some (Wd.bo, [Ag.i (n : Int), Ag.i (j : Int)])])) := ad
    have sb := sub_len hn
    rw [hn] at el sb
    have z3 := l3
    have z1 : ((0 + 1 : Nat) ≤ PySem.sizeLine) := by rw [line_eq]; omega
    unfold s3
    clear h h1 h2 hv hn t1 t2 g1 g2 g3 g4 pr pj w c ad
    walk_at "fm"
  · refine ⟨L, n, x5, T1, hn, by omega, pr.le (by omega), t1, ?_⟩
    have c' : decide (d = 1) = false := decide_eq_false c
    unfold s3
    clear h h1 h2 hv g1 g2 t1 c el hn pr
    walk_at "fm"
theorem s4_run {ns : List Int} {T : Fx.Tm} (h : St ns T) {L : List Line} {n : Nat} (hn : L.length = n + 1) (h2 : n ≤ 15) (pr : Rp L n 30) (x0 x5 : Sl) :
    ∃ L' n y5 T', L'.length = n + 1 ∧ n ≤ 17 ∧ Rp L' n 32 ∧ St ns T' ∧ s4 [x0, .dat (.ob 0), .dat (eY L), .un, .un, x5] T = some (.nx [x0, .dat (.ob 0), .dat (eY L'), .un, .un, y5], T') := by
  obtain ⟨d, T1, g1, g2, t1, e1⟩ := draw_st h (n := 3) (by omega) (by omega)
  have el := eY_len L
  by_cases c : d = 1
  · obtain ⟨k, T2, g3, g4, t2, e2⟩ := draw_st t1 (n := 199) (by omega) (by omega)
    have at1 : Rp (L ++ [some (Wd.be, [Ag.t [], Ag.i (k - 99)])]) (n + 1) 1 := Rp.at (.inl ⟨[], k - 99, rfl, ⟨by simp, by simp⟩, by omega, by omega⟩) hn.symm
    have k1 : (L ++ [some (Wd.be, [Ag.t [], Ag.i (k - 99)])]).length = n + 1 + 1 := by rw [len_sn, hn]
    have w := Rp.bot (pr.app [some (Wd.be, [Ag.t [], Ag.i (k - 99)])]) at1 k1.symm
    rw [List.append_assoc] at w
    refine ⟨_, n + 2, x5, T2, by rw [List.length_append, hn]; rfl, by omega, w, t2, ?_⟩
    have c' : decide (d = 1) = true := decide_eq_true c
    have ad := eY_add L ([some (Wd.be, [Ag.t [], Ag.i (k - 99)])] ++ [some (Wd.bo, [Ag.i (n : Int), Ag.i ((n + 1 : Nat) : Int)])]) (by simp; omega)
    have ad2 : addD (eY L) (.tup [.tup [Wd.be.d, .tup [], .int (k - 99)], .tup [Wd.bo.d, .int (n : Int), .int ((n + 1 : Nat) : Int)]]) = some (eY (L ++ ([some (Wd.be, [Ag.t [], Ag.i (k - 99)])] ++ [some (Wd.bo, [Ag.i (n : Int), Ag.i ((n + 1 : Nat) : Int)])]))) := ad
    have sb := sub_len hn
    rw [hn] at el sb
    have z3 := l3
    have z2 := l2
    have z0 : (0 : Nat) ≤ PySem.sizeLine := Nat.zero_le _
    unfold s4
    clear h h2 hn t1 t2 g1 g2 g3 g4 pr at1 k1 w c ad
    walk_at "fm"
  · refine ⟨L, n, x5, T1, hn, by omega, pr.le (by omega), t1, ?_⟩
    have c' : decide (d = 1) = false := decide_eq_false c
    unfold s4
    clear h h2 g1 g2 t1 c el hn pr
    walk_at "fm"
theorem law_true (ns : List Int) (hl : ns.length ≤ 63) : ∃ T, h_law [.frl (ns.map D.int)] [] = some (.bl true, T) := by
  obtain ⟨d, T1, g1, g2, t1, e1⟩ := draw_st (st_start ns) (n := 7) (by omega) (by omega)
  obtain ⟨L1, T2, v1, a1, b1, t2, e2⟩ := plainZ_run t1 (count := d) (many := 3) (far := 9) (by omega) (by omega) (by omega) (by omega) (by omega) (by omega)
  obtain ⟨L2, y2, T3, v2, a2, b2, t3, e3⟩ := s1_run t2 v1 a1 (by omega) (.dat (.frl (ns.map D.int))) .un
  obtain ⟨L3, y3, T4, v3, a3, b3, t4, e4⟩ := s2_run t3 v2 a2 (by omega) (.dat (.frl (ns.map D.int))) y2
  obtain ⟨L4, n4, y4, T5, a4, b4, w4, t5, e5⟩ := s3_run t4 v3 a3 (by omega) (.dat (.frl (ns.map D.int))) y3
  obtain ⟨L, n, y5, T6, hn, b5, ⟨t, r, ok, hs⟩, t6, e6⟩ := s4_run t5 a4 b4 w4 (.dat (.frl (ns.map D.int))) y4
  have dl := t.depth_le
  have lw := lw_run r T6 ok (by omega) 60 (by omega)
  have tl := text_len ok (by omega)
  have jn : joinL (Str.ofString " ") (t.words.map D.str) = some (.str t.text) := by
    unfold joinL
    rw [txts_map]
    exact if_pos (dc_of tl.2)
  obtain ⟨T7, e7⟩ := format_run r hn ok (by omega) T6
  obtain ⟨T8, e8⟩ := parse_run ok (by omega) T7
  have ls := ls_run r T8 (by omega) 60 (by omega)
  have sl := t.spread_len 0
  have sp := t.size_pos
  have r2 : Rep (t.spread 0) (t.size - 1) t := by
    have := t.rep [] (t.size - 1) (by simp)
    simpa using this
  obtain ⟨T9, e9⟩ := format_run r2 (by omega) ok (by omega) T8
  have e9' : h_format_saying [.tup ((t.spread 0).map Line.d)] T8 = some (.str t.text, T9) := e9
  refine ⟨T9, ?_⟩
  have ne := neD_self (text_ok ok)
  have eq := eqD_self (text_ok ok)
  have eq2 := eqD_lines (t.spread 0)
  have kt : _root_.L2.kitB "tuple" "tuple" = some true := rfl
  have el := eY_len L
  have sb := sub_len hn
  rw [hn] at el sb
  have sq : ∀ T, seqD T (.val (.frl (ns.map D.int))) = some (false, ns.map D.int) := fun _ => rfl
  have z4 := len4
  unfold h_law
  rw [law_eq]
  clear hl t1 t2 t3 t4 t5 t6 v1 v2 v3 a1 a2 a3 a4 b1 b2 b3 b4 b5 w4 g1 g2 r r2 ok hs hn dl tl sl sp e9
  walk_at "fm"

end K19
set_option maxHeartbeats 4000000
namespace K20
open PySem PySem.Spec PyProof.Rows L2 Fx LC PM K1 K19
def topS (i : Nat) : Stmt := PySem.Challenge.pw_sumsaid_k20_written_sayings_refused.main.body.getD i (.Pass ⟨0, 0, 0, 0⟩)
abbrev s_InvalidWord___init__ : Stmt := inClass (topS 3) 0
theorem sc_InvalidWord___init__ : FnScope [Str.ofString "self", Str.ofString "number"] [Str.ofString "self", Str.ofString "number"] (defScope s_InvalidWord___init__) := ⟨rfl, rfl, rfl, by decide +kernel, rfl, by decide +kernel, by decide +kernel⟩
theorem ok_InvalidWord___init__ {P : Program} {w : World} {K : PySem.W.Frag} {mg : Str → Option Value} {base : Heap} {fI : Addr} {fd : FuncData} {IW TL SE UN NF : Addr} (XK : XcK K mg IW TL SE UN NF) (iC : PySem.W.findIn K (.ref IW) "__init__" = some (some (.ref fI))) (tI : PySem.W.isFn K (.ref fI) = true) (F : Fun K (Str.ofString "__init__") (Str.ofString "InvalidWord.__init__") s_InvalidWord___init__ fI fd) (hb : Binds K fd [Str.ofString "self", Str.ofString "number"] []) : KExc P w K mg base "InvalidWord" "number" 1 := by
  refine kx_of (s1 := (Str.ofString "word ")) (s2 := (Str.ofString " cannot be read")) XK.iw XK.oex XK.p.1.2.2.2.2.1 iC (beq_iff_eq.mp tI) hb F sc_InvalidWord___init__ rfl (by decide +kernel) (by decide +kernel) fun cdv A outer s H E hr => ?_
  exact pss_cons (ps_expr (pe_clsinit (by rfl) XK.se XK.p.2.2.1.1 XK.p.2.2.1.2.1 XK.p.2.2.1.2.2.1 (fcB_ok XK.p.2.2.1.2.2.2) (pa_cons (pv 0) (pa_cons (pe_joined (.cons pe_str (.cons (pe_fmt (pv 1)) (.cons pe_str .nil)))) pa_nil)))) (pss_one (ps_ost (pv 0) (pv 1)))
/-! ### _law_draw -/
abbrev s__law_draw : Stmt := topS 18
abbrev n__law_draw : List Str := [Str.ofString "state", Str.ofString "limit", Str.ofString "digit", Str.ofString "position", Str.ofString "cell", Str.ofString "mixed"]
theorem sc__law_draw : FnScope n__law_draw [Str.ofString "state", Str.ofString "limit"] (defScope s__law_draw) := ⟨rfl, rfl, rfl, by decide +kernel, rfl, by decide +kernel, by decide +kernel⟩
theorem ok__law_draw {P : Program} {w : World} {K : PySem.W.Frag} {mg : Str → Option Value} {base : Heap} {f : Addr} {fd : FuncData} (F : Fun K (Str.ofString "_law_draw") (Str.ofString "_law_draw") s__law_draw f fd) (hm : mg (Str.ofString "_law_draw") = some (.ref f)) (hb : Binds K fd [Str.ofString "state", Str.ofString "limit"] []) (m_int : mg (Str.ofString "int") = none) (m_len : mg (Str.ofString "len") = none) :
    Cal P w K mg base (Str.ofString "_law_draw") 1 2 h__law_draw := by
  unfold h__law_draw
  exact cal_of (N := n__law_draw) (g := g__law_draw) F hm hb sc__law_draw rfl rfl fun cdv A outer s H E hr => xss_cons (xs_if (xt_lt (xe_ix (xo_var 0) (xe_int)) (xe_var 1)) (xss_cons (xs_asg (ps_set (i := 3) sc__law_draw.nd rfl (by first | exact Or.inl rfl | exact Or.inr rfl) (xe_ix (xo_var 0) (xe_int))))
      (xss_cons (xs_set (ps_asg (xe_add (xe_var 3) (xe_int)) (pg_sub (pv 0) (xe_int) set_list)))
      (xss_cons (xs_asg (ps_set (i := 4) sc__law_draw.nd rfl (by first | exact Or.inl rfl | exact Or.inr rfl) (xe_int)))
      (xss_cons (xs_if (xt_lt (xe_var 3) (xe_len (pe_callB call_len (by rfl) m_len PySem.boot_len (pa_cons (xo_of (xe_ix (xo_var 0) (xe_int))) pa_nil)))) (xss_one (xs_asg (ps_set (i := 4) sc__law_draw.nd rfl (by first | exact Or.inl rfl | exact Or.inr rfl) (xe_ix (xo_of (xe_ix (xo_var 0) (xe_int))) (xe_var 3))))) (xss_nil))
      (xss_one (xs_if (xt_ge (xe_var 4) (xe_pow (xe_int) (xe_int))) (xss_one (xs_set (ps_asg (xe_var 4) (pg_sub (pv 0) (xe_int) set_list)))) (xss_cons (xs_set (ps_asg (xe_mod (xe_bl_ (pe_callTy (call_int1) (by rfl) m_int (by decide +kernel) (xa_cons (xe_mul (xe_add (xe_add (xe_add (xe_ix (xo_var 0) (xe_int)) (xe_mod (xe_bl_ (pe_callTy (call_int1) (by rfl) m_int (by decide +kernel) (xa_cons (xe_var 4) (xa_nil))) ok_int) (xe_int))) (xe_var 3)) (xe_int)) (xe_int)) (xa_nil))) ok_int) (xe_int)) (pg_sub (pv 0) (xe_int) set_list)))
      (xss_cons (xs_asg (ps_set (i := 5) sc__law_draw.nd rfl (by first | exact Or.inl rfl | exact Or.inr rfl) (xe_mod (xe_bl_ (pe_callTy (call_int1) (by rfl) m_int (by decide +kernel) (xa_cons (xe_add (xe_mul (xe_ix (xo_var 0) (xe_int)) (xe_int)) (xe_int)) (xa_nil))) ok_int) (xe_int))))
      (xss_one (xs_set (ps_asg (xe_add (xe_mul (xe_var 5) (xe_int)) (xe_mod (xe_bl_ (pe_callTy (call_int1) (by rfl) m_int (by decide +kernel) (xa_cons (xe_add (xe_mul (xe_var 5) (xe_int)) (xe_ix (xo_var 0) (xe_int))) (xa_nil))) ok_int) (xe_int))) (pg_sub (pv 0) (xe_int) set_list)))))))))))) (xss_nil))
      (xss_cons (xs_asg (ps_set (i := 2) sc__law_draw.nd rfl (by first | exact Or.inl rfl | exact Or.inr rfl) (xe_mod (xe_bl_ (pe_callTy (call_int1) (by rfl) m_int (by decide +kernel) (xa_cons (xe_ix (xo_var 0) (xe_int)) (xa_nil))) ok_int) (xe_var 1))))
      (xss_cons (xs_set (ps_asg (xe_fdiv (xe_ix (xo_var 0) (xe_int)) (xe_var 1)) (pg_sub (pv 0) (xe_int) set_list)))
      (xss_one (xs_ret (xo_var 2)))))
/-! ### _law_factors -/
abbrev s__law_factors : Stmt := topS 19
abbrev n__law_factors : List Str := [Str.ofString "state", Str.ofString "count", Str.ofString "far", Str.ofString "row", Str.ofString "k"]
theorem sc__law_factors : FnScope n__law_factors [Str.ofString "state", Str.ofString "count", Str.ofString "far"] (defScope s__law_factors) := ⟨rfl, rfl, rfl, by decide +kernel, rfl, by decide +kernel, by decide +kernel⟩
theorem ok__law_factors {P : Program} {w : World} {K : PySem.W.Frag} {mg : Str → Option Value} {base : Heap} {f : Addr} {fd : FuncData} (F : Fun K (Str.ofString "_law_factors") (Str.ofString "_law_factors") s__law_factors f fd) (hm : mg (Str.ofString "_law_factors") = some (.ref f)) (hb : Binds K fd [Str.ofString "state", Str.ofString "count", Str.ofString "far"] []) (k__law_draw : Cal P w K mg base (Str.ofString "_law_draw") 1 2 h__law_draw) (m_tuple : mg (Str.ofString "tuple") = none) (m_range : mg (Str.ofString "range") = none) :
    Cal P w K mg base (Str.ofString "_law_factors") 2 3 h__law_factors := by
  unfold h__law_factors
  exact cal_of (N := n__law_factors) (g := g__law_factors) F hm hb sc__law_factors rfl rfl fun cdv A outer s H E hr => xss_cons (xs_frz (asg_lc (ps_setLc (i := 3) (own := [(Str.ofString "k", 4)]) (g := tgT _ (.nm 4)) rfl sc__law_factors.nd rfl rfl (sw_true rfl rfl rfl (by decide +kernel)) (xi_rng1 (pi_range1 (by rfl) m_range (xa_cons (xe_var 1) (xa_nil)))) (blkOk_by (N := n__law_factors) (sc := defScope s__law_factors) (by decide +kernel)) (fun _ _ _ _ _ => pg_name (i := 4) sc__law_factors.nd rfl (by first | exact Or.inl rfl | exact Or.inr rfl)) (fun _ _ _ _ _ => xts_nil) (fun _ _ _ _ _ => xe_sub (xe_own k__law_draw (hr.mono (by decide)) (by rfl) (xa_cons (xe_var 0) (xa_cons (xe_add (xe_mul (xe_int) (xe_var 2)) (xe_int)) (xa_nil))) (len_cons (len_cons (len_nil)))) (xe_var 2)))))
      (xss_one (xs_ret (xo_of (xe_tuple (pe_callTy call_tupleP (by rfl) m_tuple (by decide +kernel) (pa_cons (xo_var 3) pa_nil))))))
/-! ### _law_atom -/
abbrev s__law_atom : Stmt := topS 20
abbrev n__law_atom : List Str := [Str.ofString "state", Str.ofString "count", Str.ofString "far", Str.ofString "factors", Str.ofString "m"]
theorem sc__law_atom : FnScope n__law_atom [Str.ofString "state", Str.ofString "count", Str.ofString "far"] (defScope s__law_atom) := ⟨rfl, rfl, rfl, by decide +kernel, rfl, by decide +kernel, by decide +kernel⟩
theorem ok__law_atom {P : Program} {w : World} {K : PySem.W.Frag} {mg : Str → Option Value} {base : Heap} {f : Addr} {fd : FuncData} (F : Fun K (Str.ofString "_law_atom") (Str.ofString "_law_atom") s__law_atom f fd) (hm : mg (Str.ofString "_law_atom") = some (.ref f)) (hb : Binds K fd [Str.ofString "state", Str.ofString "count", Str.ofString "far"] []) (k__law_factors : Cal P w K mg base (Str.ofString "_law_factors") 2 3 h__law_factors) (k__law_draw : Cal P w K mg base (Str.ofString "_law_draw") 1 2 h__law_draw) :
    Cal P w K mg base (Str.ofString "_law_atom") 3 3 h__law_atom := by
  unfold h__law_atom
  exact cal_of (N := n__law_atom) (g := g__law_atom) F hm hb sc__law_atom rfl rfl fun cdv A outer s H E hr => xss_cons (xs_asg (ps_set (i := 3) sc__law_atom.nd rfl (by first | exact Or.inl rfl | exact Or.inr rfl) (xe_own k__law_factors (hr.mono (by decide)) (by rfl) (xa_cons (xe_var 0) (xa_cons (xe_var 1) (xa_cons (xe_var 2) (xa_nil)))) (len_cons (len_cons (len_cons (len_nil)))))))
      (xss_cons (xs_if (xt_eq hr (xe_own k__law_draw (hr.mono (by decide)) (by rfl) (xa_cons (xe_var 0) (xa_cons (xe_int) (xa_nil))) (len_cons (len_cons (len_nil)))) (xe_int)) (xss_cons (xs_asg (ps_set (i := 4) sc__law_atom.nd rfl (by first | exact Or.inl rfl | exact Or.inr rfl) (xe_add (xe_int) (xe_own k__law_draw (hr.mono (by decide)) (by rfl) (xa_cons (xe_var 0) (xa_cons (xe_int) (xa_nil))) (len_cons (len_cons (len_nil)))))))
      (xss_one (xs_ret (xo_of (xe_tup (xa_cons (xe_str) (xa_cons (xe_var 3) (xa_cons (xe_var 4) (xa_cons (xe_own k__law_draw (hr.mono (by decide)) (by rfl) (xa_cons (xe_var 0) (xa_cons (xe_var 4) (xa_nil))) (len_cons (len_cons (len_nil)))) (xa_nil)))))))))) (xss_nil))
      (xss_one (xs_ret (xo_of (xe_tup (xa_cons (xe_str) (xa_cons (xe_var 3) (xa_cons (xe_sub (xe_own k__law_draw (hr.mono (by decide)) (by rfl) (xa_cons (xe_var 0) (xa_cons (xe_int) (xa_nil))) (len_cons (len_cons (len_nil)))) (xe_int)) (xa_nil)))))))))
/-! ### _law_plain -/
abbrev s__law_plain : Stmt := topS 21
abbrev n__law_plain : List Str := [Str.ofString "state", Str.ofString "count", Str.ofString "many", Str.ofString "far", Str.ofString "lines", Str.ofString "k", Str.ofString "number", Str.ofString "choice", Str.ofString "other"]
theorem sc__law_plain : FnScope n__law_plain [Str.ofString "state", Str.ofString "count", Str.ofString "many", Str.ofString "far"] (defScope s__law_plain) := ⟨rfl, rfl, rfl, by decide +kernel, rfl, by decide +kernel, by decide +kernel⟩
theorem ok__law_plain {P : Program} {w : World} {K : PySem.W.Frag} {mg : Str → Option Value} {base : Heap} {f : Addr} {fd : FuncData} (F : Fun K (Str.ofString "_law_plain") (Str.ofString "_law_plain") s__law_plain f fd) (hm : mg (Str.ofString "_law_plain") = some (.ref f)) (hb : Binds K fd [Str.ofString "state", Str.ofString "count", Str.ofString "many", Str.ofString "far"] []) (k__law_atom : Cal P w K mg base (Str.ofString "_law_atom") 3 3 h__law_atom) (k__law_draw : Cal P w K mg base (Str.ofString "_law_draw") 1 2 h__law_draw) (m_range : mg (Str.ofString "range") = none) (m_tuple : mg (Str.ofString "tuple") = none) (m_len : mg (Str.ofString "len") = none) :
    Cal P w K mg base (Str.ofString "_law_plain") 4 4 h__law_plain := by
  unfold h__law_plain
  exact cal_of (N := n__law_plain) (g := g__law_plain) F hm hb sc__law_plain rfl rfl fun cdv A outer s H E hr => xss_cons (xs_own (ps_set (i := 4) sc__law_plain.nd rfl (by first | exact Or.inl rfl | exact Or.inr rfl) (xl_lst (xa_cons (xe_own k__law_atom (hr.mono (by decide)) (by rfl) (xa_cons (xe_var 0) (xa_cons (xe_var 1) (xa_cons (xe_var 3) (xa_nil)))) (len_cons (len_cons (len_cons (len_nil))))) (xa_nil)))))
      (xss_cons (xs_for (t := (.nm 5)) PassesOwn.never rfl (xi_rng1 (pi_range1 (by rfl) m_range (xa_cons (xe_own k__law_draw (hr.mono (by decide)) (by rfl) (xa_cons (xe_var 0) (xa_cons (xe_var 2) (xa_nil))) (len_cons (len_cons (len_nil)))) (xa_nil)))) (pg_name (i := 5) sc__law_plain.nd rfl (by first | exact Or.inl rfl | exact Or.inr rfl)) (xss_cons (xs_asg (ps_set (i := 6) sc__law_plain.nd rfl (by first | exact Or.inl rfl | exact Or.inr rfl) (xe_sub (xe_len (pe_callB call_len (by rfl) m_len PySem.boot_len (pa_cons (xo_var 4) pa_nil))) (xe_int))))
      (xss_cons (xs_asg (ps_set (i := 7) sc__law_plain.nd rfl (by first | exact Or.inl rfl | exact Or.inr rfl) (xe_own k__law_draw (hr.mono (by decide)) (by rfl) (xa_cons (xe_var 0) (xa_cons (xe_int) (xa_nil))) (len_cons (len_cons (len_nil))))))
      (xss_cons (xs_app (ps_expr (pe_bm PySem.F.plainAttrs_list PySem.F.slot_list_append PySem.F.type_list_append mt_append (pv 4) (pa_cons (xe_own k__law_atom (hr.mono (by decide)) (by rfl) (xa_cons (xe_var 0) (xa_cons (xe_var 1) (xa_cons (xe_var 3) (xa_nil)))) (len_cons (len_cons (len_cons (len_nil))))) pa_nil))))
      (xss_cons (xs_asg (ps_set (i := 8) sc__law_plain.nd rfl (by first | exact Or.inl rfl | exact Or.inr rfl) (xe_sub (xe_len (pe_callB call_len (by rfl) m_len PySem.boot_len (pa_cons (xo_var 4) pa_nil))) (xe_int))))
      (xss_cons (xs_if (xt_eq hr (xe_var 7) (xe_int)) (xss_cons (xs_app (ps_expr (pe_bm PySem.F.plainAttrs_list PySem.F.slot_list_append PySem.F.type_list_append mt_append (pv 4) (pa_cons (xe_tup (xa_cons (xe_str) (xa_cons (xe_var 8) (xa_nil)))) pa_nil))))
      (xss_one (xs_asg (ps_set (i := 8) sc__law_plain.nd rfl (by first | exact Or.inl rfl | exact Or.inr rfl) (xe_sub (xe_len (pe_callB call_len (by rfl) m_len PySem.boot_len (pa_cons (xo_var 4) pa_nil))) (xe_int)))))) (xss_nil))
      (xss_cons (xs_if (xt_eq hr (xe_var 7) (xe_int)) (xss_cons (xs_app (ps_expr (pe_bm PySem.F.plainAttrs_list PySem.F.slot_list_append PySem.F.type_list_append mt_append (pv 4) (pa_cons (xe_tup (xa_cons (xe_str) (xa_cons (xe_var 6) (xa_nil)))) pa_nil))))
      (xss_one (xs_asg (ps_set (i := 6) sc__law_plain.nd rfl (by first | exact Or.inl rfl | exact Or.inr rfl) (xe_sub (xe_len (pe_callB call_len (by rfl) m_len PySem.boot_len (pa_cons (xo_var 4) pa_nil))) (xe_int)))))) (xss_nil))
      (xss_cons (xs_app (ps_expr (pe_bm PySem.F.plainAttrs_list PySem.F.slot_list_append PySem.F.type_list_append mt_append (pv 4) (pa_cons (xe_tup (xa_cons (xe_str) (xa_cons (xe_var 6) (xa_cons (xe_var 8) (xa_nil))))) pa_nil))))
      (xss_one (xs_if (xt_w (xw_and (xt_gt (xe_var 7) (xe_int)) (xw_and1 (xt_eq hr (xe_own k__law_draw (hr.mono (by decide)) (by rfl) (xa_cons (xe_var 0) (xa_cons (xe_int) (xa_nil))) (len_cons (len_cons (len_nil)))) (xe_int))))) (xss_one (xs_app (ps_expr (pe_bm PySem.F.plainAttrs_list PySem.F.slot_list_append PySem.F.type_list_append mt_append (pv 4) (pa_cons (xe_tup (xa_cons (xe_str) (xa_cons (xe_sub (xe_len (pe_callB call_len (by rfl) m_len PySem.boot_len (pa_cons (xo_var 4) pa_nil))) (xe_int)) (xa_nil)))) pa_nil))))) (xss_nil)))))))))))
      (xss_one (xs_ret (xo_of (xe_tuple (pe_callTy call_tupleP (by rfl) m_tuple (by decide +kernel) (pa_cons (xo_var 4) pa_nil)))))))
/-! ### _law_words -/
abbrev s__law_words : Stmt := topS 22
abbrev n__law_words : List Str := [Str.ofString "lines", Str.ofString "number", Str.ofString "line", Str.ofString "made", Str.ofString "other", Str.ofString "one"]
theorem sc__law_words : FnScope n__law_words [Str.ofString "lines", Str.ofString "number"] (defScope s__law_words) := ⟨rfl, rfl, rfl, by decide +kernel, rfl, by decide +kernel, by decide +kernel⟩
theorem ok__law_words {P : Program} {w : World} {K : PySem.W.Frag} {mg : Str → Option Value} {base : Heap} {f : Addr} {fd : FuncData} (F : Fun K (Str.ofString "_law_words") (Str.ofString "_law_words") s__law_words f fd) (hm : mg (Str.ofString "_law_words") = some (.ref f)) (hb : Binds K fd [Str.ofString "lines", Str.ofString "number"] []) (m_str : mg (Str.ofString "str") = none) : ∀ n : Nat, Cal P w K mg base (Str.ofString "_law_words") (0 + n + 1) 2 (h__law_words n)
  | 0 => by
    rw [h__law_words_0]
    exact cal_zero F hm hb sc__law_words rfl
  | n + 1 => by
    have k__law_words := ok__law_words (P := P) (w := w) (base := base) F hm hb m_str n
    rw [h__law_words_s]
    exact cal_of (N := n__law_words) (g := g__law_words (h__law_words n)) F hm hb sc__law_words rfl rfl fun cdv A outer s H E hr => xss_cons (xs_asg (ps_set (i := 2) sc__law_words.nd rfl (by first | exact Or.inl rfl | exact Or.inr rfl) (xe_ix (xo_var 0) (xe_var 1))))
      (xss_cons (xs_if (xt_in hr (xe_ix (xo_var 2) (xe_int)) (xe_frz (xl_lst (xa_cons (xe_str) (xa_cons (xe_str) (xa_nil)))))) (xss_one (xs_ret (xo_of (xe_add (xe_add (xe_add (xe_frz (xl_lst (xa_cons (xe_ix (xo_var 2) (xe_int)) (xa_nil)))) (xe_frz (xl_lc (pe_lc (own := [(Str.ofString "one", 5)]) (g := tgT _ (.nm 5)) rfl sc__law_words.nd (xi_seq (xe_ix (xo_var 2) (xe_int))) (blkOk_by (N := n__law_words) (sc := defScope s__law_words) (by decide +kernel)) (fun _ _ _ _ _ => pg_name (i := 5) sc__law_words.nd rfl (by first | exact Or.inl rfl | exact Or.inr rfl)) (fun _ _ _ _ _ => xts_nil) (fun _ _ _ _ _ => xe_bl_ (pe_callTy call_str_int (by rfl) m_str (by decide +kernel) (xa_cons (xe_var 5) (xa_nil))) ok_str))))) (xe_frz (xl_lst (xa_cons (xe_str) (xa_nil))))) (xe_frz (xl_lc (pe_lc (own := [(Str.ofString "one", 5)]) (g := tgT _ (.nm 5)) rfl sc__law_words.nd (xi_seq (xe_sl (xo_var 2) (xb_some (xe_int)) (xb_none))) (blkOk_by (N := n__law_words) (sc := defScope s__law_words) (by decide +kernel)) (fun _ _ _ _ _ => pg_name (i := 5) sc__law_words.nd rfl (by first | exact Or.inl rfl | exact Or.inr rfl)) (fun _ _ _ _ _ => xts_nil) (fun _ _ _ _ _ => xe_bl_ (pe_callTy call_str_int (by rfl) m_str (by decide +kernel) (xa_cons (xe_var 5) (xa_nil))) ok_str)))))))) (xss_nil))
      (xss_cons (xs_asg (ps_set (i := 3) sc__law_words.nd rfl (by first | exact Or.inl rfl | exact Or.inr rfl) (xe_frz (xl_lst (xa_cons (xe_ix (xo_var 2) (xe_int)) (xa_nil))))))
      (xss_cons (xs_for (t := (.nm 4)) PassesOwn.never rfl (xi_seq (xe_sl (xo_var 2) (xb_some (xe_int)) (xb_none))) (pg_name (i := 4) sc__law_words.nd rfl (by first | exact Or.inl rfl | exact Or.inr rfl)) (xss_one (xs_asg (ps_set (i := 3) sc__law_words.nd rfl (by first | exact Or.inl rfl | exact Or.inr rfl) (xe_add (xe_var 3) (xe_own k__law_words (hr.mono (by omega)) (by rfl) (xa_cons (xe_var 0) (xa_cons (xe_var 4) (xa_nil))) (len_cons (len_cons (len_nil)))))))))
      (xss_one (xs_ret (xo_var 3))))))
/-! ### Reading.__init__ -/
abbrev s_Reading___init__ : Stmt := inClass (topS 15) 0
abbrev n_Reading___init__ : List Str := [Str.ofString "self", Str.ofString "words"]
theorem sc_Reading___init__ : FnScope n_Reading___init__ [Str.ofString "self", Str.ofString "words"] (defScope s_Reading___init__) := ⟨rfl, rfl, rfl, by decide +kernel, rfl, by decide +kernel, by decide +kernel⟩
theorem ok_Reading___init__ {P : Program} {w : World} {K : PySem.W.Frag} {mg : Str → Option Value} {base : Heap} {f : Addr} {fd : FuncData} {C : Addr} (hC : ClsA K "Reading" C) (hmg : mg (Str.ofString "Reading") = some (.ref C)) (M : Mk K C f) (F : Fun K (Str.ofString "__init__") (Str.ofString "Reading.__init__") s_Reading___init__ f fd) (hb : Binds K fd [Str.ofString "self", Str.ofString "words"] []) (n_words : NoA K ["Reading"] "words") (n_at : NoA K ["Reading"] "at") (n_lines : NoA K ["Reading"] "lines") :
    KCal P w K mg base "Reading" 1 2 h_Reading___init__ := by
  unfold h_Reading___init__
  exact kcal_of (N := n_Reading___init__) (g := g_Reading___init__) hC hmg M F hb sc_Reading___init__ rfl rfl fun cdv A outer s H E hr => xss_cons (xs_fld n_words (xe_var 0) (xe_var 1))
      (xss_cons (xs_fld n_at (xe_var 0) (xe_int))
      (xss_one (xs_fld n_lines (xe_var 0) (xe_obj (xl_lst (xa_nil))))))
/-! ### Reading.next_word -/
abbrev s_Reading_next_word : Stmt := inClass (topS 15) 2
abbrev n_Reading_next_word : List Str := [Str.ofString "self"]
theorem sc_Reading_next_word : FnScope n_Reading_next_word [Str.ofString "self"] (defScope s_Reading_next_word) := ⟨rfl, rfl, rfl, by decide +kernel, rfl, by decide +kernel, by decide +kernel⟩
noncomputable def gx_Reading_next_word : FXS := seqX (ifS (testF (binF geD (fldF ["Reading"] "at" (varF 0)) (lenF (ofF (fldF ["Reading"] "words" (varF 0)))))) (neverS) (nilS)) (ifX (testF (binF geD (fldF ["Reading"] "at" (varF 0)) (lenF (ofF (fldF ["Reading"] "words" (varF 0)))))) (seqX (neverS) (liX (mkX "InvalidWord" "number" (fldF ["Reading"] "at" (varF 0))))
      (noX)) (noX))
      (seqX (retF (ofF (ixF (ofF (fldF ["Reading"] "words" (varF 0))) (fldF ["Reading"] "at" (varF 0))))) (noX)
      (noX))
@[irreducible] noncomputable def x_Reading_next_word : XF := runX gx_Reading_next_word 1
theorem ok_Reading_next_word {P : Program} {w : World} {K : PySem.W.Frag} {mg : Str → Option Value} {base : Heap} {f : Addr} {fd : FuncData} {C : Addr} (hC : ClsA K "Reading" C) (cl : Cls K C) (hm : Meth K C (Str.ofString "next_word") f) (F : Fun K (Str.ofString "next_word") (Str.ofString "Reading.next_word") s_Reading_next_word f fd) (hb : Binds K fd [Str.ofString "self"] []) (n_at : NoA K ["Reading"] "at") (n_words : NoA K ["Reading"] "words") (m_len : mg (Str.ofString "len") = none) (q_InvalidWord : KExc P w K mg base "InvalidWord" "number" 1) :
    MCalX P w K mg base "Reading" "next_word" 3 1 h_Reading_next_word x_Reading_next_word := by
  unfold h_Reading_next_word x_Reading_next_word
  exact mcalx_of (N := n_Reading_next_word) (g := g_Reading_next_word) (by decide) hC cl hm F hb sc_Reading_next_word rfl rfl (fun cdv A outer s H E hr => xss_cons (xs_if (xt_ge (xe_fld n_at (xe_var 0)) (xe_len (pe_callB call_len (by rfl) m_len PySem.boot_len (pa_cons (xo_of (xe_fld n_words (xe_var 0))) pa_nil)))) (xss_one (xs_never)) (xss_nil))
      (xss_one (xs_ret (xo_of (xe_ix (xo_of (xe_fld n_words (xe_var 0))) (xe_fld n_at (xe_var 0)))))))
    (fun cdv A outer s H E hr L => rss_cons (xs_if (xt_ge (xe_fld n_at (xe_var 0)) (xe_len (pe_callB call_len (by rfl) m_len PySem.boot_len (pa_cons (xo_of (xe_fld n_words (xe_var 0))) pa_nil)))) (xss_one (xs_never)) (xss_nil)) (rs_if (xt_ge (xe_fld n_at (xe_var 0)) (xe_len (pe_callB call_len (by rfl) m_len PySem.boot_len (pa_cons (xo_of (xe_fld n_words (xe_var 0))) pa_nil)))) (rss_cons (xs_never) (rs_raise1 q_InvalidWord L (hr.mono (by decide)) (by rfl) (xe_fld n_at (xe_var 0)))
      (rss_nil)) (rss_nil))
      (rss_cons (xs_ret (xo_of (xe_ix (xo_of (xe_fld n_words (xe_var 0))) (xe_fld n_at (xe_var 0))))) (rs_none)
      (rss_nil)))
/-! ### is_number -/
abbrev s_is_number : Stmt := topS 16
abbrev n_is_number : List Str := [Str.ofString "word", Str.ofString "digits", Str.ofString "digit"]
theorem sc_is_number : FnScope n_is_number [Str.ofString "word"] (defScope s_is_number) := ⟨rfl, rfl, rfl, by decide +kernel, rfl, by decide +kernel, by decide +kernel⟩
theorem ok_is_number {P : Program} {w : World} {K : PySem.W.Frag} {mg : Str → Option Value} {base : Heap} {f : Addr} {fd : FuncData} (F : Fun K (Str.ofString "is_number") (Str.ofString "is_number") s_is_number f fd) (hm : mg (Str.ofString "is_number") = some (.ref f)) (hb : Binds K fd [Str.ofString "word"] []) (m_all : mg (Str.ofString "all") = none) (m_len : mg (Str.ofString "len") = none) (c_DIGITS : ∃ t, mg (Str.ofString "DIGITS") = some (.str (Str.ofString "0123456789") t)) :
    Cal P w K mg base (Str.ofString "is_number") 1 1 h_is_number := by
  unfold h_is_number
  exact cal_of (N := n_is_number) (g := g_is_number) F hm hb sc_is_number rfl rfl fun cdv A outer s H E hr => xss_cons (xs_asg (ps_set (i := 1) sc_is_number.nd rfl (by first | exact Or.inl rfl | exact Or.inr rfl) (xe_if (xt_val (xe_m1 (pe_m1 PySem.F.slot_str_startswith PySem.F.type_str_startswith mt_startswith (xe_var 0) (xe_str)) ok_starts)) (xe_sl (xo_var 0) (xb_some (xe_int)) (xb_none)) (xe_var 0))))
      (xss_cons (xs_if (xt_w (xw_or (xt_not (xt_ch (na_ii0 fun _ _ _ _ => .bl _) (ok_ii0 fun _ _ _ _ => .bl _) (pt_chain op_le op_le (xe_int) (xe_len (pe_callB call_len (by rfl) m_len PySem.boot_len (pa_cons (xo_var 1) pa_nil))) (xe_int)))) (xw_or1 (xt_not (xt_val (xe_all (pe_callB (cr_all rfl) (by rfl) m_all (by decide +kernel) (pa_cons (xo_of (xe_frz (xl_lc (pe_lc (own := [(Str.ofString "digit", 2)]) (g := tgT _ (.nm 2)) rfl sc_is_number.nd (xi_seq2 (xe_var 1)) (blkOk_by (N := n_is_number) (sc := defScope s_is_number) (by decide +kernel)) (fun _ _ _ _ _ => pg_name (i := 2) sc_is_number.nd rfl (by first | exact Or.inl rfl | exact Or.inr rfl)) (fun _ _ _ _ _ => xts_nil) (fun _ _ _ _ _ => xe_inS (xe_var 2) (xe_gstr (by rfl) c_DIGITS)))))) pa_nil)))))))) (xss_one (xs_ret (xo_of (xe_bl)))) (xss_nil))
      (xss_cons (xs_if (xt_val (xe_m1 (pe_m1 PySem.F.slot_str_startswith PySem.F.type_str_startswith mt_startswith (xe_var 1) (xe_str)) ok_starts)) (xss_one (xs_ret (xo_of (xe_eq hr (xe_var 0) (xe_str))))) (xss_nil))
      (xss_one (xs_ret (xo_of (xe_bl))))))
/-! ### Reading.read_number -/
abbrev s_Reading_read_number : Stmt := inClass (topS 15) 5
abbrev n_Reading_read_number : List Str := [Str.ofString "self", Str.ofString "low", Str.ofString "high", Str.ofString "word"]
theorem sc_Reading_read_number : FnScope n_Reading_read_number [Str.ofString "self", Str.ofString "low", Str.ofString "high"] (defScope s_Reading_read_number) := ⟨rfl, rfl, rfl, by decide +kernel, rfl, by decide +kernel, by decide +kernel⟩
noncomputable def gx_Reading_read_number : FXS := seqX (asgF 3 (methF "Reading" "next_word" h_Reading_next_word (varF 0) (nilF))) (liX (methX "Reading" "next_word" x_Reading_next_word (varF 0) (nilF)))
      (seqX (ifS (orT (notT (testF (callF h_is_number (consF (varF 3) (nilF))))) (notT (testF (chF leD leD (varF 1) (blF intTD (consF (varF 3) (nilF))) (varF 2))))) (neverS) (nilS)) (ifX (orT (notT (testF (callF h_is_number (consF (varF 3) (nilF))))) (notT (testF (chF leD leD (varF 1) (blF intTD (consF (varF 3) (nilF))) (varF 2))))) (seqX (neverS) (liX (mkX "InvalidWord" "number" (fldF ["Reading"] "at" (varF 0))))
      (noX)) (noX))
      (seqX (fldA ["Reading"] "at" (fun i j => i + j) (varF 0) (constF (.int 1))) (noX)
      (seqX (retF (ofF (blF intTD (consF (varF 3) (nilF))))) (noX)
      (noX))))
@[irreducible] noncomputable def x_Reading_read_number : XF := runX gx_Reading_read_number 4
theorem ok_Reading_read_number {P : Program} {w : World} {K : PySem.W.Frag} {mg : Str → Option Value} {base : Heap} {f : Addr} {fd : FuncData} {C : Addr} (hC : ClsA K "Reading" C) (cl : Cls K C) (hm : Meth K C (Str.ofString "read_number") f) (F : Fun K (Str.ofString "read_number") (Str.ofString "Reading.read_number") s_Reading_read_number f fd) (hb : Binds K fd [Str.ofString "self", Str.ofString "low", Str.ofString "high"] []) (kx_Reading_next_word : MCalX P w K mg base "Reading" "next_word" 3 1 h_Reading_next_word x_Reading_next_word) (k_is_number : Cal P w K mg base (Str.ofString "is_number") 1 1 h_is_number) (n_at : NoA K ["Reading"] "at") (m_int : mg (Str.ofString "int") = none) (q_InvalidWord : KExc P w K mg base "InvalidWord" "number" 1) :
    MCalX P w K mg base "Reading" "read_number" 4 3 h_Reading_read_number x_Reading_read_number := by
  have k_Reading_next_word := kx_Reading_next_word.down
  unfold h_Reading_read_number x_Reading_read_number
  exact mcalx_of (N := n_Reading_read_number) (g := g_Reading_read_number) (by decide) hC cl hm F hb sc_Reading_read_number rfl rfl (fun cdv A outer s H E hr => xss_cons (xs_asg (ps_set (i := 3) sc_Reading_read_number.nd rfl (by first | exact Or.inl rfl | exact Or.inr rfl) (xe_meth0 k_Reading_next_word (hr.mono (by decide)) (xe_var 0))))
      (xss_cons (xs_if (xt_w (xw_or (xt_not (xt_val (xe_own k_is_number (hr.mono (by decide)) (by rfl) (xa_cons (xe_var 3) (xa_nil)) (len_cons (len_nil))))) (xw_or1 (xt_not (xt_ch (na_ii0 fun _ _ _ _ => .bl _) (ok_ii0 fun _ _ _ _ => .bl _) (pt_chain op_le op_le (xe_var 1) (xe_bl_ (pe_callTy call_int_str (by rfl) m_int (by decide +kernel) (xa_cons (xe_var 3) (xa_nil))) ok_intT) (xe_var 2))))))) (xss_one (xs_never)) (xss_nil))
      (xss_cons (xs_fldA (g := (fun i j => i + j)) in_add n_at (xe_var 0) (xe_int))
      (xss_one (xs_ret (xo_of (xe_bl_ (pe_callTy call_int_str (by rfl) m_int (by decide +kernel) (xa_cons (xe_var 3) (xa_nil))) ok_intT)))))))
    (fun cdv A outer s H E hr L => rss_cons (xs_asg (ps_set (i := 3) sc_Reading_read_number.nd rfl (by first | exact Or.inl rfl | exact Or.inr rfl) (xe_meth0 k_Reading_next_word (hr.mono (by decide)) (xe_var 0)))) (rs_asg (ps_set (i := 3) sc_Reading_read_number.nd rfl (by first | exact Or.inl rfl | exact Or.inr rfl) (re_meth0 kx_Reading_next_word L.tk (hr.mono (by decide)) (xe_var 0))))
      (rss_cons (xs_if (xt_w (xw_or (xt_not (xt_val (xe_own k_is_number (hr.mono (by decide)) (by rfl) (xa_cons (xe_var 3) (xa_nil)) (len_cons (len_nil))))) (xw_or1 (xt_not (xt_ch (na_ii0 fun _ _ _ _ => .bl _) (ok_ii0 fun _ _ _ _ => .bl _) (pt_chain op_le op_le (xe_var 1) (xe_bl_ (pe_callTy call_int_str (by rfl) m_int (by decide +kernel) (xa_cons (xe_var 3) (xa_nil))) ok_intT) (xe_var 2))))))) (xss_one (xs_never)) (xss_nil)) (rs_if (xt_w (xw_or (xt_not (xt_val (xe_own k_is_number (hr.mono (by decide)) (by rfl) (xa_cons (xe_var 3) (xa_nil)) (len_cons (len_nil))))) (xw_or1 (xt_not (xt_ch (na_ii0 fun _ _ _ _ => .bl _) (ok_ii0 fun _ _ _ _ => .bl _) (pt_chain op_le op_le (xe_var 1) (xe_bl_ (pe_callTy call_int_str (by rfl) m_int (by decide +kernel) (xa_cons (xe_var 3) (xa_nil))) ok_intT) (xe_var 2))))))) (rss_cons (xs_never) (rs_raise1 q_InvalidWord L (hr.mono (by decide)) (by rfl) (xe_fld n_at (xe_var 0)))
      (rss_nil)) (rss_nil))
      (rss_cons (xs_fldA (g := (fun i j => i + j)) in_add n_at (xe_var 0) (xe_int)) (rs_none)
      (rss_cons (xs_ret (xo_of (xe_bl_ (pe_callTy call_int_str (by rfl) m_int (by decide +kernel) (xa_cons (xe_var 3) (xa_nil))) ok_intT))) (rs_none)
      (rss_nil)))))
/-! ### Reading.read_factors -/
abbrev s_Reading_read_factors : Stmt := inClass (topS 15) 4
abbrev n_Reading_read_factors : List Str := [Str.ofString "self", Str.ofString "found"]
theorem sc_Reading_read_factors : FnScope n_Reading_read_factors [Str.ofString "self"] (defScope s_Reading_read_factors) := ⟨rfl, rfl, rfl, by decide +kernel, rfl, by decide +kernel, by decide +kernel⟩
noncomputable def gx_Reading_read_factors : FXS := seqX (ownF 1 (lstF (nilF))) (noX)
      (seqX (whS (testF (binF neD (methF "Reading" "next_word" h_Reading_next_word (varF 0) (nilF)) (constF (.str (Str.ofString ";"))))) (seqS (ifS (testF (binF eqD (lenF (varO 1)) (constF (.int 6)))) (neverS) (nilS))
      (appF 1 (methF "Reading" "read_number" h_Reading_read_number (varF 0) (consF (negF (constF (.int 9))) (consF (constF (.int 9)) (nilF))))))) (whX (testF (binF neD (methF "Reading" "next_word" h_Reading_next_word (varF 0) (nilF)) (constF (.str (Str.ofString ";"))))) (seqS (ifS (testF (binF eqD (lenF (varO 1)) (constF (.int 6)))) (neverS) (nilS))
      (appF 1 (methF "Reading" "read_number" h_Reading_read_number (varF 0) (consF (negF (constF (.int 9))) (consF (constF (.int 9)) (nilF)))))) (methX "Reading" "next_word" x_Reading_next_word (varF 0) (nilF)) (seqX (ifS (testF (binF eqD (lenF (varO 1)) (constF (.int 6)))) (neverS) (nilS)) (ifX (testF (binF eqD (lenF (varO 1)) (constF (.int 6)))) (seqX (neverS) (liX (mkX "InvalidWord" "number" (fldF ["Reading"] "at" (varF 0))))
      (noX)) (noX))
      (seqX (appF 1 (methF "Reading" "read_number" h_Reading_read_number (varF 0) (consF (negF (constF (.int 9))) (consF (constF (.int 9)) (nilF))))) (liX (apwX 1 (methX "Reading" "read_number" x_Reading_read_number (varF 0) (consF (negF (constF (.int 9))) (consF (constF (.int 9)) (nilF))))))
      (noX))))
      (seqX (fldA ["Reading"] "at" (fun i j => i + j) (varF 0) (constF (.int 1))) (noX)
      (seqX (retF (ofF (tofF (varO 1)))) (noX)
      (noX))))
@[irreducible] noncomputable def x_Reading_read_factors : XF := runX gx_Reading_read_factors 2
theorem ok_Reading_read_factors {P : Program} {w : World} {K : PySem.W.Frag} {mg : Str → Option Value} {base : Heap} {f : Addr} {fd : FuncData} {C : Addr} (hC : ClsA K "Reading" C) (cl : Cls K C) (hm : Meth K C (Str.ofString "read_factors") f) (F : Fun K (Str.ofString "read_factors") (Str.ofString "Reading.read_factors") s_Reading_read_factors f fd) (hb : Binds K fd [Str.ofString "self"] []) (kx_Reading_next_word : MCalX P w K mg base "Reading" "next_word" 3 1 h_Reading_next_word x_Reading_next_word) (kx_Reading_read_number : MCalX P w K mg base "Reading" "read_number" 4 3 h_Reading_read_number x_Reading_read_number) (n_at : NoA K ["Reading"] "at") (m_tuple : mg (Str.ofString "tuple") = none) (m_len : mg (Str.ofString "len") = none) (c_MOST_FACTORS : ∃ t, mg (Str.ofString "MOST_FACTORS") = some (.int 6 t)) (c_GREATEST_FACTOR : ∃ t, mg (Str.ofString "GREATEST_FACTOR") = some (.int 9 t)) (q_InvalidWord : KExc P w K mg base "InvalidWord" "number" 1) :
    MCalX P w K mg base "Reading" "read_factors" 5 1 h_Reading_read_factors x_Reading_read_factors := by
  have k_Reading_next_word := kx_Reading_next_word.down
  have k_Reading_read_number := kx_Reading_read_number.down
  unfold h_Reading_read_factors x_Reading_read_factors
  exact mcalx_of (N := n_Reading_read_factors) (g := g_Reading_read_factors) (by decide) hC cl hm F hb sc_Reading_read_factors rfl rfl (fun cdv A outer s H E hr => xss_cons (xs_own (ps_set (i := 1) sc_Reading_read_factors.nd rfl (by first | exact Or.inl rfl | exact Or.inr rfl) (xl_lst (xa_nil))))
      (xss_cons (xs_while PassesOwn.never (xt_ne hr (xe_meth0 k_Reading_next_word (hr.mono (by decide)) (xe_var 0)) (xe_str)) (xss_cons (xs_if (xt_eq hr (xe_len (pe_callB call_len (by rfl) m_len PySem.boot_len (pa_cons (xo_var 1) pa_nil))) (xe_gint (by rfl) c_MOST_FACTORS)) (xss_one (xs_never)) (xss_nil))
      (xss_one (xs_app (ps_expr (pe_bm PySem.F.plainAttrs_list PySem.F.slot_list_append PySem.F.type_list_append mt_append (pv 1) (pa_cons (xe_meth k_Reading_read_number (hr.mono (by decide)) (xe_var 0) (xa_cons (xe_neg (xe_gint (by rfl) c_GREATEST_FACTOR)) (xa_cons (xe_gint (by rfl) c_GREATEST_FACTOR) (xa_nil))) (fun ρ T ds T1 q => congrArg (· + 1) ((len_cons (len_cons (len_nil))) ρ T ds T1 q))) pa_nil)))))))
      (xss_cons (xs_fldA (g := (fun i j => i + j)) in_add n_at (xe_var 0) (xe_int))
      (xss_one (xs_ret (xo_of (xe_tuple (pe_callTy call_tupleP (by rfl) m_tuple (by decide +kernel) (pa_cons (xo_var 1) pa_nil)))))))))
    (fun cdv A outer s H E hr L => rss_cons (xs_own (ps_set (i := 1) sc_Reading_read_factors.nd rfl (by first | exact Or.inl rfl | exact Or.inr rfl) (xl_lst (xa_nil)))) (rs_none)
      (rss_cons (xs_while L.own (xt_ne hr (xe_meth0 k_Reading_next_word (hr.mono (by decide)) (xe_var 0)) (xe_str)) (xss_cons (xs_if (xt_eq hr (xe_len (pe_callB call_len (by rfl) m_len PySem.boot_len (pa_cons (xo_var 1) pa_nil))) (xe_gint (by rfl) c_MOST_FACTORS)) (xss_one (xs_never)) (xss_nil))
      (xss_one (xs_app (ps_expr (pe_bm PySem.F.plainAttrs_list PySem.F.slot_list_append PySem.F.type_list_append mt_append (pv 1) (pa_cons (xe_meth k_Reading_read_number (hr.mono (by decide)) (xe_var 0) (xa_cons (xe_neg (xe_gint (by rfl) c_GREATEST_FACTOR)) (xa_cons (xe_gint (by rfl) c_GREATEST_FACTOR) (xa_nil))) (fun ρ T ds T1 q => congrArg (· + 1) ((len_cons (len_cons (len_nil))) ρ T ds T1 q))) pa_nil))))))) (rs_while L.own (xt_ne hr (xe_meth0 k_Reading_next_word (hr.mono (by decide)) (xe_var 0)) (xe_str)) (rt_cmpl (op_neD hr.units) (re_meth0 kx_Reading_next_word L.tk (hr.mono (by decide)) (xe_var 0)) (nomark _)) (xss_cons (xs_if (xt_eq hr (xe_len (pe_callB call_len (by rfl) m_len PySem.boot_len (pa_cons (xo_var 1) pa_nil))) (xe_gint (by rfl) c_MOST_FACTORS)) (xss_one (xs_never)) (xss_nil))
      (xss_one (xs_app (ps_expr (pe_bm PySem.F.plainAttrs_list PySem.F.slot_list_append PySem.F.type_list_append mt_append (pv 1) (pa_cons (xe_meth k_Reading_read_number (hr.mono (by decide)) (xe_var 0) (xa_cons (xe_neg (xe_gint (by rfl) c_GREATEST_FACTOR)) (xa_cons (xe_gint (by rfl) c_GREATEST_FACTOR) (xa_nil))) (fun ρ T ds T1 q => congrArg (· + 1) ((len_cons (len_cons (len_nil))) ρ T ds T1 q))) pa_nil)))))) (rss_cons (xs_if (xt_eq hr (xe_len (pe_callB call_len (by rfl) m_len PySem.boot_len (pa_cons (xo_var 1) pa_nil))) (xe_gint (by rfl) c_MOST_FACTORS)) (xss_one (xs_never)) (xss_nil)) (rs_if (xt_eq hr (xe_len (pe_callB call_len (by rfl) m_len PySem.boot_len (pa_cons (xo_var 1) pa_nil))) (xe_gint (by rfl) c_MOST_FACTORS)) (rss_cons (xs_never) (rs_raise1 q_InvalidWord L (hr.mono (by decide)) (by rfl) (xe_fld n_at (xe_var 0)))
      (rss_nil)) (rss_nil))
      (rss_cons (xs_app (ps_expr (pe_bm PySem.F.plainAttrs_list PySem.F.slot_list_append PySem.F.type_list_append mt_append (pv 1) (pa_cons (xe_meth k_Reading_read_number (hr.mono (by decide)) (xe_var 0) (xa_cons (xe_neg (xe_gint (by rfl) c_GREATEST_FACTOR)) (xa_cons (xe_gint (by rfl) c_GREATEST_FACTOR) (xa_nil))) (fun ρ T ds T1 q => congrArg (· + 1) ((len_cons (len_cons (len_nil))) ρ T ds T1 q))) pa_nil)))) (rs_app (ps_expr (pe_bm PySem.F.plainAttrs_list PySem.F.slot_list_append PySem.F.type_list_append mt_append (pv 1) (pa_cons (re_meth kx_Reading_read_number L.tk (hr.mono (by decide)) (xe_var 0) (xa_cons (xe_neg (xe_gint (by rfl) c_GREATEST_FACTOR)) (xa_cons (xe_gint (by rfl) c_GREATEST_FACTOR) (xa_nil))) (fun ρ T ds T1 q => congrArg (· + 1) ((len_cons (len_cons (len_nil))) ρ T ds T1 q))) pa_nil))))
      (rss_nil))))
      (rss_cons (xs_fldA (g := (fun i j => i + j)) in_add n_at (xe_var 0) (xe_int)) (rs_none)
      (rss_cons (xs_ret (xo_of (xe_tuple (pe_callTy call_tupleP (by rfl) m_tuple (by decide +kernel) (pa_cons (xo_var 1) pa_nil))))) (rs_none)
      (rss_nil)))))
/-! ### Reading.read_comparison -/
abbrev s_Reading_read_comparison : Stmt := inClass (topS 15) 3
abbrev n_Reading_read_comparison : List Str := [Str.ofString "self", Str.ofString "name", Str.ofString "factors", Str.ofString "modulus"]
theorem sc_Reading_read_comparison : FnScope n_Reading_read_comparison [Str.ofString "self", Str.ofString "name"] (defScope s_Reading_read_comparison) := ⟨rfl, rfl, rfl, by decide +kernel, rfl, by decide +kernel, by decide +kernel⟩
noncomputable def gx_Reading_read_comparison : FXS := seqX (ifS (andT (testF (binF neD (varF 1) (constF (.str (Str.ofString "below"))))) (testF (binF neD (varF 1) (constF (.str (Str.ofString "rest")))))) (neverS) (nilS)) (ifX (andT (testF (binF neD (varF 1) (constF (.str (Str.ofString "below"))))) (testF (binF neD (varF 1) (constF (.str (Str.ofString "rest")))))) (seqX (neverS) (liX (mkX "InvalidWord" "number" (fldF ["Reading"] "at" (varF 0))))
      (noX)) (noX))
      (seqX (fldA ["Reading"] "at" (fun i j => i + j) (varF 0) (constF (.int 1))) (noX)
      (seqX (asgF 2 (methF "Reading" "read_factors" h_Reading_read_factors (varF 0) (nilF))) (liX (methX "Reading" "read_factors" x_Reading_read_factors (varF 0) (nilF)))
      (seqX (ifS (testF (binF eqD (varF 1) (constF (.str (Str.ofString "below"))))) (retF (ofF (tupF (consF (varF 1) (consF (varF 2) (consF (methF "Reading" "read_number" h_Reading_read_number (varF 0) (consF (negF (constF (.int 99))) (consF (constF (.int 99)) (nilF)))) (nilF))))))) (nilS)) (ifX (testF (binF eqD (varF 1) (constF (.str (Str.ofString "below"))))) (seqX (retF (ofF (tupF (consF (varF 1) (consF (varF 2) (consF (methF "Reading" "read_number" h_Reading_read_number (varF 0) (consF (negF (constF (.int 99))) (consF (constF (.int 99)) (nilF)))) (nilF))))))) (liX (thX (varF 1) (thX (varF 2) (methX "Reading" "read_number" x_Reading_read_number (varF 0) (consF (negF (constF (.int 99))) (consF (constF (.int 99)) (nilF)))))))
      (noX)) (noX))
      (seqX (asgF 3 (methF "Reading" "read_number" h_Reading_read_number (varF 0) (consF (constF (.int 1)) (consF (constF (.int 12)) (nilF))))) (liX (methX "Reading" "read_number" x_Reading_read_number (varF 0) (consF (constF (.int 1)) (consF (constF (.int 12)) (nilF)))))
      (seqX (retF (ofF (tupF (consF (varF 1) (consF (varF 2) (consF (varF 3) (consF (methF "Reading" "read_number" h_Reading_read_number (varF 0) (consF (constF (.int 0)) (consF (binF subD (varF 3) (constF (.int 1))) (nilF)))) (nilF)))))))) (liX (thX (varF 1) (thX (varF 2) (thX (varF 3) (methX "Reading" "read_number" x_Reading_read_number (varF 0) (consF (constF (.int 0)) (consF (binF subD (varF 3) (constF (.int 1))) (nilF))))))))
      (noX))))))
@[irreducible] noncomputable def x_Reading_read_comparison : XF := runX gx_Reading_read_comparison 4
theorem ok_Reading_read_comparison {P : Program} {w : World} {K : PySem.W.Frag} {mg : Str → Option Value} {base : Heap} {f : Addr} {fd : FuncData} {C : Addr} (hC : ClsA K "Reading" C) (cl : Cls K C) (hm : Meth K C (Str.ofString "read_comparison") f) (F : Fun K (Str.ofString "read_comparison") (Str.ofString "Reading.read_comparison") s_Reading_read_comparison f fd) (hb : Binds K fd [Str.ofString "self", Str.ofString "name"] []) (kx_Reading_read_factors : MCalX P w K mg base "Reading" "read_factors" 5 1 h_Reading_read_factors x_Reading_read_factors) (kx_Reading_read_number : MCalX P w K mg base "Reading" "read_number" 4 3 h_Reading_read_number x_Reading_read_number) (n_at : NoA K ["Reading"] "at") (c_GREATEST_MODULUS : ∃ t, mg (Str.ofString "GREATEST_MODULUS") = some (.int 12 t)) (c_GREATEST_CONSTANT : ∃ t, mg (Str.ofString "GREATEST_CONSTANT") = some (.int 99 t)) (q_InvalidWord : KExc P w K mg base "InvalidWord" "number" 1) :
    MCalX P w K mg base "Reading" "read_comparison" 6 2 h_Reading_read_comparison x_Reading_read_comparison := by
  have k_Reading_read_factors := kx_Reading_read_factors.down
  have k_Reading_read_number := kx_Reading_read_number.down
  unfold h_Reading_read_comparison x_Reading_read_comparison
  exact mcalx_of (N := n_Reading_read_comparison) (g := g_Reading_read_comparison) (by decide) hC cl hm F hb sc_Reading_read_comparison rfl rfl (fun cdv A outer s H E hr => xss_cons (xs_if (xt_w (xw_and (xt_ne hr (xe_var 1) (xe_str)) (xw_and1 (xt_ne hr (xe_var 1) (xe_str))))) (xss_one (xs_never)) (xss_nil))
      (xss_cons (xs_fldA (g := (fun i j => i + j)) in_add n_at (xe_var 0) (xe_int))
      (xss_cons (xs_asg (ps_set (i := 2) sc_Reading_read_comparison.nd rfl (by first | exact Or.inl rfl | exact Or.inr rfl) (xe_meth0 k_Reading_read_factors (hr.mono (by decide)) (xe_var 0))))
      (xss_cons (xs_if (xt_eq hr (xe_var 1) (xe_str)) (xss_one (xs_ret (xo_of (xe_tup (xa_cons (xe_var 1) (xa_cons (xe_var 2) (xa_cons (xe_meth k_Reading_read_number (hr.mono (by decide)) (xe_var 0) (xa_cons (xe_neg (xe_gint (by rfl) c_GREATEST_CONSTANT)) (xa_cons (xe_gint (by rfl) c_GREATEST_CONSTANT) (xa_nil))) (fun ρ T ds T1 q => congrArg (· + 1) ((len_cons (len_cons (len_nil))) ρ T ds T1 q))) (xa_nil)))))))) (xss_nil))
      (xss_cons (xs_asg (ps_set (i := 3) sc_Reading_read_comparison.nd rfl (by first | exact Or.inl rfl | exact Or.inr rfl) (xe_meth k_Reading_read_number (hr.mono (by decide)) (xe_var 0) (xa_cons (xe_int) (xa_cons (xe_gint (by rfl) c_GREATEST_MODULUS) (xa_nil))) (fun ρ T ds T1 q => congrArg (· + 1) ((len_cons (len_cons (len_nil))) ρ T ds T1 q)))))
      (xss_one (xs_ret (xo_of (xe_tup (xa_cons (xe_var 1) (xa_cons (xe_var 2) (xa_cons (xe_var 3) (xa_cons (xe_meth k_Reading_read_number (hr.mono (by decide)) (xe_var 0) (xa_cons (xe_int) (xa_cons (xe_sub (xe_var 3) (xe_int)) (xa_nil))) (fun ρ T ds T1 q => congrArg (· + 1) ((len_cons (len_cons (len_nil))) ρ T ds T1 q))) (xa_nil))))))))))))))
    (fun cdv A outer s H E hr L => rss_cons (xs_if (xt_w (xw_and (xt_ne hr (xe_var 1) (xe_str)) (xw_and1 (xt_ne hr (xe_var 1) (xe_str))))) (xss_one (xs_never)) (xss_nil)) (rs_if (xt_w (xw_and (xt_ne hr (xe_var 1) (xe_str)) (xw_and1 (xt_ne hr (xe_var 1) (xe_str))))) (rss_cons (xs_never) (rs_raise1 q_InvalidWord L (hr.mono (by decide)) (by rfl) (xe_fld n_at (xe_var 0)))
      (rss_nil)) (rss_nil))
      (rss_cons (xs_fldA (g := (fun i j => i + j)) in_add n_at (xe_var 0) (xe_int)) (rs_none)
      (rss_cons (xs_asg (ps_set (i := 2) sc_Reading_read_comparison.nd rfl (by first | exact Or.inl rfl | exact Or.inr rfl) (xe_meth0 k_Reading_read_factors (hr.mono (by decide)) (xe_var 0)))) (rs_asg (ps_set (i := 2) sc_Reading_read_comparison.nd rfl (by first | exact Or.inl rfl | exact Or.inr rfl) (re_meth0 kx_Reading_read_factors L.tk (hr.mono (by decide)) (xe_var 0))))
      (rss_cons (xs_if (xt_eq hr (xe_var 1) (xe_str)) (xss_one (xs_ret (xo_of (xe_tup (xa_cons (xe_var 1) (xa_cons (xe_var 2) (xa_cons (xe_meth k_Reading_read_number (hr.mono (by decide)) (xe_var 0) (xa_cons (xe_neg (xe_gint (by rfl) c_GREATEST_CONSTANT)) (xa_cons (xe_gint (by rfl) c_GREATEST_CONSTANT) (xa_nil))) (fun ρ T ds T1 q => congrArg (· + 1) ((len_cons (len_cons (len_nil))) ρ T ds T1 q))) (xa_nil)))))))) (xss_nil)) (rs_if (xt_eq hr (xe_var 1) (xe_str)) (rss_cons (xs_ret (xo_of (xe_tup (xa_cons (xe_var 1) (xa_cons (xe_var 2) (xa_cons (xe_meth k_Reading_read_number (hr.mono (by decide)) (xe_var 0) (xa_cons (xe_neg (xe_gint (by rfl) c_GREATEST_CONSTANT)) (xa_cons (xe_gint (by rfl) c_GREATEST_CONSTANT) (xa_nil))) (fun ρ T ds T1 q => congrArg (· + 1) ((len_cons (len_cons (len_nil))) ρ T ds T1 q))) (xa_nil))))))) (rs_ret (re_tup (ra_then (xe_var 1) (ra_then (xe_var 2) (ra_here (re_meth kx_Reading_read_number L.tk (hr.mono (by decide)) (xe_var 0) (xa_cons (xe_neg (xe_gint (by rfl) c_GREATEST_CONSTANT)) (xa_cons (xe_gint (by rfl) c_GREATEST_CONSTANT) (xa_nil))) (fun ρ T ds T1 q => congrArg (· + 1) ((len_cons (len_cons (len_nil))) ρ T ds T1 q))))))))
      (rss_nil)) (rss_nil))
      (rss_cons (xs_asg (ps_set (i := 3) sc_Reading_read_comparison.nd rfl (by first | exact Or.inl rfl | exact Or.inr rfl) (xe_meth k_Reading_read_number (hr.mono (by decide)) (xe_var 0) (xa_cons (xe_int) (xa_cons (xe_gint (by rfl) c_GREATEST_MODULUS) (xa_nil))) (fun ρ T ds T1 q => congrArg (· + 1) ((len_cons (len_cons (len_nil))) ρ T ds T1 q))))) (rs_asg (ps_set (i := 3) sc_Reading_read_comparison.nd rfl (by first | exact Or.inl rfl | exact Or.inr rfl) (re_meth kx_Reading_read_number L.tk (hr.mono (by decide)) (xe_var 0) (xa_cons (xe_int) (xa_cons (xe_gint (by rfl) c_GREATEST_MODULUS) (xa_nil))) (fun ρ T ds T1 q => congrArg (· + 1) ((len_cons (len_cons (len_nil))) ρ T ds T1 q)))))
      (rss_cons (xs_ret (xo_of (xe_tup (xa_cons (xe_var 1) (xa_cons (xe_var 2) (xa_cons (xe_var 3) (xa_cons (xe_meth k_Reading_read_number (hr.mono (by decide)) (xe_var 0) (xa_cons (xe_int) (xa_cons (xe_sub (xe_var 3) (xe_int)) (xa_nil))) (fun ρ T ds T1 q => congrArg (· + 1) ((len_cons (len_cons (len_nil))) ρ T ds T1 q))) (xa_nil)))))))) (rs_ret (re_tup (ra_then (xe_var 1) (ra_then (xe_var 2) (ra_then (xe_var 3) (ra_here (re_meth kx_Reading_read_number L.tk (hr.mono (by decide)) (xe_var 0) (xa_cons (xe_int) (xa_cons (xe_sub (xe_var 3) (xe_int)) (xa_nil))) (fun ρ T ds T1 q => congrArg (· + 1) ((len_cons (len_cons (len_nil))) ρ T ds T1 q)))))))))
      (rss_nil)))))))
/-! ### Reading.read -/
abbrev s_Reading_read : Stmt := inClass (topS 15) 1
abbrev n_Reading_read : List Str := [Str.ofString "self", Str.ofString "begun", Str.ofString "name", Str.ofString "named"]
theorem sc_Reading_read : FnScope n_Reading_read [Str.ofString "self"] (defScope s_Reading_read) := ⟨rfl, rfl, rfl, by decide +kernel, rfl, by decide +kernel, by decide +kernel⟩
noncomputable def gx_Reading_read : FXS := seqX (objF 1 (lstF (nilF))) (noX)
      (seqX (whS (testF (constF (.bl true))) (seqS (asgF 2 (methF "Reading" "next_word" h_Reading_next_word (varF 0) (nilF)))
      (seqS (ifS (testF (inTF tb_NAMED (varF 2))) (seqS (dropF (appOF (varF 1) (tupF (consF (varF 2) (consF (objE (lstF (nilF))) (nilF))))))
      (seqS (fldA ["Reading"] "at" (fun i j => i + j) (varF 0) (constF (.int 1)))
      (cntS))) (nilS))
      (seqS (dropF (appOF (fldF ["Reading"] "lines" (varF 0)) (methF "Reading" "read_comparison" h_Reading_read_comparison (varF 0) (consF (varF 2) (nilF)))))
      (seqS (whS (testF (binF gtD (lenF (varO 1)) (constF (.int 0)))) (seqS (unpF (.tp [2, 3]) (ixF (varO 1) (negF (constF (.int 1)))))
      (seqS (dropF (appOF (varF 3) (binF subD (lenF (ofF (fldF ["Reading"] "lines" (varF 0)))) (constF (.int 1)))))
      (seqS (ifS (testF (binF ltD (lenF (varO 3)) (ixTF tb_NAMED (varF 2)))) (brkS) (nilS))
      (seqS (dropF (popF (varF 1)))
      (dropF (appOF (fldF ["Reading"] "lines" (varF 0)) (binF addD (tupF (consF (varF 2) (nilF))) (tofF (varO 3))))))))))
      (ifS (testF (binF eqD (lenF (varO 1)) (constF (.int 0)))) (retF (ofF (tofF (ofF (fldF ["Reading"] "lines" (varF 0)))))) (nilS))))))) (whX (testF (constF (.bl true))) (seqS (asgF 2 (methF "Reading" "next_word" h_Reading_next_word (varF 0) (nilF)))
      (seqS (ifS (testF (inTF tb_NAMED (varF 2))) (seqS (dropF (appOF (varF 1) (tupF (consF (varF 2) (consF (objE (lstF (nilF))) (nilF))))))
      (seqS (fldA ["Reading"] "at" (fun i j => i + j) (varF 0) (constF (.int 1)))
      (cntS))) (nilS))
      (seqS (dropF (appOF (fldF ["Reading"] "lines" (varF 0)) (methF "Reading" "read_comparison" h_Reading_read_comparison (varF 0) (consF (varF 2) (nilF)))))
      (seqS (whS (testF (binF gtD (lenF (varO 1)) (constF (.int 0)))) (seqS (unpF (.tp [2, 3]) (ixF (varO 1) (negF (constF (.int 1)))))
      (seqS (dropF (appOF (varF 3) (binF subD (lenF (ofF (fldF ["Reading"] "lines" (varF 0)))) (constF (.int 1)))))
      (seqS (ifS (testF (binF ltD (lenF (varO 3)) (ixTF tb_NAMED (varF 2)))) (brkS) (nilS))
      (seqS (dropF (popF (varF 1)))
      (dropF (appOF (fldF ["Reading"] "lines" (varF 0)) (binF addD (tupF (consF (varF 2) (nilF))) (tofF (varO 3))))))))))
      (ifS (testF (binF eqD (lenF (varO 1)) (constF (.int 0)))) (retF (ofF (tofF (ofF (fldF ["Reading"] "lines" (varF 0)))))) (nilS)))))) (fun _ _ => none) (seqX (asgF 2 (methF "Reading" "next_word" h_Reading_next_word (varF 0) (nilF))) (liX (methX "Reading" "next_word" x_Reading_next_word (varF 0) (nilF)))
      (seqX (ifS (testF (inTF tb_NAMED (varF 2))) (seqS (dropF (appOF (varF 1) (tupF (consF (varF 2) (consF (objE (lstF (nilF))) (nilF))))))
      (seqS (fldA ["Reading"] "at" (fun i j => i + j) (varF 0) (constF (.int 1)))
      (cntS))) (nilS)) (noX)
      (seqX (dropF (appOF (fldF ["Reading"] "lines" (varF 0)) (methF "Reading" "read_comparison" h_Reading_read_comparison (varF 0) (consF (varF 2) (nilF))))) (liX (appX (fldF ["Reading"] "lines" (varF 0)) (methX "Reading" "read_comparison" x_Reading_read_comparison (varF 0) (consF (varF 2) (nilF)))))
      (seqX (whS (testF (binF gtD (lenF (varO 1)) (constF (.int 0)))) (seqS (unpF (.tp [2, 3]) (ixF (varO 1) (negF (constF (.int 1)))))
      (seqS (dropF (appOF (varF 3) (binF subD (lenF (ofF (fldF ["Reading"] "lines" (varF 0)))) (constF (.int 1)))))
      (seqS (ifS (testF (binF ltD (lenF (varO 3)) (ixTF tb_NAMED (varF 2)))) (brkS) (nilS))
      (seqS (dropF (popF (varF 1)))
      (dropF (appOF (fldF ["Reading"] "lines" (varF 0)) (binF addD (tupF (consF (varF 2) (nilF))) (tofF (varO 3)))))))))) (noX)
      (seqX (ifS (testF (binF eqD (lenF (varO 1)) (constF (.int 0)))) (retF (ofF (tofF (ofF (fldF ["Reading"] "lines" (varF 0)))))) (nilS)) (noX)
      (noX)))))))
      (noX))
@[irreducible] noncomputable def x_Reading_read : XF := runX gx_Reading_read 4
theorem ok_Reading_read {P : Program} {w : World} {K : PySem.W.Frag} {mg : Str → Option Value} {base : Heap} {f : Addr} {fd : FuncData} {C : Addr} (hC : ClsA K "Reading" C) (cl : Cls K C) (hm : Meth K C (Str.ofString "read") f) (F : Fun K (Str.ofString "read") (Str.ofString "Reading.read") s_Reading_read f fd) (hb : Binds K fd [Str.ofString "self"] []) (kx_Reading_next_word : MCalX P w K mg base "Reading" "next_word" 3 1 h_Reading_next_word x_Reading_next_word) (kx_Reading_read_comparison : MCalX P w K mg base "Reading" "read_comparison" 6 2 h_Reading_read_comparison x_Reading_read_comparison) (n_at : NoA K ["Reading"] "at") (n_lines : NoA K ["Reading"] "lines") (m_len : mg (Str.ofString "len") = none) (m_tuple : mg (Str.ofString "tuple") = none) (d_NAMED : KTab K w mg (Str.ofString "NAMED") tb_NAMED) :
    MCalX P w K mg base "Reading" "read" 7 1 h_Reading_read x_Reading_read := by
  have k_Reading_next_word := kx_Reading_next_word.down
  have k_Reading_read_comparison := kx_Reading_read_comparison.down
  unfold h_Reading_read x_Reading_read
  exact mcalx_of (N := n_Reading_read) (g := g_Reading_read) (by decide) hC cl hm F hb sc_Reading_read rfl rfl (fun cdv A outer s H E hr => xss_cons (xs_obj (ps_set (i := 1) sc_Reading_read.nd rfl (by first | exact Or.inl rfl | exact Or.inr rfl) (xl_lst (xa_nil))))
      (xss_one (xs_while PassesOwn.never (xt_val (xe_bl)) (xss_cons (xs_asg (ps_set (i := 2) sc_Reading_read.nd rfl (by first | exact Or.inl rfl | exact Or.inr rfl) (xe_meth0 k_Reading_next_word (hr.mono (by decide)) (xe_var 0))))
      (xss_cons (xs_if (xt_inT d_NAMED (by rfl) (xe_var 2)) (xss_cons (xs_expr (ps_expr (xe_appO (pe_bm PySem.F.plainAttrs_list PySem.F.slot_list_append PySem.F.type_list_append mt_append (xe_var 1) (pa_cons (xe_tup (xa_cons (xe_var 2) (xa_cons (xe_obj (xl_lst (xa_nil))) (xa_nil)))) pa_nil)))))
      (xss_cons (xs_fldA (g := (fun i j => i + j)) in_add n_at (xe_var 0) (xe_int))
      (xss_one (xs_continue)))) (xss_nil))
      (xss_cons (xs_expr (ps_expr (xe_appO (pe_bm PySem.F.plainAttrs_list PySem.F.slot_list_append PySem.F.type_list_append mt_append (xe_fld n_lines (xe_var 0)) (pa_cons (xe_meth k_Reading_read_comparison (hr.mono (by decide)) (xe_var 0) (xa_cons (xe_var 2) (xa_nil)) (fun ρ T ds T1 q => congrArg (· + 1) ((len_cons (len_nil)) ρ T ds T1 q))) pa_nil)))))
      (xss_cons (xs_while PassesOwn.never (xt_gt (xe_len (pe_callB call_len (by rfl) m_len PySem.boot_len (pa_cons (xo_var 1) pa_nil))) (xe_int)) (xss_cons (xs_unp (t := (.tp [2, 3])) (ps_asg (xe_ix (xo_var 1) (xe_neg (xe_int))) (pg_tup rfl (pgs_cons (pg_name (i := 2) sc_Reading_read.nd rfl (by first | exact Or.inl rfl | exact Or.inr rfl)) (pgs_cons (pg_name (i := 3) sc_Reading_read.nd rfl (by first | exact Or.inl rfl | exact Or.inr rfl)) (pgs_nil))))))
      (xss_cons (xs_expr (ps_expr (xe_appO (pe_bm PySem.F.plainAttrs_list PySem.F.slot_list_append PySem.F.type_list_append mt_append (xe_var 3) (pa_cons (xe_sub (xe_len (pe_callB call_len (by rfl) m_len PySem.boot_len (pa_cons (xo_of (xe_fld n_lines (xe_var 0))) pa_nil))) (xe_int)) pa_nil)))))
      (xss_cons (xs_if (xt_lt (xe_len (pe_callB call_len (by rfl) m_len PySem.boot_len (pa_cons (xo_var 3) pa_nil))) (xe_ixT d_NAMED (by rfl) (xe_var 2))) (xss_one (xs_break)) (xss_nil))
      (xss_cons (xs_expr (ps_expr (xe_pop (pe_bm0 PySem.F.plainAttrs_list PySem.F.slot_list_pop PySem.F.type_list_pop mt_pop (xe_var 1)))))
      (xss_one (xs_expr (ps_expr (xe_appO (pe_bm PySem.F.plainAttrs_list PySem.F.slot_list_append PySem.F.type_list_append mt_append (xe_fld n_lines (xe_var 0)) (pa_cons (xe_add (xe_tup (xa_cons (xe_var 2) (xa_nil))) (xe_tuple (pe_callTy call_tupleP (by rfl) m_tuple (by decide +kernel) (pa_cons (xo_var 3) pa_nil)))) pa_nil)))))))))))
      (xss_one (xs_if (xt_eq hr (xe_len (pe_callB call_len (by rfl) m_len PySem.boot_len (pa_cons (xo_var 1) pa_nil))) (xe_int)) (xss_one (xs_ret (xo_of (xe_tuple (pe_callTy call_tupleP (by rfl) m_tuple (by decide +kernel) (pa_cons (xo_of (xe_fld n_lines (xe_var 0))) pa_nil)))))) (xss_nil))))))))))
    (fun cdv A outer s H E hr L => rss_cons (xs_obj (ps_set (i := 1) sc_Reading_read.nd rfl (by first | exact Or.inl rfl | exact Or.inr rfl) (xl_lst (xa_nil)))) (rs_none)
      (rss_cons (xs_while L.own (xt_val (xe_bl)) (xss_cons (xs_asg (ps_set (i := 2) sc_Reading_read.nd rfl (by first | exact Or.inl rfl | exact Or.inr rfl) (xe_meth0 k_Reading_next_word (hr.mono (by decide)) (xe_var 0))))
      (xss_cons (xs_if (xt_inT d_NAMED (by rfl) (xe_var 2)) (xss_cons (xs_expr (ps_expr (xe_appO (pe_bm PySem.F.plainAttrs_list PySem.F.slot_list_append PySem.F.type_list_append mt_append (xe_var 1) (pa_cons (xe_tup (xa_cons (xe_var 2) (xa_cons (xe_obj (xl_lst (xa_nil))) (xa_nil)))) pa_nil)))))
      (xss_cons (xs_fldA (g := (fun i j => i + j)) in_add n_at (xe_var 0) (xe_int))
      (xss_one (xs_continue)))) (xss_nil))
      (xss_cons (xs_expr (ps_expr (xe_appO (pe_bm PySem.F.plainAttrs_list PySem.F.slot_list_append PySem.F.type_list_append mt_append (xe_fld n_lines (xe_var 0)) (pa_cons (xe_meth k_Reading_read_comparison (hr.mono (by decide)) (xe_var 0) (xa_cons (xe_var 2) (xa_nil)) (fun ρ T ds T1 q => congrArg (· + 1) ((len_cons (len_nil)) ρ T ds T1 q))) pa_nil)))))
      (xss_cons (xs_while L.own (xt_gt (xe_len (pe_callB call_len (by rfl) m_len PySem.boot_len (pa_cons (xo_var 1) pa_nil))) (xe_int)) (xss_cons (xs_unp (t := (.tp [2, 3])) (ps_asg (xe_ix (xo_var 1) (xe_neg (xe_int))) (pg_tup rfl (pgs_cons (pg_name (i := 2) sc_Reading_read.nd rfl (by first | exact Or.inl rfl | exact Or.inr rfl)) (pgs_cons (pg_name (i := 3) sc_Reading_read.nd rfl (by first | exact Or.inl rfl | exact Or.inr rfl)) (pgs_nil))))))
      (xss_cons (xs_expr (ps_expr (xe_appO (pe_bm PySem.F.plainAttrs_list PySem.F.slot_list_append PySem.F.type_list_append mt_append (xe_var 3) (pa_cons (xe_sub (xe_len (pe_callB call_len (by rfl) m_len PySem.boot_len (pa_cons (xo_of (xe_fld n_lines (xe_var 0))) pa_nil))) (xe_int)) pa_nil)))))
      (xss_cons (xs_if (xt_lt (xe_len (pe_callB call_len (by rfl) m_len PySem.boot_len (pa_cons (xo_var 3) pa_nil))) (xe_ixT d_NAMED (by rfl) (xe_var 2))) (xss_one (xs_break)) (xss_nil))
      (xss_cons (xs_expr (ps_expr (xe_pop (pe_bm0 PySem.F.plainAttrs_list PySem.F.slot_list_pop PySem.F.type_list_pop mt_pop (xe_var 1)))))
      (xss_one (xs_expr (ps_expr (xe_appO (pe_bm PySem.F.plainAttrs_list PySem.F.slot_list_append PySem.F.type_list_append mt_append (xe_fld n_lines (xe_var 0)) (pa_cons (xe_add (xe_tup (xa_cons (xe_var 2) (xa_nil))) (xe_tuple (pe_callTy call_tupleP (by rfl) m_tuple (by decide +kernel) (pa_cons (xo_var 3) pa_nil)))) pa_nil)))))))))))
      (xss_one (xs_if (xt_eq hr (xe_len (pe_callB call_len (by rfl) m_len PySem.boot_len (pa_cons (xo_var 1) pa_nil))) (xe_int)) (xss_one (xs_ret (xo_of (xe_tuple (pe_callTy call_tupleP (by rfl) m_tuple (by decide +kernel) (pa_cons (xo_of (xe_fld n_lines (xe_var 0))) pa_nil)))))) (xss_nil)))))))) (rs_while L.own (xt_val (xe_bl)) (rt_none) (xss_cons (xs_asg (ps_set (i := 2) sc_Reading_read.nd rfl (by first | exact Or.inl rfl | exact Or.inr rfl) (xe_meth0 k_Reading_next_word (hr.mono (by decide)) (xe_var 0))))
      (xss_cons (xs_if (xt_inT d_NAMED (by rfl) (xe_var 2)) (xss_cons (xs_expr (ps_expr (xe_appO (pe_bm PySem.F.plainAttrs_list PySem.F.slot_list_append PySem.F.type_list_append mt_append (xe_var 1) (pa_cons (xe_tup (xa_cons (xe_var 2) (xa_cons (xe_obj (xl_lst (xa_nil))) (xa_nil)))) pa_nil)))))
      (xss_cons (xs_fldA (g := (fun i j => i + j)) in_add n_at (xe_var 0) (xe_int))
      (xss_one (xs_continue)))) (xss_nil))
      (xss_cons (xs_expr (ps_expr (xe_appO (pe_bm PySem.F.plainAttrs_list PySem.F.slot_list_append PySem.F.type_list_append mt_append (xe_fld n_lines (xe_var 0)) (pa_cons (xe_meth k_Reading_read_comparison (hr.mono (by decide)) (xe_var 0) (xa_cons (xe_var 2) (xa_nil)) (fun ρ T ds T1 q => congrArg (· + 1) ((len_cons (len_nil)) ρ T ds T1 q))) pa_nil)))))
      (xss_cons (xs_while L.own (xt_gt (xe_len (pe_callB call_len (by rfl) m_len PySem.boot_len (pa_cons (xo_var 1) pa_nil))) (xe_int)) (xss_cons (xs_unp (t := (.tp [2, 3])) (ps_asg (xe_ix (xo_var 1) (xe_neg (xe_int))) (pg_tup rfl (pgs_cons (pg_name (i := 2) sc_Reading_read.nd rfl (by first | exact Or.inl rfl | exact Or.inr rfl)) (pgs_cons (pg_name (i := 3) sc_Reading_read.nd rfl (by first | exact Or.inl rfl | exact Or.inr rfl)) (pgs_nil))))))
      (xss_cons (xs_expr (ps_expr (xe_appO (pe_bm PySem.F.plainAttrs_list PySem.F.slot_list_append PySem.F.type_list_append mt_append (xe_var 3) (pa_cons (xe_sub (xe_len (pe_callB call_len (by rfl) m_len PySem.boot_len (pa_cons (xo_of (xe_fld n_lines (xe_var 0))) pa_nil))) (xe_int)) pa_nil)))))
      (xss_cons (xs_if (xt_lt (xe_len (pe_callB call_len (by rfl) m_len PySem.boot_len (pa_cons (xo_var 3) pa_nil))) (xe_ixT d_NAMED (by rfl) (xe_var 2))) (xss_one (xs_break)) (xss_nil))
      (xss_cons (xs_expr (ps_expr (xe_pop (pe_bm0 PySem.F.plainAttrs_list PySem.F.slot_list_pop PySem.F.type_list_pop mt_pop (xe_var 1)))))
      (xss_one (xs_expr (ps_expr (xe_appO (pe_bm PySem.F.plainAttrs_list PySem.F.slot_list_append PySem.F.type_list_append mt_append (xe_fld n_lines (xe_var 0)) (pa_cons (xe_add (xe_tup (xa_cons (xe_var 2) (xa_nil))) (xe_tuple (pe_callTy call_tupleP (by rfl) m_tuple (by decide +kernel) (pa_cons (xo_var 3) pa_nil)))) pa_nil)))))))))))
      (xss_one (xs_if (xt_eq hr (xe_len (pe_callB call_len (by rfl) m_len PySem.boot_len (pa_cons (xo_var 1) pa_nil))) (xe_int)) (xss_one (xs_ret (xo_of (xe_tuple (pe_callTy call_tupleP (by rfl) m_tuple (by decide +kernel) (pa_cons (xo_of (xe_fld n_lines (xe_var 0))) pa_nil)))))) (xss_nil))))))) (rss_cons (xs_asg (ps_set (i := 2) sc_Reading_read.nd rfl (by first | exact Or.inl rfl | exact Or.inr rfl) (xe_meth0 k_Reading_next_word (hr.mono (by decide)) (xe_var 0)))) (rs_asg (ps_set (i := 2) sc_Reading_read.nd rfl (by first | exact Or.inl rfl | exact Or.inr rfl) (re_meth0 kx_Reading_next_word L.tk (hr.mono (by decide)) (xe_var 0))))
      (rss_cons (xs_if (xt_inT d_NAMED (by rfl) (xe_var 2)) (xss_cons (xs_expr (ps_expr (xe_appO (pe_bm PySem.F.plainAttrs_list PySem.F.slot_list_append PySem.F.type_list_append mt_append (xe_var 1) (pa_cons (xe_tup (xa_cons (xe_var 2) (xa_cons (xe_obj (xl_lst (xa_nil))) (xa_nil)))) pa_nil)))))
      (xss_cons (xs_fldA (g := (fun i j => i + j)) in_add n_at (xe_var 0) (xe_int))
      (xss_one (xs_continue)))) (xss_nil)) (rs_none)
      (rss_cons (xs_expr (ps_expr (xe_appO (pe_bm PySem.F.plainAttrs_list PySem.F.slot_list_append PySem.F.type_list_append mt_append (xe_fld n_lines (xe_var 0)) (pa_cons (xe_meth k_Reading_read_comparison (hr.mono (by decide)) (xe_var 0) (xa_cons (xe_var 2) (xa_nil)) (fun ρ T ds T1 q => congrArg (· + 1) ((len_cons (len_nil)) ρ T ds T1 q))) pa_nil))))) (rs_expr (ps_expr (re_appO (pe_bm PySem.F.plainAttrs_list PySem.F.slot_list_append PySem.F.type_list_append mt_append (xe_fld n_lines (xe_var 0)) (pa_cons (re_meth kx_Reading_read_comparison L.tk (hr.mono (by decide)) (xe_var 0) (xa_cons (xe_var 2) (xa_nil)) (fun ρ T ds T1 q => congrArg (· + 1) ((len_cons (len_nil)) ρ T ds T1 q))) pa_nil)))))
      (rss_cons (xs_while L.own (xt_gt (xe_len (pe_callB call_len (by rfl) m_len PySem.boot_len (pa_cons (xo_var 1) pa_nil))) (xe_int)) (xss_cons (xs_unp (t := (.tp [2, 3])) (ps_asg (xe_ix (xo_var 1) (xe_neg (xe_int))) (pg_tup rfl (pgs_cons (pg_name (i := 2) sc_Reading_read.nd rfl (by first | exact Or.inl rfl | exact Or.inr rfl)) (pgs_cons (pg_name (i := 3) sc_Reading_read.nd rfl (by first | exact Or.inl rfl | exact Or.inr rfl)) (pgs_nil))))))
      (xss_cons (xs_expr (ps_expr (xe_appO (pe_bm PySem.F.plainAttrs_list PySem.F.slot_list_append PySem.F.type_list_append mt_append (xe_var 3) (pa_cons (xe_sub (xe_len (pe_callB call_len (by rfl) m_len PySem.boot_len (pa_cons (xo_of (xe_fld n_lines (xe_var 0))) pa_nil))) (xe_int)) pa_nil)))))
      (xss_cons (xs_if (xt_lt (xe_len (pe_callB call_len (by rfl) m_len PySem.boot_len (pa_cons (xo_var 3) pa_nil))) (xe_ixT d_NAMED (by rfl) (xe_var 2))) (xss_one (xs_break)) (xss_nil))
      (xss_cons (xs_expr (ps_expr (xe_pop (pe_bm0 PySem.F.plainAttrs_list PySem.F.slot_list_pop PySem.F.type_list_pop mt_pop (xe_var 1)))))
      (xss_one (xs_expr (ps_expr (xe_appO (pe_bm PySem.F.plainAttrs_list PySem.F.slot_list_append PySem.F.type_list_append mt_append (xe_fld n_lines (xe_var 0)) (pa_cons (xe_add (xe_tup (xa_cons (xe_var 2) (xa_nil))) (xe_tuple (pe_callTy call_tupleP (by rfl) m_tuple (by decide +kernel) (pa_cons (xo_var 3) pa_nil)))) pa_nil))))))))))) (rs_none)
      (rss_cons (xs_if (xt_eq hr (xe_len (pe_callB call_len (by rfl) m_len PySem.boot_len (pa_cons (xo_var 1) pa_nil))) (xe_int)) (xss_one (xs_ret (xo_of (xe_tuple (pe_callTy call_tupleP (by rfl) m_tuple (by decide +kernel) (pa_cons (xo_of (xe_fld n_lines (xe_var 0))) pa_nil)))))) (xss_nil)) (rs_none)
      (rss_nil)))))))
      (rss_nil)))
/-! ### parse_saying -/
abbrev s_parse_saying : Stmt := topS 14
abbrev n_parse_saying : List Str := [Str.ofString "text", Str.ofString "reading", Str.ofString "saying"]
theorem sc_parse_saying : FnScope n_parse_saying [Str.ofString "text"] (defScope s_parse_saying) := ⟨rfl, rfl, rfl, by decide +kernel, rfl, by decide +kernel, by decide +kernel⟩
noncomputable def gx_parse_saying : FXS := seqX (asgF 1 (mkF "Reading" h_Reading___init__ (consF (frzF (splitF (varF 0) (constF (.str (Str.ofString " "))))) (nilF)))) (noX)
      (seqX (asgF 2 (methF "Reading" "read" h_Reading_read (varF 1) (nilF))) (liX (methX "Reading" "read" x_Reading_read (varF 1) (nilF)))
      (seqX (ifS (testF (binF ltD (fldF ["Reading"] "at" (varF 1)) (lenF (ofF (fldF ["Reading"] "words" (varF 1)))))) (neverS) (nilS)) (ifX (testF (binF ltD (fldF ["Reading"] "at" (varF 1)) (lenF (ofF (fldF ["Reading"] "words" (varF 1)))))) (seqX (neverS) (liX (mkX "InvalidWord" "number" (fldF ["Reading"] "at" (varF 1))))
      (noX)) (noX))
      (seqX (ifS (testF (binF gtD (lenF (varO 2)) (constF (.int 40)))) (neverS) (nilS)) (ifX (testF (binF gtD (lenF (varO 2)) (constF (.int 40)))) (seqX (neverS) (liX fun _ T => some (⟨"TooLarge", []⟩, T))
      (noX)) (noX))
      (seqX (retF (varO 2)) (noX)
      (noX)))))
@[irreducible] noncomputable def x_parse_saying : XF := runX gx_parse_saying 3
theorem ok_parse_saying {P : Program} {w : World} {K : PySem.W.Frag} {mg : Str → Option Value} {base : Heap} {f : Addr} {fd : FuncData} (F : Fun K (Str.ofString "parse_saying") (Str.ofString "parse_saying") s_parse_saying f fd) (hm : mg (Str.ofString "parse_saying") = some (.ref f)) (hb : Binds K fd [Str.ofString "text"] []) (k_Reading___init__ : KCal P w K mg base "Reading" 1 2 h_Reading___init__) (kx_Reading_read : MCalX P w K mg base "Reading" "read" 7 1 h_Reading_read x_Reading_read) (n_at : NoA K ["Reading"] "at") (n_words : NoA K ["Reading"] "words") (m_len : mg (Str.ofString "len") = none) (c_MOST_LINES : ∃ t, mg (Str.ofString "MOST_LINES") = some (.int 40 t)) (q_InvalidWord : KExc P w K mg base "InvalidWord" "number" 1) (o_TooLarge : OwX K mg "TooLarge") :
    CalX P w K mg base (Str.ofString "parse_saying") 8 1 h_parse_saying x_parse_saying := by
  have k_Reading_read := kx_Reading_read.down
  unfold h_parse_saying x_parse_saying
  exact calx_of (N := n_parse_saying) (g := g_parse_saying) F hm hb sc_parse_saying rfl rfl (fun cdv A outer s H E hr => xss_cons (xs_asg (ps_set (i := 1) sc_parse_saying.nd rfl (by first | exact Or.inl rfl | exact Or.inr rfl) (xe_make k_Reading___init__ (hr.mono (by decide)) (by rfl) (xa_cons (xe_frz (xl_split (pe_split (xe_var 0) (xe_str)))) (xa_nil)) (fun ρ T ds T1 q => congrArg (· + 1) ((len_cons (len_nil)) ρ T ds T1 q)))))
      (xss_cons (xs_asg (ps_set (i := 2) sc_parse_saying.nd rfl (by first | exact Or.inl rfl | exact Or.inr rfl) (xe_meth0 k_Reading_read (hr.mono (by decide)) (xe_var 1))))
      (xss_cons (xs_if (xt_lt (xe_fld n_at (xe_var 1)) (xe_len (pe_callB call_len (by rfl) m_len PySem.boot_len (pa_cons (xo_of (xe_fld n_words (xe_var 1))) pa_nil)))) (xss_one (xs_never)) (xss_nil))
      (xss_cons (xs_if (xt_gt (xe_len (pe_callB call_len (by rfl) m_len PySem.boot_len (pa_cons (xo_var 2) pa_nil))) (xe_gint (by rfl) c_MOST_LINES)) (xss_one (xs_never)) (xss_nil))
      (xss_one (xs_ret (xo_var 2)))))))
    (fun cdv A outer s H E hr L => rss_cons (xs_asg (ps_set (i := 1) sc_parse_saying.nd rfl (by first | exact Or.inl rfl | exact Or.inr rfl) (xe_make k_Reading___init__ (hr.mono (by decide)) (by rfl) (xa_cons (xe_frz (xl_split (pe_split (xe_var 0) (xe_str)))) (xa_nil)) (fun ρ T ds T1 q => congrArg (· + 1) ((len_cons (len_nil)) ρ T ds T1 q))))) (rs_none)
      (rss_cons (xs_asg (ps_set (i := 2) sc_parse_saying.nd rfl (by first | exact Or.inl rfl | exact Or.inr rfl) (xe_meth0 k_Reading_read (hr.mono (by decide)) (xe_var 1)))) (rs_asg (ps_set (i := 2) sc_parse_saying.nd rfl (by first | exact Or.inl rfl | exact Or.inr rfl) (re_meth0 kx_Reading_read L.tk (hr.mono (by decide)) (xe_var 1))))
      (rss_cons (xs_if (xt_lt (xe_fld n_at (xe_var 1)) (xe_len (pe_callB call_len (by rfl) m_len PySem.boot_len (pa_cons (xo_of (xe_fld n_words (xe_var 1))) pa_nil)))) (xss_one (xs_never)) (xss_nil)) (rs_if (xt_lt (xe_fld n_at (xe_var 1)) (xe_len (pe_callB call_len (by rfl) m_len PySem.boot_len (pa_cons (xo_of (xe_fld n_words (xe_var 1))) pa_nil)))) (rss_cons (xs_never) (rs_raise1 q_InvalidWord L (hr.mono (by decide)) (by rfl) (xe_fld n_at (xe_var 1)))
      (rss_nil)) (rss_nil))
      (rss_cons (xs_if (xt_gt (xe_len (pe_callB call_len (by rfl) m_len PySem.boot_len (pa_cons (xo_var 2) pa_nil))) (xe_gint (by rfl) c_MOST_LINES)) (xss_one (xs_never)) (xss_nil)) (rs_if (xt_gt (xe_len (pe_callB call_len (by rfl) m_len PySem.boot_len (pa_cons (xo_var 2) pa_nil))) (xe_gint (by rfl) c_MOST_LINES)) (rss_cons (xs_never) (rs_raise0 o_TooLarge L (by rfl))
      (rss_nil)) (rss_nil))
      (rss_cons (xs_ret (xo_var 2)) (rs_none)
      (rss_nil))))))
/-! ### _law_told -/
abbrev s__law_told : Stmt := topS 23
abbrev n__law_told : List Str := [Str.ofString "text", Str.ofString "error"]
theorem sc__law_told : FnScope n__law_told [Str.ofString "text"] (defScope s__law_told) := ⟨rfl, rfl, rfl, by decide +kernel, rfl, by decide +kernel, by decide +kernel⟩
noncomputable def g__law_told : FS := seqS (toldF 1 (callF h_parse_saying (consF (varF 0) (nilF))) (callX x_parse_saying (consF (varF 0) (nilF))))
      (retF (ofF (binF subD (constF (.int 0)) (constF (.int 1)))))
@[irreducible] noncomputable def h__law_told : HF := runB g__law_told 2
theorem ok__law_told {P : Program} {w : World} {K : PySem.W.Frag} {mg : Str → Option Value} {base : Heap} {f : Addr} {fd : FuncData} (F : Fun K (Str.ofString "_law_told") (Str.ofString "_law_told") s__law_told f fd) (hm : mg (Str.ofString "_law_told") = some (.ref f)) (hb : Binds K fd [Str.ofString "text"] []) (kx_parse_saying : CalX P w K mg base (Str.ofString "parse_saying") 8 1 h_parse_saying x_parse_saying) (m_isinstance : mg (Str.ofString "isinstance") = none) {IW TL SE UN NF : Addr} (XK : XcK K mg IW TL SE UN NF) (m_ValueError : mg (Str.ofString "ValueError") = none) :
    Cal P w K mg base (Str.ofString "_law_told") 9 1 h__law_told := by
  have k_parse_saying := kx_parse_saying.down
  unfold h__law_told
  exact cal_of (N := n__law_told) (g := g__law_told) F hm hb sc__law_told rfl rfl fun cdv A outer s H E hr => xss_cons (by
        refine xs_told XK rfl rfl sc__law_told.nd rfl (by rfl) (fun pn xe => xe_own kx_parse_saying.down (hr.mono (by decide)) (by rfl) (xa_cons (xe_var 0) (xa_nil)) (len_cons (len_nil))) (fun W pn xe tk => re_own kx_parse_saying tk (hr.mono (by decide)) (by rfl) (xa_cons (xe_var 0) (xa_nil)) (len_cons (len_nil))) ?_
        refine Clauses.cons ⟨by rfl, by decide, .inl XK.iw⟩ (fun a oe cls d pn hz hfv => ?_) (Clauses.cons ⟨by rfl, by decide, .inl XK.tl⟩ (fun a oe cls d pn hz hfv => ?_) (Clauses.nil))
        · apply suiteI_of
          · intro ec
            subst ec
            exact pss_cons (if_no3 (d := d) (pt_is (excP_ok XK.p.1.2.2.2.2.2) hz hfv XK.p.2.2.2.2.1.1 (pv 1) (pe_glob (v := .ref TL) (by rfl) XK.tl rfl) (fun _ r => r) (by rfl) m_isinstance) (pt_is (excP_ok XK.p.1.2.2.2.2.2) hz hfv XK.p.2.2.2.2.1.2.1 (pv 1) (pe_glob (v := .ref UN) (by rfl) XK.un rfl) (fun _ r => r) (by rfl) m_isinstance) (pt_is (excP_ok XK.p.1.2.2.2.2.2) hz hfv XK.p.2.2.2.2.1.2.2.1 (pv 1) (pe_glob (v := .ref NF) (by rfl) XK.nf rfl) (fun _ r => r) (by rfl) m_isinstance)) (pss_cons (if_no2n (d := d) (pt_is (excP_ok XK.p.1.2.2.2.2.2) hz hfv XK.p.2.2.2.2.1.2.2.2.1 (pv 1) (pe_glob (v := .ref SE) (by rfl) XK.se rfl) (fun _ r => r) (by rfl) m_isinstance) (pt_is (excP_ok XK.p.1.2.2.2.2.2) hz hfv XK.p.2.2.2.2.1.2.2.2.2 (pv 1) (pe_bltn (v := .ty "ValueError") (by rfl) m_ValueError boot_ValueError rfl) (fun _ r => r) (by rfl) m_isinstance)) (pss_one (ps_ret (pe_xf XK.xf XK.p.1.2.2.2.2.1 hz hfv (pv 1)))))
          · intro D σ H ec h
            obtain ⟨dd, fs, n, h1, h2, h3, h4, h5⟩ := h
            exact ⟨⟨h4, .inr ⟨dd, fs, h1, h2⟩⟩, ⟨h4, .inr ⟨dd, fs, h1, h2⟩⟩, .ref a, h4, rfl, rfl, dd, fs, .int n, h1, h2, h3, h5⟩
        · apply suiteT_of
          · intro ec ed
            subst ec
            exact pss_cons (if_no3 (d := d) (pt_is (excP_ok XK.p.2.1.1) hz hfv XK.p.2.2.2.2.2.1 (pv 1) (pe_glob (v := .ref NF) (by rfl) XK.nf rfl) (fun _ r => r) (by rfl) m_isinstance) (pt_is (excP_ok XK.p.2.1.1) hz hfv XK.p.2.2.2.2.2.2.1 (pv 1) (pe_glob (v := .ref UN) (by rfl) XK.un rfl) (fun _ r => r) (by rfl) m_isinstance) (pt_is (excP_ok XK.p.2.1.1) hz hfv XK.p.2.2.2.2.2.2.2.1 (pv 1) (pe_glob (v := .ref IW) (by rfl) XK.iw rfl) (fun _ r => r) (by rfl) m_isinstance)) (pss_cons (if_no1n (d := d) (pt_is (excP_ok XK.p.2.1.1) hz hfv XK.p.2.2.2.2.2.2.2.2 (pv 1) (pe_glob (v := .ref SE) (by rfl) XK.se rfl) (fun _ r => r) (by rfl) m_isinstance)) (pss_one (ps_ret (pe_sub pe_int pe_int))))
          · intro D σ H ec ed h4 h5
            exact ⟨⟨h4, .inl ed⟩, ⟨h4, .inl ed⟩, 0, 4, rfl, rfl, h5⟩
)
      (xss_one (xs_ret (xo_of (xe_sub (xe_int) (xe_int)))))
/-! ### _law_odd -/
abbrev s__law_odd : Stmt := topS 24
abbrev n__law_odd : List Str := [Str.ofString "state", Str.ofString "words", Str.ofString "at", Str.ofString "left"]
theorem sc__law_odd : FnScope n__law_odd [Str.ofString "state", Str.ofString "words", Str.ofString "at"] (defScope s__law_odd) := ⟨rfl, rfl, rfl, by decide +kernel, rfl, by decide +kernel, by decide +kernel⟩
noncomputable def g__law_odd : FS := seqS (ifS (orT (testF (binF eqD (ixF (varO 1) (varF 2)) (constF (.str (Str.ofString ";"))))) (testF (binF inD (ixF (varO 1) (varF 2)) (frzF (lstF (consF (constF (.str (Str.ofString "below"))) (consF (constF (.str (Str.ofString "rest"))) (consF (constF (.str (Str.ofString "not"))) (consF (constF (.str (Str.ofString "both"))) (consF (constF (.str (Str.ofString "there"))) (nilF))))))))))) (retF (ofF (ixF (ofF (frzF (lstF (consF (constF (.str (Str.ofString ""))) (consF (constF (.str (Str.ofString "x"))) (consF (constF (.str (Str.ofString "Below"))) (consF (constF (.str (Str.ofString ":"))) (consF (constF (.str (Str.ofString "belo"))) (consF (constF (.str (Str.ofString ";;"))) (consF (constF (.str (Str.ofString "10"))) (consF (constF (.str (Str.ofString "1.5"))) (consF (constF (.str (Str.ofString "--1"))) (nilF))))))))))))) (callF h__law_draw (consF (varF 0) (consF (constF (.int 9)) (nilF))))))) (nilS))
      (seqS (asgF 3 (slF (varO 1) (bNo) (bSo (varF 2))))
      (seqS (ifS (orT (testF (binF ninD (constF (.str (Str.ofString ";"))) (slF (varO 3) (bSo (blF maxD (consF (constF (.int 0)) (consF (binF subD (varF 2) (constF (.int 4))) (nilF))))) (bNo)))) (testF (binF inD (ixF (varO 1) (binF subD (varF 2) (constF (.int 1)))) (frzF (lstF (consF (constF (.str (Str.ofString "below"))) (consF (constF (.str (Str.ofString "rest"))) (nilF)))))))) (ifS (testF (binF eqD (callF h__law_draw (consF (varF 0) (consF (constF (.int 2)) (nilF)))) (constF (.int 1)))) (retF (ofF (ixF (ofF (frzF (lstF (consF (blF strD (consF (binF addD (constF (.int 10)) (callF h__law_draw (consF (varF 0) (consF (constF (.int 90)) (nilF))))) (nilF))) (consF (blF strD (consF (binF subD (binF subD (constF (.int 0)) (constF (.int 10))) (callF h__law_draw (consF (varF 0) (consF (constF (.int 90)) (nilF))))) (nilF))) (nilF)))))) (callF h__law_draw (consF (varF 0) (consF (constF (.int 2)) (nilF))))))) (nilS)) (nilS))
      (retF (ofF (ixF (ofF (frzF (lstF (consF (constF (.str (Str.ofString ""))) (consF (constF (.str (Str.ofString "x"))) (consF (constF (.str (Str.ofString "01"))) (consF (constF (.str (Str.ofString "-0"))) (consF (constF (.str (Str.ofString "100"))) (consF (constF (.str (Str.ofString "-100"))) (consF (constF (.str (Str.ofString "+1"))) (consF (constF (.str (Str.ofString "1."))) (consF (constF (.str (Str.ofString "--1"))) (consF (constF (.str (Str.ofString "below"))) (consF (constF (.str (Str.ofString "-"))) (consF (constF (.str (Str.ofString "-01"))) (consF (constF (.str (Str.ofString "00"))) (consF (constF (.str (Str.ofString "-00"))) (consF (constF (.str (Str.ofString "1_0"))) (consF (constF (.str (Str.ofString "1-"))) (nilF)))))))))))))))))))) (callF h__law_draw (consF (varF 0) (consF (constF (.int 16)) (nilF)))))))))
@[irreducible] noncomputable def h__law_odd : HF := runB g__law_odd 4
theorem ok__law_odd {P : Program} {w : World} {K : PySem.W.Frag} {mg : Str → Option Value} {base : Heap} {f : Addr} {fd : FuncData} (F : Fun K (Str.ofString "_law_odd") (Str.ofString "_law_odd") s__law_odd f fd) (hm : mg (Str.ofString "_law_odd") = some (.ref f)) (hb : Binds K fd [Str.ofString "state", Str.ofString "words", Str.ofString "at"] []) (k__law_draw : Cal P w K mg base (Str.ofString "_law_draw") 1 2 h__law_draw) (m_max : mg (Str.ofString "max") = none) (m_str : mg (Str.ofString "str") = none) :
    Cal P w K mg base (Str.ofString "_law_odd") 2 3 h__law_odd := by
  unfold h__law_odd
  exact cal_of (N := n__law_odd) (g := g__law_odd) F hm hb sc__law_odd rfl rfl fun cdv A outer s H E hr => xss_cons (xs_if (xt_w (xw_or (xt_eq hr (xe_ix (xo_var 1) (xe_var 2)) (xe_str)) (xw_or1 (xt_in hr (xe_ix (xo_var 1) (xe_var 2)) (xe_frz (xl_lst (xa_cons (xe_str) (xa_cons (xe_str) (xa_cons (xe_str) (xa_cons (xe_str) (xa_cons (xe_str) (xa_nil)))))))))))) (xss_one (xs_ret (xo_of (xe_ix (xo_of (xe_frz (xl_lst (xa_cons (xe_str) (xa_cons (xe_str) (xa_cons (xe_str) (xa_cons (xe_str) (xa_cons (xe_str) (xa_cons (xe_str) (xa_cons (xe_str) (xa_cons (xe_str) (xa_cons (xe_str) (xa_nil))))))))))))) (xe_own k__law_draw (hr.mono (by decide)) (by rfl) (xa_cons (xe_var 0) (xa_cons (xe_int) (xa_nil))) (len_cons (len_cons (len_nil)))))))) (xss_nil))
      (xss_cons (xs_asg (ps_set (i := 3) sc__law_odd.nd rfl (by first | exact Or.inl rfl | exact Or.inr rfl) (xe_sl (xo_var 1) (xb_none) (xb_some (xe_var 2)))))
      (xss_cons (xs_if (xt_w (xw_or (xt_nin hr (xe_str) (xe_sl (xo_var 3) (xb_some (xe_bl_ (pe_callB (call_max2 rfl) (by rfl) m_max (by decide +kernel) (xa_cons (xe_int) (xa_cons (xe_sub (xe_var 2) (xe_int)) (xa_nil)))) ok_max)) (xb_none))) (xw_or1 (xt_in hr (xe_ix (xo_var 1) (xe_sub (xe_var 2) (xe_int))) (xe_frz (xl_lst (xa_cons (xe_str) (xa_cons (xe_str) (xa_nil))))))))) (xss_one (xs_if (xt_eq hr (xe_own k__law_draw (hr.mono (by decide)) (by rfl) (xa_cons (xe_var 0) (xa_cons (xe_int) (xa_nil))) (len_cons (len_cons (len_nil)))) (xe_int)) (xss_one (xs_ret (xo_of (xe_ix (xo_of (xe_frz (xl_lst (xa_cons (xe_bl_ (pe_callTy call_str_int (by rfl) m_str (by decide +kernel) (xa_cons (xe_add (xe_int) (xe_own k__law_draw (hr.mono (by decide)) (by rfl) (xa_cons (xe_var 0) (xa_cons (xe_int) (xa_nil))) (len_cons (len_cons (len_nil))))) (xa_nil))) ok_str) (xa_cons (xe_bl_ (pe_callTy call_str_int (by rfl) m_str (by decide +kernel) (xa_cons (xe_sub (xe_sub (xe_int) (xe_int)) (xe_own k__law_draw (hr.mono (by decide)) (by rfl) (xa_cons (xe_var 0) (xa_cons (xe_int) (xa_nil))) (len_cons (len_cons (len_nil))))) (xa_nil))) ok_str) (xa_nil)))))) (xe_own k__law_draw (hr.mono (by decide)) (by rfl) (xa_cons (xe_var 0) (xa_cons (xe_int) (xa_nil))) (len_cons (len_cons (len_nil)))))))) (xss_nil))) (xss_nil))
      (xss_one (xs_ret (xo_of (xe_ix (xo_of (xe_frz (xl_lst (xa_cons (xe_str) (xa_cons (xe_str) (xa_cons (xe_str) (xa_cons (xe_str) (xa_cons (xe_str) (xa_cons (xe_str) (xa_cons (xe_str) (xa_cons (xe_str) (xa_cons (xe_str) (xa_cons (xe_str) (xa_cons (xe_str) (xa_cons (xe_str) (xa_cons (xe_str) (xa_cons (xe_str) (xa_cons (xe_str) (xa_cons (xe_str) (xa_nil)))))))))))))))))))) (xe_own k__law_draw (hr.mono (by decide)) (by rfl) (xa_cons (xe_var 0) (xa_cons (xe_int) (xa_nil))) (len_cons (len_cons (len_nil))))))))))
/-! ### law -/
abbrev s_law : Stmt := topS 25
abbrev n_law : List Str := [Str.ofString "script", Str.ofString "state", Str.ofString "saying", Str.ofString "words", Str.ofString "k", Str.ofString "leaves", Str.ofString "many", Str.ofString "at"]
theorem sc_law : FnScope n_law [Str.ofString "script"] (defScope s_law) := ⟨rfl, rfl, rfl, by decide +kernel, rfl, by decide +kernel, by decide +kernel⟩
noncomputable def g_law : FS := seqS (objF 1 (lstF (consF (constF (.int 0)) (consF (constF (.int 0)) (consF (frzF (lofF (varO 0))) (consF (constF (.int 1)) (nilF)))))))
      (seqS (asgF 2 (callF h__law_plain (consF (varF 1) (consF (callF h__law_draw (consF (varF 1) (consF (constF (.int 4)) (nilF)))) (consF (constF (.int 3)) (consF (constF (.int 3)) (nilF)))))))
      (seqS (asgF 3 (callF (h__law_words 60) (consF (varF 2) (consF (binF subD (lenF (varO 2)) (constF (.int 1))) (nilF)))))
      (seqS (ifS (orT (testF (binF neD (callF h__law_told (consF (m1F joinD (constF (.str (Str.ofString " "))) (varF 3)) (nilF))) (binF subD (constF (.int 0)) (constF (.int 1))))) (testF (binF neD (excF (constF (.int 5))) (constF (.int 5))))) (retF (ofF (constF (.bl false)))) (nilS))
      (seqS (forS (.nm 4) (rng1 (consF (constF (.int 6)) (nilF))) (seqS (asgF 7 (callF h__law_draw (consF (varF 1) (consF (lenF (varO 3)) (nilF)))))
      (seqS (ifS (testF (binF neD (callF h__law_told (consF (m1F joinD (constF (.str (Str.ofString " "))) (binF addD (binF addD (slF (varO 3) (bNo) (bSo (varF 7))) (frzF (lstF (consF (callF h__law_odd (consF (varF 1) (consF (varF 3) (consF (varF 7) (nilF))))) (nilF))))) (slF (varO 3) (bSo (binF addD (varF 7) (constF (.int 1)))) (bNo)))) (nilF))) (varF 7))) (retF (ofF (constF (.bl false)))) (nilS))
      (seqS (ifS (andT (testF (binF gtD (varF 7) (constF (.int 0)))) (testF (binF neD (callF h__law_told (consF (m1F joinD (constF (.str (Str.ofString " "))) (slF (varO 3) (bNo) (bSo (varF 7)))) (nilF))) (varF 7)))) (retF (ofF (constF (.bl false)))) (nilS))
      (ifS (testF (binF neD (callF h__law_told (consF (m1F joinD (constF (.str (Str.ofString " "))) (binF addD (varF 3) (frzF (lstF (consF (ixF (ofF (frzF (lstF (consF (constF (.str (Str.ofString "below"))) (consF (constF (.str (Str.ofString "1"))) (consF (constF (.str (Str.ofString ";"))) (consF (constF (.str (Str.ofString ""))) (nilF)))))))) (callF h__law_draw (consF (varF 1) (consF (constF (.int 4)) (nilF))))) (nilF)))))) (nilF))) (lenF (varO 3)))) (retF (ofF (constF (.bl false)))) (nilS))))))
      (seqS (ifS (orT (testF (binF neD (callF h__law_told (consF (constF (.str (Str.ofString ""))) (nilF))) (constF (.int 0)))) (orT (testF (binF neD (callF h__law_told (consF (constF (.str (Str.ofString "below 1 1 1 1 1 1 1 ; 0"))) (nilF))) (constF (.int 7)))) (orT (testF (binF neD (callF h__law_told (consF (constF (.str (Str.ofString "below 10 ; 0"))) (nilF))) (constF (.int 1)))) (testF (binF neD (callF h__law_told (consF (constF (.str (Str.ofString "rest 1 ; 3 3"))) (nilF))) (constF (.int 4))))))) (retF (ofF (constF (.bl false)))) (nilS))
      (seqS (ifS (orT (testF (binF neD (callF h__law_told (consF (constF (.str (Str.ofString "rest 1 ; 13 0"))) (nilF))) (constF (.int 3)))) (orT (testF (binF neD (callF h__law_told (consF (constF (.str (Str.ofString "rest 1 ; 0 0"))) (nilF))) (constF (.int 3)))) (orT (testF (binF neD (callF h__law_told (consF (constF (.str (Str.ofString "below 1 ; 100"))) (nilF))) (constF (.int 3)))) (testF (binF neD (callF h__law_told (consF (constF (.str (Str.ofString " below ; 1"))) (nilF))) (constF (.int 0))))))) (retF (ofF (constF (.bl false)))) (nilS))
      (seqS (ifS (orT (testF (binF neD (callF h__law_told (consF (constF (.str (Str.ofString "rest 1 ; 3 -1"))) (nilF))) (constF (.int 4)))) (orT (testF (binF neD (callF h__law_told (consF (constF (.str (Str.ofString "below -10 ; 0"))) (nilF))) (constF (.int 1)))) (testF (binF neD (callF h__law_told (consF (constF (.str (Str.ofString "rest 1 ; -1 0"))) (nilF))) (constF (.int 3)))))) (retF (ofF (constF (.bl false)))) (nilS))
      (seqS (ifS (orT (testF (binF neD (callF h__law_told (consF (binF addD (binF mulSD (constF (.str (Str.ofString "not "))) (constF (.int 40))) (constF (.str (Str.ofString "below ; 1 x")))) (nilF))) (constF (.int 43)))) (testF (binF neD (callF h__law_told (consF (binF addD (binF addD (binF mulSD (constF (.str (Str.ofString "both "))) (constF (.int 24))) (binF mulSD (constF (.str (Str.ofString "below ; 1 "))) (constF (.int 24)))) (constF (.str (Str.ofString "below ; x")))) (nilF))) (binF addD (binF addD (constF (.int 24)) (constF (.int 72))) (constF (.int 2)))))) (retF (ofF (constF (.bl false)))) (nilS))
      (seqS (forS (.nm 5) (lstF (consF (constF (.int 20)) (consF (constF (.int 21)) (consF (constF (.int 25)) (nilF))))) (ifS (testF (binF neD (callF h__law_told (consF (binF addD (binF addD (binF mulSD (constF (.str (Str.ofString "both "))) (binF subD (varF 5) (constF (.int 1)))) (binF mulSD (constF (.str (Str.ofString "below ; 1 "))) (binF subD (varF 5) (constF (.int 1))))) (constF (.str (Str.ofString "below ; 1")))) (nilF))) (ixF (ofF (frzF (lstF (consF (binF subD (constF (.int 0)) (constF (.int 4))) (consF (binF subD (constF (.int 0)) (constF (.int 1))) (nilF)))))) (blF intD (consF (binF eqD (varF 5) (constF (.int 20))) (nilF)))))) (retF (ofF (constF (.bl false)))) (nilS)))
      (seqS (ifS (orT (testF (binF neD (callF h__law_told (consF (constF (.str (Str.ofString "below ;\n1"))) (nilF))) (constF (.int 1)))) (orT (testF (binF neD (callF h__law_told (consF (constF (.str (Str.ofString "below ;\t1"))) (nilF))) (constF (.int 1)))) (orT (testF (binF neD (callF h__law_told (consF (constF (.str (Str.ofString "below ; 1\n"))) (nilF))) (constF (.int 2)))) (testF (binF neD (callF h__law_told (consF (constF (.str (Str.ofString "\tbelow ; 1"))) (nilF))) (constF (.int 0))))))) (retF (ofF (constF (.bl false)))) (nilS))
      (seqS (asgF 6 (binF addD (constF (.int 38)) (callF h__law_draw (consF (varF 1) (consF (constF (.int 4)) (nilF))))))
      (retF (ofF (binF eqD (callF h__law_told (consF (binF addD (binF mulSD (constF (.str (Str.ofString "not "))) (varF 6)) (constF (.str (Str.ofString "below ; 1")))) (nilF))) (ixF (ofF (frzF (lstF (consF (binF subD (constF (.int 0)) (constF (.int 4))) (consF (binF subD (constF (.int 0)) (constF (.int 1))) (nilF)))))) (blF intD (consF (binF leD (binF addD (varF 6) (constF (.int 1))) (constF (.int 40))) (nilF))))))))))))))))))
@[irreducible] noncomputable def h_law : HF := runB g_law 8
theorem ok_law {P : Program} {w : World} {K : PySem.W.Frag} {mg : Str → Option Value} {base : Heap} {f : Addr} {fd : FuncData} (F : Fun K (Str.ofString "law") (Str.ofString "law") s_law f fd) (k__law_plain : Cal P w K mg base (Str.ofString "_law_plain") 4 4 h__law_plain) (k__law_words : Cal P w K mg base (Str.ofString "_law_words") 61 2 (h__law_words 60)) (k__law_draw : Cal P w K mg base (Str.ofString "_law_draw") 1 2 h__law_draw) (k__law_told : Cal P w K mg base (Str.ofString "_law_told") 9 1 h__law_told) (k__law_odd : Cal P w K mg base (Str.ofString "_law_odd") 2 3 h__law_odd) (m_range : mg (Str.ofString "range") = none) (m_list : mg (Str.ofString "list") = none) (m_len : mg (Str.ofString "len") = none) (m_int : mg (Str.ofString "int") = none) (q_InvalidWord : KExc P w K mg base "InvalidWord" "number" 1) (hXf : ∀ C, mg (Str.ofString "InvalidWord") = some (.ref C) → XfC K C) :
    FnOk P w K mg base CX0 62 f fd [Str.ofString "script"] (Sf K 1 h_law) := by
  unfold h_law
  exact fn_ok (N := n_law) (g := g_law) F sc_law fun cdv A outer s H E hr => xss_cons (xs_obj (ps_set (i := 1) sc_law.nd rfl (by first | exact Or.inl rfl | exact Or.inr rfl) (xl_lst (xa_cons (xe_int) (xa_cons (xe_int) (xa_cons (xe_frz (xl_list (pe_callTy call_list_of (by rfl) m_list (by decide +kernel) (pa_cons (xo_var 0) pa_nil)))) (xa_cons (xe_int) (xa_nil))))))))
      (xss_cons (xs_asg (ps_set (i := 2) sc_law.nd rfl (by first | exact Or.inl rfl | exact Or.inr rfl) (xe_own k__law_plain (hr.mono (by decide)) (by rfl) (xa_cons (xe_var 1) (xa_cons (xe_own k__law_draw (hr.mono (by decide)) (by rfl) (xa_cons (xe_var 1) (xa_cons (xe_int) (xa_nil))) (len_cons (len_cons (len_nil)))) (xa_cons (xe_int) (xa_cons (xe_int) (xa_nil))))) (len_cons (len_cons (len_cons (len_cons (len_nil))))))))
      (xss_cons (xs_asg (ps_set (i := 3) sc_law.nd rfl (by first | exact Or.inl rfl | exact Or.inr rfl) (xe_own k__law_words (hr.mono (by decide)) (by rfl) (xa_cons (xe_var 2) (xa_cons (xe_sub (xe_len (pe_callB call_len (by rfl) m_len PySem.boot_len (pa_cons (xo_var 2) pa_nil))) (xe_int)) (xa_nil))) (len_cons (len_cons (len_nil))))))
      (xss_cons (xs_if (xt_w (xw_or (xt_ne hr (xe_own k__law_told (hr.mono (by decide)) (by rfl) (xa_cons (xe_m1 (pe_join (xe_str) (xe_var 3)) ok_join) (xa_nil)) (len_cons (len_nil))) (xe_sub (xe_int) (xe_int))) (xw_or1 (xt_ne hr (xe_excf q_InvalidWord hXf (hr.mono (by decide)) (by rfl) (xe_int)) (xe_int))))) (xss_one (xs_ret (xo_of (xe_bl)))) (xss_nil))
      (xss_cons (xs_for (t := (.nm 4)) PassesOwn.never rfl (xi_rng1 (pi_range1 (by rfl) m_range (xa_cons (xe_int) (xa_nil)))) (pg_name (i := 4) sc_law.nd rfl (by first | exact Or.inl rfl | exact Or.inr rfl)) (xss_cons (xs_asg (ps_set (i := 7) sc_law.nd rfl (by first | exact Or.inl rfl | exact Or.inr rfl) (xe_own k__law_draw (hr.mono (by decide)) (by rfl) (xa_cons (xe_var 1) (xa_cons (xe_len (pe_callB call_len (by rfl) m_len PySem.boot_len (pa_cons (xo_var 3) pa_nil))) (xa_nil))) (len_cons (len_cons (len_nil))))))
      (xss_cons (xs_if (xt_ne hr (xe_own k__law_told (hr.mono (by decide)) (by rfl) (xa_cons (xe_m1 (pe_join (xe_str) (xe_add (xe_add (xe_sl (xo_var 3) (xb_none) (xb_some (xe_var 7))) (xe_frz (xl_lst (xa_cons (xe_own k__law_odd (hr.mono (by decide)) (by rfl) (xa_cons (xe_var 1) (xa_cons (xe_var 3) (xa_cons (xe_var 7) (xa_nil)))) (len_cons (len_cons (len_cons (len_nil))))) (xa_nil))))) (xe_sl (xo_var 3) (xb_some (xe_add (xe_var 7) (xe_int))) (xb_none)))) ok_join) (xa_nil)) (len_cons (len_nil))) (xe_var 7)) (xss_one (xs_ret (xo_of (xe_bl)))) (xss_nil))
      (xss_cons (xs_if (xt_w (xw_and (xt_gt (xe_var 7) (xe_int)) (xw_and1 (xt_ne hr (xe_own k__law_told (hr.mono (by decide)) (by rfl) (xa_cons (xe_m1 (pe_join (xe_str) (xe_sl (xo_var 3) (xb_none) (xb_some (xe_var 7)))) ok_join) (xa_nil)) (len_cons (len_nil))) (xe_var 7))))) (xss_one (xs_ret (xo_of (xe_bl)))) (xss_nil))
      (xss_one (xs_if (xt_ne hr (xe_own k__law_told (hr.mono (by decide)) (by rfl) (xa_cons (xe_m1 (pe_join (xe_str) (xe_add (xe_var 3) (xe_frz (xl_lst (xa_cons (xe_ix (xo_of (xe_frz (xl_lst (xa_cons (xe_str) (xa_cons (xe_str) (xa_cons (xe_str) (xa_cons (xe_str) (xa_nil)))))))) (xe_own k__law_draw (hr.mono (by decide)) (by rfl) (xa_cons (xe_var 1) (xa_cons (xe_int) (xa_nil))) (len_cons (len_cons (len_nil))))) (xa_nil)))))) ok_join) (xa_nil)) (len_cons (len_nil))) (xe_len (pe_callB call_len (by rfl) m_len PySem.boot_len (pa_cons (xo_var 3) pa_nil)))) (xss_one (xs_ret (xo_of (xe_bl)))) (xss_nil)))))))
      (xss_cons (xs_if (xt_w (xw_or (xt_ne hr (xe_own k__law_told (hr.mono (by decide)) (by rfl) (xa_cons (xe_str) (xa_nil)) (len_cons (len_nil))) (xe_int)) (xw_or (xt_ne hr (xe_own k__law_told (hr.mono (by decide)) (by rfl) (xa_cons (xe_str) (xa_nil)) (len_cons (len_nil))) (xe_int)) (xw_or (xt_ne hr (xe_own k__law_told (hr.mono (by decide)) (by rfl) (xa_cons (xe_str) (xa_nil)) (len_cons (len_nil))) (xe_int)) (xw_or1 (xt_ne hr (xe_own k__law_told (hr.mono (by decide)) (by rfl) (xa_cons (xe_str) (xa_nil)) (len_cons (len_nil))) (xe_int))))))) (xss_one (xs_ret (xo_of (xe_bl)))) (xss_nil))
      (xss_cons (xs_if (xt_w (xw_or (xt_ne hr (xe_own k__law_told (hr.mono (by decide)) (by rfl) (xa_cons (xe_str) (xa_nil)) (len_cons (len_nil))) (xe_int)) (xw_or (xt_ne hr (xe_own k__law_told (hr.mono (by decide)) (by rfl) (xa_cons (xe_str) (xa_nil)) (len_cons (len_nil))) (xe_int)) (xw_or (xt_ne hr (xe_own k__law_told (hr.mono (by decide)) (by rfl) (xa_cons (xe_str) (xa_nil)) (len_cons (len_nil))) (xe_int)) (xw_or1 (xt_ne hr (xe_own k__law_told (hr.mono (by decide)) (by rfl) (xa_cons (xe_str) (xa_nil)) (len_cons (len_nil))) (xe_int))))))) (xss_one (xs_ret (xo_of (xe_bl)))) (xss_nil))
      (xss_cons (xs_if (xt_w (xw_or (xt_ne hr (xe_own k__law_told (hr.mono (by decide)) (by rfl) (xa_cons (xe_str) (xa_nil)) (len_cons (len_nil))) (xe_int)) (xw_or (xt_ne hr (xe_own k__law_told (hr.mono (by decide)) (by rfl) (xa_cons (xe_str) (xa_nil)) (len_cons (len_nil))) (xe_int)) (xw_or1 (xt_ne hr (xe_own k__law_told (hr.mono (by decide)) (by rfl) (xa_cons (xe_str) (xa_nil)) (len_cons (len_nil))) (xe_int)))))) (xss_one (xs_ret (xo_of (xe_bl)))) (xss_nil))
      (xss_cons (xs_if (xt_w (xw_or (xt_ne hr (xe_own k__law_told (hr.mono (by decide)) (by rfl) (xa_cons (xe_add (xe_mulS (xe_str) (xe_int)) (xe_str)) (xa_nil)) (len_cons (len_nil))) (xe_int)) (xw_or1 (xt_ne hr (xe_own k__law_told (hr.mono (by decide)) (by rfl) (xa_cons (xe_add (xe_add (xe_mulS (xe_str) (xe_int)) (xe_mulS (xe_str) (xe_int))) (xe_str)) (xa_nil)) (len_cons (len_nil))) (xe_add (xe_add (xe_int) (xe_int)) (xe_int)))))) (xss_one (xs_ret (xo_of (xe_bl)))) (xss_nil))
      (xss_cons (xs_for (t := (.nm 5)) PassesOwn.never rfl (xi_new (xl_lst (xa_cons (xe_int) (xa_cons (xe_int) (xa_cons (xe_int) (xa_nil)))))) (pg_name (i := 5) sc_law.nd rfl (by first | exact Or.inl rfl | exact Or.inr rfl)) (xss_one (xs_if (xt_ne hr (xe_own k__law_told (hr.mono (by decide)) (by rfl) (xa_cons (xe_add (xe_add (xe_mulS (xe_str) (xe_sub (xe_var 5) (xe_int))) (xe_mulS (xe_str) (xe_sub (xe_var 5) (xe_int)))) (xe_str)) (xa_nil)) (len_cons (len_nil))) (xe_ix (xo_of (xe_frz (xl_lst (xa_cons (xe_sub (xe_int) (xe_int)) (xa_cons (xe_sub (xe_int) (xe_int)) (xa_nil)))))) (xe_bl_ (pe_callTy (call_int1) (by rfl) m_int (by decide +kernel) (xa_cons (xe_eq hr (xe_var 5) (xe_int)) (xa_nil))) ok_int))) (xss_one (xs_ret (xo_of (xe_bl)))) (xss_nil))))
      (xss_cons (xs_if (xt_w (xw_or (xt_ne hr (xe_own k__law_told (hr.mono (by decide)) (by rfl) (xa_cons (xe_str) (xa_nil)) (len_cons (len_nil))) (xe_int)) (xw_or (xt_ne hr (xe_own k__law_told (hr.mono (by decide)) (by rfl) (xa_cons (xe_str) (xa_nil)) (len_cons (len_nil))) (xe_int)) (xw_or (xt_ne hr (xe_own k__law_told (hr.mono (by decide)) (by rfl) (xa_cons (xe_str) (xa_nil)) (len_cons (len_nil))) (xe_int)) (xw_or1 (xt_ne hr (xe_own k__law_told (hr.mono (by decide)) (by rfl) (xa_cons (xe_str) (xa_nil)) (len_cons (len_nil))) (xe_int))))))) (xss_one (xs_ret (xo_of (xe_bl)))) (xss_nil))
      (xss_cons (xs_asg (ps_set (i := 6) sc_law.nd rfl (by first | exact Or.inl rfl | exact Or.inr rfl) (xe_add (xe_int) (xe_own k__law_draw (hr.mono (by decide)) (by rfl) (xa_cons (xe_var 1) (xa_cons (xe_int) (xa_nil))) (len_cons (len_cons (len_nil)))))))
      (xss_one (xs_ret (xo_of (xe_eq hr (xe_own k__law_told (hr.mono (by decide)) (by rfl) (xa_cons (xe_add (xe_mulS (xe_str) (xe_var 6)) (xe_str)) (xa_nil)) (len_cons (len_nil))) (xe_ix (xo_of (xe_frz (xl_lst (xa_cons (xe_sub (xe_int) (xe_int)) (xa_cons (xe_sub (xe_int) (xe_int)) (xa_nil)))))) (xe_bl_ (pe_callTy (call_int1) (by rfl) m_int (by decide +kernel) (xa_cons (xe_le (xe_add (xe_var 6) (xe_int)) (xe_int)) (xa_nil))) ok_int)))))))))))))))))
end K20
namespace K20
open Fx LC PM K1 K19
open PySem (Str PyData)
/-! ### reading that ends at a word -/
def Le {α : Type} (a b : Option α) : Prop := ∀ v, b = some v → a = some v
theorem Le.of {α : Type} {a b : Option α} (h : a = b) : Le a b := fun v hv => h.trans hv
theorem Le.trans {α : Type} {a b c : Option α} (h : Le a b) (g : Le b c) : Le a c := fun v hv => h v (g v hv)
theorem Le.rfl {α : Type} {a : Option α} : Le a a := fun _ h => h
theorem whX_eq1 (c : FT) (b : FS) (cx : FXE) (bx : FXS) (ρ : Rho) (T : Fx.Tm) : whX c b cx bx ρ T = match c ρ T with
    | none => liX cx ρ T
    | some (false, _) => none
    | some (true, T1) => match b ρ T1 with
      | some (.nx ρ2, T2) => whX c b cx bx ρ2 T2
      | some (.ct ρ2, T2) => whX c b cx bx ρ2 T2
      | some _ => none
      | none => bx ρ T1 := by
  apply Option.ext
  intro r
  constructor
  · intro h
    obtain ⟨n, hn⟩ := whX_eq h
    cases n with
    | zero => cases hn
    | succ m =>
      unfold whXL at hn
      generalize c ρ T = q1 at hn ⊢
      match q1, hn with
      | none, hn => exact hn
      | some (false, _), hn => exact hn
      | some (true, T1), hn =>
        dsimp only at hn ⊢
        generalize b ρ T1 = q2 at hn ⊢
        match q2, hn with
        | none, hn => exact hn
        | some (.nx ρ2, T2), hn => exact whX_of hn
        | some (.ct ρ2, T2), hn => exact whX_of hn
        | some (.bk ρ2, T2), hn => exact hn
        | some (.rt d, T2), hn => exact hn
  · intro h
    generalize q1e : c ρ T = q1 at h
    match q1, h with
    | none, h => exact whX_of (n := 1) (by unfold whXL; rw [q1e]; exact h)
    | some (false, _), h => exact absurd h (by simp)
    | some (true, T1), h =>
      dsimp only at h
      generalize q2e : b ρ T1 = q2 at h
      match q2, h with
      | none, h => exact whX_of (n := 1) (by unfold whXL; rw [q1e]; dsimp only; rw [q2e]; exact h)
      | some (.nx ρ2, T2), h =>
        obtain ⟨n, hn⟩ := whX_eq h
        exact whX_of (n := n + 1) (by unfold whXL; rw [q1e]; dsimp only; rw [q2e]; exact hn)
      | some (.ct ρ2, T2), h =>
        obtain ⟨n, hn⟩ := whX_eq h
        exact whX_of (n := n + 1) (by unfold whXL; rw [q1e]; dsimp only; rw [q2e]; exact hn)
      | some (.bk ρ2, T2), h => exact absurd h (by simp)
      | some (.rt d, T2), h => exact absurd h (by simp)
noncomputable def outBX : FXS := seqX (asgF 2 (methF "Reading" "next_word" h_Reading_next_word (varF 0) (nilF))) (liX (methX "Reading" "next_word" x_Reading_next_word (varF 0) (nilF)))
      (seqX (ifS (testF (inTF tb_NAMED (varF 2))) (seqS (dropF (appOF (varF 1) (tupF (consF (varF 2) (consF (objE (lstF (nilF))) (nilF))))))
      (seqS (fldA ["Reading"] "at" (fun i j => i + j) (varF 0) (constF (.int 1)))
      (cntS))) (nilS)) (noX)
      (seqX (dropF (appOF (fldF ["Reading"] "lines" (varF 0)) (methF "Reading" "read_comparison" h_Reading_read_comparison (varF 0) (consF (varF 2) (nilF))))) (liX (appX (fldF ["Reading"] "lines" (varF 0)) (methX "Reading" "read_comparison" x_Reading_read_comparison (varF 0) (consF (varF 2) (nilF)))))
      (seqX (whS (testF (binF gtD (lenF (varO 1)) (constF (.int 0)))) (seqS (unpF (.tp [2, 3]) (ixF (varO 1) (negF (constF (.int 1)))))
      (seqS (dropF (appOF (varF 3) (binF subD (lenF (ofF (fldF ["Reading"] "lines" (varF 0)))) (constF (.int 1)))))
      (seqS (ifS (testF (binF ltD (lenF (varO 3)) (ixTF tb_NAMED (varF 2)))) (brkS) (nilS))
      (seqS (dropF (popF (varF 1)))
      (dropF (appOF (fldF ["Reading"] "lines" (varF 0)) (binF addD (tupF (consF (varF 2) (nilF))) (tofF (varO 3)))))))))) (noX)
      (seqX (ifS (testF (binF eqD (lenF (varO 1)) (constF (.int 0)))) (retF (ofF (tofF (ofF (fldF ["Reading"] "lines" (varF 0)))))) (nilS)) (noX)
      (noX)))))
theorem readx_eq : gx_Reading_read = seqX (objF 1 (lstF (nilF))) (noX) (seqX (whS (testF (constF (.bl true))) outB) (whX (testF (constF (.bl true))) outB (fun _ _ => none) outBX) (noX)) := rfl
noncomputable def outX : FXS := whX (testF (constF (.bl true))) outB (fun _ _ => none) outBX
noncomputable def contX : FXS := fun ρ T => match seqS (whS innerC innerB) finS ρ T with
      | some (.nx ρ2, T2) => outX ρ2 T2
      | some (.ct ρ2, T2) => outX ρ2 T2
      | _ => none
theorem outx_unf (ρ : Rho) (T : Fx.Tm) : outX ρ T = match outB ρ T with
      | some (.nx ρ2, T2) => outX ρ2 T2
      | some (.ct ρ2, T2) => outX ρ2 T2
      | some _ => none
      | none => outBX ρ T := by
  show whX (testF (constF (.bl true))) outB (fun _ _ => none) outBX ρ T = _
  rw [whX_eq1]
  rfl
local macro_rules | `(tactic| walk_at "wx") => `(tactic| simp only [seqS, nilS, brkS, cntS, asgF, retF, ifS, testF, binF, varF, varO, constF, ofF, bindF_some, consF, nilF, callF, lstF, tupF, tofF, unpF, negF, setN, tgD, ixF, lenF, dropF, fldF, inTF, ixTF, iiF_int, ctt_eq, eqD_int, addD_int,
  List.map_cons, List.map_nil, List.cons_append, List.nil_append, List.length_cons, List.length_nil, List.getElem?_cons_zero, List.getElem?_cons_succ, List.set_cons_zero, List.set_cons_succ, Option.map_some, Option.isSome_none, Option.isSome_some, if_true, Nat.reduceAdd, Nat.reduceSub, Bool.false_eq_true, if_false, *])
section
variable {T : Fx.Tm} {r l b p : Nat} {ws : List Str} {ls : List Line} {B : List D}
/-- a comparison is read -/
theorem outx_atom (h : At T r l b ws p ls B) {w : Wd} (hw : ws[p]? = some w.str) (ht : tb_NAMED.lookup w.str = none) {x : Line} {q : Nat} (hc : h_Reading_read_comparison [.ob r, .str w.str] T = some (x.d, T.set r (RO ws q l))) (hl : ls.length < 100000) (x2 x3 : Sl) :
    Le (outX [.dat (.ob r), .dat (.ob b), x2, x3] T) (contX [.dat (.ob r), .dat (.ob b), .dat (.str w.str), x3] ((T.set r (RO ws q l)).set l (.lst ((ls ++ [x]).map Line.d)))) ∧ At ((T.set r (RO ws q l)).set l (.lst ((ls ++ [x]).map Line.d))) r l b ws q (ls ++ [x]) B := by
  have e1 := next_run h.hr hw
  have m1 := mth_r (m := "next_word") (h := h_Reading_next_word) (fa := nilF) (ρ := [.dat (.ob r), .dat (.ob b), x2, x3]) h.hr rfl rfl
  have m2 := mth_r (m := "read_comparison") (h := h_Reading_read_comparison) (fa := consF (varF 2) (nilF)) (ρ := [.dat (.ob r), .dat (.ob b), .dat (.str w.str), x3]) (ds := [.str w.str]) h.hr rfl rfl
  have e2 : fldF ["Reading"] "lines" (varF 0) [.dat (.ob r), .dat (.ob b), .dat (.str w.str), x3] T = some (.ob l, T) := by
    have := f_lines h.hr
    unfold fldF
    simp only [varF, List.getElem?_cons_zero, bindF_some, this, Option.map_some]
  have e3 := app_of (fo := fldF ["Reading"] "lines" (varF 0)) (f := methF "Reading" "read_comparison" h_Reading_read_comparison (varF 0) (consF (varF 2) (nilF))) (ρ := [.dat (.ob r), .dat (.ob b), .dat (.str w.str), x3]) e2 (m2.trans hc) h.hl (by rw [ne_set h.rl]; exact h.hl) (by rw [List.length_map]; omega)
  have e4 : ls.map Line.d ++ [x.d] = (ls ++ [x]).map Line.d := map_snoc ls x
  rw [e4] at e3
  constructor
  · rw [outx_unf]
    have : outB [.dat (.ob r), .dat (.ob b), x2, x3] T = seqS (whS innerC innerB) finS [.dat (.ob r), .dat (.ob b), .dat (.str w.str), x3] ((T.set r (RO ws q l)).set l (.lst ((ls ++ [x]).map Line.d))) := by
      unfold outB
      generalize seqS (whS innerC innerB) finS = K at *
      generalize dropF (appOF (fldF ["Reading"] "lines" (varF 0)) (methF "Reading" "read_comparison" h_Reading_read_comparison (varF 0) (consF (varF 2) (nilF)))) = Q at *
      clear e2 e4 m2 hc hw h
      walk_at "wx"
    rw [this]
    intro v hv
    unfold contX at hv
    generalize seqS (whS innerC innerB) finS [.dat (.ob r), .dat (.ob b), .dat (.str w.str), x3] ((T.set r (RO ws q l)).set l (.lst ((ls ++ [x]).map Line.d))) = S at *
    match S, hv with
    | some (.nx ρ2, T2), hv => exact hv
    | some (.ct ρ2, T2), hv => exact hv
  · have hr : ((T.set r (RO ws q l)).set l (.lst ((ls ++ [x]).map Line.d)))[r]? = some (RO ws q l) := by rw [ne_set h.rl.symm]; exact set_at h.hr
    exact ⟨hr, set_at (x := .lst (ls.map Line.d)) (by rw [ne_set h.rl]; exact h.hl), by rw [ne_set h.lb, ne_set h.rb]; exact h.hb, h.rl, h.rb, h.lb⟩
/-- a line that names others is begun -/
theorem outx_push (h : At T r l b ws p ls B) {w : Wd} (hw : ws[p]? = some w.str) {m : Int} (ht : tb_NAMED.lookup w.str = some m) (hB : B.length < 100000) (x2 x3 : Sl) :
    ∃ T', outX [.dat (.ob r), .dat (.ob b), x2, x3] T = outX [.dat (.ob r), .dat (.ob b), .dat (.str w.str), x3] T' ∧ At T' r l b ws (p + 1) ls (B ++ [.tup [.str w.str, .ob T.length]]) ∧ T'[T.length]? = some (.lst []) ∧ T'.length = T.length + 1 ∧ (∀ j, j < T.length → j ≠ r → j ≠ l → j ≠ b → T'[j]? = T[j]?) := by
  have rlt := (List.getElem?_eq_some_iff.mp h.hr).1
  have llt := (List.getElem?_eq_some_iff.mp h.hl).1
  have blt := (List.getElem?_eq_some_iff.mp h.hb).1
  have ap : ∀ j, j < T.length → (T ++ [MO.lst []])[j]? = T[j]? := fun j hj => List.getElem?_append_left hj
  have e1 := next_run h.hr hw
  have m1 := mth_r (m := "next_word") (h := h_Reading_next_word) (fa := nilF) (ρ := [.dat (.ob r), .dat (.ob b), x2, x3]) h.hr rfl rfl
  have l0 : (0 : Nat) ≤ PySem.sizeLine := Nat.zero_le _
  have l2 : (0 + 1 + 1 : Nat) ≤ PySem.sizeLine := by rw [line_eq]; omega
  have e2 : tupF (consF (varF 2) (consF (objE (lstF (nilF))) (nilF))) [.dat (.ob r), .dat (.ob b), .dat (.str w.str), x3] T = some (.tup [.str w.str, .ob T.length], T ++ [.lst []]) := by
    simp only [tupF, consF, nilF, varF, objE, lstF, List.getElem?_cons_zero, List.getElem?_cons_succ, bindF_some, List.length_cons, List.length_nil, l0, l2, if_true]
  have e3 := app_of (fo := varF 1) (f := tupF (consF (varF 2) (consF (objE (lstF (nilF))) (nilF)))) (ρ := [.dat (.ob r), .dat (.ob b), .dat (.str w.str), x3]) rfl e2 h.hb (by rw [ap b blt]; exact h.hb) (by omega)
  have hr1 : ((T ++ [MO.lst []]).set b (.lst (B ++ [.tup [.str w.str, .ob T.length]])))[r]? = some (RO ws p l) := by rw [ne_set h.rb.symm, ap r rlt]; exact h.hr
  have e4 := inc_at hr1 (ρ := [.dat (.ob r), .dat (.ob b), .dat (.str w.str), x3]) rfl
  refine ⟨((T ++ [MO.lst []]).set b (.lst (B ++ [.tup [.str w.str, .ob T.length]]))).set r (RO ws (p + 1) l), ?_, ⟨set_at hr1, ?_, ?_, h.rl, h.rb, h.lb⟩, ?_, ?_, fun j hj n1 n2 n3 => ?_⟩
  · rw [outx_unf]
    have ob : outB [.dat (.ob r), .dat (.ob b), x2, x3] T = some (.ct [.dat (.ob r), .dat (.ob b), .dat (.str w.str), x3], ((T ++ [MO.lst []]).set b (.lst (B ++ [.tup [.str w.str, .ob T.length]]))).set r (RO ws (p + 1) l)) := by
      unfold outB
      generalize seqS (dropF (appOF (fldF ["Reading"] "lines" (varF 0)) (methF "Reading" "read_comparison" h_Reading_read_comparison (varF 0) (consF (varF 2) (nilF))))) (seqS (whS innerC innerB) finS) = K at *
      generalize dropF (appOF (varF 1) (tupF (consF (varF 2) (consF (objE (lstF (nilF))) (nilF))))) = Q at *
      clear e2 hr1 ap hw h l0 l2 rlt llt blt hB
      walk_at "wx"
    rw [ob]
  · rw [ne_set h.rl, ne_set h.lb.symm, ap l llt]
    exact h.hl
  · rw [ne_set h.rb]
    exact set_at (x := .lst B) (by rw [ap b blt]; exact h.hb)
  · rw [ne_set (by omega), ne_set (by omega), List.getElem?_append_right (Nat.le_refl _), Nat.sub_self]
    rfl
  · rw [List.length_set, List.length_set, List.length_append]
    rfl
  · rw [ne_set (Ne.symm n1), ne_set (Ne.symm n3), ap j hj]
/-- a named line is complete: the frame goes, its line is written -/
theorem inx_pop {w : Wd} {k : Nat} {ids : List D} (h : At T r l b ws p ls (B ++ [.tup [.str w.str, .ob k]])) (hk : T[k]? = some (.lst ids)) (kr : k ≠ r) (kl : k ≠ l) (kb : k ≠ b) {m : Int} (ht : tb_NAMED.lookup w.str = some m) (hm : m ≤ (ids.length : Int) + 1) (hi : ids.length < 100) (hl : ls.length < 100000) (x2 x3 : Sl) :
    ∃ T', contX [.dat (.ob r), .dat (.ob b), x2, x3] T = contX [.dat (.ob r), .dat (.ob b), .dat (.str w.str), .dat (.ob k)] T' ∧ T'[r]? = some (RO ws p l) ∧ T'[l]? = some (.lst (ls.map Line.d ++ [.tup (.str w.str :: (ids ++ [.int ((ls.length : Int) - 1)]))])) ∧ T'[b]? = some (.lst B) ∧ T'.length = T.length ∧ (∀ j, j ≠ r → j ≠ l → j ≠ b → j ≠ k → T'[j]? = T[j]?) := by
  have e1 := ixD_lst T (B ++ [.tup [.str w.str, .ob k]]) (-1)
  have ib : ixD T (.val (.ob b)) (.int (-1)) = some (.tup [.str w.str, .ob k]) := by
    unfold ixD
    rw [seqD_ob h.hb]
    exact atI_last _ _
  have lb := lenD_ob h.hb
  have d1 : decide ((0 : Int) < (((B ++ [D.tup [.str w.str, .ob k]]).length : Nat) : Int)) = true := decide_eq_true (by have : (B ++ [D.tup [.str w.str, .ob k]]).length = B.length + 1 := List.length_append; omega)
  have f1 := f_lines h.hr
  have ll := lenD_ob h.hl
  have a1 := app_of (fo := varF 3) (f := binF subD (lenF (ofF (fldF ["Reading"] "lines" (varF 0)))) (constF (.int 1))) (ρ := [.dat (.ob r), .dat (.ob b), .dat (.str w.str), .dat (.ob k)]) (T := T) (T1 := T) (T2 := T) (k := k) (d := .int ((ls.length : Int) - 1)) rfl (by
    simp only [binF, lenF, ofF, fldF, varF, constF, bindF_some, List.getElem?_cons_zero, f1, Option.map_some, ll, iiF_int, ctt_eq, if_true, List.length_map]) hk hk (by omega)
  have kb' : (T.set k (.lst (ids ++ [.int ((ls.length : Int) - 1)])))[b]? = some (.lst (B ++ [.tup [.str w.str, .ob k]])) := by rw [ne_set kb]; exact h.hb
  have kr' : (T.set k (.lst (ids ++ [.int ((ls.length : Int) - 1)])))[r]? = some (RO ws p l) := by rw [ne_set kr]; exact h.hr
  have kl' : (T.set k (.lst (ids ++ [.int ((ls.length : Int) - 1)])))[l]? = some (.lst (ls.map Line.d)) := by rw [ne_set kl]; exact h.hl
  have kk' : (T.set k (.lst (ids ++ [.int ((ls.length : Int) - 1)])))[k]? = some (.lst (ids ++ [.int ((ls.length : Int) - 1)])) := set_at hk
  have lk := lenD_ob kk'
  have d2 : decide ((((ids ++ [D.int ((ls.length : Int) - 1)]).length : Nat) : Int) < m) = false := decide_eq_false (by rw [List.length_append]; simp; omega)
  have p1 : popF (varF 1) [.dat (.ob r), .dat (.ob b), .dat (.str w.str), .dat (.ob k)] (T.set k (.lst (ids ++ [.int ((ls.length : Int) - 1)]))) = some (.tup [.str w.str, .ob k], (T.set k (.lst (ids ++ [.int ((ls.length : Int) - 1)]))).set b (.lst B)) := by
    unfold popF
    simp only [varF, List.getElem?_cons_zero, List.getElem?_cons_succ, bindF_some, lstO_ob kb', List.dropLast_concat]
    rw [show (B ++ [D.tup [.str w.str, .ob k]])[(B ++ [D.tup [.str w.str, .ob k]]).length - 1]? = some (.tup [.str w.str, .ob k]) by simp]
  generalize hT1 : T.set k (.lst (ids ++ [.int ((ls.length : Int) - 1)])) = T1 at *
  have kr2 : (T1.set b (.lst B))[r]? = some (RO ws p l) := by rw [ne_set h.rb.symm]; exact kr'
  have kl2 : (T1.set b (.lst B))[l]? = some (.lst (ls.map Line.d)) := by rw [ne_set h.lb.symm]; exact kl'
  have kk2 : (T1.set b (.lst B))[k]? = some (.lst (ids ++ [.int ((ls.length : Int) - 1)])) := by rw [ne_set (Ne.symm kb)]; exact kk'
  have f2 := f_lines kr2
  have s2 := seqD_ob kk2
  have l1 : (0 + 1 : Nat) ≤ PySem.sizeLine := by rw [line_eq]; omega
  have ad : addD (.tup [.str w.str]) (.tup (ids ++ [.int ((ls.length : Int) - 1)])) = some (.tup (.str w.str :: (ids ++ [.int ((ls.length : Int) - 1)]))) := by
    rw [addD_tup, if_pos (by rw [line_eq, List.length_append]; simp; omega)]
    rfl
  have a2 := app_of (fo := fldF ["Reading"] "lines" (varF 0)) (f := binF addD (tupF (consF (varF 2) (nilF))) (tofF (varO 3))) (ρ := [.dat (.ob r), .dat (.ob b), .dat (.str w.str), .dat (.ob k)]) (T := T1.set b (.lst B)) (T1 := T1.set b (.lst B)) (T2 := T1.set b (.lst B)) (k := l) (d := .tup (.str w.str :: (ids ++ [.int ((ls.length : Int) - 1)]))) (by
    simp only [fldF, varF, bindF_some, List.getElem?_cons_zero, f2, Option.map_some]) (by
    simp only [binF, tupF, consF, nilF, tofF, varO, varF, bindF_some, List.getElem?_cons_zero, List.getElem?_cons_succ, s2, l1, List.length_cons, List.length_nil, if_true, ad]) kl2 kl2 (by rw [List.length_map]; omega)
  refine ⟨(T1.set b (.lst B)).set l (.lst (ls.map Line.d ++ [.tup (.str w.str :: (ids ++ [.int ((ls.length : Int) - 1)]))])), ?_, by rw [ne_set h.rl.symm]; exact kr2, set_at kl2, by rw [ne_set h.lb]; exact set_at kb', by rw [List.length_set, List.length_set, ← hT1, List.length_set], fun j n1 n2 n3 n4 => by rw [ne_set (Ne.symm n2), ne_set (Ne.symm n3), ← hT1, ne_set (Ne.symm n4)]⟩
  have key : whS innerC innerB [.dat (.ob r), .dat (.ob b), x2, x3] T = whS innerC innerB [.dat (.ob r), .dat (.ob b), .dat (.str w.str), .dat (.ob k)] ((T1.set b (.lst B)).set l (.lst (ls.map Line.d ++ [.tup (.str w.str :: (ids ++ [.int ((ls.length : Int) - 1)]))]))) := by
    rw [whS_eq1]
    have c1 : innerC [.dat (.ob r), .dat (.ob b), x2, x3] T = some (true, T) := by
      unfold innerC
      simp only [testF, binF, lenF, varO, constF, bindF_some, List.getElem?_cons_zero, List.getElem?_cons_succ, lb, Option.map_some, iiF_int, ctt_eq, if_true, d1]
    have b1 : innerB [.dat (.ob r), .dat (.ob b), x2, x3] T = some (.nx [.dat (.ob r), .dat (.ob b), .dat (.str w.str), .dat (.ob k)], (T1.set b (.lst B)).set l (.lst (ls.map Line.d ++ [.tup (.str w.str :: (ids ++ [.int ((ls.length : Int) - 1)]))]))) := by
      unfold innerB
      generalize dropF (appOF (varF 3) (binF subD (lenF (ofF (fldF ["Reading"] "lines" (varF 0)))) (constF (.int 1)))) = Q1 at *
      generalize dropF (appOF (fldF ["Reading"] "lines" (varF 0)) (binF addD (tupF (consF (varF 2) (nilF))) (tofF (varO 3)))) = Q2 at *
      clear c1 e1 f1 ll kk' kr' kl' kr2 kl2 kk2 f2 s2 ad hk kr kl kb hm hi hl h lb d1
      walk_at "wx"
    rw [c1, bindF_some, if_pos rfl, b1]
  unfold contX seqS
  rw [key]
/-- it is not complete -/
theorem inx_brk {w : Wd} {k : Nat} {ids : List D} (h : At T r l b ws p ls (B ++ [.tup [.str w.str, .ob k]])) (hk : T[k]? = some (.lst ids)) (kr : k ≠ r) (kl : k ≠ l) (kb : k ≠ b) {m : Int} (ht : tb_NAMED.lookup w.str = some m) (hm : (ids.length : Int) + 1 < m) (hi : ids.length < 100) (hl : ls.length < 100000) (x2 x3 : Sl) :
    contX [.dat (.ob r), .dat (.ob b), x2, x3] T = outX [.dat (.ob r), .dat (.ob b), .dat (.str w.str), .dat (.ob k)] (T.set k (.lst (ids ++ [.int ((ls.length : Int) - 1)]))) := by
  have ib : ixD T (.val (.ob b)) (.int (-1)) = some (.tup [.str w.str, .ob k]) := by
    unfold ixD
    rw [seqD_ob h.hb]
    exact atI_last _ _
  have lb := lenD_ob h.hb
  have d1 : decide ((0 : Int) < (((B ++ [D.tup [.str w.str, .ob k]]).length : Nat) : Int)) = true := decide_eq_true (by have : (B ++ [D.tup [.str w.str, .ob k]]).length = B.length + 1 := List.length_append; omega)
  have d3 : decide ((((B ++ [D.tup [.str w.str, .ob k]]).length : Nat) : Int) = 0) = false := decide_eq_false (by rw [List.length_append]; simp; omega)
  have f1 := f_lines h.hr
  have ll := lenD_ob h.hl
  have a1 := app_of (fo := varF 3) (f := binF subD (lenF (ofF (fldF ["Reading"] "lines" (varF 0)))) (constF (.int 1))) (ρ := [.dat (.ob r), .dat (.ob b), .dat (.str w.str), .dat (.ob k)]) (T := T) (T1 := T) (T2 := T) (k := k) (d := .int ((ls.length : Int) - 1)) rfl (by
    simp only [binF, lenF, ofF, fldF, varF, constF, bindF_some, List.getElem?_cons_zero, f1, Option.map_some, ll, iiF_int, ctt_eq, if_true, List.length_map]) hk hk (by omega)
  have kb' : (T.set k (.lst (ids ++ [.int ((ls.length : Int) - 1)])))[b]? = some (.lst (B ++ [.tup [.str w.str, .ob k]])) := by rw [ne_set kb]; exact h.hb
  have kk' : (T.set k (.lst (ids ++ [.int ((ls.length : Int) - 1)])))[k]? = some (.lst (ids ++ [.int ((ls.length : Int) - 1)])) := set_at hk
  have lk := lenD_ob kk'
  have lb2 := lenD_ob kb'
  have d2 : decide ((((ids ++ [D.int ((ls.length : Int) - 1)]).length : Nat) : Int) < m) = true := decide_eq_true (by rw [List.length_append]; simp; omega)
  generalize T.set k (.lst (ids ++ [.int ((ls.length : Int) - 1)])) = T1 at *
  have c1 : innerC [.dat (.ob r), .dat (.ob b), x2, x3] T = some (true, T) := by
    unfold innerC
    simp only [testF, binF, lenF, varO, constF, bindF_some, List.getElem?_cons_zero, List.getElem?_cons_succ, lb, Option.map_some, iiF_int, ctt_eq, if_true, d1]
  have b1 : innerB [.dat (.ob r), .dat (.ob b), x2, x3] T = some (.bk [.dat (.ob r), .dat (.ob b), .dat (.str w.str), .dat (.ob k)], T1) := by
    unfold innerB
    generalize dropF (appOF (varF 3) (binF subD (lenF (ofF (fldF ["Reading"] "lines" (varF 0)))) (constF (.int 1)))) = Q1 at *
    clear c1 f1 ll kk' kb' hk kr kl kb hm hi hl h lb d1 lb2 d3
    walk_at "wx"
  have key : whS innerC innerB [.dat (.ob r), .dat (.ob b), x2, x3] T = some (.nx [.dat (.ob r), .dat (.ob b), .dat (.str w.str), .dat (.ob k)], T1) := by
    rw [whS_eq1, c1, bindF_some, if_pos rfl, b1]
  have fs : finS [.dat (.ob r), .dat (.ob b), .dat (.str w.str), .dat (.ob k)] T1 = some (.nx [.dat (.ob r), .dat (.ob b), .dat (.str w.str), .dat (.ob k)], T1) := by
    unfold finS
    simp only [ifS, nilS, testF, binF, lenF, varO, constF, bindF_some, List.getElem?_cons_zero, List.getElem?_cons_succ, lb2, Option.map_some, eqD_int, d3, Bool.false_eq_true, if_false]
  unfold contX seqS
  rw [key]
  simp only
  rw [fs]
end
/-- one written saying is read: behind it stands the reader where a line was just written -/
def ReadsX (r l b : Nat) (ws : List Str) (t : Tr) : Prop := ∀ (p : Nat) (ls : List Line) (B : List D) (T : Fx.Tm) (x2 x3 : Sl) (rest : List Str), At T r l b ws p ls B → ws.drop p = t.words ++ rest → t.ok → ls.length + t.size < 10000 → B.length + t.size < 10000 →
  ∃ T' y2 y3, At T' r l b ws (p + t.words.length) (ls ++ t.spread ls.length) B ∧ Keep T T' r l b ∧ Le (outX [.dat (.ob r), .dat (.ob b), x2, x3] T) (contX [.dat (.ob r), .dat (.ob b), y2, y3] T')
section
variable {r l b : Nat} {ws : List Str}
theorem readsx_one {t : Tr} (ht : ReadsX r l b ws t) {w : Wd} (hw : tb_NAMED.lookup w.str = some 1) {p : Nat} {ls : List Line} {B : List D} {T : Fx.Tm} (x2 x3 : Sl) {rest : List Str} (h : At T r l b ws p ls B) (hd : ws.drop p = w.str :: (t.words ++ rest)) (ok : t.ok) (h1 : ls.length + (t.size + 1) < 10000) (h2 : B.length + (t.size + 1) < 10000)
    {z : Line} (hz : z.d = D.tup (.str w.str :: ([] ++ [.int ((ls.length + t.size : Nat) - 1 : Int)]))) :
    ∃ T' y2 y3, At T' r l b ws (p + (t.words.length + 1)) (ls ++ (t.spread ls.length ++ [z])) B ∧ Keep T T' r l b ∧ Le (outX [.dat (.ob r), .dat (.ob b), x2, x3] T) (contX [.dat (.ob r), .dat (.ob b), y2, y3] T') := by
  have rlt := (List.getElem?_eq_some_iff.mp h.hr).1
  have llt := (List.getElem?_eq_some_iff.mp h.hl).1
  have blt := (List.getElem?_eq_some_iff.mp h.hb).1
  obtain ⟨w1, w2⟩ := dr hd
  obtain ⟨T1, e1, A1, k1, len1, fr1⟩ := outx_push h w1 hw (by omega) x2 x3
  obtain ⟨T2, y2, y3, A2, ⟨le2, fr2⟩, e2⟩ := ht (p + 1) ls (B ++ [.tup [.str w.str, .ob T.length]]) T1 (.dat (.str w.str)) x3 rest A1 w2 ok (by omega) (by rw [List.length_append]; simp; omega)
  have k2 : T2[T.length]? = some (.lst []) := by rw [fr2 _ (by omega) (by omega) (by omega) (by omega)]; exact k1
  have sl := t.spread_len ls.length
  obtain ⟨T3, e3, a1, a2, a3, len3, fr3⟩ := inx_pop A2 k2 (by omega) (by omega) (by omega) hw (by simp) (by simp) (by rw [List.length_append, sl]; omega) y2 y3
  refine ⟨T3, _, _, ⟨?_, ?_, a3, h.rl, h.rb, h.lb⟩, ⟨by omega, fun j hj n1 n2 n3 => ?_⟩, (Le.of e1).trans (e2.trans (Le.of e3))⟩
  · rw [show p + (t.words.length + 1) = p + 1 + t.words.length by omega]
    exact a1
  · rw [a2, List.length_append, sl, ← List.append_assoc, List.map_append (l₂ := [z])]
    show some (MO.lst (_ ++ [_])) = some (MO.lst (_ ++ [z.d]))
    rw [hz]
  · rw [fr3 j n1 n2 n3 (by omega), fr2 j (by omega) n1 n2 n3, fr1 j hj n1 n2 n3]
theorem readsx : ∀ t : Tr, ReadsX r l b ws t
  | .be ns c, p, ls, B, T, x2, x3, rest, h, hd, ok, h1, h2 => by
    obtain ⟨k1, k2, k3⟩ := ok
    have e := read_below_run (r := r) (l := l) (ns := ns) (c := c) h.hr (rest := rest) (by rw [hd]; unfold Tr.words; simp) k1 k2 k3
    have w1 : ws[p]? = some Wd.be.str := (dr (show ws.drop p = Wd.be.str :: _ from hd)).1
    obtain ⟨a1, a2⟩ := outx_atom h w1 (tb_none (.inl rfl)) e (by omega) x2 x3
    refine ⟨_, _, _, ?_, keep_set, a1⟩
    rw [show (Tr.be ns c).words.length = ns.length + 3 by unfold Tr.words; simp, ← Nat.add_assoc]
    exact a2
  | .re ns m c, p, ls, B, T, x2, x3, rest, h, hd, ok, h1, h2 => by
    obtain ⟨k1, k2, k3, k4, k5⟩ := ok
    have e := read_rest_run (r := r) (l := l) (ns := ns) (m := m) (c := c) h.hr (rest := rest) (by rw [hd]; unfold Tr.words; simp) k1 k2 k3 k4 k5
    have w1 : ws[p]? = some Wd.re.str := (dr (show ws.drop p = Wd.re.str :: _ from hd)).1
    obtain ⟨a1, a2⟩ := outx_atom h w1 (tb_none (.inr rfl)) e (by omega) x2 x3
    refine ⟨_, _, _, ?_, keep_set, a1⟩
    rw [show (Tr.re ns m c).words.length = ns.length + 4 by unfold Tr.words; simp, ← Nat.add_assoc]
    exact a2
  | .nt t, p, ls, B, T, x2, x3, rest, h, hd, ok, h1, h2 => readsx_one (readsx t) tb_nt x2 x3 h hd ok h1 h2 (line_nt _)
  | .th t, p, ls, B, T, x2, x3, rest, h, hd, ok, h1, h2 => readsx_one (readsx t) tb_th x2 x3 h hd ok h1 h2 (line_th _)
  | .bo t u, p, ls, B, T, x2, x3, rest, h, hd, ok, h1, h2 => by
    have rlt := (List.getElem?_eq_some_iff.mp h.hr).1
    have llt := (List.getElem?_eq_some_iff.mp h.hl).1
    have blt := (List.getElem?_eq_some_iff.mp h.hb).1
    unfold Tr.size at h1 h2
    have hd' : ws.drop p = Wd.bo.str :: (t.words ++ (u.words ++ rest)) := by
      rw [hd, show (Tr.bo t u).words = Wd.bo.str :: (t.words ++ u.words) from rfl, List.cons_append, List.append_assoc]
    obtain ⟨w1, w2⟩ := dr hd'
    obtain ⟨T1, e1, A1, k1, len1, fr1⟩ := outx_push h w1 tb_bo (by omega) x2 x3
    obtain ⟨T2, y2, y3, A2, ⟨le2, fr2⟩, e2⟩ := readsx t (p + 1) ls (B ++ [.tup [.str Wd.bo.str, .ob T.length]]) T1 (.dat (.str Wd.bo.str)) x3 (u.words ++ rest) A1 w2 ok.1 (by omega) (by rw [List.length_append]; simp; omega)
    have k2 : T2[T.length]? = some (.lst []) := by rw [fr2 _ (by omega) (by omega) (by omega) (by omega)]; exact k1
    have sl := t.spread_len ls.length
    have e3 := inx_brk A2 k2 (by omega) (by omega) (by omega) tb_bo (by simp) (by simp) (by rw [List.length_append, sl]; omega) y2 y3
    have lA : (ls ++ t.spread ls.length).length = ls.length + t.size := by rw [List.length_append, sl]
    rw [lA] at e3
    have A3 : At (T2.set T.length (.lst ([] ++ [.int (((ls.length + t.size : Nat) : Int) - 1)]))) r l b ws (p + 1 + t.words.length) (ls ++ t.spread ls.length) (B ++ [.tup [.str Wd.bo.str, .ob T.length]]) :=
      ⟨by rw [ne_set (by omega)]; exact A2.hr, by rw [ne_set (by omega)]; exact A2.hl, by rw [ne_set (by omega)]; exact A2.hb, h.rl, h.rb, h.lb⟩
    have k3 : (T2.set T.length (.lst ([] ++ [.int (((ls.length + t.size : Nat) : Int) - 1)])))[T.length]? = some (.lst ([] ++ [.int (((ls.length + t.size : Nat) : Int) - 1)])) := set_at k2
    have l3 : (T2.set T.length (.lst ([] ++ [.int (((ls.length + t.size : Nat) : Int) - 1)]))).length = T2.length := List.length_set
    have fr3 : ∀ j, j ≠ T.length → (T2.set T.length (.lst ([] ++ [.int (((ls.length + t.size : Nat) : Int) - 1)])))[j]? = T2[j]? := fun j hj => ne_set (Ne.symm hj)
    have w3 : ws.drop (p + 1 + t.words.length) = u.words ++ rest := by rw [← List.drop_drop, w2, List.drop_left' rfl]
    generalize T2.set T.length (.lst ([] ++ [.int (((ls.length + t.size : Nat) : Int) - 1)])) = T3 at *
    obtain ⟨T4, z2, z3, A4, ⟨le4, fr4⟩, e4⟩ := readsx u (p + 1 + t.words.length) (ls ++ t.spread ls.length) (B ++ [.tup [.str Wd.bo.str, .ob T.length]]) T3 (.dat (.str Wd.bo.str)) (.dat (.ob T.length)) rest A3 w3 ok.2 (by rw [lA]; omega) (by rw [List.length_append]; simp; omega)
    rw [lA] at A4
    have su := u.spread_len (ls.length + t.size)
    have k4 : T4[T.length]? = some (.lst ([] ++ [.int (((ls.length + t.size : Nat) : Int) - 1)])) := by rw [fr4 _ (by omega) (by omega) (by omega) (by omega)]; exact k3
    have lB : (ls ++ t.spread ls.length ++ u.spread (ls.length + t.size)).length = ls.length + t.size + u.size := by rw [List.length_append, lA, su]
    obtain ⟨T5, e5, a1, a2, a3, len5, fr5⟩ := inx_pop A4 k4 (by omega) (by omega) (by omega) tb_bo (by simp) (by simp) (by rw [lB]; omega) z2 z3
    rw [lB] at a2
    refine ⟨T5, _, _, ⟨?_, ?_, a3, h.rl, h.rb, h.lb⟩, ⟨by omega, fun j hj n1 n2 n3 => ?_⟩, (Le.of e1).trans (e2.trans ((Le.of e3).trans (e4.trans (Le.of e5))))⟩
    · rw [show p + (Tr.bo t u).words.length = p + 1 + t.words.length + u.words.length by rw [show (Tr.bo t u).words = Wd.bo.str :: (t.words ++ u.words) from rfl, List.length_cons, List.length_append]; omega]
      exact a1
    · have sp : (Tr.bo t u).spread ls.length = t.spread ls.length ++ u.spread (ls.length + t.size) ++ [some (.bo, [.i ((ls.length + t.size : Nat) - 1 : Int), .i ((ls.length + t.size + u.size : Nat) - 1 : Int)])] := rfl
      rw [a2, sp, ← List.append_assoc, ← List.append_assoc, List.map_append (l₂ := [some (Wd.bo, _)])]
      rfl
    · rw [fr5 j n1 n2 n3 (by omega), fr4 j (by omega) n1 n2 n3, fr3 j (by omega), fr2 j (by omega) n1 n2 n3, fr1 j hj n1 n2 n3]
end
end K20
set_option maxHeartbeats 1000000
namespace K20
open Fx LC PM K1 K19
open PySem (Str PyData)
/-! ### the word that is not right -/
def IWn (p : Nat) : Xn := ⟨"InvalidWord", [("number", .int (p : Int))]⟩
theorem log_small {p : Nat} (h : p ≤ 1000000) : ((p : Int)).natAbs.log2 < 1920 := by
  rw [Int.natAbs_natCast]
  by_cases z : p = 0
  · subst z; decide
  · exact (Nat.log2_lt z).mpr (Nat.lt_of_le_of_lt h (by decide +kernel))
theorem mk_at {f : FE} {ρ : Rho} {T : Fx.Tm} {p : Nat} (hf : f ρ T = some (.int (p : Int), T)) (hp : p ≤ 1000000) : liX (mkX "InvalidWord" "number" f) ρ T = some ((IWn p, ρ), T) := by
  unfold liX mkX
  rw [hf, bindF_some]
  dsimp only
  rw [if_pos (dc_of (log_small hp))]
  rfl
theorem f_atF {T : Fx.Tm} {r : Nat} {ws : List Str} {p l : Nat} (h : T[r]? = some (RO ws p l)) {ρ : Rho} {i : Nat} (h0 : ρ[i]? = some (.dat (.ob r))) : fldF ["Reading"] "at" (varF i) ρ T = some (.int (p : Int), T) := by
  unfold fldF
  simp only [varF, h0, bindF_some, f_at h, Option.map_some]
local macro_rules | `(tactic| walk_at "wz") => `(tactic| simp only [runB, runX, seqS, seqX, ifX, liX, thX, noX, neverS, nilS, asgF, retF, ifS, ifE, testF, notT, orT, andT, andV, orV, chF, binF, varF, varO, constF, ofF, bindF_some, bindF_none, consF, nilF, callF, appF, ownF, lstF, tupF, tofF, frzF, negF, setN, tgD, blF, ixF, lenF, fldF, iiF_int, ctt_eq, eqD_int, addD_int, LC.seqD_lst, lenD_lst,
  List.map_cons, List.map_nil, List.cons_append, List.nil_append, List.length_cons, List.length_nil, List.replicate_succ, List.replicate_zero, List.getElem?_cons_zero, List.getElem?_cons_succ, List.set_cons_zero, List.set_cons_succ, Option.map_some, Option.map_none, if_true, Nat.reduceAdd, Nat.reduceSub, Bool.false_eq_true, if_false, Bool.and_self, Bool.not_true, Bool.not_false, *])
/-- no further word -/
theorem next_x {T : Fx.Tm} {r : Nat} {ws : List Str} {p l : Nat} (h : T[r]? = some (RO ws p l)) (hw : ws.length ≤ p) (hp : p ≤ 1000000) : x_Reading_next_word [.ob r] T = some (IWn p, T) ∧ h_Reading_next_word [.ob r] T = none := by
  have e1 := f_at h
  have e2 := f_words h
  have e4 : decide (((ws.map D.str).length : Int) ≤ (p : Int)) = true := decide_eq_true (by rw [List.length_map]; omega)
  have e5 := mk_at (f := fldF ["Reading"] "at" (varF 0)) (ρ := [.dat (.ob r)]) (f_atF h rfl) hp
  constructor
  · unfold x_Reading_next_word gx_Reading_next_word
    generalize liX (mkX "InvalidWord" "number" (fldF ["Reading"] "at" (varF 0))) = Q at *
    clear h hw
    walk_at "wz"
  · unfold h_Reading_next_word g_Reading_next_word
    clear h hw e5
    walk_at "wz"
theorem mthx {c m : String} {g : XF} {fa : FA} {ρ : Rho} {T : Fx.Tm} {r : Nat} {fs : List (String × D)} {ds : List D} (h1 : ρ[0]? = some (.dat (.ob r))) (h2 : T[r]? = some (.ins c fs)) (h3 : (fs.lookup m).isNone = true) (h4 : fa ρ T = some (ds, T)) : methX c m g (varF 0) fa ρ T = g (.ob r :: ds) T := by
  unfold methX
  simp only [varF, h1, bindF_some, h2, h3, h4, and_self, if_true]
theorem mthx_r {m : String} {g : XF} {fa : FA} {ρ : Rho} {T : Fx.Tm} {r : Nat} {ws : List Str} {p l : Nat} {ds : List D} (hT : T[r]? = some (RO ws p l)) (h1 : ρ[0]? = some (.dat (.ob r))) (h4 : fa ρ T = some (ds, T)) (m1 : (m == "words") = false := by decide) (m2 : (m == "at") = false := by decide) (m3 : (m == "lines") = false := by decide) : methX "Reading" m g (varF 0) fa ρ T = g (.ob r :: ds) T :=
  mthx h1 hT (no_meth ws p l m m1 m2 m3) h4
/-- a word that is no number from lo to hi -/
def badN (lo hi : Int) (w : Str) : Prop := PyData.strOk w = true ∧ ((numB w = false ∧ w.length ≤ 1000) ∨ ∃ n, w = sI n ∧ -99 ≤ n ∧ n ≤ 99 ∧ ¬ (lo ≤ n ∧ n ≤ hi))
/-- missing, or bad -/
def Bd (P : Str → Prop) (ws : List Str) (p : Nat) : Prop := ws.length ≤ p ∨ ∃ w, ws[p]? = some w ∧ P w
theorem number_x {T : Fx.Tm} {r : Nat} {ws : List Str} {p l : Nat} (h : T[r]? = some (RO ws p l)) {lo hi : Int} (hb : Bd (badN lo hi) ws p) (hp : p ≤ 1000000) : x_Reading_read_number [.ob r, .int lo, .int hi] T = some (IWn p, T) ∧ h_Reading_read_number [.ob r, .int lo, .int hi] T = none := by
  have m1 := mth_r (m := "next_word") (h := h_Reading_next_word) (fa := nilF) (ρ := [.dat (.ob r), .dat (.int lo), .dat (.int hi), .un]) h rfl rfl
  have m2 := mthx_r (m := "next_word") (g := x_Reading_next_word) (fa := nilF) (ρ := [.dat (.ob r), .dat (.int lo), .dat (.int hi), .un]) h rfl rfl
  rcases hb with hb | ⟨w, hw, ok, hb⟩
  · obtain ⟨a1, a2⟩ := next_x h hb hp
    constructor
    · unfold x_Reading_read_number gx_Reading_read_number
      clear h hb
      walk_at "wz"
    · unfold h_Reading_read_number g_Reading_read_number
      clear h hb a1 m2
      walk_at "wz"
  · have e1 := next_run h hw
    have e5 := mk_at (f := fldF ["Reading"] "at" (varF 0)) (ρ := [.dat (.ob r), .dat (.int lo), .dat (.int hi), .dat (.str w)]) (f_atF h rfl) hp
    rcases hb with ⟨nb, hl⟩ | ⟨n, rfl, n1, n2, hn⟩
    · have e2 := is_number_run (s := w) hl ok T
      rw [nb] at e2
      constructor
      · unfold x_Reading_read_number gx_Reading_read_number
        generalize liX (mkX "InvalidWord" "number" (fldF ["Reading"] "at" (varF 0))) = Q at *
        clear h hw m2 ok nb hl
        walk_at "wz"
      · unfold h_Reading_read_number g_Reading_read_number
        clear h hw m2 e5 ok nb hl
        walk_at "wz"
    · have k := num_ok n1 n2
      have e2 := is_number_run (s := sI n) (by have := k.l; omega) k.ok T
      rw [k.b] at e2
      have e3 : intTD [.str (sI n)] = some (.int n) := by
        unfold intTD
        simp only [k.i]
        exact if_pos (dc_of (by have := k.l; omega))
      have ch : chF leD leD (varF 1) (blF intTD (consF (varF 3) (nilF))) (varF 2) [.dat (.ob r), .dat (.int lo), .dat (.int hi), .dat (.str (sI n))] T = some (.bl false, T) := by
        by_cases c1 : lo ≤ n
        · have d1 : decide (lo ≤ n) = true := decide_eq_true c1
          have d2 : decide (n ≤ hi) = false := decide_eq_false fun z => hn ⟨c1, z⟩
          clear h hw e1 e2 e5 m1 m2 k c1 hn
          walk_at "wz"
        · have d1 : decide (lo ≤ n) = false := decide_eq_false c1
          clear h hw e1 e2 e5 m1 m2 k c1 hn
          walk_at "wz"
      constructor
      · unfold x_Reading_read_number gx_Reading_read_number
        generalize liX (mkX "InvalidWord" "number" (fldF ["Reading"] "at" (varF 0))) = Q at *
        generalize chF leD leD (varF 1) (blF intTD (consF (varF 3) (nilF))) (varF 2) = C at *
        clear h hw m2 k e3 ok
        walk_at "wz"
      · unfold h_Reading_read_number g_Reading_read_number
        generalize chF leD leD (varF 1) (blF intTD (consF (varF 3) (nilF))) (varF 2) = C at *
        clear h hw m2 k e3 ok e5
        walk_at "wz"
end K20
set_option maxHeartbeats 1000000
namespace K20
open Fx LC PM K1 K19
open PySem (Str PyData)
noncomputable def rfCX : FXE := methX "Reading" "next_word" x_Reading_next_word (varF 0) (nilF)
noncomputable def rfBX : FXS := seqX (ifS (testF (binF eqD (lenF (varO 1)) (constF (.int 6)))) (neverS) (nilS)) (ifX (testF (binF eqD (lenF (varO 1)) (constF (.int 6)))) (seqX (neverS) (liX (mkX "InvalidWord" "number" (fldF ["Reading"] "at" (varF 0))))
      (noX)) (noX))
      (seqX (appF 1 (methF "Reading" "read_number" h_Reading_read_number (varF 0) (consF (negF (constF (.int 9))) (consF (constF (.int 9)) (nilF))))) (liX (apwX 1 (methX "Reading" "read_number" x_Reading_read_number (varF 0) (consF (negF (constF (.int 9))) (consF (constF (.int 9)) (nilF))))))
      (noX))
theorem rfx_eq : gx_Reading_read_factors = seqX (ownF 1 (lstF (nilF))) (noX)
      (seqX (whS rfC rfB) (whX rfC rfB rfCX rfBX)
      (seqX (fldA ["Reading"] "at" (fun i j => i + j) (varF 0) (constF (.int 1))) (noX)
      (seqX (retF (ofF (tofF (varO 1)))) (noX)
      (noX)))) := rfl
local macro_rules | `(tactic| walk_at "wz") => `(tactic| simp only [runB, runX, seqS, seqX, ifX, liX, thX, noX, neverS, nilS, asgF, retF, ifS, ifE, testF, notT, orT, andT, andV, orV, chF, binF, varF, varO, constF, ofF, bindF_some, bindF_none, consF, nilF, callF, appF, ownF, lstF, tupF, tofF, frzF, negF, setN, tgD, blF, ixF, lenF, fldF, iiF_int, ctt_eq, eqD_int, addD_int, LC.seqD_lst, lenD_lst,
  List.map_cons, List.map_nil, List.cons_append, List.nil_append, List.length_cons, List.length_nil, List.replicate_succ, List.replicate_zero, List.getElem?_cons_zero, List.getElem?_cons_succ, List.set_cons_zero, List.set_cons_succ, Option.map_some, Option.map_none, if_true, Nat.reduceAdd, Nat.reduceSub, Bool.false_eq_true, if_false, Bool.and_self, Bool.not_true, Bool.not_false, *])
/-- a word that can stand neither as a factor nor as the semicolon behind k factors -/
def badF (k : Nat) (w : Str) : Prop := (w == Str.ofString ";") = false ∧ PyData.strOk w = true ∧ (k = 6 ∨ badN (-9) 9 w)
theorem own_len (T : Fx.Tm) (i : Nat) (acc : List Int) : lenD T (.own i (acc.map D.int)) = some (.int (acc.length : Int)) := by
  show some (D.int ((acc.map D.int).length : Int)) = _
  rw [List.length_map]
theorem rfB_go {T : Fx.Tm} {r : Nat} {ws : List Str} {p l : Nat} (h : T[r]? = some (RO ws p l)) {n : Int} (hw : ws[p]? = some (sI n)) (n1 : -9 ≤ n) (n2 : n ≤ 9) {acc : List Int} (hl : acc.length < 6) :
    rfB [.dat (.ob r), .own (acc.map D.int)] T = some (.nx [.dat (.ob r), .own ((acc ++ [n]).map D.int)], T.set r (RO ws (p + 1) l)) := by
  have e1 := read_number_run h hw (by omega) (by omega) (low := -9) (high := 9) n1 n2
  have m1 := mth_r (m := "read_number") (h := h_Reading_read_number) (fa := consF (negF (constF (.int 9))) (consF (constF (.int 9)) (nilF))) (ρ := [.dat (.ob r), .own (acc.map D.int)]) (ds := [.int (-9), .int 9]) h rfl rfl
  have d1 : decide ((acc.length : Int) = 6) = false := decide_eq_false (by omega)
  have lo := own_len T 1 acc
  have z : (acc.map D.int).length < PySem.sizeLine := by rw [line_eq, List.length_map]; omega
  have e2 : (acc ++ [n]).map D.int = acc.map D.int ++ [D.int n] := by rw [List.map_append]; rfl
  rw [e2]
  unfold rfB
  clear h hw e2
  walk_at "wz"
theorem rfB_x {T : Fx.Tm} {r : Nat} {ws : List Str} {p l : Nat} (h : T[r]? = some (RO ws p l)) {w : Str} (hw : ws[p]? = some w) {acc : List Int} (hl : acc.length ≤ 6) (hb : acc.length = 6 ∨ badN (-9) 9 w) (hp : p ≤ 1000000) :
    rfB [.dat (.ob r), .own (acc.map D.int)] T = none ∧ rfBX [.dat (.ob r), .own (acc.map D.int)] T = some ((IWn p, [.dat (.ob r), .own (acc.map D.int)]), T) := by
  have e5 := mk_at (f := fldF ["Reading"] "at" (varF 0)) (ρ := [.dat (.ob r), .own (acc.map D.int)]) (f_atF h rfl) hp
  have lo := own_len T 1 acc
  by_cases c : acc.length = 6
  · have d1 : decide ((acc.length : Int) = 6) = true := decide_eq_true (by omega)
    constructor
    · unfold rfB
      clear h hw e5 hb c hl
      walk_at "wz"
    · unfold rfBX
      generalize liX (mkX "InvalidWord" "number" (fldF ["Reading"] "at" (varF 0))) = Q at *
      clear h hw hb c hl
      walk_at "wz"
  · have d1 : decide ((acc.length : Int) = 6) = false := decide_eq_false (by omega)
    have hb' : badN (-9) 9 w := by rcases hb with hb | hb; exact absurd hb c; exact hb
    obtain ⟨a1, a2⟩ := number_x h (lo := -9) (hi := 9) (.inr ⟨w, hw, hb'⟩) hp
    have m1 := mth_r (m := "read_number") (h := h_Reading_read_number) (fa := consF (negF (constF (.int 9))) (consF (constF (.int 9)) (nilF))) (ρ := [.dat (.ob r), .own (acc.map D.int)]) (ds := [.int (-9), .int 9]) h rfl rfl
    have m2 := mthx_r (m := "read_number") (g := x_Reading_read_number) (fa := consF (negF (constF (.int 9))) (consF (constF (.int 9)) (nilF))) (ρ := [.dat (.ob r), .own (acc.map D.int)]) (ds := [.int (-9), .int 9]) h rfl rfl
    constructor
    · unfold rfB
      clear h hw e5 hb c hl hb' m2 a1
      walk_at "wz"
    · unfold rfBX apwX
      clear h hw e5 hb c hl hb'
      walk_at "wz"
theorem rfx_loop {r l : Nat} {ws : List Str} : ∀ (ns acc : List Int) (p : Nat) (T : Fx.Tm), T[r]? = some (RO ws p l) → (∀ i n, ns[i]? = some n → ws[p + i]? = some (sI n) ∧ -9 ≤ n ∧ n ≤ 9) → acc.length + ns.length ≤ 6 → Bd (badF (acc.length + ns.length)) ws (p + ns.length) → p + ns.length ≤ 1000000 →
    ∃ ρ', whX rfC rfB rfCX rfBX [.dat (.ob r), .own (acc.map D.int)] T = some ((IWn (p + ns.length), ρ'), T.set r (RO ws (p + ns.length) l)) ∧ whS rfC rfB [.dat (.ob r), .own (acc.map D.int)] T = none
  | [], acc, p, T, h, hw, hl, hb, hp => by
    rw [List.length_nil, Nat.add_zero, Nat.add_zero] at hb
    rw [List.length_nil, Nat.add_zero] at hp ⊢
    rw [set_same h]
    rw [List.length_nil, Nat.add_zero] at hl
    rcases hb with hb | ⟨w, hw, h1, h2, h3⟩
    · obtain ⟨a1, a2⟩ := next_x h hb hp
      have m1 := mth_r (m := "next_word") (h := h_Reading_next_word) (fa := nilF) (ρ := [.dat (.ob r), .own (acc.map D.int)]) h rfl rfl
      have m2 := mthx_r (m := "next_word") (g := x_Reading_next_word) (fa := nilF) (ρ := [.dat (.ob r), .own (acc.map D.int)]) h rfl rfl
      have c1 : rfC [.dat (.ob r), .own (acc.map D.int)] T = none := by
        unfold rfC
        clear h hb
        walk_at "wz"
      refine ⟨[.dat (.ob r), .own (acc.map D.int)], ?_, by rw [whS_eq1, c1]; rfl⟩
      rw [whX_eq1, c1]
      dsimp only
      unfold rfCX liX
      rw [m2, a1]
      rfl
    · have c1 := rfC_run h hw h2 (.own (acc.map D.int))
      rw [h1, Bool.not_false] at c1
      obtain ⟨b1, b2⟩ := rfB_x h hw hl h3 hp
      refine ⟨[.dat (.ob r), .own (acc.map D.int)], ?_, ?_⟩
      · rw [whX_eq1, c1]
        dsimp only
        rw [b1]
        exact b2
      · rw [whS_eq1, c1, bindF_some, if_pos rfl, b1]
  | n :: ns, acc, p, T, h, hw, hl, hb, hp => by
    obtain ⟨w1, n1, n2⟩ := hw 0 n rfl
    rw [Nat.add_zero] at w1
    have k := num_ok (n := n) (by omega) (by omega)
    have c1 := rfC_run h w1 k.ok (.own (acc.map D.int))
    rw [show (sI n == Str.ofString ";") = false from k.ne, Bool.not_false] at c1
    rw [List.length_cons] at hl hb hp
    have b1 := rfB_go h w1 n1 n2 (acc := acc) (by omega)
    obtain ⟨ρ', e1, e2⟩ := rfx_loop ns (acc ++ [n]) (p + 1) (T.set r (RO ws (p + 1) l)) (set_at h) (fun i m hm => by
      have := hw (i + 1) m hm
      rw [show p + 1 + i = p + (i + 1) by omega]
      exact this) (by rw [List.length_append]; simp; omega) (by rw [List.length_append, List.length_singleton, show acc.length + 1 + ns.length = acc.length + (ns.length + 1) by omega, show p + 1 + ns.length = p + (ns.length + 1) by omega]; exact hb) (by omega)
    rw [List.set_set, show p + 1 + ns.length = p + (ns.length + 1) by omega] at e1
    rw [List.length_cons]
    refine ⟨ρ', ?_, ?_⟩
    · rw [whX_eq1, c1]
      dsimp only
      rw [b1]
      exact e1
    · rw [whS_eq1, c1, bindF_some, if_pos rfl, b1]
      exact e2
theorem factors_x {r l : Nat} {ws : List Str} {ns : List Int} {p : Nat} {T : Fx.Tm} (h : T[r]? = some (RO ws p l)) (hw : ∀ i n, ns[i]? = some n → ws[p + i]? = some (sI n) ∧ -9 ≤ n ∧ n ≤ 9) (hl : ns.length ≤ 6) (hb : Bd (badF ns.length) ws (p + ns.length)) (hp : p + ns.length ≤ 1000000) :
    x_Reading_read_factors [.ob r] T = some (IWn (p + ns.length), T.set r (RO ws (p + ns.length) l)) ∧ h_Reading_read_factors [.ob r] T = none := by
  obtain ⟨ρ', e1, e2⟩ := rfx_loop ns [] p T h hw (by simpa using hl) (by simpa using hb) hp
  have l0 : (0 : Nat) ≤ PySem.sizeLine := Nat.zero_le _
  refine ⟨?_, ?_⟩
  · unfold x_Reading_read_factors
    rw [rfx_eq]
    rw [List.map_nil] at e1 e2
    generalize whX rfC rfB rfCX rfBX = W at *
    generalize whS rfC rfB = V at *
    clear h hw hb
    walk_at "wz"
  · unfold h_Reading_read_factors
    rw [read_factors_eq]
    rw [List.map_nil] at e2
    generalize whS rfC rfB = V at *
    clear h hw hb e1
    walk_at "wz"
end K20
set_option maxHeartbeats 1000000
namespace K20
open Fx LC PM K1 K19
open PySem (Str PyData)
local macro_rules | `(tactic| walk_at "wc") => `(tactic| simp only [runB, runX, seqS, seqX, ifX, liX, thX, noX, neverS, nilS, asgF, retF, ifS, ifE, testF, notT, orT, andT, andV, orV, chF, binF, varF, varO, constF, ofF, bindF_some, bindF_none, consF, nilF, callF, appF, ownF, lstF, tupF, tofF, frzF, negF, setN, tgD, blF, ixF, lenF, fldF, iiF_int, ctt_eq, eqD_int, addD_int, LC.seqD_lst, lenD_lst,
  List.map_cons, List.map_nil, List.cons_append, List.nil_append, List.length_cons, List.length_nil, List.replicate_succ, List.replicate_zero, List.getElem?_cons_zero, List.getElem?_cons_succ, List.set_cons_zero, List.set_cons_succ, Option.map_some, Option.map_none, if_true, Nat.reduceAdd, Nat.reduceSub, Bool.false_eq_true, if_false, Bool.and_self, Bool.not_true, Bool.not_false, *])
/-! ### a comparison that is not right -/
theorem cmp_name {T : Fx.Tm} {r : Nat} {ws : List Str} {p l : Nat} (h : T[r]? = some (RO ws p l)) {w : Str} (ok : PyData.strOk w = true) (n1 : (w == Wd.be.str) = false) (n2 : (w == Wd.re.str) = false) (hp : p ≤ 1000000) :
    x_Reading_read_comparison [.ob r, .str w] T = some (IWn p, T) ∧ h_Reading_read_comparison [.ob r, .str w] T = none := by
  have e5 := mk_at (f := fldF ["Reading"] "at" (varF 0)) (ρ := [.dat (.ob r), .dat (.str w), .un, .un]) (f_atF h rfl) hp
  have q1 := neD_str ok Wd.be.ok
  have q2 := neD_str ok Wd.re.ok
  rw [n1, Bool.not_false] at q1
  rw [n2, Bool.not_false] at q2
  have wb : Str.ofString "below" = Wd.be.str := rfl
  have wr : Str.ofString "rest" = Wd.re.str := rfl
  constructor
  · unfold x_Reading_read_comparison gx_Reading_read_comparison
    generalize liX (mkX "InvalidWord" "number" (fldF ["Reading"] "at" (varF 0))) = Q at *
    clear h n1 n2 ok
    rw [wb, wr]
    walk_at "wc"
  · unfold h_Reading_read_comparison g_Reading_read_comparison
    clear h n1 n2 ok e5
    rw [wb, wr]
    walk_at "wc"
theorem cmp_fac {T : Fx.Tm} {r : Nat} {ws : List Str} {p l : Nat} (h : T[r]? = some (RO ws p l)) {a : Wd} (ha : a = .be ∨ a = .re) {ns : List Int} (hw : ∀ i n, ns[i]? = some n → ws[p + 1 + i]? = some (sI n) ∧ -9 ≤ n ∧ n ≤ 9) (hl : ns.length ≤ 6) (hb : Bd (badF ns.length) ws (p + 1 + ns.length)) (hp : p + 1 + ns.length ≤ 1000000) :
    x_Reading_read_comparison [.ob r, .str a.str] T = some (IWn (p + 1 + ns.length), T.set r (RO ws (p + 1 + ns.length) l)) ∧ h_Reading_read_comparison [.ob r, .str a.str] T = none := by
  have e1 := inc_at (ρ := [.dat (.ob r), .dat (.str a.str), .un, .un]) h rfl
  have h2 : (T.set r (RO ws (p + 1) l))[r]? = some (RO ws (p + 1) l) := set_at h
  obtain ⟨f1, f2⟩ := factors_x h2 hw hl hb hp
  rw [List.set_set] at f1
  have m1 := mth_r (m := "read_factors") (h := h_Reading_read_factors) (fa := nilF) (ρ := [.dat (.ob r), .dat (.str a.str), .un, .un]) h2 rfl rfl
  have m2 := mthx_r (m := "read_factors") (g := x_Reading_read_factors) (fa := nilF) (ρ := [.dat (.ob r), .dat (.str a.str), .un, .un]) h2 rfl rfl
  have wb : Str.ofString "below" = Wd.be.str := rfl
  have wr : Str.ofString "rest" = Wd.re.str := rfl
  rcases ha with rfl | rfl
  · have q1 : neD (.str Wd.be.str) (.str Wd.be.str) = some (.bl false) := w_neD .be .be
    refine ⟨?_, ?_⟩
    · unfold x_Reading_read_comparison gx_Reading_read_comparison
      clear h h2 hw hl hb hp
      rw [wb, wr]
      walk_at "wc"
    · unfold h_Reading_read_comparison g_Reading_read_comparison
      clear h h2 hw hl hb hp m2 f1
      rw [wb, wr]
      walk_at "wc"
  · have q1 : neD (.str Wd.re.str) (.str Wd.be.str) = some (.bl true) := w_neD .re .be
    have q1' : neD (.str Wd.re.str) (.str Wd.re.str) = some (.bl false) := w_neD .re .re
    refine ⟨?_, ?_⟩
    · unfold x_Reading_read_comparison gx_Reading_read_comparison
      clear h h2 hw hl hb hp
      rw [wb, wr]
      walk_at "wc"
    · unfold h_Reading_read_comparison g_Reading_read_comparison
      clear h h2 hw hl hb hp m2 f1
      rw [wb, wr]
      walk_at "wc"
theorem cmp_con {T : Fx.Tm} {r : Nat} {ws : List Str} {p l : Nat} (h : T[r]? = some (RO ws p l)) {ns : List Int} {rest : List Str} (hw : ws.drop p = Wd.be.str :: (ns.map sI ++ semi :: rest)) (hn : facB ns) (hb : Bd (badN (-99) 99) ws (p + ns.length + 2)) (hp : p + ns.length + 2 ≤ 1000000) :
    x_Reading_read_comparison [.ob r, .str Wd.be.str] T = some (IWn (p + ns.length + 2), T.set r (RO ws (p + ns.length + 2) l)) ∧ h_Reading_read_comparison [.ob r, .str Wd.be.str] T = none := by
  obtain ⟨w1, w2⟩ := dr hw
  have e1 := inc_at (ρ := [.dat (.ob r), .dat (.str Wd.be.str), .un, .un]) h rfl
  have h2 : (T.set r (RO ws (p + 1) l))[r]? = some (RO ws (p + 1) l) := set_at h
  have e2 := read_factors_run (rest := rest) h2 w2 hn
  rw [List.set_set] at e2
  have t1 : p + 1 + ns.length + 1 = p + ns.length + 2 := by omega
  rw [t1] at e2
  have h3 : (T.set r (RO ws (p + ns.length + 2) l))[r]? = some (RO ws (p + ns.length + 2) l) := set_at h
  obtain ⟨f1, f2⟩ := number_x h3 hb hp
  have m1 := mth_r (m := "read_factors") (h := h_Reading_read_factors) (fa := nilF) (ρ := [.dat (.ob r), .dat (.str Wd.be.str), .un, .un]) h2 rfl rfl
  have m2 := mth_r (m := "read_number") (h := h_Reading_read_number) (fa := consF (negF (constF (.int 99))) (consF (constF (.int 99)) (nilF))) (ρ := [.dat (.ob r), .dat (.str Wd.be.str), .dat (eI ns), .un]) (ds := [.int (-99), .int 99]) h3 rfl rfl
  have m3 := mthx_r (m := "read_number") (g := x_Reading_read_number) (fa := consF (negF (constF (.int 99))) (consF (constF (.int 99)) (nilF))) (ρ := [.dat (.ob r), .dat (.str Wd.be.str), .dat (eI ns), .un]) (ds := [.int (-99), .int 99]) h3 rfl rfl
  have q1 : neD (.str Wd.be.str) (.str Wd.be.str) = some (.bl false) := w_neD .be .be
  have q2 : eqD (.str Wd.be.str) (.str Wd.be.str) = some (.bl true) := w_eqD .be .be
  have wb : Str.ofString "below" = Wd.be.str := rfl
  have wr : Str.ofString "rest" = Wd.re.str := rfl
  refine ⟨?_, ?_⟩
  · unfold x_Reading_read_comparison gx_Reading_read_comparison
    clear h h2 h3 hw hn hb hp w1 w2 t1
    rw [wb, wr]
    walk_at "wc"
  · unfold h_Reading_read_comparison g_Reading_read_comparison
    clear h h2 h3 hw hn hb hp w1 w2 t1 m3 f1
    rw [wb, wr]
    walk_at "wc"
theorem cmp_mod {T : Fx.Tm} {r : Nat} {ws : List Str} {p l : Nat} (h : T[r]? = some (RO ws p l)) {ns : List Int} {rest : List Str} (hw : ws.drop p = Wd.re.str :: (ns.map sI ++ semi :: rest)) (hn : facB ns) (hb : Bd (badN 1 12) ws (p + ns.length + 2)) (hp : p + ns.length + 2 ≤ 1000000) :
    x_Reading_read_comparison [.ob r, .str Wd.re.str] T = some (IWn (p + ns.length + 2), T.set r (RO ws (p + ns.length + 2) l)) ∧ h_Reading_read_comparison [.ob r, .str Wd.re.str] T = none := by
  obtain ⟨w1, w2⟩ := dr hw
  have e1 := inc_at (ρ := [.dat (.ob r), .dat (.str Wd.re.str), .un, .un]) h rfl
  have h2 : (T.set r (RO ws (p + 1) l))[r]? = some (RO ws (p + 1) l) := set_at h
  have e2 := read_factors_run (rest := rest) h2 w2 hn
  rw [List.set_set] at e2
  have t1 : p + 1 + ns.length + 1 = p + ns.length + 2 := by omega
  rw [t1] at e2
  have h3 : (T.set r (RO ws (p + ns.length + 2) l))[r]? = some (RO ws (p + ns.length + 2) l) := set_at h
  obtain ⟨f1, f2⟩ := number_x h3 hb hp
  have m1 := mth_r (m := "read_factors") (h := h_Reading_read_factors) (fa := nilF) (ρ := [.dat (.ob r), .dat (.str Wd.re.str), .un, .un]) h2 rfl rfl
  have m2 := mth_r (m := "read_number") (h := h_Reading_read_number) (fa := consF (constF (.int 1)) (consF (constF (.int 12)) (nilF))) (ρ := [.dat (.ob r), .dat (.str Wd.re.str), .dat (eI ns), .un]) (ds := [.int 1, .int 12]) h3 rfl rfl
  have m3 := mthx_r (m := "read_number") (g := x_Reading_read_number) (fa := consF (constF (.int 1)) (consF (constF (.int 12)) (nilF))) (ρ := [.dat (.ob r), .dat (.str Wd.re.str), .dat (eI ns), .un]) (ds := [.int 1, .int 12]) h3 rfl rfl
  have q1 : neD (.str Wd.re.str) (.str Wd.be.str) = some (.bl true) := w_neD .re .be
  have q1' : neD (.str Wd.re.str) (.str Wd.re.str) = some (.bl false) := w_neD .re .re
  have q2 : eqD (.str Wd.re.str) (.str Wd.be.str) = some (.bl false) := w_eqD .re .be
  have wb : Str.ofString "below" = Wd.be.str := rfl
  have wr : Str.ofString "rest" = Wd.re.str := rfl
  refine ⟨?_, ?_⟩
  · unfold x_Reading_read_comparison gx_Reading_read_comparison
    clear h h2 h3 hw hn hb hp w1 w2 t1
    rw [wb, wr]
    walk_at "wc"
  · unfold h_Reading_read_comparison g_Reading_read_comparison
    clear h h2 h3 hw hn hb hp w1 w2 t1 m3 f1
    rw [wb, wr]
    walk_at "wc"
theorem cmp_res {T : Fx.Tm} {r : Nat} {ws : List Str} {p l : Nat} (h : T[r]? = some (RO ws p l)) {ns : List Int} {m : Int} {rest : List Str} (hw : ws.drop p = Wd.re.str :: (ns.map sI ++ semi :: sI m :: rest)) (hn : facB ns) (hm1 : 1 ≤ m) (hm2 : m ≤ 12) (hb : Bd (badN 0 (m - 1)) ws (p + ns.length + 3)) (hp : p + ns.length + 3 ≤ 1000000) :
    x_Reading_read_comparison [.ob r, .str Wd.re.str] T = some (IWn (p + ns.length + 3), T.set r (RO ws (p + ns.length + 3) l)) ∧ h_Reading_read_comparison [.ob r, .str Wd.re.str] T = none := by
  obtain ⟨w1, w2⟩ := dr hw
  have e1 := inc_at (ρ := [.dat (.ob r), .dat (.str Wd.re.str), .un, .un]) h rfl
  have h2 : (T.set r (RO ws (p + 1) l))[r]? = some (RO ws (p + 1) l) := set_at h
  have e2 := read_factors_run (rest := sI m :: rest) h2 w2 hn
  rw [List.set_set] at e2
  have t1 : p + 1 + ns.length + 1 = p + ns.length + 2 := by omega
  have w0 : ws.drop (p + 1 + ns.length) = semi :: sI m :: rest := by
    rw [← List.drop_drop, w2, List.drop_left' (by rw [List.length_map])]
  have w3 := (dr (dr w0).2).1
  rw [t1] at e2 w3
  have h3 : (T.set r (RO ws (p + ns.length + 2) l))[r]? = some (RO ws (p + ns.length + 2) l) := set_at h
  have e3 := read_number_run h3 w3 (by omega) (by omega) (low := 1) (high := 12) (by omega) (by omega)
  rw [List.set_set] at e3
  have t2 : p + ns.length + 2 + 1 = p + ns.length + 3 := by omega
  rw [t2] at e3
  have h4 : (T.set r (RO ws (p + ns.length + 3) l))[r]? = some (RO ws (p + ns.length + 3) l) := set_at h
  obtain ⟨f1, f2⟩ := number_x h4 hb hp
  have m1 := mth_r (m := "read_factors") (h := h_Reading_read_factors) (fa := nilF) (ρ := [.dat (.ob r), .dat (.str Wd.re.str), .un, .un]) h2 rfl rfl
  have m2 := mth_r (m := "read_number") (h := h_Reading_read_number) (fa := consF (constF (.int 1)) (consF (constF (.int 12)) (nilF))) (ρ := [.dat (.ob r), .dat (.str Wd.re.str), .dat (eI ns), .un]) (ds := [.int 1, .int 12]) h3 rfl rfl
  have m4 := mth_r (m := "read_number") (h := h_Reading_read_number) (fa := consF (constF (.int 0)) (consF (binF subD (varF 3) (constF (.int 1))) (nilF))) (ρ := [.dat (.ob r), .dat (.str Wd.re.str), .dat (eI ns), .dat (.int m)]) (ds := [.int 0, .int (m - 1)]) h4 rfl rfl
  have m3 := mthx_r (m := "read_number") (g := x_Reading_read_number) (fa := consF (constF (.int 0)) (consF (binF subD (varF 3) (constF (.int 1))) (nilF))) (ρ := [.dat (.ob r), .dat (.str Wd.re.str), .dat (eI ns), .dat (.int m)]) (ds := [.int 0, .int (m - 1)]) h4 rfl rfl
  have q1 : neD (.str Wd.re.str) (.str Wd.be.str) = some (.bl true) := w_neD .re .be
  have q1' : neD (.str Wd.re.str) (.str Wd.re.str) = some (.bl false) := w_neD .re .re
  have q2 : eqD (.str Wd.re.str) (.str Wd.be.str) = some (.bl false) := w_eqD .re .be
  have wb : Str.ofString "below" = Wd.be.str := rfl
  have wr : Str.ofString "rest" = Wd.re.str := rfl
  refine ⟨?_, ?_⟩
  · unfold x_Reading_read_comparison gx_Reading_read_comparison
    clear h h2 h3 h4 hw hn hb hp w1 w2 t1 t2 w0 w3 hm1 hm2
    rw [wb, wr]
    walk_at "wc"
  · unfold h_Reading_read_comparison g_Reading_read_comparison
    clear h h2 h3 h4 hw hn hb hp w1 w2 t1 t2 w0 w3 hm1 hm2 m3 f1
    rw [wb, wr]
    walk_at "wc"
end K20
set_option maxHeartbeats 1000000
namespace K20
open Fx LC PM K1 K19
open PySem (Str PyData)
local macro_rules | `(tactic| walk_at "wj") => `(tactic| simp only [runB, runX, seqX, ifX, liX, noX, neverS, bindF_none, Option.map_none, seqS, nilS, brkS, cntS, asgF, retF, ifS, testF, binF, varF, varO, constF, ofF, bindF_some, consF, nilF, callF, lstF, tupF, tofF, unpF, negF, setN, tgD, ixF, lenF, dropF, fldF, inTF, ixTF, iiF_int, ctt_eq, eqD_int, addD_int,
  List.map_cons, List.map_nil, List.cons_append, List.nil_append, List.length_cons, List.length_nil, List.getElem?_cons_zero, List.getElem?_cons_succ, List.set_cons_zero, List.set_cons_succ, Option.map_some, Option.isSome_none, Option.isSome_some, if_true, Nat.reduceAdd, Nat.reduceSub, Bool.false_eq_true, if_false, *])
/-! ### what raises returns nothing -/
def Excl (g : FXS) (f : FS) : Prop := ∀ ρ T v, g ρ T = some v → f ρ T = none
theorem excl_seq {f h2 : FS} {g1 g2 : FXS} (e : Excl g2 h2) : Excl (seqX f g1 g2) (seqS f h2) := fun ρ T v h => by
  unfold seqX at h
  unfold seqS
  generalize f ρ T = q at h ⊢
  match q, h with
  | some (.nx ρ', T'), h => exact e ρ' T' v h
  | none, h => rfl
theorem excl_last {f : FS} {g1 : FXS} : Excl (seqX f g1 noX) f := fun ρ T v h => by
  unfold seqX at h
  generalize f ρ T = q at h ⊢
  match q, h with
  | some (.nx ρ', T'), h => cases h
  | none, h => rfl
theorem excl_no {f : FS} : Excl noX f := fun _ _ _ h => by cases h
theorem excl_if {t : FT} {a b : FS} {g1 g2 : FXS} (e1 : Excl g1 a) (e2 : Excl g2 b) : Excl (ifX t g1 g2) (ifS t a b) := fun ρ T v h => by
  obtain ⟨k, T1, h1, h2⟩ := bindF_eq h
  unfold ifS
  rw [h1, bindF_some]
  cases k with
  | true => exact e1 ρ T1 v h2
  | false => exact e2 ρ T1 v h2
theorem excl_run {g : FXS} {f : FS} (e : Excl g f) {n : Nat} {ds : List D} {T : Fx.Tm} {v : Xn × Fx.Tm} (h : runX g n ds T = some v) : runB f n ds T = none := by
  unfold runX at h
  unfold runB
  generalize hq : g (ds.map Sl.dat ++ List.replicate (n - ds.length) Sl.un) T = q at h
  match q, h with
  | some ((x, ρ'), T'), h => rw [e _ _ _ hq]
theorem read_none {ds : List D} {T : Fx.Tm} {v : Xn × Fx.Tm} (h : x_Reading_read ds T = some v) : h_Reading_read ds T = none := by
  unfold x_Reading_read at h
  unfold h_Reading_read
  refine excl_run (g := gx_Reading_read) (f := g_Reading_read) ?_ h
  rw [readx_eq, read_eq]
  exact excl_seq excl_last
theorem parse_none {ds : List D} {T : Fx.Tm} {v : Xn × Fx.Tm} (h : x_parse_saying ds T = some v) : h_parse_saying ds T = none := by
  unfold x_parse_saying at h
  unfold h_parse_saying
  refine excl_run (g := gx_parse_saying) (f := g_parse_saying) ?_ h
  unfold gx_parse_saying g_parse_saying
  exact excl_seq (excl_seq (excl_seq (excl_seq excl_last)))
/-! ### the loop ends at a word -/
section
variable {T : Fx.Tm} {r l b p : Nat} {ws : List Str} {ls : List Line} {B : List D}
theorem outx_end (h : At T r l b ws p ls B) (hw : ws.length ≤ p) (hp : p ≤ 1000000) (x2 x3 : Sl) : outX [.dat (.ob r), .dat (.ob b), x2, x3] T = some ((IWn p, [.dat (.ob r), .dat (.ob b), x2, x3]), T) := by
  obtain ⟨a1, a2⟩ := next_x h.hr hw hp
  have m1 := mth_r (m := "next_word") (h := h_Reading_next_word) (fa := nilF) (ρ := [.dat (.ob r), .dat (.ob b), x2, x3]) h.hr rfl rfl
  have m2 := mthx_r (m := "next_word") (g := x_Reading_next_word) (fa := nilF) (ρ := [.dat (.ob r), .dat (.ob b), x2, x3]) h.hr rfl rfl
  rw [outx_unf]
  have ob : outB [.dat (.ob r), .dat (.ob b), x2, x3] T = none := by
    unfold outB
    clear h hw hp a1 m2
    walk_at "wj"
  rw [ob]
  dsimp only
  unfold outBX
  clear h hw hp ob
  walk_at "wj"
theorem outx_cmp (h : At T r l b ws p ls B) {w : Str} (hw : ws[p]? = some w) (ht : tb_NAMED.lookup w = none) {q : Nat} {T' : Fx.Tm} (hx : x_Reading_read_comparison [.ob r, .str w] T = some (IWn q, T')) (hn : h_Reading_read_comparison [.ob r, .str w] T = none) (x2 x3 : Sl) :
    outX [.dat (.ob r), .dat (.ob b), x2, x3] T = some ((IWn q, [.dat (.ob r), .dat (.ob b), .dat (.str w), x3]), T') := by
  have e1 := next_run h.hr hw
  have m1 := mth_r (m := "next_word") (h := h_Reading_next_word) (fa := nilF) (ρ := [.dat (.ob r), .dat (.ob b), x2, x3]) h.hr rfl rfl
  have m2 := mth_r (m := "read_comparison") (h := h_Reading_read_comparison) (fa := consF (varF 2) (nilF)) (ρ := [.dat (.ob r), .dat (.ob b), .dat (.str w), x3]) (ds := [.str w]) h.hr rfl rfl
  have m3 := mthx_r (m := "read_comparison") (g := x_Reading_read_comparison) (fa := consF (varF 2) (nilF)) (ρ := [.dat (.ob r), .dat (.ob b), .dat (.str w), x3]) (ds := [.str w]) h.hr rfl rfl
  have e2 : fldF ["Reading"] "lines" (varF 0) [.dat (.ob r), .dat (.ob b), .dat (.str w), x3] T = some (.ob l, T) := by
    have := f_lines h.hr
    unfold fldF
    simp only [varF, List.getElem?_cons_zero, bindF_some, this, Option.map_some]
  have lo := lstO_ob h.hl
  have ap : dropF (appOF (fldF ["Reading"] "lines" (varF 0)) (methF "Reading" "read_comparison" h_Reading_read_comparison (varF 0) (consF (varF 2) (nilF)))) [.dat (.ob r), .dat (.ob b), .dat (.str w), x3] T = none := by
    unfold dropF appOF
    rw [e2, bindF_some, m2, hn]
    rfl
  have ax : liX (appX (fldF ["Reading"] "lines" (varF 0)) (methX "Reading" "read_comparison" x_Reading_read_comparison (varF 0) (consF (varF 2) (nilF)))) [.dat (.ob r), .dat (.ob b), .dat (.str w), x3] T = some ((IWn q, [.dat (.ob r), .dat (.ob b), .dat (.str w), x3]), T') := by
    unfold liX appX
    rw [e2, bindF_some, lo]
    dsimp only
    rw [m3, hx]
    rfl
  rw [outx_unf]
  have ob : outB [.dat (.ob r), .dat (.ob b), x2, x3] T = none := by
    unfold outB
    generalize dropF (appOF (fldF ["Reading"] "lines" (varF 0)) (methF "Reading" "read_comparison" h_Reading_read_comparison (varF 0) (consF (varF 2) (nilF)))) = Q at *
    clear e2 m2 m3 hw h ax hx hn lo
    walk_at "wj"
  rw [ob]
  dsimp only
  unfold outBX
  generalize dropF (appOF (fldF ["Reading"] "lines" (varF 0)) (methF "Reading" "read_comparison" h_Reading_read_comparison (varF 0) (consF (varF 2) (nilF)))) = Q at *
  generalize liX (appX (fldF ["Reading"] "lines" (varF 0)) (methX "Reading" "read_comparison" x_Reading_read_comparison (varF 0) (consF (varF 2) (nilF)))) = Q2 at *
  clear e2 m2 m3 hw h hx hn lo ob
  walk_at "wj"
end
end K20
set_option maxHeartbeats 1000000
namespace K20
open Fx LC PM K1 K19
open PySem (Str PyData)
/-! ### where a text goes wrong -/
def badName (w : Str) : Prop := PyData.strOk w = true ∧ tb_NAMED.lookup w = none ∧ (w == Wd.be.str) = false ∧ (w == Wd.re.str) = false
/-- the word at q is not right at place i of the words of a tree -/
def bad : Tr → Nat → List Str → Nat → Prop
  | .be ns _, i, ws, q => if i = 0 then Bd badName ws q else if i ≤ ns.length + 1 then Bd (badF (i - 1)) ws q else Bd (badN (-99) 99) ws q
  | .re ns m _, i, ws, q => if i = 0 then Bd badName ws q else if i ≤ ns.length + 1 then Bd (badF (i - 1)) ws q else if i = ns.length + 2 then Bd (badN 1 12) ws q else Bd (badN 0 (m - 1)) ws q
  | .nt t, i, ws, q => if i = 0 then Bd badName ws q else bad t (i - 1) ws q
  | .th t, i, ws, q => if i = 0 then Bd badName ws q else bad t (i - 1) ws q
  | .bo t u, i, ws, q => if i = 0 then Bd badName ws q else if i - 1 < t.words.length then bad t (i - 1) ws q else bad u (i - 1 - t.words.length) ws q
theorem drop_agree {ws : List Str} {p : Nat} : ∀ {L : List Str}, (∀ j, j < L.length → ws[p + j]? = L[j]?) → ws.drop p = L ++ ws.drop (p + L.length) := fun {L} h => by
  apply List.ext_getElem?
  intro i
  rw [List.getElem?_drop]
  by_cases c : i < L.length
  · rw [List.getElem?_append_left c]
    exact h i c
  · rw [List.getElem?_append_right (by omega), List.getElem?_drop]
    congr 1
    omega
theorem kp_refl (T : Fx.Tm) (r l b : Nat) : Keep T T r l b := ⟨Nat.le_refl _, fun _ _ _ _ _ => rfl⟩
theorem kp_set {T : Fx.Tm} {r l b : Nat} (x : MO) : Keep T (T.set r x) r l b := ⟨by rw [List.length_set]; exact Nat.le_refl _, fun j _ n1 _ _ => ne_set (Ne.symm n1)⟩
theorem kp_trans {T T1 T2 : Fx.Tm} {r l b : Nat} (h : Keep T T1 r l b) (g : Keep T1 T2 r l b) : Keep T T2 r l b := ⟨Nat.le_trans h.1 g.1, fun j hj n1 n2 n3 => by rw [g.2 j (Nat.lt_of_lt_of_le hj h.1) n1 n2 n3, h.2 j hj n1 n2 n3]⟩
section
variable {r l b : Nat} {ws : List Str}
theorem name_fail {T : Fx.Tm} {p : Nat} {ls : List Line} {B : List D} (h : At T r l b ws p ls B) (hb : Bd badName ws p) (hp : p ≤ 1000000) (x2 x3 : Sl) : ∃ ρ' T', outX [.dat (.ob r), .dat (.ob b), x2, x3] T = some ((IWn p, ρ'), T') ∧ Keep T T' r l b := by
  rcases hb with hb | ⟨w, hw, ok, ht, n1, n2⟩
  · exact ⟨_, _, outx_end h hb hp x2 x3, kp_refl _ _ _ _⟩
  · obtain ⟨a1, a2⟩ := cmp_name h.hr ok n1 n2 hp
    exact ⟨_, _, outx_cmp h hw ht a1 a2 x2 x3, kp_refl _ _ _ _⟩
theorem fac_fail {T : Fx.Tm} {p : Nat} {ls : List Line} {B : List D} (h : At T r l b ws p ls B) {a : Wd} (ha : a = .be ∨ a = .re) {ns : List Int} {more : List Str} (hn : facB ns) {i : Nat} (h0 : i ≠ 0) (hi : i ≤ ns.length + 1) (hw : ∀ j, j < i → ws[p + j]? = (a.str :: (ns.map sI ++ more))[j]?) (hb : Bd (badF (i - 1)) ws (p + i)) (hp : p + i ≤ 1000000) (x2 x3 : Sl) :
    ∃ ρ' T', outX [.dat (.ob r), .dat (.ob b), x2, x3] T = some ((IWn (p + i), ρ'), T') ∧ Keep T T' r l b := by
  obtain ⟨k, rfl⟩ : ∃ k, i = k + 1 := ⟨i - 1, by omega⟩
  have w0 : ws[p]? = some a.str := by
    have := hw 0 (by omega)
    simpa using this
  have lk : (ns.take k).length = k := by rw [List.length_take]; omega
  obtain ⟨f1, f2⟩ := cmp_fac h.hr ha (ns := ns.take k) (fun j n hj => by
    have hjk : j < k := by have := (List.getElem?_eq_some_iff.mp hj).1; omega
    have hj' : ns[j]? = some n := by rw [List.getElem?_take_of_lt hjk] at hj; exact hj
    have e := hw (j + 1) (by omega)
    rw [show p + (j + 1) = p + 1 + j by omega] at e
    rw [e]
    refine ⟨?_, hn.2 n (List.mem_of_getElem? hj')⟩
    show (ns.map sI ++ more)[j]? = _
    rw [List.getElem?_append_left (by rw [List.length_map]; exact (List.getElem?_eq_some_iff.mp hj').1), List.getElem?_map, hj']
    rfl) (by rw [lk]; have := hn.1; omega) (by rw [lk, show p + 1 + k = p + (k + 1) by omega]; exact hb) (by rw [lk]; omega)
  rw [lk, show p + 1 + k = p + (k + 1) by omega] at f1
  exact ⟨_, _, outx_cmp h w0 (tb_none ha) f1 f2 x2 x3, kp_set _⟩
theorem fails : ∀ (t : Tr), t.ok → ∀ (i p : Nat) (ls : List Line) (B : List D) (T : Fx.Tm) (x2 x3 : Sl), At T r l b ws p ls B → i < t.words.length → (∀ j, j < i → ws[p + j]? = t.words[j]?) → bad t i ws (p + i) → ls.length + t.size < 10000 → B.length + t.size < 10000 → p + t.words.length ≤ 1000000 →
    ∃ ρ' T', outX [.dat (.ob r), .dat (.ob b), x2, x3] T = some ((IWn (p + i), ρ'), T') ∧ Keep T T' r l b
  | .be ns c, ok, i, p, ls, B, T, x2, x3, h, hi, hw, hb, h1, h2, hp => by
    obtain ⟨k1, k2, k3⟩ := ok
    have lw : (Tr.be ns c).words.length = ns.length + 3 := by unfold Tr.words; simp
    unfold bad at hb
    split at hb
    · rename_i z
      subst z
      exact name_fail h hb (by omega) x2 x3
    · split at hb
      · exact fac_fail h (.inl rfl) k1 (by assumption) (by assumption) hw hb (by omega) x2 x3
      · have ei : i = ns.length + 2 := by omega
        subst ei
        have dp := drop_agree (ws := ws) (p := p) (L := Wd.be.str :: (ns.map sI ++ [semi])) (fun j hj => by
          have e := hw j (by simp at hj; omega)
          rw [e]
          have : (Tr.be ns c).words = (Wd.be.str :: (ns.map sI ++ [semi])) ++ [sI c] := by unfold Tr.words; simp
          rw [this, List.getElem?_append_left hj])
        rw [List.cons_append, List.append_assoc] at dp
        obtain ⟨f1, f2⟩ := cmp_con h.hr dp k1 hb (by omega)
        have w0 := (dr dp).1
        exact ⟨_, _, outx_cmp h w0 (tb_none (.inl rfl)) f1 f2 x2 x3, kp_set _⟩
  | .re ns m c, ok, i, p, ls, B, T, x2, x3, h, hi, hw, hb, h1, h2, hp => by
    obtain ⟨k1, k2, k3, k4, k5⟩ := ok
    have lw : (Tr.re ns m c).words.length = ns.length + 4 := by unfold Tr.words; simp
    unfold bad at hb
    split at hb
    · rename_i z
      subst z
      exact name_fail h hb (by omega) x2 x3
    · split at hb
      · exact fac_fail h (.inr rfl) k1 (by assumption) (by assumption) hw hb (by omega) x2 x3
      · split at hb
        · rename_i ei
          subst ei
          have dp := drop_agree (ws := ws) (p := p) (L := Wd.re.str :: (ns.map sI ++ [semi])) (fun j hj => by
            have e := hw j (by simp at hj; omega)
            rw [e]
            have : (Tr.re ns m c).words = (Wd.re.str :: (ns.map sI ++ [semi])) ++ [sI m, sI c] := by unfold Tr.words; simp
            rw [this, List.getElem?_append_left hj])
          rw [List.cons_append, List.append_assoc] at dp
          obtain ⟨f1, f2⟩ := cmp_mod h.hr dp k1 hb (by omega)
          have w0 := (dr dp).1
          exact ⟨_, _, outx_cmp h w0 (tb_none (.inr rfl)) f1 f2 x2 x3, kp_set _⟩
        · have ei : i = ns.length + 3 := by omega
          subst ei
          have dp := drop_agree (ws := ws) (p := p) (L := Wd.re.str :: (ns.map sI ++ [semi, sI m])) (fun j hj => by
            have e := hw j (by simp at hj; omega)
            rw [e]
            have : (Tr.re ns m c).words = (Wd.re.str :: (ns.map sI ++ [semi, sI m])) ++ [sI c] := by unfold Tr.words; simp
            rw [this, List.getElem?_append_left hj])
          rw [List.cons_append, List.append_assoc] at dp
          obtain ⟨f1, f2⟩ := cmp_res h.hr dp k1 k2 k3 hb (by omega)
          have w0 := (dr dp).1
          exact ⟨_, _, outx_cmp h w0 (tb_none (.inr rfl)) f1 f2 x2 x3, kp_set _⟩
  | .nt t, ok, i, p, ls, B, T, x2, x3, h, hi, hw, hb, h1, h2, hp => by
    have lw : (Tr.nt t).words.length = t.words.length + 1 := rfl
    unfold bad at hb
    split at hb
    · rename_i z
      subst z
      exact name_fail h hb (by omega) x2 x3
    · obtain ⟨k, rfl⟩ : ∃ k, i = k + 1 := ⟨i - 1, by omega⟩
      unfold Tr.size at h1 h2
      have w0 : ws[p]? = some Wd.nt.str := hw 0 (by omega)
      obtain ⟨T1, e1, A1, _, len1, fr1⟩ := outx_push h w0 tb_nt (by omega) x2 x3
      rw [e1, show p + (k + 1) = p + 1 + k by omega]
      rw [show p + (k + 1) = p + 1 + k by omega] at hb
      obtain ⟨ρ', T', e2, kp⟩ := fails t ok k (p + 1) ls _ T1 (.dat (.str _)) x3 A1 (by omega) (fun j hj => by
        have := hw (j + 1) (by omega)
        rw [show p + (j + 1) = p + 1 + j by omega] at this
        exact this) hb (by omega) (by rw [List.length_append]; simp; omega) (by omega)
      exact ⟨ρ', T', e2, kp_trans ⟨by omega, fr1⟩ kp⟩
  | .th t, ok, i, p, ls, B, T, x2, x3, h, hi, hw, hb, h1, h2, hp => by
    have lw : (Tr.th t).words.length = t.words.length + 1 := rfl
    unfold bad at hb
    split at hb
    · rename_i z
      subst z
      exact name_fail h hb (by omega) x2 x3
    · obtain ⟨k, rfl⟩ : ∃ k, i = k + 1 := ⟨i - 1, by omega⟩
      unfold Tr.size at h1 h2
      have w0 : ws[p]? = some Wd.th.str := hw 0 (by omega)
      obtain ⟨T1, e1, A1, _, len1, fr1⟩ := outx_push h w0 tb_th (by omega) x2 x3
      rw [e1, show p + (k + 1) = p + 1 + k by omega]
      rw [show p + (k + 1) = p + 1 + k by omega] at hb
      obtain ⟨ρ', T', e2, kp⟩ := fails t ok k (p + 1) ls _ T1 (.dat (.str _)) x3 A1 (by omega) (fun j hj => by
        have := hw (j + 1) (by omega)
        rw [show p + (j + 1) = p + 1 + j by omega] at this
        exact this) hb (by omega) (by rw [List.length_append]; simp; omega) (by omega)
      exact ⟨ρ', T', e2, kp_trans ⟨by omega, fr1⟩ kp⟩
  | .bo t u, ok, i, p, ls, B, T, x2, x3, h, hi, hw, hb, h1, h2, hp => by
    have lw : (Tr.bo t u).words.length = t.words.length + u.words.length + 1 := by show (t.words ++ u.words).length + 1 = _; rw [List.length_append]
    have hrw : (Tr.bo t u).words = Wd.bo.str :: (t.words ++ u.words) := rfl
    unfold bad at hb
    split at hb
    · rename_i z
      subst z
      exact name_fail h hb (by omega) x2 x3
    · obtain ⟨k, rfl⟩ : ∃ k, i = k + 1 := ⟨i - 1, by omega⟩
      unfold Tr.size at h1 h2
      rw [Nat.add_sub_cancel] at hb
      have w0 : ws[p]? = some Wd.bo.str := hw 0 (by omega)
      have rlt := (List.getElem?_eq_some_iff.mp h.hr).1
      have llt := (List.getElem?_eq_some_iff.mp h.hl).1
      have blt := (List.getElem?_eq_some_iff.mp h.hb).1
      obtain ⟨T1, e1, A1, k1, len1, fr1⟩ := outx_push h w0 tb_bo (by omega) x2 x3
      have hw1 : ∀ j, j < k → ws[p + 1 + j]? = (t.words ++ u.words)[j]? := fun j hj => by
        have := hw (j + 1) (by omega)
        rw [show p + (j + 1) = p + 1 + j by omega] at this
        exact this
      rw [e1, show p + (k + 1) = p + 1 + k by omega]
      rw [show p + (k + 1) = p + 1 + k by omega] at hb
      split at hb
      · rename_i hk
        obtain ⟨ρ', T', e2, kp⟩ := fails t ok.1 k (p + 1) ls _ T1 (.dat (.str _)) x3 A1 hk (fun j hj => by rw [hw1 j hj, List.getElem?_append_left (by omega)]) hb (by omega) (by rw [List.length_append]; simp; omega) (by omega)
        exact ⟨ρ', T', e2, kp_trans ⟨by omega, fr1⟩ kp⟩
      · rename_i hk
        have dp := drop_agree (ws := ws) (p := p + 1) (L := t.words) (fun j hj => by rw [hw1 j (by omega), List.getElem?_append_left hj])
        obtain ⟨T2, y2, y3, A2, ⟨le2, fr2⟩, e2⟩ := readsx t (p + 1) ls (B ++ [.tup [.str Wd.bo.str, .ob T.length]]) T1 (.dat (.str Wd.bo.str)) x3 _ A1 dp ok.1 (by omega) (by rw [List.length_append]; simp; omega)
        have k2 : T2[T.length]? = some (.lst []) := by rw [fr2 _ (by omega) (by omega) (by omega) (by omega)]; exact k1
        have sl := t.spread_len ls.length
        have e3 := inx_brk A2 k2 (by omega) (by omega) (by omega) tb_bo (by simp) (by simp) (by rw [List.length_append, sl]; omega) y2 y3
        have A3 : At (T2.set T.length (.lst ([] ++ [.int (((ls ++ t.spread ls.length).length : Int) - 1)]))) r l b ws (p + 1 + t.words.length) (ls ++ t.spread ls.length) (B ++ [.tup [.str Wd.bo.str, .ob T.length]]) :=
          ⟨by rw [ne_set (by omega)]; exact A2.hr, by rw [ne_set (by omega)]; exact A2.hl, by rw [ne_set (by omega)]; exact A2.hb, h.rl, h.rb, h.lb⟩
        have ek : p + 1 + k = p + 1 + t.words.length + (k - t.words.length) := by omega
        rw [ek] at hb ⊢
        obtain ⟨ρ', T', e4, kp⟩ := fails u ok.2 (k - t.words.length) (p + 1 + t.words.length) (ls ++ t.spread ls.length) (B ++ [.tup [.str Wd.bo.str, .ob T.length]]) _ (.dat (.str Wd.bo.str)) (.dat (.ob T.length)) A3 (by omega) (fun j hj => by
          have := hw1 (t.words.length + j) (by omega)
          rw [List.getElem?_append_right (by omega), show t.words.length + j - t.words.length = j by omega, ← Nat.add_assoc] at this
          exact this) hb (by rw [List.length_append, sl]; omega) (by rw [List.length_append]; simp; omega) (by omega)
        refine ⟨ρ', T', e2 _ (e3.trans e4), ?_⟩
        have kq : Keep T (T2.set T.length (.lst ([] ++ [.int (((ls ++ t.spread ls.length).length : Int) - 1)]))) r l b := ⟨by rw [List.length_set]; omega, fun j hj n1 n2 n3 => by rw [ne_set (by omega), fr2 j (by omega) n1 n2 n3, fr1 j hj n1 n2 n3]⟩
        exact kp_trans kq kp
end
end K20
set_option maxHeartbeats 1000000
namespace K20
open Fx LC PM K1 K19
open PySem (Str PyData)
local macro_rules | `(tactic| walk_at "wl") => `(tactic| simp only [runB, runX, seqX, ifX, liX, noX, neverS, bindF_none, Option.map_none, objF, List.replicate_succ, List.replicate_zero, lenD_lst, lenD_tup, seqS, nilS, brkS, cntS, asgF, retF, ifS, testF, binF, varF, varO, constF, ofF, bindF_some, consF, nilF, callF, lstF, tupF, tofF, unpF, negF, setN, tgD, ixF, lenF, dropF, fldF, inTF, ixTF, iiF_int, ctt_eq, eqD_int, addD_int,
  List.map_cons, List.map_nil, List.cons_append, List.nil_append, List.length_cons, List.length_nil, List.getElem?_cons_zero, List.getElem?_cons_succ, List.set_cons_zero, List.set_cons_succ, Option.map_some, Option.isSome_none, Option.isSome_some, if_true, Nat.reduceAdd, Nat.reduceSub, Bool.false_eq_true, if_false, *])
/-! ### what the reader and the law's told say -/
theorem mthGx {c m : String} {g : XF} {fo : FE} {fa : FA} {ρ : Rho} {T : Fx.Tm} {r : Nat} {fs : List (String × D)} {ds : List D} (h1 : fo ρ T = some (.ob r, T)) (h2 : T[r]? = some (.ins c fs)) (h3 : (fs.lookup m).isNone = true) (h4 : fa ρ T = some (ds, T)) : methX c m g fo fa ρ T = g (.ob r :: ds) T := by
  unfold methX
  simp only [h1, bindF_some, h2, h3, h4, and_self, if_true]
theorem wh_none (c : FT) (b : FS) (cx : FXE) (bx : FXS) : ∀ (n : Nat) (ρ : Rho) (T : Fx.Tm) (v : (Xn × Rho) × Fx.Tm), whXL c b cx bx n ρ T = some v → whS c b ρ T = none
  | 0, _, _, _, h => by cases h
  | n + 1, ρ, T, v, h => by
    unfold whXL at h
    rw [whS_eq1]
    generalize c ρ T = q1 at h ⊢
    match q1, h with
    | none, h => rfl
    | some (false, _), h => exact absurd h (by simp)
    | some (true, T1), h =>
      rw [bindF_some, if_pos rfl]
      dsimp only at h
      generalize b ρ T1 = q2 at h ⊢
      match q2, h with
      | none, h => rfl
      | some (.nx ρ2, T2), h => exact wh_none c b cx bx n ρ2 T2 v h
      | some (.ct ρ2, T2), h => exact wh_none c b cx bx n ρ2 T2 v h
      | some (.bk ρ2, T2), h => exact absurd h (by simp)
      | some (.rt d, T2), h => exact absurd h (by simp)
/-- what lay there stays -/
def Fr (T T' : Fx.Tm) : Prop := T.length ≤ T'.length ∧ ∀ j, j < T.length → T'[j]? = T[j]?
theorem fr_of {T T' : Fx.Tm} {x : MO} (h : (T ++ [x, .lst []]).length ≤ T'.length ∧ ∀ j, j < (T ++ [x, .lst []]).length → j ≠ T.length → j ≠ T.length + 1 → T'[j]? = (T ++ [x, .lst []])[j]?) : Fr T T' := by
  have l : (T ++ [x, MO.lst []]).length = T.length + 2 := by rw [List.length_append]; rfl
  rw [l] at h
  refine ⟨by omega, fun j hj => ?_⟩
  rw [h.2 j (by omega) (by omega) (by omega), List.getElem?_append_left hj]
theorem keep_b {T T' : Fx.Tm} {r l : Nat} (h : Keep (T ++ [.lst []]) T' r l T.length) : T.length ≤ T'.length ∧ ∀ j, j < T.length → j ≠ r → j ≠ l → T'[j]? = T[j]? := by
  have l : (T ++ [MO.lst []]).length = T.length + 1 := by rw [List.length_append]; rfl
  obtain ⟨h1, h2⟩ := h
  refine ⟨by omega, fun j hj n1 n2 => ?_⟩
  rw [h2 j (by omega) n1 n2 (by omega), List.getElem?_append_left hj]
theorem readx_run {T : Fx.Tm} {r l : Nat} {ws : List Str} {t : Tr} (h1 : T[r]? = some (RO ws 0 l)) (h2 : T[l]? = some (.lst [])) (ne : r ≠ l) (ok : t.ok) (hs : t.size ≤ 1000) {i : Nat} (hi : i < t.words.length) (hw : ∀ j, j < i → ws[j]? = t.words[j]?) (hb : bad t i ws i) :
    ∃ T', x_Reading_read [.ob r] T = some (IWn i, T') ∧ T.length ≤ T'.length ∧ ∀ j, j < T.length → j ≠ r → j ≠ l → T'[j]? = T[j]? := by
  have rlt := (List.getElem?_eq_some_iff.mp h1).1
  have llt := (List.getElem?_eq_some_iff.mp h2).1
  have wl := t.words_len ok
  have A : At (T ++ [.lst []]) r l T.length ws 0 [] [] := ⟨by rw [List.getElem?_append_left rlt]; exact h1, by rw [List.getElem?_append_left llt]; exact h2, by rw [List.getElem?_append_right (Nat.le_refl _), Nat.sub_self]; rfl, ne, by omega, by omega⟩
  obtain ⟨ρ', T', e, kp⟩ := fails t ok i 0 [] [] (T ++ [.lst []]) .un .un A hi (fun j hj => by rw [Nat.zero_add]; exact hw j hj) (by rw [Nat.zero_add]; exact hb) (by simp; omega) (by simp; omega) (by omega)
  rw [Nat.zero_add] at e
  have e3 : whX (testF (constF (.bl true))) outB (fun _ _ => none) outBX [.dat (.ob r), .dat (.ob T.length), .un, .un] (T ++ [.lst []]) = some ((IWn i, ρ'), T') := e
  -- the loop doesn't end in the normal way
  have e4 : whS (testF (constF (.bl true))) outB [.dat (.ob r), .dat (.ob T.length), .un, .un] (T ++ [.lst []]) = none := by
    obtain ⟨n, hn⟩ := whX_eq e3
    exact wh_none _ _ _ _ n _ _ _ hn
  have l0 : (0 : Nat) ≤ PySem.sizeLine := Nat.zero_le _
  refine ⟨T', ?_, keep_b kp⟩
  clear kp
  unfold x_Reading_read
  rw [readx_eq]
  clear A e h1 h2 rlt llt hw hb hi wl hs ok
  generalize whS (testF (constF (.bl true))) outB = V at *
  generalize whX (testF (constF (.bl true))) outB (fun _ _ => none) outBX = W at *
  walk_at "wl"
/-- the reading of a text ends at a word -/
theorem parse_bad {ws : List Str} {t : Tr} (ok : t.ok) (hs : t.size ≤ 1000) {i : Nat} (hi : i < t.words.length) (hw : ∀ j, j < i → ws[j]? = t.words[j]?) (hb : bad t i ws i) {x : Str} (hx : PySem.Txt.split x sp_ = ws) (hl : x.length ≤ 1000000) (T : Fx.Tm) :
    ∃ T', x_parse_saying [.str x] T = some (IWn i, T') ∧ Fr T T' := by
  have e0 : splitF (varF 0) (constF (.str (Str.ofString " "))) [.dat (.str x), .un, .un] T = some (ws.map D.str, T) := by
    unfold splitF
    simp only [varF, constF, List.getElem?_cons_zero, bindF_some]
    rw [if_pos (dc_of ⟨by decide +kernel, by rw [line_eq]; omega⟩)]
    rw [show Str.ofString " " = sp_ from rfl, hx]
  have e1 := init_run T ws
  have hr : (T ++ [RO ws 0 (T.length + 1), .lst []])[T.length]? = some (RO ws 0 (T.length + 1)) := by rw [List.getElem?_append_right (Nat.le_refl _), Nat.sub_self]; rfl
  have hl2 : (T ++ [RO ws 0 (T.length + 1), .lst []])[T.length + 1]? = some (.lst []) := by rw [List.getElem?_append_right (by omega), show T.length + 1 - T.length = 1 by omega]; rfl
  obtain ⟨T', e2, kp⟩ := readx_run hr hl2 (by omega) ok hs hi hw hb
  have e3 := read_none e2
  have mk : mkF "Reading" h_Reading___init__ (consF (frzF (splitF (varF 0) (constF (.str (Str.ofString " "))))) (nilF)) [.dat (.str x), .un, .un] T = some (.ob T.length, T ++ [RO ws 0 (T.length + 1), .lst []]) := by
    unfold mkF
    simp only [consF, nilF, frzF, e0, bindF_some, e1]
  have m2 := mthG (c := "Reading") (m := "read") (h := h_Reading_read) (fo := varF 1) (fa := nilF) (ρ := [.dat (.str x), .dat (.ob T.length), .un]) (ds := []) rfl hr (no_meth ws 0 (T.length + 1) "read" (by decide) (by decide) (by decide)) rfl
  have m3 := mthGx (c := "Reading") (m := "read") (g := x_Reading_read) (fo := varF 1) (fa := nilF) (ρ := [.dat (.str x), .dat (.ob T.length), .un]) (ds := []) rfl hr (no_meth ws 0 (T.length + 1) "read" (by decide) (by decide) (by decide)) rfl
  refine ⟨T', ?_, fr_of kp⟩
  clear kp
  unfold x_parse_saying gx_parse_saying
  clear e0 e1 hr hl hl2 hs ok hi hw hb hx
  walk_at "wl"
/-- a whole saying is read from a longer text -/
theorem read_more {T : Fx.Tm} {r l : Nat} {ws more : List Str} {t : Tr} (h1 : T[r]? = some (RO ws 0 l)) (h2 : T[l]? = some (.lst [])) (ne : r ≠ l) (ok : t.ok) (hs : t.size ≤ 1000) (hw : ws = t.words ++ more) :
    ∃ T', h_Reading_read [.ob r] T = some (.tup ((t.spread 0).map Line.d), T') ∧ T'[r]? = some (RO ws t.words.length l) ∧ T.length ≤ T'.length ∧ ∀ j, j < T.length → j ≠ r → j ≠ l → T'[j]? = T[j]? := by
  have rlt := (List.getElem?_eq_some_iff.mp h1).1
  have llt := (List.getElem?_eq_some_iff.mp h2).1
  have A : At (T ++ [.lst []]) r l T.length ws 0 [] [] := ⟨by rw [List.getElem?_append_left rlt]; exact h1, by rw [List.getElem?_append_left llt]; exact h2, by rw [List.getElem?_append_right (Nat.le_refl _), Nat.sub_self]; rfl, ne, by omega, by omega⟩
  obtain ⟨T', y2, y3, A2, kp, e⟩ := reads t 0 [] [] (T ++ [.lst []]) .un .un more A (by rw [List.drop_zero]; exact hw) ok (by simp; omega) (by simp; omega)
  rw [List.nil_append] at A2
  have e2 := in_fin A2 y2 y3
  refine ⟨T', ?_, by have := A2.hr; rw [Nat.zero_add] at this; exact this, keep_b kp⟩
  clear kp
  have e3 : whS (testF (constF (.bl true))) outB [.dat (.ob r), .dat (.ob T.length), .un, .un] (T ++ [.lst []]) = some (.rt (.tup ((t.spread 0).map Line.d)), T') := e.trans e2
  have l0 : (0 : Nat) ≤ PySem.sizeLine := Nat.zero_le _
  unfold h_Reading_read
  rw [read_eq]
  clear A A2 e e2 h1 h2 rlt llt hw
  walk_at "wl"
/-- behind a saying stands a further word -/
theorem parse_more {ws more : List Str} {t : Tr} (ok : t.ok) (hs : t.size ≤ 1000) (hw : ws = t.words ++ more) (hm : more ≠ []) {x : Str} (hx : PySem.Txt.split x sp_ = ws) (hl : x.length ≤ 1000000) (T : Fx.Tm) :
    ∃ T', x_parse_saying [.str x] T = some (IWn t.words.length, T') ∧ Fr T T' := by
  have e0 : splitF (varF 0) (constF (.str (Str.ofString " "))) [.dat (.str x), .un, .un] T = some (ws.map D.str, T) := by
    unfold splitF
    simp only [varF, constF, List.getElem?_cons_zero, bindF_some]
    rw [if_pos (dc_of ⟨by decide +kernel, by rw [line_eq]; omega⟩)]
    rw [show Str.ofString " " = sp_ from rfl, hx]
  have e1 := init_run T ws
  have hr : (T ++ [RO ws 0 (T.length + 1), .lst []])[T.length]? = some (RO ws 0 (T.length + 1)) := by rw [List.getElem?_append_right (Nat.le_refl _), Nat.sub_self]; rfl
  have hl2 : (T ++ [RO ws 0 (T.length + 1), .lst []])[T.length + 1]? = some (.lst []) := by rw [List.getElem?_append_right (by omega), show T.length + 1 - T.length = 1 by omega]; rfl
  obtain ⟨T', e2, h2, kp⟩ := read_more hr hl2 (by omega) ok hs hw
  have f1 := f_at h2
  have f2 := f_words h2
  have wl := t.words_len ok
  have d1 : decide (((t.words.length : Nat) : Int) < ((((ws.map D.str).length : Nat)) : Int)) = true := decide_eq_true (by
    have : more.length ≠ 0 := fun z => hm (List.length_eq_zero_iff.mp z)
    rw [List.length_map, hw, List.length_append]
    omega)
  have e5 := mk_at (f := fldF ["Reading"] "at" (varF 1)) (ρ := [.dat (.str x), .dat (.ob T.length), .dat (.tup ((t.spread 0).map Line.d))]) (f_atF h2 rfl) (by omega)
  have mk : mkF "Reading" h_Reading___init__ (consF (frzF (splitF (varF 0) (constF (.str (Str.ofString " "))))) (nilF)) [.dat (.str x), .un, .un] T = some (.ob T.length, T ++ [RO ws 0 (T.length + 1), .lst []]) := by
    unfold mkF
    simp only [consF, nilF, frzF, e0, bindF_some, e1]
  have m2 := mthG (c := "Reading") (m := "read") (h := h_Reading_read) (fo := varF 1) (fa := nilF) (ρ := [.dat (.str x), .dat (.ob T.length), .un]) (ds := []) rfl hr (no_meth ws 0 (T.length + 1) "read" (by decide) (by decide) (by decide)) rfl
  refine ⟨T', ?_, fr_of kp⟩
  clear kp
  unfold x_parse_saying gx_parse_saying
  generalize liX (mkX "InvalidWord" "number" (fldF ["Reading"] "at" (varF 1))) = Q at *
  clear e0 e1 hr hl hl2 hs ok hw hm hx wl h2
  walk_at "wl"
/-- too many lines -/
theorem parse_long {t : Tr} (ok : t.ok) (hs : t.size ≤ 1000) (hg : 40 < t.size) (T : Fx.Tm) : ∃ T', x_parse_saying [.str t.text] T = some (⟨"TooLarge", []⟩, T') ∧ Fr T T' := by
  have tl := text_len ok (by omega)
  have e0 : splitF (varF 0) (constF (.str (Str.ofString " "))) [.dat (.str t.text), .un, .un] T = some (t.words.map D.str, T) := by
    unfold splitF
    simp only [varF, constF, List.getElem?_cons_zero, bindF_some]
    rw [if_pos (dc_of ⟨by decide +kernel, by rw [line_eq]; omega⟩)]
    rw [show Str.ofString " " = sp_ from rfl, text_split ok]
  have e1 := init_run T t.words
  have hr : (T ++ [RO t.words 0 (T.length + 1), .lst []])[T.length]? = some (RO t.words 0 (T.length + 1)) := by rw [List.getElem?_append_right (Nat.le_refl _), Nat.sub_self]; rfl
  have hl : (T ++ [RO t.words 0 (T.length + 1), .lst []])[T.length + 1]? = some (.lst []) := by rw [List.getElem?_append_right (by omega), show T.length + 1 - T.length = 1 by omega]; rfl
  obtain ⟨T', e2, h2, kp⟩ := read_more (more := []) hr hl (by omega) ok hs (by simp)
  have f1 := f_at h2
  have f2 := f_words h2
  have sl := t.spread_len 0
  have d1 : decide (((t.words.length : Nat) : Int) < ((((t.words.map D.str).length : Nat)) : Int)) = false := decide_eq_false (by rw [List.length_map]; omega)
  have d2 : decide ((40 : Int) < ((((t.spread 0).map Line.d).length : Nat) : Int)) = true := decide_eq_true (by rw [List.length_map, sl]; omega)
  have mk : mkF "Reading" h_Reading___init__ (consF (frzF (splitF (varF 0) (constF (.str (Str.ofString " "))))) (nilF)) [.dat (.str t.text), .un, .un] T = some (.ob T.length, T ++ [RO t.words 0 (T.length + 1), .lst []]) := by
    unfold mkF
    simp only [consF, nilF, frzF, e0, bindF_some, e1]
  have m2 := mthG (c := "Reading") (m := "read") (h := h_Reading_read) (fo := varF 1) (fa := nilF) (ρ := [.dat (.str t.text), .dat (.ob T.length), .un]) (ds := []) rfl hr (no_meth t.words 0 (T.length + 1) "read" (by decide) (by decide) (by decide)) rfl
  refine ⟨T', ?_, fr_of kp⟩
  clear kp
  unfold x_parse_saying gx_parse_saying
  clear e0 e1 hr hl hs ok hg tl sl h2
  walk_at "wl"
/-- a whole saying -/
theorem parse_ok {t : Tr} (ok : t.ok) (hs : t.size ≤ 40) (T : Fx.Tm) : ∃ T', h_parse_saying [.str t.text] T = some (.tup ((t.spread 0).map Line.d), T') ∧ Fr T T' := by
  have tl := text_len ok (by omega)
  have e0 : splitF (varF 0) (constF (.str (Str.ofString " "))) [.dat (.str t.text), .un, .un] T = some (t.words.map D.str, T) := by
    unfold splitF
    simp only [varF, constF, List.getElem?_cons_zero, bindF_some]
    rw [if_pos (dc_of ⟨by decide +kernel, by rw [line_eq]; omega⟩)]
    rw [show Str.ofString " " = sp_ from rfl, text_split ok]
  have e1 := init_run T t.words
  have hr : (T ++ [RO t.words 0 (T.length + 1), .lst []])[T.length]? = some (RO t.words 0 (T.length + 1)) := by rw [List.getElem?_append_right (Nat.le_refl _), Nat.sub_self]; rfl
  have hl : (T ++ [RO t.words 0 (T.length + 1), .lst []])[T.length + 1]? = some (.lst []) := by rw [List.getElem?_append_right (by omega), show T.length + 1 - T.length = 1 by omega]; rfl
  obtain ⟨T', e2, h2, kp⟩ := read_more (more := []) hr hl (by omega) ok (by omega) (by simp)
  have f1 := f_at h2
  have f2 := f_words h2
  have sl := t.spread_len 0
  have d1 : decide (((t.words.length : Nat) : Int) < ((((t.words.map D.str).length : Nat)) : Int)) = false := decide_eq_false (by rw [List.length_map]; omega)
  have d2 : decide ((40 : Int) < ((((t.spread 0).map Line.d).length : Nat) : Int)) = false := decide_eq_false (by rw [List.length_map, sl]; omega)
  have mk : mkF "Reading" h_Reading___init__ (consF (frzF (splitF (varF 0) (constF (.str (Str.ofString " "))))) (nilF)) [.dat (.str t.text), .un, .un] T = some (.ob T.length, T ++ [RO t.words 0 (T.length + 1), .lst []]) := by
    unfold mkF
    simp only [consF, nilF, frzF, e0, bindF_some, e1]
  have m2 := mthG (c := "Reading") (m := "read") (h := h_Reading_read) (fo := varF 1) (fa := nilF) (ρ := [.dat (.str t.text), .dat (.ob T.length), .un]) (ds := []) rfl hr (no_meth t.words 0 (T.length + 1) "read" (by decide) (by decide) (by decide)) rfl
  refine ⟨T', ?_, fr_of kp⟩
  unfold h_parse_saying g_parse_saying
  clear e0 e1 hr hl hs ok tl sl h2 kp
  walk_at "wl"
/-! ### told -/
theorem told_x {x : Str} {T T' : Fx.Tm} {i : Nat} (h : x_parse_saying [.str x] T = some (IWn i, T')) : h__law_told [.str x] T = some (.int (i : Int), T') := by
  have hn := parse_none h
  have g1 : callX x_parse_saying (consF (varF 0) (nilF)) [.dat (.str x), .un] T = some (IWn i, T') := by
    unfold callX
    simp only [consF, varF, nilF, List.getElem?_cons_zero, bindF_some, h]
  have g2 : callF h_parse_saying (consF (varF 0) (nilF)) [.dat (.str x), .un] T = none := by
    simp only [callF, consF, varF, nilF, List.getElem?_cons_zero, bindF_some, hn]
  have t1 : toldF 1 (callF h_parse_saying (consF (varF 0) (nilF))) (callX x_parse_saying (consF (varF 0) (nilF))) [.dat (.str x), .un] T = some (.rt (.int (i : Int)), T') := by
    unfold toldF
    rw [g2, g1]
    rfl
  unfold h__law_told g__law_told
  clear g1 g2 hn h
  walk_at "wl"
theorem told_l {x : Str} {T T' : Fx.Tm} (h : x_parse_saying [.str x] T = some (⟨"TooLarge", []⟩, T')) : h__law_told [.str x] T = some (.int (-4), T') := by
  have hn := parse_none h
  have g1 : callX x_parse_saying (consF (varF 0) (nilF)) [.dat (.str x), .un] T = some (⟨"TooLarge", []⟩, T') := by
    unfold callX
    simp only [consF, varF, nilF, List.getElem?_cons_zero, bindF_some, h]
  have g2 : callF h_parse_saying (consF (varF 0) (nilF)) [.dat (.str x), .un] T = none := by
    simp only [callF, consF, varF, nilF, List.getElem?_cons_zero, bindF_some, hn]
  have t1 : toldF 1 (callF h_parse_saying (consF (varF 0) (nilF))) (callX x_parse_saying (consF (varF 0) (nilF))) [.dat (.str x), .un] T = some (.rt (.int (-4)), T') := by
    unfold toldF
    rw [g2, g1]
    rfl
  unfold h__law_told g__law_told
  clear g1 g2 hn h
  walk_at "wl"
theorem told_n {x : Str} {T T' : Fx.Tm} {d : D} (h : h_parse_saying [.str x] T = some (d, T')) : h__law_told [.str x] T = some (.int (-1), T') := by
  have g2 : callF h_parse_saying (consF (varF 0) (nilF)) [.dat (.str x), .un] T = some (d, T') := by
    simp only [callF, consF, varF, nilF, List.getElem?_cons_zero, bindF_some, h]
  have t1 : toldF 1 (callF h_parse_saying (consF (varF 0) (nilF))) (callX x_parse_saying (consF (varF 0) (nilF))) [.dat (.str x), .un] T = some (.nx [.dat (.str x), .un], T') := by
    unfold toldF
    rw [g2]
  have s1 : binF subD (constF (.int 0)) (constF (.int 1)) [.dat (.str x), .un] T' = some (.int (-1), T') := rfl
  unfold h__law_told g__law_told
  generalize binF subD (constF (.int 0)) (constF (.int 1)) = Q at *
  clear g2 h
  walk_at "wl"
end K20
namespace K20
open Fx LC PM K1 K19
local macro_rules | `(tactic| walk_at "fs") => `(tactic| simp only [runB, seqS, nilS, asgF, ownF, retF, ifS, testF, binF, varF, varO, constF, ofF, ixF, ixD, seqD, lenF, lenD, unpF, tgD, setN, bindF_some, bindF_none, blF, consF, nilF, intD, iiF_int, ctt_eq, addD_int, setF, callF, tofF,
  List.map_cons, List.map_nil, List.cons_append, List.nil_append, List.length_cons, List.length_nil, List.length_map, List.replicate_succ, List.replicate_zero, List.getElem?_cons_zero, List.getElem?_cons_succ, List.set_cons_zero, List.set_cons_succ, Option.map_some, if_true, Nat.reduceAdd, Nat.reduceSub,
  decide_eq_true_eq, if_pos, if_neg, decide_true, decide_false, Bool.false_eq_true, if_false, ne_eq, not_false_eq_true, *])
/-- the law's state, further objects behind it -/
def eSR (ns : List Int) (a b c : Int) (R : Fx.Tm) : Fx.Tm := .lst [.int a, .int b, .lst (ns.map D.int), .int c] :: R
def StR (ns : List Int) (T : Fx.Tm) : Prop := ∃ a b c R, 0 ≤ b ∧ T = eSR ns a b c R
set_option maxHeartbeats 4000000 in
theorem drawR_run (ns : List Int) (a b c n : Int) (R : Fx.Tm) (hb : 0 ≤ b) (hn : 0 < n) (hn2 : n < 1073741824) :
    ∃ d a' b' c', 0 ≤ d ∧ d < n ∧ 0 ≤ b' ∧ h__law_draw [.ob 0, .int n] (eSR ns a b c R) = some (.int d, eSR ns a' b' c' R) := by
  unfold h__law_draw g__law_draw eSR
  have d1 : ∀ x, cMod x n = true := fun x => cmd (by omega)
  have d2 : ∀ x, cDiv x n = true := fun x => cdv (by omega) (by omega)
  have m1 : ∀ x, cMod x 2147483629 = true := fun x => cmd (by decide)
  have m2 : ∀ x, cMod x 2147483647 = true := fun x => cmd (by decide)
  have m3 : ∀ x, cMod x 2147483587 = true := fun x => cmd (by decide)
  have p1 : ∀ x, cMul x 48271 = true := fun x => cm (by omega)
  have p2 : ∀ x, cMul x 69621 = true := fun x => cm (by omega)
  have p3 : ∀ x, cMul x 2147483647 = true := fun x => cm (by omega)
  have p4 : ∀ x, cMul x 30011 = true := fun x => cm (by omega)
  have q0 := @ix0
  have q1 := @ix1
  have q2 := @ix2
  have q3 := @ix3
  have e0 := n4_0
  have e1 := n4_1
  have e3 := n4_3
  have pw := cpw
  have mm : ∀ i j, mulD (.int i) (.int j) = if cMul i j then some (.int (i * j)) else none := fun _ _ => rfl
  by_cases h1 : a < n
  · by_cases h2 : b < ns.length
    · obtain ⟨v, hv⟩ := atI_ints (ns := ns) hb h2
      by_cases h3 : (10 : Int) ^ (18 : Int).toNat ≤ v
      · walk_at "fs"
        exact ⟨_, _, _, _, (fmod_lt v hn).1, (fmod_lt v hn).2, by omega, rfl⟩
      · walk_at "fs"
        exact ⟨_, _, _, _, (fmod_lt _ hn).1, (fmod_lt _ hn).2, by omega, rfl⟩
    · have h3 : ¬ (10 : Int) ^ (18 : Int).toNat ≤ 0 := by decide
      walk_at "fs"
      exact ⟨_, _, _, _, (fmod_lt _ hn).1, (fmod_lt _ hn).2, by omega, rfl⟩
  · walk_at "fs"
    exact ⟨_, _, _, _, (fmod_lt a hn).1, (fmod_lt a hn).2, hb, rfl⟩
theorem drawR_st {ns : List Int} {T : Fx.Tm} (h : StR ns T) {n : Int} (h0 : 0 < n) (h1 : n < 1073741824) : ∃ d T', 0 ≤ d ∧ d < n ∧ StR ns T' ∧ h__law_draw [.ob 0, .int n] T = some (.int d, T') := by
  obtain ⟨a, b, c, R, hb, rfl⟩ := h
  obtain ⟨d, a', b', c', h2, h3, h4, h5⟩ := drawR_run ns a b c n R hb h0 h1
  exact ⟨d, _, h2, h3, ⟨a', b', c', R, h4, rfl⟩, h5⟩
theorem StR.of {ns : List Int} {T : Fx.Tm} (h : St ns T) : StR ns T := by
  obtain ⟨a, b, c, hb, rfl⟩ := h
  exact ⟨a, b, c, [], hb, rfl⟩
theorem StR.fr {ns : List Int} {T T' : Fx.Tm} (h : StR ns T) (f : Fr T T') : StR ns T' := by
  obtain ⟨a, b, c, R, hb, rfl⟩ := h
  have := f.2 0 (Nat.zero_lt_succ _)
  cases T' with
  | nil => cases this
  | cons x R' =>
    cases (show some x = _ from this)
    exact ⟨a, b, c, R', hb, rfl⟩
end K20
set_option maxHeartbeats 1000000
namespace K20
open Fx LC PM K1 K19
open PySem (Str PyData)
/-! ### the places of the words -/
def NumAt (t : Tr) (i : Nat) (lim : Int) : Prop := ∃ n : Int, -lim ≤ n ∧ n ≤ lim ∧ t.words[i]? = some (sI n)
inductive Pl (t : Tr) (i : Nat) : Prop where
  | nm : (∃ a : Wd, a ≠ .un ∧ t.words[i]? = some a.str) → (∀ ws q, Bd badName ws q → bad t i ws q) → Pl t i
  | sm : t.words[i]? = some semi → (∀ ws q, (∀ k, Bd (badF k) ws q) → bad t i ws q) → Pl t i
  | fc : NumAt t i 9 → 1 ≤ i → (∀ ws q, (∀ k, Bd (badF k) ws q) → bad t i ws q) → Pl t i
  | nu : NumAt t i 99 → (∃ j, i = j + 1 ∧ (t.words[j]? = some semi ∨ ∃ j', j = j' + 1 ∧ t.words[j']? = some semi ∧ NumAt t j 99)) → (∀ ws q, (∀ lo hi, Bd (badN lo hi) ws q) → bad t i ws q) → Pl t i
theorem pl_cons {t u : Tr} {a : Wd} (ha : a ≠ .un) (hw : u.words = a.str :: t.words) (hb0 : ∀ ws q, Bd badName ws q → bad u 0 ws q) (hbs : ∀ i ws q, bad t i ws q → bad u (i + 1) ws q) (h : ∀ i, i < t.words.length → Pl t i) (i : Nat) (hi : i < u.words.length) : Pl u i := by
  cases i with
  | zero => exact .nm ⟨a, ha, by rw [hw]; rfl⟩ hb0
  | succ i =>
    have e : ∀ j, u.words[j + 1]? = t.words[j]? := fun j => by rw [hw]; rfl
    rw [hw, List.length_cons] at hi
    cases h i (by omega) with
    | nm h1 h2 => obtain ⟨b, hb, q⟩ := h1; exact .nm ⟨b, hb, by rw [e]; exact q⟩ fun ws q hb => hbs _ _ _ (h2 ws q hb)
    | sm h1 h2 => exact .sm (by rw [e]; exact h1) fun ws q hb => hbs _ _ _ (h2 ws q hb)
    | fc h1 h0 h2 => obtain ⟨n, a1, a2, a3⟩ := h1; exact .fc ⟨n, a1, a2, by rw [e]; exact a3⟩ (by omega) fun ws q hb => hbs _ _ _ (h2 ws q hb)
    | nu h1 h0 h2 =>
      obtain ⟨n, a1, a2, a3⟩ := h1
      obtain ⟨j, rfl, h0⟩ := h0
      refine .nu ⟨n, a1, a2, by rw [e]; exact a3⟩ ⟨j + 1, rfl, ?_⟩ fun ws q hb => hbs _ _ _ (h2 ws q hb)
      rcases h0 with h0 | ⟨j', rfl, h0, m, b1, b2, b3⟩
      · exact .inl (by rw [e]; exact h0)
      · exact .inr ⟨j' + 1, rfl, by rw [e]; exact h0, m, b1, b2, by rw [e]; exact b3⟩
theorem get_fac {ns : List Int} {L : List Str} {i : Nat} (hi : i < ns.length) : (ns.map sI ++ L)[i]? = some (sI ns[i]) := by
  rw [List.getElem?_append_left (by rw [List.length_map]; exact hi), List.getElem?_map, List.getElem?_eq_getElem hi]
  rfl
theorem get_beh {ns : List Int} {L : List Str} (i : Nat) : (ns.map sI ++ L)[ns.length + i]? = L[i]? := by
  rw [List.getElem?_append_right (by rw [List.length_map]; omega), List.length_map]
  congr 1
  omega
theorem place : ∀ (t : Tr), t.ok → ∀ i, i < t.words.length → Pl t i
  | .be ns c, ok, i, hi => by
    obtain ⟨k1, k2, k3⟩ := ok
    have hw : (Tr.be ns c).words = Wd.be.str :: (ns.map sI ++ [semi, sI c]) := rfl
    have lw : (Tr.be ns c).words.length = ns.length + 3 := by unfold Tr.words; simp
    cases i with
    | zero => exact .nm ⟨.be, nofun, rfl⟩ fun ws q hb => by unfold bad; rw [if_pos rfl]; exact hb
    | succ i =>
      have e : ∀ j, (Tr.be ns c).words[j + 1]? = (ns.map sI ++ [semi, sI c])[j]? := fun j => rfl
      by_cases c1 : i < ns.length
      · refine .fc ⟨ns[i], (k1.2 _ (List.getElem_mem c1)).1, (k1.2 _ (List.getElem_mem c1)).2, by rw [e]; exact get_fac c1⟩ (by omega) fun ws q hb => ?_
        unfold bad
        rw [if_neg (by omega), if_pos (by omega)]
        exact hb _
      · by_cases c2 : i = ns.length
        · subst c2
          refine .sm (by rw [e]; exact get_beh 0) fun ws q hb => ?_
          unfold bad
          rw [if_neg (by omega), if_pos (by omega)]
          exact hb _
        · have c3 : i = ns.length + 1 := by omega
          subst c3
          refine .nu ⟨c, k2, k3, by rw [e]; exact get_beh 1⟩ ⟨ns.length + 1, rfl, .inl (by rw [e]; exact get_beh 0)⟩ fun ws q hb => ?_
          unfold bad
          rw [if_neg (by omega), if_neg (by omega)]
          exact hb _ _
  | .re ns m c, ok, i, hi => by
    obtain ⟨k1, k2, k3, k4, k5⟩ := ok
    have lw : (Tr.re ns m c).words.length = ns.length + 4 := by unfold Tr.words; simp
    cases i with
    | zero => exact .nm ⟨.re, nofun, rfl⟩ fun ws q hb => by unfold bad; rw [if_pos rfl]; exact hb
    | succ i =>
      have e : ∀ j, (Tr.re ns m c).words[j + 1]? = (ns.map sI ++ [semi, sI m, sI c])[j]? := fun j => rfl
      by_cases c1 : i < ns.length
      · refine .fc ⟨ns[i], (k1.2 _ (List.getElem_mem c1)).1, (k1.2 _ (List.getElem_mem c1)).2, by rw [e]; exact get_fac c1⟩ (by omega) fun ws q hb => ?_
        unfold bad
        rw [if_neg (by omega), if_pos (by omega)]
        exact hb _
      · by_cases c2 : i = ns.length
        · subst c2
          refine .sm (by rw [e]; exact get_beh 0) fun ws q hb => ?_
          unfold bad
          rw [if_neg (by omega), if_pos (by omega)]
          exact hb _
        · by_cases c3 : i = ns.length + 1
          · subst c3
            refine .nu ⟨m, by omega, by omega, by rw [e]; exact get_beh 1⟩ ⟨ns.length + 1, rfl, .inl (by rw [e]; exact get_beh 0)⟩ fun ws q hb => ?_
            unfold bad
            rw [if_neg (by omega), if_neg (by omega), if_pos (by omega)]
            exact hb _ _
          · have c4 : i = ns.length + 2 := by omega
            subst c4
            refine .nu ⟨c, by omega, by omega, by rw [e]; exact get_beh 2⟩ ⟨ns.length + 2, rfl, .inr ⟨ns.length + 1, rfl, by rw [e]; exact get_beh 0, m, by omega, by omega, by rw [e]; exact get_beh 1⟩⟩ fun ws q hb => ?_
            unfold bad
            rw [if_neg (by omega), if_neg (by omega), if_neg (by omega)]
            exact hb _ _
  | .nt t, ok, i, hi => pl_cons (a := .nt) nofun rfl (fun ws q hb => by unfold bad; rw [if_pos rfl]; exact hb) (fun i ws q hb => by unfold bad; rw [if_neg (by omega)]; exact hb) (place t ok) i hi
  | .th t, ok, i, hi => pl_cons (a := .th) nofun rfl (fun ws q hb => by unfold bad; rw [if_pos rfl]; exact hb) (fun i ws q hb => by unfold bad; rw [if_neg (by omega)]; exact hb) (place t ok) i hi
  | .bo t u, ok, i, hi => by
    have hw : (Tr.bo t u).words = Wd.bo.str :: (t.words ++ u.words) := rfl
    cases i with
    | zero => exact .nm ⟨.bo, nofun, rfl⟩ fun ws q hb => by unfold bad; rw [if_pos rfl]; exact hb
    | succ i =>
      rw [hw, List.length_cons, List.length_append] at hi
      by_cases c : i < t.words.length
      · have e : ∀ j, j < t.words.length → (Tr.bo t u).words[j + 1]? = t.words[j]? := fun j hj => by
          show (t.words ++ u.words)[j]? = _
          rw [List.getElem?_append_left hj]
        have hbs : ∀ ws q, bad t i ws q → bad (.bo t u) (i + 1) ws q := fun ws q hb => by unfold bad; rw [if_neg (by omega), Nat.add_sub_cancel, if_pos c]; exact hb
        cases place t ok.1 i c with
        | nm h1 h2 => obtain ⟨b, hb, q⟩ := h1; exact .nm ⟨b, hb, by rw [e _ c]; exact q⟩ fun ws q hb => hbs _ _ (h2 ws q hb)
        | sm h1 h2 => exact .sm (by rw [e _ c]; exact h1) fun ws q hb => hbs _ _ (h2 ws q hb)
        | fc h1 h0 h2 => obtain ⟨n, a1, a2, a3⟩ := h1; exact .fc ⟨n, a1, a2, by rw [e _ c]; exact a3⟩ (by omega) fun ws q hb => hbs _ _ (h2 ws q hb)
        | nu h1 h0 h2 =>
          obtain ⟨n, a1, a2, a3⟩ := h1
          obtain ⟨j, rfl, h0⟩ := h0
          refine .nu ⟨n, a1, a2, by rw [e _ c]; exact a3⟩ ⟨j + 1, rfl, ?_⟩ fun ws q hb => hbs _ _ (h2 ws q hb)
          rcases h0 with h0 | ⟨j', rfl, h0, m, b1, b2, b3⟩
          · exact .inl (by rw [e _ (by omega)]; exact h0)
          · exact .inr ⟨j' + 1, rfl, by rw [e _ (by omega)]; exact h0, m, b1, b2, by rw [e _ (by omega)]; exact b3⟩
      · obtain ⟨k, rfl⟩ : ∃ k, i = t.words.length + k := ⟨i - t.words.length, by omega⟩
        have e : ∀ j, (Tr.bo t u).words[t.words.length + j + 1]? = u.words[j]? := fun j => by
          show (t.words ++ u.words)[t.words.length + j]? = _
          rw [List.getElem?_append_right (by omega)]
          congr 1
          omega
        have hbs : ∀ ws q, bad u k ws q → bad (.bo t u) (t.words.length + k + 1) ws q := fun ws q hb => by
          unfold bad
          rw [if_neg (by omega), Nat.add_sub_cancel, if_neg (by omega), Nat.add_sub_cancel_left]
          exact hb
        cases place u ok.2 k (by omega) with
        | nm h1 h2 => obtain ⟨b, hb, q⟩ := h1; exact .nm ⟨b, hb, by rw [e]; exact q⟩ fun ws q hb => hbs _ _ (h2 ws q hb)
        | sm h1 h2 => exact .sm (by rw [e]; exact h1) fun ws q hb => hbs _ _ (h2 ws q hb)
        | fc h1 h0 h2 => obtain ⟨n, a1, a2, a3⟩ := h1; exact .fc ⟨n, a1, a2, by rw [e]; exact a3⟩ (by omega) fun ws q hb => hbs _ _ (h2 ws q hb)
        | nu h1 h0 h2 =>
          obtain ⟨n, a1, a2, a3⟩ := h1
          obtain ⟨j, rfl, h0⟩ := h0
          refine .nu ⟨n, a1, a2, by rw [e]; exact a3⟩ ⟨t.words.length + j + 1, by omega, ?_⟩ fun ws q hb => hbs _ _ (h2 ws q hb)
          rcases h0 with h0 | ⟨j', rfl, h0, m, b1, b2, b3⟩
          · exact .inl (by rw [e]; exact h0)
          · exact .inr ⟨t.words.length + j' + 1, by omega, by rw [e]; exact h0, m, b1, b2, by rw [show t.words.length + (j' + 1) + 1 = t.words.length + (j' + 1) + 1 from rfl, e]; exact b3⟩
end K20
set_option maxHeartbeats 1000000
namespace K20
open Fx LC PM K1 K19
open PySem (Str PyData)
def nm5 : List Str := [Str.ofString "below", Str.ofString "rest", Str.ofString "not", Str.ofString "both", Str.ofString "there"]
def L1 : List Str := [Str.ofString "", Str.ofString "x", Str.ofString "Below", Str.ofString ":", Str.ofString "belo", Str.ofString ";;", Str.ofString "10", Str.ofString "1.5", Str.ofString "--1"]
def sm2 : List Str := [Str.ofString "below", Str.ofString "rest"]
def L3 : List Str := [Str.ofString "", Str.ofString "x", Str.ofString "01", Str.ofString "-0", Str.ofString "100", Str.ofString "-100", Str.ofString "+1", Str.ofString "1.", Str.ofString "--1", Str.ofString "below", Str.ofString "-", Str.ofString "-01", Str.ofString "00", Str.ofString "-00", Str.ofString "1_0", Str.ofString "1-"]
def cF : List Str → FA
  | [] => nilF
  | x :: xs => consF (constF (.str x)) (cF xs)
theorem cF_run : ∀ (xs : List Str) (ρ : Rho) (T : Fx.Tm), cF xs ρ T = some (xs.map D.str, T)
  | [], _, _ => rfl
  | x :: xs, ρ, T => by
    unfold cF
    simp only [consF, constF, bindF_some, cF_run xs ρ T]
    rfl
theorem lit_run (xs : List Str) (h : xs.length ≤ 1000) (ρ : Rho) (T : Fx.Tm) : frzF (lstF (cF xs)) ρ T = some (.lst (xs.map D.str), T) := by
  unfold frzF lstF
  rw [cF_run, bindF_some, if_pos (by rw [line_eq, List.length_map]; omega)]
  rfl
theorem odd_eq : g__law_odd = seqS (ifS (orT (testF (binF eqD (ixF (varO 1) (varF 2)) (constF (.str (Str.ofString ";"))))) (testF (binF inD (ixF (varO 1) (varF 2)) (frzF (lstF (cF nm5)))))) (retF (ofF (ixF (ofF (frzF (lstF (cF L1)))) (callF h__law_draw (consF (varF 0) (consF (constF (.int 9)) (nilF))))))) (nilS))
      (seqS (asgF 3 (slF (varO 1) (bNo) (bSo (varF 2))))
      (seqS (ifS (orT (testF (binF ninD (constF (.str (Str.ofString ";"))) (slF (varO 3) (bSo (blF maxD (consF (constF (.int 0)) (consF (binF subD (varF 2) (constF (.int 4))) (nilF))))) (bNo)))) (testF (binF inD (ixF (varO 1) (binF subD (varF 2) (constF (.int 1)))) (frzF (lstF (cF sm2)))))) (ifS (testF (binF eqD (callF h__law_draw (consF (varF 0) (consF (constF (.int 2)) (nilF)))) (constF (.int 1)))) (retF (ofF (ixF (ofF (frzF (lstF (consF (blF strD (consF (binF addD (constF (.int 10)) (callF h__law_draw (consF (varF 0) (consF (constF (.int 90)) (nilF))))) (nilF))) (consF (blF strD (consF (binF subD (binF subD (constF (.int 0)) (constF (.int 10))) (callF h__law_draw (consF (varF 0) (consF (constF (.int 90)) (nilF))))) (nilF))) (nilF)))))) (callF h__law_draw (consF (varF 0) (consF (constF (.int 2)) (nilF))))))) (nilS)) (nilS))
      (retF (ofF (ixF (ofF (frzF (lstF (cF L3)))) (callF h__law_draw (consF (varF 0) (consF (constF (.int 16)) (nilF))))))))) := rfl
local macro_rules | `(tactic| walk_at "wn") => `(tactic| simp only [runB, noX, neverS, bindF_none, Option.map_none, objF, List.replicate_succ, List.replicate_zero, lenD_lst, lenD_tup, orT, slF, bSo, bNo, blF, frzF, seqS, nilS, brkS, cntS, asgF, retF, ifS, testF, binF, varF, varO, constF, ofF, bindF_some, consF, nilF, callF, lstF, tupF, tofF, unpF, negF, setN, tgD, ixF, lenF, dropF, fldF, inTF, ixTF, iiF_int, ctt_eq, eqD_int, addD_int,
  List.map_cons, List.map_nil, List.cons_append, List.nil_append, List.length_cons, List.length_nil, List.getElem?_cons_zero, List.getElem?_cons_succ, List.set_cons_zero, List.set_cons_succ, Option.map_some, Option.isSome_none, Option.isSome_some, if_true, Nat.reduceAdd, Nat.reduceSub, Bool.false_eq_true, if_false, *])
/-! ### the odd words -/
def no32 (w : Str) : Bool := !w.cps.toList.contains 32
theorem l1_ok : L1.all (fun w => PyData.strOk w && (tb_NAMED.lookup w).isNone && !(w == Wd.be.str) && !(w == Wd.re.str) && !(w == semi) && (!numB w || w == sI 10) && decide (w.length ≤ 10) && no32 w) = true := by decide +kernel
theorem l3_ok : L3.all (fun w => PyData.strOk w && !(w == semi) && !numB w && decide (w.length ≤ 10) && no32 w) = true := by decide +kernel
theorem nums_not : nums.all (fun n => !(sI n == semi) && !(nm5.any fun v => v == sI n) && !(sm2.any fun v => v == sI n)) = true := by decide +kernel
theorem nums_mem {n : Int} (h1 : -99 ≤ n) (h2 : n ≤ 99) : n ∈ nums := by
  unfold nums
  rw [List.mem_map]
  exact ⟨(n + 99).toNat, by rw [List.mem_range]; omega, by omega⟩
theorem num_not {n : Int} (h1 : -99 ≤ n) (h2 : n ≤ 99) : (sI n == semi) = false ∧ (nm5.any fun v => v == sI n) = false ∧ (sm2.any fun v => v == sI n) = false := by
  have h := List.all_eq_true.mp nums_not n (nums_mem h1 h2)
  simp only [Bool.and_eq_true, Bool.not_eq_true'] at h
  exact ⟨h.1.1, h.1.2, h.2⟩
theorem name_in : ∀ a : Wd, a ≠ .un → (nm5.any fun v => v == a.str) = true := by
  intro a ha
  cases a <;> first | exact absurd rfl ha | decide +kernel
theorem name_not (a : Wd) : (a.str == semi) = false := by cases a <;> decide +kernel
theorem in_str (w : Str) (ws : List Str) : inD (.str w) (.lst (ws.map D.str)) = some (.bl (ws.any fun v => v == w)) := by
  have h : inB (.str w) (.lst (ws.map D.str)) = some (ws.any fun v => v == w) := by
    show (if flD (.str w) && (ws.map D.str).all flD then some ((ws.map D.str).any fun d => eq1 d (.str w)) else none) = _
    have h1 : (ws.map D.str).all flD = true := by rw [List.all_map]; exact List.all_eq_true.mpr fun _ _ => rfl
    rw [h1, List.any_map]
    rfl
  unfold inD inB'
  rw [h]
  rfl
theorem nin_str (w : Str) (ws : List Str) : ninD (.str w) (.lst (ws.map D.str)) = some (.bl (!ws.any fun v => v == w)) := by
  have h := in_str w ws
  unfold inD at h
  unfold ninD
  obtain ⟨b, hb, e⟩ := Option.map_eq_some_iff.mp h
  rw [hb]
  cases e
  rfl
theorem sl_take (T : Fx.Tm) {ws : List Str} {k : Nat} (h : k ≤ ws.length) : slD T (.val (.lst (ws.map D.str))) none (some (k : Int)) = some (.lst ((ws.take k).map D.str)) := by
  show some (D.lst (cutD (ws.map D.str) none (some (k : Int)))) = _
  rw [cutD_take (by rw [List.length_map]; exact h), List.map_take]
theorem sl_drop (T : Fx.Tm) {ws : List Str} {k : Nat} (h : k ≤ ws.length) : slD T (.val (.lst (ws.map D.str))) (some (k : Int)) none = some (.lst ((ws.drop k).map D.str)) := by
  show some (D.lst (cutD (ws.map D.str) (some (k : Int)) none)) = _
  have e : cutD (ws.map D.str) (some (k : Int)) none = (ws.map D.str).drop k := by
    unfold cutD
    rw [HT.sIx_nat, HT.sIx_none, List.length_map, Nat.min_eq_left h]
    rw [← List.map_drop]
    rw [List.take_of_length_le (by rw [List.length_map, List.length_drop]; exact Nat.le_refl _)]
  rw [e, List.map_drop]
/-- what is known of an odd word -/
structure Odd (t : Tr) (i : Nat) (o : Str) : Prop where
  len : o.length ≤ 10
  sp : 32 ∉ o.cps.toList
  bad : ∀ ws, ws[i]? = some o → K20.bad t i ws i
theorem odd1 {t : Tr} {i : Nat} {o : Str} (ho : o ∈ L1) (h : (∀ ws q, Bd badName ws q → bad t i ws q) ∨ (∀ ws q, (∀ k, Bd (badF k) ws q) → bad t i ws q)) : Odd t i o := by
  have q := List.all_eq_true.mp l1_ok o ho
  simp only [Bool.and_eq_true, Bool.not_eq_true', decide_eq_true_eq, Bool.or_eq_true] at q
  obtain ⟨⟨⟨⟨⟨⟨⟨q1, q2⟩, q3⟩, q4⟩, q5⟩, q6⟩, q7⟩, q8⟩ := q
  have bn : badN (-9) 9 o := by
    refine ⟨q1, ?_⟩
    rcases q6 with q6 | q6
    · exact .inl ⟨q6, by omega⟩
    · exact .inr ⟨10, by simpa using q6, by omega, by omega, by omega⟩
  refine ⟨q7, by unfold no32 at q8; simpa using q8, fun ws hw => ?_⟩
  rcases h with h | h
  · exact h ws i (.inr ⟨o, hw, q1, by simpa using q2, q3, q4⟩)
  · exact h ws i fun k => .inr ⟨o, hw, q5, q1, .inr bn⟩
theorem odd3 {t : Tr} {i : Nat} {o : Str} (ho : o ∈ L3) (h : (∀ ws q, (∀ lo hi, Bd (badN lo hi) ws q) → bad t i ws q) ∨ (∀ ws q, (∀ k, Bd (badF k) ws q) → bad t i ws q)) : Odd t i o := by
  have q := List.all_eq_true.mp l3_ok o ho
  simp only [Bool.and_eq_true, Bool.not_eq_true', decide_eq_true_eq] at q
  obtain ⟨⟨⟨⟨q1, q2⟩, q3⟩, q4⟩, q5⟩ := q
  have bn : ∀ lo hi, badN lo hi o := fun lo hi => ⟨q1, .inl ⟨q3, by omega⟩⟩
  refine ⟨q4, by unfold no32 at q5; simpa using q5, fun ws hw => ?_⟩
  rcases h with h | h
  · exact h ws i fun lo hi => .inr ⟨o, hw, bn lo hi⟩
  · exact h ws i fun k => .inr ⟨o, hw, q2, q1, .inr (bn _ _)⟩
theorem odd2 {t : Tr} {i : Nat} {n : Int} (h1 : -99 ≤ n) (h2 : n ≤ 99) (h3 : n ≤ -10 ∨ 10 ≤ n) (h : ∀ ws q, (∀ k, Bd (badF k) ws q) → bad t i ws q) : Odd t i (sI n) := by
  have k := num_ok h1 h2
  refine ⟨by have := k.l; omega, k.sp, fun ws hw => h ws i fun kk => .inr ⟨sI n, hw, k.ne, k.ok, .inr ⟨k.ok, .inr ⟨n, rfl, h1, h2, by omega⟩⟩⟩⟩
theorem str_run (n : Int) (h1 : -99 ≤ n) (h2 : n ≤ 99) : strD [.int n] = some (.str (sI n)) := by
  unfold strD
  have : n.natAbs.log2 < 1920 := by
    by_cases z : n.natAbs = 0
    · rw [z]; decide
    · exact (Nat.log2_lt z).mpr (Nat.lt_of_le_of_lt (show n.natAbs ≤ 99 by omega) (by decide +kernel))
  exact if_pos (dc_of this)
end K20
set_option maxHeartbeats 1000000
namespace K20
open Fx LC PM K1 K19
open PySem (Str PyData)
noncomputable def o1 : FS := ifS (orT (testF (binF eqD (ixF (varO 1) (varF 2)) (constF (.str (Str.ofString ";"))))) (testF (binF inD (ixF (varO 1) (varF 2)) (frzF (lstF (cF nm5)))))) (retF (ofF (ixF (ofF (frzF (lstF (cF L1)))) (callF h__law_draw (consF (varF 0) (consF (constF (.int 9)) (nilF))))))) (nilS)
noncomputable def o2 : FS := ifS (orT (testF (binF ninD (constF (.str (Str.ofString ";"))) (slF (varO 3) (bSo (blF maxD (consF (constF (.int 0)) (consF (binF subD (varF 2) (constF (.int 4))) (nilF))))) (bNo)))) (testF (binF inD (ixF (varO 1) (binF subD (varF 2) (constF (.int 1)))) (frzF (lstF (cF sm2)))))) (ifS (testF (binF eqD (callF h__law_draw (consF (varF 0) (consF (constF (.int 2)) (nilF)))) (constF (.int 1)))) (retF (ofF (ixF (ofF (frzF (lstF (consF (blF strD (consF (binF addD (constF (.int 10)) (callF h__law_draw (consF (varF 0) (consF (constF (.int 90)) (nilF))))) (nilF))) (consF (blF strD (consF (binF subD (binF subD (constF (.int 0)) (constF (.int 10))) (callF h__law_draw (consF (varF 0) (consF (constF (.int 90)) (nilF))))) (nilF))) (nilF)))))) (callF h__law_draw (consF (varF 0) (consF (constF (.int 2)) (nilF))))))) (nilS)) (nilS)
noncomputable def o3 : FS := retF (ofF (ixF (ofF (frzF (lstF (cF L3)))) (callF h__law_draw (consF (varF 0) (consF (constF (.int 16)) (nilF))))))
theorem odd_eq2 : g__law_odd = seqS o1 (seqS (asgF 3 (slF (varO 1) (bNo) (bSo (varF 2)))) (seqS o2 o3)) := odd_eq
local macro_rules | `(tactic| walk_at "wo") => `(tactic| simp only [runB, noX, neverS, bindF_none, Option.map_none, objF, List.replicate_succ, List.replicate_zero, lenD_lst, lenD_tup, orT, slF, bSo, bNo, blF, frzF, seqS, nilS, brkS, cntS, asgF, retF, ifS, testF, binF, varF, varO, constF, ofF, bindF_some, consF, nilF, callF, lstF, tupF, tofF, unpF, negF, setN, tgD, ixF, lenF, dropF, fldF, inTF, ixTF, iiF_int, ctt_eq, eqD_int, addD_int,
  List.map_cons, List.map_nil, List.cons_append, List.nil_append, List.length_cons, List.length_nil, List.getElem?_cons_zero, List.getElem?_cons_succ, List.set_cons_zero, List.set_cons_succ, Option.map_some, Option.isSome_none, Option.isSome_some, if_true, Nat.reduceAdd, Nat.reduceSub, Bool.false_eq_true, if_false, *])
theorem lit_at (T : Fx.Tm) {L : List Str} {d : Int} (h0 : 0 ≤ d) (h1 : d < (L.length : Int)) : ∃ o, o ∈ L ∧ ixD T (.val (.lst (L.map D.str))) (.int d) = some (.str o) := by
  obtain ⟨k, rfl⟩ : ∃ k : Nat, d = (k : Int) := ⟨d.toNat, by omega⟩
  have hk : k < L.length := by omega
  exact ⟨L[k], List.getElem_mem hk, ix_words T (List.getElem?_eq_getElem hk)⟩
theorem o3_run {ns : List Int} {T : Fx.Tm} (h : StR ns T) (x1 x2 x3 : Sl) : ∃ o T', StR ns T' ∧ o ∈ L3 ∧ o3 [.dat (.ob 0), x1, x2, x3] T = some (.rt (.str o), T') := by
  obtain ⟨d, T1, g1, g2, t1, e1⟩ := drawR_st h (n := 16) (by omega) (by omega)
  obtain ⟨o, ho, e2⟩ := lit_at T1 (L := L3) g1 (by show d < 16; exact g2)
  have e3 := lit_run L3 (by decide) [.dat (.ob 0), x1, x2, x3] T
  refine ⟨o, T1, t1, ho, ?_⟩
  unfold o3
  generalize frzF (lstF (cF L3)) = Q at *
  clear h t1 g1 g2 ho
  walk_at "wo"
section
variable {ns : List Int} {T : Fx.Tm} {ws : List Str} {i : Nat} {w : Str}
theorem o1_yes (h : StR ns T) (hw : ws[i]? = some w) (ok : PyData.strOk w = true) (hc : (w == semi) = true ∨ (w == semi) = false ∧ (nm5.any fun v => v == w) = true) (x3 : Sl) :
    ∃ o T', StR ns T' ∧ o ∈ L1 ∧ o1 [.dat (.ob 0), .dat (.lst (ws.map D.str)), .dat (.int (i : Int)), x3] T = some (.rt (.str o), T') := by
  obtain ⟨d, T1, g1, g2, t1, e1⟩ := drawR_st h (n := 9) (by omega) (by omega)
  obtain ⟨o, ho, e2⟩ := lit_at T1 (L := L1) g1 (by show d < 9; exact g2)
  have e3 := lit_run L1 (by decide) [.dat (.ob 0), .dat (.lst (ws.map D.str)), .dat (.int (i : Int)), x3] T
  have e4 := ix_words T hw
  have e5 := eqD_str ok ok_semi
  have e6 := in_str w nm5
  have e7 := lit_run nm5 (by decide) [.dat (.ob 0), .dat (.lst (ws.map D.str)), .dat (.int (i : Int)), x3] T
  refine ⟨o, T1, t1, ho, ?_⟩
  rcases hc with c | ⟨c, c2⟩
  · rw [show (w == Str.ofString ";") = true from c] at e5
    unfold o1
    generalize frzF (lstF (cF L1)) = Q at *
    generalize frzF (lstF (cF nm5)) = Q2 at *
    clear h t1 g1 g2 ho hw ok c e6 e7
    walk_at "wo"
  · rw [show (w == Str.ofString ";") = false from c] at e5
    rw [c2] at e6
    unfold o1
    generalize frzF (lstF (cF L1)) = Q at *
    generalize frzF (lstF (cF nm5)) = Q2 at *
    clear h t1 g1 g2 ho hw ok c c2
    walk_at "wo"
theorem o1_no (hw : ws[i]? = some w) (ok : PyData.strOk w = true) (c : (w == semi) = false) (c2 : (nm5.any fun v => v == w) = false) (x3 : Sl) :
    o1 [.dat (.ob 0), .dat (.lst (ws.map D.str)), .dat (.int (i : Int)), x3] T = some (.nx [.dat (.ob 0), .dat (.lst (ws.map D.str)), .dat (.int (i : Int)), x3], T) := by
  have e4 := ix_words T hw
  have e5 := eqD_str ok ok_semi
  have e6 := in_str w nm5
  have e7 := lit_run nm5 (by decide) [.dat (.ob 0), .dat (.lst (ws.map D.str)), .dat (.int (i : Int)), x3] T
  rw [show (w == Str.ofString ";") = false from c] at e5
  rw [c2] at e6
  unfold o1
  generalize frzF (lstF (cF nm5)) = Q2 at *
  clear hw ok c c2
  walk_at "wo"
/-- the test of a factor's place -/
def cond2 (ws : List Str) (i : Nat) (v : Str) : Bool := !(((ws.take i).drop (i - 4)).any fun x => x == semi) || (sm2.any fun x => x == v)
theorem o2_run (h : StR ns T) {v : Str} (hi : i < ws.length) (h1 : 1 ≤ i) (hv : ws[i - 1]? = some v) :
    (∃ n T', cond2 ws i v = true ∧ -99 ≤ n ∧ n ≤ 99 ∧ (n ≤ -10 ∨ 10 ≤ n) ∧ StR ns T' ∧ o2 [.dat (.ob 0), .dat (.lst (ws.map D.str)), .dat (.int (i : Int)), .dat (.lst ((ws.take i).map D.str))] T = some (.rt (.str (sI n)), T')) ∨
      ∃ T', StR ns T' ∧ o2 [.dat (.ob 0), .dat (.lst (ws.map D.str)), .dat (.int (i : Int)), .dat (.lst ((ws.take i).map D.str))] T = some (.nx [.dat (.ob 0), .dat (.lst (ws.map D.str)), .dat (.int (i : Int)), .dat (.lst ((ws.take i).map D.str))], T') := by
  have lt : (ws.take i).length = i := by rw [List.length_take]; omega
  have ei : ((i : Int) - 1) = ((i - 1 : Nat) : Int) := by omega
  have e1 := ix_words T hv
  have e2 := in_str v sm2
  have e3 := lit_run sm2 (by decide) [.dat (.ob 0), .dat (.lst (ws.map D.str)), .dat (.int (i : Int)), .dat (.lst ((ws.take i).map D.str))] T
  have mx : maxD [.int 0, .int ((i : Int) - 4)] = some (.int ((i - 4 : Nat) : Int)) := by
    show some (D.int (if (i : Int) - 4 > 0 then (i : Int) - 4 else 0)) = _
    congr 2
    split <;> omega
  have e4 := sl_drop T (ws := ws.take i) (k := i - 4) (by omega)
  have e5 := nin_str semi ((ws.take i).drop (i - 4))
  have cd : orT (testF (binF ninD (constF (.str (Str.ofString ";"))) (slF (varO 3) (bSo (blF maxD (consF (constF (.int 0)) (consF (binF subD (varF 2) (constF (.int 4))) (nilF))))) (bNo)))) (testF (binF inD (ixF (varO 1) (binF subD (varF 2) (constF (.int 1)))) (frzF (lstF (cF sm2))))) [.dat (.ob 0), .dat (.lst (ws.map D.str)), .dat (.int (i : Int)), .dat (.lst ((ws.take i).map D.str))] T = some (cond2 ws i v, T) := by
    have s5 : (D.str (Str.ofString ";")) = D.str semi := rfl
    unfold cond2
    generalize (((ws.take i).drop (i - 4)).any fun x => x == semi) = b1 at *
    generalize (sm2.any fun x => x == v) = b2 at *
    generalize frzF (lstF (cF sm2)) = Q at *
    rw [s5]
    cases b1 with
    | true =>
      rw [Bool.not_true] at e5
      clear h hi h1 hv lt s5
      walk_at "wo"
      rfl
    | false =>
      rw [Bool.not_false] at e5
      clear h hi h1 hv lt s5 e1 e2 e3
      walk_at "wo"
      rfl
  generalize hC : orT (testF (binF ninD (constF (.str (Str.ofString ";"))) (slF (varO 3) (bSo (blF maxD (consF (constF (.int 0)) (consF (binF subD (varF 2) (constF (.int 4))) (nilF))))) (bNo)))) (testF (binF inD (ixF (varO 1) (binF subD (varF 2) (constF (.int 1)))) (frzF (lstF (cF sm2))))) = C at cd
  cases c : cond2 ws i v with
  | false =>
    rw [c] at cd
    refine .inr ⟨T, h, ?_⟩
    unfold o2
    rw [hC]
    clear e1 e2 e3 mx e4 e5 hC h hi h1 hv lt ei c
    walk_at "wo"
  | true =>
    rw [c] at cd
    obtain ⟨d, T1, g1, g2, t1, f1⟩ := drawR_st h (n := 2) (by omega) (by omega)
    by_cases hd : d = 1
    · obtain ⟨a, T2, g3, g4, t2, f2⟩ := drawR_st t1 (n := 90) (by omega) (by omega)
      obtain ⟨b, T3, g5, g6, t3, f3⟩ := drawR_st t2 (n := 90) (by omega) (by omega)
      obtain ⟨k, T4, g7, g8, t4, f4⟩ := drawR_st t3 (n := 2) (by omega) (by omega)
      have s1 := str_run (10 + a) (by omega) (by omega)
      have s2 := str_run (0 - 10 - b) (by omega) (by omega)
      have d1 : decide (d = 1) = true := decide_eq_true hd
      have l2 : (0 + 1 + 1 : Nat) ≤ PySem.sizeLine := by rw [line_eq]; omega
      have key : ∀ n, ixD T4 (.val (.lst [.str (sI (10 + a)), .str (sI (0 - 10 - b))])) (.int k) = some (.str (sI n)) → o2 [.dat (.ob 0), .dat (.lst (ws.map D.str)), .dat (.int (i : Int)), .dat (.lst ((ws.take i).map D.str))] T = some (.rt (.str (sI n)), T4) := fun n hx => by
        unfold o2
        rw [hC]
        clear e1 e2 e3 mx e4 e5 hC h hi h1 hv lt ei c t1 t2 t3 t4 g1 g2 g3 g4 g5 g6 g7 g8 hd
        walk_at "wo"
      have k2 : k = 0 ∨ k = 1 := by omega
      rcases k2 with rfl | rfl
      · exact .inl ⟨10 + a, T4, rfl, by omega, by omega, by omega, t4, key _ (ix_words (ws := [sI (10 + a), sI (0 - 10 - b)]) (p := 0) T4 rfl)⟩
      · exact .inl ⟨0 - 10 - b, T4, rfl, by omega, by omega, by omega, t4, key _ (ix_words (ws := [sI (10 + a), sI (0 - 10 - b)]) (p := 1) T4 rfl)⟩
    · have d1 : decide (d = 1) = false := decide_eq_false hd
      refine .inr ⟨T1, t1, ?_⟩
      unfold o2
      rw [hC]
      clear e1 e2 e3 mx e4 e5 hC h hi h1 hv lt ei c t1 g1 g2 hd
      walk_at "wo"
end
theorem wd_of_words {t : Tr} (ok : t.ok) {i : Nat} {w : Str} (h : t.words[i]? = some w) : PyData.strOk w = true := words_strOk t ok w (List.mem_of_getElem? h)
theorem odd_run {ns : List Int} {T : Fx.Tm} (h : StR ns T) {t : Tr} (ok : t.ok) {i : Nat} (hi : i < t.words.length) :
    ∃ o T', StR ns T' ∧ Odd t i o ∧ h__law_odd [.ob 0, .lst (t.words.map D.str), .int (i : Int)] T = some (.str o, T') := by
  have sl : ∀ T, slD T (.val (.lst (t.words.map D.str))) none (some (i : Int)) = some (.lst ((t.words.take i).map D.str)) := fun T => sl_take T (by omega)
  have fin1 : ∀ {o T'}, o1 [.dat (.ob 0), .dat (.lst (t.words.map D.str)), .dat (.int (i : Int)), .un] T = some (.rt (.str o), T') → h__law_odd [.ob 0, .lst (t.words.map D.str), .int (i : Int)] T = some (.str o, T') := fun {o T'} e => by
    unfold h__law_odd
    rw [odd_eq2]
    clear sl
    walk_at "wo"
  have fin2 : ∀ {o T'}, o1 [.dat (.ob 0), .dat (.lst (t.words.map D.str)), .dat (.int (i : Int)), .un] T = some (.nx [.dat (.ob 0), .dat (.lst (t.words.map D.str)), .dat (.int (i : Int)), .un], T) → o2 [.dat (.ob 0), .dat (.lst (t.words.map D.str)), .dat (.int (i : Int)), .dat (.lst ((t.words.take i).map D.str))] T = some (.rt (.str o), T') → h__law_odd [.ob 0, .lst (t.words.map D.str), .int (i : Int)] T = some (.str o, T') := fun {o T'} e e2 => by
    unfold h__law_odd
    rw [odd_eq2]
    walk_at "wo"
  have fin3 : ∀ {o T1 T'}, o1 [.dat (.ob 0), .dat (.lst (t.words.map D.str)), .dat (.int (i : Int)), .un] T = some (.nx [.dat (.ob 0), .dat (.lst (t.words.map D.str)), .dat (.int (i : Int)), .un], T) → o2 [.dat (.ob 0), .dat (.lst (t.words.map D.str)), .dat (.int (i : Int)), .dat (.lst ((t.words.take i).map D.str))] T = some (.nx [.dat (.ob 0), .dat (.lst (t.words.map D.str)), .dat (.int (i : Int)), .dat (.lst ((t.words.take i).map D.str))], T1) → o3 [.dat (.ob 0), .dat (.lst (t.words.map D.str)), .dat (.int (i : Int)), .dat (.lst ((t.words.take i).map D.str))] T1 = some (.rt (.str o), T') → h__law_odd [.ob 0, .lst (t.words.map D.str), .int (i : Int)] T = some (.str o, T') := fun {o T1 T'} e e2 e3 => by
    unfold h__law_odd
    rw [odd_eq2]
    walk_at "wo"
  clear sl
  cases place t ok i hi with
  | nm h1 h2 =>
    obtain ⟨a, ha, hw⟩ := h1
    obtain ⟨o, T', t', ho, e⟩ := o1_yes h hw a.ok (.inr ⟨name_not a, name_in a ha⟩) .un
    exact ⟨o, T', t', odd1 ho (.inl h2), fin1 e⟩
  | sm h1 h2 =>
    obtain ⟨o, T', t', ho, e⟩ := o1_yes h h1 ok_semi (.inl (beq_self_eq_true _)) .un
    exact ⟨o, T', t', odd1 ho (.inr h2), fin1 e⟩
  | fc h1 h0 h2 =>
    obtain ⟨n, a1, a2, hw⟩ := h1
    obtain ⟨c1, c2, _⟩ := num_not (n := n) (by omega) (by omega)
    have e1 := o1_no (T := T) hw (num_ok (by omega) (by omega)).ok c1 c2 .un
    have hv : t.words[i - 1]? = some t.words[i - 1] := List.getElem?_eq_getElem (by omega)
    rcases o2_run h hi h0 hv with ⟨m, T', _, m1, m2, m3, t', e2⟩ | ⟨T1, t1, e2⟩
    · exact ⟨_, T', t', odd2 m1 m2 m3 h2, fin2 e1 e2⟩
    · obtain ⟨o, T', t', ho, e3⟩ := o3_run t1 (.dat (.lst (t.words.map D.str))) (.dat (.int (i : Int))) (.dat (.lst ((t.words.take i).map D.str)))
      exact ⟨o, T', t', odd3 ho (.inr h2), fin3 e1 e2 e3⟩
  | nu h1 h0 h2 =>
    obtain ⟨n, a1, a2, hw⟩ := h1
    obtain ⟨c1, c2, _⟩ := num_not (n := n) (by omega) (by omega)
    have e1 := o1_no (T := T) hw (num_ok (by omega) (by omega)).ok c1 c2 .un
    obtain ⟨j, rfl, h0⟩ := h0
    have hv : t.words[j + 1 - 1]? = some t.words[j] := by rw [Nat.add_sub_cancel]; exact List.getElem?_eq_getElem (by omega)
    have no : cond2 t.words (j + 1) t.words[j] = false := by
      have mem : ∀ k, k < j + 1 → j + 1 - 4 ≤ k → t.words[k]? = some semi → (((t.words.take (j + 1)).drop (j + 1 - 4)).any fun x => x == semi) = true := fun k k1 k2 hk => by
        refine List.any_eq_true.mpr ⟨semi, ?_, beq_self_eq_true _⟩
        refine List.mem_of_getElem? (i := k - (j + 1 - 4)) ?_
        rw [List.getElem?_drop, show j + 1 - 4 + (k - (j + 1 - 4)) = k by omega, List.getElem?_take_of_lt k1]
        exact hk
      unfold cond2
      have hj : t.words[j]? = some t.words[j] := List.getElem?_eq_getElem (by omega)
      rcases h0 with h0 | ⟨j', rfl, h0, m, b1, b2, b3⟩
      · rw [mem j (by omega) (by omega) h0]
        rw [h0] at hj
        rw [← Option.some.inj hj]
        decide +kernel
      · rw [mem j' (by omega) (by omega) h0]
        rw [b3] at hj
        rw [← Option.some.inj hj, (num_not b1 b2).2.2]
        rfl
    rcases o2_run h hi (by omega) hv with ⟨m, T', c, _⟩ | ⟨T1, t1, e2⟩
    · rw [no] at c
      cases c
    · obtain ⟨o, T', t', ho, e3⟩ := o3_run t1 (.dat (.lst (t.words.map D.str))) (.dat (.int ((j + 1 : Nat) : Int))) (.dat (.lst ((t.words.take (j + 1)).map D.str)))
      exact ⟨o, T', t', odd3 ho (.inl h2), fin3 e1 e2 e3⟩
end K20
set_option maxHeartbeats 1000000
namespace K20
open Fx LC PM K1 K19
open PySem (Str PyData)
noncomputable def q3 : FS := ifS (orT (testF (binF neD (callF h__law_told (consF (m1F joinD (constF (.str (Str.ofString " "))) (varF 3)) (nilF))) (binF subD (constF (.int 0)) (constF (.int 1))))) (testF (binF neD (excF (constF (.int 5))) (constF (.int 5))))) (retF (ofF (constF (.bl false)))) (nilS)
noncomputable def q5 : FS := ifS (orT (testF (binF neD (callF h__law_told (consF (constF (.str (Str.ofString ""))) (nilF))) (constF (.int 0)))) (orT (testF (binF neD (callF h__law_told (consF (constF (.str (Str.ofString "below 1 1 1 1 1 1 1 ; 0"))) (nilF))) (constF (.int 7)))) (orT (testF (binF neD (callF h__law_told (consF (constF (.str (Str.ofString "below 10 ; 0"))) (nilF))) (constF (.int 1)))) (testF (binF neD (callF h__law_told (consF (constF (.str (Str.ofString "rest 1 ; 3 3"))) (nilF))) (constF (.int 4))))))) (retF (ofF (constF (.bl false)))) (nilS)
noncomputable def q6 : FS := ifS (orT (testF (binF neD (callF h__law_told (consF (constF (.str (Str.ofString "rest 1 ; 13 0"))) (nilF))) (constF (.int 3)))) (orT (testF (binF neD (callF h__law_told (consF (constF (.str (Str.ofString "rest 1 ; 0 0"))) (nilF))) (constF (.int 3)))) (orT (testF (binF neD (callF h__law_told (consF (constF (.str (Str.ofString "below 1 ; 100"))) (nilF))) (constF (.int 3)))) (testF (binF neD (callF h__law_told (consF (constF (.str (Str.ofString " below ; 1"))) (nilF))) (constF (.int 0))))))) (retF (ofF (constF (.bl false)))) (nilS)
noncomputable def q7 : FS := ifS (orT (testF (binF neD (callF h__law_told (consF (constF (.str (Str.ofString "rest 1 ; 3 -1"))) (nilF))) (constF (.int 4)))) (orT (testF (binF neD (callF h__law_told (consF (constF (.str (Str.ofString "below -10 ; 0"))) (nilF))) (constF (.int 1)))) (testF (binF neD (callF h__law_told (consF (constF (.str (Str.ofString "rest 1 ; -1 0"))) (nilF))) (constF (.int 3)))))) (retF (ofF (constF (.bl false)))) (nilS)
noncomputable def q8 : FS := ifS (orT (testF (binF neD (callF h__law_told (consF (binF addD (binF mulSD (constF (.str (Str.ofString "not "))) (constF (.int 40))) (constF (.str (Str.ofString "below ; 1 x")))) (nilF))) (constF (.int 43)))) (testF (binF neD (callF h__law_told (consF (binF addD (binF addD (binF mulSD (constF (.str (Str.ofString "both "))) (constF (.int 24))) (binF mulSD (constF (.str (Str.ofString "below ; 1 "))) (constF (.int 24)))) (constF (.str (Str.ofString "below ; x")))) (nilF))) (binF addD (binF addD (constF (.int 24)) (constF (.int 72))) (constF (.int 2)))))) (retF (ofF (constF (.bl false)))) (nilS)
noncomputable def q10 : FS := ifS (orT (testF (binF neD (callF h__law_told (consF (constF (.str (Str.ofString "below ;\n1"))) (nilF))) (constF (.int 1)))) (orT (testF (binF neD (callF h__law_told (consF (constF (.str (Str.ofString "below ;\t1"))) (nilF))) (constF (.int 1)))) (orT (testF (binF neD (callF h__law_told (consF (constF (.str (Str.ofString "below ; 1\n"))) (nilF))) (constF (.int 2)))) (testF (binF neD (callF h__law_told (consF (constF (.str (Str.ofString "\tbelow ; 1"))) (nilF))) (constF (.int 0))))))) (retF (ofF (constF (.bl false)))) (nilS)
noncomputable def lpB : FS := seqS (asgF 7 (callF h__law_draw (consF (varF 1) (consF (lenF (varO 3)) (nilF)))))
      (seqS (ifS (testF (binF neD (callF h__law_told (consF (m1F joinD (constF (.str (Str.ofString " "))) (binF addD (binF addD (slF (varO 3) (bNo) (bSo (varF 7))) (frzF (lstF (consF (callF h__law_odd (consF (varF 1) (consF (varF 3) (consF (varF 7) (nilF))))) (nilF))))) (slF (varO 3) (bSo (binF addD (varF 7) (constF (.int 1)))) (bNo)))) (nilF))) (varF 7))) (retF (ofF (constF (.bl false)))) (nilS))
      (seqS (ifS (andT (testF (binF gtD (varF 7) (constF (.int 0)))) (testF (binF neD (callF h__law_told (consF (m1F joinD (constF (.str (Str.ofString " "))) (slF (varO 3) (bNo) (bSo (varF 7)))) (nilF))) (varF 7)))) (retF (ofF (constF (.bl false)))) (nilS))
      (ifS (testF (binF neD (callF h__law_told (consF (m1F joinD (constF (.str (Str.ofString " "))) (binF addD (varF 3) (frzF (lstF (consF (ixF (ofF (frzF (lstF (consF (constF (.str (Str.ofString "below"))) (consF (constF (.str (Str.ofString "1"))) (consF (constF (.str (Str.ofString ";"))) (consF (constF (.str (Str.ofString ""))) (nilF)))))))) (callF h__law_draw (consF (varF 1) (consF (constF (.int 4)) (nilF))))) (nilF)))))) (nilF))) (lenF (varO 3)))) (retF (ofF (constF (.bl false)))) (nilS))))
noncomputable def lvB : FS := ifS (testF (binF neD (callF h__law_told (consF (binF addD (binF addD (binF mulSD (constF (.str (Str.ofString "both "))) (binF subD (varF 5) (constF (.int 1)))) (binF mulSD (constF (.str (Str.ofString "below ; 1 "))) (binF subD (varF 5) (constF (.int 1))))) (constF (.str (Str.ofString "below ; 1")))) (nilF))) (ixF (ofF (frzF (lstF (consF (binF subD (constF (.int 0)) (constF (.int 4))) (consF (binF subD (constF (.int 0)) (constF (.int 1))) (nilF)))))) (blF intD (consF (binF eqD (varF 5) (constF (.int 20))) (nilF)))))) (retF (ofF (constF (.bl false)))) (nilS)
noncomputable def q12 : FS := retF (ofF (binF eqD (callF h__law_told (consF (binF addD (binF mulSD (constF (.str (Str.ofString "not "))) (varF 6)) (constF (.str (Str.ofString "below ; 1")))) (nilF))) (ixF (ofF (frzF (lstF (consF (binF subD (constF (.int 0)) (constF (.int 4))) (consF (binF subD (constF (.int 0)) (constF (.int 1))) (nilF)))))) (blF intD (consF (binF leD (binF addD (varF 6) (constF (.int 1))) (constF (.int 40))) (nilF))))))
def X4 : List Str := [Str.ofString "below", Str.ofString "1", Str.ofString ";", Str.ofString ""]
noncomputable def tA : FT := testF (binF neD (callF h__law_told (consF (m1F joinD (constF (.str (Str.ofString " "))) (binF addD (binF addD (slF (varO 3) (bNo) (bSo (varF 7))) (frzF (lstF (consF (callF h__law_odd (consF (varF 1) (consF (varF 3) (consF (varF 7) (nilF))))) (nilF))))) (slF (varO 3) (bSo (binF addD (varF 7) (constF (.int 1)))) (bNo)))) (nilF))) (varF 7))
noncomputable def tB : FT := andT (testF (binF gtD (varF 7) (constF (.int 0)))) (testF (binF neD (callF h__law_told (consF (m1F joinD (constF (.str (Str.ofString " "))) (slF (varO 3) (bNo) (bSo (varF 7)))) (nilF))) (varF 7)))
noncomputable def tC : FT := testF (binF neD (callF h__law_told (consF (m1F joinD (constF (.str (Str.ofString " "))) (binF addD (varF 3) (frzF (lstF (consF (ixF (ofF (frzF (lstF (cF X4)))) (callF h__law_draw (consF (varF 1) (consF (constF (.int 4)) (nilF))))) (nilF)))))) (nilF))) (lenF (varO 3)))
theorem lpB_eq : lpB = seqS (asgF 7 (callF h__law_draw (consF (varF 1) (consF (lenF (varO 3)) (nilF)))))
      (seqS (ifS tA (retF (ofF (constF (.bl false)))) (nilS))
      (seqS (ifS tB (retF (ofF (constF (.bl false)))) (nilS))
      (ifS tC (retF (ofF (constF (.bl false)))) (nilS)))) := rfl
theorem law_eq : g_law = seqS (objF 1 (lstF (consF (constF (.int 0)) (consF (constF (.int 0)) (consF (frzF (lofF (varO 0))) (consF (constF (.int 1)) (nilF))))))) (seqS (asgF 2 (callF h__law_plain (consF (varF 1) (consF (callF h__law_draw (consF (varF 1) (consF (constF (.int 4)) (nilF)))) (consF (constF (.int 3)) (consF (constF (.int 3)) (nilF))))))) (seqS (asgF 3 (callF (h__law_words 60) (consF (varF 2) (consF (binF subD (lenF (varO 2)) (constF (.int 1))) (nilF))))) (seqS (q3) (seqS (forS (.nm 4) (rng1 (consF (constF (.int 6)) (nilF))) lpB) (seqS (q5) (seqS (q6) (seqS (q7) (seqS (q8) (seqS (forS (.nm 5) (lstF (consF (constF (.int 20)) (consF (constF (.int 21)) (consF (constF (.int 25)) (nilF))))) lvB) (seqS (q10) (seqS (asgF 6 (binF addD (constF (.int 38)) (callF h__law_draw (consF (varF 1) (consF (constF (.int 4)) (nilF)))))) (q12)))))))))))) := rfl
local macro_rules | `(tactic| walk_at "wp") => `(tactic| simp only [andT, notT, m1F, excF, runB, noX, neverS, bindF_none, Option.map_none, objF, List.replicate_succ, List.replicate_zero, lenD_lst, lenD_tup, orT, slF, bSo, bNo, blF, frzF, seqS, nilS, brkS, cntS, asgF, retF, ifS, testF, binF, varF, varO, constF, ofF, bindF_some, consF, nilF, callF, lstF, tupF, tofF, unpF, negF, setN, tgD, ixF, lenF, dropF, fldF, inTF, ixTF, iiF_int, ctt_eq, eqD_int, addD_int,
  List.map_cons, List.map_nil, List.cons_append, List.nil_append, List.length_cons, List.length_nil, List.getElem?_cons_zero, List.getElem?_cons_succ, List.set_cons_zero, List.set_cons_succ, Option.map_some, Option.isSome_none, Option.isSome_some, if_true, Nat.reduceAdd, Nat.reduceSub, Bool.false_eq_true, if_false, *])
theorem neD_i (a b : Int) : neD (.int a) (.int b) = some (.bl (!decide (a = b))) := by
  unfold neD eqB
  simp [toPy, PySem.SeqAt.shaped, PyData.canLay0, PyData.depth, PyData.eqv]
  rfl
/-! ### lists of words as texts -/
structure Wk (ws : List Str) : Prop where
  ne : ws ≠ []
  sp : ∀ w ∈ ws, 32 ∉ w.cps.toList
  ln : ∀ w ∈ ws, w.length ≤ 10
  n : ws.length ≤ 5000
theorem Wk.split {ws : List Str} (h : Wk ws) : PySem.Txt.split (PySem.Txt.join sp_ ws) sp_ = ws :=
  TL.split_join (by decide +kernel : TL.tl sp_ = 32 :: []) (by decide +kernel) h.ne fun p hp => h.sp p hp
theorem Wk.len {ws : List Str} (h : Wk ws) : (PySem.Txt.join sp_ ws).length ≤ 1000000 := by
  obtain ⟨h1, h2⟩ := sum_le ws 10 h.ln
  have h3 := join_len ws
  have e : PySem.Txt.join sp_ ws = PySem.Str.join sp_ ws := TL.join_eq sp_ ws
  have := h.n
  rw [e]
  omega
theorem Wk.jn {ws : List Str} (h : Wk ws) : joinL (Str.ofString " ") (ws.map D.str) = some (.str (PySem.Txt.join sp_ ws)) := by
  obtain ⟨h1, h2⟩ := sum_le ws 10 h.ln
  have s1 : (Str.ofString " ").length = 1 := by decide +kernel
  have := h.n
  unfold joinL
  rw [txts_map]
  exact if_pos (dc_of (by rw [s1]; omega))
theorem wk_words {t : Tr} (ok : t.ok) (hs : t.size ≤ 400) : Wk t.words := by
  have wl := t.words_len ok
  refine ⟨words_ne t, fun w hw => (t.words_ok ok w hw).1, fun w hw => ?_, by omega⟩
  have := (t.words_ok ok w hw).2
  omega
theorem Wk.add {a b : List Str} (ha : (∀ w ∈ a, 32 ∉ w.cps.toList ∧ w.length ≤ 10)) (hb : ∀ w ∈ b, 32 ∉ w.cps.toList ∧ w.length ≤ 10) (hne : a ++ b ≠ []) (hn : (a ++ b).length ≤ 5000) : Wk (a ++ b) :=
  ⟨hne, fun w hw => by rcases List.mem_append.mp hw with h | h; exact (ha w h).1; exact (hb w h).1, fun w hw => by rcases List.mem_append.mp hw with h | h; exact (ha w h).2; exact (hb w h).2, hn⟩
theorem bad_miss {t : Tr} (ok : t.ok) {i : Nat} (hi : i < t.words.length) {ws : List Str} {q : Nat} (h : ws.length ≤ q) : bad t i ws q := by
  cases place t ok i hi with
  | nm _ h2 => exact h2 ws q (.inl h)
  | sm _ h2 => exact h2 ws q fun _ => .inl h
  | fc _ _ h2 => exact h2 ws q fun _ => .inl h
  | nu _ _ h2 => exact h2 ws q fun _ _ => .inl h
section
variable {ns : List Int} {T : Fx.Tm} {t : Tr}
theorem tl_bad (h : StR ns T) (ok : t.ok) (hs : t.size ≤ 400) {ws : List Str} (k : Wk ws) {i : Nat} (hi : i < t.words.length) (hw : ∀ j, j < i → ws[j]? = t.words[j]?) (hb : bad t i ws i) : ∃ T', StR ns T' ∧ h__law_told [.str (PySem.Txt.join sp_ ws)] T = some (.int (i : Int), T') := by
  obtain ⟨T', e, f⟩ := parse_bad ok (by omega) hi hw hb k.split k.len T
  exact ⟨T', h.fr f, told_x e⟩
theorem tl_more (h : StR ns T) (ok : t.ok) (hs : t.size ≤ 400) {more : List Str} (hm : more ≠ []) (k : Wk (t.words ++ more)) : ∃ T', StR ns T' ∧ h__law_told [.str (PySem.Txt.join sp_ (t.words ++ more))] T = some (.int (t.words.length : Int), T') := by
  obtain ⟨T', e, f⟩ := parse_more ok (by omega) rfl hm k.split k.len T
  exact ⟨T', h.fr f, told_x e⟩
theorem tl_long (h : StR ns T) (ok : t.ok) (hs : t.size ≤ 400) (hg : 40 < t.size) : ∃ T', StR ns T' ∧ h__law_told [.str t.text] T = some (.int (-4), T') := by
  obtain ⟨T', e, f⟩ := parse_long ok (by omega) hg T
  exact ⟨T', h.fr f, told_l e⟩
theorem tl_ok (h : StR ns T) (ok : t.ok) (hs : t.size ≤ 40) : ∃ T', StR ns T' ∧ h__law_told [.str t.text] T = some (.int (-1), T') := by
  obtain ⟨T', e, f⟩ := parse_ok ok hs T
  exact ⟨T', h.fr f, told_n e⟩
theorem x4_ok : X4.all (fun w => no32 w && decide (w.length ≤ 10)) = true := by decide +kernel
set_option maxHeartbeats 4000000 in
theorem lpB_run (h : StR ns T) (ok : t.ok) (hs : t.size ≤ 300) (x0 x2 x4 x5 x6 x7 : Sl) :
    ∃ y7 T', StR ns T' ∧ lpB [x0, .dat (.ob 0), x2, .dat (.lst (t.words.map D.str)), x4, x5, x6, x7] T = some (.nx [x0, .dat (.ob 0), x2, .dat (.lst (t.words.map D.str)), x4, x5, x6, y7], T') := by
  have wl := t.words_len ok
  have wp : 0 < t.words.length := List.length_pos_iff.mpr (words_ne t)
  have wprop : ∀ w ∈ t.words, 32 ∉ w.cps.toList ∧ w.length ≤ 10 := fun w hw => ⟨(t.words_ok ok w hw).1, by have := (t.words_ok ok w hw).2; omega⟩
  have lw : ∀ T, lenD T (.val (.lst (t.words.map D.str))) = some (.int (t.words.length : Int)) := fun T => by rw [lenD_lst, List.length_map]
  obtain ⟨di, T1, g1, g2, t1, e1⟩ := drawR_st h (n := (t.words.length : Int)) (by omega) (by omega)
  obtain ⟨i, rfl⟩ : ∃ i : Nat, di = (i : Int) := ⟨di.toNat, by omega⟩
  have hi : i < t.words.length := by omega
  obtain ⟨o, T2, t2, od, e2⟩ := odd_run t1 ok hi
  -- one word exchanged
  have ltk : (t.words.take i).length = i := by rw [List.length_take]; omega
  have lA : (t.words.take i ++ [o] ++ t.words.drop (i + 1)).length ≤ 5000 := by
    rw [List.length_append, List.length_append, ltk, List.length_drop]
    simp
    omega
  have kA : Wk (t.words.take i ++ [o] ++ t.words.drop (i + 1)) := Wk.add (fun w hw => by
    rcases List.mem_append.mp hw with hw | hw
    · exact wprop w (List.mem_of_mem_take hw)
    · rw [List.mem_singleton.mp hw]; exact ⟨od.sp, od.len⟩) (fun w hw => wprop w (List.mem_of_mem_drop hw)) (by simp) lA
  have gA : ∀ j, j < i → (t.words.take i ++ [o] ++ t.words.drop (i + 1))[j]? = t.words[j]? := fun j hj => by
    rw [List.append_assoc, List.getElem?_append_left (by omega), List.getElem?_take_of_lt hj]
  have oA : (t.words.take i ++ [o] ++ t.words.drop (i + 1))[i]? = some o := by
    rw [List.append_assoc, List.getElem?_append_right (by omega), ltk, Nat.sub_self]
    rfl
  obtain ⟨T3, t3, e3⟩ := tl_bad t2 ok (by omega) kA hi gA (od.bad _ oA)
  have jA := kA.jn
  have sA : ∀ T, slD T (.val (.lst (t.words.map D.str))) none (some (i : Int)) = some (.lst ((t.words.take i).map D.str)) := fun T => sl_take T (by omega)
  have sB : ∀ T, slD T (.val (.lst (t.words.map D.str))) (some ((i : Int) + 1)) none = some (.lst ((t.words.drop (i + 1)).map D.str)) := fun T => by
    have := sl_drop T (ws := t.words) (k := i + 1) (by omega)
    rw [show ((i + 1 : Nat) : Int) = (i : Int) + 1 by omega] at this
    exact this
  have aA : addD (.lst ((t.words.take i).map D.str)) (.lst [.str o]) = some (.lst ((t.words.take i ++ [o]).map D.str)) := by
    rw [addD_lst, if_pos (by rw [line_eq, List.length_map, ltk]; simp; omega), List.map_append]
    rfl
  have aB : addD (.lst ((t.words.take i ++ [o]).map D.str)) (.lst ((t.words.drop (i + 1)).map D.str)) = some (.lst ((t.words.take i ++ [o] ++ t.words.drop (i + 1)).map D.str)) := by
    rw [addD_lst, if_pos (by
      rw [line_eq, List.length_map, List.length_map, ← List.length_append]
      omega), ← List.map_append]
  have nI : neD (.int (i : Int)) (.int (i : Int)) = some (.bl false) := by rw [neD_i, decide_eq_true rfl]; rfl
  -- cut off
  have cA : tA [x0, .dat (.ob 0), x2, .dat (.lst (t.words.map D.str)), x4, x5, x6, .dat (.int (i : Int))] T1 = some (false, T3) := by
    unfold tA
    have l1 : (0 + 1 : Nat) ≤ PySem.sizeLine := by rw [line_eq]; omega
    clear e1 lA kA gA oA h t1 t2 t3 wprop lw wl wp g1 g2 hi ltk od ok hs
    walk_at "wp"
    unfold joinD
    walk_at "wp"
  have cB : ∃ T4, StR ns T4 ∧ tB [x0, .dat (.ob 0), x2, .dat (.lst (t.words.map D.str)), x4, x5, x6, .dat (.int (i : Int))] T3 = some (false, T4) := by
    unfold tB
    by_cases c : i = 0
    · refine ⟨T3, t3, ?_⟩
      have d1 : decide ((0 : Int) < (i : Int)) = false := decide_eq_false (by omega)
      clear e1 e2 e3 aA aB sA sB jA lA kA gA oA h t1 t2 t3 wprop lw wl wp g1 g2 hi ltk od ok hs nI c
      walk_at "wp"
    · have kT : Wk (t.words.take i) := ⟨fun z => by rw [z] at ltk; exact c ltk.symm, fun w hw => (wprop w (List.mem_of_mem_take hw)).1, fun w hw => (wprop w (List.mem_of_mem_take hw)).2, by omega⟩
      obtain ⟨T4, t4, e4⟩ := tl_bad t3 ok (by omega) kT hi (fun j hj => List.getElem?_take_of_lt hj) (bad_miss ok hi (by omega))
      have jT := kT.jn
      refine ⟨T4, t4, ?_⟩
      have d1 : decide ((0 : Int) < (i : Int)) = true := decide_eq_true (by omega)
      clear e1 e2 e3 aA aB sB jA lA kA gA oA h t1 t2 t3 wprop lw wl wp g1 g2 hi ltk od ok hs c kT t4
      walk_at "wp"
      unfold joinD
      walk_at "wp"
  obtain ⟨T4, t4, e4⟩ := cB
  -- a word too many
  obtain ⟨d, T5, g3, g4, t5, e5⟩ := drawR_st t4 (n := 4) (by omega) (by omega)
  obtain ⟨e, he, e6⟩ := lit_at T5 (L := X4) g3 (by show d < 4; exact g4)
  have ep := List.all_eq_true.mp x4_ok e he
  simp only [Bool.and_eq_true, decide_eq_true_eq] at ep
  have kC : Wk (t.words ++ [e]) := Wk.add wprop (fun w hw => by rw [List.mem_singleton.mp hw]; exact ⟨by have := ep.1; unfold no32 at this; simpa using this, ep.2⟩) (by simp) (by rw [List.length_append]; simp; omega)
  obtain ⟨T6, t6, e7⟩ := tl_more t5 ok (by omega) (by simp) kC
  have jC := kC.jn
  have aC : addD (.lst (t.words.map D.str)) (.lst [.str e]) = some (.lst ((t.words ++ [e]).map D.str)) := by
    rw [addD_lst, if_pos (by rw [line_eq, List.length_map]; simp; omega), List.map_append]
    rfl
  have lit := lit_run X4 (by decide)
  have nL : neD (.int (t.words.length : Int)) (.int (t.words.length : Int)) = some (.bl false) := by rw [neD_i, decide_eq_true rfl]; rfl
  have l1 : (0 + 1 : Nat) ≤ PySem.sizeLine := by rw [line_eq]; omega
  have cC : tC [x0, .dat (.ob 0), x2, .dat (.lst (t.words.map D.str)), x4, x5, x6, .dat (.int (i : Int))] T4 = some (false, T6) := by
    unfold tC
    generalize frzF (lstF (cF X4)) = Q at *
    clear e1 e2 e3 e4 cA aA aB sA sB jA lA kA gA oA h t1 t2 t3 t4 t5 t6 wprop wl wp g1 g2 g3 g4 hi ltk od ok hs kC ep he nI
    walk_at "wp"
    unfold joinD
    walk_at "wp"
  refine ⟨.dat (.int (i : Int)), T6, t6, ?_⟩
  rw [lpB_eq]
  generalize tA = A at *
  generalize tB = B at *
  generalize tC = C at *
  clear e2 e3 e5 e6 e7 aA aB sA sB jA jC aC lit nL l1 lA kA gA oA h t1 t2 t3 t4 t5 t6 wprop wl wp g1 g2 g3 g4 hi ltk od ok hs kC ep he nI
  walk_at "wp"
end
end K20
set_option maxHeartbeats 1000000
namespace K20
open Fx LC PM K1 K19
open PySem (Str PyData)
/-! ### texts of the law -/
def wkB (ws : List Str) : Bool := !ws.isEmpty && ws.all (fun w => no32 w && decide (w.length ≤ 10)) && decide (ws.length ≤ 5000)
theorem wk_of {ws : List Str} (h : wkB ws = true) : Wk ws := by
  unfold wkB at h
  simp only [Bool.and_eq_true, Bool.not_eq_true', decide_eq_true_eq, List.all_eq_true] at h
  obtain ⟨⟨h1, h2⟩, h3⟩ := h
  exact ⟨(by intro z; rw [z] at h1; cases h1), fun w hw => (by have := (h2 w hw).1; unfold no32 at this; simpa using this), fun w hw => (h2 w hw).2, h3⟩
theorem tc {ns : List Int} {T : Fx.Tm} (h : StR ns T) (S : Str) (z : Int) {t : Tr} (ok : t.ok) (hs : t.size ≤ 400) {ws : List Str} (k : wkB ws = true) (i : Nat) (hi : i < t.words.length) (hw : ∀ j, j < i → ws[j]? = t.words[j]?) (hb : bad t i ws i) (hS : S = PySem.Txt.join sp_ ws) (hz : z = (i : Int)) :
    ∃ T', StR ns T' ∧ h__law_told [.str S] T = some (.int z, T') := by
  subst hS hz
  exact tl_bad h ok hs (wk_of k) hi hw hb
theorem fac_ok (ns : List Int) (h : decide (ns.length ≤ 6) && ns.all (fun n => decide (-9 ≤ n) && decide (n ≤ 9)) = true) : facB ns := by
  simp only [Bool.and_eq_true, decide_eq_true_eq, List.all_eq_true] at h
  exact h
theorem bN {P : Str → Prop} {ws : List Str} {q : Nat} (w : Str) (h1 : ws[q]? = some w) (h2 : P w) : Bd P ws q := .inr ⟨w, h1, h2⟩
abbrev o (s : String) : Str := Str.ofString s
def lf : Tr := .be [] 1
theorem lf_ok : lf.ok := ⟨⟨by decide, by decide⟩, by decide, by decide⟩
def b6 : Tr := .be [1, 1, 1, 1, 1, 1] 0
theorem b6_ok : b6.ok := ⟨⟨by decide, by decide⟩, by decide, by decide⟩
def b1 : Tr := .be [1] 0
theorem b1_ok : b1.ok := ⟨⟨by decide, by decide⟩, by decide, by decide⟩
def r1 : Tr := .re [1] 3 0
theorem r1_ok : r1.ok := ⟨⟨by decide, by decide⟩, by decide, by decide, by decide, by decide⟩
section
variable {ns : List Int} {T : Fx.Tm} (h : StR ns T)
include h
theorem c1 : ∃ T', StR ns T' ∧ h__law_told [.str (o "")] T = some (.int 0, T') :=
  tc h _ 0 lf_ok (by decide) (ws := [o ""]) (by decide +kernel) 0 (by decide +kernel) (fun j hj => absurd hj (Nat.not_lt_zero j)) (bN (o "") rfl ⟨by decide +kernel, by decide +kernel, by decide +kernel, by decide +kernel⟩) (by decide +kernel) rfl
theorem c2 : ∃ T', StR ns T' ∧ h__law_told [.str (o "below 1 1 1 1 1 1 1 ; 0")] T = some (.int 7, T') :=
  tc h _ 7 b6_ok (by decide) (ws := [o "below", o "1", o "1", o "1", o "1", o "1", o "1", o "1", o ";", o "0"]) (by decide +kernel) 7 (by decide +kernel) (by decide +kernel) (show Bd (badF 6) _ 7 from bN (o "1") rfl ⟨by decide +kernel, by decide +kernel, .inl rfl⟩) (by decide +kernel) rfl
theorem c3 : ∃ T', StR ns T' ∧ h__law_told [.str (o "below 10 ; 0")] T = some (.int 1, T') :=
  tc h _ 1 lf_ok (by decide) (ws := [o "below", o "10", o ";", o "0"]) (by decide +kernel) 1 (by decide +kernel) (by decide +kernel) (show Bd (badF 0) _ 1 from bN (o "10") rfl ⟨by decide +kernel, by decide +kernel, .inr ⟨by decide +kernel, .inr ⟨10, by decide +kernel, by decide, by decide, by decide⟩⟩⟩) (by decide +kernel) rfl
theorem c4 : ∃ T', StR ns T' ∧ h__law_told [.str (o "rest 1 ; 3 3")] T = some (.int 4, T') :=
  tc h _ 4 r1_ok (by decide) (ws := [o "rest", o "1", o ";", o "3", o "3"]) (by decide +kernel) 4 (by decide +kernel) (by decide +kernel) (show Bd (badN 0 2) _ 4 from bN (o "3") rfl ⟨by decide +kernel, .inr ⟨3, by decide +kernel, by decide, by decide, by decide⟩⟩) (by decide +kernel) rfl
theorem c5 : ∃ T', StR ns T' ∧ h__law_told [.str (o "rest 1 ; 13 0")] T = some (.int 3, T') :=
  tc h _ 3 r1_ok (by decide) (ws := [o "rest", o "1", o ";", o "13", o "0"]) (by decide +kernel) 3 (by decide +kernel) (by decide +kernel) (show Bd (badN 1 12) _ 3 from bN (o "13") rfl ⟨by decide +kernel, .inr ⟨13, by decide +kernel, by decide, by decide, by decide⟩⟩) (by decide +kernel) rfl
theorem c6 : ∃ T', StR ns T' ∧ h__law_told [.str (o "rest 1 ; 0 0")] T = some (.int 3, T') :=
  tc h _ 3 r1_ok (by decide) (ws := [o "rest", o "1", o ";", o "0", o "0"]) (by decide +kernel) 3 (by decide +kernel) (by decide +kernel) (show Bd (badN 1 12) _ 3 from bN (o "0") rfl ⟨by decide +kernel, .inr ⟨0, by decide +kernel, by decide, by decide, by decide⟩⟩) (by decide +kernel) rfl
theorem c7 : ∃ T', StR ns T' ∧ h__law_told [.str (o "below 1 ; 100")] T = some (.int 3, T') :=
  tc h _ 3 b1_ok (by decide) (ws := [o "below", o "1", o ";", o "100"]) (by decide +kernel) 3 (by decide +kernel) (by decide +kernel) (show Bd (badN (-99) 99) _ 3 from bN (o "100") rfl ⟨by decide +kernel, .inl ⟨by decide +kernel, by decide +kernel⟩⟩) (by decide +kernel) rfl
theorem c8 : ∃ T', StR ns T' ∧ h__law_told [.str (o " below ; 1")] T = some (.int 0, T') :=
  tc h _ 0 lf_ok (by decide) (ws := [o "", o "below", o ";", o "1"]) (by decide +kernel) 0 (by decide +kernel) (fun j hj => absurd hj (Nat.not_lt_zero j)) (bN (o "") rfl ⟨by decide +kernel, by decide +kernel, by decide +kernel, by decide +kernel⟩) (by decide +kernel) rfl
theorem c9 : ∃ T', StR ns T' ∧ h__law_told [.str (o "rest 1 ; 3 -1")] T = some (.int 4, T') :=
  tc h _ 4 r1_ok (by decide) (ws := [o "rest", o "1", o ";", o "3", o "-1"]) (by decide +kernel) 4 (by decide +kernel) (by decide +kernel) (show Bd (badN 0 2) _ 4 from bN (o "-1") rfl ⟨by decide +kernel, .inr ⟨-1, by decide +kernel, by decide, by decide, by decide⟩⟩) (by decide +kernel) rfl
theorem c10 : ∃ T', StR ns T' ∧ h__law_told [.str (o "below -10 ; 0")] T = some (.int 1, T') :=
  tc h _ 1 lf_ok (by decide) (ws := [o "below", o "-10", o ";", o "0"]) (by decide +kernel) 1 (by decide +kernel) (by decide +kernel) (show Bd (badF 0) _ 1 from bN (o "-10") rfl ⟨by decide +kernel, by decide +kernel, .inr ⟨by decide +kernel, .inr ⟨-10, by decide +kernel, by decide, by decide, by decide⟩⟩⟩) (by decide +kernel) rfl
theorem c11 : ∃ T', StR ns T' ∧ h__law_told [.str (o "rest 1 ; -1 0")] T = some (.int 3, T') :=
  tc h _ 3 r1_ok (by decide) (ws := [o "rest", o "1", o ";", o "-1", o "0"]) (by decide +kernel) 3 (by decide +kernel) (by decide +kernel) (show Bd (badN 1 12) _ 3 from bN (o "-1") rfl ⟨by decide +kernel, .inr ⟨-1, by decide +kernel, by decide, by decide, by decide⟩⟩) (by decide +kernel) rfl
theorem c12 : ∃ T', StR ns T' ∧ h__law_told [.str (o "below ;\n1")] T = some (.int 1, T') :=
  tc h _ 1 lf_ok (by decide) (ws := [o "below", o ";\n1"]) (by decide +kernel) 1 (by decide +kernel) (by decide +kernel) (show Bd (badF 0) _ 1 from bN (o ";\n1") rfl ⟨by decide +kernel, by decide +kernel, .inr ⟨by decide +kernel, .inl ⟨by decide +kernel, by decide +kernel⟩⟩⟩) (by decide +kernel) rfl
theorem c13 : ∃ T', StR ns T' ∧ h__law_told [.str (o "below ;\t1")] T = some (.int 1, T') :=
  tc h _ 1 lf_ok (by decide) (ws := [o "below", o ";\t1"]) (by decide +kernel) 1 (by decide +kernel) (by decide +kernel) (show Bd (badF 0) _ 1 from bN (o ";\t1") rfl ⟨by decide +kernel, by decide +kernel, .inr ⟨by decide +kernel, .inl ⟨by decide +kernel, by decide +kernel⟩⟩⟩) (by decide +kernel) rfl
theorem c14 : ∃ T', StR ns T' ∧ h__law_told [.str (o "below ; 1\n")] T = some (.int 2, T') :=
  tc h _ 2 lf_ok (by decide) (ws := [o "below", o ";", o "1\n"]) (by decide +kernel) 2 (by decide +kernel) (by decide +kernel) (show Bd (badN (-99) 99) _ 2 from bN (o "1\n") rfl ⟨by decide +kernel, .inl ⟨by decide +kernel, by decide +kernel⟩⟩) (by decide +kernel) rfl
theorem c15 : ∃ T', StR ns T' ∧ h__law_told [.str (o "\tbelow ; 1")] T = some (.int 0, T') :=
  tc h _ 0 lf_ok (by decide) (ws := [o "\tbelow", o ";", o "1"]) (by decide +kernel) 0 (by decide +kernel) (fun j hj => absurd hj (Nat.not_lt_zero j)) (bN (o "\tbelow") rfl ⟨by decide +kernel, by decide +kernel, by decide +kernel, by decide +kernel⟩) (by decide +kernel) rfl
end
end K20
set_option maxHeartbeats 1000000
namespace K20
open Fx LC PM K1 K19
open PySem (Str PyData)
/-! ### long texts -/
def nts : Nat → Tr
  | 0 => lf
  | k + 1 => .nt (nts k)
def bos : Nat → Tr
  | 0 => lf
  | k + 1 => .bo (bos k) lf
theorem nts_ok : ∀ k, (nts k).ok
  | 0 => lf_ok
  | k + 1 => nts_ok k
theorem bos_ok : ∀ k, (bos k).ok
  | 0 => lf_ok
  | k + 1 => ⟨bos_ok k, lf_ok⟩
theorem nts_size : ∀ k, (nts k).size = k + 1
  | 0 => rfl
  | k + 1 => by show (nts k).size + 1 = _; rw [nts_size k]
theorem bos_size : ∀ k, (bos k).size = 2 * k + 1
  | 0 => rfl
  | k + 1 => by show (bos k).size + lf.size + 1 = _; rw [bos_size k]; show 2 * k + 1 + 1 + 1 = _; omega
theorem mul_run {a : Str} (ha : a.length ≤ 20) {n : Int} (h0 : 0 ≤ n) (h1 : n ≤ 50) : mulSD (.str a) (.int n) = some (.str (PySem.Txt.mul a n)) := by
  unfold mulSD
  exact if_pos (dc_of (PyProof.Rows.mulOk_of 20 50 ha (by omega) (by omega) (by omega) (by omega)))
theorem add_run {a b : Str} (h : a.length + b.length ≤ 10000) : addD (.str a) (.str b) = some (.str (a ++ b)) := by
  rw [addD_str, if_pos (by rw [line_eq]; omega)]
def T1s : Str := PySem.Txt.mul (Str.ofString "not ") 40 ++ Str.ofString "below ; 1 x"
def T2s : Str := PySem.Txt.mul (Str.ofString "both ") 24 ++ PySem.Txt.mul (Str.ofString "below ; 1 ") 24 ++ Str.ofString "below ; x"
def T3s (k : Int) : Str := PySem.Txt.mul (Str.ofString "both ") k ++ PySem.Txt.mul (Str.ofString "below ; 1 ") k ++ Str.ofString "below ; 1"
def T4s (k : Int) : Str := PySem.Txt.mul (Str.ofString "not ") k ++ Str.ofString "below ; 1"
theorem t1s : T1s = PySem.Txt.join sp_ ((nts 40).words ++ [Str.ofString "x"]) := by decide +kernel
theorem t2s : T2s = PySem.Txt.join sp_ ((bos 24).words.take 98 ++ [Str.ofString "x"]) := by decide +kernel
theorem t3s : T3s 19 = (bos 19).text ∧ T3s 20 = (bos 20).text ∧ T3s 24 = (bos 24).text := by
  refine ⟨?_, ?_, ?_⟩ <;> decide +kernel
theorem t4s : T4s 38 = (nts 38).text ∧ T4s 39 = (nts 39).text ∧ T4s 40 = (nts 40).text ∧ T4s 41 = (nts 41).text := by
  refine ⟨?_, ?_, ?_, ?_⟩ <;> decide +kernel
section
variable {ns : List Int} {T : Fx.Tm} (h : StR ns T)
include h
theorem d1 : ∃ T', StR ns T' ∧ h__law_told [.str T1s] T = some (.int 43, T') := by
  have k : Wk ((nts 40).words ++ [Str.ofString "x"]) := wk_of (by decide +kernel)
  obtain ⟨T', t', e⟩ := tl_more h (nts_ok 40) (by rw [nts_size]; omega) (by simp) k
  rw [← t1s, show ((nts 40).words.length : Int) = 43 from by decide +kernel] at e
  exact ⟨T', t', e⟩
theorem d2 : ∃ T', StR ns T' ∧ h__law_told [.str T2s] T = some (.int 98, T') := by
  have l24 : (bos 24).words.length = 99 := by decide +kernel
  have l23 : (bos 23).words.length = 95 := by decide +kernel
  have lt : ((bos 24).words.take 98).length = 98 := by rw [List.length_take, l24]; rfl
  refine tc h _ 98 (bos_ok 24) (by rw [bos_size]; omega) (ws := (bos 24).words.take 98 ++ [Str.ofString "x"]) (by decide +kernel) 98 (by rw [l24]; omega) (fun j hj => by rw [List.getElem?_append_left (by omega), List.getElem?_take_of_lt hj]) ?_ t2s rfl
  show bad (.bo (bos 23) lf) 98 _ 98
  unfold bad
  rw [if_neg (by omega), if_neg (by rw [l23]; omega), l23]
  show Bd (badN (-99) 99) _ 98
  exact bN (Str.ofString "x") (by rw [List.getElem?_append_right (by omega), lt]; rfl) ⟨by decide +kernel, .inl ⟨by decide +kernel, by decide +kernel⟩⟩
theorem d3 (k : Nat) (hk : k = 19 ∨ k = 20 ∨ k = 24) : ∃ T', StR ns T' ∧ h__law_told [.str (T3s (k : Int))] T = some (.int (if k = 19 then -1 else -4), T') := by
  have e := t3s
  rcases hk with rfl | rfl | rfl
  · obtain ⟨T', t', e1⟩ := tl_ok h (bos_ok 19) (by rw [bos_size]; omega)
    rw [← e.1] at e1
    exact ⟨T', t', e1⟩
  · obtain ⟨T', t', e1⟩ := tl_long h (bos_ok 20) (by rw [bos_size]; omega) (by rw [bos_size]; omega)
    rw [← e.2.1] at e1
    exact ⟨T', t', e1⟩
  · obtain ⟨T', t', e1⟩ := tl_long h (bos_ok 24) (by rw [bos_size]; omega) (by rw [bos_size]; omega)
    rw [← e.2.2] at e1
    exact ⟨T', t', e1⟩
theorem d4 (k : Nat) (h0 : 38 ≤ k) (h1 : k ≤ 41) : ∃ T', StR ns T' ∧ h__law_told [.str (T4s (k : Int))] T = some (.int (if k + 1 ≤ 40 then -1 else -4), T') := by
  have e := t4s
  have hk : k = 38 ∨ k = 39 ∨ k = 40 ∨ k = 41 := by omega
  rcases hk with rfl | rfl | rfl | rfl
  · obtain ⟨T', t', e1⟩ := tl_ok h (nts_ok 38) (by rw [nts_size]; omega)
    rw [← e.1] at e1
    exact ⟨T', t', e1⟩
  · obtain ⟨T', t', e1⟩ := tl_ok h (nts_ok 39) (by rw [nts_size]; omega)
    rw [← e.2.1] at e1
    exact ⟨T', t', e1⟩
  · obtain ⟨T', t', e1⟩ := tl_long h (nts_ok 40) (by rw [nts_size]; omega) (by rw [nts_size]; omega)
    rw [← e.2.2.1] at e1
    exact ⟨T', t', e1⟩
  · obtain ⟨T', t', e1⟩ := tl_long h (nts_ok 41) (by rw [nts_size]; omega) (by rw [nts_size]; omega)
    rw [← e.2.2.2] at e1
    exact ⟨T', t', e1⟩
end
end K20
set_option maxHeartbeats 4000000
namespace K20
open Fx LC PM K1 K19
open PySem (Str PyData)
local macro_rules | `(tactic| walk_at "wu") => `(tactic| simp only [andT, notT, m1F, excF, runB, noX, neverS, bindF_none, Option.map_none, objF, List.replicate_succ, List.replicate_zero, lenD_lst, lenD_tup, orT, slF, bSo, bNo, blF, frzF, seqS, nilS, brkS, cntS, asgF, retF, ifS, testF, binF, varF, varO, constF, ofF, bindF_some, consF, nilF, callF, lstF, tupF, tofF, unpF, negF, setN, tgD, ixF, lenF, dropF, fldF, inTF, ixTF, iiF_int, ctt_eq, eqD_int, addD_int,
  List.map_cons, List.map_nil, List.cons_append, List.nil_append, List.length_cons, List.length_nil, List.getElem?_cons_zero, List.getElem?_cons_succ, List.set_cons_zero, List.set_cons_succ, Option.map_some, Option.isSome_none, Option.isSome_some, if_true, Nat.reduceAdd, Nat.reduceSub, Bool.false_eq_true, if_false, *])
theorem same (i : Int) : neD (.int i) (.int i) = some (.bl false) := by rw [neD_i, decide_eq_true rfl]; rfl
section
variable {ns : List Int} {T : Fx.Tm}
theorem q5_run (h : StR ns T) (ρ : Rho) : ∃ T', StR ns T' ∧ q5 ρ T = some (.nx ρ, T') := by
  obtain ⟨T1, t1, e1⟩ := c1 h
  obtain ⟨T2, t2, e2⟩ := c2 t1
  obtain ⟨T3, t3, e3⟩ := c3 t2
  obtain ⟨T4, t4, e4⟩ := c4 t3
  refine ⟨T4, t4, ?_⟩
  have n1 := same 0
  have n2 := same 7
  have n3 := same 1
  have n4 := same 4
  unfold q5
  clear h t1 t2 t3 t4
  walk_at "wu"
theorem q6_run (h : StR ns T) (ρ : Rho) : ∃ T', StR ns T' ∧ q6 ρ T = some (.nx ρ, T') := by
  obtain ⟨T1, t1, e1⟩ := c5 h
  obtain ⟨T2, t2, e2⟩ := c6 t1
  obtain ⟨T3, t3, e3⟩ := c7 t2
  obtain ⟨T4, t4, e4⟩ := c8 t3
  refine ⟨T4, t4, ?_⟩
  have n1 := same 0
  have n3 := same 3
  unfold q6
  clear h t1 t2 t3 t4
  walk_at "wu"
theorem q7_run (h : StR ns T) (ρ : Rho) : ∃ T', StR ns T' ∧ q7 ρ T = some (.nx ρ, T') := by
  obtain ⟨T1, t1, e1⟩ := c9 h
  obtain ⟨T2, t2, e2⟩ := c10 t1
  obtain ⟨T3, t3, e3⟩ := c11 t2
  refine ⟨T3, t3, ?_⟩
  have n1 := same 4
  have n2 := same 1
  have n3 := same 3
  unfold q7
  clear h t1 t2 t3
  walk_at "wu"
theorem q10_run (h : StR ns T) (ρ : Rho) : ∃ T', StR ns T' ∧ q10 ρ T = some (.nx ρ, T') := by
  obtain ⟨T1, t1, e1⟩ := c12 h
  obtain ⟨T2, t2, e2⟩ := c13 t1
  obtain ⟨T3, t3, e3⟩ := c14 t2
  obtain ⟨T4, t4, e4⟩ := c15 t3
  refine ⟨T4, t4, ?_⟩
  have n1 := same 0
  have n2 := same 1
  have n3 := same 2
  unfold q10
  clear h t1 t2 t3 t4
  walk_at "wu"
theorem q8_run (h : StR ns T) (ρ : Rho) : ∃ T', StR ns T' ∧ q8 ρ T = some (.nx ρ, T') := by
  obtain ⟨T1, t1, e1⟩ := d1 h
  obtain ⟨T2, t2, e2⟩ := d2 t1
  refine ⟨T2, t2, ?_⟩
  have n1 := same 43
  have n2 := same 98
  have m1 := mul_run (a := Str.ofString "not ") (n := 40) (by decide +kernel) (by omega) (by omega)
  have m2 := mul_run (a := Str.ofString "both ") (n := 24) (by decide +kernel) (by omega) (by omega)
  have m3 := mul_run (a := Str.ofString "below ; 1 ") (n := 24) (by decide +kernel) (by omega) (by omega)
  have a1 : addD (.str (PySem.Txt.mul (Str.ofString "not ") 40)) (.str (Str.ofString "below ; 1 x")) = some (.str T1s) := add_run (by decide +kernel)
  have a2 : addD (.str (PySem.Txt.mul (Str.ofString "both ") 24)) (.str (PySem.Txt.mul (Str.ofString "below ; 1 ") 24)) = some (.str (PySem.Txt.mul (Str.ofString "both ") 24 ++ PySem.Txt.mul (Str.ofString "below ; 1 ") 24)) := add_run (by decide +kernel)
  have a3 : addD (.str (PySem.Txt.mul (Str.ofString "both ") 24 ++ PySem.Txt.mul (Str.ofString "below ; 1 ") 24)) (.str (Str.ofString "below ; x")) = some (.str T2s) := add_run (by decide +kernel)
  have s1 : ((24 : Int) + 72 + 2) = 98 := by omega
  unfold q8
  generalize T1s = S1 at *
  generalize T2s = S2 at *
  generalize PySem.Txt.mul (Str.ofString "both ") 24 ++ PySem.Txt.mul (Str.ofString "below ; 1 ") 24 = S3 at *
  generalize PySem.Txt.mul (Str.ofString "both ") 24 = S4 at *
  generalize PySem.Txt.mul (Str.ofString "below ; 1 ") 24 = S5 at *
  generalize PySem.Txt.mul (Str.ofString "not ") 40 = S6 at *
  clear h t1 t2
  walk_at "wu"
theorem two_at (T : Fx.Tm) : ixD T (.val (.lst [.int (0 - 4), .int (0 - 1)])) (.int 0) = some (.int (-4)) ∧ ixD T (.val (.lst [.int (0 - 4), .int (0 - 1)])) (.int 1) = some (.int (-1)) := ⟨rfl, rfl⟩
theorem lvB_run (h : StR ns T) (k : Nat) (hk : k = 19 ∨ k = 20 ∨ k = 24) (x0 x1 x2 x3 x4 x6 x7 : Sl) : ∃ T', StR ns T' ∧ lvB [x0, x1, x2, x3, x4, .dat (.int ((k : Int) + 1)), x6, x7] T = some (.nx [x0, x1, x2, x3, x4, .dat (.int ((k : Int) + 1)), x6, x7], T') := by
  obtain ⟨T1, t1, e1⟩ := d3 h k hk
  refine ⟨T1, t1, ?_⟩
  have m2 := mul_run (a := Str.ofString "both ") (n := (k : Int)) (by decide +kernel) (by omega) (by omega)
  have m3 := mul_run (a := Str.ofString "below ; 1 ") (n := (k : Int)) (by decide +kernel) (by omega) (by omega)
  have a2 : addD (.str (PySem.Txt.mul (Str.ofString "both ") (k : Int))) (.str (PySem.Txt.mul (Str.ofString "below ; 1 ") (k : Int))) = some (.str (PySem.Txt.mul (Str.ofString "both ") (k : Int) ++ PySem.Txt.mul (Str.ofString "below ; 1 ") (k : Int))) := add_run (by rcases hk with rfl | rfl | rfl <;> decide +kernel)
  have a3 : addD (.str (PySem.Txt.mul (Str.ofString "both ") (k : Int) ++ PySem.Txt.mul (Str.ofString "below ; 1 ") (k : Int))) (.str (Str.ofString "below ; 1")) = some (.str (T3s (k : Int))) := add_run (by rcases hk with rfl | rfl | rfl <;> decide +kernel)
  have s1 : ((k : Int) + 1 - 1) = (k : Int) := by omega
  have n1 := same (if k = 19 then -1 else -4)
  have l2 : (0 + 1 + 1 : Nat) ≤ PySem.sizeLine := by rw [line_eq]; omega
  have i1 : intD [.bl (decide ((k : Int) + 1 = 20))] = some (.int (if k = 19 then 1 else 0)) := by
    show some (D.int (if decide ((k : Int) + 1 = 20) = true then 1 else 0)) = _
    rcases hk with rfl | rfl | rfl <;> rfl
  have i2 : ixD T1 (.val (.lst [.int (0 - 4), .int (0 - 1)])) (.int (if k = 19 then 1 else 0)) = some (.int (if k = 19 then -1 else -4)) := by
    obtain ⟨z1, z2⟩ := two_at T1
    rcases hk with rfl | rfl | rfl
    · exact z2
    · exact z1
    · exact z1
  unfold lvB
  generalize T3s (k : Int) = S2 at *
  generalize PySem.Txt.mul (Str.ofString "both ") (k : Int) ++ PySem.Txt.mul (Str.ofString "below ; 1 ") (k : Int) = S3 at *
  generalize PySem.Txt.mul (Str.ofString "both ") (k : Int) = S4 at *
  generalize PySem.Txt.mul (Str.ofString "below ; 1 ") (k : Int) = S5 at *
  generalize (if k = 19 then (-1 : Int) else -4) = z at *
  generalize (if k = 19 then (1 : Int) else 0) = z2 at *
  clear h t1 hk
  walk_at "wu"
theorem q12_run (h : StR ns T) (k : Nat) (h0 : 38 ≤ k) (h1 : k ≤ 41) (x0 x1 x2 x3 x4 x5 x7 : Sl) : ∃ T', q12 [x0, x1, x2, x3, x4, x5, .dat (.int (k : Int)), x7] T = some (.rt (.bl true), T') := by
  obtain ⟨T1, t1, e1⟩ := d4 h k h0 h1
  refine ⟨T1, ?_⟩
  have hk : k = 38 ∨ k = 39 ∨ k = 40 ∨ k = 41 := by omega
  have m2 := mul_run (a := Str.ofString "not ") (n := (k : Int)) (by decide +kernel) (by omega) (by omega)
  have a3 : addD (.str (PySem.Txt.mul (Str.ofString "not ") (k : Int))) (.str (Str.ofString "below ; 1")) = some (.str (T4s (k : Int))) := add_run (by rcases hk with rfl | rfl | rfl | rfl <;> decide +kernel)
  have n1 : eqD (.int (if k + 1 ≤ 40 then -1 else -4)) (.int (if k + 1 ≤ 40 then -1 else -4)) = some (.bl true) := by rw [LC.eqD_int, decide_eq_true rfl]
  have l2 : (0 + 1 + 1 : Nat) ≤ PySem.sizeLine := by rw [line_eq]; omega
  have i1 : intD [.bl (decide ((k : Int) + 1 ≤ 40))] = some (.int (if k + 1 ≤ 40 then 1 else 0)) := by
    show some (D.int (if decide ((k : Int) + 1 ≤ 40) = true then 1 else 0)) = _
    rcases hk with rfl | rfl | rfl | rfl <;> rfl
  have i2 : ixD T1 (.val (.lst [.int (0 - 4), .int (0 - 1)])) (.int (if k + 1 ≤ 40 then 1 else 0)) = some (.int (if k + 1 ≤ 40 then -1 else -4)) := by
    obtain ⟨z1, z2⟩ := two_at T1
    rcases hk with rfl | rfl | rfl | rfl
    · exact z2
    · exact z2
    · exact z1
    · exact z1
  unfold q12
  generalize T4s (k : Int) = S2 at *
  generalize PySem.Txt.mul (Str.ofString "not ") (k : Int) = S4 at *
  generalize (if k + 1 ≤ 40 then (-1 : Int) else -4) = z at *
  generalize (if k + 1 ≤ 40 then (1 : Int) else 0) = z2 at *
  clear h t1 hk h0 h1
  walk_at "wu"
theorem q3_run (h : StR ns T) {t : Tr} (ok : t.ok) (hs : t.size ≤ 40) (x0 x1 x2 x4 x5 x6 x7 : Sl) : ∃ T', StR ns T' ∧ q3 [x0, x1, x2, .dat (.lst (t.words.map D.str)), x4, x5, x6, x7] T = some (.nx [x0, x1, x2, .dat (.lst (t.words.map D.str)), x4, x5, x6, x7], T') := by
  obtain ⟨T1, t1, e1⟩ := tl_ok h ok hs
  refine ⟨T1, t1, ?_⟩
  have jn : joinD (Str.ofString " ") (.lst (t.words.map D.str)) = some (.str t.text) := (wk_words ok (by omega)).jn
  have n1 : neD (.int (-1)) (.int (0 - 1)) = some (.bl false) := same (-1)
  have n2 := same 5
  have lg : dc ((5 : Int).natAbs.log2 < 1920) = true := dc_of (by decide)
  unfold q3
  clear h t1 ok hs
  walk_at "wu"
end
end K20
set_option maxHeartbeats 4000000
namespace K20
open Fx LC PM K1 K19
open PySem (Str PyData)
local macro_rules | `(tactic| walk_at "wv") => `(tactic| simp only [forS, rng1, lrgF, lofF, objF, LC.seqD_lst, andT, notT, m1F, excF, runB, noX, neverS, bindF_none, Option.map_none, objF, List.replicate_succ, List.replicate_zero, lenD_lst, lenD_tup, orT, slF, bSo, bNo, blF, frzF, seqS, nilS, brkS, cntS, asgF, retF, ifS, testF, binF, varF, varO, constF, ofF, bindF_some, consF, nilF, callF, lstF, tupF, tofF, unpF, negF, setN, tgD, ixF, lenF, dropF, fldF, inTF, ixTF, iiF_int, ctt_eq, eqD_int, addD_int,
  List.map_cons, List.map_nil, List.cons_append, List.nil_append, List.length_cons, List.length_nil, List.getElem?_cons_zero, List.getElem?_cons_succ, List.set_cons_zero, List.set_cons_succ, Option.map_some, Option.isSome_none, Option.isSome_some, if_true, Nat.reduceAdd, Nat.reduceSub, Bool.false_eq_true, if_false, *])
theorem law_true (ns : List Int) (hl : ns.length ≤ 63) : ∃ T, h_law [.frl (ns.map D.int)] [] = some (.bl true, T) := by
  obtain ⟨d, T1, g1, g2, t1, e1⟩ := draw_st (st_start ns) (n := 4) (by omega) (by omega)
  obtain ⟨L, T2, v1, a1, b1, t2, e2⟩ := plainZ_run t1 (count := d) (many := 3) (far := 3) (by omega) (by omega) (by omega) (by omega) (by omega) (by omega)
  obtain ⟨n, hn⟩ : ∃ n : Nat, L.length = n + 1 := ⟨L.length - 1, by omega⟩
  obtain ⟨t, r, ok, hs⟩ := v1 n (by omega)
  have hs40 : t.size ≤ 9 := by omega
  have dl := t.depth_le
  have lw := lw_run r T2 ok (by omega) 60 (by omega)
  obtain ⟨T3, t3, e3⟩ := q3_run (T := T2) (StR.of t2) ok (by omega) (.dat (.frl (ns.map D.int))) (.dat (.ob 0)) (.dat (eY L)) .un .un .un .un
  obtain ⟨ρ4, T4, ⟨⟨x4, x7, rfl⟩, t4⟩, e4⟩ := forL_inv (t := .nm 4) (body := lpB) (inv := fun ρ T => (∃ x4 x7, ρ = [.dat (.frl (ns.map D.int)), .dat (.ob 0), .dat (eY L), .dat (.lst (t.words.map D.str)), x4, .un, .un, x7]) ∧ StR ns T) (rngL 0 6) (fun d hd ρ T h => by
    obtain ⟨⟨x4, x7, rfl⟩, st⟩ := h
    obtain ⟨y7, T', st', e⟩ := lpB_run st ok (by omega) (.dat (.frl (ns.map D.int))) (.dat (eY L)) (.dat d) .un .un x7
    exact ⟨_, _, T', rfl, e, ⟨_, _, rfl⟩, st'⟩) [.dat (.frl (ns.map D.int)), .dat (.ob 0), .dat (eY L), .dat (.lst (t.words.map D.str)), .un, .un, .un, .un] T3 ⟨⟨_, _, rfl⟩, t3⟩
  obtain ⟨T5, t5, e5⟩ := q5_run t4 [.dat (.frl (ns.map D.int)), .dat (.ob 0), .dat (eY L), .dat (.lst (t.words.map D.str)), x4, .un, .un, x7]
  obtain ⟨T6, t6, e6⟩ := q6_run t5 [.dat (.frl (ns.map D.int)), .dat (.ob 0), .dat (eY L), .dat (.lst (t.words.map D.str)), x4, .un, .un, x7]
  obtain ⟨T7, t7, e7⟩ := q7_run t6 [.dat (.frl (ns.map D.int)), .dat (.ob 0), .dat (eY L), .dat (.lst (t.words.map D.str)), x4, .un, .un, x7]
  obtain ⟨T8, t8, e8⟩ := q8_run t7 [.dat (.frl (ns.map D.int)), .dat (.ob 0), .dat (eY L), .dat (.lst (t.words.map D.str)), x4, .un, .un, x7]
  obtain ⟨U1, s1, f1⟩ := lvB_run t8 19 (.inl rfl) (.dat (.frl (ns.map D.int))) (.dat (.ob 0)) (.dat (eY L)) (.dat (.lst (t.words.map D.str))) x4 .un x7
  obtain ⟨U2, s2, f2⟩ := lvB_run s1 20 (.inr (.inl rfl)) (.dat (.frl (ns.map D.int))) (.dat (.ob 0)) (.dat (eY L)) (.dat (.lst (t.words.map D.str))) x4 .un x7
  obtain ⟨U3, s3, f3⟩ := lvB_run s2 24 (.inr (.inr rfl)) (.dat (.frl (ns.map D.int))) (.dat (.ob 0)) (.dat (eY L)) (.dat (.lst (t.words.map D.str))) x4 .un x7
  have lv : forL (.nm 5) lvB [.int 20, .int 21, .int 25] [.dat (.frl (ns.map D.int)), .dat (.ob 0), .dat (eY L), .dat (.lst (t.words.map D.str)), x4, .un, .un, x7] T8 = some (.nx [.dat (.frl (ns.map D.int)), .dat (.ob 0), .dat (eY L), .dat (.lst (t.words.map D.str)), x4, .dat (.int 25), .un, x7], U3) := by
    have f1' : lvB [.dat (.frl (ns.map D.int)), .dat (.ob 0), .dat (eY L), .dat (.lst (t.words.map D.str)), x4, .dat (.int 20), .un, x7] T8 = some (.nx [.dat (.frl (ns.map D.int)), .dat (.ob 0), .dat (eY L), .dat (.lst (t.words.map D.str)), x4, .dat (.int 20), .un, x7], U1) := f1
    have f2' : lvB [.dat (.frl (ns.map D.int)), .dat (.ob 0), .dat (eY L), .dat (.lst (t.words.map D.str)), x4, .dat (.int 21), .un, x7] U1 = some (.nx [.dat (.frl (ns.map D.int)), .dat (.ob 0), .dat (eY L), .dat (.lst (t.words.map D.str)), x4, .dat (.int 21), .un, x7], U2) := f2
    have f3' : lvB [.dat (.frl (ns.map D.int)), .dat (.ob 0), .dat (eY L), .dat (.lst (t.words.map D.str)), x4, .dat (.int 25), .un, x7] U2 = some (.nx [.dat (.frl (ns.map D.int)), .dat (.ob 0), .dat (eY L), .dat (.lst (t.words.map D.str)), x4, .dat (.int 25), .un, x7], U3) := f3
    simp only [forL, tgD, List.set_cons_succ, List.set_cons_zero, List.length_cons, List.length_nil, Nat.reduceAdd, Nat.reduceLT, if_true, f1', f2', f3']
  obtain ⟨T9, t9, e9⟩ := q10_run s3 [.dat (.frl (ns.map D.int)), .dat (.ob 0), .dat (eY L), .dat (.lst (t.words.map D.str)), x4, .dat (.int 25), .un, x7]
  obtain ⟨z, T10, h0, h1, t10, e10⟩ := drawR_st t9 (n := 4) (by omega) (by omega)
  obtain ⟨k, rfl⟩ : ∃ k : Nat, z = (k : Int) := ⟨z.toNat, by omega⟩
  obtain ⟨T11, e11⟩ := q12_run t10 (38 + k) (by omega) (by omega) (.dat (.frl (ns.map D.int))) (.dat (.ob 0)) (.dat (eY L)) (.dat (.lst (t.words.map D.str))) x4 (.dat (.int 25)) x7
  rw [show ((38 + k : Nat) : Int) = 38 + (k : Int) by omega] at e11
  refine ⟨T11, ?_⟩
  have el := eY_len L
  have sb := sub_len hn
  rw [hn] at el sb
  have sq : ∀ T, seqD T (.val (.frl (ns.map D.int))) = some (false, ns.map D.int) := fun _ => rfl
  have z4 := len4
  have z3 : (0 + 1 + 1 + 1 : Nat) ≤ PySem.sizeLine := by rw [line_eq]; omega
  have r1 : in62 6 = true := in62_of (by omega) (by omega)
  unfold h_law
  rw [law_eq]
  clear hl t1 t2 t3 t4 t5 t6 t7 t8 t9 t10 s1 s2 s3 f1 f2 f3 v1 a1 b1 g1 g2 h0 h1 r ok hs hs40 hn dl
  walk_at "wv"
end K20
namespace K20
open PySem PySem.Spec PyProof.Rows L2 Fx LC PM K1 K19
theorem all_mk {l : PySem.W.OpenLaw} {w : World} {K : PySem.W.Frag} {h : Heap} {mg : Str → Option Value} {fa : Addr} (X : K.In h) (G : h.Ns mainGlobals mg) (hfa : mg (Str.ofString "law") = some (.ref fa))
    {C_Reading : Addr} (xReading : PySem.W.nsIn K mainGlobals (Str.ofString "Reading") = some (some (.ref C_Reading))) (pReading : PySem.W.plainGet K C_Reading Str.empty = true) (hReading : PySem.W.hasDictIn K C_Reading = true) (oReading : PySem.W.plainOver K C_Reading = true) (sReading : PySem.W.findIn K (.ref C_Reading) (Str.ofString "__setattr__") = some (some (.builtin "object.__setattr__"))) (yReading : PySem.W.makesIn K C_Reading = true) (wReading : PySem.W.keepIn K (.ref C_Reading) = true) (qReading_words : PySem.W.findIn K (.ref C_Reading) (Str.ofString "words") = some none) (qReading_at : PySem.W.findIn K (.ref C_Reading) (Str.ofString "at") = some none) (qReading_lines : PySem.W.findIn K (.ref C_Reading) (Str.ofString "lines") = some none)
    {f0 : Addr} {oc0 kV0 dc0 pm0 cd0 ct0 : Value} {od0 an0 : Option Addr} {sl0 : Array (Option Value)}
    (a0 : PySem.W.nsIn K mainGlobals (Str.ofString "_law_draw") = some (some (.ref f0))) (l0 : K.lookup f0 = some ⟨oc0, od0, .func (PySem.W.fnOf (Str.ofString "_law_draw") (Str.ofString "_law_draw") (defArgs s__law_draw) (defBody s__law_draw) (defScope s__law_draw) .none kV0 dc0 pm0 an0 cd0 ct0), sl0⟩) (c0 : PySem.W.codeIn K cd0 (Str.ofString "_law_draw") = true) (k0 : PySem.W.keepIn K (.ref f0) = true)
    {f1 : Addr} {oc1 kV1 dc1 pm1 cd1 ct1 : Value} {od1 an1 : Option Addr} {sl1 : Array (Option Value)}
    (a1 : PySem.W.nsIn K mainGlobals (Str.ofString "_law_factors") = some (some (.ref f1))) (l1 : K.lookup f1 = some ⟨oc1, od1, .func (PySem.W.fnOf (Str.ofString "_law_factors") (Str.ofString "_law_factors") (defArgs s__law_factors) (defBody s__law_factors) (defScope s__law_factors) .none kV1 dc1 pm1 an1 cd1 ct1), sl1⟩) (c1 : PySem.W.codeIn K cd1 (Str.ofString "_law_factors") = true) (k1 : PySem.W.keepIn K (.ref f1) = true)
    {f2 : Addr} {oc2 kV2 dc2 pm2 cd2 ct2 : Value} {od2 an2 : Option Addr} {sl2 : Array (Option Value)}
    (a2 : PySem.W.nsIn K mainGlobals (Str.ofString "_law_atom") = some (some (.ref f2))) (l2 : K.lookup f2 = some ⟨oc2, od2, .func (PySem.W.fnOf (Str.ofString "_law_atom") (Str.ofString "_law_atom") (defArgs s__law_atom) (defBody s__law_atom) (defScope s__law_atom) .none kV2 dc2 pm2 an2 cd2 ct2), sl2⟩) (c2 : PySem.W.codeIn K cd2 (Str.ofString "_law_atom") = true) (k2 : PySem.W.keepIn K (.ref f2) = true)
    {f3 : Addr} {oc3 kV3 dc3 pm3 cd3 ct3 : Value} {od3 an3 : Option Addr} {sl3 : Array (Option Value)}
    (a3 : PySem.W.nsIn K mainGlobals (Str.ofString "_law_plain") = some (some (.ref f3))) (l3 : K.lookup f3 = some ⟨oc3, od3, .func (PySem.W.fnOf (Str.ofString "_law_plain") (Str.ofString "_law_plain") (defArgs s__law_plain) (defBody s__law_plain) (defScope s__law_plain) .none kV3 dc3 pm3 an3 cd3 ct3), sl3⟩) (c3 : PySem.W.codeIn K cd3 (Str.ofString "_law_plain") = true) (k3 : PySem.W.keepIn K (.ref f3) = true)
    {f4 : Addr} {oc4 kV4 dc4 pm4 cd4 ct4 : Value} {od4 an4 : Option Addr} {sl4 : Array (Option Value)}
    (a4 : PySem.W.nsIn K mainGlobals (Str.ofString "_law_words") = some (some (.ref f4))) (l4 : K.lookup f4 = some ⟨oc4, od4, .func (PySem.W.fnOf (Str.ofString "_law_words") (Str.ofString "_law_words") (defArgs s__law_words) (defBody s__law_words) (defScope s__law_words) .none kV4 dc4 pm4 an4 cd4 ct4), sl4⟩) (c4 : PySem.W.codeIn K cd4 (Str.ofString "_law_words") = true) (k4 : PySem.W.keepIn K (.ref f4) = true)
    {f5 : Addr} {oc5 kV5 dc5 pm5 cd5 ct5 : Value} {od5 an5 : Option Addr} {sl5 : Array (Option Value)}
    (a5 : PySem.W.findIn K (.ref C_Reading) (Str.ofString "__init__") = some (some (.ref f5))) (i5 : PySem.W.isFn K (.ref f5) = true) (l5 : K.lookup f5 = some ⟨oc5, od5, .func (PySem.W.fnOf (Str.ofString "__init__") (Str.ofString "Reading.__init__") (defArgs s_Reading___init__) (defBody s_Reading___init__) (defScope s_Reading___init__) .none kV5 dc5 pm5 an5 cd5 ct5), sl5⟩) (c5 : PySem.W.codeIn K cd5 (Str.ofString "Reading.__init__") = true) (k5 : PySem.W.keepIn K (.ref f5) = true)
    {f6 : Addr} {oc6 kV6 dc6 pm6 cd6 ct6 : Value} {od6 an6 : Option Addr} {sl6 : Array (Option Value)}
    (a6 : PySem.W.findIn K (.ref C_Reading) (Str.ofString "next_word") = some (some (.ref f6))) (i6 : PySem.W.isFn K (.ref f6) = true) (l6 : K.lookup f6 = some ⟨oc6, od6, .func (PySem.W.fnOf (Str.ofString "next_word") (Str.ofString "Reading.next_word") (defArgs s_Reading_next_word) (defBody s_Reading_next_word) (defScope s_Reading_next_word) .none kV6 dc6 pm6 an6 cd6 ct6), sl6⟩) (c6 : PySem.W.codeIn K cd6 (Str.ofString "Reading.next_word") = true) (k6 : PySem.W.keepIn K (.ref f6) = true)
    {f7 : Addr} {oc7 kV7 dc7 pm7 cd7 ct7 : Value} {od7 an7 : Option Addr} {sl7 : Array (Option Value)}
    (a7 : PySem.W.nsIn K mainGlobals (Str.ofString "is_number") = some (some (.ref f7))) (l7 : K.lookup f7 = some ⟨oc7, od7, .func (PySem.W.fnOf (Str.ofString "is_number") (Str.ofString "is_number") (defArgs s_is_number) (defBody s_is_number) (defScope s_is_number) .none kV7 dc7 pm7 an7 cd7 ct7), sl7⟩) (c7 : PySem.W.codeIn K cd7 (Str.ofString "is_number") = true) (k7 : PySem.W.keepIn K (.ref f7) = true)
    {f8 : Addr} {oc8 kV8 dc8 pm8 cd8 ct8 : Value} {od8 an8 : Option Addr} {sl8 : Array (Option Value)}
    (a8 : PySem.W.findIn K (.ref C_Reading) (Str.ofString "read_number") = some (some (.ref f8))) (i8 : PySem.W.isFn K (.ref f8) = true) (l8 : K.lookup f8 = some ⟨oc8, od8, .func (PySem.W.fnOf (Str.ofString "read_number") (Str.ofString "Reading.read_number") (defArgs s_Reading_read_number) (defBody s_Reading_read_number) (defScope s_Reading_read_number) .none kV8 dc8 pm8 an8 cd8 ct8), sl8⟩) (c8 : PySem.W.codeIn K cd8 (Str.ofString "Reading.read_number") = true) (k8 : PySem.W.keepIn K (.ref f8) = true)
    {f9 : Addr} {oc9 kV9 dc9 pm9 cd9 ct9 : Value} {od9 an9 : Option Addr} {sl9 : Array (Option Value)}
    (a9 : PySem.W.findIn K (.ref C_Reading) (Str.ofString "read_factors") = some (some (.ref f9))) (i9 : PySem.W.isFn K (.ref f9) = true) (l9 : K.lookup f9 = some ⟨oc9, od9, .func (PySem.W.fnOf (Str.ofString "read_factors") (Str.ofString "Reading.read_factors") (defArgs s_Reading_read_factors) (defBody s_Reading_read_factors) (defScope s_Reading_read_factors) .none kV9 dc9 pm9 an9 cd9 ct9), sl9⟩) (c9 : PySem.W.codeIn K cd9 (Str.ofString "Reading.read_factors") = true) (k9 : PySem.W.keepIn K (.ref f9) = true)
    {f10 : Addr} {oc10 kV10 dc10 pm10 cd10 ct10 : Value} {od10 an10 : Option Addr} {sl10 : Array (Option Value)}
    (a10 : PySem.W.findIn K (.ref C_Reading) (Str.ofString "read_comparison") = some (some (.ref f10))) (i10 : PySem.W.isFn K (.ref f10) = true) (l10 : K.lookup f10 = some ⟨oc10, od10, .func (PySem.W.fnOf (Str.ofString "read_comparison") (Str.ofString "Reading.read_comparison") (defArgs s_Reading_read_comparison) (defBody s_Reading_read_comparison) (defScope s_Reading_read_comparison) .none kV10 dc10 pm10 an10 cd10 ct10), sl10⟩) (c10 : PySem.W.codeIn K cd10 (Str.ofString "Reading.read_comparison") = true) (k10 : PySem.W.keepIn K (.ref f10) = true)
    {f11 : Addr} {oc11 kV11 dc11 pm11 cd11 ct11 : Value} {od11 an11 : Option Addr} {sl11 : Array (Option Value)}
    (a11 : PySem.W.findIn K (.ref C_Reading) (Str.ofString "read") = some (some (.ref f11))) (i11 : PySem.W.isFn K (.ref f11) = true) (l11 : K.lookup f11 = some ⟨oc11, od11, .func (PySem.W.fnOf (Str.ofString "read") (Str.ofString "Reading.read") (defArgs s_Reading_read) (defBody s_Reading_read) (defScope s_Reading_read) .none kV11 dc11 pm11 an11 cd11 ct11), sl11⟩) (c11 : PySem.W.codeIn K cd11 (Str.ofString "Reading.read") = true) (k11 : PySem.W.keepIn K (.ref f11) = true)
    {f12 : Addr} {oc12 kV12 dc12 pm12 cd12 ct12 : Value} {od12 an12 : Option Addr} {sl12 : Array (Option Value)}
    (a12 : PySem.W.nsIn K mainGlobals (Str.ofString "parse_saying") = some (some (.ref f12))) (l12 : K.lookup f12 = some ⟨oc12, od12, .func (PySem.W.fnOf (Str.ofString "parse_saying") (Str.ofString "parse_saying") (defArgs s_parse_saying) (defBody s_parse_saying) (defScope s_parse_saying) .none kV12 dc12 pm12 an12 cd12 ct12), sl12⟩) (c12 : PySem.W.codeIn K cd12 (Str.ofString "parse_saying") = true) (k12 : PySem.W.keepIn K (.ref f12) = true)
    {f13 : Addr} {oc13 kV13 dc13 pm13 cd13 ct13 : Value} {od13 an13 : Option Addr} {sl13 : Array (Option Value)}
    (a13 : PySem.W.nsIn K mainGlobals (Str.ofString "_law_told") = some (some (.ref f13))) (l13 : K.lookup f13 = some ⟨oc13, od13, .func (PySem.W.fnOf (Str.ofString "_law_told") (Str.ofString "_law_told") (defArgs s__law_told) (defBody s__law_told) (defScope s__law_told) .none kV13 dc13 pm13 an13 cd13 ct13), sl13⟩) (c13 : PySem.W.codeIn K cd13 (Str.ofString "_law_told") = true) (k13 : PySem.W.keepIn K (.ref f13) = true)
    {f14 : Addr} {oc14 kV14 dc14 pm14 cd14 ct14 : Value} {od14 an14 : Option Addr} {sl14 : Array (Option Value)}
    (a14 : PySem.W.nsIn K mainGlobals (Str.ofString "_law_odd") = some (some (.ref f14))) (l14 : K.lookup f14 = some ⟨oc14, od14, .func (PySem.W.fnOf (Str.ofString "_law_odd") (Str.ofString "_law_odd") (defArgs s__law_odd) (defBody s__law_odd) (defScope s__law_odd) .none kV14 dc14 pm14 an14 cd14 ct14), sl14⟩) (c14 : PySem.W.codeIn K cd14 (Str.ofString "_law_odd") = true) (k14 : PySem.W.keepIn K (.ref f14) = true)
    {f15 : Addr} {oc15 kV15 dc15 pm15 cd15 ct15 : Value} {od15 an15 : Option Addr} {sl15 : Array (Option Value)}
    (a15 : PySem.W.nsIn K mainGlobals (Str.ofString "law") = some (some (.ref f15))) (l15 : K.lookup f15 = some ⟨oc15, od15, .func (PySem.W.fnOf (Str.ofString "law") (Str.ofString "law") (defArgs s_law) (defBody s_law) (defScope s_law) .none kV15 dc15 pm15 an15 cd15 ct15), sl15⟩) (c15 : PySem.W.codeIn K cd15 (Str.ofString "law") = true) (k15 : PySem.W.keepIn K (.ref f15) = true)
    (z_int : PySem.W.nsIn K mainGlobals (Str.ofString "int") = some none)
    (z_len : PySem.W.nsIn K mainGlobals (Str.ofString "len") = some none)
    (z_tuple : PySem.W.nsIn K mainGlobals (Str.ofString "tuple") = some none)
    (z_range : PySem.W.nsIn K mainGlobals (Str.ofString "range") = some none)
    (z_str : PySem.W.nsIn K mainGlobals (Str.ofString "str") = some none)
    (z_all : PySem.W.nsIn K mainGlobals (Str.ofString "all") = some none)
    (z_isinstance : PySem.W.nsIn K mainGlobals (Str.ofString "isinstance") = some none)
    (z_max : PySem.W.nsIn K mainGlobals (Str.ofString "max") = some none)
    (z_list : PySem.W.nsIn K mainGlobals (Str.ofString "list") = some none)
    {t_DIGITS : Tok} (z_DIGITS : PySem.W.nsIn K mainGlobals (Str.ofString "DIGITS") = some (some (.str (Str.ofString "0123456789") t_DIGITS)))
    {t_MOST_FACTORS : Tok} (z_MOST_FACTORS : PySem.W.nsIn K mainGlobals (Str.ofString "MOST_FACTORS") = some (some (.int 6 t_MOST_FACTORS)))
    {t_GREATEST_FACTOR : Tok} (z_GREATEST_FACTOR : PySem.W.nsIn K mainGlobals (Str.ofString "GREATEST_FACTOR") = some (some (.int 9 t_GREATEST_FACTOR)))
    {t_GREATEST_MODULUS : Tok} (z_GREATEST_MODULUS : PySem.W.nsIn K mainGlobals (Str.ofString "GREATEST_MODULUS") = some (some (.int 12 t_GREATEST_MODULUS)))
    {t_GREATEST_CONSTANT : Tok} (z_GREATEST_CONSTANT : PySem.W.nsIn K mainGlobals (Str.ofString "GREATEST_CONSTANT") = some (some (.int 99 t_GREATEST_CONSTANT)))
    {d_NAMED : Addr} {e_NAMED : Array DictEntry} {n_NAMED : Nat} (z_NAMED : PySem.W.nsIn K mainGlobals (Str.ofString "NAMED") = some (some (.ref d_NAMED))) (u_NAMED : K.lookup d_NAMED = some ⟨.type "dict", none, .dict e_NAMED n_NAMED, #[]⟩) (v_NAMED : TabE w.params tb_NAMED e_NAMED.toList) (y_NAMED : (d_NAMED == sysModules) = false)
    {t_MOST_LINES : Tok} (z_MOST_LINES : PySem.W.nsIn K mainGlobals (Str.ofString "MOST_LINES") = some (some (.int 40 t_MOST_LINES)))
    {IW TL SE UN NF : Addr} (zxIW : PySem.W.nsIn K mainGlobals (Str.ofString "InvalidWord") = some (some (.ref IW))) (zxTL : PySem.W.nsIn K mainGlobals (Str.ofString "TooLarge") = some (some (.ref TL))) (zxSE : PySem.W.nsIn K mainGlobals (Str.ofString "SumsaidError") = some (some (.ref SE))) (zxUN : PySem.W.nsIn K mainGlobals (Str.ofString "UnknownName") = some (some (.ref UN))) (zxNF : PySem.W.nsIn K mainGlobals (Str.ofString "NotFitting") = some (some (.ref NF))) (xc : xcB K "number" IW TL SE UN NF = true) (xq : PySem.W.excIn K TL veT "ValueError.__new__" = true) (xv : PySem.W.nsIn K mainGlobals (Str.ofString "ValueError") = some none)
    {fX : Addr} {ocX kVX dcX pmX cdX ctX : Value} {odX anX : Option Addr} {slX : Array (Option Value)} (aX : PySem.W.findIn K (.ref IW) (Str.ofString "__init__") = some (some (.ref fX))) (iX : PySem.W.isFn K (.ref fX) = true) (lX : K.lookup fX = some ⟨ocX, odX, .func (PySem.W.fnOf (Str.ofString "__init__") (Str.ofString "InvalidWord.__init__") (defArgs s_InvalidWord___init__) (defBody s_InvalidWord___init__) (defScope s_InvalidWord___init__) .none kVX dcX pmX anX cdX ctX), slX⟩) (cX : PySem.W.codeIn K cdX (Str.ofString "InvalidWord.__init__") = true) (kX : PySem.W.keepIn K (.ref fX) = true)
    : ∃ fd : FuncData, (∀ (s : Shared) (v : Value), BindsTo s fd ⟨[v], []⟩ [(Str.ofString "script", v)]) ∧ ∀ base : Heap, K.In base → base.Ns mainGlobals mg → FnOk l.prog w K mg base CX0 62 fa fd [Str.ofString "script"] (Sf K 1 h_law) := by
  have e := hfa.symm.trans (PySem.W.mg_of X G a15)
  cases e
  have L_Reading : Cls K C_Reading := ⟨pReading, hReading, oReading, sReading⟩
  have n_words : NoA K ["Reading"] "words" := noa_of (by decide) fun c hc C hC => by
    simp only [List.mem_cons, List.not_mem_nil, or_false] at hc
    subst hc
    obtain rfl := clsA_inj hC xReading; exact ⟨L_Reading, qReading_words⟩
  have n_at : NoA K ["Reading"] "at" := noa_of (by decide) fun c hc C hC => by
    simp only [List.mem_cons, List.not_mem_nil, or_false] at hc
    subst hc
    obtain rfl := clsA_inj hC xReading; exact ⟨L_Reading, qReading_at⟩
  have n_lines : NoA K ["Reading"] "lines" := noa_of (by decide) fun c hc C hC => by
    simp only [List.mem_cons, List.not_mem_nil, or_false] at hc
    subst hc
    obtain rfl := clsA_inj hC xReading; exact ⟨L_Reading, qReading_lines⟩
  have d_NAMED : KTab K w mg (Str.ofString "NAMED") tb_NAMED := tab_of (PySem.W.mg_of X G z_NAMED) u_NAMED v_NAMED y_NAMED
  have F0 := fun_mk (st := s__law_draw) l0 c0 k0
  have b0 := F0.binds (ps := [Str.ofString "state", Str.ofString "limit"]) fun _ _ _ _ _ _ us hl => match us, hl with | [_, _], _ => rfl
  have F1 := fun_mk (st := s__law_factors) l1 c1 k1
  have b1 := F1.binds (ps := [Str.ofString "state", Str.ofString "count", Str.ofString "far"]) fun _ _ _ _ _ _ us hl => match us, hl with | [_, _, _], _ => rfl
  have F2 := fun_mk (st := s__law_atom) l2 c2 k2
  have b2 := F2.binds (ps := [Str.ofString "state", Str.ofString "count", Str.ofString "far"]) fun _ _ _ _ _ _ us hl => match us, hl with | [_, _, _], _ => rfl
  have F3 := fun_mk (st := s__law_plain) l3 c3 k3
  have b3 := F3.binds (ps := [Str.ofString "state", Str.ofString "count", Str.ofString "many", Str.ofString "far"]) fun _ _ _ _ _ _ us hl => match us, hl with | [_, _, _, _], _ => rfl
  have F4 := fun_mk (st := s__law_words) l4 c4 k4
  have b4 := F4.binds (ps := [Str.ofString "lines", Str.ofString "number"]) fun _ _ _ _ _ _ us hl => match us, hl with | [_, _], _ => rfl
  have F5 := fun_mk (st := s_Reading___init__) l5 c5 k5
  have b5 := F5.binds (ps := [Str.ofString "self", Str.ofString "words"]) fun _ _ _ _ _ _ us hl => match us, hl with | [_, _], _ => rfl
  have F6 := fun_mk (st := s_Reading_next_word) l6 c6 k6
  have b6 := F6.binds (ps := [Str.ofString "self"]) fun _ _ _ _ _ _ us hl => match us, hl with | [_], _ => rfl
  have F7 := fun_mk (st := s_is_number) l7 c7 k7
  have b7 := F7.binds (ps := [Str.ofString "word"]) fun _ _ _ _ _ _ us hl => match us, hl with | [_], _ => rfl
  have F8 := fun_mk (st := s_Reading_read_number) l8 c8 k8
  have b8 := F8.binds (ps := [Str.ofString "self", Str.ofString "low", Str.ofString "high"]) fun _ _ _ _ _ _ us hl => match us, hl with | [_, _, _], _ => rfl
  have F9 := fun_mk (st := s_Reading_read_factors) l9 c9 k9
  have b9 := F9.binds (ps := [Str.ofString "self"]) fun _ _ _ _ _ _ us hl => match us, hl with | [_], _ => rfl
  have F10 := fun_mk (st := s_Reading_read_comparison) l10 c10 k10
  have b10 := F10.binds (ps := [Str.ofString "self", Str.ofString "name"]) fun _ _ _ _ _ _ us hl => match us, hl with | [_, _], _ => rfl
  have F11 := fun_mk (st := s_Reading_read) l11 c11 k11
  have b11 := F11.binds (ps := [Str.ofString "self"]) fun _ _ _ _ _ _ us hl => match us, hl with | [_], _ => rfl
  have F12 := fun_mk (st := s_parse_saying) l12 c12 k12
  have b12 := F12.binds (ps := [Str.ofString "text"]) fun _ _ _ _ _ _ us hl => match us, hl with | [_], _ => rfl
  have F13 := fun_mk (st := s__law_told) l13 c13 k13
  have b13 := F13.binds (ps := [Str.ofString "text"]) fun _ _ _ _ _ _ us hl => match us, hl with | [_], _ => rfl
  have F14 := fun_mk (st := s__law_odd) l14 c14 k14
  have b14 := F14.binds (ps := [Str.ofString "state", Str.ofString "words", Str.ofString "at"]) fun _ _ _ _ _ _ us hl => match us, hl with | [_, _, _], _ => rfl
  have F15 := fun_mk (st := s_law) l15 c15 k15
  have XK : XcK K mg IW TL SE UN NF := ⟨of_decide_eq_true xc, xq, PySem.W.mg_of X G zxIW, PySem.W.mg_of X G zxTL, PySem.W.mg_of X G zxSE, PySem.W.mg_of X G zxUN, PySem.W.mg_of X G zxNF⟩
  have FX := fun_mk (st := s_InvalidWord___init__) lX cX kX
  have bX := FX.binds (ps := [Str.ofString "self", Str.ofString "number"]) fun _ _ _ _ _ _ us hl => match us, hl with | [_, _], _ => rfl
  refine ⟨PySem.W.fnOf (Str.ofString "law") (Str.ofString "law") (defArgs s_law) (defBody s_law) (defScope s_law) .none kV15 dc15 pm15 an15 cd15 ct15, fun s v => .of_eq rfl, fun base _ _ => ?_⟩
  have q_InvalidWord := ok_InvalidWord___init__ (P := l.prog) (w := w) (base := base) XK aX iX FX bX
  have q__law_draw := ok__law_draw (P := l.prog) (w := w) (base := base) F0 (PySem.W.mg_of X G a0) b0 (PySem.W.mg_none_of X G z_int) (PySem.W.mg_none_of X G z_len)
  have q__law_factors := ok__law_factors (P := l.prog) (w := w) (base := base) F1 (PySem.W.mg_of X G a1) b1 q__law_draw (PySem.W.mg_none_of X G z_tuple) (PySem.W.mg_none_of X G z_range)
  have q__law_atom := ok__law_atom (P := l.prog) (w := w) (base := base) F2 (PySem.W.mg_of X G a2) b2 q__law_factors q__law_draw
  have q__law_plain := ok__law_plain (P := l.prog) (w := w) (base := base) F3 (PySem.W.mg_of X G a3) b3 q__law_atom q__law_draw (PySem.W.mg_none_of X G z_range) (PySem.W.mg_none_of X G z_tuple) (PySem.W.mg_none_of X G z_len)
  have q__law_words := ok__law_words (P := l.prog) (w := w) (base := base) F4 (PySem.W.mg_of X G a4) b4 (PySem.W.mg_none_of X G z_str) 60
  have q_Reading___init__ := ok_Reading___init__ (P := l.prog) (w := w) (base := base) xReading (PySem.W.mg_of X G xReading) ⟨yReading, a5, i5, wReading⟩ F5 b5 n_words n_at n_lines
  have q_Reading_next_word := ok_Reading_next_word (P := l.prog) (w := w) (base := base) (mg := mg) xReading L_Reading ⟨a6, i6, k6⟩ F6 b6 n_at n_words (PySem.W.mg_none_of X G z_len) q_InvalidWord
  have q_is_number := ok_is_number (P := l.prog) (w := w) (base := base) F7 (PySem.W.mg_of X G a7) b7 (PySem.W.mg_none_of X G z_all) (PySem.W.mg_none_of X G z_len) ⟨_, PySem.W.mg_of X G z_DIGITS⟩
  have q_Reading_read_number := ok_Reading_read_number (P := l.prog) (w := w) (base := base) (mg := mg) xReading L_Reading ⟨a8, i8, k8⟩ F8 b8 q_Reading_next_word q_is_number n_at (PySem.W.mg_none_of X G z_int) q_InvalidWord
  have q_Reading_read_factors := ok_Reading_read_factors (P := l.prog) (w := w) (base := base) (mg := mg) xReading L_Reading ⟨a9, i9, k9⟩ F9 b9 q_Reading_next_word q_Reading_read_number n_at (PySem.W.mg_none_of X G z_tuple) (PySem.W.mg_none_of X G z_len) ⟨_, PySem.W.mg_of X G z_MOST_FACTORS⟩ ⟨_, PySem.W.mg_of X G z_GREATEST_FACTOR⟩ q_InvalidWord
  have q_Reading_read_comparison := ok_Reading_read_comparison (P := l.prog) (w := w) (base := base) (mg := mg) xReading L_Reading ⟨a10, i10, k10⟩ F10 b10 q_Reading_read_factors q_Reading_read_number n_at ⟨_, PySem.W.mg_of X G z_GREATEST_MODULUS⟩ ⟨_, PySem.W.mg_of X G z_GREATEST_CONSTANT⟩ q_InvalidWord
  have q_Reading_read := ok_Reading_read (P := l.prog) (w := w) (base := base) (mg := mg) xReading L_Reading ⟨a11, i11, k11⟩ F11 b11 q_Reading_next_word q_Reading_read_comparison n_at n_lines (PySem.W.mg_none_of X G z_len) (PySem.W.mg_none_of X G z_tuple) d_NAMED
  have q_parse_saying := ok_parse_saying (P := l.prog) (w := w) (base := base) F12 (PySem.W.mg_of X G a12) b12 q_Reading___init__ q_Reading_read n_at n_words (PySem.W.mg_none_of X G z_len) ⟨_, PySem.W.mg_of X G z_MOST_LINES⟩ q_InvalidWord XK.own
  have q__law_told := ok__law_told (P := l.prog) (w := w) (base := base) F13 (PySem.W.mg_of X G a13) b13 q_parse_saying (PySem.W.mg_none_of X G z_isinstance) XK (PySem.W.mg_none_of X G xv)
  have q__law_odd := ok__law_odd (P := l.prog) (w := w) (base := base) F14 (PySem.W.mg_of X G a14) b14 q__law_draw (PySem.W.mg_none_of X G z_max) (PySem.W.mg_none_of X G z_str)
  exact ok_law F15 q__law_plain q__law_words q__law_draw q__law_told q__law_odd (PySem.W.mg_none_of X G z_range) (PySem.W.mg_none_of X G z_list) (PySem.W.mg_none_of X G z_len) (PySem.W.mg_none_of X G z_int) q_InvalidWord (fun C hC => by obtain rfl := Value.ref.inj (Option.some.inj (hC.symm.trans XK.iw)); exact XK.xf)

end K20

open PySem PySem.W PyProof.Rows
set_option maxHeartbeats 0 in
theorem PySem.Challenge.cw_sumsaid_k20_written_sayings_refused_holds : PySem.Challenge.rw_sumsaid_k20_written_sayings_refused.Holds := by
  w_on; o_law; k_head; (case hw => w_witness2)
  k_fill
  refine L2.walk_ofK (l := PySem.Challenge.rw_sumsaid_k20_written_sayings_refused) (n := 63) (k := 62) (x := Str.ofString "script") (CX := L2.CX0) (sp := fun K => Fx.Sf K 1 K20.h_law) rfl (by decide) rfl ⟨rfl, by decide, by decide⟩ (fun w h Y => PySem.W.kIn_of Y) ?F (fun K H a ns hl _ hS => Fx.law_sf hS (K20.law_true ns hl)) (fun _ _ _ _ h => h)
  case F =>
    intro w mg fa h KX G hmg
    refine' K20.all_mk KX G hmg ?xReading ?pReading ?hReading ?oReading ?sReading ?yReading ?wReading ?qReading_words ?qReading_at ?qReading_lines ?a0 ?l0 ?c0 ?k0 ?a1 ?l1 ?c1 ?k1 ?a2 ?l2 ?c2 ?k2 ?a3 ?l3 ?c3 ?k3 ?a4 ?l4 ?c4 ?k4 ?a5 ?i5 ?l5 ?c5 ?k5 ?a6 ?i6 ?l6 ?c6 ?k6 ?a7 ?l7 ?c7 ?k7 ?a8 ?i8 ?l8 ?c8 ?k8 ?a9 ?i9 ?l9 ?c9 ?k9 ?a10 ?i10 ?l10 ?c10 ?k10 ?a11 ?i11 ?l11 ?c11 ?k11 ?a12 ?l12 ?c12 ?k12 ?a13 ?l13 ?c13 ?k13 ?a14 ?l14 ?c14 ?k14 ?a15 ?l15 ?c15 ?k15 ?z_int ?z_len ?z_tuple ?z_range ?z_str ?z_all ?z_isinstance ?z_max ?z_list ?z_DIGITS ?z_MOST_FACTORS ?z_GREATEST_FACTOR ?z_GREATEST_MODULUS ?z_GREATEST_CONSTANT ?z_NAMED ?u_NAMED ?v_NAMED ?y_NAMED ?z_MOST_LINES ?zxIW ?zxTL ?zxSE ?zxUN ?zxNF ?xc ?xq ?xv ?aX ?iX ?lX ?cX ?kX
    (case xReading => k_is)
    (case pReading => k_is)
    (case hReading => k_is)
    (case oReading => k_is)
    (case sReading => k_is)
    (case yReading => k_is)
    (case wReading => k_is)
    (case qReading_words => k_is)
    (case qReading_at => k_is)
    (case qReading_lines => k_is)
    (case a0 => k_is)
    (case l0 => k_is)
    (case c0 => k_is)
    (case k0 => k_is)
    (case a1 => k_is)
    (case l1 => k_is)
    (case c1 => k_is)
    (case k1 => k_is)
    (case a2 => k_is)
    (case l2 => k_is)
    (case c2 => k_is)
    (case k2 => k_is)
    (case a3 => k_is)
    (case l3 => k_is)
    (case c3 => k_is)
    (case k3 => k_is)
    (case a4 => k_is)
    (case l4 => k_is)
    (case c4 => k_is)
    (case k4 => k_is)
    (case a5 => k_is)
    (case i5 => k_is)
    (case l5 => k_is)
    (case c5 => k_is)
    (case k5 => k_is)
    (case a6 => k_is)
    (case i6 => k_is)
    (case l6 => k_is)
    (case c6 => k_is)
    (case k6 => k_is)
    (case a7 => k_is)
    (case l7 => k_is)
    (case c7 => k_is)
    (case k7 => k_is)
    (case a8 => k_is)
    (case i8 => k_is)
    (case l8 => k_is)
    (case c8 => k_is)
    (case k8 => k_is)
    (case a9 => k_is)
    (case i9 => k_is)
    (case l9 => k_is)
    (case c9 => k_is)
    (case k9 => k_is)
    (case a10 => k_is)
    (case i10 => k_is)
    (case l10 => k_is)
    (case c10 => k_is)
    (case k10 => k_is)
    (case a11 => k_is)
    (case i11 => k_is)
    (case l11 => k_is)
    (case c11 => k_is)
    (case k11 => k_is)
    (case a12 => k_is)
    (case l12 => k_is)
    (case c12 => k_is)
    (case k12 => k_is)
    (case a13 => k_is)
    (case l13 => k_is)
    (case c13 => k_is)
    (case k13 => k_is)
    (case a14 => k_is)
    (case l14 => k_is)
    (case c14 => k_is)
    (case k14 => k_is)
    (case a15 => k_is)
    (case l15 => k_is)
    (case c15 => k_is)
    (case k15 => k_is)
    (case z_int => k_is)
    (case z_len => k_is)
    (case z_tuple => k_is)
    (case z_range => k_is)
    (case z_str => k_is)
    (case z_all => k_is)
    (case z_isinstance => k_is)
    (case z_max => k_is)
    (case z_list => k_is)
    (case z_DIGITS => k_is)
    (case z_MOST_FACTORS => k_is)
    (case z_GREATEST_FACTOR => k_is)
    (case z_GREATEST_MODULUS => k_is)
    (case z_GREATEST_CONSTANT => k_is)
    (case z_NAMED => k_is)
    (case u_NAMED => k_is)
    (case v_NAMED => exact ⟨⟨_, rfl⟩, rfl, ⟨_, rfl⟩, ⟨⟨_, rfl⟩, rfl, ⟨_, rfl⟩, ⟨⟨_, rfl⟩, rfl, ⟨_, rfl⟩, trivial⟩⟩⟩)
    (case y_NAMED => decide)
    (case z_MOST_LINES => k_is)
    (case zxIW => k_is)
    (case zxTL => k_is)
    (case zxSE => k_is)
    (case zxUN => k_is)
    (case zxNF => k_is)
    (case xc => kernel_rfl)
    (case xq => k_exc)
    (case xv => k_is)
    (case aX => k_is)
    (case iX => k_is)
    (case lX => k_is)
    (case cX => k_is)
    (case kX => k_is)
