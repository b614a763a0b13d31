import PyProof.Rows.All
import Wide.All
import OpenK.AllK
import Wide.FinOn
import HandS.ForMost
import HandS.Evl
import HandS.TupAny
import HandS.TupMul
import HandS.Style
import HandS.Deep
import HandS.IsInst
import HandS.Conv
import HandS.Flow
import HandS.StrMore
import PyProof.FactsAll.tuple_2
import HandS.Iter
import KE.GoesEnum
import HandS.SetFor
import HandS.ReCall
import KE.KxField
import HandS.IntHex
import HandS.Text
import KE.KRevSl
import HandS.WideBits
import HandS.Gcd
import KE.KMathGC
import PySem.Challenge.RW_sumsaid_k06_patterns_of_sets
set_option Elab.async false
set_option linter.all false
set_option maxRecDepth 100000
set_option maxHeartbeats 1000000
namespace Fx
open PySem PySem.Spec PyProof.Rows L2 HT
/-! ### new tuples, and that no dict hangs on them -/
/-- what is asked of a new tuple's end -/
def Tn (H : Hp) (Q : VK) (ys : List V) : Prop := ∀ (p : Addr) (o : Obj), H p = none → o.dict = none → Q (.ref p) (upd H p (.frz o (.tup ys)))
section
variable {X : Cx} {pins : List (Addr × Obj)} {σ : L2.St} {H : Hp} {s : Shared}
/-- a tuple is laid at the heap's end -/
theorem lay_tup (I : Inv X pins σ H s) {ys : List V} {its : List Value} (r : Vals ys its) (hz : ys.length ≤ sizeLine) {Q : VK} (q : Tn H Q ys) (t' : Nat) :
    EP X pins σ Q (.ref s.heap.objs.size) { s with heap := s.heap.push { cls := .type "tuple", data := .seq its.toArray }, toks := t' } := by
  have e := Heap.get?_push_size s.heap (o := { cls := .type "tuple", data := .seq its.toArray }) rfl
  exact ⟨.ref s.heap.objs.size, _, I.laid (t' := t') (o := .frz { cls := .type "tuple", data := .seq its.toArray } (.tup ys)) (fun b ob k => Heap.get?_push_of_some _ k) (Nat.le_refl _) ⟨e, hz, its, r, IsTup.new _ _⟩, rfl, q _ _ (I.hok.fresh (Nat.le_refl _)) rfl⟩
end
section
variable {X : Cx} {es : List Expr} {t : TA} {pos : Pos}
def tTupP (t : TA) : TE := fun σ H Q => t σ H fun xs H1 => xs.length ≤ sizeLine ∧ Tn H1 Q xs
theorem pe_tupP {k : Nat} (h : PA X es t) : PE X (.Tuple es k pos) (tTupP t) :=
  ⟨fun pins s σ H Q I hq => wpAny_Tuple_spliced (thn (h.run pos pins s σ H _ I hq) fun us s1 ⟨xs, H1, I1, r, z, q⟩ => ⟨by rw [← r.length]; exact z, lay_tup I1 r z q s1.toks⟩)⟩
def rTupleP (K : PySem.W.Frag) : List V → Hp → VK → Prop := fun xs H Q => ∃ p ys, xs = [.ref p] ∧ ((SqL K H p ys ∧ Tn H Q ys) ∨ (SqT K H p ys ∧ Q (.ref p) H))
theorem call_tupleP : CallR X (.type "tuple") (rTupleP X.K) := by
  intro pins s σ H xs us Q I r ⟨p, ys, e, h⟩
  subst e
  obtain ⟨u, rfl, rx⟩ := vals1 r
  cases rx
  rcases h with ⟨hq, q⟩ | ⟨hq, q⟩
  · obtain ⟨its, r', pl, hz⟩ := I.list hq
    refine call_tuple_list pl.isList (fun h' kp => ?_) (by rw [List.size_toArray, ← r'.length]; exact hz)
    exact lay_tup (I.kept (t' := s.toks) kp) r' hz q s.toks
  · obtain ⟨its, _, pl, _⟩ := I.tuple hq
    exact call_tuple_same pl ⟨.ref p, H, I, rfl, q⟩
def rCatP (K : PySem.W.Frag) : R2 := fun x y H Q => ∃ a b xs ys, x = .ref a ∧ y = .ref b ∧ SqT K H a xs ∧ SqT K H b ys ∧ xs.length + ys.length ≤ sizeLine ∧
  (xs = [] → Q (.ref b) H) ∧ (xs ≠ [] → ys = [] → Q (.ref a) H) ∧ (xs ≠ [] → ys ≠ [] → Tn H Q (xs ++ ys))
theorem op_catP : OpR X (binaryOp .Add) (rCatP X.K) := by
  intro pins s σ H x y v u Q I rx ry ⟨a, b, xs, ys, ex, ey, ha, hb, hz, q0, q1, q2⟩
  subst ex ey
  cases rx
  cases ry
  obtain ⟨its, r1, p1, _⟩ := I.tuple ha
  obtain ⟨jts, r2, p2, _⟩ := I.tuple hb
  by_cases hx : xs = []
  · subst hx
    cases r1
    exact cat_tup0 p1 p2 ⟨.ref b, H, I, rfl, q0 rfl⟩
  · refine HT.cat_tup p1 p2 (fun z => hx (r1.nil_iff.mp z)) (fun z => ⟨.ref a, H, I, rfl, q1 hx (r2.nil_iff.mp z)⟩) (fun z => ?_) (by rw [← r1.length, ← r2.length]; exact hz)
    exact lay_tup I (r1.append r2) (by rw [List.length_append]; exact hz) (q2 hx fun w => z (r2.nil_iff.mpr w)) s.toks
def rSlP (K : PySem.W.Frag) : V → Option Int → Option Int → Hp → VK → Prop := fun x lo hi H Q => ∃ a xs, x = .ref a ∧ SqT K H a xs ∧
  (sIx xs.length 0 lo = 0 ∧ sIx xs.length xs.length hi = xs.length → Q (.ref a) H) ∧ (¬ (sIx xs.length 0 lo = 0 ∧ sIx xs.length xs.length hi = xs.length) → Tn H Q (cutV xs lo hi))
theorem sl_tupP : L2.SlR X (rSlP X.K) := by
  intro pins s σ H x v vl vu lo hi sl Q I rx hs pl pu ⟨a, xs, ex, hx, q1, q2⟩
  subst ex
  cases rx
  obtain ⟨its, r, ht, hz⟩ := I.tuple hx
  have hlen : its.toArray.size = xs.length := by rw [List.size_toArray]; exact r.length.symm
  refine ⟨"tuple", _, PyProof.Rows.slot_tuple_getitem.lookup, ht.typeIs, ?_⟩
  by_cases hw : sIx xs.length 0 lo = 0 ∧ sIx xs.length xs.length hi = xs.length
  · exact getItem_tuple_whole ht hs pl pu (by rw [hlen]; exact hw) ⟨.ref a, H, I, rfl, q1 hw⟩
  · refine HT.getItem_tuple_cut ht hs pl pu (by rw [hlen]; exact hw) ?_ (by rw [hlen]; exact hz)
    rw [hlen]
    exact lay_tup I ((r.drop (sIx xs.length 0 lo)).take (sIx xs.length xs.length hi - sIx xs.length 0 lo)) (Nat.le_trans (cutV_length xs lo hi) hz) (q2 hw) s.toks
def rRepP (K : PySem.W.Frag) : R2 := fun x y H Q => ∃ l k xs, x = .ref l ∧ y = .int k ∧ SqT K H l xs ∧ xs ≠ [] ∧ 2 ≤ k ∧ k ≤ 1000 ∧ xs.length ≤ 1000 ∧ Tn H Q (List.replicate k.toNat xs).flatten
theorem op_repP : OpR X (binaryOp .Mult) (rRepP X.K) := by
  intro pins s σ H x y v u Q I rx ry ⟨l, k, xs, ex, ey, hT, hne, h1, h2, hz, q⟩
  subst ex ey
  cases rx
  obtain ⟨t, rfl⟩ := ry
  obtain ⟨its, r, ⟨⟨cls, dd, data, sl⟩, ho, hc, n, hd⟩, hs⟩ := I.tuple hT
  simp only at hc hd
  subst hc hd
  have hle := r.length
  have hp : 0 < its.length := by
    rw [← hle]
    exact List.length_pos_iff.mpr hne
  have hi : its.toArray.isEmpty = false := by
    cases its with
    | nil => cases hp
    | cons _ _ => rfl
  have sz : its.toArray.size = xs.length := by rw [List.size_toArray]; exact hle.symm
  have m1 : ((its.toArray.size : Nat) : Int) * k ≤ 1000000 := by
    rw [sz]
    have := Int.mul_le_mul (show ((xs.length : Nat) : Int) ≤ 1000 by omega) h2 (by omega) (by omega)
    omega
  have m2 : k.toNat * xs.length ≤ 1000000 := Nat.le_trans (Nat.mul_le_mul (show k.toNat ≤ 1000 by omega) hz) (by omega)
  have fl : (List.replicate k.toNat xs).flatten.length ≤ sizeLine := by rw [PyProof.Rows.lm_len_rep_flat, sizeLine_eq]; omega
  have fl2 : (List.replicate k.toNat its).flatten.length ≤ sizeLine := by rw [PyProof.Rows.lm_len_rep_flat, ← hle, sizeLine_eq]; omega
  have c0 : (decide (k < -(2 ^ 63)) || decide (k ≥ 2 ^ 63)) = false := by rw [decide_eq_false (by omega), decide_eq_false (by omega)]; rfl
  have c1 : (its.toArray.isEmpty || k == 1) = false := by rw [hi, Bool.false_or]; exact beq_eq_false_iff_ne.mpr (by omega)
  have c2 : (decide (k ≤ 0) || its.toArray.isEmpty) = false := by rw [hi, Bool.or_false]; exact decide_eq_false (by omega)
  have c4 : Builtin.Tuple.tupleTooMany (((its.toArray.size : Nat) : Int) * k) = false := by
    unfold Builtin.Tuple.tupleTooMany
    rw [sizeLine_eq]
    exact decide_eq_false (by omega)
  refine wpAny_binaryOp_repeat_ref (T := "tuple") (U := "int") (by decide) ⟨_, ho, rfl⟩ (fun s' => typeIs_int s' k t) noFill_tuple_mul F.fills_int_mul F.slot_int_rmul repeat_tuple F.slot_int_index.lookup
    (call_meets F.slot_int_rmul (typeIs_int s k t) F.entry_int_rmul (F.args_int_rmul_2 _ _) (int_rmul_tuple k t l its.toArray n dd sl) ⟨ho, rfl, ⟨_, ho, rfl⟩, ?_⟩)
  refine call_meets PySem.F.slot_tuple_mul ⟨_, ho, rfl⟩ PySem.F.entry_tuple_mul (PySem.F.args_tuple_mul_2 _ _) (tuple_mulW l its.toArray n dd sl k t c0 c1 c2 (by omega) c4 (by rw [size_rep, List.size_toArray]; exact fl2)) ⟨ho, ?_⟩
  rw [size_rep]
  exact lay_tup I (r.rep k.toNat) fl q s.toks
def rDvmP : List V → Hp → VK → Prop := fun xs H Q => ∃ i j, xs = [.int i, .int j] ∧ CDiv i j ∧ Tn H Q [.int (i / j), .int (i % j)]
theorem call_divmodP : CallR X (.builtin "divmod") rDvmP := by
  intro pins s σ H xs us Q I r ⟨i, j, e, hc, q⟩
  subst e
  obtain ⟨u, u', rfl, ⟨t, rfl⟩, ⟨t', rfl⟩⟩ := vals2 r
  have hj : 0 < j := hc.1
  have hj2 := hc.2
  refine divmod_int (by omega) ?_ (.inl (PyProof.noPylong_small (by omega)))
  rw [Int.fdiv_eq_ediv_of_nonneg i (by omega), Int.fmod_eq_emod_of_nonneg i (by omega)]
  have r2 : Vals [V.int (i / j), V.int (i % j)] [Value.int (i / j) s.toks, Value.int (i % j) (s.toks + 1)] := .cons ⟨_, rfl⟩ (.cons ⟨_, rfl⟩ .nil)
  exact lay_tup I r2 (by show 2 ≤ sizeLine; rw [sizeLine_eq]; omega) q _
end
end Fx
namespace Fx
open PySem PySem.Spec PyProof.Rows L2
open Evl (Ex)

/-- a value as data; ob: the k-th of the objects that change -/
inductive D where
  | non | bl (b : Bool) | int (i : Int) | str (s : Str) | tup (ds : List D) | lst (ds : List D) | frl (ds : List D) | ob (k : Nat)
/-- an object that changes -/
inductive MO where
  | lst (ds : List D)
abbrev Tm := List MO

/-- a tuple that is tracked, or stands in the written part; no dict hangs on it -/
def TupK (K : PySem.W.Frag) (G : Hp) (a : Addr) (vs : List V) : Prop := (∃ o : Obj, G a = some (.frz o (.tup vs)) ∧ o.dict = none) ∨
  ∃ (o : Obj) (its : Array Value) (n : Nat), K.lookup a = some o ∧ o.cls = .type "tuple" ∧ o.data = .seq its n ∧ its.size ≤ sizeLine ∧ Vals vs its.toList ∧ o.dict = none
theorem TupK.seq {K : PySem.W.Frag} {G : Hp} {a : Addr} {vs : List V} (h : TupK K G a vs) : SqT K G a vs := by
  rcases h with ⟨o, h, _⟩ | ⟨o, its, n, h1, h2, h3, h4, h5, _⟩
  · exact .inl (.inr ⟨o, h⟩)
  · exact .inr ⟨o, its, n, h1, h2, h3, h4, h5⟩
theorem TupK.mono {K : PySem.W.Frag} {G H : Hp} {a : Addr} {vs : List V} (e : Ex G H) (h : TupK K G a vs) : TupK K H a vs := by
  rcases h with ⟨o, h, hd⟩ | h
  · exact .inl ⟨o, e _ _ h, hd⟩
  · exact .inr h
theorem TupK.new {K : PySem.W.Frag} {G : Hp} {a : Addr} {vs : List V} {o : Obj} (hd : o.dict = none) : TupK K (upd G a (.frz o (.tup vs))) a vs := .inl ⟨o, upd_same, hd⟩
mutual
inductive Rp (K : PySem.W.Frag) (G : Hp) (ad : List Addr) : V → D → Prop
  | non : Rp K G ad .non .non
  | bl (b : Bool) : Rp K G ad (.bl b) (.bl b)
  | int (i : Int) : Rp K G ad (.int i) (.int i)
  | str (s : Str) : Rp K G ad (.str s) (.str s)
  | tup {a : Addr} {vs : List V} {ds : List D} : TupK K G a vs → RpL K G ad vs ds → Rp K G ad (.ref a) (.tup ds)
  | lst {a : Addr} {vs : List V} {ds : List D} : G a = some (.lst vs) → RpL K G ad vs ds → Rp K G ad (.ref a) (.lst ds)
  | frl {a : Addr} {vs : List V} {ds : List D} : SqL K G a vs → RpL K G ad vs ds → Rp K G ad (.ref a) (.frl ds)
  | ob {a : Addr} {k : Nat} : ad[k]? = some a → Rp K G ad (.ref a) (.ob k)
inductive RpL (K : PySem.W.Frag) (G : Hp) (ad : List Addr) : List V → List D → Prop
  | nil : RpL K G ad [] []
  | cons {v : V} {vs : List V} {d : D} {ds : List D} : Rp K G ad v d → RpL K G ad vs ds → RpL K G ad (v :: vs) (d :: ds)
end

/-- what is known grows -/
def Pre (ad ad' : List Addr) : Prop := ∀ (k : Nat) (a : Addr), ad[k]? = some a → ad'[k]? = some a
theorem Pre.refl (ad : List Addr) : Pre ad ad := fun _ _ h => h
theorem Pre.trans {a b c : List Addr} (x : Pre a b) (y : Pre b c) : Pre a c := fun k e h => y k e (x k e h)
theorem Pre.mem {a b : List Addr} (x : Pre a b) {p : Addr} (h : p ∈ a) : p ∈ b := by
  obtain ⟨k, hk⟩ := List.mem_iff_getElem?.mp h
  exact List.mem_iff_getElem?.mpr ⟨k, x k p hk⟩

section
variable {K : PySem.W.Frag} {G G' : Hp} {ad ad' : List Addr}
mutual
theorem Rp.mono (e : Ex G G') (p : Pre ad ad') : ∀ {v : V} {d : D}, Rp K G ad v d → Rp K G' ad' v d
  | _, _, .non => .non
  | _, _, .bl b => .bl b
  | _, _, .int i => .int i
  | _, _, .str s => .str s
  | _, _, .tup h t => .tup (h.mono e) (RpL.mono e p t)
  | _, _, .lst h t => .lst (e _ _ h) (RpL.mono e p t)
  | _, _, .frl h t => .frl (Evl.ex_l e h) (RpL.mono e p t)
  | _, _, .ob h => .ob (p _ _ h)
theorem RpL.mono (e : Ex G G') (p : Pre ad ad') : ∀ {vs : List V} {ds : List D}, RpL K G ad vs ds → RpL K G' ad' vs ds
  | _, _, .nil => .nil
  | _, _, .cons h t => .cons (Rp.mono e p h) (RpL.mono e p t)
end
theorem RpL.length : ∀ {vs : List V} {ds : List D}, RpL K G ad vs ds → vs.length = ds.length
  | _, _, .nil => rfl
  | _, _, .cons _ t => by rw [List.length_cons, List.length_cons, RpL.length t]
theorem RpL.get : ∀ {vs : List V} {ds : List D} {i : Nat} {d : D}, RpL K G ad vs ds → ds[i]? = some d → ∃ v, vs[i]? = some v ∧ Rp K G ad v d
  | _, _, _, _, .nil, h => by simp at h
  | _, _, 0, _, .cons h _, e => by
    simp only [List.getElem?_cons_zero, Option.some.injEq] at e
    subst e
    exact ⟨_, by simp, h⟩
  | _, _, i + 1, _, .cons _ t, e => by
    simp only [List.getElem?_cons_succ] at e
    obtain ⟨v, h1, h2⟩ := RpL.get t e
    exact ⟨v, by simpa using h1, h2⟩
theorem RpL.getV : ∀ {vs : List V} {ds : List D} {i : Nat} {v : V}, RpL K G ad vs ds → vs[i]? = some v → ∃ d, ds[i]? = some d ∧ Rp K G ad v d
  | _, _, _, _, .nil, h => by simp at h
  | _, _, 0, _, .cons h _, e => by
    simp only [List.getElem?_cons_zero, Option.some.injEq] at e
    subst e
    exact ⟨_, by simp, h⟩
  | _, _, i + 1, _, .cons _ t, e => by
    simp only [List.getElem?_cons_succ] at e
    obtain ⟨v, h1, h2⟩ := RpL.getV t e
    exact ⟨v, by simpa using h1, h2⟩
theorem RpL.append : ∀ {vs ws : List V} {ds es : List D}, RpL K G ad vs ds → RpL K G ad ws es → RpL K G ad (vs ++ ws) (ds ++ es)
  | _, _, _, _, .nil, h => h
  | _, _, _, _, .cons h t, k => .cons h (RpL.append t k)
theorem RpL.take : ∀ {vs : List V} {ds : List D} (n : Nat), RpL K G ad vs ds → RpL K G ad (vs.take n) (ds.take n)
  | _, _, 0, _ => .nil
  | _, _, _ + 1, .nil => .nil
  | _, _, n + 1, .cons h t => .cons h (RpL.take n t)
theorem RpL.drop : ∀ {vs : List V} {ds : List D} (n : Nat), RpL K G ad vs ds → RpL K G ad (vs.drop n) (ds.drop n)
  | _, _, 0, h => h
  | _, _, _ + 1, .nil => .nil
  | _, _, n + 1, .cons _ t => RpL.drop n t
theorem RpL.set {v : V} {d : D} (r : Rp K G ad v d) : ∀ {vs : List V} {ds : List D} (n : Nat), RpL K G ad vs ds → RpL K G ad (vs.set n v) (ds.set n d)
  | _, _, _, .nil => .nil
  | _, _, 0, .cons _ t => .cons r t
  | _, _, n + 1, .cons h t => .cons h (RpL.set r n t)
theorem RpL.reverse {vs : List V} {ds : List D} (h : RpL K G ad vs ds) : RpL K G ad vs.reverse ds.reverse := by
  induction vs generalizing ds with
  | nil => cases h; exact .nil
  | cons v vs ih =>
    cases h with
    | cons a b =>
      rw [List.reverse_cons, List.reverse_cons]
      exact (ih b).append (.cons a .nil)
theorem RpL.rep {vs : List V} {ds : List D} (h : RpL K G ad vs ds) : ∀ n : Nat, RpL K G ad (List.replicate n vs).flatten (List.replicate n ds).flatten
  | 0 => .nil
  | n + 1 => by
    rw [List.replicate_succ, List.replicate_succ, List.flatten_cons, List.flatten_cons]
    exact h.append (RpL.rep h n)
theorem Rp.inv_int {v : V} {i : Int} (h : Rp K G ad v (.int i)) : v = .int i := by cases h; rfl
theorem Rp.inv_bl {v : V} {b : Bool} (h : Rp K G ad v (.bl b)) : v = .bl b := by cases h; rfl
theorem Rp.inv_non {v : V} (h : Rp K G ad v .non) : v = .non := by cases h; rfl
theorem Rp.inv_str {v : V} {s : Str} (h : Rp K G ad v (.str s)) : v = .str s := by cases h; rfl
theorem Rp.inv_tup {v : V} {ds : List D} (h : Rp K G ad v (.tup ds)) : ∃ a vs, v = .ref a ∧ TupK K G a vs ∧ RpL K G ad vs ds := by cases h; exact ⟨_, _, rfl, by assumption, by assumption⟩
theorem Rp.inv_lst {v : V} {ds : List D} (h : Rp K G ad v (.lst ds)) : ∃ a vs, v = .ref a ∧ G a = some (.lst vs) ∧ RpL K G ad vs ds := by cases h; exact ⟨_, _, rfl, by assumption, by assumption⟩
theorem Rp.inv_frl {v : V} {ds : List D} (h : Rp K G ad v (.frl ds)) : ∃ a vs, v = .ref a ∧ SqL K G a vs ∧ RpL K G ad vs ds := by cases h; exact ⟨_, _, rfl, by assumption, by assumption⟩
theorem Rp.inv_ob {v : V} {k : Nat} (h : Rp K G ad v (.ob k)) : ∃ a, v = .ref a ∧ ad[k]? = some a := by cases h; exact ⟨_, rfl, by assumption⟩
end

/-! ### where one stands -/
/-- a def's entry -/
structure Zc where
  Ge : Hp
  He : Hp
  ad0 : List Addr

inductive Sl where
  | un | dat (d : D) | own (ds : List D)
abbrev Rho := List Sl

structure Iv (K : PySem.W.Frag) (Z : Zc) (G : Hp) (ad : List Addr) (T : Tm) (H : Hp) : Prop where
  ex : Ex G H
  out : ∀ a ∈ ad, G a = none
  nd : ad.Nodup
  len : ad.length = T.length
  obj : ∀ (k : Nat) (a : Addr) (ds : List D), ad[k]? = some a → T[k]? = some (MO.lst ds) → ∃ vs, H a = some (.lst vs) ∧ RpL K G ad vs ds
  gex : Ex Z.Ge G
  pre : Pre Z.ad0 ad
  frame : ∀ b o, Z.He b = some o → b ∉ Z.ad0 → H b = some o
  newG : ∀ b o, G b = some o → Z.Ge b = some o ∨ Z.He b = none
  newA : ∀ a, a ∈ ad → a ∈ Z.ad0 ∨ Z.He a = none

def SlR (K : PySem.W.Frag) (Z : Zc) (G : Hp) (ad : List Addr) (σ : L2.St) (H : Hp) (pa : Nat → Addr) (i : Nat) : Sl → Prop
  | .un => True
  | .dat d => ∃ v, σ[i]? = some (some v) ∧ Rp K G ad v d
  | .own ds => ∃ vs, σ[i]? = some (some (.ref (pa i))) ∧ H (pa i) = some (.lst vs) ∧ RpL K G ad vs ds ∧ G (pa i) = none ∧ pa i ∉ ad ∧ Z.He (pa i) = none

def paS (pa : Nat → Addr) (i : Nat) (p : Addr) : Nat → Addr := fun j => if j = i then p else pa j
theorem paS_same {pa : Nat → Addr} {i : Nat} {p : Addr} : paS pa i p i = p := if_pos rfl
theorem paS_ne {pa : Nat → Addr} {i j : Nat} {p : Addr} (h : j ≠ i) : paS pa i p j = pa j := if_neg h

structure En (K : PySem.W.Frag) (Z : Zc) (G : Hp) (ad : List Addr) (T : Tm) (ρ : Rho) (σ : L2.St) (H : Hp) (pa : Nat → Addr) : Prop where
  iv : Iv K Z G ad T H
  hl : ρ.length = σ.length
  env : ∀ i s, ρ[i]? = some s → SlR K Z G ad σ H pa i s
  ne : ∀ (i j : Nat) (ds es : List D), ρ[i]? = some (Sl.own ds) → ρ[j]? = some (Sl.own es) → i ≠ j → pa i ≠ pa j

section
variable {K : PySem.W.Frag} {Z : Zc} {G G' : Hp} {ad ad' : List Addr} {T T' : Tm} {ρ : Rho} {σ : L2.St} {H H' : Hp} {pa : Nat → Addr}
theorem Iv.at (I : Iv K Z G ad T H) {a : Addr} (h : a ∈ ad) : ∃ vs, H a = some (.lst vs) := by
  obtain ⟨k, hk⟩ := List.mem_iff_getElem?.mp h
  have hl : k < T.length := by
    rw [← I.len]
    exact (List.getElem?_eq_some_iff.mp hk).1
  cases e : T[k] with
  | lst ds =>
    obtain ⟨vs, h1, _⟩ := I.obj k a ds hk (by rw [List.getElem?_eq_getElem hl, e])
    exact ⟨vs, h1⟩
theorem Iv.fresh (I : Iv K Z G ad T H) {p : Addr} (hp : H p = none) : p ∉ ad := fun h => by
  obtain ⟨vs, e⟩ := I.at h
  rw [hp] at e
  cases e
theorem Iv.freshG (I : Iv K Z G ad T H) {p : Addr} (hp : H p = none) : G p = none := Evl.fresh_back I.ex hp
theorem Iv.freshE (I : Iv K Z G ad T H) {p : Addr} (hp : H p = none) : Z.He p = none := by
  cases e : Z.He p with
  | none => rfl
  | some o =>
    by_cases hm : p ∈ Z.ad0
    · exact absurd (I.pre.mem hm) (I.fresh hp)
    · have := I.frame p o e hm
      rw [hp] at this
      cases this
/-- a new object, known from now on -/
theorem Iv.know (I : Iv K Z G ad T H) {p : Addr} (hp : H p = none) (o : HO) : Iv K Z (upd G p o) ad T (upd H p o) where
  ex := fun a u e => by
    by_cases h : a = p
    · subst h
      rw [upd_same] at e
      rw [upd_same]
      exact e
    · rw [upd_ne h] at e
      rw [upd_ne h]
      exact I.ex a u e
  out := fun a ha => by
    have : a ≠ p := fun e => I.fresh hp (e ▸ ha)
    rw [upd_ne this]
    exact I.out a ha
  nd := I.nd
  len := I.len
  obj := fun k a ds h1 h2 => by
    obtain ⟨vs, h3, h4⟩ := I.obj k a ds h1 h2
    have : a ≠ p := fun e => I.fresh hp (e ▸ List.mem_of_getElem? h1)
    exact ⟨vs, by rw [upd_ne this]; exact h3, h4.mono (Ex.new (I.freshG hp)) (Pre.refl _)⟩
  gex := I.gex.trans (Ex.new (I.freshG hp))
  pre := I.pre
  frame := fun b o' h1 h2 => by
    have h3 := I.frame b o' h1 h2
    rw [upd_ne (ne_of_none h3 hp)]
    exact h3
  newG := fun b u e => by
    by_cases h : b = p
    · subst h
      exact .inr (I.freshE hp)
    · rw [upd_ne h] at e
      exact I.newG b u e
  newA := I.newA
/-- a new list of one's own -/
theorem Iv.mine (I : Iv K Z G ad T H) {p : Addr} (hp : G p = none) (ha : p ∉ ad) (he : Z.He p = none) (o : HO) : Iv K Z G ad T (upd H p o) where
  ex := Ex.mut I.ex hp
  out := I.out
  nd := I.nd
  len := I.len
  obj := fun k a ds h1 h2 => by
    obtain ⟨vs, h3, h4⟩ := I.obj k a ds h1 h2
    have : a ≠ p := fun e => ha (e ▸ List.mem_of_getElem? h1)
    exact ⟨vs, by rw [upd_ne this]; exact h3, h4⟩
  gex := I.gex
  pre := I.pre
  frame := fun b o' h1 h2 => by
    rw [upd_ne (ne_of_none h1 he)]
    exact I.frame b o' h1 h2
  newG := I.newG
  newA := I.newA
/-- an object that changes is written -/
theorem Iv.put (I : Iv K Z G ad T H) {k : Nat} {a : Addr} (hk : ad[k]? = some a) {vs : List V} {ds : List D} (hr : RpL K G ad vs ds) : Iv K Z G ad (T.set k (.lst ds)) (upd H a (.lst vs)) where
  ex := Ex.mut I.ex (I.out a (List.mem_of_getElem? hk))
  out := I.out
  nd := I.nd
  len := by rw [List.length_set]; exact I.len
  obj := fun j b es h1 h2 => by
    by_cases h : j = k
    · subst h
      rw [hk] at h1
      cases h1
      have hj : j < T.length := by
        rw [← I.len]
        exact (List.getElem?_eq_some_iff.mp hk).1
      rw [List.getElem?_set_self hj] at h2
      cases h2
      exact ⟨vs, upd_same, hr⟩
    · rw [List.getElem?_set_ne (Ne.symm h)] at h2
      obtain ⟨ws, h3, h4⟩ := I.obj j b es h1 h2
      have : b ≠ a := fun e => by
        subst e
        obtain ⟨i1, e1⟩ := List.getElem?_eq_some_iff.mp h1
        obtain ⟨i2, e2⟩ := List.getElem?_eq_some_iff.mp hk
        exact h ((List.getElem_inj I.nd).mp (e1.trans e2.symm))
      exact ⟨ws, by rw [upd_ne this]; exact h3, h4⟩
  gex := I.gex
  pre := I.pre
  frame := fun b o' h1 h2 => by
    have : b ≠ a := fun e => by
      subst e
      rcases I.newA b (List.mem_of_getElem? hk) with q | q
      · exact h2 q
      · rw [q] at h1
        cases h1
    rw [upd_ne this]
    exact I.frame b o' h1 h2
  newG := I.newG
  newA := I.newA
/-- a new list becomes an object that changes -/
theorem Iv.join (I : Iv K Z G ad T H) {p : Addr} (hp : G p = none) (ha : p ∉ ad) (he : Z.He p = none) {vs : List V} {ds : List D} (hH : H p = some (.lst vs)) (hr : RpL K G ad vs ds) : Iv K Z G (ad ++ [p]) (T ++ [.lst ds]) H := by
  have pr : Pre ad (ad ++ [p]) := fun k a h => by
    rw [List.getElem?_append_left (List.getElem?_eq_some_iff.mp h).1]
    exact h
  refine ⟨I.ex, fun a h => ?_, ?_, ?_, fun k a es h1 h2 => ?_, I.gex, I.pre.trans pr, I.frame, I.newG, fun a h => ?_⟩
  · rcases List.mem_append.mp h with h | h
    · exact I.out a h
    · rw [List.mem_singleton.mp h]
      exact hp
  · rw [List.nodup_append]
    refine ⟨I.nd, by simp, fun a h b h' e => ?_⟩
    rw [List.mem_singleton.mp h'] at e
    exact ha (e ▸ h)
  · rw [List.length_append, List.length_append, I.len]
    rfl
  · by_cases hk : k < ad.length
    · rw [List.getElem?_append_left hk] at h1
      rw [List.getElem?_append_left (by rw [← I.len]; exact hk)] at h2
      obtain ⟨ws, h3, h4⟩ := I.obj k a es h1 h2
      exact ⟨ws, h3, h4.mono (Ex.refl _) pr⟩
    · have hk' : ad.length ≤ k := Nat.le_of_not_lt hk
      rw [List.getElem?_append_right hk'] at h1
      rw [List.getElem?_append_right (by rw [← I.len]; exact hk'), ← I.len] at h2
      have e0 : k - ad.length = 0 := by
        have := (List.getElem?_eq_some_iff.mp h1).1
        simp at this
        omega
      rw [e0] at h1 h2
      simp at h1 h2
      subst h1 h2
      exact ⟨vs, hH, hr.mono (Ex.refl _) pr⟩
  · rcases List.mem_append.mp h with h | h
    · exact I.newA a h
    · rw [List.mem_singleton.mp h]
      exact .inr he

theorem SlR.mono {i : Nat} {s : Sl} (h : SlR K Z G ad σ H pa i s) (e : Ex G G') (p : Pre ad ad')
    (hown : ∀ vs, H (pa i) = some (.lst vs) → G (pa i) = none → pa i ∉ ad → Z.He (pa i) = none → H' (pa i) = some (.lst vs) ∧ G' (pa i) = none ∧ pa i ∉ ad') : SlR K Z G' ad' σ H' pa i s := by
  cases s with
  | un => trivial
  | dat d =>
    obtain ⟨v, h1, h2⟩ := h
    exact ⟨v, h1, h2.mono e p⟩
  | own ds =>
    obtain ⟨vs, h1, h2, h3, h4, h5, h6⟩ := h
    obtain ⟨q1, q2, q3⟩ := hown vs h2 h4 h5 h6
    exact ⟨vs, h1, q1, h3.mono e p, q2, q3, h6⟩
theorem En.know (N : En K Z G ad T ρ σ H pa) {p : Addr} (hp : H p = none) (o : HO) : En K Z (upd G p o) ad T ρ σ (upd H p o) pa where
  iv := N.iv.know hp o
  hl := N.hl
  env := fun i s h => (N.env i s h).mono (Ex.new (N.iv.freshG hp)) (Pre.refl _) fun vs h1 h2 h3 _ => by
    have : pa i ≠ p := ne_of_none h1 hp
    rw [upd_ne this, upd_ne this]
    exact ⟨h1, h2, h3⟩
  ne := N.ne
theorem En.put (N : En K Z G ad T ρ σ H pa) {k : Nat} {a : Addr} (hk : ad[k]? = some a) {vs : List V} {ds : List D} (hr : RpL K G ad vs ds) : En K Z G ad (T.set k (.lst ds)) ρ σ (upd H a (.lst vs)) pa where
  iv := N.iv.put hk hr
  hl := N.hl
  env := fun i s h => (N.env i s h).mono (Ex.refl _) (Pre.refl _) fun ws h1 h2 h3 _ => by
    have : pa i ≠ a := fun e => h3 (e ▸ List.mem_of_getElem? hk)
    rw [upd_ne this]
    exact ⟨h1, h2, h3⟩
  ne := N.ne
/-- a slot gets data -/
theorem En.setD (N : En K Z G ad T ρ σ H pa) (i : Nat) {v : V} {d : D} (r : Rp K G ad v d) : En K Z G ad T (ρ.set i (.dat d)) (σ.set i (some v)) H pa where
  iv := N.iv
  hl := by rw [List.length_set, List.length_set]; exact N.hl
  env := fun j s h => by
    by_cases hj : i = j
    · subst hj
      by_cases hi : i < ρ.length
      · rw [List.getElem?_set_self hi] at h
        cases h
        exact ⟨v, by rw [List.getElem?_set_self (by rw [← N.hl]; exact hi)], r⟩
      · rw [List.getElem?_eq_none (by rw [List.length_set]; omega)] at h
        cases h
    · rw [List.getElem?_set_ne hj] at h
      have q := N.env j s h
      cases s with
      | un => trivial
      | dat d =>
        obtain ⟨w, h1, h2⟩ := q
        exact ⟨w, by rw [List.getElem?_set_ne hj]; exact h1, h2⟩
      | own ds =>
        obtain ⟨vs, h1, h2⟩ := q
        exact ⟨vs, by rw [List.getElem?_set_ne hj]; exact h1, h2⟩
  ne := fun j k ds es h1 h2 hn => by
    have f : ∀ (m : Nat) (xs : List D), (ρ.set i (Sl.dat d))[m]? = some (Sl.own xs) → ρ[m]? = some (Sl.own xs) := fun m xs h => by
      by_cases hm : i = m
      · subst hm
        by_cases hi : i < ρ.length
        · rw [List.getElem?_set_self hi] at h
          cases h
        · rw [List.getElem?_eq_none (by rw [List.length_set]; omega)] at h
          cases h
      · rw [List.getElem?_set_ne hm] at h
        exact h
    exact N.ne j k ds es (f _ _ h1) (f _ _ h2) hn
/-- a slot gets a new list -/
theorem En.setO (N : En K Z G ad T ρ σ H pa) (i : Nat) {p : Addr} {vs : List V} {ds : List D} (hp : H p = none) (r : RpL K G ad vs ds) :
    En K Z G ad T (ρ.set i (.own ds)) (σ.set i (some (.ref p))) (upd H p (.lst vs)) (paS pa i p) where
  iv := N.iv.mine (N.iv.freshG hp) (N.iv.fresh hp) (N.iv.freshE hp) _
  hl := by rw [List.length_set, List.length_set]; exact N.hl
  env := fun j s h => by
    by_cases hj : i = j
    · subst hj
      by_cases hi : i < ρ.length
      · rw [List.getElem?_set_self hi] at h
        cases h
        refine ⟨vs, ?_, ?_, r, ?_, ?_, ?_⟩
        · rw [List.getElem?_set_self (by rw [← N.hl]; exact hi), paS_same]
        · rw [paS_same]; exact upd_same
        · rw [paS_same]; exact N.iv.freshG hp
        · rw [paS_same]; exact N.iv.fresh hp
        · rw [paS_same]; exact N.iv.freshE hp
      · rw [List.getElem?_eq_none (by rw [List.length_set]; omega)] at h
        cases h
    · rw [List.getElem?_set_ne hj] at h
      have q := N.env j s h
      have hj' : j ≠ i := Ne.symm hj
      cases s with
      | un => trivial
      | dat d =>
        obtain ⟨w, h1, h2⟩ := q
        exact ⟨w, by rw [List.getElem?_set_ne hj]; exact h1, h2⟩
      | own es =>
        obtain ⟨ws, h1, h2, h3, h4, h5, h6⟩ := q
        refine ⟨ws, ?_, ?_, h3, ?_, ?_, ?_⟩
        · rw [List.getElem?_set_ne hj, paS_ne hj']; exact h1
        · rw [paS_ne hj', upd_ne (ne_of_none h2 hp)]; exact h2
        · rw [paS_ne hj']; exact h4
        · rw [paS_ne hj']; exact h5
        · rw [paS_ne hj']; exact h6
  ne := fun j k es fs h1 h2 hn => by
    have f : ∀ (m : Nat) (xs : List D), m ≠ i → (ρ.set i (Sl.own ds))[m]? = some (Sl.own xs) → ρ[m]? = some (Sl.own xs) := fun m xs hm h => by
      rw [List.getElem?_set_ne (Ne.symm hm)] at h
      exact h
    have g : ∀ (m : Nat) (xs : List D), ρ[m]? = some (Sl.own xs) → pa m ≠ p := fun m xs h => by
      obtain ⟨ws, _, q, _⟩ := N.env m _ h
      exact ne_of_none q hp
    show paS pa i p j ≠ paS pa i p k
    by_cases e1 : j = i
    · by_cases e2 : k = i
      · exact absurd (e1.trans e2.symm) hn
      · rw [e1, paS_same, paS_ne e2]
        exact (g k fs (f k fs e2 h2)).symm
    · by_cases e2 : k = i
      · rw [e2, paS_same, paS_ne e1]
        exact g j es (f j es e1 h1)
      · rw [paS_ne e1, paS_ne e2]
        exact N.ne j k es fs (f j es e1 h1) (f k fs e2 h2) hn
/-- one's own list is written -/
theorem En.putO (N : En K Z G ad T ρ σ H pa) {i : Nat} {ds es : List D} {vs : List V} (hi : ρ[i]? = some (.own ds)) (r : RpL K G ad vs es) :
    En K Z G ad T (ρ.set i (.own es)) σ (upd H (pa i) (.lst vs)) pa := by
  obtain ⟨us, h1, h2, h3, h4, h5, h6⟩ := N.env i _ hi
  have hlt := (List.getElem?_eq_some_iff.mp hi).1
  refine ⟨N.iv.mine h4 h5 h6 _, by rw [List.length_set]; exact N.hl, fun j s h => ?_, fun j k es' fs h1' h2' hn => ?_⟩
  · by_cases hj : i = j
    · subst hj
      rw [List.getElem?_set_self hlt] at h
      cases h
      exact ⟨vs, h1, upd_same, r, h4, h5, h6⟩
    · rw [List.getElem?_set_ne hj] at h
      have q := N.env j s h
      cases s with
      | un => trivial
      | dat d => exact q
      | own fs =>
        obtain ⟨ws, q1, q2, q3, q4, q5, q6⟩ := q
        exact ⟨ws, q1, by rw [upd_ne (Ne.symm (N.ne i j _ _ hi h hj))]; exact q2, q3, q4, q5, q6⟩
  · have f : ∀ (m : Nat) (xs : List D), (ρ.set i (Sl.own es))[m]? = some (Sl.own xs) → ∃ ys, ρ[m]? = some (Sl.own ys) := fun m xs h => by
      by_cases hm : i = m
      · subst hm
        exact ⟨_, hi⟩
      · rw [List.getElem?_set_ne hm] at h
        exact ⟨_, h⟩
    obtain ⟨a, ha⟩ := f _ _ h1'
    obtain ⟨b, hb⟩ := f _ _ h2'
    exact N.ne j k a b ha hb hn
end
end Fx
namespace Fx
open PySem PySem.Spec PyProof.Rows L2
open Evl (Ex)

/-! ### functional steps -/
def bindF {α β : Type} (o : Option (α × Tm)) (k : α → Tm → Option β) : Option β := match o with
  | none => none
  | some (a, T) => k a T
@[simp] theorem bindF_some {α β : Type} (a : α) (T : Tm) (k : α → Tm → Option β) : bindF (some (a, T)) k = k a T := rfl
@[simp] theorem bindF_none {α β : Type} (k : α → Tm → Option β) : bindF none k = none := rfl
theorem bindF_eq {α β : Type} {o : Option (α × Tm)} {k : α → Tm → Option β} {b : β} (h : bindF o k = some b) : ∃ a T, o = some (a, T) ∧ k a T = some b := by
  cases o with
  | none => cases h
  | some p => exact ⟨p.1, p.2, rfl, h⟩
abbrev FE := Rho → Tm → Option (D × Tm)
abbrev FT := Rho → Tm → Option (Bool × Tm)
abbrev FA := Rho → Tm → Option (List D × Tm)
inductive Rz where
  | nx (ρ : Rho) | rt (d : D) | bk (ρ : Rho) | ct (ρ : Rho)
abbrev FS := Rho → Tm → Option (Rz × Tm)
/-- an operand: data, or one's own list -/
inductive Op where
  | val (d : D) | own (i : Nat) (ds : List D)
abbrev FO := Rho → Tm → Option (Op × Tm)

/-- what a step leaves as it is -/
structure Gr (G : Hp) (ad : List Addr) (H : Hp) (G' : Hp) (ad' : List Addr) (H' : Hp) : Prop where
  ex : Ex G G'
  pr : Pre ad ad'
  fr : ∀ b o, H b = some o → b ∉ ad → H' b = some o
  nG : ∀ b o, G' b = some o → G b = some o ∨ H b = none
  nA : ∀ a, a ∈ ad' → a ∈ ad ∨ H a = none
theorem Gr.refl (G : Hp) (ad : List Addr) (H : Hp) : Gr G ad H G ad H := ⟨Ex.refl _, Pre.refl _, fun _ _ h _ => h, fun _ _ h => .inl h, fun _ h => .inl h⟩
theorem Gr.back {G G' H H' : Hp} {ad ad' : List Addr} (x : Gr G ad H G' ad' H') (hat : ∀ a, a ∈ ad' → ∃ o, H' a = some o) {b : Addr} (h : H' b = none) : H b = none := by
  cases e : H b with
  | none => rfl
  | some o =>
    by_cases hb : b ∈ ad
    · obtain ⟨o', q⟩ := hat b (x.pr.mem hb)
      rw [h] at q
      cases q
    · have := x.fr b o e hb
      rw [h] at this
      cases this
theorem Gr.trans {G G1 G2 H H1 H2 : Hp} {ad ad1 ad2 : List Addr} (x : Gr G ad H G1 ad1 H1) (y : Gr G1 ad1 H1 G2 ad2 H2) (hat : ∀ a, a ∈ ad1 → ∃ o, H1 a = some o) : Gr G ad H G2 ad2 H2 where
  ex := x.ex.trans y.ex
  pr := x.pr.trans y.pr
  fr := fun b o h hb => y.fr b o (x.fr b o h hb) fun hm => by
    rcases x.nA b hm with q | q
    · exact hb q
    · rw [h] at q
      cases q
  nG := fun b o h => by
    rcases y.nG b o h with q | q
    · exact x.nG b o q
    · exact .inr (x.back hat q)
  nA := fun a h => by
    rcases y.nA a h with q | q
    · exact x.nA a q
    · exact .inr (x.back hat q)
/-- what is known behind -/
structure Nx (K : PySem.W.Frag) (Z : Zc) (G : Hp) (ad : List Addr) (H : Hp) (ρ : Rho) (σ : L2.St) (pa : Nat → Addr) (T' : Tm) (G' : Hp) (ad' : List Addr) (H' : Hp) : Prop where
  en : En K Z G' ad' T' ρ σ H' pa
  gr : Gr G ad H G' ad' H'
theorem Iv.ats {K : PySem.W.Frag} {Z : Zc} {G : Hp} {ad : List Addr} {T : Tm} {H : Hp} (I : Iv K Z G ad T H) : ∀ a, a ∈ ad → ∃ o, H a = some o := fun a h => by
  obtain ⟨vs, q⟩ := I.at h
  exact ⟨_, q⟩
theorem Nx.trans {K : PySem.W.Frag} {Z : Zc} {G G1 G2 : Hp} {ad ad1 ad2 : List Addr} {ρ : Rho} {σ : L2.St} {pa : Nat → Addr} {T1 T2 : Tm} {H H1 H2 : Hp}
    (a : Nx K Z G ad H ρ σ pa T1 G1 ad1 H1) (b : Nx K Z G1 ad1 H1 ρ σ pa T2 G2 ad2 H2) : Nx K Z G ad H ρ σ pa T2 G2 ad2 H2 := ⟨b.en, a.gr.trans b.gr a.en.iv.ats⟩
theorem En.nx {K : PySem.W.Frag} {Z : Zc} {G : Hp} {ad : List Addr} {T : Tm} {ρ : Rho} {σ : L2.St} {H : Hp} {pa : Nat → Addr} (N : En K Z G ad T ρ σ H pa) : Nx K Z G ad H ρ σ pa T G ad H := ⟨N, Gr.refl _ _ _⟩
theorem Nx.rp {K : PySem.W.Frag} {Z : Zc} {G G1 : Hp} {ad ad1 : List Addr} {ρ : Rho} {σ : L2.St} {pa : Nat → Addr} {T1 : Tm} {H H1 : Hp} (a : Nx K Z G ad H ρ σ pa T1 G1 ad1 H1) {v : V} {d : D} (r : Rp K G ad v d) : Rp K G1 ad1 v d := r.mono a.gr.ex a.gr.pr
theorem Nx.rpl {K : PySem.W.Frag} {Z : Zc} {G G1 : Hp} {ad ad1 : List Addr} {ρ : Rho} {σ : L2.St} {pa : Nat → Addr} {T1 : Tm} {H H1 : Hp} (a : Nx K Z G ad H ρ σ pa T1 G1 ad1 H1) {v : List V} {d : List D} (r : RpL K G ad v d) : RpL K G1 ad1 v d := r.mono a.gr.ex a.gr.pr

/-- what an expression's end is to be -/
def tD (K : PySem.W.Frag) (f : FE) : TE := fun σ H Q => ∃ Z G ad T ρ pa d T', En K Z G ad T ρ σ H pa ∧ f ρ T = some (d, T') ∧
  ∀ v G' ad' H', Nx K Z G ad H ρ σ pa T' G' ad' H' → Rp K G' ad' v d → Q v H'
def tDT (K : PySem.W.Frag) (f : FT) : TT := fun σ H Q => ∃ Z G ad T ρ pa b T', En K Z G ad T ρ σ H pa ∧ f ρ T = some (b, T') ∧
  ∀ G' ad' H', Nx K Z G ad H ρ σ pa T' G' ad' H' → Q b H'
def tDA (K : PySem.W.Frag) (f : FA) : TA := fun σ H Q => ∃ Z G ad T ρ pa ds T', En K Z G ad T ρ σ H pa ∧ f ρ T = some (ds, T') ∧
  ∀ vs G' ad' H', Nx K Z G ad H ρ σ pa T' G' ad' H' → RpL K G' ad' vs ds → Q vs H'
/-- a list of one's own at p, held by no name yet -/
structure Nw (K : PySem.W.Frag) (Z : Zc) (G : Hp) (ad : List Addr) (ρ : Rho) (pa : Nat → Addr) (H : Hp) (p : Addr) (ds : List D) : Prop where
  g : G p = none
  a : p ∉ ad
  h : Z.He p = none
  o : ∀ (i : Nat) (es : List D), ρ[i]? = some (.own es) → pa i ≠ p
  at_ : ∃ vs, H p = some (.lst vs) ∧ RpL K G ad vs ds
def tDL (K : PySem.W.Frag) (f : FA) : TE := fun σ H Q => ∃ Z G ad T ρ pa ds T', En K Z G ad T ρ σ H pa ∧ f ρ T = some (ds, T') ∧
  ∀ p G' ad' H', Nx K Z G ad H ρ σ pa T' G' ad' H' → Nw K Z G' ad' ρ pa H' p ds → H p = none → Q (.ref p) H'
def OpOk (K : PySem.W.Frag) (G : Hp) (ad : List Addr) (ρ : Rho) (pa : Nat → Addr) (v : V) : Op → Prop
  | .val d => Rp K G ad v d
  | .own i ds => ρ[i]? = some (.own ds) ∧ v = .ref (pa i)
def tDO (K : PySem.W.Frag) (f : FO) : TE := fun σ H Q => ∃ Z G ad T ρ pa o T', En K Z G ad T ρ σ H pa ∧ f ρ T = some (o, T') ∧
  ∀ v G' ad' H', Nx K Z G ad H ρ σ pa T' G' ad' H' → OpOk K G' ad' ρ pa v o → Q v H'
def EndD (K : PySem.W.Frag) (Z : Zc) (G : Hp) (ad : List Addr) (T' : Tm) (D0 : Ends) : Rz → Prop
  | .nx ρ' => ∀ σ' G' ad' H' pa', En K Z G' ad' T' ρ' σ' H' pa' → Ex G G' → Pre ad ad' → D0.nx σ' H'
  | .bk ρ' => ∀ σ' G' ad' H' pa', En K Z G' ad' T' ρ' σ' H' pa' → Ex G G' → Pre ad ad' → D0.bk σ' H'
  | .ct ρ' => ∀ σ' G' ad' H' pa', En K Z G' ad' T' ρ' σ' H' pa' → Ex G G' → Pre ad ad' → D0.ct σ' H'
  | .rt d => ∀ v G' ad' H', Iv K Z G' ad' T' H' → Ex G G' → Pre ad ad' → Rp K G' ad' v d → D0.rt v H'
def tDS (K : PySem.W.Frag) (g : FS) : TS := fun D0 σ H => ∃ Z G ad T ρ pa r T', En K Z G ad T ρ σ H pa ∧ g ρ T = some (r, T') ∧ EndD K Z G ad T' D0 r

abbrev XE (X : Cx) (e : Expr) (f : FE) : Prop := PE X e (tD X.K f)
abbrev XO (X : Cx) (e : Expr) (f : FO) : Prop := PE X e (tDO X.K f)
abbrev XL (X : Cx) (e : Expr) (f : FA) : Prop := PE X e (tDL X.K f)
abbrev XT (X : Cx) (e : Expr) (f : FT) : Prop := PT X e (tDT X.K f)
abbrev XW (X : Cx) (e : Expr) (f : FT) : Prop := PW X e (tDT X.K f)
abbrev XA (X : Cx) (es : List Expr) (f : FA) : Prop := PA X es (tDA X.K f)
abbrev XS (X : Cx) (st : Stmt) (g : FS) : Prop := PS X st (tDS X.K g)
abbrev XSs (X : Cx) (sts : List Stmt) (g : FS) : Prop := PSs X sts (tDS X.K g)

section
variable {X : Cx} {e : Expr} {st : Stmt} {sts : List Stmt}
theorem pe_weak {t t' : TE} (h : PE X e t) (k : ∀ σ H Q, t' σ H Q → t σ H Q) : PE X e t' := ⟨fun pins s σ H Q I hw => h.run pins s σ H Q I (k σ H Q hw)⟩
theorem pt_weak {t t' : TT} (h : PT X e t) (k : ∀ σ H Q, t' σ H Q → t σ H Q) : PT X e t' := ⟨fun pins s σ H Q I hw => h.run pins s σ H Q I (k σ H Q hw)⟩
theorem pw_weak {t t' : TT} (h : PW X e t) (k : ∀ σ H Q, t' σ H Q → t σ H Q) : PW X e t' := ⟨fun wh pins s σ H Q I hw => h.run wh pins s σ H Q I (k σ H Q hw)⟩
theorem pa_weak {es : List Expr} {t t' : TA} (h : PA X es t) (k : ∀ σ H Q, t' σ H Q → t σ H Q) : PA X es t' := ⟨fun pos pins s σ H Q I hw => h.run pos pins s σ H Q I (k σ H Q hw)⟩
theorem ps_weak {t t' : TS} (h : PS X st t) (k : ∀ D σ H, t' D σ H → t D σ H) : PS X st t' := ⟨fun pins s σ H D I hw => h.run pins s σ H D I (k D σ H hw)⟩
theorem pss_weak {t t' : TS} (h : PSs X sts t) (k : ∀ D σ H, t' D σ H → t D σ H) : PSs X sts t' := ⟨fun pins s σ H D I hw => h.run pins s σ H D I (k D σ H hw)⟩
end

section
variable {K : PySem.W.Frag} {Z : Zc} {G G' : Hp} {ad ad' : List Addr} {T T' : Tm} {ρ : Rho} {σ : L2.St} {H H' : Hp} {pa : Nat → Addr} {p : Addr} {ds : List D}
/-- a list that nobody changes any more -/
theorem Iv.learn (I : Iv K Z G ad T H) {o : HO} (g : G p = none) (a : p ∉ ad) (h : Z.He p = none) (hH : H p = some o) : Iv K Z (upd G p o) ad T H where
  ex := fun b u e => by
    by_cases hb : b = p
    · subst hb
      rw [upd_same] at e
      cases e
      exact hH
    · rw [upd_ne hb] at e
      exact I.ex b u e
  out := fun b hb => by
    have : b ≠ p := fun e => a (e ▸ hb)
    rw [upd_ne this]
    exact I.out b hb
  nd := I.nd
  len := I.len
  obj := fun k b es h1 h2 => by
    obtain ⟨vs, h3, h4⟩ := I.obj k b es h1 h2
    exact ⟨vs, h3, h4.mono (Ex.new g) (Pre.refl _)⟩
  gex := I.gex.trans (Ex.new g)
  pre := I.pre
  frame := I.frame
  newG := fun b u e => by
    by_cases hb : b = p
    · subst hb
      exact .inr h
    · rw [upd_ne hb] at e
      exact I.newG b u e
  newA := I.newA
theorem En.learn (N : En K Z G ad T ρ σ H pa) (w : Nw K Z G ad ρ pa H p ds) : ∃ G', En K Z G' ad T ρ σ H pa ∧ Ex G G' ∧ Rp K G' ad (.ref p) (.lst ds) ∧ (∀ b o, G' b = some o → G b = some o ∨ b = p) := by
  obtain ⟨vs, h1, h2⟩ := w.at_
  refine ⟨upd G p (.lst vs), ⟨N.iv.learn w.g w.a w.h h1, N.hl, fun i s h => ?_, N.ne⟩, Ex.new w.g, .lst upd_same (h2.mono (Ex.new w.g) (Pre.refl _)), fun b o hb => by
    by_cases e : b = p
    · exact .inr e
    · rw [upd_ne e] at hb
      exact .inl hb⟩
  have q := N.env i s h
  cases s with
  | un => trivial
  | dat d =>
    obtain ⟨v, q1, q2⟩ := q
    exact ⟨v, q1, q2.mono (Ex.new w.g) (Pre.refl _)⟩
  | own es =>
    obtain ⟨us, q1, q2, q3, q4, q5, q6⟩ := q
    exact ⟨us, q1, q2, q3.mono (Ex.new w.g) (Pre.refl _), by rw [upd_ne (w.o i es h)]; exact q4, q5, q6⟩
/-- a slot gets a list of one's own -/
theorem En.take (N : En K Z G ad T ρ σ H pa) (w : Nw K Z G ad ρ pa H p ds) (i : Nat) : En K Z G ad T (ρ.set i (.own ds)) (σ.set i (some (.ref p))) H (paS pa i p) := by
  obtain ⟨vs, hv, rv⟩ := w.at_
  refine ⟨N.iv, by rw [List.length_set, List.length_set]; exact N.hl, fun j s h => ?_, fun j k es fs h1 h2 hn => ?_⟩
  · by_cases hj : i = j
    · subst hj
      by_cases hi : i < ρ.length
      · rw [List.getElem?_set_self hi] at h
        cases h
        refine ⟨vs, ?_, ?_, rv, ?_, ?_, ?_⟩
        · rw [List.getElem?_set_self (by rw [← N.hl]; exact hi), paS_same]
        · rw [paS_same]; exact hv
        · rw [paS_same]; exact w.g
        · rw [paS_same]; exact w.a
        · rw [paS_same]; exact w.h
      · rw [List.getElem?_eq_none (by rw [List.length_set]; omega)] at h
        cases h
    · rw [List.getElem?_set_ne hj] at h
      have q := N.env j s h
      have hj' : j ≠ i := Ne.symm hj
      cases s with
      | un => trivial
      | dat d =>
        obtain ⟨x, h1, h2⟩ := q
        exact ⟨x, by rw [List.getElem?_set_ne hj]; exact h1, h2⟩
      | own es =>
        obtain ⟨ws, h1, h2, h3, h4, h5, h6⟩ := q
        refine ⟨ws, ?_, ?_, h3, ?_, ?_, ?_⟩
        · rw [List.getElem?_set_ne hj, paS_ne hj']; exact h1
        · rw [paS_ne hj']; exact h2
        · rw [paS_ne hj']; exact h4
        · rw [paS_ne hj']; exact h5
        · rw [paS_ne hj']; exact h6
  · have f : ∀ (m : Nat) (xs : List D), m ≠ i → (ρ.set i (Sl.own ds))[m]? = some (Sl.own xs) → ρ[m]? = some (Sl.own xs) := fun m xs hm h => by
      rw [List.getElem?_set_ne (Ne.symm hm)] at h
      exact h
    by_cases e1 : j = i
    · by_cases e2 : k = i
      · exact absurd (e1.trans e2.symm) hn
      · rw [e1, paS_same, paS_ne e2]
        exact (w.o k fs (f k fs e2 h2)).symm
    · by_cases e2 : k = i
      · rw [e2, paS_same, paS_ne e1]
        exact w.o j es (f j es e1 h1)
      · rw [paS_ne e1, paS_ne e2]
        exact N.ne j k es fs (f j es e1 h1) (f k fs e2 h2) hn
/-- it becomes an object that changes -/
theorem En.join (N : En K Z G ad T ρ σ H pa) (w : Nw K Z G ad ρ pa H p ds) : En K Z G (ad ++ [p]) (T ++ [.lst ds]) ρ σ H pa ∧ Pre ad (ad ++ [p]) ∧ Rp K G (ad ++ [p]) (.ref p) (.ob T.length) := by
  obtain ⟨vs, hv, rv⟩ := w.at_
  have pr : Pre ad (ad ++ [p]) := fun k a h => by
    rw [List.getElem?_append_left (List.getElem?_eq_some_iff.mp h).1]
    exact h
  refine ⟨⟨N.iv.join w.g w.a w.h hv rv, N.hl, fun i s h => ?_, N.ne⟩, pr, .ob ?_⟩
  · have q := N.env i s h
    cases s with
    | un => trivial
    | dat d =>
      obtain ⟨v, q1, q2⟩ := q
      exact ⟨v, q1, q2.mono (Ex.refl _) pr⟩
    | own es =>
      obtain ⟨us, q1, q2, q3, q4, q5, q6⟩ := q
      refine ⟨us, q1, q2, q3.mono (Ex.refl _) pr, q4, fun hm => ?_, q6⟩
      rcases List.mem_append.mp hm with hm | hm
      · exact q5 hm
      · exact w.o i es h (List.mem_singleton.mp hm)
  · rw [← N.iv.len]
    simp
/-- a new list just laid -/
theorem En.laid (N : En K Z G ad T ρ σ H pa) (hp : H p = none) {vs : List V} (r : RpL K G ad vs ds) : En K Z G ad T ρ σ (upd H p (.lst vs)) pa ∧ Nw K Z G ad ρ pa (upd H p (.lst vs)) p ds := by
  have ho : ∀ (i : Nat) (es : List D), ρ[i]? = some (.own es) → pa i ≠ p := fun i es h => by
    obtain ⟨ws, _, q, _⟩ := N.env i _ h
    exact ne_of_none q hp
  refine ⟨⟨N.iv.mine (N.iv.freshG hp) (N.iv.fresh hp) (N.iv.freshE hp) _, N.hl, fun i s h => ?_, N.ne⟩, ⟨N.iv.freshG hp, N.iv.fresh hp, N.iv.freshE hp, ho, vs, upd_same, r⟩⟩
  have q := N.env i s h
  cases s with
  | un => trivial
  | dat d => exact q
  | own es =>
    obtain ⟨us, q1, q2, q3⟩ := q
    exact ⟨us, q1, by rw [upd_ne (ho i es h)]; exact q2, q3⟩
/-- a slot is forgotten -/
theorem En.forget (N : En K Z G ad T ρ σ H pa) {σ' : L2.St} {ρ' : Rho} (hl : ρ'.length = σ'.length) (h : ∀ (i : Nat) (s : Sl), ρ'[i]? = some s → s = Sl.un ∨ (ρ[i]? = some s ∧ σ'[i]? = σ[i]?)) : En K Z G ad T ρ' σ' H pa := by
  refine ⟨N.iv, hl, fun i s hs => ?_, fun i j es fs h1 h2 hn => ?_⟩
  · rcases h i s hs with rfl | ⟨h1, h2⟩
    · trivial
    · have q := N.env i s h1
      cases s with
      | un => trivial
      | dat d =>
        obtain ⟨v, q1, q2⟩ := q
        exact ⟨v, h2.trans q1, q2⟩
      | own es =>
        obtain ⟨us, q1, q2⟩ := q
        exact ⟨us, h2.trans q1, q2⟩
  · rcases h i _ h1 with e | ⟨e1, _⟩
    · cases e
    · rcases h j _ h2 with e | ⟨e2, _⟩
      · cases e
      · exact N.ne i j es fs e1 e2 hn
end
end Fx
namespace Fx
open PySem PySem.Spec PyProof.Rows L2
open Evl (Ex)

section
variable {K : PySem.W.Frag} {Z : Zc} {G G' : Hp} {ad ad' : List Addr} {T T' : Tm} {ρ : Rho} {σ : L2.St} {H H' : Hp} {pa : Nat → Addr} {p : Addr} {ds : List D}
theorem En.knowN (N : En K Z G ad T ρ σ H pa) (hp : H p = none) (o : HO) : Nx K Z G ad H ρ σ pa T (upd G p o) ad (upd H p o) where
  en := N.know hp o
  gr := ⟨Ex.new (N.iv.freshG hp), Pre.refl _, fun b o' h _ => by rw [upd_ne (ne_of_none h hp)]; exact h, fun b o' h => by
    by_cases e : b = p
    · exact .inr (e ▸ hp)
    · rw [upd_ne e] at h
      exact .inl h, fun a h => .inl h⟩
theorem Nx.learn (x : Nx K Z G ad H ρ σ pa T' G' ad' H') (w : Nw K Z G' ad' ρ pa H' p ds) (hp : H p = none) : ∃ G2, Nx K Z G ad H ρ σ pa T' G2 ad' H' ∧ Ex G' G2 ∧ Rp K G2 ad' (.ref p) (.lst ds) := by
  obtain ⟨G2, N2, e2, r2, h2⟩ := x.en.learn w
  refine ⟨G2, ⟨N2, x.gr.ex.trans e2, x.gr.pr, x.gr.fr, fun b o h => ?_, x.gr.nA⟩, e2, r2⟩
  rcases h2 b o h with q | q
  · exact x.gr.nG b o q
  · exact .inr (q ▸ hp)
theorem Iv.tup (I : Iv K Z G ad T H) {a : Addr} {vs : List V} (h : TupK K G a vs) : SqT K H a vs := (h.mono I.ex).seq
theorem Iv.seq (I : Iv K Z G ad T H) {a : Addr} {vs : List V} (h : SqL K G a vs) : SqL K H a vs := Evl.ex_l I.ex h
end

/-! ### names, constants -/
def varF (i : Nat) : FE := fun ρ T => match ρ[i]? with
  | some (.dat d) => some (d, T)
  | _ => none
def varO (i : Nat) : FO := fun ρ T => match ρ[i]? with
  | some (.dat d) => some (.val d, T)
  | some (.own ds) => some (.own i ds, T)
  | _ => none
def constF (d : D) : FE := fun _ T => some (d, T)
section
variable {X : Cx} {a b c : Expr} {pos : Pos}
theorem xe_var (i : Nat) {x : Str} (h : PE X (.Name x pos) (tVar i) := by exact pv _) : XE X (.Name x pos) (varF i) := pe_weak h fun σ H Q h => by
  obtain ⟨Z, G, ad, T, ρ, pa, d, T', N, hf, k⟩ := h
  unfold varF at hf
  split at hf
  · rename_i d' hd
    cases hf
    obtain ⟨v, h1, h2⟩ := N.env i _ hd
    exact ⟨v, h1, k v G ad H N.nx h2⟩
  · cases hf
theorem xo_var (i : Nat) {x : Str} (h : PE X (.Name x pos) (tVar i) := by exact pv _) : XO X (.Name x pos) (varO i) := pe_weak h fun σ H Q h => by
  obtain ⟨Z, G, ad, T, ρ, pa, d, T', N, hf, k⟩ := h
  unfold varO at hf
  split at hf
  · rename_i d' hd
    cases hf
    obtain ⟨v, h1, h2⟩ := N.env i _ hd
    exact ⟨v, h1, k v G ad H N.nx h2⟩
  · rename_i d' hd
    cases hf
    obtain ⟨vs, h1, h2⟩ := N.env i _ hd
    exact ⟨_, h1, k _ G ad H N.nx ⟨hd, rfl⟩⟩
  · cases hf
theorem xe_c {v : V} {d : D} (h : PE X a (tC v)) (r : ∀ G ad, Rp X.K G ad v d) : XE X a (constF d) := pe_weak h fun σ H Q h => by
  obtain ⟨Z, G, ad, T, ρ, pa, d, T', N, hf, k⟩ := h
  cases hf
  exact k v G ad H N.nx (r G ad)
theorem xe_int {i : Int} {j : Nat} : XE X (.Constant (.int i) j pos) (constF (.int i)) := xe_c pe_int fun _ _ => .int i
theorem xe_bl {b : Bool} {j : Nat} : XE X (.Constant (.bool b) j pos) (constF (.bl b)) := xe_c pe_bl fun _ _ => .bl b
theorem xe_non {j : Nat} : XE X (.Constant .none j pos) (constF .non) := xe_c pe_non fun _ _ => .non
theorem xe_str {s : Str} {j : Nat} : XE X (.Constant (.str s) j pos) (constF (.str s)) := xe_c pe_str fun _ _ => .str s
theorem xe_gint {x : Str} {i : Int} (hg : Gl X x) (hm : ∃ t, X.mg x = some (.int i t)) (hd : (x == ("__debug__" : Str)) = false := by decide) : XE X (.Name x pos) (constF (.int i)) := by
  obtain ⟨t, hm⟩ := hm
  exact xe_c (v := .int i) (pe_glob hg hm ⟨t, rfl⟩ hd) fun _ _ => .int i
/-- an operand that is data -/
def ofF (f : FE) : FO := fun ρ T => bindF (f ρ T) fun d T' => some (.val d, T')
theorem xo_of {f : FE} (h : XE X a f) : XO X a (ofF f) := pe_weak h fun σ H Q h => by
  obtain ⟨Z, G, ad, T, ρ, pa, o, T', N, hf, k⟩ := h
  obtain ⟨d, T1, h1, h2⟩ := bindF_eq hf
  cases h2
  exact ⟨Z, G, ad, T, ρ, pa, d, _, N, h1, fun v G' ad' H' x r => k v G' ad' H' x r⟩
/-- a new list, not to be changed -/
def frzF (f : FA) : FE := fun ρ T => bindF (f ρ T) fun ds T' => some (.lst ds, T')
theorem xe_frz {f : FA} (h : XL X a f) : XE X a (frzF f) := pe_weak h fun σ H Q h => by
  obtain ⟨Z, G, ad, T, ρ, pa, o, T', N, hf, k⟩ := h
  obtain ⟨ds, T1, h1, h2⟩ := bindF_eq hf
  cases h2
  refine ⟨Z, G, ad, T, ρ, pa, ds, _, N, h1, fun p G' ad' H' x w hp => ?_⟩
  obtain ⟨G2, x2, e2, r2⟩ := x.learn w hp
  exact k _ G2 ad' H' x2 r2

/-! ### operators -/
def binF (g : D → D → Option D) (f1 f2 : FE) : FE := fun ρ T => bindF (f1 ρ T) fun x T1 => bindF (f2 ρ T1) fun y T2 => match g x y with
  | some z => some (z, T2)
  | none => none
def OkR (K : PySem.W.Frag) (r : R2) (g : D → D → Option D) : Prop := ∀ (Z : Zc) (G : Hp) (ad : List Addr) (T : Tm) (ρ : Rho) (σ : L2.St) (H : Hp) (pa : Nat → Addr) (v w : V) (x y z : D) (Q : VK),
  En K Z G ad T ρ σ H pa → Rp K G ad v x → Rp K G ad w y → g x y = some z → (∀ u G' ad' H', Nx K Z G ad H ρ σ pa T G' ad' H' → Rp K G' ad' u z → Q u H') → r v w H Q
theorem op_run {r : R2} {g : D → D → Option D} {f1 f2 : FE} {σ : L2.St} {H : Hp} {Q : VK} (hr : OkR X.K r g) (h : tD X.K (binF g f1 f2) σ H Q) : tOp r (tD X.K f1) (tD X.K f2) σ H Q := by
  obtain ⟨Z, G, ad, T, ρ, pa, d, T', N, hf, k⟩ := h
  obtain ⟨x, T1, h1, h2⟩ := bindF_eq hf
  obtain ⟨y, T2, h3, h4⟩ := bindF_eq h2
  cases e : g x y with
  | none => rw [e] at h4; cases h4
  | some z =>
    rw [e] at h4
    cases h4
    refine ⟨Z, G, ad, T, ρ, pa, x, T1, N, h1, fun v G1 ad1 H1 x1 r1 => ⟨Z, G1, ad1, T1, ρ, pa, y, _, x1.en, h3, fun w G2 ad2 H2 x2 r2 => ?_⟩⟩
    exact hr Z G2 ad2 _ ρ σ H2 pa v w x y _ Q x2.en (x2.rp r1) r2 e fun u G3 ad3 H3 x3 r3 => k u G3 ad3 H3 ((x1.trans x2).trans x3) r3
theorem xe_op {op : Operator} {r : R2} {g : D → D → Option D} {f1 f2 : FE} (ho : OpR X (binaryOp op) r) (hr : OkR X.K r g) (h1 : XE X a f1) (h2 : XE X b f2) : XE X (.BinOp a op b pos) (binF g f1 f2) :=
  pe_weak (pe_op ho h1 h2) fun _ _ _ => op_run hr
theorem xe_cmp {op : CmpOp} {r : R2} {g : D → D → Option D} {f1 f2 : FE} (ho : OpR X (compareOp op) r) (hr : OkR X.K r g) (h1 : XE X a f1) (h2 : XE X b f2) (hm : behindInMarks op b = false := by rfl) : XE X (.Compare a [op] [b] pos) (binF g f1 f2) :=
  pe_weak (pe_cmpR ho h1 h2 hm) fun _ _ _ => op_run hr
def testF (f : FE) : FT := fun ρ T => bindF (f ρ T) fun d T' => match d with
  | .bl b => some (b, T')
  | _ => none
theorem test_run {f : FE} {σ : L2.St} {H : Hp} {Q : Bool → Hp → Prop} (h : tDT X.K (testF f) σ H Q) : tD X.K f σ H fun x H' => ∃ k, x = .bl k ∧ Q k H' := by
  obtain ⟨Z, G, ad, T, ρ, pa, b, T', N, hf, k⟩ := h
  obtain ⟨d, T1, h1, h2⟩ := bindF_eq hf
  refine ⟨Z, G, ad, T, ρ, pa, d, T1, N, h1, fun v G1 ad1 H1 x1 r1 => ?_⟩
  cases d with
  | bl b' =>
    cases h2
    exact ⟨b, r1.inv_bl, k G1 ad1 H1 x1⟩
  | _ => cases h2
theorem xt_cmp {op : CmpOp} {r : R2} {g : D → D → Option D} {f1 f2 : FE} (ho : OpR X (compareOp op) r) (hr : OkR X.K r g) (h1 : XE X a f1) (h2 : XE X b f2) (hm : behindInMarks op b = false := by rfl) : XT X (.Compare a [op] [b] pos) (testF (binF g f1 f2)) := by
  refine pt_weak (pt_cmpR ho h1 h2 hm) fun σ H Q h => ?_
  have q := test_run h
  exact op_run hr q
theorem xt_val {f : FE} (h : XE X a f) (he : ∀ whole, isTrue a X.env whole = (do let v ← whole; standAt a.pos; holding [v] (truthy v)) := by intro _; rfl) : XT X a (testF f) :=
  pt_weak (pt_val h he) fun _ _ _ h => test_run h

def iiF (C : Int → Int → Bool) (f : Int → Int → D) : D → D → Option D := fun x y => match x, y with
  | .int i, .int j => if C i j then some (f i j) else none
  | _, _ => none
theorem iiF_eq {C : Int → Int → Bool} {f : Int → Int → D} {x y z : D} (h : iiF C f x y = some z) : ∃ i j, x = .int i ∧ y = .int j ∧ C i j = true ∧ z = f i j := by
  unfold iiF at h
  split at h
  · split at h
    · cases h
      exact ⟨_, _, rfl, rfl, by assumption, rfl⟩
    · cases h
  · cases h
@[simp] theorem iiF_int (C : Int → Int → Bool) (f : Int → Int → D) (i j : Int) : iiF C f (.int i) (.int j) = if C i j then some (f i j) else none := rfl
theorem ok_ii {K : PySem.W.Frag} {P : Int → Int → Prop} {C : Int → Int → Bool} {gV : Int → Int → V} {f : Int → Int → D} (hc : ∀ i j, C i j = true → P i j) (hf : ∀ i j G ad, Rp K G ad (gV i j) (f i j)) : OkR K (rI P gV) (iiF C f) :=
  fun Z G ad T ρ σ H pa v w x y z Q N rx ry hg k => by
    obtain ⟨i, j, rfl, rfl, h, rfl⟩ := iiF_eq hg
    exact ⟨i, j, rx.inv_int, ry.inv_int, hc i j h, k _ G ad H N.nx (hf i j G ad)⟩
theorem ok_ii0 {K : PySem.W.Frag} {C : Int → Int → Bool} {gV : Int → Int → V} {f : Int → Int → D} (hf : ∀ i j G ad, Rp K G ad (gV i j) (f i j)) : OkR K (rI0 gV) (iiF C f) :=
  fun Z G ad T ρ σ H pa v w x y z Q N rx ry hg k => by
    obtain ⟨i, j, rfl, rfl, h, rfl⟩ := iiF_eq hg
    exact ⟨i, j, rx.inv_int, ry.inv_int, k _ G ad H N.nx (hf i j G ad)⟩
def ctt : Int → Int → Bool := fun _ _ => true
@[simp] theorem ctt_eq (i j : Int) : ctt i j = true := rfl
/-- a decision that is not computed -/
noncomputable def dc (p : Prop) : Bool := @decide p (Classical.propDecidable _)
theorem dc_of {p : Prop} (h : p) : dc p = true := @decide_eq_true _ (Classical.propDecidable _) h
theorem of_dc {p : Prop} (h : dc p = true) : p := @of_decide_eq_true _ (Classical.propDecidable _) h
noncomputable def cMul : Int → Int → Bool := fun i j => dc ((-18446744073709551616 < i ∧ i < 18446744073709551616) ∨ (-18446744073709551616 < j ∧ j < 18446744073709551616))
theorem cMul_ok (i j : Int) (h : cMul i j = true) : CMul i j := by
  have := of_dc h
  unfold CMul
  omega
noncomputable def cDiv : Int → Int → Bool := fun _ j => dc (j ≠ 0 ∧ j.natAbs < 1073741824)
theorem cDiv_ok (i j : Int) (h : cDiv i j = true) : CDivN i j := of_dc h
noncomputable def cMod : Int → Int → Bool := fun _ j => dc (j ≠ 0)
noncomputable def cPow : Int → Int → Bool := fun i j => dc (0 ≤ j ∧ j ≤ 1000000 ∧ i.natAbs < 18446744073709551616)
theorem cPow_ok (i j : Int) (h : cPow i j = true) : CPow i j := by
  have := of_dc h
  exact ⟨this.1, this.2.1, by omega⟩
abbrev subD := iiF ctt fun i j => .int (i - j)
noncomputable abbrev divD := iiF cDiv fun i j => .int (i.fdiv j)
noncomputable abbrev modD := iiF cMod fun i j => .int (i.fmod j)
noncomputable abbrev powD := iiF cPow fun i j => .int (i ^ j.toNat)
abbrev ltD := iiF ctt fun i j => .bl (decide (i < j))
abbrev leD := iiF ctt fun i j => .bl (decide (i ≤ j))
abbrev gtD := iiF ctt fun i j => .bl (decide (j < i))
abbrev geD := iiF ctt fun i j => .bl (decide (j ≤ i))
noncomputable abbrev shlD := iiF cPow fun i j => .int (i * 2 ^ j.toNat)
abbrev shrD := iiF (fun _ j => decide (0 ≤ j)) fun i j => .int (i / 2 ^ j.toNat)
abbrev andD := iiF ctt fun i j => .int (Builtin.bitAnd i j)
abbrev orD := iiF ctt fun i j => .int (Builtin.bitOr i j)
abbrev xorD := iiF ctt fun i j => .int (Builtin.bitXor i j)
variable {f1 f2 : FE}
theorem xe_sub (h1 : XE X a f1) (h2 : XE X b f2) : XE X (.BinOp a .Sub b pos) (binF subD f1 f2) := xe_op op_sub (ok_ii0 fun _ _ _ _ => .int _) h1 h2
theorem xe_fdiv (h1 : XE X a f1) (h2 : XE X b f2) : XE X (.BinOp a .FloorDiv b pos) (binF divD f1 f2) := xe_op op_fdivN (ok_ii cDiv_ok fun _ _ _ _ => .int _) h1 h2
theorem xe_mod (h1 : XE X a f1) (h2 : XE X b f2) : XE X (.BinOp a .Mod b pos) (binF modD f1 f2) := xe_op op_modN (ok_ii (fun _ _ h => of_dc h) fun _ _ _ _ => .int _) h1 h2
theorem xe_pow (h1 : XE X a f1) (h2 : XE X b f2) : XE X (.BinOp a .Pow b pos) (binF powD f1 f2) := xe_op op_pow (ok_ii cPow_ok fun _ _ _ _ => .int _) h1 h2
theorem xe_shl (h1 : XE X a f1) (h2 : XE X b f2) : XE X (.BinOp a .LShift b pos) (binF shlD f1 f2) := xe_op op_shl (ok_ii cPow_ok fun _ _ _ _ => .int _) h1 h2
theorem xe_shr (h1 : XE X a f1) (h2 : XE X b f2) : XE X (.BinOp a .RShift b pos) (binF shrD f1 f2) := xe_op op_shr (ok_ii (fun _ _ h => of_decide_eq_true h) fun _ _ _ _ => .int _) h1 h2
theorem xe_and_ (h1 : XE X a f1) (h2 : XE X b f2) : XE X (.BinOp a .BitAnd b pos) (binF andD f1 f2) := xe_op op_and (ok_ii0 fun _ _ _ _ => .int _) h1 h2
theorem xe_or_ (h1 : XE X a f1) (h2 : XE X b f2) : XE X (.BinOp a .BitOr b pos) (binF orD f1 f2) := xe_op op_or (ok_ii0 fun _ _ _ _ => .int _) h1 h2
theorem xe_xor_ (h1 : XE X a f1) (h2 : XE X b f2) : XE X (.BinOp a .BitXor b pos) (binF xorD f1 f2) := xe_op op_xor (ok_ii0 fun _ _ _ _ => .int _) h1 h2
theorem xe_lt (h1 : XE X a f1) (h2 : XE X b f2) : XE X (.Compare a [.Lt] [b] pos) (binF ltD f1 f2) := xe_cmp op_lt (ok_ii0 fun _ _ _ _ => .bl _) h1 h2 (nomark _)
theorem xe_le (h1 : XE X a f1) (h2 : XE X b f2) : XE X (.Compare a [.LtE] [b] pos) (binF leD f1 f2) := xe_cmp op_le (ok_ii0 fun _ _ _ _ => .bl _) h1 h2 (nomark _)
theorem xe_gt (h1 : XE X a f1) (h2 : XE X b f2) : XE X (.Compare a [.Gt] [b] pos) (binF gtD f1 f2) := xe_cmp op_gt (ok_ii0 fun _ _ _ _ => .bl _) h1 h2 (nomark _)
theorem xe_ge (h1 : XE X a f1) (h2 : XE X b f2) : XE X (.Compare a [.GtE] [b] pos) (binF geD f1 f2) := xe_cmp op_ge (ok_ii0 fun _ _ _ _ => .bl _) h1 h2 (nomark _)
theorem xt_lt (h1 : XE X a f1) (h2 : XE X b f2) : XT X (.Compare a [.Lt] [b] pos) (testF (binF ltD f1 f2)) := xt_cmp op_lt (ok_ii0 fun _ _ _ _ => .bl _) h1 h2 (nomark _)
theorem xt_le (h1 : XE X a f1) (h2 : XE X b f2) : XT X (.Compare a [.LtE] [b] pos) (testF (binF leD f1 f2)) := xt_cmp op_le (ok_ii0 fun _ _ _ _ => .bl _) h1 h2 (nomark _)
theorem xt_gt (h1 : XE X a f1) (h2 : XE X b f2) : XT X (.Compare a [.Gt] [b] pos) (testF (binF gtD f1 f2)) := xt_cmp op_gt (ok_ii0 fun _ _ _ _ => .bl _) h1 h2 (nomark _)
theorem xt_ge (h1 : XE X a f1) (h2 : XE X b f2) : XT X (.Compare a [.GtE] [b] pos) (testF (binF geD f1 f2)) := xt_cmp op_ge (ok_ii0 fun _ _ _ _ => .bl _) h1 h2 (nomark _)

/-- + -/
def addD : D → D → Option D
  | .int i, .int j => some (.int (i + j))
  | .str x, .str y => if x.length + y.length ≤ sizeLine then some (.str (x ++ y)) else none
  | .tup xs, .tup ys => if xs.length + ys.length ≤ sizeLine then some (.tup (xs ++ ys)) else none
  | .lst xs, .lst ys => if xs.length + ys.length ≤ sizeLine then some (.lst (xs ++ ys)) else none
  | _, _ => none
@[simp] theorem addD_int (i j : Int) : addD (.int i) (.int j) = some (.int (i + j)) := rfl
@[simp] theorem addD_str (x y : Str) : addD (.str x) (.str y) = if x.length + y.length ≤ sizeLine then some (.str (x ++ y)) else none := rfl
@[simp] theorem addD_tup (x y : List D) : addD (.tup x) (.tup y) = if x.length + y.length ≤ sizeLine then some (.tup (x ++ y)) else none := rfl
@[simp] theorem addD_lst (x y : List D) : addD (.lst x) (.lst y) = if x.length + y.length ≤ sizeLine then some (.lst (x ++ y)) else none := rfl
def rAddU (K : PySem.W.Frag) : R2 := fun x y H Q => (rI0 fun i j => .int (i + j)) x y H Q ∨ (fun x y H Q => ∃ i j, x = .str i ∧ y = .str j ∧ i.length + j.length ≤ sizeLine ∧ Q (.str (i ++ j)) H : R2) x y H Q ∨ rCatP K x y H Q ∨ rCat x y H Q
theorem op_addU : OpR X (binaryOp .Add) (rAddU X.K) := op_add.or (op_add_str.or (op_catP.or op_cat))
theorem ok_add {K : PySem.W.Frag} : OkR K (rAddU K) addD := fun Z G ad T ρ σ H pa v w x y z Q N rx ry hg k => by
  unfold addD at hg
  split at hg
  · cases hg
    exact .inl ⟨_, _, rx.inv_int, ry.inv_int, k _ G ad H N.nx (.int _)⟩
  · split at hg
    · cases hg
      exact .inr (.inl ⟨_, _, rx.inv_str, ry.inv_str, by assumption, k _ G ad H N.nx (.str _)⟩)
    · cases hg
  · rename_i xs ys
    split at hg
    · rename_i hz
      cases hg
      obtain ⟨p, vs, rfl, h1, r1⟩ := rx.inv_tup
      obtain ⟨q, ws, rfl, h2, r2⟩ := ry.inv_tup
      refine .inr (.inr (.inl ⟨p, q, vs, ws, rfl, rfl, N.iv.tup h1, N.iv.tup h2, by rw [r1.length, r2.length]; exact hz, fun e => ?_, fun e e' => ?_, fun e e' q' o ho hd => ?_⟩))
      · subst e
        cases r1
        exact k _ G ad H N.nx (.tup h2 r2)
      · subst e'
        cases r2
        rw [List.append_nil] at k
        exact k _ G ad H N.nx (.tup h1 r1)
      · have x := N.knowN ho (.frz o (.tup (vs ++ ws)))
        exact k _ _ _ _ x (.tup (TupK.new hd) (x.rpl (r1.append r2)))
    · cases hg
  · rename_i xs ys
    split at hg
    · rename_i hz
      cases hg
      obtain ⟨p, vs, rfl, h1, r1⟩ := rx.inv_lst
      obtain ⟨q, ws, rfl, h2, r2⟩ := ry.inv_lst
      refine .inr (.inr (.inr ⟨p, q, vs, ws, rfl, rfl, N.iv.ex _ _ h1, N.iv.ex _ _ h2, by rw [r1.length, r2.length]; exact hz, fun o ho => ?_⟩))
      have x := N.knowN ho (.lst (vs ++ ws))
      exact k _ _ _ _ x (.lst upd_same (x.rpl (r1.append r2)))
    · cases hg
  · cases hg
theorem xe_add (h1 : XE X a f1) (h2 : XE X b f2) : XE X (.BinOp a .Add b pos) (binF addD f1 f2) := xe_op op_addU ok_add h1 h2

/-! ### ==, is -/
mutual
def toPy : D → Option PyData
  | .non => some .none
  | .bl b => some (.bool b)
  | .int i => some (.int i)
  | .str s => some (.str s)
  | .tup ds => (toPyL ds).map .tuple
  | .lst ds => (toPyL ds).map .list
  | .frl ds => (toPyL ds).map .list
  | .ob _ => none
def toPyL : List D → Option (List PyData)
  | [] => some []
  | d :: ds => match toPy d, toPyL ds with
    | some x, some xs => some (x :: xs)
    | _, _ => none
end
mutual
theorem Rp.dp {K : PySem.W.Frag} {G H : Hp} {ad : List Addr} (e : Ex G H) : ∀ {v : V} {d : D} {p : PyData}, Rp K G ad v d → toPy d = some p → Dp K H v p
  | _, _, _, .non, h => by rw [toPy] at h; cases h; exact .non
  | _, _, _, .bl b, h => by rw [toPy] at h; cases h; exact .bl b
  | _, _, _, .int i, h => by rw [toPy] at h; cases h; exact .int i
  | _, _, _, .str s, h => by rw [toPy] at h; cases h; exact .str s
  | _, _, _, .tup h t, g => by
    rw [toPy] at g
    obtain ⟨xs, h1, h2⟩ := Option.map_eq_some_iff.mp g
    subst h2
    exact .tup (h.mono e).seq (RpL.dp e t h1)
  | _, _, _, .lst h t, g => by
    rw [toPy] at g
    obtain ⟨xs, h1, h2⟩ := Option.map_eq_some_iff.mp g
    subst h2
    exact .lst (.inl (.inl (e _ _ h))) (RpL.dp e t h1)
  | _, _, _, .frl h t, g => by
    rw [toPy] at g
    obtain ⟨xs, h1, h2⟩ := Option.map_eq_some_iff.mp g
    subst h2
    exact .lst (Evl.ex_l e h) (RpL.dp e t h1)
  | _, _, _, .ob _, h => by rw [toPy] at h; cases h
theorem RpL.dp {K : PySem.W.Frag} {G H : Hp} {ad : List Addr} (e : Ex G H) : ∀ {vs : List V} {ds : List D} {ps : List PyData}, RpL K G ad vs ds → toPyL ds = some ps → DpAll K H vs ps
  | _, _, _, .nil, h => by rw [toPyL] at h; cases h; exact .nil
  | _, _, _, .cons h t, g => by
    rw [toPyL] at g
    split at g
    · rename_i x xs h1 h2
      cases g
      exact .cons (Rp.dp e h h1) (RpL.dp e t h2)
    · cases g
end
def eqB (x y : D) : Option Bool := match toPy x, toPy y with
  | some p, some q => if SeqAt.shaped p && SeqAt.shaped q then some (PyData.eqv p q) else none
  | _, _ => none
def eqD : D → D → Option D := fun x y => (eqB x y).map .bl
def neD : D → D → Option D := fun x y => (eqB x y).map fun b => .bl (!b)
theorem eqB_eq {x y : D} {b : Bool} (h : eqB x y = some b) : ∃ p q, toPy x = some p ∧ toPy y = some q ∧ SeqAt.shaped p = true ∧ SeqAt.shaped q = true ∧ b = PyData.eqv p q := by
  unfold eqB at h
  split at h
  · split at h
    · rename_i hc
      cases h
      rw [Bool.and_eq_true] at hc
      exact ⟨_, _, by assumption, by assumption, hc.1, hc.2, rfl⟩
    · cases h
  · cases h
theorem ok_eq {K : PySem.W.Frag} : OkR K (rEqD K) eqD := fun Z G ad T ρ σ H pa v w x y z Q N rx ry hg k => by
  obtain ⟨b, hb, rfl⟩ := Option.map_eq_some_iff.mp hg
  obtain ⟨p, q, h1, h2, h3, h4, rfl⟩ := eqB_eq hb
  exact ⟨p, q, rx.dp N.iv.ex h1, ry.dp N.iv.ex h2, h3, h4, k _ G ad H N.nx (.bl _)⟩
theorem ok_ne {K : PySem.W.Frag} : OkR K (rNeD K) neD := fun Z G ad T ρ σ H pa v w x y z Q N rx ry hg k => by
  obtain ⟨b, hb, rfl⟩ := Option.map_eq_some_iff.mp hg
  obtain ⟨p, q, h1, h2, h3, h4, rfl⟩ := eqB_eq hb
  exact ⟨p, q, rx.dp N.iv.ex h1, ry.dp N.iv.ex h2, h3, h4, k _ G ad H N.nx (.bl _)⟩
theorem xe_eq {k : Nat} (hr : Room k X.A) (h1 : XE X a f1) (h2 : XE X b f2) : XE X (.Compare a [.Eq] [b] pos) (binF eqD f1 f2) := xe_cmp (op_eqD hr.units) ok_eq h1 h2 (nomark _)
theorem xe_ne {k : Nat} (hr : Room k X.A) (h1 : XE X a f1) (h2 : XE X b f2) : XE X (.Compare a [.NotEq] [b] pos) (binF neD f1 f2) := xe_cmp (op_neD hr.units) ok_ne h1 h2 (nomark _)
theorem xt_eq {k : Nat} (hr : Room k X.A) (h1 : XE X a f1) (h2 : XE X b f2) : XT X (.Compare a [.Eq] [b] pos) (testF (binF eqD f1 f2)) := xt_cmp (op_eqD hr.units) ok_eq h1 h2 (nomark _)
theorem xt_ne {k : Nat} (hr : Room k X.A) (h1 : XE X a f1) (h2 : XE X b f2) : XT X (.Compare a [.NotEq] [b] pos) (testF (binF neD f1 f2)) := xt_cmp (op_neD hr.units) ok_ne h1 h2 (nomark _)
/-- is None, is a bool -/
def isNon : D → Bool
  | .non => true
  | _ => false
def isD : D → D → Option Bool
  | x, .non => some (isNon x)
  | .bl a, .bl b => some (decide (a = b))
  | _, _ => none
def isF : D → D → Option D := fun x y => (isD x y).map .bl
def isntF : D → D → Option D := fun x y => (isD x y).map fun b => .bl (!b)
def rIsU : R2 := fun x y H Q => (y = .non ∧ Q (.bl (decide (x = .non))) H) ∨ rIsB x y H Q
def rIsntU : R2 := fun x y H Q => (y = .non ∧ Q (.bl (!decide (x = .non))) H) ∨ rNotB x y H Q
theorem op_isU : OpR X (compareOp .Is) rIsU := op_isN.or op_isBl
theorem op_isntU : OpR X (compareOp .IsNot) rIsntU := op_notN.or op_notBl
theorem rp_non_iff {K : PySem.W.Frag} {G : Hp} {ad : List Addr} {v : V} {d : D} (r : Rp K G ad v d) : isNon d = decide (v = .non) := by
  cases r <;> rfl
theorem ok_is {K : PySem.W.Frag} : OkR K rIsU isF := fun Z G ad T ρ σ H pa v w x y z Q N rx ry hg k => by
  obtain ⟨b, hb, rfl⟩ := Option.map_eq_some_iff.mp hg
  unfold isD at hb
  split at hb
  · cases hb
    refine .inl ⟨ry.inv_non, ?_⟩
    rw [← rp_non_iff rx]
    exact k _ G ad H N.nx (.bl _)
  · cases hb
    exact .inr ⟨_, _, rx.inv_bl, ry.inv_bl, k _ G ad H N.nx (.bl _)⟩
  · cases hb
theorem ok_isnt {K : PySem.W.Frag} : OkR K rIsntU isntF := fun Z G ad T ρ σ H pa v w x y z Q N rx ry hg k => by
  obtain ⟨b, hb, rfl⟩ := Option.map_eq_some_iff.mp hg
  unfold isD at hb
  split at hb
  · cases hb
    refine .inl ⟨ry.inv_non, ?_⟩
    rw [← rp_non_iff rx]
    exact k _ G ad H N.nx (.bl _)
  · cases hb
    exact .inr ⟨_, _, rx.inv_bl, ry.inv_bl, k _ G ad H N.nx (.bl _)⟩
  · cases hb
theorem xe_is (h1 : XE X a f1) (h2 : XE X b f2) : XE X (.Compare a [.Is] [b] pos) (binF isF f1 f2) := xe_cmp op_isU ok_is h1 h2 (nomark _)
theorem xe_isnt (h1 : XE X a f1) (h2 : XE X b f2) : XE X (.Compare a [.IsNot] [b] pos) (binF isntF f1 f2) := xe_cmp op_isntU ok_isnt h1 h2 (nomark _)
theorem xt_is (h1 : XE X a f1) (h2 : XE X b f2) : XT X (.Compare a [.Is] [b] pos) (testF (binF isF f1 f2)) := xt_cmp op_isU ok_is h1 h2 (nomark _)
theorem xt_isnt (h1 : XE X a f1) (h2 : XE X b f2) : XT X (.Compare a [.IsNot] [b] pos) (testF (binF isntF f1 f2)) := xt_cmp op_isntU ok_isnt h1 h2 (nomark _)

/-! ### - x, not, and, or, if else -/
def negF (f : FE) : FE := fun ρ T => bindF (f ρ T) fun d T' => match d with
  | .int i => some (.int (-i), T')
  | _ => none
theorem xe_neg (h : XE X a f1) : XE X (.UnaryOp .USub a pos) (negF f1) := pe_weak (pe_un un_neg h) fun σ H Q h => by
  obtain ⟨Z, G, ad, T, ρ, pa, d, T', N, hf, k⟩ := h
  obtain ⟨x, T1, h1, h2⟩ := bindF_eq hf
  refine ⟨Z, G, ad, T, ρ, pa, x, T1, N, h1, fun v G1 ad1 H1 x1 r1 => ?_⟩
  cases x with
  | int i =>
    cases h2
    exact ⟨i, r1.inv_int, k _ G1 ad1 H1 x1 (.int _)⟩
  | _ => cases h2
variable {t1 t2 : FT} {rest : List Expr}
def notT (t : FT) : FT := fun ρ T => bindF (t ρ T) fun b T' => some (!b, T')
theorem xt_not (h : XT X a t1) : XT X (.UnaryOp .Not a pos) (notT t1) := pt_weak (pt_not h) fun σ H Q h => by
  obtain ⟨Z, G, ad, T, ρ, pa, d, T', N, hf, k⟩ := h
  obtain ⟨x, T1, h1, h2⟩ := bindF_eq hf
  cases h2
  exact ⟨Z, G, ad, T, ρ, pa, x, _, N, h1, fun G1 ad1 H1 x1 => k G1 ad1 H1 x1⟩
def andT (t u : FT) : FT := fun ρ T => bindF (t ρ T) fun b T' => if b then u ρ T' else some (false, T')
def orT (t u : FT) : FT := fun ρ T => bindF (t ρ T) fun b T' => if b then some (true, T') else u ρ T'
theorem xw_and1 (h : XT X a t1) : XW X (.BoolOp .And [a] pos) t1 := pw_and1 h
theorem xw_or1 (h : XT X a t1) : XW X (.BoolOp .Or [a] pos) t1 := pw_or1 h
theorem xw_and (h1 : XT X a t1) (h2 : XW X (.BoolOp .And (b :: rest) pos) t2) : XW X (.BoolOp .And (a :: b :: rest) pos) (andT t1 t2) := pw_weak (pw_and h1 h2) fun σ H Q h => by
  obtain ⟨Z, G, ad, T, ρ, pa, d, T', N, hf, k⟩ := h
  obtain ⟨x, T1, h1, h2⟩ := bindF_eq hf
  refine ⟨Z, G, ad, T, ρ, pa, x, T1, N, h1, fun G1 ad1 H1 x1 => ?_⟩
  cases x with
  | true => exact ⟨Z, G1, ad1, T1, ρ, pa, d, T', x1.en, h2, fun G2 ad2 H2 x2 => k G2 ad2 H2 (x1.trans x2)⟩
  | false => cases h2; exact k G1 ad1 H1 x1
theorem xw_or (h1 : XT X a t1) (h2 : XW X (.BoolOp .Or (b :: rest) pos) t2) : XW X (.BoolOp .Or (a :: b :: rest) pos) (orT t1 t2) := pw_weak (pw_or h1 h2) fun σ H Q h => by
  obtain ⟨Z, G, ad, T, ρ, pa, d, T', N, hf, k⟩ := h
  obtain ⟨x, T1, h1, h2⟩ := bindF_eq hf
  refine ⟨Z, G, ad, T, ρ, pa, x, T1, N, h1, fun G1 ad1 H1 x1 => ?_⟩
  cases x with
  | true => cases h2; exact k G1 ad1 H1 x1
  | false => exact ⟨Z, G1, ad1, T1, ρ, pa, d, T', x1.en, h2, fun G2 ad2 H2 x2 => k G2 ad2 H2 (x1.trans x2)⟩
theorem xt_w (h : XW X a t1) : XT X a t1 := h.pt
/-- as values -/
def andV (f g : FE) : FE := fun ρ T => bindF (f ρ T) fun d T' => match d with
  | .bl true => g ρ T'
  | .bl false => some (.bl false, T')
  | _ => none
def orV (f g : FE) : FE := fun ρ T => bindF (f ρ T) fun d T' => match d with
  | .bl false => g ρ T'
  | .bl true => some (.bl true, T')
  | _ => none
def notV (f : FE) : FE := fun ρ T => bindF (f ρ T) fun d T' => match d with
  | .bl b => some (.bl (!b), T')
  | _ => none
theorem xe_one {op : BoolOp} (h : XE X a f1) : XE X (.BoolOp op [a] pos) f1 := pe_one h
theorem xe_and (h1 : XE X a f1) (h2 : XE X (.BoolOp .And (b :: rest) pos) f2) : XE X (.BoolOp .And (a :: b :: rest) pos) (andV f1 f2) := pe_weak (pe_and h1 h2) fun σ H Q h => by
  obtain ⟨Z, G, ad, T, ρ, pa, d, T', N, hf, k⟩ := h
  obtain ⟨x, T1, h1, h2⟩ := bindF_eq hf
  refine ⟨Z, G, ad, T, ρ, pa, x, T1, N, h1, fun v G1 ad1 H1 x1 r1 => ?_⟩
  cases x with
  | bl c =>
    refine ⟨c, r1.inv_bl, ?_⟩
    cases c with
    | true => exact ⟨Z, G1, ad1, T1, ρ, pa, d, T', x1.en, h2, fun u G2 ad2 H2 x2 r2 => k u G2 ad2 H2 (x1.trans x2) r2⟩
    | false => cases h2; exact k _ G1 ad1 H1 x1 (.bl _)
  | _ => cases h2
theorem xe_or (h1 : XE X a f1) (h2 : XE X (.BoolOp .Or (b :: rest) pos) f2) : XE X (.BoolOp .Or (a :: b :: rest) pos) (orV f1 f2) := pe_weak (pe_or h1 h2) fun σ H Q h => by
  obtain ⟨Z, G, ad, T, ρ, pa, d, T', N, hf, k⟩ := h
  obtain ⟨x, T1, h1, h2⟩ := bindF_eq hf
  refine ⟨Z, G, ad, T, ρ, pa, x, T1, N, h1, fun v G1 ad1 H1 x1 r1 => ?_⟩
  cases x with
  | bl c =>
    refine ⟨c, r1.inv_bl, ?_⟩
    cases c with
    | false => exact ⟨Z, G1, ad1, T1, ρ, pa, d, T', x1.en, h2, fun u G2 ad2 H2 x2 r2 => k u G2 ad2 H2 (x1.trans x2) r2⟩
    | true => cases h2; exact k _ G1 ad1 H1 x1 (.bl _)
  | _ => cases h2
theorem xe_not (h : XE X a f1) : XE X (.UnaryOp .Not a pos) (notV f1) := pe_weak (pe_not h) fun σ H Q h => by
  obtain ⟨Z, G, ad, T, ρ, pa, d, T', N, hf, k⟩ := h
  obtain ⟨x, T1, h1, h2⟩ := bindF_eq hf
  refine ⟨Z, G, ad, T, ρ, pa, x, T1, N, h1, fun v G1 ad1 H1 x1 r1 => ?_⟩
  cases x with
  | bl b =>
    cases h2
    exact ⟨b, r1.inv_bl, k _ G1 ad1 H1 x1 (.bl _)⟩
  | _ => cases h2
def ifE (t : FT) (f g : FE) : FE := fun ρ T => bindF (t ρ T) fun b T' => if b then f ρ T' else g ρ T'
theorem xe_if (h : XT X c t1) (h1 : XE X a f1) (h2 : XE X b f2) : XE X (.IfExp c a b pos) (ifE t1 f1 f2) := pe_weak (pe_ifExp h h1 h2) fun σ H Q h => by
  obtain ⟨Z, G, ad, T, ρ, pa, d, T', N, hf, k⟩ := h
  obtain ⟨x, T1, h1, h2⟩ := bindF_eq hf
  refine ⟨Z, G, ad, T, ρ, pa, x, T1, N, h1, fun G1 ad1 H1 x1 => ?_⟩
  cases x with
  | true => exact ⟨Z, G1, ad1, T1, ρ, pa, d, T', x1.en, h2, fun u G2 ad2 H2 x2 r2 => k u G2 ad2 H2 (x1.trans x2) r2⟩
  | false => exact ⟨Z, G1, ad1, T1, ρ, pa, d, T', x1.en, h2, fun u G2 ad2 H2 x2 r2 => k u G2 ad2 H2 (x1.trans x2) r2⟩

/-! ### lists of expressions, displays -/
def nilF : FA := fun _ T => some ([], T)
def consF (f : FE) (g : FA) : FA := fun ρ T => bindF (f ρ T) fun d T1 => bindF (g ρ T1) fun ds T2 => some (d :: ds, T2)
variable {es : List Expr} {fs : FA}
theorem xa_nil : XA X [] nilF := pa_weak pa_nil fun σ H Q h => by
  obtain ⟨Z, G, ad, T, ρ, pa, d, T', N, hf, k⟩ := h
  cases hf
  exact k [] G ad H N.nx .nil
theorem xa_cons (h1 : XE X a f1) (h2 : XA X es fs) (hs : starEach (a :: es) X.env = (false, eval a X.env) :: starEach es X.env := by rfl) : XA X (a :: es) (consF f1 fs) := pa_weak (pa_cons h1 h2 hs) fun σ H Q h => by
  obtain ⟨Z, G, ad, T, ρ, pa, ds, T', N, hf, k⟩ := h
  obtain ⟨x, T1, h1, h2⟩ := bindF_eq hf
  obtain ⟨xs, T2, h3, h4⟩ := bindF_eq h2
  cases h4
  exact ⟨Z, G, ad, T, ρ, pa, x, T1, N, h1, fun v G1 ad1 H1 x1 r1 => ⟨Z, G1, ad1, T1, ρ, pa, xs, _, x1.en, h3, fun vs G2 ad2 H2 x2 r2 => k (v :: vs) G2 ad2 H2 (x1.trans x2) (.cons (x2.rp r1) r2)⟩⟩
def tupF (g : FA) : FE := fun ρ T => bindF (g ρ T) fun ds T' => if ds.length ≤ sizeLine then some (.tup ds, T') else none
theorem xe_tup {k : Nat} (h : XA X es fs) : XE X (.Tuple es k pos) (tupF fs) := pe_weak (pe_tupP h) fun σ H Q h => by
  obtain ⟨Z, G, ad, T, ρ, pa, d, T', N, hf, k⟩ := h
  obtain ⟨xs, T1, h1, h2⟩ := bindF_eq hf
  split at h2
  · rename_i hz
    cases h2
    refine ⟨Z, G, ad, T, ρ, pa, xs, _, N, h1, fun vs G1 ad1 H1 x1 r1 => ⟨by rw [r1.length]; exact hz, fun p o hp hd => ?_⟩⟩
    have x2 := x1.en.knowN hp (.frz o (.tup vs))
    exact k _ _ _ _ (x1.trans x2) (.tup (TupK.new hd) (x2.rpl r1))
  · cases h2
def lstF (g : FA) : FA := fun ρ T => bindF (g ρ T) fun ds T' => if ds.length ≤ sizeLine then some (ds, T') else none
theorem xl_lst (h : XA X es fs) : XL X (.List es pos) (lstF fs) := pe_weak (pe_lst h) fun σ H Q h => by
  obtain ⟨Z, G, ad, T, ρ, pa, d, T', N, hf, k⟩ := h
  obtain ⟨xs, T1, h1, h2⟩ := bindF_eq hf
  split at h2
  · rename_i hz
    cases h2
    refine ⟨Z, G, ad, T, ρ, pa, _, _, N, h1, fun vs G1 ad1 H1 x1 r1 => ⟨by rw [r1.length]; exact hz, fun p hp => ?_⟩⟩
    obtain ⟨N2, w2⟩ := x1.en.laid hp r1
    refine k p G1 ad1 _ ⟨N2, x1.gr.ex, x1.gr.pr, fun b o hb hm => ?_, x1.gr.nG, x1.gr.nA⟩ w2 (x1.gr.back x1.en.iv.ats hp)
    have q := x1.gr.fr b o hb hm
    rw [upd_ne (ne_of_none q hp)]
    exact q
  · cases h2
end
end Fx
namespace Fx
open PySem PySem.Spec PyProof.Rows L2
open Evl (Ex)

section
variable {K : PySem.W.Frag} {Z : Zc} {G G' : Hp} {ad ad' : List Addr} {T T' : Tm} {ρ : Rho} {σ : L2.St} {H H' : Hp} {pa : Nat → Addr} {p : Addr} {ds : List D}
theorem atI_rel {vs : List V} {i : Int} {d : D} (r : RpL K G ad vs ds) (h : atI ds i = some d) : ∃ v, atI vs i = some v ∧ Rp K G ad v d := by
  unfold atI at h ⊢
  obtain ⟨j, h1, h2⟩ := Option.bind_eq_some_iff.mp h
  obtain ⟨v, h3, h4⟩ := r.get h2
  exact ⟨v, by rw [r.length, h1]; exact h3, h4⟩
theorem En.ob (N : En K Z G ad T ρ σ H pa) {k : Nat} {a : Addr} (hk : ad[k]? = some a) (h : T[k]? = some (.lst ds)) : ∃ vs, H a = some (.lst vs) ∧ RpL K G ad vs ds := N.iv.obj k a ds hk h
end

/-- the items of what is walked or indexed -/
def seqD (T : Tm) : Op → Option (Bool × List D)
  | .own _ ds => some (false, ds)
  | .val (.lst ds) => some (false, ds)
  | .val (.frl ds) => some (false, ds)
  | .val (.tup ds) => some (true, ds)
  | .val (.ob k) => match T[k]? with
    | some (.lst ds) => some (false, ds)
    | none => none
  | _ => none
theorem seq_rel {K : PySem.W.Frag} {Z : Zc} {G : Hp} {ad : List Addr} {T : Tm} {ρ : Rho} {σ : L2.St} {H : Hp} {pa : Nat → Addr} {o : Op} {v : V} {b : Bool} {ds : List D} (N : En K Z G ad T ρ σ H pa) (r : OpOk K G ad ρ pa v o) (h : seqD T o = some (b, ds)) :
    ∃ a vs, v = .ref a ∧ RpL K G ad vs ds ∧ (b = false → SqL K H a vs) ∧ (b = true → SqT K H a vs) := by
  unfold seqD at h
  split at h
  · cases h
    obtain ⟨r1, rfl⟩ := r
    obtain ⟨vs, h1, h2, h3, _⟩ := N.env _ _ r1
    exact ⟨_, vs, rfl, h3, fun _ => .inl (.inl h2), fun q => by cases q⟩
  · cases h
    obtain ⟨a, vs, rfl, h1, h2⟩ := Rp.inv_lst r
    exact ⟨a, vs, rfl, h2, fun _ => .inl (.inl (N.iv.ex _ _ h1)), fun q => by cases q⟩
  · cases h
    obtain ⟨a, vs, rfl, h1, h2⟩ := Rp.inv_frl r
    exact ⟨a, vs, rfl, h2, fun _ => N.iv.seq h1, fun q => by cases q⟩
  · cases h
    obtain ⟨a, vs, rfl, h1, h2⟩ := Rp.inv_tup r
    exact ⟨a, vs, rfl, h2, (fun q => by cases q), fun _ => N.iv.tup h1⟩
  · split at h
    · cases h
      obtain ⟨a, rfl, h1⟩ := Rp.inv_ob r
      obtain ⟨vs, h2, h3⟩ := N.ob h1 (by assumption)
      exact ⟨a, vs, rfl, h3, fun _ => .inl (.inl h2), fun q => by cases q⟩
    · cases h
  · cases h
theorem seqD_tup {T : Tm} {o : Op} {ds : List D} (h : seqD T o = some (true, ds)) : o = .val (.tup ds) := by
  unfold seqD at h
  split at h <;> first | (cases h; done) | skip
  · cases h
    rfl
  · split at h <;> cases h
theorem OpOk.mono {K : PySem.W.Frag} {Z : Zc} {G G1 : Hp} {ad ad1 : List Addr} {ρ : Rho} {σ : L2.St} {pa : Nat → Addr} {T1 : Tm} {H H1 : Hp} {v : V} {o : Op} (r : OpOk K G ad ρ pa v o) (x : Nx K Z G ad H ρ σ pa T1 G1 ad1 H1) : OpOk K G1 ad1 ρ pa v o := by
  cases o with
  | val d => exact x.rp r
  | own i ds => exact r

def ixD (T : Tm) (o : Op) (i : D) : Option D := match seqD T o, i with
  | some (_, ds), .int i => atI ds i
  | none, .int i => match o with
    | .val (.str s) => if s.length ≤ sizeLine then (atI s.cps.toList i).map fun c => .str ⟨#[c]⟩ else none
    | _ => none
  | _, _ => none
def ixF (fo : FO) (fi : FE) : FE := fun ρ T => bindF (fo ρ T) fun o T1 => bindF (fi ρ T1) fun i T2 => (ixD T2 o i).map fun d => (d, T2)
section
variable {X : Cx} {a b c : Expr} {pos : Pos} {f1 f2 : FE} {o1 : FO} {fs : FA} {t1 : FT}
theorem xe_ix (ho : XO X a o1) (hi : XE X b f2) (hs : PlainIx b := by exact fun _ _ => rfl) : XE X (.Subscript a b pos) (ixF o1 f2) := pe_weak (pe_ix ix_seq ho hi hs) fun σ H Q h => by
  obtain ⟨Z, G, ad, T, ρ, pa, d, T', N, hf, k⟩ := h
  obtain ⟨o, T1, h1, h2⟩ := bindF_eq hf
  obtain ⟨i, T2, h3, h4⟩ := bindF_eq h2
  obtain ⟨d', h5, h6⟩ := Option.map_eq_some_iff.mp h4
  cases h6
  refine ⟨Z, G, ad, T, ρ, pa, o, T1, N, h1, fun v G1 ad1 H1 x1 r1 => ⟨Z, G1, ad1, T1, ρ, pa, i, _, x1.en, h3, fun w G2 ad2 H2 x2 r2 => ?_⟩⟩
  have x := x1.trans x2
  have r3 := r1.mono x2
  unfold ixD at h5
  split at h5
  · rename_i b' ds i' hs'
    obtain ⟨p, vs, rfl, hr, hl, ht⟩ := seq_rel x.en r3 hs'
    obtain ⟨u, hu, ru⟩ := atI_rel hr h5
    cases b' with
    | false => exact .inl ⟨p, vs, i', u, rfl, r2.inv_int, hl rfl, hu, k u G2 ad2 H2 x ru⟩
    | true => exact .inr (.inl ⟨p, vs, i', u, rfl, r2.inv_int, ht rfl, hu, k u G2 ad2 H2 x ru⟩)
  · split at h5
    · split at h5
      · rename_i hz
        obtain ⟨c, hc, e⟩ := Option.map_eq_some_iff.mp h5
        subst e
        exact .inr (.inr ⟨_, _, c, Rp.inv_str r3, r2.inv_int, hz, hc, k _ G2 ad2 H2 x (.str _)⟩)
      · cases h5
    · cases h5
  · cases h5

/-! ### slices -/
def cutD (xs : List D) (lo hi : Option Int) : List D := (xs.drop (HT.sIx xs.length 0 lo)).take (HT.sIx xs.length xs.length hi - HT.sIx xs.length 0 lo)
theorem cut_rel {K : PySem.W.Frag} {G : Hp} {ad : List Addr} {vs : List V} {ds : List D} (r : RpL K G ad vs ds) (lo hi : Option Int) : RpL K G ad (cutV vs lo hi) (cutD ds lo hi) := by
  unfold cutV cutD
  rw [r.length]
  exact (r.drop _).take _
abbrev FB := Rho → Tm → Option (Option Int × Tm)
def tDB (K : PySem.W.Frag) (f : FB) : TO := fun σ H Q => ∃ Z G ad T ρ pa o T', En K Z G ad T ρ σ H pa ∧ f ρ T = some (o, T') ∧ ∀ G' ad' H', Nx K Z G ad H ρ σ pa T' G' ad' H' → Q o H'
abbrev XB (X : Cx) (o : Option Expr) (f : FB) : Prop := PO X o (tDB X.K f)
def bNo : FB := fun _ T => some (none, T)
def bSo (f : FE) : FB := fun ρ T => bindF (f ρ T) fun d T' => match d with
  | .int i => some (some i, T')
  | _ => none
theorem xb_none : XB X none bNo := ⟨fun pins s σ H Q I h => by
  obtain ⟨Z, G, ad, T, ρ, pa, o, T', N, hf, k⟩ := h
  cases hf
  exact po_none.run pins s σ H Q I (k G ad H N.nx)⟩
theorem xb_some (h1 : XE X a f1) : XB X (some a) (bSo f1) := ⟨fun pins s σ H Q I h => by
  obtain ⟨Z, G, ad, T, ρ, pa, o, T', N, hf, k⟩ := h
  obtain ⟨d, T1, h2, h3⟩ := bindF_eq hf
  refine (po_some h1).run pins s σ H Q I ⟨Z, G, ad, T, ρ, pa, d, T1, N, h2, fun v G1 ad1 H1 x1 r1 => ?_⟩
  cases d with
  | int i =>
    cases h3
    exact ⟨i, r1.inv_int, k G1 ad1 H1 x1⟩
  | _ => cases h3⟩
/-- a slice: a new list | a tuple -/
def slLF (fo : FO) (l u : FB) : FA := fun ρ T => bindF (fo ρ T) fun o T1 => bindF (l ρ T1) fun lo T2 => bindF (u ρ T2) fun hi T3 => match seqD T3 o with
  | some (false, ds) => some (cutD ds lo hi, T3)
  | _ => none
variable {l u : FB} {lo hi : Option Expr} {p2 : Pos}
theorem xl_sl (ho : XO X a o1) (hl : XB X lo l) (hu : XB X hi u) : XL X (.Subscript a (.Slice lo hi none p2) pos) (slLF o1 l u) := pe_weak (pe_slice sl_list ho hl hu) fun σ H Q h => by
  obtain ⟨Z, G, ad, T, ρ, pa, d, T', N, hf, k⟩ := h
  obtain ⟨o, T1, h1, h2⟩ := bindF_eq hf
  obtain ⟨i, T2, h3, h4⟩ := bindF_eq h2
  obtain ⟨j, T3, h5, h6⟩ := bindF_eq h4
  refine ⟨Z, G, ad, T, ρ, pa, o, T1, N, h1, fun v G1 ad1 H1 x1 r1 => ⟨Z, G1, ad1, T1, ρ, pa, i, T2, x1.en, h3, fun G2 ad2 H2 x2 => ⟨Z, G2, ad2, T2, ρ, pa, j, T3, x2.en, h5, fun G3 ad3 H3 x3 => ?_⟩⟩⟩
  have x := (x1.trans x2).trans x3
  have r3 := (r1.mono x2).mono x3
  split at h6
  · rename_i ds hs'
    cases h6
    obtain ⟨p, vs, rfl, hr, hl, ht⟩ := seq_rel x.en r3 hs'
    refine ⟨p, vs, rfl, hl rfl, fun q hq => ?_⟩
    obtain ⟨N2, w2⟩ := x.en.laid hq (cut_rel hr i j)
    refine k q G3 ad3 _ ⟨N2, x.gr.ex, x.gr.pr, fun b o hb hm => ?_, x.gr.nG, x.gr.nA⟩ w2 (x.gr.back x.en.iv.ats hq)
    have q' := x.gr.fr b o hb hm
    rw [upd_ne (ne_of_none q' hq)]
    exact q'
  · cases h6
end
end Fx
namespace Fx
open PySem PySem.Spec PyProof.Rows L2
open Evl (Ex)

/-! ### calls of one's own -/
abbrev HF := List D → Tm → Option (D × Tm)
def Sf (K : PySem.W.Frag) (n : Nat) (h : HF) : Sp := fun vs H Q _ => vs.length = n ∧ ∃ G ad T ds d T', Iv K ⟨G, H, ad⟩ G ad T H ∧ RpL K G ad vs ds ∧ h ds T = some (d, T') ∧
  ∀ v G' ad' H', Iv K ⟨G, H, ad⟩ G' ad' T' H' → Rp K G' ad' v d → Q v H'
section
variable {K : PySem.W.Frag} {Z : Zc} {G G' : Hp} {ad ad' : List Addr} {T T' : Tm} {ρ : Rho} {σ : L2.St} {H H' : Hp} {pa : Nat → Addr} {p : Addr} {ds : List D}
theorem Iv.entry (I : Iv K Z G ad T H) : Iv K ⟨G, H, ad⟩ G ad T H := ⟨I.ex, I.out, I.nd, I.len, I.obj, Ex.refl _, Pre.refl _, fun _ _ h _ => h, fun _ _ h => .inl h, fun _ h => .inl h⟩
theorem En.after (N : En K Z G ad T ρ σ H pa) (I : Iv K ⟨G, H, ad⟩ G' ad' T' H') : Nx K Z G ad H ρ σ pa T' G' ad' H' where
  gr := ⟨I.gex, I.pre, I.frame, I.newG, I.newA⟩
  en := by
    have hfr : ∀ b o, Z.He b = some o → b ∉ Z.ad0 → b ∉ ad := fun b o h1 h2 hm => by
      rcases N.iv.newA b hm with q | q
      · exact h2 q
      · rw [q] at h1
        cases h1
    refine ⟨⟨I.ex, I.out, I.nd, I.len, I.obj, N.iv.gex.trans I.gex, N.iv.pre.trans I.pre, fun b o h1 h2 => I.frame b o (N.iv.frame b o h1 h2) (hfr b o h1 h2), fun b o h => ?_, fun a h => ?_⟩, N.hl, fun i s h => ?_, N.ne⟩
    · rcases I.newG b o h with q | q
      · exact N.iv.newG b o q
      · exact .inr (N.iv.freshE q)
    · rcases I.newA a h with q | q
      · exact N.iv.newA a q
      · exact .inr (N.iv.freshE q)
    · have q := N.env i s h
      cases s with
      | un => trivial
      | dat d =>
        obtain ⟨v, q1, q2⟩ := q
        exact ⟨v, q1, q2.mono I.gex I.pre⟩
      | own es =>
        obtain ⟨us, q1, q2, q3, q4, q5, q6⟩ := q
        refine ⟨us, q1, I.frame _ _ q2 q5, q3.mono I.gex I.pre, ?_, fun hm => ?_, q6⟩
        · cases e : G' (pa i) with
          | none => rfl
          | some o =>
            rcases I.newG _ o e with z | z
            · have z' : G (pa i) = some o := z
              rw [q4] at z'
              cases z'
            · have z' : H (pa i) = none := z
              rw [q2] at z'
              cases z'
        · rcases I.newA _ hm with z | z
          · exact q5 z
          · have z' : H (pa i) = none := z
            rw [q2] at z'
            cases z'
end
def callF (h : HF) (fa : FA) : FE := fun ρ T => bindF (fa ρ T) fun ds T' => h ds T'
section
variable {X : Cx} {a b c : Expr} {es : List Expr} {st : Stmt} {pos : Pos} {f1 f2 : FE} {o1 : FO} {fs : FA} {t1 : FT} {g1 g2 : FS}
theorem call_run {n : Nat} {h : HF} {σ : L2.St} {H : Hp} {Q : VK} {E : XK} (hw : tD X.K (callF h fs) σ H Q) (hn : ∀ ρ T ds T', fs ρ T = some (ds, T') → ds.length = n) : tDA X.K fs σ H fun vs H1 => Sf X.K n h (vs ++ []) H1 Q E := by
  obtain ⟨Z, G, ad, T, ρ, pa, d, T', N, hf, k⟩ := hw
  obtain ⟨ds, T1, h1, h2⟩ := bindF_eq hf
  refine ⟨Z, G, ad, T, ρ, pa, ds, T1, N, h1, fun vs G1 ad1 H1 x1 r1 => ?_⟩
  show Sf X.K n h (vs ++ []) H1 Q E
  rw [List.append_nil]
  refine ⟨by rw [r1.length]; exact hn ρ T ds T1 h1, G1, ad1, T1, ds, d, T', x1.en.iv.entry, r1, h2, fun v G2 ad2 H2 I2 r2 => ?_⟩
  exact k v G2 ad2 H2 (x1.trans (x1.en.after I2)) r2
theorem xe_call {n : Nat} {h : HF} {e : Expr} {E : XK} (hp : PE X e (tCall (Sf X.K n h) [] E (tDA X.K fs))) (hn : ∀ ρ T ds T', fs ρ T = some (ds, T') → ds.length = n) : XE X e (callF h fs) := pe_weak hp fun _ _ _ hw => call_run hw hn
/-- how many arguments there are -/
theorem len_nil : ∀ ρ T ds T', nilF ρ T = some (ds, T') → ds.length = 0 := fun _ _ _ _ h => by
  cases h
  rfl
theorem len_cons {n : Nat} (h : ∀ ρ T ds T', fs ρ T = some (ds, T') → ds.length = n) : ∀ ρ T ds T', consF f1 fs ρ T = some (ds, T') → ds.length = n + 1 := fun ρ T ds T' e => by
  obtain ⟨x, T1, h1, h2⟩ := bindF_eq e
  obtain ⟨xs, T2, h3, h4⟩ := bindF_eq h2
  cases h4
  rw [List.length_cons, h _ _ _ _ h3]

/-! ### built-ins -/
def blF (g : List D → Option D) (fa : FA) : FE := fun ρ T => bindF (fa ρ T) fun ds T' => (g ds).map fun d => (d, T')
def OkC (K : PySem.W.Frag) (r : List V → Hp → VK → Prop) (g : List D → Option D) : Prop := ∀ (Z : Zc) (G : Hp) (ad : List Addr) (T : Tm) (ρ : Rho) (σ : L2.St) (H : Hp) (pa : Nat → Addr) (vs : List V) (ds : List D) (z : D) (Q : VK),
  En K Z G ad T ρ σ H pa → RpL K G ad vs ds → g ds = some z → (∀ u G' ad' H', Nx K Z G ad H ρ σ pa T G' ad' H' → Rp K G' ad' u z → Q u H') → r vs H Q
theorem bl_run {r : List V → Hp → VK → Prop} {g : List D → Option D} {σ : L2.St} {H : Hp} {Q : VK} (hr : OkC X.K r g) (h : tD X.K (blF g fs) σ H Q) : tCB r (tDA X.K fs) σ H Q := by
  obtain ⟨Z, G, ad, T, ρ, pa, d, T', N, hf, k⟩ := h
  obtain ⟨ds, T1, h1, h2⟩ := bindF_eq hf
  obtain ⟨z, h3, h4⟩ := Option.map_eq_some_iff.mp h2
  cases h4
  exact ⟨Z, G, ad, T, ρ, pa, ds, _, N, h1, fun vs G1 ad1 H1 x1 r1 => hr Z G1 ad1 _ ρ σ H1 pa vs ds _ Q x1.en r1 h3 fun u G2 ad2 H2 x2 r2 => k u G2 ad2 H2 (x1.trans x2) r2⟩
theorem xe_bl_ {e : Expr} {r : List V → Hp → VK → Prop} {g : List D → Option D} (hp : PE X e (tCB r (tDA X.K fs))) (hr : OkC X.K r g) : XE X e (blF g fs) := pe_weak hp fun _ _ _ => bl_run hr
def g1I (f : Int → D) : List D → Option D
  | [.int i] => some (f i)
  | _ => none
def g2I (C : Int → Int → Bool) (f : Int → Int → D) : List D → Option D
  | [.int i, .int j] => if C i j then some (f i j) else none
  | _ => none
theorem RpL.one {K : PySem.W.Frag} {G : Hp} {ad : List Addr} {vs : List V} {d : D} (r : RpL K G ad vs [d]) : ∃ v, vs = [v] ∧ Rp K G ad v d := by
  cases r with
  | cons h t =>
    cases t
    exact ⟨_, rfl, h⟩
theorem RpL.two {K : PySem.W.Frag} {G : Hp} {ad : List Addr} {vs : List V} {d e : D} (r : RpL K G ad vs [d, e]) : ∃ v w, vs = [v, w] ∧ Rp K G ad v d ∧ Rp K G ad w e := by
  cases r with
  | cons h t =>
    obtain ⟨w, rfl, h2⟩ := t.one
    exact ⟨_, w, rfl, h, h2⟩
def absD : List D → Option D
  | [.int i] => some (.int (if i < 0 then -i else i))
  | _ => none
theorem ok_abs {K : PySem.W.Frag} : OkC K (fun xs H Q => ∃ i, xs = [.int i] ∧ Q (.int (if i < 0 then -i else i)) H) absD := fun Z G ad T ρ σ H pa vs ds z Q N r hg k => by
  unfold absD at hg
  split at hg
  · cases hg
    obtain ⟨v, rfl, h⟩ := r.one
    exact ⟨_, by rw [h.inv_int], k _ G ad H N.nx (.int _)⟩
  · cases hg
def minD : List D → Option D
  | [.int i, .int j] => some (.int (if j < i then j else i))
  | _ => none
def maxD : List D → Option D
  | [.int i, .int j] => some (.int (if j > i then j else i))
  | _ => none
theorem ok_min {K : PySem.W.Frag} : OkC K (fun xs H Q => ∃ i j, xs = [.int i, .int j] ∧ Q (.int (if j < i then j else i)) H) minD := fun Z G ad T ρ σ H pa vs ds z Q N r hg k => by
  unfold minD at hg
  split at hg
  · cases hg
    obtain ⟨v, w, rfl, h1, h2⟩ := r.two
    exact ⟨_, _, by rw [h1.inv_int, h2.inv_int], k _ G ad H N.nx (.int _)⟩
  · cases hg
theorem ok_max {K : PySem.W.Frag} : OkC K (fun xs H Q => ∃ i j, xs = [.int i, .int j] ∧ Q (.int (if j > i then j else i)) H) maxD := fun Z G ad T ρ σ H pa vs ds z Q N r hg k => by
  unfold maxD at hg
  split at hg
  · cases hg
    obtain ⟨v, w, rfl, h1, h2⟩ := r.two
    exact ⟨_, _, by rw [h1.inv_int, h2.inv_int], k _ G ad H N.nx (.int _)⟩
  · cases hg
def intD : List D → Option D
  | [.int i] => some (.int i)
  | [.bl b] => some (.int (if b then 1 else 0))
  | _ => none
theorem ok_int {K : PySem.W.Frag} : OkC K (fun xs H Q => (∃ i, xs = [.int i] ∧ Q (.int i) H) ∨ ∃ k, xs = [.bl k] ∧ Q (.int (if k then 1 else 0)) H) intD := fun Z G ad T ρ σ H pa vs ds z Q N r hg k => by
  unfold intD at hg
  split at hg
  · cases hg
    obtain ⟨v, rfl, h⟩ := r.one
    exact .inl ⟨_, by rw [h.inv_int], k _ G ad H N.nx (.int _)⟩
  · cases hg
    obtain ⟨v, rfl, h⟩ := r.one
    exact .inr ⟨_, by rw [h.inv_bl], k _ G ad H N.nx (.int _)⟩
  · cases hg
noncomputable def cDivP : Int → Int → Bool := fun _ j => dc (0 < j ∧ j < 1073741824)
noncomputable def dvmD : List D → Option D
  | [.int i, .int j] => if cDivP i j then some (.tup [.int (i / j), .int (i % j)]) else none
  | _ => none
theorem ok_dvm {K : PySem.W.Frag} : OkC K rDvmP dvmD := fun Z G ad T ρ σ H pa vs ds z Q N r hg k => by
  unfold dvmD at hg
  split at hg
  · split at hg
    · rename_i hc
      cases hg
      obtain ⟨v, w, rfl, h1, h2⟩ := r.two
      refine ⟨_, _, by rw [h1.inv_int, h2.inv_int], of_dc hc, fun p o hp hd => ?_⟩
      exact k _ _ _ _ (N.knowN hp _) (.tup (TupK.new hd) (.cons (.int _) (.cons (.int _) .nil)))
    · cases hg
  · cases hg
/-- len of an operand -/
def lenD (T : Tm) (o : Op) : Option D := match seqD T o with
  | some (_, ds) => some (.int ds.length)
  | none => match o with
    | .val (.str s) => if s.length ≤ sizeLine then some (.int s.length) else none
    | _ => none
def lenF (fo : FO) : FE := fun ρ T => bindF (fo ρ T) fun o T' => (lenD T' o).map fun d => (d, T')
theorem xe_len {e : Expr} (hp : PE X e (tCB (fun xs H Q => ∃ x n, xs = [x] ∧ LenV X.K x H n ∧ Q (.int n) H) (tCons (tDO X.K o1) tNil))) : XE X e (lenF o1) := by
  refine pe_weak hp fun σ H Q h => ?_
  obtain ⟨Z, G, ad, T, ρ, pa, d, T', N, hf, k⟩ := h
  obtain ⟨o, T1, h1, h2⟩ := bindF_eq hf
  obtain ⟨z, h3, h4⟩ := Option.map_eq_some_iff.mp h2
  cases h4
  refine ⟨Z, G, ad, T, ρ, pa, o, _, N, h1, fun v G1 ad1 H1 x1 r1 => ?_⟩
  unfold lenD at h3
  split at h3
  · rename_i b ds hs
    cases h3
    obtain ⟨q, vs, rfl, hr, hl, ht⟩ := seq_rel x1.en r1 hs
    refine ⟨.ref q, ds.length, rfl, ?_, k _ G1 ad1 H1 x1 (.int _)⟩
    cases b with
    | false => exact .inl ⟨vs, hl rfl, hr.length.symm⟩
    | true => exact .inr ⟨vs, ht rfl, hr.length.symm⟩
  · split at h3
    · split at h3
      · rename_i hz
        cases h3
        rw [Rp.inv_str r1]
        exact ⟨_, _, rfl, ⟨hz, rfl⟩, k _ G1 ad1 H1 x1 (.int _)⟩
      · cases h3
    · cases h3
/-- list(x), tuple(x) -/
def lofF (fo : FO) : FA := fun ρ T => bindF (fo ρ T) fun o T' => match seqD T' o with
  | some (_, ds) => some (ds, T')
  | none => none
theorem xl_list {e : Expr} (hp : PE X e (tCB (fun xs H Q => ∃ p ys, xs = [.ref p] ∧ (SqL X.K H p ys ∨ SqT X.K H p ys) ∧ ∀ l, H l = none → Q (.ref l) (upd H l (.lst ys))) (tCons (tDO X.K o1) tNil))) : XL X e (lofF o1) := by
  refine pe_weak hp fun σ H Q h => ?_
  obtain ⟨Z, G, ad, T, ρ, pa, d, T', N, hf, k⟩ := h
  obtain ⟨o, T1, h1, h2⟩ := bindF_eq hf
  refine ⟨Z, G, ad, T, ρ, pa, o, T1, N, h1, fun v G1 ad1 H1 x1 r1 => ?_⟩
  split at h2
  · rename_i b ds hs
    cases h2
    obtain ⟨q, vs, rfl, hr, hl, ht⟩ := seq_rel x1.en r1 hs
    have hh : SqL X.K H1 q vs ∨ SqT X.K H1 q vs := by
      cases b with
      | false => exact .inl (hl rfl)
      | true => exact .inr (ht rfl)
    refine ⟨q, vs, rfl, hh, fun l hq => ?_⟩
    obtain ⟨N2, w2⟩ := x1.en.laid hq hr
    refine k l G1 ad1 _ ⟨N2, x1.gr.ex, x1.gr.pr, fun b o hb hm => ?_, x1.gr.nG, x1.gr.nA⟩ w2 (x1.gr.back x1.en.iv.ats hq)
    have q' := x1.gr.fr b o hb hm
    rw [upd_ne (ne_of_none q' hq)]
    exact q'
  · cases h2
def tofF (fo : FO) : FE := fun ρ T => bindF (fo ρ T) fun o T' => match seqD T' o with
  | some (_, ds) => some (.tup ds, T')
  | none => none
theorem xe_tuple {e : Expr} (hp : PE X e (tCB (rTupleP X.K) (tCons (tDO X.K o1) tNil))) : XE X e (tofF o1) := by
  refine pe_weak hp fun σ H Q h => ?_
  obtain ⟨Z, G, ad, T, ρ, pa, d, T', N, hf, k⟩ := h
  obtain ⟨o, T1, h1, h2⟩ := bindF_eq hf
  refine ⟨Z, G, ad, T, ρ, pa, o, T1, N, h1, fun v G1 ad1 H1 x1 r1 => ?_⟩
  split at h2
  · rename_i b ds hs
    cases h2
    cases b with
    | false =>
      obtain ⟨q, vs, rfl, hr, hl, ht⟩ := seq_rel x1.en r1 hs
      refine ⟨q, vs, rfl, .inl ⟨hl rfl, fun l o hq hd => ?_⟩⟩
      have x4 := x1.en.knowN hq (.frz o (.tup vs))
      exact k _ _ _ _ (x1.trans x4) (.tup (TupK.new hd) (x4.rpl hr))
    | true =>
      obtain rfl := seqD_tup hs
      obtain ⟨q, vs, rfl, hG, hr⟩ := Rp.inv_tup r1
      exact ⟨q, vs, rfl, .inr ⟨x1.en.iv.tup hG, k _ G1 ad1 H1 x1 (.tup hG hr)⟩⟩
  · cases h2
/-- all, any of a list of bools -/
def bls : List D → Option (List Bool)
  | [] => some []
  | .bl b :: r => (bls r).map (b :: ·)
  | _ :: _ => none
theorem bls_rel {K : PySem.W.Frag} {G : Hp} {ad : List Addr} : ∀ {vs : List V} {ds : List D} {bs : List Bool}, RpL K G ad vs ds → bls ds = some bs → vs = bs.map V.bl
  | _, _, _, .nil, h => by cases h; rfl
  | _, _, _, .cons (d := d) h t, e => by
    cases d with
    | bl b =>
      obtain ⟨r, h1, h2⟩ := Option.map_eq_some_iff.mp e
      subst h2
      rw [h.inv_bl, bls_rel t h1]
      rfl
    | _ => cases e
def allF (fo : FO) : FE := fun ρ T => bindF (fo ρ T) fun o T' => match seqD T' o with
  | some (false, ds) => (bls ds).map fun bs => (.bl (bs.all id), T')
  | _ => none
def anyF (fo : FO) : FE := fun ρ T => bindF (fo ρ T) fun o T' => match seqD T' o with
  | some (false, ds) => (bls ds).map fun bs => (.bl (bs.any id), T')
  | _ => none
theorem xe_all {e : Expr} (hp : PE X e (tCB (rAll X.K) (tCons (tDO X.K o1) tNil))) : XE X e (allF o1) := by
  refine pe_weak hp fun σ H Q h => ?_
  obtain ⟨Z, G, ad, T, ρ, pa, d, T', N, hf, k⟩ := h
  obtain ⟨o, T1, h1, h2⟩ := bindF_eq hf
  refine ⟨Z, G, ad, T, ρ, pa, o, T1, N, h1, fun v G1 ad1 H1 x1 r1 => ?_⟩
  split at h2
  · rename_i ds hs
    obtain ⟨bs, h3, h4⟩ := Option.map_eq_some_iff.mp h2
    cases h4
    obtain ⟨q, vs, rfl, hr, hl, ht⟩ := seq_rel x1.en r1 hs
    rw [bls_rel hr h3] at hl
    exact ⟨q, bs, rfl, hl rfl, k _ G1 ad1 H1 x1 (.bl _)⟩
  · cases h2
theorem xe_any {e : Expr} (hp : PE X e (tCB (rAny X.K) (tCons (tDO X.K o1) tNil))) : XE X e (anyF o1) := by
  refine pe_weak hp fun σ H Q h => ?_
  obtain ⟨Z, G, ad, T, ρ, pa, d, T', N, hf, k⟩ := h
  obtain ⟨o, T1, h1, h2⟩ := bindF_eq hf
  refine ⟨Z, G, ad, T, ρ, pa, o, T1, N, h1, fun v G1 ad1 H1 x1 r1 => ?_⟩
  split at h2
  · rename_i ds hs
    obtain ⟨bs, h3, h4⟩ := Option.map_eq_some_iff.mp h2
    cases h4
    obtain ⟨q, vs, rfl, hr, hl, ht⟩ := seq_rel x1.en r1 hs
    rw [bls_rel hr h3] at hl
    exact ⟨q, bs, rfl, hl rfl, k _ G1 ad1 H1 x1 (.bl _)⟩
  · cases h2
/-- list(range(a, b)) -/
def rngL (i j : Int) : List D := (List.range (j - i).toNat).map fun k => .int (i + (k : Nat))
open Classical in
/-- nothing is reckoned here: the decision is not computed -/
noncomputable def in62 (i : Int) : Bool := @decide (-4611686018427387904 ≤ i ∧ i < 4611686018427387904) (Classical.propDecidable _)
theorem in62_of {i : Int} (h1 : -4611686018427387904 ≤ i) (h2 : i < 4611686018427387904) : in62 i = true := by
  unfold in62
  exact @decide_eq_true _ (Classical.propDecidable _) ⟨h1, h2⟩
theorem of_in62 {i : Int} (h : in62 i = true) : -(2 ^ 62) ≤ i ∧ i < 2 ^ 62 := by
  unfold in62 at h
  have := @of_decide_eq_true _ (Classical.propDecidable _) h
  omega
noncomputable def in24 (n : Nat) : Bool := @decide (n ≤ 16777216) (Classical.propDecidable _)
theorem in24_of {n : Nat} (h : n ≤ 16777216) : in24 n = true := by
  unfold in24
  exact @decide_eq_true _ (Classical.propDecidable _) h
theorem of_in24 {n : Nat} (h : in24 n = true) : n ≤ 2 ^ 24 := by
  unfold in24 at h
  exact @of_decide_eq_true _ (Classical.propDecidable _) h
noncomputable def rgOkB (i j : Int) : Bool := in62 i && in62 j && in24 (j - i).toNat
theorem rgOk_of {i j : Int} (h : rgOkB i j = true) : RgOk i j := by
  unfold rgOkB at h
  simp only [Bool.and_eq_true] at h
  exact ⟨(of_in62 h.1.1).1, (of_in62 h.1.1).2, (of_in62 h.1.2).1, (of_in62 h.1.2).2, of_in24 h.2⟩
theorem rng_rel {K : PySem.W.Frag} {G : Hp} {ad : List Addr} (i j : Int) : RpL K G ad (rgV i j) (rngL i j) := by
  unfold rgV rngL
  generalize List.range (j - i).toNat = l
  induction l with
  | nil => exact .nil
  | cons x l ih => exact .cons (.int _) ih
noncomputable def lrgF (f g : FE) : FA := fun ρ T => bindF (f ρ T) fun x T1 => bindF (g ρ T1) fun y T2 => match x, y with
  | .int i, .int j => if rgOkB i j then some (rngL i j, T2) else none
  | _, _ => none
theorem xl_lrg {e : Expr} (hp : PE X e (tLstRg (tRg2 (tD X.K f1) (tD X.K f2)))) : XL X e (lrgF f1 f2) := by
  refine pe_weak hp fun σ H Q h => ?_
  obtain ⟨Z, G, ad, T, ρ, pa, d, T', N, hf, k⟩ := h
  obtain ⟨x, T1, e1, e2⟩ := bindF_eq hf
  obtain ⟨y, T2, e3, e4⟩ := bindF_eq e2
  refine ⟨Z, G, ad, T, ρ, pa, x, T1, N, e1, fun v G1 ad1 H1 x1 r1 => ⟨Z, G1, ad1, T1, ρ, pa, y, T2, x1.en, e3, fun w G2 ad2 H2 x2 r2 => ?_⟩⟩
  split at e4
  · split at e4
    · rename_i hk
      cases e4
      refine ⟨_, _, r1.inv_int, r2.inv_int, rgOk_of hk, fun q hq => ?_⟩
      have x3 := x1.trans x2
      obtain ⟨N2, w2⟩ := x3.en.laid hq (rng_rel _ _)
      refine k q G2 ad2 _ ⟨N2, x3.gr.ex, x3.gr.pr, fun b o hb hm => ?_, x3.gr.nG, x3.gr.nA⟩ w2 (x3.gr.back x3.en.iv.ats hq)
      have q' := x3.gr.fr b o hb hm
      rw [upd_ne (ne_of_none q' hq)]
      exact q'
    · cases e4
  · cases e4
/-- isinstance(x, T) -/
def tyN : D → Option String
  | .non => some "NoneType"
  | .bl _ => some "bool"
  | .int _ => some "int"
  | .str _ => some "str"
  | .tup _ => some "tuple"
  | .lst _ => some "list"
  | _ => none
def isiF (t : String) (f : FE) : FE := fun ρ T => bindF (f ρ T) fun d T' => match tyN d with
  | some n => (kitB n t).map fun b => (.bl b, T')
  | none => none
theorem ty_rel {K : PySem.W.Frag} {Z : Zc} {G : Hp} {ad : List Addr} {T : Tm} {H : Hp} (I : Iv K Z G ad T H) {v : V} {d : D} {n : String} (r : Rp K G ad v d) (h : tyN d = some n) : TyX K H v (.type n) := by
  cases r with
  | non => cases h; exact .base .non
  | bl b => cases h; exact .base (.bl b)
  | int i => cases h; exact .base (.int i)
  | str s => cases h; exact .base (.str s)
  | tup h1 _ =>
    cases h
    rcases h1 with ⟨o, h1, _⟩ | ⟨o, its, n, e, c, _⟩
    · exact .fTuple (I.ex _ _ h1)
    · exact .kTuple e c
  | lst h1 _ => cases h; exact .base (.lst (I.ex _ _ h1))
  | frl _ _ => cases h
  | ob _ => cases h
theorem xe_isi {t : String} {e : Expr} (hp : PE X e (tCB (rIsi X.K) (tCons (tD X.K f1) (tCons (tC (.ty t)) tNil)))) : XE X e (isiF t f1) := pe_weak hp fun σ H Q h => by
  obtain ⟨Z, G, ad, T, ρ, pa, d, T', N, hf, k⟩ := h
  obtain ⟨x, T1, h1, h2⟩ := bindF_eq hf
  refine ⟨Z, G, ad, T, ρ, pa, x, T1, N, h1, fun v G1 ad1 H1 x1 r1 => ?_⟩
  split at h2
  · rename_i n hn
    obtain ⟨b, h3, h4⟩ := Option.map_eq_some_iff.mp h2
    cases h4
    exact ⟨v, .ty t, .type n, .type t, b, rfl, .ty t, ty_rel x1.en.iv r1 hn, kit_ty h3, k _ G1 ad1 H1 x1 (.bl b)⟩
  · cases h2
end
end Fx
namespace Fx
open PySem PySem.Spec PyProof.Rows L2
open Evl (Ex)

/-! ### targets -/
inductive Tgt where
  | nm (i : Nat) | tp (is : List Nat)
def gNs : List Nat → TGs
  | [] => gNil
  | i :: is => gCons (gName i) (gNs is)
def tgT (K : PySem.W.Frag) : Tgt → TG
  | .nm i => gName i
  | .tp is => gTup K is.length (gNs is)
def setN : List Nat → List D → Rho → Option Rho
  | [], [], ρ => some ρ
  | i :: is, d :: ds, ρ => setN is ds (ρ.set i (.dat d))
  | _, _, _ => none
def tgD : Tgt → D → Rho → Option Rho
  | .nm i, d, ρ => some (ρ.set i (.dat d))
  | .tp is, .tup ds, ρ => setN is ds ρ
  | _, _, _ => none
def setV : List Nat → List V → L2.St → L2.St
  | i :: is, v :: vs, σ => setV is vs (σ.set i (some v))
  | _, _, σ => σ
def tgS : Tgt → List V → L2.St → L2.St
  | .nm i, vs, σ => match vs with
    | v :: _ => σ.set i (some v)
    | [] => σ
  | .tp is, vs, σ => setV is vs σ
section
variable {K : PySem.W.Frag} {Z : Zc} {G G' : Hp} {ad ad' : List Addr} {T T' : Tm} {ρ ρ' : Rho} {σ : L2.St} {H H' : Hp} {pa : Nat → Addr} {p : Addr} {ds : List D}
theorem setN_run : ∀ {is : List Nat} {vs : List V} {ds : List D} {ρ ρ' : Rho} {σ : L2.St} {Q : L2.St → Hp → Prop}, En K Z G ad T ρ σ H pa → RpL K G ad vs ds → setN is ds ρ = some ρ' → (En K Z G ad T ρ' (setV is vs σ) H pa → Q (setV is vs σ) H) → vs.length = is.length ∧ gNs is vs σ H Q
  | [], _, [], _, _, _, _, N, .nil, h, k => by cases h; exact ⟨rfl, rfl, k N⟩
  | [], _, _ :: _, _, _, _, _, _, _, h, _ => by cases h
  | _ :: _, _, [], _, _, _, _, _, _, h, _ => by cases h
  | i :: is, _, d :: ds, ρ, ρ', σ, Q, N, .cons (v := v) (vs := vs) h t, e, k => by
    obtain ⟨h1, h2⟩ := setN_run (is := is) (σ := σ.set i (some v)) (Q := Q) (N.setD i h) t e k
    exact ⟨by rw [List.length_cons, List.length_cons, h1], v, vs, rfl, h2⟩
theorem tg_run {t : Tgt} {v : V} {d : D} {Q : L2.St → Hp → Prop} (N : En K Z G ad T ρ σ H pa) (r : Rp K G ad v d) (h : tgD t d ρ = some ρ') (k : ∀ vs, En K Z G ad T ρ' (tgS t vs σ) H pa → Q (tgS t vs σ) H) : tgT K t v σ H Q := by
  cases t with
  | nm i =>
    cases h
    exact k [v] (N.setD i r)
  | tp is =>
    cases d with
    | tup ds =>
      obtain ⟨a, vs, rfl, h1, r1⟩ := r.inv_tup
      obtain ⟨q1, q2⟩ := setN_run (Q := Q) N r1 h (k vs)
      exact ⟨a, vs, rfl, N.iv.tup h1, q1, q2⟩
    | _ => cases h
end

/-! ### statements -/
def seqS (a b : FS) : FS := fun ρ T => match a ρ T with
  | some (.nx ρ', T') => b ρ' T'
  | r => r
def nilS : FS := fun ρ T => some (.nx ρ, T)
def brkS : FS := fun ρ T => some (.bk ρ, T)
def cntS : FS := fun ρ T => some (.ct ρ, T)
def retF (fo : FO) : FS := fun ρ T => bindF (fo ρ T) fun o T' => match o with
  | .val d => some (.rt d, T')
  | .own _ ds => some (.rt (.lst ds), T')
def retN : FS := fun _ T => some (.rt .non, T)
def asgF (i : Nat) (f : FE) : FS := fun ρ T => bindF (f ρ T) fun d T' => some (.nx (ρ.set i (.dat d)), T')
def ownF (i : Nat) (f : FA) : FS := fun ρ T => bindF (f ρ T) fun ds T' => some (.nx (ρ.set i (.own ds)), T')
def objF (i : Nat) (f : FA) : FS := fun ρ T => bindF (f ρ T) fun ds T' => some (.nx (ρ.set i (.dat (.ob T'.length))), T' ++ [.lst ds])
def unpF (t : Tgt) (f : FE) : FS := fun ρ T => bindF (f ρ T) fun d T' => (tgD t d ρ).map fun ρ' => (.nx ρ', T')
def dropF (f : FE) : FS := fun ρ T => bindF (f ρ T) fun _ T' => some (.nx ρ, T')
def ifS (t : FT) (a b : FS) : FS := fun ρ T => bindF (t ρ T) fun c T' => if c then a ρ T' else b ρ T'
def augF (i : Nat) (g : D → D → Option D) (f : FE) : FS := fun ρ T => match ρ[i]? with
  | some (.dat x) => bindF (f ρ T) fun y T' => (g x y).map fun z => (.nx (ρ.set i (.dat z)), T')
  | _ => none
def appF (i : Nat) (f : FE) : FS := fun ρ T => match ρ[i]? with
  | some (.own ds) => bindF (f ρ T) fun d T' => if ds.length < sizeLine then some (.nx (ρ.set i (.own (ds ++ [d]))), T') else none
  | _ => none
def setF (i : Nat) (fi fv : FE) : FS := fun ρ T => bindF (fv ρ T) fun d T1 => bindF (fi ρ T1) fun j T2 => match ρ[i]?, j with
  | some (.own ds), .int j => (ixN ds.length j).map fun m => (.nx (ρ.set i (.own (ds.set m d))), T2)
  | some (.dat (.ob k)), .int j => match T2[k]? with
    | some (.lst ds) => (ixN ds.length j).map fun m => (.nx ρ, T2.set k (.lst (ds.set m d)))
    | none => none
  | _, _ => none
def neverS : FS := fun _ _ => none
section
variable {X : Cx} {e c : Expr} {st : Stmt} {sts : List Stmt} {pos : Pos} {f f1 f2 : FE} {o1 : FO} {fs : FA} {t1 : FT} {g1 g2 : FS}
theorem xs_never : XS X st neverS := ps_weak ps_never fun D σ H h => by
  obtain ⟨Z, G, ad, T, ρ, pa, r, T', N, hf, k⟩ := h
  cases hf
theorem xss_nil : XSs X [] nilS := pss_weak pss_nil fun D σ H h => by
  obtain ⟨Z, G, ad, T, ρ, pa, r, T', N, hf, k⟩ := h
  cases hf
  exact k σ G ad H pa N (Ex.refl _) (Pre.refl _)
theorem EndD.mono {K : PySem.W.Frag} {Z : Zc} {G G1 : Hp} {ad ad1 : List Addr} {T' : Tm} {D0 : Ends} {r : Rz} (k : EndD K Z G ad T' D0 r) (e : Ex G G1) (p : Pre ad ad1) : EndD K Z G1 ad1 T' D0 r := by
  cases r with
  | nx ρ' => exact fun σ' G' ad' H' pa' N e' p' => k σ' G' ad' H' pa' N (e.trans e') (p.trans p')
  | bk ρ' => exact fun σ' G' ad' H' pa' N e' p' => k σ' G' ad' H' pa' N (e.trans e') (p.trans p')
  | ct ρ' => exact fun σ' G' ad' H' pa' N e' p' => k σ' G' ad' H' pa' N (e.trans e') (p.trans p')
  | rt d => exact fun v G' ad' H' I e' p' => k v G' ad' H' I (e.trans e') (p.trans p')
theorem xss_cons (h1 : XS X st g1) (h2 : XSs X sts g2) : XSs X (st :: sts) (seqS g1 g2) := pss_weak (pss_cons h1 h2) fun D σ H h => by
  obtain ⟨Z, G, ad, T, ρ, pa, r, T', N, hf, k⟩ := h
  unfold seqS at hf
  split at hf
  · rename_i ρ1 T1 h3
    exact ⟨Z, G, ad, T, ρ, pa, .nx ρ1, T1, N, h3, fun σ' G' ad' H' pa' N' e' p' => ⟨Z, G', ad', T1, ρ1, pa', r, T', N', hf, k.mono e' p'⟩⟩
  · rename_i hne
    refine ⟨Z, G, ad, T, ρ, pa, r, T', N, hf, ?_⟩
    cases r with
    | nx ρ' => exact absurd hf (hne ρ' T')
    | bk ρ' => exact k
    | ct ρ' => exact k
    | rt d => exact k
theorem xss_one (h1 : XS X st g1) : XSs X [st] g1 := pss_one h1
theorem xs_pass : XS X (.Pass pos) nilS := ps_weak ps_pass fun D σ H h => by
  obtain ⟨Z, G, ad, T, ρ, pa, r, T', N, hf, k⟩ := h
  cases hf
  exact k σ G ad H pa N (Ex.refl _) (Pre.refl _)
theorem xs_break : XS X (.Break pos) brkS := ps_weak ps_break fun D σ H h => by
  obtain ⟨Z, G, ad, T, ρ, pa, r, T', N, hf, k⟩ := h
  cases hf
  exact k σ G ad H pa N (Ex.refl _) (Pre.refl _)
theorem xs_continue : XS X (.Continue pos) cntS := ps_weak ps_continue fun D σ H h => by
  obtain ⟨Z, G, ad, T, ρ, pa, r, T', N, hf, k⟩ := h
  cases hf
  exact k σ G ad H pa N (Ex.refl _) (Pre.refl _)
theorem xs_ret (h : XO X e o1) : XS X (.Return (some e) pos) (retF o1) := ps_weak (ps_ret h) fun D σ H h => by
  obtain ⟨Z, G, ad, T, ρ, pa, r, T', N, hf, k⟩ := h
  obtain ⟨o, T1, h1, h2⟩ := bindF_eq hf
  refine ⟨Z, G, ad, T, ρ, pa, o, T1, N, h1, fun v G1 ad1 H1 x1 r1 => ?_⟩
  cases o with
  | val d =>
    cases h2
    exact k v G1 ad1 H1 x1.en.iv x1.gr.ex x1.gr.pr r1
  | own i ds =>
    cases h2
    obtain ⟨q1, rfl⟩ := r1
    obtain ⟨vs, h3, h4, h5, h6, h7, h8⟩ := x1.en.env i _ q1
    exact k _ (upd G1 (pa i) (.lst vs)) ad1 H1 (x1.en.iv.learn h6 h7 h8 h4) (x1.gr.ex.trans (Ex.new h6)) x1.gr.pr (.lst upd_same (h5.mono (Ex.new h6) (Pre.refl _)))
theorem xs_retN : XS X (.Return none pos) retN := ps_weak ps_retN fun D σ H h => by
  obtain ⟨Z, G, ad, T, ρ, pa, r, T', N, hf, k⟩ := h
  cases hf
  exact k _ G ad H N.iv (Ex.refl _) (Pre.refl _) .non
theorem xs_asg {i : Nat} (h : PS X st (tAsg (tD X.K f) (gName i))) : XS X st (asgF i f) := ps_weak h fun D σ H h => by
  obtain ⟨Z, G, ad, T, ρ, pa, r, T', N, hf, k⟩ := h
  obtain ⟨d, T1, h1, h2⟩ := bindF_eq hf
  cases h2
  exact ⟨Z, G, ad, T, ρ, pa, d, _, N, h1, fun v G1 ad1 H1 x1 r1 => k _ G1 ad1 H1 pa (x1.en.setD i r1) x1.gr.ex x1.gr.pr⟩
theorem xs_own {i : Nat} (h : PS X st (tAsg (tDL X.K fs) (gName i))) : XS X st (ownF i fs) := ps_weak h fun D σ H h => by
  obtain ⟨Z, G, ad, T, ρ, pa, r, T', N, hf, k⟩ := h
  obtain ⟨d, T1, h1, h2⟩ := bindF_eq hf
  cases h2
  exact ⟨Z, G, ad, T, ρ, pa, d, _, N, h1, fun p G1 ad1 H1 x1 w1 _ => k _ G1 ad1 H1 _ (x1.en.take w1 i) x1.gr.ex x1.gr.pr⟩
theorem xs_frz {i : Nat} (h : PS X st (tAsg (tDL X.K fs) (gName i))) : XS X st (asgF i (frzF fs)) := ps_weak h fun D σ H h => by
  obtain ⟨Z, G, ad, T, ρ, pa, r, T', N, hf, k⟩ := h
  obtain ⟨d, T1, h1, h2⟩ := bindF_eq hf
  obtain ⟨ds, T2, h3, h4⟩ := bindF_eq h1
  cases h2
  cases h4
  refine ⟨Z, G, ad, T, ρ, pa, ds, _, N, h3, fun p G1 ad1 H1 x1 w1 hp => ?_⟩
  obtain ⟨G2, x2, e2, r2⟩ := x1.learn w1 hp
  exact k _ G2 ad1 H1 pa (x2.en.setD i r2) x2.gr.ex x2.gr.pr
theorem xs_obj {i : Nat} (h : PS X st (tAsg (tDL X.K fs) (gName i))) : XS X st (objF i fs) := ps_weak h fun D σ H h => by
  obtain ⟨Z, G, ad, T, ρ, pa, r, T', N, hf, k⟩ := h
  obtain ⟨d, T1, h1, h2⟩ := bindF_eq hf
  cases h2
  refine ⟨Z, G, ad, T, ρ, pa, d, _, N, h1, fun p G1 ad1 H1 x1 w1 _ => ?_⟩
  obtain ⟨N2, p2, r2⟩ := x1.en.join w1
  exact k _ G1 (ad1 ++ [p]) H1 pa (N2.setD i r2) x1.gr.ex (x1.gr.pr.trans p2)
theorem xs_unp {t : Tgt} (h : PS X st (tAsg (tD X.K f) (tgT X.K t))) : XS X st (unpF t f) := ps_weak h fun D σ H h => by
  obtain ⟨Z, G, ad, T, ρ, pa, r, T', N, hf, k⟩ := h
  obtain ⟨d, T1, h1, h2⟩ := bindF_eq hf
  obtain ⟨ρ1, h3, h4⟩ := Option.map_eq_some_iff.mp h2
  cases h4
  exact ⟨Z, G, ad, T, ρ, pa, d, _, N, h1, fun v G1 ad1 H1 x1 r1 => tg_run x1.en r1 h3 fun vs N2 => k _ G1 ad1 H1 pa N2 x1.gr.ex x1.gr.pr⟩
theorem xs_expr (h : PS X st (tDrop (tD X.K f))) : XS X st (dropF f) := ps_weak h fun D σ H h => by
  obtain ⟨Z, G, ad, T, ρ, pa, r, T', N, hf, k⟩ := h
  obtain ⟨d, T1, h1, h2⟩ := bindF_eq hf
  cases h2
  exact ⟨Z, G, ad, T, ρ, pa, d, _, N, h1, fun v G1 ad1 H1 x1 r1 => k _ G1 ad1 H1 pa x1.en x1.gr.ex x1.gr.pr⟩
theorem xs_if {sb : List Stmt} (h : XT X c t1) (h1 : XSs X sts g1) (h2 : XSs X sb g2) : XS X (.If c sts sb pos) (ifS t1 g1 g2) := ps_weak (ps_if h h1 h2) fun D σ H h => by
  obtain ⟨Z, G, ad, T, ρ, pa, r, T', N, hf, k⟩ := h
  obtain ⟨b, T1, h1, h2⟩ := bindF_eq hf
  refine ⟨Z, G, ad, T, ρ, pa, b, T1, N, h1, fun G1 ad1 H1 x1 => ?_⟩
  cases b with
  | true => exact ⟨Z, G1, ad1, T1, ρ, pa, r, T', x1.en, h2, k.mono x1.gr.ex x1.gr.pr⟩
  | false => exact ⟨Z, G1, ad1, T1, ρ, pa, r, T', x1.en, h2, k.mono x1.gr.ex x1.gr.pr⟩
theorem xs_aug {i : Nat} {rr : R2} {g : D → D → Option D} (hr : OkR X.K rr g) (h : PS X st (tAug i (tD X.K f) rr)) : XS X st (augF i g f) := ps_weak h fun D σ H h => by
  obtain ⟨Z, G, ad, T, ρ, pa, r, T', N, hf, k⟩ := h
  unfold augF at hf
  split at hf
  · rename_i x hx
    obtain ⟨y, T1, h1, h2⟩ := bindF_eq hf
    obtain ⟨z, h3, h4⟩ := Option.map_eq_some_iff.mp h2
    cases h4
    obtain ⟨v, q1, q2⟩ := N.env i _ hx
    exact ⟨v, q1, Z, G, ad, T, ρ, pa, y, _, N, h1, fun w G1 ad1 H1 x1 r1 => hr Z G1 ad1 _ ρ σ H1 pa v w x y z _ x1.en (x1.rp q2) r1 h3 fun u G2 ad2 H2 x2 r2 => k _ G2 ad2 H2 pa ((x1.trans x2).en.setD i r2) (x1.trans x2).gr.ex (x1.trans x2).gr.pr⟩
  · cases hf
theorem xs_app {i : Nat} (h : PS X st (tDrop (tBM X.K "list" rAppend (tVar i) (tCons (tD X.K f) tNil)))) : XS X st (appF i f) := ps_weak h fun D σ H h => by
  obtain ⟨Z, G, ad, T, ρ, pa, r, T', N, hf, k⟩ := h
  unfold appF at hf
  split at hf
  · rename_i ds hx
    obtain ⟨y, T1, h1, h2⟩ := bindF_eq hf
    split at h2
    · rename_i hz
      cases h2
      obtain ⟨vs, q1, q2, q3, q4, q5, q6⟩ := N.env i _ hx
      refine ⟨_, q1, .inl ⟨rfl, vs, .inl (.inl q2)⟩, Z, G, ad, T, ρ, pa, y, _, N, h1, fun w G1 ad1 H1 x1 r1 => ?_⟩
      obtain ⟨us, s1, s2, s3, s4, s5, s6⟩ := x1.en.env i _ hx
      refine ⟨_, us, w, rfl, rfl, s2, by rw [s3.length]; exact hz, ?_⟩
      exact k _ G1 ad1 _ pa (x1.en.putO hx (s3.append (.cons r1 .nil))) x1.gr.ex x1.gr.pr
    · cases h2
  · cases hf
theorem xs_set {i : Nat} (h : PS X st (tAsg (tD X.K f1) (gSub (tVar i) (tD X.K f2) rSetL))) : XS X st (setF i f2 f1) := ps_weak h fun D σ H h => by
  obtain ⟨Z, G, ad, T, ρ, pa, r, T', N, hf, k⟩ := h
  obtain ⟨d, T1, h1, h2⟩ := bindF_eq hf
  obtain ⟨j, T2, h3, h4⟩ := bindF_eq h2
  refine ⟨Z, G, ad, T, ρ, pa, d, T1, N, h1, fun v G1 ad1 H1 x1 r1 => ?_⟩
  split at h4
  · rename_i ds j' hx
    obtain ⟨m, h5, h6⟩ := Option.map_eq_some_iff.mp h4
    cases h6
    obtain ⟨vs, q1, q2, q3, q4, q5, q6⟩ := x1.en.env i _ hx
    refine ⟨_, q1, Z, G1, ad1, T1, ρ, pa, _, _, x1.en, h3, fun w G2 ad2 H2 x2 r2 => ?_⟩
    obtain ⟨us, s1, s2, s3, s4, s5, s6⟩ := x2.en.env i _ hx
    refine ⟨_, us, j', m, rfl, r2.inv_int, s2, by rw [s3.length]; exact h5, ?_⟩
    have x := x1.trans x2
    exact k _ G2 ad2 _ pa (x.en.putO hx (s3.set (x2.rp r1) m)) x.gr.ex x.gr.pr
  · rename_i kk j' hx
    split at h4
    · rename_i ds hT
      obtain ⟨m, h5, h6⟩ := Option.map_eq_some_iff.mp h4
      cases h6
      obtain ⟨v0, q1, q2⟩ := x1.en.env i _ hx
      obtain ⟨a, rfl, q3⟩ := q2.inv_ob
      refine ⟨_, q1, Z, G1, ad1, T1, ρ, pa, _, _, x1.en, h3, fun w G2 ad2 H2 x2 r2 => ?_⟩
      have q4 := x2.gr.pr _ _ q3
      obtain ⟨us, s1, s2⟩ := x2.en.ob q4 hT
      refine ⟨_, us, j', m, rfl, r2.inv_int, s1, by rw [s2.length]; exact h5, ?_⟩
      have x := x1.trans x2
      exact k _ G2 ad2 _ pa (x.en.put q4 (s2.set (x2.rp r1) m)) x.gr.ex x.gr.pr
    · cases h4
  · cases h4
end

/-! ### walks -/
/-- a source of data, as it stands from (G, ad) on -/
structure ItOk (K : PySem.W.Frag) (J : It) (G0 : Hp) (ad0 : List Addr) (ds : List D) : Prop where
  go : ∀ (Z : Zc) (G : Hp) (ad : List Addr) (T : Tm) (ρ : Rho) (σ : L2.St) (H : Hp) (pa : Nat → Addr) (i : Nat), En K Z G ad T ρ σ H pa → Ex G0 G → Pre ad0 ad → i < ds.length → J.go i H
  stop : ∀ (Z : Zc) (G : Hp) (ad : List Addr) (T : Tm) (ρ : Rho) (σ : L2.St) (H : Hp) (pa : Nat → Addr) (i : Nat), En K Z G ad T ρ σ H pa → Ex G0 G → Pre ad0 ad → ds.length ≤ i → J.stop i H
  yld : ∀ (Z : Zc) (G : Hp) (ad : List Addr) (T : Tm) (ρ : Rho) (σ : L2.St) (H : Hp) (pa : Nat → Addr) (i : Nat) (x : V) (H' : Hp), En K Z G ad T ρ σ H pa → Ex G0 G → Pre ad0 ad → i < ds.length → J.yld i H x H' →
    ∃ G' d, Nx K Z G ad H ρ σ pa T G' ad H' ∧ ds[i]? = some d ∧ Rp K G' ad x d
def tDI (K : PySem.W.Frag) (f : FA) : TI := fun σ H R => ∃ Z G ad T ρ pa ds T', En K Z G ad T ρ σ H pa ∧ f ρ T = some (ds, T') ∧
  ∀ J G' ad' H', Nx K Z G ad H ρ σ pa T' G' ad' H' → ItOk K J G' ad' ds → R J H'
abbrev XI (X : Cx) (tg iter : Expr) (f : FA) : Prop := PI X tg iter (tDI X.K f)
theorem pi_weak {X : Cx} {tg e : Expr} {t t' : TI} (h : PI X tg e t) (k : ∀ σ H R, t' σ H R → t σ H R) : PI X tg e t' := ⟨fun pins s σ H R I hw => h.run pins s σ H R I (k σ H R hw)⟩
/-- over a tuple | a list that is data -/
def itT (f : FE) : FA := fun ρ T => bindF (f ρ T) fun d T' => match d with
  | .tup ds => some (ds, T')
  | _ => none
def itL (f : FE) : FA := fun ρ T => bindF (f ρ T) fun d T' => match d with
  | .lst ds => some (ds, T')
  | .frl ds => some (ds, T')
  | _ => none
section
variable {X : Cx} {e tg : Expr} {f f1 f2 : FE} {fs : FA}
theorem itOk_tup {K : PySem.W.Frag} {a : Addr} {G0 : Hp} {ad0 : List Addr} {vs : List V} {ds : List D} (h : TupK K G0 a vs) (r : RpL K G0 ad0 vs ds) (inj : ∀ (G : Hp), Ex G0 G → ∀ xs, SqT K G a xs → True) : ItOk K (Itt K a) G0 ad0 ds where
  go := fun Z G ad T ρ σ H pa i N e p hi => by
    have hv : i < vs.length := by rw [r.length]; exact hi
    exact ⟨vs, vs[i], N.iv.tup (h.mono e), List.getElem?_eq_getElem hv⟩
  stop := fun Z G ad T ρ σ H pa i N e p hi => ⟨vs, N.iv.tup (h.mono e), by rw [r.length]; exact hi⟩
  yld := fun Z G ad T ρ σ H pa i x H' N e p hi y => by
    obtain ⟨rfl, y⟩ := y
    obtain ⟨d, h1, h2⟩ := r.getV (y vs (N.iv.tup (h.mono e)))
    exact ⟨G, d, N.nx, h1, h2.mono e p⟩
theorem itOk_lst {K : PySem.W.Frag} {a : Addr} {G0 : Hp} {ad0 : List Addr} {vs : List V} {ds : List D} (h : SqL K G0 a vs) (r : RpL K G0 ad0 vs ds) : ItOk K (Itl K a) G0 ad0 ds where
  go := fun Z G ad T ρ σ H pa i N e p hi => by
    have hv : i < vs.length := by rw [r.length]; exact hi
    exact ⟨vs, vs[i], N.iv.seq (Evl.ex_l e h), List.getElem?_eq_getElem hv⟩
  stop := fun Z G ad T ρ σ H pa i N e p hi => ⟨vs, N.iv.seq (Evl.ex_l e h), by rw [r.length]; exact hi⟩
  yld := fun Z G ad T ρ σ H pa i x H' N e p hi y => by
    obtain ⟨rfl, y⟩ := y
    obtain ⟨d, h1, h2⟩ := r.getV (y vs (N.iv.seq (Evl.ex_l e h)))
    exact ⟨G, d, N.nx, h1, h2.mono e p⟩
theorem xi_tup (h : XE X e f) : XI X tg e (itT f) := pi_weak (pi_tup h) fun σ H R h => by
  obtain ⟨Z, G, ad, T, ρ, pa, ds, T', N, hf, k⟩ := h
  obtain ⟨d, T1, h1, h2⟩ := bindF_eq hf
  refine ⟨Z, G, ad, T, ρ, pa, d, T1, N, h1, fun v G1 ad1 H1 x1 r1 => ?_⟩
  split at h2
  · cases h2
    obtain ⟨a, vs, rfl, hh, hr⟩ := r1.inv_tup
    exact ⟨a, rfl, ⟨vs, x1.en.iv.tup hh⟩, k _ G1 ad1 H1 x1 (itOk_tup hh hr fun _ _ _ _ => trivial)⟩
  · cases h2
theorem xi_lst (h : XE X e f) : XI X tg e (itL f) := pi_weak (pi_list h) fun σ H R h => by
  obtain ⟨Z, G, ad, T, ρ, pa, ds, T', N, hf, k⟩ := h
  obtain ⟨d, T1, h1, h2⟩ := bindF_eq hf
  refine ⟨Z, G, ad, T, ρ, pa, d, T1, N, h1, fun v G1 ad1 H1 x1 r1 => ?_⟩
  split at h2
  · cases h2
    obtain ⟨a, vs, rfl, hh, hr⟩ := r1.inv_lst
    exact ⟨a, rfl, ⟨vs, .inl (.inl (x1.en.iv.ex _ _ hh))⟩, k _ G1 ad1 H1 x1 (itOk_lst (.inl (.inl hh)) hr)⟩
  · cases h2
    obtain ⟨a, vs, rfl, hh, hr⟩ := r1.inv_frl
    exact ⟨a, rfl, ⟨vs, x1.en.iv.seq hh⟩, k _ G1 ad1 H1 x1 (itOk_lst hh hr)⟩
  · cases h2
/-- over range(n), range(a, b) -/
noncomputable def rng1 (fs : FA) : FA := fun ρ T => bindF (fs ρ T) fun ds T' => match ds with
  | [.int j] => if in62 j then some (rngL 0 j, T') else none
  | _ => none
noncomputable def rng2 (fs : FA) : FA := fun ρ T => bindF (fs ρ T) fun ds T' => match ds with
  | [.int i, .int j] => if in62 i && in62 j then some (rngL i j, T') else none
  | _ => none
theorem rngL_len (i j : Int) : (rngL i j).length = (j - i).toNat := by unfold rngL; rw [List.length_map, List.length_range]
theorem itOk_rng {K : PySem.W.Frag} {G0 : Hp} {ad0 : List Addr} (i j : Int) : ItOk K (Itr i (j - i).toNat) G0 ad0 (rngL i j) where
  go := fun Z G ad T ρ σ H pa m N e p hi => by rw [rngL_len] at hi; exact hi
  stop := fun Z G ad T ρ σ H pa m N e p hi => by rw [rngL_len] at hi; exact hi
  yld := fun Z G ad T ρ σ H pa m x H' N e p hi y => by
    obtain ⟨rfl, rfl⟩ := y
    rw [rngL_len] at hi
    refine ⟨G, .int (i + (m : Nat)), N.nx, ?_, .int _⟩
    unfold rngL
    rw [List.getElem?_map, List.getElem?_range hi]
    rfl
theorem xi_rng1 (h : PI X tg e (iRng1 (tDA X.K fs))) : XI X tg e (rng1 fs) := pi_weak h fun σ H R h => by
  obtain ⟨Z, G, ad, T, ρ, pa, ds, T', N, hf, k⟩ := h
  obtain ⟨d, T1, h1, h2⟩ := bindF_eq hf
  refine ⟨Z, G, ad, T, ρ, pa, d, T1, N, h1, fun vs G1 ad1 H1 x1 r1 => ?_⟩
  split at h2
  · split at h2
    · rename_i hc
      cases h2
      obtain ⟨v, rfl, q⟩ := r1.one
      refine ⟨_, by rw [q.inv_int], (of_in62 hc).1, (of_in62 hc).2, k _ G1 ad1 H1 x1 ?_⟩
      have z := itOk_rng (K := X.K) (G0 := G1) (ad0 := ad1) 0 (by assumption)
      rw [Int.sub_zero] at z
      exact z
    · cases h2
  · cases h2
theorem xi_rng2 (h : PI X tg e (iRng2 (tDA X.K fs))) : XI X tg e (rng2 fs) := pi_weak h fun σ H R h => by
  obtain ⟨Z, G, ad, T, ρ, pa, ds, T', N, hf, k⟩ := h
  obtain ⟨d, T1, h1, h2⟩ := bindF_eq hf
  refine ⟨Z, G, ad, T, ρ, pa, d, T1, N, h1, fun vs G1 ad1 H1 x1 r1 => ?_⟩
  split at h2
  · split at h2
    · rename_i hc
      cases h2
      rw [Bool.and_eq_true] at hc
      obtain ⟨v, w, rfl, q1, q2⟩ := r1.two
      exact ⟨_, _, by rw [q1.inv_int, q2.inv_int], ⟨(of_in62 hc.1).1, (of_in62 hc.1).2, (of_in62 hc.2).1, (of_in62 hc.2).2⟩, k _ G1 ad1 H1 x1 (itOk_rng _ _)⟩
    · cases h2
  · cases h2
end

/-! ### for, while -/
def forL (t : Tgt) (body : FS) : List D → Rho → Tm → Option (Rz × Tm)
  | [], ρ, T => some (.nx ρ, T)
  | d :: ds, ρ, T => match tgD t d ρ with
    | none => none
    | some ρ1 => match body ρ1 T with
      | some (.nx ρ2, T2) => forL t body ds ρ2 T2
      | some (.ct ρ2, T2) => forL t body ds ρ2 T2
      | some (.bk ρ2, T2) => some (.nx ρ2, T2)
      | some (.rt d, T2) => some (.rt d, T2)
      | none => none
def forS (t : Tgt) (fs : FA) (body : FS) : FS := fun ρ T => bindF (fs ρ T) fun ds T' => forL t body ds ρ T'
def whL (c : FT) (body : FS) : Nat → Rho → Tm → Option (Rz × Tm)
  | 0, _, _ => none
  | n + 1, ρ, T => bindF (c ρ T) fun b T1 => if b then (match body ρ T1 with
      | some (.nx ρ2, T2) => whL c body n ρ2 T2
      | some (.ct ρ2, T2) => whL c body n ρ2 T2
      | some (.bk ρ2, T2) => some (.nx ρ2, T2)
      | some (.rt d, T2) => some (.rt d, T2)
      | none => none) else some (.nx ρ, T1)
open Classical in
/-- as many turns as it takes -/
noncomputable def whS (c : FT) (body : FS) : FS := fun ρ T => if h : ∃ n, (whL c body n ρ T).isSome = true then whL c body h.choose ρ T else none
theorem whL_mono (c : FT) (body : FS) : ∀ (n m : Nat) (ρ : Rho) (T : Tm) (r : Rz × Tm), whL c body n ρ T = some r → n ≤ m → whL c body m ρ T = some r
  | 0, _, _, _, _, h, _ => by cases h
  | n + 1, 0, _, _, _, _, hm => absurd hm (by omega)
  | n + 1, m + 1, ρ, T, r, h, hm => by
    unfold whL at h ⊢
    obtain ⟨b, T1, h1, h2⟩ := bindF_eq h
    rw [h1, bindF_some]
    cases b with
    | false => exact h2
    | true =>
      rw [if_pos rfl] at h2 ⊢
      split at h2
      · rename_i ρ2 T2 e
        exact whL_mono c body n m ρ2 T2 r h2 (by omega)
      · rename_i ρ2 T2 e
        exact whL_mono c body n m ρ2 T2 r h2 (by omega)
      · exact h2
      · exact h2
      · cases h2
theorem whS_of {c : FT} {body : FS} {n : Nat} {ρ : Rho} {T : Tm} {r : Rz × Tm} (h : whL c body n ρ T = some r) : whS c body ρ T = some r := by
  unfold whS
  have hx : ∃ n, (whL c body n ρ T).isSome = true := ⟨n, by rw [h]; rfl⟩
  rw [dif_pos hx]
  have hs := hx.choose_spec
  obtain ⟨r', e⟩ := Option.isSome_iff_exists.mp hs
  rw [e]
  have a := whL_mono c body _ (max n hx.choose) ρ T r h (Nat.le_max_left _ _)
  have b := whL_mono c body _ (max n hx.choose) ρ T r' e (Nat.le_max_right _ _)
  exact b.symm.trans a
theorem whS_eq {c : FT} {body : FS} {ρ : Rho} {T : Tm} {r : Rz × Tm} (h : whS c body ρ T = some r) : ∃ n, whL c body n ρ T = some r := by
  unfold whS at h
  split at h
  · exact ⟨_, h⟩
  · cases h
section
variable {X : Cx} {e tg c : Expr} {f f1 f2 : FE} {fs : FA} {t1 : FT} {st : Stmt} {sts : List Stmt} {pos : Pos} {g1 g2 : FS}
theorem xs_for {t : Tgt} (hp : PassesOwn (model X.prog X.w) X.A X.env X.xe) (hc : X.calm = true) (hi : XI X tg e fs) (hg : PG X tg (tgT X.K t)) (hb : XSs X sts g1) (hs : ∀ x, foldedSetIterable e X.env x = pure x := by intro _; rfl) :
    XS X (.For tg e sts [] pos) (forS t fs g1) := ps_weak (ps_for hp hc hi hg hb hs) fun D σ H h => by
  obtain ⟨Z, G, ad, T, ρ, pa, r, T', N, hf, k⟩ := h
  obtain ⟨ds, T1, h1, h2⟩ := bindF_eq hf
  refine ⟨Z, G, ad, T, ρ, pa, ds, T1, N, h1, fun J G1 ad1 H1 x1 it => ?_⟩
  refine ⟨fun i m σ' H' => m = ds.length - i ∧ i ≤ ds.length ∧ ∃ G2 ad2 T2 ρ2 pa2, En X.K Z G2 ad2 T2 ρ2 σ' H' pa2 ∧ Ex G1 G2 ∧ Pre ad1 ad2 ∧ forL t g1 (ds.drop i) ρ2 T2 = some (r, T'),
    ⟨ds.length, by simp, Nat.zero_le _, G1, ad1, T1, ρ, pa, x1.en, Ex.refl _, Pre.refl _, h2⟩, ?_⟩
  rintro i m σ' H' ⟨rfl, hi, G2, ad2, T2, ρ2, pa2, N2, e2, p2, h3⟩
  by_cases hlt : i < ds.length
  · refine .inr ⟨it.go _ _ _ _ _ _ _ _ i N2 e2 p2 hlt, fun σ' H' => i + 1 ≤ ds.length ∧ ∃ G2 ad2 T2 ρ2 pa2, En X.K Z G2 ad2 T2 ρ2 σ' H' pa2 ∧ Ex G1 G2 ∧ Pre ad1 ad2 ∧ forL t g1 (ds.drop (i + 1)) ρ2 T2 = some (r, T'),
      fun σ3 H3 hN => ⟨ds.length - (i + 1), by omega, rfl, hN.1, hN.2⟩, fun x H3 hy => ?_⟩
    obtain ⟨G3, d, x3, hd, r3⟩ := it.yld _ _ _ _ _ _ _ _ i x H3 N2 e2 p2 hlt hy
    rw [List.drop_eq_getElem_cons hlt] at h3
    have hd' : ds[i] = d := by
      rw [List.getElem?_eq_getElem hlt] at hd
      exact Option.some.inj hd
    rw [hd'] at h3
    unfold forL at h3
    split at h3
    · cases h3
    · rename_i ρ3 ht
      refine tg_run x3.en r3 ht fun vs N4 => ?_
      have eG : Ex G1 G3 := e2.trans x3.gr.ex
      have pA : Pre ad1 ad2 := p2.trans x3.gr.pr
      have base := k.mono (x1.gr.ex.trans eG) (x1.gr.pr.trans pA)
      split at h3
      · rename_i ρ4 T4 hb4
        exact ⟨Z, G3, ad2, T2, ρ3, pa2, .nx ρ4, T4, N4, hb4, fun σ5 G5 ad5 H5 pa5 N5 e5 p5 => ⟨by omega, G5, ad5, T4, ρ4, pa5, N5, eG.trans e5, pA.trans p5, h3⟩⟩
      · rename_i ρ4 T4 hb4
        exact ⟨Z, G3, ad2, T2, ρ3, pa2, .ct ρ4, T4, N4, hb4, fun σ5 G5 ad5 H5 pa5 N5 e5 p5 => ⟨by omega, G5, ad5, T4, ρ4, pa5, N5, eG.trans e5, pA.trans p5, h3⟩⟩
      · rename_i ρ4 T4 hb4
        cases h3
        exact ⟨Z, G3, ad2, T2, ρ3, pa2, .bk ρ4, _, N4, hb4, fun σ5 G5 ad5 H5 pa5 N5 e5 p5 => base σ5 G5 ad5 H5 pa5 N5 e5 p5⟩
      · rename_i d4 T4 hb4
        cases h3
        exact ⟨Z, G3, ad2, T2, ρ3, pa2, .rt d4, _, N4, hb4, fun v G5 ad5 H5 I5 e5 p5 r5 => base v G5 ad5 H5 I5 e5 p5 r5⟩
      · cases h3
  · have hi' : ds.length ≤ i := Nat.le_of_not_lt hlt
    rw [List.drop_eq_nil_of_le hi'] at h3
    cases h3
    exact .inl ⟨it.stop _ _ _ _ _ _ _ _ i N2 e2 p2 hi', k σ' G2 ad2 H' pa2 N2 (x1.gr.ex.trans e2) (x1.gr.pr.trans p2)⟩
theorem xs_while (hp : PassesOwn (model X.prog X.w) X.A X.env X.xe) (hc : XT X c t1) (hb : XSs X sts g1) : XS X (.While c sts [] pos) (whS t1 g1) := ps_weak (ps_while hp hc hb) fun D σ H h => by
  obtain ⟨Z, G, ad, T, ρ, pa, r, T', N, hf, k⟩ := h
  obtain ⟨n, hn⟩ := whS_eq hf
  refine ⟨fun m σ' H' => ∃ G2 ad2 T2 ρ2 pa2, En X.K Z G2 ad2 T2 ρ2 σ' H' pa2 ∧ Ex G G2 ∧ Pre ad ad2 ∧ whL t1 g1 m ρ2 T2 = some (r, T'), ⟨n, G, ad, T, ρ, pa, N, Ex.refl _, Pre.refl _, hn⟩, ?_⟩
  rintro m σ' H' ⟨G2, ad2, T2, ρ2, pa2, N2, e2, p2, h3⟩
  cases m with
  | zero => cases h3
  | succ m =>
    unfold whL at h3
    obtain ⟨b, T3, h4, h5⟩ := bindF_eq h3
    refine ⟨Z, G2, ad2, T2, ρ2, pa2, b, T3, N2, h4, fun G3 ad3 H3 x3 => ?_⟩
    have eG : Ex G G3 := e2.trans x3.gr.ex
    have pA : Pre ad ad3 := p2.trans x3.gr.pr
    have base := k.mono eG pA
    cases b with
    | false =>
      cases h5
      exact base σ' G3 ad3 H3 pa2 x3.en (Ex.refl _) (Pre.refl _)
    | true =>
      rw [if_pos rfl] at h5
      refine iteT ?_
      refine ⟨fun σ' H' => ∃ G2 ad2 T2 ρ2 pa2, En X.K Z G2 ad2 T2 ρ2 σ' H' pa2 ∧ Ex G G2 ∧ Pre ad ad2 ∧ whL t1 g1 m ρ2 T2 = some (r, T'), fun σ5 H5 hN => ⟨m, Nat.lt_succ_self m, hN⟩, ?_⟩
      split at h5
      · rename_i ρ4 T4 hb4
        exact ⟨Z, G3, ad3, T3, ρ2, pa2, .nx ρ4, T4, x3.en, hb4, fun σ5 G5 ad5 H5 pa5 N5 e5 p5 => ⟨G5, ad5, T4, ρ4, pa5, N5, eG.trans e5, pA.trans p5, h5⟩⟩
      · rename_i ρ4 T4 hb4
        exact ⟨Z, G3, ad3, T3, ρ2, pa2, .ct ρ4, T4, x3.en, hb4, fun σ5 G5 ad5 H5 pa5 N5 e5 p5 => ⟨G5, ad5, T4, ρ4, pa5, N5, eG.trans e5, pA.trans p5, h5⟩⟩
      · rename_i ρ4 T4 hb4
        cases h5
        exact ⟨Z, G3, ad3, T3, ρ2, pa2, .bk ρ4, _, x3.en, hb4, fun σ5 G5 ad5 H5 pa5 N5 e5 p5 => base σ5 G5 ad5 H5 pa5 N5 e5 p5⟩
      · rename_i d4 T4 hb4
        cases h5
        exact ⟨Z, G3, ad3, T3, ρ2, pa2, .rt d4, _, x3.en, hb4, fun v G5 ad5 H5 I5 e5 p5 r5 => base v G5 ad5 H5 I5 e5 p5 r5⟩
      · cases h5
end
end Fx
namespace Fx
open PySem PySem.Spec PyProof.Rows L2
open Evl (Ex)

section
variable {K : PySem.W.Frag} {Z : Zc} {G G' : Hp} {ad ad' : List Addr} {T T' : Tm} {ρ : Rho} {σ : L2.St} {H H' : Hp} {pa : Nat → Addr} {p : Addr} {ds : List D}
theorem En.carry (N : En K Z G ad T ρ σ H pa) (I : Iv K Z G' ad' T' H') (g : Gr G ad H G' ad' H') : En K Z G' ad' T' ρ σ H' pa := by
  refine ⟨I, N.hl, fun i s h => ?_, N.ne⟩
  have q := N.env i s h
  cases s with
  | un => trivial
  | dat d =>
    obtain ⟨v, q1, q2⟩ := q
    exact ⟨v, q1, q2.mono g.ex g.pr⟩
  | own es =>
    obtain ⟨us, q1, q2, q3, q4, q5, q6⟩ := q
    refine ⟨us, q1, g.fr _ _ q2 q5, q3.mono g.ex g.pr, ?_, fun hm => ?_, q6⟩
    · cases e : G' (pa i) with
      | none => rfl
      | some o =>
        rcases g.nG _ o e with z | z
        · rw [q4] at z
          cases z
        · rw [q2] at z
          cases z
    · rcases g.nA _ hm with z | z
      · exact q5 z
      · rw [q2] at z
        cases z
/-- the list that a comprehension fills -/
structure Fl (K : PySem.W.Frag) (Z : Zc) (G : Hp) (ad : List Addr) (H : Hp) (p : Addr) (acc : List D) : Prop where
  at_ : ∃ vs, H p = some (.lst vs) ∧ RpL K G ad vs acc
  g : G p = none
  a : p ∉ ad
  h : Z.He p = none
theorem Fl.step {acc : List D} (f : Fl K Z G ad H p acc) (g : Gr G ad H G' ad' H') : Fl K Z G' ad' H' p acc := by
  obtain ⟨vs, h1, h2⟩ := f.at_
  refine ⟨⟨vs, g.fr _ _ h1 f.a, h2.mono g.ex g.pr⟩, ?_, fun hm => ?_, f.h⟩
  · cases e : G' p with
    | none => rfl
    | some o =>
      rcases g.nG _ o e with z | z
      · rw [f.g] at z
        cases z
      · rw [h1] at z
        cases z
  · rcases g.nA _ hm with z | z
    · exact f.a z
    · rw [h1] at z
      cases z
theorem Fl.put {acc : List D} {vs : List V} {x : D} {v : V} (f : Fl K Z G ad H p acc) (hv : H p = some (.lst vs)) (r : RpL K G ad vs acc) (rx : Rp K G ad v x) : Fl K Z G ad (upd H p (.lst (vs ++ [v]))) p (acc ++ [x]) :=
  ⟨⟨_, upd_same, r.append (.cons rx .nil)⟩, f.g, f.a, f.h⟩
end
def wipeR (ρ : Rho) : List Nat → Rho
  | [] => ρ
  | v :: vs => (wipeR ρ vs).set v .un
theorem wipeR_length (ρ : Rho) : ∀ vs : List Nat, (wipeR ρ vs).length = ρ.length
  | [] => rfl
  | v :: vs => by unfold wipeR; rw [List.length_set, wipeR_length ρ vs]
theorem wipe_get (σ : L2.St) (i : Nat) : ∀ vs : List Nat, (wipe σ vs)[i]? = if i ∈ vs then (σ[i]?).map (fun _ => none) else σ[i]?
  | [] => by simp [wipe]
  | v :: vs => by
    unfold wipe
    by_cases hi : v = i
    · subst hi
      rw [if_pos List.mem_cons_self]
      by_cases hl : v < σ.length
      · rw [List.getElem?_set_self (by rw [wipe_length]; exact hl), List.getElem?_eq_getElem hl]
        rfl
      · rw [List.getElem?_eq_none (by rw [List.length_set, wipe_length]; omega), List.getElem?_eq_none (by omega)]
        rfl
    · rw [List.getElem?_set_ne hi, wipe_get σ i vs]
      by_cases hm : i ∈ vs
      · rw [if_pos hm, if_pos (List.mem_cons_of_mem _ hm)]
      · rw [if_neg hm, if_neg (by simp only [List.mem_cons, not_or]; exact ⟨fun e => hi e.symm, hm⟩)]
theorem wipeR_get (ρ : Rho) (i : Nat) : ∀ vs : List Nat, (wipeR ρ vs)[i]? = if i ∈ vs then (ρ[i]?).map (fun _ => Sl.un) else ρ[i]?
  | [] => by simp [wipeR]
  | v :: vs => by
    unfold wipeR
    by_cases hi : v = i
    · subst hi
      rw [if_pos List.mem_cons_self]
      by_cases hl : v < ρ.length
      · rw [List.getElem?_set_self (by rw [wipeR_length]; exact hl), List.getElem?_eq_getElem hl]
        rfl
      · rw [List.getElem?_eq_none (by rw [List.length_set, wipeR_length]; omega), List.getElem?_eq_none (by omega)]
        rfl
    · rw [List.getElem?_set_ne hi, wipeR_get ρ i vs]
      by_cases hm : i ∈ vs
      · rw [if_pos hm, if_pos (List.mem_cons_of_mem _ hm)]
      · rw [if_neg hm, if_neg (by simp only [List.mem_cons, not_or]; exact ⟨fun e => hi e.symm, hm⟩)]
theorem wipe_eq {σ1 σ2 : L2.St} {vs : List Nat} (hl : σ1.length = σ2.length) (h : ∀ i, i ∉ vs → σ1[i]? = σ2[i]?) : wipe σ1 vs = wipe σ2 vs := by
  apply List.ext_getElem?
  intro i
  rw [wipe_get, wipe_get]
  by_cases hm : i ∈ vs
  · rw [if_pos hm, if_pos hm]
    by_cases hi : i < σ1.length
    · rw [List.getElem?_eq_getElem hi, List.getElem?_eq_getElem (by omega)]
      rfl
    · rw [List.getElem?_eq_none (by omega), List.getElem?_eq_none (by omega)]
  · rw [if_neg hm, if_neg hm]
    exact h i hm
def tgIn : Tgt → List Nat → Bool
  | .nm i, vs => vs.contains i
  | .tp is, vs => is.all fun i => vs.contains i
theorem setV_length : ∀ (is : List Nat) (ws : List V) (σ : L2.St), (setV is ws σ).length = σ.length
  | [], _, _ => by simp [setV]
  | _ :: _, [], _ => by simp [setV]
  | i :: is, w :: ws, σ => by
    unfold setV
    rw [setV_length is ws, List.length_set]
theorem setV_out {i : Nat} : ∀ (is : List Nat) (ws : List V) (σ : L2.St), i ∉ is → (setV is ws σ)[i]? = σ[i]?
  | [], _, _, _ => by simp [setV]
  | _ :: _, [], _, _ => by simp [setV]
  | j :: is, w :: ws, σ, h => by
    unfold setV
    rw [setV_out is ws _ (fun z => h (List.mem_cons_of_mem _ z)), List.getElem?_set_ne (show j ≠ i from fun e => h (by rw [← e]; exact List.mem_cons_self))]
theorem tgS_wipe {t : Tgt} {vs : List Nat} (h : tgIn t vs = true) (ws : List V) (σ : L2.St) : wipe (tgS t ws (wipe σ vs)) vs = wipe σ vs := by
  have e : wipe (wipe σ vs) vs = wipe σ vs := by
    apply wipe_eq (wipe_length _ _)
    intro i hi
    rw [wipe_get, if_neg hi]
  refine Eq.trans (wipe_eq ?_ fun i hi => ?_) e
  · cases t with
    | nm i =>
      cases ws with
      | nil => rfl
      | cons w ws => exact List.length_set
    | tp is => exact setV_length _ _ _
  · cases t with
    | nm j =>
      cases ws with
      | nil => rfl
      | cons w ws =>
        have hj : j ∈ vs := by simpa [tgIn] using h
        exact List.getElem?_set_ne (show j ≠ i from fun e => hi (by rw [← e]; exact hj))
    | tp is =>
      refine setV_out _ _ _ fun hm => hi ?_
      have := List.all_eq_true.mp h i hm
      simpa using this
def compL (t : Tgt) (c : FT) (e : FE) (ρw : Rho) : List D → List D → Tm → Option (List D × Tm)
  | [], acc, T => some (acc, T)
  | d :: ds, acc, T => match tgD t d ρw with
    | none => none
    | some ρ1 => bindF (c ρ1 T) fun b T1 => if b then bindF (e ρ1 T1) fun x T2 => (if acc.length < sizeLine then compL t c e ρw ds (acc ++ [x]) T2 else none) else compL t c e ρw ds acc T1
def compF (t : Tgt) (fs : FA) (c : FT) (e : FE) (vs : List Nat) : FA := fun ρ T => if tgIn t vs = true then bindF (fs ρ T) fun ds T' => compL t c e (wipeR ρ vs) ds [] T' else none
def yesT : FT := fun _ T => some (true, T)
theorem yes_tt {K : PySem.W.Frag} {σ : L2.St} {H : Hp} {Q : Bool → Hp → Prop} (h : tDT K yesT σ H Q) : tYes σ H Q := by
  obtain ⟨Z, G, ad, T, ρ, pa, b, T', N, hf, k⟩ := h
  cases hf
  exact k G ad H N.nx
theorem xts_nil {X : Cx} : PTs X [] (tDT X.K yesT) := ⟨fun pins s σ H Q I h => pts_nil.run pins s σ H Q I (yes_tt h)⟩
theorem xts_one {X : Cx} {c : Expr} {t : FT} (h : XT X c t) : PTs X [c] (tDT X.K t) := pts_one h
theorem lc_imp {K : PySem.W.Frag} {t : Tgt} {fs : FA} {c : FT} {e : FE} {vs : List Nat} {σ : L2.St} {H : Hp} {Q : VK} (h : tDL K (compF t fs c e vs) σ H Q) : tLc (tDI K fs) (tgT K t) (tDT K c) (tD K e) vs σ H Q := by
  obtain ⟨Z, G, ad, T, ρ, pa, res, T', N, hf, k⟩ := h
  unfold compF at hf
  split at hf
  · rename_i hin
    obtain ⟨ds, T1, h1, h2⟩ := bindF_eq hf
    refine ⟨Z, G, ad, T, ρ, pa, ds, T1, N, h1, fun J G1 ad1 H1 x1 it p hp => ?_⟩
    have hp0 : H p = none := x1.gr.back x1.en.iv.ats hp
    have own_ne : ∀ (i : Nat) (es : List D), ρ[i]? = some (.own es) → pa i ≠ p := fun i es h => by
      obtain ⟨ws, _, q, _⟩ := x1.en.env i _ h
      exact ne_of_none q hp
    have wl : (wipeR ρ vs).length = (wipe σ vs).length := by rw [wipeR_length, wipe_length]; exact N.hl
    have wf : ∀ {G2 : Hp} {ad2 : List Addr} {T2 : Tm} {H2 : Hp}, En K Z G2 ad2 T2 ρ σ H2 pa → En K Z G2 ad2 T2 (wipeR ρ vs) (wipe σ vs) H2 pa := fun N2 => N2.forget wl fun i s hs => by
      rw [wipeR_get] at hs
      by_cases hm : i ∈ vs
      · rw [if_pos hm] at hs
        obtain ⟨_, _, e⟩ := Option.map_eq_some_iff.mp hs
        exact .inl e.symm
      · rw [if_neg hm] at hs
        exact .inr ⟨hs, by rw [wipe_get, if_neg hm]⟩
    obtain ⟨N0, w0⟩ := x1.en.laid (ds := []) hp .nil
    have g0 : Gr G1 ad1 H1 G1 ad1 (upd H1 p (.lst [])) := ⟨Ex.refl _, Pre.refl _, fun b o hb _ => by rw [upd_ne (ne_of_none hb hp)]; exact hb, fun _ _ h => .inl h, fun _ h => .inl h⟩
    refine ⟨fun i m Hc => m = ds.length - i ∧ i ≤ ds.length ∧ ∃ G2 ad2 T2 acc, Iv K Z G2 ad2 T2 Hc ∧ Gr G1 ad1 H1 G2 ad2 Hc ∧ Fl K Z G2 ad2 Hc p acc ∧ compL t c e (wipeR ρ vs) (ds.drop i) acc T2 = some (res, T'),
      ⟨ds.length, by simp, Nat.zero_le _, G1, ad1, T1, [], N0.iv, g0, ⟨w0.at_, w0.g, w0.a, w0.h⟩, h2⟩, ?_⟩
    rintro i m Hc ⟨rfl, hi, G2, ad2, T2, acc, I2, g2, f2, h3⟩
    have N2 : En K Z G2 ad2 T2 ρ σ Hc pa := x1.en.carry I2 g2
    by_cases hlt : i < ds.length
    · refine .inr ⟨it.go _ _ _ _ _ _ _ _ i N2 g2.ex g2.pr hlt, fun Hc => i + 1 ≤ ds.length ∧ ∃ G2 ad2 T2 acc, Iv K Z G2 ad2 T2 Hc ∧ Gr G1 ad1 H1 G2 ad2 Hc ∧ Fl K Z G2 ad2 Hc p acc ∧ compL t c e (wipeR ρ vs) (ds.drop (i + 1)) acc T2 = some (res, T'),
        fun H3 hN => ⟨ds.length - (i + 1), by omega, rfl, hN.1, hN.2⟩, fun x H3 hy => ?_⟩
      obtain ⟨G3, d, x3, hd, r3⟩ := it.yld _ _ _ _ _ _ _ _ i x H3 (wf N2) g2.ex g2.pr hlt hy
      rw [List.drop_eq_getElem_cons hlt] at h3
      have hd' : ds[i] = d := by
        rw [List.getElem?_eq_getElem hlt] at hd
        exact Option.some.inj hd
      rw [hd'] at h3
      unfold compL at h3
      split at h3
      · cases h3
      · rename_i ρ3 ht
        have g3 : Gr G1 ad1 H1 G3 ad2 H3 := g2.trans x3.gr I2.ats
        have f3 := f2.step x3.gr
        refine tg_run x3.en r3 ht fun ws N4 => ⟨tgS_wipe hin ws σ, ?_⟩
        obtain ⟨b, T4, h4, h5⟩ := bindF_eq h3
        refine ⟨Z, G3, ad2, T2, ρ3, pa, b, T4, N4, h4, fun G5 ad5 H5 x5 => ?_⟩
        have g5 := g3.trans x5.gr x3.en.iv.ats
        have f5 := f3.step x5.gr
        cases b with
        | false =>
          refine iteF ?_
          exact ⟨by omega, G5, ad5, T4, acc, x5.en.iv, g5, f5, h5⟩
        | true =>
          refine iteT ?_
          rw [if_pos rfl] at h5
          obtain ⟨y, T6, h6, h7⟩ := bindF_eq h5
          refine ⟨Z, G5, ad5, T4, ρ3, pa, y, T6, x5.en, h6, fun u G7 ad7 H7 x7 r7 => ?_⟩
          have g7 := g5.trans x7.gr x5.en.iv.ats
          have f7 := f5.step x7.gr
          split at h7
          · rename_i hz
            obtain ⟨us, q1, q2⟩ := f7.at_
            refine ⟨us, q1, by rw [q2.length]; exact hz, by omega, G7, ad7, T6, acc ++ [y], x7.en.iv.mine f7.g f7.a f7.h _, ⟨g7.ex, g7.pr, fun b o hb hm => ?_, g7.nG, g7.nA⟩, f7.put q1 q2 r7, h7⟩
            rw [upd_ne (ne_of_none hb hp)]
            exact g7.fr b o hb hm
          · cases h7
    · have hi' : ds.length ≤ i := Nat.le_of_not_lt hlt
      rw [List.drop_eq_nil_of_le hi'] at h3
      cases h3
      exact .inl ⟨it.stop _ _ _ _ _ _ _ _ i N2 g2.ex g2.pr hi', k p G2 ad2 Hc ⟨N2, x1.gr.trans g2 x1.en.iv.ats⟩ ⟨f2.g, f2.a, f2.h, own_ne, f2.at_⟩ hp0⟩
  · cases hf
section
variable {X : Cx} {e : Expr} {st : Stmt} {t : Tgt} {fs : FA} {c : FT} {f : FE} {vs : List Nat}
theorem xl_lc (h : PE X e (tLc (tDI X.K fs) (tgT X.K t) (tDT X.K c) (tD X.K f) vs)) : XL X e (compF t fs c f vs) := pe_weak h fun _ _ _ => lc_imp
/-- name = [..] -/
theorem asg_lc {i : Nat} (h : PS X st (tAsg (tLc (tDI X.K fs) (tgT X.K t) (tDT X.K c) (tD X.K f) vs) (gName i))) : PS X st (tAsg (tDL X.K (compF t fs c f vs)) (gName i)) := ps_weak h fun _ _ _ hw => lc_imp hw
/-- over a new list -/
def itN (f : FA) : FA := f
theorem xi_new {tg : Expr} (h : XL X e fs) : XI X tg e fs := pi_weak (pi_list h) fun σ H R h => by
  obtain ⟨Z, G, ad, T, ρ, pa, ds, T', N, hf, k⟩ := h
  refine ⟨Z, G, ad, T, ρ, pa, ds, T', N, hf, fun p G1 ad1 H1 x1 w1 hp => ?_⟩
  obtain ⟨G2, x2, e2, r2⟩ := x1.learn w1 hp
  obtain ⟨a, us, q, hh, hr⟩ := r2.inv_lst
  cases q
  exact ⟨p, rfl, ⟨us, .inl (.inl (x2.en.iv.ex _ _ hh))⟩, k _ G2 ad1 H1 x2 (itOk_lst (.inl (.inl hh)) hr)⟩
end

/-! ### a def -/
def runB (g : FS) (n : Nat) : HF := fun ds T => match g (ds.map Sl.dat ++ List.replicate (n - ds.length) Sl.un) T with
  | some (.rt d, T') => some (d, T')
  | some (.nx _, T') => some (.non, T')
  | _ => none
theorem en_start {K : PySem.W.Frag} {G : Hp} {ad : List Addr} {T : Tm} {H : Hp} {vs : List V} {ds : List D} {N : List Str} (I : Iv K ⟨G, H, ad⟩ G ad T H) (r : RpL K G ad vs ds) :
    En K ⟨G, H, ad⟩ G ad T (ds.map Sl.dat ++ List.replicate (N.length - ds.length) Sl.un) (L2.start N vs) H (fun _ => 0) := by
  have key : ∀ (i : Nat) (s : Sl), (ds.map Sl.dat ++ List.replicate (N.length - ds.length) Sl.un)[i]? = some s → s = .un ∨ ∃ d, ds[i]? = some d ∧ s = .dat d := fun i s h => by
    by_cases hi : i < ds.length
    · rw [List.getElem?_append_left (by rw [List.length_map]; exact hi), List.getElem?_map, List.getElem?_eq_getElem hi] at h
      cases h
      exact .inr ⟨_, List.getElem?_eq_getElem hi, rfl⟩
    · rw [List.getElem?_append_right (by rw [List.length_map]; omega)] at h
      have := List.mem_of_getElem? h
      rw [List.mem_replicate] at this
      exact .inl this.2
  refine ⟨I, ?_, fun i s h => ?_, fun i j es fs h1 h2 _ => ?_⟩
  · unfold L2.start
    rw [List.length_append, List.length_append, List.length_map, List.length_map, List.length_replicate, List.length_replicate, r.length]
  · rcases key i s h with rfl | ⟨d, h1, rfl⟩
    · trivial
    · obtain ⟨v, h2, h3⟩ := r.get h1
      refine ⟨v, ?_, h3⟩
      unfold L2.start
      rw [List.getElem?_append_left (by rw [List.length_map]; exact (List.getElem?_eq_some_iff.mp h2).1), List.getElem?_map, h2]
      rfl
  · rcases key i _ h1 with e | ⟨d, _, e⟩ <;> cases e
theorem fn_ok {P : Program} {w : World} {K : PySem.W.Frag} {mg : Str → Option Value} {base : Heap} {x qual : Str} {st : Stmt} {f : Addr} {fd : FuncData} {N ps : List Str} {k : Nat} {g : FS} (F : Fun K x qual st f fd) (S : FnScope N ps (defScope st))
    (hbody : ∀ (cdv : Value) (A : Around) (outer : List Env) (s : Shared) (H : Hp) (E : XK), Room k (A.deeper (envOfC qual (defScope st) s.heap.objs.size f cdv)) →
      XSs (cxOf CX0 P w K mg base N qual (defScope st) f cdv A outer s H E).nox (defBody st) g) : FnOk P w K mg base CX0 (k + 1) f fd ps (Sf K ps.length (runB g N.length)) := by
  refine F.ok S (fun vs H Q E h => h.1) (fun cdv A outer s H vs Q E hr h => ?_)
  obtain ⟨hn, G, ad, T, ds, d, T', I, r, hf, q⟩ := h
  refine ⟨_, hbody cdv A outer s H E hr, ⟨G, H, ad⟩, G, ad, T, (ds.map Sl.dat ++ List.replicate (N.length - ds.length) Sl.un), fun _ => 0, ?_⟩
  unfold runB at hf
  split at hf
  · rename_i d' T1 e
    cases hf
    exact ⟨.rt d, T', en_start I r, e, fun v G' ad' H' I' _ _ r' => q v G' ad' H' I' r'⟩
  · rename_i ρ' T1 e
    cases hf
    exact ⟨.nx ρ', T', en_start I r, e, fun σ' G' ad' H' pa' N' _ _ => q .non G' ad' H' N'.iv .non⟩
  · cases hf
end Fx
set_option maxHeartbeats 4000000
namespace Fx
open PySem PySem.Spec PyProof.Rows L2
open Evl (Ex)
/-! ### a tuple once -/
theorem mul_once (l : Addr) (xs : Array Value) (m : Nat) (dd : Option Addr) (sl : Array (Option Value)) (u : Tok) (hne : xs.isEmpty = false) :
    Meets (Builtin.«tuple.__mul__» ⟨[.ref l, .int 1 u], []⟩) (fun _ R s =>
      s.heap.get? l = some { cls := .type "tuple", dict := dd, data := .seq xs m, slots := sl } ∧ R (.ok (.ret (.ref l))) s) :=
  .of_wp fun prog w A R s h => by
    obtain ⟨hp, g, d, tk, os⟩ := s
    obtain ⟨hl, h⟩ := h
    have f1 := AutoSeq1.idx_int
    wp_walk using wpAny_loadPart' hl
    exact ⟨_, rfl, h⟩
def rOnce (K : PySem.W.Frag) : R2 := fun x y H Q => ∃ l xs, x = .ref l ∧ y = .int 1 ∧ SqT K H l xs ∧ xs ≠ [] ∧ Q (.ref l) H
section
variable {X : Cx}
theorem op_once : OpR X (binaryOp .Mult) (rOnce X.K) := by
  intro pins s σ H x y v u Q I rx ry h
  obtain ⟨l, xs, rfl, rfl, ht, hne, q⟩ := h
  cases rx
  obtain ⟨t, rfl⟩ := ry
  obtain ⟨its, r, hx, _⟩ := I.tuple ht
  obtain ⟨⟨cl, dd, da, sl⟩, ho, hc, m, hd⟩ := hx
  simp only at hc hd
  subst hc hd
  have he : its.toArray.isEmpty = false := by
    cases its with
    | nil =>
      cases r
      exact absurd rfl hne
    | cons a b => rfl
  refine wpAny_binaryOp_repeat_ref (T := "tuple") (U := "int") (by decide)
    ⟨_, ho, rfl⟩ (fun s' => typeIs_int s' 1 t) noFill_tuple_mul F.fills_int_mul
    F.slot_int_rmul repeat_tuple F.slot_int_index.lookup ?_
  refine call_meets F.slot_int_rmul (typeIs_int s 1 t) F.entry_int_rmul
    (F.args_int_rmul_2 _ _) (int_rmul_tuple 1 t l its.toArray m dd sl) ⟨ho, rfl, ⟨_, ho, rfl⟩, ?_⟩
  refine call_meets F.slot_tuple_mul ⟨_, ho, rfl⟩ F.entry_tuple_mul
    (F.args_tuple_mul_2 _ _) (mul_once l its.toArray m dd sl t he) ⟨ho, ?_⟩
  exact ⟨.ref l, H, I, rfl, q⟩
end
end Fx
set_option maxHeartbeats 4000000
namespace Fx
open PySem PySem.Spec PyProof.Rows L2
open Evl (Ex)
/-! ### t[::-1] -/
section
variable {prog : Program} {w : World} {A : Around} {E : Value → Shared → Prop} {s : Shared}
theorem back_places (n : Nat) : Builtin.Slice.slicePlaces ((n : Int) - 1) (-1) (-1) = n := by
  unfold Builtin.Slice.slicePlaces
  rw [if_neg (by decide)]
  by_cases h : (n : Int) - 1 > -1
  · rw [if_pos h]
    have : ((n : Int) - 1 - -1 - 1) / (- -1) + 1 = (n : Int) := by
      rw [show (- -1 : Int) = 1 from rfl, Int.ediv_one]
      omega
    rw [this]
    rfl
  · rw [if_neg h]
    have : n = 0 := by omega
    rw [this]
    rfl
theorem back_applied {sl : Addr} {vl vu vs : Value} {n : Nat} {Q : Int × Int × Nat → Shared → Prop} (hs : s.heap.IsSliceOf sl vl vu vs)
    (pl : IsPart vl none) (pu : IsPart vu none) (ps : IsPart vs (some (-1))) (h : Q ((n : Int) - 1, -1, n) s) :
    wpAny (model prog w) A (Builtin.Slice.sliceApplied (.ref sl) (pure (n : Int))) Q E s := by
  obtain ⟨ob, hob, _, hd⟩ := id hs
  unfold Builtin.Slice.sliceApplied
  unfold Builtin.Slice.sliceFields
  refine wpAny_bind (wpAny_bind (wpAny_field hob hd (x := vl) rfl (wpAny_bind
    (wpAny_field hob hd (x := vu) rfl (wpAny_bind (wpAny_field hob hd (x := vs) rfl (wpAny_pure ?_)))))))
  refine wpAny_bind (HT.slicePart_ ps ?_)
  show wpAny _ _ (if ((-1 : Int) == 0) = true then _ else _) _ _ s
  rw [if_neg (by decide : ¬ ((-1 : Int) == 0) = true)]
  refine wpAny_bind (HT.slicePart_ pl (wpAny_bind (HT.slicePart_ pu ?_)))
  refine wpAny_bind (wpAny_pure ?_)
  show wpAny _ _ (pure ((n : Int) - 1, (-1 : Int), Builtin.Slice.slicePlaces ((n : Int) - 1) (-1) (-1))) _ _ s
  rw [back_places]
  exact wpAny_pure h
theorem back_pick (xs : Array Value) : (List.range xs.size).filterMap (fun (k : Nat) => xs[((xs.size : Int) - 1 + (k : Int) * -1).toNat]?) = xs.toList.reverse := by
  have e : (List.range xs.size).filterMap (fun (k : Nat) => xs[((xs.size : Int) - 1 + (k : Int) * -1).toNat]?) = ((List.range xs.size).map fun k => xs.size - 1 - k).filterMap (xs[·]?) := by
    rw [List.filterMap_map]
    have key : ∀ (l : List Nat), (∀ k ∈ l, k < xs.size) → l.filterMap (fun (k : Nat) => xs[((xs.size : Int) - 1 + (k : Int) * -1).toNat]?) = l.filterMap ((fun x => xs[x]?) ∘ fun k => xs.size - 1 - k) := by
      intro l
      induction l with
      | nil => intro _; rfl
      | cons k l ih =>
        intro h
        have hk := h k List.mem_cons_self
        have e1 : ((xs.size : Int) - 1 + (k : Int) * -1).toNat = xs.size - 1 - k := by omega
        rw [List.filterMap_cons, List.filterMap_cons, ih fun j hj => h j (List.mem_cons_of_mem _ hj), e1]
        rfl
    exact key _ fun k hk => List.mem_range.mp hk
  rw [e, PySem.W.krv_range, List.filterMap_reverse, PySem.W.krv_all]
theorem back_tuple {t sl : Addr} {xs : Array Value} {vl vu vs : Value} {Q : Value → Shared → Prop} (ht : IsTup s.heap t xs) (hs : s.heap.IsSliceOf sl vl vu vs)
    (pl : IsPart vl none) (pu : IsPart vu none) (ps : IsPart vs (some (-1))) (hz : xs.size ≤ sizeLine)
    (h : Q (.ref s.heap.objs.size) { s with heap := s.heap.push { cls := .type "tuple", data := .seq xs.toList.reverse.toArray } }) :
    wpAny (model prog w) A (getItem (.ref t) (.ref sl)) Q E s := by
  have fits : sizeOk (.seq xs.toList.reverse.toArray) := by
    show xs.toList.reverse.toArray.size ≤ sizeLine
    rw [List.size_toArray, List.length_reverse, Array.length_toList]
    exact hz
  obtain ⟨ob, hob, hcb, _⟩ := id hs
  have hty : s.TypeIs (.ref sl) "slice" := ⟨ob, hob, hcb⟩
  unfold getItem
  try with_reducible refine wpAny_holding ?_
  first | refine wpAny_bind (wpAny_pure ?_) | skip
  refine wpAny_bind (wpAny_sequenceKey ht.typeIs (by decide) ?_)
  refine wpAny_bind (wpAny_callSpecial?_slot (name := Str.ofString "__getitem__") ht.typeIs
    PyProof.Rows.slot_tuple_getitem (wpAny_call_entry PyProof.Rows.slot_tuple_getitem ht.typeIs PyProof.Rows.entry_tuple_getitem ?_ (PyProof.Rows.args_tuple_getitem _ _)))
  show wpAny _ _ (Builtin.Tuple.tupleItemsOf (.ref t) >>= _) _ _ s
  refine wpAny_bind (PyProof.Rows.tupleItemsOf_ ht ?_)
  refine wpAny_bind (wpAny_typeOf hty ?_)
  rw [if_pos (by decide)]
  refine wpAny_bind (back_applied (n := xs.size) hs pl pu ps ?_)
  have no : ¬ (((xs.size : Int) - 1 == 0 && (-1 : Int) == 1 && xs.size == xs.size) = true) := by
    intro q
    rw [Bool.and_eq_true, Bool.and_eq_true] at q
    exact absurd q.1.2 (by decide)
  show wpAny _ _ (if (((xs.size : Int) - 1 == 0 && (-1 : Int) == 1 && xs.size == xs.size) = true) then _ else _) _ _ s
  rw [if_neg no, back_pick]
  first
    | exact wpAny_bind (m := Builtin.Tuple.tupleExact _) (wpAny_newObj_type (wpAny_pure ⟨_, rfl, wpAny_pure h⟩) fits)
    | exact wpAny_bind (m := Builtin.Tuple.tupleExact _) (wpAny_newObj_type (wpAny_bind (wpAny_pure (wpAny_pure ⟨_, rfl, wpAny_pure h⟩))) fits)
    | exact wpAny_bind (wpAny_bind (m := Builtin.Tuple.tupleExact _) (wpAny_newObj_type (wpAny_pure (wpAny_pure ⟨_, rfl, wpAny_pure h⟩)) fits))
    | exact wpAny_bind (wpAny_bind (m := Builtin.Tuple.tupleExact _) (wpAny_newObj_type (wpAny_pure ⟨_, rfl, wpAny_pure h⟩) fits))
end
section
variable {X : Cx}
def tBackT (K : PySem.W.Frag) (te : TE) : TE := fun σ H Q => te σ H fun x H1 => ∃ a xs, x = .ref a ∧ SqT K H1 a xs ∧ Tn H1 Q xs.reverse
theorem pe_backT {e : Expr} {te : TE} {k : Nat} {p1 p2 p3 pos : Pos} (he : PE X e te) : PE X (.Subscript e (.Slice none none (some (.UnaryOp .USub (.Constant (.int 1) k p1) p2)) p3) pos) (tBackT X.K te) := by
  refine ⟨fun pins s σ H Q I h => ?_⟩
  refine Subscript_ (thn (he.run pins s σ H _ I h) fun v s1 hv => ?_)
  obtain ⟨x, H1, I1, r1, a, xs, ex, hx, q⟩ := hv
  subst ex
  cases r1
  have hst : PO X (some (.UnaryOp .USub (.Constant (.int 1) k p1) p2)) (tPart (tUn (rU fun i => .int (-i)) (tC (.int 1)))) := po_some (pe_un un_neg pe_int)
  refine wpAny_Slice (thn (po_none.run pins s1 σ H1 (fun o H2 => o = none ∧ H2 = H1) I1 ⟨rfl, rfl⟩) fun vl s2 h2 => ?_)
  obtain ⟨l, H2, I2, pl, el, e2⟩ := h2
  subst el e2
  refine thn (po_none.run pins s2 σ H2 (fun o H3 => o = none ∧ H3 = H2) I2 ⟨rfl, rfl⟩) fun vu s3 h3 => ?_
  obtain ⟨u, H3, I3, pu, eu, e3⟩ := h3
  subst eu e3
  refine thn (hst.run pins s3 σ H3 (fun o H4 => o = some (-1) ∧ H4 = H3) I3 ⟨1, rfl, -1, rfl, rfl, rfl⟩) fun vs s4 h4 => ?_
  obtain ⟨o, H4, I4, ps, eo, e4⟩ := h4
  subst eo e4
  have I5 := I4.kept (h' := s4.heap.push { cls := .type "slice", data := .fields #[vl, vu, vs] }) (t' := s4.toks) fun b ob q => Heap.get?_push_of_some _ q
  obtain ⟨its, r, ht, hz⟩ := I5.tuple hx
  have hlen := r.length
  refine tail_any (ops := [.ref a, .ref s4.heap.objs.size]) ht.typeIs (PyProof.Rows.slot_tuple_getitem.lookup) ?_ (by with_unfolding_all rfl)
  refine back_tuple ht (Heap.IsSliceOf.new _ vl vu vs) pl pu ps (by rw [List.size_toArray]; omega) ?_
  exact lay_tup I5 r.reverse (by rw [List.length_reverse]; exact hz) q s4.toks
end
end Fx
set_option maxHeartbeats 4000000
namespace Fx
open PySem PySem.Spec PyProof.Rows L2
open Evl (Ex)
section
variable {X : Cx} {a b c : Expr} {es : List Expr} {st : Stmt} {sts : List Stmt} {pos : Pos} {f1 f2 f3 : FE} {o1 : FO} {fs : FA} {t1 : FT} {g1 g2 : FS}
/-! ### * -/
noncomputable def cRep (n : Nat) (k : Int) : Bool := dc (-9223372036854775808 ≤ k ∧ k < 9223372036854775808 ∧ n * k.toNat ≤ sizeLine)
noncomputable def cRepT (xs : List D) (k : Int) : Bool := dc (xs ≠ [] ∧ 1 ≤ k ∧ (k = 1 ∨ (k ≤ 1000 ∧ xs.length ≤ 1000)))
noncomputable def mulD : D → D → Option D
  | .int i, .int j => if cMul i j then some (.int (i * j)) else none
  | .lst xs, .int k => if cRep xs.length k then some (.lst (List.replicate k.toNat xs).flatten) else none
  | .tup xs, .int k => if cRepT xs k then some (.tup (List.replicate k.toNat xs).flatten) else none
  | _, _ => none
def rMulU (K : PySem.W.Frag) : R2 := fun x y H Q => (rI CMul fun i j => .int (i * j)) x y H Q ∨ rRep x y H Q ∨ rRepP K x y H Q ∨ rOnce K x y H Q
theorem op_mulU : OpR X (binaryOp .Mult) (rMulU X.K) := op_mul.or (op_rep.or (op_repP.or op_once))
theorem ok_mul {K : PySem.W.Frag} : OkR K (rMulU K) mulD := fun Z G ad T ρ σ H pa v w x y z Q N rx ry hg k => by
  unfold mulD at hg
  split at hg
  · split at hg
    · rename_i hc
      cases hg
      exact .inl ⟨_, _, rx.inv_int, ry.inv_int, cMul_ok _ _ hc, k _ G ad H N.nx (.int _)⟩
    · cases hg
  · split at hg
    · rename_i xs kk hc
      cases hg
      replace hc := of_dc hc
      obtain ⟨p, vs, rfl, h1, r1⟩ := rx.inv_lst
      refine .inr (.inl ⟨p, _, vs, rfl, ry.inv_int, N.iv.ex _ _ h1, by omega, by omega, by rw [r1.length]; exact hc.2.2, fun q hq => ?_⟩)
      have x := N.knowN hq (.lst (List.replicate kk.toNat vs).flatten)
      exact k _ _ _ _ x (.lst upd_same (x.rpl (r1.rep _)))
    · cases hg
  · split at hg
    · rename_i xs kk hc
      cases hg
      replace hc := of_dc hc
      obtain ⟨p, vs, rfl, h1, r1⟩ := rx.inv_tup
      have hv : vs ≠ [] := fun e => by
        subst e
        cases r1
        exact hc.1 rfl
      by_cases h2 : 2 ≤ kk
      · refine .inr (.inr (.inl ⟨p, _, vs, rfl, ry.inv_int, N.iv.tup h1, hv, h2, by rcases hc.2.2 with h | h <;> omega, by rw [r1.length]; rcases hc.2.2 with h | h; omega; exact h.2, fun q o hq hd => ?_⟩))
        have x := N.knowN hq (.frz o (.tup (List.replicate kk.toNat vs).flatten))
        exact k _ _ _ _ x (.tup (TupK.new hd) (x.rpl (r1.rep _)))
      · have e1 : kk = 1 := by have := hc.2.1; omega
        subst e1
        refine .inr (.inr (.inr ⟨p, vs, rfl, ry.inv_int, N.iv.tup h1, hv, k _ G ad H N.nx (.tup h1 ?_)⟩))
        have r2 := r1.rep 1
        have e2 : (List.replicate 1 vs).flatten = vs := by simp [List.replicate]
        rw [e2] at r2
        exact r2
    · cases hg
  · cases hg
theorem xe_mul (h1 : XE X a f1) (h2 : XE X b f2) : XE X (.BinOp a .Mult b pos) (binF mulD f1 f2) := xe_op op_mulU ok_mul h1 h2
/-- a new list, [x] * n, of one's own -/
noncomputable def repF (f : FA) (g : FE) : FA := fun ρ T => bindF (f ρ T) fun xs T1 => bindF (g ρ T1) fun y T2 => match y with
  | .int k => if cRep xs.length k then some ((List.replicate k.toNat xs).flatten, T2) else none
  | _ => none
theorem xl_rep (h1 : XL X a fs) (h2 : XE X b f2) : XL X (.BinOp a .Mult b pos) (repF fs f2) := pe_weak (pe_op op_rep (xe_frz h1) h2) fun σ H Q h => by
  obtain ⟨Z, G, ad, T, ρ, pa, d, T', N, hf, k⟩ := h
  obtain ⟨xs, T1, e1, e2⟩ := bindF_eq hf
  obtain ⟨y, T2, e3, e4⟩ := bindF_eq e2
  refine ⟨Z, G, ad, T, ρ, pa, .lst xs, T1, N, by unfold frzF; rw [e1]; rfl, fun v G1 ad1 H1 x1 r1 => ⟨Z, G1, ad1, T1, ρ, pa, y, T2, x1.en, e3, fun w G2 ad2 H2 x2 r2 => ?_⟩⟩
  split at e4
  · split at e4
    · rename_i hc
      cases e4
      replace hc := of_dc hc
      obtain ⟨p, vs, rfl, h1, q1⟩ := (x2.rp r1).inv_lst
      refine ⟨p, _, vs, rfl, r2.inv_int, x2.en.iv.ex _ _ h1, by omega, by omega, by rw [q1.length]; exact hc.2.2, fun q hq => ?_⟩
      have x3 := x1.trans x2
      obtain ⟨N2, w2⟩ := x3.en.laid hq (q1.rep _)
      refine k q G2 ad2 _ ⟨N2, x3.gr.ex, x3.gr.pr, fun b o hb hm => ?_, x3.gr.nG, x3.gr.nA⟩ w2 (x3.gr.back x3.en.iv.ats hq)
      have q' := x3.gr.fr b o hb hm
      rw [upd_ne (ne_of_none q' hq)]
      exact q'
    · cases e4
  · cases e4

/-! ### slices of whatever comes -/
def rSlU (K : PySem.W.Frag) : V → Option Int → Option Int → Hp → VK → Prop := fun x lo hi H Q => rSlP K x lo hi H Q ∨ rSlL K x lo hi H Q ∨ rSlS x lo hi H Q
theorem sl_U : L2.SlR X (rSlU X.K) := sl_tupP.or (sl_list.or sl_str)
def slD (T : Tm) (o : Op) (lo hi : Option Int) : Option D := match seqD T o with
  | some (true, ds) => some (.tup (cutD ds lo hi))
  | some (false, ds) => some (.lst (cutD ds lo hi))
  | none => match o with
    | .val (.str s) => if s.length ≤ sizeLine then some (.str (cutS s lo hi)) else none
    | _ => none
def slF (fo : FO) (l u : FB) : FE := fun ρ T => bindF (fo ρ T) fun o T1 => bindF (l ρ T1) fun lo T2 => bindF (u ρ T2) fun hi T3 => (slD T3 o lo hi).map fun d => (d, T3)
variable {l u : FB} {lo hi : Option Expr} {p2 : Pos}
theorem xe_sl (ho : XO X a o1) (hl : XB X lo l) (hu : XB X hi u) : XE X (.Subscript a (.Slice lo hi none p2) pos) (slF o1 l u) := pe_weak (pe_slice sl_U ho hl hu) fun σ H Q h => by
  obtain ⟨Z, G, ad, T, ρ, pa, d, T', N, hf, k⟩ := h
  obtain ⟨o, T1, h1, h2⟩ := bindF_eq hf
  obtain ⟨i, T2, h3, h4⟩ := bindF_eq h2
  obtain ⟨j, T3, h5, h6⟩ := bindF_eq h4
  obtain ⟨z, h7, h8⟩ := Option.map_eq_some_iff.mp h6
  cases h8
  refine ⟨Z, G, ad, T, ρ, pa, o, T1, N, h1, fun v G1 ad1 H1 x1 r1 => ⟨Z, G1, ad1, T1, ρ, pa, i, T2, x1.en, h3, fun G2 ad2 H2 x2 => ⟨Z, G2, ad2, T2, ρ, pa, j, _, x2.en, h5, fun G3 ad3 H3 x3 => ?_⟩⟩⟩
  have x := (x1.trans x2).trans x3
  have r3 := (r1.mono x2).mono x3
  unfold slD at h7
  split at h7
  · rename_i ds hs'
    cases h7
    obtain rfl := seqD_tup hs'
    obtain ⟨p, vs, rfl, hG, hr⟩ := Rp.inv_tup r3
    refine .inl ⟨p, vs, rfl, x.en.iv.tup hG, fun hw => ?_, fun _ q o hq hd => ?_⟩
    · have e : cutV vs i j = vs := by
        unfold cutV
        rw [hw.1, hw.2, List.drop_zero, Nat.sub_zero, List.take_length]
      have r4 := cut_rel hr i j
      rw [e] at r4
      exact k _ G3 ad3 H3 x (.tup hG r4)
    · have x4 := x.en.knowN hq (.frz o (.tup (cutV vs i j)))
      exact k _ _ _ _ (x.trans x4) (.tup (TupK.new hd) (x4.rpl (cut_rel hr i j)))
  · rename_i ds hs'
    cases h7
    obtain ⟨p, vs, rfl, hr, hl, ht⟩ := seq_rel x.en r3 hs'
    refine .inr (.inl ⟨p, vs, rfl, hl rfl, fun q hq => ?_⟩)
    have x4 := x.en.knowN hq (.lst (cutV vs i j))
    exact k _ _ _ _ (x.trans x4) (.lst upd_same (x4.rpl (cut_rel hr i j)))
  · split at h7
    · split at h7
      · rename_i hz
        cases h7
        have := Rp.inv_str r3
        subst this
        exact .inr (.inr ⟨_, rfl, hz, k _ G3 ad3 H3 x (.str _)⟩)
      · cases h7
    · cases h7
/-- t[::-1] -/
def bkF (f : FE) : FE := fun ρ T => bindF (f ρ T) fun d T' => match d with
  | .tup ds => some (.tup ds.reverse, T')
  | _ => none
theorem xe_bk {e : Expr} (h : PE X e (tBackT X.K (tD X.K f1))) : XE X e (bkF f1) := pe_weak h fun σ H Q h => by
  obtain ⟨Z, G, ad, T, ρ, pa, d, T', N, hf, k⟩ := h
  obtain ⟨x, T1, h1, h2⟩ := bindF_eq hf
  refine ⟨Z, G, ad, T, ρ, pa, x, T1, N, h1, fun v G1 ad1 H1 x1 r1 => ?_⟩
  split at h2
  · cases h2
    obtain ⟨p, vs, rfl, hG, hr⟩ := r1.inv_tup
    refine ⟨p, vs, rfl, x1.en.iv.tup hG, fun q o hq hd => ?_⟩
    have x4 := x1.en.knowN hq (.frz o (.tup vs.reverse))
    exact k _ _ _ _ (x1.trans x4) (.tup (TupK.new hd) (x4.rpl hr.reverse))
  · cases h2

/-! ### in -/
def flD : D → Bool
  | .non => true
  | .bl _ => true
  | .int _ => true
  | .str _ => true
  | _ => false
def eq1 : D → D → Bool
  | .non, .non => true
  | .bl a, .bl b => a == b
  | .bl a, .int b => (if a then 1 else 0) == b
  | .int a, .bl b => a == (if b then 1 else 0)
  | .int a, .int b => a == b
  | .str a, .str b => a == b
  | _, _ => false
theorem fl_rel {K : PySem.W.Frag} {G : Hp} {ad : List Addr} {v : V} {d : D} (r : Rp K G ad v d) (h : flD d = true) : flatV v = true := by
  cases r <;> first | rfl | cases h
theorem fls_rel {K : PySem.W.Frag} {G : Hp} {ad : List Addr} : ∀ {vs : List V} {ds : List D}, RpL K G ad vs ds → ds.all flD = true → vs.all flatV = true
  | _, _, .nil, _ => rfl
  | _, _, .cons h t, e => by
    rw [List.all_cons, Bool.and_eq_true] at e
    rw [List.all_cons, fl_rel h e.1, fls_rel t e.2]
    rfl
theorem eq1_rel {K : PySem.W.Frag} {G : Hp} {ad : List Addr} {v w : V} {d e : D} (r : Rp K G ad v d) (q : Rp K G ad w e) : eqV v w = eq1 d e := by
  cases r <;> cases q <;> rfl
theorem in_rel {K : PySem.W.Frag} {G : Hp} {ad : List Addr} {w : V} {e : D} (q : Rp K G ad w e) : ∀ {vs : List V} {ds : List D}, RpL K G ad vs ds → inV w vs = ds.any fun d => eq1 d e
  | _, _, .nil => rfl
  | _, _, .cons h t => by
    have := in_rel q t
    unfold inV at this ⊢
    rw [List.any_cons, List.any_cons, eq1_rel h q, this]
def inB (x y : D) : Option Bool := match y with
  | .tup ds => if flD x && ds.all flD then some (ds.any fun d => eq1 d x) else none
  | .lst ds => if flD x && ds.all flD then some (ds.any fun d => eq1 d x) else none
  | _ => none
/-- over data of any depth, a list -/
def inBD (x y : D) : Option Bool := match y with
  | .lst ds => match toPy x, toPyL ds with
    | some p, some ps => if SeqAt.shaped p && SeqAt.shaped (.list ps) then some (ps.any fun z => PyData.eqv z p) else none
    | _, _ => none
  | _ => none
def inB' (x y : D) : Option Bool := match inB x y with
  | some b => some b
  | none => inBD x y
def inD : D → D → Option D := fun x y => (inB' x y).map .bl
def ninD : D → D → Option D := fun x y => (inB' x y).map fun b => .bl (!b)
theorem inB_rel {K : PySem.W.Frag} {Z : Zc} {G : Hp} {ad : List Addr} {T : Tm} {ρ : Rho} {σ : L2.St} {H : Hp} {pa : Nat → Addr} {v w : V} {x y : D} {b : Bool} (N : En K Z G ad T ρ σ H pa) (rx : Rp K G ad v x) (ry : Rp K G ad w y) (h : inB x y = some b) :
    ∃ p xs, w = .ref p ∧ (SqL K H p xs ∨ SqT K H p xs) ∧ flatV v = true ∧ xs.all flatV = true ∧ inV v xs = b := by
  unfold inB at h
  split at h
  · split at h
    · rename_i hc
      cases h
      rw [Bool.and_eq_true] at hc
      obtain ⟨p, vs, rfl, hG, hr⟩ := ry.inv_tup
      exact ⟨p, vs, rfl, .inr (N.iv.tup hG), fl_rel rx hc.1, fls_rel hr hc.2, in_rel rx hr⟩
    · cases h
  · split at h
    · rename_i hc
      cases h
      rw [Bool.and_eq_true] at hc
      obtain ⟨p, vs, rfl, hG, hr⟩ := ry.inv_lst
      exact ⟨p, vs, rfl, .inl (.inl (.inl (N.iv.ex _ _ hG))), fl_rel rx hc.1, fls_rel hr hc.2, in_rel rx hr⟩
    · cases h
  · cases h
theorem inBD_rel {K : PySem.W.Frag} {Z : Zc} {G : Hp} {ad : List Addr} {T : Tm} {ρ : Rho} {σ : L2.St} {H : Hp} {pa : Nat → Addr} {v w : V} {x y : D} {b : Bool} (N : En K Z G ad T ρ σ H pa) (rx : Rp K G ad v x) (ry : Rp K G ad w y) (h : inBD x y = some b) :
    ∃ d ds, Dp K H v d ∧ Dp K H w (.list ds) ∧ SeqAt.shaped d = true ∧ SeqAt.shaped (.list ds) = true ∧ b = ds.any fun z => PyData.eqv z d := by
  unfold inBD at h
  split at h
  · rename_i es
    split at h
    · rename_i p ps h1 h2
      split at h
      · rename_i hc
        cases h
        rw [Bool.and_eq_true] at hc
        exact ⟨p, ps, rx.dp N.iv.ex h1, ry.dp N.iv.ex (by rw [toPy, h2]; rfl), hc.1, hc.2, rfl⟩
      · cases h
    · cases h
  · cases h
def rInU (K : PySem.W.Frag) : R2 := fun x y H Q => rIn K false x y H Q ∨ rInD K x y H Q
def rNinU (K : PySem.W.Frag) : R2 := fun x y H Q => rIn K true x y H Q ∨ rNotInD K x y H Q
theorem ok_in {K : PySem.W.Frag} : OkR K (rInU K) inD := fun Z G ad T ρ σ H pa v w x y z Q N rx ry hg k => by
  obtain ⟨b, hb, rfl⟩ := Option.map_eq_some_iff.mp hg
  unfold inB' at hb
  split at hb
  · rename_i b' hb'
    cases hb
    obtain ⟨p, xs, rfl, h1, h2, h3, rfl⟩ := inB_rel N rx ry hb'
    exact .inl ⟨p, xs, rfl, h1, h2, h3, k _ G ad H N.nx (.bl _)⟩
  · obtain ⟨d, ds, h1, h2, h3, h4, rfl⟩ := inBD_rel N rx ry hb
    exact .inr ⟨d, ds, h1, h2, h3, h4, k _ G ad H N.nx (.bl _)⟩
theorem ok_nin {K : PySem.W.Frag} : OkR K (rNinU K) ninD := fun Z G ad T ρ σ H pa v w x y z Q N rx ry hg k => by
  obtain ⟨b, hb, rfl⟩ := Option.map_eq_some_iff.mp hg
  unfold inB' at hb
  split at hb
  · rename_i b' hb'
    cases hb
    obtain ⟨p, xs, rfl, h1, h2, h3, rfl⟩ := inB_rel N rx ry hb'
    exact .inl ⟨p, xs, rfl, h1, h2, h3, k _ G ad H N.nx (.bl _)⟩
  · obtain ⟨d, ds, h1, h2, h3, h4, rfl⟩ := inBD_rel N rx ry hb
    exact .inr ⟨d, ds, h1, h2, h3, h4, k _ G ad H N.nx (.bl _)⟩
theorem op_inU {k : Nat} (hr : Room k X.A) : OpR X (compareOp .In) (rInU X.K) := op_in_seq.or (op_inD (by have := hr.un; omega))
theorem op_ninU {k : Nat} (hr : Room k X.A) : OpR X (compareOp .NotIn) (rNinU X.K) := op_notIn_seq.or (op_notInD (by have := hr.un; omega))
theorem xe_in {k : Nat} (hr : Room k X.A) (h1 : XE X a f1) (h2 : XE X b f2) (hm : behindInMarks .In b = false := by rfl) : XE X (.Compare a [.In] [b] pos) (binF inD f1 f2) := xe_cmp (op_inU hr) ok_in h1 h2 hm
theorem xe_nin {k : Nat} (hr : Room k X.A) (h1 : XE X a f1) (h2 : XE X b f2) (hm : behindInMarks .NotIn b = false := by rfl) : XE X (.Compare a [.NotIn] [b] pos) (binF ninD f1 f2) := xe_cmp (op_ninU hr) ok_nin h1 h2 hm
theorem xt_in {k : Nat} (hr : Room k X.A) (h1 : XE X a f1) (h2 : XE X b f2) (hm : behindInMarks .In b = false := by rfl) : XT X (.Compare a [.In] [b] pos) (testF (binF inD f1 f2)) := xt_cmp (op_inU hr) ok_in h1 h2 hm
theorem xt_nin {k : Nat} (hr : Room k X.A) (h1 : XE X a f1) (h2 : XE X b f2) (hm : behindInMarks .NotIn b = false := by rfl) : XT X (.Compare a [.NotIn] [b] pos) (testF (binF ninD f1 f2)) := xt_cmp (op_ninU hr) ok_nin h1 h2 hm

/-! ### a < b < c -/
def chF (g h : D → D → Option D) (f1 f2 f3 : FE) : FE := fun ρ T => bindF (f1 ρ T) fun x T1 => bindF (f2 ρ T1) fun y T2 => match g x y with
  | some (.bl true) => bindF (f3 ρ T2) fun z T3 => match h y z with
    | some r => some (r, T3)
    | none => none
  | some (.bl false) => some (.bl false, T2)
  | _ => none
def NoAl (K : PySem.W.Frag) (r : R2) (g : D → D → Option D) : Prop := ∀ (Z : Zc) (G : Hp) (ad : List Addr) (T : Tm) (ρ : Rho) (σ : L2.St) (H : Hp) (pa : Nat → Addr) (v w : V) (x y z : D) (Q : VK),
  En K Z G ad T ρ σ H pa → Rp K G ad v x → Rp K G ad w y → g x y = some z → (∀ u, Rp K G ad u z → Q u H) → r v w H Q
theorem na_ii0 {K : PySem.W.Frag} {C : Int → Int → Bool} {gV : Int → Int → V} {f : Int → Int → D} (hf : ∀ i j G ad, Rp K G ad (gV i j) (f i j)) : NoAl K (rI0 gV) (iiF C f) :=
  fun Z G ad T ρ σ H pa v w x y z Q N rx ry hg k => by
    obtain ⟨i, j, rfl, rfl, h, rfl⟩ := iiF_eq hg
    exact ⟨i, j, rx.inv_int, ry.inv_int, k _ (hf i j G ad)⟩
theorem ch_run {r r' : R2} {g h : D → D → Option D} {σ : L2.St} {H : Hp} {Q : VK} (hr : NoAl X.K r g) (hr' : OkR X.K r' h) (hw : tD X.K (chF g h f1 f2 f3) σ H Q) : tChain r r' (tD X.K f1) (tD X.K f2) (tD X.K f3) σ H Q := by
  obtain ⟨Z, G, ad, T, ρ, pa, d, T', N, hf, k⟩ := hw
  obtain ⟨x, T1, e1, e2⟩ := bindF_eq hf
  obtain ⟨y, T2, e3, e4⟩ := bindF_eq e2
  refine ⟨Z, G, ad, T, ρ, pa, x, T1, N, e1, fun v G1 ad1 H1 x1 r1 => ⟨Z, G1, ad1, T1, ρ, pa, y, T2, x1.en, e3, fun w G2 ad2 H2 x2 r2 => ?_⟩⟩
  split at e4
  · rename_i hg
    obtain ⟨z, T3, e5, e6⟩ := bindF_eq e4
    refine hr Z G2 ad2 T2 ρ σ H2 pa v w x y _ _ x2.en (x2.rp r1) r2 hg fun u ru => ⟨true, ru.inv_bl, iteT ?_⟩
    refine ⟨Z, G2, ad2, T2, ρ, pa, z, T3, x2.en, e5, fun w' G3 ad3 H3 x3 r3 => ?_⟩
    split at e6
    · rename_i zz hh
      cases e6
      exact hr' Z G3 ad3 _ ρ σ H3 pa w w' y z _ Q x3.en (x3.rp r2) r3 hh fun u G4 ad4 H4 x4 r4 => k u G4 ad4 H4 (((x1.trans x2).trans x3).trans x4) r4
    · cases e6
  · rename_i hg
    cases e4
    exact hr Z G2 ad2 _ ρ σ H2 pa v w x y _ _ x2.en (x2.rp r1) r2 hg fun u ru => ⟨false, ru.inv_bl, iteF (k _ G2 ad2 H2 (x1.trans x2) (.bl _))⟩
  · cases e4
theorem xe_ch {e : Expr} {r r' : R2} {g h : D → D → Option D} (hr : NoAl X.K r g) (hr' : OkR X.K r' h) (hp : PE X e (tChain r r' (tD X.K f1) (tD X.K f2) (tD X.K f3))) : XE X e (chF g h f1 f2 f3) := pe_weak hp fun _ _ _ => ch_run hr hr'
theorem xt_ch {e : Expr} {r r' : R2} {g h : D → D → Option D} (hr : NoAl X.K r g) (hr' : OkR X.K r' h) (hp : PT X e (tTest (tChain r r' (tD X.K f1) (tD X.K f2) (tD X.K f3)))) : XT X e (testF (chF g h f1 f2 f3)) := pt_weak hp fun _ _ _ hw => by
  have q := test_run hw
  exact ch_run hr hr' q

/-! ### a = b = e; a, b = e, f; try without a raise -/
def asg2F (i j : Nat) (f : FE) : FS := fun ρ T => bindF (f ρ T) fun d T' => some (.nx ((ρ.set i (.dat d)).set j (.dat d)), T')
theorem xs_asg2 {i j : Nat} (h : PS X st (tAsg2 (tD X.K f1) (gName i) (gName j))) : XS X st (asg2F i j f1) := ps_weak h fun D σ H h => by
  obtain ⟨Z, G, ad, T, ρ, pa, r, T', N, hf, k⟩ := h
  obtain ⟨d, T1, h1, h2⟩ := bindF_eq hf
  cases h2
  exact ⟨Z, G, ad, T, ρ, pa, d, _, N, h1, fun v G1 ad1 H1 x1 r1 => k _ G1 ad1 H1 pa ((x1.en.setD i r1).setD j r1) x1.gr.ex x1.gr.pr⟩
def parF (i j : Nat) (fs : FA) : FS := fun ρ T => bindF (fs ρ T) fun ds T' => match ds with
  | [x, y] => some (.nx ((ρ.set i (.dat x)).set j (.dat y)), T')
  | _ => none
theorem xs_par {i j : Nat} (h : PS X st (tPar i j (tDA X.K fs))) : XS X st (parF i j fs) := ps_weak h fun D σ H h => by
  obtain ⟨Z, G, ad, T, ρ, pa, r, T', N, hf, k⟩ := h
  obtain ⟨ds, T1, h1, h2⟩ := bindF_eq hf
  refine ⟨Z, G, ad, T, ρ, pa, ds, T1, N, h1, fun vs G1 ad1 H1 x1 r1 => ?_⟩
  split at h2
  · cases h2
    obtain ⟨v, w, rfl, q1, q2⟩ := r1.two
    exact ⟨v, w, rfl, k _ G1 ad1 H1 pa ((x1.en.setD i q1).setD j q2) x1.gr.ex x1.gr.pr⟩
  · cases h2
theorem ps_tryQ {body : List Stmt} {h0 : ExceptHandler} {hs : List ExceptHandler} {t : TS} (hx : X.xe = fun _ _ => False) (hb : PSs X body t) : PS X (.Try body (h0 :: hs) [] [] pos) t := by
  refine ⟨fun pins s σ H D I h => ?_⟩
  refine wpAny_Try_except ?_
  refine wpAny_mono (hb.run pins s σ H D I h) (fun f s1 q => ?_) fun e s1 z => ?_
  · cases f with
    | next => exact wpAny_execs_nil q
    | _ => exact q
  · rw [hx] at z
    exact z.elim
theorem xs_tryQ {body : List Stmt} {h0 : ExceptHandler} {hs : List ExceptHandler} (hx : X.xe = fun _ _ => False) (hb : XSs X body g1) : XS X (.Try body (h0 :: hs) [] [] pos) g1 := ps_tryQ hx hb
end

/-! ### what a caller knows of a def -/
structure Cal (P : Program) (w : World) (K : PySem.W.Frag) (mg : Str → Option Value) (base : Heap) (x : Str) (k n : Nat) (h : HF) : Prop where
  ok : ∃ f fd ps, FnOk P w K mg base CX0 k f fd ps (Sf K n h) ∧ mg x = some (.ref f) ∧ PySem.W.keepIn K (.ref f) = true ∧ Binds K fd ps []
theorem xe_own {X : Cx} {x : Str} {k n : Nat} {h : HF} {e : Expr} {es : List Expr} {p pos : Pos} {fs : FA} (C : Cal X.prog X.w X.K X.mg X.base x k n h) (hr : Room k X.A) (hg : Gl X x) (ha : XA X (e :: es) fs) (hn : ∀ ρ T ds T', fs ρ T = some (ds, T') → ds.length = n)
    (hdb : (x == ("__debug__" : Str)) = false := by decide) (he : starEach (e :: es) X.env = (false, eval e X.env) :: starEach es X.env := by rfl) (hpl : (backTo pos (starEach es X.env)).any (·.1) = false := by rfl) : XE X (.Call (.Name x p) (e :: es) [] pos) (callF h fs) := by
  obtain ⟨f, fd, ps, F, hm, hk, hb⟩ := C.ok
  exact xe_call (pe_call F hr hg hm hk hb .nil pass0 ha hdb he hpl) hn
theorem cal_of {P : Program} {w : World} {K : PySem.W.Frag} {mg : Str → Option Value} {base : Heap} {x qual : Str} {st : Stmt} {f : Addr} {fd : FuncData} {N ps : List Str} {k n m : Nat} {g : FS} (F : Fun K x qual st f fd) (hm : mg x = some (.ref f)) (hb : Binds K fd ps []) (S : FnScope N ps (defScope st))
    (hn : N.length = m) (hp : ps.length = n)
    (hbody : ∀ (cdv : Value) (A : Around) (outer : List Env) (s : Shared) (H : Hp) (E : XK), Room k (A.deeper (envOfC qual (defScope st) s.heap.objs.size f cdv)) →
      XSs (cxOf CX0 P w K mg base N qual (defScope st) f cdv A outer s H E).nox (defBody st) g) : Cal P w K mg base x (k + 1) n (runB g m) := by
  subst hn hp
  exact ⟨f, fd, ps, fn_ok F S hbody, hm, F.kp, hb⟩
end Fx
namespace Fx
open PySem PySem.Spec PyProof.Rows L2
open Evl (Ex)
/-! ### a walk over whatever comes -/
def itU (f : FE) : FA := fun ρ T => bindF (f ρ T) fun d T' => match d with
  | .tup ds => some (ds, T')
  | .lst ds => some (ds, T')
  | .frl ds => some (ds, T')
  | _ => none
theorem PI.or {X : Cx} {tg e : Expr} {t t' : TI} (h : PI X tg e t) (h' : PI X tg e t') : PI X tg e (fun σ H R => t σ H R ∨ t' σ H R) := ⟨fun pins s σ H R I hw => by
  rcases hw with hw | hw
  · exact h.run pins s σ H R I hw
  · exact h'.run pins s σ H R I hw⟩
theorem tD_map {K : PySem.W.Frag} {f g : FE} {σ : L2.St} {H : Hp} {Q : VK} (h : tD K g σ H Q) (k : ∀ ρ T d T', g ρ T = some (d, T') → f ρ T = some (d, T')) : tD K f σ H Q := by
  obtain ⟨Z, G, ad, T, ρ, pa, d, T', N, hf, q⟩ := h
  exact ⟨Z, G, ad, T, ρ, pa, d, T', N, k _ _ _ _ hf, q⟩
theorem xi_seq {X : Cx} {tg e : Expr} {f : FE} (h : XE X e f) : XI X tg e (itU f) := pi_weak (PI.or (xi_tup (tg := tg) h) (xi_lst (tg := tg) h)) fun σ H R h => by
  obtain ⟨Z, G, ad, T, ρ, pa, ds, T', N, hf, k⟩ := h
  obtain ⟨d, T1, h1, h2⟩ := bindF_eq hf
  split at h2
  · cases h2
    exact .inl ⟨Z, G, ad, T, ρ, pa, ds, _, N, by unfold itT; rw [h1]; rfl, k⟩
  · cases h2
    exact .inr ⟨Z, G, ad, T, ρ, pa, ds, _, N, by unfold itL; rw [h1]; rfl, k⟩
  · cases h2
    exact .inr ⟨Z, G, ad, T, ρ, pa, ds, _, N, by unfold itL; rw [h1]; rfl, k⟩
  · cases h2
/-! ### op= -/
abbrev addiD := iiF ctt fun i j => .int (i + j)
noncomputable abbrev muliD := iiF cMul fun i j => .int (i * j)
noncomputable abbrev dvpD := iiF cDivP fun i j => .int (i / j)
theorem cDivP_ok (i j : Int) (h : cDivP i j = true) : CDiv i j := of_dc h
theorem ok_ipadd {K : PySem.W.Frag} : OkR K (ipI fun i j => i + j) addiD := fun Z G ad T ρ σ H pa v w x y z Q N rx ry hg k => by
  obtain ⟨i, j, rfl, rfl, _, rfl⟩ := iiF_eq hg
  exact ⟨i, j, rx.inv_int, ry.inv_int, k _ G ad H N.nx (.int _)⟩
theorem ok_ipsub {K : PySem.W.Frag} : OkR K (ipI fun i j => i - j) subD := fun Z G ad T ρ σ H pa v w x y z Q N rx ry hg k => by
  obtain ⟨i, j, rfl, rfl, _, rfl⟩ := iiF_eq hg
  exact ⟨i, j, rx.inv_int, ry.inv_int, k _ G ad H N.nx (.int _)⟩
theorem xs_doc {X : Cx} {x : Str} {j : Nat} {pos pos' : Pos} : XS X (.Expr (.Constant (.str x) j pos) pos') nilS := ps_weak ps_doc fun D σ H h => by
  obtain ⟨Z, G, ad, T, ρ, pa, r, T', N, hf, k⟩ := h
  cases hf
  exact k σ G ad H pa N (Ex.refl _) (Pre.refl _)
/-- the law's own end -/
theorem law_sf {K : PySem.W.Frag} {H : Hp} {a : Addr} {ns : List Int} {h : HF} {E : XK} (hS : SqL K H a (ns.map V.int)) (hh : ∃ T, h [.frl (ns.map D.int)] [] = some (.bl true, T)) : Sf K 1 h [.ref a] H (fun v _ => v = .bl true) E := by
  obtain ⟨T, hT⟩ := hh
  have ri : ∀ l : List Int, RpL K H [] (l.map V.int) (l.map D.int) := fun l => by
    induction l with
    | nil => exact .nil
    | cons x l ih => exact .cons (.int x) ih
  exact ⟨rfl, H, [], [], [.frl (ns.map D.int)], .bl true, T, ⟨Ex.refl _, (fun _ h => by cases h), List.nodup_nil, rfl, (fun k a ds h _ => by simp at h), Ex.refl _, Pre.refl _, (fun _ _ h _ => h), (fun _ _ h => .inl h), (fun _ h => by cases h)⟩,
    .cons (.frl hS (ri ns)) .nil, hT, fun v G' ad' H' _ r => r.inv_bl⟩
end Fx
set_option maxHeartbeats 4000000
namespace Fx
open PySem PySem.Spec PyProof.Rows L2
open Evl (Ex)
/-! ### enumerate(tuple) -/
def IteT (K : PySem.W.Frag) (a : Addr) : It :=
  ⟨fun i H => ∃ (xs : List V) (x : V), SqT K H a xs ∧ xs[i]? = some x,
    fun i H v H' => ∃ T x o, v = .ref T ∧ H T = none ∧ o.dict = none ∧ H' = upd H T (.frz o (.tup [.int (i : Nat), x])) ∧ ∀ xs, SqT K H a xs → xs[i]? = some x,
    fun i H => ∃ xs : List V, SqT K H a xs ∧ xs.length ≤ i⟩
theorem tup_inj {X : Cx} {pins : List (Addr × Obj)} {σ : L2.St} {H : Hp} {s : Shared} {a : Addr} {xs ys : List V} (I : Inv X pins σ H s) (h : SqT X.K H a xs) (h' : SqT X.K H a ys) : xs = ys := by
  obtain ⟨its, r1, ⟨o, ho, _, n, hd⟩, _⟩ := I.tuple h
  obtain ⟨its', r2, ⟨o', ho', _, n', hd'⟩, _⟩ := I.tuple h'
  rw [ho] at ho'
  cases ho'
  rw [hd] at hd'
  have e : its.toArray = its'.toArray := by injection hd'
  have e' : its = its' := by simpa using e
  subst e'
  exact r1.inj r2
theorem turn_enumT {P : Program} {w : World} {K : PySem.W.Frag} {elts : List Expr} {kk : Nat} {tpos : Pos} (a e it : Addr) :
    Turn P w K (.Tuple elts kk tpos) (IteT K a) [e, it] e (fun i h => (∃ old, IsEnum h e it ((i : Nat) : Int) old) ∧ h.IsTupleIter it a i ∧ e ≠ it) where
  mem := List.mem_cons_self
  obj := fun i h st b hb => by
    obtain ⟨⟨old, he⟩, ⟨o, ho, hc, hd⟩, _⟩ := st
    rcases List.mem_cons.mp hb with z | z
    · subst z
      exact ⟨_, he, fun v q => nomatch q⟩
    · rw [List.mem_singleton.mp z]
      exact ⟨o, ho, fun v q => by rw [hd] at q; cases q⟩
  keep := fun i h h' st k => by
    obtain ⟨⟨old, he⟩, hi, hne⟩ := st
    exact ⟨⟨old, k e List.mem_cons_self _ he⟩, hi.at fun o q => k it (List.mem_cons_of_mem _ List.mem_cons_self) o q, hne⟩
  item := by
    intro X hP hw hK hc i pins s σ H E I hf st hg
    subst hP hw hK
    obtain ⟨⟨old, he⟩, hit, hne⟩ := st
    obtain ⟨xs, x, hq, hx⟩ := hg
    obtain ⟨its, rv, p, hz⟩ := I.tuple hq
    have hai : a ≠ it := fun z => by
      obtain ⟨o, ho, hco, _⟩ := p
      obtain ⟨o', ho', hco', _⟩ := hit
      rw [z, ho'] at ho
      cases ho
      rw [hco] at hco'
      exact absurd (Value.type.inj hco') (by decide)
    have hae : e ≠ a := fun z => by
      obtain ⟨o, ho, hco, _⟩ := p
      rw [← z] at ho
      rw [he] at ho
      cases ho
      exact absurd (Value.type.inj hco) (by decide)
    obtain ⟨u, hu, ru⟩ := rv.get hx
    have hlt : i < its.toArray.size := by
      rw [List.size_toArray]
      exact (List.getElem?_eq_some_iff.mp hu).1
    have hel : e < s.heap.objs.size := Heap.lt_size he
    have hil : it < s.heap.objs.size := by obtain ⟨_, q, _⟩ := hit; exact Heap.lt_size q
    have D := Draws.tuple (prog := X.prog) (w := X.w) (A := X.A.in1) (I.ok.hd hc) it a hai its.toArray
    refine wpAny_pyNext_enum_itemD D he ⟨hit, p⟩ hlt hne (by simp [hne, hae]) fun x' h' tk hpx ho hst' hT hsz hk => ?_
    have ex : x' = u := by
      have h1 : its[i]? = some x' := by simpa using hpx
      rw [hu] at h1
      exact (Option.some.inj h1).symm
    subst ex
    refine ⟨_, rfl, wpAny_letOwnedTupleGo_enum (s := { s with heap := h', toks := tk + 1 }) ho fun h'' he' sb => ?_⟩
    have hT2 := (sb.2 _ (Nat.ne_of_gt hel)).trans hT
    have new : ObjOk X.prog X.w (upd H s.heap.objs.size (.frz { cls := .type "tuple", data := .seq #[.int i tk, x'] } (.tup [.int (i : Nat), x]))) h'' s.heap.objs.size (.frz { cls := .type "tuple", data := .seq #[.int i tk, x'] } (.tup [.int (i : Nat), x])) :=
      ⟨hT2, by show 2 ≤ sizeLine; decide, [.int i tk, x'], .cons ⟨_, rfl⟩ (.cons ru .nil), ⟨_, hT2, rfl, _, rfl⟩⟩
    have I1 : Inv X pins σ (upd H s.heap.objs.size (.frz { cls := .type "tuple", data := .seq #[.int i tk, x'] } (.tup [.int (i : Nat), x]))) { s with heap := h'', toks := tk + 1 } :=
      I.turnedNew (ch := [e, it]) (fun b ob hb q => (sb.2 b (fun z => hb (z ▸ List.mem_cons_self))).trans (hk b ob (fun z => hb (z ▸ List.mem_cons_self)) (fun z => hb (z ▸ List.mem_cons_of_mem _ List.mem_cons_self)) q)) hf (Nat.le_refl _) new
    refine ⟨.ref s.heap.objs.size, _, I1, rfl, ⟨_, x, _, rfl, I.hok.fresh (Nat.le_refl _), rfl, rfl, fun ys hy => by rw [tup_inj I hy hq]; exact hx⟩, ⟨⟨x', ?_⟩, hst'.1.at fun o q => (sb.2 it (Ne.symm hne)).trans q, hne⟩, fun b hb => ?_⟩
    · rw [show ((i + 1 : Nat) : Int) = (i : Int) + 1 by omega]
      exact he'
    · have hb' : b < s.heap.objs.size := by
        rcases List.mem_cons.mp hb with z | z
        · rw [z]; exact hel
        · rw [List.mem_singleton.mp z]; exact hil
      rw [upd_ne (Nat.ne_of_lt hb')]
      exact (hf b hb).1
  done := by
    intro X hP hw hK hc i pins s σ H E I hf st hg
    subst hP hw hK
    obtain ⟨⟨old, he⟩, hit, hne⟩ := st
    obtain ⟨xs, hq, hx⟩ := hg
    obtain ⟨its, rv, p, hz⟩ := I.tuple hq
    have hai : a ≠ it := fun z => by
      obtain ⟨o, ho, hco, _⟩ := p
      obtain ⟨o', ho', hco', _⟩ := hit
      rw [z, ho'] at ho
      cases ho
      rw [hco] at hco'
      exact absurd (Value.type.inj hco') (by decide)
    have D : Draws X.prog X.w X.A.in1 it [it, a] i (fun _ _ => False) (fun j h => j = i ∧ h.IsTupleIter it a i ∧ h.IsTuple a its.toArray) :=
      { live := fun _ _ st => let ⟨o, ho, _⟩ := st.2.1; ⟨o, ho⟩
        frame := fun _ _ _ st hk => ⟨st.1, st.2.1.at fun o e => hk it (by simp) o e, st.2.2.at fun o e => hk a (by simp) o e⟩
        item := fun j s Q E hj st hQ => absurd st.1 (by omega)
        done := fun s Q E st hE => wpAny_nextOf_tuple_end (I.ok.hd hc) st.2.1 st.2.2 (by have := rv.length; simp; omega) hE }
    obtain ⟨f0, f1, f2, f3, f4, f5⟩ := hf it (by simp)
    exact wpAny_pyNext_enum_endD D he ⟨rfl, hit, p⟩ fun h' eb => ⟨rfl, I.turned (t' := s.toks) (fun b o hb q => eb b o hb q) f0 f1 f3 f4 f5⟩
  self := fun A i s Q E st h => wpAny_pyIter_enum st.1.choose_spec h
def itT_ (t : Addr) : Obj := { cls := .type "tuple_iterator", data := .fields #[.ref t, .int 0 0] }
def enT_ (a : Addr) : Obj := { cls := .type "enumerate", data := .fields #[.none, .bool false, .ref a, rawInt 0, .none, .none] }
theorem meets_enumT (t : Addr) (items : Array Value) : Meets (Builtin.«enumerate.__new__» ⟨[.type "enumerate", .ref t], []⟩)
    (fun _ R s => s.heap.IsTuple t items ∧ R (.ok (.ret (.ref (s.heap.push (itT_ t)).objs.size))) { s with heap := (s.heap.push (itT_ t)).push (enT_ s.heap.objs.size) }) :=
  .of_wp fun prog w A R s h => by
    obtain ⟨hp, g, d, tk, os⟩ := s
    obtain ⟨hL, h⟩ := h
    have hsub := sub_enumerate
    have q : ∀ {A' : Around} {E : Value → Shared → Prop} {Q : Value → Shared → Prop}, Q (.ref hp.objs.size) ⟨hp.push (itT_ t), g, d, tk, os⟩ → wpAny (model prog w) A' (pyIter (.ref t)) Q E ⟨hp, g, d, tk, os⟩ :=
      fun k => wpAny_pyIter_tuple hL k
    wp_walk using q
    refine wpAny_stack_any fun st => wpAny_pure ?_
    split
    · rename_i c _ _ _ _ _
      cases (c == Value.type "enumerate") <;> (wp_walk using q; exact ⟨_, rfl, h⟩)
    · wp_walk using q
      exact ⟨_, rfl, h⟩
theorem call_enumT {prog : Program} {w : World} {A : Around} {E : Value → Shared → Prop} {s : Shared} {t : Addr} {items : Array Value} {Q : Value → Shared → Prop} (hT : s.heap.IsTuple t items)
    (h : ∀ h', IsEnum h' (s.heap.objs.size + 1) s.heap.objs.size 0 .none → h'.IsTupleIter s.heap.objs.size t 0 → (∀ b o, s.heap.get? b = some o → h'.get? b = some o) → Q (.ref (s.heap.objs.size + 1)) { s with heap := h' }) :
    wpAny (model prog w) A (call (.type "enumerate") [.ref t]) Q E s := by
  refine callType_new F.called_enumerate (by decide) (F.typeCall_enumerate_1 _) (F.newCall_enumerate_1 _) (fun obj => F.args_object_init_2 obj _) F.entry_enumerate_new (meets_enumT t items) ⟨hT, ?_⟩
  have z : (s.heap.push (itT_ t)).objs.size = s.heap.objs.size + 1 := Heap.size_push ..
  show _ ∧ _
  rw [z]
  have e1 := Heap.get?_push_size (s.heap.push (itT_ t)) (o := enT_ s.heap.objs.size) rfl
  rw [z] at e1
  exact ⟨⟨_, e1, rfl⟩, h _ e1 ⟨_, Heap.get?_push_of_some _ (Heap.get?_push_size _ rfl), rfl, rfl⟩ fun b o k => Heap.get?_push_of_some _ (Heap.get?_push_of_some _ k)⟩
def iEnumT (K : PySem.W.Frag) (ta : TA) : TI := fun σ H R => ta σ H fun vs H1 => ∃ a xs, vs = [.ref a] ∧ SqT K H1 a xs ∧ R (IteT K a) H1
theorem pi_enumT {X : Cx} {e : Expr} {ta : TA} {p pos tpos : Pos} {elts : List Expr} {kk : Nat} (hg : Gl X "enumerate") (hm : X.mg "enumerate" = none) (ha : PA X [e] ta) (hs : starEach [e] X.env = [(false, eval e X.env)] := by rfl) :
    PI X (.Tuple elts kk tpos) (.Call (.Name "enumerate" p) [e] [] pos) (iEnumT X.K ta) := by
  refine ⟨fun pins s σ H R I h => ?_⟩
  refine Call_ (ld_blt I hg hm boot_enumerate (PyProof.Rows.callWith_type1 (thn (ha.run pos pins s σ H _ I h) fun us s1 ⟨vs, H1, I1, r1, q1⟩ => ?_) hs rfl))
  obtain ⟨a, xs, ex, hq, q⟩ := q1
  subst ex
  obtain ⟨u, rfl, ru⟩ := vals1 r1
  cases ru
  obtain ⟨its, rv, p', hz⟩ := I1.tuple hq
  refine call_enumT p' fun h' he hit hk => wpAny_pyIter_enum he ?_
  have I2 : Inv X pins σ H1 { s1 with heap := h' } := I1.kept (t' := s1.toks) hk
  refine ⟨s1.heap.objs.size + 1, [s1.heap.objs.size + 1, s1.heap.objs.size], _, _, H1, rfl, I2, turn_enumT a (s1.heap.objs.size + 1) s1.heap.objs.size, ⟨⟨.none, he⟩, hit, Nat.succ_ne_self _⟩, fun b hb => ?_, q⟩
  have hle : s1.heap.objs.size ≤ b := by
    rcases List.mem_cons.mp hb with z | z
    · rw [z]; exact Nat.le_add_right _ _
    · rw [List.mem_singleton.mp z]; exact Nat.le_refl _
  exact I1.fpOk hle (I1.hok.fresh hle)
/-- pairs of places and items -/
def enumL (i : Nat) : List D → List D
  | [] => []
  | d :: ds => .tup [.int (i : Int), d] :: enumL (i + 1) ds
theorem enumL_get : ∀ (ds : List D) (i k : Nat), (enumL i ds)[k]? = (ds[k]?).map fun d => .tup [.int ((i + k : Nat) : Int), d]
  | [], i, k => by simp [enumL]
  | d :: ds, i, 0 => by simp [enumL]
  | d :: ds, i, k + 1 => by
    simp only [enumL, List.getElem?_cons_succ]
    rw [enumL_get ds (i + 1) k, show i + 1 + k = i + (k + 1) by omega]
theorem enumL_len : ∀ (ds : List D) (i : Nat), (enumL i ds).length = ds.length
  | [], i => rfl
  | d :: ds, i => by simp [enumL, enumL_len ds]
def itE (f : FE) : FA := fun ρ T => bindF (f ρ T) fun d T' => match d with
  | .tup ds => some (enumL 0 ds, T')
  | _ => none
theorem itOk_enumT {K : PySem.W.Frag} {a : Addr} {G0 : Hp} {ad0 : List Addr} {vs : List V} {ds : List D} (h : TupK K G0 a vs) (r : RpL K G0 ad0 vs ds) : ItOk K (IteT K a) G0 ad0 (enumL 0 ds) where
  go := fun Z G ad T ρ σ H pa i N e p hi => by
    rw [enumL_len] at hi
    have hv : i < vs.length := by rw [r.length]; exact hi
    exact ⟨vs, vs[i], N.iv.tup (h.mono e), List.getElem?_eq_getElem hv⟩
  stop := fun Z G ad T ρ σ H pa i N e p hi => ⟨vs, N.iv.tup (h.mono e), by rw [enumL_len] at hi; rw [r.length]; exact hi⟩
  yld := fun Z G ad T ρ σ H pa i x H' N e p hi y => by
    obtain ⟨q, x', o, rfl, hq, hd, rfl, y⟩ := y
    obtain ⟨d, h1, h2⟩ := r.getV (y vs (N.iv.tup (h.mono e)))
    have n1 := N.knowN hq (.frz o (.tup [.int (i : Nat), x']))
    refine ⟨_, .tup [.int ((0 + i : Nat) : Int), d], n1, by rw [enumL_get, h1]; rfl, .tup (TupK.new hd) (.cons ?_ (.cons (n1.rp (h2.mono e p)) .nil))⟩
    rw [Nat.zero_add]
    exact .int _
theorem xi_enum {X : Cx} {e : Expr} {f : FE} {p pos tpos : Pos} {elts : List Expr} {kk : Nat} (hg : Gl X "enumerate") (hm : X.mg "enumerate" = none) (h : XE X e f) (hs : starEach [e] X.env = [(false, eval e X.env)] := by rfl) :
    XI X (.Tuple elts kk tpos) (.Call (.Name "enumerate" p) [e] [] pos) (itE f) := by
  have ha : PA X [e] (tDA X.K (consF f nilF)) := xa_cons h xa_nil (by rw [hs]; rfl)
  refine pi_weak (pi_enumT hg hm ha hs) fun σ H R h => ?_
  obtain ⟨Z, G, ad, T, ρ, pa, ds, T', N, hf, k⟩ := h
  obtain ⟨d, T1, h1, h2⟩ := bindF_eq hf
  have hc : consF f nilF ρ T = some ([d], T1) := by unfold consF nilF; rw [h1]; rfl
  cases d with
  | tup xs =>
    cases h2
    refine ⟨Z, G, ad, T, ρ, pa, [.tup xs], _, N, hc, fun vs G1 ad1 H1 x1 r1 => ?_⟩
    obtain ⟨v, rfl, q⟩ := r1.one
    obtain ⟨a, ws, rfl, hh, hr⟩ := q.inv_tup
    exact ⟨a, ws, rfl, x1.en.iv.tup hh, k _ G1 ad1 H1 x1 (itOk_enumT hh hr)⟩
  | _ => cases h2
end Fx
set_option maxHeartbeats 1000000
namespace Fx
open PySem PySem.Spec PyProof.Rows L2
open Evl (Ex)
/-! ### xs.count(True) -/
def eqb (k : Bool) (v : Value) : Bool := match v with
  | .bool b => b == k
  | _ => false
theorem eqb_at {A : Around} {s : Shared} {k : Bool} : ∀ {bs : List Bool} {us : List Value}, Vals (bs.map V.bl) us → ∀ y ∈ us, SeqAt.EqAt A s y (.bool k) (eqb k y)
  | [], _, .nil => fun y hy => by cases hy
  | b :: bs, _, .cons r h => fun y hy => by
    cases r
    rcases List.mem_cons.mp hy with e | e
    · subst e
      exact SeqAt.EqAt.bool_bool b k
    · exact eqb_at h y e
theorem eqb_count {k : Bool} : ∀ {bs : List Bool} {us : List Value}, Vals (bs.map V.bl) us → us.countP (eqb k) = bs.count k
  | [], _, .nil => rfl
  | b :: bs, _, .cons r h => by
    cases r
    rw [List.countP_cons, List.count_cons, eqb_count h]
    rfl
def rCntB (S : Hp → Addr → List V → Prop) : V → List V → Hp → VK → Prop := fun x xs H Q => ∃ (p : Addr) (bs : List Bool) (k : Bool), x = .ref p ∧ xs = [.bl k] ∧ S H p (bs.map V.bl) ∧ Q (.int ((bs.count k : Nat) : Int)) H
section
variable {X : Cx}
theorem mt_countL : MtR X "list.count" (rCntB (SqL X.K)) := by
  intro pins s σ H x xs v us Q I rx rxs ⟨p, bs, k, ex, exs, hs, q⟩
  subst ex exs
  cases rx
  obtain ⟨u, rfl, ru⟩ := rxs.one
  cases ru
  obtain ⟨its, rv, ⟨⟨cls, dd, data, sl⟩, n, ho, hc, hdn, hd⟩, _⟩ := I.list hs
  simp only at hc hd
  subst hc hd
  have ec := eqb_count (k := k) rv
  refine call_meets PySem.F.slot_list_count ⟨_, ho, rfl⟩ PySem.F.entry_list_count (PySem.F.args_list_count_2 _ _)
    (SeqAt.list_countAt p its.toArray n dd sl (.bool k) (eqb k)) ⟨ho, fun y hy => eqb_at rv y (by simpa using hy), .int ((bs.count k : Nat) : Int), H, I.tok _, ⟨s.toks, ?_⟩, q⟩
  show Value.int ((its.toArray.toList.countP (eqb k) : Nat) : Int) s.toks = _
  rw [show its.toArray.toList = its from rfl, ec]
theorem mt_countT : MtR X "tuple.count" (rCntB (SqT X.K)) := by
  intro pins s σ H x xs v us Q I rx rxs ⟨p, bs, k, ex, exs, hs, q⟩
  subst ex exs
  cases rx
  obtain ⟨u, rfl, ru⟩ := rxs.one
  cases ru
  obtain ⟨its, rv, ⟨⟨cls, dd, data, sl⟩, ho, hc, n, hd⟩, _⟩ := I.tuple hs
  simp only at hc hd
  subst hc hd
  have ec := eqb_count (k := k) rv
  refine call_meets PySem.F.slot_tuple_count ⟨_, ho, rfl⟩ PySem.F.entry_tuple_count (PySem.F.args_tuple_count_2 _ _)
    (SeqAt.tuple_countAt p its.toArray n dd sl (.bool k) (eqb k)) ⟨ho, fun y hy => eqb_at rv y (by simpa using hy), .int ((bs.count k : Nat) : Int), H, I.tok _, ⟨s.toks, ?_⟩, q⟩
  show Value.int ((its.toArray.toList.countP (eqb k) : Nat) : Int) s.toks = _
  rw [show its.toArray.toList = its from rfl, ec]
/-- a tuple on which no dict hangs -/
def tyTup (K : PySem.W.Frag) (x : V) (H : Hp) : Prop := ∃ a vs, x = .ref a ∧ TupK K H a vs
theorem ty_tup : TyOk X "tuple" (tyTup X.K) := by
  intro pins σ H s x v I r ⟨a, vs, ex, h⟩
  subst ex
  cases r
  obtain ⟨its, _, pl, _⟩ := I.tuple h.seq
  refine ⟨pl.typeIs, fun b e => ?_⟩
  cases e
  rcases h with ⟨o, h, hd⟩ | ⟨o, its, n, h1, h2, h3, h4, h5, hd⟩
  · exact ⟨o, (I.hok a _ h).1, hd⟩
  · exact ⟨o, I.kIn a o h1, hd⟩
theorem PE.or {e : Expr} {t t' : TE} (h : PE X e t) (h' : PE X e t') : PE X e (fun σ H Q => t σ H Q ∨ t' σ H Q) := ⟨fun pins s σ H Q I hw => by
  rcases hw with hw | hw
  · exact h.run pins s σ H Q I hw
  · exact h'.run pins s σ H Q I hw⟩
def cntF (k : Bool) (f : FE) : FE := fun ρ T => bindF (f ρ T) fun d T' => match d with
  | .tup ds => (bls ds).map fun bs => (.int ((bs.count k : Nat) : Int), T')
  | .lst ds => (bls ds).map fun bs => (.int ((bs.count k : Nat) : Int), T')
  | _ => none
theorem xe_count {o : Expr} {f : FE} {k : Bool} {j : Nat} {p1 apos cpos : Pos} (h : XE X o f)
    (hbase : attributeBase o "count" X.env (eval o X.env) = eval o X.env := by rfl) (hline : (apos.endLine == cpos.line) = true := by rfl) :
    XE X (.Call (.Attribute o "count" apos) [.Constant (.bool k) j p1] [] cpos) (cntF k f) := by
  have ha : PA X [.Constant (.bool k) j p1] (tDA X.K (consF (constF (.bl k)) nilF)) := xa_cons xe_bl xa_nil
  refine pe_weak (PE.or (pe_mG ty_tup PySem.F.plainAttrs_tuple PySem.F.slot_tuple_count PySem.F.type_tuple_count mt_countT h ha hbase rfl hline)
    (pe_bm PySem.F.plainAttrs_list PySem.F.slot_list_count PySem.F.type_list_count mt_countL h ha hbase rfl hline)) fun σ H Q hw => ?_
  obtain ⟨Z, G, ad, T, ρ, pa, d, T', N, hf, kk⟩ := hw
  obtain ⟨x, T1, h1, h2⟩ := bindF_eq hf
  have hc : ∀ T, consF (constF (.bl k)) nilF ρ T = some ([.bl k], T) := fun _ => rfl
  cases x with
  | tup ds =>
    obtain ⟨bs, h3, h4⟩ := Option.map_eq_some_iff.mp h2
    cases h4
    refine .inl ⟨Z, G, ad, T, ρ, pa, .tup ds, _, N, h1, fun v G1 ad1 H1 x1 r1 => ?_⟩
    obtain ⟨a, vs, rfl, hG, hr⟩ := r1.inv_tup
    refine ⟨⟨a, vs, rfl, hG.mono x1.en.iv.ex⟩, Z, G1, ad1, _, ρ, pa, [.bl k], _, x1.en, hc _, fun ws G2 ad2 H2 x2 r2 => ?_⟩
    obtain ⟨w, rfl, hw⟩ := r2.one
    have e := bls_rel hr h3
    subst e
    exact ⟨a, bs, k, rfl, by rw [hw.inv_bl], x2.en.iv.tup (hG.mono x2.gr.ex), kk _ G2 ad2 H2 (x1.trans x2) (.int _)⟩
  | lst ds =>
    obtain ⟨bs, h3, h4⟩ := Option.map_eq_some_iff.mp h2
    cases h4
    refine .inr ⟨Z, G, ad, T, ρ, pa, .lst ds, _, N, h1, fun v G1 ad1 H1 x1 r1 => ?_⟩
    obtain ⟨a, vs, rfl, hG, hr⟩ := r1.inv_lst
    refine ⟨.inl ⟨rfl, vs, .inl (.inl (x1.en.iv.ex _ _ hG))⟩, Z, G1, ad1, _, ρ, pa, [.bl k], _, x1.en, hc _, fun ws G2 ad2 H2 x2 r2 => ?_⟩
    obtain ⟨w, rfl, hw⟩ := r2.one
    have e := bls_rel hr h3
    subst e
    exact ⟨a, bs, k, rfl, by rw [hw.inv_bl], .inl (.inl (x2.en.iv.ex _ _ (x2.gr.ex _ _ hG))), kk _ G2 ad2 H2 (x1.trans x2) (.int _)⟩
  | _ => cases h2
end
end Fx
set_option maxHeartbeats 1000000
namespace Fx
open PySem PySem.Spec PyProof.Rows L2
open Builtin
/-! ### f'{x:b}', int(text, 2) -/
def fB : Float.FormatSpec := { fill := 32, align := 62, type := some 98 }
theorem parse_b : Float.parseFormatSpec (Str.ofString "b").cps.toList "int" 62 = .ok fB := by
  first | rfl | decide +kernel
/-- the signs of a number's binary digits -/
def binC (n : Nat) : List Nat := (Nat.toDigits 2 n).map Char.toNat
def binS (n : Nat) : Str := ⟨(binC n).toArray⟩
theorem binS_length (n : Nat) : (binS n).length = (Nat.toDigits 2 n).length := by
  show (binC n).toArray.size = _
  unfold binC
  rw [List.size_toArray, List.length_map]
theorem binC_ne (n : Nat) : (binC n).isEmpty = false := by
  have h1 := PyProof.Rows.tDigits_len_ge 2 n
  cases hc : binC n with
  | nil =>
    have : (binC n).length = 0 := by rw [hc]; rfl
    unfold binC at this
    rw [List.length_map] at this
    omega
  | cons _ _ => rfl
section
variable {prog : Program} {w : World} {A : Around} {E : Value → Shared → Prop} {s : Shared}
theorem format_b {n : Nat} {t : Tok} {Q : Value → Shared → Prop} (hlen : (binS n).length ≤ sizeLine) (h : ∀ t' k, Q (.str (binS n) t') { s with toks := k }) :
    wpAny (model prog w) A (formatField (.int (n : Int) t) (Str.ofString "b")) Q E s := by
  have hne : ((Str.ofString "b").length == 0) = false := by decide
  have hasc : (((Str.ofString "b").cps.toList.drop 1).any (· ≥ 128) || ((Str.ofString "b").cps.getD 0 0 ≥ 128 && !([60, 62, 61, 94] : List Nat).contains ((Str.ofString "b").cps.getD 1 0))) = false := by decide +kernel
  have ef : formatField (.int (n : Int) t) (Str.ofString "b") = holding [.int (n : Int) t] (pyFormat (.int (n : Int) t) (Str.ofString "b")) := by
    unfold formatField
    simp only [hne, Bool.false_eq_true, if_false]
  have hp := parse_b
  generalize hsp : Str.ofString "b" = spec at *
  rw [ef]
  refine wpAny_holding ?_
  unfold pyFormat
  refine wpAny_bind (wpAny_mkStr ?_ (by rw [← hsp]; decide +kernel))
  refine wpAny_bind (m := callSpecial? (.int (n : Int) t) (Str.ofString "__format__") [.str spec s.toks]) (wpAny_callSpecial?_slot (name := Str.ofString "__format__") (typeIs_int _ _ t) F.slot_int_format ?_)
  refine wpAny_call (codeAny_call_builtin F.slot_int_format.plain F.entry_int_format (F.slot_int_format.check _ _ _ _ _ _ _ _ (typeIs_int _ _ t) (F.args_int_format_2 _ _) ?_))
  unfold Builtin.«int.__format__»
  simp only [selfAndOne, noKeywords, Int.intOfSelf, asInt?, asStr?, List.isEmpty_nil, if_true, pure_bind, bind_pure, bind_assoc, hne, hasc, Bool.false_eq_true, if_false,
    show (Value.str spec s.toks == Value.none) = false from rfl]
  refine wpAny_bind (wpAny_typeNameOf (T := "str") (typeIs_str _ _ _) (by decide) fun _ => ?_)
  refine wpAny_bind (wpAny_typeNameOfCut_int ?_)
  have hty : fB.type.getD (if (spec.cps.back? == some 0) = true then 0 else 100) = 98 := rfl
  simp only [hp, hty]
  show wpAny _ _ (if _ then _ else _) _ _ _
  rw [if_pos (by decide)]
  have e2 : ((n : Int).natAbs) = n := Int.natAbs_natCast n
  have e3 : decide ((n : Int) < 0) = false := decide_eq_false (by omega)
  show wpAny _ _ (retStr _) _ _ _
  have ha : fB.alt = false := rfl
  have hb : ((2 : Nat) == 10) = false := by decide
  have ec : ((Nat.toDigits 2 n).map fun c => (if (98 : Nat) == 88 then c.toUpper else c).toNat) = binC n := by
    unfold binC
    apply List.map_congr_left
    intro c _
    rw [if_neg (by decide)]
  have hc : (binC n).isEmpty = false := binC_ne n
  have he : ∀ X : Str, X = binS n → X.length ≤ sizeLine := fun X e => by rw [e]; exact hlen
  refine PySem.W.KXf.ret_text (T := binS n) ?he (he _ ?he) fun t' k => ?_
  case he =>
    rw [e2, e3, ec, ha, hb]
    simp only [Bool.false_eq_true, if_false]
    unfold binS
    generalize binC n = ds at *
    conv => lhs; whnf
    have g1 : fB.fill = 32 := rfl
    have g2 : fB.align = 62 := rfl
    have g3 : fB.sign = none := rfl
    have g4 : fB.grouping = none := rfl
    have g5 : fB.width = none := rfl
    have c4 : ((32 : Nat) == 48) = false := by decide
    have c1 : ((62 : Nat) == 60) = false := by decide
    have c2 : ((62 : Nat) == 94) = false := by decide
    have c3 : ((62 : Nat) == 61) = false := by decide
    have rp : List.replicate ((0 : Int).toNat - ds.length) 48 = ([] : List Nat) := by
      rw [show (0 : Int).toNat - ds.length = 0 by simp]
      rfl
    simp only [g1, g2, g3, g4, g5, c4, c1, c2, c3, hc, Bool.false_and, Bool.false_eq_true, if_false, rp, List.nil_append, List.length_nil]
    have pad : ((-1 : Int) - (((0 : Nat) : Int) + ((0 : Nat) : Int) + ((0 : Nat) : Int)) - (ds.length : Int)).toNat = 0 := by omega
    rw [pad]
    simp
  exact wpAny_bind (wpAny_isInstance (typeIs_str _ _ _) isSubtype_str_str (wpAny_pure (h _ _)))
end
end Fx
set_option maxHeartbeats 1000000
namespace Fx
open PySem PySem.Spec PyProof.Rows L2
/-! ### int(text, 2) -/
namespace Bx
open PySem.NumText PySem.Calls
def IsBin (c : Nat) : Prop := c = 48 ∨ c = 49
def bv (c : Nat) : Nat := c - 48
def binNum (l : List Nat) : Nat := l.foldl (fun a c => a * 2 + bv c) 0
theorem IsBin.hex {c : Nat} (h : IsBin c) : Hx.IsHex c := .inl (by rcases h with h | h <;> omega)
theorem digit_bin {c : Nat} (h : IsBin c) : digit? c = some (bv c) := by
  rcases h with rfl | rfl <;> rfl
theorem step_bin {ds : Array Nat} {b : Bool} {c : Nat} (h : IsBin c) : PySem.NumText.step 2 (ds, b) c = some (ds.push (bv c), true) := by
  unfold PySem.NumText.step
  rw [if_neg (by rw [beq_iff_eq]; rcases h with h | h <;> omega), digit_bin h]
  exact if_pos (by unfold bv; rcases h with h | h <;> omega)
theorem fold_bin : ∀ (cs : List Nat) (ds : Array Nat), (∀ c ∈ cs, IsBin c) → cs.foldlM (PySem.NumText.step 2) (ds, true) = some (cs.foldl (fun acc c => acc.push (bv c)) ds, true)
  | [], _, _ => rfl
  | c :: cs, ds, h => by
    rw [List.foldlM_cons, step_bin (h c List.mem_cons_self)]
    exact fold_bin cs (ds.push (bv c)) fun d hd => h d (List.mem_cons_of_mem _ hd)
theorem digits_bin {cs : List Nat} (h : ∀ c ∈ cs, IsBin c) (hne : cs ≠ []) : digits? 2 cs = some (cs.foldl (fun acc c => acc.push (bv c)) #[]) := by
  cases cs with
  | nil => exact absurd rfl hne
  | cons c cs =>
    unfold digits?
    rw [List.foldlM_cons, step_bin (h c List.mem_cons_self)]
    show (cs.foldlM (PySem.NumText.step 2) ((#[] : Array Nat).push (bv c), true)).bind _ = _
    rw [fold_bin cs _ fun d hd => h d (List.mem_cons_of_mem _ hd)]
    rfl
theorem push_bin : ∀ (cs : List Nat) (ds : Array Nat), (cs.foldl (fun acc c => acc.push (bv c)) ds).foldl (fun acc d => acc * 2 + d) 0 = cs.foldl (fun a c => a * 2 + bv c) (ds.foldl (fun acc d => acc * 2 + d) 0)
  | [], _ => rfl
  | c :: cs, ds => by
    rw [List.foldl_cons, push_bin cs (ds.push (bv c)), List.foldl_cons]
    congr 1
    simp
theorem based_bin {cs : List Nat} (h : ∀ c ∈ cs, IsBin c) : based 2 cs = (2, false, cs) := by
  match cs, h with
  | [], _ => rfl
  | [a], h =>
    rcases h a List.mem_cons_self with rfl | rfl <;> rfl
  | a :: c :: r, h =>
    rcases h a List.mem_cons_self with rfl | rfl <;> rcases h c (List.mem_cons_of_mem _ List.mem_cons_self) with rfl | rfl <;> rfl
theorem read_bin {cs : List Nat} (h : ∀ c ∈ cs, IsBin c) (hne : cs ≠ []) : (int_private% "readNumeral") 0 2 cs = (int_private% "Numeral.value") ((binNum cs : Nat) : Int) := by
  have hx : ∀ c ∈ cs, Hx.IsHex c := fun c hc => (h c hc).hex
  have hr : ∀ c ∈ cs.reverse, Hx.IsHex c := fun c hc => hx c (List.mem_reverse.mp hc)
  have hb := based_bin h
  refine (readNumeral_eq 0 2 cs).trans ?_
  rw [Hx.dropB hx, Hx.signH hx]
  show judge 0 false (based 2 cs).1 (based 2 cs).2.1 (digits? (based 2 cs).1 (((based 2 cs).2.2.reverse.dropWhile blank).reverse)) = _
  rw [hb]
  show judge 0 false 2 false (digits? 2 ((cs.reverse.dropWhile blank).reverse)) = _
  rw [Hx.dropB hr, List.reverse_reverse, digits_bin h hne]
  show (int_private% "Numeral.value") (((cs.foldl (fun acc c => acc.push (bv c)) (#[] : Array Nat)).foldl (fun acc d => acc * 2 + d) 0 : Nat) : Int) = _
  rw [push_bin]
  rfl
set_option maxHeartbeats 4000000 in
theorem gives_bin {x : PySem.Str} {u t : Tok} (hl : x.length ≤ 640) (h : ∀ c ∈ x.cps.toList, IsBin c) (hne : x.cps.toList ≠ []) :
    Gives (Builtin.«int.__new__» ⟨[.type "int", .str x u, .int 2 t], []⟩) (.int ((binNum x.cps.toList : Nat) : Int)) :=
  .of_wp fun M A E s Q hQ => by
    obtain ⟨hp, g, d, tk, os⟩ := s
    have f1 := F.conv_sub_int
    have f2 := F.madeHere_int
    have f6 : typeOf (.str x u) = pure (.type "str") := rfl
    obtain ⟨e1, e2⟩ := Hx.seen_hex fun c hc => (h c hc).hex
    have hs : (numSeenOf x).length ≤ 640 := by
      rw [e2, Array.length_toList]
      exact hl
    have hr : (int_private% "readNumeral") 0 2 (numSeenOf x) = (int_private% "Numeral.value") ((binNum x.cps.toList : Nat) : Int) := by
      rw [e2]
      exact read_bin h hne
    have ha : ((numSeenOf x).length == (numTextOf x).length) = true := by
      rw [e1, e2]
      exact beq_self_eq_true _
    have hk := Hx.Hid.mk (And.intro hs (And.intro hr ha))
    clear hs hr ha e1 e2 hl hne h
    repeat (any_goals (first
      | assumption
      | ((with_reducible show wpAny _ _ ((int_private% "intFromText") _ _ _) _ _ _); refine Hx.wp_textB hk.out.1 hk.out.2.1 hk.out.2.2 ?_)
      | wp_step))
    all_goals first | exact ⟨_, rfl, hQ⟩ | skip
theorem call_bin {prog : Program} {w : World} {A : Around} {E : Value → Shared → Prop} {s : Shared} {Q : Value → Shared → Prop} {x : PySem.Str} {u t : Tok} (hl : x.length ≤ 640) (h : ∀ c ∈ x.cps.toList, IsBin c) (hne : x.cps.toList ≠ [])
    (hQ : Q (.int ((binNum x.cps.toList : Nat) : Int) s.toks) { s with toks := s.toks + 1 }) : wpAny (model prog w) A (call (.type "int") [.str x u, .int 2 t]) Q E s :=
  callType_new F.called_int F.newNe_int (Hx.typeCall_int_2 _ _) (Hx.newCall_int_2 _ _) (fun obj => F.initArgs_range_2 obj _ _) F.entry_int_new (gives_bin hl h hne).meets (show (Made.int ((binNum x.cps.toList : Nat) : Int)).post _ s from ⟨rfl, hQ⟩)
end Bx
end Fx
set_option maxHeartbeats 1000000
namespace Fx
open PySem PySem.Spec PyProof.Rows L2
/-! ### text[::-1] -/
def revS (z : Str) : Str := ⟨z.cps.toList.reverse.toArray⟩
theorem back_places_s (n : Nat) : Builtin.Str.strSliceIndices none none (-1) n = (List.range n).map fun k => n - 1 - k := by
  exact PySem.W.krv_sliceRange n
theorem back_pick_s (z : Str) : (Builtin.Str.strSliceIndices none none (-1) z.length).filterMap (z.cps[·]?) = z.cps.toList.reverse := by
  rw [back_places_s]
  show ((List.range z.cps.size).map fun k => z.cps.size - 1 - k).filterMap (z.cps[·]?) = _
  rw [PySem.W.krv_range, List.filterMap_reverse, PySem.W.krv_all]
section
variable {X : Cx}
def tBackS (te : TE) : TE := fun σ H Q => te σ H fun x H1 => ∃ z, x = .str z ∧ z.length ≤ sizeLine ∧ Q (.str (revS z)) H1
theorem pe_backS {e : Expr} {te : TE} {k : Nat} {p1 p2 p3 pos : Pos} (he : PE X e te) : PE X (.Subscript e (.Slice none none (some (.UnaryOp .USub (.Constant (.int 1) k p1) p2)) p3) pos) (tBackS te) := by
  refine ⟨fun pins s σ H Q I h => ?_⟩
  refine Subscript_ (thn (he.run pins s σ H _ I h) fun v s1 hv => ?_)
  obtain ⟨x, H1, I1, r1, z, ex, hz, q⟩ := hv
  subst ex
  obtain ⟨t, rfl⟩ := r1
  have hst : PO X (some (.UnaryOp .USub (.Constant (.int 1) k p1) p2)) (tPart (tUn (rU fun i => .int (-i)) (tC (.int 1)))) := po_some (pe_un un_neg pe_int)
  refine wpAny_Slice (thn (po_none.run pins s1 σ H1 (fun o H2 => o = none ∧ H2 = H1) I1 ⟨rfl, rfl⟩) fun vl s2 h2 => ?_)
  obtain ⟨l, H2, I2, pl, el, e2⟩ := h2
  subst el e2
  refine thn (po_none.run pins s2 σ H2 (fun o H3 => o = none ∧ H3 = H2) I2 ⟨rfl, rfl⟩) fun vu s3 h3 => ?_
  obtain ⟨u, H3, I3, pu, eu, e3⟩ := h3
  subst eu e3
  refine thn (hst.run pins s3 σ H3 (fun o H4 => o = some (-1) ∧ H4 = H3) I3 ⟨1, rfl, -1, rfl, rfl, rfl⟩) fun vs s4 h4 => ?_
  obtain ⟨o, H4, I4, ps, eo, e4⟩ := h4
  subst eo e4
  have I5 := I4.kept (h' := s4.heap.push { cls := .type "slice", data := .fields #[vl, vu, vs] }) (t' := s4.toks) fun b ob q => Heap.get?_push_of_some _ q
  obtain ⟨l', rfl, el⟩ := IsPart.raw pl
  obtain ⟨u', rfl, eu⟩ := IsPart.raw pu
  obtain ⟨st, rfl, es⟩ := IsPart.raw ps
  have hl' : l' = none := by cases l' with | none => rfl | some _ => cases el
  have hu' : u' = none := by cases u' with | none => rfl | some _ => cases eu
  obtain ⟨tk, rfl⟩ : ∃ tk, st = some (-1, tk) := by
    cases st with
    | none => cases es
    | some p => obtain ⟨i, tk⟩ := p; cases es; exact ⟨tk, rfl⟩
  subst hl' hu'
  refine tail_any (ops := [.str z t, .ref s4.heap.objs.size]) (typeIs_str _ _ _) (F.slot_str_getitem.lookup) ?_ (by with_unfolding_all rfl)
  refine wpAny_getItem_str_slice (l := none) (u := none) (st := some (-1, tk)) ?_ rfl ?_
  · exact Heap.IsSliceOf.new _ _ _ _
  · show Made.post (if ((-1 : Int) == 1 && _) = true then Made.val (.str z t) else Made.str ⟨((Builtin.Str.strSliceIndices none none (-1) z.length).filterMap (z.cps[·]?)).toArray⟩) (EP X pins σ Q) _
    rw [if_neg (by rw [show ((-1 : Int) == 1) = false by decide, Bool.false_and]; decide), back_pick_s]
    exact ⟨by show z.cps.toList.reverse.toArray.size ≤ _; rw [List.size_toArray, List.length_reverse, Array.length_toList]; exact hz, .str _, _, I5.tok _, ⟨_, rfl⟩, q⟩
end
end Fx
set_option maxHeartbeats 1000000
namespace Fx
open PySem PySem.Spec PyProof.Rows L2
open Evl (Ex)
section
variable {X : Cx}
/-! ### f'{x:b}' -/
def tFmtB (te : TE) : TE := fun σ H Q => te σ H fun x H1 => ∃ n : Nat, x = .int (n : Int) ∧ (binS n).length ≤ sizeLine ∧ Q (.str (binS n)) H1
theorem pe_fmtB {e : Expr} {te : TE} {k : Nat} {p1 p2 p3 p4 : Pos} (he : PE X e te) :
    PE X (.JoinedStr [.FormattedValue e (-1) (some (.JoinedStr [.Constant (.str (Str.ofString "b")) k p1] p2)) p3] p4) (tFmtB te) := by
  refine ⟨fun pins s σ H Q I h => ?_⟩
  refine wpAny_JoinedStr_one (wpAny_FormattedValue_spec (thn (he.run pins s σ H _ I h) fun v s1 hv => ?_))
  obtain ⟨x, H1, I1, r1, n, ex, hz, q⟩ := hv
  subst ex
  obtain ⟨t, rfl⟩ := r1
  have hb : PE X (.Constant (.str (Str.ofString "b")) k p1) (tC (.str (Str.ofString "b"))) := pe_str
  refine wpAny_JoinedStr_one (thn (hb.run pins s1 σ H1 (fun y H2 => y = .str (Str.ofString "b") ∧ H2 = H1) I1 ⟨rfl, rfl⟩) fun w s2 hw => ?_)
  obtain ⟨y, H2, I2, r2, ey, e2⟩ := hw
  subst ey e2
  obtain ⟨t2, rfl⟩ := r2
  exact ⟨_, _, rfl, format_b hz fun t' k => ⟨.str (binS n), H2, I2.tok k, ⟨t', rfl⟩, q⟩⟩
noncomputable def fmtBF (f : FE) : FE := fun ρ T => bindF (f ρ T) fun d T' => match d with
  | .int i => if dc (0 ≤ i ∧ (binS i.toNat).length ≤ sizeLine) then some (.str (binS i.toNat), T') else none
  | _ => none
theorem xe_fmtB {e : Expr} {f : FE} {k : Nat} {p1 p2 p3 p4 : Pos} (he : XE X e f) :
    XE X (.JoinedStr [.FormattedValue e (-1) (some (.JoinedStr [.Constant (.str (Str.ofString "b")) k p1] p2)) p3] p4) (fmtBF f) := pe_weak (pe_fmtB he) fun σ H Q h => by
  obtain ⟨Z, G, ad, T, ρ, pa, d, T', N, hf, kk⟩ := h
  obtain ⟨x, T1, h1, h2⟩ := bindF_eq hf
  refine ⟨Z, G, ad, T, ρ, pa, x, T1, N, h1, fun v G1 ad1 H1 x1 r1 => ?_⟩
  split at h2
  · split at h2
    · rename_i hc
      cases h2
      have hc := of_dc hc
      refine ⟨_, ?_, hc.2, kk _ G1 ad1 H1 x1 (.str _)⟩
      rw [r1.inv_int, Int.toNat_of_nonneg hc.1]
    · cases h2
  · cases h2
/-! ### int(text, 2) -/
def rInt2 : List V → Hp → VK → Prop := fun xs H Q => ∃ z : Str, xs = [.str z, .int 2] ∧ z.length ≤ 640 ∧ (∀ c ∈ z.cps.toList, Bx.IsBin c) ∧ z.cps.toList ≠ [] ∧ Q (.int ((Bx.binNum z.cps.toList : Nat) : Int)) H
theorem call_int2 : CallR X (.type "int") rInt2 := by
  intro pins s σ H xs us Q I rs ⟨z, ex, h1, h2, h3, q⟩
  subst ex
  obtain ⟨u, w, rfl, ⟨t, rfl⟩, ⟨t2, rfl⟩⟩ := Vals.two rs
  exact Bx.call_bin h1 h2 h3 ⟨.int ((Bx.binNum z.cps.toList : Nat) : Int), H, I.tok _, ⟨s.toks, rfl⟩, q⟩
noncomputable def int2D : List D → Option D
  | [.str z, .int i] => if dc (i = 2 ∧ z.length ≤ 640 ∧ (∀ c ∈ z.cps.toList, Bx.IsBin c) ∧ z.cps.toList ≠ []) then some (.int ((Bx.binNum z.cps.toList : Nat) : Int)) else none
  | _ => none
theorem ok_int2 {K : PySem.W.Frag} : OkC K rInt2 int2D := fun Z G ad T ρ σ H pa vs ds z Q N r hg k => by
  unfold int2D at hg
  split at hg
  · split at hg
    · rename_i hc
      cases hg
      have hc := of_dc hc
      obtain ⟨v, w, rfl, h1, h2⟩ := r.two
      refine ⟨_, ?_, hc.2.1, hc.2.2.1, hc.2.2.2, k _ G ad H N.nx (.int _)⟩
      rw [h1.inv_str, h2.inv_int, hc.1]
    · cases hg
  · cases hg
/-! ### text.join(xs), text.zfill(n) -/
def OkM (K : PySem.W.Frag) (r : V → List V → Hp → VK → Prop) (g : Str → D → Option D) : Prop := ∀ (Z : Zc) (G : Hp) (ad : List Addr) (T : Tm) (ρ : Rho) (σ : L2.St) (H : Hp) (pa : Nat → Addr) (z : Str) (w : V) (y u : D) (Q : VK),
  En K Z G ad T ρ σ H pa → Rp K G ad w y → g z y = some u → (∀ x G' ad' H', Nx K Z G ad H ρ σ pa T G' ad' H' → Rp K G' ad' x u → Q x H') → r (.str z) [w] H Q
def m1F (g : Str → D → Option D) (f1 f2 : FE) : FE := fun ρ T => bindF (f1 ρ T) fun a T1 => match a with
  | .str s => bindF (f2 ρ T1) fun b T2 => (g s b).map fun d => (d, T2)
  | _ => none
theorem xe_m1 {e : Expr} {r : V → List V → Hp → VK → Prop} {g : Str → D → Option D} {f1 f2 : FE} (h : PE X e (tM1 r (tD X.K f1) (tD X.K f2))) (hr : OkM X.K r g) : XE X e (m1F g f1 f2) := pe_weak h fun σ H Q h => by
  obtain ⟨Z, G, ad, T, ρ, pa, d, T', N, hf, k⟩ := h
  obtain ⟨a, T1, h1, h2⟩ := bindF_eq hf
  cases a with
  | str s =>
    obtain ⟨b, T2, h3, h4⟩ := bindF_eq h2
    obtain ⟨u, h5, h6⟩ := Option.map_eq_some_iff.mp h4
    cases h6
    refine ⟨Z, G, ad, T, ρ, pa, .str s, T1, N, h1, fun v G1 ad1 H1 x1 r1 => ?_⟩
    have := r1.inv_str
    subst this
    exact ⟨⟨s, rfl⟩, Z, G1, ad1, T1, ρ, pa, b, _, x1.en, h3, fun w G2 ad2 H2 x2 r2 => hr Z G2 ad2 _ ρ σ H2 pa s w b _ Q x2.en r2 h5 fun y G3 ad3 H3 x3 r3 => k y G3 ad3 H3 ((x1.trans x2).trans x3) r3⟩
  | _ => cases h2
def txts : List D → Option (List Str)
  | [] => some []
  | .str z :: r => (txts r).map (z :: ·)
  | _ :: _ => none
theorem txts_rel {K : PySem.W.Frag} {G : Hp} {ad : List Addr} : ∀ {vs : List V} {ds : List D} {zs : List Str}, RpL K G ad vs ds → txts ds = some zs → vs = zs.map V.str
  | _, _, _, .nil, h => by cases h; rfl
  | _, _, _, .cons (d := d) h t, e => by
    cases d with
    | str z =>
      obtain ⟨r, h1, h2⟩ := Option.map_eq_some_iff.mp e
      cases h2
      rw [h.inv_str, txts_rel t h1]
      rfl
    | _ => cases e
theorem txts_map (zs : List Str) : txts (zs.map D.str) = some zs := by
  induction zs with
  | nil => rfl
  | cons z zs ih => show (txts (zs.map D.str)).map (z :: ·) = _; rw [ih]; rfl
noncomputable def joinL (s : Str) (ds : List D) : Option D := match txts ds with
  | some zs => if dc ((zs.map fun x => x.length).sum + zs.length * s.length ≤ 16777216) then some (.str (Txt.join s zs)) else none
  | none => none
noncomputable def joinD : Str → D → Option D := fun s y => match y with
  | .tup ds => joinL s ds
  | .lst ds => joinL s ds
  | .frl ds => joinL s ds
  | _ => none
theorem ok_join {K : PySem.W.Frag} : OkM K (fun x xs H Q => ∃ a p ys, x = V.str a ∧ xs = [V.ref p] ∧ (SqL K H p (List.map V.str ys) ∨ SqT K H p (List.map V.str ys)) ∧ (List.map (fun x => x.length) ys).sum + ys.length * a.length ≤ 16777216 ∧ Q (V.str (Txt.join a ys)) H) joinD := fun Z G ad T ρ σ H pa z w y u Q N r hg k => by
  have key : ∀ {ds : List D} {vs : List V} {p : Addr}, RpL K G ad vs ds → joinL z ds = some u → (SqL K H p vs ∨ SqT K H p vs) → w = .ref p → ∃ a p ys, V.str z = V.str a ∧ [w] = [V.ref p] ∧ (SqL K H p (List.map V.str ys) ∨ SqT K H p (List.map V.str ys)) ∧ (List.map (fun x => x.length) ys).sum + ys.length * a.length ≤ 16777216 ∧ Q (V.str (Txt.join a ys)) H := fun {ds vs p} hr hj hs hw => by
    unfold joinL at hj
    split at hj
    · rename_i zs hz
      split at hj
      · rename_i hc
        cases hj
        have e := txts_rel hr hz
        subst e hw
        exact ⟨z, p, zs, rfl, rfl, hs, of_dc hc, k _ G ad H N.nx (.str _)⟩
      · cases hj
    · cases hj
  unfold joinD at hg
  split at hg
  · obtain ⟨a, vs, rfl, h1, h2⟩ := r.inv_tup
    exact key h2 hg (.inr (N.iv.tup h1)) rfl
  · obtain ⟨a, vs, rfl, h1, h2⟩ := r.inv_lst
    exact key h2 hg (.inl (.inl (.inl (N.iv.ex _ _ h1)))) rfl
  · obtain ⟨a, vs, rfl, h1, h2⟩ := r.inv_frl
    exact key h2 hg (.inl (N.iv.seq h1)) rfl
  · cases hg
noncomputable def zfillD : Str → D → Option D := fun s y => match y with
  | .int i => if dc (PadOk i = true) then some (.str (Txt.zfill s i)) else none
  | _ => none
theorem ok_zfill {K : PySem.W.Frag} : OkM K (fun x xs H Q => ∃ a i, x = V.str a ∧ xs = [V.int i] ∧ PadOk i = true ∧ Q (V.str (Txt.zfill a i)) H) zfillD := fun Z G ad T ρ σ H pa z w y u Q N r hg k => by
  unfold zfillD at hg
  split at hg
  · split at hg
    · rename_i hc
      cases hg
      exact ⟨z, _, rfl, by rw [r.inv_int], of_dc hc, k _ G ad H N.nx (.str _)⟩
    · cases hg
  · cases hg
/-! ### x[::-1] -/
def bk2F (fo : FO) : FE := fun ρ T => bindF (fo ρ T) fun o T' => match seqD T' o with
  | some (false, ds) => some (.lst ds.reverse, T')
  | some (true, ds) => some (.tup ds.reverse, T')
  | none => match o with
    | .val (.str s) => if s.length ≤ sizeLine then some (.str (revS s), T') else none
    | _ => none
theorem PE.or3 {e : Expr} {t t' t'' : TE} (h : PE X e t) (h' : PE X e t') (h'' : PE X e t'') : PE X e (fun σ H Q => t σ H Q ∨ t' σ H Q ∨ t'' σ H Q) := PE.or h (PE.or h' h'')
theorem xe_bk2 {e : Expr} {fo : FO} {k : Nat} {p1 p2 p3 pos : Pos} (he : XO X e fo) : XE X (.Subscript e (.Slice none none (some (.UnaryOp .USub (.Constant (.int 1) k p1) p2)) p3) pos) (bk2F fo) := by
  refine pe_weak (PE.or3 (pe_backT he) (pe_revL he) (pe_backS he)) fun σ H Q h => ?_
  obtain ⟨Z, G, ad, T, ρ, pa, d, T', N, hf, kk⟩ := h
  obtain ⟨o, T1, h1, h2⟩ := bindF_eq hf
  split at h2
  · rename_i ds hs
    cases h2
    refine .inr (.inl ⟨Z, G, ad, T, ρ, pa, o, _, N, h1, fun v G1 ad1 H1 x1 r1 => ?_⟩)
    obtain ⟨p, vs, rfl, hr, hl, ht⟩ := seq_rel x1.en r1 hs
    refine ⟨p, vs, rfl, hl rfl, fun q hq => ?_⟩
    have x4 := x1.en.knowN hq (.lst vs.reverse)
    exact kk _ _ _ _ (x1.trans x4) (.lst upd_same (x4.rpl hr.reverse))
  · rename_i ds hs
    cases h2
    refine .inl ⟨Z, G, ad, T, ρ, pa, o, _, N, h1, fun v G1 ad1 H1 x1 r1 => ?_⟩
    obtain ⟨p, vs, rfl, hr, hl, ht⟩ := seq_rel x1.en r1 hs
    refine ⟨p, vs, rfl, ht rfl, fun q o hq hd => ?_⟩
    have x4 := x1.en.knowN hq (.frz o (.tup vs.reverse))
    exact kk _ _ _ _ (x1.trans x4) (.tup (TupK.new hd) (x4.rpl hr.reverse))
  · split at h2
    · split at h2
      · rename_i hz
        cases h2
        refine .inr (.inr ⟨Z, G, ad, T, ρ, pa, _, _, N, h1, fun v G1 ad1 H1 x1 r1 => ?_⟩)
        exact ⟨_, Rp.inv_str r1, hz, kk _ G1 ad1 H1 x1 (.str _)⟩
      · cases h2
    · cases h2
/-! ### a walk over a text too -/
def chars (z : Str) : List D := z.cps.toList.map fun c => .str ⟨#[c]⟩
def itU2 (f : FE) : FA := fun ρ T => bindF (f ρ T) fun d T' => match d with
  | .tup ds => some (ds, T')
  | .lst ds => some (ds, T')
  | .frl ds => some (ds, T')
  | .str z => some (chars z, T')
  | _ => none
theorem itOk_str {K : PySem.W.Frag} {G0 : Hp} {ad0 : List Addr} (z : Str) : ItOk K (Its z) G0 ad0 (chars z) where
  go := fun Z G ad T ρ σ H pa m N e p hi => by
    unfold chars at hi
    rw [List.length_map, Array.length_toList] at hi
    exact hi
  stop := fun Z G ad T ρ σ H pa m N e p hi => by
    unfold chars at hi
    rw [List.length_map, Array.length_toList] at hi
    exact hi
  yld := fun Z G ad T ρ σ H pa m x H' N e p hi y => by
    obtain ⟨rfl, c, hc, rfl⟩ := y
    refine ⟨G, .str ⟨#[c]⟩, N.nx, ?_, .str _⟩
    unfold chars
    rw [List.getElem?_map, Array.getElem?_toList, hc]
    rfl
theorem xi_seq2 {tg e : Expr} {f : FE} (h : XE X e f) : XI X tg e (itU2 f) := pi_weak (PI.or (xi_seq (tg := tg) h) (pi_str (tg := tg) h)) fun σ H R h => by
  obtain ⟨Z, G, ad, T, ρ, pa, ds, T', N, hf, k⟩ := h
  obtain ⟨d, T1, h1, h2⟩ := bindF_eq hf
  split at h2
  · cases h2
    exact .inl ⟨Z, G, ad, T, ρ, pa, ds, _, N, by unfold itU; rw [h1]; rfl, k⟩
  · cases h2
    exact .inl ⟨Z, G, ad, T, ρ, pa, ds, _, N, by unfold itU; rw [h1]; rfl, k⟩
  · cases h2
    exact .inl ⟨Z, G, ad, T, ρ, pa, ds, _, N, by unfold itU; rw [h1]; rfl, k⟩
  · cases h2
    refine .inr ⟨Z, G, ad, T, ρ, pa, _, _, N, h1, fun v G1 ad1 H1 x1 r1 => ?_⟩
    exact ⟨_, r1.inv_str, k _ G1 ad1 H1 x1 (itOk_str _)⟩
  · cases h2
/-! ### bit_length, wide shifts -/
def bitsF (f : FE) : FE := fun ρ T => bindF (f ρ T) fun d T' => match d with
  | .int i => some (.int (Builtin.Int.intBits i), T')
  | _ => none
theorem xe_bits {o : Expr} {f : FE} {apos pos : Pos} (h : XE X o f) (hb : attributeBase o (Str.ofString "bit_length") X.env (eval o X.env) = eval o X.env := by rfl) (hl : (apos.endLine == pos.line) = true := by rfl) :
    XE X (.Call (.Attribute o (Str.ofString "bit_length") apos) [] [] pos) (bitsF f) := pe_weak (pe_bits h hb hl) fun σ H Q h => by
  obtain ⟨Z, G, ad, T, ρ, pa, d, T', N, hf, k⟩ := h
  obtain ⟨x, T1, h1, h2⟩ := bindF_eq hf
  refine ⟨Z, G, ad, T, ρ, pa, x, T1, N, h1, fun v G1 ad1 H1 x1 r1 => ?_⟩
  split at h2
  · cases h2
    exact ⟨_, r1.inv_int, k _ G1 ad1 H1 x1 (.int _)⟩
  · cases h2
noncomputable def cShl : Int → Int → Bool := fun i j => dc (0 ≤ j ∧ ((Builtin.Int.intBits i : Nat) : Int) + j ≤ 2 ^ 27)
theorem cShl_ok (i j : Int) (h : cShl i j = true) : CShl i j := of_dc h
noncomputable abbrev shwD := iiF cShl fun i j => .int (i * 2 ^ j.toNat)
theorem xe_shw {a b : Expr} {f1 f2 : FE} {pos : Pos} (h1 : XE X a f1) (h2 : XE X b f2) : XE X (.BinOp a .LShift b pos) (binF shwD f1 f2) := xe_op op_shlW (ok_ii cShl_ok fun _ _ _ _ => .int _) h1 h2
/-! ### range(a, b, c) -/
def rngD (i c : Int) (n : Nat) : List D := (List.range n).map fun (k : Nat) => .int (i + (k : Int) * c)
noncomputable def rng3 (fs : FA) : FA := fun ρ T => bindF (fs ρ T) fun ds T' => match ds with
  | [.int i, .int j, .int c] => if dc (RgC i j c (Builtin.Range.rangeSize i j c).toNat) then some (rngD i c (Builtin.Range.rangeSize i j c).toNat, T') else none
  | _ => none
theorem itOk_rng3 {K : PySem.W.Frag} {G0 : Hp} {ad0 : List Addr} (i c : Int) (n : Nat) : ItOk K (Itc i c n) G0 ad0 (rngD i c n) where
  go := fun Z G ad T ρ σ H pa m N e p hi => by
    unfold rngD at hi
    rw [List.length_map, List.length_range] at hi
    exact hi
  stop := fun Z G ad T ρ σ H pa m N e p hi => by
    unfold rngD at hi
    rw [List.length_map, List.length_range] at hi
    exact hi
  yld := fun Z G ad T ρ σ H pa m x H' N e p hi y => by
    obtain ⟨rfl, rfl⟩ := y
    unfold rngD at hi
    rw [List.length_map, List.length_range] at hi
    refine ⟨G, .int (i + (m : Int) * c), N.nx, ?_, .int _⟩
    unfold rngD
    rw [List.getElem?_map, List.getElem?_range hi]
    rfl
theorem RpL.three {K : PySem.W.Frag} {G : Hp} {ad : List Addr} {vs : List V} {d e f : D} (r : RpL K G ad vs [d, e, f]) : ∃ v w u, vs = [v, w, u] ∧ Rp K G ad v d ∧ Rp K G ad w e ∧ Rp K G ad u f := by
  cases r with
  | cons h t =>
    obtain ⟨w, u, rfl, h2, h3⟩ := t.two
    exact ⟨_, w, u, rfl, h, h2, h3⟩
theorem xi_rng3 {tg e : Expr} {fs : FA} (h : PI X tg e (iRng3 (tDA X.K fs))) : XI X tg e (rng3 fs) := pi_weak h fun σ H R h => by
  obtain ⟨Z, G, ad, T, ρ, pa, ds, T', N, hf, k⟩ := h
  obtain ⟨d, T1, h1, h2⟩ := bindF_eq hf
  refine ⟨Z, G, ad, T, ρ, pa, d, T1, N, h1, fun vs G1 ad1 H1 x1 r1 => ?_⟩
  split at h2
  · split at h2
    · rename_i hc
      cases h2
      obtain ⟨v, w, u, rfl, q1, q2, q3⟩ := r1.three
      exact ⟨_, _, _, _, by rw [q1.inv_int, q2.inv_int, q3.inv_int], of_dc hc, k _ G1 ad1 H1 x1 (itOk_rng3 _ _ _)⟩
    · cases h2
  · cases h2
end
end Fx
namespace Fx
open PySem PySem.Spec PyProof.Rows L2
/-! ### gcd, lcm -/
def gcdD : List D → Option D
  | [.int i, .int j] => some (.int ((i.natAbs.gcd j.natAbs : Nat) : Int))
  | _ => none
theorem ok_gcd {K : PySem.W.Frag} : OkC K rGcd gcdD := fun Z G ad T ρ σ H pa vs ds z Q N r hg k => by
  unfold gcdD at hg
  split at hg
  · cases hg
    obtain ⟨v, w, rfl, h1, h2⟩ := r.two
    exact ⟨_, _, by rw [h1.inv_int, h2.inv_int], k _ G ad H N.nx (.int _)⟩
  · cases hg
def rLcm : List V → Hp → VK → Prop := fun vs H Q => ∃ a b : Int, vs = [.int a, .int b] ∧ a.natAbs < 2 ^ 64 ∧ b.natAbs < 2 ^ 64 ∧ Q (.int ((a.natAbs.lcm b.natAbs : Nat) : Int)) H
theorem cr_lcm {X : Cx} : CallR X (.builtin "math.lcm") rLcm := by
  intro pins s σ H xs us Q I rs ⟨a, b, ex, h1, h2, q⟩
  subst ex
  obtain ⟨u, w, rfl, ⟨t, rfl⟩, ⟨t2, rfl⟩⟩ := Vals.two rs
  exact PySem.W.mc_lcm h1 h2 fun _ => ⟨.int _, H, I.tok _, ⟨s.toks, rfl⟩, q⟩
noncomputable def lcmD : List D → Option D
  | [.int i, .int j] => if dc (i.natAbs < 2 ^ 64 ∧ j.natAbs < 2 ^ 64) then some (.int ((i.natAbs.lcm j.natAbs : Nat) : Int)) else none
  | _ => none
theorem ok_lcm {K : PySem.W.Frag} : OkC K rLcm lcmD := fun Z G ad T ρ σ H pa vs ds z Q N r hg k => by
  unfold lcmD at hg
  split at hg
  · split at hg
    · rename_i hc
      cases hg
      obtain ⟨v, w, rfl, h1, h2⟩ := r.two
      exact ⟨_, _, by rw [h1.inv_int, h2.inv_int], (of_dc hc).1, (of_dc hc).2, k _ G ad H N.nx (.int _)⟩
    · cases hg
  · cases hg
end Fx
/-! rows that repeat, patterns: the mathematics alone -/
namespace PM
def at_ (l : List Bool) (y : Int) : Bool := l.getD (y % (l.length : Int)).toNat false
def rep (k : Nat) (l : List Bool) : List Bool := (List.replicate (l.length / k) (l.take k)).flatten
def okK (l : List Bool) (k : Nat) : Bool := decide (l.length % k = 0) && decide (l = rep k l)
def short (l : List Bool) : List Bool := match (List.range l.length).find? (fun k => okK l (k + 1)) with
  | some k => l.take (k + 1)
  | none => l
def Per (f : Int → Bool) (n : Int) : Prop := ∀ y, f (y + n) = f y
theorem flat_get (xs : List Bool) (k : Nat) (hk : xs.length = k) (h0 : 0 < k) : ∀ (m i : Nat), i < m * k → (List.replicate m xs).flatten[i]? = xs[i % k]?
  | 0, i, h => by omega
  | m + 1, i, h => by
    rw [List.replicate_succ, List.flatten_cons]
    by_cases hi : i < k
    · rw [List.getElem?_append_left (by omega), Nat.mod_eq_of_lt hi]
    · rw [List.getElem?_append_right (by omega), hk, flat_get xs k hk h0 m (i - k) (by rw [Nat.succ_mul] at h; omega)]
      congr 1
      rw [← Nat.mod_eq_sub_mod (by omega)]
theorem flat_len (xs : List Bool) : ∀ m : Nat, (List.replicate m xs).flatten.length = m * xs.length
  | 0 => by simp
  | m + 1 => by rw [List.replicate_succ, List.flatten_cons, List.length_append, flat_len xs m, Nat.succ_mul]; omega
theorem rep_iff {l : List Bool} {k : Nat} (h0 : 0 < k) (hk : k ≤ l.length) (hd : l.length % k = 0) : l = rep k l ↔ ∀ i, i < l.length → l[i]? = l[i % k]? := by
  have ht : (l.take k).length = k := by rw [List.length_take]; omega
  have hm : l.length / k * k = l.length := Nat.div_mul_cancel (Nat.dvd_of_mod_eq_zero hd)
  have key : ∀ i, i < l.length → (rep k l)[i]? = l[i % k]? := fun i hi => by
    unfold rep
    rw [flat_get _ k ht h0 _ i (by omega), List.getElem?_take, if_pos (Nat.mod_lt _ h0)]
  constructor
  · intro h i hi
    rw [← key i hi, ← h]
  · intro h
    apply List.ext_getElem?
    intro i
    by_cases hi : i < l.length
    · rw [key i hi]
      exact h i hi
    · have : (rep k l).length = l.length := by unfold rep; rw [flat_len, ht, hm]
      rw [List.getElem?_eq_none (by omega), List.getElem?_eq_none (by omega)]
theorem at_get {l : List Bool} (h : l ≠ []) (y : Int) : l[(y % (l.length : Int)).toNat]? = some (at_ l y) := by
  have hp : 0 < l.length := List.length_pos_iff.mpr h
  have h1 := Int.emod_nonneg y (show (l.length : Int) ≠ 0 by omega)
  have h2 := Int.emod_lt_of_pos y (show (0 : Int) < l.length by omega)
  have h3 : (y % (l.length : Int)).toNat < l.length := by omega
  unfold at_
  rw [List.getD_eq_getElem?_getD, List.getElem?_eq_getElem h3]
  rfl
theorem at_nat {l : List Bool} {i : Nat} (hi : i < l.length) : l[i]? = some (at_ l (i : Int)) := by
  have h : l ≠ [] := fun e => by subst e; simp at hi
  have := at_get h (i : Int)
  rw [Int.emod_eq_of_lt (by omega) (by omega)] at this
  exact this
theorem at_per {l : List Bool} : Per (at_ l) l.length := fun y => by
  unfold at_
  rw [Int.add_emod_right]
theorem Per.mul {f : Int → Bool} {n : Int} (h : Per f n) : ∀ (k : Nat) (y : Int), f (y + k * n) = f y
  | 0, y => by simp
  | k + 1, y => by
    have e : y + ((k + 1 : Nat) : Int) * n = (y + k * n) + n := by
      rw [Int.natCast_succ, Int.add_mul, Int.one_mul]
      omega
    rw [e, h, Per.mul h k y]
theorem Per.neg {f : Int → Bool} {n : Int} (h : Per f n) : Per f (-n) := fun y => by
  have := h (y + -n)
  rw [show y + -n + n = y by omega] at this
  exact this.symm
theorem Per.imul {f : Int → Bool} {n : Int} (h : Per f n) (k : Int) (y : Int) : f (y + k * n) = f y := by
  rcases Int.le_total 0 k with hk | hk
  · have := h.mul k.toNat y
    rw [show ((k.toNat : Nat) : Int) = k by omega] at this
    exact this
  · have := h.neg.mul (-k).toNat y
    rw [show (((-k).toNat : Nat) : Int) = -k by omega, Int.neg_mul_neg] at this
    exact this
theorem Per.add {f : Int → Bool} {n m : Int} (h : Per f n) (g : Per f m) : Per f (n + m) := fun y => by
  rw [← Int.add_assoc, g, h]
theorem Per.times {f : Int → Bool} {n : Int} (h : Per f n) (k : Int) : Per f (k * n) := fun y => h.imul k y
/-- a common divisor of two periods -/
theorem Per.gcd {f : Int → Bool} : ∀ (n m : Nat), Per f n → Per f m → Per f (Nat.gcd n m) := by
  intro n m
  induction n, m using Nat.gcd.induction with
  | H0 m => intro _ h; rw [Nat.gcd_zero_left]; exact h
  | H1 n m hn ih =>
    intro h1 h2
    rw [Nat.gcd_rec]
    refine ih ?_ h1
    have e : ((m % n : Nat) : Int) = (m : Int) + (-(m / n : Nat)) * (n : Int) := by
      have := Nat.div_add_mod m n
      have h3 : (m : Int) = (n : Int) * ((m / n : Nat) : Int) + ((m % n : Nat) : Int) := by exact_mod_cast this.symm
      rw [Int.neg_mul, Int.mul_comm]
      omega
    rw [e]
    exact h2.add (h1.times _)
/-- a row repeats by k exactly if its function does -/
theorem okK_iff {l : List Bool} {k : Nat} (h0 : 0 < k) (hk : k ≤ l.length) : okK l k = true ↔ l.length % k = 0 ∧ Per (at_ l) k := by
  unfold okK
  rw [Bool.and_eq_true, decide_eq_true_eq, decide_eq_true_eq]
  constructor
  · rintro ⟨hd, hr⟩
    refine ⟨hd, fun y => ?_⟩
    have hl : l ≠ [] := fun e => by subst e; simp at hk; omega
    have hp : 0 < l.length := List.length_pos_iff.mpr hl
    have q := (rep_iff h0 hk hd).mp hr
    have step : ∀ y : Int, at_ l y = at_ l (y % (k : Int)) := fun y => by
      have a1 := at_get hl y
      have n1 := Int.emod_nonneg y (show (l.length : Int) ≠ 0 by omega)
      have n2 := Int.emod_lt_of_pos y (show (0 : Int) < l.length by omega)
      rw [q _ (by omega)] at a1
      have n3 := Int.emod_nonneg y (show (k : Int) ≠ 0 by omega)
      have n4 := Int.emod_lt_of_pos y (show (0 : Int) < k by omega)
      have e : (y % (l.length : Int)).toNat % k = (y % (k : Int)).toNat := by
        have e1 : (((y % (l.length : Int)).toNat % k : Nat) : Int) = y % (k : Int) := by
          rw [Int.natCast_emod, Int.toNat_of_nonneg n1]
          exact Int.emod_emod_of_dvd y (Int.natCast_dvd_natCast.mpr (Nat.dvd_of_mod_eq_zero hd))
        omega
      rw [e] at a1
      have a2 := at_nat (l := l) (i := (y % (k : Int)).toNat) (by omega)
      rw [a1] at a2
      rw [show (((y % (k : Int)).toNat : Nat) : Int) = y % (k : Int) by omega] at a2
      exact Option.some.inj a2
    rw [step (y + k), step y, Int.add_emod_right]
  · rintro ⟨hd, hp⟩
    refine ⟨hd, (rep_iff h0 hk hd).mpr fun i hi => ?_⟩
    have hm : i % k < l.length := by have := Nat.mod_lt i h0; omega
    rw [at_nat hi, at_nat hm]
    congr 1
    have := hp.mul (i / k) ((i % k : Nat) : Int)
    rw [← this]
    congr 1
    have e := Nat.mod_add_div i k
    have : (i : Int) = ((i % k : Nat) : Int) + (k : Int) * ((i / k : Nat) : Int) := by exact_mod_cast e.symm
    rw [Int.mul_comm ((i / k : Nat) : Int)]
    exact this
/-- as short as possible -/
def Short (l : List Bool) : Prop := l ≠ [] ∧ ∀ k : Nat, 0 < k → k ≤ l.length → l.length % k = 0 → Per (at_ l) k → k = l.length
theorem take_at {l : List Bool} {k : Nat} (h0 : 0 < k) (hk : k ≤ l.length) (hp : Per (at_ l) k) : at_ (l.take k) = at_ l := by
  funext y
  have ht : (l.take k).length = k := by rw [List.length_take]; omega
  have hne : l.take k ≠ [] := fun e => by rw [e] at ht; simp at ht; omega
  have a := at_get hne y
  rw [ht] at a
  have n3 := Int.emod_nonneg y (show (k : Int) ≠ 0 by omega)
  have n4 := Int.emod_lt_of_pos y (show (0 : Int) < k by omega)
  rw [List.getElem?_take, if_pos (by omega), at_nat (by omega)] at a
  rw [← Option.some.inj a, show (((y % (k : Int)).toNat : Nat) : Int) = y % (k : Int) by omega]
  have e := hp.imul (y / k) (y % k)
  rw [← e]
  congr 1
  have := Int.emod_add_mul_ediv y k
  rw [Int.mul_comm] at this
  exact this
theorem find_range {p : Nat → Bool} : ∀ (n : Nat), (∃ k, k < n ∧ p k = true) → ∃ k, (List.range n).find? p = some k ∧ k < n ∧ p k = true ∧ ∀ j, j < k → p j = false := by
  intro n h
  cases e : (List.range n).find? p with
  | none =>
    obtain ⟨k, h1, h2⟩ := h
    have := List.find?_eq_none.mp e k (List.mem_range.mpr h1)
    rw [h2] at this
    exact absurd rfl this
  | some k =>
    refine ⟨k, rfl, List.mem_range.mp (List.mem_of_find?_eq_some e), List.find?_some e, fun j hj => ?_⟩
    obtain ⟨_, as, bs, h1, h2⟩ := List.find?_eq_some_iff_append.mp e
    have hlen : as.length = k := by
      have h3 : (List.range n)[as.length]? = some k := by rw [h1]; simp
      have h4 := (List.getElem?_eq_some_iff.mp h3).1
      rw [List.getElem?_range (by simpa using h4)] at h3
      exact Option.some.inj h3
    have hm : j ∈ as := by
      have h3 : as[j]? = some j := by
        have h5 : (List.range n)[j]? = as[j]? := by rw [h1, List.getElem?_append_left (by omega)]
        have h6 : j < n := by
          have := List.mem_range.mp (List.mem_of_find?_eq_some e)
          omega
        rw [← h5, List.getElem?_range h6]
      exact List.mem_of_getElem? h3
    simpa using h2 j hm
theorem short_spec {l : List Bool} (h : l ≠ []) : Short (short l) ∧ at_ (short l) = at_ l ∧ (short l).length ≤ l.length := by
  have hp : 0 < l.length := List.length_pos_iff.mpr h
  have full : okK l (l.length - 1 + 1) = true := by
    rw [show l.length - 1 + 1 = l.length by omega]
    exact (okK_iff hp (Nat.le_refl _)).mpr ⟨Nat.mod_self _, at_per⟩
  obtain ⟨k, h1, h2, h3, h4⟩ := find_range (p := fun k => okK l (k + 1)) l.length ⟨l.length - 1, by omega, full⟩
  have hs : short l = l.take (k + 1) := by unfold short; rw [h1]
  rw [hs]
  obtain ⟨hd, hper⟩ := (okK_iff (by omega) (by omega)).mp h3
  have hat := take_at (by omega) (by omega) hper
  have ht : (l.take (k + 1)).length = k + 1 := by rw [List.length_take]; omega
  refine ⟨⟨fun e => by rw [e] at ht; simp at ht, fun j j0 jl jd jp => ?_⟩, hat, by rw [ht]; omega⟩
  rw [ht] at jl jd ⊢
  rw [hat] at jp
  by_cases hj : j = k + 1
  · exact hj
  · have h5 := h4 (j - 1) (by omega)
    rw [show j - 1 + 1 = j by omega] at h5
    have : okK l j = true := (okK_iff j0 (by omega)).mpr ⟨?_, jp⟩
    · rw [this] at h5
      cases h5
    · exact Nat.mod_eq_zero_of_dvd (Nat.dvd_trans (Nat.dvd_of_mod_eq_zero jd) (Nat.dvd_of_mod_eq_zero hd))
/-- short rows are told by their functions -/
theorem short_inj {l m : List Bool} (hl : Short l) (hm : Short m) (h : at_ l = at_ m) : l = m := by
  have p1 : 0 < l.length := List.length_pos_iff.mpr hl.1
  have p2 : 0 < m.length := List.length_pos_iff.mpr hm.1
  have g1 : Per (at_ l) (Nat.gcd l.length m.length) := Per.gcd _ _ at_per (by rw [h]; exact at_per)
  have d1 := Nat.gcd_dvd_left l.length m.length
  have d2 := Nat.gcd_dvd_right l.length m.length
  have gp : 0 < Nat.gcd l.length m.length := Nat.gcd_pos_of_pos_left _ p1
  have e1 := hl.2 _ gp (Nat.le_of_dvd p1 d1) (Nat.mod_eq_zero_of_dvd d1) g1
  have e2 := hm.2 _ gp (Nat.le_of_dvd p2 d2) (Nat.mod_eq_zero_of_dvd d2) (by rw [← h]; exact g1)
  have e : l.length = m.length := e1.symm.trans e2
  apply List.ext_getElem?
  intro i
  by_cases hi : i < l.length
  · rw [at_nat hi, at_nat (by omega), h]
  · rw [List.getElem?_eq_none (by omega), List.getElem?_eq_none (by omega)]
end PM
/-! patterns, the next ones, written in one way -/
namespace PM
structure Pat where
  l : List Bool
  s : Int
  m : List Bool
  r : List Bool
def Pat.mem (p : Pat) (y : Int) : Bool := if y < p.s then at_ p.l y else if y < p.s + p.m.length then p.m.getD (y - p.s).toNat false else at_ p.r y
structure Pat.Ok (p : Pat) : Prop where
  l : p.l ≠ []
  r : p.r ≠ []
theorem pos_len {α : Type} {l : List α} (h : l ≠ []) : 0 < l.length := List.length_pos_iff.mpr h
theorem Pat.mem_l {p : Pat} {y : Int} (h : y < p.s) : p.mem y = at_ p.l y := if_pos h
theorem Pat.mem_r {p : Pat} {y : Int} (h : p.s + p.m.length ≤ y) : p.mem y = at_ p.r y := by
  unfold Pat.mem
  rw [if_neg (by omega), if_neg (by omega)]
theorem Pat.mem_m {p : Pat} {y : Int} (h : p.s ≤ y) (h2 : y < p.s + p.m.length) : p.mem y = p.m.getD (y - p.s).toNat false := by
  unfold Pat.mem
  rw [if_neg (by omega), if_pos h2]
/-- a row of what a function says -/
theorem at_map {g : Int → Bool} {n : Nat} (h0 : 0 < n) (hp : Per g n) (y : Int) : at_ ((List.range n).map fun (k : Nat) => g (k : Int)) y = g y := by
  have hl : ((List.range n).map fun (k : Nat) => g (k : Int)).length = n := by rw [List.length_map, List.length_range]
  have n1 := Int.emod_nonneg y (show (n : Int) ≠ 0 by omega)
  have n2 := Int.emod_lt_of_pos y (show (0 : Int) < n by omega)
  unfold at_
  rw [hl, List.getD_eq_getElem?_getD, List.getElem?_map, List.getElem?_range (by omega)]
  show g _ = g y
  rw [show (((y % (n : Int)).toNat : Nat) : Int) = y % (n : Int) by omega]
  have e := hp.imul (y / n) (y % n)
  rw [← e]
  congr 1
  have := Int.emod_add_mul_ediv y n
  rw [Int.mul_comm] at this
  exact this
/-- what repeats is told by one turn -/
theorem Per.window {f g : Int → Bool} {n : Int} (h0 : 0 < n) (hf : Per f n) (hg : Per g n) (a : Int) (h : ∀ w, a ≤ w → w < a + n → f w = g w) : f = g := by
  funext y
  have n1 := Int.emod_nonneg (y - a) (show n ≠ 0 by omega)
  have n2 := Int.emod_lt_of_pos (y - a) h0
  have e : a + (y - a) % n + (y - a) / n * n = y := by
    have := Int.emod_add_mul_ediv (y - a) n
    rw [Int.mul_comm] at this
    omega
  have q := h (a + (y - a) % n) (by omega) (by omega)
  have e1 := hf.imul ((y - a) / n) (a + (y - a) % n)
  have e2 := hg.imul ((y - a) / n) (a + (y - a) % n)
  rw [e] at e1 e2
  rw [e1, e2, q]
theorem per_const (b : Bool) (n : Int) : Per (fun _ => b) n := fun _ => rfl
theorem at_none {l : List Bool} (h : l ≠ []) (a : Int) (hw : ∀ w, a ≤ w → w < a + l.length → at_ l w = false) (y : Int) : at_ l y = false := by
  have hp := pos_len h
  exact congrFun (Per.window (by omega) (at_per (l := l)) (per_const false _) a hw) y
/-! ### the next one -/
def Next (f : Int → Bool) (y : Int) : Option Int → Prop
  | some z => y ≤ z ∧ f z = true ∧ ∀ w, y ≤ w → w < z → f w = false
  | none => ∀ w, y ≤ w → f w = false
def Prev (f : Int → Bool) (y : Int) : Option Int → Prop
  | some z => z ≤ y ∧ f z = true ∧ ∀ w, w ≤ y → z < w → f w = false
  | none => ∀ w, w ≤ y → f w = false
theorem Next.uniq {f : Int → Bool} {y : Int} : ∀ {a b : Option Int}, Next f y a → Next f y b → a = b
  | some a, some b, h, g => by
    rcases Int.lt_trichotomy a b with q | q | q
    · have := g.2.2 a h.1 q
      rw [h.2.1] at this
      cases this
    · rw [q]
    · have := h.2.2 b g.1 q
      rw [g.2.1] at this
      cases this
  | some a, none, h, g => by
    have := g a h.1
    rw [h.2.1] at this
    cases this
  | none, some b, h, g => by
    have := h b g.1
    rw [g.2.1] at this
    cases this
  | none, none, _, _ => rfl
theorem Prev.next {f : Int → Bool} {y : Int} : ∀ {a : Option Int}, Next (fun w => f (-w)) (-y) a ↔ Prev f y (a.map fun z => -z)
  | some a => by
    constructor
    · rintro ⟨h1, h2, h3⟩
      refine ⟨by show -a ≤ y; omega, h2, fun w h4 h5 => ?_⟩
      have := h3 (-w) (by omega) (by show -w < a; have : -a < w := h5; omega)
      simp only [Int.neg_neg] at this
      exact this
    · rintro ⟨h1, h2, h3⟩
      have h1' : -a ≤ y := h1
      refine ⟨by omega, h2, fun w h4 h5 => h3 (-w) (by omega) (by show -a < -w; omega)⟩
  | none => by
    constructor
    · intro h w hw
      have := h (-w) (by omega)
      simp only [Int.neg_neg] at this
      exact this
    · intro h w hw
      exact h (-w) (by omega)
theorem Prev.uniq {f : Int → Bool} {y : Int} {a b : Option Int} (h : Prev f y a) (g : Prev f y b) : a = b := by
  have e : ∀ o : Option Int, (o.map fun z => -z).map (fun z => -z) = o := fun o => by cases o <;> simp
  have h1 : Next (fun w => f (-w)) (-y) (a.map fun z => -z) := Prev.next.mpr (by rw [e]; exact h)
  have h2 : Next (fun w => f (-w)) (-y) (b.map fun z => -z) := Prev.next.mpr (by rw [e]; exact g)
  have := h1.uniq h2
  rw [← e a, this, e]
/-- the three searches -/
theorem next_a {p : Pat} (ok : p.Ok) {y : Int} (h : ∀ w, y ≤ w → w < (if y + p.l.length < p.s then y + p.l.length else p.s) → p.mem w = false) (w : Int) (h1 : y ≤ w) (h2 : w < p.s) : p.mem w = false := by
  by_cases hc : y + p.l.length < p.s
  · rw [if_pos hc] at h
    rw [Pat.mem_l h2]
    exact at_none ok.l y (fun v h3 h4 => by rw [← Pat.mem_l (by omega)]; exact h v h3 h4) w
  · rw [if_neg hc] at h
    exact h w h1 h2
theorem next_c {p : Pat} (ok : p.Ok) {low : Int} (hl : p.s + p.m.length ≤ low) (h : ∀ w, low ≤ w → w < low + p.r.length → p.mem w = false) (w : Int) (h1 : low ≤ w) : p.mem w = false := by
  rw [Pat.mem_r (by omega)]
  exact at_none ok.r low (fun v h3 h4 => by rw [← Pat.mem_r (by omega)]; exact h v h3 h4) w
/-- turned round -/
def neg (p : Pat) : Pat := ⟨(List.range p.r.length).map fun (k : Nat) => at_ p.r (-(k : Int)), 1 - p.s - p.m.length, p.m.reverse, (List.range p.l.length).map fun (k : Nat) => at_ p.l (-(k : Int))⟩
theorem neg_per {f : Int → Bool} {n : Int} (h : Per f n) : Per (fun y => f (-y)) n := fun y => by
  have := h.neg (-y)
  show f (-(y + n)) = f (-y)
  rw [← this]
  congr 1
  omega
theorem neg_ok {p : Pat} (ok : p.Ok) : (neg p).Ok := by
  have h1 := pos_len ok.l
  have h2 := pos_len ok.r
  constructor
  · apply List.ne_nil_of_length_pos
    show 0 < (List.map _ _).length
    rw [List.length_map, List.length_range]
    exact h2
  · apply List.ne_nil_of_length_pos
    show 0 < (List.map _ _).length
    rw [List.length_map, List.length_range]
    exact h1
theorem neg_mem {p : Pat} (ok : p.Ok) (y : Int) : (neg p).mem y = p.mem (-y) := by
  have h1 := pos_len ok.l
  have h2 := pos_len ok.r
  have el : ∀ y, at_ (neg p).l y = at_ p.r (-y) := fun y => at_map (g := fun y => at_ p.r (-y)) h2 (neg_per at_per) y
  have er : ∀ y, at_ (neg p).r y = at_ p.l (-y) := fun y => at_map (g := fun y => at_ p.l (-y)) h1 (neg_per at_per) y
  have es : (neg p).s = 1 - p.s - p.m.length := rfl
  have em : (neg p).m = p.m.reverse := rfl
  have eml : (neg p).m.length = p.m.length := by rw [em, List.length_reverse]
  by_cases c1 : y < 1 - p.s - p.m.length
  · rw [Pat.mem_l (by omega), el, Pat.mem_r (by omega)]
  · by_cases c2 : y < 1 - p.s
    · rw [Pat.mem_m (by omega) (by omega), Pat.mem_m (by omega) (by omega), em, es, List.getD_eq_getElem?_getD, List.getD_eq_getElem?_getD, List.getElem?_reverse (by omega)]
      congr 2
      omega
    · rw [Pat.mem_r (by omega), er, Pat.mem_l (by omega)]
/-! ### written in just one way -/
def IsA (f : Int → Bool) (l : List Bool) (a : Int) : Prop := f a ≠ at_ l a ∧ ∀ w, w < a → f w = at_ l w
def IsB (f : Int → Bool) (r : List Bool) (b : Int) : Prop := f (b - 1) ≠ at_ r (b - 1) ∧ ∀ w, b ≤ w → f w = at_ r w
structure Canon (p : Pat) : Prop where
  l : Short p.l
  r : Short p.r
  k : (p.l = p.r ∧ p.s = 0 ∧ p.m = []) ∨ ∃ a b, IsA p.mem p.l a ∧ IsB p.mem p.r b ∧ ((b ≤ a ∧ p.s = b ∧ p.m = []) ∨ (a < b ∧ p.s = a ∧ p.s + p.m.length = b))
theorem IsA.uniq {f : Int → Bool} {l : List Bool} {a b : Int} (h : IsA f l a) (g : IsA f l b) : a = b := by
  rcases Int.lt_trichotomy a b with q | q | q
  · exact absurd (g.2 a q) h.1
  · exact q
  · exact absurd (h.2 b q) g.1
theorem IsB.uniq {f : Int → Bool} {l : List Bool} {a b : Int} (h : IsB f l a) (g : IsB f l b) : a = b := by
  rcases Int.lt_trichotomy a b with q | q | q
  · exact absurd (h.2 (b - 1) (by omega)) g.1
  · exact q
  · exact absurd (g.2 (a - 1) (by omega)) h.1
theorem Canon.ok {p : Pat} (c : Canon p) : p.Ok := ⟨c.l.1, c.r.1⟩
/-- far below -/
theorem at_far {l m : List Bool} (hl : l ≠ []) (hm : m ≠ []) (a : Int) (h : ∀ w, w < a → at_ l w = at_ m w) : at_ l = at_ m := by
  have p1 := pos_len hl
  have p2 := pos_len hm
  have hn : (0 : Int) < (m.length : Int) * (l.length : Int) := Int.mul_pos (by omega) (by omega)
  refine Per.window (n := (m.length : Int) * (l.length : Int)) hn (at_per.times _) ?_ (a - (m.length : Int) * (l.length : Int)) fun w _ h2 => h w (by omega)
  rw [Int.mul_comm]
  exact at_per.times _
theorem at_far' {l m : List Bool} (hl : l ≠ []) (hm : m ≠ []) (a : Int) (h : ∀ w, a ≤ w → at_ l w = at_ m w) : at_ l = at_ m := by
  have p1 := pos_len hl
  have p2 := pos_len hm
  have hn : (0 : Int) < (m.length : Int) * (l.length : Int) := Int.mul_pos (by omega) (by omega)
  refine Per.window (n := (m.length : Int) * (l.length : Int)) hn (at_per.times _) ?_ a fun w h1 _ => h w h1
  rw [Int.mul_comm]
  exact at_per.times _
theorem Canon.all {p : Pat} (h1 : p.l = p.r) (h3 : p.m = []) : p.mem = at_ p.l := by
  funext y
  unfold Pat.mem
  rw [h3, h1]
  by_cases c : y < p.s
  · rw [if_pos c]
  · rw [if_neg c, if_neg (by simp; omega)]
theorem pat_eq {p q : Pat} (h : p.mem = q.mem) (e1 : p.l = q.l) (e2 : p.r = q.r) (e3 : p.s = q.s) (e4 : p.m.length = q.m.length) : p = q := by
  have em : p.m = q.m := by
    apply List.ext_getElem?
    intro i
    by_cases hi : i < p.m.length
    · have a1 := Pat.mem_m (p := p) (y := p.s + i) (by omega) (by omega)
      have a2 := Pat.mem_m (p := q) (y := p.s + i) (by omega) (by omega)
      rw [h, a2, List.getD_eq_getElem?_getD, List.getD_eq_getElem?_getD, show (p.s + (i : Int) - p.s).toNat = i by omega, show (p.s + (i : Int) - q.s).toNat = i by omega] at a1
      rw [List.getElem?_eq_getElem hi, List.getElem?_eq_getElem (by omega)] at a1 ⊢
      exact congrArg some a1.symm
    · rw [List.getElem?_eq_none (by omega), List.getElem?_eq_none (by omega)]
  cases p
  cases q
  simp_all
theorem Canon.uniq {p q : Pat} (c : Canon p) (d : Canon q) (h : p.mem = q.mem) : p = q := by
  have el : p.l = q.l := short_inj c.l d.l (at_far c.l.1 d.l.1 (if p.s < q.s then p.s else q.s) fun w hw => by
    split at hw
    · rw [← Pat.mem_l (by omega), h, Pat.mem_l (by omega)]
    · rw [← Pat.mem_l (by omega), h, Pat.mem_l (by omega)])
  have er : p.r = q.r := short_inj c.r d.r (at_far' c.r.1 d.r.1 (if p.s + p.m.length < q.s + q.m.length then q.s + q.m.length else p.s + p.m.length) fun w hw => by
    split at hw
    · rw [← Pat.mem_r (by omega), h, Pat.mem_r (by omega)]
    · rw [← Pat.mem_r (by omega), h, Pat.mem_r (by omega)])
  rcases c.k with ⟨a1, a2, a3⟩ | ⟨a, b, ha, hb, hc⟩
  · rcases d.k with ⟨b1, b2, b3⟩ | ⟨a', b', ha', _⟩
    · exact pat_eq h el er (by omega) (by rw [a3, b3])
    · have := Canon.all a1 a3
      rw [← el, ← h] at ha'
      exact absurd (by rw [this]) ha'.1
  · rcases d.k with ⟨b1, b2, b3⟩ | ⟨a', b', ha', hb', hc'⟩
    · have := Canon.all b1 b3
      rw [el, h] at ha
      exact absurd (by rw [this]) ha.1
    · rw [← el, ← h] at ha'
      rw [← er, ← h] at hb'
      have e1 := ha.uniq ha'
      have e2 := hb.uniq hb'
      subst e1 e2
      rcases hc with ⟨c1, c2, c3⟩ | ⟨c1, c2, c3⟩
      · rcases hc' with ⟨d1, d2, d3⟩ | ⟨d1, d2, d3⟩
        · exact pat_eq h el er (by omega) (by rw [c3, d3])
        · omega
      · rcases hc' with ⟨d1, d2, d3⟩ | ⟨d1, d2, d3⟩
        · omega
        · exact pat_eq h el er (by omega) (by omega)
end PM
/-! a pattern is written in one way, by looking at enough numbers -/
namespace PM
def rngZ (i j : Int) : List Int := (List.range (j - i).toNat).map fun (k : Nat) => i + (k : Int)
theorem rngZ_len (i j : Int) : (rngZ i j).length = (j - i).toNat := by unfold rngZ; rw [List.length_map, List.length_range]
theorem rngZ_mem {i j w : Int} : w ∈ rngZ i j ↔ i ≤ w ∧ w < j := by
  unfold rngZ
  rw [List.mem_map]
  constructor
  · rintro ⟨k, hk, rfl⟩
    have := List.mem_range.mp hk
    omega
  · rintro ⟨h1, h2⟩
    exact ⟨(w - i).toNat, List.mem_range.mpr (by omega), by omega⟩
theorem rngZ_lt (i j : Int) : (rngZ i j).Pairwise (· < ·) := by
  unfold rngZ
  rw [List.pairwise_map]
  exact List.pairwise_lt_range.imp fun h => by omega
theorem rngZ_get {i j : Int} {k : Nat} (h : k < (j - i).toNat) : (rngZ i j)[k]? = some (i + (k : Int)) := by
  unfold rngZ
  rw [List.getElem?_map, List.getElem?_range h]
  rfl
theorem filter_head {q : Int → Bool} {l : List Int} (hp : l.Pairwise (· < ·)) {a : Int} {xs : List Int} (h : l.filter q = a :: xs) : a ∈ l ∧ q a = true ∧ ∀ w ∈ l, w < a → q w = false := by
  have hm : a ∈ l.filter q := by rw [h]; exact List.mem_cons_self
  rw [List.mem_filter] at hm
  refine ⟨hm.1, hm.2, fun w hw hl => ?_⟩
  cases e : q w with
  | false => rfl
  | true =>
    have h1 : w ∈ l.filter q := List.mem_filter.mpr ⟨hw, e⟩
    have h2 : (l.filter q).Pairwise (· < ·) := hp.filter q
    rw [h] at h1 h2
    rcases List.mem_cons.mp h1 with h3 | h3
    · omega
    · have := (List.pairwise_cons.mp h2).1 w h3
      omega
theorem filter_last {q : Int → Bool} {l : List Int} (hp : l.Pairwise (· < ·)) {b : Int} {xs : List Int} (h : l.filter q = xs ++ [b]) : b ∈ l ∧ q b = true ∧ ∀ w ∈ l, b < w → q w = false := by
  have hm : b ∈ l.filter q := by rw [h]; exact List.mem_append_right _ List.mem_cons_self
  rw [List.mem_filter] at hm
  refine ⟨hm.1, hm.2, fun w hw hl => ?_⟩
  cases e : q w with
  | false => rfl
  | true =>
    have h1 : w ∈ l.filter q := List.mem_filter.mpr ⟨hw, e⟩
    have h2 : (l.filter q).Pairwise (· < ·) := hp.filter q
    rw [h] at h1 h2
    rcases List.mem_append.mp h1 with h3 | h3
    · have := (List.pairwise_append.mp h2).2.2 w h3 b List.mem_cons_self
      omega
    · rw [List.mem_singleton.mp h3] at hl
      omega
def dL (f : Int → Bool) (l : List Bool) (y : Int) : Bool := decide (f y ≠ at_ l y)
theorem dL_false {f : Int → Bool} {l : List Bool} {y : Int} : dL f l y = false ↔ f y = at_ l y := by
  unfold dL
  rw [decide_eq_false_iff_not]
  exact ⟨fun h => Decidable.byContradiction h, fun h h2 => h2 h⟩
theorem dL_true {f : Int → Bool} {l : List Bool} {y : Int} : dL f l y = true ↔ f y ≠ at_ l y := decide_eq_true_iff
/-- the ends of what is looked at -/
def lo_ (p : Pat) : Int := p.s - 2 * ((short p.l).length * (short p.r).length : Nat) - 2
def hi_ (p : Pat) : Int := p.s + p.m.length + 2 * ((short p.l).length * (short p.r).length : Nat) + 2
def odd_ (p : Pat) : List Int := (rngZ (lo_ p) (hi_ p)).filter (dL p.mem (short p.l))
def late_ (p : Pat) : List Int := (rngZ (lo_ p) (hi_ p)).filter (dL p.mem (short p.r))
/-- the pattern that is written, told by what is found -/
def wr0 (p : Pat) : Pat := ⟨short p.l, 0, [], short p.r⟩
def wr1 (p : Pat) (b : Int) : Pat := ⟨short p.l, b, [], short p.r⟩
def wr2 (p : Pat) (a b : Int) : Pat := ⟨short p.l, a, (rngZ a b).map p.mem, short p.r⟩
section
variable {p : Pat} (ok : p.Ok)
include ok
theorem sl_ : at_ (short p.l) = at_ p.l := (short_spec ok.l).2.1
theorem sr_ : at_ (short p.r) = at_ p.r := (short_spec ok.r).2.1
theorem pl_pos : 0 < (short p.l).length * (short p.r).length := Nat.mul_pos (pos_len (short_spec ok.l).1.1) (pos_len (short_spec ok.r).1.1)
theorem wr0_mem (h1 : short p.l = short p.r) (h2 : odd_ p = []) : (wr0 p).mem = p.mem := by
  have e : (wr0 p).mem = at_ (short p.l) := Canon.all (p := wr0 p) h1 rfl
  rw [e]
  funext y
  have pp := pl_pos ok
  by_cases c1 : y < p.s
  · rw [sl_ ok, Pat.mem_l c1]
  · by_cases c2 : p.s + p.m.length ≤ y
    · rw [h1, sr_ ok, Pat.mem_r c2]
    · have hm : y ∈ rngZ (lo_ p) (hi_ p) := rngZ_mem.mpr (by unfold lo_ hi_; omega)
      have := List.filter_eq_nil_iff.mp h2 y hm
      exact (dL_false.mp (by simpa using this)).symm
theorem wr0_canon (h1 : short p.l = short p.r) : Canon (wr0 p) := ⟨(short_spec ok.l).1, (short_spec ok.r).1, .inl ⟨h1, rfl, rfl⟩⟩
theorem odd_ne (h : ¬ (short p.l = short p.r ∧ odd_ p = [])) : odd_ p ≠ [] ∧ late_ p ≠ [] := by
  have pp := pl_pos ok
  have k1 := (short_spec ok.l).1
  have k2 := (short_spec ok.r).1
  by_cases h1 : short p.l = short p.r
  · have h2 : odd_ p ≠ [] := fun e => h ⟨h1, e⟩
    refine ⟨h2, ?_⟩
    unfold late_
    rw [← h1]
    exact h2
  · have hn : (0 : Int) < ((short p.l).length * (short p.r).length : Nat) := by omega
    have q1 : Per (at_ (short p.l)) ((short p.l).length * (short p.r).length : Nat) := by
      rw [Nat.mul_comm, Int.natCast_mul]
      exact at_per.times _
    have q2 : Per (at_ (short p.r)) ((short p.l).length * (short p.r).length : Nat) := by
      rw [Int.natCast_mul]
      exact at_per.times _
    have ex : ∀ a : Int, ∃ w, a ≤ w ∧ w < a + ((short p.l).length * (short p.r).length : Nat) ∧ at_ (short p.l) w ≠ at_ (short p.r) w := fun a => by
      apply Classical.byContradiction
      intro hc
      apply h1
      apply short_inj k1 k2
      refine Per.window hn q1 q2 a fun w h3 h4 => ?_
      apply Classical.byContradiction
      intro h5
      exact hc ⟨w, h3, h4, h5⟩
    constructor
    · obtain ⟨w, h3, h4, h5⟩ := ex (p.s + p.m.length)
      apply List.ne_nil_of_mem (a := w)
      refine List.mem_filter.mpr ⟨rngZ_mem.mpr (by unfold lo_ hi_; omega), dL_true.mpr ?_⟩
      rw [Pat.mem_r h3, ← sr_ ok]
      exact Ne.symm h5
    · obtain ⟨w, h3, h4, h5⟩ := ex (p.s - ((short p.l).length * (short p.r).length : Nat))
      apply List.ne_nil_of_mem (a := w)
      refine List.mem_filter.mpr ⟨rngZ_mem.mpr (by unfold lo_ hi_; omega), dL_true.mpr ?_⟩
      rw [Pat.mem_l (by omega), ← sl_ ok]
      exact h5
theorem odd_isA {a : Int} {xs : List Int} (h : odd_ p = a :: xs) : IsA p.mem (short p.l) a ∧ p.s ≤ a := by
  obtain ⟨h1, h2, h3⟩ := filter_head (rngZ_lt _ _) h
  have pp := pl_pos ok
  refine ⟨⟨dL_true.mp h2, fun w hw => ?_⟩, ?_⟩
  · by_cases c : lo_ p ≤ w
    · refine dL_false.mp (h3 w (rngZ_mem.mpr ⟨c, ?_⟩) hw)
      have := (rngZ_mem.mp h1).2
      omega
    · rw [sl_ ok, Pat.mem_l (by unfold lo_ at c; omega)]
  · apply Classical.byContradiction
    intro hc
    refine dL_true.mp h2 ?_
    rw [sl_ ok, Pat.mem_l (by omega)]
theorem late_isB {b : Int} {xs : List Int} (h : late_ p = xs ++ [b]) : IsB p.mem (short p.r) (b + 1) ∧ b < p.s + p.m.length := by
  obtain ⟨h1, h2, h3⟩ := filter_last (rngZ_lt _ _) h
  have pp := pl_pos ok
  refine ⟨⟨?_, fun w hw => ?_⟩, ?_⟩
  · rw [show b + 1 - 1 = b by omega]
    exact dL_true.mp h2
  · by_cases c : w < hi_ p
    · refine dL_false.mp (h3 w (rngZ_mem.mpr ⟨?_, c⟩) (by omega))
      have := (rngZ_mem.mp h1).1
      omega
    · rw [sr_ ok, Pat.mem_r (by unfold hi_ at c; omega)]
  · apply Classical.byContradiction
    intro hc
    refine dL_true.mp h2 ?_
    rw [sr_ ok, Pat.mem_r (by omega)]
theorem wr1_mem {a b : Int} (ha : IsA p.mem (short p.l) a) (hb : IsB p.mem (short p.r) b) (h : b ≤ a) : (wr1 p b).mem = p.mem := by
  funext y
  by_cases c : y < b
  · rw [Pat.mem_l (show y < (wr1 p b).s from c)]
    exact (ha.2 y (by omega)).symm
  · rw [Pat.mem_r (show (wr1 p b).s + ((wr1 p b).m.length : Int) ≤ y by show b + ((0 : Nat) : Int) ≤ y; omega)]
    exact (hb.2 y (by omega)).symm
theorem wr2_mem {a b : Int} (ha : IsA p.mem (short p.l) a) (hb : IsB p.mem (short p.r) b) (h : a < b) : (wr2 p a b).mem = p.mem := by
  funext y
  have hl : (wr2 p a b).m.length = (b - a).toNat := by show ((rngZ a b).map p.mem).length = _; rw [List.length_map, rngZ_len]
  have hs : (wr2 p a b).s = a := rfl
  by_cases c : y < a
  · rw [Pat.mem_l (by omega)]
    exact (ha.2 y (by omega)).symm
  · by_cases c2 : y < b
    · rw [Pat.mem_m (by omega) (by omega), hs]
      show ((rngZ a b).map p.mem).getD _ false = _
      rw [List.getD_eq_getElem?_getD, List.getElem?_map, rngZ_get (by omega)]
      show p.mem _ = _
      congr 1
      omega
    · rw [Pat.mem_r (by omega)]
      exact (hb.2 y (by omega)).symm
theorem wr1_canon {a b : Int} (ha : IsA p.mem (short p.l) a) (hb : IsB p.mem (short p.r) b) (h : b ≤ a) : Canon (wr1 p b) :=
  ⟨(short_spec ok.l).1, (short_spec ok.r).1, .inr ⟨a, b, by rw [wr1_mem ok ha hb h]; exact ha, by rw [wr1_mem ok ha hb h]; exact hb, .inl ⟨h, rfl, rfl⟩⟩⟩
theorem wr2_canon {a b : Int} (ha : IsA p.mem (short p.l) a) (hb : IsB p.mem (short p.r) b) (h : a < b) : Canon (wr2 p a b) := by
  have hl : (wr2 p a b).m.length = (b - a).toNat := by show ((rngZ a b).map p.mem).length = _; rw [List.length_map, rngZ_len]
  exact ⟨(short_spec ok.l).1, (short_spec ok.r).1, .inr ⟨a, b, by rw [wr2_mem ok ha hb h]; exact ha, by rw [wr2_mem ok ha hb h]; exact hb, .inr ⟨h, rfl, by rw [hl]; show a + _ = b; omega⟩⟩⟩
end
/-- a set that repeats with rows of at most six far below and far above -/
def Bd (f : Int → Bool) : Prop := ∃ l r : List Bool, l ≠ [] ∧ r ≠ [] ∧ l.length ≤ 6 ∧ r.length ≤ 6 ∧ (∀ y, y ≤ -50 → f y = at_ l y) ∧ ∀ y, 50 ≤ y → f y = at_ r y
theorem Bd.of {p : Pat} (ok : p.Ok) (h1 : p.l.length ≤ 6) (h2 : p.r.length ≤ 6) (h3 : -50 < p.s) (h4 : p.s + p.m.length ≤ 50) : Bd p.mem :=
  ⟨p.l, p.r, ok.l, ok.r, h1, h2, fun y hy => Pat.mem_l (by omega), fun y hy => Pat.mem_r (by omega)⟩
theorem Bd.neg {f : Int → Bool} (h : Bd f) : Bd fun y => f (-y) := by
  obtain ⟨l, r, h1, h2, h3, h4, h5, h6⟩ := h
  have p1 := pos_len h1
  have p2 := pos_len h2
  refine ⟨(List.range r.length).map fun (k : Nat) => at_ r (-(k : Int)), (List.range l.length).map fun (k : Nat) => at_ l (-(k : Int)), ?_, ?_, ?_, ?_, fun y hy => ?_, fun y hy => ?_⟩
  · exact List.ne_nil_of_length_pos (by rw [List.length_map, List.length_range]; exact p2)
  · exact List.ne_nil_of_length_pos (by rw [List.length_map, List.length_range]; exact p1)
  · rw [List.length_map, List.length_range]; exact h4
  · rw [List.length_map, List.length_range]; exact h3
  · rw [at_map (g := fun y => at_ r (-y)) p2 (neg_per at_per)]
    exact h6 (-y) (by omega)
  · rw [at_map (g := fun y => at_ l (-y)) p1 (neg_per at_per)]
    exact h5 (-y) (by omega)
theorem Bd.right {f : Int → Bool} (h : Bd f) {a : Int} (ha : 50 ≤ a) (hw : ∀ w, a ≤ w → w < a + 6 → f w = false) (w : Int) (hw2 : 50 ≤ w) : f w = false := by
  obtain ⟨l, r, h1, h2, h3, h4, h5, h6⟩ := h
  rw [h6 w hw2]
  exact at_none h2 a (fun v h7 h8 => by rw [← h6 v (by omega)]; exact hw v h7 (by omega)) w
theorem Bd.left {f : Int → Bool} (h : Bd f) {a : Int} (ha : a ≤ -56) (hw : ∀ w, a ≤ w → w < a + 6 → f w = false) (w : Int) (hw2 : w ≤ -50) : f w = false := by
  obtain ⟨l, r, h1, h2, h3, h4, h5, h6⟩ := h
  rw [h5 w hw2]
  exact at_none h1 a (fun v h7 h8 => by rw [← h5 v (by omega)]; exact hw v h7 (by omega)) w
theorem up_none1 {f : Int → Bool} (b : Bd f) {y : Int} (hy : -60 ≤ y) (h : ∀ w, y ≤ w → w < y + 120 → f w = false) : Next f y none := fun w hw => by
  by_cases c : w < y + 120
  · exact h w hw c
  · exact b.right (a := if 50 ≤ y then y else 50) (by split <;> omega) (fun v h1 h2 => h v (by split at h1 <;> omega) (by split at h2 <;> omega)) w (by omega)
theorem up_2 {f : Int → Bool} (b : Bd f) {y : Int} (hy : y < -60) (h : ∀ w, y ≤ w → w < y + 120 → f w = false) (w : Int) (h2 : w < -50) : f w = false :=
  b.left (a := y) (by omega) (fun v h1 h2 => h v h1 (by omega)) w (by omega)
theorem up_none2 {f : Int → Bool} (b : Bd f) {y : Int} (hy : y < -60) (h : ∀ w, y ≤ w → w < y + 120 → f w = false) (h2 : ∀ w, -60 ≤ w → w < 60 → f w = false) : Next f y none := fun w hw => by
  by_cases c : w < -50
  · exact up_2 b hy h w c
  · by_cases c2 : w < 60
    · exact h2 w (by omega) c2
    · exact b.right (a := 50) (by omega) (fun v h1 h3 => h2 v (by omega) (by omega)) w (by omega)
/-! ### counting -/
def cntN (f : Int → Bool) (a : Int) : Nat → Nat
  | 0 => 0
  | n + 1 => cntN f a n + if f (a + (n : Int)) then 1 else 0
def cnt (f : Int → Bool) (a b : Int) : Nat := cntN f a (b - a).toNat
theorem cntN_add (f : Int → Bool) (a : Int) (m : Nat) : ∀ n : Nat, cntN f a (m + n) = cntN f a m + cntN f (a + (m : Int)) n
  | 0 => rfl
  | n + 1 => by
    show cntN f a (m + n) + (if f (a + ((m + n : Nat) : Int)) then 1 else 0) = _
    rw [cntN_add f a m n]
    show _ = cntN f a m + (cntN f (a + (m : Int)) n + _)
    rw [show a + ((m + n : Nat) : Int) = a + (m : Int) + (n : Int) by omega]
    omega
theorem cnt_split (f : Int → Bool) {a b c : Int} (h1 : a ≤ b) (h2 : b ≤ c) : cnt f a c = cnt f a b + cnt f b c := by
  unfold cnt
  rw [show (c - a).toNat = (b - a).toNat + (c - b).toNat by omega, cntN_add, show a + ((b - a).toNat : Int) = b by omega]
theorem cnt_none (f : Int → Bool) {a b : Int} (h : b ≤ a) : cnt f a b = 0 := by
  unfold cnt
  rw [show (b - a).toNat = 0 by omega]
  rfl
theorem cntN_ext {f g : Int → Bool} {a : Int} : ∀ n : Nat, (∀ w, a ≤ w → w < a + n → f w = g w) → cntN f a n = cntN g a n
  | 0, _ => rfl
  | n + 1, h => by
    show cntN f a n + _ = cntN g a n + _
    rw [cntN_ext n fun w h1 h2 => h w h1 (by omega), h (a + n) (by omega) (by omega)]
theorem cnt_ext {f g : Int → Bool} {a b : Int} (h : ∀ w, a ≤ w → w < b → f w = g w) : cnt f a b = cnt g a b := by
  unfold cnt
  by_cases c : a ≤ b
  · exact cntN_ext _ fun w h1 h2 => h w h1 (by omega)
  · rw [show (b - a).toNat = 0 by omega]
    rfl
theorem cntN_step {f : Int → Bool} {p : Nat} (hp : Per f p) (a : Int) : cntN f a p = cntN f (a + 1) p := by
  have e1 := cntN_add f a 1 p
  have e2 := cntN_add f a p 1
  rw [Nat.add_comm] at e2
  rw [e1] at e2
  have e3 : cntN f (a + (p : Int)) 1 = cntN f a 1 := by
    show (0 + if f (a + (p : Int) + ((0 : Nat) : Int)) then 1 else 0) = 0 + if f (a + ((0 : Nat) : Int)) then 1 else 0
    rw [show a + (p : Int) + ((0 : Nat) : Int) = a + p by omega, show a + ((0 : Nat) : Int) = a by omega, hp a]
  rw [e3] at e2
  have e4 : a + ((1 : Nat) : Int) = a + 1 := rfl
  rw [e4] at e2
  omega
theorem cntN_turn {f : Int → Bool} {p : Nat} (hp : Per f p) (a : Int) : cntN f a p = cntN f 0 p := by
  have up : ∀ (n : Nat) (b : Int), cntN f (b + (n : Int)) p = cntN f b p := by
    intro n
    induction n with
    | zero => intro b; rw [show b + ((0 : Nat) : Int) = b by omega]
    | succ n ih => intro b; rw [show b + ((n + 1 : Nat) : Int) = b + (n : Int) + 1 by omega, ← cntN_step hp, ih]
  by_cases h : 0 ≤ a
  · have := up a.toNat 0
    rw [show (0 : Int) + (a.toNat : Int) = a by omega] at this
    exact this
  · have := up (-a).toNat a
    rw [show a + ((-a).toNat : Int) = 0 by omega] at this
    exact this.symm
theorem cntN_times {f : Int → Bool} {p : Nat} (hp : Per f p) (a : Int) : ∀ t : Nat, cntN f a (t * p) = t * cntN f 0 p
  | 0 => by rw [Nat.zero_mul, Nat.zero_mul]; rfl
  | t + 1 => by rw [Nat.succ_mul, cntN_add, cntN_times hp a t, cntN_turn hp (a + _), Nat.succ_mul]
theorem cntN_per {f : Int → Bool} {p : Nat} (hp : Per f p) (t : Nat) (a : Int) : ∀ n, cntN f (a + ((t * p : Nat) : Int)) n = cntN f a n
  | 0 => rfl
  | n + 1 => by
    show cntN _ _ n + _ = cntN _ _ n + _
    rw [cntN_per hp t a n]
    have := hp.mul t (a + n)
    rw [show a + ((t * p : Nat) : Int) + (n : Int) = a + n + (t : Int) * (p : Int) by rw [Int.natCast_mul]; omega, this]
/-- whole turns and a rest -/
theorem cnt_div {f : Int → Bool} {p : Nat} (hp : Per f p) (h0 : 0 < p) (a b : Int) (h : a ≤ b) : cnt f a b = ((b - a) / p).toNat * cntN f 0 p + cntN f a ((b - a) % p).toNat := by
  unfold cnt
  have n1 := Int.emod_nonneg (b - a) (show (p : Int) ≠ 0 by omega)
  have n2 := Int.ediv_nonneg (show 0 ≤ b - a by omega) (show (0 : Int) ≤ p by omega)
  have e : (b - a).toNat = ((b - a) / p).toNat * p + ((b - a) % p).toNat := by
    have := Int.emod_add_mul_ediv (b - a) p
    have e2 : (((b - a) / p).toNat * p : Nat) = (p : Int) * ((b - a) / p) := by
      rw [Int.natCast_mul, Int.toNat_of_nonneg n2, Int.mul_comm]
    omega
  rw [e, cntN_add, cntN_times hp, cntN_per hp]
theorem cnt_filter (f : Int → Bool) (a b : Int) : ((rngZ a b).filter f).length = cnt f a b := by
  unfold rngZ cnt
  generalize (b - a).toNat = n
  induction n with
  | zero => rfl
  | succ n ih =>
    rw [List.range_succ, List.map_append, List.filter_append, List.length_append, ih]
    show _ + (List.filter f [a + (n : Int)]).length = cntN f a n + _
    by_cases c : f (a + (n : Int)) <;> simp [List.filter_cons, c]
/-- the numbers of a pattern -/
theorem cnt_pat (p : Pat) (low high : Int) : cnt p.mem low high =
    cnt (at_ p.l) low (if high < p.s then high else p.s) + cnt p.mem (if low < p.s then p.s else low) (if high < p.s + p.m.length then high else p.s + p.m.length) +
      cnt (at_ p.r) (if low < p.s + p.m.length then p.s + p.m.length else low) high := by
  have el : ∀ a b, b ≤ p.s → cnt (at_ p.l) a b = cnt p.mem a b := fun a b h => cnt_ext fun w h1 h2 => (Pat.mem_l (by omega)).symm
  have er : ∀ a b, p.s + p.m.length ≤ a → cnt (at_ p.r) a b = cnt p.mem a b := fun a b h => cnt_ext fun w h1 h2 => (Pat.mem_r (by omega)).symm
  rw [el _ _ (by split <;> omega), er _ _ (by split <;> omega)]
  by_cases c : high ≤ low
  · rw [cnt_none _ c, cnt_none _ (by split <;> omega), cnt_none _ (by split <;> split <;> omega), cnt_none _ (by split <;> omega)]
  · by_cases c1 : high < p.s
    · rw [if_pos c1, cnt_none _ (show (if high < p.s + (p.m.length : Int) then high else p.s + (p.m.length : Int)) ≤ (if low < p.s then p.s else low) by split <;> split <;> omega), cnt_none _ (show high ≤ (if low < p.s + (p.m.length : Int) then p.s + (p.m.length : Int) else low) by split <;> omega)]
      rfl
    · rw [if_neg c1]
      by_cases c2 : high < p.s + p.m.length
      · rw [if_pos c2, cnt_none _ (show high ≤ (if low < p.s + (p.m.length : Int) then p.s + (p.m.length : Int) else low) by split <;> omega)]
        by_cases c3 : low < p.s
        · rw [if_pos c3, cnt_split _ (show low ≤ p.s by omega) (show p.s ≤ high by omega)]
          rfl
        · rw [if_neg c3, cnt_none _ (show p.s ≤ low by omega)]
          omega
      · rw [if_neg c2]
        by_cases c3 : low < p.s
        · rw [if_pos c3, if_pos (show low < p.s + (p.m.length : Int) by omega), cnt_split _ (show low ≤ p.s by omega) (show p.s ≤ high by omega), cnt_split _ (show p.s ≤ p.s + (p.m.length : Int) by omega) (show p.s + (p.m.length : Int) ≤ high by omega)]
          omega
        · rw [if_neg c3, cnt_none _ (show p.s ≤ low by omega)]
          by_cases c4 : low < p.s + p.m.length
          · rw [if_pos c4, cnt_split _ (show low ≤ p.s + (p.m.length : Int) by omega) (show p.s + (p.m.length : Int) ≤ high by omega)]
            omega
          · rw [if_neg c4, cnt_none _ (show p.s + (p.m.length : Int) ≤ low by omega)]
            omega
end PM
namespace LC
open PySem PySem.Spec PyProof.Rows L2 Fx
noncomputable def g__law_draw : FS := seqS (ifS (testF (binF ltD (ixF (varO 0) (constF (.int 0))) (varF 1))) (seqS (asgF 3 (ixF (varO 0) (constF (.int 1))))
      (seqS (setF 0 (constF (.int 1)) (binF addD (varF 3) (constF (.int 1))))
      (seqS (asgF 4 (constF (.int 0)))
      (seqS (ifS (testF (binF ltD (varF 3) (lenF (ofF (ixF (varO 0) (constF (.int 2))))))) (asgF 4 (ixF (ofF (ixF (varO 0) (constF (.int 2)))) (varF 3))) (nilS))
      (ifS (testF (binF geD (varF 4) (binF powD (constF (.int 10)) (constF (.int 18))))) (setF 0 (constF (.int 0)) (varF 4)) (seqS (setF 0 (constF (.int 3)) (binF modD (blF intD (consF (binF mulD (binF addD (binF addD (binF addD (ixF (varO 0) (constF (.int 3))) (binF modD (blF intD (consF (varF 4) (nilF))) (constF (.int 2147483629)))) (varF 3)) (constF (.int 1))) (constF (.int 48271))) (nilF))) (constF (.int 2147483647))))
      (seqS (asgF 5 (binF modD (blF intD (consF (binF addD (binF mulD (ixF (varO 0) (constF (.int 3))) (constF (.int 69621))) (constF (.int 11))) (nilF))) (constF (.int 2147483629))))
      (setF 0 (constF (.int 0)) (binF addD (binF mulD (varF 5) (constF (.int 2147483647))) (binF modD (blF intD (consF (binF addD (binF mulD (varF 5) (constF (.int 30011))) (ixF (varO 0) (constF (.int 3)))) (nilF))) (constF (.int 2147483587)))))))))))) (nilS))
      (seqS (asgF 2 (binF modD (blF intD (consF (ixF (varO 0) (constF (.int 0))) (nilF))) (varF 1)))
      (seqS (setF 0 (constF (.int 0)) (binF divD (ixF (varO 0) (constF (.int 0))) (varF 1)))
      (retF (varO 2))))
@[irreducible] noncomputable def h__law_draw : HF := runB g__law_draw 6
noncomputable def g_is_in : FS := seqS (unpF (.tp [2, 3, 4, 5]) (varF 0))
      (seqS (ifS (testF (binF ltD (varF 1) (varF 3))) (retF (ofF (ixF (varO 2) (binF modD (varF 1) (lenF (varO 2)))))) (nilS))
      (seqS (ifS (testF (binF ltD (varF 1) (binF addD (varF 3) (lenF (varO 4))))) (retF (ofF (ixF (varO 4) (binF subD (varF 1) (varF 3))))) (nilS))
      (retF (ofF (ixF (varO 5) (binF modD (varF 1) (lenF (varO 5))))))))
@[irreducible] noncomputable def h_is_in : HF := runB g_is_in 6
noncomputable def g__law_short : FS := seqS (forS (.nm 1) (rng2 (consF (constF (.int 1)) (consF (binF addD (lenF (varO 0)) (constF (.int 1))) (nilF)))) (ifS (andT (testF (binF eqD (binF modD (blF intD (consF (lenF (varO 0)) (nilF))) (varF 1)) (constF (.int 0)))) (testF (binF eqD (varF 0) (binF mulD (slF (varO 0) (bNo) (bSo (varF 1))) (binF divD (lenF (varO 0)) (varF 1)))))) (retF (ofF (slF (varO 0) (bNo) (bSo (varF 1))))) (nilS)))
      (retF (varO 0))
@[irreducible] noncomputable def h__law_short : HF := runB g__law_short 2
noncomputable def g__law_in : FS := seqS (unpF (.tp [2, 3, 4, 5]) (varF 0))
      (seqS (ifS (testF (binF ltD (varF 1) (varF 3))) (retF (ofF (ixF (varO 2) (binF modD (blF intD (consF (varF 1) (nilF))) (lenF (varO 2)))))) (nilS))
      (seqS (ifS (testF (binF ltD (varF 1) (binF addD (varF 3) (lenF (varO 4))))) (retF (ofF (ixF (varO 4) (binF subD (varF 1) (varF 3))))) (nilS))
      (retF (ofF (ixF (varO 5) (binF modD (blF intD (consF (varF 1) (nilF))) (lenF (varO 5))))))))
@[irreducible] noncomputable def h__law_in : HF := runB g__law_in 6
noncomputable def g__law_written : FS := seqS (asgF 1 (callF h__law_short (consF (ixF (varO 0) (constF (.int 0))) (nilF))))
      (seqS (asgF 2 (callF h__law_short (consF (ixF (varO 0) (constF (.int 3))) (nilF))))
      (seqS (asgF 3 (binF mulD (lenF (varO 1)) (lenF (varO 2))))
      (seqS (asgF 4 (frzF (lrgF (binF subD (binF subD (ixF (varO 0) (constF (.int 1))) (binF mulD (constF (.int 2)) (varF 3))) (constF (.int 2))) (binF addD (binF addD (binF addD (ixF (varO 0) (constF (.int 1))) (lenF (ofF (ixF (varO 0) (constF (.int 2)))))) (binF mulD (constF (.int 2)) (varF 3))) (constF (.int 2))))))
      (seqS (asgF 5 (frzF (compF (.nm 9) (itU (varF 4)) (testF (binF neD (callF h__law_in (consF (varF 0) (consF (varF 9) (nilF)))) (ixF (varO 1) (binF modD (blF intD (consF (varF 9) (nilF))) (lenF (varO 1)))))) (varF 9) [9])))
      (seqS (asgF 6 (frzF (compF (.nm 9) (itU (varF 4)) (testF (binF neD (callF h__law_in (consF (varF 0) (consF (varF 9) (nilF)))) (ixF (varO 2) (binF modD (blF intD (consF (varF 9) (nilF))) (lenF (varO 2)))))) (varF 9) [9])))
      (seqS (ifS (andT (testF (binF eqD (varF 1) (varF 2))) (testF (binF eqD (lenF (varO 5)) (constF (.int 0))))) (retF (ofF (tupF (consF (varF 1) (consF (constF (.int 0)) (consF (tupF (nilF)) (consF (varF 2) (nilF)))))))) (nilS))
      (seqS (asgF 7 (ixF (varO 5) (constF (.int 0))))
      (seqS (asgF 8 (binF addD (ixF (varO 6) (negF (constF (.int 1)))) (constF (.int 1))))
      (seqS (ifS (testF (binF leD (varF 8) (varF 7))) (retF (ofF (tupF (consF (varF 1) (consF (varF 8) (consF (tupF (nilF)) (consF (varF 2) (nilF)))))))) (nilS))
      (retF (ofF (tupF (consF (varF 1) (consF (varF 7) (consF (tofF (ofF (frzF (compF (.nm 9) (rng2 (consF (varF 7) (consF (varF 8) (nilF)))) (yesT) (callF h__law_in (consF (varF 0) (consF (varF 9) (nilF)))) [9])))) (consF (varF 2) (nilF)))))))))))))))))
@[irreducible] noncomputable def h__law_written : HF := runB g__law_written 10
noncomputable def g__law_row : FS := retF (ofF (tofF (ofF (frzF (compF (.nm 3) (rng1 (consF (binF addD (varF 1) (callF h__law_draw (consF (varF 0) (consF (binF addD (binF subD (varF 2) (varF 1)) (constF (.int 1))) (nilF))))) (nilF))) (yesT) (binF eqD (callF h__law_draw (consF (varF 0) (consF (constF (.int 2)) (nilF)))) (constF (.int 1))) [3])))))
@[irreducible] noncomputable def h__law_row : HF := runB g__law_row 4
noncomputable def g__law_pattern : FS := retF (ofF (callF h__law_written (consF (tupF (consF (callF h__law_row (consF (varF 0) (consF (constF (.int 1)) (consF (constF (.int 6)) (nilF))))) (consF (binF subD (callF h__law_draw (consF (varF 0) (consF (constF (.int 21)) (nilF)))) (constF (.int 10))) (consF (callF h__law_row (consF (varF 0) (consF (constF (.int 0)) (consF (constF (.int 6)) (nilF))))) (consF (callF h__law_row (consF (varF 0) (consF (constF (.int 1)) (consF (constF (.int 6)) (nilF))))) (nilF)))))) (nilF))))
@[irreducible] noncomputable def h__law_pattern : HF := runB g__law_pattern 1

end LC
namespace LC
open Fx PM
local macro_rules | `(tactic| walk_at "fx") => `(tactic| simp only [runB, seqS, nilS, asgF, ownF, retF, ifS, testF, binF, varF, varO, constF, ofF, ixF, ixD, seqD, lenF, lenD, unpF, tgD, setN, bindF_some, bindF_none, blF, consF, nilF, intD, iiF_int, ctt_eq, addD_int,
  List.map_cons, List.map_nil, List.cons_append, List.nil_append, List.length_cons, List.length_nil, List.length_map, List.replicate_succ, List.replicate_zero, List.getElem?_cons_zero, List.getElem?_cons_succ, List.set_cons_zero, List.set_cons_succ, Option.map_some, if_true, Nat.reduceAdd, Nat.reduceSub,
  decide_eq_true_eq, if_pos, if_neg, decide_true, decide_false, Bool.false_eq_true, if_false, ne_eq, not_false_eq_true, *])
def eB (bs : List Bool) : D := .tup (bs.map D.bl)
def eP (p : Pat) : D := .tup [eB p.l, .int p.s, eB p.m, eB p.r]
theorem cMod_nat {y : Int} {n : Nat} (h : 0 < n) : cMod y (n : Int) = true := by
  exact dc_of (by omega)
theorem fmod_nat (y : Int) (n : Nat) : y.fmod (n : Int) = y % (n : Int) := Int.fmod_eq_emod_of_nonneg y (by omega)
theorem atI_nn {α : Type} {xs : List α} {i : Int} (h0 : 0 ≤ i) (h1 : i < xs.length) : L2.atI xs i = xs[i.toNat]? := by
  unfold L2.atI L2.ixN
  rw [if_pos h0, if_pos h1]
  rfl
theorem atI_bl {l : List Bool} {i : Int} (h0 : 0 ≤ i) (h1 : i < l.length) : L2.atI (l.map D.bl) i = some (.bl (l.getD i.toNat false)) := by
  rw [atI_nn h0 (by rw [List.length_map]; exact h1), List.getElem?_map]
  have h2 : i.toNat < l.length := by omega
  rw [List.getElem?_eq_getElem h2, List.getD_eq_getElem?_getD, List.getElem?_eq_getElem h2]
  rfl
theorem atI_at {l : List Bool} (h : l ≠ []) (y : Int) : L2.atI (l.map D.bl) (y.fmod (l.length : Int)) = some (.bl (at_ l y)) := by
  have hp := pos_len h
  rw [fmod_nat]
  exact atI_bl (Int.emod_nonneg _ (by omega)) (Int.emod_lt_of_pos _ (by omega))
theorem in_run (p : Pat) (hl : p.l ≠ []) (hr : p.r ≠ []) (y : Int) (T : Tm) : h__law_in [eP p, .int y] T = some (.bl (p.mem y), T) := by
  unfold h__law_in g__law_in eP eB Pat.mem
  have c1 := cMod_nat (y := y) (pos_len hl)
  have c2 := cMod_nat (y := y) (pos_len hr)
  have a1 := atI_at hl y
  have a2 := atI_at hr y
  by_cases h1 : y < p.s
  · walk_at "fx"
  · by_cases h2 : y < p.s + p.m.length
    · have a3 := atI_bl (l := p.m) (i := y - p.s) (by omega) (by omega)
      walk_at "fx"
    · walk_at "fx"
end LC
namespace LC
open Fx PM
local macro_rules | `(tactic| walk_at "fx") => `(tactic| simp only [runB, seqS, nilS, asgF, ownF, retF, ifS, testF, binF, varF, varO, constF, ofF, ixF, ixD, seqD, lenF, lenD, unpF, tgD, setN, bindF_some, bindF_none, blF, consF, nilF, intD, iiF_int, ctt_eq, addD_int, setF, callF, tofF,
  List.map_cons, List.map_nil, List.cons_append, List.nil_append, List.length_cons, List.length_nil, List.length_map, List.replicate_succ, List.replicate_zero, List.getElem?_cons_zero, List.getElem?_cons_succ, List.set_cons_zero, List.set_cons_succ, Option.map_some, if_true, Nat.reduceAdd, Nat.reduceSub,
  decide_eq_true_eq, if_pos, if_neg, decide_true, decide_false, Bool.false_eq_true, if_false, ne_eq, not_false_eq_true, *])
/-- the law's state -/
def eS (ns : List Int) (a b c : Int) : Tm := [.lst [.int a, .int b, .lst (ns.map D.int), .int c]]
theorem ix0 (ds : List D) (x : D) : L2.atI (x :: ds) 0 = some x := by rw [atI_nn (by decide) (by simp only [List.length_cons]; omega)]; rfl
theorem ix1 (ds : List D) (x y : D) : L2.atI (x :: y :: ds) 1 = some y := by rw [atI_nn (by decide) (by simp only [List.length_cons]; omega)]; rfl
theorem ix2 (ds : List D) (x y z : D) : L2.atI (x :: y :: z :: ds) 2 = some z := by rw [atI_nn (by decide) (by simp only [List.length_cons]; omega)]; rfl
theorem ix3 (ds : List D) (x y z u : D) : L2.atI (x :: y :: z :: u :: ds) 3 = some u := by rw [atI_nn (by decide) (by simp only [List.length_cons]; omega)]; rfl
theorem n4_0 : L2.ixN 4 0 = some 0 := by decide
theorem n4_1 : L2.ixN 4 1 = some 1 := by decide
theorem n4_3 : L2.ixN 4 3 = some 3 := by decide
theorem cm {i j : Int} (h : -18446744073709551616 < j ∧ j < 18446744073709551616) : cMul i j = true := dc_of (.inr h)
theorem cmd {i j : Int} (h : j ≠ 0) : cMod i j = true := dc_of h
theorem cdv {i j : Int} (h : j ≠ 0) (h2 : j.natAbs < 1073741824) : cDiv i j = true := dc_of ⟨h, h2⟩
theorem cpw : cPow 10 18 = true := dc_of (by omega)
theorem fmod_lt (x : Int) {n : Int} (h : 0 < n) : 0 ≤ x.fmod n ∧ x.fmod n < n := by
  rw [Int.fmod_eq_emod_of_nonneg x (by omega)]
  exact ⟨Int.emod_nonneg _ (by omega), Int.emod_lt_of_pos _ h⟩
theorem atI_ints {ns : List Int} {b : Int} (h0 : 0 ≤ b) (h1 : b < ns.length) : ∃ v, L2.atI (ns.map D.int) b = some (.int v) := by
  rw [atI_nn h0 (by rw [List.length_map]; exact h1), List.getElem?_map]
  have h2 : b.toNat < ns.length := by omega
  rw [List.getElem?_eq_getElem h2]
  exact ⟨_, rfl⟩
set_option maxHeartbeats 4000000 in
theorem draw_run (ns : List Int) (a b c n : Int) (hb : 0 ≤ b) (hn : 0 < n) (hn2 : n < 1073741824) :
    ∃ d a' b' c', 0 ≤ d ∧ d < n ∧ 0 ≤ b' ∧ h__law_draw [.ob 0, .int n] (eS ns a b c) = some (.int d, eS ns a' b' c') := by
  unfold h__law_draw g__law_draw eS
  have d1 : ∀ x, cMod x n = true := fun x => cmd (by omega)
  have d2 : ∀ x, cDiv x n = true := fun x => cdv (by omega) (by omega)
  have m1 : ∀ x, cMod x 2147483629 = true := fun x => cmd (by decide)
  have m2 : ∀ x, cMod x 2147483647 = true := fun x => cmd (by decide)
  have m3 : ∀ x, cMod x 2147483587 = true := fun x => cmd (by decide)
  have p1 : ∀ x, cMul x 48271 = true := fun x => cm (by omega)
  have p2 : ∀ x, cMul x 69621 = true := fun x => cm (by omega)
  have p3 : ∀ x, cMul x 2147483647 = true := fun x => cm (by omega)
  have p4 : ∀ x, cMul x 30011 = true := fun x => cm (by omega)
  have q0 := @ix0
  have q1 := @ix1
  have q2 := @ix2
  have q3 := @ix3
  have e0 := n4_0
  have e1 := n4_1
  have e3 := n4_3
  have pw := cpw
  have mm : ∀ i j, mulD (.int i) (.int j) = if cMul i j then some (.int (i * j)) else none := fun _ _ => rfl
  by_cases h1 : a < n
  · by_cases h2 : b < ns.length
    · obtain ⟨v, hv⟩ := atI_ints (ns := ns) hb h2
      by_cases h3 : (10 : Int) ^ (18 : Int).toNat ≤ v
      · walk_at "fx"
        exact ⟨_, _, _, _, (fmod_lt v hn).1, (fmod_lt v hn).2, by omega, rfl⟩
      · walk_at "fx"
        exact ⟨_, _, _, _, (fmod_lt _ hn).1, (fmod_lt _ hn).2, by omega, rfl⟩
    · have h3 : ¬ (10 : Int) ^ (18 : Int).toNat ≤ 0 := by decide
      walk_at "fx"
      exact ⟨_, _, _, _, (fmod_lt _ hn).1, (fmod_lt _ hn).2, by omega, rfl⟩
  · walk_at "fx"
    exact ⟨_, _, _, _, (fmod_lt a hn).1, (fmod_lt a hn).2, hb, rfl⟩
end LC
namespace LC
open Fx PM
local macro_rules | `(tactic| walk_at "fx") => `(tactic| simp only [runB, seqS, nilS, asgF, ownF, retF, ifS, testF, binF, varF, varO, constF, ofF, ixF, ixD, seqD, lenF, lenD, unpF, tgD, setN, bindF_some, bindF_none, blF, consF, nilF, intD, iiF_int, ctt_eq, addD_int, setF, callF, tofF, frzF, tupF, negF, andT, slF, slD, bNo, bSo,
  List.map_cons, List.map_nil, List.cons_append, List.nil_append, List.length_cons, List.length_nil, List.length_map, List.replicate_succ, List.replicate_zero, List.getElem?_cons_zero, List.getElem?_cons_succ, List.set_cons_zero, List.set_cons_succ, Option.map_some, if_true, Nat.reduceAdd, Nat.reduceSub,
  decide_eq_true_eq, if_pos, if_neg, decide_true, decide_false, Bool.false_eq_true, if_false, ne_eq, not_false_eq_true, *])
/-! ### comprehensions and searches -/
theorem compL_all {t : Tgt} {e : FE} {ρw : Rho} {Pt : Fx.Tm → Prop} {R : D → Prop} : ∀ (ds : List D), (∀ d ∈ ds, ∀ T, Pt T → ∃ ρ1 x T', tgD t d ρw = some ρ1 ∧ e ρ1 T = some (x, T') ∧ R x ∧ Pt T') →
    ∀ (acc : List D) (T : Fx.Tm), Pt T → acc.length + ds.length ≤ PySem.sizeLine → ∃ xs T', compL t yesT e ρw ds acc T = some (acc ++ xs, T') ∧ xs.length = ds.length ∧ (∀ x ∈ xs, R x) ∧ Pt T'
  | [], _, acc, T, hp, _ => ⟨[], T, by simp [compL], rfl, (fun _ h => by cases h), hp⟩
  | d :: ds, step, acc, T, hp, hl => by
    obtain ⟨ρ1, x, T1, h1, h2, h3, h4⟩ := step d List.mem_cons_self T hp
    rw [List.length_cons] at hl
    obtain ⟨xs, T2, h5, h6, h7, h8⟩ := compL_all ds (fun d hd => step d (List.mem_cons_of_mem _ hd)) (acc ++ [x]) T1 h4 (by rw [List.length_append, List.length_singleton]; omega)
    refine ⟨x :: xs, T2, ?_, by rw [List.length_cons, List.length_cons, h6], fun y hy => ?_, h8⟩
    · unfold compL
      rw [h1]
      show bindF (yesT ρ1 T) _ = _
      rw [show yesT ρ1 T = some (true, T) from rfl, bindF_some, if_pos rfl, h2, bindF_some, if_pos (by omega), h5, List.append_assoc]
      rfl
    · rcases List.mem_cons.mp hy with rfl | hy
      · exact h3
      · exact h7 y hy
/-- nothing changes: a filter and a map -/
theorem compL_pure {t : Tgt} {c : FT} {e : FE} {ρw : Rho} {T : Fx.Tm} {p : D → Bool} {g : D → D} : ∀ (ds : List D), (∀ d ∈ ds, ∃ ρ1, tgD t d ρw = some ρ1 ∧ c ρ1 T = some (p d, T) ∧ (p d = true → e ρ1 T = some (g d, T))) →
    ∀ (acc : List D), acc.length + ds.length ≤ PySem.sizeLine → compL t c e ρw ds acc T = some (acc ++ (ds.filter p).map g, T)
  | [], _, acc, _ => by simp [compL]
  | d :: ds, step, acc, hl => by
    obtain ⟨ρ1, h1, h2, h3⟩ := step d List.mem_cons_self
    rw [List.length_cons] at hl
    have ih := fun (acc : List D) h => compL_pure ds (fun d hd => step d (List.mem_cons_of_mem _ hd)) acc h
    unfold compL
    rw [h1]
    show bindF (c ρ1 T) _ = _
    rw [h2, bindF_some]
    cases hp : p d with
    | false =>
      rw [if_neg (by decide), List.filter_cons, hp, if_neg (by decide)]
      exact ih acc (by omega)
    | true =>
      rw [if_pos rfl, h3 hp, bindF_some, if_pos (by omega), List.filter_cons, hp, if_pos rfl, ih (acc ++ [g d]) (by rw [List.length_append, List.length_singleton]; omega), List.map_cons, List.append_assoc]
      rfl
theorem forL_search {t : Tgt} {body : FS} {T : Fx.Tm} {p : D → Bool} {g : D → D} {inv : Rho → Prop} : ∀ (ds : List D), (∀ d ∈ ds, ∀ ρ, inv ρ → ∃ ρ1, tgD t d ρ = some ρ1 ∧ if p d = true then body ρ1 T = some (.rt (g d), T) else ∃ ρ2, inv ρ2 ∧ body ρ1 T = some (.nx ρ2, T)) →
    ∀ ρ, inv ρ → (∃ d, ds.find? p = some d ∧ forL t body ds ρ T = some (.rt (g d), T)) ∨ (ds.find? p = none ∧ ∃ ρ', inv ρ' ∧ forL t body ds ρ T = some (.nx ρ', T))
  | [], _, ρ, hi => .inr ⟨rfl, ρ, hi, rfl⟩
  | d :: ds, step, ρ, hi => by
    obtain ⟨ρ1, h1, h2⟩ := step d List.mem_cons_self ρ hi
    unfold forL
    simp only [h1]
    cases hp : p d with
    | true =>
      rw [hp, if_pos rfl] at h2
      refine .inl ⟨d, by rw [List.find?_cons, hp], ?_⟩
      simp only [h2]
    | false =>
      rw [hp, if_neg (by decide)] at h2
      obtain ⟨ρ2, h3, h4⟩ := h2
      have e1 : (d :: ds).find? p = ds.find? p := by rw [List.find?_cons, hp]
      rw [e1]
      have ih := forL_search ds (fun d hd => step d (List.mem_cons_of_mem _ hd)) ρ2 h3
      simp only [h4]
      exact ih
/-! ### == of rows -/
def pB (l : List Bool) : PySem.PyData := .tuple (l.map PySem.PyData.bool)
theorem toPyL_bl : ∀ l : List Bool, toPyL (l.map D.bl) = some (l.map PySem.PyData.bool)
  | [] => by simp [toPyL]
  | b :: l => by simp [toPyL, toPy, toPyL_bl l]
theorem toPy_eB (l : List Bool) : toPy (eB l) = some (pB l) := by
  unfold eB pB
  rw [toPy, toPyL_bl]
  rfl
theorem lay_bl : ∀ l : List Bool, PySem.PyData.canLayAll0 (l.map PySem.PyData.bool) = true
  | [] => by simp [PySem.PyData.canLayAll0]
  | b :: l => by simp [PySem.PyData.canLayAll0, PySem.PyData.canLay0, lay_bl l]
theorem dep_bl : ∀ l : List Bool, PySem.PyData.depthAll (l.map PySem.PyData.bool) = 0
  | [] => by simp [PySem.PyData.depthAll]
  | b :: l => by simp [PySem.PyData.depthAll, PySem.PyData.depth, dep_bl l]
theorem shaped_pB (l : List Bool) : PySem.SeqAt.shaped (pB l) = true := by
  unfold PySem.SeqAt.shaped pB
  simp [PySem.PyData.canLay0, lay_bl, PySem.PyData.depth, dep_bl]
theorem eqvAll_bl : ∀ a b : List Bool, PySem.PyData.eqvAll (a.map PySem.PyData.bool) (b.map PySem.PyData.bool) = decide (a = b)
  | [], [] => by simp [PySem.PyData.eqvAll]
  | [], _ :: _ => by simp [PySem.PyData.eqvAll]
  | _ :: _, [] => by simp [PySem.PyData.eqvAll]
  | x :: a, y :: b => by
    simp only [List.map_cons, PySem.PyData.eqvAll, PySem.PyData.eqv, eqvAll_bl a b, List.cons.injEq]
    by_cases h : x = y <;> by_cases h2 : a = b <;> simp [h, h2]
theorem eqv_pB (a b : List Bool) : PySem.PyData.eqv (pB a) (pB b) = decide (a = b) := by
  unfold pB
  rw [PySem.PyData.eqv, eqvAll_bl]
theorem eqD_eB (a b : List Bool) : eqD (eB a) (eB b) = some (.bl (decide (a = b))) := by
  unfold eqD eqB
  rw [toPy_eB, toPy_eB]
  simp only [shaped_pB, Bool.and_self, if_true, eqv_pB, Option.map_some]
theorem eqD_int (i j : Int) : eqD (.int i) (.int j) = some (.bl (decide (i = j))) := by
  unfold eqD eqB
  simp only [toPy]
  have h : ∀ i, PySem.SeqAt.shaped (.int i) = true := fun i => by simp [PySem.SeqAt.shaped, PySem.PyData.canLay0, PySem.PyData.depth]
  simp only [h, Bool.and_self, if_true, PySem.PyData.eqv, Option.map_some]
  by_cases e : i = j <;> simp [e]
theorem neD_bl (a b : Bool) : neD (.bl a) (.bl b) = some (.bl (decide (a ≠ b))) := by
  unfold neD eqB
  simp only [toPy]
  have h : ∀ i, PySem.SeqAt.shaped (.bool i) = true := fun i => by simp [PySem.SeqAt.shaped, PySem.PyData.canLay0, PySem.PyData.depth]
  simp only [h, Bool.and_self, if_true, PySem.PyData.eqv, Option.map_some]
  cases a <;> cases b <;> rfl
/-! ### a row -/
theorem line_eq : PySem.sizeLine = 16777216 := PySem.sizeLine_eq
theorem rngL_mem {i j : Int} {d : D} (h : d ∈ rngL i j) : ∃ k : Int, d = .int k ∧ i ≤ k ∧ k < j := by
  unfold rngL at h
  obtain ⟨m, hm, rfl⟩ := List.mem_map.mp h
  have := List.mem_range.mp hm
  exact ⟨_, rfl, by omega, by omega⟩
theorem bls_of : ∀ xs : List D, (∀ x ∈ xs, ∃ b, x = D.bl b) → ∃ bs : List Bool, xs = bs.map D.bl
  | [], _ => ⟨[], rfl⟩
  | x :: xs, h => by
    obtain ⟨b, rfl⟩ := h x List.mem_cons_self
    obtain ⟨bs, rfl⟩ := bls_of xs fun y hy => h y (List.mem_cons_of_mem _ hy)
    exact ⟨b :: bs, rfl⟩
set_option maxHeartbeats 4000000 in
theorem row_run (ns : List Int) (a b c lo hi : Int) (hb : 0 ≤ b) (h0 : 0 ≤ lo) (h1 : lo ≤ hi) (h2 : hi ≤ 1000) :
    ∃ (bs : List Bool) (a' b' c' : Int), lo ≤ bs.length ∧ (bs.length : Int) ≤ hi ∧ 0 ≤ b' ∧ h__law_row [.ob 0, .int lo, .int hi] (eS ns a b c) = some (eB bs, eS ns a' b' c') := by
  obtain ⟨d, a1, b1, c1, g1, g2, g3, g4⟩ := draw_run ns a b c (hi - lo + 1) hb (by omega) (by omega)
  have e1 : in62 (lo + d) = true := in62_of (by omega) (by omega)
  obtain ⟨xs, T', k1, k2, k3, k4⟩ := compL_all (t := .nm 3) (e := binF eqD (callF h__law_draw (consF (varF 0) (consF (constF (.int 2)) (nilF)))) (constF (.int 1)))
    (ρw := [.dat (.ob 0), .dat (.int lo), .dat (.int hi), .un]) (Pt := fun T => ∃ a b c, 0 ≤ b ∧ T = eS ns a b c) (R := fun x => ∃ b, x = D.bl b) (rngL 0 (lo + d)) (fun x hx T hT => by
      obtain ⟨k, rfl, _, _⟩ := rngL_mem hx
      obtain ⟨a2, b2, c2, h3, rfl⟩ := hT
      obtain ⟨d3, a3, b3, c3, _, _, h4, h5⟩ := draw_run ns a2 b2 c2 2 h3 (by decide) (by decide)
      have q := eqD_int d3 1
      refine ⟨_, .bl (decide (d3 = 1)), eS ns a3 b3 c3, rfl, ?_, ⟨_, rfl⟩, a3, b3, c3, h4, rfl⟩
      walk_at "fx") [] (eS ns a1 b1 c1) ⟨a1, b1, c1, g3, rfl⟩ (by rw [rngL_len, line_eq]; simp only [List.length_nil]; omega)
  obtain ⟨bs, rfl⟩ := bls_of xs k3
  obtain ⟨a2, b2, c2, h3, rfl⟩ := k4
  rw [List.length_map, rngL_len] at k2
  refine ⟨bs, a2, b2, c2, by omega, by omega, h3, ?_⟩
  unfold h__law_row g__law_row eB
  have in1 : tgIn (.nm 3) [3] = true := by decide
  simp only [runB, retF, ofF, tofF, frzF, compF, rng1, in1, wipeR, if_true]
  walk_at "fx"
end LC
namespace LC
open Fx PM
local macro_rules | `(tactic| walk_at "fx") => `(tactic| simp only [runB, seqS, nilS, asgF, ownF, retF, ifS, testF, binF, varF, varO, constF, ofF, ixF, ixD, seqD, lenF, lenD, unpF, tgD, setN, bindF_some, bindF_none, blF, consF, nilF, intD, iiF_int, ctt_eq, addD_int, setF, callF, tofF, frzF, tupF, negF, andT, orT, slF, slD, bNo, bSo, forS, rng1, rng2, lrgF, compF, yesT,
  List.map_cons, List.map_nil, List.cons_append, List.nil_append, List.length_cons, List.length_nil, List.length_map, List.replicate_succ, List.replicate_zero, List.getElem?_cons_zero, List.getElem?_cons_succ, List.set_cons_zero, List.set_cons_succ, Option.map_some, if_true, Nat.reduceAdd, Nat.reduceSub,
  decide_eq_true_eq, if_pos, if_neg, decide_true, decide_false, Bool.false_eq_true, if_false, ne_eq, not_false_eq_true, Bool.and_self, wipeR, *])
/-! ### ranges and loops -/
theorem rngL_cons {i j : Int} (h : i < j) : rngL i j = .int i :: rngL (i + 1) j := by
  unfold rngL
  rw [show (j - i).toNat = (j - (i + 1)).toNat + 1 by omega, List.range_succ_eq_map, List.map_cons, List.map_map]
  congr 1
  · congr 1
    omega
  · apply List.map_congr_left
    intro k _
    show D.int (i + ((k + 1 : Nat) : Int)) = D.int (i + 1 + (k : Int))
    congr 1
    omega
theorem rngL_nil {i j : Int} (h : j ≤ i) : rngL i j = [] := by
  unfold rngL
  rw [show (j - i).toNat = 0 by omega]
  rfl
theorem rngL_map (i j : Int) : rngL i j = (rngZ i j).map D.int := by
  unfold rngL rngZ
  rw [List.map_map]
  rfl
theorem forL_rng {t : Tgt} {body : FS} {T : Fx.Tm} {p : Int → Bool} {g : Int → D} {inv : Rho → Prop} {j : Int} : ∀ (n : Nat) (i : Int), (j - i).toNat = n →
    (∀ k, i ≤ k → k < j → ∀ ρ, inv ρ → ∃ ρ1, tgD t (.int k) ρ = some ρ1 ∧ if p k = true then body ρ1 T = some (.rt (g k), T) else ∃ ρ2, inv ρ2 ∧ body ρ1 T = some (.nx ρ2, T)) → ∀ ρ, inv ρ →
    (∃ z, i ≤ z ∧ z < j ∧ p z = true ∧ (∀ w, i ≤ w → w < z → p w = false) ∧ forL t body (rngL i j) ρ T = some (.rt (g z), T)) ∨ ((∀ w, i ≤ w → w < j → p w = false) ∧ ∃ ρ', inv ρ' ∧ forL t body (rngL i j) ρ T = some (.nx ρ', T))
  | 0, i, hn, step, ρ, hi => by
    rw [rngL_nil (by omega)]
    exact .inr ⟨fun w h1 h2 => by omega, ρ, hi, rfl⟩
  | n + 1, i, hn, step, ρ, hi => by
    rw [rngL_cons (by omega)]
    obtain ⟨ρ1, h1, h2⟩ := step i (by omega) (by omega) ρ hi
    unfold forL
    simp only [h1]
    cases hp : p i with
    | true =>
      rw [hp, if_pos rfl] at h2
      simp only [h2]
      exact .inl ⟨i, by omega, by omega, hp, fun w h3 h4 => by omega, rfl⟩
    | false =>
      rw [hp, if_neg (by decide)] at h2
      obtain ⟨ρ2, h3, h4⟩ := h2
      simp only [h4]
      rcases forL_rng n (i + 1) (by omega) (fun k h5 h6 => step k (by omega) h6) ρ2 h3 with ⟨z, a1, a2, a3, a4, a5⟩ | ⟨a1, a2⟩
      · exact .inl ⟨z, by omega, a2, a3, fun w h5 h6 => if c : w = i then c ▸ hp else a4 w (by omega) h6, a5⟩
      · exact .inr ⟨fun w h5 h6 => if c : w = i then c ▸ hp else a1 w (by omega) h6, a2⟩
/-- a loop that goes on -/
theorem forL_inv {t : Tgt} {body : FS} {inv : Rho → Fx.Tm → Prop} : ∀ (ds : List D), (∀ d ∈ ds, ∀ ρ T, inv ρ T → ∃ ρ1 ρ2 T2, tgD t d ρ = some ρ1 ∧ body ρ1 T = some (.nx ρ2, T2) ∧ inv ρ2 T2) →
    ∀ ρ T, inv ρ T → ∃ ρ' T', inv ρ' T' ∧ forL t body ds ρ T = some (.nx ρ', T')
  | [], _, ρ, T, h => ⟨ρ, T, h, rfl⟩
  | d :: ds, step, ρ, T, h => by
    obtain ⟨ρ1, ρ2, T2, h1, h2, h3⟩ := step d List.mem_cons_self ρ T h
    unfold forL
    simp only [h1, h2]
    exact forL_inv ds (fun d hd => step d (List.mem_cons_of_mem _ hd)) ρ2 T2 h3
/-! ### slices, products of rows -/
theorem take_len {α : Type} {xs : List α} {k : Nat} (h : k ≤ xs.length) : (xs.take k).length = k := by rw [List.length_take]; omega
theorem cutD_take {ds : List D} {k : Nat} (h : k ≤ ds.length) : cutD ds none (some (k : Int)) = ds.take k := by
  unfold cutD
  rw [HT.sIx_none, HT.sIx_nat, List.drop_zero, Nat.min_eq_left h]
  rfl
theorem slD_eB (T : Fx.Tm) {l : List Bool} {k : Nat} (h : k ≤ l.length) : slD T (.val (eB l)) none (some (k : Int)) = some (eB (l.take k)) := by
  unfold slD eB
  show some (D.tup (cutD _ _ _)) = _
  rw [cutD_take (by rw [List.length_map]; exact h), List.map_take]
theorem mulD_eB {l : List Bool} {k : Nat} (h0 : l ≠ []) (h1 : 1 ≤ k) (h2 : k ≤ 1000) (h3 : l.length ≤ 1000) : mulD (eB l) (.int (k : Int)) = some (eB (List.replicate k l).flatten) := by
  unfold mulD eB
  show (if _ then _ else _) = _
  rw [if_pos (show cRepT _ _ = true from dc_of ⟨by simpa using h0, by omega, .inr ⟨by omega, by rw [List.length_map]; exact h3⟩⟩), Int.toNat_natCast, List.map_flatten, List.map_replicate]
theorem lenD_eB (T : Fx.Tm) (l : List Bool) : lenD T (.val (eB l)) = some (.int (l.length : Int)) := by
  unfold lenD eB seqD
  show some (D.int _) = _
  rw [List.length_map]
theorem fmod_natnat (n k : Nat) : (n : Int).fmod (k : Int) = ((n % k : Nat) : Int) := by rw [fmod_nat, Int.natCast_emod]
theorem fdiv_natnat (n k : Nat) : (n : Int).fdiv (k : Int) = ((n / k : Nat) : Int) := by rw [Int.fdiv_eq_ediv_of_nonneg _ (by omega), Int.natCast_ediv]
/-- the first that fits -/
theorem short_first {l : List Bool} {z : Nat} (h0 : 1 ≤ z) (h1 : z ≤ l.length) (h2 : okK l z = true) (h3 : ∀ w : Nat, 1 ≤ w → w < z → okK l w = false) : short l = l.take z := by
  obtain ⟨k, q1, q2, q3, q4⟩ := find_range (p := fun k => okK l (k + 1)) l.length ⟨z - 1, by omega, by rw [show z - 1 + 1 = z by omega]; exact h2⟩
  have e : k + 1 = z := by
    rcases Nat.lt_trichotomy (k + 1) z with c | c | c
    · have := h3 (k + 1) (by omega) c
      rw [this] at q3
      cases q3
    · exact c
    · have := q4 (z - 1) (by omega)
      rw [show z - 1 + 1 = z by omega, h2] at this
      cases this
  unfold short
  rw [q1]
  show l.take (k + 1) = _
  rw [e]
theorem okK_full {l : List Bool} (h : l ≠ []) : okK l l.length = true := (okK_iff (pos_len h) (Nat.le_refl _)).mpr ⟨Nat.mod_self _, at_per⟩
set_option maxHeartbeats 1000000 in
theorem short_run (l : List Bool) (h : l ≠ []) (hl : l.length ≤ 1000) (T : Fx.Tm) : h__law_short [eB l] T = some (eB (short l), T) := by
  unfold h__law_short g__law_short
  have hp := pos_len h
  have el := lenD_eB T l
  have c1 : in62 1 = true := in62_of (by omega) (by omega)
  have c2 : in62 ((l.length : Int) + 1) = true := in62_of (by omega) (by omega)
  have key := forL_rng (t := .nm 1) (T := T) (body := ifS (andT (testF (binF eqD (binF modD (blF intD (consF (lenF (varO 0)) (nilF))) (varF 1)) (constF (.int 0)))) (testF (binF eqD (varF 0) (binF mulD (slF (varO 0) (bNo) (bSo (varF 1))) (binF divD (lenF (varO 0)) (varF 1)))))) (retF (ofF (slF (varO 0) (bNo) (bSo (varF 1))))) (nilS))
    (p := fun k => okK l k.toNat) (g := fun k => eB (l.take k.toNat)) (inv := fun ρ => ∃ x, ρ = [.dat (eB l), x]) (j := (l.length : Int) + 1) _ 1 rfl (fun k h1 h2 ρ hr => by
      obtain ⟨x, rfl⟩ := hr
      obtain ⟨k, rfl⟩ : ∃ n : Nat, k = (n : Int) := ⟨k.toNat, by omega⟩
      refine ⟨_, rfl, ?_⟩
      have hk : k ≤ l.length := by omega
      have m1 : cMod (l.length : Int) (k : Int) = true := cMod_nat (by omega)
      have m2 : cDiv (l.length : Int) (k : Int) = true := cdv (by omega) (by omega)
      have e1 := slD_eB T hk
      have e2 := eqD_int ((l.length : Int).fmod (k : Int)) 0
      rw [fmod_natnat] at e2
      have e3 := fdiv_natnat l.length k
      have e4 : mulD (eB (l.take k)) (.int ((l.length / k : Nat) : Int)) = some (eB (rep k l)) := mulD_eB (fun e => by have := take_len hk; rw [e] at this; simp at this; omega) (Nat.div_pos hk (by omega)) (Nat.le_trans (Nat.div_le_self _ _) hl) (by rw [take_len hk]; omega)
      have e5 := eqD_eB l (rep k l)
      have e6 := fmod_natnat l.length k
      show if okK l (Int.toNat (k : Int)) = true then _ else _
      rw [Int.toNat_natCast]
      by_cases a1 : l.length % k = 0
      · have a1' : ((l.length % k : Nat) : Int) = 0 := by omega
        by_cases a2 : l = rep k l
        · rw [if_pos (by unfold okK; rw [decide_eq_true a1, decide_eq_true a2]; rfl)]
          rw [decide_eq_true a1'] at e2
          rw [decide_eq_true a2] at e5
          simp only [runB, seqS, nilS, retF, ifS, testF, binF, varF, varO, constF, ofF, lenF, bindF_some, blF, consF, nilF, intD, iiF_int, andT, slF, bNo, bSo, List.getElem?_cons_zero, List.getElem?_cons_succ, List.set_cons_zero, List.set_cons_succ, Option.map_some, el, m1, m2, e1, e2, e3, e4, e5, e6, if_true, Int.toNat_natCast]
        · rw [if_neg (by unfold okK; rw [decide_eq_false a2, Bool.and_false]; decide)]
          rw [decide_eq_true a1'] at e2
          rw [decide_eq_false a2] at e5
          refine ⟨[.dat (eB l), .dat (.int (k : Int))], ⟨_, rfl⟩, ?_⟩
          simp only [runB, seqS, nilS, retF, ifS, testF, binF, varF, varO, constF, ofF, lenF, bindF_some, blF, consF, nilF, intD, iiF_int, andT, slF, bNo, bSo, List.getElem?_cons_zero, List.getElem?_cons_succ, List.set_cons_zero, List.set_cons_succ, Option.map_some, el, m1, m2, e1, e2, e3, e4, e5, e6, if_true, Bool.false_eq_true, if_false]
      · have a1' : ¬ ((l.length % k : Nat) : Int) = 0 := by omega
        rw [if_neg (by unfold okK; rw [decide_eq_false a1, Bool.false_and]; decide)]
        rw [decide_eq_false a1'] at e2
        refine ⟨[.dat (eB l), .dat (.int (k : Int))], ⟨_, rfl⟩, ?_⟩
        simp only [runB, seqS, nilS, retF, ifS, testF, binF, varF, varO, constF, ofF, lenF, bindF_some, blF, consF, nilF, intD, iiF_int, andT, slF, bNo, bSo, List.getElem?_cons_zero, List.getElem?_cons_succ, List.set_cons_zero, List.set_cons_succ, Option.map_some, el, m1, m2, e1, e2, e3, e4, e5, e6, if_true, Bool.false_eq_true, if_false]) [.dat (eB l), .un] ⟨_, rfl⟩
  rcases key with ⟨z, q1, q2, q3, q4, q5⟩ | ⟨q1, _⟩
  · obtain ⟨z, rfl⟩ : ∃ n : Nat, z = (n : Int) := ⟨z.toNat, by omega⟩
    rw [short_first (z := z) (by omega) (by omega) (by simpa using q3) fun w h1 h2 => by have := q4 (w : Int) (by omega) (by omega); simpa using this]
    rw [Int.toNat_natCast] at q5
    simp only [runB, seqS, forS, rng2, varO, lenF, binF, constF, consF, nilF, bindF_some, List.map_cons, List.map_nil, List.cons_append, List.nil_append, List.length_cons, List.length_nil, Nat.reduceAdd, Nat.reduceSub, List.replicate_succ, List.replicate_zero, List.getElem?_cons_zero, el, Option.map_some, addD_int, c1, c2, Bool.and_self, if_true, q5]
  · have := q1 (l.length : Int) (by omega) (by omega)
    rw [Int.toNat_natCast, okK_full h] at this
    cases this
theorem is_in_run (p : Pat) (ok : p.Ok) (y : Int) (T : Fx.Tm) : h_is_in [eP p, .int y] T = some (.bl (p.mem y), T) := by
  unfold h_is_in g_is_in eP eB Pat.mem
  have c1 := cMod_nat (y := y) (pos_len ok.l)
  have c2 := cMod_nat (y := y) (pos_len ok.r)
  have a1 := atI_at ok.l y
  have a2 := atI_at ok.r y
  by_cases h1 : y < p.s
  · walk_at "fx"
  · by_cases h2 : y < p.s + p.m.length
    · have a3 := atI_bl (l := p.m) (i := y - p.s) (by omega) (by omega)
      walk_at "fx"
    · walk_at "fx"
end LC
namespace LC
open Fx PM
/-! ### the law's own way to write a pattern -/
def pD (f : Int → Bool) (l : List Bool) : D → Bool
  | .int y => dL f l y
  | _ => false
theorem filter_rngL (f : Int → Bool) (l : List Bool) (i j : Int) : (rngL i j).filter (pD f l) = ((rngZ i j).filter (dL f l)).map D.int := by
  rw [rngL_map, List.filter_map]
  rfl
theorem atI_head {α : Type} (a : α) (xs : List α) : L2.atI (a :: xs) 0 = some a := by rw [atI_nn (by decide) (by simp only [List.length_cons]; omega)]; rfl
theorem atI_last {α : Type} (xs : List α) (b : α) : L2.atI (xs ++ [b]) (-1) = some b := by
  unfold L2.atI L2.ixN
  have hl : (xs ++ [b]).length = xs.length + 1 := by rw [List.length_append]; rfl
  rw [hl, if_neg (by omega), if_pos (by omega)]
  show (xs ++ [b])[(-1 + ((xs.length + 1 : Nat) : Int)).toNat]? = _
  rw [show (-1 + ((xs.length + 1 : Nat) : Int)).toNat = xs.length by omega, List.getElem?_append_right (Nat.le_refl _), Nat.sub_self]
  rfl
theorem ixD_eB (T : Fx.Tm) {l : List Bool} (h : l ≠ []) (y : Int) : ixD T (.val (eB l)) (.int (y.fmod (l.length : Int))) = some (.bl (at_ l y)) := by
  unfold ixD eB seqD
  exact atI_at h y
theorem ixD_lst (T : Fx.Tm) (ds : List D) (i : Int) : ixD T (.val (.lst ds)) (.int i) = L2.atI ds i := rfl
theorem ixD_tup (T : Fx.Tm) (ds : List D) (i : Int) : ixD T (.val (.tup ds)) (.int i) = L2.atI ds i := rfl
theorem lenD_lst (T : Fx.Tm) (ds : List D) : lenD T (.val (.lst ds)) = some (.int (ds.length : Int)) := rfl
theorem lenD_tup (T : Fx.Tm) (ds : List D) : lenD T (.val (.tup ds)) = some (.int (ds.length : Int)) := rfl
theorem seqD_lst (T : Fx.Tm) (ds : List D) : seqD T (.val (.lst ds)) = some (false, ds) := rfl
theorem seqD_tup (T : Fx.Tm) (ds : List D) : seqD T (.val (.tup ds)) = some (true, ds) := rfl
theorem intD_int (i : Int) : Fx.intD [.int i] = some (.int i) := rfl
theorem mulD_int (i j : Int) : mulD (.int i) (.int j) = if cMul i j then some (.int (i * j)) else none := rfl
structure PSz (p : Pat) (n : Int) : Prop where
  l : p.l.length ≤ 1000
  r : p.r.length ≤ 1000
  m : p.m.length ≤ 1000000
  s : -n ≤ p.s
  s' : p.s ≤ n
theorem rngL_ne {i j : Int} : (rngL i j).length = (j - i).toNat := rngL_len i j
local macro_rules | `(tactic| walk_at "fx") => `(tactic| simp only [runB, seqS, nilS, asgF, retF, ifS, testF, binF, varF, varO, constF, ofF, ixF, lenF, bindF_some, blF, consF, nilF, intD_int, iiF_int, ctt_eq, addD_int, mulD_int, callF, tofF, frzF, tupF, negF, andT, rng2, lrgF, compF, seqD_lst, seqD_tup, ixD_lst, ixD_tup, lenD_lst, lenD_tup, eqD_int, itU,
  List.map_cons, List.map_nil, List.cons_append, List.nil_append, List.length_cons, List.length_nil, List.replicate_succ, List.replicate_zero, List.getElem?_cons_zero, List.getElem?_cons_succ, List.set_cons_zero, List.set_cons_succ, Option.map_some, if_true, Nat.reduceAdd, Nat.reduceSub,
  Bool.false_eq_true, if_false, Bool.and_self, wipeR, *])
section
variable (p : Pat) (ok : p.Ok) (T : Fx.Tm)
include ok
theorem comp_dif {k : Nat} (l : List Bool) (h : l ≠ []) (x0 x1 x2 x3 x4 x5 x6 x7 x8 : Sl) (hx0 : x0 = .dat (eP p)) (hk : [x0, x1, x2, x3, x4, x5, x6, x7, x8][k]? = some (.dat (eB l))) (i j : Int) (hs : (j - i).toNat ≤ 16777216) :
    compL (.nm 9) (testF (binF neD (callF h__law_in (consF (varF 0) (consF (varF 9) (nilF)))) (ixF (varO k) (binF modD (blF Fx.intD (consF (varF 9) (nilF))) (lenF (varO k)))))) (varF 9) [x0, x1, x2, x3, x4, x5, x6, x7, x8, .un] (rngL i j) [] T
      = some (((rngZ i j).filter (dL p.mem l)).map D.int, T) := by
  have hk9 : k < 9 := (List.getElem?_eq_some_iff.mp hk).1
  rw [compL_pure (p := pD p.mem l) (g := id) (rngL i j) (fun d hd => ?_) [] (by rw [rngL_len, line_eq]; simpa using hs), filter_rngL, List.map_id]
  · rfl
  · obtain ⟨y, rfl, _, _⟩ := rngL_mem hd
    subst hx0
    refine ⟨[.dat (eP p), x1, x2, x3, x4, x5, x6, x7, x8, .dat (.int y)], rfl, ?_, fun _ => rfl⟩
    have e0 : [Sl.dat (eP p), x1, x2, x3, x4, x5, x6, x7, x8, .dat (.int y)][k]? = some (.dat (eB l)) := by
      rw [← hk]
      exact List.getElem?_append_left (l₁ := [Sl.dat (eP p), x1, x2, x3, x4, x5, x6, x7, x8]) (by simpa using hk9)
    have e1 := in_run p ok.l ok.r y T
    have e2 := lenD_eB T l
    have e3 := ixD_eB T h y
    have e4 := cMod_nat (y := y) (pos_len h)
    have e5 := neD_bl (p.mem y) (at_ l y)
    walk_at "fx"
    rfl
end
theorem eP_0 (T : Fx.Tm) (p : Pat) : ixD T (.val (eP p)) (.int 0) = some (eB p.l) := atI_head _ _
theorem eP_1 (T : Fx.Tm) (p : Pat) : ixD T (.val (eP p)) (.int 1) = some (.int p.s) := ix1 _ _ _
theorem eP_2 (T : Fx.Tm) (p : Pat) : ixD T (.val (eP p)) (.int 2) = some (eB p.m) := ix2 _ _ _ _
theorem eP_3 (T : Fx.Tm) (p : Pat) : ixD T (.val (eP p)) (.int 3) = some (eB p.r) := ix3 _ _ _ _ _
theorem eP_mk (l : List Bool) (s : Int) (m : List Bool) (r : List Bool) : D.tup [eB l, .int s, eB m, eB r] = eP ⟨l, s, m, r⟩ := rfl
theorem eB_nil : D.tup [] = eB [] := rfl
theorem len4 : ((0 + 1 + 1 + 1 + 1 : Nat) ≤ PySem.sizeLine) := by rw [line_eq]; omega
theorem len0 : ((0 : Nat) ≤ PySem.sizeLine) := Nat.zero_le _
theorem cm_l {i j : Int} (h : -18446744073709551616 < i ∧ i < 18446744073709551616) : cMul i j = true := dc_of (.inl h)
theorem atI_last' {ds : List D} {xs : List D} {b : D} (h : ds = xs ++ [b]) : L2.atI ds (-1) = some b := by rw [h]; exact atI_last xs b
local macro_rules | `(tactic| walk_at "fy") => `(tactic| simp only [runB, seqS, nilS, asgF, retF, ifS, testF, binF, varF, varO, constF, ofF, ixF, lenF, bindF_some, blF, consF, nilF, intD_int, iiF_int, ctt_eq, addD_int, mulD_int, callF, tofF, frzF, tupF, negF, andT, rng2, lrgF, compF, seqD_lst, seqD_tup, ixD_lst, ixD_tup, lenD_lst, lenD_tup, lenD_eB, eqD_int, itU, eP_0, eP_1, eP_2, eP_3, eqD_eB,
  List.map_cons, List.map_nil, List.cons_append, List.nil_append, List.length_cons, List.length_nil, List.replicate_succ, List.replicate_zero, List.getElem?_cons_zero, List.getElem?_cons_succ, List.set_cons_zero, List.set_cons_succ, Option.map_some, if_true, Nat.reduceAdd, Nat.reduceSub,
  Bool.false_eq_true, if_false, Bool.and_self, wipeR, *])
set_option maxHeartbeats 2000000 in
theorem written_run (p : Pat) (ok : p.Ok) {n : Int} (sz : PSz p n) (hn : n ≤ 1000000000) (T : Fx.Tm) : ∃ p' : Pat, Canon p' ∧ p'.mem = p.mem ∧ PSz p' (n + 3000002) ∧ h__law_written [eP p] T = some (eP p', T) := by
  have kl := short_spec ok.l
  have kr := short_spec ok.r
  have s1 := sz.s
  have s2 := sz.s'
  have s3 := sz.m
  have hP : (short p.l).length * (short p.r).length ≤ 1000 * 1000 := Nat.mul_le_mul (Nat.le_trans kl.2.2 sz.l) (Nat.le_trans kr.2.2 sz.r)
  have sl : (short p.l).length ≤ 1000 := Nat.le_trans kl.2.2 sz.l
  have sr : (short p.r).length ≤ 1000 := Nat.le_trans kr.2.2 sz.r
  have a1 := short_run p.l ok.l sz.l T
  have a2 := short_run p.r ok.r sz.r T
  have a3 : cMul ((short p.l).length : Int) ((short p.r).length : Int) = true := cm (by omega)
  have a4 : ((short p.l).length : Int) * ((short p.r).length : Int) = (((short p.l).length * (short p.r).length : Nat) : Int) := (Int.natCast_mul _ _).symm
  have a5 : cMul 2 (((short p.l).length * (short p.r).length : Nat) : Int) = true := cm_l (by omega)
  have e1 : p.s - 2 * (((short p.l).length * (short p.r).length : Nat) : Int) - 2 = lo_ p := rfl
  have e2 : p.s + (p.m.length : Int) + 2 * (((short p.l).length * (short p.r).length : Nat) : Int) + 2 = hi_ p := rfl
  have b1 : rgOkB (lo_ p) (hi_ p) = true := by
    unfold rgOkB
    rw [in62_of (by unfold lo_; omega) (by unfold lo_; omega), in62_of (by unfold hi_; omega) (by unfold hi_; omega), in24_of (by unfold lo_ hi_; omega)]
    rfl
  have hs : (hi_ p - lo_ p).toNat ≤ 16777216 := by unfold lo_ hi_; omega
  have c1 := comp_dif p ok T (k := 1) (short p.l) kl.1.1 (.dat (eP p)) (.dat (eB (short p.l))) (.dat (eB (short p.r))) (.dat (.int (((short p.l).length * (short p.r).length : Nat) : Int))) (.dat (.lst (rngL (lo_ p) (hi_ p)))) .un .un .un .un rfl rfl _ _ hs
  have c2 := comp_dif p ok T (k := 2) (short p.r) kr.1.1 (.dat (eP p)) (.dat (eB (short p.l))) (.dat (eB (short p.r))) (.dat (.int (((short p.l).length * (short p.r).length : Nat) : Int))) (.dat (.lst (rngL (lo_ p) (hi_ p)))) (.dat (.lst ((odd_ p).map D.int))) .un .un .un rfl rfl _ _ hs
  rw [show List.filter (dL p.mem (short p.l)) (rngZ (lo_ p) (hi_ p)) = odd_ p from rfl] at c1
  rw [show List.filter (dL p.mem (short p.r)) (rngZ (lo_ p) (hi_ p)) = late_ p from rfl] at c2
  have in9 : tgIn (.nm 9) [9] = true := by decide
  have l4 := len4
  have l0 := len0
  unfold h__law_written g__law_written
  by_cases h : short p.l = short p.r ∧ odd_ p = []
  · refine ⟨wr0 p, wr0_canon ok h.1, wr0_mem ok h.1 h.2, ⟨sl, sr, by show (0 : Nat) ≤ _; omega, by show _ ≤ (0 : Int); omega, by show (0 : Int) ≤ _; omega⟩, ?_⟩
    have h1 : decide (short p.l = short p.r) = true := decide_eq_true h.1
    have h2 : decide ((((odd_ p).map D.int).length : Int) = 0) = true := by rw [h.2]; rfl
    clear h kl kr sz ok
    walk_at "fy"
    rfl
  · obtain ⟨n1, n2⟩ := odd_ne ok h
    obtain ⟨a, xs, ho⟩ := List.exists_cons_of_ne_nil n1
    have hla := (List.dropLast_concat_getLast n2).symm
    generalize (late_ p).dropLast = ys at hla
    generalize (late_ p).getLast n2 = b at hla
    obtain ⟨ia, hsa⟩ := odd_isA ok ho
    obtain ⟨ib, hsb⟩ := late_isB ok hla
    have rb := rngZ_mem.mp (filter_last (rngZ_lt _ _) hla).1
    have ra := rngZ_mem.mp (filter_head (rngZ_lt _ _) ho).1
    unfold lo_ hi_ at ra rb
    have o1 : L2.atI ((odd_ p).map D.int) 0 = some (.int a) := by rw [ho]; exact atI_head _ _
    have o2 : L2.atI ((late_ p).map D.int) (-1) = some (.int b) := by rw [hla, List.map_append]; exact atI_last _ _
    have tst : (if decide (short p.l = short p.r) = true then some (decide ((((odd_ p).map D.int).length : Int) = 0), T) else some (false, T)) = some (false, T) := by
      by_cases h1 : short p.l = short p.r
      · rw [if_pos (decide_eq_true h1), show decide ((((odd_ p).map D.int).length : Int) = 0) = false from by rw [ho]; exact decide_eq_false (by rw [List.length_map, List.length_cons]; omega)]
      · rw [if_neg (by rw [decide_eq_false h1]; decide)]
    by_cases hc : b + 1 ≤ a
    · refine ⟨wr1 p (b + 1), wr1_canon ok ia ib hc, wr1_mem ok ia ib hc, ⟨sl, sr, by show (0 : Nat) ≤ _; omega, by show _ ≤ b + 1; omega, by show b + 1 ≤ _; omega⟩, ?_⟩
      have h3 : decide (b + 1 ≤ a) = true := decide_eq_true hc
      clear hc h ho hla kl kr sz ia ib
      walk_at "fy"
      rfl
    · have hlen : ((rngZ a (b + 1)).map p.mem).length = (b + 1 - a).toNat := by rw [List.length_map, rngZ_len]
      refine ⟨wr2 p a (b + 1), wr2_canon ok ia ib (by omega), wr2_mem ok ia ib (by omega), ⟨sl, sr, by show ((rngZ a (b + 1)).map p.mem).length ≤ _; rw [hlen]; omega, by show _ ≤ a; omega, by show a ≤ _; omega⟩, ?_⟩
      have h3 : decide (b + 1 ≤ a) = false := decide_eq_false hc
      have i1 : in62 a = true := in62_of (by omega) (by omega)
      have i2 : in62 (b + 1) = true := in62_of (by omega) (by omega)
      have k9 : compL (.nm 9) yesT (callF h__law_in (consF (varF 0) (consF (varF 9) (nilF)))) [.dat (eP p), .dat (eB (short p.l)), .dat (eB (short p.r)), .dat (.int (((short p.l).length * (short p.r).length : Nat) : Int)), .dat (.lst (rngL (lo_ p) (hi_ p))), .dat (.lst ((odd_ p).map D.int)), .dat (.lst ((late_ p).map D.int)), .dat (.int a), .dat (.int (b + 1)), .un] (rngL a (b + 1)) [] T = some ((rngL a (b + 1)).map fun d => match d with | .int y => .bl (p.mem y) | _ => .non, T) := by
        rw [compL_pure (p := fun _ => true) (g := fun d => match d with | .int y => .bl (p.mem y) | _ => .non) (rngL a (b + 1)) (fun d hd => ?_) [] (by rw [rngL_len, line_eq, List.length_nil]; omega), List.filter_eq_self.mpr fun _ _ => rfl]
        · rfl
        · obtain ⟨y, rfl, _, _⟩ := rngL_mem hd
          refine ⟨_, rfl, rfl, fun _ => ?_⟩
          have e1 := in_run p ok.l ok.r y T
          clear hc h ho hla kl kr sz ia ib tst
          walk_at "fy"
      clear hc h ho hla kl kr sz ia ib
      walk_at "fy"
      rw [rngL_map, List.map_map]
      show some (D.tup [eB _, .int a, .tup _, eB _], T) = _
      unfold wr2 eP
      congr 6
      unfold eB
      rw [List.map_map]
      rfl
end LC
namespace LC
open Fx PM
local macro_rules | `(tactic| walk_at "fy") => `(tactic| simp only [runB, seqS, nilS, asgF, retF, ifS, testF, binF, varF, varO, constF, ofF, ixF, lenF, bindF_some, blF, consF, nilF, intD_int, iiF_int, ctt_eq, addD_int, mulD_int, callF, tofF, frzF, tupF, negF, andT, rng2, lrgF, compF, seqD_lst, seqD_tup, ixD_lst, ixD_tup, lenD_lst, lenD_tup, lenD_eB, eqD_int, itU, eP_0, eP_1, eP_2, eP_3, eqD_eB,
  List.map_cons, List.map_nil, List.cons_append, List.nil_append, List.length_cons, List.length_nil, List.replicate_succ, List.replicate_zero, List.getElem?_cons_zero, List.getElem?_cons_succ, List.set_cons_zero, List.set_cons_succ, Option.map_some, if_true, Nat.reduceAdd, Nat.reduceSub,
  Bool.false_eq_true, if_false, Bool.and_self, wipeR, *])
/-- the law's state over a script -/
def St (ns : List Int) (T : Fx.Tm) : Prop := ∃ a b c, 0 ≤ b ∧ T = eS ns a b c
theorem draw_st {ns : List Int} {T : Fx.Tm} (h : St ns T) {n : Int} (h0 : 0 < n) (h1 : n < 1073741824) : ∃ d T', 0 ≤ d ∧ d < n ∧ St ns T' ∧ h__law_draw [.ob 0, .int n] T = some (.int d, T') := by
  obtain ⟨a, b, c, hb, rfl⟩ := h
  obtain ⟨d, a', b', c', h2, h3, h4, h5⟩ := draw_run ns a b c n hb h0 h1
  exact ⟨d, _, h2, h3, ⟨a', b', c', h4, rfl⟩, h5⟩
theorem row_st {ns : List Int} {T : Fx.Tm} (h : St ns T) {lo hi : Int} (h0 : 0 ≤ lo) (h1 : lo ≤ hi) (h2 : hi ≤ 1000) : ∃ bs T', lo ≤ bs.length ∧ (bs.length : Int) ≤ hi ∧ St ns T' ∧ h__law_row [.ob 0, .int lo, .int hi] T = some (eB bs, T') := by
  obtain ⟨a, b, c, hb, rfl⟩ := h
  obtain ⟨bs, a', b', c', h3, h4, h5, h6⟩ := row_run ns a b c lo hi hb h0 h1 h2
  exact ⟨bs, _, h3, h4, ⟨a', b', c', h5, rfl⟩, h6⟩
/-- a pattern as it is drawn -/
structure Raw (p : Pat) : Prop where
  ok : p.Ok
  l : p.l.length ≤ 6
  r : p.r.length ≤ 6
  m : p.m.length ≤ 6
  s : -10 ≤ p.s
  s' : p.s ≤ 10
theorem Raw.bd {p : Pat} (h : Raw p) : Bd p.mem := by
  have := h.s
  have := h.s'
  have := h.m
  exact Bd.of h.ok h.l h.r (by omega) (by omega)
theorem Raw.sz {p : Pat} (h : Raw p) : PSz p 10 := by
  have := h.s
  have := h.s'
  have := h.m
  have := h.l
  have := h.r
  exact ⟨by omega, by omega, by omega, by omega, by omega⟩
noncomputable def rawF (i : Nat) : FE := tupF (consF (callF h__law_row (consF (varF i) (consF (constF (.int 1)) (consF (constF (.int 6)) (nilF))))) (consF (binF subD (callF h__law_draw (consF (varF i) (consF (constF (.int 21)) (nilF)))) (constF (.int 10))) (consF (callF h__law_row (consF (varF i) (consF (constF (.int 0)) (consF (constF (.int 6)) (nilF))))) (consF (callF h__law_row (consF (varF i) (consF (constF (.int 1)) (consF (constF (.int 6)) (nilF))))) (nilF)))))
theorem raw_run {ns : List Int} {T : Fx.Tm} (h : St ns T) {i : Nat} {ρ : Rho} (hi : ρ[i]? = some (.dat (.ob 0))) : ∃ p T', Raw p ∧ St ns T' ∧ rawF i ρ T = some (eP p, T') := by
  obtain ⟨b1, T1, x1, y1, s1, e1⟩ := row_st h (lo := 1) (hi := 6) (by omega) (by omega) (by omega)
  obtain ⟨d, T2, x2, y2, s2, e2⟩ := draw_st s1 (n := 21) (by omega) (by omega)
  obtain ⟨b3, T3, x3, y3, s3, e3⟩ := row_st s2 (lo := 0) (hi := 6) (by omega) (by omega) (by omega)
  obtain ⟨b4, T4, x4, y4, s4, e4⟩ := row_st s3 (lo := 1) (hi := 6) (by omega) (by omega) (by omega)
  refine ⟨⟨b1, d - 10, b3, b4⟩, T4, ⟨⟨List.ne_nil_of_length_pos (by show 0 < b1.length; omega), List.ne_nil_of_length_pos (by show 0 < b4.length; omega)⟩, by show b1.length ≤ 6; omega, by show b4.length ≤ 6; omega, by show b3.length ≤ 6; omega, by show _ ≤ d - 10; omega, by show d - 10 ≤ _; omega⟩, s4, ?_⟩
  unfold rawF
  have l4 := len4
  clear x1 y1 x2 y2 x3 y3 x4 y4 s1 s2 s3 s4 h
  walk_at "fy"
  rfl
theorem pattern_run {ns : List Int} {T : Fx.Tm} (h : St ns T) : ∃ q p T', Raw q ∧ Canon p ∧ p.mem = q.mem ∧ PSz p 4000000 ∧ St ns T' ∧ h__law_pattern [.ob 0] T = some (eP p, T') := by
  obtain ⟨q, T1, hq, s1, e1⟩ := raw_run h (i := 0) (ρ := [.dat (.ob 0)]) rfl
  obtain ⟨p, c, m, sz, e2⟩ := written_run q hq.ok hq.sz (by omega) T1
  refine ⟨q, p, T1, hq, c, m, ⟨sz.l, sz.r, sz.m, by have := sz.s; omega, by have := sz.s'; omega⟩, s1, ?_⟩
  unfold h__law_pattern
  show runB (retF (ofF (callF h__law_written (consF (rawF 0) (nilF))))) 1 _ _ = _
  simp only [runB, List.map_cons, List.map_nil, List.cons_append, List.nil_append, List.length_cons, List.length_nil, List.replicate_succ, List.replicate_zero, Nat.reduceAdd, Nat.reduceSub, retF, ofF, callF, consF, nilF, bindF_some, e1, e2]
/-- the state at the law's start -/
theorem st_start (ns : List Int) : St ns [.lst [.int 0, .int 0, .lst (ns.map D.int), .int 1]] := ⟨0, 0, 1, by omega, rfl⟩
/-- an option as data -/
def eO : Option Int → D
  | none => .non
  | some z => .int z
theorem shp (x : PySem.PyData) (h : x = .none ∨ (∃ i, x = .int i) ∨ (∃ b, x = .bool b)) : PySem.SeqAt.shaped x = true := by
  rcases h with rfl | ⟨i, rfl⟩ | ⟨b, rfl⟩ <;> simp [PySem.SeqAt.shaped, PySem.PyData.canLay0, PySem.PyData.depth]
def pO : Option Int → PySem.PyData
  | none => .none
  | some z => .int z
theorem toPy_eO (o : Option Int) : toPy (eO o) = some (pO o) := by cases o <;> simp [eO, pO, toPy]
theorem shp_pO (o : Option Int) : PySem.SeqAt.shaped (pO o) = true := shp _ (by cases o <;> simp [pO])
theorem eqB_eO (a b : Option Int) : eqB (eO a) (eO b) = some (decide (a = b)) := by
  unfold eqB
  rw [toPy_eO, toPy_eO]
  simp only [shp_pO, Bool.and_self, if_true]
  congr 1
  cases a with
  | none => cases b <;> simp [pO, PySem.PyData.eqv]
  | some a =>
    cases b with
    | none => simp [pO, PySem.PyData.eqv]
    | some b => by_cases h : a = b <;> simp [pO, PySem.PyData.eqv, h]
theorem neD_eO (a b : Option Int) : neD (eO a) (eO b) = some (.bl (!decide (a = b))) := by
  unfold neD
  rw [eqB_eO]
  rfl
theorem eqD_eO (a b : Option Int) : eqD (eO a) (eO b) = some (.bl (decide (a = b))) := by
  unfold eqD
  rw [eqB_eO]
  rfl
theorem seqS_nx {a b : FS} {ρ ρ' : Rho} {T T' : Fx.Tm} (h : a ρ T = some (.nx ρ', T')) : seqS a b ρ T = b ρ' T' := by unfold seqS; rw [h]
theorem seqS_rt {a b : FS} {ρ : Rho} {d : D} {T T' : Fx.Tm} (h : a ρ T = some (.rt d, T')) : seqS a b ρ T = some (.rt d, T') := by unfold seqS; rw [h]
theorem seq3 {a b c : FS} {ρ ρ' : Rho} {T T' : Fx.Tm} (h : seqS a b ρ T = some (.nx ρ', T')) : seqS a (seqS b c) ρ T = c ρ' T' := by
  unfold seqS at h ⊢
  cases e : a ρ T with
  | none => rw [e] at h; cases h
  | some q =>
    obtain ⟨r, T1⟩ := q
    rw [e] at h
    cases r with
    | nx ρ1 => simp only at h ⊢; rw [h]
    | rt d => cases h
    | bk d => cases h
    | ct d => cases h
/-- a loop over a range that goes on, with its number -/
theorem forL_rngI {t : Tgt} {body : FS} {inv : Int → Rho → Fx.Tm → Prop} {j : Int} : ∀ (n : Nat) (i : Int), (j - i).toNat = n →
    (∀ k ρ T, i ≤ k → k < j → inv k ρ T → ∃ ρ1 ρ2 T2, tgD t (.int k) ρ = some ρ1 ∧ body ρ1 T = some (.nx ρ2, T2) ∧ inv (k + 1) ρ2 T2) → ∀ ρ T, inv i ρ T →
    ∃ ρ' T', inv (if i ≤ j then j else i) ρ' T' ∧ forL t body (rngL i j) ρ T = some (.nx ρ', T')
  | 0, i, hn, step, ρ, T, h => by
    rw [rngL_nil (by omega)]
    refine ⟨ρ, T, ?_, rfl⟩
    by_cases c : i ≤ j
    · rw [if_pos c, show j = i by omega]
      exact h
    · rw [if_neg c]
      exact h
  | n + 1, i, hn, step, ρ, T, h => by
    rw [rngL_cons (by omega)]
    obtain ⟨ρ1, ρ2, T2, h1, h2, h3⟩ := step i ρ T (by omega) (by omega) h
    obtain ⟨ρ', T', h4, h5⟩ := forL_rngI n (i + 1) (by omega) (fun k ρ T a b => step k ρ T (by omega) b) ρ2 T2 h3
    refine ⟨ρ', T', ?_, ?_⟩
    · rw [if_pos (by omega)] at h4 ⊢
      exact h4
    · unfold forL
      simp only [h1, h2]
      exact h5
end LC
namespace LC
open PySem PySem.Spec PyProof.Rows L2 Fx
noncomputable def g_prime_divisors : FS := seqS (ownF 1 (lstF (nilF)))
      (seqS (asgF 2 (constF (.int 2)))
      (seqS (whS (testF (binF leD (binF mulD (varF 2) (varF 2)) (varF 0))) (seqS (ifS (testF (binF eqD (binF modD (varF 0) (varF 2)) (constF (.int 0)))) (seqS (appF 1 (varF 2))
      (whS (testF (binF eqD (binF modD (varF 0) (varF 2)) (constF (.int 0)))) (augF 0 dvpD (varF 2)))) (nilS))
      (augF 2 addiD (constF (.int 1)))))
      (seqS (ifS (testF (binF gtD (varF 0) (constF (.int 1)))) (appF 1 (varF 0)) (nilS))
      (retF (varO 1)))))
@[irreducible] noncomputable def h_prime_divisors : HF := runB g_prime_divisors 3
noncomputable def g_stretched : FS := seqS (whS (testF (binF ltD (varF 1) (varF 2))) (seqS (augF 0 orD (binF shwD (varF 0) (varF 1)))
      (augF 1 muliD (constF (.int 2)))))
      (retF (ofF (binF andD (varF 0) (binF subD (binF shwD (constF (.int 1)) (varF 2)) (constF (.int 1))))))
@[irreducible] noncomputable def h_stretched : HF := runB g_stretched 3
noncomputable def g_shortest : FS := seqS (forS (.nm 2) (itU (callF h_prime_divisors (consF (varF 1) (nilF)))) (whS (testF (binF eqD (binF modD (varF 1) (varF 2)) (constF (.int 0)))) (seqS (asgF 3 (binF divD (varF 1) (varF 2)))
      (seqS (ifS (testF (binF neD (callF h_stretched (consF (binF andD (varF 0) (binF subD (binF shwD (constF (.int 1)) (varF 3)) (constF (.int 1)))) (consF (varF 3) (consF (varF 1) (nilF))))) (varF 0))) (brkS) (nilS))
      (seqS (asgF 1 (varF 3))
      (augF 0 andD (binF subD (binF shwD (constF (.int 1)) (varF 3)) (constF (.int 1)))))))))
      (retF (ofF (tupF (consF (varF 0) (consF (varF 1) (nilF))))))
@[irreducible] noncomputable def h_shortest : HF := runB g_shortest 4
noncomputable def g_compared : FS := seqS (ifS (orT (testF (binF isF (varF 1) (constF .non))) (testF (binF isF (varF 2) (constF .non)))) (retF (varO 0)) (nilS))
      (retF (ofF (blF minD (consF (varF 0) (consF (binF subD (varF 2) (varF 1)) (nilF))))))
@[irreducible] noncomputable def h_compared : HF := runB g_compared 3
noncomputable def g_window : FS := seqS (asgF 4 (binF modD (varF 2) (varF 1)))
      (seqS (asgF 5 (binF orD (binF shrD (varF 0) (varF 4)) (binF shwD (binF andD (varF 0) (binF subD (binF shwD (constF (.int 1)) (varF 4)) (constF (.int 1)))) (binF subD (varF 1) (varF 4)))))
      (retF (ofF (callF h_stretched (consF (varF 5) (consF (varF 1) (consF (varF 3) (nilF))))))))
@[irreducible] noncomputable def h_window : HF := runB g_window 6
noncomputable def g_first_difference : FS := seqS (asgF 3 (ixF (ofF (ixF (varO 0) (constF (.int 0)))) (constF (.int 0))))
      (seqS (forS (.tp [4, 5, 6]) (itU (slF (varO 0) (bSo (constF (.int 1))) (bNo))) (seqS (asgF 7 (callF h_compared (consF (binF addD (varF 6) (varF 2)) (consF (varF 3) (consF (varF 4) (nilF))))))
      (seqS (asgF 8 (binF xorD (callF h_window (consF (varF 5) (consF (varF 6) (consF (varF 3) (consF (varF 7) (nilF)))))) (callF h_window (consF (varF 1) (consF (varF 2) (consF (varF 3) (consF (varF 7) (nilF))))))))
      (seqS (ifS (testF (binF neD (varF 8) (constF (.int 0)))) (retF (ofF (binF subD (binF addD (varF 3) (bitsF (binF andD (varF 8) (negF (varF 8))))) (constF (.int 1))))) (nilS))
      (asgF 3 (varF 4))))))
      (retF (ofF (constF .non))))
@[irreducible] noncomputable def h_first_difference : HF := runB g_first_difference 9
noncomputable def g_row_of : FS := seqS (asgF 2 (m1F zfillD (fmtBF (varF 0)) (varF 1)))
      (retF (ofF (tofF (ofF (frzF (compF (.nm 3) (itU2 (bk2F (varO 2))) (yesT) (binF eqD (varF 3) (constF (.str (Str.ofString "1")))) [3]))))))
@[irreducible] noncomputable def h_row_of : HF := runB g_row_of 4
noncomputable def g_last_difference : FS := seqS (forS (.nm 3) (rng3 (consF (binF subD (lenF (varO 0)) (constF (.int 2))) (consF (negF (constF (.int 1))) (consF (negF (constF (.int 1))) (nilF))))) (seqS (unpF (.tp [7, 8, 9]) (ixF (varO 0) (varF 3)))
      (seqS (asgF 4 (callF h_compared (consF (binF addD (varF 9) (varF 2)) (consF (ifE (testF (binF gtD (varF 3) (constF (.int 0)))) (ixF (ofF (ixF (varO 0) (binF subD (varF 3) (constF (.int 1))))) (constF (.int 0))) (constF .non)) (consF (varF 7) (nilF))))))
      (seqS (asgF 5 (binF subD (varF 7) (varF 4)))
      (seqS (asgF 6 (binF xorD (callF h_window (consF (varF 8) (consF (varF 9) (consF (varF 5) (consF (varF 4) (nilF)))))) (callF h_window (consF (varF 1) (consF (varF 2) (consF (varF 5) (consF (varF 4) (nilF))))))))
      (ifS (testF (binF neD (varF 6) (constF (.int 0)))) (retF (ofF (binF subD (binF addD (varF 5) (bitsF (varF 6))) (constF (.int 1))))) (nilS)))))))
      (retF (ofF (constF .non)))
@[irreducible] noncomputable def h_last_difference : HF := runB g_last_difference 10
noncomputable def g_middle_of : FS := seqS (ifS (testF (binF gtD (binF subD (varF 2) (varF 1)) (constF (.int 1000000)))) (neverS) (nilS))
      (seqS (ownF 3 (lstF (nilF)))
      (seqS (asgF 4 (varF 1))
      (seqS (forS (.tp [5, 6, 7]) (itU (varF 0)) (seqS (asgF 8 (ifE (orT (testF (binF isF (varF 5) (constF .non))) (testF (binF gtD (varF 5) (varF 2)))) (varF 2) (varF 5)))
      (ifS (testF (binF gtD (varF 8) (varF 4))) (seqS (appF 3 (m1F zfillD (fmtBF (callF h_window (consF (varF 6) (consF (varF 7) (consF (varF 4) (consF (binF subD (varF 8) (varF 4)) (nilF))))))) (binF subD (varF 8) (varF 4))))
      (asgF 4 (varF 8))) (nilS))))
      (retF (ofF (blF int2D (consF (m1F joinD (constF (.str (Str.ofString ""))) (bk2F (varO 3))) (consF (constF (.int 2)) (nilF)))))))))
@[irreducible] noncomputable def h_middle_of : HF := runB g_middle_of 9
noncomputable def g_written : FS := seqS (unpF (.tp [4, 5, 6]) (ixF (varO 0) (constF (.int 0))))
      (seqS (unpF (.tp [7, 8]) (callF h_shortest (consF (varF 5) (consF (varF 6) (nilF)))))
      (seqS (unpF (.tp [4, 5, 6]) (ixF (varO 0) (negF (constF (.int 1)))))
      (seqS (unpF (.tp [9, 10]) (callF h_shortest (consF (varF 5) (consF (varF 6) (nilF)))))
      (seqS (asgF 1 (callF h_first_difference (consF (varF 0) (consF (varF 7) (consF (varF 8) (nilF))))))
      (seqS (ifS (testF (binF isF (varF 1) (constF .non))) (seqS (asgF 11 (callF h_row_of (consF (varF 7) (consF (varF 8) (nilF)))))
      (retF (ofF (tupF (consF (varF 11) (consF (constF (.int 0)) (consF (tupF (nilF)) (consF (varF 11) (nilF))))))))) (nilS))
      (seqS (asgF 2 (binF addD (callF h_last_difference (consF (varF 0) (consF (varF 9) (consF (varF 10) (nilF))))) (constF (.int 1))))
      (seqS (asgF 3 (ifE (testF (binF ltD (varF 1) (varF 2))) (callF h_row_of (consF (callF h_middle_of (consF (varF 0) (consF (varF 1) (consF (varF 2) (nilF))))) (consF (binF subD (varF 2) (varF 1)) (nilF)))) (tupF (nilF))))
      (retF (ofF (tupF (consF (callF h_row_of (consF (varF 7) (consF (varF 8) (nilF)))) (consF (blF minD (consF (varF 1) (consF (varF 2) (nilF)))) (consF (varF 3) (consF (callF h_row_of (consF (varF 9) (consF (varF 10) (nilF)))) (nilF)))))))))))))))
@[irreducible] noncomputable def h_written : HF := runB g_written 12
noncomputable def g_bits_of : FS := retF (ofF (blF int2D (consF (m1F joinD (constF (.str (Str.ofString ""))) (frzF (compF (.nm 1) (itU2 (bk2F (varO 0))) (yesT) (ifE (testF (varF 1)) (constF (.str (Str.ofString "1"))) (constF (.str (Str.ofString "0")))) [1]))) (consF (constF (.int 2)) (nilF)))))
@[irreducible] noncomputable def h_bits_of : HF := runB g_bits_of 2
noncomputable def g_anchored : FS := retF (ofF (callF h_window (consF (varF 0) (consF (varF 2) (consF (negF (varF 1)) (consF (varF 2) (nilF)))))))
@[irreducible] noncomputable def h_anchored : HF := runB g_anchored 3
noncomputable def g_pieces_of : FS := seqS (unpF (.tp [2, 3, 4, 5]) (varF 0))
      (seqS (ownF 1 (lstF (consF (tupF (consF (varF 3) (consF (callF h_bits_of (consF (varF 2) (nilF))) (consF (lenF (varO 2)) (nilF))))) (nilF))))
      (seqS (ifS (testF (binF gtD (lenF (varO 4)) (constF (.int 0)))) (appF 1 (tupF (consF (binF addD (varF 3) (lenF (varO 4))) (consF (callF h_anchored (consF (callF h_bits_of (consF (varF 4) (nilF))) (consF (varF 3) (consF (lenF (varO 4)) (nilF))))) (consF (lenF (varO 4)) (nilF)))))) (nilS))
      (seqS (appF 1 (tupF (consF (constF .non) (consF (callF h_bits_of (consF (varF 5) (nilF))) (consF (lenF (varO 5)) (nilF))))))
      (retF (varO 1)))))
@[irreducible] noncomputable def h_pieces_of : HF := runB g_pieces_of 6
end LC
namespace PM
/-! ### bits -/
def vB : List Bool → Nat
  | [] => 0
  | b :: l => b.toNat + 2 * vB l
theorem vB_bit : ∀ (l : List Bool) (i : Nat), (vB l).testBit i = l.getD i false
  | [], i => by simp [vB]
  | b :: l, 0 => by
    unfold vB
    rw [Nat.testBit_zero]
    cases b <;> simp <;> omega
  | b :: l, i + 1 => by
    unfold vB
    rw [Nat.testBit_succ, show (b.toNat + 2 * vB l) / 2 = vB l by cases b <;> simp <;> omega, vB_bit l i]
    rfl
theorem vB_lt : ∀ l : List Bool, vB l < 2 ^ l.length
  | [] => by decide
  | b :: l => by
    have := vB_lt l
    unfold vB
    rw [List.length_cons, Nat.pow_succ]
    cases b <;> simp <;> omega
theorem vB_inj : ∀ {a b : List Bool}, a.length = b.length → vB a = vB b → a = b := fun {a b} h e => by
  apply List.ext_getElem h
  intro i h1 h2
  have := vB_bit a i
  rw [e, vB_bit b i, List.getD_eq_getElem?_getD, List.getD_eq_getElem?_getD, List.getElem?_eq_getElem h1, List.getElem?_eq_getElem h2] at this
  exact this.symm
theorem vB_append : ∀ a b : List Bool, vB (a ++ b) = vB a + vB b * 2 ^ a.length
  | [], b => by simp [vB]
  | x :: a, b => by
    show x.toNat + 2 * vB (a ++ b) = x.toNat + 2 * vB a + vB b * 2 ^ (a.length + 1)
    rw [vB_append a b, Nat.pow_succ, Nat.mul_add, ← Nat.mul_assoc (vB b), Nat.mul_comm _ 2, Nat.add_assoc]
theorem vB_take (l : List Bool) (n : Nat) : vB l % 2 ^ n = vB (l.take n) := by
  apply Nat.eq_of_testBit_eq
  intro i
  rw [Nat.testBit_mod_two_pow, vB_bit, vB_bit]
  by_cases h : i < n
  · rw [decide_eq_true h, Bool.true_and]
    simp only [List.getD_eq_getElem?_getD, List.getElem?_take, h, if_true]
  · rw [decide_eq_false h, Bool.false_and]
    simp only [List.getD_eq_getElem?_getD, List.getElem?_take, h, if_false]
    rfl
theorem vB_drop (l : List Bool) (n : Nat) : vB l / 2 ^ n = vB (l.drop n) := by
  apply Nat.eq_of_testBit_eq
  intro i
  rw [Nat.testBit_div_two_pow, vB_bit, vB_bit]
  simp only [List.getD_eq_getElem?_getD, List.getElem?_drop]
  rw [Nat.add_comm]
def xorL (a b : List Bool) : List Bool := List.zipWith (fun x y => x ^^ y) a b
theorem vB_xor {a b : List Bool} (h : a.length = b.length) : vB a ^^^ vB b = vB (xorL a b) := by
  apply Nat.eq_of_testBit_eq
  intro i
  rw [Nat.testBit_xor, vB_bit, vB_bit, vB_bit]
  unfold xorL
  simp only [List.getD_eq_getElem?_getD, List.getElem?_zipWith]
  by_cases hi : i < a.length
  · rw [List.getElem?_eq_getElem hi, List.getElem?_eq_getElem (by omega)]
    rfl
  · rw [List.getElem?_eq_none (by omega), List.getElem?_eq_none (by omega)]
    rfl
theorem xorL_len {a b : List Bool} (h : a.length = b.length) : (xorL a b).length = a.length := by
  unfold xorL
  rw [List.length_zipWith]
  omega
theorem vB_zero : ∀ {l : List Bool}, vB l = 0 ↔ ∀ x ∈ l, x = false
  | [] => by simp [vB]
  | b :: l => by
    unfold vB
    have := @vB_zero l
    constructor
    · intro h x hx
      have h2 : vB l = 0 := by omega
      rcases List.mem_cons.mp hx with e | e
      · subst e
        cases x with
        | false => rfl
        | true => simp at h
      · exact this.mp h2 x e
    · intro h
      rw [this.mpr fun x hx => h x (List.mem_cons_of_mem _ hx), h b (List.mem_cons_self ..)]
      rfl
/-! ### windows -/
def win (f : Int → Bool) (a : Int) (n : Nat) : List Bool := (List.range n).map fun (k : Nat) => f (a + (k : Int))
theorem win_len (f : Int → Bool) (a : Int) (n : Nat) : (win f a n).length = n := by unfold win; rw [List.length_map, List.length_range]
theorem win_get {f : Int → Bool} {a : Int} {n k : Nat} (h : k < n) : (win f a n)[k]? = some (f (a + (k : Int))) := by
  unfold win
  rw [List.getElem?_map, List.getElem?_range h]
  rfl
theorem win_eq {l : List Bool} {f : Int → Bool} {a : Int} {n : Nat} (hl : l.length = n) (h : ∀ k, k < n → l[k]? = some (f (a + (k : Int)))) : l = win f a n := by
  apply List.ext_getElem?
  intro k
  by_cases hk : k < n
  · rw [h k hk, win_get hk]
  · rw [List.getElem?_eq_none (by omega), List.getElem?_eq_none (by rw [win_len]; omega)]
theorem win_self {l : List Bool} : win (at_ l) 0 l.length = l := by
  refine (win_eq rfl fun k hk => ?_).symm
  rw [Int.zero_add]
  exact at_nat hk
theorem win_take {f : Int → Bool} {a : Int} {n k : Nat} (h : k ≤ n) : (win f a n).take k = win f a k := by
  refine win_eq (by rw [List.length_take, win_len]; omega) fun j hj => ?_
  rw [List.getElem?_take_of_lt hj, win_get (by omega)]
theorem win_add (f : Int → Bool) (a : Int) (n m : Nat) : win f a n ++ win f (a + (n : Int)) m = win f a (n + m) := by
  refine win_eq (by rw [List.length_append, win_len, win_len]) fun j hj => ?_
  by_cases h : j < n
  · rw [List.getElem?_append_left (by rw [win_len]; exact h), win_get h]
  · rw [List.getElem?_append_right (by rw [win_len]; omega), win_len, win_get (by omega)]
    congr 2
    omega
theorem win_per {f : Int → Bool} {p : Int} (h : Per f p) (a : Int) (n : Nat) : win f (a + p) n = win f a n := by
  refine win_eq (win_len _ _ _) fun j hj => ?_
  rw [win_get hj, show a + p + (j : Int) = a + j + p by omega, h]
theorem win_ext {f g : Int → Bool} {a : Int} {n : Nat} (h : ∀ w, a ≤ w → w < a + n → f w = g w) : win f a n = win g a n :=
  win_eq (win_len _ _ _) fun j hj => by rw [win_get hj, h _ (by omega) (by omega)]
theorem win_inj {f g : Int → Bool} {a : Int} {n : Nat} (h : win f a n = win g a n) (w : Int) (h1 : a ≤ w) (h2 : w < a + n) : f w = g w := by
  have e : (win f a n)[(w - a).toNat]? = (win g a n)[(w - a).toNat]? := by rw [h]
  rw [win_get (by omega), win_get (by omega), show a + (((w - a).toNat : Nat) : Int) = w by omega] at e
  exact Option.some.inj e
/-- the row from a on -/
def rot (l : List Bool) (s : Nat) : List Bool := l.drop s ++ l.take s
theorem rot_win {l : List Bool} {s : Nat} (h : s ≤ l.length) : rot l s = win (at_ l) s l.length := by
  unfold rot
  refine win_eq (by rw [List.length_append, List.length_drop, List.length_take]; omega) fun k hk => ?_
  by_cases h1 : s + k < l.length
  · rw [List.getElem?_append_left (by rw [List.length_drop]; omega), List.getElem?_drop, at_nat h1]
    congr 2
  · rw [List.getElem?_append_right (by rw [List.length_drop]; omega), List.length_drop, List.getElem?_take_of_lt (by omega), at_nat (by omega)]
    congr 1
    have := (at_per (l := l)) ((k - (l.length - s) : Nat) : Int)
    rw [← this]
    congr 1
    omega
/-- strips that are alike on as many numbers as their widths together are alike -/
theorem fine {f g : Int → Bool} {p q : Nat} (hp : 0 < p) (hq : 0 < q) (hf : Per f p) (hg : Per g q) (a : Int) (h : ∀ w, a ≤ w → w < a + (p + q : Nat) → f w = g w) : f = g := by
  have fq : Per f q := by
    have : (fun y => f (y + q)) = f := Per.window (n := (p : Int)) (by omega) (fun y => by
      show f (y + p + q) = f (y + q)
      rw [show y + p + q = (y + q) + p by omega, hf]) hf a fun w h1 h2 => by
        show f (w + q) = f w
        rw [h (w + q) (by omega) (by omega), hg, h w h1 (by omega)]
    exact fun y => congrFun this y
  exact Per.window (n := (q : Int)) (by omega) fq hg a fun w h1 h2 => h w h1 (by omega)
end PM
namespace PM
/-! ### divisors -/
def PD (n : Nat) (ps : List Nat) : Prop := (∀ p ∈ ps, 2 ≤ p ∧ p ≤ n) ∧ ∀ m, 2 ≤ m → m ∣ n → ∃ p ∈ ps, p ∣ m
/-- x has no divisor from 2 to below d -/
def NoD (x d : Nat) : Prop := ∀ j, 2 ≤ j → j < d → ¬ j ∣ x
theorem NoD.dvd {x y d : Nat} (h : NoD x d) (e : y ∣ x) : NoD y d := fun j h1 h2 h3 => h j h1 h2 (Nat.dvd_trans h3 e)
theorem NoD.cop {x d m : Nat} (h : NoD x d) (h2 : 2 ≤ d) (hd : d ∣ x) (hm : ¬ d ∣ m) : Nat.Coprime d m := by
  have g1 : Nat.gcd d m ∣ d := Nat.gcd_dvd_left _ _
  have g2 : Nat.gcd d m ∣ m := Nat.gcd_dvd_right _ _
  have gp : 0 < Nat.gcd d m := Nat.gcd_pos_of_pos_left _ (by omega)
  by_cases c : Nat.gcd d m = 1
  · exact c
  · have gl := Nat.le_of_dvd (by omega) g1
    by_cases e : Nat.gcd d m = d
    · exact absurd (e ▸ g2) hm
    · exact absurd (Nat.dvd_trans g1 hd) (h _ (by omega) (by omega))
structure Tri (n x : Nat) (ps : List Nat) (d : Nat) : Prop where
  x1 : 1 ≤ x
  xn : x ≤ n
  d2 : 2 ≤ d
  len : ps.length + 2 ≤ d
  big : ∀ p ∈ ps, 2 ≤ p ∧ p ≤ n
  no : NoD x d
  all : ∀ m, 2 ≤ m → m ∣ n → (∃ p ∈ ps, p ∣ m) ∨ m ∣ x
theorem Tri.start {n : Nat} (h : 1 ≤ n) : Tri n n [] 2 := ⟨h, Nat.le_refl _, Nat.le_refl _, Nat.le_refl _, fun p h => by (cases h), fun j a b => by omega, fun m _ h => .inr h⟩
theorem Tri.skip {n x : Nat} {ps : List Nat} {d : Nat} (h : Tri n x ps d) (hd : ¬ d ∣ x) : Tri n x ps (d + 1) := ⟨h.x1, h.xn, by have := h.d2; omega, by have := h.len; omega, h.big, fun j a b c => by
  by_cases e : j = d
  · exact hd (e ▸ c)
  · exact h.no j a (by omega) c, h.all⟩
/-- what is left of x without its factors d -/
structure Left (x d y : Nat) : Prop where
  y1 : 1 ≤ y
  dv : y ∣ x
  no : ¬ d ∣ y
  all : ∀ m, m ∣ x → ¬ d ∣ m → m ∣ y
theorem Left.self {x d : Nat} (h : 1 ≤ x) (hd : ¬ d ∣ x) : Left x d x := ⟨h, Nat.dvd_refl _, hd, fun m h _ => h⟩
theorem Left.step {x d y : Nat} (no : NoD x d) (h2 : 2 ≤ d) (hd : d ∣ x) (h : Left (x / d) d y) : Left x d y := ⟨h.y1, Nat.dvd_trans h.dv (Nat.div_dvd_of_dvd hd), h.no, fun m h1 h3 => by
  refine h.all m ?_ h3
  have e : d * (x / d) = x := Nat.mul_div_cancel' hd
  rw [← e] at h1
  exact Nat.Coprime.dvd_of_dvd_mul_left (no.cop h2 hd h3).symm h1⟩
theorem Tri.take {n x : Nat} {ps : List Nat} {d y : Nat} (h : Tri n x ps d) (hd : d ∣ x) (l : Left x d y) : Tri n y (ps ++ [d]) (d + 1) where
  x1 := l.y1
  xn := Nat.le_trans (Nat.le_of_dvd (by have := h.x1; omega) l.dv) h.xn
  d2 := by have := h.d2; omega
  len := by rw [List.length_append]; have := h.len; simp; omega
  big := fun p hp => by
    rcases List.mem_append.mp hp with q | q
    · exact h.big p q
    · rw [List.mem_singleton.mp q]
      exact ⟨h.d2, Nat.le_trans (Nat.le_of_dvd (by have := h.x1; omega) hd) h.xn⟩
  no := fun j a b c => by
    by_cases e : j = d
    · exact l.no (e ▸ c)
    · exact h.no j a (by omega) (Nat.dvd_trans c l.dv)
  all := fun m h1 h2 => by
    rcases h.all m h1 h2 with ⟨p, q1, q2⟩ | q
    · exact .inl ⟨p, List.mem_append_left _ q1, q2⟩
    · by_cases e : d ∣ m
      · exact .inl ⟨d, List.mem_append_right _ (List.mem_singleton.mpr rfl), e⟩
      · exact .inr (l.all m q e)
theorem Tri.end1 {n x : Nat} {ps : List Nat} {d : Nat} (h : Tri n x ps d) (hx : ¬ 1 < x) : PD n ps := ⟨h.big, fun m h1 h2 => by
  rcases h.all m h1 h2 with q | q
  · exact q
  · have := Nat.le_of_dvd (by have := h.x1; omega) q
    omega⟩
theorem Tri.end2 {n x : Nat} {ps : List Nat} {d : Nat} (h : Tri n x ps d) (hd : ¬ d * d ≤ x) (hx : 1 < x) : PD n (ps ++ [x]) := ⟨fun p hp => by
  rcases List.mem_append.mp hp with q | q
  · exact h.big p q
  · rw [List.mem_singleton.mp q]
    exact ⟨hx, h.xn⟩, fun m h1 h2 => by
  rcases h.all m h1 h2 with ⟨p, q1, q2⟩ | q
  · exact ⟨p, List.mem_append_left _ q1, q2⟩
  · refine ⟨x, List.mem_append_right _ (List.mem_singleton.mpr rfl), ?_⟩
    obtain ⟨c, hc⟩ := q
    have md : d ≤ m := by
      refine Nat.le_of_not_lt fun g => h.no m h1 g ⟨c, hc⟩
    by_cases c1 : c = 1
    · subst c1
      rw [Nat.mul_one] at hc
      exact hc ▸ Nat.dvd_refl _
    · have c0 : c ≠ 0 := fun e => by subst e; omega
      have cd : d ≤ c := Nat.le_of_not_lt fun g => h.no c (by omega) g ⟨m, by rw [hc, Nat.mul_comm]⟩
      have := Nat.mul_le_mul md cd
      omega⟩
/-! ### the shortest row -/
theorem per_take {l : List Bool} {k c : Nat} (h0 : 0 < k) (hl : l ≠ []) (hc : l.length = k * c) : win (at_ (l.take k)) 0 l.length = l ↔ Per (at_ l) k := by
  have hp := pos_len hl
  have hk : k ≤ l.length := by
    rw [hc]
    exact Nat.le_mul_of_pos_right k (Nat.pos_of_ne_zero fun e => by subst e; omega)
  have ht : (l.take k).length = k := by rw [List.length_take]; omega
  constructor
  · intro h
    have e : at_ (l.take k) = at_ l := by
      have p1 : Per (at_ (l.take k)) (l.length : Int) := by
        have := (at_per (l := l.take k)).times (c : Int)
        rw [ht] at this
        rw [hc, Int.natCast_mul, Int.mul_comm]
        exact this
      refine Per.window (n := (l.length : Int)) (by omega) p1 at_per 0 fun w h1 h2 => ?_
      exact win_inj (h.trans win_self.symm) w h1 (by omega)
    rw [← e]
    have := at_per (l := l.take k)
    rw [ht] at this
    exact this
  · intro h
    rw [take_at h0 hk h, win_self]
theorem short_by {l : List Bool} {n : Nat} {ps : List Nat} (hl : l ≠ []) (hn : l.length ∣ n) (pd : PD n ps) (h : ∀ p ∈ ps, p ∣ l.length → ¬ Per (at_ l) ((l.length / p : Nat) : Int)) : Short l := by
  refine ⟨hl, fun k h0 h1 h2 h3 => ?_⟩
  obtain ⟨c, hc⟩ := Nat.dvd_of_mod_eq_zero h2
  have hp := pos_len hl
  by_cases c1 : c = 1
  · rw [hc, c1, Nat.mul_one]
  · exfalso
    have c0 : c ≠ 0 := fun e => by subst e; omega
    obtain ⟨p, q1, q2⟩ := pd.2 c (by omega) (Nat.dvd_trans ⟨k, by rw [hc, Nat.mul_comm]⟩ hn)
    have p2 := (pd.1 p q1).1
    obtain ⟨e, he⟩ := q2
    refine h p q1 ⟨k * e, by rw [hc, he, Nat.mul_left_comm]⟩ ?_
    have : l.length / p = e * k := by
      rw [hc, he, Nat.mul_left_comm, Nat.mul_div_cancel_left _ (by omega), Nat.mul_comm]
    rw [this, Int.natCast_mul]
    exact h3.times (e : Int)
theorem hist {f : Int → Bool} {w p q : Nat} (hp : 2 ≤ p) (hq : 2 ≤ q) (hw : p ∣ w) (h : q ∣ w → ¬ Per f ((w / q : Nat) : Int)) : q ∣ w / p → ¬ Per f ((w / p / q : Nat) : Int) := fun h1 h2 => by
  obtain ⟨c, rfl⟩ := hw
  rw [Nat.mul_div_cancel_left _ (by omega)] at h1 h2
  obtain ⟨e, rfl⟩ := h1
  rw [Nat.mul_div_cancel_left _ (by omega)] at h2
  refine h ⟨p * e, by rw [Nat.mul_left_comm]⟩ ?_
  rw [Nat.mul_left_comm, Nat.mul_div_cancel_left _ (by omega), Int.natCast_mul]
  exact h2.times (p : Int)
end PM
namespace PM
/-! ### the written pattern of a set -/
section
variable {f : Int → Bool} {l r : List Bool} {a b : Int}
theorem can0 (hl : Short l) (h : ∀ y, f y = at_ l y) : Canon ⟨l, 0, [], l⟩ ∧ (⟨l, 0, [], l⟩ : Pat).mem = f := by
  refine ⟨⟨hl, hl, .inl ⟨rfl, rfl, rfl⟩⟩, ?_⟩
  funext y
  rw [h y]
  by_cases c : y < 0
  · exact Pat.mem_l c
  · exact Pat.mem_r (by show (0 : Int) + ((0 : Nat) : Int) ≤ y; omega)
theorem can1 (hl : Short l) (hr : Short r) (ha : IsA f l a) (hb : IsB f r b) (h : b ≤ a) : Canon ⟨l, b, [], r⟩ ∧ (⟨l, b, [], r⟩ : Pat).mem = f := by
  have e : (⟨l, b, [], r⟩ : Pat).mem = f := by
    funext y
    by_cases c : y < b
    · rw [Pat.mem_l (show y < (⟨l, b, [], r⟩ : Pat).s from c)]
      exact (ha.2 y (by omega)).symm
    · rw [Pat.mem_r (show (⟨l, b, [], r⟩ : Pat).s + ((⟨l, b, [], r⟩ : Pat).m.length : Int) ≤ y by show b + ((0 : Nat) : Int) ≤ y; omega)]
      exact (hb.2 y (by omega)).symm
  exact ⟨⟨hl, hr, .inr ⟨a, b, by rw [e]; exact ha, by rw [e]; exact hb, .inl ⟨h, rfl, rfl⟩⟩⟩, e⟩
theorem can2 (hl : Short l) (hr : Short r) (ha : IsA f l a) (hb : IsB f r b) (h : a < b) : Canon ⟨l, a, win f a (b - a).toNat, r⟩ ∧ (⟨l, a, win f a (b - a).toNat, r⟩ : Pat).mem = f := by
  have hw : (win f a (b - a).toNat).length = (b - a).toNat := win_len _ _ _
  have e : (⟨l, a, win f a (b - a).toNat, r⟩ : Pat).mem = f := by
    funext y
    by_cases c : y < a
    · rw [Pat.mem_l (show y < (⟨l, a, win f a (b - a).toNat, r⟩ : Pat).s from c)]
      exact (ha.2 y (by omega)).symm
    · by_cases c2 : y < b
      · rw [Pat.mem_m (show a ≤ y by omega) (show y < a + ((win f a (b - a).toNat).length : Int) by rw [hw]; omega)]
        show (win f a (b - a).toNat).getD (y - a).toNat false = f y
        rw [List.getD_eq_getElem?_getD, win_get (by omega)]
        show f _ = f y
        congr 1
        omega
      · rw [Pat.mem_r (show a + ((win f a (b - a).toNat).length : Int) ≤ y by rw [hw]; omega)]
        exact (hb.2 y (by omega)).symm
  refine ⟨⟨hl, hr, .inr ⟨a, b, by rw [e]; exact ha, by rw [e]; exact hb, .inr ⟨h, rfl, ?_⟩⟩⟩, e⟩
  show a + ((win f a (b - a).toNat).length : Int) = b
  rw [hw]
  omega
/-- where the end can be -/
theorem isB_low (hl : l ≠ []) (hr : r ≠ []) {h0 : Int} (hf : ∀ y, y < h0 → f y = at_ l y) (hb : IsB f r b) : h0 - ((l.length + r.length : Nat) : Int) ≤ b := by
  refine Classical.byContradiction fun c => ?_
  have e : at_ l = at_ r := fine (pos_len hl) (pos_len hr) at_per at_per b fun w h1 h2 => by rw [← hf w (by omega), hb.2 w h1]
  refine hb.1 ?_
  rw [hf (b - 1) (by omega), e]
end
theorem win_at_row {l : List Bool} (h : l ≠ []) (s y : Int) : at_ (win (at_ l) (-s) l.length) y = at_ l (y - s) := by
  have hp := pos_len h
  have := at_map (g := fun y => at_ l (-s + y)) hp (fun y => by
    show at_ l (-s + (y + l.length)) = at_ l (-s + y)
    rw [← Int.add_assoc, at_per]) y
  have e : win (at_ l) (-s) l.length = (List.range l.length).map fun (k : Nat) => (fun y => at_ l (-s + y)) (k : Int) := rfl
  rw [e, this]
  show at_ l (-s + y) = _
  congr 1
  omega
theorem at_mid {l : List Bool} {k : Int} (h0 : 0 ≤ k) (h1 : k < l.length) : at_ l k = l.getD k.toNat false := by
  unfold at_
  rw [Int.emod_eq_of_lt h0 h1]
end PM
namespace PM
/-! ### moved patterns -/
def Fac (F : Int) : Prop := F = 1 ∨ F = 2 ∨ F = 3 ∨ F = 4 ∨ F = -1 ∨ F = -2 ∨ F = -3 ∨ F = -4
theorem fd_neg (x g : Int) : x.fdiv (-g) = (-x).fdiv g := by
  have := Int.neg_fdiv_neg (-x) g
  rw [Int.neg_neg] at this
  exact this
theorem mv_pos {F : Int} (hF : F = 1 ∨ F = 2 ∨ F = 3 ∨ F = 4) (c s e M : Int) (h : s ≤ e) (b1 : -M ≤ c - s) (b2 : c - s ≤ M) (b3 : -M ≤ c - e) (b4 : c - e ≤ M) :
    -((c - s).fdiv F) ≤ -((c - e).fdiv F) ∧ (∀ y, y < -((c - s).fdiv F) → F * y + c < s) ∧ (∀ y, -((c - e).fdiv F) ≤ y → e ≤ F * y + c) ∧ -((c - e).fdiv F) - -((c - s).fdiv F) ≤ e - s ∧ -M - 2 ≤ -((c - s).fdiv F) ∧ -((c - e).fdiv F) ≤ M + 2 := by
  rcases hF with r | r | r | r <;> subst r <;>
    rw [Int.fdiv_eq_ediv_of_nonneg _ (by decide), Int.fdiv_eq_ediv_of_nonneg _ (by decide)] <;>
    refine ⟨by omega, fun y hy => by omega, fun y hy => by omega, by omega, by omega, by omega⟩
theorem mv_neg {F : Int} (hF : F = -1 ∨ F = -2 ∨ F = -3 ∨ F = -4) (c s e M : Int) (h : s ≤ e) (b1 : -M ≤ c - s) (b2 : c - s ≤ M) (b3 : -M ≤ c - e) (b4 : c - e ≤ M) :
    -((c - (e - 1)).fdiv F) ≤ -((c - (s - 1)).fdiv F) ∧ (∀ y, y < -((c - (e - 1)).fdiv F) → e ≤ F * y + c) ∧ (∀ y, -((c - (s - 1)).fdiv F) ≤ y → F * y + c < s) ∧ -((c - (s - 1)).fdiv F) - -((c - (e - 1)).fdiv F) ≤ e - s ∧ -M - 2 ≤ -((c - (e - 1)).fdiv F) ∧ -((c - (s - 1)).fdiv F) ≤ M + 2 := by
  rcases hF with r | r | r | r <;> subst r <;>
    rw [fd_neg, fd_neg, Int.fdiv_eq_ediv_of_nonneg _ (by decide), Int.fdiv_eq_ediv_of_nonneg _ (by decide)] <;>
    refine ⟨by omega, fun y hy => by omega, fun y hy => by omega, by omega, by omega, by omega⟩
/-- the row of the multiples -/
def mrow (l : List Bool) (F c : Int) : List Bool := win (fun y => at_ l (F * y + c)) 0 (l.length / Nat.gcd l.length F.natAbs)
theorem mrow_len (l : List Bool) (F c : Int) : (mrow l F c).length = l.length / Nat.gcd l.length F.natAbs := win_len _ _ _
theorem mrow_pos {l : List Bool} (h : l ≠ []) (F : Int) : 0 < l.length / Nat.gcd l.length F.natAbs := by
  have hp := pos_len h
  exact Nat.div_pos (Nat.le_of_dvd hp (Nat.gcd_dvd_left _ _)) (Nat.gcd_pos_of_pos_left _ hp)
theorem mrow_at {l : List Bool} (h : l ≠ []) (F c : Int) (y : Int) : at_ (mrow l F c) y = at_ l (F * y + c) := by
  have hp := pos_len h
  have hw := mrow_pos h F
  have hn : l.length / Nat.gcd l.length F.natAbs * Nat.gcd l.length F.natAbs = l.length := Nat.div_mul_cancel (Nat.gcd_dvd_left _ _)
  obtain ⟨f', hf⟩ := Int.ofNat_dvd_left.mpr (Nat.gcd_dvd_right l.length F.natAbs)
  unfold mrow
  generalize l.length / Nat.gcd l.length F.natAbs = w at *
  generalize Nat.gcd l.length F.natAbs = g at *
  have key := at_map (g := fun y => at_ l (F * y + c)) hw (fun y => by
    show at_ l (F * (y + w) + c) = at_ l (F * y + c)
    have := (at_per (l := l)).imul f' (F * y + c)
    rw [← this]
    congr 1
    have e : F * (w : Int) = f' * (l.length : Int) := by
      rw [hf, ← hn, Int.natCast_mul, Int.mul_comm (g : Int) f', Int.mul_assoc, Int.mul_comm (g : Int) (w : Int)]
    rw [Int.mul_add, e]
    omega) y
  rw [← key]
  unfold win
  simp only [Int.zero_add]
end PM
namespace LC
open PySem PyProof.Rows L2 Fx PM
/-! ### while -/
section
variable {c : FT} {body : FS} {ρ ρ2 : Rho} {T T1 T2 : Fx.Tm} {r : Rz × Fx.Tm}
theorem whS_no (h : c ρ T = some (false, T1)) : whS c body ρ T = some (.nx ρ, T1) := whS_of (n := 1) (by unfold whL; rw [h]; rfl)
theorem whS_go (h : c ρ T = some (true, T1)) (hb : body ρ T1 = some (.nx ρ2, T2)) (hw : whS c body ρ2 T2 = some r) : whS c body ρ T = some r := by
  obtain ⟨n, hn⟩ := whS_eq hw
  refine whS_of (n := n + 1) ?_
  unfold whL
  rw [h, bindF_some, if_pos rfl, hb]
  exact hn
theorem whS_bk (h : c ρ T = some (true, T1)) (hb : body ρ T1 = some (.bk ρ2, T2)) : whS c body ρ T = some (.nx ρ2, T2) := by
  refine whS_of (n := 1) ?_
  unfold whL
  rw [h, bindF_some, if_pos rfl, hb]
end
/-! ### operators on bits -/
theorem vB_bits {l : List Bool} : Builtin.Int.intBits ((vB l : Nat) : Int) ≤ l.length := intBits_le (by rw [Int.natAbs_natCast]; exact vB_lt l)
theorem shl_ok {l : List Bool} {n : Nat} (h : l.length + n ≤ 134217728) : cShl ((vB l : Nat) : Int) (n : Int) = true := dc_of ⟨by omega, by
  have := @vB_bits l
  omega⟩
theorem one_ok {n : Nat} (h : n ≤ 134217727) : cShl 1 (n : Int) = true := dc_of ⟨by omega, by
  rw [show Builtin.Int.intBits 1 = 1 by decide +kernel]
  omega⟩
theorem pow_cast (n : Nat) : (2 : Int) ^ ((n : Int)).toNat = ((2 ^ n : Nat) : Int) := by rw [Int.toNat_natCast, Int.natCast_pow]; rfl
theorem or_run {a b : List Bool} : Builtin.bitOr ((vB a : Nat) : Int) (((vB b : Nat) : Int) * 2 ^ ((a.length : Int)).toNat) = ((vB (a ++ b) : Nat) : Int) := by
  rw [Int.toNat_natCast, Bits.bitOr_join (by omega) (by have := vB_lt a; exact_mod_cast this) (by omega), vB_append]
  push_cast
  rfl
theorem mask_run {l : List Bool} {n : Nat} : Builtin.bitAnd ((vB l : Nat) : Int) (1 * 2 ^ ((n : Int)).toNat - 1) = ((vB (l.take n) : Nat) : Int) := by
  rw [Int.one_mul, Int.toNat_natCast, Bits.bitAnd_mask n (by omega), ← vB_take]
  push_cast
  rfl
theorem shr_run {l : List Bool} {n : Nat} : ((vB l : Nat) : Int) / 2 ^ ((n : Int)).toNat = ((vB (l.drop n) : Nat) : Int) := by
  rw [Int.toNat_natCast, ← vB_drop]
  push_cast
  rfl
theorem xor_run {a b : List Bool} (h : a.length = b.length) : Builtin.bitXor ((vB a : Nat) : Int) ((vB b : Nat) : Int) = ((vB (xorL a b) : Nat) : Int) := by
  rw [Bits.bitXor_pp (by omega) (by omega), Int.toNat_natCast, Int.toNat_natCast, vB_xor h]
/-! ### stretched, window -/
theorem at_dbl {l : List Bool} (h : l ≠ []) : at_ (l ++ l) = at_ l := by
  have e : l ++ l = win (at_ l) 0 (l.length + l.length) := by
    rw [← win_add, Int.zero_add]
    have := win_per (at_per (l := l)) 0 l.length
    rw [Int.zero_add] at this
    rw [this, win_self]
  funext y
  rw [e]
  have hp := pos_len h
  have := at_map (g := at_ l) (n := l.length + l.length) (by omega) (by have := at_per (l := l); exact_mod_cast this.add this) y
  rw [← this]
  unfold win
  simp only [Int.zero_add]
theorem st_loop (len : Nat) (hn : len ≤ 1000000) (T : Fx.Tm) : ∀ (n : Nat) (l : List Bool), len - l.length = n → l ≠ [] → l.length ≤ 1000000 + len →
    ∃ l' : List Bool, l' ≠ [] ∧ at_ l' = at_ l ∧ len ≤ l'.length ∧ l'.length ≤ 2000000 ∧
      whS (testF (binF ltD (varF 1) (varF 2))) (seqS (augF 0 orD (binF shwD (varF 0) (varF 1))) (augF 1 muliD (constF (.int 2)))) [.dat (.int ((vB l : Nat) : Int)), .dat (.int (l.length : Int)), .dat (.int (len : Int))] T
        = some (.nx [.dat (.int ((vB l' : Nat) : Int)), .dat (.int (l'.length : Int)), .dat (.int (len : Int))], T) := by
  intro n
  induction n using Nat.strongRecOn with
  | _ n ih =>
    intro l h1 h2 h3
    have hp := pos_len h2
    by_cases c : l.length < len
    · obtain ⟨l', a1, a2, a3, a4, a5⟩ := ih (len - (l ++ l).length) (by rw [List.length_append]; omega) (l ++ l) rfl (by simp [h2]) (by rw [List.length_append]; omega)
      refine ⟨l', a1, a2.trans (at_dbl h2), a3, a4, ?_⟩
      refine whS_go (T1 := T) (T2 := T) (ρ2 := [.dat (.int ((vB (l ++ l) : Nat) : Int)), .dat (.int ((l ++ l).length : Int)), .dat (.int (len : Int))]) ?_ ?_ a5
      · have d : decide ((l.length : Int) < (len : Int)) = true := decide_eq_true (by omega)
        simp only [testF, binF, varF, List.getElem?_cons_zero, List.getElem?_cons_succ, bindF_some, iiF_int, ctt_eq, if_true, d]
      · have e1 := shl_ok (l := l) (n := l.length) (by omega)
        have e2 := or_run (a := l) (b := l)
        have e3 : cMul (l.length : Int) 2 = true := cm (by omega)
        have e4 : (l.length : Int) * 2 = ((l ++ l).length : Int) := by rw [List.length_append]; omega
        simp only [seqS, augF, binF, varF, constF, List.getElem?_cons_zero, List.getElem?_cons_succ, List.set_cons_zero, List.set_cons_succ, bindF_some, iiF_int, ctt_eq, if_true, setN, e1, e2, e3, e4, Option.map_some, orD, iiF]
    · refine ⟨l, h2, rfl, by omega, by omega, ?_⟩
      refine whS_no ?_
      have d : decide ((l.length : Int) < (len : Int)) = false := decide_eq_false (by omega)
      simp only [testF, binF, varF, List.getElem?_cons_zero, List.getElem?_cons_succ, bindF_some, iiF_int, ctt_eq, if_true, d]

theorem stretched_run {l : List Bool} (h : l ≠ []) (hl : l.length ≤ 1000000) {n : Nat} (hn : n ≤ 1000000) (T : Fx.Tm) : h_stretched [.int ((vB l : Nat) : Int), .int (l.length : Int), .int (n : Int)] T = some (.int ((vB (win (at_ l) 0 n) : Nat) : Int), T) := by
  obtain ⟨l', a1, a2, a3, a4, a5⟩ := st_loop n hn T _ l rfl h (by omega)
  have e0 : l'.take n = win (at_ l) 0 n := by
    rw [← a2]
    conv => lhs; rw [← win_self (l := l')]
    exact win_take a3
  have e1 := mask_run (l := l') (n := n)
  rw [e0] at e1
  have e2 := one_ok (n := n) (by omega)
  unfold h_stretched g_stretched
  unfold runB
  simp only [List.map_cons, List.map_nil, List.cons_append, List.nil_append, List.length_cons, List.length_nil, List.replicate_succ, List.replicate_zero, Nat.reduceAdd, Nat.reduceSub]
  rw [seqS_nx a5]
  simp only [retF, ofF, binF, varF, constF, List.getElem?_cons_zero, List.getElem?_cons_succ, bindF_some, iiF_int, ctt_eq, if_true, e1, e2]
theorem at_rot {l : List Bool} {s : Nat} (h : l ≠ []) (hs : s ≤ l.length) (y : Int) : at_ (rot l s) y = at_ l (s + y) := by
  rw [rot_win hs]
  have hp := pos_len h
  refine at_map (g := fun y => at_ l (s + y)) hp (fun y => ?_) y
  show at_ l (s + (y + l.length)) = at_ l (s + y)
  rw [← Int.add_assoc, at_per]
theorem win_rot {l : List Bool} (h : l ≠ []) (low : Int) (n : Nat) : win (at_ (rot l (low % (l.length : Int)).toNat)) 0 n = win (at_ l) low n := by
  have hp := pos_len h
  have m1 := Int.emod_nonneg low (show (l.length : Int) ≠ 0 by omega)
  have m2 := Int.emod_lt_of_pos low (show (0 : Int) < l.length by omega)
  refine win_eq (win_len _ _ _) fun k hk => ?_
  rw [win_get hk, at_rot h (by omega), Int.zero_add]
  congr 1
  have := (at_per (l := l)).imul (low / (l.length : Int)) (((low % (l.length : Int)).toNat : Int) + k)
  rw [← this]
  congr 1
  have := Int.emod_add_mul_ediv low (l.length : Int)
  rw [Int.mul_comm] at this
  omega
theorem window_run {l : List Bool} (h : l ≠ []) (hl : l.length ≤ 1000000) (low : Int) {n : Nat} (hn : n ≤ 1000000) (T : Fx.Tm) : h_window [.int ((vB l : Nat) : Int), .int (l.length : Int), .int low, .int (n : Int)] T = some (.int ((vB (win (at_ l) low n) : Nat) : Int), T) := by
  have hp := pos_len h
  have m1 := Int.emod_nonneg low (show (l.length : Int) ≠ 0 by omega)
  have m2 := Int.emod_lt_of_pos low (show (0 : Int) < l.length by omega)
  obtain ⟨s, hs⟩ : ∃ s : Nat, low % (l.length : Int) = s := ⟨(low % (l.length : Int)).toNat, by omega⟩
  have e1 : cMod low (l.length : Int) = true := cMod_nat hp
  have e2 : low.fmod (l.length : Int) = (s : Int) := by rw [fmod_nat, hs]
  have e3 := shr_run (l := l) (n := s)
  have e4 := mask_run (l := l) (n := s)
  have e5 := one_ok (n := s) (by omega)
  have e6 : decide (0 ≤ (s : Int)) = true := decide_eq_true (by omega)
  have e7 : (l.length : Int) - (s : Int) = ((l.drop s).length : Int) := by rw [List.length_drop]; omega
  have e8 := shl_ok (l := l.take s) (n := (l.drop s).length) (by rw [List.length_drop, List.length_take]; omega)
  have e9 := or_run (a := l.drop s) (b := l.take s)
  have lr : (rot l s).length = l.length := by rw [rot_win (by omega), win_len]
  have e10 := stretched_run (l := rot l s) (by intro q; rw [q] at lr; simp at lr; omega) (by omega) hn T
  have e11 := win_rot h low n
  rw [hs, Int.toNat_natCast] at e11
  rw [e11, lr] at e10
  have er : l.drop s ++ l.take s = rot l s := rfl
  rw [er] at e9
  clear er lr hs
  unfold h_window g_window
  simp only [runB, seqS, asgF, retF, ofF, binF, varF, constF, callF, consF, nilF, setN, List.map_cons, List.map_nil, List.cons_append, List.nil_append, List.length_cons, List.length_nil, List.replicate_succ, List.replicate_zero, Nat.reduceAdd, Nat.reduceSub,
    List.getElem?_cons_zero, List.getElem?_cons_succ, List.set_cons_zero, List.set_cons_succ, bindF_some, iiF_int, ctt_eq, if_true, Option.map_some, e1, e2, e3, e4, e5, e6, e7, e8, e9, e10]
theorem anchored_run {l : List Bool} (h : l ≠ []) (hl : l.length ≤ 1000000) (low : Int) (T : Fx.Tm) : h_anchored [.int ((vB l : Nat) : Int), .int low, .int (l.length : Int)] T = some (.int ((vB (win (at_ l) (-low) l.length) : Nat) : Int), T) := by
  have e1 := window_run h hl (-low) hl T
  unfold h_anchored g_anchored
  simp only [runB, retF, ofF, negF, varF, callF, consF, nilF, List.map_cons, List.map_nil, List.cons_append, List.nil_append, List.length_cons, List.length_nil, List.replicate_succ, List.replicate_zero, Nat.reduceAdd, Nat.reduceSub,
    List.getElem?_cons_zero, List.getElem?_cons_succ, bindF_some, e1]
end LC
namespace LC
open PySem PyProof.Rows L2 Fx PM
local macro_rules | `(tactic| walk_at "wk") => `(tactic| simp only [runB, seqS, nilS, asgF, retF, ifS, testF, binF, varF, varO, constF, ofF, bindF_some, consF, nilF, callF, augF, appF, ownF, lstF, forS, itU, tupF, unpF, brkS, setN, tgD, iiF_int, ctt_eq, eqD_int, mulD_int,
  List.map_cons, List.map_nil, List.cons_append, List.nil_append, List.length_cons, List.length_nil, List.replicate_succ, List.replicate_zero, List.getElem?_cons_zero, List.getElem?_cons_succ, List.set_cons_zero, List.set_cons_succ, Option.map_some, if_true, Nat.reduceAdd, Nat.reduceSub, Bool.false_eq_true, if_false, *])
theorem dvd_dec {d x : Nat} (h : d ∣ x) : decide (((x % d : Nat) : Int) = 0) = true := decide_eq_true (by have := Nat.mod_eq_zero_of_dvd h; omega)
theorem ndvd_dec {d x : Nat} (h : ¬ d ∣ x) : decide (((x % d : Nat) : Int) = 0) = false := decide_eq_false fun e => h (Nat.dvd_of_mod_eq_zero (by omega))
theorem dvp_nat {x d : Nat} (h2 : 2 ≤ d) (h3 : d < 1073741824) : dvpD (.int (x : Int)) (.int (d : Int)) = some (.int ((x / d : Nat) : Int)) := by
  have e : cDivP (x : Int) (d : Int) = true := dc_of ⟨by omega, by omega⟩
  rw [dvpD, iiF_int, if_pos e, Int.natCast_ediv]
theorem mod_nat {x d : Nat} (h : 0 < d) : modD (.int (x : Int)) (.int (d : Int)) = some (.int ((x % d : Nat) : Int)) := by
  have e : cMod (x : Int) (d : Int) = true := cMod_nat h
  rw [modD, iiF_int, if_pos e, fmod_natnat]
theorem div_loop {d : Nat} (h2 : 2 ≤ d) (h3 : d < 1073741824) (s : Sl) (T : Fx.Tm) : ∀ (x : Nat), 1 ≤ x → NoD x d → ∃ y, Left x d y ∧
    whS (testF (binF eqD (binF modD (varF 0) (varF 2)) (constF (.int 0)))) (augF 0 dvpD (varF 2)) [.dat (.int (x : Int)), s, .dat (.int (d : Int))] T = some (.nx [.dat (.int (y : Int)), s, .dat (.int (d : Int))], T) := by
  intro x
  induction x using Nat.strongRecOn with
  | _ x ih =>
    intro h1 hn
    have e1 := mod_nat (x := x) (d := d) (by omega)
    by_cases c : d ∣ x
    · have hl := Nat.le_of_dvd (by omega) c
      have hd : 1 ≤ x / d := Nat.div_pos hl (by omega)
      obtain ⟨y, a1, a2⟩ := ih (x / d) (Nat.div_lt_self (by omega) (by omega)) hd (hn.dvd (Nat.div_dvd_of_dvd c))
      have e2 := dvd_dec c
      have e3 := dvp_nat (x := x) h2 h3
      refine ⟨y, a1.step hn h2 c, whS_go (T1 := T) (T2 := T) (ρ2 := [.dat (.int ((x / d : Nat) : Int)), s, .dat (.int (d : Int))]) ?_ ?_ a2⟩
      · clear a2 ih hn h1 hl hd c
        walk_at "wk"
      · clear a2 ih hn h1 hl hd c
        walk_at "wk"
    · have e2 := ndvd_dec c
      refine ⟨x, .self h1 c, whS_no ?_⟩
      clear ih hn h1 c
      walk_at "wk"
theorem pd_loop (n : Nat) (hn : n ≤ 1000000) (T : Fx.Tm) : ∀ (k x d : Nat) (ps : List Nat), n + 2 - d = k → Tri n x ps d → d ≤ n + 2 → ∃ (y e : Nat) (qs : List Nat), Tri n y qs e ∧ e ≤ n + 2 ∧ ¬ e * e ≤ y ∧
    whS (testF (binF leD (binF mulD (varF 2) (varF 2)) (varF 0))) (seqS (ifS (testF (binF eqD (binF modD (varF 0) (varF 2)) (constF (.int 0)))) (seqS (appF 1 (varF 2))
      (whS (testF (binF eqD (binF modD (varF 0) (varF 2)) (constF (.int 0)))) (augF 0 dvpD (varF 2)))) (nilS))
      (augF 2 addiD (constF (.int 1)))) [.dat (.int (x : Int)), .own (ps.map fun (p : Nat) => D.int (p : Int)), .dat (.int (d : Int))] T
      = some (.nx [.dat (.int (y : Int)), .own (qs.map fun (p : Nat) => D.int (p : Int)), .dat (.int (e : Int))], T) := by
  intro k
  induction k using Nat.strongRecOn with
  | _ k ih =>
    intro x d ps hk h hd
    have e0 : cMul (d : Int) (d : Int) = true := cm (by omega)
    have e1 : (d : Int) * (d : Int) = ((d * d : Nat) : Int) := by rw [Int.natCast_mul]
    have h2 := h.d2
    by_cases c : d * d ≤ x
    · have hdn : d ≤ n := Nat.le_trans (Nat.le_trans (Nat.le_mul_of_pos_left d (by omega)) c) h.xn
      have e2 : decide (((d * d : Nat) : Int) ≤ (x : Int)) = true := decide_eq_true (by omega)
      have e3 := mod_nat (x := x) (d := d) (by omega)
      have e5 : (d : Int) + 1 = ((d + 1 : Nat) : Int) := by omega
      have ht : testF (binF leD (binF mulD (varF 2) (varF 2)) (varF 0)) [.dat (.int (x : Int)), .own (ps.map fun (p : Nat) => D.int (p : Int)), .dat (.int (d : Int))] T = some (true, T) := by
        clear ih h hk hd e3 e5
        walk_at "wk"
      by_cases c2 : d ∣ x
      · obtain ⟨y, a1, a2⟩ := div_loop h2 (by omega) (.own ((ps ++ [d]).map fun (p : Nat) => D.int (p : Int))) T x h.x1 h.no
        obtain ⟨y', e', qs, b1, b2, b3, b4⟩ := ih (n + 2 - (d + 1)) (by omega) y (d + 1) (ps ++ [d]) rfl (h.take c2 a1) (by omega)
        refine ⟨y', e', qs, b1, b2, b3, whS_go ht ?_ b4⟩
        have e6 := dvd_dec c2
        have e7 : ps.length < 16777216 := by have := h.len; omega
        have e8 : (List.map (fun (p : Nat) => D.int (p : Int)) ps).length < PySem.sizeLine := by rw [List.length_map, line_eq]; exact e7
        have e9 : List.map (fun (p : Nat) => D.int (p : Int)) ps ++ [D.int (d : Int)] = (ps ++ [d]).map fun (p : Nat) => D.int (p : Int) := by rw [List.map_append]; rfl
        clear ih h hk hd ht b4 b3 b2 b1 e7 e2 e1 e0 c c2 a1
        walk_at "wk"
      · obtain ⟨y', e', qs, b1, b2, b3, b4⟩ := ih (n + 2 - (d + 1)) (by omega) x (d + 1) ps rfl (h.skip c2) (by omega)
        refine ⟨y', e', qs, b1, b2, b3, whS_go ht ?_ b4⟩
        have e6 := ndvd_dec c2
        clear ih h hk hd ht b4 b3 b2 b1 e2 e1 e0 c c2
        walk_at "wk"
    · refine ⟨x, d, ps, h, hd, c, whS_no ?_⟩
      have e2 : decide (((d * d : Nat) : Int) ≤ (x : Int)) = false := decide_eq_false (by omega)
      clear ih h hk hd
      walk_at "wk"
theorem primes_run {n : Nat} (h1 : 1 ≤ n) (hn : n ≤ 1000000) (T : Fx.Tm) : ∃ ps : List Nat, PD n ps ∧ h_prime_divisors [.int (n : Int)] T = some (.lst (ps.map fun (p : Nat) => D.int (p : Int)), T) := by
  obtain ⟨y, e, qs, a1, a2, a3, a4⟩ := pd_loop n hn T _ n 2 [] rfl (.start h1) (by omega)
  have hl : qs.length < 16777216 := by have := a1.len; omega
  have e1 : (List.map (fun (p : Nat) => D.int (p : Int)) qs).length < PySem.sizeLine := by rw [List.length_map, line_eq]; exact hl
  have e0 : (0 : Nat) ≤ PySem.sizeLine := Nat.zero_le _
  by_cases c : 1 < y
  · refine ⟨qs ++ [y], a1.end2 a3 c, ?_⟩
    have e2 : decide ((1 : Int) < (y : Int)) = true := decide_eq_true (by omega)
    have e9 : List.map (fun (p : Nat) => D.int (p : Int)) qs ++ [D.int (y : Int)] = (qs ++ [y]).map fun (p : Nat) => D.int (p : Int) := by rw [List.map_append]; rfl
    unfold h_prime_divisors g_prime_divisors
    have a5 := fun b => seqS_nx (b := b) a4
    simp only [List.map_nil, show ((2 : Nat) : Int) = 2 from rfl] at a5
    clear a1 a2 a3 a4 hl c
    simp only [runB, List.map_cons, List.map_nil, List.cons_append, List.nil_append, List.length_cons, List.length_nil, List.replicate_succ, List.replicate_zero, Nat.reduceAdd, Nat.reduceSub]
    rw [seqS_nx (T' := T) (ρ' := [.dat (.int (n : Int)), .own [], .un]) (by clear a5; walk_at "wk"), seqS_nx (T' := T) (ρ' := [.dat (.int (n : Int)), .own [], .dat (.int 2)]) (by clear a5; walk_at "wk"), a5]
    walk_at "wk"
  · refine ⟨qs, a1.end1 c, ?_⟩
    have e2 : decide ((1 : Int) < (y : Int)) = false := decide_eq_false (by omega)
    unfold h_prime_divisors g_prime_divisors
    have a5 := fun b => seqS_nx (b := b) a4
    simp only [List.map_nil, show ((2 : Nat) : Int) = 2 from rfl] at a5
    clear a1 a2 a3 a4 hl c
    simp only [runB, List.map_cons, List.map_nil, List.cons_append, List.nil_append, List.length_cons, List.length_nil, List.replicate_succ, List.replicate_zero, Nat.reduceAdd, Nat.reduceSub]
    rw [seqS_nx (T' := T) (ρ' := [.dat (.int (n : Int)), .own [], .un]) (by clear a5; walk_at "wk"), seqS_nx (T' := T) (ρ' := [.dat (.int (n : Int)), .own [], .dat (.int 2)]) (by clear a5; walk_at "wk"), a5]
    walk_at "wk"
end LC
namespace LC
open PySem PyProof.Rows L2 Fx PM
local macro_rules | `(tactic| walk_at "wk") => `(tactic| simp only [runB, seqS, nilS, asgF, retF, ifS, testF, binF, varF, varO, constF, ofF, bindF_some, consF, nilF, callF, augF, appF, ownF, lstF, forS, itU, tupF, unpF, brkS, setN, tgD, iiF_int, ctt_eq, eqD_int, mulD_int,
  List.map_cons, List.map_nil, List.cons_append, List.nil_append, List.length_cons, List.length_nil, List.replicate_succ, List.replicate_zero, List.getElem?_cons_zero, List.getElem?_cons_succ, List.set_cons_zero, List.set_cons_succ, Option.map_some, if_true, Nat.reduceAdd, Nat.reduceSub, Bool.false_eq_true, if_false, *])
theorem neD_int (i j : Int) : neD (.int i) (.int j) = some (.bl (decide (i ≠ j))) := by
  unfold neD eqB
  simp only [toPy]
  have h : ∀ i, PySem.SeqAt.shaped (.int i) = true := fun i => by simp [PySem.SeqAt.shaped, PySem.PyData.canLay0, PySem.PyData.depth]
  simp only [h, Bool.and_self, if_true, PySem.PyData.eqv, Option.map_some]
  by_cases e : i = j <;> simp [e]
def NP (f : Int → Bool) (w q : Nat) : Prop := q ∣ w → ¬ Per f ((w / q : Nat) : Int)
theorem div_nat {x d : Nat} (h : 0 < d) (h3 : d < 1073741824) : divD (.int (x : Int)) (.int (d : Int)) = some (.int ((x / d : Nat) : Int)) := by
  have e : cDiv (x : Int) (d : Int) = true := cdv (by omega) (by omega)
  rw [divD, iiF_int, if_pos e, fdiv_natnat]
noncomputable abbrev shBody : FS := seqS (asgF 3 (binF divD (varF 1) (varF 2)))
      (seqS (ifS (testF (binF neD (callF h_stretched (consF (binF andD (varF 0) (binF subD (binF shwD (constF (.int 1)) (varF 3)) (constF (.int 1)))) (consF (varF 3) (consF (varF 1) (nilF))))) (varF 0))) (brkS) (nilS))
      (seqS (asgF 1 (varF 3))
      (augF 0 andD (binF subD (binF shwD (constF (.int 1)) (varF 3)) (constF (.int 1))))))
theorem sh_loop {p : Nat} (hp : 2 ≤ p) (hp2 : p < 1073741824) (T : Fx.Tm) : ∀ (n : Nat) (l : List Bool) (s : Sl), l.length = n → l ≠ [] → l.length ≤ 1000000 →
    ∃ (l' : List Bool) (s' : Sl), l' ≠ [] ∧ at_ l' = at_ l ∧ l'.length ∣ l.length ∧ NP (at_ l') l'.length p ∧ (∀ q, 2 ≤ q → NP (at_ l) l.length q → NP (at_ l') l'.length q) ∧
      whS (testF (binF eqD (binF modD (varF 1) (varF 2)) (constF (.int 0)))) shBody [.dat (.int ((vB l : Nat) : Int)), .dat (.int (l.length : Int)), .dat (.int (p : Int)), s] T
        = some (.nx [.dat (.int ((vB l' : Nat) : Int)), .dat (.int (l'.length : Int)), .dat (.int (p : Int)), s'], T) := by
  intro n
  induction n using Nat.strongRecOn with
  | _ n ih =>
    intro l s hn hl h1
    have hpos := pos_len hl
    have e1 := mod_nat (x := l.length) (d := p) (by omega)
    by_cases c : p ∣ l.length
    · have e2 := dvd_dec c
      have ht : testF (binF eqD (binF modD (varF 1) (varF 2)) (constF (.int 0))) [.dat (.int ((vB l : Nat) : Int)), .dat (.int (l.length : Int)), .dat (.int (p : Int)), s] T = some (true, T) := by
        clear ih hn hl h1 hpos c
        walk_at "wk"
      have hle := Nat.le_of_dvd hpos c
      have hd : 1 ≤ l.length / p := Nat.div_pos hle (by omega)
      have hlt : l.length / p < l.length := Nat.div_lt_self hpos (by omega)
      have ht' : (l.take (l.length / p)).length = l.length / p := by rw [List.length_take]; omega
      have hc : l.length = (l.length / p) * p := (Nat.div_mul_cancel c).symm
      have hpt := per_take (c := p) hd hl hc
      have hne : l.take (l.length / p) ≠ [] := by intro q; rw [q] at ht'; simp at ht'; omega
      have e3 := div_nat (x := l.length) (d := p) (by omega) hp2
      have e4 := one_ok (n := l.length / p) (by omega)
      have e5 := mask_run (l := l) (n := l.length / p)
      have e6 := stretched_run hne (by omega) h1 T
      rw [ht'] at e6
      have e7 := neD_int ((vB (win (at_ (l.take (l.length / p))) 0 l.length) : Nat) : Int) ((vB l : Nat) : Int)
      by_cases g : Per (at_ l) ((l.length / p : Nat) : Int)
      · have e8 : decide (((vB (win (at_ (l.take (l.length / p))) 0 l.length) : Nat) : Int) ≠ ((vB l : Nat) : Int)) = false := decide_eq_false (by rw [hpt.mpr g]; simp)
        obtain ⟨l', s', a1, a2, a3, a4, a5, a6⟩ := ih (l.length / p) (by omega) (l.take (l.length / p)) (.dat (.int ((l.length / p : Nat) : Int))) ht' hne (by omega)
        have ta := take_at hd (by omega) g
        refine ⟨l', s', a1, a2.trans ta, Nat.dvd_trans a3 (by rw [ht']; exact Nat.div_dvd_of_dvd c), a4, fun q hq h => a5 q hq ?_, whS_go ht ?_ a6⟩
        · rw [ta, ht']
          exact hist hp hq c h
        · rw [ht']
          clear a6 a5 a4 a3 a2 a1 ih hn hl h1 hpos c ht hle hd hlt ht' hc hpt hne ta g e1 e2
          walk_at "wk"
      · have e8 : decide (((vB (win (at_ (l.take (l.length / p))) 0 l.length) : Nat) : Int) ≠ ((vB l : Nat) : Int)) = true := decide_eq_true fun q => g (hpt.mp (vB_inj (win_len _ _ _) (by omega)))
        refine ⟨l, .dat (.int ((l.length / p : Nat) : Int)), hl, rfl, Nat.dvd_refl _, fun _ => g, fun q _ h => h, whS_bk ht ?_⟩
        clear ih hn hl h1 hpos c ht hle hd hlt ht' hc hpt hne g e1 e2
        walk_at "wk"
    · have e2 := ndvd_dec c
      refine ⟨l, s, hl, rfl, Nat.dvd_refl _, fun h => absurd h c, fun q _ h => h, whS_no ?_⟩
      clear ih hn hl h1 hpos c
      walk_at "wk"
theorem sh_for (T : Fx.Tm) : ∀ (ps : List Nat) (l : List Bool) (s2 s3 : Sl), (∀ p ∈ ps, 2 ≤ p ∧ p < 1073741824) → l ≠ [] → l.length ≤ 1000000 →
    ∃ (l' : List Bool) (s2' s3' : Sl), l' ≠ [] ∧ at_ l' = at_ l ∧ l'.length ∣ l.length ∧ (∀ p ∈ ps, NP (at_ l') l'.length p) ∧ (∀ q, 2 ≤ q → NP (at_ l) l.length q → NP (at_ l') l'.length q) ∧
      forL (.nm 2) (whS (testF (binF eqD (binF modD (varF 1) (varF 2)) (constF (.int 0)))) shBody) (ps.map fun (p : Nat) => D.int (p : Int)) [.dat (.int ((vB l : Nat) : Int)), .dat (.int (l.length : Int)), s2, s3] T
        = some (.nx [.dat (.int ((vB l' : Nat) : Int)), .dat (.int (l'.length : Int)), s2', s3'], T)
  | [], l, s2, s3, hb, hl, h1 => ⟨l, s2, s3, hl, rfl, Nat.dvd_refl _, fun p h => by (cases h), fun q _ h => h, rfl⟩
  | p :: ps, l, s2, s3, hb, hl, h1 => by
    obtain ⟨p2, p3⟩ := hb p (List.mem_cons_self ..)
    obtain ⟨m, s, a1, a2, a3, a4, a5, a6⟩ := sh_loop p2 p3 T l.length l s3 rfl hl h1
    have hm := Nat.le_of_dvd (pos_len hl) a3
    obtain ⟨l', s2', s3', b1, b2, b3, b4, b5, b6⟩ := sh_for T ps m (.dat (.int (p : Int))) s (fun q h => hb q (List.mem_cons_of_mem _ h)) a1 (by omega)
    refine ⟨l', s2', s3', b1, b2.trans a2, Nat.dvd_trans b3 a3, fun q h => ?_, fun q hq h => b5 q hq (a5 q hq h), ?_⟩
    · rcases List.mem_cons.mp h with e | e
      · rw [e]
        exact b5 p p2 a4
      · exact b4 q e
    · rw [List.map_cons]
      unfold forL
      simp only [tgD, setN, List.set_cons_zero, List.set_cons_succ, List.length_cons, List.length_nil]
      simp only [a6]
      exact b6
theorem shortest_run {l : List Bool} (hl : l ≠ []) (h1 : l.length ≤ 1000000) (T : Fx.Tm) : h_shortest [.int ((vB l : Nat) : Int), .int (l.length : Int)] T = some (.tup [.int ((vB (short l) : Nat) : Int), .int ((short l).length : Int)], T) := by
  obtain ⟨ps, h2, h3⟩ := primes_run (pos_len hl) h1 T
  obtain ⟨l', s2, s3, b1, b2, b3, b4, b5, b6⟩ := sh_for T ps l .un .un (fun p h => ⟨(h2.1 p h).1, by have := (h2.1 p h).2; omega⟩) hl h1
  have hs : Short l' := short_by b1 b3 h2 b4
  have e : short l = l' := short_inj (short_spec hl).1 hs ((short_spec hl).2.1.trans b2.symm)
  rw [e]
  unfold h_shortest g_shortest
  have e2 : (2 : Nat) ≤ PySem.sizeLine := by rw [line_eq]; omega
  clear b1 b2 b3 b4 b5 h2 hs e hl h1
  walk_at "wk"
end LC
namespace LC
open PySem PyProof.Rows L2 Fx PM
local macro_rules | `(tactic| walk_at "wk") => `(tactic| simp only [runB, seqS, nilS, asgF, retF, ifS, testF, binF, varF, varO, constF, ofF, bindF_some, consF, nilF, callF, augF, appF, ownF, lstF, forS, itU, tupF, unpF, brkS, setN, tgD, iiF_int, ctt_eq, eqD_int, mulD_int,
  List.map_cons, List.map_nil, List.cons_append, List.nil_append, List.length_cons, List.length_nil, List.replicate_succ, List.replicate_zero, List.getElem?_cons_zero, List.getElem?_cons_succ, List.set_cons_zero, List.set_cons_succ, Option.map_some, if_true, Nat.reduceAdd, Nat.reduceSub, Bool.false_eq_true, if_false, *])
/-! ### the text of bits -/
def chB (b : Bool) : Nat := if b then 49 else 48
theorem digit_b (b : Bool) : (Nat.digitChar b.toNat).toNat = chB b := by cases b <;> rfl
theorem binC_step {n : Nat} : binC n = if n < 2 then [(Nat.digitChar n).toNat] else binC (n / 2) ++ [(Nat.digitChar (n % 2)).toNat] := by
  unfold binC
  rw [Nat.toDigits_eq_if (by omega)]
  by_cases h : n < 2
  · rw [if_pos h, if_pos h]
    rfl
  · rw [if_neg h, if_neg h, List.map_append]
    rfl
theorem binC_zero : binC 0 = [48] := by decide
theorem dig : ∀ l : List Bool, l ≠ [] → (binC (vB l)).length ≤ l.length ∧ List.replicate (l.length - (binC (vB l)).length) 48 ++ binC (vB l) = l.reverse.map chB
  | [], h => absurd rfl h
  | [b], _ => by cases b <;> decide
  | b :: c :: r, _ => by
    obtain ⟨i1, i2⟩ := dig (c :: r) (by simp)
    generalize c :: r = l at i1 i2
    have e : vB (b :: l) = b.toNat + 2 * vB l := rfl
    have hb : b.toNat < 2 := by cases b <;> decide
    rw [List.reverse_cons, List.map_append, ← i2]
    have m1 : ∀ k : Nat, List.map chB [b] = [(Nat.digitChar b.toNat).toNat] := fun _ => by rw [digit_b]; rfl
    rw [m1 0, binC_step (n := vB (b :: l)), List.length_cons]
    by_cases h : vB (b :: l) < 2
    · have h0 : vB l = 0 := by omega
      rw [if_pos h, h0, binC_zero, e, h0, Nat.mul_zero, Nat.add_zero]
      rw [h0, binC_zero] at i1
      refine ⟨by simp, ?_⟩
      rw [List.length_singleton, List.length_singleton] at *
      rw [show l.length + 1 - 1 = (l.length - 1) + 1 by omega, List.replicate_succ']
    · have h1 : vB (b :: l) / 2 = vB l := by omega
      have h2 : vB (b :: l) % 2 = b.toNat := by omega
      rw [if_neg h, h1, h2, List.length_append, List.length_singleton]
      refine ⟨by omega, ?_⟩
      rw [show l.length + 1 - ((binC (vB l)).length + 1) = l.length - (binC (vB l)).length by omega, List.append_assoc]
theorem binC_all : ∀ n : Nat, ∀ c ∈ binC n, c = 48 ∨ c = 49 := fun n => by
  induction n using Nat.strongRecOn with
  | _ n ih =>
    intro c hc
    rw [binC_step] at hc
    have two : ∀ m : Nat, m < 2 → (Nat.digitChar m).toNat = 48 ∨ (Nat.digitChar m).toNat = 49 := fun m hm => by
      rcases (show m = 0 ∨ m = 1 by omega) with e | e <;> subst e
      · exact .inl rfl
      · exact .inr rfl
    by_cases h : n < 2
    · rw [if_pos h] at hc
      rw [List.mem_singleton.mp hc]
      exact two n h
    · rw [if_neg h] at hc
      rcases List.mem_append.mp hc with q | q
      · exact ih (n / 2) (by omega) c q
      · rw [List.mem_singleton.mp q]
        exact two _ (Nat.mod_lt _ (by omega))
/-- the signs of a row, the last one first -/
def sB (l : List Bool) : Str := ⟨(l.reverse.map chB).toArray⟩
theorem sB_len (l : List Bool) : (sB l).length = l.length := by
  show (l.reverse.map chB).toArray.size = _
  rw [List.size_toArray, List.length_map, List.length_reverse]
theorem zfill_sB {l : List Bool} (h : l ≠ []) : Txt.zfill (binS (vB l)) (l.length : Int) = sB l := by
  obtain ⟨h1, h2⟩ := dig l h
  have hlen : (binS (vB l)).length = (binC (vB l)).length := by
    show (binC (vB l)).toArray.size = _
    rw [List.size_toArray]
  unfold Txt.zfill
  by_cases c : (l.length : Int) ≤ ((binS (vB l)).length : Int)
  · rw [if_pos c]
    have : l.length - (binC (vB l)).length = 0 := by omega
    rw [this, List.replicate_zero, List.nil_append] at h2
    unfold binS sB
    rw [h2]
  · rw [if_neg c, Int.toNat_natCast, hlen]
    obtain ⟨x, r, hx⟩ : ∃ x r, binC (vB l) = x :: r := by
      cases hc : binC (vB l) with
      | nil => rw [hc] at h2; have := binC_ne (vB l); rw [hc] at this; simp at this
      | cons x r => exact ⟨x, r, rfl⟩
    have h0 : (binS (vB l)).cps[0]? = some x := by
      show (binC (vB l)).toArray[0]? = _
      rw [List.getElem?_toArray, hx]
      rfl
    have hx2 := binC_all (vB l) x (by rw [hx]; exact List.mem_cons_self)
    have e : zfilled (binS (vB l)) (l.length - (binC (vB l)).length) = Builtin.Str.padded (binS (vB l)) (l.length - (binC (vB l)).length) 0 48 := by
      unfold zfilled
      rw [h0]
      rcases hx2 with q | q <;> subst q <;> rfl
    rw [e]
    unfold Builtin.Str.padded sB
    congr 1
    apply Array.ext'
    rw [← h2]
    simp [binS]
theorem glued_list (zs : List Str) : (Txt.join (Str.ofString "") zs).cps.toList = (zs.map fun z => z.cps.toList).flatten := by
  have e0 : (Str.ofString "").cps = #[] := by decide +kernel
  unfold Txt.join Builtin.Str.glued
  rw [e0]
  have key : ∀ (zs : List Str) (acc : Array Nat), (List.foldl (fun (acc : Array Nat) (p : Str) => acc ++ #[] ++ p.cps) acc zs).toList = acc.toList ++ (zs.map fun z => z.cps.toList).flatten := by
    intro zs
    induction zs with
    | nil => intro acc; simp
    | cons z zs ih => intro acc; rw [List.foldl_cons, ih]; simp
  cases zs with
  | nil => simp [Str.empty]
  | cons z zs => 
    show (List.foldl (fun (acc : Array Nat) (p : Str) => acc ++ #[] ++ p.cps) z.cps zs).toList = _
    rw [key]
    rfl
theorem binNum_sB (l : List Bool) : Bx.binNum (sB l).cps.toList = vB l := by
  show Bx.binNum (l.reverse.map chB) = _
  unfold Bx.binNum
  rw [List.foldl_map, List.foldl_reverse]
  induction l with
  | nil => rfl
  | cons b l ih =>
    rw [List.foldr_cons, ih]
    show vB l * 2 + Bx.bv (chB b) = b.toNat + 2 * vB l
    cases b <;> simp [chB, Bx.bv] <;> omega
theorem int2_sB {l : List Bool} (h : l ≠ []) (hl : l.length ≤ 640) : int2D [.str (sB l), .int 2] = some (.int ((vB l : Nat) : Int)) := by
  have hc : dc ((2 : Int) = 2 ∧ (sB l).length ≤ 640 ∧ (∀ c ∈ (sB l).cps.toList, Bx.IsBin c) ∧ (sB l).cps.toList ≠ []) = true := dc_of ⟨rfl, by rw [sB_len]; exact hl, fun c hc => by
    have hc : c ∈ l.reverse.map chB := hc
    obtain ⟨b, _, rfl⟩ := List.mem_map.mp hc
    cases b
    · exact .inl rfl
    · exact .inr rfl, by
    show l.reverse.map chB ≠ []
    simp [h]⟩
  show (if dc ((2 : Int) = 2 ∧ (sB l).length ≤ 640 ∧ (∀ c ∈ (sB l).cps.toList, Bx.IsBin c) ∧ (sB l).cps.toList ≠ []) = true then some (D.int ((Bx.binNum (sB l).cps.toList : Nat) : Int)) else none) = _
  rw [if_pos hc, binNum_sB]
theorem fmt_sB {f : FE} {ρ : Rho} {T T' : Fx.Tm} {l : List Bool} (h : l ≠ []) (hl : l.length ≤ 16777216) (hf : f ρ T = some (.int ((vB l : Nat) : Int), T')) : fmtBF f ρ T = some (.str (binS (vB l)), T') := by
  obtain ⟨h1, _⟩ := dig l h
  have hc : dc (0 ≤ ((vB l : Nat) : Int) ∧ (binS ((vB l : Nat) : Int).toNat).length ≤ sizeLine) = true := dc_of ⟨by omega, by
    rw [Int.toNat_natCast, line_eq]
    show (binC (vB l)).toArray.size ≤ _
    rw [List.size_toArray]
    omega⟩
  unfold fmtBF
  rw [hf, bindF_some]
  show (if dc (0 ≤ ((vB l : Nat) : Int) ∧ (binS ((vB l : Nat) : Int).toNat).length ≤ sizeLine) = true then some (D.str (binS ((vB l : Nat) : Int).toNat), T') else none) = _
  rw [if_pos hc, Int.toNat_natCast]
theorem zfillD_sB {l : List Bool} (h : l ≠ []) (hl : l.length ≤ 1000000) : zfillD (binS (vB l)) (.int (l.length : Int)) = some (.str (sB l)) := by
  have hc : dc (PadOk (l.length : Int) = true) = true := dc_of (by
    unfold PadOk fitsSsize Builtin.Str.tooLong
    rw [Int.toNat_natCast, line_eq]
    have a : decide ((l.length : Int) < -2 ^ 63) = false := decide_eq_false (by omega)
    have b : decide ((l.length : Int) ≥ 2 ^ 63) = false := decide_eq_false (by omega)
    have c : decide (l.length > 16777216) = false := decide_eq_false (by omega)
    rw [a, b, c]
    rfl)
  unfold zfillD
  simp only [hc, if_true, zfill_sB h]

/-! ### rows and bits -/
theorem comp_pure {t : Tgt} {fs : FA} {c : FT} {e : FE} {vs : List Nat} {ρ : Rho} {T : Fx.Tm} {ds xs : List D} {p : D → Bool} {g : D → D} (ht : tgIn t vs = true) (hf : fs ρ T = some (ds, T)) (hl : ds.length ≤ 16777216)
    (h : ∀ d ∈ ds, ∃ ρ1, tgD t d (wipeR ρ vs) = some ρ1 ∧ c ρ1 T = some (p d, T) ∧ (p d = true → e ρ1 T = some (g d, T))) (hx : (ds.filter p).map g = xs) : compF t fs c e vs ρ T = some (xs, T) := by
  unfold compF
  rw [if_pos ht, hf, bindF_some, compL_pure ds h [] (by rw [line_eq]; simpa using hl), hx]
  rfl
theorem one_s : Str.ofString "1" = ⟨#[49]⟩ := by decide +kernel
theorem zero_s : Str.ofString "0" = ⟨#[48]⟩ := by decide +kernel
theorem eqD_chB (b : Bool) : eqD (.str ⟨#[chB b]⟩) (.str (Str.ofString "1")) = some (.bl b) := by
  rw [one_s]
  have h0 : PySem.PyData.strOk ⟨#[48]⟩ = true := by decide +kernel
  have h1 : PySem.PyData.strOk ⟨#[49]⟩ = true := by decide +kernel
  have z0 : ((⟨#[48]⟩ : Str) == ⟨#[49]⟩) = false := by decide +kernel
  have z1 : ((⟨#[49]⟩ : Str) == ⟨#[49]⟩) = true := by decide +kernel
  unfold eqD eqB
  cases b
  · show Option.map D.bl (match toPy (.str ⟨#[48]⟩), toPy (.str ⟨#[49]⟩) with | some p, some q => if PySem.SeqAt.shaped p && PySem.SeqAt.shaped q then some (PySem.PyData.eqv p q) else none | _, _ => none) = _
    simp only [toPy, PySem.SeqAt.shaped, PySem.PyData.canLay0, PySem.PyData.depth, PySem.PyData.eqv, h0, h1, z0, Bool.true_and, Nat.zero_le, decide_true, if_true, Option.map_some]
  · show Option.map D.bl (match toPy (.str ⟨#[49]⟩), toPy (.str ⟨#[49]⟩) with | some p, some q => if PySem.SeqAt.shaped p && PySem.SeqAt.shaped q then some (PySem.PyData.eqv p q) else none | _, _ => none) = _
    simp only [toPy, PySem.SeqAt.shaped, PySem.PyData.canLay0, PySem.PyData.depth, PySem.PyData.eqv, h1, z1, Bool.true_and, Nat.zero_le, decide_true, if_true, Option.map_some]
theorem bits_of_run {l : List Bool} (h : l ≠ []) (hl : l.length ≤ 640) (T : Fx.Tm) : h_bits_of [eB l] T = some (.int ((vB l : Nat) : Int), T) := by
  have e1 : compF (.nm 1) (itU2 (bk2F (varO 0))) (yesT) (ifE (testF (varF 1)) (constF (.str (Str.ofString "1"))) (constF (.str (Str.ofString "0")))) [1] [.dat (eB l), .un] T = some ((l.reverse.map fun b => D.str ⟨#[chB b]⟩), T) := by
    refine comp_pure (ds := l.reverse.map D.bl) (p := fun _ => true) (g := fun d => match d with | .bl b => D.str ⟨#[chB b]⟩ | _ => .non) rfl ?_ (by rw [List.length_map, List.length_reverse]; omega) (fun d hd => ?_) ?_
    · show some ((l.map D.bl).reverse, T) = _
      rw [List.map_reverse]
    · obtain ⟨b, _, rfl⟩ := List.mem_map.mp hd
      refine ⟨[.dat (eB l), .dat (.bl b)], rfl, rfl, fun _ => ?_⟩
      rw [one_s, zero_s]
      cases b <;> rfl
    · rw [List.filter_eq_self.mpr (fun _ _ => rfl), List.map_map]
      rfl
  have e2 : txts (l.reverse.map fun b => D.str ⟨#[chB b]⟩) = some (l.reverse.map fun b => (⟨#[chB b]⟩ : Str)) := by
    have := txts_map (l.reverse.map fun b => (⟨#[chB b]⟩ : Str))
    rw [List.map_map] at this
    exact this
  have e3 : Txt.join (Str.ofString "") (l.reverse.map fun b => (⟨#[chB b]⟩ : Str)) = sB l := by
    have := glued_list (l.reverse.map fun b => (⟨#[chB b]⟩ : Str))
    have q : ((l.reverse.map fun b => (⟨#[chB b]⟩ : Str)).map fun z => z.cps.toList).flatten = l.reverse.map chB := by
      rw [List.map_map]
      generalize l.reverse = m
      induction m with
      | nil => rfl
      | cons b m ih =>
        rw [List.map_cons, List.flatten_cons, ih]
        rfl
    rw [q] at this
    cases hz : Txt.join (Str.ofString "") (l.reverse.map fun b => (⟨#[chB b]⟩ : Str)) with
    | mk c =>
      rw [hz] at this
      show Str.mk c = Str.mk _
      congr 1
      exact Array.ext' (by rw [List.toList_toArray]; exact this)
  have e4 : dc ((((l.reverse.map fun b => (⟨#[chB b]⟩ : Str)).map fun x => x.length).sum + (l.reverse.map fun b => (⟨#[chB b]⟩ : Str)).length * (Str.ofString "").length ≤ 16777216)) = true := dc_of (by
    have z : (Str.ofString "").length = 0 := by decide +kernel
    have s1 : ((l.reverse.map fun b => (⟨#[chB b]⟩ : Str)).map fun x => x.length).sum = l.length := by
      rw [List.map_map]
      have : l.length = l.reverse.length := by rw [List.length_reverse]
      rw [this]
      generalize l.reverse = m
      induction m with
      | nil => rfl
      | cons b m ih =>
        rw [List.map_cons, List.sum_cons, ih, List.length_cons]
        show 1 + m.length = _
        omega
    rw [z, s1]
    omega)
  have e5 : joinD (Str.ofString "") (.lst (l.reverse.map fun b => D.str ⟨#[chB b]⟩)) = some (.str (sB l)) := by
    unfold joinD joinL
    simp only [e2, e4, if_true, e3]
  have e6 := int2_sB h hl
  clear e2 e3 e4 h hl
  unfold h_bits_of g_bits_of
  simp only [runB, retF, ofF, blF, m1F, constF, frzF, consF, nilF, bindF_some, List.map_cons, List.map_nil, List.cons_append, List.nil_append, List.length_cons, List.length_nil, List.replicate_succ, List.replicate_zero, Nat.reduceAdd, Nat.reduceSub, Option.map_some, e1, e5, e6]
theorem row_of_run {l : List Bool} (h : l ≠ []) (hl : l.length ≤ 1000000) (T : Fx.Tm) : h_row_of [.int ((vB l : Nat) : Int), .int (l.length : Int)] T = some (eB l, T) := by
  have e1 : ∀ ρ : Rho, ρ = [.dat (.int ((vB l : Nat) : Int)), .dat (.int (l.length : Int)), .un, .un] → fmtBF (varF 0) ρ T = some (.str (binS (vB l)), T) := fun ρ hρ => fmt_sB h (by omega) (by subst hρ; rfl)
  have e2 := zfillD_sB h hl
  have e3 : compF (.nm 3) (itU2 (bk2F (varO 2))) (yesT) (binF eqD (varF 3) (constF (.str (Str.ofString "1")))) [3] [.dat (.int ((vB l : Nat) : Int)), .dat (.int (l.length : Int)), .dat (.str (sB l)), .un] T = some (l.map D.bl, T) := by
    refine comp_pure (ds := l.map fun b => D.str ⟨#[chB b]⟩) (p := fun _ => true) (g := fun d => match d with | .str z => .bl (z.cps == #[49]) | _ => .non) rfl ?_ (by rw [List.length_map]; omega) (fun d hd => ?_) ?_
    · have q : (sB l).length ≤ sizeLine := by rw [sB_len, line_eq]; omega
      have q2 : bk2F (varO 2) [.dat (.int ((vB l : Nat) : Int)), .dat (.int (l.length : Int)), .dat (.str (sB l)), .un] T = some (.str (revS (sB l)), T) := by
        show (if (sB l).length ≤ sizeLine then some (D.str (revS (sB l)), T) else none) = _
        rw [if_pos q]
      unfold itU2
      rw [q2, bindF_some]
      show some (chars (revS (sB l)), T) = _
      congr 2
      unfold chars revS sB
      simp [List.map_map]
    · obtain ⟨b, _, rfl⟩ := List.mem_map.mp hd
      refine ⟨[.dat (.int ((vB l : Nat) : Int)), .dat (.int (l.length : Int)), .dat (.str (sB l)), .dat (.str ⟨#[chB b]⟩)], rfl, rfl, fun _ => ?_⟩
      have := eqD_chB b
      simp only [binF, varF, constF, bindF_some, List.getElem?_cons_zero, List.getElem?_cons_succ, this]
      cases b <;> rfl
    · rw [List.filter_eq_self.mpr (fun _ _ => rfl), List.map_map]
      apply List.map_congr_left
      intro b _
      cases b <;> rfl
  have e4 : (l.map D.bl).length ≤ sizeLine := by rw [List.length_map, line_eq]; omega
  have e5 := seqD_lst T (l.map D.bl)
  have e6 := fun x y z w => e1 [x, y, z, w]
  have e7 := e1 _ rfl
  have e8 : D.tup (l.map D.bl) = eB l := rfl
  clear e6 e1 h hl
  unfold h_row_of g_row_of
  simp only [runB, seqS, asgF, retF, ofF, tofF, m1F, varF, frzF, setN, bindF_some, List.map_cons, List.map_nil, List.cons_append, List.nil_append, List.length_cons, List.length_nil, List.replicate_succ, List.replicate_zero, Nat.reduceAdd, Nat.reduceSub, List.getElem?_cons_zero, List.getElem?_cons_succ, List.set_cons_zero, List.set_cons_succ, Option.map_some, e7, e2, e3, e5, e8]
end LC
namespace LC
open PySem PyProof.Rows L2 Fx PM
/-! ### the first and the last bit -/
theorem vB_rep_f : ∀ i : Nat, vB (List.replicate i false) = 0
  | 0 => rfl
  | i + 1 => by
    rw [List.replicate_succ]
    show false.toNat + 2 * vB (List.replicate i false) = 0
    rw [vB_rep_f i]
    rfl
theorem vB_rep_t : ∀ i : Nat, vB (List.replicate i true) + 1 = 2 ^ i
  | 0 => rfl
  | i + 1 => by
    rw [List.replicate_succ]
    show true.toNat + 2 * vB (List.replicate i true) + 1 = _
    have := vB_rep_t i
    rw [Nat.pow_succ, ← this]
    simp
    omega
theorem first_true : ∀ {l : List Bool}, vB l ≠ 0 → ∃ i r, l = List.replicate i false ++ true :: r
  | [], h => absurd rfl h
  | true :: l, _ => ⟨0, l, rfl⟩
  | false :: l, h => by
    have h2 : vB l ≠ 0 := fun e => h (by show false.toNat + 2 * vB l = 0; rw [e]; rfl)
    obtain ⟨i, r, e⟩ := first_true h2
    exact ⟨i + 1, r, by rw [e]; rfl⟩
theorem last_true : ∀ {l : List Bool}, vB l ≠ 0 → ∃ p j, l = p ++ true :: List.replicate j false
  | [], h => absurd rfl h
  | b :: l, h => by
    by_cases c : vB l = 0
    · cases b with
      | true => exact ⟨[], l.length, by rw [List.nil_append, List.eq_replicate_iff.mpr ⟨rfl, vB_zero.mp c⟩, List.length_replicate]⟩
      | false => exact absurd (by show false.toNat + 2 * vB l = 0; rw [c]; rfl) h
    · obtain ⟨p, j, e⟩ := last_true c
      exact ⟨b :: p, j, by rw [e]; rfl⟩
theorem bits_pow (i : Nat) : Builtin.Int.intBits ((2 ^ i : Nat) : Int) = i + 1 := by
  have hp : 0 < 2 ^ i := Nat.pos_of_ne_zero (by simp)
  unfold Builtin.Int.intBits
  rw [if_neg (by rw [beq_iff_eq]; omega), Int.natAbs_natCast, Nat.log2_two_pow]
theorem low_bit (i : Nat) (r : List Bool) : Builtin.bitAnd ((vB (List.replicate i false ++ true :: r) : Nat) : Int) (-((vB (List.replicate i false ++ true :: r) : Nat) : Int)) = ((2 ^ i : Nat) : Int) := by
  have hp : 0 < 2 ^ i := Nat.pos_of_ne_zero (by simp)
  have x1 : vB (List.replicate i false ++ true :: r) = (1 + 2 * vB r) * 2 ^ i := by
    rw [vB_append, vB_rep_f, List.length_replicate, Nat.zero_add]
    rfl
  have x2 : vB (List.replicate i true ++ false :: r) + 1 = 2 ^ i + (2 * vB r) * 2 ^ i := by
    rw [vB_append, List.length_replicate, Nat.add_right_comm, vB_rep_t]
    show 2 ^ i + (false.toNat + 2 * vB r) * 2 ^ i = _
    rw [show false.toNat = 0 from rfl, Nat.zero_add]
  have x3 : vB (List.replicate i false ++ false :: r) = (2 * vB r) * 2 ^ i := by
    rw [vB_append, vB_rep_f, List.length_replicate, Nat.zero_add]
    show (false.toNat + 2 * vB r) * 2 ^ i = _
    rw [show false.toNat = 0 from rfl, Nat.zero_add]
  rw [Nat.add_mul, Nat.one_mul] at x1
  have x4 : vB (List.replicate i false ++ true :: r) &&& vB (List.replicate i true ++ false :: r) = vB (List.replicate i false ++ false :: r) := by
    apply Nat.eq_of_testBit_eq
    intro j
    rw [Nat.testBit_and, vB_bit, vB_bit, vB_bit]
    simp only [List.getD_eq_getElem?_getD]
    by_cases h : j < i
    · rw [List.getElem?_append_left (by rw [List.length_replicate]; exact h), List.getElem?_append_left (by rw [List.length_replicate]; exact h), List.getElem?_append_left (by rw [List.length_replicate]; exact h), List.getElem?_replicate_of_lt h, List.getElem?_replicate_of_lt h]
      rfl
    · rw [List.getElem?_append_right (by rw [List.length_replicate]; omega), List.getElem?_append_right (by rw [List.length_replicate]; omega), List.getElem?_append_right (by rw [List.length_replicate]; omega)]
      simp only [List.length_replicate]
      cases j - i with
      | zero => rfl
      | succ m =>
        simp only [List.getElem?_cons_succ]
        rw [Bool.and_self]
  have px : ¬ (0 : Int) ≤ -((vB (List.replicate i false ++ true :: r) : Nat) : Int) := by omega
  rw [bitAnd_pn (by omega) px]
  have nn : (Builtin.bitNot (-((vB (List.replicate i false ++ true :: r) : Nat) : Int))).toNat = vB (List.replicate i true ++ false :: r) := by
    show (-(-((vB (List.replicate i false ++ true :: r) : Nat) : Int)) - 1).toNat = _
    omega
  rw [nn, Int.toNat_natCast, x4]
  omega
theorem high_bit (p : List Bool) (j : Nat) : Builtin.Int.intBits ((vB (p ++ true :: List.replicate j false) : Nat) : Int) = p.length + 1 := by
  have h1 := vB_lt p
  have e : vB (p ++ true :: List.replicate j false) = vB p + 2 ^ p.length := by
    rw [vB_append]
    show vB p + (true.toNat + 2 * vB (List.replicate j false)) * 2 ^ p.length = _
    rw [vB_rep_f]
    simp
  rw [e]
  unfold Builtin.Int.intBits
  rw [if_neg (by rw [beq_iff_eq]; omega), Int.natAbs_natCast]
  congr 1
  rw [Nat.log2_eq_iff (by omega)]
  refine ⟨by omega, ?_⟩
  rw [Nat.pow_succ]
  omega
/-- where windows differ -/
def dif (f g : Int → Bool) (a : Int) (n : Nat) : List Bool := xorL (win f a n) (win g a n)
theorem dif_get {f g : Int → Bool} {a : Int} {n k : Nat} (h : k < n) : (dif f g a n)[k]? = some (f (a + (k : Int)) ^^ g (a + (k : Int))) := by
  unfold dif xorL
  rw [List.getElem?_zipWith, win_get h, win_get h]
theorem dif_len (f g : Int → Bool) (a : Int) (n : Nat) : (dif f g a n).length = n := by
  unfold dif
  rw [xorL_len (by rw [win_len, win_len]), win_len]
theorem xor_ff {x y : Bool} : (x ^^ y) = false ↔ x = y := by cases x <;> cases y <;> decide
theorem xor_tt {x y : Bool} : (x ^^ y) = true ↔ x ≠ y := by cases x <;> cases y <;> decide
theorem dif_none {f g : Int → Bool} {a : Int} {n : Nat} (h : vB (dif f g a n) = 0) (w : Int) (h1 : a ≤ w) (h2 : w < a + n) : f w = g w := by
  have e := dif_get (f := f) (g := g) (a := a) (n := n) (k := (w - a).toNat) (by omega)
  rw [show a + (((w - a).toNat : Nat) : Int) = w by omega] at e
  exact xor_ff.mp (vB_zero.mp h _ (List.mem_of_getElem? e))
theorem dif_first {f g : Int → Bool} {a : Int} {n : Nat} (h : vB (dif f g a n) ≠ 0) : ∃ i : Nat, i < n ∧ f (a + i) ≠ g (a + i) ∧ (∀ w, a ≤ w → w < a + i → f w = g w) ∧ Builtin.Int.intBits (Builtin.bitAnd ((vB (dif f g a n) : Nat) : Int) (-((vB (dif f g a n) : Nat) : Int))) = i + 1 := by
  obtain ⟨i, r, e⟩ := first_true h
  have hn := dif_len f g a n
  rw [e, List.length_append, List.length_replicate, List.length_cons] at hn
  refine ⟨i, by omega, ?_, fun w h1 h2 => ?_, by rw [e, low_bit, bits_pow]⟩
  · have q := dif_get (f := f) (g := g) (a := a) (n := n) (k := i) (by omega)
    rw [e, List.getElem?_append_right (by rw [List.length_replicate]; omega), List.length_replicate, Nat.sub_self] at q
    exact xor_tt.mp (Option.some.inj q).symm
  · have q := dif_get (f := f) (g := g) (a := a) (n := n) (k := (w - a).toNat) (by omega)
    rw [show a + (((w - a).toNat : Nat) : Int) = w by omega, e, List.getElem?_append_left (by rw [List.length_replicate]; omega), List.getElem?_replicate_of_lt (by omega)] at q
    exact xor_ff.mp (Option.some.inj q).symm
theorem dif_last {f g : Int → Bool} {a : Int} {n : Nat} (h : vB (dif f g a n) ≠ 0) : ∃ i : Nat, i < n ∧ f (a + i) ≠ g (a + i) ∧ (∀ w, a + i < w → w < a + n → f w = g w) ∧ Builtin.Int.intBits ((vB (dif f g a n) : Nat) : Int) = i + 1 := by
  obtain ⟨p, j, e⟩ := last_true h
  have hn := dif_len f g a n
  rw [e, List.length_append, List.length_cons, List.length_replicate] at hn
  refine ⟨p.length, by omega, ?_, fun w h1 h2 => ?_, by rw [e, high_bit]⟩
  · have q := dif_get (f := f) (g := g) (a := a) (n := n) (k := p.length) (by omega)
    rw [e, List.getElem?_append_right (Nat.le_refl _), Nat.sub_self] at q
    exact xor_tt.mp (Option.some.inj q).symm
  · have q := dif_get (f := f) (g := g) (a := a) (n := n) (k := (w - a).toNat) (by omega)
    rw [show a + (((w - a).toNat : Nat) : Int) = w by omega, e, List.getElem?_append_right (by omega)] at q
    obtain ⟨m, hm⟩ : ∃ m, (w - a).toNat - p.length = m + 1 := ⟨(w - a).toNat - p.length - 1, by omega⟩
    rw [hm, List.getElem?_cons_succ, List.getElem?_replicate_of_lt (by omega)] at q
    exact xor_ff.mp (Option.some.inj q).symm
end LC
namespace LC
open PySem PyProof.Rows L2 Fx PM
theorem isF_int (i : Int) : isF (.int i) .non = some (.bl false) := rfl
theorem isF_non : isF .non .non = some (.bl true) := rfl
theorem isF_eO (o : Option Int) : isF (eO o) .non = some (.bl (decide (o = none))) := by cases o <;> rfl
theorem minD_int (i j : Int) : minD [.int i, .int j] = some (.int (if j < i then j else i)) := rfl
theorem bitsF_int {f : FE} {ρ : Rho} {T T' : Fx.Tm} {i : Int} (h : f ρ T = some (.int i, T')) : bitsF f ρ T = some (.int (Builtin.Int.intBits i), T') := by
  unfold bitsF
  rw [h, bindF_some]
local macro_rules | `(tactic| walk_at "wk") => `(tactic| simp only [runB, seqS, nilS, asgF, retF, ifS, ifE, testF, orT, andT, binF, varF, varO, constF, ofF, bindF_some, consF, nilF, callF, augF, appF, ownF, lstF, itU, tupF, unpF, brkS, negF, setN, tgD, blF, ixF, lenF, iiF_int, ctt_eq, eqD_int, neD_int, mulD_int, minD_int, isF_int, isF_non, isF_eO, addD_int,
  List.map_cons, List.map_nil, List.cons_append, List.nil_append, List.length_cons, List.length_nil, List.replicate_succ, List.replicate_zero, List.getElem?_cons_zero, List.getElem?_cons_succ, List.set_cons_zero, List.set_cons_succ, Option.map_some, if_true, Nat.reduceAdd, Nat.reduceSub, Bool.false_eq_true, if_false, *])
/-! ### pieces -/
def pcD (h : Option Int) (l : List Bool) : D := .tup [eO h, .int ((vB l : Nat) : Int), .int (l.length : Int)]
def pcsD (ps : List (Int × List Bool)) (z : List Bool) : List D := ps.map (fun p => pcD (some p.1) p.2) ++ [pcD none z]
def pm : List (Int × List Bool) → List Bool → Int → Bool
  | [], z, y => at_ z y
  | (h, l) :: ps, z, y => if y < h then at_ l y else pm ps z y
def Up : Int → List (Int × List Bool) → Prop
  | _, [] => True
  | low, (h, l) :: ps => low ≤ h ∧ l ≠ [] ∧ l.length ≤ 100000 ∧ Up h ps
theorem compared_run (w : Nat) (lo hi : Option Int) (T : Fx.Tm) : h_compared [.int (w : Int), eO lo, eO hi] T = some (.int (match lo, hi with
    | some a, some b => if b - a < (w : Int) then b - a else (w : Int)
    | _, _ => (w : Int)), T) := by
  unfold h_compared g_compared
  cases lo with
  | none => 
    cases hi <;> rfl
  | some a =>
    cases hi with
    | none => rfl
    | some b =>
      simp only [eO]
      walk_at "wk"
/-- how many numbers are compared -/
def nc (w : Nat) (low : Int) : Option Int → Nat
  | some h => if h - low < (w : Int) then (h - low).toNat else w
  | none => w
theorem nc_le (w : Nat) (low : Int) (h : Option Int) : nc w low h ≤ w := by
  cases h with
  | none => exact Nat.le_refl _
  | some h =>
    show (if h - low < (w : Int) then (h - low).toNat else w) ≤ w
    split <;> omega
theorem nc_run (w : Nat) (low : Int) (h : Option Int) (hh : ∀ x, h = some x → low ≤ x) (T : Fx.Tm) : h_compared [.int (w : Int), .int low, eO h] T = some (.int (nc w low h : Int), T) := by
  have e := compared_run w (some low) h T
  rw [show eO (some low) = D.int low from rfl] at e
  rw [e]
  cases h with
  | none => rfl
  | some x =>
    have := hh x rfl
    unfold nc
    simp only
    by_cases c : x - low < (w : Int)
    · rw [if_pos c, if_pos c, Int.toNat_of_nonneg (by omega)]
    · rw [if_neg c, if_neg c]
/-- what the comparison of a piece gives -/
theorem pc_cmp {l m : List Bool} (hl : l ≠ []) (hm : m ≠ []) {low : Int} {h : Option Int} (h0 : vB (dif (at_ l) (at_ m) low (nc (l.length + m.length) low h)) = 0) (y : Int) (h1 : low ≤ y) (h2 : ∀ x, h = some x → y < x) : at_ l y = at_ m y := by
  have hall : ∀ n : Nat, n = l.length + m.length → vB (dif (at_ l) (at_ m) low n) = 0 → at_ l = at_ m := fun n hn h0 =>
    fine (pos_len hl) (pos_len hm) at_per at_per low fun w a b => dif_none h0 w a (by omega)
  cases h with
  | none => rw [hall _ rfl h0]
  | some x =>
    unfold nc at h0
    simp only at h0
    have := h2 x rfl
    by_cases c : x - low < ((l.length + m.length : Nat) : Int)
    · rw [if_pos c] at h0
      exact dif_none h0 y h1 (by omega)
    · rw [if_neg c] at h0
      rw [hall _ rfl h0]
noncomputable abbrev fdBody : FS := (seqS (asgF 7 (callF h_compared (consF (binF addD (varF 6) (varF 2)) (consF (varF 3) (consF (varF 4) (nilF))))))
      (seqS (asgF 8 (binF xorD (callF h_window (consF (varF 5) (consF (varF 6) (consF (varF 3) (consF (varF 7) (nilF)))))) (callF h_window (consF (varF 1) (consF (varF 2) (consF (varF 3) (consF (varF 7) (nilF))))))))
      (seqS (ifS (testF (binF neD (varF 8) (constF (.int 0)))) (retF (ofF (binF subD (binF addD (varF 3) (bitsF (binF andD (varF 8) (negF (varF 8))))) (constF (.int 1))))) (nilS))
      (asgF 3 (varF 4)))))
/-- one turn -/
theorem fd_body {l m : List Bool} (hl : l ≠ []) (hm : m ≠ []) (s1 : l.length ≤ 100000) (s2 : m.length ≤ 100000) (low : Int) (h : Option Int) (hh : ∀ x, h = some x → low ≤ x) (x0 x7 x8 : Sl) (T : Fx.Tm) :
    fdBody [x0, .dat (.int ((vB m : Nat) : Int)), .dat (.int (m.length : Int)), .dat (.int low), .dat (eO h), .dat (.int ((vB l : Nat) : Int)), .dat (.int (l.length : Int)), x7, x8] T =
      (if vB (dif (at_ l) (at_ m) low (nc (l.length + m.length) low h)) = 0 then
        some (.nx [x0, .dat (.int ((vB m : Nat) : Int)), .dat (.int (m.length : Int)), .dat (eO h), .dat (eO h), .dat (.int ((vB l : Nat) : Int)), .dat (.int (l.length : Int)), .dat (.int (nc (l.length + m.length) low h : Int)), .dat (.int ((vB (dif (at_ l) (at_ m) low (nc (l.length + m.length) low h)) : Nat) : Int))], T)
      else some (.rt (.int (low + (Builtin.Int.intBits (Builtin.bitAnd ((vB (dif (at_ l) (at_ m) low (nc (l.length + m.length) low h)) : Nat) : Int) (-((vB (dif (at_ l) (at_ m) low (nc (l.length + m.length) low h)) : Nat) : Int))) : Int) - 1)), T)) := by
  have e1 := nc_run (l.length + m.length) low h hh T
  have hn := nc_le (l.length + m.length) low h
  rw [Int.natCast_add] at e1
  generalize nc (l.length + m.length) low h = n at *
  have e2 := window_run hl (by omega) low (n := n) (by omega) T
  have e3 := window_run hm (by omega) low (n := n) (by omega) T
  have e4 := xor_run (a := win (at_ l) low n) (b := win (at_ m) low n) (by rw [win_len, win_len])
  rw [show xorL (win (at_ l) low n) (win (at_ m) low n) = dif (at_ l) (at_ m) low n from rfl] at e4
  generalize vB (dif (at_ l) (at_ m) low n) = d at *
  by_cases c : d = 0
  · have e5 : decide ((d : Int) ≠ 0) = false := decide_eq_false (by omega)
    rw [if_pos c]
    clear hn hh s1 s2 hl hm c
    walk_at "wk"
  · have e5 : decide ((d : Int) ≠ 0) = true := decide_eq_true (by omega)
    rw [if_neg c]
    clear hn hh s1 s2 hl hm c
    walk_at "wk"
    unfold bitsF
    walk_at "wk"

/-- the loop over the pieces after the first -/
theorem fd_loop {m : List Bool} (hm : m ≠ []) (s2 : m.length ≤ 100000) {z : List Bool} (hz : z ≠ []) (sz : z.length ≤ 100000) (f : Int → Bool) (x0 : Sl) (T : Fx.Tm) : ∀ (ps : List (Int × List Bool)) (low : Int) (y4 y5 y6 y7 y8 : Sl), Up low ps → (∀ y, low ≤ y → f y = pm ps z y) → (∀ y, y < low → f y = at_ m y) →
    (∃ a, IsA f m a ∧ low ≤ a ∧ forL (.tp [4, 5, 6]) fdBody (pcsD ps z) [x0, .dat (.int ((vB m : Nat) : Int)), .dat (.int (m.length : Int)), .dat (.int low), y4, y5, y6, y7, y8] T = some (.rt (.int a), T)) ∨
    ((∀ y, f y = at_ m y) ∧ ∃ ρ', forL (.tp [4, 5, 6]) fdBody (pcsD ps z) [x0, .dat (.int ((vB m : Nat) : Int)), .dat (.int (m.length : Int)), .dat (.int low), y4, y5, y6, y7, y8] T = some (.nx ρ', T))
  | [], low, y4, y5, y6, y7, y8, hu, h1, h2 => by
    have e := fd_body hz hm sz s2 low none (fun x hx => by cases hx) x0 y7 y8 T
    by_cases c : vB (dif (at_ z) (at_ m) low (nc (z.length + m.length) low none)) = 0
    · rw [if_pos c] at e
      refine .inr ⟨fun y => ?_, ?_⟩
      · by_cases hy : y < low
        · exact h2 y hy
        · exact (h1 y (by omega)).trans (pc_cmp hz hm c y (by omega) fun x hx => by cases hx)
      · unfold pcsD pcD
        simp only [List.map_nil, List.nil_append]
        unfold forL
        simp only [tgD, setN, List.length_cons, List.length_nil, List.set_cons_zero, List.set_cons_succ, Nat.reduceAdd, Nat.reduceLT, if_true, e]
        exact ⟨_, rfl⟩
    · rw [if_neg c] at e
      obtain ⟨i, i1, i2, i3, i4⟩ := dif_first c
      rw [i4] at e
      refine .inl ⟨low + i, ⟨?_, fun w hw => ?_⟩, by omega, ?_⟩
      · rw [h1 (low + i) (by omega)]
        exact i2
      · by_cases hy : w < low
        · exact h2 w hy
        · exact (h1 w (by omega)).trans (i3 w (by omega) hw)
      · unfold pcsD pcD
        simp only [List.map_nil, List.nil_append]
        unfold forL
        simp only [tgD, setN, List.length_cons, List.length_nil, List.set_cons_zero, List.set_cons_succ, Nat.reduceAdd, Nat.reduceLT, if_true, e]
        congr 4
        omega
  | (h, l) :: ps, low, y4, y5, y6, y7, y8, hu, h1, h2 => by
    obtain ⟨u1, u2, u3, u4⟩ := hu
    have e := fd_body u2 hm u3 s2 low (some h) (fun x hx => by cases hx; exact u1) x0 y7 y8 T
    by_cases c : vB (dif (at_ l) (at_ m) low (nc (l.length + m.length) low (some h))) = 0
    · rw [if_pos c] at e
      have g1 : ∀ y, h ≤ y → f y = pm ps z y := fun y hy => by
        have := h1 y (by omega)
        unfold pm at this
        rw [if_neg (by omega)] at this
        exact this
      have g2 : ∀ y, y < h → f y = at_ m y := fun y hy => by
        by_cases hy2 : y < low
        · exact h2 y hy2
        · have := h1 y (by omega)
          unfold pm at this
          rw [if_pos hy] at this
          exact this.trans (pc_cmp u2 hm c y (by omega) fun x hx => by cases hx; exact hy)
      have ih := fd_loop hm s2 hz sz f x0 T ps h (.dat (.int h)) (.dat (.int ((vB l : Nat) : Int))) (.dat (.int (l.length : Int))) (.dat (.int (nc (l.length + m.length) low (some h) : Int))) (.dat (.int ((vB (dif (at_ l) (at_ m) low (nc (l.length + m.length) low (some h))) : Nat) : Int))) u4 g1 g2
      have st : forL (.tp [4, 5, 6]) fdBody (pcsD ((h, l) :: ps) z) [x0, .dat (.int ((vB m : Nat) : Int)), .dat (.int (m.length : Int)), .dat (.int low), y4, y5, y6, y7, y8] T
          = forL (.tp [4, 5, 6]) fdBody (pcsD ps z) [x0, .dat (.int ((vB m : Nat) : Int)), .dat (.int (m.length : Int)), .dat (.int h), .dat (.int h), .dat (.int ((vB l : Nat) : Int)), .dat (.int (l.length : Int)), .dat (.int (nc (l.length + m.length) low (some h) : Int)), .dat (.int ((vB (dif (at_ l) (at_ m) low (nc (l.length + m.length) low (some h))) : Nat) : Int))] T := by
        have q : pcsD ((h, l) :: ps) z = pcD (some h) l :: pcsD ps z := rfl
        rw [q]
        generalize pcsD ps z = rest
        unfold pcD
        conv => lhs; unfold forL
        simp only [tgD, setN, List.length_cons, List.length_nil, List.set_cons_zero, List.set_cons_succ, Nat.reduceAdd, Nat.reduceLT, if_true, e]
        rfl
      rw [st]
      rcases ih with ⟨a, a1, a2, a3⟩ | ih
      · exact .inl ⟨a, a1, by omega, a3⟩
      · exact .inr ih
    · rw [if_neg c] at e
      obtain ⟨i, i1, i2, i3, i4⟩ := dif_first c
      rw [i4] at e
      have hi : low + i < h := by
        have : nc (l.length + m.length) low (some h) ≤ (h - low).toNat := by
          unfold nc
          simp only
          split <;> omega
        omega
      have g : ∀ y, low ≤ y → y < h → f y = at_ l y := fun y a b => by
        have := h1 y a
        unfold pm at this
        rw [if_pos b] at this
        exact this
      refine .inl ⟨low + i, ⟨?_, fun w hw => ?_⟩, by omega, ?_⟩
      · rw [g (low + i) (by omega) hi]
        exact i2
      · by_cases hy : w < low
        · exact h2 w hy
        · exact (g w (by omega) (by omega)).trans (i3 w (by omega) hw)
      · have q : pcsD ((h, l) :: ps) z = pcD (some h) l :: pcsD ps z := rfl
        rw [q]
        generalize pcsD ps z = rest
        unfold pcD
        unfold forL
        simp only [tgD, setN, List.length_cons, List.length_nil, List.set_cons_zero, List.set_cons_succ, Nat.reduceAdd, Nat.reduceLT, if_true, e]
        congr 4
        omega
end LC
namespace LC
open PySem PyProof.Rows L2 Fx PM
local macro_rules | `(tactic| walk_at "wk") => `(tactic| simp only [runB, seqS, nilS, asgF, retF, ifS, ifE, testF, orT, andT, binF, varF, varO, constF, ofF, bindF_some, consF, nilF, callF, augF, appF, ownF, lstF, itU, tupF, unpF, brkS, negF, setN, tgD, blF, ixF, lenF, forS, iiF_int, ctt_eq, eqD_int, neD_int, mulD_int, minD_int, isF_int, isF_non, isF_eO, addD_int,
  List.map_cons, List.map_nil, List.cons_append, List.nil_append, List.length_cons, List.length_nil, List.replicate_succ, List.replicate_zero, List.getElem?_cons_zero, List.getElem?_cons_succ, List.set_cons_zero, List.set_cons_succ, Option.map_some, if_true, Nat.reduceAdd, Nat.reduceSub, Bool.false_eq_true, if_false, *])
theorem cut1 (d : D) (ds : List D) : Fx.cutD (d :: ds) (some 1) none = ds := by
  unfold Fx.cutD
  rw [HT.sIx_none, show HT.sIx (d :: ds).length 0 (some 1) = 1 by unfold HT.sIx; simp]
  simp
theorem pcsD_len (ps : List (Int × List Bool)) (z : List Bool) : (pcsD ps z).length = ps.length + 1 := by
  unfold pcsD
  rw [List.length_append, List.length_map, List.length_singleton]
theorem fd_run {h0 : Int} {l0 m z : List Bool} {ps : List (Int × List Bool)} (hm : m ≠ []) (s2 : m.length ≤ 100000) (hz : z ≠ []) (sz : z.length ≤ 100000) (hu : Up h0 ps) (hl : at_ l0 = at_ m) (T : Fx.Tm) :
    ∃ o : Option Int, h_first_difference [.lst (pcsD ((h0, l0) :: ps) z), .int ((vB m : Nat) : Int), .int (m.length : Int)] T = some (eO o, T) ∧
      match o with
      | some a => IsA (pm ((h0, l0) :: ps) z) m a ∧ h0 ≤ a
      | none => ∀ y, pm ((h0, l0) :: ps) z y = at_ m y := by
  have q : pcsD ((h0, l0) :: ps) z = pcD (some h0) l0 :: pcsD ps z := rfl
  have k := fd_loop hm s2 hz sz (pm ((h0, l0) :: ps) z) (.dat (.lst (pcsD ((h0, l0) :: ps) z))) T ps h0 .un .un .un .un .un hu (fun y hy => by
      show (if y < h0 then at_ l0 y else pm ps z y) = _
      rw [if_neg (by omega)]) (fun y hy => by
      show (if y < h0 then at_ l0 y else pm ps z y) = _
      rw [if_pos hy, hl])
  have e1 : ixD T (.val (.lst (pcsD ((h0, l0) :: ps) z))) (.int 0) = some (pcD (some h0) l0) := by
    rw [ixD_lst, q]
    exact ix0 _ _
  have e2 : ixD T (.val (pcD (some h0) l0)) (.int 0) = some (.int h0) := ix0 _ _
  have e3 : slF (varO 0) (bSo (constF (.int 1))) bNo [.dat (.lst (pcsD ((h0, l0) :: ps) z)), .dat (.int ((vB m : Nat) : Int)), .dat (.int (m.length : Int)), .dat (.int h0), .un, .un, .un, .un, .un] T = some (.lst (pcsD ps z), T) := by
    have e : slD T (.val (.lst (pcsD ((h0, l0) :: ps) z))) (some 1) none = some (.lst (pcsD ps z)) := by
      unfold slD
      rw [seqD_lst, q]
      show some (D.lst (Fx.cutD (pcD (some h0) l0 :: pcsD ps z) (some 1) none)) = _
      rw [cut1]
    simp only [slF, bSo, bNo, varO, constF, bindF_some, List.getElem?_cons_zero, e, Option.map_some]
  generalize pcsD ((h0, l0) :: ps) z = d0 at *
  generalize pcD (some h0) l0 = d1 at *
  generalize pm ((h0, l0) :: ps) z = f at *
  clear q hu hl
  rcases k with ⟨a, a1, a2, a3⟩ | ⟨a1, ρ', a3⟩
  · refine ⟨some a, ?_, a1, a2⟩
    unfold h_first_difference g_first_difference
    clear a1 a2 hm s2 hz sz
    walk_at "wk"
    rfl
  · refine ⟨none, ?_, a1⟩
    unfold h_first_difference g_first_difference
    clear a1 hm s2 hz sz
    walk_at "wk"
    rfl

/-! ### the last difference -/
/-- the height before the piece k -/
def hb (ps : List (Int × List Bool)) (k : Nat) : Option Int := if k = 0 then none else (ps[k - 1]?).map (·.1)
theorem pm_low : ∀ (ps : List (Int × List Bool)) (z : List Bool) (lo : Int) (k : Nat) (h : Int) (l : List Bool), Up lo ps → ps[k]? = some (h, l) → ∀ y, (∀ x, hb ps k = some x → x ≤ y) → y < h → pm ps z y = at_ l y
  | [], z, lo, k, h, l, hu, hk, y, _, _ => by simp at hk
  | (h1, l1) :: ps, z, lo, 0, h, l, hu, hk, y, _, hy => by
    rw [List.getElem?_cons_zero] at hk
    cases hk
    show (if y < h1 then at_ l1 y else pm ps z y) = _
    rw [if_pos hy]
  | (h1, l1) :: ps, z, lo, k + 1, h, l, hu, hk, y, hx, hy => by
    rw [List.getElem?_cons_succ] at hk
    have key : ∀ (x : Int), h1 ≤ y → pm ((h1, l1) :: ps) z y = pm ps z y := fun _ hle => by
      show (if y < h1 then at_ l1 y else pm ps z y) = _
      rw [if_neg (by omega)]
    have hk0 : ∀ x, hb ps k = some x → x ≤ y := fun x hx2 => by
      refine hx x ?_
      unfold hb at hx2 ⊢
      rw [if_neg (by omega)]
      cases k with
      | zero => simp at hx2
      | succ k =>
        rw [if_neg (by omega)] at hx2
        exact hx2
    have h1y : h1 ≤ y := by
      cases k with
      | zero => exact hx h1 rfl
      | succ k =>
        have hlt : k < ps.length := by
          have := (List.getElem?_eq_some_iff.mp hk).1
          omega
        have a := hk0 (ps[k]).1 (by unfold hb; rw [if_neg (by omega), Nat.add_sub_cancel, List.getElem?_eq_getElem hlt]; rfl)
        have up : ∀ (qs : List (Int × List Bool)) (lo : Int) (j : Nat) (hj : j < qs.length), Up lo qs → lo ≤ (qs[j]).1 := by
          intro qs
          induction qs with
          | nil => intro lo j hj; simp at hj
          | cons q qs ih =>
            intro lo j hj hq
            obtain ⟨u1, u2, u3, u4⟩ := hq
            cases j with
            | zero => exact u1
            | succ j =>
              have := ih _ j (by simpa using hj) u4
              simp only [List.getElem_cons_succ]
              omega
        have := up ps h1 k hlt hu.2.2.2
        omega
    rw [key 0 h1y]
    exact pm_low ps z h1 k h l hu.2.2.2 hk y hk0 hy
theorem pm_end : ∀ (ps : List (Int × List Bool)) (z : List Bool) (lo : Int), Up lo ps → ∀ y, (∀ x, hb ps ps.length = some x → x ≤ y) → lo ≤ y ∨ ps ≠ [] → pm ps z y = at_ z y
  | [], z, lo, hu, y, _, _ => rfl
  | (h1, l1) :: ps, z, lo, hu, y, hx, _ => by
    obtain ⟨u1, u2, u3, u4⟩ := hu
    have h1y : h1 ≤ y ∧ (∀ x, hb ps ps.length = some x → x ≤ y) := by
      cases ps with
      | nil => exact ⟨hx h1 rfl, fun x h => by simp [hb] at h⟩
      | cons q qs =>
        have e : hb ((h1, l1) :: q :: qs) ((h1, l1) :: q :: qs).length = hb (q :: qs) (q :: qs).length := by
          unfold hb
          rw [if_neg (by simp), if_neg (by simp)]
          simp only [List.length_cons, Nat.add_sub_cancel, List.getElem?_cons_succ]
        rw [e] at hx
        have lt : (q :: qs).length - 1 < (q :: qs).length := by simp
        have a := hx ((q :: qs)[(q :: qs).length - 1]).1 (by unfold hb; rw [if_neg (by simp), List.getElem?_eq_getElem lt]; rfl)
        have up : ∀ (qs : List (Int × List Bool)) (lo : Int) (j : Nat) (hj : j < qs.length), Up lo qs → lo ≤ (qs[j]).1 := by
          intro qs
          induction qs with
          | nil => intro lo j hj; simp at hj
          | cons q qs ih =>
            intro lo j hj hq
            obtain ⟨u1, u2, u3, u4⟩ := hq
            cases j with
            | zero => exact u1
            | succ j =>
              have := ih _ j (by simpa using hj) u4
              simp only [List.getElem_cons_succ]
              omega
        have := up (q :: qs) h1 _ lt u4
        exact ⟨by omega, hx⟩
    show (if y < h1 then at_ l1 y else pm ps z y) = _
    rw [if_neg (by omega)]
    exact pm_end ps z h1 u4 y h1y.2 (.inl h1y.1)

noncomputable abbrev ldBody : FS := (seqS (unpF (.tp [7, 8, 9]) (ixF (varO 0) (varF 3)))
      (seqS (asgF 4 (callF h_compared (consF (binF addD (varF 9) (varF 2)) (consF (ifE (testF (binF gtD (varF 3) (constF (.int 0)))) (ixF (ofF (ixF (varO 0) (binF subD (varF 3) (constF (.int 1))))) (constF (.int 0))) (constF .non)) (consF (varF 7) (nilF))))))
      (seqS (asgF 5 (binF subD (varF 7) (varF 4)))
      (seqS (asgF 6 (binF xorD (callF h_window (consF (varF 8) (consF (varF 9) (consF (varF 5) (consF (varF 4) (nilF)))))) (callF h_window (consF (varF 1) (consF (varF 2) (consF (varF 5) (consF (varF 4) (nilF))))))))
      (ifS (testF (binF neD (varF 6) (constF (.int 0)))) (retF (ofF (binF subD (binF addD (varF 5) (bitsF (varF 6))) (constF (.int 1))))) (nilS))))))
/-- how many numbers are compared below h -/
def nd (w : Nat) (lo : Option Int) (h : Int) : Nat := match lo with
  | some a => if h - a < (w : Int) then (h - a).toNat else w
  | none => w
theorem nd_le (w : Nat) (lo : Option Int) (h : Int) : nd w lo h ≤ w := by
  cases lo with
  | none => exact Nat.le_refl _
  | some a =>
    show (if h - a < (w : Int) then (h - a).toNat else w) ≤ w
    split <;> omega
theorem nd_run (w : Nat) (lo : Option Int) (h : Int) (hh : ∀ x, lo = some x → x ≤ h) (T : Fx.Tm) : h_compared [.int (w : Int), eO lo, .int h] T = some (.int (nd w lo h : Int), T) := by
  have e := compared_run w lo (some h) T
  rw [show eO (some h) = D.int h from rfl] at e
  rw [e]
  cases lo with
  | none => rfl
  | some x =>
    have := hh x rfl
    unfold nd
    simp only
    by_cases c : h - x < (w : Int)
    · rw [if_pos c, if_pos c, Int.toNat_of_nonneg (by omega)]
    · rw [if_neg c, if_neg c]
theorem pd_cmp {l m : List Bool} (hl : l ≠ []) (hm : m ≠ []) {h : Int} {lo : Option Int} (h0 : vB (dif (at_ l) (at_ m) (h - (nd (l.length + m.length) lo h : Int)) (nd (l.length + m.length) lo h)) = 0) (y : Int) (h1 : y < h) (h2 : ∀ x, lo = some x → x ≤ y) : at_ l y = at_ m y := by
  have hall : ∀ n : Nat, n = l.length + m.length → vB (dif (at_ l) (at_ m) (h - (n : Int)) n) = 0 → at_ l = at_ m := fun n hn h0 =>
    fine (pos_len hl) (pos_len hm) at_per at_per (h - (n : Int)) fun w a b => dif_none h0 w a (by omega)
  cases lo with
  | none => rw [hall _ rfl h0]
  | some x =>
    unfold nd at h0
    simp only at h0
    have := h2 x rfl
    by_cases c : h - x < ((l.length + m.length : Nat) : Int)
    · rw [if_pos c] at h0
      exact dif_none h0 y (by omega) (by omega)
    · rw [if_neg c] at h0
      rw [hall _ rfl h0]
/-- one turn: the piece k -/
theorem ld_body {l m : List Bool} (hl : l ≠ []) (hm : m ≠ []) (s1 : l.length ≤ 100000) (s2 : m.length ≤ 100000) (ds : List D) (k : Nat) (lo : Option Int) (h : Int) (hh : ∀ x, lo = some x → x ≤ h) (x4 x5 x6 x7 x8 x9 : Sl) (T : Fx.Tm)
    (g1 : ixD T (.val (.lst ds)) (.int (k : Int)) = some (pcD (some h) l)) (g2 : k = 0 → lo = none) (g3 : k ≠ 0 → ∃ a l', lo = some a ∧ ixD T (.val (.lst ds)) (.int ((k : Int) - 1)) = some (pcD (some a) l')) :
    ∃ y4 y5 y6 y7 y8 y9 : Sl, ldBody [.dat (.lst ds), .dat (.int ((vB m : Nat) : Int)), .dat (.int (m.length : Int)), .dat (.int (k : Int)), x4, x5, x6, x7, x8, x9] T =
      (if vB (dif (at_ l) (at_ m) (h - (nd (l.length + m.length) lo h : Int)) (nd (l.length + m.length) lo h)) = 0 then
        some (.nx [.dat (.lst ds), .dat (.int ((vB m : Nat) : Int)), .dat (.int (m.length : Int)), .dat (.int (k : Int)), y4, y5, y6, y7, y8, y9], T)
      else some (.rt (.int (h - (nd (l.length + m.length) lo h : Int) + (Builtin.Int.intBits ((vB (dif (at_ l) (at_ m) (h - (nd (l.length + m.length) lo h : Int)) (nd (l.length + m.length) lo h)) : Nat) : Int) : Int) - 1)), T)) := by
  have e1 := nd_run (l.length + m.length) lo h hh T
  have hn := nd_le (l.length + m.length) lo h
  rw [Int.natCast_add] at e1
  generalize nd (l.length + m.length) lo h = n at *
  have e2 := window_run hl (by omega) (h - (n : Int)) (n := n) (by omega) T
  have e3 := window_run hm (by omega) (h - (n : Int)) (n := n) (by omega) T
  have e4 := xor_run (a := win (at_ l) (h - (n : Int)) n) (b := win (at_ m) (h - (n : Int)) n) (by rw [win_len, win_len])
  rw [show xorL (win (at_ l) (h - (n : Int)) n) (win (at_ m) (h - (n : Int)) n) = dif (at_ l) (at_ m) (h - (n : Int)) n from rfl] at e4
  generalize vB (dif (at_ l) (at_ m) (h - (n : Int)) n) = d at *
  have g4 : pcD (some h) l = D.tup [.int h, .int ((vB l : Nat) : Int), .int (l.length : Int)] := rfl
  rw [g4] at g1
  clear g4
  refine ⟨.dat (.int (n : Int)), .dat (.int (h - (n : Int))), .dat (.int (d : Int)), .dat (.int h), .dat (.int ((vB l : Nat) : Int)), .dat (.int (l.length : Int)), ?_⟩
  have key : ∃ e : D, e = eO lo ∧ ifE (testF (binF gtD (varF 3) (constF (.int 0)))) (ixF (ofF (ixF (varO 0) (binF subD (varF 3) (constF (.int 1))))) (constF (.int 0))) (constF .non) [.dat (.lst ds), .dat (.int ((vB m : Nat) : Int)), .dat (.int (m.length : Int)), .dat (.int (k : Int)), x4, x5, x6, .dat (.int h), .dat (.int ((vB l : Nat) : Int)), .dat (.int (l.length : Int))] T = some (e, T) := by
    refine ⟨_, rfl, ?_⟩
    by_cases c : k = 0
    · have e5 : decide ((0 : Int) < (k : Int)) = false := decide_eq_false (by omega)
      rw [g2 c]
      clear g1 g2 g3 e1 e2 e3 e4 hn c hl hm s1 s2 hh
      walk_at "wk"
      rfl
    · have e5 : decide ((0 : Int) < (k : Int)) = true := decide_eq_true (by omega)
      obtain ⟨a, l', r1, r2⟩ := g3 c
      rw [r1]
      have r3 : ixD T (.val (pcD (some a) l')) (.int 0) = some (.int a) := ix0 _ _
      clear g1 g2 g3 e1 e2 e3 e4 hn c hl hm s1 s2 hh r1
      walk_at "wk"
      rfl
  obtain ⟨e, q1, q2⟩ := key
  rw [← q1] at e1
  clear q1 g2 g3
  by_cases c : d = 0
  · have e5 : decide ((d : Int) ≠ 0) = false := decide_eq_false (by omega)
    rw [if_pos c]
    clear hn hh s1 s2 hl hm c
    simp only [seqS, nilS, asgF, retF, ifS, testF, binF, varF, varO, constF, ofF, bindF_some, consF, nilF, callF, unpF, setN, tgD, ixF, iiF_int, ctt_eq, neD_int, addD_int, List.length_cons, List.length_nil, List.getElem?_cons_zero, List.getElem?_cons_succ, List.set_cons_zero, List.set_cons_succ, Option.map_some, if_true, Nat.reduceAdd, Bool.false_eq_true, if_false, e1, e2, e3, e4, e5, g1, q2]
  · have e5 : decide ((d : Int) ≠ 0) = true := decide_eq_true (by omega)
    rw [if_neg c]
    clear hn hh s1 s2 hl hm c
    simp only [seqS, nilS, asgF, retF, ifS, testF, binF, varF, varO, constF, ofF, bindF_some, consF, nilF, callF, unpF, setN, tgD, ixF, bitsF, iiF_int, ctt_eq, neD_int, addD_int, List.length_cons, List.length_nil, List.getElem?_cons_zero, List.getElem?_cons_succ, List.set_cons_zero, List.set_cons_succ, Option.map_some, if_true, Nat.reduceAdd, Bool.false_eq_true, if_false, e1, e2, e3, e4, e5, g1, q2]
end LC
namespace LC
open PySem PyProof.Rows L2 Fx PM
def dn (n : Nat) : List D := (List.range n).map fun (k : Nat) => .int ((n : Int) - 1 - (k : Int))
theorem dn_succ (n : Nat) : dn (n + 1) = .int (n : Int) :: dn n := by
  unfold dn
  rw [List.range_succ_eq_map, List.map_cons, List.map_map]
  congr 1
  · congr 1
    omega
  · apply List.map_congr_left
    intro k _
    show D.int _ = D.int _
    congr 1
    push_cast
    omega
theorem up_get : ∀ {ps : List (Int × List Bool)} {lo : Int} {j : Nat} {h : Int} {l : List Bool}, Up lo ps → ps[j]? = some (h, l) → l ≠ [] ∧ l.length ≤ 100000 ∧ lo ≤ h ∧ ∀ x, hb ps j = some x → x ≤ h
  | [], _, _, _, _, _, hk => by simp at hk
  | (h1, l1) :: ps, lo, 0, h, l, hu, hk => by
    rw [List.getElem?_cons_zero] at hk
    cases hk
    exact ⟨hu.2.1, hu.2.2.1, hu.1, fun x hx => by simp [hb] at hx⟩
  | (h1, l1) :: ps, lo, j + 1, h, l, hu, hk => by
    rw [List.getElem?_cons_succ] at hk
    obtain ⟨a, b, c, d⟩ := up_get hu.2.2.2 hk
    refine ⟨a, b, by have := hu.1; omega, fun x hx => ?_⟩
    unfold hb at hx
    rw [if_neg (by omega)] at hx
    cases j with
    | zero =>
      simp at hx
      omega
    | succ j =>
      refine d x ?_
      unfold hb
      rw [if_neg (by omega)]
      simpa using hx
theorem ix_pcs {ps : List (Int × List Bool)} {z : List Bool} {j : Nat} {h : Int} {l : List Bool} (T : Fx.Tm) (hk : ps[j]? = some (h, l)) : ixD T (.val (.lst (pcsD ps z))) (.int (j : Int)) = some (pcD (some h) l) := by
  have hj := (List.getElem?_eq_some_iff.mp hk).1
  rw [ixD_lst, atI_nn (by omega) (by rw [pcsD_len]; omega), Int.toNat_natCast]
  unfold pcsD
  rw [List.getElem?_append_left (by rw [List.length_map]; exact hj), List.getElem?_map, hk]
  rfl
theorem ld_loop {m : List Bool} (hm : m ≠ []) (s2 : m.length ≤ 100000) {z : List Bool} {ps : List (Int × List Bool)} {lo : Int} (hu : Up lo ps) (T : Fx.Tm) : ∀ (j : Nat) (x3 x4 x5 x6 x7 x8 x9 : Sl), j ≤ ps.length → (∀ y, (∀ x, hb ps j = some x → x ≤ y) → pm ps z y = at_ m y) →
    (∃ b, IsB (pm ps z) m b ∧ (∀ x, hb ps j = some x → b ≤ x) ∧ forL (.nm 3) ldBody (dn j) [.dat (.lst (pcsD ps z)), .dat (.int ((vB m : Nat) : Int)), .dat (.int (m.length : Int)), x3, x4, x5, x6, x7, x8, x9] T = some (.rt (.int (b - 1)), T)) ∨
    ((∀ y, pm ps z y = at_ m y) ∧ ∃ ρ', forL (.nm 3) ldBody (dn j) [.dat (.lst (pcsD ps z)), .dat (.int ((vB m : Nat) : Int)), .dat (.int (m.length : Int)), x3, x4, x5, x6, x7, x8, x9] T = some (.nx ρ', T))
  | 0, x3, x4, x5, x6, x7, x8, x9, hj, h1 => .inr ⟨fun y => h1 y fun x hx => by simp [hb] at hx, _, rfl⟩
  | j + 1, x3, x4, x5, x6, x7, x8, x9, hj, h1 => by
    obtain ⟨⟨h, l⟩, hk⟩ : ∃ p, ps[j]? = some p := ⟨_, List.getElem?_eq_getElem (by omega)⟩
    obtain ⟨u1, u2, u3, u4⟩ := up_get hu hk
    have hbj : hb ps (j + 1) = some h := by
      unfold hb
      rw [if_neg (by omega), Nat.add_sub_cancel, hk]
      rfl
    have top : ∀ y, h ≤ y → pm ps z y = at_ m y := fun y hy => h1 y fun x hx => by
      rw [hbj] at hx
      cases hx
      exact hy
    obtain ⟨y4, y5, y6, y7, y8, y9, e⟩ := ld_body u1 hm u2 s2 (pcsD ps z) j (hb ps j) h u4 x4 x5 x6 x7 x8 x9 T (ix_pcs T hk) (fun q => by subst q; rfl) (fun q => by
      obtain ⟨⟨a, l'⟩, hk'⟩ : ∃ p, ps[j - 1]? = some p := ⟨_, List.getElem?_eq_getElem (by omega)⟩
      refine ⟨a, l', ?_, ?_⟩
      · unfold hb
        rw [if_neg q, hk']
        rfl
      · have := ix_pcs (z := z) T hk'
        rw [show ((j - 1 : Nat) : Int) = (j : Int) - 1 by omega] at this
        exact this)
    have st : ∀ r, ldBody [.dat (.lst (pcsD ps z)), .dat (.int ((vB m : Nat) : Int)), .dat (.int (m.length : Int)), .dat (.int (j : Int)), x4, x5, x6, x7, x8, x9] T = some r → forL (.nm 3) ldBody (dn (j + 1)) [.dat (.lst (pcsD ps z)), .dat (.int ((vB m : Nat) : Int)), .dat (.int (m.length : Int)), x3, x4, x5, x6, x7, x8, x9] T =
        (match (some r : Option (Rz × Fx.Tm)) with
        | some (.nx ρ2, T2) => forL (.nm 3) ldBody (dn j) ρ2 T2
        | some (.ct ρ2, T2) => forL (.nm 3) ldBody (dn j) ρ2 T2
        | some (.bk ρ2, T2) => some (.nx ρ2, T2)
        | some (.rt d, T2) => some (.rt d, T2)
        | none => none) := fun r hr => by
      rw [dn_succ]
      conv => lhs; unfold forL
      rw [← hr]
      rfl
    have hw := nd_le (l.length + m.length) (hb ps j) h
    by_cases c : vB (dif (at_ l) (at_ m) (h - (nd (l.length + m.length) (hb ps j) h : Int)) (nd (l.length + m.length) (hb ps j) h)) = 0
    · rw [if_pos c] at e
      rw [st _ e]
      refine (ld_loop hm s2 hu T j (.dat (.int (j : Int))) y4 y5 y6 y7 y8 y9 (by omega) fun y hy => ?_).imp ?_ id
      · by_cases hy2 : y < h
        · rw [pm_low ps z lo j h l hu hk y hy hy2]
          exact pd_cmp u1 hm c y hy2 hy
        · exact top y (by omega)
      · rintro ⟨b, b1, b2, b3⟩
        refine ⟨b, b1, fun x hx => ?_, b3⟩
        rw [hbj] at hx
        cases hx
        refine Classical.byContradiction fun g => b1.1 (top (b - 1) (by omega))
    · rw [if_neg c] at e
      obtain ⟨i, i1, i2, i3, i4⟩ := dif_last c
      rw [i4] at e
      have lw : ∀ w, h - (nd (l.length + m.length) (hb ps j) h : Int) ≤ w → w < h → pm ps z w = at_ l w := fun w w1 w2 => by
        refine pm_low ps z lo j h l hu hk w (fun x hx => ?_) w2
        have := u4 x hx
        rw [hx] at w1
        unfold nd at w1
        simp only at w1
        split at w1 <;> omega
      refine .inl ⟨h - (nd (l.length + m.length) (hb ps j) h : Int) + i + 1, ⟨?_, fun w hw2 => ?_⟩, fun x hx => ?_, ?_⟩
      · rw [show h - (nd (l.length + m.length) (hb ps j) h : Int) + i + 1 - 1 = h - (nd (l.length + m.length) (hb ps j) h : Int) + i by omega, lw _ (by omega) (by omega)]
        exact i2
      · by_cases hy2 : w < h
        · rw [lw w (by omega) hy2]
          exact i3 w (by omega) (by omega)
        · exact top w (by omega)
      · rw [hbj] at hx
        cases hx
        omega
      · rw [st _ e]
        simp only
        congr 4
        omega
end LC
namespace LC
open PySem PyProof.Rows L2 Fx PM
local macro_rules | `(tactic| walk_at "wk") => `(tactic| simp only [runB, seqS, nilS, asgF, retF, ifS, ifE, testF, orT, andT, binF, varF, varO, constF, ofF, bindF_some, consF, nilF, callF, augF, appF, ownF, lstF, itU, tupF, unpF, brkS, negF, setN, tgD, blF, ixF, lenF, forS, m1F, iiF_int, ctt_eq, eqD_int, neD_int, mulD_int, minD_int, isF_int, isF_non, isF_eO, addD_int, lenD_lst,
  List.map_cons, List.map_nil, List.cons_append, List.nil_append, List.length_cons, List.length_nil, List.replicate_succ, List.replicate_zero, List.getElem?_cons_zero, List.getElem?_cons_succ, List.set_cons_zero, List.set_cons_succ, Option.map_some, if_true, Nat.reduceAdd, Nat.reduceSub, Bool.false_eq_true, if_false, *])
theorem rng3_dn {fs : FA} {ρ : Rho} {T : Fx.Tm} {n : Nat} (hn : n < 1000000) (h : fs ρ T = some ([.int ((n : Int) - 1), .int (-1), .int (-1)], T)) : rng3 fs ρ T = some (dn n, T) := by
  have r := RgC.neg (i := (n : Int) - 1) (j := -1) (by omega) (by omega) (by omega) (by omega)
  have e : (Builtin.Range.rangeSize ((n : Int) - 1) (-1) (-1)).toNat = n := by
    rw [r.2.2.2, Int.toNat_natCast]
    omega
  have hc : dc (RgC ((n : Int) - 1) (-1) (-1) (Builtin.Range.rangeSize ((n : Int) - 1) (-1) (-1)).toNat) = true := dc_of (by
    rw [e]
    have : ((n : Int) - 1 - -1).toNat = n := by omega
    rw [this] at r
    exact r)
  unfold rng3
  rw [h, bindF_some]
  show (if dc (RgC ((n : Int) - 1) (-1) (-1) (Builtin.Range.rangeSize ((n : Int) - 1) (-1) (-1)).toNat) = true then some (rngD ((n : Int) - 1) (-1) (Builtin.Range.rangeSize ((n : Int) - 1) (-1) (-1)).toNat, T) else none) = _
  rw [if_pos hc, e]
  congr 2
  unfold rngD dn
  apply List.map_congr_left
  intro k _
  show D.int _ = D.int _
  congr 1
  omega
theorem ld_run {m z : List Bool} {ps : List (Int × List Bool)} {lo : Int} (hm : m ≠ []) (s2 : m.length ≤ 100000) (hu : Up lo ps) (hp : ps ≠ []) (hn : ps.length < 1000000) (hz : at_ z = at_ m) (T : Fx.Tm) :
    ∃ o : Option Int, h_last_difference [.lst (pcsD ps z), .int ((vB m : Nat) : Int), .int (m.length : Int)] T = some (eO o, T) ∧
      match o with
      | some b => IsB (pm ps z) m (b + 1) ∧ ∀ x, hb ps ps.length = some x → b + 1 ≤ x
      | none => ∀ y, pm ps z y = at_ m y := by
  have k := ld_loop hm s2 hu T ps.length .un .un .un .un .un .un .un (Nat.le_refl _) (z := z) (fun y hy => by
    rw [← hz]
    exact pm_end ps z lo hu y hy (.inr hp))
  have e1 : rng3 (consF (binF subD (lenF (varO 0)) (constF (.int 2))) (consF (negF (constF (.int 1))) (consF (negF (constF (.int 1))) (nilF)))) [.dat (.lst (pcsD ps z)), .dat (.int ((vB m : Nat) : Int)), .dat (.int (m.length : Int)), .un, .un, .un, .un, .un, .un, .un] T = some (dn ps.length, T) := by
    refine rng3_dn hn ?_
    have e : ((pcsD ps z).length : Int) - 2 = (ps.length : Int) - 1 := by rw [pcsD_len]; omega
    clear k
    walk_at "wk"
  rcases k with ⟨b, b1, b2, b3⟩ | ⟨b1, ρ', b3⟩
  · refine ⟨some (b - 1), ?_, ?_⟩
    · unfold h_last_difference g_last_difference
      clear b1 b2 hm s2 hu hp hn hz
      walk_at "wk"
      rfl
    · show IsB (pm ps z) m (b - 1 + 1) ∧ ∀ x, hb ps ps.length = some x → b - 1 + 1 ≤ x
      rw [Int.sub_add_cancel]
      exact ⟨b1, b2⟩
  · refine ⟨none, ?_, b1⟩
    unfold h_last_difference g_last_difference
    clear b1 hm s2 hu hp hn hz
    walk_at "wk"
    rfl
/-! ### the middle -/
theorem join_sB (ws : List (List Bool)) : Txt.join (Str.ofString "") ((ws.map sB).reverse) = sB ws.flatten := by
  have := glued_list ((ws.map sB).reverse)
  have q : ((ws.map sB).reverse.map fun z => z.cps.toList).flatten = ws.flatten.reverse.map chB := by
    clear this
    induction ws with
    | nil => rfl
    | cons w ws ih =>
      rw [List.map_cons, List.reverse_cons, List.map_append, List.flatten_append, ih, List.flatten_cons, List.reverse_append, List.map_append]
      congr 1
      simp [sB]
  rw [q] at this
  cases hz : Txt.join (Str.ofString "") ((ws.map sB).reverse) with
  | mk c =>
    rw [hz] at this
    show Str.mk c = Str.mk _
    congr 1
    exact Array.ext' (by rw [List.toList_toArray]; exact this)
theorem sum_sB : ∀ ws : List (List Bool), ((ws.map sB).map fun x => x.length).sum = ws.flatten.length
  | [] => rfl
  | w :: ws => by
    rw [List.map_cons, List.map_cons, List.sum_cons, sum_sB ws, List.flatten_cons, List.length_append, sB_len]
theorem joinD_sB (ws : List (List Bool)) (h : ws.flatten.length ≤ 640) : joinD (Str.ofString "") (.lst ((ws.map fun w => D.str (sB w)).reverse)) = some (.str (sB ws.flatten)) := by
  have e2 : txts ((ws.map fun w => D.str (sB w)).reverse) = some ((ws.map sB).reverse) := by
    have := txts_map ((ws.map sB).reverse)
    rw [← this]
    congr 1
    rw [List.map_reverse, List.map_map]
    rfl
  have e4 : dc ((((ws.map sB).reverse.map fun x => x.length).sum + (ws.map sB).reverse.length * (Str.ofString "").length ≤ 16777216)) = true := dc_of (by
    have z : (Str.ofString "").length = 0 := by decide +kernel
    have s1 : ((ws.map sB).reverse.map fun x => x.length).sum = ws.flatten.length := by
      rw [List.map_reverse, List.sum_reverse, sum_sB]
    rw [z, s1]
    omega)
  unfold joinD joinL
  simp only [e2, e4, if_true, join_sB]
noncomputable abbrev mdBody : FS := (seqS (asgF 8 (ifE (orT (testF (binF isF (varF 5) (constF .non))) (testF (binF gtD (varF 5) (varF 2)))) (varF 2) (varF 5)))
      (ifS (testF (binF gtD (varF 8) (varF 4))) (seqS (appF 3 (m1F zfillD (fmtBF (callF h_window (consF (varF 6) (consF (varF 7) (consF (varF 4) (consF (binF subD (varF 8) (varF 4)) (nilF))))))) (binF subD (varF 8) (varF 4))))
      (asgF 4 (varF 8))) (nilS)))
def tp (h : Option Int) (e : Int) : Int := match h with
  | some x => if e < x then e else x
  | none => e
def rowsD (ws : List (List Bool)) : List D := ws.map fun w => D.str (sB w)
theorem md_body {l : List Bool} (hl : l ≠ []) (s1 : l.length ≤ 100000) (ws : List (List Bool)) (hw : ws.length < 100000) (h : Option Int) (st en low : Int) (hlen : en - st ≤ 100000) (h1 : st ≤ low) (x0 x8 : Sl) (T : Fx.Tm) :
    mdBody [x0, .dat (.int st), .dat (.int en), .own (rowsD ws), .dat (.int low), .dat (eO h), .dat (.int ((vB l : Nat) : Int)), .dat (.int (l.length : Int)), x8] T =
      (if low < tp h en then some (.nx [x0, .dat (.int st), .dat (.int en), .own (rowsD (ws ++ [win (at_ l) low (tp h en - low).toNat])), .dat (.int (tp h en)), .dat (eO h), .dat (.int ((vB l : Nat) : Int)), .dat (.int (l.length : Int)), .dat (.int (tp h en))], T)
      else some (.nx [x0, .dat (.int st), .dat (.int en), .own (rowsD ws), .dat (.int low), .dat (eO h), .dat (.int ((vB l : Nat) : Int)), .dat (.int (l.length : Int)), .dat (.int (tp h en))], T)) := by
  have key : ifE (orT (testF (binF isF (varF 5) (constF .non))) (testF (binF gtD (varF 5) (varF 2)))) (varF 2) (varF 5) [x0, .dat (.int st), .dat (.int en), .own (rowsD ws), .dat (.int low), .dat (eO h), .dat (.int ((vB l : Nat) : Int)), .dat (.int (l.length : Int)), x8] T = some (.int (tp h en), T) := by
    cases h with
    | none => 
      rw [show eO none = D.non from rfl]
      walk_at "wk"
      rfl
    | some x =>
      rw [show eO (some x) = D.int x from rfl]
      rw [show tp (some x) en = (if en < x then en else x) from rfl]
      by_cases c : en < x
      · have e1 : decide (en < x) = true := decide_eq_true c
        rw [if_pos c]
        clear c hlen h1 hw s1 hl
        walk_at "wk"
      · have e1 : decide (en < x) = false := decide_eq_false c
        rw [if_neg c]
        clear c hlen h1 hw s1 hl
        walk_at "wk"
  have htp : tp h en ≤ en := by
    cases h with
    | none => exact Int.le_refl _
    | some x => unfold tp; simp only; split <;> omega
  generalize tp h en = t at *
  generalize eO h = eh at *
  by_cases c : low < t
  · have e1 : decide (low < t) = true := decide_eq_true c
    obtain ⟨n, hn⟩ : ∃ n : Nat, t - low = n := ⟨(t - low).toNat, by omega⟩
    have wl := win_len (at_ l) low n
    have e2 := window_run hl (by omega) low (n := n) (by omega) T
    have wne : win (at_ l) low n ≠ [] := by intro q; rw [q] at wl; simp at wl; omega
    have e3 := zfillD_sB (l := win (at_ l) low n) wne (by omega)
    rw [wl] at e3
    have e5 : (t - low).toNat = n := by omega
    have e6 : (rowsD ws).length < PySem.sizeLine := by unfold rowsD; rw [List.length_map, line_eq]; omega
    have e7 : rowsD ws ++ [D.str (sB (win (at_ l) low n))] = rowsD (ws ++ [win (at_ l) low n]) := by unfold rowsD; rw [List.map_append]; rfl
    rw [if_pos c, e5]
    have e8 : fmtBF (callF h_window (consF (varF 6) (consF (varF 7) (consF (varF 4) (consF (binF subD (varF 8) (varF 4)) (nilF)))))) [x0, .dat (.int st), .dat (.int en), .own (rowsD ws), .dat (.int low), .dat eh, .dat (.int ((vB l : Nat) : Int)), .dat (.int (l.length : Int)), .dat (.int t)] T = some (.str (binS (vB (win (at_ l) low n))), T) := by
      refine fmt_sB wne (by omega) ?_
      clear key htp c hlen h1 hw s1 hl wl wne e1 e3 e5 e6 e7
      walk_at "wk"
    clear htp c hlen h1 hw s1 hl wl wne e2 e5
    simp only [seqS, asgF, ifS, testF, binF, varF, appF, m1F, bindF_some, iiF_int, ctt_eq, List.getElem?_cons_zero, List.getElem?_cons_succ, List.set_cons_zero, List.set_cons_succ, Option.map_some, if_true, key, e1, hn, e3, e6, e7, e8]
  · have e1 : decide (low < t) = false := decide_eq_false c
    rw [if_neg c]
    clear htp c hlen h1 hw s1 hl
    simp only [seqS, nilS, asgF, ifS, testF, binF, varF, bindF_some, iiF_int, ctt_eq, List.getElem?_cons_zero, List.getElem?_cons_succ, List.set_cons_zero, List.set_cons_succ, Option.map_some, if_true, Bool.false_eq_true, if_false, key, e1]

/-- the loop over the pieces: texts of the windows -/
theorem md_loop {z : List Bool} (hz : z ≠ []) (sz : z.length ≤ 100000) (f : Int → Bool) (st en : Int) (hlen : en - st ≤ 640) (x0 : Sl) (T : Fx.Tm) : ∀ (ps : List (Int × List Bool)) (lo : Int) (ws : List (List Bool)) (low : Int) (y5 y6 y7 y8 : Sl), Up lo ps → ws.length + ps.length < 1000 → st ≤ low → low ≤ en → ws.flatten = win f st (low - st).toNat → (∀ y, low ≤ y → y < en → f y = pm ps z y) →
    ∃ (ws' : List (List Bool)) (ρ' : List Sl), ws'.flatten = win f st (en - st).toNat ∧ forL (.tp [5, 6, 7]) mdBody (pcsD ps z) [x0, .dat (.int st), .dat (.int en), .own (rowsD ws), .dat (.int low), y5, y6, y7, y8] T = some (.nx ([x0, .dat (.int st), .dat (.int en), .own (rowsD ws')] ++ ρ'), T)
  | [], lo, ws, low, y5, y6, y7, y8, hu, hc, h1, h2, h3, h4 => by
    have e := md_body hz sz ws (by simp at hc; omega) none st en low (by omega) h1 x0 y8 T
    have q : pcsD [] z = [pcD none z] := rfl
    rw [q]
    unfold pcD
    unfold forL
    simp only [tgD, setN, List.length_cons, List.length_nil, List.set_cons_zero, List.set_cons_succ, Nat.reduceAdd, Nat.reduceLT, if_true, e]
    rw [show tp none en = en from rfl]
    by_cases c : low < en
    · rw [if_pos c]
      refine ⟨_, [_, _, _, _, _], ?_, rfl⟩
      rw [List.flatten_append, h3, List.flatten_cons, List.flatten_nil, List.append_nil]
      have w : win (at_ z) low (en - low).toNat = win f low (en - low).toNat := win_ext fun w a b => (h4 w a (by omega)).symm
      rw [w]
      have := win_add f st (low - st).toNat (en - low).toNat
      rw [show st + (((low - st).toNat : Nat) : Int) = low by omega, show (low - st).toNat + (en - low).toNat = (en - st).toNat by omega] at this
      exact this
    · rw [if_neg c]
      refine ⟨_, [_, _, _, _, _], ?_, rfl⟩
      rw [h3, show low = en by omega]
  | (h, l) :: ps, lo, ws, low, y5, y6, y7, y8, hu, hc, h1, h2, h3, h4 => by
    obtain ⟨u1, u2, u3, u4⟩ := hu
    rw [List.length_cons] at hc
    have e := md_body u2 u3 ws (by omega) (some h) st en low (by omega) h1 x0 y8 T
    have q : pcsD ((h, l) :: ps) z = pcD (some h) l :: pcsD ps z := rfl
    have g : ∀ y, low ≤ y → y < en → f y = if y < h then at_ l y else pm ps z y := h4
    by_cases c : low < tp (some h) en
    · rw [if_pos c] at e
      have tt : tp (some h) en ≤ en ∧ tp (some h) en ≤ h ∧ (tp (some h) en = en ∨ tp (some h) en = h) := by
        show (if en < h then en else h) ≤ en ∧ (if en < h then en else h) ≤ h ∧ ((if en < h then en else h) = en ∨ (if en < h then en else h) = h)
        split <;> omega
      have ih := md_loop hz sz f st en hlen x0 T ps h (ws ++ [win (at_ l) low (tp (some h) en - low).toNat]) (tp (some h) en) (.dat (eO (some h))) (.dat (.int ((vB l : Nat) : Int))) (.dat (.int (l.length : Int))) (.dat (.int (tp (some h) en))) u4 (by rw [List.length_append, List.length_singleton]; omega) (by omega) tt.1 (by
          rw [List.flatten_append, h3, List.flatten_cons, List.flatten_nil, List.append_nil]
          have w : win (at_ l) low (tp (some h) en - low).toNat = win f low (tp (some h) en - low).toNat := win_ext fun w a b => by
            rw [g w a (by omega), if_pos (by omega)]
          rw [w]
          have := win_add f st (low - st).toNat (tp (some h) en - low).toNat
          rw [show st + (((low - st).toNat : Nat) : Int) = low by omega, show (low - st).toNat + (tp (some h) en - low).toNat = (tp (some h) en - st).toNat by omega] at this
          exact this) (fun y a b => by
          rw [g y (by omega) b, if_neg (by omega)])
      obtain ⟨ws', ρ', i1, i2⟩ := ih
      refine ⟨ws', ρ', i1, ?_⟩
      rw [q, ← i2]
      generalize pcsD ps z = rest
      unfold pcD
      conv => lhs; unfold forL
      simp only [tgD, setN, List.length_cons, List.length_nil, List.set_cons_zero, List.set_cons_succ, Nat.reduceAdd, Nat.reduceLT, if_true, e]
    · rw [if_neg c] at e
      have tt : tp (some h) en = en ∨ tp (some h) en = h := by
        show ((if en < h then en else h) = en ∨ (if en < h then en else h) = h)
        split <;> omega
      have ih := md_loop hz sz f st en hlen x0 T ps h ws low (.dat (eO (some h))) (.dat (.int ((vB l : Nat) : Int))) (.dat (.int (l.length : Int))) (.dat (.int (tp (some h) en))) u4 (by omega) h1 h2 h3 (fun y a b => by
          rw [g y a b, if_neg (by omega)])
      obtain ⟨ws', ρ', i1, i2⟩ := ih
      refine ⟨ws', ρ', i1, ?_⟩
      rw [q, ← i2]
      generalize pcsD ps z = rest
      unfold pcD
      conv => lhs; unfold forL
      simp only [tgD, setN, List.length_cons, List.length_nil, List.set_cons_zero, List.set_cons_succ, Nat.reduceAdd, Nat.reduceLT, if_true, e]
theorem middle_run {z : List Bool} {ps : List (Int × List Bool)} {lo : Int} (hz : z ≠ []) (sz : z.length ≤ 100000) (hu : Up lo ps) (hc : ps.length < 1000) {st en : Int} (h1 : st < en) (h2 : en - st ≤ 640) (T : Fx.Tm) :
    h_middle_of [.lst (pcsD ps z), .int st, .int en] T = some (.int ((vB (win (pm ps z) st (en - st).toNat) : Nat) : Int), T) := by
  obtain ⟨ws, ρ', a1, a2⟩ := md_loop hz sz (pm ps z) st en h2 (.dat (.lst (pcsD ps z))) T ps lo [] st .un .un .un .un hu (by simpa using hc) (Int.le_refl _) (by omega) (by rw [Int.sub_self]; rfl) (fun _ _ _ => rfl)
  have wl := win_len (pm ps z) st (en - st).toNat
  have e1 : decide ((1000000 : Int) < en - st) = false := decide_eq_false (by omega)
  have wne : win (pm ps z) st (en - st).toNat ≠ [] := by intro q; rw [q] at wl; simp at wl; omega
  have e2 := joinD_sB ws (by rw [a1, wl]; omega)
  rw [a1] at e2
  have e3 := int2_sB wne (by omega)
  have e4 : bk2F (varO 3) ([.dat (.lst (pcsD ps z)), .dat (.int st), .dat (.int en), .own (rowsD ws)] ++ ρ') T = some (.lst ((ws.map fun w => D.str (sB w)).reverse), T) := rfl
  have e5 : rowsD [] = [] := rfl
  rw [e5] at a2
  simp only [List.cons_append, List.nil_append] at a2 e4
  generalize win (pm ps z) st (en - st).toNat = w at *
  generalize pcsD ps z = ds at *
  have e0 := len0
  clear a1 wl wne h1 h2 hc hu sz hz e5
  unfold h_middle_of g_middle_of
  walk_at "wk"
end LC
namespace LC
open PySem PyProof.Rows L2 Fx PM
local macro_rules | `(tactic| walk_at "wk") => `(tactic| simp only [runB, seqS, nilS, asgF, retF, ifS, ifE, testF, orT, andT, binF, varF, varO, constF, ofF, bindF_some, consF, nilF, callF, augF, appF, ownF, lstF, itU, tupF, unpF, brkS, negF, setN, tgD, blF, ixF, lenF, forS, m1F, iiF_int, ctt_eq, eqD_int, neD_int, mulD_int, minD_int, isF_int, isF_non, isF_eO, addD_int, lenD_lst,
  List.map_cons, List.map_nil, List.cons_append, List.nil_append, List.length_cons, List.length_nil, List.replicate_succ, List.replicate_zero, List.getElem?_cons_zero, List.getElem?_cons_succ, List.set_cons_zero, List.set_cons_succ, Option.map_some, if_true, Nat.reduceAdd, Nat.reduceSub, Bool.false_eq_true, if_false, *])
theorem pm_below {h0 : Int} {l0 : List Bool} {ps : List (Int × List Bool)} {z : List Bool} (y : Int) (hy : y < h0) : pm ((h0, l0) :: ps) z y = at_ l0 y := by
  show (if y < h0 then at_ l0 y else pm ps z y) = _
  rw [if_pos hy]
/-- what a written pattern keeps to -/
structure Wr (f : Int → Bool) (p : Pat) (n m : Nat) (h0 hi : Int) : Prop where
  c : Canon p
  mem : p.mem = f
  l : p.l.length ≤ n
  r : p.r.length ≤ m
  mm : p.m = [] ∨ h0 ≤ p.s
  s : (p.s = 0 ∧ p.m = []) ∨ (h0 - ((n + m : Nat) : Int) ≤ p.s ∧ p.s + p.m.length ≤ hi)
theorem wrt_run {h0 hi : Int} {l0 z : List Bool} {ps : List (Int × List Bool)} (hl : l0 ≠ []) (sl : l0.length ≤ 100000) (hz : z ≠ []) (sz : z.length ≤ 100000) (hu : Up h0 ps) (hc : ps.length < 900) (hh : hb ((h0, l0) :: ps) (ps.length + 1) = some hi) (hd : hi - h0 ≤ 640) (T : Fx.Tm) :
    ∃ p : Pat, Wr (pm ((h0, l0) :: ps) z) p l0.length z.length h0 hi ∧ h_written [.lst (pcsD ((h0, l0) :: ps) z)] T = some (eP p, T) := by
  obtain ⟨L1, L2, L3⟩ := short_spec hl
  obtain ⟨R1, R2, R3⟩ := short_spec hz
  have hu' : Up h0 ((h0, l0) :: ps) := ⟨Int.le_refl _, hl, sl, hu⟩
  have e1 := shortest_run hl (by omega) T
  have e2 := shortest_run hz (by omega) T
  obtain ⟨o, f1, f2⟩ := fd_run (h0 := h0) (l0 := l0) L1.1 (by omega) hz sz hu L2.symm T
  obtain ⟨o2, g1, g2⟩ := ld_run (z := z) (ps := (h0, l0) :: ps) R1.1 (by omega) hu' (by simp) (by simp; omega) R2.symm T
  have q0 : ixD T (.val (.lst (pcsD ((h0, l0) :: ps) z))) (.int 0) = some (.tup [.int h0, .int ((vB l0 : Nat) : Int), .int (l0.length : Int)]) := ix0 _ _
  have q1 : ixD T (.val (.lst (pcsD ((h0, l0) :: ps) z))) (.int (-1)) = some (.tup [.non, .int ((vB z : Nat) : Int), .int (z.length : Int)]) := atI_last _ _
  have r1 := row_of_run L1.1 (by omega) T
  have r2 := row_of_run R1.1 (by omega) T
  have below : ∀ y, y < h0 → pm ((h0, l0) :: ps) z y = at_ (short l0) y := fun y hy => by rw [pm_below y hy, L2]
  cases o with
  | none =>
    obtain ⟨c1, c2⟩ := can0 L1 f2
    refine ⟨⟨short l0, 0, [], short l0⟩, ⟨c1, c2, L3, ?_, .inl rfl, .inl ⟨rfl, rfl⟩⟩, ?_⟩
    · have : short l0 = short z := short_inj L1 R1 (by
        refine at_far' L1.1 R1.1 (if h0 ≤ hi then hi else h0) fun w hw => ?_
        have hw1 : hi ≤ w := by split at hw <;> omega
        rw [← f2 w, R2]
        exact pm_end _ z h0 hu' w (fun x hx => by
          rw [List.length_cons, hh] at hx
          cases hx
          exact hw1) (.inr (by simp)))
      show (short l0).length ≤ z.length
      rw [this]
      exact R3
    · have e0 := len0
      have e4 := len4
      unfold h_written g_written
      rw [show eO none = D.non from rfl] at f1
      clear f2 g2 g1 c1 c2 below r2 L1 L2 L3 R1 R2 R3 hl sl hz sz hu hu' hc hh hd
      walk_at "wk"
      rfl
  | some a =>
    obtain ⟨f2, f3⟩ := f2
    cases o2 with
    | none =>
      exfalso
      have e : at_ (short l0) = at_ (short z) := at_far L1.1 R1.1 h0 fun w hw => by rw [← below w hw, g2 w]
      exact f2.1 (by rw [g2 a, e])
    | some b =>
      obtain ⟨g2, g3⟩ := g2
      have g3 := g3 hi hh
      have lowb := isB_low L1.1 R1.1 below g2
      have e0 := len0
      have e4 := len4
      have fN : isF (.int a) .non = some (.bl false) := rfl
      rw [show eO (some a) = D.int a from rfl] at f1
      rw [show eO (some b) = D.int b from rfl] at g1
      by_cases c : a < b + 1
      · obtain ⟨c1, c2⟩ := can2 L1 R1 f2 g2 c
        refine ⟨⟨short l0, a, win (pm ((h0, l0) :: ps) z) a (b + 1 - a).toNat, short z⟩, ⟨c1, c2, L3, R3, .inr f3, .inr ⟨by show h0 - _ ≤ a; omega, by show a + ((win _ _ _).length : Int) ≤ hi; rw [win_len]; omega⟩⟩, ?_⟩
        have m1 := middle_run (z := z) (ps := (h0, l0) :: ps) hz sz hu' (by simp; omega) c (by omega) T
        have wl := win_len (pm ((h0, l0) :: ps) z) a (b + 1 - a).toNat
        have r3 := row_of_run (l := win (pm ((h0, l0) :: ps) z) a (b + 1 - a).toNat) (by intro q; rw [q] at wl; simp at wl; omega) (by omega) T
        rw [wl, Int.toNat_of_nonneg (by omega)] at r3
        have d1 : decide (a < b + 1) = true := decide_eq_true c
        have d2 : (if b + 1 < a then b + 1 else a) = a := if_neg (by omega)
        unfold h_written g_written
        clear f2 g2 c1 c2 below L1 L2 L3 R1 R2 R3 hl sl hz sz hu hu' hc hh hd f3 g3 lowb wl c
        walk_at "wk"
        rfl
      · obtain ⟨c1, c2⟩ := can1 L1 R1 f2 g2 (by omega)
        refine ⟨⟨short l0, b + 1, [], short z⟩, ⟨c1, c2, L3, R3, .inl rfl, .inr ⟨by show h0 - _ ≤ b + 1; omega, by show b + 1 + ((0 : Nat) : Int) ≤ hi; omega⟩⟩, ?_⟩
        have d1 : decide (a < b + 1) = false := decide_eq_false c
        have d2 : (if b + 1 < a then b + 1 else a) = b + 1 := by split <;> omega
        unfold h_written g_written
        clear f2 g2 c1 c2 below L1 L2 L3 R1 R2 R3 hl sl hz sz hu hu' hc hh hd f3 g3 lowb c
        walk_at "wk"
        rfl
end LC
namespace LC
open PySem PyProof.Rows L2 Fx PM
local macro_rules | `(tactic| walk_at "wk") => `(tactic| simp only [runB, seqS, nilS, asgF, retF, ifS, ifE, testF, orT, andT, binF, varF, varO, constF, ofF, bindF_some, consF, nilF, callF, augF, appF, ownF, lstF, itU, tupF, unpF, brkS, negF, setN, tgD, blF, ixF, lenF, forS, m1F, iiF_int, ctt_eq, eqD_int, neD_int, mulD_int, minD_int, isF_int, isF_non, isF_eO, addD_int, lenD_lst, lenD_eB,
  List.map_cons, List.map_nil, List.cons_append, List.nil_append, List.length_cons, List.length_nil, List.replicate_succ, List.replicate_zero, List.getElem?_cons_zero, List.getElem?_cons_succ, List.set_cons_zero, List.set_cons_succ, Option.map_some, if_true, Nat.reduceAdd, Nat.reduceSub, Bool.false_eq_true, if_false, *])
def mids (p : Pat) : List (Int × List Bool) := if p.m = [] then [] else [(p.s + (p.m.length : Int), win (at_ p.m) (-p.s) p.m.length)]
theorem pm_mem (p : Pat) : pm ((p.s, p.l) :: mids p) p.r = p.mem := by
  funext y
  show (if y < p.s then at_ p.l y else pm (mids p) p.r y) = _
  unfold Pat.mem
  by_cases c : y < p.s
  · rw [if_pos c, if_pos c]
  · rw [if_neg c, if_neg c]
    unfold mids
    by_cases m : p.m = []
    · rw [if_pos m, m, if_neg (by show ¬ y < p.s + ((0 : Nat) : Int); omega)]
      rfl
    · rw [if_neg m]
      show (if y < p.s + (p.m.length : Int) then at_ (win (at_ p.m) (-p.s) p.m.length) y else at_ p.r y) = _
      by_cases c2 : y < p.s + (p.m.length : Int)
      · rw [if_pos c2, if_pos c2, win_at_row m, at_mid (by omega) (by omega)]
      · rw [if_neg c2, if_neg c2]
theorem up_mids (p : Pat) (h : p.m.length ≤ 640) : Up p.s (mids p) := by
  unfold mids
  by_cases m : p.m = []
  · rw [if_pos m]
    trivial
  · rw [if_neg m]
    have := pos_len m
    exact ⟨by omega, by intro q; have w := win_len (at_ p.m) (-p.s) p.m.length; rw [q] at w; simp at w; omega, by rw [win_len]; omega, trivial⟩
theorem hb_mids (p : Pat) : hb ((p.s, p.l) :: mids p) ((mids p).length + 1) = some (p.s + (p.m.length : Int)) := by
  unfold mids
  by_cases m : p.m = []
  · rw [if_pos m, m]
    show some p.s = some (p.s + ((0 : Nat) : Int))
    congr 1
    omega
  · rw [if_neg m]
    rfl
theorem pieces_run {p : Pat} (ok : p.Ok) (sl : p.l.length ≤ 640) (sr : p.r.length ≤ 640) (sm : p.m.length ≤ 640) (T : Fx.Tm) : h_pieces_of [eP p] T = some (.lst (pcsD ((p.s, p.l) :: mids p) p.r), T) := by
  have e1 := bits_of_run ok.l sl T
  have e2 := bits_of_run ok.r sr T
  have l3 : (3 : Nat) ≤ PySem.sizeLine := by rw [line_eq]; omega
  have l1 : (1 : Nat) ≤ PySem.sizeLine := by rw [line_eq]; omega
  have l1' : (1 : Nat) < PySem.sizeLine := by rw [line_eq]; omega
  have l2' : (2 : Nat) < PySem.sizeLine := by rw [line_eq]; omega
  have q : eP p = .tup [eB p.l, .int p.s, eB p.m, eB p.r] := rfl
  by_cases m : p.m = []
  · have e3 : decide ((0 : Int) < (p.m.length : Int)) = false := decide_eq_false (by rw [m]; simp)
    have e4 : mids p = [] := if_pos m
    rw [e4]
    unfold h_pieces_of g_pieces_of
    rw [q]
    clear m e4 ok sl sr sm q
    walk_at "wk"
    rfl
  · have mp := pos_len m
    have e3 : decide ((0 : Int) < (p.m.length : Int)) = true := decide_eq_true (by omega)
    have e4 : mids p = [(p.s + (p.m.length : Int), win (at_ p.m) (-p.s) p.m.length)] := if_neg m
    have e5 := bits_of_run m sm T
    have e6 := anchored_run m (by omega) p.s T
    have wl := win_len (at_ p.m) (-p.s) p.m.length
    rw [e4]
    have e7 : pcsD [(p.s, p.l), (p.s + (p.m.length : Int), win (at_ p.m) (-p.s) p.m.length)] p.r = [.tup [.int p.s, .int ((vB p.l : Nat) : Int), .int (p.l.length : Int)], .tup [.int (p.s + (p.m.length : Int)), .int ((vB (win (at_ p.m) (-p.s) p.m.length) : Nat) : Int), .int (p.m.length : Int)], .tup [.non, .int ((vB p.r : Nat) : Int), .int (p.r.length : Int)]] := by
      simp only [pcsD, pcD, eO, List.map_cons, List.map_nil, List.cons_append, List.nil_append, wl]
    rw [e7]
    unfold h_pieces_of g_pieces_of
    rw [q]
    clear m mp e4 e7 wl ok sl sr sm q
    walk_at "wk"
/-- the written pattern of a pattern -/
theorem wr_run {p : Pat} (ok : p.Ok) (sl : p.l.length ≤ 640) (sr : p.r.length ≤ 640) (sm : p.m.length ≤ 640) (T : Fx.Tm) :
    ∃ (d : D) (q : Pat), h_pieces_of [eP p] T = some (d, T) ∧ h_written [d] T = some (eP q, T) ∧ Wr p.mem q p.l.length p.r.length p.s (p.s + (p.m.length : Int)) := by
  have hc : (mids p).length < 900 := by unfold mids; split <;> simp
  obtain ⟨q, h1, h2⟩ := wrt_run (h0 := p.s) (hi := p.s + (p.m.length : Int)) (l0 := p.l) (z := p.r) (ps := mids p) ok.l (by omega) ok.r (by omega) (up_mids p sm) hc (hb_mids p) (by omega) T
  rw [pm_mem] at h1
  exact ⟨_, q, pieces_run ok sl sr sm T, h2, h1⟩
end LC
namespace PM
/-! ### the numbers beside a set; two sets together -/
theorem vB_full : ∀ n : Nat, vB (List.replicate n true) = 2 ^ n - 1
  | 0 => rfl
  | n + 1 => by
    rw [List.replicate_succ]
    show true.toNat + 2 * vB (List.replicate n true) = _
    rw [vB_full n, Nat.pow_succ]
    have : 0 < 2 ^ n := Nat.pos_of_ne_zero (by simp)
    simp
    omega
theorem vB_not (l : List Bool) : vB l ^^^ (2 ^ l.length - 1) = vB (l.map fun b => !b) := by
  rw [← vB_full, vB_xor (by rw [List.length_replicate])]
  congr 1
  unfold xorL
  apply List.ext_getElem?
  intro i
  rw [List.getElem?_zipWith, List.getElem?_map]
  by_cases h : i < l.length
  · rw [List.getElem?_eq_getElem h, List.getElem?_replicate_of_lt h]
    show some (l[i] ^^ true) = some (!l[i])
    cases l[i] <;> rfl
  · rw [List.getElem?_eq_none (by omega)]
    rfl
theorem at_not {l : List Bool} (h : l ≠ []) (y : Int) : at_ (l.map fun b => !b) y = !at_ l y := by
  have hl : (l.map fun b => !b) ≠ [] := by simp [h]
  have e1 := at_get h y
  have e2 := at_get hl y
  rw [List.length_map, List.getElem?_map, e1] at e2
  exact (Option.some.inj e2).symm
def orL (a b : List Bool) : List Bool := List.zipWith (fun x y => x || y) a b
def andL (a b : List Bool) : List Bool := List.zipWith (fun x y => x && y) a b
theorem vB_or {a b : List Bool} (h : a.length = b.length) : vB a ||| vB b = vB (orL a b) := by
  apply Nat.eq_of_testBit_eq
  intro i
  rw [Nat.testBit_or, vB_bit, vB_bit, vB_bit]
  unfold orL
  simp only [List.getD_eq_getElem?_getD, List.getElem?_zipWith]
  by_cases hi : i < a.length
  · rw [List.getElem?_eq_getElem hi, List.getElem?_eq_getElem (by omega)]
    rfl
  · rw [List.getElem?_eq_none (by omega), List.getElem?_eq_none (by omega)]
    rfl
theorem vB_and {a b : List Bool} (h : a.length = b.length) : vB a &&& vB b = vB (andL a b) := by
  apply Nat.eq_of_testBit_eq
  intro i
  rw [Nat.testBit_and, vB_bit, vB_bit, vB_bit]
  unfold andL
  simp only [List.getD_eq_getElem?_getD, List.getElem?_zipWith]
  by_cases hi : i < a.length
  · rw [List.getElem?_eq_getElem hi, List.getElem?_eq_getElem (by omega)]
    rfl
  · rw [List.getElem?_eq_none (by omega), List.getElem?_eq_none (by omega)]
    rfl
theorem win_or (f g : Int → Bool) (a : Int) (n : Nat) : orL (win f a n) (win g a n) = win (fun y => f y || g y) a n := by
  refine win_eq (by unfold orL; rw [List.length_zipWith, win_len, win_len]; omega) fun k hk => ?_
  unfold orL
  rw [List.getElem?_zipWith, win_get hk, win_get hk]
theorem win_and (f g : Int → Bool) (a : Int) (n : Nat) : andL (win f a n) (win g a n) = win (fun y => f y && g y) a n := by
  refine win_eq (by unfold andL; rw [List.length_zipWith, win_len, win_len]; omega) fun k hk => ?_
  unfold andL
  rw [List.getElem?_zipWith, win_get hk, win_get hk]
/-- the row of a window that is put where it belongs holds what repeats, or what stands in the window -/
theorem at_anchor {f : Int → Bool} {a : Int} {n : Nat} (h0 : 0 < n) (y : Int) (h : Per f n ∨ (a ≤ y ∧ y < a + n)) : at_ (win (at_ (win f a n)) (-a) n) y = f y := by
  have wl := win_len f a n
  have ne : win f a n ≠ [] := by intro q; rw [q] at wl; simp at wl; omega
  have e := win_at_row ne a y
  rw [wl] at e
  rw [e]
  rcases h with h | ⟨h1, h2⟩
  · have q := at_map (g := fun y => f (a + y)) h0 (fun y => by
      show f (a + (y + n)) = f (a + y)
      rw [← Int.add_assoc, h]) (y - a)
    have r : win f a n = (List.range n).map fun (k : Nat) => (fun y => f (a + y)) (k : Int) := rfl
    rw [r, q]
    show f (a + (y - a)) = f y
    congr 1
    omega
  · rw [at_mid (by omega) (by rw [wl]; omega), List.getD_eq_getElem?_getD, win_get (by omega)]
    show f _ = f y
    congr 1
    omega
end PM
namespace LC
open PySem PyProof.Rows L2 Fx PM
/-! ### the numbers beside -/
def notL (l : List Bool) : List Bool := l.map fun b => !b
theorem notL_len (l : List Bool) : (notL l).length = l.length := by unfold notL; rw [List.length_map]
def nots (ps : List (Int × List Bool)) : List (Int × List Bool) := ps.map fun p => (p.1, notL p.2)
theorem pm_not : ∀ (lo : Int) (ps : List (Int × List Bool)) (z : List Bool), Up lo ps → z ≠ [] → ∀ y, pm (nots ps) (notL z) y = !pm ps z y
  | lo, [], z, _, hz, y => at_not hz y
  | lo, (h, l) :: ps, z, hu, hz, y => by
    show (if y < h then at_ (notL l) y else pm (nots ps) (notL z) y) = !(if y < h then at_ l y else pm ps z y)
    rw [pm_not h ps z hu.2.2.2 hz y, show at_ (notL l) y = !at_ l y from at_not hu.2.1 y]
    split <;> rfl
theorem up_not : ∀ (lo : Int) (ps : List (Int × List Bool)), Up lo ps → Up lo (nots ps)
  | _, [], _ => trivial
  | lo, (h, l) :: ps, hu => ⟨hu.1, by
    show notL l ≠ []
    unfold notL
    simp [hu.2.1], by rw [notL_len]; exact hu.2.2.1, up_not h ps hu.2.2.2⟩
theorem hb_not (ps : List (Int × List Bool)) (k : Nat) : hb (nots ps) k = hb ps k := by
  unfold hb nots
  rw [List.getElem?_map]
  cases ps[k - 1]? <;> rfl
theorem not_run (l : List Bool) : Builtin.bitXor ((vB l : Nat) : Int) (1 * 2 ^ ((l.length : Int)).toNat - 1) = ((vB (notL l) : Nat) : Int) := by
  have hp : 0 < 2 ^ l.length := Nat.pos_of_ne_zero (by simp)
  have e : (1 : Int) * 2 ^ ((l.length : Int)).toNat - 1 = ((2 ^ l.length - 1 : Nat) : Int) := by
    rw [pow_cast]
    omega
  rw [e, Bits.bitXor_pp (by omega) (by omega), Int.toNat_natCast, Int.toNat_natCast, vB_not]
  rfl

def notD : D → D
  | .tup [h, .int b, .int w] => .tup [h, .int (Builtin.bitXor b (1 * 2 ^ w.toNat - 1)), .int w]
  | d => d
theorem notD_pc (h : Option Int) (l : List Bool) : notD (pcD h l) = pcD h (notL l) := by
  show D.tup [eO h, .int (Builtin.bitXor ((vB l : Nat) : Int) (1 * 2 ^ ((l.length : Int)).toNat - 1)), .int (l.length : Int)] = _
  rw [not_run]
  unfold pcD
  rw [notL_len]
theorem comp_not {ps : List (Int × List Bool)} {z : List Bool} {lo : Int} (hu : Up lo ps) (sz : z.length ≤ 100000) (hc : ps.length < 1000) {fs : FA} {x0 x1 x2 x3 : Sl} {T : Fx.Tm} (hf : fs [x0, x1, x2, x3] T = some (pcsD ps z, T)) :
    compF (.tp [1, 2, 3]) fs (yesT) (tupF (consF (varF 1) (consF (binF xorD (varF 2) (binF subD (binF shwD (constF (.int 1)) (varF 3)) (constF (.int 1)))) (consF (varF 3) (nilF))))) [1, 2, 3] [x0, x1, x2, x3] T = some (pcsD (nots ps) (notL z), T) := by
  refine comp_pure (ds := pcsD ps z) (p := fun _ => true) (g := notD) rfl hf (by rw [pcsD_len]; omega) (fun d hd => ?_) ?_
  · have key : ∀ (h : Option Int) (l : List Bool), l.length ≤ 100000 → ∃ ρ1, tgD (.tp [1, 2, 3]) (pcD h l) (wipeR [x0, x1, x2, x3] [1, 2, 3]) = some ρ1 ∧ yesT ρ1 T = some (true, T) ∧ (true = true → tupF (consF (varF 1) (consF (binF xorD (varF 2) (binF subD (binF shwD (constF (.int 1)) (varF 3)) (constF (.int 1)))) (consF (varF 3) (nilF)))) ρ1 T = some (notD (pcD h l), T)) := fun h l hl => by
      refine ⟨[x0, .dat (eO h), .dat (.int ((vB l : Nat) : Int)), .dat (.int (l.length : Int))], rfl, rfl, fun _ => ?_⟩
      have e1 := one_ok (n := l.length) (by omega)
      have e2 : (3 : Nat) ≤ PySem.sizeLine := by rw [line_eq]; omega
      show _ = some (D.tup [eO h, .int (Builtin.bitXor ((vB l : Nat) : Int) (1 * 2 ^ ((l.length : Int)).toNat - 1)), .int (l.length : Int)], T)
      simp only [tupF, consF, nilF, binF, varF, constF, bindF_some, iiF_int, ctt_eq, List.getElem?_cons_zero, List.getElem?_cons_succ, if_true, e1, List.length_cons, List.length_nil, Nat.reduceAdd, e2]
    have up : ∀ (qs : List (Int × List Bool)) (lo : Int), Up lo qs → ∀ q ∈ qs, q.2.length ≤ 100000 := by
      intro qs
      induction qs with
      | nil => intro _ _ q hq; cases hq
      | cons q qs ih =>
        intro lo hq r hr
        rcases List.mem_cons.mp hr with e | e
        · rw [e]; exact hq.2.2.1
        · exact ih _ hq.2.2.2 r e
    unfold pcsD at hd
    rcases List.mem_append.mp hd with q | q
    · obtain ⟨p, hp, rfl⟩ := List.mem_map.mp q
      exact key _ _ (up ps lo hu p hp)
    · rw [List.mem_singleton.mp q]
      exact key _ _ sz
  · rw [List.filter_eq_self.mpr (fun _ _ => rfl)]
    unfold pcsD nots
    rw [List.map_append, List.map_map, List.map_map, List.map_cons, List.map_nil, notD_pc]
    congr 1
    apply List.map_congr_left
    intro p _
    exact notD_pc _ _
end LC
namespace LC
open PySem PySem.Spec PyProof.Rows L2 Fx
noncomputable def g_beside : FS := retF (ofF (callF h_written (consF (frzF (compF (.tp [1, 2, 3]) (itU (callF h_pieces_of (consF (varF 0) (nilF)))) (yesT) (tupF (consF (varF 1) (consF (binF xorD (varF 2) (binF subD (binF shwD (constF (.int 1)) (varF 3)) (constF (.int 1)))) (consF (varF 3) (nilF))))) [1, 2, 3])) (nilF))))
@[irreducible] noncomputable def h_beside : HF := runB g_beside 4
noncomputable def g_lesser : FS := seqS (ifS (testF (binF isF (varF 0) (constF .non))) (retF (varO 1)) (nilS))
      (retF (ofF (ifE (testF (binF isF (varF 1) (constF .non))) (varF 0) (blF minD (consF (varF 0) (consF (varF 1) (nilF)))))))
@[irreducible] noncomputable def h_lesser : HF := runB g_lesser 2
noncomputable def g_joined_piece : FS := seqS (asgF 5 (blF lcmD (consF (ixF (varO 0) (constF (.int 2))) (consF (ixF (varO 1) (constF (.int 2))) (nilF)))))
      (seqS (asgF 6 (ifE (orT (testF (binF isF (varF 2) (constF .non))) (testF (binF isF (varF 3) (constF .non)))) (constF .non) (binF subD (varF 3) (varF 2))))
      (seqS (ifS (andT (testF (binF isntF (varF 6) (constF .non))) (testF (binF ltD (varF 6) (varF 5)))) (asgF 5 (varF 6)) (nilS))
      (seqS (ifS (testF (binF gtD (varF 5) (constF (.int 1000000)))) (neverS) (nilS))
      (seqS (asgF 7 (ifE (testF (binF isF (varF 2) (constF .non))) (constF (.int 0)) (varF 2)))
      (seqS (asgF 8 (callF h_window (consF (ixF (varO 0) (constF (.int 1))) (consF (ixF (varO 0) (constF (.int 2))) (consF (varF 7) (consF (varF 5) (nilF)))))))
      (seqS (asgF 9 (callF h_window (consF (ixF (varO 1) (constF (.int 1))) (consF (ixF (varO 1) (constF (.int 2))) (consF (varF 7) (consF (varF 5) (nilF)))))))
      (retF (ofF (tupF (consF (varF 3) (consF (callF h_anchored (consF (ifE (testF (varF 4)) (binF orD (varF 8) (varF 9)) (binF andD (varF 8) (varF 9))) (consF (varF 7) (consF (varF 5) (nilF))))) (consF (varF 5) (nilF)))))))))))))
@[irreducible] noncomputable def h_joined_piece : HF := runB g_joined_piece 10
noncomputable def g_joined : FS := seqS (ownF 3 (lstF (nilF)))
      (seqS (asgF 4 (constF .non))
      (seqS (asg2F 5 6 (constF (.int 0)))
      (seqS (whS (andT (testF (binF ltD (varF 5) (lenF (varO 0)))) (testF (binF ltD (varF 6) (lenF (varO 1))))) (seqS (asgF 7 (callF h_lesser (consF (ixF (ofF (ixF (varO 0) (varF 5))) (constF (.int 0))) (consF (ixF (ofF (ixF (varO 1) (varF 6))) (constF (.int 0))) (nilF)))))
      (seqS (appF 3 (callF h_joined_piece (consF (ixF (varO 0) (varF 5)) (consF (ixF (varO 1) (varF 6)) (consF (varF 4) (consF (varF 7) (consF (varF 2) (nilF))))))))
      (seqS (asgF 4 (varF 7))
      (seqS (augF 5 addiD (ifE (testF (binF eqD (ixF (ofF (ixF (varO 0) (varF 5))) (constF (.int 0))) (varF 7))) (constF (.int 1)) (constF (.int 0))))
      (augF 6 addiD (ifE (testF (binF eqD (ixF (ofF (ixF (varO 1) (varF 6))) (constF (.int 0))) (varF 7))) (constF (.int 1)) (constF (.int 0)))))))))
      (retF (varO 3)))))
@[irreducible] noncomputable def h_joined : HF := runB g_joined 8
noncomputable def g_union : FS := retF (ofF (callF h_written (consF (callF h_joined (consF (callF h_pieces_of (consF (varF 0) (nilF))) (consF (callF h_pieces_of (consF (varF 1) (nilF))) (consF (constF (.bl true)) (nilF))))) (nilF))))
@[irreducible] noncomputable def h_union : HF := runB g_union 2
noncomputable def g_meet : FS := retF (ofF (callF h_written (consF (callF h_joined (consF (callF h_pieces_of (consF (varF 0) (nilF))) (consF (callF h_pieces_of (consF (varF 1) (nilF))) (consF (constF (.bl false)) (nilF))))) (nilF))))
@[irreducible] noncomputable def h_meet : HF := runB g_meet 2
end LC
namespace LC
open PySem PyProof.Rows L2 Fx PM
local macro_rules | `(tactic| walk_at "wk") => `(tactic| simp only [runB, seqS, nilS, asgF, retF, ifS, ifE, testF, orT, andT, binF, varF, varO, constF, ofF, bindF_some, consF, nilF, callF, augF, appF, ownF, lstF, itU, tupF, unpF, brkS, negF, setN, tgD, blF, ixF, lenF, forS, m1F, iiF_int, ctt_eq, eqD_int, neD_int, mulD_int, minD_int, isF_int, isF_non, isF_eO, addD_int, lenD_lst,
  List.map_cons, List.map_nil, List.cons_append, List.nil_append, List.length_cons, List.length_nil, List.replicate_succ, List.replicate_zero, List.getElem?_cons_zero, List.getElem?_cons_succ, List.set_cons_zero, List.set_cons_succ, Option.map_some, if_true, Nat.reduceAdd, Nat.reduceSub, Bool.false_eq_true, if_false, *])
theorem beside_run {p : Pat} (ok : p.Ok) (sl : p.l.length ≤ 640) (sr : p.r.length ≤ 640) (sm : p.m.length ≤ 640) (T : Fx.Tm) :
    ∃ q : Pat, Wr (fun y => !p.mem y) q p.l.length p.r.length p.s (p.s + (p.m.length : Int)) ∧ h_beside [eP p] T = some (eP q, T) := by
  have hc : (mids p).length < 900 := by unfold mids; split <;> simp
  have um := up_mids p sm
  have hu : Up p.s ((p.s, p.l) :: mids p) := ⟨Int.le_refl _, ok.l, by omega, um⟩
  have e1 := pieces_run ok sl sr sm T
  have e2 := comp_not (z := p.r) (fs := itU (callF h_pieces_of (consF (varF 0) (nilF)))) (x0 := .dat (eP p)) (x1 := .un) (x2 := .un) (x3 := .un) (T := T) hu (by omega) (by rw [List.length_cons]; omega) (by
    clear hu um hc ok sl sr sm
    walk_at "wk")
  have nl : ∀ l : List Bool, l ≠ [] → notL l ≠ [] := fun l h => by unfold notL; simp [h]
  have q0 : nots ((p.s, p.l) :: mids p) = (p.s, notL p.l) :: nots (mids p) := rfl
  obtain ⟨q, h1, h2⟩ := wrt_run (h0 := p.s) (hi := p.s + (p.m.length : Int)) (l0 := notL p.l) (z := notL p.r) (ps := nots (mids p)) (nl _ ok.l) (by rw [notL_len]; omega) (nl _ ok.r) (by rw [notL_len]; omega) (up_not _ _ um) (by unfold nots; rw [List.length_map]; exact hc) (by
    rw [← q0, hb_not]
    have := hb_mids p
    unfold nots
    rw [List.length_map]
    exact this) (by omega) T
  rw [← q0] at h1 h2
  have m : pm (nots ((p.s, p.l) :: mids p)) (notL p.r) = fun y => !p.mem y := by
    funext y
    rw [pm_not _ _ _ hu ok.r y, pm_mem]
  rw [m, notL_len, notL_len] at h1
  refine ⟨q, h1, ?_⟩
  unfold h_beside g_beside
  clear h1 m q0 nl e1 hu um hc ok sl sr sm
  generalize nots ((p.s, p.l) :: mids p) = ps at *
  simp only [runB, retF, ofF, callF, consF, nilF, frzF, bindF_some, List.map_cons, List.map_nil, List.cons_append, List.nil_append, List.length_cons, List.length_nil, List.replicate_succ, List.replicate_zero, Nat.reduceAdd, Nat.reduceSub, e2, h2]
end LC
namespace LC
open PySem PyProof.Rows L2 Fx PM
theorem orb_run {a b : List Bool} (h : a.length = b.length) : Builtin.bitOr ((vB a : Nat) : Int) ((vB b : Nat) : Int) = ((vB (orL a b) : Nat) : Int) := by
  rw [Bits.bitOr_pp (by omega) (by omega), Int.toNat_natCast, Int.toNat_natCast, vB_or h]
theorem andb_run {a b : List Bool} (h : a.length = b.length) : Builtin.bitAnd ((vB a : Nat) : Int) ((vB b : Nat) : Int) = ((vB (andL a b) : Nat) : Int) := by
  rw [bitAnd_pp (by omega) (by omega), Int.toNat_natCast, Int.toNat_natCast, vB_and h]
def op2 (u : Bool) (f g : Int → Bool) : Int → Bool := fun y => if u then f y || g y else f y && g y
def jw (n : Nat) : Option Int → Option Int → Nat
  | some a, some b => if b - a < (n : Int) then (b - a).toNat else n
  | _, _ => n
def js : Option Int → Int
  | some a => a
  | none => 0
/-- the row of the piece that is joined -/
def jrow (u : Bool) (l m : List Bool) (lo hi : Option Int) : List Bool :=
  win (at_ (win (op2 u (at_ l) (at_ m)) (js lo) (jw (Nat.lcm l.length m.length) lo hi))) (-(js lo)) (jw (Nat.lcm l.length m.length) lo hi)
theorem jw_pos {n : Nat} (h : 0 < n) {lo hi : Option Int} (hlt : ∀ a b, lo = some a → hi = some b → a < b) : 0 < jw n lo hi := by
  cases lo with
  | none => exact h
  | some a =>
    cases hi with
    | none => exact h
    | some b =>
      have := hlt a b rfl rfl
      show 0 < (if b - a < (n : Int) then (b - a).toNat else n)
      split <;> omega
theorem jw_le (n : Nat) (lo hi : Option Int) : jw n lo hi ≤ n := by
  cases lo with
  | none => exact Nat.le_refl _
  | some a =>
    cases hi with
    | none => exact Nat.le_refl _
    | some b =>
      show (if b - a < (n : Int) then (b - a).toNat else n) ≤ n
      split <;> omega
theorem lcm_b {l m : List Bool} (hl : l ≠ []) (hm : m ≠ []) (s1 : l.length ≤ 300) (s2 : m.length ≤ 300) : 0 < Nat.lcm l.length m.length ∧ Nat.lcm l.length m.length ≤ 90000 := by
  refine ⟨Nat.lcm_pos (pos_len hl) (pos_len hm), ?_⟩
  refine Nat.le_trans (Nat.le_of_dvd (Nat.mul_pos (pos_len hl) (pos_len hm)) (Nat.lcm_dvd_mul _ _)) ?_
  exact Nat.le_trans (Nat.mul_le_mul s1 s2) (by omega)
theorem jrow_len (u : Bool) (l m : List Bool) (lo hi : Option Int) : (jrow u l m lo hi).length = jw (Nat.lcm l.length m.length) lo hi := win_len _ _ _
theorem jrow_at {u : Bool} {l m : List Bool} (hl : l ≠ []) (hm : m ≠ []) {lo hi : Option Int} (hlt : ∀ a b, lo = some a → hi = some b → a < b) (y : Int) (h1 : ∀ a, lo = some a → a ≤ y) (h2 : ∀ b, hi = some b → y < b) : at_ (jrow u l m lo hi) y = op2 u (at_ l) (at_ m) y := by
  have hp := Nat.lcm_pos (pos_len hl) (pos_len hm)
  have per : Per (op2 u (at_ l) (at_ m)) ((Nat.lcm l.length m.length : Nat) : Int) := by
    obtain ⟨a, ha⟩ := Nat.dvd_lcm_left l.length m.length
    obtain ⟨b, hb⟩ := Nat.dvd_lcm_right l.length m.length
    have p1 : Per (at_ l) ((Nat.lcm l.length m.length : Nat) : Int) := by
      rw [ha, Int.natCast_mul, Int.mul_comm]
      exact at_per.times _
    have p2 : Per (at_ m) ((Nat.lcm l.length m.length : Nat) : Int) := by
      rw [hb, Int.natCast_mul, Int.mul_comm]
      exact at_per.times _
    intro y
    unfold op2
    rw [p1 y, p2 y]
  refine at_anchor (jw_pos hp hlt) y ?_
  cases lo with
  | none => exact .inl per
  | some a =>
    cases hi with
    | none => exact .inl per
    | some b =>
      have := h1 a rfl
      have := h2 b rfl
      by_cases c : b - a < ((Nat.lcm l.length m.length : Nat) : Int)
      · have e : jw (Nat.lcm l.length m.length) (some a) (some b) = (b - a).toNat := if_pos c
        rw [e]
        exact .inr ⟨by show a ≤ y; omega, by show y < a + _; omega⟩
      · have e : jw (Nat.lcm l.length m.length) (some a) (some b) = Nat.lcm l.length m.length := if_neg c
        rw [e]
        exact .inl per
end LC
namespace LC
open PySem PyProof.Rows L2 Fx PM
theorem isntF_int (i : Int) : isntF (.int i) .non = some (.bl true) := rfl
theorem isntF_non : isntF .non .non = some (.bl false) := rfl
theorem lcmD_run {n m : Nat} (h1 : n ≤ 300) (h2 : m ≤ 300) : lcmD [.int (n : Int), .int (m : Int)] = some (.int ((Nat.lcm n m : Nat) : Int)) := by
  have c : dc ((n : Int).natAbs < 2 ^ 64 ∧ (m : Int).natAbs < 2 ^ 64) = true := dc_of (by rw [Int.natAbs_natCast, Int.natAbs_natCast]; omega)
  show (if dc ((n : Int).natAbs < 2 ^ 64 ∧ (m : Int).natAbs < 2 ^ 64) = true then some (D.int (((n : Int).natAbs.lcm (m : Int).natAbs : Nat) : Int)) else none) = _
  rw [if_pos c, Int.natAbs_natCast, Int.natAbs_natCast]
theorem jp_run (u : Bool) {h1 h2 : Option Int} {l m : List Bool} (hl : l ≠ []) (hm : m ≠ []) (s1 : l.length ≤ 300) (s2 : m.length ≤ 300) {lo hi : Option Int} (hlt : ∀ a b, lo = some a → hi = some b → a < b) (T : Fx.Tm) :
    h_joined_piece [pcD h1 l, pcD h2 m, eO lo, eO hi, .bl u] T = some (pcD hi (jrow u l m lo hi), T) := by
  obtain ⟨b1, b2⟩ := lcm_b hl hm s1 s2
  have b3 := jw_pos b1 hlt
  have b4 := jw_le (Nat.lcm l.length m.length) lo hi
  have e0 := lcmD_run s1 s2
  have e1 := window_run hl (by omega) (js lo) (n := jw (Nat.lcm l.length m.length) lo hi) (by omega) T
  have e2 := window_run hm (by omega) (js lo) (n := jw (Nat.lcm l.length m.length) lo hi) (by omega) T
  have wl := win_len (op2 u (at_ l) (at_ m)) (js lo) (jw (Nat.lcm l.length m.length) lo hi)
  have e3 := anchored_run (l := win (op2 u (at_ l) (at_ m)) (js lo) (jw (Nat.lcm l.length m.length) lo hi)) (by intro q; rw [q] at wl; simp at wl; omega) (by omega) (js lo) T
  rw [wl] at e3
  have e4 : (if u then Builtin.bitOr ((vB (win (at_ l) (js lo) (jw (Nat.lcm l.length m.length) lo hi)) : Nat) : Int) ((vB (win (at_ m) (js lo) (jw (Nat.lcm l.length m.length) lo hi)) : Nat) : Int) else Builtin.bitAnd ((vB (win (at_ l) (js lo) (jw (Nat.lcm l.length m.length) lo hi)) : Nat) : Int) ((vB (win (at_ m) (js lo) (jw (Nat.lcm l.length m.length) lo hi)) : Nat) : Int)) = ((vB (win (op2 u (at_ l) (at_ m)) (js lo) (jw (Nat.lcm l.length m.length) lo hi)) : Nat) : Int) := by
    cases u with
    | true =>
      rw [if_pos rfl, orb_run (by rw [win_len, win_len]), win_or]
      rfl
    | false =>
      rw [if_neg (by decide), andb_run (by rw [win_len, win_len]), win_and]
      rfl
  have big : decide ((1000000 : Int) < (jw (Nat.lcm l.length m.length) lo hi : Int)) = false := decide_eq_false (by omega)
  have i1 : ∀ h l, ixD T (.val (pcD h l)) (.int 1) = some (.int ((vB l : Nat) : Int)) := fun h l => ix1 _ _ _
  have i2 : ∀ h l, ixD T (.val (pcD h l)) (.int 2) = some (.int (l.length : Int)) := fun h l => ix2 _ _ _ _
  have e5 : pcD hi (jrow u l m lo hi) = .tup [eO hi, .int ((vB (jrow u l m lo hi) : Nat) : Int), .int (jw (Nat.lcm l.length m.length) lo hi : Int)] := by
    unfold pcD
    rw [jrow_len]
  have l3 : (3 : Nat) ≤ PySem.sizeLine := by rw [line_eq]; omega
  rw [show win (at_ (win (op2 u (at_ l) (at_ m)) (js lo) (jw (Nat.lcm l.length m.length) lo hi))) (-(js lo)) (jw (Nat.lcm l.length m.length) lo hi) = jrow u l m lo hi from rfl] at e3
  rw [e5]
  unfold h_joined_piece g_joined_piece
  clear e5 wl b1 b3 b4 hl hm s1 s2
  cases lo with
  | none =>
    have q1 : jw (Nat.lcm l.length m.length) none hi = Nat.lcm l.length m.length := by cases hi <;> rfl
    have q2 : js none = 0 := rfl
    have q3 : eO none = D.non := rfl
    simp only [q1, q2] at e1 e2 e3 e4 big ⊢
    clear q1 q2
    clear hlt b2
    generalize eO hi = eh at *
    cases u <;> (simp only [if_true, Bool.false_eq_true, if_false] at e4; simp only [runB, seqS, nilS, asgF, retF, ifS, ifE, testF, orT, andT, binF, varF, varO, constF, ofF, bindF_some, consF, nilF, callF, tupF, setN, blF, ixF, iiF_int, ctt_eq, isF_int, isF_non, isntF_int, isntF_non, List.map_cons, List.map_nil, List.cons_append, List.nil_append, List.length_cons, List.length_nil, List.replicate_succ, List.replicate_zero, List.getElem?_cons_zero, List.getElem?_cons_succ, List.set_cons_zero, List.set_cons_succ, Option.map_some, if_true, Nat.reduceAdd, Nat.reduceSub, Bool.false_eq_true, if_false, *])
  | some a =>
    cases hi with
    | none =>
      have q1 : jw (Nat.lcm l.length m.length) (some a) none = Nat.lcm l.length m.length := rfl
      have q2 : js (some a) = a := rfl
      have q3 : eO none = D.non := rfl
      have q4 : eO (some a) = D.int a := rfl
      simp only [q1, q2] at e1 e2 e3 e4 big ⊢
      clear q1 q2
      clear hlt b2
      cases u <;> (simp only [if_true, Bool.false_eq_true, if_false] at e4; simp only [runB, seqS, nilS, asgF, retF, ifS, ifE, testF, orT, andT, binF, varF, varO, constF, ofF, bindF_some, consF, nilF, callF, tupF, setN, blF, ixF, iiF_int, ctt_eq, isF_int, isF_non, isntF_int, isntF_non, List.map_cons, List.map_nil, List.cons_append, List.nil_append, List.length_cons, List.length_nil, List.replicate_succ, List.replicate_zero, List.getElem?_cons_zero, List.getElem?_cons_succ, List.set_cons_zero, List.set_cons_succ, Option.map_some, if_true, Nat.reduceAdd, Nat.reduceSub, Bool.false_eq_true, if_false, *])
    | some b =>
      have q2 : js (some a) = a := rfl
      have q3 : eO (some b) = D.int b := rfl
      have q4 : eO (some a) = D.int a := rfl
      have lt := hlt a b rfl rfl
      by_cases c : b - a < ((Nat.lcm l.length m.length : Nat) : Int)
      · have q1 : jw (Nat.lcm l.length m.length) (some a) (some b) = (b - a).toNat := if_pos c
        have q5 : decide (b - a < ((Nat.lcm l.length m.length : Nat) : Int)) = true := decide_eq_true c
        have q6 : (((b - a).toNat : Nat) : Int) = b - a := Int.toNat_of_nonneg (by omega)
        simp only [q1, q2] at e1 e2 e3 e4 big ⊢
        clear q1 q2
        simp only [q6] at e1 e2 e3 e4 big ⊢
        clear hlt b2 lt c q6
        cases u <;> (simp only [if_true, Bool.false_eq_true, if_false] at e4; simp only [runB, seqS, nilS, asgF, retF, ifS, ifE, testF, orT, andT, binF, varF, varO, constF, ofF, bindF_some, consF, nilF, callF, tupF, setN, blF, ixF, iiF_int, ctt_eq, isF_int, isF_non, isntF_int, isntF_non, List.map_cons, List.map_nil, List.cons_append, List.nil_append, List.length_cons, List.length_nil, List.replicate_succ, List.replicate_zero, List.getElem?_cons_zero, List.getElem?_cons_succ, List.set_cons_zero, List.set_cons_succ, Option.map_some, if_true, Nat.reduceAdd, Nat.reduceSub, Bool.false_eq_true, if_false, *])
      · have q1 : jw (Nat.lcm l.length m.length) (some a) (some b) = Nat.lcm l.length m.length := if_neg c
        have q5 : decide (b - a < ((Nat.lcm l.length m.length : Nat) : Int)) = false := decide_eq_false c
        simp only [q1, q2] at e1 e2 e3 e4 big ⊢
        clear q1 q2
        clear hlt b2 lt c
        cases u <;> (simp only [if_true, Bool.false_eq_true, if_false] at e4; simp only [runB, seqS, nilS, asgF, retF, ifS, ifE, testF, orT, andT, binF, varF, varO, constF, ofF, bindF_some, consF, nilF, callF, tupF, setN, blF, ixF, iiF_int, ctt_eq, isF_int, isF_non, isntF_int, isntF_non, List.map_cons, List.map_nil, List.cons_append, List.nil_append, List.length_cons, List.length_nil, List.replicate_succ, List.replicate_zero, List.getElem?_cons_zero, List.getElem?_cons_succ, List.set_cons_zero, List.set_cons_succ, Option.map_some, if_true, Nat.reduceAdd, Nat.reduceSub, Bool.false_eq_true, if_false, *])
end LC
namespace LC
open PySem PyProof.Rows L2 Fx PM
def hdH : List (Int × List Bool) → Option Int
  | [] => none
  | (h, _) :: _ => some h
def hdR (z : List Bool) : List (Int × List Bool) → List Bool
  | [] => z
  | (_, l) :: _ => l
def mnO : Option Int → Option Int → Option Int
  | none, o => o
  | some a, none => some a
  | some a, some b => some (if b < a then b else a)
theorem lesser_run (a b : Option Int) (T : Fx.Tm) : h_lesser [eO a, eO b] T = some (eO (mnO a b), T) := by
  unfold h_lesser g_lesser
  cases a with
  | none =>
    have q : eO none = D.non := rfl
    have r : mnO none b = b := by cases b <;> rfl
    rw [r]
    generalize eO b = B
    simp only [runB, seqS, nilS, retF, ifS, testF, binF, varF, varO, constF, ofF, bindF_some, isF_non, q, List.map_cons, List.map_nil, List.cons_append, List.nil_append, List.length_cons, List.length_nil, List.replicate_succ, List.replicate_zero, List.getElem?_cons_zero, List.getElem?_cons_succ, Option.map_some, if_true, Nat.reduceAdd, Nat.reduceSub, ctt_eq]
  | some a =>
    cases b with
    | none =>
      have q : eO none = D.non := rfl
      have q2 : eO (some a) = D.int a := rfl
      have r : mnO (some a) none = some a := rfl
      simp only [runB, seqS, nilS, retF, ifS, ifE, testF, binF, varF, varO, constF, ofF, bindF_some, isF_non, isF_int, q, q2, r, List.map_cons, List.map_nil, List.cons_append, List.nil_append, List.length_cons, List.length_nil, List.replicate_succ, List.replicate_zero, List.getElem?_cons_zero, List.getElem?_cons_succ, Option.map_some, if_true, Bool.false_eq_true, if_false, Nat.reduceAdd, Nat.reduceSub, ctt_eq]
    | some b =>
      have q : eO (some b) = D.int b := rfl
      have q2 : eO (some a) = D.int a := rfl
      have r : mnO (some a) (some b) = some (if b < a then b else a) := rfl
      have q3 : eO (some (if b < a then b else a)) = D.int (if b < a then b else a) := rfl
      rw [r, q3]
      simp only [runB, seqS, nilS, retF, ifS, ifE, testF, binF, varF, varO, constF, ofF, blF, consF, nilF, bindF_some, isF_non, isF_int, q, q2, minD_int, List.map_cons, List.map_nil, List.cons_append, List.nil_append, List.length_cons, List.length_nil, List.replicate_succ, List.replicate_zero, List.getElem?_cons_zero, List.getElem?_cons_succ, Option.map_some, if_true, Bool.false_eq_true, if_false, Nat.reduceAdd, Nat.reduceSub, ctt_eq]
noncomputable def jBody : FS := seqS (asgF 7 (callF h_lesser (consF (ixF (ofF (ixF (varO 0) (varF 5))) (constF (.int 0))) (consF (ixF (ofF (ixF (varO 1) (varF 6))) (constF (.int 0))) (nilF)))))
      (seqS (appF 3 (callF h_joined_piece (consF (ixF (varO 0) (varF 5)) (consF (ixF (varO 1) (varF 6)) (consF (varF 4) (consF (varF 7) (consF (varF 2) (nilF))))))))
      (seqS (asgF 4 (varF 7))
      (seqS (augF 5 addiD (ifE (testF (binF eqD (ixF (ofF (ixF (varO 0) (varF 5))) (constF (.int 0))) (varF 7))) (constF (.int 1)) (constF (.int 0))))
      (augF 6 addiD (ifE (testF (binF eqD (ixF (ofF (ixF (varO 1) (varF 6))) (constF (.int 0))) (varF 7))) (constF (.int 1)) (constF (.int 0)))))))
noncomputable def jCond : FT := andT (testF (binF ltD (varF 5) (lenF (varO 0)))) (testF (binF ltD (varF 6) (lenF (varO 1))))
theorem g_joined_eq : g_joined = seqS (ownF 3 (lstF (nilF)))
      (seqS (asgF 4 (constF .non))
      (seqS (asg2F 5 6 (constF (.int 0)))
      (seqS (whS jCond jBody)
      (retF (varO 3))))) := rfl
theorem pcs_hd (ps : List (Int × List Bool)) (z : List Bool) : ∃ xs, pcsD ps z = pcD (hdH ps) (hdR z ps) :: xs := by
  cases ps with
  | nil => exact ⟨[], rfl⟩
  | cons p ps => exact ⟨_, rfl⟩
theorem ix_suf (T : Fx.Tm) (pre : List D) (ps : List (Int × List Bool)) (z : List Bool) : ixD T (.val (.lst (pre ++ pcsD ps z))) (.int (pre.length : Int)) = some (pcD (hdH ps) (hdR z ps)) := by
  obtain ⟨xs, e⟩ := pcs_hd ps z
  rw [ixD_lst, atI_nn (by omega) (by rw [List.length_append, e]; simp only [List.length_cons]; omega), Int.toNat_natCast, e, List.getElem?_append_right (Nat.le_refl _), Nat.sub_self]
  rfl
theorem jb_run (u : Bool) {ps qs : List (Int × List Bool)} {z w : List Bool} (pre1 pre2 acc : List D) {lo : Option Int} (x7 : Sl) (hl : hdR z ps ≠ []) (hm : hdR w qs ≠ []) (s1 : (hdR z ps).length ≤ 300) (s2 : (hdR w qs).length ≤ 300) (hlt : ∀ a b, lo = some a → mnO (hdH ps) (hdH qs) = some b → a < b) (ha : acc.length < 1000) (b1 : pre1.length < 1000000) (b2 : pre2.length < 1000000) (T : Fx.Tm) :
    jBody [.dat (.lst (pre1 ++ pcsD ps z)), .dat (.lst (pre2 ++ pcsD qs w)), .dat (.bl u), .own acc, .dat (eO lo), .dat (.int (pre1.length : Int)), .dat (.int (pre2.length : Int)), x7] T =
      some (.nx [.dat (.lst (pre1 ++ pcsD ps z)), .dat (.lst (pre2 ++ pcsD qs w)), .dat (.bl u), .own (acc ++ [pcD (mnO (hdH ps) (hdH qs)) (jrow u (hdR z ps) (hdR w qs) lo (mnO (hdH ps) (hdH qs)))]), .dat (eO (mnO (hdH ps) (hdH qs))), .dat (.int ((pre1.length : Int) + if hdH ps = mnO (hdH ps) (hdH qs) then 1 else 0)), .dat (.int ((pre2.length : Int) + if hdH qs = mnO (hdH ps) (hdH qs) then 1 else 0)), .dat (eO (mnO (hdH ps) (hdH qs)))], T) := by
  have i1 := ix_suf T pre1 ps z
  have i2 := ix_suf T pre2 qs w
  have h1 : ixD T (.val (pcD (hdH ps) (hdR z ps))) (.int 0) = some (eO (hdH ps)) := ix0 _ _
  have h2 : ixD T (.val (pcD (hdH qs) (hdR w qs))) (.int 0) = some (eO (hdH qs)) := ix0 _ _
  have e1 := lesser_run (hdH ps) (hdH qs) T
  have e2 := jp_run u (h1 := hdH ps) (h2 := hdH qs) hl hm s1 s2 hlt T
  have e3 := eqD_eO (hdH ps) (mnO (hdH ps) (hdH qs))
  have e4 := eqD_eO (hdH qs) (mnO (hdH ps) (hdH qs))
  have l1 : acc.length < PySem.sizeLine := by rw [line_eq]; omega
  generalize hA : pre1 ++ pcsD ps z = A at *
  generalize hB : pre2 ++ pcsD qs w = B at *
  generalize hP : pcD (hdH ps) (hdR z ps) = P at *
  generalize hQ : pcD (hdH qs) (hdR w qs) = Q at *
  generalize hR : pcD (mnO (hdH ps) (hdH qs)) (jrow u (hdR z ps) (hdR w qs) lo (mnO (hdH ps) (hdH qs))) = R at *
  generalize mnO (hdH ps) (hdH qs) = M at *
  clear hA hB hP hQ hR hl hm s1 s2 hlt ha
  have c1 : ∀ (n : Nat) (b : Bool), n < 1000000 → addiD (.int (n : Int)) (.int (if b then 1 else 0)) = some (.int ((n : Int) + if b then 1 else 0)) := fun n b h => rfl
  have c2 : (if hdH ps = M then (1 : Int) else 0) = if decide (hdH ps = M) = true then 1 else 0 := by simp
  have c3 : (if hdH qs = M then (1 : Int) else 0) = if decide (hdH qs = M) = true then 1 else 0 := by simp
  have d1 := c1 pre1.length (decide (hdH ps = M)) b1
  have d2 := c1 pre2.length (decide (hdH qs = M)) b2
  rw [c2, c3]
  clear c1 c2 c3 b1 b2
  unfold jBody
  cases e5 : decide (hdH ps = M) <;> cases e6 : decide (hdH qs = M) <;> rw [e5] at d1 e3 <;> rw [e6] at d2 e4 <;> clear e5 e6 <;>
  simp only [if_true, Bool.false_eq_true, if_false] at d1 d2 <;>
  simp only [seqS, asgF, ifE, testF, binF, varF, varO, constF, ofF, bindF_some, consF, nilF, callF, appF, augF, setN, ixF, ctt_eq, List.getElem?_cons_zero, List.getElem?_cons_succ, List.set_cons_zero, List.set_cons_succ, Option.map_some, if_true, Bool.false_eq_true, if_false, *]
end LC
namespace LC
open PySem PyProof.Rows L2 Fx PM
def UpS (N : Nat) : Option Int → List (Int × List Bool) → Prop
  | _, [] => True
  | lo, (h, l) :: ps => (∀ a, lo = some a → a < h) ∧ l ≠ [] ∧ l.length ≤ N ∧ UpS N (some h) ps
def adv (M : Int) : List (Int × List Bool) → List (Int × List Bool)
  | [] => []
  | (h, l) :: t => if h = M then t else (h, l) :: t
theorem adv_pre (M : Int) (pre : List D) (ps : List (Int × List Bool)) (z : List Bool) : ∃ pre', pre ++ pcsD ps z = pre' ++ pcsD (adv M ps) z ∧ (pre'.length : Int) = (pre.length : Int) + (if hdH ps = some M then 1 else 0) := by
  cases ps with
  | nil => exact ⟨pre, rfl, by rw [if_neg (by show ¬ (none = some M); simp)]; omega⟩
  | cons p t =>
    obtain ⟨h, l⟩ := p
    by_cases e : h = M
    · subst e
      refine ⟨pre ++ [pcD (some h) l], ?_, ?_⟩
      · show _ = _ ++ pcsD (if h = h then t else (h, l) :: t) z
        rw [if_pos rfl, List.append_assoc]
        rfl
      · rw [if_pos (show hdH ((h, l) :: t) = some h from rfl), List.length_append]
        simp
    · refine ⟨pre, ?_, ?_⟩
      · show _ = _ ++ pcsD (if h = M then t else (h, l) :: t) z
        rw [if_neg e]
      · rw [if_neg (by show ¬ (some h = some M); simpa using e)]
        omega
theorem adv_len (M : Int) (ps : List (Int × List Bool)) : (adv M ps).length + (if hdH ps = some M then 1 else 0) = ps.length := by
  cases ps with
  | nil => rfl
  | cons p t =>
    obtain ⟨h, l⟩ := p
    show (if h = M then t else (h, l) :: t).length + (if some h = some M then 1 else 0) = _
    by_cases e : h = M
    · subst e
      rw [if_pos rfl, if_pos rfl]
      rfl
    · rw [if_neg e, if_neg (by simpa using e)]
      rfl
theorem adv_mem {M : Int} {ps : List (Int × List Bool)} {p : Int × List Bool} (h : p ∈ adv M ps) : p ∈ ps := by
  cases ps with
  | nil => exact h
  | cons q t =>
    obtain ⟨k, l⟩ := q
    change p ∈ (if k = M then t else (k, l) :: t) at h
    split at h
    · exact List.mem_cons_of_mem _ h
    · exact h
theorem adv_up {N : Nat} {M : Int} {lo : Option Int} {ps : List (Int × List Bool)} (hu : UpS N lo ps) (hM : ∀ h, hdH ps = some h → M ≤ h) : UpS N (some M) (adv M ps) := by
  cases ps with
  | nil => trivial
  | cons q t =>
    obtain ⟨k, l⟩ := q
    have := hM k rfl
    show UpS N (some M) (if k = M then t else (k, l) :: t)
    by_cases e : k = M
    · subst e
      rw [if_pos rfl]
      exact hu.2.2.2
    · rw [if_neg e]
      exact ⟨fun a ha => by cases ha; omega, hu.2⟩
theorem adv_pm {M : Int} {ps : List (Int × List Bool)} {z : List Bool} {y : Int} (hy : M ≤ y) : pm (adv M ps) z y = pm ps z y := by
  cases ps with
  | nil => rfl
  | cons q t =>
    obtain ⟨k, l⟩ := q
    show pm (if k = M then t else (k, l) :: t) z y = _
    by_cases e : k = M
    · subst e
      rw [if_pos rfl]
      show _ = (if y < k then at_ l y else pm t z y)
      rw [if_neg (by omega)]
    · rw [if_neg e]
theorem hd_pm {ps : List (Int × List Bool)} {z : List Bool} {y : Int} (hy : ∀ h, hdH ps = some h → y < h) : pm ps z y = at_ (hdR z ps) y := by
  cases ps with
  | nil => rfl
  | cons q t =>
    obtain ⟨k, l⟩ := q
    show (if y < k then at_ l y else pm t z y) = _
    rw [if_pos (hy k rfl)]
    rfl
theorem hdR_ok {N : Nat} {lo : Option Int} {ps : List (Int × List Bool)} {z : List Bool} (hz : z ≠ []) (sz : z.length ≤ N) (hu : UpS N lo ps) : hdR z ps ≠ [] ∧ (hdR z ps).length ≤ N := by
  cases ps with
  | nil => exact ⟨hz, sz⟩
  | cons q t => exact ⟨hu.2.1, hu.2.2.1⟩
theorem hdH_lo {N : Nat} {lo : Option Int} {ps : List (Int × List Bool)} (hu : UpS N lo ps) : ∀ a b, lo = some a → hdH ps = some b → a < b := by
  cases ps with
  | nil => exact fun a b _ h => by cases h
  | cons q t => exact fun a b h1 h2 => by cases h2; exact hu.1 a h1
theorem mnO_le {a b : Option Int} {M : Int} (h : mnO a b = some M) : (∀ x, a = some x → M ≤ x) ∧ (∀ x, b = some x → M ≤ x) ∧ (a = some M ∨ b = some M) := by
  cases a with
  | none =>
    have h : b = some M := by rw [← h]; cases b <;> rfl
    exact ⟨fun x e => (by cases e), fun x e => (by rw [h] at e; cases e; omega), .inr h⟩
  | some a =>
    cases b with
    | none => cases h; exact ⟨fun x e => (by cases e; omega), fun x e => (by cases e), .inl rfl⟩
    | some b =>
      change some (if b < a then b else a) = some M at h
      cases h
      refine ⟨fun x e => ?_, fun x e => ?_, ?_⟩
      · cases e; split <;> omega
      · cases e; split <;> omega
      · split
        · exact .inr rfl
        · exact .inl rfl
theorem jcond_run {A B : List D} {i j : Int} (b : Bool) (hA : (decide (i < (A.length : Int)) && decide (j < (B.length : Int))) = b) (x2 x3 x4 x7 : Sl) (T : Fx.Tm) :
    jCond [.dat (.lst A), .dat (.lst B), x2, x3, x4, .dat (.int i), .dat (.int j), x7] T = some (b, T) := by
  subst hA
  unfold jCond
  cases h1 : decide (i < (A.length : Int)) <;> simp only [andT, testF, binF, varF, varO, lenF, bindF_some, iiF_int, ctt_eq, lenD_lst, List.getElem?_cons_zero, List.getElem?_cons_succ, Option.map_some, if_true, Bool.false_eq_true, if_false, h1, Bool.false_and, Bool.true_and]
theorem jn_loop (u : Bool) {z w : List Bool} (hz : z ≠ []) (hw : w ≠ []) (sz : z.length ≤ 300) (sw : w.length ≤ 300) (T : Fx.Tm) : ∀ (n : Nat) (ps qs : List (Int × List Bool)) (pre1 pre2 acc : List D) (lo : Option Int) (x7 : Sl),
    ps.length + qs.length ≤ n → UpS 300 lo ps → UpS 300 lo qs → acc.length + ps.length + qs.length < 900 → pre1.length + ps.length < 1000 → pre2.length + qs.length < 1000 →
    ∃ rs row y4 y5 y6 y7, whS jCond jBody [.dat (.lst (pre1 ++ pcsD ps z)), .dat (.lst (pre2 ++ pcsD qs w)), .dat (.bl u), .own acc, .dat (eO lo), .dat (.int (pre1.length : Int)), .dat (.int (pre2.length : Int)), x7] T =
        some (.nx [.dat (.lst (pre1 ++ pcsD ps z)), .dat (.lst (pre2 ++ pcsD qs w)), .dat (.bl u), .own (acc ++ pcsD rs row), y4, y5, y6, y7], T) ∧
      row ≠ [] ∧ row.length ≤ 90000 ∧ UpS 90000 lo rs ∧ (∀ y, (∀ a, lo = some a → a ≤ y) → pm rs row y = op2 u (pm ps z) (pm qs w) y) ∧
      (∀ M, (∀ p ∈ ps, p.1 ≤ M) → (∀ q ∈ qs, q.1 ≤ M) → ∀ r ∈ rs, r.1 ≤ M) ∧ rs.length ≤ ps.length + qs.length ∧ hdH rs = mnO (hdH ps) (hdH qs) ∧ (hdR row rs).length ≤ Nat.lcm (hdR z ps).length (hdR w qs).length ∧ row.length ≤ Nat.lcm z.length w.length := by
  intro n
  induction n with
  | zero =>
    intro ps qs pre1 pre2 acc lo x7 hn hu hv hc c1 c2
    have e1 : ps = [] := List.length_eq_zero_iff.mp (by omega)
    have e2 : qs = [] := List.length_eq_zero_iff.mp (by omega)
    subst e1
    subst e2
    have nolt : ∀ a b, lo = some a → (none : Option Int) = some b → a < b := fun a b _ h => by cases h
    have b := jb_run u (ps := []) (qs := []) (z := z) (w := w) pre1 pre2 acc (lo := lo) x7 hz hw sz sw nolt (by omega) (by omega) (by omega) T
    have rl := jrow_len u z w lo none
    obtain ⟨p1, p2⟩ := lcm_b hz hw sz sw
    have p3 := jw_pos p1 nolt
    have p4 := jw_le (Nat.lcm z.length w.length) lo none
    have l1 : (pre1 ++ pcsD [] z).length = pre1.length + 1 := by rw [List.length_append]; rfl
    have l2 : (pre2 ++ pcsD [] w).length = pre2.length + 1 := by rw [List.length_append]; rfl
    refine ⟨[], jrow u z w lo none, _, _, _, _, whS_go (jcond_run true (by rw [l1, l2]; simp; omega) _ _ _ _ T) b (whS_no (jcond_run false (by rw [l1]; simp [hdH, mnO]) _ _ _ _ T)), by intro q; rw [q] at rl; simp at rl; omega, by omega, trivial, fun y hy => ?_, fun M _ _ r hr => (by cases hr), by simp, rfl, by show (jrow u z w lo none).length ≤ _; rw [rl]; exact p4, by rw [rl]; exact p4⟩
    exact jrow_at hz hw nolt y hy (fun b h => by cases h)
  | succ n ih =>
    intro ps qs pre1 pre2 acc lo x7 hn hu hv hc c1 c2
    cases hM : mnO (hdH ps) (hdH qs) with
    | none =>
      have e1 : ps = [] := by
        cases ps with
        | nil => rfl
        | cons p t =>
          exfalso
          cases qs <;> cases hM
      have e2 : qs = [] := by
        cases qs with
        | nil => rfl
        | cons p t =>
          exfalso
          subst e1
          cases hM
      subst e1
      subst e2
      exact ih [] [] pre1 pre2 acc lo x7 (by simp) hu hv hc c1 c2
    | some M =>
      obtain ⟨m1, m2, m3⟩ := mnO_le hM
      obtain ⟨k1, k2⟩ := hdR_ok hz sz hu
      obtain ⟨k3, k4⟩ := hdR_ok hw sw hv
      have hlt : ∀ a b, lo = some a → some M = some b → a < b := fun a b h1 h2 => by
        cases h2
        rcases m3 with m3 | m3
        · exact hdH_lo hu a _ h1 m3
        · exact hdH_lo hv a _ h1 m3
      have b := jb_run u (ps := ps) (qs := qs) (z := z) (w := w) pre1 pre2 acc (lo := lo) x7 k1 k3 k2 k4 (by rw [hM]; exact hlt) (by omega) (by omega) (by omega) T
      rw [hM] at b
      obtain ⟨pr1, a1, a2⟩ := adv_pre M pre1 ps z
      obtain ⟨pr2, a3, a4⟩ := adv_pre M pre2 qs w
      have a5 := adv_len M ps
      have a6 := adv_len M qs
      have dec : (adv M ps).length + (adv M qs).length < ps.length + qs.length := by
        rcases m3 with m3 | m3
        · rw [if_pos m3] at a5
          split at a6 <;> omega
        · rw [if_pos m3] at a6
          split at a5 <;> omega
      have l1 : (pre1 ++ pcsD ps z).length = pre1.length + (ps.length + 1) := by rw [List.length_append, pcsD_len]
      have l2 : (pre2 ++ pcsD qs w).length = pre2.length + (qs.length + 1) := by rw [List.length_append, pcsD_len]
      have rl := jrow_len u (hdR z ps) (hdR w qs) lo (some M)
      obtain ⟨p1, p2⟩ := lcm_b k1 k3 k2 k4
      have p3 := jw_pos p1 hlt
      have p4 := jw_le (Nat.lcm (hdR z ps).length (hdR w qs).length) lo (some M)
      have u1 := adv_up (M := M) hu m1
      have u2 := adv_up (M := M) hv m2
      obtain ⟨rs, row, y4, y5, y6, y7, i1, i2, i3, i4, i5, i6, i7, i8, _, i9⟩ := ih (adv M ps) (adv M qs) pr1 pr2 (acc ++ [pcD (some M) (jrow u (hdR z ps) (hdR w qs) lo (some M))]) (some M) (.dat (eO (some M))) (by omega) u1 u2 (by rw [List.length_append]; simp only [List.length_cons, List.length_nil]; omega) (by split at a5 <;> rename_i q <;> simp only [q, if_true, if_false] at a2 <;> omega) (by split at a6 <;> rename_i q <;> simp only [q, if_true, if_false] at a4 <;> omega)
      rw [← a1, ← a3, a2, a4] at i1
      refine ⟨(M, jrow u (hdR z ps) (hdR w qs) lo (some M)) :: rs, row, y4, y5, y6, y7, ?_, i2, i3, ⟨fun a ha => hlt a M ha rfl, by intro q; rw [q] at rl; simp at rl; omega, by rw [rl]; omega, i4⟩, fun y hy => ?_, fun K h1 h2 r hr => ?_, by rw [List.length_cons]; omega, rfl, by show (jrow u (hdR z ps) (hdR w qs) lo (some M)).length ≤ _; rw [rl]; exact p4, i9⟩
      · have fin := whS_go (jcond_run true (by rw [l1, l2]; simp; omega) _ _ _ _ T) b i1
        rw [fin]
        rw [List.append_assoc]
        rfl
      · show (if y < M then at_ (jrow u (hdR z ps) (hdR w qs) lo (some M)) y else pm rs row y) = _
        by_cases c : y < M
        · rw [if_pos c, jrow_at k1 k3 hlt y hy (fun b h => by cases h; exact c)]
          unfold op2
          rw [hd_pm (z := z) (ps := ps) (fun h e => by have := m1 h e; omega), hd_pm (z := w) (ps := qs) (fun h e => by have := m2 h e; omega)]
        · rw [if_neg c, i5 y (fun a ha => by cases ha; omega)]
          unfold op2
          rw [adv_pm (by omega), adv_pm (by omega)]
      · rcases List.mem_cons.mp hr with e | e
        · subst e
          rcases m3 with m3 | m3
          · cases ps with
            | nil => cases m3
            | cons p t => cases m3; exact h1 p (List.mem_cons_self ..)
          · cases qs with
            | nil => cases m3
            | cons p t => cases m3; exact h2 p (List.mem_cons_self ..)
        · exact i6 K (fun p hp => h1 p (adv_mem hp)) (fun q hq => h2 q (adv_mem hq)) r e
end LC
namespace LC
open PySem PyProof.Rows L2 Fx PM
theorem hb_last {rs : List (Int × List Bool)} (h : rs ≠ []) : ∃ p ∈ rs, hb rs rs.length = some p.1 := by
  have hp := List.length_pos_iff.mpr h
  refine ⟨rs[rs.length - 1], List.getElem_mem _, ?_⟩
  unfold hb
  rw [if_neg (by omega), List.getElem?_eq_getElem (by omega)]
  rfl
theorem upS_up {N : Nat} (hN : N ≤ 100000) : ∀ {ps : List (Int × List Bool)} {lo : Int}, UpS N (some lo) ps → Up lo ps
  | [], _, _ => trivial
  | (h, l) :: ps, lo, hu => ⟨by have := hu.1 lo rfl; omega, hu.2.1, by have := hu.2.2.1; omega, upS_up hN hu.2.2.2⟩
theorem upS_ge {N : Nat} : ∀ {ps : List (Int × List Bool)} {lo : Int}, UpS N (some lo) ps → ∀ p ∈ ps, lo < p.1
  | [], _, _, p, hp => by cases hp
  | (h, l) :: ps, lo, hu, p, hp => by
    have := hu.1 lo rfl
    rcases List.mem_cons.mp hp with e | e
    · subst e; exact this
    · have := upS_ge hu.2.2.2 p e; omega
theorem upS_mids {p : Pat} (h : p.m.length ≤ 300) : UpS 300 (some p.s) (mids p) := by
  unfold mids
  by_cases m : p.m = []
  · rw [if_pos m]
    trivial
  · rw [if_neg m]
    have := pos_len m
    exact ⟨fun a ha => by cases ha; omega, by intro q; have w := win_len (at_ p.m) (-p.s) p.m.length; rw [q] at w; simp at w; omega, by rw [win_len]; omega, trivial⟩
theorem mids_le (p : Pat) : ∀ q ∈ (p.s, p.l) :: mids p, q.1 ≤ p.s + (p.m.length : Int) := by
  intro q hq
  rcases List.mem_cons.mp hq with e | e
  · subst e; show p.s ≤ _; omega
  · unfold mids at e
    split at e
    · cases e
    · rw [List.mem_singleton.mp e]; show p.s + _ ≤ _; omega
theorem mids_n (p : Pat) : (mids p).length ≤ 1 := by unfold mids; split <;> simp
/-- the pieces of two patterns joined, and the pattern that is written of them -/
theorem join_run (u : Bool) {p q : Pat} (okp : p.Ok) (okq : q.Ok) (a1 : p.l.length ≤ 300) (a2 : p.r.length ≤ 300) (a3 : p.m.length ≤ 300) (b1 : q.l.length ≤ 300) (b2 : q.r.length ≤ 300) (b3 : q.m.length ≤ 300)
    {M : Int} (c1 : p.s + (p.m.length : Int) ≤ M) (c2 : q.s + (q.m.length : Int) ≤ M) (c3 : M - (if q.s < p.s then q.s else p.s) ≤ 640) (T : Fx.Tm) :
    ∃ (d : D) (r : Pat) (n m : Nat) (hi : Int), h_joined [.lst (pcsD ((p.s, p.l) :: mids p) p.r), .lst (pcsD ((q.s, q.l) :: mids q) q.r), .bl u] T = some (d, T) ∧ h_written [d] T = some (eP r, T) ∧
      Wr (op2 u p.mem q.mem) r n m (if q.s < p.s then q.s else p.s) hi ∧ hi ≤ M ∧ n ≤ Nat.lcm p.l.length q.l.length ∧ m ≤ Nat.lcm p.r.length q.r.length := by
  have h0 : UpS 300 none ((p.s, p.l) :: mids p) := ⟨fun a ha => (by cases ha), okp.l, a1, upS_mids a3⟩
  have h1 : UpS 300 none ((q.s, q.l) :: mids q) := ⟨fun a ha => (by cases ha), okq.l, b1, upS_mids b3⟩
  have n1 := mids_n p
  have n2 := mids_n q
  have key := fun x7 => jn_loop u okp.r okq.r a2 b2 T (((p.s, p.l) :: mids p).length + ((q.s, q.l) :: mids q).length) ((p.s, p.l) :: mids p) ((q.s, q.l) :: mids q) [] [] [] none x7 (Nat.le_refl _) h0 h1 (by simp only [List.length_cons, List.length_nil]; omega) (by simp only [List.length_cons, List.length_nil]; omega) (by simp only [List.length_cons, List.length_nil]; omega)
  obtain ⟨rs, row, y4, y5, y6, y7, w1, w2, w3, w4, w5, w6, w7, w8, w9, w10⟩ := key .un
  clear key
  rw [List.nil_append, List.nil_append, List.nil_append] at w1
  have hj : h_joined [.lst (pcsD ((p.s, p.l) :: mids p) p.r), .lst (pcsD ((q.s, q.l) :: mids q) q.r), .bl u] T = some (.lst (pcsD rs row), T) := by
    unfold h_joined
    rw [g_joined_eq]
    rw [show eO none = D.non from rfl] at w1
    generalize pcsD ((p.s, p.l) :: mids p) p.r = A at *
    generalize pcsD ((q.s, q.l) :: mids q) q.r = B at *
    generalize pcsD rs row = R at *
    clear w2 w3 w4 w5 w6 w7 w8 w9 w10 h0 h1 n1 n2 okp okq a1 a2 a3 b1 b2 b3 c1 c2 c3
    have w1' : whS jCond jBody [.dat (.lst A), .dat (.lst B), .dat (.bl u), .own [], .dat .non, .dat (.int 0), .dat (.int 0), .un] T = some (.nx [.dat (.lst A), .dat (.lst B), .dat (.bl u), .own R, y4, y5, y6, y7], T) := w1
    have l0 := len0
    simp only [runB, seqS, ownF, lstF, nilF, l0, asgF, asg2F, constF, retF, varO, bindF_some, List.map_cons, List.map_nil, List.cons_append, List.nil_append, List.length_cons, List.length_nil, List.replicate_succ, List.replicate_zero, List.getElem?_cons_zero, List.getElem?_cons_succ, List.set_cons_zero, List.set_cons_succ, Option.map_some, if_true, Nat.reduceAdd, Nat.reduceSub, w1']
  cases rs with
  | nil =>
    exfalso
    change none = some _ at w8
    cases w8
  | cons r0 rs =>
    obtain ⟨h, l0⟩ := r0
    have e8 : h = if q.s < p.s then q.s else p.s := by
      change some h = some (if q.s < p.s then q.s else p.s) at w8
      exact Option.some.inj w8
    have up : Up h rs := upS_up (by omega) w4.2.2.2
    obtain ⟨x, hx1, hx2⟩ := hb_last (rs := (h, l0) :: rs) (by simp)
    have hxM := w6 M (fun a ha => by have := mids_le p a ha; omega) (fun a ha => by have := mids_le q a ha; omega) x hx1
    have l3 : rs.length < 900 := by simp only [List.length_cons] at w7; omega
    have w9' : l0.length ≤ Nat.lcm p.l.length q.l.length := w9
    obtain ⟨r, v1, v2⟩ := wrt_run (h0 := h) (hi := x.1) (l0 := l0) (z := row) (ps := rs) w4.2.1 (by have := w4.2.2.1; omega) w2 (by omega) up l3 hx2 (by rw [e8]; omega) T
    have hm : pm ((h, l0) :: rs) row = op2 u p.mem q.mem := by
      funext y
      rw [w5 y (fun a ha => by cases ha)]
      unfold op2
      rw [pm_mem, pm_mem]
    rw [hm, e8] at v1
    rw [e8] at hj v2
    exact ⟨_, r, l0.length, row.length, x.1, hj, v2, v1, hxM, w9', w10⟩
theorem union_run {p q : Pat} (okp : p.Ok) (okq : q.Ok) (a1 : p.l.length ≤ 300) (a2 : p.r.length ≤ 300) (a3 : p.m.length ≤ 300) (b1 : q.l.length ≤ 300) (b2 : q.r.length ≤ 300) (b3 : q.m.length ≤ 300)
    {M : Int} (c1 : p.s + (p.m.length : Int) ≤ M) (c2 : q.s + (q.m.length : Int) ≤ M) (c3 : M - (if q.s < p.s then q.s else p.s) ≤ 640) (T : Fx.Tm) :
    ∃ (r : Pat) (n m : Nat) (hi : Int), h_union [eP p, eP q] T = some (eP r, T) ∧
      Wr (fun y => p.mem y || q.mem y) r n m (if q.s < p.s then q.s else p.s) hi ∧ hi ≤ M ∧ n ≤ Nat.lcm p.l.length q.l.length ∧ m ≤ Nat.lcm p.r.length q.r.length := by
  obtain ⟨d, r, n, m, hi, e1, e2, w, h1, h2, h3⟩ := join_run true okp okq a1 a2 a3 b1 b2 b3 c1 c2 c3 T
  have e3 := pieces_run okp (by omega) (by omega) (by omega) T
  have e4 := pieces_run okq (by omega) (by omega) (by omega) T
  refine ⟨r, n, m, hi, ?_, w, h1, h2, h3⟩
  unfold h_union g_union
  clear w h1 h2 h3 okp okq a1 a2 a3 b1 b2 b3 c1 c2 c3
  generalize eP p = P at *
  generalize eP q = Q at *
  generalize eP r = R at *
  simp only [runB, retF, ofF, callF, consF, nilF, varF, constF, bindF_some, List.map_cons, List.map_nil, List.cons_append, List.nil_append, List.length_cons, List.length_nil, List.replicate_succ, List.replicate_zero, List.getElem?_cons_zero, List.getElem?_cons_succ, Nat.reduceAdd, Nat.reduceSub, e1, e2, e3, e4]
theorem meet_run {p q : Pat} (okp : p.Ok) (okq : q.Ok) (a1 : p.l.length ≤ 300) (a2 : p.r.length ≤ 300) (a3 : p.m.length ≤ 300) (b1 : q.l.length ≤ 300) (b2 : q.r.length ≤ 300) (b3 : q.m.length ≤ 300)
    {M : Int} (c1 : p.s + (p.m.length : Int) ≤ M) (c2 : q.s + (q.m.length : Int) ≤ M) (c3 : M - (if q.s < p.s then q.s else p.s) ≤ 640) (T : Fx.Tm) :
    ∃ (r : Pat) (n m : Nat) (hi : Int), h_meet [eP p, eP q] T = some (eP r, T) ∧
      Wr (fun y => p.mem y && q.mem y) r n m (if q.s < p.s then q.s else p.s) hi ∧ hi ≤ M ∧ n ≤ Nat.lcm p.l.length q.l.length ∧ m ≤ Nat.lcm p.r.length q.r.length := by
  obtain ⟨d, r, n, m, hi, e1, e2, w, h1, h2, h3⟩ := join_run false okp okq a1 a2 a3 b1 b2 b3 c1 c2 c3 T
  have e3 := pieces_run okp (by omega) (by omega) (by omega) T
  have e4 := pieces_run okq (by omega) (by omega) (by omega) T
  refine ⟨r, n, m, hi, ?_, w, h1, h2, h3⟩
  unfold h_meet g_meet
  clear w h1 h2 h3 okp okq a1 a2 a3 b1 b2 b3 c1 c2 c3
  generalize eP p = P at *
  generalize eP q = Q at *
  generalize eP r = R at *
  simp only [runB, retF, ofF, callF, consF, nilF, varF, constF, bindF_some, List.map_cons, List.map_nil, List.cons_append, List.nil_append, List.length_cons, List.length_nil, List.replicate_succ, List.replicate_zero, List.getElem?_cons_zero, List.getElem?_cons_succ, Nat.reduceAdd, Nat.reduceSub, e1, e2, e3, e4]
end LC
set_option maxHeartbeats 4000000
namespace K6
open PySem PySem.Spec PyProof.Rows L2 Fx LC PM
def topS (i : Nat) : Stmt := PySem.Challenge.pw_sumsaid_k06_patterns_of_sets.main.body.getD i (.Pass ⟨0, 0, 0, 0⟩)
/-! ### _law_short -/
abbrev s__law_short : Stmt := topS 31
abbrev n__law_short : List Str := [Str.ofString "row", Str.ofString "k"]
theorem sc__law_short : FnScope n__law_short [Str.ofString "row"] (defScope s__law_short) := ⟨rfl, rfl, rfl, by decide +kernel, rfl, by decide +kernel, by decide +kernel⟩
theorem ok__law_short {P : Program} {w : World} {K : PySem.W.Frag} {mg : Str → Option Value} {base : Heap} {f : Addr} {fd : FuncData} (F : Fun K (Str.ofString "_law_short") (Str.ofString "_law_short") s__law_short f fd) (hm : mg (Str.ofString "_law_short") = some (.ref f)) (hb : Binds K fd [Str.ofString "row"] []) (m_range : mg (Str.ofString "range") = none) (m_len : mg (Str.ofString "len") = none) (m_int : mg (Str.ofString "int") = none) :
    Cal P w K mg base (Str.ofString "_law_short") 1 1 h__law_short := by
  unfold h__law_short
  exact cal_of (N := n__law_short) (g := g__law_short) F hm hb sc__law_short rfl rfl fun cdv A outer s H E hr => xss_cons (xs_for (t := (.nm 1)) PassesOwn.never rfl (xi_rng2 (pi_range2 (by rfl) m_range (xa_cons (xe_int) (xa_cons (xe_add (xe_len (pe_callB call_len (by rfl) m_len PySem.boot_len (pa_cons (xo_var 0) pa_nil))) (xe_int)) (xa_nil))))) (pg_name (i := 1) sc__law_short.nd rfl (by first | exact Or.inl rfl | exact Or.inr rfl)) (xss_one (xs_if (xt_w (xw_and (xt_eq hr (xe_mod (xe_bl_ (pe_callTy (call_int1) (by rfl) m_int (by decide +kernel) (xa_cons (xe_len (pe_callB call_len (by rfl) m_len PySem.boot_len (pa_cons (xo_var 0) pa_nil))) (xa_nil))) ok_int) (xe_var 1)) (xe_int)) (xw_and1 (xt_eq hr (xe_var 0) (xe_mul (xe_sl (xo_var 0) (xb_none) (xb_some (xe_var 1))) (xe_fdiv (xe_len (pe_callB call_len (by rfl) m_len PySem.boot_len (pa_cons (xo_var 0) pa_nil))) (xe_var 1))))))) (xss_one (xs_ret (xo_of (xe_sl (xo_var 0) (xb_none) (xb_some (xe_var 1)))))) (xss_nil))))
      (xss_one (xs_ret (xo_var 0)))
/-! ### _law_in -/
abbrev s__law_in : Stmt := topS 32
abbrev n__law_in : List Str := [Str.ofString "pattern", Str.ofString "y", Str.ofString "left", Str.ofString "start", Str.ofString "middle", Str.ofString "right"]
theorem sc__law_in : FnScope n__law_in [Str.ofString "pattern", Str.ofString "y"] (defScope s__law_in) := ⟨rfl, rfl, rfl, by decide +kernel, rfl, by decide +kernel, by decide +kernel⟩
theorem ok__law_in {P : Program} {w : World} {K : PySem.W.Frag} {mg : Str → Option Value} {base : Heap} {f : Addr} {fd : FuncData} (F : Fun K (Str.ofString "_law_in") (Str.ofString "_law_in") s__law_in f fd) (hm : mg (Str.ofString "_law_in") = some (.ref f)) (hb : Binds K fd [Str.ofString "pattern", Str.ofString "y"] []) (m_len : mg (Str.ofString "len") = none) (m_int : mg (Str.ofString "int") = none) :
    Cal P w K mg base (Str.ofString "_law_in") 1 2 h__law_in := by
  unfold h__law_in
  exact cal_of (N := n__law_in) (g := g__law_in) F hm hb sc__law_in rfl rfl fun cdv A outer s H E hr => xss_cons (xs_unp (t := (.tp [2, 3, 4, 5])) (ps_asg (xe_var 0) (pg_tup rfl (pgs_cons (pg_name (i := 2) sc__law_in.nd rfl (by first | exact Or.inl rfl | exact Or.inr rfl)) (pgs_cons (pg_name (i := 3) sc__law_in.nd rfl (by first | exact Or.inl rfl | exact Or.inr rfl)) (pgs_cons (pg_name (i := 4) sc__law_in.nd rfl (by first | exact Or.inl rfl | exact Or.inr rfl)) (pgs_cons (pg_name (i := 5) sc__law_in.nd rfl (by first | exact Or.inl rfl | exact Or.inr rfl)) (pgs_nil))))))))
      (xss_cons (xs_if (xt_lt (xe_var 1) (xe_var 3)) (xss_one (xs_ret (xo_of (xe_ix (xo_var 2) (xe_mod (xe_bl_ (pe_callTy (call_int1) (by rfl) m_int (by decide +kernel) (xa_cons (xe_var 1) (xa_nil))) ok_int) (xe_len (pe_callB call_len (by rfl) m_len PySem.boot_len (pa_cons (xo_var 2) pa_nil)))))))) (xss_nil))
      (xss_cons (xs_if (xt_lt (xe_var 1) (xe_add (xe_var 3) (xe_len (pe_callB call_len (by rfl) m_len PySem.boot_len (pa_cons (xo_var 4) pa_nil))))) (xss_one (xs_ret (xo_of (xe_ix (xo_var 4) (xe_sub (xe_var 1) (xe_var 3)))))) (xss_nil))
      (xss_one (xs_ret (xo_of (xe_ix (xo_var 5) (xe_mod (xe_bl_ (pe_callTy (call_int1) (by rfl) m_int (by decide +kernel) (xa_cons (xe_var 1) (xa_nil))) ok_int) (xe_len (pe_callB call_len (by rfl) m_len PySem.boot_len (pa_cons (xo_var 5) pa_nil))))))))))
/-! ### _law_written -/
abbrev s__law_written : Stmt := topS 33
abbrev n__law_written : List Str := [Str.ofString "pattern", Str.ofString "left", Str.ofString "right", Str.ofString "period", Str.ofString "rows", Str.ofString "odd", Str.ofString "late", Str.ofString "start", Str.ofString "end", Str.ofString "y"]
theorem sc__law_written : FnScope n__law_written [Str.ofString "pattern"] (defScope s__law_written) := ⟨rfl, rfl, rfl, by decide +kernel, rfl, by decide +kernel, by decide +kernel⟩
theorem ok__law_written {P : Program} {w : World} {K : PySem.W.Frag} {mg : Str → Option Value} {base : Heap} {f : Addr} {fd : FuncData} (F : Fun K (Str.ofString "_law_written") (Str.ofString "_law_written") s__law_written f fd) (hm : mg (Str.ofString "_law_written") = some (.ref f)) (hb : Binds K fd [Str.ofString "pattern"] []) (k__law_short : Cal P w K mg base (Str.ofString "_law_short") 1 1 h__law_short) (k__law_in : Cal P w K mg base (Str.ofString "_law_in") 1 2 h__law_in) (m_list : mg (Str.ofString "list") = none) (m_len : mg (Str.ofString "len") = none) (m_range : mg (Str.ofString "range") = none) (m_tuple : mg (Str.ofString "tuple") = none) (m_int : mg (Str.ofString "int") = none) :
    Cal P w K mg base (Str.ofString "_law_written") 2 1 h__law_written := by
  unfold h__law_written
  exact cal_of (N := n__law_written) (g := g__law_written) F hm hb sc__law_written rfl rfl fun cdv A outer s H E hr => xss_cons (xs_asg (ps_set (i := 1) sc__law_written.nd rfl (by first | exact Or.inl rfl | exact Or.inr rfl) (xe_own k__law_short (hr.mono (by decide)) (by rfl) (xa_cons (xe_ix (xo_var 0) (xe_int)) (xa_nil)) (len_cons (len_nil)))))
      (xss_cons (xs_asg (ps_set (i := 2) sc__law_written.nd rfl (by first | exact Or.inl rfl | exact Or.inr rfl) (xe_own k__law_short (hr.mono (by decide)) (by rfl) (xa_cons (xe_ix (xo_var 0) (xe_int)) (xa_nil)) (len_cons (len_nil)))))
      (xss_cons (xs_asg (ps_set (i := 3) sc__law_written.nd rfl (by first | exact Or.inl rfl | exact Or.inr rfl) (xe_mul (xe_len (pe_callB call_len (by rfl) m_len PySem.boot_len (pa_cons (xo_var 1) pa_nil))) (xe_len (pe_callB call_len (by rfl) m_len PySem.boot_len (pa_cons (xo_var 2) pa_nil))))))
      (xss_cons (xs_asg (ps_set (i := 4) sc__law_written.nd rfl (by first | exact Or.inl rfl | exact Or.inr rfl) (xe_frz (xl_lrg (pe_listRg rfl (by rfl) m_list (prg_2 (by rfl) m_range (xe_sub (xe_sub (xe_ix (xo_var 0) (xe_int)) (xe_mul (xe_int) (xe_var 3))) (xe_int)) (xe_add (xe_add (xe_add (xe_ix (xo_var 0) (xe_int)) (xe_len (pe_callB call_len (by rfl) m_len PySem.boot_len (pa_cons (xo_of (xe_ix (xo_var 0) (xe_int))) pa_nil)))) (xe_mul (xe_int) (xe_var 3))) (xe_int))))))))
      (xss_cons (xs_frz (asg_lc (ps_setLc (i := 5) (own := [(Str.ofString "y", 9)]) (g := tgT _ (.nm 9)) rfl sc__law_written.nd rfl rfl (sw_true rfl rfl rfl (by decide +kernel)) (xi_seq (xe_var 4)) (blkOk_by (N := n__law_written) (sc := defScope s__law_written) (by decide +kernel)) (fun _ _ _ _ _ => pg_name (i := 9) sc__law_written.nd rfl (by first | exact Or.inl rfl | exact Or.inr rfl)) (fun _ _ _ _ _ => xts_one (xt_ne hr (xe_own k__law_in (hr.mono (by decide)) (by rfl) (xa_cons (xe_var 0) (xa_cons (xe_var 9) (xa_nil))) (len_cons (len_cons (len_nil)))) (xe_ix (xo_var 1) (xe_mod (xe_bl_ (pe_callTy (call_int1) (by rfl) m_int (by decide +kernel) (xa_cons (xe_var 9) (xa_nil))) ok_int) (xe_len (pe_callB call_len (by rfl) m_len PySem.boot_len (pa_cons (xo_var 1) pa_nil))))))) (fun _ _ _ _ _ => xe_var 9))))
      (xss_cons (xs_frz (asg_lc (ps_setLc (i := 6) (own := [(Str.ofString "y", 9)]) (g := tgT _ (.nm 9)) rfl sc__law_written.nd rfl rfl (sw_true rfl rfl rfl (by decide +kernel)) (xi_seq (xe_var 4)) (blkOk_by (N := n__law_written) (sc := defScope s__law_written) (by decide +kernel)) (fun _ _ _ _ _ => pg_name (i := 9) sc__law_written.nd rfl (by first | exact Or.inl rfl | exact Or.inr rfl)) (fun _ _ _ _ _ => xts_one (xt_ne hr (xe_own k__law_in (hr.mono (by decide)) (by rfl) (xa_cons (xe_var 0) (xa_cons (xe_var 9) (xa_nil))) (len_cons (len_cons (len_nil)))) (xe_ix (xo_var 2) (xe_mod (xe_bl_ (pe_callTy (call_int1) (by rfl) m_int (by decide +kernel) (xa_cons (xe_var 9) (xa_nil))) ok_int) (xe_len (pe_callB call_len (by rfl) m_len PySem.boot_len (pa_cons (xo_var 2) pa_nil))))))) (fun _ _ _ _ _ => xe_var 9))))
      (xss_cons (xs_if (xt_w (xw_and (xt_eq hr (xe_var 1) (xe_var 2)) (xw_and1 (xt_eq hr (xe_len (pe_callB call_len (by rfl) m_len PySem.boot_len (pa_cons (xo_var 5) pa_nil))) (xe_int))))) (xss_one (xs_ret (xo_of (xe_tup (xa_cons (xe_var 1) (xa_cons (xe_int) (xa_cons (xe_tup (xa_nil)) (xa_cons (xe_var 2) (xa_nil))))))))) (xss_nil))
      (xss_cons (xs_asg (ps_set (i := 7) sc__law_written.nd rfl (by first | exact Or.inl rfl | exact Or.inr rfl) (xe_ix (xo_var 5) (xe_int))))
      (xss_cons (xs_asg (ps_set (i := 8) sc__law_written.nd rfl (by first | exact Or.inl rfl | exact Or.inr rfl) (xe_add (xe_ix (xo_var 6) (xe_neg (xe_int))) (xe_int))))
      (xss_cons (xs_if (xt_le (xe_var 8) (xe_var 7)) (xss_one (xs_ret (xo_of (xe_tup (xa_cons (xe_var 1) (xa_cons (xe_var 8) (xa_cons (xe_tup (xa_nil)) (xa_cons (xe_var 2) (xa_nil))))))))) (xss_nil))
      (xss_one (xs_ret (xo_of (xe_tup (xa_cons (xe_var 1) (xa_cons (xe_var 7) (xa_cons (xe_tuple (pe_callTy call_tupleP (by rfl) m_tuple (by decide +kernel) (pa_cons (xo_of (xe_frz (xl_lc (pe_lc (own := [(Str.ofString "y", 9)]) (g := tgT _ (.nm 9)) rfl sc__law_written.nd (xi_rng2 (pi_range2 (by rfl) m_range (xa_cons (xe_var 7) (xa_cons (xe_var 8) (xa_nil))))) (blkOk_by (N := n__law_written) (sc := defScope s__law_written) (by decide +kernel)) (fun _ _ _ _ _ => pg_name (i := 9) sc__law_written.nd rfl (by first | exact Or.inl rfl | exact Or.inr rfl)) (fun _ _ _ _ _ => xts_nil) (fun _ _ _ _ _ => xe_own k__law_in (hr.mono (by decide)) (by rfl) (xa_cons (xe_var 0) (xa_cons (xe_var 9) (xa_nil))) (len_cons (len_cons (len_nil)))))))) pa_nil))) (xa_cons (xe_var 2) (xa_nil))))))))))))))))))
/-! ### _law_draw -/
abbrev s__law_draw : Stmt := topS 29
abbrev n__law_draw : List Str := [Str.ofString "state", Str.ofString "limit", Str.ofString "digit", Str.ofString "position", Str.ofString "cell", Str.ofString "mixed"]
theorem sc__law_draw : FnScope n__law_draw [Str.ofString "state", Str.ofString "limit"] (defScope s__law_draw) := ⟨rfl, rfl, rfl, by decide +kernel, rfl, by decide +kernel, by decide +kernel⟩
theorem ok__law_draw {P : Program} {w : World} {K : PySem.W.Frag} {mg : Str → Option Value} {base : Heap} {f : Addr} {fd : FuncData} (F : Fun K (Str.ofString "_law_draw") (Str.ofString "_law_draw") s__law_draw f fd) (hm : mg (Str.ofString "_law_draw") = some (.ref f)) (hb : Binds K fd [Str.ofString "state", Str.ofString "limit"] []) (m_int : mg (Str.ofString "int") = none) (m_len : mg (Str.ofString "len") = none) :
    Cal P w K mg base (Str.ofString "_law_draw") 1 2 h__law_draw := by
  unfold h__law_draw
  exact cal_of (N := n__law_draw) (g := g__law_draw) F hm hb sc__law_draw rfl rfl fun cdv A outer s H E hr => xss_cons (xs_if (xt_lt (xe_ix (xo_var 0) (xe_int)) (xe_var 1)) (xss_cons (xs_asg (ps_set (i := 3) sc__law_draw.nd rfl (by first | exact Or.inl rfl | exact Or.inr rfl) (xe_ix (xo_var 0) (xe_int))))
      (xss_cons (xs_set (ps_asg (xe_add (xe_var 3) (xe_int)) (pg_sub (pv 0) (xe_int) set_list)))
      (xss_cons (xs_asg (ps_set (i := 4) sc__law_draw.nd rfl (by first | exact Or.inl rfl | exact Or.inr rfl) (xe_int)))
      (xss_cons (xs_if (xt_lt (xe_var 3) (xe_len (pe_callB call_len (by rfl) m_len PySem.boot_len (pa_cons (xo_of (xe_ix (xo_var 0) (xe_int))) pa_nil)))) (xss_one (xs_asg (ps_set (i := 4) sc__law_draw.nd rfl (by first | exact Or.inl rfl | exact Or.inr rfl) (xe_ix (xo_of (xe_ix (xo_var 0) (xe_int))) (xe_var 3))))) (xss_nil))
      (xss_one (xs_if (xt_ge (xe_var 4) (xe_pow (xe_int) (xe_int))) (xss_one (xs_set (ps_asg (xe_var 4) (pg_sub (pv 0) (xe_int) set_list)))) (xss_cons (xs_set (ps_asg (xe_mod (xe_bl_ (pe_callTy (call_int1) (by rfl) m_int (by decide +kernel) (xa_cons (xe_mul (xe_add (xe_add (xe_add (xe_ix (xo_var 0) (xe_int)) (xe_mod (xe_bl_ (pe_callTy (call_int1) (by rfl) m_int (by decide +kernel) (xa_cons (xe_var 4) (xa_nil))) ok_int) (xe_int))) (xe_var 3)) (xe_int)) (xe_int)) (xa_nil))) ok_int) (xe_int)) (pg_sub (pv 0) (xe_int) set_list)))
      (xss_cons (xs_asg (ps_set (i := 5) sc__law_draw.nd rfl (by first | exact Or.inl rfl | exact Or.inr rfl) (xe_mod (xe_bl_ (pe_callTy (call_int1) (by rfl) m_int (by decide +kernel) (xa_cons (xe_add (xe_mul (xe_ix (xo_var 0) (xe_int)) (xe_int)) (xe_int)) (xa_nil))) ok_int) (xe_int))))
      (xss_one (xs_set (ps_asg (xe_add (xe_mul (xe_var 5) (xe_int)) (xe_mod (xe_bl_ (pe_callTy (call_int1) (by rfl) m_int (by decide +kernel) (xa_cons (xe_add (xe_mul (xe_var 5) (xe_int)) (xe_ix (xo_var 0) (xe_int))) (xa_nil))) ok_int) (xe_int))) (pg_sub (pv 0) (xe_int) set_list)))))))))))) (xss_nil))
      (xss_cons (xs_asg (ps_set (i := 2) sc__law_draw.nd rfl (by first | exact Or.inl rfl | exact Or.inr rfl) (xe_mod (xe_bl_ (pe_callTy (call_int1) (by rfl) m_int (by decide +kernel) (xa_cons (xe_ix (xo_var 0) (xe_int)) (xa_nil))) ok_int) (xe_var 1))))
      (xss_cons (xs_set (ps_asg (xe_fdiv (xe_ix (xo_var 0) (xe_int)) (xe_var 1)) (pg_sub (pv 0) (xe_int) set_list)))
      (xss_one (xs_ret (xo_var 2)))))
/-! ### _law_row -/
abbrev s__law_row : Stmt := topS 30
abbrev n__law_row : List Str := [Str.ofString "state", Str.ofString "least", Str.ofString "most", Str.ofString "k"]
theorem sc__law_row : FnScope n__law_row [Str.ofString "state", Str.ofString "least", Str.ofString "most"] (defScope s__law_row) := ⟨rfl, rfl, rfl, by decide +kernel, rfl, by decide +kernel, by decide +kernel⟩
theorem ok__law_row {P : Program} {w : World} {K : PySem.W.Frag} {mg : Str → Option Value} {base : Heap} {f : Addr} {fd : FuncData} (F : Fun K (Str.ofString "_law_row") (Str.ofString "_law_row") s__law_row f fd) (hm : mg (Str.ofString "_law_row") = some (.ref f)) (hb : Binds K fd [Str.ofString "state", Str.ofString "least", Str.ofString "most"] []) (k__law_draw : Cal P w K mg base (Str.ofString "_law_draw") 1 2 h__law_draw) (m_tuple : mg (Str.ofString "tuple") = none) (m_range : mg (Str.ofString "range") = none) :
    Cal P w K mg base (Str.ofString "_law_row") 2 3 h__law_row := by
  unfold h__law_row
  exact cal_of (N := n__law_row) (g := g__law_row) F hm hb sc__law_row rfl rfl fun cdv A outer s H E hr => xss_one (xs_ret (xo_of (xe_tuple (pe_callTy call_tupleP (by rfl) m_tuple (by decide +kernel) (pa_cons (xo_of (xe_frz (xl_lc (pe_lc (own := [(Str.ofString "k", 3)]) (g := tgT _ (.nm 3)) rfl sc__law_row.nd (xi_rng1 (pi_range1 (by rfl) m_range (xa_cons (xe_add (xe_var 1) (xe_own k__law_draw (hr.mono (by decide)) (by rfl) (xa_cons (xe_var 0) (xa_cons (xe_add (xe_sub (xe_var 2) (xe_var 1)) (xe_int)) (xa_nil))) (len_cons (len_cons (len_nil))))) (xa_nil)))) (blkOk_by (N := n__law_row) (sc := defScope s__law_row) (by decide +kernel)) (fun _ _ _ _ _ => pg_name (i := 3) sc__law_row.nd rfl (by first | exact Or.inl rfl | exact Or.inr rfl)) (fun _ _ _ _ _ => xts_nil) (fun _ _ _ _ _ => xe_eq hr (xe_own k__law_draw (hr.mono (by decide)) (by rfl) (xa_cons (xe_var 0) (xa_cons (xe_int) (xa_nil))) (len_cons (len_cons (len_nil)))) (xe_int)))))) pa_nil)))))
/-! ### _law_pattern -/
abbrev s__law_pattern : Stmt := topS 34
abbrev n__law_pattern : List Str := [Str.ofString "state"]
theorem sc__law_pattern : FnScope n__law_pattern [Str.ofString "state"] (defScope s__law_pattern) := ⟨rfl, rfl, rfl, by decide +kernel, rfl, by decide +kernel, by decide +kernel⟩
theorem ok__law_pattern {P : Program} {w : World} {K : PySem.W.Frag} {mg : Str → Option Value} {base : Heap} {f : Addr} {fd : FuncData} (F : Fun K (Str.ofString "_law_pattern") (Str.ofString "_law_pattern") s__law_pattern f fd) (hm : mg (Str.ofString "_law_pattern") = some (.ref f)) (hb : Binds K fd [Str.ofString "state"] []) (k__law_written : Cal P w K mg base (Str.ofString "_law_written") 2 1 h__law_written) (k__law_row : Cal P w K mg base (Str.ofString "_law_row") 2 3 h__law_row) (k__law_draw : Cal P w K mg base (Str.ofString "_law_draw") 1 2 h__law_draw) :
    Cal P w K mg base (Str.ofString "_law_pattern") 3 1 h__law_pattern := by
  unfold h__law_pattern
  exact cal_of (N := n__law_pattern) (g := g__law_pattern) F hm hb sc__law_pattern rfl rfl fun cdv A outer s H E hr => xss_one (xs_ret (xo_of (xe_own k__law_written (hr.mono (by decide)) (by rfl) (xa_cons (xe_tup (xa_cons (xe_own k__law_row (hr.mono (by decide)) (by rfl) (xa_cons (xe_var 0) (xa_cons (xe_int) (xa_cons (xe_int) (xa_nil)))) (len_cons (len_cons (len_cons (len_nil))))) (xa_cons (xe_sub (xe_own k__law_draw (hr.mono (by decide)) (by rfl) (xa_cons (xe_var 0) (xa_cons (xe_int) (xa_nil))) (len_cons (len_cons (len_nil)))) (xe_int)) (xa_cons (xe_own k__law_row (hr.mono (by decide)) (by rfl) (xa_cons (xe_var 0) (xa_cons (xe_int) (xa_cons (xe_int) (xa_nil)))) (len_cons (len_cons (len_cons (len_nil))))) (xa_cons (xe_own k__law_row (hr.mono (by decide)) (by rfl) (xa_cons (xe_var 0) (xa_cons (xe_int) (xa_cons (xe_int) (xa_nil)))) (len_cons (len_cons (len_cons (len_nil))))) (xa_nil)))))) (xa_nil)) (len_cons (len_nil)))))
/-! ### prime_divisors -/
abbrev s_prime_divisors : Stmt := topS 5
abbrev n_prime_divisors : List Str := [Str.ofString "number", Str.ofString "primes", Str.ofString "divisor"]
theorem sc_prime_divisors : FnScope n_prime_divisors [Str.ofString "number"] (defScope s_prime_divisors) := ⟨rfl, rfl, rfl, by decide +kernel, rfl, by decide +kernel, by decide +kernel⟩
theorem ok_prime_divisors {P : Program} {w : World} {K : PySem.W.Frag} {mg : Str → Option Value} {base : Heap} {f : Addr} {fd : FuncData} (F : Fun K (Str.ofString "prime_divisors") (Str.ofString "prime_divisors") s_prime_divisors f fd) (hm : mg (Str.ofString "prime_divisors") = some (.ref f)) (hb : Binds K fd [Str.ofString "number"] []) :
    Cal P w K mg base (Str.ofString "prime_divisors") 1 1 h_prime_divisors := by
  unfold h_prime_divisors
  exact cal_of (N := n_prime_divisors) (g := g_prime_divisors) F hm hb sc_prime_divisors rfl rfl fun cdv A outer s H E hr => xss_cons (xs_own (ps_set (i := 1) sc_prime_divisors.nd rfl (by first | exact Or.inl rfl | exact Or.inr rfl) (xl_lst (xa_nil))))
      (xss_cons (xs_asg (ps_set (i := 2) sc_prime_divisors.nd rfl (by first | exact Or.inl rfl | exact Or.inr rfl) (xe_int)))
      (xss_cons (xs_while PassesOwn.never (xt_le (xe_mul (xe_var 2) (xe_var 2)) (xe_var 0)) (xss_cons (xs_if (xt_eq hr (xe_mod (xe_var 0) (xe_var 2)) (xe_int)) (xss_cons (xs_app (ps_expr (pe_bm PySem.F.plainAttrs_list PySem.F.slot_list_append PySem.F.type_list_append mt_append (pv 1) (pa_cons (xe_var 2) pa_nil))))
      (xss_one (xs_while PassesOwn.never (xt_eq hr (xe_mod (xe_var 0) (xe_var 2)) (xe_int)) (xss_one (xs_aug (ok_ii cDivP_ok fun _ _ _ _ => .int _) (ps_aug (i := 0) sc_prime_divisors.nd rfl (by first | exact Or.inl rfl | exact Or.inr rfl) (xe_var 2) iop_fdiv)))))) (xss_nil))
      (xss_one (xs_aug ok_ipadd (ps_aug (i := 2) sc_prime_divisors.nd rfl (by first | exact Or.inl rfl | exact Or.inr rfl) (xe_int) ip_add)))))
      (xss_cons (xs_if (xt_gt (xe_var 0) (xe_int)) (xss_one (xs_app (ps_expr (pe_bm PySem.F.plainAttrs_list PySem.F.slot_list_append PySem.F.type_list_append mt_append (pv 1) (pa_cons (xe_var 0) pa_nil))))) (xss_nil))
      (xss_one (xs_ret (xo_var 1))))))
/-! ### stretched -/
abbrev s_stretched : Stmt := topS 8
abbrev n_stretched : List Str := [Str.ofString "bits", Str.ofString "width", Str.ofString "length"]
theorem sc_stretched : FnScope n_stretched [Str.ofString "bits", Str.ofString "width", Str.ofString "length"] (defScope s_stretched) := ⟨rfl, rfl, rfl, by decide +kernel, rfl, by decide +kernel, by decide +kernel⟩
theorem ok_stretched {P : Program} {w : World} {K : PySem.W.Frag} {mg : Str → Option Value} {base : Heap} {f : Addr} {fd : FuncData} (F : Fun K (Str.ofString "stretched") (Str.ofString "stretched") s_stretched f fd) (hm : mg (Str.ofString "stretched") = some (.ref f)) (hb : Binds K fd [Str.ofString "bits", Str.ofString "width", Str.ofString "length"] []) :
    Cal P w K mg base (Str.ofString "stretched") 1 3 h_stretched := by
  unfold h_stretched
  exact cal_of (N := n_stretched) (g := g_stretched) F hm hb sc_stretched rfl rfl fun cdv A outer s H E hr => xss_cons (xs_while PassesOwn.never (xt_lt (xe_var 1) (xe_var 2)) (xss_cons (xs_aug (ok_ii0 fun _ _ _ _ => .int _) (ps_aug (i := 0) sc_stretched.nd rfl (by first | exact Or.inl rfl | exact Or.inr rfl) (xe_shw (xe_var 0) (xe_var 1)) iop_or))
      (xss_one (xs_aug (ok_ii cMul_ok fun _ _ _ _ => .int _) (ps_aug (i := 1) sc_stretched.nd rfl (by first | exact Or.inl rfl | exact Or.inr rfl) (xe_int) iop_mul)))))
      (xss_one (xs_ret (xo_of (xe_and_ (xe_var 0) (xe_sub (xe_shw (xe_int) (xe_var 2)) (xe_int))))))
/-! ### shortest -/
abbrev s_shortest : Stmt := topS 13
abbrev n_shortest : List Str := [Str.ofString "bits", Str.ofString "width", Str.ofString "prime", Str.ofString "less"]
theorem sc_shortest : FnScope n_shortest [Str.ofString "bits", Str.ofString "width"] (defScope s_shortest) := ⟨rfl, rfl, rfl, by decide +kernel, rfl, by decide +kernel, by decide +kernel⟩
theorem ok_shortest {P : Program} {w : World} {K : PySem.W.Frag} {mg : Str → Option Value} {base : Heap} {f : Addr} {fd : FuncData} (F : Fun K (Str.ofString "shortest") (Str.ofString "shortest") s_shortest f fd) (hm : mg (Str.ofString "shortest") = some (.ref f)) (hb : Binds K fd [Str.ofString "bits", Str.ofString "width"] []) (k_prime_divisors : Cal P w K mg base (Str.ofString "prime_divisors") 1 1 h_prime_divisors) (k_stretched : Cal P w K mg base (Str.ofString "stretched") 1 3 h_stretched) :
    Cal P w K mg base (Str.ofString "shortest") 2 2 h_shortest := by
  unfold h_shortest
  exact cal_of (N := n_shortest) (g := g_shortest) F hm hb sc_shortest rfl rfl fun cdv A outer s H E hr => xss_cons (xs_for (t := (.nm 2)) PassesOwn.never rfl (xi_seq (xe_own k_prime_divisors (hr.mono (by decide)) (by rfl) (xa_cons (xe_var 1) (xa_nil)) (len_cons (len_nil)))) (pg_name (i := 2) sc_shortest.nd rfl (by first | exact Or.inl rfl | exact Or.inr rfl)) (xss_one (xs_while PassesOwn.never (xt_eq hr (xe_mod (xe_var 1) (xe_var 2)) (xe_int)) (xss_cons (xs_asg (ps_set (i := 3) sc_shortest.nd rfl (by first | exact Or.inl rfl | exact Or.inr rfl) (xe_fdiv (xe_var 1) (xe_var 2))))
      (xss_cons (xs_if (xt_ne hr (xe_own k_stretched (hr.mono (by decide)) (by rfl) (xa_cons (xe_and_ (xe_var 0) (xe_sub (xe_shw (xe_int) (xe_var 3)) (xe_int))) (xa_cons (xe_var 3) (xa_cons (xe_var 1) (xa_nil)))) (len_cons (len_cons (len_cons (len_nil))))) (xe_var 0)) (xss_one (xs_break)) (xss_nil))
      (xss_cons (xs_asg (ps_set (i := 1) sc_shortest.nd rfl (by first | exact Or.inl rfl | exact Or.inr rfl) (xe_var 3)))
      (xss_one (xs_aug (ok_ii0 fun _ _ _ _ => .int _) (ps_aug (i := 0) sc_shortest.nd rfl (by first | exact Or.inl rfl | exact Or.inr rfl) (xe_sub (xe_shw (xe_int) (xe_var 3)) (xe_int)) iop_and)))))))))
      (xss_one (xs_ret (xo_of (xe_tup (xa_cons (xe_var 0) (xa_cons (xe_var 1) (xa_nil)))))))
/-! ### compared -/
abbrev s_compared : Stmt := topS 16
abbrev n_compared : List Str := [Str.ofString "widths", Str.ofString "low", Str.ofString "high"]
theorem sc_compared : FnScope n_compared [Str.ofString "widths", Str.ofString "low", Str.ofString "high"] (defScope s_compared) := ⟨rfl, rfl, rfl, by decide +kernel, rfl, by decide +kernel, by decide +kernel⟩
theorem ok_compared {P : Program} {w : World} {K : PySem.W.Frag} {mg : Str → Option Value} {base : Heap} {f : Addr} {fd : FuncData} (F : Fun K (Str.ofString "compared") (Str.ofString "compared") s_compared f fd) (hm : mg (Str.ofString "compared") = some (.ref f)) (hb : Binds K fd [Str.ofString "widths", Str.ofString "low", Str.ofString "high"] []) (m_min : mg (Str.ofString "min") = none) :
    Cal P w K mg base (Str.ofString "compared") 1 3 h_compared := by
  unfold h_compared
  exact cal_of (N := n_compared) (g := g_compared) F hm hb sc_compared rfl rfl fun cdv A outer s H E hr => xss_cons (xs_if (xt_w (xw_or (xt_is (xe_var 1) (xe_non)) (xw_or1 (xt_is (xe_var 2) (xe_non))))) (xss_one (xs_ret (xo_var 0))) (xss_nil))
      (xss_one (xs_ret (xo_of (xe_bl_ (pe_callB (call_min2 rfl) (by rfl) m_min (by decide +kernel) (xa_cons (xe_var 0) (xa_cons (xe_sub (xe_var 2) (xe_var 1)) (xa_nil)))) ok_min))))
/-! ### window -/
abbrev s_window : Stmt := topS 9
abbrev n_window : List Str := [Str.ofString "bits", Str.ofString "width", Str.ofString "low", Str.ofString "length", Str.ofString "shift", Str.ofString "turned"]
theorem sc_window : FnScope n_window [Str.ofString "bits", Str.ofString "width", Str.ofString "low", Str.ofString "length"] (defScope s_window) := ⟨rfl, rfl, rfl, by decide +kernel, rfl, by decide +kernel, by decide +kernel⟩
theorem ok_window {P : Program} {w : World} {K : PySem.W.Frag} {mg : Str → Option Value} {base : Heap} {f : Addr} {fd : FuncData} (F : Fun K (Str.ofString "window") (Str.ofString "window") s_window f fd) (hm : mg (Str.ofString "window") = some (.ref f)) (hb : Binds K fd [Str.ofString "bits", Str.ofString "width", Str.ofString "low", Str.ofString "length"] []) (k_stretched : Cal P w K mg base (Str.ofString "stretched") 1 3 h_stretched) :
    Cal P w K mg base (Str.ofString "window") 2 4 h_window := by
  unfold h_window
  exact cal_of (N := n_window) (g := g_window) F hm hb sc_window rfl rfl fun cdv A outer s H E hr => xss_cons (xs_asg (ps_set (i := 4) sc_window.nd rfl (by first | exact Or.inl rfl | exact Or.inr rfl) (xe_mod (xe_var 2) (xe_var 1))))
      (xss_cons (xs_asg (ps_set (i := 5) sc_window.nd rfl (by first | exact Or.inl rfl | exact Or.inr rfl) (xe_or_ (xe_shr (xe_var 0) (xe_var 4)) (xe_shw (xe_and_ (xe_var 0) (xe_sub (xe_shw (xe_int) (xe_var 4)) (xe_int))) (xe_sub (xe_var 1) (xe_var 4))))))
      (xss_one (xs_ret (xo_of (xe_own k_stretched (hr.mono (by decide)) (by rfl) (xa_cons (xe_var 5) (xa_cons (xe_var 1) (xa_cons (xe_var 3) (xa_nil)))) (len_cons (len_cons (len_cons (len_nil)))))))))
/-! ### first_difference -/
abbrev s_first_difference : Stmt := topS 14
abbrev n_first_difference : List Str := [Str.ofString "pieces", Str.ofString "bits", Str.ofString "width", Str.ofString "low", Str.ofString "high", Str.ofString "other", Str.ofString "size", Str.ofString "length", Str.ofString "differing"]
theorem sc_first_difference : FnScope n_first_difference [Str.ofString "pieces", Str.ofString "bits", Str.ofString "width"] (defScope s_first_difference) := ⟨rfl, rfl, rfl, by decide +kernel, rfl, by decide +kernel, by decide +kernel⟩
theorem ok_first_difference {P : Program} {w : World} {K : PySem.W.Frag} {mg : Str → Option Value} {base : Heap} {f : Addr} {fd : FuncData} (F : Fun K (Str.ofString "first_difference") (Str.ofString "first_difference") s_first_difference f fd) (hm : mg (Str.ofString "first_difference") = some (.ref f)) (hb : Binds K fd [Str.ofString "pieces", Str.ofString "bits", Str.ofString "width"] []) (k_compared : Cal P w K mg base (Str.ofString "compared") 1 3 h_compared) (k_window : Cal P w K mg base (Str.ofString "window") 2 4 h_window) :
    Cal P w K mg base (Str.ofString "first_difference") 3 3 h_first_difference := by
  unfold h_first_difference
  exact cal_of (N := n_first_difference) (g := g_first_difference) F hm hb sc_first_difference rfl rfl fun cdv A outer s H E hr => xss_cons (xs_asg (ps_set (i := 3) sc_first_difference.nd rfl (by first | exact Or.inl rfl | exact Or.inr rfl) (xe_ix (xo_of (xe_ix (xo_var 0) (xe_int))) (xe_int))))
      (xss_cons (xs_for (t := (.tp [4, 5, 6])) PassesOwn.never rfl (xi_seq (xe_sl (xo_var 0) (xb_some (xe_int)) (xb_none))) (pg_tup rfl (pgs_cons (pg_name (i := 4) sc_first_difference.nd rfl (by first | exact Or.inl rfl | exact Or.inr rfl)) (pgs_cons (pg_name (i := 5) sc_first_difference.nd rfl (by first | exact Or.inl rfl | exact Or.inr rfl)) (pgs_cons (pg_name (i := 6) sc_first_difference.nd rfl (by first | exact Or.inl rfl | exact Or.inr rfl)) (pgs_nil))))) (xss_cons (xs_asg (ps_set (i := 7) sc_first_difference.nd rfl (by first | exact Or.inl rfl | exact Or.inr rfl) (xe_own k_compared (hr.mono (by decide)) (by rfl) (xa_cons (xe_add (xe_var 6) (xe_var 2)) (xa_cons (xe_var 3) (xa_cons (xe_var 4) (xa_nil)))) (len_cons (len_cons (len_cons (len_nil)))))))
      (xss_cons (xs_asg (ps_set (i := 8) sc_first_difference.nd rfl (by first | exact Or.inl rfl | exact Or.inr rfl) (xe_xor_ (xe_own k_window (hr.mono (by decide)) (by rfl) (xa_cons (xe_var 5) (xa_cons (xe_var 6) (xa_cons (xe_var 3) (xa_cons (xe_var 7) (xa_nil))))) (len_cons (len_cons (len_cons (len_cons (len_nil)))))) (xe_own k_window (hr.mono (by decide)) (by rfl) (xa_cons (xe_var 1) (xa_cons (xe_var 2) (xa_cons (xe_var 3) (xa_cons (xe_var 7) (xa_nil))))) (len_cons (len_cons (len_cons (len_cons (len_nil)))))))))
      (xss_cons (xs_if (xt_ne hr (xe_var 8) (xe_int)) (xss_one (xs_ret (xo_of (xe_sub (xe_add (xe_var 3) (xe_bits (xe_and_ (xe_var 8) (xe_neg (xe_var 8))))) (xe_int))))) (xss_nil))
      (xss_one (xs_asg (ps_set (i := 3) sc_first_difference.nd rfl (by first | exact Or.inl rfl | exact Or.inr rfl) (xe_var 4))))))))
      (xss_one (xs_ret (xo_of (xe_non)))))
/-! ### row_of -/
abbrev s_row_of : Stmt := topS 12
abbrev n_row_of : List Str := [Str.ofString "bits", Str.ofString "width", Str.ofString "text", Str.ofString "sign"]
theorem sc_row_of : FnScope n_row_of [Str.ofString "bits", Str.ofString "width"] (defScope s_row_of) := ⟨rfl, rfl, rfl, by decide +kernel, rfl, by decide +kernel, by decide +kernel⟩
theorem ok_row_of {P : Program} {w : World} {K : PySem.W.Frag} {mg : Str → Option Value} {base : Heap} {f : Addr} {fd : FuncData} (F : Fun K (Str.ofString "row_of") (Str.ofString "row_of") s_row_of f fd) (hm : mg (Str.ofString "row_of") = some (.ref f)) (hb : Binds K fd [Str.ofString "bits", Str.ofString "width"] []) (m_tuple : mg (Str.ofString "tuple") = none) :
    Cal P w K mg base (Str.ofString "row_of") 1 2 h_row_of := by
  unfold h_row_of
  exact cal_of (N := n_row_of) (g := g_row_of) F hm hb sc_row_of rfl rfl fun cdv A outer s H E hr => xss_cons (xs_asg (ps_set (i := 2) sc_row_of.nd rfl (by first | exact Or.inl rfl | exact Or.inr rfl) (xe_m1 (pe_m1 PySem.F.slot_str_zfill PySem.F.type_str_zfill mt_zfill (xe_fmtB (xe_var 0)) (xe_var 1)) ok_zfill)))
      (xss_one (xs_ret (xo_of (xe_tuple (pe_callTy call_tupleP (by rfl) m_tuple (by decide +kernel) (pa_cons (xo_of (xe_frz (xl_lc (pe_lc (own := [(Str.ofString "sign", 3)]) (g := tgT _ (.nm 3)) rfl sc_row_of.nd (xi_seq2 (xe_bk2 (xo_var 2))) (blkOk_by (N := n_row_of) (sc := defScope s_row_of) (by decide +kernel)) (fun _ _ _ _ _ => pg_name (i := 3) sc_row_of.nd rfl (by first | exact Or.inl rfl | exact Or.inr rfl)) (fun _ _ _ _ _ => xts_nil) (fun _ _ _ _ _ => xe_eq hr (xe_var 3) (xe_str)))))) pa_nil))))))
/-! ### last_difference -/
abbrev s_last_difference : Stmt := topS 15
abbrev n_last_difference : List Str := [Str.ofString "pieces", Str.ofString "bits", Str.ofString "width", Str.ofString "k", Str.ofString "length", Str.ofString "low", Str.ofString "differing", Str.ofString "high", Str.ofString "other", Str.ofString "size"]
theorem sc_last_difference : FnScope n_last_difference [Str.ofString "pieces", Str.ofString "bits", Str.ofString "width"] (defScope s_last_difference) := ⟨rfl, rfl, rfl, by decide +kernel, rfl, by decide +kernel, by decide +kernel⟩
theorem ok_last_difference {P : Program} {w : World} {K : PySem.W.Frag} {mg : Str → Option Value} {base : Heap} {f : Addr} {fd : FuncData} (F : Fun K (Str.ofString "last_difference") (Str.ofString "last_difference") s_last_difference f fd) (hm : mg (Str.ofString "last_difference") = some (.ref f)) (hb : Binds K fd [Str.ofString "pieces", Str.ofString "bits", Str.ofString "width"] []) (k_compared : Cal P w K mg base (Str.ofString "compared") 1 3 h_compared) (k_window : Cal P w K mg base (Str.ofString "window") 2 4 h_window) (m_range : mg (Str.ofString "range") = none) (m_len : mg (Str.ofString "len") = none) :
    Cal P w K mg base (Str.ofString "last_difference") 3 3 h_last_difference := by
  unfold h_last_difference
  exact cal_of (N := n_last_difference) (g := g_last_difference) F hm hb sc_last_difference rfl rfl fun cdv A outer s H E hr => xss_cons (xs_for (t := (.nm 3)) PassesOwn.never rfl (xi_rng3 (pi_range3 (by rfl) m_range (xa_cons (xe_sub (xe_len (pe_callB call_len (by rfl) m_len PySem.boot_len (pa_cons (xo_var 0) pa_nil))) (xe_int)) (xa_cons (xe_neg (xe_int)) (xa_cons (xe_neg (xe_int)) (xa_nil)))))) (pg_name (i := 3) sc_last_difference.nd rfl (by first | exact Or.inl rfl | exact Or.inr rfl)) (xss_cons (xs_unp (t := (.tp [7, 8, 9])) (ps_asg (xe_ix (xo_var 0) (xe_var 3)) (pg_tup rfl (pgs_cons (pg_name (i := 7) sc_last_difference.nd rfl (by first | exact Or.inl rfl | exact Or.inr rfl)) (pgs_cons (pg_name (i := 8) sc_last_difference.nd rfl (by first | exact Or.inl rfl | exact Or.inr rfl)) (pgs_cons (pg_name (i := 9) sc_last_difference.nd rfl (by first | exact Or.inl rfl | exact Or.inr rfl)) (pgs_nil)))))))
      (xss_cons (xs_asg (ps_set (i := 4) sc_last_difference.nd rfl (by first | exact Or.inl rfl | exact Or.inr rfl) (xe_own k_compared (hr.mono (by decide)) (by rfl) (xa_cons (xe_add (xe_var 9) (xe_var 2)) (xa_cons (xe_if (xt_gt (xe_var 3) (xe_int)) (xe_ix (xo_of (xe_ix (xo_var 0) (xe_sub (xe_var 3) (xe_int)))) (xe_int)) (xe_non)) (xa_cons (xe_var 7) (xa_nil)))) (len_cons (len_cons (len_cons (len_nil)))))))
      (xss_cons (xs_asg (ps_set (i := 5) sc_last_difference.nd rfl (by first | exact Or.inl rfl | exact Or.inr rfl) (xe_sub (xe_var 7) (xe_var 4))))
      (xss_cons (xs_asg (ps_set (i := 6) sc_last_difference.nd rfl (by first | exact Or.inl rfl | exact Or.inr rfl) (xe_xor_ (xe_own k_window (hr.mono (by decide)) (by rfl) (xa_cons (xe_var 8) (xa_cons (xe_var 9) (xa_cons (xe_var 5) (xa_cons (xe_var 4) (xa_nil))))) (len_cons (len_cons (len_cons (len_cons (len_nil)))))) (xe_own k_window (hr.mono (by decide)) (by rfl) (xa_cons (xe_var 1) (xa_cons (xe_var 2) (xa_cons (xe_var 5) (xa_cons (xe_var 4) (xa_nil))))) (len_cons (len_cons (len_cons (len_cons (len_nil)))))))))
      (xss_one (xs_if (xt_ne hr (xe_var 6) (xe_int)) (xss_one (xs_ret (xo_of (xe_sub (xe_add (xe_var 5) (xe_bits (xe_var 6))) (xe_int))))) (xss_nil))))))))
      (xss_one (xs_ret (xo_of (xe_non))))
/-! ### middle_of -/
abbrev s_middle_of : Stmt := topS 17
abbrev n_middle_of : List Str := [Str.ofString "pieces", Str.ofString "start", Str.ofString "end", Str.ofString "texts", Str.ofString "low", Str.ofString "high", Str.ofString "bits", Str.ofString "width", Str.ofString "top"]
theorem sc_middle_of : FnScope n_middle_of [Str.ofString "pieces", Str.ofString "start", Str.ofString "end"] (defScope s_middle_of) := ⟨rfl, rfl, rfl, by decide +kernel, rfl, by decide +kernel, by decide +kernel⟩
theorem ok_middle_of {P : Program} {w : World} {K : PySem.W.Frag} {mg : Str → Option Value} {base : Heap} {f : Addr} {fd : FuncData} (F : Fun K (Str.ofString "middle_of") (Str.ofString "middle_of") s_middle_of f fd) (hm : mg (Str.ofString "middle_of") = some (.ref f)) (hb : Binds K fd [Str.ofString "pieces", Str.ofString "start", Str.ofString "end"] []) (k_window : Cal P w K mg base (Str.ofString "window") 2 4 h_window) (m_int : mg (Str.ofString "int") = none) (c_LONGEST : ∃ t, mg (Str.ofString "LONGEST") = some (.int 1000000 t)) :
    Cal P w K mg base (Str.ofString "middle_of") 3 3 h_middle_of := by
  unfold h_middle_of
  exact cal_of (N := n_middle_of) (g := g_middle_of) F hm hb sc_middle_of rfl rfl fun cdv A outer s H E hr => xss_cons (xs_if (xt_gt (xe_sub (xe_var 2) (xe_var 1)) (xe_gint (by rfl) c_LONGEST)) (xss_one (xs_never)) (xss_nil))
      (xss_cons (xs_own (ps_set (i := 3) sc_middle_of.nd rfl (by first | exact Or.inl rfl | exact Or.inr rfl) (xl_lst (xa_nil))))
      (xss_cons (xs_asg (ps_set (i := 4) sc_middle_of.nd rfl (by first | exact Or.inl rfl | exact Or.inr rfl) (xe_var 1)))
      (xss_cons (xs_for (t := (.tp [5, 6, 7])) PassesOwn.never rfl (xi_seq (xe_var 0)) (pg_tup rfl (pgs_cons (pg_name (i := 5) sc_middle_of.nd rfl (by first | exact Or.inl rfl | exact Or.inr rfl)) (pgs_cons (pg_name (i := 6) sc_middle_of.nd rfl (by first | exact Or.inl rfl | exact Or.inr rfl)) (pgs_cons (pg_name (i := 7) sc_middle_of.nd rfl (by first | exact Or.inl rfl | exact Or.inr rfl)) (pgs_nil))))) (xss_cons (xs_asg (ps_set (i := 8) sc_middle_of.nd rfl (by first | exact Or.inl rfl | exact Or.inr rfl) (xe_if (xt_w (xw_or (xt_is (xe_var 5) (xe_non)) (xw_or1 (xt_gt (xe_var 5) (xe_var 2))))) (xe_var 2) (xe_var 5))))
      (xss_one (xs_if (xt_gt (xe_var 8) (xe_var 4)) (xss_cons (xs_app (ps_expr (pe_bm PySem.F.plainAttrs_list PySem.F.slot_list_append PySem.F.type_list_append mt_append (pv 3) (pa_cons (xe_m1 (pe_m1 PySem.F.slot_str_zfill PySem.F.type_str_zfill mt_zfill (xe_fmtB (xe_own k_window (hr.mono (by decide)) (by rfl) (xa_cons (xe_var 6) (xa_cons (xe_var 7) (xa_cons (xe_var 4) (xa_cons (xe_sub (xe_var 8) (xe_var 4)) (xa_nil))))) (len_cons (len_cons (len_cons (len_cons (len_nil))))))) (xe_sub (xe_var 8) (xe_var 4))) ok_zfill) pa_nil))))
      (xss_one (xs_asg (ps_set (i := 4) sc_middle_of.nd rfl (by first | exact Or.inl rfl | exact Or.inr rfl) (xe_var 8))))) (xss_nil)))))
      (xss_one (xs_ret (xo_of (xe_bl_ (pe_callTy call_int2 (by rfl) m_int (by decide +kernel) (xa_cons (xe_m1 (pe_join (xe_str) (xe_bk2 (xo_var 3))) ok_join) (xa_cons (xe_int) (xa_nil)))) ok_int2)))))))
/-! ### written -/
abbrev s_written : Stmt := topS 18
abbrev n_written : List Str := [Str.ofString "pieces", Str.ofString "start", Str.ofString "end", Str.ofString "middle", Str.ofString "_", Str.ofString "bits", Str.ofString "width", Str.ofString "left", Str.ofString "left_width", Str.ofString "right", Str.ofString "right_width", Str.ofString "row"]
theorem sc_written : FnScope n_written [Str.ofString "pieces"] (defScope s_written) := ⟨rfl, rfl, rfl, by decide +kernel, rfl, by decide +kernel, by decide +kernel⟩
theorem ok_written {P : Program} {w : World} {K : PySem.W.Frag} {mg : Str → Option Value} {base : Heap} {f : Addr} {fd : FuncData} (F : Fun K (Str.ofString "written") (Str.ofString "written") s_written f fd) (hm : mg (Str.ofString "written") = some (.ref f)) (hb : Binds K fd [Str.ofString "pieces"] []) (k_shortest : Cal P w K mg base (Str.ofString "shortest") 2 2 h_shortest) (k_first_difference : Cal P w K mg base (Str.ofString "first_difference") 3 3 h_first_difference) (k_row_of : Cal P w K mg base (Str.ofString "row_of") 1 2 h_row_of) (k_last_difference : Cal P w K mg base (Str.ofString "last_difference") 3 3 h_last_difference) (k_middle_of : Cal P w K mg base (Str.ofString "middle_of") 3 3 h_middle_of) (m_min : mg (Str.ofString "min") = none) :
    Cal P w K mg base (Str.ofString "written") 4 1 h_written := by
  unfold h_written
  exact cal_of (N := n_written) (g := g_written) F hm hb sc_written rfl rfl fun cdv A outer s H E hr => xss_cons (xs_unp (t := (.tp [4, 5, 6])) (ps_asg (xe_ix (xo_var 0) (xe_int)) (pg_tup rfl (pgs_cons (pg_name (i := 4) sc_written.nd rfl (by first | exact Or.inl rfl | exact Or.inr rfl)) (pgs_cons (pg_name (i := 5) sc_written.nd rfl (by first | exact Or.inl rfl | exact Or.inr rfl)) (pgs_cons (pg_name (i := 6) sc_written.nd rfl (by first | exact Or.inl rfl | exact Or.inr rfl)) (pgs_nil)))))))
      (xss_cons (xs_unp (t := (.tp [7, 8])) (ps_asg (xe_own k_shortest (hr.mono (by decide)) (by rfl) (xa_cons (xe_var 5) (xa_cons (xe_var 6) (xa_nil))) (len_cons (len_cons (len_nil)))) (pg_tup rfl (pgs_cons (pg_name (i := 7) sc_written.nd rfl (by first | exact Or.inl rfl | exact Or.inr rfl)) (pgs_cons (pg_name (i := 8) sc_written.nd rfl (by first | exact Or.inl rfl | exact Or.inr rfl)) (pgs_nil))))))
      (xss_cons (xs_unp (t := (.tp [4, 5, 6])) (ps_asg (xe_ix (xo_var 0) (xe_neg (xe_int))) (pg_tup rfl (pgs_cons (pg_name (i := 4) sc_written.nd rfl (by first | exact Or.inl rfl | exact Or.inr rfl)) (pgs_cons (pg_name (i := 5) sc_written.nd rfl (by first | exact Or.inl rfl | exact Or.inr rfl)) (pgs_cons (pg_name (i := 6) sc_written.nd rfl (by first | exact Or.inl rfl | exact Or.inr rfl)) (pgs_nil)))))))
      (xss_cons (xs_unp (t := (.tp [9, 10])) (ps_asg (xe_own k_shortest (hr.mono (by decide)) (by rfl) (xa_cons (xe_var 5) (xa_cons (xe_var 6) (xa_nil))) (len_cons (len_cons (len_nil)))) (pg_tup rfl (pgs_cons (pg_name (i := 9) sc_written.nd rfl (by first | exact Or.inl rfl | exact Or.inr rfl)) (pgs_cons (pg_name (i := 10) sc_written.nd rfl (by first | exact Or.inl rfl | exact Or.inr rfl)) (pgs_nil))))))
      (xss_cons (xs_asg (ps_set (i := 1) sc_written.nd rfl (by first | exact Or.inl rfl | exact Or.inr rfl) (xe_own k_first_difference (hr.mono (by decide)) (by rfl) (xa_cons (xe_var 0) (xa_cons (xe_var 7) (xa_cons (xe_var 8) (xa_nil)))) (len_cons (len_cons (len_cons (len_nil)))))))
      (xss_cons (xs_if (xt_is (xe_var 1) (xe_non)) (xss_cons (xs_asg (ps_set (i := 11) sc_written.nd rfl (by first | exact Or.inl rfl | exact Or.inr rfl) (xe_own k_row_of (hr.mono (by decide)) (by rfl) (xa_cons (xe_var 7) (xa_cons (xe_var 8) (xa_nil))) (len_cons (len_cons (len_nil))))))
      (xss_one (xs_ret (xo_of (xe_tup (xa_cons (xe_var 11) (xa_cons (xe_int) (xa_cons (xe_tup (xa_nil)) (xa_cons (xe_var 11) (xa_nil)))))))))) (xss_nil))
      (xss_cons (xs_asg (ps_set (i := 2) sc_written.nd rfl (by first | exact Or.inl rfl | exact Or.inr rfl) (xe_add (xe_own k_last_difference (hr.mono (by decide)) (by rfl) (xa_cons (xe_var 0) (xa_cons (xe_var 9) (xa_cons (xe_var 10) (xa_nil)))) (len_cons (len_cons (len_cons (len_nil))))) (xe_int))))
      (xss_cons (xs_asg (ps_set (i := 3) sc_written.nd rfl (by first | exact Or.inl rfl | exact Or.inr rfl) (xe_if (xt_lt (xe_var 1) (xe_var 2)) (xe_own k_row_of (hr.mono (by decide)) (by rfl) (xa_cons (xe_own k_middle_of (hr.mono (by decide)) (by rfl) (xa_cons (xe_var 0) (xa_cons (xe_var 1) (xa_cons (xe_var 2) (xa_nil)))) (len_cons (len_cons (len_cons (len_nil))))) (xa_cons (xe_sub (xe_var 2) (xe_var 1)) (xa_nil))) (len_cons (len_cons (len_nil)))) (xe_tup (xa_nil)))))
      (xss_one (xs_ret (xo_of (xe_tup (xa_cons (xe_own k_row_of (hr.mono (by decide)) (by rfl) (xa_cons (xe_var 7) (xa_cons (xe_var 8) (xa_nil))) (len_cons (len_cons (len_nil)))) (xa_cons (xe_bl_ (pe_callB (call_min2 rfl) (by rfl) m_min (by decide +kernel) (xa_cons (xe_var 1) (xa_cons (xe_var 2) (xa_nil)))) ok_min) (xa_cons (xe_var 3) (xa_cons (xe_own k_row_of (hr.mono (by decide)) (by rfl) (xa_cons (xe_var 9) (xa_cons (xe_var 10) (xa_nil))) (len_cons (len_cons (len_nil)))) (xa_nil))))))))))))))))
/-! ### bits_of -/
abbrev s_bits_of : Stmt := topS 11
abbrev n_bits_of : List Str := [Str.ofString "row", Str.ofString "there"]
theorem sc_bits_of : FnScope n_bits_of [Str.ofString "row"] (defScope s_bits_of) := ⟨rfl, rfl, rfl, by decide +kernel, rfl, by decide +kernel, by decide +kernel⟩
theorem ok_bits_of {P : Program} {w : World} {K : PySem.W.Frag} {mg : Str → Option Value} {base : Heap} {f : Addr} {fd : FuncData} (F : Fun K (Str.ofString "bits_of") (Str.ofString "bits_of") s_bits_of f fd) (hm : mg (Str.ofString "bits_of") = some (.ref f)) (hb : Binds K fd [Str.ofString "row"] []) (m_int : mg (Str.ofString "int") = none) :
    Cal P w K mg base (Str.ofString "bits_of") 1 1 h_bits_of := by
  unfold h_bits_of
  exact cal_of (N := n_bits_of) (g := g_bits_of) F hm hb sc_bits_of rfl rfl fun cdv A outer s H E hr => xss_one (xs_ret (xo_of (xe_bl_ (pe_callTy call_int2 (by rfl) m_int (by decide +kernel) (xa_cons (xe_m1 (pe_join (xe_str) (xe_frz (xl_lc (pe_lc (own := [(Str.ofString "there", 1)]) (g := tgT _ (.nm 1)) rfl sc_bits_of.nd (xi_seq2 (xe_bk2 (xo_var 0))) (blkOk_by (N := n_bits_of) (sc := defScope s_bits_of) (by decide +kernel)) (fun _ _ _ _ _ => pg_name (i := 1) sc_bits_of.nd rfl (by first | exact Or.inl rfl | exact Or.inr rfl)) (fun _ _ _ _ _ => xts_nil) (fun _ _ _ _ _ => xe_if (xt_val (xe_var 1)) (xe_str) (xe_str)))))) ok_join) (xa_cons (xe_int) (xa_nil)))) ok_int2)))
/-! ### anchored -/
abbrev s_anchored : Stmt := topS 10
abbrev n_anchored : List Str := [Str.ofString "bits", Str.ofString "low", Str.ofString "length"]
theorem sc_anchored : FnScope n_anchored [Str.ofString "bits", Str.ofString "low", Str.ofString "length"] (defScope s_anchored) := ⟨rfl, rfl, rfl, by decide +kernel, rfl, by decide +kernel, by decide +kernel⟩
theorem ok_anchored {P : Program} {w : World} {K : PySem.W.Frag} {mg : Str → Option Value} {base : Heap} {f : Addr} {fd : FuncData} (F : Fun K (Str.ofString "anchored") (Str.ofString "anchored") s_anchored f fd) (hm : mg (Str.ofString "anchored") = some (.ref f)) (hb : Binds K fd [Str.ofString "bits", Str.ofString "low", Str.ofString "length"] []) (k_window : Cal P w K mg base (Str.ofString "window") 2 4 h_window) :
    Cal P w K mg base (Str.ofString "anchored") 3 3 h_anchored := by
  unfold h_anchored
  exact cal_of (N := n_anchored) (g := g_anchored) F hm hb sc_anchored rfl rfl fun cdv A outer s H E hr => xss_one (xs_ret (xo_of (xe_own k_window (hr.mono (by decide)) (by rfl) (xa_cons (xe_var 0) (xa_cons (xe_var 2) (xa_cons (xe_neg (xe_var 1)) (xa_cons (xe_var 2) (xa_nil))))) (len_cons (len_cons (len_cons (len_cons (len_nil))))))))
/-! ### pieces_of -/
abbrev s_pieces_of : Stmt := topS 19
abbrev n_pieces_of : List Str := [Str.ofString "pattern", Str.ofString "pieces", Str.ofString "left", Str.ofString "start", Str.ofString "middle", Str.ofString "right"]
theorem sc_pieces_of : FnScope n_pieces_of [Str.ofString "pattern"] (defScope s_pieces_of) := ⟨rfl, rfl, rfl, by decide +kernel, rfl, by decide +kernel, by decide +kernel⟩
theorem ok_pieces_of {P : Program} {w : World} {K : PySem.W.Frag} {mg : Str → Option Value} {base : Heap} {f : Addr} {fd : FuncData} (F : Fun K (Str.ofString "pieces_of") (Str.ofString "pieces_of") s_pieces_of f fd) (hm : mg (Str.ofString "pieces_of") = some (.ref f)) (hb : Binds K fd [Str.ofString "pattern"] []) (k_bits_of : Cal P w K mg base (Str.ofString "bits_of") 1 1 h_bits_of) (k_anchored : Cal P w K mg base (Str.ofString "anchored") 3 3 h_anchored) (m_len : mg (Str.ofString "len") = none) :
    Cal P w K mg base (Str.ofString "pieces_of") 4 1 h_pieces_of := by
  unfold h_pieces_of
  exact cal_of (N := n_pieces_of) (g := g_pieces_of) F hm hb sc_pieces_of rfl rfl fun cdv A outer s H E hr => xss_cons (xs_unp (t := (.tp [2, 3, 4, 5])) (ps_asg (xe_var 0) (pg_tup rfl (pgs_cons (pg_name (i := 2) sc_pieces_of.nd rfl (by first | exact Or.inl rfl | exact Or.inr rfl)) (pgs_cons (pg_name (i := 3) sc_pieces_of.nd rfl (by first | exact Or.inl rfl | exact Or.inr rfl)) (pgs_cons (pg_name (i := 4) sc_pieces_of.nd rfl (by first | exact Or.inl rfl | exact Or.inr rfl)) (pgs_cons (pg_name (i := 5) sc_pieces_of.nd rfl (by first | exact Or.inl rfl | exact Or.inr rfl)) (pgs_nil))))))))
      (xss_cons (xs_own (ps_set (i := 1) sc_pieces_of.nd rfl (by first | exact Or.inl rfl | exact Or.inr rfl) (xl_lst (xa_cons (xe_tup (xa_cons (xe_var 3) (xa_cons (xe_own k_bits_of (hr.mono (by decide)) (by rfl) (xa_cons (xe_var 2) (xa_nil)) (len_cons (len_nil))) (xa_cons (xe_len (pe_callB call_len (by rfl) m_len PySem.boot_len (pa_cons (xo_var 2) pa_nil))) (xa_nil))))) (xa_nil)))))
      (xss_cons (xs_if (xt_gt (xe_len (pe_callB call_len (by rfl) m_len PySem.boot_len (pa_cons (xo_var 4) pa_nil))) (xe_int)) (xss_one (xs_app (ps_expr (pe_bm PySem.F.plainAttrs_list PySem.F.slot_list_append PySem.F.type_list_append mt_append (pv 1) (pa_cons (xe_tup (xa_cons (xe_add (xe_var 3) (xe_len (pe_callB call_len (by rfl) m_len PySem.boot_len (pa_cons (xo_var 4) pa_nil)))) (xa_cons (xe_own k_anchored (hr.mono (by decide)) (by rfl) (xa_cons (xe_own k_bits_of (hr.mono (by decide)) (by rfl) (xa_cons (xe_var 4) (xa_nil)) (len_cons (len_nil))) (xa_cons (xe_var 3) (xa_cons (xe_len (pe_callB call_len (by rfl) m_len PySem.boot_len (pa_cons (xo_var 4) pa_nil))) (xa_nil)))) (len_cons (len_cons (len_cons (len_nil))))) (xa_cons (xe_len (pe_callB call_len (by rfl) m_len PySem.boot_len (pa_cons (xo_var 4) pa_nil))) (xa_nil))))) pa_nil))))) (xss_nil))
      (xss_cons (xs_app (ps_expr (pe_bm PySem.F.plainAttrs_list PySem.F.slot_list_append PySem.F.type_list_append mt_append (pv 1) (pa_cons (xe_tup (xa_cons (xe_non) (xa_cons (xe_own k_bits_of (hr.mono (by decide)) (by rfl) (xa_cons (xe_var 5) (xa_nil)) (len_cons (len_nil))) (xa_cons (xe_len (pe_callB call_len (by rfl) m_len PySem.boot_len (pa_cons (xo_var 5) pa_nil))) (xa_nil))))) pa_nil))))
      (xss_one (xs_ret (xo_var 1))))))
/-! ### beside -/
abbrev s_beside : Stmt := topS 22
abbrev n_beside : List Str := [Str.ofString "pattern", Str.ofString "high", Str.ofString "bits", Str.ofString "width"]
theorem sc_beside : FnScope n_beside [Str.ofString "pattern"] (defScope s_beside) := ⟨rfl, rfl, rfl, by decide +kernel, rfl, by decide +kernel, by decide +kernel⟩
theorem ok_beside {P : Program} {w : World} {K : PySem.W.Frag} {mg : Str → Option Value} {base : Heap} {f : Addr} {fd : FuncData} (F : Fun K (Str.ofString "beside") (Str.ofString "beside") s_beside f fd) (hm : mg (Str.ofString "beside") = some (.ref f)) (hb : Binds K fd [Str.ofString "pattern"] []) (k_written : Cal P w K mg base (Str.ofString "written") 4 1 h_written) (k_pieces_of : Cal P w K mg base (Str.ofString "pieces_of") 4 1 h_pieces_of) :
    Cal P w K mg base (Str.ofString "beside") 5 1 h_beside := by
  unfold h_beside
  exact cal_of (N := n_beside) (g := g_beside) F hm hb sc_beside rfl rfl fun cdv A outer s H E hr => xss_one (xs_ret (xo_of (xe_own k_written (hr.mono (by decide)) (by rfl) (xa_cons (xe_frz (xl_lc (pe_lc (own := [(Str.ofString "high", 1), (Str.ofString "bits", 2), (Str.ofString "width", 3)]) (g := tgT _ (.tp [1, 2, 3])) rfl sc_beside.nd (xi_seq (xe_own k_pieces_of (hr.mono (by decide)) (by rfl) (xa_cons (xe_var 0) (xa_nil)) (len_cons (len_nil)))) (blkOk_by (N := n_beside) (sc := defScope s_beside) (by decide +kernel)) (fun _ _ _ _ _ => pg_tup rfl (pgs_cons (pg_name (i := 1) sc_beside.nd rfl (by first | exact Or.inl rfl | exact Or.inr rfl)) (pgs_cons (pg_name (i := 2) sc_beside.nd rfl (by first | exact Or.inl rfl | exact Or.inr rfl)) (pgs_cons (pg_name (i := 3) sc_beside.nd rfl (by first | exact Or.inl rfl | exact Or.inr rfl)) (pgs_nil))))) (fun _ _ _ _ _ => xts_nil) (fun _ _ _ _ _ => xe_tup (xa_cons (xe_var 1) (xa_cons (xe_xor_ (xe_var 2) (xe_sub (xe_shw (xe_int) (xe_var 3)) (xe_int))) (xa_cons (xe_var 3) (xa_nil)))))))) (xa_nil)) (len_cons (len_nil)))))
/-! ### lesser -/
abbrev s_lesser : Stmt := topS 26
abbrev n_lesser : List Str := [Str.ofString "first", Str.ofString "second"]
theorem sc_lesser : FnScope n_lesser [Str.ofString "first", Str.ofString "second"] (defScope s_lesser) := ⟨rfl, rfl, rfl, by decide +kernel, rfl, by decide +kernel, by decide +kernel⟩
theorem ok_lesser {P : Program} {w : World} {K : PySem.W.Frag} {mg : Str → Option Value} {base : Heap} {f : Addr} {fd : FuncData} (F : Fun K (Str.ofString "lesser") (Str.ofString "lesser") s_lesser f fd) (hm : mg (Str.ofString "lesser") = some (.ref f)) (hb : Binds K fd [Str.ofString "first", Str.ofString "second"] []) (m_min : mg (Str.ofString "min") = none) :
    Cal P w K mg base (Str.ofString "lesser") 1 2 h_lesser := by
  unfold h_lesser
  exact cal_of (N := n_lesser) (g := g_lesser) F hm hb sc_lesser rfl rfl fun cdv A outer s H E hr => xss_cons (xs_if (xt_is (xe_var 0) (xe_non)) (xss_one (xs_ret (xo_var 1))) (xss_nil))
      (xss_one (xs_ret (xo_of (xe_if (xt_is (xe_var 1) (xe_non)) (xe_var 0) (xe_bl_ (pe_callB (call_min2 rfl) (by rfl) m_min (by decide +kernel) (xa_cons (xe_var 0) (xa_cons (xe_var 1) (xa_nil)))) ok_min)))))
/-! ### joined_piece -/
abbrev s_joined_piece : Stmt := topS 27
abbrev n_joined_piece : List Str := [Str.ofString "first", Str.ofString "second", Str.ofString "low", Str.ofString "high", Str.ofString "is_union", Str.ofString "width", Str.ofString "length", Str.ofString "start", Str.ofString "bits", Str.ofString "others"]
theorem sc_joined_piece : FnScope n_joined_piece [Str.ofString "first", Str.ofString "second", Str.ofString "low", Str.ofString "high", Str.ofString "is_union"] (defScope s_joined_piece) := ⟨rfl, rfl, rfl, by decide +kernel, rfl, by decide +kernel, by decide +kernel⟩
theorem ok_joined_piece {P : Program} {w : World} {K : PySem.W.Frag} {mg : Str → Option Value} {base : Heap} {f : Addr} {fd : FuncData} (F : Fun K (Str.ofString "joined_piece") (Str.ofString "joined_piece") s_joined_piece f fd) (hm : mg (Str.ofString "joined_piece") = some (.ref f)) (hb : Binds K fd [Str.ofString "first", Str.ofString "second", Str.ofString "low", Str.ofString "high", Str.ofString "is_union"] []) (k_window : Cal P w K mg base (Str.ofString "window") 2 4 h_window) (k_anchored : Cal P w K mg base (Str.ofString "anchored") 3 3 h_anchored) (c_LONGEST : ∃ t, mg (Str.ofString "LONGEST") = some (.int 1000000 t)) (m_lcm : mg (Str.ofString "lcm") = some (.builtin "math.lcm")) :
    Cal P w K mg base (Str.ofString "joined_piece") 4 5 h_joined_piece := by
  unfold h_joined_piece
  exact cal_of (N := n_joined_piece) (g := g_joined_piece) F hm hb sc_joined_piece rfl rfl fun cdv A outer s H E hr => xss_cons (xs_asg (ps_set (i := 5) sc_joined_piece.nd rfl (by first | exact Or.inl rfl | exact Or.inr rfl) (xe_bl_ (pe_callBfun cr_lcm (by rfl) m_lcm (xa_cons (xe_ix (xo_var 0) (xe_int)) (xa_cons (xe_ix (xo_var 1) (xe_int)) (xa_nil)))) ok_lcm)))
      (xss_cons (xs_asg (ps_set (i := 6) sc_joined_piece.nd rfl (by first | exact Or.inl rfl | exact Or.inr rfl) (xe_if (xt_w (xw_or (xt_is (xe_var 2) (xe_non)) (xw_or1 (xt_is (xe_var 3) (xe_non))))) (xe_non) (xe_sub (xe_var 3) (xe_var 2)))))
      (xss_cons (xs_if (xt_w (xw_and (xt_isnt (xe_var 6) (xe_non)) (xw_and1 (xt_lt (xe_var 6) (xe_var 5))))) (xss_one (xs_asg (ps_set (i := 5) sc_joined_piece.nd rfl (by first | exact Or.inl rfl | exact Or.inr rfl) (xe_var 6)))) (xss_nil))
      (xss_cons (xs_if (xt_gt (xe_var 5) (xe_gint (by rfl) c_LONGEST)) (xss_one (xs_never)) (xss_nil))
      (xss_cons (xs_asg (ps_set (i := 7) sc_joined_piece.nd rfl (by first | exact Or.inl rfl | exact Or.inr rfl) (xe_if (xt_is (xe_var 2) (xe_non)) (xe_int) (xe_var 2))))
      (xss_cons (xs_asg (ps_set (i := 8) sc_joined_piece.nd rfl (by first | exact Or.inl rfl | exact Or.inr rfl) (xe_own k_window (hr.mono (by decide)) (by rfl) (xa_cons (xe_ix (xo_var 0) (xe_int)) (xa_cons (xe_ix (xo_var 0) (xe_int)) (xa_cons (xe_var 7) (xa_cons (xe_var 5) (xa_nil))))) (len_cons (len_cons (len_cons (len_cons (len_nil))))))))
      (xss_cons (xs_asg (ps_set (i := 9) sc_joined_piece.nd rfl (by first | exact Or.inl rfl | exact Or.inr rfl) (xe_own k_window (hr.mono (by decide)) (by rfl) (xa_cons (xe_ix (xo_var 1) (xe_int)) (xa_cons (xe_ix (xo_var 1) (xe_int)) (xa_cons (xe_var 7) (xa_cons (xe_var 5) (xa_nil))))) (len_cons (len_cons (len_cons (len_cons (len_nil))))))))
      (xss_one (xs_ret (xo_of (xe_tup (xa_cons (xe_var 3) (xa_cons (xe_own k_anchored (hr.mono (by decide)) (by rfl) (xa_cons (xe_if (xt_val (xe_var 4)) (xe_or_ (xe_var 8) (xe_var 9)) (xe_and_ (xe_var 8) (xe_var 9))) (xa_cons (xe_var 7) (xa_cons (xe_var 5) (xa_nil)))) (len_cons (len_cons (len_cons (len_nil))))) (xa_cons (xe_var 5) (xa_nil))))))))))))))
/-! ### joined -/
abbrev s_joined : Stmt := topS 25
abbrev n_joined : List Str := [Str.ofString "first", Str.ofString "second", Str.ofString "is_union", Str.ofString "pieces", Str.ofString "low", Str.ofString "at", Str.ofString "other", Str.ofString "high"]
theorem sc_joined : FnScope n_joined [Str.ofString "first", Str.ofString "second", Str.ofString "is_union"] (defScope s_joined) := ⟨rfl, rfl, rfl, by decide +kernel, rfl, by decide +kernel, by decide +kernel⟩
theorem ok_joined {P : Program} {w : World} {K : PySem.W.Frag} {mg : Str → Option Value} {base : Heap} {f : Addr} {fd : FuncData} (F : Fun K (Str.ofString "joined") (Str.ofString "joined") s_joined f fd) (hm : mg (Str.ofString "joined") = some (.ref f)) (hb : Binds K fd [Str.ofString "first", Str.ofString "second", Str.ofString "is_union"] []) (k_lesser : Cal P w K mg base (Str.ofString "lesser") 1 2 h_lesser) (k_joined_piece : Cal P w K mg base (Str.ofString "joined_piece") 4 5 h_joined_piece) (m_len : mg (Str.ofString "len") = none) :
    Cal P w K mg base (Str.ofString "joined") 5 3 h_joined := by
  unfold h_joined
  exact cal_of (N := n_joined) (g := g_joined) F hm hb sc_joined rfl rfl fun cdv A outer s H E hr => xss_cons (xs_own (ps_set (i := 3) sc_joined.nd rfl (by first | exact Or.inl rfl | exact Or.inr rfl) (xl_lst (xa_nil))))
      (xss_cons (xs_asg (ps_set (i := 4) sc_joined.nd rfl (by first | exact Or.inl rfl | exact Or.inr rfl) (xe_non)))
      (xss_cons (xs_asg2 (ps_asg2 (xe_int) (pg_name (i := 5) sc_joined.nd rfl (by first | exact Or.inl rfl | exact Or.inr rfl)) (pg_name (i := 6) sc_joined.nd rfl (by first | exact Or.inl rfl | exact Or.inr rfl))))
      (xss_cons (xs_while PassesOwn.never (xt_w (xw_and (xt_lt (xe_var 5) (xe_len (pe_callB call_len (by rfl) m_len PySem.boot_len (pa_cons (xo_var 0) pa_nil)))) (xw_and1 (xt_lt (xe_var 6) (xe_len (pe_callB call_len (by rfl) m_len PySem.boot_len (pa_cons (xo_var 1) pa_nil))))))) (xss_cons (xs_asg (ps_set (i := 7) sc_joined.nd rfl (by first | exact Or.inl rfl | exact Or.inr rfl) (xe_own k_lesser (hr.mono (by decide)) (by rfl) (xa_cons (xe_ix (xo_of (xe_ix (xo_var 0) (xe_var 5))) (xe_int)) (xa_cons (xe_ix (xo_of (xe_ix (xo_var 1) (xe_var 6))) (xe_int)) (xa_nil))) (len_cons (len_cons (len_nil))))))
      (xss_cons (xs_app (ps_expr (pe_bm PySem.F.plainAttrs_list PySem.F.slot_list_append PySem.F.type_list_append mt_append (pv 3) (pa_cons (xe_own k_joined_piece (hr.mono (by decide)) (by rfl) (xa_cons (xe_ix (xo_var 0) (xe_var 5)) (xa_cons (xe_ix (xo_var 1) (xe_var 6)) (xa_cons (xe_var 4) (xa_cons (xe_var 7) (xa_cons (xe_var 2) (xa_nil)))))) (len_cons (len_cons (len_cons (len_cons (len_cons (len_nil))))))) pa_nil))))
      (xss_cons (xs_asg (ps_set (i := 4) sc_joined.nd rfl (by first | exact Or.inl rfl | exact Or.inr rfl) (xe_var 7)))
      (xss_cons (xs_aug ok_ipadd (ps_aug (i := 5) sc_joined.nd rfl (by first | exact Or.inl rfl | exact Or.inr rfl) (xe_if (xt_eq hr (xe_ix (xo_of (xe_ix (xo_var 0) (xe_var 5))) (xe_int)) (xe_var 7)) (xe_int) (xe_int)) ip_add))
      (xss_one (xs_aug ok_ipadd (ps_aug (i := 6) sc_joined.nd rfl (by first | exact Or.inl rfl | exact Or.inr rfl) (xe_if (xt_eq hr (xe_ix (xo_of (xe_ix (xo_var 1) (xe_var 6))) (xe_int)) (xe_var 7)) (xe_int) (xe_int)) ip_add))))))))
      (xss_one (xs_ret (xo_var 3))))))
/-! ### union -/
abbrev s_union : Stmt := topS 23
abbrev n_union : List Str := [Str.ofString "first", Str.ofString "second"]
theorem sc_union : FnScope n_union [Str.ofString "first", Str.ofString "second"] (defScope s_union) := ⟨rfl, rfl, rfl, by decide +kernel, rfl, by decide +kernel, by decide +kernel⟩
theorem ok_union {P : Program} {w : World} {K : PySem.W.Frag} {mg : Str → Option Value} {base : Heap} {f : Addr} {fd : FuncData} (F : Fun K (Str.ofString "union") (Str.ofString "union") s_union f fd) (hm : mg (Str.ofString "union") = some (.ref f)) (hb : Binds K fd [Str.ofString "first", Str.ofString "second"] []) (k_written : Cal P w K mg base (Str.ofString "written") 4 1 h_written) (k_joined : Cal P w K mg base (Str.ofString "joined") 5 3 h_joined) (k_pieces_of : Cal P w K mg base (Str.ofString "pieces_of") 4 1 h_pieces_of) :
    Cal P w K mg base (Str.ofString "union") 6 2 h_union := by
  unfold h_union
  exact cal_of (N := n_union) (g := g_union) F hm hb sc_union rfl rfl fun cdv A outer s H E hr => xss_one (xs_ret (xo_of (xe_own k_written (hr.mono (by decide)) (by rfl) (xa_cons (xe_own k_joined (hr.mono (by decide)) (by rfl) (xa_cons (xe_own k_pieces_of (hr.mono (by decide)) (by rfl) (xa_cons (xe_var 0) (xa_nil)) (len_cons (len_nil))) (xa_cons (xe_own k_pieces_of (hr.mono (by decide)) (by rfl) (xa_cons (xe_var 1) (xa_nil)) (len_cons (len_nil))) (xa_cons (xe_bl) (xa_nil)))) (len_cons (len_cons (len_cons (len_nil))))) (xa_nil)) (len_cons (len_nil)))))
/-! ### _law_test -/
abbrev s__law_test : Stmt := topS 36
abbrev n__law_test : List Str := [Str.ofString "first", Str.ofString "second", Str.ofString "kind", Str.ofString "y"]
theorem sc__law_test : FnScope n__law_test [Str.ofString "first", Str.ofString "second", Str.ofString "kind", Str.ofString "y"] (defScope s__law_test) := ⟨rfl, rfl, rfl, by decide +kernel, rfl, by decide +kernel, by decide +kernel⟩
noncomputable def g__law_test : FS := seqS (ifS (testF (binF eqD (varF 2) (constF (.int 0)))) (retF (ofF (orV (callF h__law_in (consF (varF 0) (consF (varF 3) (nilF)))) (callF h__law_in (consF (varF 1) (consF (varF 3) (nilF))))))) (nilS))
      (retF (ofF (andV (callF h__law_in (consF (varF 0) (consF (varF 3) (nilF)))) (callF h__law_in (consF (varF 1) (consF (varF 3) (nilF)))))))
@[irreducible] noncomputable def h__law_test : HF := runB g__law_test 4
theorem ok__law_test {P : Program} {w : World} {K : PySem.W.Frag} {mg : Str → Option Value} {base : Heap} {f : Addr} {fd : FuncData} (F : Fun K (Str.ofString "_law_test") (Str.ofString "_law_test") s__law_test f fd) (hm : mg (Str.ofString "_law_test") = some (.ref f)) (hb : Binds K fd [Str.ofString "first", Str.ofString "second", Str.ofString "kind", Str.ofString "y"] []) (k__law_in : Cal P w K mg base (Str.ofString "_law_in") 1 2 h__law_in) :
    Cal P w K mg base (Str.ofString "_law_test") 2 4 h__law_test := by
  unfold h__law_test
  exact cal_of (N := n__law_test) (g := g__law_test) F hm hb sc__law_test rfl rfl fun cdv A outer s H E hr => xss_cons (xs_if (xt_eq hr (xe_var 2) (xe_int)) (xss_one (xs_ret (xo_of (xe_or (xe_own k__law_in (hr.mono (by decide)) (by rfl) (xa_cons (xe_var 0) (xa_cons (xe_var 3) (xa_nil))) (len_cons (len_cons (len_nil)))) (xe_one (xe_own k__law_in (hr.mono (by decide)) (by rfl) (xa_cons (xe_var 1) (xa_cons (xe_var 3) (xa_nil))) (len_cons (len_cons (len_nil))))))))) (xss_nil))
      (xss_one (xs_ret (xo_of (xe_and (xe_own k__law_in (hr.mono (by decide)) (by rfl) (xa_cons (xe_var 0) (xa_cons (xe_var 3) (xa_nil))) (len_cons (len_cons (len_nil)))) (xe_one (xe_own k__law_in (hr.mono (by decide)) (by rfl) (xa_cons (xe_var 1) (xa_cons (xe_var 3) (xa_nil))) (len_cons (len_cons (len_nil)))))))))
/-! ### _law_of -/
abbrev s__law_of : Stmt := topS 35
abbrev n__law_of : List Str := [Str.ofString "first", Str.ofString "second", Str.ofString "kind", Str.ofString "start", Str.ofString "end", Str.ofString "period", Str.ofString "left", Str.ofString "y", Str.ofString "other", Str.ofString "right", Str.ofString "middle"]
theorem sc__law_of : FnScope n__law_of [Str.ofString "first", Str.ofString "second", Str.ofString "kind"] (defScope s__law_of) := ⟨rfl, rfl, rfl, by decide +kernel, rfl, by decide +kernel, by decide +kernel⟩
noncomputable def g__law_of : FS := seqS (asgF 3 (blF minD (consF (ixF (varO 0) (constF (.int 1))) (consF (ixF (varO 1) (constF (.int 1))) (nilF)))))
      (seqS (asgF 4 (blF maxD (consF (binF addD (ixF (varO 0) (constF (.int 1))) (lenF (ofF (ixF (varO 0) (constF (.int 2)))))) (consF (binF addD (ixF (varO 1) (constF (.int 1))) (lenF (ofF (ixF (varO 1) (constF (.int 2)))))) (nilF)))))
      (seqS (asgF 5 (binF mulD (lenF (ofF (ixF (varO 0) (constF (.int 0))))) (lenF (ofF (ixF (varO 1) (constF (.int 0)))))))
      (seqS (ownF 6 (repF (lstF (consF (constF (.bl false)) (nilF))) (varF 5)))
      (seqS (forS (.nm 7) (rng2 (consF (binF subD (varF 3) (varF 5)) (consF (varF 3) (nilF)))) (setF 6 (binF modD (blF intD (consF (varF 7) (nilF))) (varF 5)) (callF h__law_test (consF (varF 0) (consF (varF 1) (consF (varF 2) (consF (varF 7) (nilF))))))))
      (seqS (asgF 8 (binF mulD (lenF (ofF (ixF (varO 0) (constF (.int 3))))) (lenF (ofF (ixF (varO 1) (constF (.int 3)))))))
      (seqS (ownF 9 (repF (lstF (consF (constF (.bl false)) (nilF))) (varF 8)))
      (seqS (forS (.nm 7) (rng2 (consF (varF 4) (consF (binF addD (varF 4) (varF 8)) (nilF)))) (setF 9 (binF modD (blF intD (consF (varF 7) (nilF))) (varF 8)) (callF h__law_test (consF (varF 0) (consF (varF 1) (consF (varF 2) (consF (varF 7) (nilF))))))))
      (seqS (asgF 10 (tofF (ofF (frzF (compF (.nm 7) (rng2 (consF (varF 3) (consF (varF 4) (nilF)))) (yesT) (callF h__law_test (consF (varF 0) (consF (varF 1) (consF (varF 2) (consF (varF 7) (nilF)))))) [7])))))
      (retF (ofF (callF h__law_written (consF (tupF (consF (tofF (varO 6)) (consF (varF 3) (consF (varF 10) (consF (tofF (varO 9)) (nilF)))))) (nilF)))))))))))))
@[irreducible] noncomputable def h__law_of : HF := runB g__law_of 11
theorem ok__law_of {P : Program} {w : World} {K : PySem.W.Frag} {mg : Str → Option Value} {base : Heap} {f : Addr} {fd : FuncData} (F : Fun K (Str.ofString "_law_of") (Str.ofString "_law_of") s__law_of f fd) (hm : mg (Str.ofString "_law_of") = some (.ref f)) (hb : Binds K fd [Str.ofString "first", Str.ofString "second", Str.ofString "kind"] []) (k__law_written : Cal P w K mg base (Str.ofString "_law_written") 2 1 h__law_written) (k__law_test : Cal P w K mg base (Str.ofString "_law_test") 2 4 h__law_test) (m_min : mg (Str.ofString "min") = none) (m_max : mg (Str.ofString "max") = none) (m_range : mg (Str.ofString "range") = none) (m_tuple : mg (Str.ofString "tuple") = none) (m_len : mg (Str.ofString "len") = none) (m_int : mg (Str.ofString "int") = none) :
    Cal P w K mg base (Str.ofString "_law_of") 3 3 h__law_of := by
  unfold h__law_of
  exact cal_of (N := n__law_of) (g := g__law_of) F hm hb sc__law_of rfl rfl fun cdv A outer s H E hr => xss_cons (xs_asg (ps_set (i := 3) sc__law_of.nd rfl (by first | exact Or.inl rfl | exact Or.inr rfl) (xe_bl_ (pe_callB (call_min2 rfl) (by rfl) m_min (by decide +kernel) (xa_cons (xe_ix (xo_var 0) (xe_int)) (xa_cons (xe_ix (xo_var 1) (xe_int)) (xa_nil)))) ok_min)))
      (xss_cons (xs_asg (ps_set (i := 4) sc__law_of.nd rfl (by first | exact Or.inl rfl | exact Or.inr rfl) (xe_bl_ (pe_callB (call_max2 rfl) (by rfl) m_max (by decide +kernel) (xa_cons (xe_add (xe_ix (xo_var 0) (xe_int)) (xe_len (pe_callB call_len (by rfl) m_len PySem.boot_len (pa_cons (xo_of (xe_ix (xo_var 0) (xe_int))) pa_nil)))) (xa_cons (xe_add (xe_ix (xo_var 1) (xe_int)) (xe_len (pe_callB call_len (by rfl) m_len PySem.boot_len (pa_cons (xo_of (xe_ix (xo_var 1) (xe_int))) pa_nil)))) (xa_nil)))) ok_max)))
      (xss_cons (xs_asg (ps_set (i := 5) sc__law_of.nd rfl (by first | exact Or.inl rfl | exact Or.inr rfl) (xe_mul (xe_len (pe_callB call_len (by rfl) m_len PySem.boot_len (pa_cons (xo_of (xe_ix (xo_var 0) (xe_int))) pa_nil))) (xe_len (pe_callB call_len (by rfl) m_len PySem.boot_len (pa_cons (xo_of (xe_ix (xo_var 1) (xe_int))) pa_nil))))))
      (xss_cons (xs_own (ps_set (i := 6) sc__law_of.nd rfl (by first | exact Or.inl rfl | exact Or.inr rfl) (xl_rep (xl_lst (xa_cons (xe_bl) (xa_nil))) (xe_var 5))))
      (xss_cons (xs_for (t := (.nm 7)) PassesOwn.never rfl (xi_rng2 (pi_range2 (by rfl) m_range (xa_cons (xe_sub (xe_var 3) (xe_var 5)) (xa_cons (xe_var 3) (xa_nil))))) (pg_name (i := 7) sc__law_of.nd rfl (by first | exact Or.inl rfl | exact Or.inr rfl)) (xss_one (xs_set (ps_asg (xe_own k__law_test (hr.mono (by decide)) (by rfl) (xa_cons (xe_var 0) (xa_cons (xe_var 1) (xa_cons (xe_var 2) (xa_cons (xe_var 7) (xa_nil))))) (len_cons (len_cons (len_cons (len_cons (len_nil)))))) (pg_sub (pv 6) (xe_mod (xe_bl_ (pe_callTy (call_int1) (by rfl) m_int (by decide +kernel) (xa_cons (xe_var 7) (xa_nil))) ok_int) (xe_var 5)) set_list)))))
      (xss_cons (xs_asg (ps_set (i := 8) sc__law_of.nd rfl (by first | exact Or.inl rfl | exact Or.inr rfl) (xe_mul (xe_len (pe_callB call_len (by rfl) m_len PySem.boot_len (pa_cons (xo_of (xe_ix (xo_var 0) (xe_int))) pa_nil))) (xe_len (pe_callB call_len (by rfl) m_len PySem.boot_len (pa_cons (xo_of (xe_ix (xo_var 1) (xe_int))) pa_nil))))))
      (xss_cons (xs_own (ps_set (i := 9) sc__law_of.nd rfl (by first | exact Or.inl rfl | exact Or.inr rfl) (xl_rep (xl_lst (xa_cons (xe_bl) (xa_nil))) (xe_var 8))))
      (xss_cons (xs_for (t := (.nm 7)) PassesOwn.never rfl (xi_rng2 (pi_range2 (by rfl) m_range (xa_cons (xe_var 4) (xa_cons (xe_add (xe_var 4) (xe_var 8)) (xa_nil))))) (pg_name (i := 7) sc__law_of.nd rfl (by first | exact Or.inl rfl | exact Or.inr rfl)) (xss_one (xs_set (ps_asg (xe_own k__law_test (hr.mono (by decide)) (by rfl) (xa_cons (xe_var 0) (xa_cons (xe_var 1) (xa_cons (xe_var 2) (xa_cons (xe_var 7) (xa_nil))))) (len_cons (len_cons (len_cons (len_cons (len_nil)))))) (pg_sub (pv 9) (xe_mod (xe_bl_ (pe_callTy (call_int1) (by rfl) m_int (by decide +kernel) (xa_cons (xe_var 7) (xa_nil))) ok_int) (xe_var 8)) set_list)))))
      (xss_cons (xs_asg (ps_set (i := 10) sc__law_of.nd rfl (by first | exact Or.inl rfl | exact Or.inr rfl) (xe_tuple (pe_callTy call_tupleP (by rfl) m_tuple (by decide +kernel) (pa_cons (xo_of (xe_frz (xl_lc (pe_lc (own := [(Str.ofString "y", 7)]) (g := tgT _ (.nm 7)) rfl sc__law_of.nd (xi_rng2 (pi_range2 (by rfl) m_range (xa_cons (xe_var 3) (xa_cons (xe_var 4) (xa_nil))))) (blkOk_by (N := n__law_of) (sc := defScope s__law_of) (by decide +kernel)) (fun _ _ _ _ _ => pg_name (i := 7) sc__law_of.nd rfl (by first | exact Or.inl rfl | exact Or.inr rfl)) (fun _ _ _ _ _ => xts_nil) (fun _ _ _ _ _ => xe_own k__law_test (hr.mono (by decide)) (by rfl) (xa_cons (xe_var 0) (xa_cons (xe_var 1) (xa_cons (xe_var 2) (xa_cons (xe_var 7) (xa_nil))))) (len_cons (len_cons (len_cons (len_cons (len_nil)))))))))) pa_nil)))))
      (xss_one (xs_ret (xo_of (xe_own k__law_written (hr.mono (by decide)) (by rfl) (xa_cons (xe_tup (xa_cons (xe_tuple (pe_callTy call_tupleP (by rfl) m_tuple (by decide +kernel) (pa_cons (xo_var 6) pa_nil))) (xa_cons (xe_var 3) (xa_cons (xe_var 10) (xa_cons (xe_tuple (pe_callTy call_tupleP (by rfl) m_tuple (by decide +kernel) (pa_cons (xo_var 9) pa_nil))) (xa_nil)))))) (xa_nil)) (len_cons (len_nil))))))))))))))
/-! ### meet -/
abbrev s_meet : Stmt := topS 24
abbrev n_meet : List Str := [Str.ofString "first", Str.ofString "second"]
theorem sc_meet : FnScope n_meet [Str.ofString "first", Str.ofString "second"] (defScope s_meet) := ⟨rfl, rfl, rfl, by decide +kernel, rfl, by decide +kernel, by decide +kernel⟩
theorem ok_meet {P : Program} {w : World} {K : PySem.W.Frag} {mg : Str → Option Value} {base : Heap} {f : Addr} {fd : FuncData} (F : Fun K (Str.ofString "meet") (Str.ofString "meet") s_meet f fd) (hm : mg (Str.ofString "meet") = some (.ref f)) (hb : Binds K fd [Str.ofString "first", Str.ofString "second"] []) (k_written : Cal P w K mg base (Str.ofString "written") 4 1 h_written) (k_joined : Cal P w K mg base (Str.ofString "joined") 5 3 h_joined) (k_pieces_of : Cal P w K mg base (Str.ofString "pieces_of") 4 1 h_pieces_of) :
    Cal P w K mg base (Str.ofString "meet") 6 2 h_meet := by
  unfold h_meet
  exact cal_of (N := n_meet) (g := g_meet) F hm hb sc_meet rfl rfl fun cdv A outer s H E hr => xss_one (xs_ret (xo_of (xe_own k_written (hr.mono (by decide)) (by rfl) (xa_cons (xe_own k_joined (hr.mono (by decide)) (by rfl) (xa_cons (xe_own k_pieces_of (hr.mono (by decide)) (by rfl) (xa_cons (xe_var 0) (xa_nil)) (len_cons (len_nil))) (xa_cons (xe_own k_pieces_of (hr.mono (by decide)) (by rfl) (xa_cons (xe_var 1) (xa_nil)) (len_cons (len_nil))) (xa_cons (xe_bl) (xa_nil)))) (len_cons (len_cons (len_cons (len_nil))))) (xa_nil)) (len_cons (len_nil)))))
/-! ### is_in -/
abbrev s_is_in : Stmt := topS 21
abbrev n_is_in : List Str := [Str.ofString "pattern", Str.ofString "number", Str.ofString "left", Str.ofString "start", Str.ofString "middle", Str.ofString "right"]
theorem sc_is_in : FnScope n_is_in [Str.ofString "pattern", Str.ofString "number"] (defScope s_is_in) := ⟨rfl, rfl, rfl, by decide +kernel, rfl, by decide +kernel, by decide +kernel⟩
theorem ok_is_in {P : Program} {w : World} {K : PySem.W.Frag} {mg : Str → Option Value} {base : Heap} {f : Addr} {fd : FuncData} (F : Fun K (Str.ofString "is_in") (Str.ofString "is_in") s_is_in f fd) (hm : mg (Str.ofString "is_in") = some (.ref f)) (hb : Binds K fd [Str.ofString "pattern", Str.ofString "number"] []) (m_len : mg (Str.ofString "len") = none) :
    Cal P w K mg base (Str.ofString "is_in") 1 2 h_is_in := by
  unfold h_is_in
  exact cal_of (N := n_is_in) (g := g_is_in) F hm hb sc_is_in rfl rfl fun cdv A outer s H E hr => xss_cons (xs_unp (t := (.tp [2, 3, 4, 5])) (ps_asg (xe_var 0) (pg_tup rfl (pgs_cons (pg_name (i := 2) sc_is_in.nd rfl (by first | exact Or.inl rfl | exact Or.inr rfl)) (pgs_cons (pg_name (i := 3) sc_is_in.nd rfl (by first | exact Or.inl rfl | exact Or.inr rfl)) (pgs_cons (pg_name (i := 4) sc_is_in.nd rfl (by first | exact Or.inl rfl | exact Or.inr rfl)) (pgs_cons (pg_name (i := 5) sc_is_in.nd rfl (by first | exact Or.inl rfl | exact Or.inr rfl)) (pgs_nil))))))))
      (xss_cons (xs_if (xt_lt (xe_var 1) (xe_var 3)) (xss_one (xs_ret (xo_of (xe_ix (xo_var 2) (xe_mod (xe_var 1) (xe_len (pe_callB call_len (by rfl) m_len PySem.boot_len (pa_cons (xo_var 2) pa_nil)))))))) (xss_nil))
      (xss_cons (xs_if (xt_lt (xe_var 1) (xe_add (xe_var 3) (xe_len (pe_callB call_len (by rfl) m_len PySem.boot_len (pa_cons (xo_var 4) pa_nil))))) (xss_one (xs_ret (xo_of (xe_ix (xo_var 4) (xe_sub (xe_var 1) (xe_var 3)))))) (xss_nil))
      (xss_one (xs_ret (xo_of (xe_ix (xo_var 5) (xe_mod (xe_var 1) (xe_len (pe_callB call_len (by rfl) m_len PySem.boot_len (pa_cons (xo_var 5) pa_nil))))))))))
/-! ### law -/
abbrev s_law : Stmt := topS 37
abbrev n_law : List Str := [Str.ofString "script", Str.ofString "state", Str.ofString "first", Str.ofString "second", Str.ofString "raw", Str.ofString "other", Str.ofString "one", Str.ofString "k", Str.ofString "y"]
theorem sc_law : FnScope n_law [Str.ofString "script"] (defScope s_law) := ⟨rfl, rfl, rfl, by decide +kernel, rfl, by decide +kernel, by decide +kernel⟩
noncomputable def g_law : FS := seqS (objF 1 (lstF (consF (constF (.int 0)) (consF (constF (.int 0)) (consF (frzF (lofF (varO 0))) (consF (constF (.int 1)) (nilF)))))))
      (seqS (asgF 2 (callF h__law_pattern (consF (varF 1) (nilF))))
      (seqS (asgF 3 (callF h__law_pattern (consF (varF 1) (nilF))))
      (seqS (ifS (orT (testF (binF neD (callF h_union (consF (varF 2) (consF (varF 3) (nilF)))) (callF h__law_of (consF (varF 2) (consF (varF 3) (consF (constF (.int 0)) (nilF))))))) (testF (binF neD (callF h_meet (consF (varF 2) (consF (varF 3) (nilF)))) (callF h__law_of (consF (varF 2) (consF (varF 3) (consF (constF (.int 1)) (nilF)))))))) (retF (ofF (constF (.bl false)))) (nilS))
      (seqS (asgF 4 (tupF (consF (callF h__law_row (consF (varF 1) (consF (constF (.int 1)) (consF (constF (.int 6)) (nilF))))) (consF (binF subD (callF h__law_draw (consF (varF 1) (consF (constF (.int 21)) (nilF)))) (constF (.int 10))) (consF (callF h__law_row (consF (varF 1) (consF (constF (.int 0)) (consF (constF (.int 6)) (nilF))))) (consF (callF h__law_row (consF (varF 1) (consF (constF (.int 1)) (consF (constF (.int 6)) (nilF))))) (nilF)))))))
      (seqS (ifS (orT (testF (binF neD (callF h_beside (consF (callF h_beside (consF (varF 4) (nilF))) (nilF))) (callF h__law_written (consF (varF 4) (nilF))))) (orT (testF (binF neD (callF h_union (consF (varF 4) (consF (varF 4) (nilF)))) (callF h__law_written (consF (varF 4) (nilF))))) (testF (binF neD (callF h_meet (consF (varF 4) (consF (varF 4) (nilF)))) (callF h__law_written (consF (varF 4) (nilF))))))) (retF (ofF (constF (.bl false)))) (nilS))
      (seqS (asgF 5 (callF h_beside (consF (varF 2) (nilF))))
      (seqS (forS (.nm 6) (lofF (ofF (binF addD (binF addD (ixF (varO 5) (constF (.int 0))) (ixF (varO 5) (constF (.int 2)))) (ixF (varO 5) (constF (.int 3)))))) (ifS (notT (testF (isiF "bool" (varF 6)))) (retF (ofF (constF (.bl false)))) (nilS)))
      (seqS (ifS (orT (testF (binF neD (callF h_beside (consF (varF 5) (nilF))) (varF 2))) (orT (testF (binF neD (callF h_union (consF (varF 2) (consF (varF 5) (nilF)))) (tupF (consF (tupF (consF (constF (.bl true)) (nilF))) (consF (constF (.int 0)) (consF (tupF (nilF)) (consF (tupF (consF (constF (.bl true)) (nilF))) (nilF)))))))) (testF (binF neD (callF h_meet (consF (varF 2) (consF (varF 5) (nilF)))) (tupF (consF (tupF (consF (constF (.bl false)) (nilF))) (consF (constF (.int 0)) (consF (tupF (nilF)) (consF (tupF (consF (constF (.bl false)) (nilF))) (nilF)))))))))) (retF (ofF (constF (.bl false)))) (nilS))
      (seqS (forS (.nm 7) (rng1 (consF (constF (.int 6)) (nilF))) (seqS (asgF 8 (binF subD (callF h__law_draw (consF (varF 1) (consF (constF (.int 101)) (nilF)))) (constF (.int 50))))
      (seqS (ifS (orT (testF (binF neD (callF h_is_in (consF (varF 2) (consF (varF 8) (nilF)))) (callF h__law_in (consF (varF 2) (consF (varF 8) (nilF)))))) (testF (binF eqD (callF h_is_in (consF (varF 5) (consF (varF 8) (nilF)))) (callF h__law_in (consF (varF 2) (consF (varF 8) (nilF))))))) (retF (ofF (constF (.bl false)))) (nilS))
      (ifS (notT (testF (isiF "bool" (callF h_is_in (consF (varF 5) (consF (varF 8) (nilF))))))) (retF (ofF (constF (.bl false)))) (nilS)))))
      (retF (ofF (andV (binF eqD (varF 5) (callF h__law_written (consF (varF 5) (nilF)))) (andV (binF eqD (callF h_union (consF (varF 2) (consF (varF 2) (nilF)))) (varF 2)) (binF eqD (callF h_meet (consF (varF 2) (consF (varF 2) (nilF)))) (varF 2)))))))))))))))
@[irreducible] noncomputable def h_law : HF := runB g_law 9
theorem ok_law {P : Program} {w : World} {K : PySem.W.Frag} {mg : Str → Option Value} {base : Heap} {f : Addr} {fd : FuncData} (F : Fun K (Str.ofString "law") (Str.ofString "law") s_law f fd) (k__law_pattern : Cal P w K mg base (Str.ofString "_law_pattern") 3 1 h__law_pattern) (k_beside : Cal P w K mg base (Str.ofString "beside") 5 1 h_beside) (k__law_row : Cal P w K mg base (Str.ofString "_law_row") 2 3 h__law_row) (k_union : Cal P w K mg base (Str.ofString "union") 6 2 h_union) (k__law_of : Cal P w K mg base (Str.ofString "_law_of") 3 3 h__law_of) (k_meet : Cal P w K mg base (Str.ofString "meet") 6 2 h_meet) (k__law_draw : Cal P w K mg base (Str.ofString "_law_draw") 1 2 h__law_draw) (k__law_written : Cal P w K mg base (Str.ofString "_law_written") 2 1 h__law_written) (k_is_in : Cal P w K mg base (Str.ofString "is_in") 1 2 h_is_in) (k__law_in : Cal P w K mg base (Str.ofString "_law_in") 1 2 h__law_in) (m_list : mg (Str.ofString "list") = none) (m_range : mg (Str.ofString "range") = none) (m_isinstance : mg (Str.ofString "isinstance") = none) (m_bool : mg (Str.ofString "bool") = none) :
    FnOk P w K mg base CX0 7 f fd [Str.ofString "script"] (Sf K 1 h_law) := by
  unfold h_law
  exact fn_ok (N := n_law) (g := g_law) F sc_law fun cdv A outer s H E hr => xss_cons (xs_obj (ps_set (i := 1) sc_law.nd rfl (by first | exact Or.inl rfl | exact Or.inr rfl) (xl_lst (xa_cons (xe_int) (xa_cons (xe_int) (xa_cons (xe_frz (xl_list (pe_callTy call_list_of (by rfl) m_list (by decide +kernel) (pa_cons (xo_var 0) pa_nil)))) (xa_cons (xe_int) (xa_nil))))))))
      (xss_cons (xs_asg (ps_set (i := 2) sc_law.nd rfl (by first | exact Or.inl rfl | exact Or.inr rfl) (xe_own k__law_pattern (hr.mono (by decide)) (by rfl) (xa_cons (xe_var 1) (xa_nil)) (len_cons (len_nil)))))
      (xss_cons (xs_asg (ps_set (i := 3) sc_law.nd rfl (by first | exact Or.inl rfl | exact Or.inr rfl) (xe_own k__law_pattern (hr.mono (by decide)) (by rfl) (xa_cons (xe_var 1) (xa_nil)) (len_cons (len_nil)))))
      (xss_cons (xs_if (xt_w (xw_or (xt_ne hr (xe_own k_union (hr.mono (by decide)) (by rfl) (xa_cons (xe_var 2) (xa_cons (xe_var 3) (xa_nil))) (len_cons (len_cons (len_nil)))) (xe_own k__law_of (hr.mono (by decide)) (by rfl) (xa_cons (xe_var 2) (xa_cons (xe_var 3) (xa_cons (xe_int) (xa_nil)))) (len_cons (len_cons (len_cons (len_nil)))))) (xw_or1 (xt_ne hr (xe_own k_meet (hr.mono (by decide)) (by rfl) (xa_cons (xe_var 2) (xa_cons (xe_var 3) (xa_nil))) (len_cons (len_cons (len_nil)))) (xe_own k__law_of (hr.mono (by decide)) (by rfl) (xa_cons (xe_var 2) (xa_cons (xe_var 3) (xa_cons (xe_int) (xa_nil)))) (len_cons (len_cons (len_cons (len_nil))))))))) (xss_one (xs_ret (xo_of (xe_bl)))) (xss_nil))
      (xss_cons (xs_asg (ps_set (i := 4) sc_law.nd rfl (by first | exact Or.inl rfl | exact Or.inr rfl) (xe_tup (xa_cons (xe_own k__law_row (hr.mono (by decide)) (by rfl) (xa_cons (xe_var 1) (xa_cons (xe_int) (xa_cons (xe_int) (xa_nil)))) (len_cons (len_cons (len_cons (len_nil))))) (xa_cons (xe_sub (xe_own k__law_draw (hr.mono (by decide)) (by rfl) (xa_cons (xe_var 1) (xa_cons (xe_int) (xa_nil))) (len_cons (len_cons (len_nil)))) (xe_int)) (xa_cons (xe_own k__law_row (hr.mono (by decide)) (by rfl) (xa_cons (xe_var 1) (xa_cons (xe_int) (xa_cons (xe_int) (xa_nil)))) (len_cons (len_cons (len_cons (len_nil))))) (xa_cons (xe_own k__law_row (hr.mono (by decide)) (by rfl) (xa_cons (xe_var 1) (xa_cons (xe_int) (xa_cons (xe_int) (xa_nil)))) (len_cons (len_cons (len_cons (len_nil))))) (xa_nil))))))))
      (xss_cons (xs_if (xt_w (xw_or (xt_ne hr (xe_own k_beside (hr.mono (by decide)) (by rfl) (xa_cons (xe_own k_beside (hr.mono (by decide)) (by rfl) (xa_cons (xe_var 4) (xa_nil)) (len_cons (len_nil))) (xa_nil)) (len_cons (len_nil))) (xe_own k__law_written (hr.mono (by decide)) (by rfl) (xa_cons (xe_var 4) (xa_nil)) (len_cons (len_nil)))) (xw_or (xt_ne hr (xe_own k_union (hr.mono (by decide)) (by rfl) (xa_cons (xe_var 4) (xa_cons (xe_var 4) (xa_nil))) (len_cons (len_cons (len_nil)))) (xe_own k__law_written (hr.mono (by decide)) (by rfl) (xa_cons (xe_var 4) (xa_nil)) (len_cons (len_nil)))) (xw_or1 (xt_ne hr (xe_own k_meet (hr.mono (by decide)) (by rfl) (xa_cons (xe_var 4) (xa_cons (xe_var 4) (xa_nil))) (len_cons (len_cons (len_nil)))) (xe_own k__law_written (hr.mono (by decide)) (by rfl) (xa_cons (xe_var 4) (xa_nil)) (len_cons (len_nil)))))))) (xss_one (xs_ret (xo_of (xe_bl)))) (xss_nil))
      (xss_cons (xs_asg (ps_set (i := 5) sc_law.nd rfl (by first | exact Or.inl rfl | exact Or.inr rfl) (xe_own k_beside (hr.mono (by decide)) (by rfl) (xa_cons (xe_var 2) (xa_nil)) (len_cons (len_nil)))))
      (xss_cons (xs_for (t := (.nm 6)) PassesOwn.never rfl (xi_new (xl_list (pe_callTy call_list_of (by rfl) m_list (by decide +kernel) (pa_cons (xo_of (xe_add (xe_add (xe_ix (xo_var 5) (xe_int)) (xe_ix (xo_var 5) (xe_int))) (xe_ix (xo_var 5) (xe_int)))) pa_nil)))) (pg_name (i := 6) sc_law.nd rfl (by first | exact Or.inl rfl | exact Or.inr rfl)) (xss_one (xs_if (xt_not (xt_val (xe_isi (pe_callB call_isi (by rfl) m_isinstance (by decide +kernel) (pa_cons (xe_var 6) (pa_cons (pe_bltn (v := .ty "bool") (by rfl) m_bool (by decide +kernel) rfl) pa_nil)))))) (xss_one (xs_ret (xo_of (xe_bl)))) (xss_nil))))
      (xss_cons (xs_if (xt_w (xw_or (xt_ne hr (xe_own k_beside (hr.mono (by decide)) (by rfl) (xa_cons (xe_var 5) (xa_nil)) (len_cons (len_nil))) (xe_var 2)) (xw_or (xt_ne hr (xe_own k_union (hr.mono (by decide)) (by rfl) (xa_cons (xe_var 2) (xa_cons (xe_var 5) (xa_nil))) (len_cons (len_cons (len_nil)))) (xe_tup (xa_cons (xe_tup (xa_cons (xe_bl) (xa_nil))) (xa_cons (xe_int) (xa_cons (xe_tup (xa_nil)) (xa_cons (xe_tup (xa_cons (xe_bl) (xa_nil))) (xa_nil))))))) (xw_or1 (xt_ne hr (xe_own k_meet (hr.mono (by decide)) (by rfl) (xa_cons (xe_var 2) (xa_cons (xe_var 5) (xa_nil))) (len_cons (len_cons (len_nil)))) (xe_tup (xa_cons (xe_tup (xa_cons (xe_bl) (xa_nil))) (xa_cons (xe_int) (xa_cons (xe_tup (xa_nil)) (xa_cons (xe_tup (xa_cons (xe_bl) (xa_nil))) (xa_nil))))))))))) (xss_one (xs_ret (xo_of (xe_bl)))) (xss_nil))
      (xss_cons (xs_for (t := (.nm 7)) PassesOwn.never rfl (xi_rng1 (pi_range1 (by rfl) m_range (xa_cons (xe_int) (xa_nil)))) (pg_name (i := 7) sc_law.nd rfl (by first | exact Or.inl rfl | exact Or.inr rfl)) (xss_cons (xs_asg (ps_set (i := 8) sc_law.nd rfl (by first | exact Or.inl rfl | exact Or.inr rfl) (xe_sub (xe_own k__law_draw (hr.mono (by decide)) (by rfl) (xa_cons (xe_var 1) (xa_cons (xe_int) (xa_nil))) (len_cons (len_cons (len_nil)))) (xe_int))))
      (xss_cons (xs_if (xt_w (xw_or (xt_ne hr (xe_own k_is_in (hr.mono (by decide)) (by rfl) (xa_cons (xe_var 2) (xa_cons (xe_var 8) (xa_nil))) (len_cons (len_cons (len_nil)))) (xe_own k__law_in (hr.mono (by decide)) (by rfl) (xa_cons (xe_var 2) (xa_cons (xe_var 8) (xa_nil))) (len_cons (len_cons (len_nil))))) (xw_or1 (xt_eq hr (xe_own k_is_in (hr.mono (by decide)) (by rfl) (xa_cons (xe_var 5) (xa_cons (xe_var 8) (xa_nil))) (len_cons (len_cons (len_nil)))) (xe_own k__law_in (hr.mono (by decide)) (by rfl) (xa_cons (xe_var 2) (xa_cons (xe_var 8) (xa_nil))) (len_cons (len_cons (len_nil)))))))) (xss_one (xs_ret (xo_of (xe_bl)))) (xss_nil))
      (xss_one (xs_if (xt_not (xt_val (xe_isi (pe_callB call_isi (by rfl) m_isinstance (by decide +kernel) (pa_cons (xe_own k_is_in (hr.mono (by decide)) (by rfl) (xa_cons (xe_var 5) (xa_cons (xe_var 8) (xa_nil))) (len_cons (len_cons (len_nil)))) (pa_cons (pe_bltn (v := .ty "bool") (by rfl) m_bool (by decide +kernel) rfl) pa_nil)))))) (xss_one (xs_ret (xo_of (xe_bl)))) (xss_nil))))))
      (xss_one (xs_ret (xo_of (xe_and (xe_eq hr (xe_var 5) (xe_own k__law_written (hr.mono (by decide)) (by rfl) (xa_cons (xe_var 5) (xa_nil)) (len_cons (len_nil)))) (xe_and (xe_eq hr (xe_own k_union (hr.mono (by decide)) (by rfl) (xa_cons (xe_var 2) (xa_cons (xe_var 2) (xa_nil))) (len_cons (len_cons (len_nil)))) (xe_var 2)) (xe_one (xe_eq hr (xe_own k_meet (hr.mono (by decide)) (by rfl) (xa_cons (xe_var 2) (xa_cons (xe_var 2) (xa_nil))) (len_cons (len_cons (len_nil)))) (xe_var 2)))))))))))))))))
end K6
namespace K6
open PySem PyProof.Rows L2 Fx LC PM
local macro_rules | `(tactic| walk_at "wk") => `(tactic| simp only [runB, seqS, nilS, asgF, retF, ifS, ifE, testF, orT, andT, andV, orV, binF, varF, varO, constF, ofF, bindF_some, consF, nilF, callF, augF, appF, ownF, lstF, itU, tupF, tofF, frzF, unpF, parF, brkS, negF, setN, tgD, blF, ixF, lenF, forS, m1F, iiF_int, ctt_eq, eqD_int, neD_int, mulD_int, minD_int, isF_int, isF_non, isF_eO, addD_int, lenD_lst, lenD_eB, seqD_lst,
  List.map_cons, List.map_nil, List.cons_append, List.nil_append, List.length_cons, List.length_nil, List.replicate_succ, List.replicate_zero, List.getElem?_cons_zero, List.getElem?_cons_succ, List.set_cons_zero, List.set_cons_succ, Option.map_some, if_true, Nat.reduceAdd, Nat.reduceSub, Bool.false_eq_true, if_false, *])
/-- the law's number for the kind -/
def kN (u : Bool) : Int := if u then 0 else 1
theorem test_run (u : Bool) {p q : Pat} (okp : p.Ok) (okq : q.Ok) (y : Int) (T : Fx.Tm) : h__law_test [eP p, eP q, .int (kN u), .int y] T = some (.bl (op2 u p.mem q.mem y), T) := by
  have e1 := in_run p okp.l okp.r y T
  have e2 := in_run q okq.l okq.r y T
  unfold h__law_test g__law_test
  clear okp okq
  generalize eP p = P at *
  generalize eP q = Q at *
  cases u with
  | true =>
    have e3 : decide (kN true = 0) = true := by decide
    show _ = some (D.bl (p.mem y || q.mem y), T)
    generalize p.mem y = a at *
    cases a <;> walk_at "wk" <;> rfl
  | false =>
    have e3 : decide (kN false = 0) = false := by decide
    show _ = some (D.bl (p.mem y && q.mem y), T)
    generalize p.mem y = a at *
    cases a <;> walk_at "wk" <;> rfl
theorem rep_run (n : Nat) (hn : n ≤ 1000) (g : FE) (ρ : Rho) (T : Fx.Tm) (h : g ρ T = some (.int (n : Int), T)) : repF (lstF (consF (constF (.bl false)) (nilF))) g ρ T = some ((List.replicate n false).map D.bl, T) := by
  have e : (List.replicate n [D.bl false]).flatten = (List.replicate n false).map D.bl := by
    rw [List.map_replicate]
    clear hn h
    induction n with
    | zero => rfl
    | succ n ih => rw [List.replicate_succ, List.flatten_cons, ih, List.replicate_succ]; rfl
  have l1 : ((0 + 1 : Nat) ≤ PySem.sizeLine) := by rw [line_eq]; omega
  unfold repF
  simp only [lstF, consF, constF, nilF, bindF_some, h, List.length_cons, List.length_nil, l1, if_true, Int.toNat_natCast, e]
  rw [if_pos (show cRep _ _ = true from dc_of ⟨by omega, by omega, by rw [line_eq]; omega⟩)]
/-- a row that is filled number by number -/
def Filled (F : Int → Bool) (n : Nat) (a i : Int) (ds : List D) : Prop := ds.length = n ∧ ∀ y, a ≤ y → y < i → ds[(y % (n : Int)).toNat]? = some (.bl (F y))
theorem filled_go {F : Int → Bool} {n : Nat} (hn : 0 < n) (hp : Per F n) {a i : Int} {ds : List D} (h : Filled F n a i ds) : Filled F n a (i + 1) (ds.set (i % (n : Int)).toNat (.bl (F i))) := by
  obtain ⟨h1, h2⟩ := h
  refine ⟨by rw [List.length_set]; exact h1, fun y a1 a2 => ?_⟩
  have m1 := Int.emod_nonneg i (show (n : Int) ≠ 0 by omega)
  have m2 := Int.emod_lt_of_pos i (show (0 : Int) < n by omega)
  have m3 := Int.emod_nonneg y (show (n : Int) ≠ 0 by omega)
  have m4 := Int.emod_lt_of_pos y (show (0 : Int) < n by omega)
  have red : ∀ w : Int, F w = F (w % (n : Int)) := fun w => by
    have := hp.imul (w / (n : Int)) (w % (n : Int))
    rw [← this]
    congr 1
    have := Int.emod_add_mul_ediv w (n : Int)
    rw [Int.mul_comm (w / (n : Int))]
    omega
  by_cases c : (i % (n : Int)).toNat = (y % (n : Int)).toNat
  · have c' : i % (n : Int) = y % (n : Int) := by omega
    rw [← c, List.getElem?_set_self (by omega), red i, c', ← red y]
  · rw [List.getElem?_set_ne c]
    by_cases d : y = i
    · subst d; exact absurd rfl c
    · exact h2 y a1 (by omega)
theorem filled_all {F : Int → Bool} {n : Nat} (hn : 0 < n) (hp : Per F n) {a : Int} {ds : List D} (h : Filled F n a (a + n) ds) : ds = (win F 0 n).map D.bl := by
  obtain ⟨h1, h2⟩ := h
  apply List.ext_getElem?
  intro k
  by_cases hk : k < n
  · rw [List.getElem?_map, win_get hk]
    have m1 := Int.emod_nonneg ((k : Int) - a) (show (n : Int) ≠ 0 by omega)
    have m2 := Int.emod_lt_of_pos ((k : Int) - a) (show (0 : Int) < n by omega)
    have key := h2 (a + ((k : Int) - a) % (n : Int)) (by omega) (by omega)
    have e : (a + ((k : Int) - a) % (n : Int)) % (n : Int) = (k : Int) := by
      rw [Int.add_emod_emod, show a + ((k : Int) - a) = (k : Int) by omega, Int.emod_eq_of_lt (by omega) (by omega)]
    rw [e, Int.toNat_natCast] at key
    rw [key]
    have red := hp.imul (((k : Int) - a) / (n : Int)) (a + ((k : Int) - a) % (n : Int))
    show some (D.bl (F (a + ((k : Int) - a) % (n : Int)))) = some (D.bl (F (0 + (k : Int))))
    rw [← red]
    congr 3
    have := Int.emod_add_mul_ediv ((k : Int) - a) (n : Int)
    rw [Int.mul_comm (((k : Int) - a) / (n : Int))]
    omega
  · rw [List.getElem?_eq_none (by omega), List.getElem?_eq_none (by rw [List.length_map, win_len]; omega)]
theorem filled_start (F : Int → Bool) (n : Nat) (a : Int) : Filled F n a a ((List.replicate n false).map D.bl) := ⟨by rw [List.length_map, List.length_replicate], fun y h1 h2 => by omega⟩
noncomputable def lB (k v : Nat) : FS := setF k (binF modD (blF intD (consF (varF 7) (nilF))) (varF v)) (callF h__law_test (consF (varF 0) (consF (varF 1) (consF (varF 2) (consF (varF 7) (nilF))))))
theorem lB6 (u : Bool) {p q : Pat} (okp : p.Ok) (okq : q.Ok) {n : Nat} (hn : 0 < n) {ds : List D} (hd : ds.length = n) (y : Int) (x3 x4 x8 x9 x10 : Sl) (T : Fx.Tm) :
    lB 6 5 [.dat (eP p), .dat (eP q), .dat (.int (kN u)), x3, x4, .dat (.int (n : Int)), .own ds, .dat (.int y), x8, x9, x10] T = some (.nx [.dat (eP p), .dat (eP q), .dat (.int (kN u)), x3, x4, .dat (.int (n : Int)), .own (ds.set (y % (n : Int)).toNat (.bl (op2 u p.mem q.mem y))), .dat (.int y), x8, x9, x10], T) := by
  have e1 := test_run u okp okq y T
  have m1 : cMod y (n : Int) = true := cMod_nat hn
  have m2 := fmod_nat y n
  have m3 := Int.emod_nonneg y (show (n : Int) ≠ 0 by omega)
  have m4 := Int.emod_lt_of_pos y (show (0 : Int) < n by omega)
  have ix : L2.ixN ds.length (y % (n : Int)) = some (y % (n : Int)).toNat := by
    unfold L2.ixN
    rw [if_pos (by omega), if_pos (by omega)]
  unfold lB
  clear okp okq hn hd m3 m4
  generalize eP p = P at *
  generalize eP q = Q at *
  have e3 : Fx.intD [.int y] = some (.int y) := rfl
  unfold setF
  walk_at "wk"
theorem lB9 (u : Bool) {p q : Pat} (okp : p.Ok) (okq : q.Ok) {n : Nat} (hn : 0 < n) {ds : List D} (hd : ds.length = n) (y : Int) (x3 x4 x5 x6 x10 : Sl) (T : Fx.Tm) :
    lB 9 8 [.dat (eP p), .dat (eP q), .dat (.int (kN u)), x3, x4, x5, x6, .dat (.int y), .dat (.int (n : Int)), .own ds, x10] T = some (.nx [.dat (eP p), .dat (eP q), .dat (.int (kN u)), x3, x4, x5, x6, .dat (.int y), .dat (.int (n : Int)), .own (ds.set (y % (n : Int)).toNat (.bl (op2 u p.mem q.mem y))), x10], T) := by
  have e1 := test_run u okp okq y T
  have m1 : cMod y (n : Int) = true := cMod_nat hn
  have m2 := fmod_nat y n
  have m3 := Int.emod_nonneg y (show (n : Int) ≠ 0 by omega)
  have m4 := Int.emod_lt_of_pos y (show (0 : Int) < n by omega)
  have ix : L2.ixN ds.length (y % (n : Int)) = some (y % (n : Int)).toNat := by
    unfold L2.ixN
    rw [if_pos (by omega), if_pos (by omega)]
  unfold lB
  clear okp okq hn hd m3 m4
  generalize eP p = P at *
  generalize eP q = Q at *
  have e3 : Fx.intD [.int y] = some (.int y) := rfl
  unfold setF
  walk_at "wk"
end K6
namespace K6
open PySem PyProof.Rows L2 Fx LC PM
local macro_rules | `(tactic| walk_at "wk") => `(tactic| simp only [runB, seqS, nilS, asgF, retF, ifS, ifE, testF, orT, andT, andV, orV, binF, varF, varO, constF, ofF, bindF_some, consF, nilF, callF, augF, appF, ownF, lstF, itU, tupF, tofF, frzF, unpF, parF, brkS, negF, setN, tgD, blF, ixF, lenF, forS, m1F, rng2, iiF_int, ctt_eq, eqD_int, neD_int, mulD_int, minD_int, isF_int, isF_non, isF_eO, addD_int, lenD_lst, lenD_eB, seqD_lst,
  List.map_cons, List.map_nil, List.cons_append, List.nil_append, List.length_cons, List.length_nil, List.replicate_succ, List.replicate_zero, List.getElem?_cons_zero, List.getElem?_cons_succ, List.set_cons_zero, List.set_cons_succ, Option.map_some, if_true, Nat.reduceAdd, Nat.reduceSub, Bool.false_eq_true, if_false, Bool.and_self, *])
theorem op2_per (u : Bool) (l m : List Bool) : Per (op2 u (at_ l) (at_ m)) ((l.length * m.length : Nat) : Int) := by
  have p1 : Per (at_ l) ((l.length * m.length : Nat) : Int) := by
    rw [Int.natCast_mul, Int.mul_comm]
    exact at_per.times _
  have p2 : Per (at_ m) ((l.length * m.length : Nat) : Int) := by
    rw [Int.natCast_mul]
    exact at_per.times _
  intro y
  unfold op2
  rw [p1 y, p2 y]
theorem op2_l {u : Bool} {p q : Pat} {y : Int} (h1 : y < p.s) (h2 : y < q.s) : op2 u p.mem q.mem y = op2 u (at_ p.l) (at_ q.l) y := by
  unfold op2
  rw [Pat.mem_l h1, Pat.mem_l h2]
theorem op2_r {u : Bool} {p q : Pat} {y : Int} (h1 : p.s + (p.m.length : Int) ≤ y) (h2 : q.s + (q.m.length : Int) ≤ y) : op2 u p.mem q.mem y = op2 u (at_ p.r) (at_ q.r) y := by
  unfold op2
  rw [Pat.mem_r h1, Pat.mem_r h2]
theorem loop6 (u : Bool) {p q : Pat} (okp : p.Ok) (okq : q.Ok) {n : Nat} (hn : n = p.l.length * q.l.length) (s : Int) (h1 : s ≤ p.s) (h2 : s ≤ q.s) (x3 x4 x8 x9 x10 : Sl) (T : Fx.Tm) :
    ∃ z7, forL (.nm 7) (lB 6 5) (rngL (s - (n : Int)) s) [.dat (eP p), .dat (eP q), .dat (.int (kN u)), x3, x4, .dat (.int (n : Int)), .own ((List.replicate n false).map D.bl), .un, x8, x9, x10] T
      = some (.nx [.dat (eP p), .dat (eP q), .dat (.int (kN u)), x3, x4, .dat (.int (n : Int)), .own ((win (op2 u (at_ p.l) (at_ q.l)) 0 n).map D.bl), z7, x8, x9, x10], T) := by
  have hp : 0 < n := by rw [hn]; exact Nat.mul_pos (pos_len okp.l) (pos_len okq.l)
  have per : Per (op2 u (at_ p.l) (at_ q.l)) (n : Int) := by rw [hn]; exact op2_per u p.l q.l
  obtain ⟨ρ', T', ⟨rfl, ds, z7, rfl, hf⟩, e⟩ := forL_rngI (t := .nm 7) (body := lB 6 5) (j := s) (inv := fun k ρ T' => T' = T ∧ ∃ ds z7, ρ = [.dat (eP p), .dat (eP q), .dat (.int (kN u)), x3, x4, .dat (.int (n : Int)), .own ds, z7, x8, x9, x10] ∧ Filled (op2 u (at_ p.l) (at_ q.l)) n (s - (n : Int)) k ds) (s - (s - (n : Int))).toNat (s - (n : Int)) rfl (fun k ρ T' g1 g2 h => by
    obtain ⟨rfl, ds, z7, rfl, hf⟩ := h
    refine ⟨_, _, T', rfl, lB6 u okp okq hp hf.1 k x3 x4 x8 x9 x10 T', rfl, _, _, rfl, ?_⟩
    rw [op2_l (by omega) (by omega)]
    exact filled_go hp per hf) [.dat (eP p), .dat (eP q), .dat (.int (kN u)), x3, x4, .dat (.int (n : Int)), .own ((List.replicate n false).map D.bl), .un, x8, x9, x10] T ⟨rfl, _, _, rfl, filled_start _ _ _⟩
  rw [if_pos (by omega)] at hf
  refine ⟨z7, ?_⟩
  have hd := filled_all hp per (a := s - (n : Int)) (ds := ds) (by rw [show s - (n : Int) + (n : Int) = s by omega]; exact hf)
  rw [e, hd]
theorem loop9 (u : Bool) {p q : Pat} (okp : p.Ok) (okq : q.Ok) {n : Nat} (hn : n = p.r.length * q.r.length) (s : Int) (h1 : p.s + (p.m.length : Int) ≤ s) (h2 : q.s + (q.m.length : Int) ≤ s) (x3 x4 x5 x6 x7 x10 : Sl) (T : Fx.Tm) :
    ∃ z7, forL (.nm 7) (lB 9 8) (rngL s (s + (n : Int))) [.dat (eP p), .dat (eP q), .dat (.int (kN u)), x3, x4, x5, x6, x7, .dat (.int (n : Int)), .own ((List.replicate n false).map D.bl), x10] T
      = some (.nx [.dat (eP p), .dat (eP q), .dat (.int (kN u)), x3, x4, x5, x6, z7, .dat (.int (n : Int)), .own ((win (op2 u (at_ p.r) (at_ q.r)) 0 n).map D.bl), x10], T) := by
  have hp : 0 < n := by rw [hn]; exact Nat.mul_pos (pos_len okp.r) (pos_len okq.r)
  have per : Per (op2 u (at_ p.r) (at_ q.r)) (n : Int) := by rw [hn]; exact op2_per u p.r q.r
  obtain ⟨ρ', T', ⟨rfl, ds, z7, rfl, hf⟩, e⟩ := forL_rngI (t := .nm 7) (body := lB 9 8) (j := s + (n : Int)) (inv := fun k ρ T' => T' = T ∧ ∃ ds z7, ρ = [.dat (eP p), .dat (eP q), .dat (.int (kN u)), x3, x4, x5, x6, z7, .dat (.int (n : Int)), .own ds, x10] ∧ Filled (op2 u (at_ p.r) (at_ q.r)) n s k ds) (s + (n : Int) - s).toNat s rfl (fun k ρ T' g1 g2 h => by
    obtain ⟨rfl, ds, z7, rfl, hf⟩ := h
    refine ⟨_, _, T', rfl, lB9 u okp okq hp hf.1 k x3 x4 x5 x6 x10 T', rfl, _, _, rfl, ?_⟩
    rw [op2_r (by omega) (by omega)]
    exact filled_go hp per hf) [.dat (eP p), .dat (eP q), .dat (.int (kN u)), x3, x4, x5, x6, x7, .dat (.int (n : Int)), .own ((List.replicate n false).map D.bl), x10] T ⟨rfl, _, _, rfl, filled_start _ _ _⟩
  rw [if_pos (by omega)] at hf
  refine ⟨z7, ?_⟩
  have hd := filled_all hp per (a := s) (ds := ds) hf
  rw [e, hd]
theorem comp10 (u : Bool) {p q : Pat} (okp : p.Ok) (okq : q.Ok) (s e : Int) (h1 : -100000 ≤ s) (h2 : e ≤ 100000) (h3 : s ≤ e) (x5 x6 x7 x8 x9 x10 : Sl) (T : Fx.Tm) :
    compF (.nm 7) (rng2 (consF (varF 3) (consF (varF 4) (nilF)))) (yesT) (callF h__law_test (consF (varF 0) (consF (varF 1) (consF (varF 2) (consF (varF 7) (nilF)))))) [7] [.dat (eP p), .dat (eP q), .dat (.int (kN u)), .dat (.int s), .dat (.int e), x5, x6, x7, x8, x9, x10] T
      = some ((win (op2 u p.mem q.mem) s (e - s).toNat).map D.bl, T) := by
  refine comp_pure (ds := rngL s e) (p := fun _ => true) (g := fun d => match d with | .int y => .bl (op2 u p.mem q.mem y) | _ => .non) rfl ?_ (by rw [rngL_len]; omega) (fun d hd => ?_) ?_
  · have e1 : in62 s = true := in62_of (by omega) (by omega)
    have e2 : in62 e = true := in62_of (by omega) (by omega)
    unfold rng2
    simp only [consF, varF, nilF, bindF_some, List.getElem?_cons_zero, List.getElem?_cons_succ, e1, e2, Bool.and_self, if_true]
  · obtain ⟨y, rfl, y1, y2⟩ := rngL_mem hd
    refine ⟨[.dat (eP p), .dat (eP q), .dat (.int (kN u)), .dat (.int s), .dat (.int e), x5, x6, .dat (.int y), x8, x9, x10], rfl, rfl, fun _ => ?_⟩
    have m2 := test_run u okp okq y T
    clear y1 y2 hd h1 h2 h3
    generalize eP p = P at *
    generalize eP q = Q at *
    walk_at "wk"
  · rw [List.filter_eq_self.mpr (fun _ _ => rfl)]
    unfold win rngL
    rw [List.map_map, List.map_map]
    rfl
structure Sm (p : Pat) (N : Int) : Prop where
  l : p.l.length ≤ 6
  r : p.r.length ≤ 6
  m : p.m.length ≤ 6
  a : -N ≤ p.s
  b : p.s ≤ N
/-- the pattern that the law writes -/
def ofP (u : Bool) (p q : Pat) (s e : Int) : Pat := ⟨win (op2 u (at_ p.l) (at_ q.l)) 0 (p.l.length * q.l.length), s, win (op2 u p.mem q.mem) s (e - s).toNat, win (op2 u (at_ p.r) (at_ q.r)) 0 (p.r.length * q.r.length)⟩
theorem win_per {F : Int → Bool} {n : Nat} (hn : 0 < n) (h : Per F n) (y : Int) : at_ (win F 0 n) y = F y := by
  have := at_map (g := F) hn h y
  rw [← this]
  unfold win
  simp only [Int.zero_add]
theorem ofP_mem (u : Bool) {p q : Pat} (okp : p.Ok) (okq : q.Ok) {s e : Int} (h0 : s ≤ e) (h1 : s ≤ p.s) (h2 : s ≤ q.s) (h3 : p.s + (p.m.length : Int) ≤ e) (h4 : q.s + (q.m.length : Int) ≤ e) : (ofP u p q s e).mem = op2 u p.mem q.mem := by
  funext y
  have hw : (win (op2 u p.mem q.mem) s (e - s).toNat).length = (e - s).toNat := win_len _ _ _
  by_cases c1 : y < s
  · rw [Pat.mem_l (show y < (ofP u p q s e).s from c1)]
    show at_ (win (op2 u (at_ p.l) (at_ q.l)) 0 (p.l.length * q.l.length)) y = _
    rw [win_per (Nat.mul_pos (pos_len okp.l) (pos_len okq.l)) (op2_per u p.l q.l), op2_l (by omega) (by omega)]
  · by_cases c2 : y < e
    · rw [Pat.mem_m (show s ≤ y by omega) (show y < s + ((win (op2 u p.mem q.mem) s (e - s).toNat).length : Int) by rw [hw]; omega)]
      show (win (op2 u p.mem q.mem) s (e - s).toNat).getD (y - s).toNat false = _
      rw [List.getD_eq_getElem?_getD, win_get (by omega)]
      show op2 u p.mem q.mem (s + _) = _
      rw [show s + (((y - s).toNat : Nat) : Int) = y by omega]
    · rw [Pat.mem_r (show s + ((win (op2 u p.mem q.mem) s (e - s).toNat).length : Int) ≤ y by rw [hw]; omega)]
      show at_ (win (op2 u (at_ p.r) (at_ q.r)) 0 (p.r.length * q.r.length)) y = _
      rw [win_per (Nat.mul_pos (pos_len okp.r) (pos_len okq.r)) (op2_per u p.r q.r), op2_r (by omega) (by omega)]
theorem of_eq : g__law_of = seqS (asgF 3 (blF minD (consF (ixF (varO 0) (constF (.int 1))) (consF (ixF (varO 1) (constF (.int 1))) (nilF)))))
      (seqS (asgF 4 (blF maxD (consF (binF addD (ixF (varO 0) (constF (.int 1))) (lenF (ofF (ixF (varO 0) (constF (.int 2)))))) (consF (binF addD (ixF (varO 1) (constF (.int 1))) (lenF (ofF (ixF (varO 1) (constF (.int 2)))))) (nilF)))))
      (seqS (asgF 5 (binF mulD (lenF (ofF (ixF (varO 0) (constF (.int 0))))) (lenF (ofF (ixF (varO 1) (constF (.int 0)))))))
      (seqS (ownF 6 (repF (lstF (consF (constF (.bl false)) (nilF))) (varF 5)))
      (seqS (forS (.nm 7) (rng2 (consF (binF subD (varF 3) (varF 5)) (consF (varF 3) (nilF)))) (lB 6 5))
      (seqS (asgF 8 (binF mulD (lenF (ofF (ixF (varO 0) (constF (.int 3))))) (lenF (ofF (ixF (varO 1) (constF (.int 3)))))))
      (seqS (ownF 9 (repF (lstF (consF (constF (.bl false)) (nilF))) (varF 8)))
      (seqS (forS (.nm 7) (rng2 (consF (varF 4) (consF (binF addD (varF 4) (varF 8)) (nilF)))) (lB 9 8))
      (seqS (asgF 10 (tofF (ofF (frzF (compF (.nm 7) (rng2 (consF (varF 3) (consF (varF 4) (nilF)))) (yesT) (callF h__law_test (consF (varF 0) (consF (varF 1) (consF (varF 2) (consF (varF 7) (nilF)))))) [7])))))
      (retF (ofF (callF h__law_written (consF (tupF (consF (tofF (varO 6)) (consF (varF 3) (consF (varF 10) (consF (tofF (varO 9)) (nilF)))))) (nilF))))))))))))) := rfl
theorem of_run (u : Bool) {p q : Pat} (okp : p.Ok) (okq : q.Ok) (sp : Sm p 100) (sq : Sm q 100) (T : Fx.Tm) :
    ∃ r : Pat, Canon r ∧ r.mem = op2 u p.mem q.mem ∧ h__law_of [eP p, eP q, .int (kN u)] T = some (eP r, T) := by
  obtain ⟨p1, p2, p3, p4, p5⟩ := sp
  obtain ⟨q1, q2, q3, q4, q5⟩ := sq
  obtain ⟨s, hs⟩ : ∃ s, (if q.s < p.s then q.s else p.s) = s := ⟨_, rfl⟩
  obtain ⟨e, he⟩ : ∃ e, (if q.s + (q.m.length : Int) > p.s + (p.m.length : Int) then q.s + (q.m.length : Int) else p.s + (p.m.length : Int)) = e := ⟨_, rfl⟩
  have b1 : s ≤ p.s := by rw [← hs]; split <;> omega
  have b2 : s ≤ q.s := by rw [← hs]; split <;> omega
  have b3 : p.s + (p.m.length : Int) ≤ e := by rw [← he]; split <;> omega
  have b4 : q.s + (q.m.length : Int) ≤ e := by rw [← he]; split <;> omega
  have b5 : -100 ≤ s := by rw [← hs]; split <;> omega
  have b6 : e ≤ 106 := by rw [← he]; split <;> omega
  have n1 : p.l.length * q.l.length ≤ 36 := Nat.le_trans (Nat.mul_le_mul p1 q1) (by omega)
  have n2 : p.r.length * q.r.length ≤ 36 := Nat.le_trans (Nat.mul_le_mul p2 q2) (by omega)
  have n3 := Nat.mul_pos (pos_len okp.l) (pos_len okq.l)
  have n4 := Nat.mul_pos (pos_len okp.r) (pos_len okq.r)
  have a1 : cMul (p.l.length : Int) (q.l.length : Int) = true := cm_l (by omega)
  have a2 : cMul (p.r.length : Int) (q.r.length : Int) = true := cm_l (by omega)
  have a3 : (p.l.length : Int) * (q.l.length : Int) = ((p.l.length * q.l.length : Nat) : Int) := (Int.natCast_mul _ _).symm
  have a4 : (p.r.length : Int) * (q.r.length : Int) = ((p.r.length * q.r.length : Nat) : Int) := (Int.natCast_mul _ _).symm
  have m := ofP_mem u okp okq (s := s) (e := e) (by omega) b1 b2 b3 b4
  have wl := win_len (op2 u (at_ p.l) (at_ q.l)) 0 (p.l.length * q.l.length)
  have wr := win_len (op2 u (at_ p.r) (at_ q.r)) 0 (p.r.length * q.r.length)
  have wm := win_len (op2 u p.mem q.mem) s (e - s).toNat
  have ok : (ofP u p q s e).Ok := ⟨by
    intro z
    change win (op2 u (at_ p.l) (at_ q.l)) 0 (p.l.length * q.l.length) = [] at z
    rw [z] at wl; simp only [List.length_nil] at wl; omega, by
    intro z
    change win (op2 u (at_ p.r) (at_ q.r)) 0 (p.r.length * q.r.length) = [] at z
    rw [z] at wr; simp only [List.length_nil] at wr; omega⟩
  have sz : PSz (ofP u p q s e) 1000 := ⟨by show (win _ _ _).length ≤ _; omega, by show (win _ _ _).length ≤ _; omega, by show (win _ _ _).length ≤ _; omega, by show _ ≤ s; omega, by show s ≤ _; omega⟩
  obtain ⟨r, r1, r2, _, r3⟩ := written_run (ofP u p q s e) ok sz (by omega) T
  obtain ⟨z7, e6⟩ := loop6 u okp okq (n := p.l.length * q.l.length) rfl s b1 b2 (.dat (.int s)) (.dat (.int e)) .un .un .un T
  obtain ⟨z7', e9⟩ := loop9 u okp okq (n := p.r.length * q.r.length) rfl e b3 b4 (.dat (.int s)) (.dat (.int e)) (.dat (.int ((p.l.length * q.l.length : Nat) : Int))) (.own ((win (op2 u (at_ p.l) (at_ q.l)) 0 (p.l.length * q.l.length)).map D.bl)) z7 .un T
  have e10 := comp10 u okp okq s e (by omega) (by omega) (by omega) (.dat (.int ((p.l.length * q.l.length : Nat) : Int))) (.own ((win (op2 u (at_ p.l) (at_ q.l)) 0 (p.l.length * q.l.length)).map D.bl)) z7' (.dat (.int ((p.r.length * q.r.length : Nat) : Int))) (.own ((win (op2 u (at_ p.r) (at_ q.r)) 0 (p.r.length * q.r.length)).map D.bl)) .un T
  have g1 := rep_run (p.l.length * q.l.length) (by omega) (varF 5) [.dat (eP p), .dat (eP q), .dat (.int (kN u)), .dat (.int s), .dat (.int e), .dat (.int ((p.l.length * q.l.length : Nat) : Int)), .un, .un, .un, .un, .un] T rfl
  have g2 := rep_run (p.r.length * q.r.length) (by omega) (varF 8) [.dat (eP p), .dat (eP q), .dat (.int (kN u)), .dat (.int s), .dat (.int e), .dat (.int ((p.l.length * q.l.length : Nat) : Int)), .own ((win (op2 u (at_ p.l) (at_ q.l)) 0 (p.l.length * q.l.length)).map D.bl), z7, .dat (.int ((p.r.length * q.r.length : Nat) : Int)), .un, .un] T rfl
  refine ⟨r, r1, r2.trans m, ?_⟩
  have fin : h__law_written [.tup [.tup ((win (op2 u (at_ p.l) (at_ q.l)) 0 (p.l.length * q.l.length)).map D.bl), .int s, .tup ((win (op2 u p.mem q.mem) s (e - s).toNat).map D.bl), .tup ((win (op2 u (at_ p.r) (at_ q.r)) 0 (p.r.length * q.r.length)).map D.bl)]] T = some (eP r, T) := r3
  have i0 := eP_0 T p
  have i1 := eP_1 T p
  have i2 := eP_2 T p
  have i3 := eP_3 T p
  have j0 := eP_0 T q
  have j1 := eP_1 T q
  have j2 := eP_2 T q
  have j3 := eP_3 T q
  have l4 := len4
  have k1 : in62 (s - ((p.l.length * q.l.length : Nat) : Int)) = true := in62_of (by omega) (by omega)
  have k2 : in62 s = true := in62_of (by omega) (by omega)
  have k3 : in62 e = true := in62_of (by omega) (by omega)
  have k4 : in62 (e + ((p.r.length * q.r.length : Nat) : Int)) = true := in62_of (by omega) (by omega)
  have q7 : ∀ i ds T, seqD T (.own i ds) = some (false, ds) := fun _ _ _ => rfl
  have mx : ∀ i j : Int, maxD [.int i, .int j] = some (.int (if j > i then j else i)) := fun _ _ => rfl
  unfold h__law_of
  rw [of_eq]
  generalize eP r = R at *
  generalize (win (op2 u (at_ p.l) (at_ q.l)) 0 (p.l.length * q.l.length)).map D.bl = W1 at *
  generalize (win (op2 u (at_ p.r) (at_ q.r)) 0 (p.r.length * q.r.length)).map D.bl = W2 at *
  generalize (win (op2 u p.mem q.mem) s (e - s).toNat).map D.bl = W3 at *
  generalize eP p = P at *
  generalize eP q = Q at *
  clear r1 r2 r3 m ok sz wl wr wm b1 b2 b3 b4 b5 b6 n1 n2 n3 n4 p1 p2 p3 p4 p5 q1 q2 q3 q4 q5 okp okq
  walk_at "wk"
end K6
namespace K6
open PySem PyProof.Rows L2 Fx LC PM
noncomputable def isB : FS := ifS (notT (testF (isiF "bool" (varF 6)))) (retF (ofF (constF (.bl false)))) (nilS)
noncomputable def inB : FS := seqS (asgF 8 (binF subD (callF h__law_draw (consF (varF 1) (consF (constF (.int 101)) (nilF)))) (constF (.int 50))))
      (seqS (ifS (orT (testF (binF neD (callF h_is_in (consF (varF 2) (consF (varF 8) (nilF)))) (callF h__law_in (consF (varF 2) (consF (varF 8) (nilF)))))) (testF (binF eqD (callF h_is_in (consF (varF 5) (consF (varF 8) (nilF)))) (callF h__law_in (consF (varF 2) (consF (varF 8) (nilF))))))) (retF (ofF (constF (.bl false)))) (nilS))
      (ifS (notT (testF (isiF "bool" (callF h_is_in (consF (varF 5) (consF (varF 8) (nilF))))))) (retF (ofF (constF (.bl false)))) (nilS)))
theorem law_eq : g_law = seqS (objF 1 (lstF (consF (constF (.int 0)) (consF (constF (.int 0)) (consF (frzF (lofF (varO 0))) (consF (constF (.int 1)) (nilF)))))))
      (seqS (asgF 2 (callF h__law_pattern (consF (varF 1) (nilF))))
      (seqS (asgF 3 (callF h__law_pattern (consF (varF 1) (nilF))))
      (seqS (ifS (orT (testF (binF neD (callF h_union (consF (varF 2) (consF (varF 3) (nilF)))) (callF h__law_of (consF (varF 2) (consF (varF 3) (consF (constF (.int 0)) (nilF))))))) (testF (binF neD (callF h_meet (consF (varF 2) (consF (varF 3) (nilF)))) (callF h__law_of (consF (varF 2) (consF (varF 3) (consF (constF (.int 1)) (nilF)))))))) (retF (ofF (constF (.bl false)))) (nilS))
      (seqS (asgF 4 (rawF 1))
      (seqS (ifS (orT (testF (binF neD (callF h_beside (consF (callF h_beside (consF (varF 4) (nilF))) (nilF))) (callF h__law_written (consF (varF 4) (nilF))))) (orT (testF (binF neD (callF h_union (consF (varF 4) (consF (varF 4) (nilF)))) (callF h__law_written (consF (varF 4) (nilF))))) (testF (binF neD (callF h_meet (consF (varF 4) (consF (varF 4) (nilF)))) (callF h__law_written (consF (varF 4) (nilF))))))) (retF (ofF (constF (.bl false)))) (nilS))
      (seqS (asgF 5 (callF h_beside (consF (varF 2) (nilF))))
      (seqS (forS (.nm 6) (lofF (ofF (binF addD (binF addD (ixF (varO 5) (constF (.int 0))) (ixF (varO 5) (constF (.int 2)))) (ixF (varO 5) (constF (.int 3)))))) isB)
      (seqS (ifS (orT (testF (binF neD (callF h_beside (consF (varF 5) (nilF))) (varF 2))) (orT (testF (binF neD (callF h_union (consF (varF 2) (consF (varF 5) (nilF)))) (tupF (consF (tupF (consF (constF (.bl true)) (nilF))) (consF (constF (.int 0)) (consF (tupF (nilF)) (consF (tupF (consF (constF (.bl true)) (nilF))) (nilF)))))))) (testF (binF neD (callF h_meet (consF (varF 2) (consF (varF 5) (nilF)))) (tupF (consF (tupF (consF (constF (.bl false)) (nilF))) (consF (constF (.int 0)) (consF (tupF (nilF)) (consF (tupF (consF (constF (.bl false)) (nilF))) (nilF)))))))))) (retF (ofF (constF (.bl false)))) (nilS))
      (seqS (forS (.nm 7) (rng1 (consF (constF (.int 6)) (nilF))) inB)
      (retF (ofF (andV (binF eqD (varF 5) (callF h__law_written (consF (varF 5) (nilF)))) (andV (binF eqD (callF h_union (consF (varF 2) (consF (varF 2) (nilF)))) (varF 2)) (binF eqD (callF h_meet (consF (varF 2) (consF (varF 2) (nilF)))) (varF 2))))))))))))))) := rfl
local macro_rules | `(tactic| walk_at "wk") => `(tactic| simp only [runB, seqS, nilS, asgF, retF, ifS, ifE, testF, notT, orT, andT, andV, binF, varF, varO, constF, ofF, bindF_some, consF, nilF, callF, lstF, lofF, objF, itU, tupF, tofF, frzF, unpF, setN, tgD, blF, ixF, lenF, forS, rng1, rng2, iiF_int, ctt_eq, mulD_int, addD_int, lenD_lst, lenD_eB, LC.seqD_lst, ixD_lst,
  List.map_cons, List.map_nil, List.cons_append, List.nil_append, List.length_cons, List.length_nil, List.replicate_succ, List.replicate_zero, List.getElem?_cons_zero, List.getElem?_cons_succ, List.set_cons_zero, List.set_cons_succ, Option.map_some, if_true, Nat.reduceAdd, Nat.reduceSub, Bool.false_eq_true, if_false, Bool.and_self, Bool.not_true, Bool.not_false, *])
def pP (p : Pat) : PySem.PyData := .tuple [pB p.l, .int p.s, pB p.m, pB p.r]
theorem toPy_eP (p : Pat) : toPy (eP p) = some (pP p) := by
  unfold eP pP
  simp [toPy, toPyL, toPy_eB]
theorem shaped_pP (p : Pat) : PySem.SeqAt.shaped (pP p) = true := by
  unfold PySem.SeqAt.shaped pP pB
  simp [PySem.PyData.canLay0, PySem.PyData.canLayAll0, lay_bl, PySem.PyData.depth, PySem.PyData.depthAll, dep_bl]
theorem eqv_self (p : Pat) : PySem.PyData.eqv (pP p) (pP p) = true := by
  unfold pP
  simp [PySem.PyData.eqv, PySem.PyData.eqvAll, eqv_pB]
theorem eqD_self (p : Pat) : eqD (eP p) (eP p) = some (.bl true) := by
  unfold eqD eqB
  rw [toPy_eP]
  simp only [shaped_pP, Bool.and_self, if_true, eqv_self, Option.map_some]
theorem neD_self (p : Pat) : neD (eP p) (eP p) = some (.bl false) := by
  unfold neD eqB
  rw [toPy_eP]
  simp only [shaped_pP, Bool.and_self, if_true, eqv_self, Option.map_some]
  rfl
theorem eqB_bl (a b : Bool) : eqB (.bl a) (.bl b) = some (decide (a = b)) := by cases a <;> cases b <;> rfl
theorem eqD_nbl (a : Bool) : eqD (.bl !a) (.bl a) = some (.bl false) := by
  unfold eqD
  rw [eqB_bl]
  cases a <;> rfl
theorem kit_bb : L2.kitB "bool" "bool" = some true := by decide +kernel
/-! ### sizes -/
theorem wr_sm {f : Int → Bool} {q : Pat} {n m : Nat} {h0 hi N : Int} (w : Wr f q n m h0 hi) (h1 : n ≤ 6) (h2 : m ≤ 6) (h3 : hi - h0 ≤ 6) (h4 : -N ≤ h0) (h5 : hi ≤ N) (h6 : 0 ≤ N) : Sm q (N + 12) := by
  refine ⟨by have := w.l; omega, by have := w.r; omega, ?_, ?_, ?_⟩
  · rcases w.mm with e | e
    · rw [e]; simp
    · rcases w.s with ⟨_, e2⟩ | ⟨_, e2⟩
      · rw [e2]; simp
      · omega
  · rcases w.s with ⟨e, _⟩ | ⟨e, _⟩ <;> omega
  · rcases w.s with ⟨e, _⟩ | ⟨_, e⟩ <;> omega
theorem Sm.up {p : Pat} {N M : Int} (h : Sm p N) (hM : N ≤ M) : Sm p M := ⟨h.l, h.r, h.m, by have := h.a; omega, by have := h.b; omega⟩
theorem raw_sm {p : Pat} (h : Raw p) : Sm p 10 := ⟨h.l, h.r, h.m, h.s, h.s'⟩
theorem pat_sm {p q : Pat} (h : Raw q) (c : Canon p) (m : p.mem = q.mem) : Sm p 30 := by
  obtain ⟨h1, h2, h3, h4, h5, h6⟩ := h
  obtain ⟨_, r, _, _, w⟩ := wr_run h1 (by omega) (by omega) (by omega) []
  have e : r = p := w.c.uniq c (w.mem.trans m.symm)
  subst e
  exact (wr_sm (N := 16) w h2 h3 (by omega) (by omega) (by omega) (by omega)).up (by omega)
theorem beside_sm {p : Pat} (ok : p.Ok) {N : Int} (sm : Sm p N) (hN : 0 ≤ N) (T : Fx.Tm) : ∃ q : Pat, Canon q ∧ q.mem = (fun y => !p.mem y) ∧ Sm q (N + 18) ∧ h_beside [eP p] T = some (eP q, T) := by
  obtain ⟨h2, h3, h4, h5, h6⟩ := sm
  obtain ⟨q, w, e⟩ := beside_run ok (by omega) (by omega) (by omega) T
  exact ⟨q, w.c, w.mem, (wr_sm (N := N + 6) w h2 h3 (by omega) (by omega) (by omega) (by omega)).up (by omega), e⟩
theorem union_sm {p q : Pat} (okp : p.Ok) (okq : q.Ok) (sp : Sm p 100) (sq : Sm q 100) (T : Fx.Tm) : ∃ r : Pat, Canon r ∧ r.mem = (fun y => p.mem y || q.mem y) ∧ h_union [eP p, eP q] T = some (eP r, T) := by
  obtain ⟨p1, p2, p3, p4, p5⟩ := sp
  obtain ⟨q1, q2, q3, q4, q5⟩ := sq
  obtain ⟨r, n, m, hi, e, w, _⟩ := union_run okp okq (by omega) (by omega) (by omega) (by omega) (by omega) (by omega) (M := 106) (by omega) (by omega) (by split <;> omega) T
  exact ⟨r, w.c, w.mem, e⟩
theorem meet_sm {p q : Pat} (okp : p.Ok) (okq : q.Ok) (sp : Sm p 100) (sq : Sm q 100) (T : Fx.Tm) : ∃ r : Pat, Canon r ∧ r.mem = (fun y => p.mem y && q.mem y) ∧ h_meet [eP p, eP q] T = some (eP r, T) := by
  obtain ⟨p1, p2, p3, p4, p5⟩ := sp
  obtain ⟨q1, q2, q3, q4, q5⟩ := sq
  obtain ⟨r, n, m, hi, e, w, _⟩ := meet_run okp okq (by omega) (by omega) (by omega) (by omega) (by omega) (by omega) (M := 106) (by omega) (by omega) (by split <;> omega) T
  exact ⟨r, w.c, w.mem, e⟩
theorem Sm.psz {p : Pat} {N : Int} (h : Sm p N) (hN : N ≤ 1000) : PSz p 1000000 := by
  obtain ⟨a, b, c, d, e⟩ := h
  exact ⟨by omega, by omega, by omega, by omega, by omega⟩
/-- the law's way of writing gives a written pattern itself -/
theorem lw_self {p : Pat} (c : Canon p) {N : Int} (sm : Sm p N) (hN : N ≤ 1000) (T : Fx.Tm) : h__law_written [eP p] T = some (eP p, T) := by
  obtain ⟨p', c', m', _, e⟩ := written_run p c.ok (sm.psz hN) (by omega) T
  rw [e, c'.uniq c m']
/-- all numbers, or none -/
def cst (b : Bool) : Pat := ⟨[b], 0, [], [b]⟩
theorem at_one (b : Bool) (y : Int) : at_ [b] y = b := by
  unfold at_
  show List.getD [b] (y % ((1 : Nat) : Int)).toNat false = b
  rw [show y % ((1 : Nat) : Int) = 0 by omega]
  rfl
theorem cst_canon (b : Bool) : Canon (cst b) ∧ (cst b).mem = fun _ => b :=
  can0 (f := fun _ => b) (l := [b]) ⟨by simp, fun k h0 h1 _ _ => by simp at h1 ⊢; omega⟩ fun y => (at_one b y).symm
theorem isB_run {ds : List Bool} (x0 x1 x2 x3 x4 x5 x7 x8 : Sl) (T : Fx.Tm) : ∀ x6, ∃ z6, forL (.nm 6) isB (ds.map D.bl) [x0, x1, x2, x3, x4, x5, x6, x7, x8] T = some (.nx [x0, x1, x2, x3, x4, x5, z6, x7, x8], T) := by
  intro x6
  obtain ⟨ρ', T', ⟨rfl, z6, rfl⟩, e⟩ := forL_inv (t := .nm 6) (body := isB) (inv := fun ρ T' => T' = T ∧ ∃ z6, ρ = [x0, x1, x2, x3, x4, x5, z6, x7, x8]) (ds.map D.bl) (fun d hd ρ T' h => by
    obtain ⟨rfl, z6, rfl⟩ := h
    obtain ⟨b, _, rfl⟩ := List.mem_map.mp hd
    refine ⟨_, [x0, x1, x2, x3, x4, x5, .dat (.bl b), x7, x8], T', rfl, ?_, rfl, _, rfl⟩
    have e1 : tyN (.bl b) = some "bool" := rfl
    have e2 := kit_bb
    unfold isB isiF
    clear hd
    show ifS _ _ _ [x0, x1, x2, x3, x4, x5, .dat (.bl b), x7, x8] T' = _
    walk_at "wk") [x0, x1, x2, x3, x4, x5, x6, x7, x8] T ⟨rfl, _, rfl⟩
  exact ⟨z6, e⟩
theorem inB_run {ns : List Int} {T : Fx.Tm} (hT : St ns T) {p q : Pat} (okp : p.Ok) (okq : q.Ok) (h : q.mem = fun y => !p.mem y) (x0 x3 x4 x6 x7 x8 : Sl) :
    ∃ z8 T', St ns T' ∧ inB [x0, .dat (.ob 0), .dat (eP p), x3, x4, .dat (eP q), x6, x7, x8] T = some (.nx [x0, .dat (.ob 0), .dat (eP p), x3, x4, .dat (eP q), x6, x7, z8], T') := by
  obtain ⟨d, T1, g1, g2, t1, e1⟩ := draw_st hT (n := 101) (by omega) (by omega)
  have e2 := is_in_run p okp (d - 50) T1
  have e3 := in_run p okp.l okp.r (d - 50) T1
  have e4 := is_in_run q okq (d - 50) T1
  rw [h] at e4
  have e5 := neD_bl (p.mem (d - 50)) (p.mem (d - 50))
  rw [decide_eq_false (by simp)] at e5
  have e6 := eqD_nbl (p.mem (d - 50))
  have e7 : tyN (.bl !p.mem (d - 50)) = some "bool" := rfl
  have e8 := kit_bb
  refine ⟨.dat (.int (d - 50)), T1, t1, ?_⟩
  unfold inB isiF
  clear hT t1 g1 g2 okp okq h
  generalize eP p = P at *
  generalize eP q = Q at *
  walk_at "wk"
theorem law_true (ns : List Int) (hl : ns.length ≤ 63) : ∃ T, h_law [.frl (ns.map D.int)] [] = some (.bl true, T) := by
  obtain ⟨p0, p, T1, hp0, cp, mp, _, t1, e1⟩ := pattern_run (st_start ns)
  obtain ⟨q0, q, T2, hq0, cq, mq, _, t2, e2⟩ := pattern_run t1
  have sp := pat_sm hp0 cp mp
  have sq := pat_sm hq0 cq mq
  obtain ⟨u1, cu1, mu1, f1⟩ := union_sm cp.ok cq.ok (sp.up (by omega)) (sq.up (by omega)) T2
  obtain ⟨u2, cu2, mu2, f2⟩ := of_run true cp.ok cq.ok (sp.up (by omega)) (sq.up (by omega)) T2
  have eu : u2 = u1 := cu2.uniq cu1 (mu2.trans mu1.symm)
  subst eu
  obtain ⟨m1, cm1, mm1, f3⟩ := meet_sm cp.ok cq.ok (sp.up (by omega)) (sq.up (by omega)) T2
  obtain ⟨m2, cm2, mm2, f4⟩ := of_run false cp.ok cq.ok (sp.up (by omega)) (sq.up (by omega)) T2
  have em : m2 = m1 := cm2.uniq cm1 (mm2.trans mm1.symm)
  subst em
  obtain ⟨w, T3, hw, t3, e3⟩ := raw_run t2 (i := 1) (ρ := [.dat (.frl (ns.map D.int)), .dat (.ob 0), .dat (eP p), .dat (eP q), .un, .un, .un, .un, .un]) rfl
  have sw := raw_sm hw
  obtain ⟨w', cw, mw, _, f5⟩ := written_run w hw.ok hw.sz (by omega) T3
  obtain ⟨b1, cb1, mb1, sb1, f6⟩ := beside_sm hw.ok sw (by omega) T3
  obtain ⟨b2, cb2, mb2, _, f7⟩ := beside_sm cb1.ok sb1 (by omega) T3
  have eb : b2 = w' := cb2.uniq cw (by rw [mb2, mw, mb1]; funext y; simp)
  subst eb
  obtain ⟨v1, cv1, mv1, f8⟩ := union_sm hw.ok hw.ok (sw.up (by omega)) (sw.up (by omega)) T3
  have ev : v1 = b2 := cv1.uniq cw (by rw [mv1, mw]; funext y; simp)
  subst ev
  obtain ⟨v2, cv2, mv2, f9⟩ := meet_sm hw.ok hw.ok (sw.up (by omega)) (sw.up (by omega)) T3
  have ev : v2 = v1 := cv2.uniq cw (by rw [mv2, mw]; funext y; simp)
  subst ev
  obtain ⟨o, co, mo, so, k1⟩ := beside_sm cp.ok sp (by omega) T3
  obtain ⟨o2, co2, mo2, _, k2⟩ := beside_sm co.ok so (by omega) T3
  have eo : o2 = p := co2.uniq cp (by rw [mo2, mo]; funext y; simp)
  subst eo
  obtain ⟨a1, ca1, ma1, k3⟩ := union_sm cp.ok co.ok (sp.up (by omega)) (so.up (by omega)) T3
  have ea : a1 = cst true := ca1.uniq (cst_canon true).1 (by rw [ma1, mo, (cst_canon true).2]; funext y; simp)
  subst ea
  obtain ⟨a2, ca2, ma2, k4⟩ := meet_sm cp.ok co.ok (sp.up (by omega)) (so.up (by omega)) T3
  have ea : a2 = cst false := ca2.uniq (cst_canon false).1 (by rw [ma2, mo, (cst_canon false).2]; funext y; simp)
  subst ea
  obtain ⟨z6, k5⟩ := isB_run (ds := o.l ++ o.m ++ o.r) (.dat (.frl (ns.map D.int))) (.dat (.ob 0)) (.dat (eP o2)) (.dat (eP q)) (.dat (eP w)) (.dat (eP o)) .un .un T3 .un
  obtain ⟨ρ', T', ⟨⟨z7, z8, rfl⟩, t'⟩, k6⟩ := forL_inv (t := .nm 7) (body := inB) (inv := fun ρ T => (∃ z7 z8, ρ = [.dat (.frl (ns.map D.int)), .dat (.ob 0), .dat (eP o2), .dat (eP q), .dat (eP w), .dat (eP o), z6, z7, z8]) ∧ St ns T) (rngL 0 6) (fun d hd ρ T h => by
    obtain ⟨⟨z7, z8, rfl⟩, t⟩ := h
    obtain ⟨y8, T', t', e⟩ := inB_run t cp.ok co.ok mo (.dat (.frl (ns.map D.int))) (.dat (eP q)) (.dat (eP w)) z6 (.dat d) z8
    exact ⟨_, _, T', rfl, e, ⟨_, _, rfl⟩, t'⟩) [.dat (.frl (ns.map D.int)), .dat (.ob 0), .dat (eP o2), .dat (eP q), .dat (eP w), .dat (eP o), z6, .un, .un] T3 ⟨⟨_, _, rfl⟩, t3⟩
  have g1 := lw_self co so (by omega) T'
  obtain ⟨c1, cc1, mc1, g2⟩ := union_sm cp.ok cp.ok (sp.up (by omega)) (sp.up (by omega)) T'
  have ec : c1 = o2 := cc1.uniq cp (by rw [mc1]; funext y; simp)
  subst ec
  obtain ⟨c2, cc2, mc2, g3⟩ := meet_sm cp.ok cp.ok (sp.up (by omega)) (sp.up (by omega)) T'
  have ec : c2 = c1 := cc2.uniq cp (by rw [mc2]; funext y; simp)
  subst ec
  have n1 := neD_self u2
  have n2 := neD_self m2
  have n3 := neD_self v2
  have n4 := neD_self c2
  have n5 := neD_self (cst true)
  have n6 := neD_self (cst false)
  have n7 := eqD_self o
  have n8 := eqD_self c2
  have i0 := eP_0 T3 o
  have i2 := eP_2 T3 o
  have i3 := eP_3 T3 o
  have so1 := so.l
  have so2 := so.r
  have so3 := so.m
  have d1 : addD (eB o.l) (eB o.m) = some (eB (o.l ++ o.m)) := by
    unfold eB
    rw [addD_tup, List.length_map, List.length_map, if_pos (by rw [line_eq]; omega), List.map_append]
  have d2 : addD (eB (o.l ++ o.m)) (eB o.r) = some (eB (o.l ++ o.m ++ o.r)) := by
    unfold eB
    rw [addD_tup, List.length_map, List.length_map, if_pos (by rw [line_eq, List.length_append]; omega), List.map_append, List.map_append, List.map_append]
  have d3 : seqD T3 (.val (eB (o.l ++ o.m ++ o.r))) = some (true, (o.l ++ o.m ++ o.r).map D.bl) := rfl
  have r6 : in62 6 = true := in62_of (by omega) (by omega)
  have l4 := len4
  have l0 := len0
  have l1 : ((0 + 1 : Nat) ≤ PySem.sizeLine) := by rw [line_eq]; omega
  have s1 : ∀ T, seqD T (.val (.frl (ns.map D.int))) = some (false, ns.map D.int) := fun _ => rfl
  have z1 : D.tup [.tup [.bl true], .int 0, .tup [], .tup [.bl true]] = eP (cst true) := rfl
  have z2 : D.tup [.tup [.bl false], .int 0, .tup [], .tup [.bl false]] = eP (cst false) := rfl
  have y1 : kN true = 0 := rfl
  have y2 : kN false = 1 := rfl
  rw [y1] at f2
  rw [y2] at f4
  refine ⟨T', ?_⟩
  unfold h_law
  rw [law_eq]
  clear hl t' t1 t2 t3 hp0 cp mp hq0 cq mq sp sq cu1 mu1 cu2 mu2 cm1 mm1 cm2 mm2 hw sw cw mw cb1 mb1 sb1 cb2 mb2 cv1 mv1 cv2 mv2 co mo so co2 mo2 ca1 ma1 ca2 ma2 cc1 mc1 cc2 mc2 y1 y2 so1 so2 so3
  generalize eP (cst true) = C1 at *
  generalize eP (cst false) = C2 at *
  generalize eP c2 = P at *
  generalize eP q = Q at *
  generalize eP w = W at *
  generalize eP o = O at *
  walk_at "wk"

end K6
namespace K6
open PySem PySem.Spec PyProof.Rows L2 Fx LC PM
theorem all_mk {l : PySem.W.OpenLaw} {w : World} {K : PySem.W.Frag} {h : Heap} {mg : Str → Option Value} {fa : Addr} (X : K.In h) (G : h.Ns mainGlobals mg) (hfa : mg (Str.ofString "law") = some (.ref fa))
    {f0 : Addr} {oc0 kV0 dc0 pm0 cd0 ct0 : Value} {od0 an0 : Option Addr} {sl0 : Array (Option Value)}
    (a0 : PySem.W.nsIn K mainGlobals (Str.ofString "_law_short") = some (some (.ref f0))) (l0 : K.lookup f0 = some ⟨oc0, od0, .func (PySem.W.fnOf (Str.ofString "_law_short") (Str.ofString "_law_short") (defArgs s__law_short) (defBody s__law_short) (defScope s__law_short) .none kV0 dc0 pm0 an0 cd0 ct0), sl0⟩) (c0 : PySem.W.codeIn K cd0 (Str.ofString "_law_short") = true) (k0 : PySem.W.keepIn K (.ref f0) = true)
    {f1 : Addr} {oc1 kV1 dc1 pm1 cd1 ct1 : Value} {od1 an1 : Option Addr} {sl1 : Array (Option Value)}
    (a1 : PySem.W.nsIn K mainGlobals (Str.ofString "_law_in") = some (some (.ref f1))) (l1 : K.lookup f1 = some ⟨oc1, od1, .func (PySem.W.fnOf (Str.ofString "_law_in") (Str.ofString "_law_in") (defArgs s__law_in) (defBody s__law_in) (defScope s__law_in) .none kV1 dc1 pm1 an1 cd1 ct1), sl1⟩) (c1 : PySem.W.codeIn K cd1 (Str.ofString "_law_in") = true) (k1 : PySem.W.keepIn K (.ref f1) = true)
    {f2 : Addr} {oc2 kV2 dc2 pm2 cd2 ct2 : Value} {od2 an2 : Option Addr} {sl2 : Array (Option Value)}
    (a2 : PySem.W.nsIn K mainGlobals (Str.ofString "_law_written") = some (some (.ref f2))) (l2 : K.lookup f2 = some ⟨oc2, od2, .func (PySem.W.fnOf (Str.ofString "_law_written") (Str.ofString "_law_written") (defArgs s__law_written) (defBody s__law_written) (defScope s__law_written) .none kV2 dc2 pm2 an2 cd2 ct2), sl2⟩) (c2 : PySem.W.codeIn K cd2 (Str.ofString "_law_written") = true) (k2 : PySem.W.keepIn K (.ref f2) = true)
    {f3 : Addr} {oc3 kV3 dc3 pm3 cd3 ct3 : Value} {od3 an3 : Option Addr} {sl3 : Array (Option Value)}
    (a3 : PySem.W.nsIn K mainGlobals (Str.ofString "_law_draw") = some (some (.ref f3))) (l3 : K.lookup f3 = some ⟨oc3, od3, .func (PySem.W.fnOf (Str.ofString "_law_draw") (Str.ofString "_law_draw") (defArgs s__law_draw) (defBody s__law_draw) (defScope s__law_draw) .none kV3 dc3 pm3 an3 cd3 ct3), sl3⟩) (c3 : PySem.W.codeIn K cd3 (Str.ofString "_law_draw") = true) (k3 : PySem.W.keepIn K (.ref f3) = true)
    {f4 : Addr} {oc4 kV4 dc4 pm4 cd4 ct4 : Value} {od4 an4 : Option Addr} {sl4 : Array (Option Value)}
    (a4 : PySem.W.nsIn K mainGlobals (Str.ofString "_law_row") = some (some (.ref f4))) (l4 : K.lookup f4 = some ⟨oc4, od4, .func (PySem.W.fnOf (Str.ofString "_law_row") (Str.ofString "_law_row") (defArgs s__law_row) (defBody s__law_row) (defScope s__law_row) .none kV4 dc4 pm4 an4 cd4 ct4), sl4⟩) (c4 : PySem.W.codeIn K cd4 (Str.ofString "_law_row") = true) (k4 : PySem.W.keepIn K (.ref f4) = true)
    {f5 : Addr} {oc5 kV5 dc5 pm5 cd5 ct5 : Value} {od5 an5 : Option Addr} {sl5 : Array (Option Value)}
    (a5 : PySem.W.nsIn K mainGlobals (Str.ofString "_law_pattern") = some (some (.ref f5))) (l5 : K.lookup f5 = some ⟨oc5, od5, .func (PySem.W.fnOf (Str.ofString "_law_pattern") (Str.ofString "_law_pattern") (defArgs s__law_pattern) (defBody s__law_pattern) (defScope s__law_pattern) .none kV5 dc5 pm5 an5 cd5 ct5), sl5⟩) (c5 : PySem.W.codeIn K cd5 (Str.ofString "_law_pattern") = true) (k5 : PySem.W.keepIn K (.ref f5) = true)
    {f6 : Addr} {oc6 kV6 dc6 pm6 cd6 ct6 : Value} {od6 an6 : Option Addr} {sl6 : Array (Option Value)}
    (a6 : PySem.W.nsIn K mainGlobals (Str.ofString "prime_divisors") = some (some (.ref f6))) (l6 : K.lookup f6 = some ⟨oc6, od6, .func (PySem.W.fnOf (Str.ofString "prime_divisors") (Str.ofString "prime_divisors") (defArgs s_prime_divisors) (defBody s_prime_divisors) (defScope s_prime_divisors) .none kV6 dc6 pm6 an6 cd6 ct6), sl6⟩) (c6 : PySem.W.codeIn K cd6 (Str.ofString "prime_divisors") = true) (k6 : PySem.W.keepIn K (.ref f6) = true)
    {f7 : Addr} {oc7 kV7 dc7 pm7 cd7 ct7 : Value} {od7 an7 : Option Addr} {sl7 : Array (Option Value)}
    (a7 : PySem.W.nsIn K mainGlobals (Str.ofString "stretched") = some (some (.ref f7))) (l7 : K.lookup f7 = some ⟨oc7, od7, .func (PySem.W.fnOf (Str.ofString "stretched") (Str.ofString "stretched") (defArgs s_stretched) (defBody s_stretched) (defScope s_stretched) .none kV7 dc7 pm7 an7 cd7 ct7), sl7⟩) (c7 : PySem.W.codeIn K cd7 (Str.ofString "stretched") = true) (k7 : PySem.W.keepIn K (.ref f7) = true)
    {f8 : Addr} {oc8 kV8 dc8 pm8 cd8 ct8 : Value} {od8 an8 : Option Addr} {sl8 : Array (Option Value)}
    (a8 : PySem.W.nsIn K mainGlobals (Str.ofString "shortest") = some (some (.ref f8))) (l8 : K.lookup f8 = some ⟨oc8, od8, .func (PySem.W.fnOf (Str.ofString "shortest") (Str.ofString "shortest") (defArgs s_shortest) (defBody s_shortest) (defScope s_shortest) .none kV8 dc8 pm8 an8 cd8 ct8), sl8⟩) (c8 : PySem.W.codeIn K cd8 (Str.ofString "shortest") = true) (k8 : PySem.W.keepIn K (.ref f8) = true)
    {f9 : Addr} {oc9 kV9 dc9 pm9 cd9 ct9 : Value} {od9 an9 : Option Addr} {sl9 : Array (Option Value)}
    (a9 : PySem.W.nsIn K mainGlobals (Str.ofString "compared") = some (some (.ref f9))) (l9 : K.lookup f9 = some ⟨oc9, od9, .func (PySem.W.fnOf (Str.ofString "compared") (Str.ofString "compared") (defArgs s_compared) (defBody s_compared) (defScope s_compared) .none kV9 dc9 pm9 an9 cd9 ct9), sl9⟩) (c9 : PySem.W.codeIn K cd9 (Str.ofString "compared") = true) (k9 : PySem.W.keepIn K (.ref f9) = true)
    {f10 : Addr} {oc10 kV10 dc10 pm10 cd10 ct10 : Value} {od10 an10 : Option Addr} {sl10 : Array (Option Value)}
    (a10 : PySem.W.nsIn K mainGlobals (Str.ofString "window") = some (some (.ref f10))) (l10 : K.lookup f10 = some ⟨oc10, od10, .func (PySem.W.fnOf (Str.ofString "window") (Str.ofString "window") (defArgs s_window) (defBody s_window) (defScope s_window) .none kV10 dc10 pm10 an10 cd10 ct10), sl10⟩) (c10 : PySem.W.codeIn K cd10 (Str.ofString "window") = true) (k10 : PySem.W.keepIn K (.ref f10) = true)
    {f11 : Addr} {oc11 kV11 dc11 pm11 cd11 ct11 : Value} {od11 an11 : Option Addr} {sl11 : Array (Option Value)}
    (a11 : PySem.W.nsIn K mainGlobals (Str.ofString "first_difference") = some (some (.ref f11))) (l11 : K.lookup f11 = some ⟨oc11, od11, .func (PySem.W.fnOf (Str.ofString "first_difference") (Str.ofString "first_difference") (defArgs s_first_difference) (defBody s_first_difference) (defScope s_first_difference) .none kV11 dc11 pm11 an11 cd11 ct11), sl11⟩) (c11 : PySem.W.codeIn K cd11 (Str.ofString "first_difference") = true) (k11 : PySem.W.keepIn K (.ref f11) = true)
    {f12 : Addr} {oc12 kV12 dc12 pm12 cd12 ct12 : Value} {od12 an12 : Option Addr} {sl12 : Array (Option Value)}
    (a12 : PySem.W.nsIn K mainGlobals (Str.ofString "row_of") = some (some (.ref f12))) (l12 : K.lookup f12 = some ⟨oc12, od12, .func (PySem.W.fnOf (Str.ofString "row_of") (Str.ofString "row_of") (defArgs s_row_of) (defBody s_row_of) (defScope s_row_of) .none kV12 dc12 pm12 an12 cd12 ct12), sl12⟩) (c12 : PySem.W.codeIn K cd12 (Str.ofString "row_of") = true) (k12 : PySem.W.keepIn K (.ref f12) = true)
    {f13 : Addr} {oc13 kV13 dc13 pm13 cd13 ct13 : Value} {od13 an13 : Option Addr} {sl13 : Array (Option Value)}
    (a13 : PySem.W.nsIn K mainGlobals (Str.ofString "last_difference") = some (some (.ref f13))) (l13 : K.lookup f13 = some ⟨oc13, od13, .func (PySem.W.fnOf (Str.ofString "last_difference") (Str.ofString "last_difference") (defArgs s_last_difference) (defBody s_last_difference) (defScope s_last_difference) .none kV13 dc13 pm13 an13 cd13 ct13), sl13⟩) (c13 : PySem.W.codeIn K cd13 (Str.ofString "last_difference") = true) (k13 : PySem.W.keepIn K (.ref f13) = true)
    {f14 : Addr} {oc14 kV14 dc14 pm14 cd14 ct14 : Value} {od14 an14 : Option Addr} {sl14 : Array (Option Value)}
    (a14 : PySem.W.nsIn K mainGlobals (Str.ofString "middle_of") = some (some (.ref f14))) (l14 : K.lookup f14 = some ⟨oc14, od14, .func (PySem.W.fnOf (Str.ofString "middle_of") (Str.ofString "middle_of") (defArgs s_middle_of) (defBody s_middle_of) (defScope s_middle_of) .none kV14 dc14 pm14 an14 cd14 ct14), sl14⟩) (c14 : PySem.W.codeIn K cd14 (Str.ofString "middle_of") = true) (k14 : PySem.W.keepIn K (.ref f14) = true)
    {f15 : Addr} {oc15 kV15 dc15 pm15 cd15 ct15 : Value} {od15 an15 : Option Addr} {sl15 : Array (Option Value)}
    (a15 : PySem.W.nsIn K mainGlobals (Str.ofString "written") = some (some (.ref f15))) (l15 : K.lookup f15 = some ⟨oc15, od15, .func (PySem.W.fnOf (Str.ofString "written") (Str.ofString "written") (defArgs s_written) (defBody s_written) (defScope s_written) .none kV15 dc15 pm15 an15 cd15 ct15), sl15⟩) (c15 : PySem.W.codeIn K cd15 (Str.ofString "written") = true) (k15 : PySem.W.keepIn K (.ref f15) = true)
    {f16 : Addr} {oc16 kV16 dc16 pm16 cd16 ct16 : Value} {od16 an16 : Option Addr} {sl16 : Array (Option Value)}
    (a16 : PySem.W.nsIn K mainGlobals (Str.ofString "bits_of") = some (some (.ref f16))) (l16 : K.lookup f16 = some ⟨oc16, od16, .func (PySem.W.fnOf (Str.ofString "bits_of") (Str.ofString "bits_of") (defArgs s_bits_of) (defBody s_bits_of) (defScope s_bits_of) .none kV16 dc16 pm16 an16 cd16 ct16), sl16⟩) (c16 : PySem.W.codeIn K cd16 (Str.ofString "bits_of") = true) (k16 : PySem.W.keepIn K (.ref f16) = true)
    {f17 : Addr} {oc17 kV17 dc17 pm17 cd17 ct17 : Value} {od17 an17 : Option Addr} {sl17 : Array (Option Value)}
    (a17 : PySem.W.nsIn K mainGlobals (Str.ofString "anchored") = some (some (.ref f17))) (l17 : K.lookup f17 = some ⟨oc17, od17, .func (PySem.W.fnOf (Str.ofString "anchored") (Str.ofString "anchored") (defArgs s_anchored) (defBody s_anchored) (defScope s_anchored) .none kV17 dc17 pm17 an17 cd17 ct17), sl17⟩) (c17 : PySem.W.codeIn K cd17 (Str.ofString "anchored") = true) (k17 : PySem.W.keepIn K (.ref f17) = true)
    {f18 : Addr} {oc18 kV18 dc18 pm18 cd18 ct18 : Value} {od18 an18 : Option Addr} {sl18 : Array (Option Value)}
    (a18 : PySem.W.nsIn K mainGlobals (Str.ofString "pieces_of") = some (some (.ref f18))) (l18 : K.lookup f18 = some ⟨oc18, od18, .func (PySem.W.fnOf (Str.ofString "pieces_of") (Str.ofString "pieces_of") (defArgs s_pieces_of) (defBody s_pieces_of) (defScope s_pieces_of) .none kV18 dc18 pm18 an18 cd18 ct18), sl18⟩) (c18 : PySem.W.codeIn K cd18 (Str.ofString "pieces_of") = true) (k18 : PySem.W.keepIn K (.ref f18) = true)
    {f19 : Addr} {oc19 kV19 dc19 pm19 cd19 ct19 : Value} {od19 an19 : Option Addr} {sl19 : Array (Option Value)}
    (a19 : PySem.W.nsIn K mainGlobals (Str.ofString "beside") = some (some (.ref f19))) (l19 : K.lookup f19 = some ⟨oc19, od19, .func (PySem.W.fnOf (Str.ofString "beside") (Str.ofString "beside") (defArgs s_beside) (defBody s_beside) (defScope s_beside) .none kV19 dc19 pm19 an19 cd19 ct19), sl19⟩) (c19 : PySem.W.codeIn K cd19 (Str.ofString "beside") = true) (k19 : PySem.W.keepIn K (.ref f19) = true)
    {f20 : Addr} {oc20 kV20 dc20 pm20 cd20 ct20 : Value} {od20 an20 : Option Addr} {sl20 : Array (Option Value)}
    (a20 : PySem.W.nsIn K mainGlobals (Str.ofString "lesser") = some (some (.ref f20))) (l20 : K.lookup f20 = some ⟨oc20, od20, .func (PySem.W.fnOf (Str.ofString "lesser") (Str.ofString "lesser") (defArgs s_lesser) (defBody s_lesser) (defScope s_lesser) .none kV20 dc20 pm20 an20 cd20 ct20), sl20⟩) (c20 : PySem.W.codeIn K cd20 (Str.ofString "lesser") = true) (k20 : PySem.W.keepIn K (.ref f20) = true)
    {f21 : Addr} {oc21 kV21 dc21 pm21 cd21 ct21 : Value} {od21 an21 : Option Addr} {sl21 : Array (Option Value)}
    (a21 : PySem.W.nsIn K mainGlobals (Str.ofString "joined_piece") = some (some (.ref f21))) (l21 : K.lookup f21 = some ⟨oc21, od21, .func (PySem.W.fnOf (Str.ofString "joined_piece") (Str.ofString "joined_piece") (defArgs s_joined_piece) (defBody s_joined_piece) (defScope s_joined_piece) .none kV21 dc21 pm21 an21 cd21 ct21), sl21⟩) (c21 : PySem.W.codeIn K cd21 (Str.ofString "joined_piece") = true) (k21 : PySem.W.keepIn K (.ref f21) = true)
    {f22 : Addr} {oc22 kV22 dc22 pm22 cd22 ct22 : Value} {od22 an22 : Option Addr} {sl22 : Array (Option Value)}
    (a22 : PySem.W.nsIn K mainGlobals (Str.ofString "joined") = some (some (.ref f22))) (l22 : K.lookup f22 = some ⟨oc22, od22, .func (PySem.W.fnOf (Str.ofString "joined") (Str.ofString "joined") (defArgs s_joined) (defBody s_joined) (defScope s_joined) .none kV22 dc22 pm22 an22 cd22 ct22), sl22⟩) (c22 : PySem.W.codeIn K cd22 (Str.ofString "joined") = true) (k22 : PySem.W.keepIn K (.ref f22) = true)
    {f23 : Addr} {oc23 kV23 dc23 pm23 cd23 ct23 : Value} {od23 an23 : Option Addr} {sl23 : Array (Option Value)}
    (a23 : PySem.W.nsIn K mainGlobals (Str.ofString "union") = some (some (.ref f23))) (l23 : K.lookup f23 = some ⟨oc23, od23, .func (PySem.W.fnOf (Str.ofString "union") (Str.ofString "union") (defArgs s_union) (defBody s_union) (defScope s_union) .none kV23 dc23 pm23 an23 cd23 ct23), sl23⟩) (c23 : PySem.W.codeIn K cd23 (Str.ofString "union") = true) (k23 : PySem.W.keepIn K (.ref f23) = true)
    {f24 : Addr} {oc24 kV24 dc24 pm24 cd24 ct24 : Value} {od24 an24 : Option Addr} {sl24 : Array (Option Value)}
    (a24 : PySem.W.nsIn K mainGlobals (Str.ofString "_law_test") = some (some (.ref f24))) (l24 : K.lookup f24 = some ⟨oc24, od24, .func (PySem.W.fnOf (Str.ofString "_law_test") (Str.ofString "_law_test") (defArgs s__law_test) (defBody s__law_test) (defScope s__law_test) .none kV24 dc24 pm24 an24 cd24 ct24), sl24⟩) (c24 : PySem.W.codeIn K cd24 (Str.ofString "_law_test") = true) (k24 : PySem.W.keepIn K (.ref f24) = true)
    {f25 : Addr} {oc25 kV25 dc25 pm25 cd25 ct25 : Value} {od25 an25 : Option Addr} {sl25 : Array (Option Value)}
    (a25 : PySem.W.nsIn K mainGlobals (Str.ofString "_law_of") = some (some (.ref f25))) (l25 : K.lookup f25 = some ⟨oc25, od25, .func (PySem.W.fnOf (Str.ofString "_law_of") (Str.ofString "_law_of") (defArgs s__law_of) (defBody s__law_of) (defScope s__law_of) .none kV25 dc25 pm25 an25 cd25 ct25), sl25⟩) (c25 : PySem.W.codeIn K cd25 (Str.ofString "_law_of") = true) (k25 : PySem.W.keepIn K (.ref f25) = true)
    {f26 : Addr} {oc26 kV26 dc26 pm26 cd26 ct26 : Value} {od26 an26 : Option Addr} {sl26 : Array (Option Value)}
    (a26 : PySem.W.nsIn K mainGlobals (Str.ofString "meet") = some (some (.ref f26))) (l26 : K.lookup f26 = some ⟨oc26, od26, .func (PySem.W.fnOf (Str.ofString "meet") (Str.ofString "meet") (defArgs s_meet) (defBody s_meet) (defScope s_meet) .none kV26 dc26 pm26 an26 cd26 ct26), sl26⟩) (c26 : PySem.W.codeIn K cd26 (Str.ofString "meet") = true) (k26 : PySem.W.keepIn K (.ref f26) = true)
    {f27 : Addr} {oc27 kV27 dc27 pm27 cd27 ct27 : Value} {od27 an27 : Option Addr} {sl27 : Array (Option Value)}
    (a27 : PySem.W.nsIn K mainGlobals (Str.ofString "is_in") = some (some (.ref f27))) (l27 : K.lookup f27 = some ⟨oc27, od27, .func (PySem.W.fnOf (Str.ofString "is_in") (Str.ofString "is_in") (defArgs s_is_in) (defBody s_is_in) (defScope s_is_in) .none kV27 dc27 pm27 an27 cd27 ct27), sl27⟩) (c27 : PySem.W.codeIn K cd27 (Str.ofString "is_in") = true) (k27 : PySem.W.keepIn K (.ref f27) = true)
    {f28 : Addr} {oc28 kV28 dc28 pm28 cd28 ct28 : Value} {od28 an28 : Option Addr} {sl28 : Array (Option Value)}
    (a28 : PySem.W.nsIn K mainGlobals (Str.ofString "law") = some (some (.ref f28))) (l28 : K.lookup f28 = some ⟨oc28, od28, .func (PySem.W.fnOf (Str.ofString "law") (Str.ofString "law") (defArgs s_law) (defBody s_law) (defScope s_law) .none kV28 dc28 pm28 an28 cd28 ct28), sl28⟩) (c28 : PySem.W.codeIn K cd28 (Str.ofString "law") = true) (k28 : PySem.W.keepIn K (.ref f28) = true)
    (z_range : PySem.W.nsIn K mainGlobals (Str.ofString "range") = some none)
    (z_len : PySem.W.nsIn K mainGlobals (Str.ofString "len") = some none)
    (z_int : PySem.W.nsIn K mainGlobals (Str.ofString "int") = some none)
    (z_list : PySem.W.nsIn K mainGlobals (Str.ofString "list") = some none)
    (z_tuple : PySem.W.nsIn K mainGlobals (Str.ofString "tuple") = some none)
    (z_min : PySem.W.nsIn K mainGlobals (Str.ofString "min") = some none)
    (z_max : PySem.W.nsIn K mainGlobals (Str.ofString "max") = some none)
    (z_isinstance : PySem.W.nsIn K mainGlobals (Str.ofString "isinstance") = some none)
    (z_bool : PySem.W.nsIn K mainGlobals (Str.ofString "bool") = some none)
    {t_LONGEST : Tok} (z_LONGEST : PySem.W.nsIn K mainGlobals (Str.ofString "LONGEST") = some (some (.int 1000000 t_LONGEST)))
    (z_lcm : PySem.W.nsIn K mainGlobals (Str.ofString "lcm") = some (some (.builtin "math.lcm")))
    : ∃ fd : FuncData, (∀ (s : Shared) (v : Value), BindsTo s fd ⟨[v], []⟩ [(Str.ofString "script", v)]) ∧ ∀ base : Heap, K.In base → base.Ns mainGlobals mg → FnOk l.prog w K mg base CX0 7 fa fd [Str.ofString "script"] (Sf K 1 h_law) := by
  have e := hfa.symm.trans (PySem.W.mg_of X G a28)
  cases e
  have F0 := fun_mk (st := s__law_short) l0 c0 k0
  have b0 := F0.binds (ps := [Str.ofString "row"]) fun _ _ _ _ _ _ us hl => match us, hl with | [_], _ => rfl
  have F1 := fun_mk (st := s__law_in) l1 c1 k1
  have b1 := F1.binds (ps := [Str.ofString "pattern", Str.ofString "y"]) fun _ _ _ _ _ _ us hl => match us, hl with | [_, _], _ => rfl
  have F2 := fun_mk (st := s__law_written) l2 c2 k2
  have b2 := F2.binds (ps := [Str.ofString "pattern"]) fun _ _ _ _ _ _ us hl => match us, hl with | [_], _ => rfl
  have F3 := fun_mk (st := s__law_draw) l3 c3 k3
  have b3 := F3.binds (ps := [Str.ofString "state", Str.ofString "limit"]) fun _ _ _ _ _ _ us hl => match us, hl with | [_, _], _ => rfl
  have F4 := fun_mk (st := s__law_row) l4 c4 k4
  have b4 := F4.binds (ps := [Str.ofString "state", Str.ofString "least", Str.ofString "most"]) fun _ _ _ _ _ _ us hl => match us, hl with | [_, _, _], _ => rfl
  have F5 := fun_mk (st := s__law_pattern) l5 c5 k5
  have b5 := F5.binds (ps := [Str.ofString "state"]) fun _ _ _ _ _ _ us hl => match us, hl with | [_], _ => rfl
  have F6 := fun_mk (st := s_prime_divisors) l6 c6 k6
  have b6 := F6.binds (ps := [Str.ofString "number"]) fun _ _ _ _ _ _ us hl => match us, hl with | [_], _ => rfl
  have F7 := fun_mk (st := s_stretched) l7 c7 k7
  have b7 := F7.binds (ps := [Str.ofString "bits", Str.ofString "width", Str.ofString "length"]) fun _ _ _ _ _ _ us hl => match us, hl with | [_, _, _], _ => rfl
  have F8 := fun_mk (st := s_shortest) l8 c8 k8
  have b8 := F8.binds (ps := [Str.ofString "bits", Str.ofString "width"]) fun _ _ _ _ _ _ us hl => match us, hl with | [_, _], _ => rfl
  have F9 := fun_mk (st := s_compared) l9 c9 k9
  have b9 := F9.binds (ps := [Str.ofString "widths", Str.ofString "low", Str.ofString "high"]) fun _ _ _ _ _ _ us hl => match us, hl with | [_, _, _], _ => rfl
  have F10 := fun_mk (st := s_window) l10 c10 k10
  have b10 := F10.binds (ps := [Str.ofString "bits", Str.ofString "width", Str.ofString "low", Str.ofString "length"]) fun _ _ _ _ _ _ us hl => match us, hl with | [_, _, _, _], _ => rfl
  have F11 := fun_mk (st := s_first_difference) l11 c11 k11
  have b11 := F11.binds (ps := [Str.ofString "pieces", Str.ofString "bits", Str.ofString "width"]) fun _ _ _ _ _ _ us hl => match us, hl with | [_, _, _], _ => rfl
  have F12 := fun_mk (st := s_row_of) l12 c12 k12
  have b12 := F12.binds (ps := [Str.ofString "bits", Str.ofString "width"]) fun _ _ _ _ _ _ us hl => match us, hl with | [_, _], _ => rfl
  have F13 := fun_mk (st := s_last_difference) l13 c13 k13
  have b13 := F13.binds (ps := [Str.ofString "pieces", Str.ofString "bits", Str.ofString "width"]) fun _ _ _ _ _ _ us hl => match us, hl with | [_, _, _], _ => rfl
  have F14 := fun_mk (st := s_middle_of) l14 c14 k14
  have b14 := F14.binds (ps := [Str.ofString "pieces", Str.ofString "start", Str.ofString "end"]) fun _ _ _ _ _ _ us hl => match us, hl with | [_, _, _], _ => rfl
  have F15 := fun_mk (st := s_written) l15 c15 k15
  have b15 := F15.binds (ps := [Str.ofString "pieces"]) fun _ _ _ _ _ _ us hl => match us, hl with | [_], _ => rfl
  have F16 := fun_mk (st := s_bits_of) l16 c16 k16
  have b16 := F16.binds (ps := [Str.ofString "row"]) fun _ _ _ _ _ _ us hl => match us, hl with | [_], _ => rfl
  have F17 := fun_mk (st := s_anchored) l17 c17 k17
  have b17 := F17.binds (ps := [Str.ofString "bits", Str.ofString "low", Str.ofString "length"]) fun _ _ _ _ _ _ us hl => match us, hl with | [_, _, _], _ => rfl
  have F18 := fun_mk (st := s_pieces_of) l18 c18 k18
  have b18 := F18.binds (ps := [Str.ofString "pattern"]) fun _ _ _ _ _ _ us hl => match us, hl with | [_], _ => rfl
  have F19 := fun_mk (st := s_beside) l19 c19 k19
  have b19 := F19.binds (ps := [Str.ofString "pattern"]) fun _ _ _ _ _ _ us hl => match us, hl with | [_], _ => rfl
  have F20 := fun_mk (st := s_lesser) l20 c20 k20
  have b20 := F20.binds (ps := [Str.ofString "first", Str.ofString "second"]) fun _ _ _ _ _ _ us hl => match us, hl with | [_, _], _ => rfl
  have F21 := fun_mk (st := s_joined_piece) l21 c21 k21
  have b21 := F21.binds (ps := [Str.ofString "first", Str.ofString "second", Str.ofString "low", Str.ofString "high", Str.ofString "is_union"]) fun _ _ _ _ _ _ us hl => match us, hl with | [_, _, _, _, _], _ => rfl
  have F22 := fun_mk (st := s_joined) l22 c22 k22
  have b22 := F22.binds (ps := [Str.ofString "first", Str.ofString "second", Str.ofString "is_union"]) fun _ _ _ _ _ _ us hl => match us, hl with | [_, _, _], _ => rfl
  have F23 := fun_mk (st := s_union) l23 c23 k23
  have b23 := F23.binds (ps := [Str.ofString "first", Str.ofString "second"]) fun _ _ _ _ _ _ us hl => match us, hl with | [_, _], _ => rfl
  have F24 := fun_mk (st := s__law_test) l24 c24 k24
  have b24 := F24.binds (ps := [Str.ofString "first", Str.ofString "second", Str.ofString "kind", Str.ofString "y"]) fun _ _ _ _ _ _ us hl => match us, hl with | [_, _, _, _], _ => rfl
  have F25 := fun_mk (st := s__law_of) l25 c25 k25
  have b25 := F25.binds (ps := [Str.ofString "first", Str.ofString "second", Str.ofString "kind"]) fun _ _ _ _ _ _ us hl => match us, hl with | [_, _, _], _ => rfl
  have F26 := fun_mk (st := s_meet) l26 c26 k26
  have b26 := F26.binds (ps := [Str.ofString "first", Str.ofString "second"]) fun _ _ _ _ _ _ us hl => match us, hl with | [_, _], _ => rfl
  have F27 := fun_mk (st := s_is_in) l27 c27 k27
  have b27 := F27.binds (ps := [Str.ofString "pattern", Str.ofString "number"]) fun _ _ _ _ _ _ us hl => match us, hl with | [_, _], _ => rfl
  have F28 := fun_mk (st := s_law) l28 c28 k28
  refine ⟨PySem.W.fnOf (Str.ofString "law") (Str.ofString "law") (defArgs s_law) (defBody s_law) (defScope s_law) .none kV28 dc28 pm28 an28 cd28 ct28, fun s v => .of_eq rfl, fun base _ _ => ?_⟩
  have q__law_short := ok__law_short (P := l.prog) (w := w) (base := base) F0 (PySem.W.mg_of X G a0) b0 (PySem.W.mg_none_of X G z_range) (PySem.W.mg_none_of X G z_len) (PySem.W.mg_none_of X G z_int)
  have q__law_in := ok__law_in (P := l.prog) (w := w) (base := base) F1 (PySem.W.mg_of X G a1) b1 (PySem.W.mg_none_of X G z_len) (PySem.W.mg_none_of X G z_int)
  have q__law_written := ok__law_written (P := l.prog) (w := w) (base := base) F2 (PySem.W.mg_of X G a2) b2 q__law_short q__law_in (PySem.W.mg_none_of X G z_list) (PySem.W.mg_none_of X G z_len) (PySem.W.mg_none_of X G z_range) (PySem.W.mg_none_of X G z_tuple) (PySem.W.mg_none_of X G z_int)
  have q__law_draw := ok__law_draw (P := l.prog) (w := w) (base := base) F3 (PySem.W.mg_of X G a3) b3 (PySem.W.mg_none_of X G z_int) (PySem.W.mg_none_of X G z_len)
  have q__law_row := ok__law_row (P := l.prog) (w := w) (base := base) F4 (PySem.W.mg_of X G a4) b4 q__law_draw (PySem.W.mg_none_of X G z_tuple) (PySem.W.mg_none_of X G z_range)
  have q__law_pattern := ok__law_pattern (P := l.prog) (w := w) (base := base) F5 (PySem.W.mg_of X G a5) b5 q__law_written q__law_row q__law_draw
  have q_prime_divisors := ok_prime_divisors (P := l.prog) (w := w) (base := base) F6 (PySem.W.mg_of X G a6) b6
  have q_stretched := ok_stretched (P := l.prog) (w := w) (base := base) F7 (PySem.W.mg_of X G a7) b7
  have q_shortest := ok_shortest (P := l.prog) (w := w) (base := base) F8 (PySem.W.mg_of X G a8) b8 q_prime_divisors q_stretched
  have q_compared := ok_compared (P := l.prog) (w := w) (base := base) F9 (PySem.W.mg_of X G a9) b9 (PySem.W.mg_none_of X G z_min)
  have q_window := ok_window (P := l.prog) (w := w) (base := base) F10 (PySem.W.mg_of X G a10) b10 q_stretched
  have q_first_difference := ok_first_difference (P := l.prog) (w := w) (base := base) F11 (PySem.W.mg_of X G a11) b11 q_compared q_window
  have q_row_of := ok_row_of (P := l.prog) (w := w) (base := base) F12 (PySem.W.mg_of X G a12) b12 (PySem.W.mg_none_of X G z_tuple)
  have q_last_difference := ok_last_difference (P := l.prog) (w := w) (base := base) F13 (PySem.W.mg_of X G a13) b13 q_compared q_window (PySem.W.mg_none_of X G z_range) (PySem.W.mg_none_of X G z_len)
  have q_middle_of := ok_middle_of (P := l.prog) (w := w) (base := base) F14 (PySem.W.mg_of X G a14) b14 q_window (PySem.W.mg_none_of X G z_int) ⟨_, PySem.W.mg_of X G z_LONGEST⟩
  have q_written := ok_written (P := l.prog) (w := w) (base := base) F15 (PySem.W.mg_of X G a15) b15 q_shortest q_first_difference q_row_of q_last_difference q_middle_of (PySem.W.mg_none_of X G z_min)
  have q_bits_of := ok_bits_of (P := l.prog) (w := w) (base := base) F16 (PySem.W.mg_of X G a16) b16 (PySem.W.mg_none_of X G z_int)
  have q_anchored := ok_anchored (P := l.prog) (w := w) (base := base) F17 (PySem.W.mg_of X G a17) b17 q_window
  have q_pieces_of := ok_pieces_of (P := l.prog) (w := w) (base := base) F18 (PySem.W.mg_of X G a18) b18 q_bits_of q_anchored (PySem.W.mg_none_of X G z_len)
  have q_beside := ok_beside (P := l.prog) (w := w) (base := base) F19 (PySem.W.mg_of X G a19) b19 q_written q_pieces_of
  have q_lesser := ok_lesser (P := l.prog) (w := w) (base := base) F20 (PySem.W.mg_of X G a20) b20 (PySem.W.mg_none_of X G z_min)
  have q_joined_piece := ok_joined_piece (P := l.prog) (w := w) (base := base) F21 (PySem.W.mg_of X G a21) b21 q_window q_anchored ⟨_, PySem.W.mg_of X G z_LONGEST⟩ (PySem.W.mg_of X G z_lcm)
  have q_joined := ok_joined (P := l.prog) (w := w) (base := base) F22 (PySem.W.mg_of X G a22) b22 q_lesser q_joined_piece (PySem.W.mg_none_of X G z_len)
  have q_union := ok_union (P := l.prog) (w := w) (base := base) F23 (PySem.W.mg_of X G a23) b23 q_written q_joined q_pieces_of
  have q__law_test := ok__law_test (P := l.prog) (w := w) (base := base) F24 (PySem.W.mg_of X G a24) b24 q__law_in
  have q__law_of := ok__law_of (P := l.prog) (w := w) (base := base) F25 (PySem.W.mg_of X G a25) b25 q__law_written q__law_test (PySem.W.mg_none_of X G z_min) (PySem.W.mg_none_of X G z_max) (PySem.W.mg_none_of X G z_range) (PySem.W.mg_none_of X G z_tuple) (PySem.W.mg_none_of X G z_len) (PySem.W.mg_none_of X G z_int)
  have q_meet := ok_meet (P := l.prog) (w := w) (base := base) F26 (PySem.W.mg_of X G a26) b26 q_written q_joined q_pieces_of
  have q_is_in := ok_is_in (P := l.prog) (w := w) (base := base) F27 (PySem.W.mg_of X G a27) b27 (PySem.W.mg_none_of X G z_len)
  exact ok_law F28 q__law_pattern q_beside q__law_row q_union q__law_of q_meet q__law_draw q__law_written q_is_in q__law_in (PySem.W.mg_none_of X G z_list) (PySem.W.mg_none_of X G z_range) (PySem.W.mg_none_of X G z_isinstance) (PySem.W.mg_none_of X G z_bool)

end K6

open PySem PySem.W PyProof.Rows
set_option maxHeartbeats 0 in
theorem PySem.Challenge.cw_sumsaid_k06_patterns_of_sets_holds : PySem.Challenge.rw_sumsaid_k06_patterns_of_sets.Holds := by
  w_on; o_law; k_head; (case hw => w_witness2)
  k_fill
  refine L2.walk_ofK (l := PySem.Challenge.rw_sumsaid_k06_patterns_of_sets) (n := 63) (k := 7) (x := Str.ofString "script") (CX := L2.CX0) (sp := fun K => Fx.Sf K 1 K6.h_law) rfl (by decide) rfl ⟨rfl, by decide, by decide⟩ (fun w h Y => PySem.W.kIn_of Y) ?F (fun K H a ns hl _ hS => Fx.law_sf hS (K6.law_true ns hl)) (fun _ _ _ _ h => h)
  case F =>
    intro w mg fa h KX G hmg
    refine' K6.all_mk KX G hmg ?a0 ?l0 ?c0 ?k0 ?a1 ?l1 ?c1 ?k1 ?a2 ?l2 ?c2 ?k2 ?a3 ?l3 ?c3 ?k3 ?a4 ?l4 ?c4 ?k4 ?a5 ?l5 ?c5 ?k5 ?a6 ?l6 ?c6 ?k6 ?a7 ?l7 ?c7 ?k7 ?a8 ?l8 ?c8 ?k8 ?a9 ?l9 ?c9 ?k9 ?a10 ?l10 ?c10 ?k10 ?a11 ?l11 ?c11 ?k11 ?a12 ?l12 ?c12 ?k12 ?a13 ?l13 ?c13 ?k13 ?a14 ?l14 ?c14 ?k14 ?a15 ?l15 ?c15 ?k15 ?a16 ?l16 ?c16 ?k16 ?a17 ?l17 ?c17 ?k17 ?a18 ?l18 ?c18 ?k18 ?a19 ?l19 ?c19 ?k19 ?a20 ?l20 ?c20 ?k20 ?a21 ?l21 ?c21 ?k21 ?a22 ?l22 ?c22 ?k22 ?a23 ?l23 ?c23 ?k23 ?a24 ?l24 ?c24 ?k24 ?a25 ?l25 ?c25 ?k25 ?a26 ?l26 ?c26 ?k26 ?a27 ?l27 ?c27 ?k27 ?a28 ?l28 ?c28 ?k28 ?z_range ?z_len ?z_int ?z_list ?z_tuple ?z_min ?z_max ?z_isinstance ?z_bool ?z_LONGEST ?z_lcm
    (case a0 => k_is)
    (case l0 => k_is)
    (case c0 => k_is)
    (case k0 => k_is)
    (case a1 => k_is)
    (case l1 => k_is)
    (case c1 => k_is)
    (case k1 => k_is)
    (case a2 => k_is)
    (case l2 => k_is)
    (case c2 => k_is)
    (case k2 => k_is)
    (case a3 => k_is)
    (case l3 => k_is)
    (case c3 => k_is)
    (case k3 => k_is)
    (case a4 => k_is)
    (case l4 => k_is)
    (case c4 => k_is)
    (case k4 => k_is)
    (case a5 => k_is)
    (case l5 => k_is)
    (case c5 => k_is)
    (case k5 => k_is)
    (case a6 => k_is)
    (case l6 => k_is)
    (case c6 => k_is)
    (case k6 => k_is)
    (case a7 => k_is)
    (case l7 => k_is)
    (case c7 => k_is)
    (case k7 => k_is)
    (case a8 => k_is)
    (case l8 => k_is)
    (case c8 => k_is)
    (case k8 => k_is)
    (case a9 => k_is)
    (case l9 => k_is)
    (case c9 => k_is)
    (case k9 => k_is)
    (case a10 => k_is)
    (case l10 => k_is)
    (case c10 => k_is)
    (case k10 => k_is)
    (case a11 => k_is)
    (case l11 => k_is)
    (case c11 => k_is)
    (case k11 => k_is)
    (case a12 => k_is)
    (case l12 => k_is)
    (case c12 => k_is)
    (case k12 => k_is)
    (case a13 => k_is)
    (case l13 => k_is)
    (case c13 => k_is)
    (case k13 => k_is)
    (case a14 => k_is)
    (case l14 => k_is)
    (case c14 => k_is)
    (case k14 => k_is)
    (case a15 => k_is)
    (case l15 => k_is)
    (case c15 => k_is)
    (case k15 => k_is)
    (case a16 => k_is)
    (case l16 => k_is)
    (case c16 => k_is)
    (case k16 => k_is)
    (case a17 => k_is)
    (case l17 => k_is)
    (case c17 => k_is)
    (case k17 => k_is)
    (case a18 => k_is)
    (case l18 => k_is)
    (case c18 => k_is)
    (case k18 => k_is)
    (case a19 => k_is)
    (case l19 => k_is)
    (case c19 => k_is)
    (case k19 => k_is)
    (case a20 => k_is)
    (case l20 => k_is)
    (case c20 => k_is)
    (case k20 => k_is)
    (case a21 => k_is)
    (case l21 => k_is)
    (case c21 => k_is)
    (case k21 => k_is)
    (case a22 => k_is)
    (case l22 => k_is)
    (case c22 => k_is)
    (case k22 => k_is)
    (case a23 => k_is)
    (case l23 => k_is)
    (case c23 => k_is)
    (case k23 => k_is)
    (case a24 => k_is)
    (case l24 => k_is)
    (case c24 => k_is)
    (case k24 => k_is)
    (case a25 => k_is)
    (case l25 => k_is)
    (case c25 => k_is)
    (case k25 => k_is)
    (case a26 => k_is)
    (case l26 => k_is)
    (case c26 => k_is)
    (case k26 => k_is)
    (case a27 => k_is)
    (case l27 => k_is)
    (case c27 => k_is)
    (case k27 => k_is)
    (case a28 => k_is)
    (case l28 => k_is)
    (case c28 => k_is)
    (case k28 => k_is)
    (case z_range => k_is)
    (case z_len => k_is)
    (case z_int => k_is)
    (case z_list => k_is)
    (case z_tuple => k_is)
    (case z_min => k_is)
    (case z_max => k_is)
    (case z_isinstance => k_is)
    (case z_bool => k_is)
    (case z_LONGEST => k_is)
    (case z_lcm => k_is)
