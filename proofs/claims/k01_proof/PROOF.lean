import PyProof.Rows.All
import Wide.All
import OpenK.AllK
import Wide.FinOn
import HandS.ForMost
import HandS.Evl
import HandS.TupAny
import HandS.TupMul
import HandS.Style
import HandS.Deep
import HandS.IsInst
import HandS.Conv
import HandS.Flow
import HandS.StrMore
import PyProof.FactsAll.tuple_2
import HandS.Iter
import KE.GoesEnum
import HandS.SetFor
import HandS.ReCall
import PySem.Challenge.RW_sumsaid_k01_sayings
set_option Elab.async false
set_option linter.all false
set_option maxRecDepth 100000
set_option maxHeartbeats 1000000
namespace Fx
open PySem PySem.Spec PyProof.Rows L2 HT
/-! ### new tuples, and that no dict hangs on them -/
/-- what is asked of a new tuple's end -/
def Tn (H : Hp) (Q : VK) (ys : List V) : Prop := ∀ (p : Addr) (o : Obj), H p = none → o.dict = none → Q (.ref p) (upd H p (.frz o (.tup ys)))
section
variable {X : Cx} {pins : List (Addr × Obj)} {σ : L2.St} {H : Hp} {s : Shared}
/-- a tuple is laid at the heap's end -/
theorem lay_tup (I : Inv X pins σ H s) {ys : List V} {its : List Value} (r : Vals ys its) (hz : ys.length ≤ sizeLine) {Q : VK} (q : Tn H Q ys) (t' : Nat) :
    EP X pins σ Q (.ref s.heap.objs.size) { s with heap := s.heap.push { cls := .type "tuple", data := .seq its.toArray }, toks := t' } := by
  have e := Heap.get?_push_size s.heap (o := { cls := .type "tuple", data := .seq its.toArray }) rfl
  exact ⟨.ref s.heap.objs.size, _, I.laid (t' := t') (o := .frz { cls := .type "tuple", data := .seq its.toArray } (.tup ys)) (fun b ob k => Heap.get?_push_of_some _ k) (Nat.le_refl _) ⟨e, hz, its, r, IsTup.new _ _⟩, rfl, q _ _ (I.hok.fresh (Nat.le_refl _)) rfl⟩
end
section
variable {X : Cx} {es : List Expr} {t : TA} {pos : Pos}
def tTupP (t : TA) : TE := fun σ H Q => t σ H fun xs H1 => xs.length ≤ sizeLine ∧ Tn H1 Q xs
theorem pe_tupP {k : Nat} (h : PA X es t) : PE X (.Tuple es k pos) (tTupP t) :=
  ⟨fun pins s σ H Q I hq => wpAny_Tuple_spliced (thn (h.run pos pins s σ H _ I hq) fun us s1 ⟨xs, H1, I1, r, z, q⟩ => ⟨by rw [← r.length]; exact z, lay_tup I1 r z q s1.toks⟩)⟩
def rTupleP (K : PySem.W.Frag) : List V → Hp → VK → Prop := fun xs H Q => ∃ p ys, xs = [.ref p] ∧ ((SqL K H p ys ∧ Tn H Q ys) ∨ (SqT K H p ys ∧ Q (.ref p) H))
theorem call_tupleP : CallR X (.type "tuple") (rTupleP X.K) := by
  intro pins s σ H xs us Q I r ⟨p, ys, e, h⟩
  subst e
  obtain ⟨u, rfl, rx⟩ := vals1 r
  cases rx
  rcases h with ⟨hq, q⟩ | ⟨hq, q⟩
  · obtain ⟨its, r', pl, hz⟩ := I.list hq
    refine call_tuple_list pl.isList (fun h' kp => ?_) (by rw [List.size_toArray, ← r'.length]; exact hz)
    exact lay_tup (I.kept (t' := s.toks) kp) r' hz q s.toks
  · obtain ⟨its, _, pl, _⟩ := I.tuple hq
    exact call_tuple_same pl ⟨.ref p, H, I, rfl, q⟩
def rCatP (K : PySem.W.Frag) : R2 := fun x y H Q => ∃ a b xs ys, x = .ref a ∧ y = .ref b ∧ SqT K H a xs ∧ SqT K H b ys ∧ xs.length + ys.length ≤ sizeLine ∧
  (xs = [] → Q (.ref b) H) ∧ (xs ≠ [] → ys = [] → Q (.ref a) H) ∧ (xs ≠ [] → ys ≠ [] → Tn H Q (xs ++ ys))
theorem op_catP : OpR X (binaryOp .Add) (rCatP X.K) := by
  intro pins s σ H x y v u Q I rx ry ⟨a, b, xs, ys, ex, ey, ha, hb, hz, q0, q1, q2⟩
  subst ex ey
  cases rx
  cases ry
  obtain ⟨its, r1, p1, _⟩ := I.tuple ha
  obtain ⟨jts, r2, p2, _⟩ := I.tuple hb
  by_cases hx : xs = []
  · subst hx
    cases r1
    exact cat_tup0 p1 p2 ⟨.ref b, H, I, rfl, q0 rfl⟩
  · refine HT.cat_tup p1 p2 (fun z => hx (r1.nil_iff.mp z)) (fun z => ⟨.ref a, H, I, rfl, q1 hx (r2.nil_iff.mp z)⟩) (fun z => ?_) (by rw [← r1.length, ← r2.length]; exact hz)
    exact lay_tup I (r1.append r2) (by rw [List.length_append]; exact hz) (q2 hx fun w => z (r2.nil_iff.mpr w)) s.toks
def rSlP (K : PySem.W.Frag) : V → Option Int → Option Int → Hp → VK → Prop := fun x lo hi H Q => ∃ a xs, x = .ref a ∧ SqT K H a xs ∧
  (sIx xs.length 0 lo = 0 ∧ sIx xs.length xs.length hi = xs.length → Q (.ref a) H) ∧ (¬ (sIx xs.length 0 lo = 0 ∧ sIx xs.length xs.length hi = xs.length) → Tn H Q (cutV xs lo hi))
theorem sl_tupP : L2.SlR X (rSlP X.K) := by
  intro pins s σ H x v vl vu lo hi sl Q I rx hs pl pu ⟨a, xs, ex, hx, q1, q2⟩
  subst ex
  cases rx
  obtain ⟨its, r, ht, hz⟩ := I.tuple hx
  have hlen : its.toArray.size = xs.length := by rw [List.size_toArray]; exact r.length.symm
  refine ⟨"tuple", _, PyProof.Rows.slot_tuple_getitem.lookup, ht.typeIs, ?_⟩
  by_cases hw : sIx xs.length 0 lo = 0 ∧ sIx xs.length xs.length hi = xs.length
  · exact getItem_tuple_whole ht hs pl pu (by rw [hlen]; exact hw) ⟨.ref a, H, I, rfl, q1 hw⟩
  · refine HT.getItem_tuple_cut ht hs pl pu (by rw [hlen]; exact hw) ?_ (by rw [hlen]; exact hz)
    rw [hlen]
    exact lay_tup I ((r.drop (sIx xs.length 0 lo)).take (sIx xs.length xs.length hi - sIx xs.length 0 lo)) (Nat.le_trans (cutV_length xs lo hi) hz) (q2 hw) s.toks
def rRepP (K : PySem.W.Frag) : R2 := fun x y H Q => ∃ l k xs, x = .ref l ∧ y = .int k ∧ SqT K H l xs ∧ xs ≠ [] ∧ 2 ≤ k ∧ k ≤ 1000 ∧ xs.length ≤ 1000 ∧ Tn H Q (List.replicate k.toNat xs).flatten
theorem op_repP : OpR X (binaryOp .Mult) (rRepP X.K) := by
  intro pins s σ H x y v u Q I rx ry ⟨l, k, xs, ex, ey, hT, hne, h1, h2, hz, q⟩
  subst ex ey
  cases rx
  obtain ⟨t, rfl⟩ := ry
  obtain ⟨its, r, ⟨⟨cls, dd, data, sl⟩, ho, hc, n, hd⟩, hs⟩ := I.tuple hT
  simp only at hc hd
  subst hc hd
  have hle := r.length
  have hp : 0 < its.length := by
    rw [← hle]
    exact List.length_pos_iff.mpr hne
  have hi : its.toArray.isEmpty = false := by
    cases its with
    | nil => cases hp
    | cons _ _ => rfl
  have sz : its.toArray.size = xs.length := by rw [List.size_toArray]; exact hle.symm
  have m1 : ((its.toArray.size : Nat) : Int) * k ≤ 1000000 := by
    rw [sz]
    have := Int.mul_le_mul (show ((xs.length : Nat) : Int) ≤ 1000 by omega) h2 (by omega) (by omega)
    omega
  have m2 : k.toNat * xs.length ≤ 1000000 := Nat.le_trans (Nat.mul_le_mul (show k.toNat ≤ 1000 by omega) hz) (by omega)
  have fl : (List.replicate k.toNat xs).flatten.length ≤ sizeLine := by rw [PyProof.Rows.lm_len_rep_flat, sizeLine_eq]; omega
  have fl2 : (List.replicate k.toNat its).flatten.length ≤ sizeLine := by rw [PyProof.Rows.lm_len_rep_flat, ← hle, sizeLine_eq]; omega
  have c0 : (decide (k < -(2 ^ 63)) || decide (k ≥ 2 ^ 63)) = false := by rw [decide_eq_false (by omega), decide_eq_false (by omega)]; rfl
  have c1 : (its.toArray.isEmpty || k == 1) = false := by rw [hi, Bool.false_or]; exact beq_eq_false_iff_ne.mpr (by omega)
  have c2 : (decide (k ≤ 0) || its.toArray.isEmpty) = false := by rw [hi, Bool.or_false]; exact decide_eq_false (by omega)
  have c4 : Builtin.Tuple.tupleTooMany (((its.toArray.size : Nat) : Int) * k) = false := by
    unfold Builtin.Tuple.tupleTooMany
    rw [sizeLine_eq]
    exact decide_eq_false (by omega)
  refine wpAny_binaryOp_repeat_ref (T := "tuple") (U := "int") (by decide) ⟨_, ho, rfl⟩ (fun s' => typeIs_int s' k t) noFill_tuple_mul F.fills_int_mul F.slot_int_rmul repeat_tuple F.slot_int_index.lookup
    (call_meets F.slot_int_rmul (typeIs_int s k t) F.entry_int_rmul (F.args_int_rmul_2 _ _) (int_rmul_tuple k t l its.toArray n dd sl) ⟨ho, rfl, ⟨_, ho, rfl⟩, ?_⟩)
  refine call_meets PySem.F.slot_tuple_mul ⟨_, ho, rfl⟩ PySem.F.entry_tuple_mul (PySem.F.args_tuple_mul_2 _ _) (tuple_mulW l its.toArray n dd sl k t c0 c1 c2 (by omega) c4 (by rw [size_rep, List.size_toArray]; exact fl2)) ⟨ho, ?_⟩
  rw [size_rep]
  exact lay_tup I (r.rep k.toNat) fl q s.toks
def rDvmP : List V → Hp → VK → Prop := fun xs H Q => ∃ i j, xs = [.int i, .int j] ∧ CDiv i j ∧ Tn H Q [.int (i / j), .int (i % j)]
theorem call_divmodP : CallR X (.builtin "divmod") rDvmP := by
  intro pins s σ H xs us Q I r ⟨i, j, e, hc, q⟩
  subst e
  obtain ⟨u, u', rfl, ⟨t, rfl⟩, ⟨t', rfl⟩⟩ := vals2 r
  have hj : 0 < j := hc.1
  have hj2 := hc.2
  refine divmod_int (by omega) ?_ (.inl (PyProof.noPylong_small (by omega)))
  rw [Int.fdiv_eq_ediv_of_nonneg i (by omega), Int.fmod_eq_emod_of_nonneg i (by omega)]
  have r2 : Vals [V.int (i / j), V.int (i % j)] [Value.int (i / j) s.toks, Value.int (i % j) (s.toks + 1)] := .cons ⟨_, rfl⟩ (.cons ⟨_, rfl⟩ .nil)
  exact lay_tup I r2 (by show 2 ≤ sizeLine; rw [sizeLine_eq]; omega) q _
end
end Fx
namespace Fx
open PySem PySem.Spec PyProof.Rows L2
open Evl (Ex)

/-- a value as data; ob: the k-th of the objects that change -/
inductive D where
  | non | bl (b : Bool) | int (i : Int) | str (s : Str) | tup (ds : List D) | lst (ds : List D) | frl (ds : List D) | ob (k : Nat)
/-- an object that changes -/
inductive MO where
  | lst (ds : List D)
abbrev Tm := List MO

/-- a tuple that is tracked, or stands in the written part; no dict hangs on it -/
def TupK (K : PySem.W.Frag) (G : Hp) (a : Addr) (vs : List V) : Prop := (∃ o : Obj, G a = some (.frz o (.tup vs)) ∧ o.dict = none) ∨
  ∃ (o : Obj) (its : Array Value) (n : Nat), K.lookup a = some o ∧ o.cls = .type "tuple" ∧ o.data = .seq its n ∧ its.size ≤ sizeLine ∧ Vals vs its.toList ∧ o.dict = none
theorem TupK.seq {K : PySem.W.Frag} {G : Hp} {a : Addr} {vs : List V} (h : TupK K G a vs) : SqT K G a vs := by
  rcases h with ⟨o, h, _⟩ | ⟨o, its, n, h1, h2, h3, h4, h5, _⟩
  · exact .inl (.inr ⟨o, h⟩)
  · exact .inr ⟨o, its, n, h1, h2, h3, h4, h5⟩
theorem TupK.mono {K : PySem.W.Frag} {G H : Hp} {a : Addr} {vs : List V} (e : Ex G H) (h : TupK K G a vs) : TupK K H a vs := by
  rcases h with ⟨o, h, hd⟩ | h
  · exact .inl ⟨o, e _ _ h, hd⟩
  · exact .inr h
theorem TupK.new {K : PySem.W.Frag} {G : Hp} {a : Addr} {vs : List V} {o : Obj} (hd : o.dict = none) : TupK K (upd G a (.frz o (.tup vs))) a vs := .inl ⟨o, upd_same, hd⟩
mutual
inductive Rp (K : PySem.W.Frag) (G : Hp) (ad : List Addr) : V → D → Prop
  | non : Rp K G ad .non .non
  | bl (b : Bool) : Rp K G ad (.bl b) (.bl b)
  | int (i : Int) : Rp K G ad (.int i) (.int i)
  | str (s : Str) : Rp K G ad (.str s) (.str s)
  | tup {a : Addr} {vs : List V} {ds : List D} : TupK K G a vs → RpL K G ad vs ds → Rp K G ad (.ref a) (.tup ds)
  | lst {a : Addr} {vs : List V} {ds : List D} : G a = some (.lst vs) → RpL K G ad vs ds → Rp K G ad (.ref a) (.lst ds)
  | frl {a : Addr} {vs : List V} {ds : List D} : SqL K G a vs → RpL K G ad vs ds → Rp K G ad (.ref a) (.frl ds)
  | ob {a : Addr} {k : Nat} : ad[k]? = some a → Rp K G ad (.ref a) (.ob k)
inductive RpL (K : PySem.W.Frag) (G : Hp) (ad : List Addr) : List V → List D → Prop
  | nil : RpL K G ad [] []
  | cons {v : V} {vs : List V} {d : D} {ds : List D} : Rp K G ad v d → RpL K G ad vs ds → RpL K G ad (v :: vs) (d :: ds)
end

/-- what is known grows -/
def Pre (ad ad' : List Addr) : Prop := ∀ (k : Nat) (a : Addr), ad[k]? = some a → ad'[k]? = some a
theorem Pre.refl (ad : List Addr) : Pre ad ad := fun _ _ h => h
theorem Pre.trans {a b c : List Addr} (x : Pre a b) (y : Pre b c) : Pre a c := fun k e h => y k e (x k e h)
theorem Pre.mem {a b : List Addr} (x : Pre a b) {p : Addr} (h : p ∈ a) : p ∈ b := by
  obtain ⟨k, hk⟩ := List.mem_iff_getElem?.mp h
  exact List.mem_iff_getElem?.mpr ⟨k, x k p hk⟩

section
variable {K : PySem.W.Frag} {G G' : Hp} {ad ad' : List Addr}
mutual
theorem Rp.mono (e : Ex G G') (p : Pre ad ad') : ∀ {v : V} {d : D}, Rp K G ad v d → Rp K G' ad' v d
  | _, _, .non => .non
  | _, _, .bl b => .bl b
  | _, _, .int i => .int i
  | _, _, .str s => .str s
  | _, _, .tup h t => .tup (h.mono e) (RpL.mono e p t)
  | _, _, .lst h t => .lst (e _ _ h) (RpL.mono e p t)
  | _, _, .frl h t => .frl (Evl.ex_l e h) (RpL.mono e p t)
  | _, _, .ob h => .ob (p _ _ h)
theorem RpL.mono (e : Ex G G') (p : Pre ad ad') : ∀ {vs : List V} {ds : List D}, RpL K G ad vs ds → RpL K G' ad' vs ds
  | _, _, .nil => .nil
  | _, _, .cons h t => .cons (Rp.mono e p h) (RpL.mono e p t)
end
theorem RpL.length : ∀ {vs : List V} {ds : List D}, RpL K G ad vs ds → vs.length = ds.length
  | _, _, .nil => rfl
  | _, _, .cons _ t => by rw [List.length_cons, List.length_cons, RpL.length t]
theorem RpL.get : ∀ {vs : List V} {ds : List D} {i : Nat} {d : D}, RpL K G ad vs ds → ds[i]? = some d → ∃ v, vs[i]? = some v ∧ Rp K G ad v d
  | _, _, _, _, .nil, h => by simp at h
  | _, _, 0, _, .cons h _, e => by
    simp only [List.getElem?_cons_zero, Option.some.injEq] at e
    subst e
    exact ⟨_, by simp, h⟩
  | _, _, i + 1, _, .cons _ t, e => by
    simp only [List.getElem?_cons_succ] at e
    obtain ⟨v, h1, h2⟩ := RpL.get t e
    exact ⟨v, by simpa using h1, h2⟩
theorem RpL.getV : ∀ {vs : List V} {ds : List D} {i : Nat} {v : V}, RpL K G ad vs ds → vs[i]? = some v → ∃ d, ds[i]? = some d ∧ Rp K G ad v d
  | _, _, _, _, .nil, h => by simp at h
  | _, _, 0, _, .cons h _, e => by
    simp only [List.getElem?_cons_zero, Option.some.injEq] at e
    subst e
    exact ⟨_, by simp, h⟩
  | _, _, i + 1, _, .cons _ t, e => by
    simp only [List.getElem?_cons_succ] at e
    obtain ⟨v, h1, h2⟩ := RpL.getV t e
    exact ⟨v, by simpa using h1, h2⟩
theorem RpL.append : ∀ {vs ws : List V} {ds es : List D}, RpL K G ad vs ds → RpL K G ad ws es → RpL K G ad (vs ++ ws) (ds ++ es)
  | _, _, _, _, .nil, h => h
  | _, _, _, _, .cons h t, k => .cons h (RpL.append t k)
theorem RpL.take : ∀ {vs : List V} {ds : List D} (n : Nat), RpL K G ad vs ds → RpL K G ad (vs.take n) (ds.take n)
  | _, _, 0, _ => .nil
  | _, _, _ + 1, .nil => .nil
  | _, _, n + 1, .cons h t => .cons h (RpL.take n t)
theorem RpL.drop : ∀ {vs : List V} {ds : List D} (n : Nat), RpL K G ad vs ds → RpL K G ad (vs.drop n) (ds.drop n)
  | _, _, 0, h => h
  | _, _, _ + 1, .nil => .nil
  | _, _, n + 1, .cons _ t => RpL.drop n t
theorem RpL.set {v : V} {d : D} (r : Rp K G ad v d) : ∀ {vs : List V} {ds : List D} (n : Nat), RpL K G ad vs ds → RpL K G ad (vs.set n v) (ds.set n d)
  | _, _, _, .nil => .nil
  | _, _, 0, .cons _ t => .cons r t
  | _, _, n + 1, .cons h t => .cons h (RpL.set r n t)
theorem RpL.reverse {vs : List V} {ds : List D} (h : RpL K G ad vs ds) : RpL K G ad vs.reverse ds.reverse := by
  induction vs generalizing ds with
  | nil => cases h; exact .nil
  | cons v vs ih =>
    cases h with
    | cons a b =>
      rw [List.reverse_cons, List.reverse_cons]
      exact (ih b).append (.cons a .nil)
theorem RpL.rep {vs : List V} {ds : List D} (h : RpL K G ad vs ds) : ∀ n : Nat, RpL K G ad (List.replicate n vs).flatten (List.replicate n ds).flatten
  | 0 => .nil
  | n + 1 => by
    rw [List.replicate_succ, List.replicate_succ, List.flatten_cons, List.flatten_cons]
    exact h.append (RpL.rep h n)
theorem Rp.inv_int {v : V} {i : Int} (h : Rp K G ad v (.int i)) : v = .int i := by cases h; rfl
theorem Rp.inv_bl {v : V} {b : Bool} (h : Rp K G ad v (.bl b)) : v = .bl b := by cases h; rfl
theorem Rp.inv_non {v : V} (h : Rp K G ad v .non) : v = .non := by cases h; rfl
theorem Rp.inv_str {v : V} {s : Str} (h : Rp K G ad v (.str s)) : v = .str s := by cases h; rfl
theorem Rp.inv_tup {v : V} {ds : List D} (h : Rp K G ad v (.tup ds)) : ∃ a vs, v = .ref a ∧ TupK K G a vs ∧ RpL K G ad vs ds := by cases h; exact ⟨_, _, rfl, by assumption, by assumption⟩
theorem Rp.inv_lst {v : V} {ds : List D} (h : Rp K G ad v (.lst ds)) : ∃ a vs, v = .ref a ∧ G a = some (.lst vs) ∧ RpL K G ad vs ds := by cases h; exact ⟨_, _, rfl, by assumption, by assumption⟩
theorem Rp.inv_frl {v : V} {ds : List D} (h : Rp K G ad v (.frl ds)) : ∃ a vs, v = .ref a ∧ SqL K G a vs ∧ RpL K G ad vs ds := by cases h; exact ⟨_, _, rfl, by assumption, by assumption⟩
theorem Rp.inv_ob {v : V} {k : Nat} (h : Rp K G ad v (.ob k)) : ∃ a, v = .ref a ∧ ad[k]? = some a := by cases h; exact ⟨_, rfl, by assumption⟩
end

/-! ### where one stands -/
/-- a def's entry -/
structure Zc where
  Ge : Hp
  He : Hp
  ad0 : List Addr

inductive Sl where
  | un | dat (d : D) | own (ds : List D)
abbrev Rho := List Sl

structure Iv (K : PySem.W.Frag) (Z : Zc) (G : Hp) (ad : List Addr) (T : Tm) (H : Hp) : Prop where
  ex : Ex G H
  out : ∀ a ∈ ad, G a = none
  nd : ad.Nodup
  len : ad.length = T.length
  obj : ∀ (k : Nat) (a : Addr) (ds : List D), ad[k]? = some a → T[k]? = some (MO.lst ds) → ∃ vs, H a = some (.lst vs) ∧ RpL K G ad vs ds
  gex : Ex Z.Ge G
  pre : Pre Z.ad0 ad
  frame : ∀ b o, Z.He b = some o → b ∉ Z.ad0 → H b = some o
  newG : ∀ b o, G b = some o → Z.Ge b = some o ∨ Z.He b = none
  newA : ∀ a, a ∈ ad → a ∈ Z.ad0 ∨ Z.He a = none

def SlR (K : PySem.W.Frag) (Z : Zc) (G : Hp) (ad : List Addr) (σ : L2.St) (H : Hp) (pa : Nat → Addr) (i : Nat) : Sl → Prop
  | .un => True
  | .dat d => ∃ v, σ[i]? = some (some v) ∧ Rp K G ad v d
  | .own ds => ∃ vs, σ[i]? = some (some (.ref (pa i))) ∧ H (pa i) = some (.lst vs) ∧ RpL K G ad vs ds ∧ G (pa i) = none ∧ pa i ∉ ad ∧ Z.He (pa i) = none

def paS (pa : Nat → Addr) (i : Nat) (p : Addr) : Nat → Addr := fun j => if j = i then p else pa j
theorem paS_same {pa : Nat → Addr} {i : Nat} {p : Addr} : paS pa i p i = p := if_pos rfl
theorem paS_ne {pa : Nat → Addr} {i j : Nat} {p : Addr} (h : j ≠ i) : paS pa i p j = pa j := if_neg h

structure En (K : PySem.W.Frag) (Z : Zc) (G : Hp) (ad : List Addr) (T : Tm) (ρ : Rho) (σ : L2.St) (H : Hp) (pa : Nat → Addr) : Prop where
  iv : Iv K Z G ad T H
  hl : ρ.length = σ.length
  env : ∀ i s, ρ[i]? = some s → SlR K Z G ad σ H pa i s
  ne : ∀ (i j : Nat) (ds es : List D), ρ[i]? = some (Sl.own ds) → ρ[j]? = some (Sl.own es) → i ≠ j → pa i ≠ pa j

section
variable {K : PySem.W.Frag} {Z : Zc} {G G' : Hp} {ad ad' : List Addr} {T T' : Tm} {ρ : Rho} {σ : L2.St} {H H' : Hp} {pa : Nat → Addr}
theorem Iv.at (I : Iv K Z G ad T H) {a : Addr} (h : a ∈ ad) : ∃ vs, H a = some (.lst vs) := by
  obtain ⟨k, hk⟩ := List.mem_iff_getElem?.mp h
  have hl : k < T.length := by
    rw [← I.len]
    exact (List.getElem?_eq_some_iff.mp hk).1
  cases e : T[k] with
  | lst ds =>
    obtain ⟨vs, h1, _⟩ := I.obj k a ds hk (by rw [List.getElem?_eq_getElem hl, e])
    exact ⟨vs, h1⟩
theorem Iv.fresh (I : Iv K Z G ad T H) {p : Addr} (hp : H p = none) : p ∉ ad := fun h => by
  obtain ⟨vs, e⟩ := I.at h
  rw [hp] at e
  cases e
theorem Iv.freshG (I : Iv K Z G ad T H) {p : Addr} (hp : H p = none) : G p = none := Evl.fresh_back I.ex hp
theorem Iv.freshE (I : Iv K Z G ad T H) {p : Addr} (hp : H p = none) : Z.He p = none := by
  cases e : Z.He p with
  | none => rfl
  | some o =>
    by_cases hm : p ∈ Z.ad0
    · exact absurd (I.pre.mem hm) (I.fresh hp)
    · have := I.frame p o e hm
      rw [hp] at this
      cases this
/-- a new object, known from now on -/
theorem Iv.know (I : Iv K Z G ad T H) {p : Addr} (hp : H p = none) (o : HO) : Iv K Z (upd G p o) ad T (upd H p o) where
  ex := fun a u e => by
    by_cases h : a = p
    · subst h
      rw [upd_same] at e
      rw [upd_same]
      exact e
    · rw [upd_ne h] at e
      rw [upd_ne h]
      exact I.ex a u e
  out := fun a ha => by
    have : a ≠ p := fun e => I.fresh hp (e ▸ ha)
    rw [upd_ne this]
    exact I.out a ha
  nd := I.nd
  len := I.len
  obj := fun k a ds h1 h2 => by
    obtain ⟨vs, h3, h4⟩ := I.obj k a ds h1 h2
    have : a ≠ p := fun e => I.fresh hp (e ▸ List.mem_of_getElem? h1)
    exact ⟨vs, by rw [upd_ne this]; exact h3, h4.mono (Ex.new (I.freshG hp)) (Pre.refl _)⟩
  gex := I.gex.trans (Ex.new (I.freshG hp))
  pre := I.pre
  frame := fun b o' h1 h2 => by
    have h3 := I.frame b o' h1 h2
    rw [upd_ne (ne_of_none h3 hp)]
    exact h3
  newG := fun b u e => by
    by_cases h : b = p
    · subst h
      exact .inr (I.freshE hp)
    · rw [upd_ne h] at e
      exact I.newG b u e
  newA := I.newA
/-- a new list of one's own -/
theorem Iv.mine (I : Iv K Z G ad T H) {p : Addr} (hp : G p = none) (ha : p ∉ ad) (he : Z.He p = none) (o : HO) : Iv K Z G ad T (upd H p o) where
  ex := Ex.mut I.ex hp
  out := I.out
  nd := I.nd
  len := I.len
  obj := fun k a ds h1 h2 => by
    obtain ⟨vs, h3, h4⟩ := I.obj k a ds h1 h2
    have : a ≠ p := fun e => ha (e ▸ List.mem_of_getElem? h1)
    exact ⟨vs, by rw [upd_ne this]; exact h3, h4⟩
  gex := I.gex
  pre := I.pre
  frame := fun b o' h1 h2 => by
    rw [upd_ne (ne_of_none h1 he)]
    exact I.frame b o' h1 h2
  newG := I.newG
  newA := I.newA
/-- an object that changes is written -/
theorem Iv.put (I : Iv K Z G ad T H) {k : Nat} {a : Addr} (hk : ad[k]? = some a) {vs : List V} {ds : List D} (hr : RpL K G ad vs ds) : Iv K Z G ad (T.set k (.lst ds)) (upd H a (.lst vs)) where
  ex := Ex.mut I.ex (I.out a (List.mem_of_getElem? hk))
  out := I.out
  nd := I.nd
  len := by rw [List.length_set]; exact I.len
  obj := fun j b es h1 h2 => by
    by_cases h : j = k
    · subst h
      rw [hk] at h1
      cases h1
      have hj : j < T.length := by
        rw [← I.len]
        exact (List.getElem?_eq_some_iff.mp hk).1
      rw [List.getElem?_set_self hj] at h2
      cases h2
      exact ⟨vs, upd_same, hr⟩
    · rw [List.getElem?_set_ne (Ne.symm h)] at h2
      obtain ⟨ws, h3, h4⟩ := I.obj j b es h1 h2
      have : b ≠ a := fun e => by
        subst e
        obtain ⟨i1, e1⟩ := List.getElem?_eq_some_iff.mp h1
        obtain ⟨i2, e2⟩ := List.getElem?_eq_some_iff.mp hk
        exact h ((List.getElem_inj I.nd).mp (e1.trans e2.symm))
      exact ⟨ws, by rw [upd_ne this]; exact h3, h4⟩
  gex := I.gex
  pre := I.pre
  frame := fun b o' h1 h2 => by
    have : b ≠ a := fun e => by
      subst e
      rcases I.newA b (List.mem_of_getElem? hk) with q | q
      · exact h2 q
      · rw [q] at h1
        cases h1
    rw [upd_ne this]
    exact I.frame b o' h1 h2
  newG := I.newG
  newA := I.newA
/-- a new list becomes an object that changes -/
theorem Iv.join (I : Iv K Z G ad T H) {p : Addr} (hp : G p = none) (ha : p ∉ ad) (he : Z.He p = none) {vs : List V} {ds : List D} (hH : H p = some (.lst vs)) (hr : RpL K G ad vs ds) : Iv K Z G (ad ++ [p]) (T ++ [.lst ds]) H := by
  have pr : Pre ad (ad ++ [p]) := fun k a h => by
    rw [List.getElem?_append_left (List.getElem?_eq_some_iff.mp h).1]
    exact h
  refine ⟨I.ex, fun a h => ?_, ?_, ?_, fun k a es h1 h2 => ?_, I.gex, I.pre.trans pr, I.frame, I.newG, fun a h => ?_⟩
  · rcases List.mem_append.mp h with h | h
    · exact I.out a h
    · rw [List.mem_singleton.mp h]
      exact hp
  · rw [List.nodup_append]
    refine ⟨I.nd, by simp, fun a h b h' e => ?_⟩
    rw [List.mem_singleton.mp h'] at e
    exact ha (e ▸ h)
  · rw [List.length_append, List.length_append, I.len]
    rfl
  · by_cases hk : k < ad.length
    · rw [List.getElem?_append_left hk] at h1
      rw [List.getElem?_append_left (by rw [← I.len]; exact hk)] at h2
      obtain ⟨ws, h3, h4⟩ := I.obj k a es h1 h2
      exact ⟨ws, h3, h4.mono (Ex.refl _) pr⟩
    · have hk' : ad.length ≤ k := Nat.le_of_not_lt hk
      rw [List.getElem?_append_right hk'] at h1
      rw [List.getElem?_append_right (by rw [← I.len]; exact hk'), ← I.len] at h2
      have e0 : k - ad.length = 0 := by
        have := (List.getElem?_eq_some_iff.mp h1).1
        simp at this
        omega
      rw [e0] at h1 h2
      simp at h1 h2
      subst h1 h2
      exact ⟨vs, hH, hr.mono (Ex.refl _) pr⟩
  · rcases List.mem_append.mp h with h | h
    · exact I.newA a h
    · rw [List.mem_singleton.mp h]
      exact .inr he

theorem SlR.mono {i : Nat} {s : Sl} (h : SlR K Z G ad σ H pa i s) (e : Ex G G') (p : Pre ad ad')
    (hown : ∀ vs, H (pa i) = some (.lst vs) → G (pa i) = none → pa i ∉ ad → Z.He (pa i) = none → H' (pa i) = some (.lst vs) ∧ G' (pa i) = none ∧ pa i ∉ ad') : SlR K Z G' ad' σ H' pa i s := by
  cases s with
  | un => trivial
  | dat d =>
    obtain ⟨v, h1, h2⟩ := h
    exact ⟨v, h1, h2.mono e p⟩
  | own ds =>
    obtain ⟨vs, h1, h2, h3, h4, h5, h6⟩ := h
    obtain ⟨q1, q2, q3⟩ := hown vs h2 h4 h5 h6
    exact ⟨vs, h1, q1, h3.mono e p, q2, q3, h6⟩
theorem En.know (N : En K Z G ad T ρ σ H pa) {p : Addr} (hp : H p = none) (o : HO) : En K Z (upd G p o) ad T ρ σ (upd H p o) pa where
  iv := N.iv.know hp o
  hl := N.hl
  env := fun i s h => (N.env i s h).mono (Ex.new (N.iv.freshG hp)) (Pre.refl _) fun vs h1 h2 h3 _ => by
    have : pa i ≠ p := ne_of_none h1 hp
    rw [upd_ne this, upd_ne this]
    exact ⟨h1, h2, h3⟩
  ne := N.ne
theorem En.put (N : En K Z G ad T ρ σ H pa) {k : Nat} {a : Addr} (hk : ad[k]? = some a) {vs : List V} {ds : List D} (hr : RpL K G ad vs ds) : En K Z G ad (T.set k (.lst ds)) ρ σ (upd H a (.lst vs)) pa where
  iv := N.iv.put hk hr
  hl := N.hl
  env := fun i s h => (N.env i s h).mono (Ex.refl _) (Pre.refl _) fun ws h1 h2 h3 _ => by
    have : pa i ≠ a := fun e => h3 (e ▸ List.mem_of_getElem? hk)
    rw [upd_ne this]
    exact ⟨h1, h2, h3⟩
  ne := N.ne
/-- a slot gets data -/
theorem En.setD (N : En K Z G ad T ρ σ H pa) (i : Nat) {v : V} {d : D} (r : Rp K G ad v d) : En K Z G ad T (ρ.set i (.dat d)) (σ.set i (some v)) H pa where
  iv := N.iv
  hl := by rw [List.length_set, List.length_set]; exact N.hl
  env := fun j s h => by
    by_cases hj : i = j
    · subst hj
      by_cases hi : i < ρ.length
      · rw [List.getElem?_set_self hi] at h
        cases h
        exact ⟨v, by rw [List.getElem?_set_self (by rw [← N.hl]; exact hi)], r⟩
      · rw [List.getElem?_eq_none (by rw [List.length_set]; omega)] at h
        cases h
    · rw [List.getElem?_set_ne hj] at h
      have q := N.env j s h
      cases s with
      | un => trivial
      | dat d =>
        obtain ⟨w, h1, h2⟩ := q
        exact ⟨w, by rw [List.getElem?_set_ne hj]; exact h1, h2⟩
      | own ds =>
        obtain ⟨vs, h1, h2⟩ := q
        exact ⟨vs, by rw [List.getElem?_set_ne hj]; exact h1, h2⟩
  ne := fun j k ds es h1 h2 hn => by
    have f : ∀ (m : Nat) (xs : List D), (ρ.set i (Sl.dat d))[m]? = some (Sl.own xs) → ρ[m]? = some (Sl.own xs) := fun m xs h => by
      by_cases hm : i = m
      · subst hm
        by_cases hi : i < ρ.length
        · rw [List.getElem?_set_self hi] at h
          cases h
        · rw [List.getElem?_eq_none (by rw [List.length_set]; omega)] at h
          cases h
      · rw [List.getElem?_set_ne hm] at h
        exact h
    exact N.ne j k ds es (f _ _ h1) (f _ _ h2) hn
/-- a slot gets a new list -/
theorem En.setO (N : En K Z G ad T ρ σ H pa) (i : Nat) {p : Addr} {vs : List V} {ds : List D} (hp : H p = none) (r : RpL K G ad vs ds) :
    En K Z G ad T (ρ.set i (.own ds)) (σ.set i (some (.ref p))) (upd H p (.lst vs)) (paS pa i p) where
  iv := N.iv.mine (N.iv.freshG hp) (N.iv.fresh hp) (N.iv.freshE hp) _
  hl := by rw [List.length_set, List.length_set]; exact N.hl
  env := fun j s h => by
    by_cases hj : i = j
    · subst hj
      by_cases hi : i < ρ.length
      · rw [List.getElem?_set_self hi] at h
        cases h
        refine ⟨vs, ?_, ?_, r, ?_, ?_, ?_⟩
        · rw [List.getElem?_set_self (by rw [← N.hl]; exact hi), paS_same]
        · rw [paS_same]; exact upd_same
        · rw [paS_same]; exact N.iv.freshG hp
        · rw [paS_same]; exact N.iv.fresh hp
        · rw [paS_same]; exact N.iv.freshE hp
      · rw [List.getElem?_eq_none (by rw [List.length_set]; omega)] at h
        cases h
    · rw [List.getElem?_set_ne hj] at h
      have q := N.env j s h
      have hj' : j ≠ i := Ne.symm hj
      cases s with
      | un => trivial
      | dat d =>
        obtain ⟨w, h1, h2⟩ := q
        exact ⟨w, by rw [List.getElem?_set_ne hj]; exact h1, h2⟩
      | own es =>
        obtain ⟨ws, h1, h2, h3, h4, h5, h6⟩ := q
        refine ⟨ws, ?_, ?_, h3, ?_, ?_, ?_⟩
        · rw [List.getElem?_set_ne hj, paS_ne hj']; exact h1
        · rw [paS_ne hj', upd_ne (ne_of_none h2 hp)]; exact h2
        · rw [paS_ne hj']; exact h4
        · rw [paS_ne hj']; exact h5
        · rw [paS_ne hj']; exact h6
  ne := fun j k es fs h1 h2 hn => by
    have f : ∀ (m : Nat) (xs : List D), m ≠ i → (ρ.set i (Sl.own ds))[m]? = some (Sl.own xs) → ρ[m]? = some (Sl.own xs) := fun m xs hm h => by
      rw [List.getElem?_set_ne (Ne.symm hm)] at h
      exact h
    have g : ∀ (m : Nat) (xs : List D), ρ[m]? = some (Sl.own xs) → pa m ≠ p := fun m xs h => by
      obtain ⟨ws, _, q, _⟩ := N.env m _ h
      exact ne_of_none q hp
    show paS pa i p j ≠ paS pa i p k
    by_cases e1 : j = i
    · by_cases e2 : k = i
      · exact absurd (e1.trans e2.symm) hn
      · rw [e1, paS_same, paS_ne e2]
        exact (g k fs (f k fs e2 h2)).symm
    · by_cases e2 : k = i
      · rw [e2, paS_same, paS_ne e1]
        exact g j es (f j es e1 h1)
      · rw [paS_ne e1, paS_ne e2]
        exact N.ne j k es fs (f j es e1 h1) (f k fs e2 h2) hn
/-- one's own list is written -/
theorem En.putO (N : En K Z G ad T ρ σ H pa) {i : Nat} {ds es : List D} {vs : List V} (hi : ρ[i]? = some (.own ds)) (r : RpL K G ad vs es) :
    En K Z G ad T (ρ.set i (.own es)) σ (upd H (pa i) (.lst vs)) pa := by
  obtain ⟨us, h1, h2, h3, h4, h5, h6⟩ := N.env i _ hi
  have hlt := (List.getElem?_eq_some_iff.mp hi).1
  refine ⟨N.iv.mine h4 h5 h6 _, by rw [List.length_set]; exact N.hl, fun j s h => ?_, fun j k es' fs h1' h2' hn => ?_⟩
  · by_cases hj : i = j
    · subst hj
      rw [List.getElem?_set_self hlt] at h
      cases h
      exact ⟨vs, h1, upd_same, r, h4, h5, h6⟩
    · rw [List.getElem?_set_ne hj] at h
      have q := N.env j s h
      cases s with
      | un => trivial
      | dat d => exact q
      | own fs =>
        obtain ⟨ws, q1, q2, q3, q4, q5, q6⟩ := q
        exact ⟨ws, q1, by rw [upd_ne (Ne.symm (N.ne i j _ _ hi h hj))]; exact q2, q3, q4, q5, q6⟩
  · have f : ∀ (m : Nat) (xs : List D), (ρ.set i (Sl.own es))[m]? = some (Sl.own xs) → ∃ ys, ρ[m]? = some (Sl.own ys) := fun m xs h => by
      by_cases hm : i = m
      · subst hm
        exact ⟨_, hi⟩
      · rw [List.getElem?_set_ne hm] at h
        exact ⟨_, h⟩
    obtain ⟨a, ha⟩ := f _ _ h1'
    obtain ⟨b, hb⟩ := f _ _ h2'
    exact N.ne j k a b ha hb hn
end
end Fx
namespace Fx
open PySem PySem.Spec PyProof.Rows L2
open Evl (Ex)

/-! ### functional steps -/
def bindF {α β : Type} (o : Option (α × Tm)) (k : α → Tm → Option β) : Option β := match o with
  | none => none
  | some (a, T) => k a T
@[simp] theorem bindF_some {α β : Type} (a : α) (T : Tm) (k : α → Tm → Option β) : bindF (some (a, T)) k = k a T := rfl
@[simp] theorem bindF_none {α β : Type} (k : α → Tm → Option β) : bindF none k = none := rfl
theorem bindF_eq {α β : Type} {o : Option (α × Tm)} {k : α → Tm → Option β} {b : β} (h : bindF o k = some b) : ∃ a T, o = some (a, T) ∧ k a T = some b := by
  cases o with
  | none => cases h
  | some p => exact ⟨p.1, p.2, rfl, h⟩
abbrev FE := Rho → Tm → Option (D × Tm)
abbrev FT := Rho → Tm → Option (Bool × Tm)
abbrev FA := Rho → Tm → Option (List D × Tm)
inductive Rz where
  | nx (ρ : Rho) | rt (d : D) | bk (ρ : Rho) | ct (ρ : Rho)
abbrev FS := Rho → Tm → Option (Rz × Tm)
/-- an operand: data, or one's own list -/
inductive Op where
  | val (d : D) | own (i : Nat) (ds : List D)
abbrev FO := Rho → Tm → Option (Op × Tm)

/-- what a step leaves as it is -/
structure Gr (G : Hp) (ad : List Addr) (H : Hp) (G' : Hp) (ad' : List Addr) (H' : Hp) : Prop where
  ex : Ex G G'
  pr : Pre ad ad'
  fr : ∀ b o, H b = some o → b ∉ ad → H' b = some o
  nG : ∀ b o, G' b = some o → G b = some o ∨ H b = none
  nA : ∀ a, a ∈ ad' → a ∈ ad ∨ H a = none
theorem Gr.refl (G : Hp) (ad : List Addr) (H : Hp) : Gr G ad H G ad H := ⟨Ex.refl _, Pre.refl _, fun _ _ h _ => h, fun _ _ h => .inl h, fun _ h => .inl h⟩
theorem Gr.back {G G' H H' : Hp} {ad ad' : List Addr} (x : Gr G ad H G' ad' H') (hat : ∀ a, a ∈ ad' → ∃ o, H' a = some o) {b : Addr} (h : H' b = none) : H b = none := by
  cases e : H b with
  | none => rfl
  | some o =>
    by_cases hb : b ∈ ad
    · obtain ⟨o', q⟩ := hat b (x.pr.mem hb)
      rw [h] at q
      cases q
    · have := x.fr b o e hb
      rw [h] at this
      cases this
theorem Gr.trans {G G1 G2 H H1 H2 : Hp} {ad ad1 ad2 : List Addr} (x : Gr G ad H G1 ad1 H1) (y : Gr G1 ad1 H1 G2 ad2 H2) (hat : ∀ a, a ∈ ad1 → ∃ o, H1 a = some o) : Gr G ad H G2 ad2 H2 where
  ex := x.ex.trans y.ex
  pr := x.pr.trans y.pr
  fr := fun b o h hb => y.fr b o (x.fr b o h hb) fun hm => by
    rcases x.nA b hm with q | q
    · exact hb q
    · rw [h] at q
      cases q
  nG := fun b o h => by
    rcases y.nG b o h with q | q
    · exact x.nG b o q
    · exact .inr (x.back hat q)
  nA := fun a h => by
    rcases y.nA a h with q | q
    · exact x.nA a q
    · exact .inr (x.back hat q)
/-- what is known behind -/
structure Nx (K : PySem.W.Frag) (Z : Zc) (G : Hp) (ad : List Addr) (H : Hp) (ρ : Rho) (σ : L2.St) (pa : Nat → Addr) (T' : Tm) (G' : Hp) (ad' : List Addr) (H' : Hp) : Prop where
  en : En K Z G' ad' T' ρ σ H' pa
  gr : Gr G ad H G' ad' H'
theorem Iv.ats {K : PySem.W.Frag} {Z : Zc} {G : Hp} {ad : List Addr} {T : Tm} {H : Hp} (I : Iv K Z G ad T H) : ∀ a, a ∈ ad → ∃ o, H a = some o := fun a h => by
  obtain ⟨vs, q⟩ := I.at h
  exact ⟨_, q⟩
theorem Nx.trans {K : PySem.W.Frag} {Z : Zc} {G G1 G2 : Hp} {ad ad1 ad2 : List Addr} {ρ : Rho} {σ : L2.St} {pa : Nat → Addr} {T1 T2 : Tm} {H H1 H2 : Hp}
    (a : Nx K Z G ad H ρ σ pa T1 G1 ad1 H1) (b : Nx K Z G1 ad1 H1 ρ σ pa T2 G2 ad2 H2) : Nx K Z G ad H ρ σ pa T2 G2 ad2 H2 := ⟨b.en, a.gr.trans b.gr a.en.iv.ats⟩
theorem En.nx {K : PySem.W.Frag} {Z : Zc} {G : Hp} {ad : List Addr} {T : Tm} {ρ : Rho} {σ : L2.St} {H : Hp} {pa : Nat → Addr} (N : En K Z G ad T ρ σ H pa) : Nx K Z G ad H ρ σ pa T G ad H := ⟨N, Gr.refl _ _ _⟩
theorem Nx.rp {K : PySem.W.Frag} {Z : Zc} {G G1 : Hp} {ad ad1 : List Addr} {ρ : Rho} {σ : L2.St} {pa : Nat → Addr} {T1 : Tm} {H H1 : Hp} (a : Nx K Z G ad H ρ σ pa T1 G1 ad1 H1) {v : V} {d : D} (r : Rp K G ad v d) : Rp K G1 ad1 v d := r.mono a.gr.ex a.gr.pr
theorem Nx.rpl {K : PySem.W.Frag} {Z : Zc} {G G1 : Hp} {ad ad1 : List Addr} {ρ : Rho} {σ : L2.St} {pa : Nat → Addr} {T1 : Tm} {H H1 : Hp} (a : Nx K Z G ad H ρ σ pa T1 G1 ad1 H1) {v : List V} {d : List D} (r : RpL K G ad v d) : RpL K G1 ad1 v d := r.mono a.gr.ex a.gr.pr

/-- what an expression's end is to be -/
def tD (K : PySem.W.Frag) (f : FE) : TE := fun σ H Q => ∃ Z G ad T ρ pa d T', En K Z G ad T ρ σ H pa ∧ f ρ T = some (d, T') ∧
  ∀ v G' ad' H', Nx K Z G ad H ρ σ pa T' G' ad' H' → Rp K G' ad' v d → Q v H'
def tDT (K : PySem.W.Frag) (f : FT) : TT := fun σ H Q => ∃ Z G ad T ρ pa b T', En K Z G ad T ρ σ H pa ∧ f ρ T = some (b, T') ∧
  ∀ G' ad' H', Nx K Z G ad H ρ σ pa T' G' ad' H' → Q b H'
def tDA (K : PySem.W.Frag) (f : FA) : TA := fun σ H Q => ∃ Z G ad T ρ pa ds T', En K Z G ad T ρ σ H pa ∧ f ρ T = some (ds, T') ∧
  ∀ vs G' ad' H', Nx K Z G ad H ρ σ pa T' G' ad' H' → RpL K G' ad' vs ds → Q vs H'
/-- a list of one's own at p, held by no name yet -/
structure Nw (K : PySem.W.Frag) (Z : Zc) (G : Hp) (ad : List Addr) (ρ : Rho) (pa : Nat → Addr) (H : Hp) (p : Addr) (ds : List D) : Prop where
  g : G p = none
  a : p ∉ ad
  h : Z.He p = none
  o : ∀ (i : Nat) (es : List D), ρ[i]? = some (.own es) → pa i ≠ p
  at_ : ∃ vs, H p = some (.lst vs) ∧ RpL K G ad vs ds
def tDL (K : PySem.W.Frag) (f : FA) : TE := fun σ H Q => ∃ Z G ad T ρ pa ds T', En K Z G ad T ρ σ H pa ∧ f ρ T = some (ds, T') ∧
  ∀ p G' ad' H', Nx K Z G ad H ρ σ pa T' G' ad' H' → Nw K Z G' ad' ρ pa H' p ds → H p = none → Q (.ref p) H'
def OpOk (K : PySem.W.Frag) (G : Hp) (ad : List Addr) (ρ : Rho) (pa : Nat → Addr) (v : V) : Op → Prop
  | .val d => Rp K G ad v d
  | .own i ds => ρ[i]? = some (.own ds) ∧ v = .ref (pa i)
def tDO (K : PySem.W.Frag) (f : FO) : TE := fun σ H Q => ∃ Z G ad T ρ pa o T', En K Z G ad T ρ σ H pa ∧ f ρ T = some (o, T') ∧
  ∀ v G' ad' H', Nx K Z G ad H ρ σ pa T' G' ad' H' → OpOk K G' ad' ρ pa v o → Q v H'
def EndD (K : PySem.W.Frag) (Z : Zc) (G : Hp) (ad : List Addr) (T' : Tm) (D0 : Ends) : Rz → Prop
  | .nx ρ' => ∀ σ' G' ad' H' pa', En K Z G' ad' T' ρ' σ' H' pa' → Ex G G' → Pre ad ad' → D0.nx σ' H'
  | .bk ρ' => ∀ σ' G' ad' H' pa', En K Z G' ad' T' ρ' σ' H' pa' → Ex G G' → Pre ad ad' → D0.bk σ' H'
  | .ct ρ' => ∀ σ' G' ad' H' pa', En K Z G' ad' T' ρ' σ' H' pa' → Ex G G' → Pre ad ad' → D0.ct σ' H'
  | .rt d => ∀ v G' ad' H', Iv K Z G' ad' T' H' → Ex G G' → Pre ad ad' → Rp K G' ad' v d → D0.rt v H'
def tDS (K : PySem.W.Frag) (g : FS) : TS := fun D0 σ H => ∃ Z G ad T ρ pa r T', En K Z G ad T ρ σ H pa ∧ g ρ T = some (r, T') ∧ EndD K Z G ad T' D0 r

abbrev XE (X : Cx) (e : Expr) (f : FE) : Prop := PE X e (tD X.K f)
abbrev XO (X : Cx) (e : Expr) (f : FO) : Prop := PE X e (tDO X.K f)
abbrev XL (X : Cx) (e : Expr) (f : FA) : Prop := PE X e (tDL X.K f)
abbrev XT (X : Cx) (e : Expr) (f : FT) : Prop := PT X e (tDT X.K f)
abbrev XW (X : Cx) (e : Expr) (f : FT) : Prop := PW X e (tDT X.K f)
abbrev XA (X : Cx) (es : List Expr) (f : FA) : Prop := PA X es (tDA X.K f)
abbrev XS (X : Cx) (st : Stmt) (g : FS) : Prop := PS X st (tDS X.K g)
abbrev XSs (X : Cx) (sts : List Stmt) (g : FS) : Prop := PSs X sts (tDS X.K g)

section
variable {X : Cx} {e : Expr} {st : Stmt} {sts : List Stmt}
theorem pe_weak {t t' : TE} (h : PE X e t) (k : ∀ σ H Q, t' σ H Q → t σ H Q) : PE X e t' := ⟨fun pins s σ H Q I hw => h.run pins s σ H Q I (k σ H Q hw)⟩
theorem pt_weak {t t' : TT} (h : PT X e t) (k : ∀ σ H Q, t' σ H Q → t σ H Q) : PT X e t' := ⟨fun pins s σ H Q I hw => h.run pins s σ H Q I (k σ H Q hw)⟩
theorem pw_weak {t t' : TT} (h : PW X e t) (k : ∀ σ H Q, t' σ H Q → t σ H Q) : PW X e t' := ⟨fun wh pins s σ H Q I hw => h.run wh pins s σ H Q I (k σ H Q hw)⟩
theorem pa_weak {es : List Expr} {t t' : TA} (h : PA X es t) (k : ∀ σ H Q, t' σ H Q → t σ H Q) : PA X es t' := ⟨fun pos pins s σ H Q I hw => h.run pos pins s σ H Q I (k σ H Q hw)⟩
theorem ps_weak {t t' : TS} (h : PS X st t) (k : ∀ D σ H, t' D σ H → t D σ H) : PS X st t' := ⟨fun pins s σ H D I hw => h.run pins s σ H D I (k D σ H hw)⟩
theorem pss_weak {t t' : TS} (h : PSs X sts t) (k : ∀ D σ H, t' D σ H → t D σ H) : PSs X sts t' := ⟨fun pins s σ H D I hw => h.run pins s σ H D I (k D σ H hw)⟩
end

section
variable {K : PySem.W.Frag} {Z : Zc} {G G' : Hp} {ad ad' : List Addr} {T T' : Tm} {ρ : Rho} {σ : L2.St} {H H' : Hp} {pa : Nat → Addr} {p : Addr} {ds : List D}
/-- a list that nobody changes any more -/
theorem Iv.learn (I : Iv K Z G ad T H) {o : HO} (g : G p = none) (a : p ∉ ad) (h : Z.He p = none) (hH : H p = some o) : Iv K Z (upd G p o) ad T H where
  ex := fun b u e => by
    by_cases hb : b = p
    · subst hb
      rw [upd_same] at e
      cases e
      exact hH
    · rw [upd_ne hb] at e
      exact I.ex b u e
  out := fun b hb => by
    have : b ≠ p := fun e => a (e ▸ hb)
    rw [upd_ne this]
    exact I.out b hb
  nd := I.nd
  len := I.len
  obj := fun k b es h1 h2 => by
    obtain ⟨vs, h3, h4⟩ := I.obj k b es h1 h2
    exact ⟨vs, h3, h4.mono (Ex.new g) (Pre.refl _)⟩
  gex := I.gex.trans (Ex.new g)
  pre := I.pre
  frame := I.frame
  newG := fun b u e => by
    by_cases hb : b = p
    · subst hb
      exact .inr h
    · rw [upd_ne hb] at e
      exact I.newG b u e
  newA := I.newA
theorem En.learn (N : En K Z G ad T ρ σ H pa) (w : Nw K Z G ad ρ pa H p ds) : ∃ G', En K Z G' ad T ρ σ H pa ∧ Ex G G' ∧ Rp K G' ad (.ref p) (.lst ds) ∧ (∀ b o, G' b = some o → G b = some o ∨ b = p) := by
  obtain ⟨vs, h1, h2⟩ := w.at_
  refine ⟨upd G p (.lst vs), ⟨N.iv.learn w.g w.a w.h h1, N.hl, fun i s h => ?_, N.ne⟩, Ex.new w.g, .lst upd_same (h2.mono (Ex.new w.g) (Pre.refl _)), fun b o hb => by
    by_cases e : b = p
    · exact .inr e
    · rw [upd_ne e] at hb
      exact .inl hb⟩
  have q := N.env i s h
  cases s with
  | un => trivial
  | dat d =>
    obtain ⟨v, q1, q2⟩ := q
    exact ⟨v, q1, q2.mono (Ex.new w.g) (Pre.refl _)⟩
  | own es =>
    obtain ⟨us, q1, q2, q3, q4, q5, q6⟩ := q
    exact ⟨us, q1, q2, q3.mono (Ex.new w.g) (Pre.refl _), by rw [upd_ne (w.o i es h)]; exact q4, q5, q6⟩
/-- a slot gets a list of one's own -/
theorem En.take (N : En K Z G ad T ρ σ H pa) (w : Nw K Z G ad ρ pa H p ds) (i : Nat) : En K Z G ad T (ρ.set i (.own ds)) (σ.set i (some (.ref p))) H (paS pa i p) := by
  obtain ⟨vs, hv, rv⟩ := w.at_
  refine ⟨N.iv, by rw [List.length_set, List.length_set]; exact N.hl, fun j s h => ?_, fun j k es fs h1 h2 hn => ?_⟩
  · by_cases hj : i = j
    · subst hj
      by_cases hi : i < ρ.length
      · rw [List.getElem?_set_self hi] at h
        cases h
        refine ⟨vs, ?_, ?_, rv, ?_, ?_, ?_⟩
        · rw [List.getElem?_set_self (by rw [← N.hl]; exact hi), paS_same]
        · rw [paS_same]; exact hv
        · rw [paS_same]; exact w.g
        · rw [paS_same]; exact w.a
        · rw [paS_same]; exact w.h
      · rw [List.getElem?_eq_none (by rw [List.length_set]; omega)] at h
        cases h
    · rw [List.getElem?_set_ne hj] at h
      have q := N.env j s h
      have hj' : j ≠ i := Ne.symm hj
      cases s with
      | un => trivial
      | dat d =>
        obtain ⟨x, h1, h2⟩ := q
        exact ⟨x, by rw [List.getElem?_set_ne hj]; exact h1, h2⟩
      | own es =>
        obtain ⟨ws, h1, h2, h3, h4, h5, h6⟩ := q
        refine ⟨ws, ?_, ?_, h3, ?_, ?_, ?_⟩
        · rw [List.getElem?_set_ne hj, paS_ne hj']; exact h1
        · rw [paS_ne hj']; exact h2
        · rw [paS_ne hj']; exact h4
        · rw [paS_ne hj']; exact h5
        · rw [paS_ne hj']; exact h6
  · have f : ∀ (m : Nat) (xs : List D), m ≠ i → (ρ.set i (Sl.own ds))[m]? = some (Sl.own xs) → ρ[m]? = some (Sl.own xs) := fun m xs hm h => by
      rw [List.getElem?_set_ne (Ne.symm hm)] at h
      exact h
    by_cases e1 : j = i
    · by_cases e2 : k = i
      · exact absurd (e1.trans e2.symm) hn
      · rw [e1, paS_same, paS_ne e2]
        exact (w.o k fs (f k fs e2 h2)).symm
    · by_cases e2 : k = i
      · rw [e2, paS_same, paS_ne e1]
        exact w.o j es (f j es e1 h1)
      · rw [paS_ne e1, paS_ne e2]
        exact N.ne j k es fs (f j es e1 h1) (f k fs e2 h2) hn
/-- it becomes an object that changes -/
theorem En.join (N : En K Z G ad T ρ σ H pa) (w : Nw K Z G ad ρ pa H p ds) : En K Z G (ad ++ [p]) (T ++ [.lst ds]) ρ σ H pa ∧ Pre ad (ad ++ [p]) ∧ Rp K G (ad ++ [p]) (.ref p) (.ob T.length) := by
  obtain ⟨vs, hv, rv⟩ := w.at_
  have pr : Pre ad (ad ++ [p]) := fun k a h => by
    rw [List.getElem?_append_left (List.getElem?_eq_some_iff.mp h).1]
    exact h
  refine ⟨⟨N.iv.join w.g w.a w.h hv rv, N.hl, fun i s h => ?_, N.ne⟩, pr, .ob ?_⟩
  · have q := N.env i s h
    cases s with
    | un => trivial
    | dat d =>
      obtain ⟨v, q1, q2⟩ := q
      exact ⟨v, q1, q2.mono (Ex.refl _) pr⟩
    | own es =>
      obtain ⟨us, q1, q2, q3, q4, q5, q6⟩ := q
      refine ⟨us, q1, q2, q3.mono (Ex.refl _) pr, q4, fun hm => ?_, q6⟩
      rcases List.mem_append.mp hm with hm | hm
      · exact q5 hm
      · exact w.o i es h (List.mem_singleton.mp hm)
  · rw [← N.iv.len]
    simp
/-- a new list just laid -/
theorem En.laid (N : En K Z G ad T ρ σ H pa) (hp : H p = none) {vs : List V} (r : RpL K G ad vs ds) : En K Z G ad T ρ σ (upd H p (.lst vs)) pa ∧ Nw K Z G ad ρ pa (upd H p (.lst vs)) p ds := by
  have ho : ∀ (i : Nat) (es : List D), ρ[i]? = some (.own es) → pa i ≠ p := fun i es h => by
    obtain ⟨ws, _, q, _⟩ := N.env i _ h
    exact ne_of_none q hp
  refine ⟨⟨N.iv.mine (N.iv.freshG hp) (N.iv.fresh hp) (N.iv.freshE hp) _, N.hl, fun i s h => ?_, N.ne⟩, ⟨N.iv.freshG hp, N.iv.fresh hp, N.iv.freshE hp, ho, vs, upd_same, r⟩⟩
  have q := N.env i s h
  cases s with
  | un => trivial
  | dat d => exact q
  | own es =>
    obtain ⟨us, q1, q2, q3⟩ := q
    exact ⟨us, q1, by rw [upd_ne (ho i es h)]; exact q2, q3⟩
/-- a slot is forgotten -/
theorem En.forget (N : En K Z G ad T ρ σ H pa) {σ' : L2.St} {ρ' : Rho} (hl : ρ'.length = σ'.length) (h : ∀ (i : Nat) (s : Sl), ρ'[i]? = some s → s = Sl.un ∨ (ρ[i]? = some s ∧ σ'[i]? = σ[i]?)) : En K Z G ad T ρ' σ' H pa := by
  refine ⟨N.iv, hl, fun i s hs => ?_, fun i j es fs h1 h2 hn => ?_⟩
  · rcases h i s hs with rfl | ⟨h1, h2⟩
    · trivial
    · have q := N.env i s h1
      cases s with
      | un => trivial
      | dat d =>
        obtain ⟨v, q1, q2⟩ := q
        exact ⟨v, h2.trans q1, q2⟩
      | own es =>
        obtain ⟨us, q1, q2⟩ := q
        exact ⟨us, h2.trans q1, q2⟩
  · rcases h i _ h1 with e | ⟨e1, _⟩
    · cases e
    · rcases h j _ h2 with e | ⟨e2, _⟩
      · cases e
      · exact N.ne i j es fs e1 e2 hn
end
end Fx
namespace Fx
open PySem PySem.Spec PyProof.Rows L2
open Evl (Ex)

section
variable {K : PySem.W.Frag} {Z : Zc} {G G' : Hp} {ad ad' : List Addr} {T T' : Tm} {ρ : Rho} {σ : L2.St} {H H' : Hp} {pa : Nat → Addr} {p : Addr} {ds : List D}
theorem En.knowN (N : En K Z G ad T ρ σ H pa) (hp : H p = none) (o : HO) : Nx K Z G ad H ρ σ pa T (upd G p o) ad (upd H p o) where
  en := N.know hp o
  gr := ⟨Ex.new (N.iv.freshG hp), Pre.refl _, fun b o' h _ => by rw [upd_ne (ne_of_none h hp)]; exact h, fun b o' h => by
    by_cases e : b = p
    · exact .inr (e ▸ hp)
    · rw [upd_ne e] at h
      exact .inl h, fun a h => .inl h⟩
theorem Nx.learn (x : Nx K Z G ad H ρ σ pa T' G' ad' H') (w : Nw K Z G' ad' ρ pa H' p ds) (hp : H p = none) : ∃ G2, Nx K Z G ad H ρ σ pa T' G2 ad' H' ∧ Ex G' G2 ∧ Rp K G2 ad' (.ref p) (.lst ds) := by
  obtain ⟨G2, N2, e2, r2, h2⟩ := x.en.learn w
  refine ⟨G2, ⟨N2, x.gr.ex.trans e2, x.gr.pr, x.gr.fr, fun b o h => ?_, x.gr.nA⟩, e2, r2⟩
  rcases h2 b o h with q | q
  · exact x.gr.nG b o q
  · exact .inr (q ▸ hp)
theorem Iv.tup (I : Iv K Z G ad T H) {a : Addr} {vs : List V} (h : TupK K G a vs) : SqT K H a vs := (h.mono I.ex).seq
theorem Iv.seq (I : Iv K Z G ad T H) {a : Addr} {vs : List V} (h : SqL K G a vs) : SqL K H a vs := Evl.ex_l I.ex h
end

/-! ### names, constants -/
def varF (i : Nat) : FE := fun ρ T => match ρ[i]? with
  | some (.dat d) => some (d, T)
  | _ => none
def varO (i : Nat) : FO := fun ρ T => match ρ[i]? with
  | some (.dat d) => some (.val d, T)
  | some (.own ds) => some (.own i ds, T)
  | _ => none
def constF (d : D) : FE := fun _ T => some (d, T)
section
variable {X : Cx} {a b c : Expr} {pos : Pos}
theorem xe_var (i : Nat) {x : Str} (h : PE X (.Name x pos) (tVar i) := by exact pv _) : XE X (.Name x pos) (varF i) := pe_weak h fun σ H Q h => by
  obtain ⟨Z, G, ad, T, ρ, pa, d, T', N, hf, k⟩ := h
  unfold varF at hf
  split at hf
  · rename_i d' hd
    cases hf
    obtain ⟨v, h1, h2⟩ := N.env i _ hd
    exact ⟨v, h1, k v G ad H N.nx h2⟩
  · cases hf
theorem xo_var (i : Nat) {x : Str} (h : PE X (.Name x pos) (tVar i) := by exact pv _) : XO X (.Name x pos) (varO i) := pe_weak h fun σ H Q h => by
  obtain ⟨Z, G, ad, T, ρ, pa, d, T', N, hf, k⟩ := h
  unfold varO at hf
  split at hf
  · rename_i d' hd
    cases hf
    obtain ⟨v, h1, h2⟩ := N.env i _ hd
    exact ⟨v, h1, k v G ad H N.nx h2⟩
  · rename_i d' hd
    cases hf
    obtain ⟨vs, h1, h2⟩ := N.env i _ hd
    exact ⟨_, h1, k _ G ad H N.nx ⟨hd, rfl⟩⟩
  · cases hf
theorem xe_c {v : V} {d : D} (h : PE X a (tC v)) (r : ∀ G ad, Rp X.K G ad v d) : XE X a (constF d) := pe_weak h fun σ H Q h => by
  obtain ⟨Z, G, ad, T, ρ, pa, d, T', N, hf, k⟩ := h
  cases hf
  exact k v G ad H N.nx (r G ad)
theorem xe_int {i : Int} {j : Nat} : XE X (.Constant (.int i) j pos) (constF (.int i)) := xe_c pe_int fun _ _ => .int i
theorem xe_bl {b : Bool} {j : Nat} : XE X (.Constant (.bool b) j pos) (constF (.bl b)) := xe_c pe_bl fun _ _ => .bl b
theorem xe_non {j : Nat} : XE X (.Constant .none j pos) (constF .non) := xe_c pe_non fun _ _ => .non
theorem xe_str {s : Str} {j : Nat} : XE X (.Constant (.str s) j pos) (constF (.str s)) := xe_c pe_str fun _ _ => .str s
theorem xe_gint {x : Str} {i : Int} (hg : Gl X x) (hm : ∃ t, X.mg x = some (.int i t)) (hd : (x == ("__debug__" : Str)) = false := by decide) : XE X (.Name x pos) (constF (.int i)) := by
  obtain ⟨t, hm⟩ := hm
  exact xe_c (v := .int i) (pe_glob hg hm ⟨t, rfl⟩ hd) fun _ _ => .int i
/-- an operand that is data -/
def ofF (f : FE) : FO := fun ρ T => bindF (f ρ T) fun d T' => some (.val d, T')
theorem xo_of {f : FE} (h : XE X a f) : XO X a (ofF f) := pe_weak h fun σ H Q h => by
  obtain ⟨Z, G, ad, T, ρ, pa, o, T', N, hf, k⟩ := h
  obtain ⟨d, T1, h1, h2⟩ := bindF_eq hf
  cases h2
  exact ⟨Z, G, ad, T, ρ, pa, d, _, N, h1, fun v G' ad' H' x r => k v G' ad' H' x r⟩
/-- a new list, not to be changed -/
def frzF (f : FA) : FE := fun ρ T => bindF (f ρ T) fun ds T' => some (.lst ds, T')
theorem xe_frz {f : FA} (h : XL X a f) : XE X a (frzF f) := pe_weak h fun σ H Q h => by
  obtain ⟨Z, G, ad, T, ρ, pa, o, T', N, hf, k⟩ := h
  obtain ⟨ds, T1, h1, h2⟩ := bindF_eq hf
  cases h2
  refine ⟨Z, G, ad, T, ρ, pa, ds, _, N, h1, fun p G' ad' H' x w hp => ?_⟩
  obtain ⟨G2, x2, e2, r2⟩ := x.learn w hp
  exact k _ G2 ad' H' x2 r2

/-! ### operators -/
def binF (g : D → D → Option D) (f1 f2 : FE) : FE := fun ρ T => bindF (f1 ρ T) fun x T1 => bindF (f2 ρ T1) fun y T2 => match g x y with
  | some z => some (z, T2)
  | none => none
def OkR (K : PySem.W.Frag) (r : R2) (g : D → D → Option D) : Prop := ∀ (Z : Zc) (G : Hp) (ad : List Addr) (T : Tm) (ρ : Rho) (σ : L2.St) (H : Hp) (pa : Nat → Addr) (v w : V) (x y z : D) (Q : VK),
  En K Z G ad T ρ σ H pa → Rp K G ad v x → Rp K G ad w y → g x y = some z → (∀ u G' ad' H', Nx K Z G ad H ρ σ pa T G' ad' H' → Rp K G' ad' u z → Q u H') → r v w H Q
theorem op_run {r : R2} {g : D → D → Option D} {f1 f2 : FE} {σ : L2.St} {H : Hp} {Q : VK} (hr : OkR X.K r g) (h : tD X.K (binF g f1 f2) σ H Q) : tOp r (tD X.K f1) (tD X.K f2) σ H Q := by
  obtain ⟨Z, G, ad, T, ρ, pa, d, T', N, hf, k⟩ := h
  obtain ⟨x, T1, h1, h2⟩ := bindF_eq hf
  obtain ⟨y, T2, h3, h4⟩ := bindF_eq h2
  cases e : g x y with
  | none => rw [e] at h4; cases h4
  | some z =>
    rw [e] at h4
    cases h4
    refine ⟨Z, G, ad, T, ρ, pa, x, T1, N, h1, fun v G1 ad1 H1 x1 r1 => ⟨Z, G1, ad1, T1, ρ, pa, y, _, x1.en, h3, fun w G2 ad2 H2 x2 r2 => ?_⟩⟩
    exact hr Z G2 ad2 _ ρ σ H2 pa v w x y _ Q x2.en (x2.rp r1) r2 e fun u G3 ad3 H3 x3 r3 => k u G3 ad3 H3 ((x1.trans x2).trans x3) r3
theorem xe_op {op : Operator} {r : R2} {g : D → D → Option D} {f1 f2 : FE} (ho : OpR X (binaryOp op) r) (hr : OkR X.K r g) (h1 : XE X a f1) (h2 : XE X b f2) : XE X (.BinOp a op b pos) (binF g f1 f2) :=
  pe_weak (pe_op ho h1 h2) fun _ _ _ => op_run hr
theorem xe_cmp {op : CmpOp} {r : R2} {g : D → D → Option D} {f1 f2 : FE} (ho : OpR X (compareOp op) r) (hr : OkR X.K r g) (h1 : XE X a f1) (h2 : XE X b f2) (hm : behindInMarks op b = false := by rfl) : XE X (.Compare a [op] [b] pos) (binF g f1 f2) :=
  pe_weak (pe_cmpR ho h1 h2 hm) fun _ _ _ => op_run hr
def testF (f : FE) : FT := fun ρ T => bindF (f ρ T) fun d T' => match d with
  | .bl b => some (b, T')
  | _ => none
theorem test_run {f : FE} {σ : L2.St} {H : Hp} {Q : Bool → Hp → Prop} (h : tDT X.K (testF f) σ H Q) : tD X.K f σ H fun x H' => ∃ k, x = .bl k ∧ Q k H' := by
  obtain ⟨Z, G, ad, T, ρ, pa, b, T', N, hf, k⟩ := h
  obtain ⟨d, T1, h1, h2⟩ := bindF_eq hf
  refine ⟨Z, G, ad, T, ρ, pa, d, T1, N, h1, fun v G1 ad1 H1 x1 r1 => ?_⟩
  cases d with
  | bl b' =>
    cases h2
    exact ⟨b, r1.inv_bl, k G1 ad1 H1 x1⟩
  | _ => cases h2
theorem xt_cmp {op : CmpOp} {r : R2} {g : D → D → Option D} {f1 f2 : FE} (ho : OpR X (compareOp op) r) (hr : OkR X.K r g) (h1 : XE X a f1) (h2 : XE X b f2) (hm : behindInMarks op b = false := by rfl) : XT X (.Compare a [op] [b] pos) (testF (binF g f1 f2)) := by
  refine pt_weak (pt_cmpR ho h1 h2 hm) fun σ H Q h => ?_
  have q := test_run h
  exact op_run hr q
theorem xt_val {f : FE} (h : XE X a f) (he : ∀ whole, isTrue a X.env whole = (do let v ← whole; standAt a.pos; holding [v] (truthy v)) := by intro _; rfl) : XT X a (testF f) :=
  pt_weak (pt_val h he) fun _ _ _ h => test_run h

def iiF (C : Int → Int → Bool) (f : Int → Int → D) : D → D → Option D := fun x y => match x, y with
  | .int i, .int j => if C i j then some (f i j) else none
  | _, _ => none
theorem iiF_eq {C : Int → Int → Bool} {f : Int → Int → D} {x y z : D} (h : iiF C f x y = some z) : ∃ i j, x = .int i ∧ y = .int j ∧ C i j = true ∧ z = f i j := by
  unfold iiF at h
  split at h
  · split at h
    · cases h
      exact ⟨_, _, rfl, rfl, by assumption, rfl⟩
    · cases h
  · cases h
@[simp] theorem iiF_int (C : Int → Int → Bool) (f : Int → Int → D) (i j : Int) : iiF C f (.int i) (.int j) = if C i j then some (f i j) else none := rfl
theorem ok_ii {K : PySem.W.Frag} {P : Int → Int → Prop} {C : Int → Int → Bool} {gV : Int → Int → V} {f : Int → Int → D} (hc : ∀ i j, C i j = true → P i j) (hf : ∀ i j G ad, Rp K G ad (gV i j) (f i j)) : OkR K (rI P gV) (iiF C f) :=
  fun Z G ad T ρ σ H pa v w x y z Q N rx ry hg k => by
    obtain ⟨i, j, rfl, rfl, h, rfl⟩ := iiF_eq hg
    exact ⟨i, j, rx.inv_int, ry.inv_int, hc i j h, k _ G ad H N.nx (hf i j G ad)⟩
theorem ok_ii0 {K : PySem.W.Frag} {C : Int → Int → Bool} {gV : Int → Int → V} {f : Int → Int → D} (hf : ∀ i j G ad, Rp K G ad (gV i j) (f i j)) : OkR K (rI0 gV) (iiF C f) :=
  fun Z G ad T ρ σ H pa v w x y z Q N rx ry hg k => by
    obtain ⟨i, j, rfl, rfl, h, rfl⟩ := iiF_eq hg
    exact ⟨i, j, rx.inv_int, ry.inv_int, k _ G ad H N.nx (hf i j G ad)⟩
def ctt : Int → Int → Bool := fun _ _ => true
@[simp] theorem ctt_eq (i j : Int) : ctt i j = true := rfl
/-- a decision that is not computed -/
noncomputable def dc (p : Prop) : Bool := @decide p (Classical.propDecidable _)
theorem dc_of {p : Prop} (h : p) : dc p = true := @decide_eq_true _ (Classical.propDecidable _) h
theorem of_dc {p : Prop} (h : dc p = true) : p := @of_decide_eq_true _ (Classical.propDecidable _) h
noncomputable def cMul : Int → Int → Bool := fun i j => dc ((-18446744073709551616 < i ∧ i < 18446744073709551616) ∨ (-18446744073709551616 < j ∧ j < 18446744073709551616))
theorem cMul_ok (i j : Int) (h : cMul i j = true) : CMul i j := by
  have := of_dc h
  unfold CMul
  omega
noncomputable def cDiv : Int → Int → Bool := fun _ j => dc (j ≠ 0 ∧ j.natAbs < 1073741824)
theorem cDiv_ok (i j : Int) (h : cDiv i j = true) : CDivN i j := of_dc h
noncomputable def cMod : Int → Int → Bool := fun _ j => dc (j ≠ 0)
noncomputable def cPow : Int → Int → Bool := fun i j => dc (0 ≤ j ∧ j ≤ 1000000 ∧ i.natAbs < 18446744073709551616)
theorem cPow_ok (i j : Int) (h : cPow i j = true) : CPow i j := by
  have := of_dc h
  exact ⟨this.1, this.2.1, by omega⟩
abbrev subD := iiF ctt fun i j => .int (i - j)
noncomputable abbrev divD := iiF cDiv fun i j => .int (i.fdiv j)
noncomputable abbrev modD := iiF cMod fun i j => .int (i.fmod j)
noncomputable abbrev powD := iiF cPow fun i j => .int (i ^ j.toNat)
abbrev ltD := iiF ctt fun i j => .bl (decide (i < j))
abbrev leD := iiF ctt fun i j => .bl (decide (i ≤ j))
abbrev gtD := iiF ctt fun i j => .bl (decide (j < i))
abbrev geD := iiF ctt fun i j => .bl (decide (j ≤ i))
noncomputable abbrev shlD := iiF cPow fun i j => .int (i * 2 ^ j.toNat)
abbrev shrD := iiF (fun _ j => decide (0 ≤ j)) fun i j => .int (i / 2 ^ j.toNat)
abbrev andD := iiF ctt fun i j => .int (Builtin.bitAnd i j)
abbrev orD := iiF ctt fun i j => .int (Builtin.bitOr i j)
abbrev xorD := iiF ctt fun i j => .int (Builtin.bitXor i j)
variable {f1 f2 : FE}
theorem xe_sub (h1 : XE X a f1) (h2 : XE X b f2) : XE X (.BinOp a .Sub b pos) (binF subD f1 f2) := xe_op op_sub (ok_ii0 fun _ _ _ _ => .int _) h1 h2
theorem xe_fdiv (h1 : XE X a f1) (h2 : XE X b f2) : XE X (.BinOp a .FloorDiv b pos) (binF divD f1 f2) := xe_op op_fdivN (ok_ii cDiv_ok fun _ _ _ _ => .int _) h1 h2
theorem xe_mod (h1 : XE X a f1) (h2 : XE X b f2) : XE X (.BinOp a .Mod b pos) (binF modD f1 f2) := xe_op op_modN (ok_ii (fun _ _ h => of_dc h) fun _ _ _ _ => .int _) h1 h2
theorem xe_pow (h1 : XE X a f1) (h2 : XE X b f2) : XE X (.BinOp a .Pow b pos) (binF powD f1 f2) := xe_op op_pow (ok_ii cPow_ok fun _ _ _ _ => .int _) h1 h2
theorem xe_shl (h1 : XE X a f1) (h2 : XE X b f2) : XE X (.BinOp a .LShift b pos) (binF shlD f1 f2) := xe_op op_shl (ok_ii cPow_ok fun _ _ _ _ => .int _) h1 h2
theorem xe_shr (h1 : XE X a f1) (h2 : XE X b f2) : XE X (.BinOp a .RShift b pos) (binF shrD f1 f2) := xe_op op_shr (ok_ii (fun _ _ h => of_decide_eq_true h) fun _ _ _ _ => .int _) h1 h2
theorem xe_and_ (h1 : XE X a f1) (h2 : XE X b f2) : XE X (.BinOp a .BitAnd b pos) (binF andD f1 f2) := xe_op op_and (ok_ii0 fun _ _ _ _ => .int _) h1 h2
theorem xe_or_ (h1 : XE X a f1) (h2 : XE X b f2) : XE X (.BinOp a .BitOr b pos) (binF orD f1 f2) := xe_op op_or (ok_ii0 fun _ _ _ _ => .int _) h1 h2
theorem xe_xor_ (h1 : XE X a f1) (h2 : XE X b f2) : XE X (.BinOp a .BitXor b pos) (binF xorD f1 f2) := xe_op op_xor (ok_ii0 fun _ _ _ _ => .int _) h1 h2
theorem xe_lt (h1 : XE X a f1) (h2 : XE X b f2) : XE X (.Compare a [.Lt] [b] pos) (binF ltD f1 f2) := xe_cmp op_lt (ok_ii0 fun _ _ _ _ => .bl _) h1 h2 (nomark _)
theorem xe_le (h1 : XE X a f1) (h2 : XE X b f2) : XE X (.Compare a [.LtE] [b] pos) (binF leD f1 f2) := xe_cmp op_le (ok_ii0 fun _ _ _ _ => .bl _) h1 h2 (nomark _)
theorem xe_gt (h1 : XE X a f1) (h2 : XE X b f2) : XE X (.Compare a [.Gt] [b] pos) (binF gtD f1 f2) := xe_cmp op_gt (ok_ii0 fun _ _ _ _ => .bl _) h1 h2 (nomark _)
theorem xe_ge (h1 : XE X a f1) (h2 : XE X b f2) : XE X (.Compare a [.GtE] [b] pos) (binF geD f1 f2) := xe_cmp op_ge (ok_ii0 fun _ _ _ _ => .bl _) h1 h2 (nomark _)
theorem xt_lt (h1 : XE X a f1) (h2 : XE X b f2) : XT X (.Compare a [.Lt] [b] pos) (testF (binF ltD f1 f2)) := xt_cmp op_lt (ok_ii0 fun _ _ _ _ => .bl _) h1 h2 (nomark _)
theorem xt_le (h1 : XE X a f1) (h2 : XE X b f2) : XT X (.Compare a [.LtE] [b] pos) (testF (binF leD f1 f2)) := xt_cmp op_le (ok_ii0 fun _ _ _ _ => .bl _) h1 h2 (nomark _)
theorem xt_gt (h1 : XE X a f1) (h2 : XE X b f2) : XT X (.Compare a [.Gt] [b] pos) (testF (binF gtD f1 f2)) := xt_cmp op_gt (ok_ii0 fun _ _ _ _ => .bl _) h1 h2 (nomark _)
theorem xt_ge (h1 : XE X a f1) (h2 : XE X b f2) : XT X (.Compare a [.GtE] [b] pos) (testF (binF geD f1 f2)) := xt_cmp op_ge (ok_ii0 fun _ _ _ _ => .bl _) h1 h2 (nomark _)

/-- + -/
def addD : D → D → Option D
  | .int i, .int j => some (.int (i + j))
  | .str x, .str y => if x.length + y.length ≤ sizeLine then some (.str (x ++ y)) else none
  | .tup xs, .tup ys => if xs.length + ys.length ≤ sizeLine then some (.tup (xs ++ ys)) else none
  | .lst xs, .lst ys => if xs.length + ys.length ≤ sizeLine then some (.lst (xs ++ ys)) else none
  | _, _ => none
@[simp] theorem addD_int (i j : Int) : addD (.int i) (.int j) = some (.int (i + j)) := rfl
@[simp] theorem addD_str (x y : Str) : addD (.str x) (.str y) = if x.length + y.length ≤ sizeLine then some (.str (x ++ y)) else none := rfl
@[simp] theorem addD_tup (x y : List D) : addD (.tup x) (.tup y) = if x.length + y.length ≤ sizeLine then some (.tup (x ++ y)) else none := rfl
@[simp] theorem addD_lst (x y : List D) : addD (.lst x) (.lst y) = if x.length + y.length ≤ sizeLine then some (.lst (x ++ y)) else none := rfl
def rAddU (K : PySem.W.Frag) : R2 := fun x y H Q => (rI0 fun i j => .int (i + j)) x y H Q ∨ (fun x y H Q => ∃ i j, x = .str i ∧ y = .str j ∧ i.length + j.length ≤ sizeLine ∧ Q (.str (i ++ j)) H : R2) x y H Q ∨ rCatP K x y H Q ∨ rCat x y H Q
theorem op_addU : OpR X (binaryOp .Add) (rAddU X.K) := op_add.or (op_add_str.or (op_catP.or op_cat))
theorem ok_add {K : PySem.W.Frag} : OkR K (rAddU K) addD := fun Z G ad T ρ σ H pa v w x y z Q N rx ry hg k => by
  unfold addD at hg
  split at hg
  · cases hg
    exact .inl ⟨_, _, rx.inv_int, ry.inv_int, k _ G ad H N.nx (.int _)⟩
  · split at hg
    · cases hg
      exact .inr (.inl ⟨_, _, rx.inv_str, ry.inv_str, by assumption, k _ G ad H N.nx (.str _)⟩)
    · cases hg
  · rename_i xs ys
    split at hg
    · rename_i hz
      cases hg
      obtain ⟨p, vs, rfl, h1, r1⟩ := rx.inv_tup
      obtain ⟨q, ws, rfl, h2, r2⟩ := ry.inv_tup
      refine .inr (.inr (.inl ⟨p, q, vs, ws, rfl, rfl, N.iv.tup h1, N.iv.tup h2, by rw [r1.length, r2.length]; exact hz, fun e => ?_, fun e e' => ?_, fun e e' q' o ho hd => ?_⟩))
      · subst e
        cases r1
        exact k _ G ad H N.nx (.tup h2 r2)
      · subst e'
        cases r2
        rw [List.append_nil] at k
        exact k _ G ad H N.nx (.tup h1 r1)
      · have x := N.knowN ho (.frz o (.tup (vs ++ ws)))
        exact k _ _ _ _ x (.tup (TupK.new hd) (x.rpl (r1.append r2)))
    · cases hg
  · rename_i xs ys
    split at hg
    · rename_i hz
      cases hg
      obtain ⟨p, vs, rfl, h1, r1⟩ := rx.inv_lst
      obtain ⟨q, ws, rfl, h2, r2⟩ := ry.inv_lst
      refine .inr (.inr (.inr ⟨p, q, vs, ws, rfl, rfl, N.iv.ex _ _ h1, N.iv.ex _ _ h2, by rw [r1.length, r2.length]; exact hz, fun o ho => ?_⟩))
      have x := N.knowN ho (.lst (vs ++ ws))
      exact k _ _ _ _ x (.lst upd_same (x.rpl (r1.append r2)))
    · cases hg
  · cases hg
theorem xe_add (h1 : XE X a f1) (h2 : XE X b f2) : XE X (.BinOp a .Add b pos) (binF addD f1 f2) := xe_op op_addU ok_add h1 h2

/-! ### ==, is -/
mutual
def toPy : D → Option PyData
  | .non => some .none
  | .bl b => some (.bool b)
  | .int i => some (.int i)
  | .str s => some (.str s)
  | .tup ds => (toPyL ds).map .tuple
  | .lst ds => (toPyL ds).map .list
  | .frl ds => (toPyL ds).map .list
  | .ob _ => none
def toPyL : List D → Option (List PyData)
  | [] => some []
  | d :: ds => match toPy d, toPyL ds with
    | some x, some xs => some (x :: xs)
    | _, _ => none
end
mutual
theorem Rp.dp {K : PySem.W.Frag} {G H : Hp} {ad : List Addr} (e : Ex G H) : ∀ {v : V} {d : D} {p : PyData}, Rp K G ad v d → toPy d = some p → Dp K H v p
  | _, _, _, .non, h => by rw [toPy] at h; cases h; exact .non
  | _, _, _, .bl b, h => by rw [toPy] at h; cases h; exact .bl b
  | _, _, _, .int i, h => by rw [toPy] at h; cases h; exact .int i
  | _, _, _, .str s, h => by rw [toPy] at h; cases h; exact .str s
  | _, _, _, .tup h t, g => by
    rw [toPy] at g
    obtain ⟨xs, h1, h2⟩ := Option.map_eq_some_iff.mp g
    subst h2
    exact .tup (h.mono e).seq (RpL.dp e t h1)
  | _, _, _, .lst h t, g => by
    rw [toPy] at g
    obtain ⟨xs, h1, h2⟩ := Option.map_eq_some_iff.mp g
    subst h2
    exact .lst (.inl (.inl (e _ _ h))) (RpL.dp e t h1)
  | _, _, _, .frl h t, g => by
    rw [toPy] at g
    obtain ⟨xs, h1, h2⟩ := Option.map_eq_some_iff.mp g
    subst h2
    exact .lst (Evl.ex_l e h) (RpL.dp e t h1)
  | _, _, _, .ob _, h => by rw [toPy] at h; cases h
theorem RpL.dp {K : PySem.W.Frag} {G H : Hp} {ad : List Addr} (e : Ex G H) : ∀ {vs : List V} {ds : List D} {ps : List PyData}, RpL K G ad vs ds → toPyL ds = some ps → DpAll K H vs ps
  | _, _, _, .nil, h => by rw [toPyL] at h; cases h; exact .nil
  | _, _, _, .cons h t, g => by
    rw [toPyL] at g
    split at g
    · rename_i x xs h1 h2
      cases g
      exact .cons (Rp.dp e h h1) (RpL.dp e t h2)
    · cases g
end
def eqB (x y : D) : Option Bool := match toPy x, toPy y with
  | some p, some q => if SeqAt.shaped p && SeqAt.shaped q then some (PyData.eqv p q) else none
  | _, _ => none
def eqD : D → D → Option D := fun x y => (eqB x y).map .bl
def neD : D → D → Option D := fun x y => (eqB x y).map fun b => .bl (!b)
theorem eqB_eq {x y : D} {b : Bool} (h : eqB x y = some b) : ∃ p q, toPy x = some p ∧ toPy y = some q ∧ SeqAt.shaped p = true ∧ SeqAt.shaped q = true ∧ b = PyData.eqv p q := by
  unfold eqB at h
  split at h
  · split at h
    · rename_i hc
      cases h
      rw [Bool.and_eq_true] at hc
      exact ⟨_, _, by assumption, by assumption, hc.1, hc.2, rfl⟩
    · cases h
  · cases h
theorem ok_eq {K : PySem.W.Frag} : OkR K (rEqD K) eqD := fun Z G ad T ρ σ H pa v w x y z Q N rx ry hg k => by
  obtain ⟨b, hb, rfl⟩ := Option.map_eq_some_iff.mp hg
  obtain ⟨p, q, h1, h2, h3, h4, rfl⟩ := eqB_eq hb
  exact ⟨p, q, rx.dp N.iv.ex h1, ry.dp N.iv.ex h2, h3, h4, k _ G ad H N.nx (.bl _)⟩
theorem ok_ne {K : PySem.W.Frag} : OkR K (rNeD K) neD := fun Z G ad T ρ σ H pa v w x y z Q N rx ry hg k => by
  obtain ⟨b, hb, rfl⟩ := Option.map_eq_some_iff.mp hg
  obtain ⟨p, q, h1, h2, h3, h4, rfl⟩ := eqB_eq hb
  exact ⟨p, q, rx.dp N.iv.ex h1, ry.dp N.iv.ex h2, h3, h4, k _ G ad H N.nx (.bl _)⟩
theorem xe_eq {k : Nat} (hr : Room k X.A) (h1 : XE X a f1) (h2 : XE X b f2) : XE X (.Compare a [.Eq] [b] pos) (binF eqD f1 f2) := xe_cmp (op_eqD hr.units) ok_eq h1 h2 (nomark _)
theorem xe_ne {k : Nat} (hr : Room k X.A) (h1 : XE X a f1) (h2 : XE X b f2) : XE X (.Compare a [.NotEq] [b] pos) (binF neD f1 f2) := xe_cmp (op_neD hr.units) ok_ne h1 h2 (nomark _)
theorem xt_eq {k : Nat} (hr : Room k X.A) (h1 : XE X a f1) (h2 : XE X b f2) : XT X (.Compare a [.Eq] [b] pos) (testF (binF eqD f1 f2)) := xt_cmp (op_eqD hr.units) ok_eq h1 h2 (nomark _)
theorem xt_ne {k : Nat} (hr : Room k X.A) (h1 : XE X a f1) (h2 : XE X b f2) : XT X (.Compare a [.NotEq] [b] pos) (testF (binF neD f1 f2)) := xt_cmp (op_neD hr.units) ok_ne h1 h2 (nomark _)
/-- is None, is a bool -/
def isNon : D → Bool
  | .non => true
  | _ => false
def isD : D → D → Option Bool
  | x, .non => some (isNon x)
  | .bl a, .bl b => some (decide (a = b))
  | _, _ => none
def isF : D → D → Option D := fun x y => (isD x y).map .bl
def isntF : D → D → Option D := fun x y => (isD x y).map fun b => .bl (!b)
def rIsU : R2 := fun x y H Q => (y = .non ∧ Q (.bl (decide (x = .non))) H) ∨ rIsB x y H Q
def rIsntU : R2 := fun x y H Q => (y = .non ∧ Q (.bl (!decide (x = .non))) H) ∨ rNotB x y H Q
theorem op_isU : OpR X (compareOp .Is) rIsU := op_isN.or op_isBl
theorem op_isntU : OpR X (compareOp .IsNot) rIsntU := op_notN.or op_notBl
theorem rp_non_iff {K : PySem.W.Frag} {G : Hp} {ad : List Addr} {v : V} {d : D} (r : Rp K G ad v d) : isNon d = decide (v = .non) := by
  cases r <;> rfl
theorem ok_is {K : PySem.W.Frag} : OkR K rIsU isF := fun Z G ad T ρ σ H pa v w x y z Q N rx ry hg k => by
  obtain ⟨b, hb, rfl⟩ := Option.map_eq_some_iff.mp hg
  unfold isD at hb
  split at hb
  · cases hb
    refine .inl ⟨ry.inv_non, ?_⟩
    rw [← rp_non_iff rx]
    exact k _ G ad H N.nx (.bl _)
  · cases hb
    exact .inr ⟨_, _, rx.inv_bl, ry.inv_bl, k _ G ad H N.nx (.bl _)⟩
  · cases hb
theorem ok_isnt {K : PySem.W.Frag} : OkR K rIsntU isntF := fun Z G ad T ρ σ H pa v w x y z Q N rx ry hg k => by
  obtain ⟨b, hb, rfl⟩ := Option.map_eq_some_iff.mp hg
  unfold isD at hb
  split at hb
  · cases hb
    refine .inl ⟨ry.inv_non, ?_⟩
    rw [← rp_non_iff rx]
    exact k _ G ad H N.nx (.bl _)
  · cases hb
    exact .inr ⟨_, _, rx.inv_bl, ry.inv_bl, k _ G ad H N.nx (.bl _)⟩
  · cases hb
theorem xe_is (h1 : XE X a f1) (h2 : XE X b f2) : XE X (.Compare a [.Is] [b] pos) (binF isF f1 f2) := xe_cmp op_isU ok_is h1 h2 (nomark _)
theorem xe_isnt (h1 : XE X a f1) (h2 : XE X b f2) : XE X (.Compare a [.IsNot] [b] pos) (binF isntF f1 f2) := xe_cmp op_isntU ok_isnt h1 h2 (nomark _)
theorem xt_is (h1 : XE X a f1) (h2 : XE X b f2) : XT X (.Compare a [.Is] [b] pos) (testF (binF isF f1 f2)) := xt_cmp op_isU ok_is h1 h2 (nomark _)
theorem xt_isnt (h1 : XE X a f1) (h2 : XE X b f2) : XT X (.Compare a [.IsNot] [b] pos) (testF (binF isntF f1 f2)) := xt_cmp op_isntU ok_isnt h1 h2 (nomark _)

/-! ### - x, not, and, or, if else -/
def negF (f : FE) : FE := fun ρ T => bindF (f ρ T) fun d T' => match d with
  | .int i => some (.int (-i), T')
  | _ => none
theorem xe_neg (h : XE X a f1) : XE X (.UnaryOp .USub a pos) (negF f1) := pe_weak (pe_un un_neg h) fun σ H Q h => by
  obtain ⟨Z, G, ad, T, ρ, pa, d, T', N, hf, k⟩ := h
  obtain ⟨x, T1, h1, h2⟩ := bindF_eq hf
  refine ⟨Z, G, ad, T, ρ, pa, x, T1, N, h1, fun v G1 ad1 H1 x1 r1 => ?_⟩
  cases x with
  | int i =>
    cases h2
    exact ⟨i, r1.inv_int, k _ G1 ad1 H1 x1 (.int _)⟩
  | _ => cases h2
variable {t1 t2 : FT} {rest : List Expr}
def notT (t : FT) : FT := fun ρ T => bindF (t ρ T) fun b T' => some (!b, T')
theorem xt_not (h : XT X a t1) : XT X (.UnaryOp .Not a pos) (notT t1) := pt_weak (pt_not h) fun σ H Q h => by
  obtain ⟨Z, G, ad, T, ρ, pa, d, T', N, hf, k⟩ := h
  obtain ⟨x, T1, h1, h2⟩ := bindF_eq hf
  cases h2
  exact ⟨Z, G, ad, T, ρ, pa, x, _, N, h1, fun G1 ad1 H1 x1 => k G1 ad1 H1 x1⟩
def andT (t u : FT) : FT := fun ρ T => bindF (t ρ T) fun b T' => if b then u ρ T' else some (false, T')
def orT (t u : FT) : FT := fun ρ T => bindF (t ρ T) fun b T' => if b then some (true, T') else u ρ T'
theorem xw_and1 (h : XT X a t1) : XW X (.BoolOp .And [a] pos) t1 := pw_and1 h
theorem xw_or1 (h : XT X a t1) : XW X (.BoolOp .Or [a] pos) t1 := pw_or1 h
theorem xw_and (h1 : XT X a t1) (h2 : XW X (.BoolOp .And (b :: rest) pos) t2) : XW X (.BoolOp .And (a :: b :: rest) pos) (andT t1 t2) := pw_weak (pw_and h1 h2) fun σ H Q h => by
  obtain ⟨Z, G, ad, T, ρ, pa, d, T', N, hf, k⟩ := h
  obtain ⟨x, T1, h1, h2⟩ := bindF_eq hf
  refine ⟨Z, G, ad, T, ρ, pa, x, T1, N, h1, fun G1 ad1 H1 x1 => ?_⟩
  cases x with
  | true => exact ⟨Z, G1, ad1, T1, ρ, pa, d, T', x1.en, h2, fun G2 ad2 H2 x2 => k G2 ad2 H2 (x1.trans x2)⟩
  | false => cases h2; exact k G1 ad1 H1 x1
theorem xw_or (h1 : XT X a t1) (h2 : XW X (.BoolOp .Or (b :: rest) pos) t2) : XW X (.BoolOp .Or (a :: b :: rest) pos) (orT t1 t2) := pw_weak (pw_or h1 h2) fun σ H Q h => by
  obtain ⟨Z, G, ad, T, ρ, pa, d, T', N, hf, k⟩ := h
  obtain ⟨x, T1, h1, h2⟩ := bindF_eq hf
  refine ⟨Z, G, ad, T, ρ, pa, x, T1, N, h1, fun G1 ad1 H1 x1 => ?_⟩
  cases x with
  | true => cases h2; exact k G1 ad1 H1 x1
  | false => exact ⟨Z, G1, ad1, T1, ρ, pa, d, T', x1.en, h2, fun G2 ad2 H2 x2 => k G2 ad2 H2 (x1.trans x2)⟩
theorem xt_w (h : XW X a t1) : XT X a t1 := h.pt
/-- as values -/
def andV (f g : FE) : FE := fun ρ T => bindF (f ρ T) fun d T' => match d with
  | .bl true => g ρ T'
  | .bl false => some (.bl false, T')
  | _ => none
def orV (f g : FE) : FE := fun ρ T => bindF (f ρ T) fun d T' => match d with
  | .bl false => g ρ T'
  | .bl true => some (.bl true, T')
  | _ => none
def notV (f : FE) : FE := fun ρ T => bindF (f ρ T) fun d T' => match d with
  | .bl b => some (.bl (!b), T')
  | _ => none
theorem xe_one {op : BoolOp} (h : XE X a f1) : XE X (.BoolOp op [a] pos) f1 := pe_one h
theorem xe_and (h1 : XE X a f1) (h2 : XE X (.BoolOp .And (b :: rest) pos) f2) : XE X (.BoolOp .And (a :: b :: rest) pos) (andV f1 f2) := pe_weak (pe_and h1 h2) fun σ H Q h => by
  obtain ⟨Z, G, ad, T, ρ, pa, d, T', N, hf, k⟩ := h
  obtain ⟨x, T1, h1, h2⟩ := bindF_eq hf
  refine ⟨Z, G, ad, T, ρ, pa, x, T1, N, h1, fun v G1 ad1 H1 x1 r1 => ?_⟩
  cases x with
  | bl c =>
    refine ⟨c, r1.inv_bl, ?_⟩
    cases c with
    | true => exact ⟨Z, G1, ad1, T1, ρ, pa, d, T', x1.en, h2, fun u G2 ad2 H2 x2 r2 => k u G2 ad2 H2 (x1.trans x2) r2⟩
    | false => cases h2; exact k _ G1 ad1 H1 x1 (.bl _)
  | _ => cases h2
theorem xe_or (h1 : XE X a f1) (h2 : XE X (.BoolOp .Or (b :: rest) pos) f2) : XE X (.BoolOp .Or (a :: b :: rest) pos) (orV f1 f2) := pe_weak (pe_or h1 h2) fun σ H Q h => by
  obtain ⟨Z, G, ad, T, ρ, pa, d, T', N, hf, k⟩ := h
  obtain ⟨x, T1, h1, h2⟩ := bindF_eq hf
  refine ⟨Z, G, ad, T, ρ, pa, x, T1, N, h1, fun v G1 ad1 H1 x1 r1 => ?_⟩
  cases x with
  | bl c =>
    refine ⟨c, r1.inv_bl, ?_⟩
    cases c with
    | false => exact ⟨Z, G1, ad1, T1, ρ, pa, d, T', x1.en, h2, fun u G2 ad2 H2 x2 r2 => k u G2 ad2 H2 (x1.trans x2) r2⟩
    | true => cases h2; exact k _ G1 ad1 H1 x1 (.bl _)
  | _ => cases h2
theorem xe_not (h : XE X a f1) : XE X (.UnaryOp .Not a pos) (notV f1) := pe_weak (pe_not h) fun σ H Q h => by
  obtain ⟨Z, G, ad, T, ρ, pa, d, T', N, hf, k⟩ := h
  obtain ⟨x, T1, h1, h2⟩ := bindF_eq hf
  refine ⟨Z, G, ad, T, ρ, pa, x, T1, N, h1, fun v G1 ad1 H1 x1 r1 => ?_⟩
  cases x with
  | bl b =>
    cases h2
    exact ⟨b, r1.inv_bl, k _ G1 ad1 H1 x1 (.bl _)⟩
  | _ => cases h2
def ifE (t : FT) (f g : FE) : FE := fun ρ T => bindF (t ρ T) fun b T' => if b then f ρ T' else g ρ T'
theorem xe_if (h : XT X c t1) (h1 : XE X a f1) (h2 : XE X b f2) : XE X (.IfExp c a b pos) (ifE t1 f1 f2) := pe_weak (pe_ifExp h h1 h2) fun σ H Q h => by
  obtain ⟨Z, G, ad, T, ρ, pa, d, T', N, hf, k⟩ := h
  obtain ⟨x, T1, h1, h2⟩ := bindF_eq hf
  refine ⟨Z, G, ad, T, ρ, pa, x, T1, N, h1, fun G1 ad1 H1 x1 => ?_⟩
  cases x with
  | true => exact ⟨Z, G1, ad1, T1, ρ, pa, d, T', x1.en, h2, fun u G2 ad2 H2 x2 r2 => k u G2 ad2 H2 (x1.trans x2) r2⟩
  | false => exact ⟨Z, G1, ad1, T1, ρ, pa, d, T', x1.en, h2, fun u G2 ad2 H2 x2 r2 => k u G2 ad2 H2 (x1.trans x2) r2⟩

/-! ### lists of expressions, displays -/
def nilF : FA := fun _ T => some ([], T)
def consF (f : FE) (g : FA) : FA := fun ρ T => bindF (f ρ T) fun d T1 => bindF (g ρ T1) fun ds T2 => some (d :: ds, T2)
variable {es : List Expr} {fs : FA}
theorem xa_nil : XA X [] nilF := pa_weak pa_nil fun σ H Q h => by
  obtain ⟨Z, G, ad, T, ρ, pa, d, T', N, hf, k⟩ := h
  cases hf
  exact k [] G ad H N.nx .nil
theorem xa_cons (h1 : XE X a f1) (h2 : XA X es fs) (hs : starEach (a :: es) X.env = (false, eval a X.env) :: starEach es X.env := by rfl) : XA X (a :: es) (consF f1 fs) := pa_weak (pa_cons h1 h2 hs) fun σ H Q h => by
  obtain ⟨Z, G, ad, T, ρ, pa, ds, T', N, hf, k⟩ := h
  obtain ⟨x, T1, h1, h2⟩ := bindF_eq hf
  obtain ⟨xs, T2, h3, h4⟩ := bindF_eq h2
  cases h4
  exact ⟨Z, G, ad, T, ρ, pa, x, T1, N, h1, fun v G1 ad1 H1 x1 r1 => ⟨Z, G1, ad1, T1, ρ, pa, xs, _, x1.en, h3, fun vs G2 ad2 H2 x2 r2 => k (v :: vs) G2 ad2 H2 (x1.trans x2) (.cons (x2.rp r1) r2)⟩⟩
def tupF (g : FA) : FE := fun ρ T => bindF (g ρ T) fun ds T' => if ds.length ≤ sizeLine then some (.tup ds, T') else none
theorem xe_tup {k : Nat} (h : XA X es fs) : XE X (.Tuple es k pos) (tupF fs) := pe_weak (pe_tupP h) fun σ H Q h => by
  obtain ⟨Z, G, ad, T, ρ, pa, d, T', N, hf, k⟩ := h
  obtain ⟨xs, T1, h1, h2⟩ := bindF_eq hf
  split at h2
  · rename_i hz
    cases h2
    refine ⟨Z, G, ad, T, ρ, pa, xs, _, N, h1, fun vs G1 ad1 H1 x1 r1 => ⟨by rw [r1.length]; exact hz, fun p o hp hd => ?_⟩⟩
    have x2 := x1.en.knowN hp (.frz o (.tup vs))
    exact k _ _ _ _ (x1.trans x2) (.tup (TupK.new hd) (x2.rpl r1))
  · cases h2
def lstF (g : FA) : FA := fun ρ T => bindF (g ρ T) fun ds T' => if ds.length ≤ sizeLine then some (ds, T') else none
theorem xl_lst (h : XA X es fs) : XL X (.List es pos) (lstF fs) := pe_weak (pe_lst h) fun σ H Q h => by
  obtain ⟨Z, G, ad, T, ρ, pa, d, T', N, hf, k⟩ := h
  obtain ⟨xs, T1, h1, h2⟩ := bindF_eq hf
  split at h2
  · rename_i hz
    cases h2
    refine ⟨Z, G, ad, T, ρ, pa, _, _, N, h1, fun vs G1 ad1 H1 x1 r1 => ⟨by rw [r1.length]; exact hz, fun p hp => ?_⟩⟩
    obtain ⟨N2, w2⟩ := x1.en.laid hp r1
    refine k p G1 ad1 _ ⟨N2, x1.gr.ex, x1.gr.pr, fun b o hb hm => ?_, x1.gr.nG, x1.gr.nA⟩ w2 (x1.gr.back x1.en.iv.ats hp)
    have q := x1.gr.fr b o hb hm
    rw [upd_ne (ne_of_none q hp)]
    exact q
  · cases h2
end
end Fx
namespace Fx
open PySem PySem.Spec PyProof.Rows L2
open Evl (Ex)

section
variable {K : PySem.W.Frag} {Z : Zc} {G G' : Hp} {ad ad' : List Addr} {T T' : Tm} {ρ : Rho} {σ : L2.St} {H H' : Hp} {pa : Nat → Addr} {p : Addr} {ds : List D}
theorem atI_rel {vs : List V} {i : Int} {d : D} (r : RpL K G ad vs ds) (h : atI ds i = some d) : ∃ v, atI vs i = some v ∧ Rp K G ad v d := by
  unfold atI at h ⊢
  obtain ⟨j, h1, h2⟩ := Option.bind_eq_some_iff.mp h
  obtain ⟨v, h3, h4⟩ := r.get h2
  exact ⟨v, by rw [r.length, h1]; exact h3, h4⟩
theorem En.ob (N : En K Z G ad T ρ σ H pa) {k : Nat} {a : Addr} (hk : ad[k]? = some a) (h : T[k]? = some (.lst ds)) : ∃ vs, H a = some (.lst vs) ∧ RpL K G ad vs ds := N.iv.obj k a ds hk h
end

/-- the items of what is walked or indexed -/
def seqD (T : Tm) : Op → Option (Bool × List D)
  | .own _ ds => some (false, ds)
  | .val (.lst ds) => some (false, ds)
  | .val (.frl ds) => some (false, ds)
  | .val (.tup ds) => some (true, ds)
  | .val (.ob k) => match T[k]? with
    | some (.lst ds) => some (false, ds)
    | none => none
  | _ => none
theorem seq_rel {K : PySem.W.Frag} {Z : Zc} {G : Hp} {ad : List Addr} {T : Tm} {ρ : Rho} {σ : L2.St} {H : Hp} {pa : Nat → Addr} {o : Op} {v : V} {b : Bool} {ds : List D} (N : En K Z G ad T ρ σ H pa) (r : OpOk K G ad ρ pa v o) (h : seqD T o = some (b, ds)) :
    ∃ a vs, v = .ref a ∧ RpL K G ad vs ds ∧ (b = false → SqL K H a vs) ∧ (b = true → SqT K H a vs) := by
  unfold seqD at h
  split at h
  · cases h
    obtain ⟨r1, rfl⟩ := r
    obtain ⟨vs, h1, h2, h3, _⟩ := N.env _ _ r1
    exact ⟨_, vs, rfl, h3, fun _ => .inl (.inl h2), fun q => by cases q⟩
  · cases h
    obtain ⟨a, vs, rfl, h1, h2⟩ := Rp.inv_lst r
    exact ⟨a, vs, rfl, h2, fun _ => .inl (.inl (N.iv.ex _ _ h1)), fun q => by cases q⟩
  · cases h
    obtain ⟨a, vs, rfl, h1, h2⟩ := Rp.inv_frl r
    exact ⟨a, vs, rfl, h2, fun _ => N.iv.seq h1, fun q => by cases q⟩
  · cases h
    obtain ⟨a, vs, rfl, h1, h2⟩ := Rp.inv_tup r
    exact ⟨a, vs, rfl, h2, (fun q => by cases q), fun _ => N.iv.tup h1⟩
  · split at h
    · cases h
      obtain ⟨a, rfl, h1⟩ := Rp.inv_ob r
      obtain ⟨vs, h2, h3⟩ := N.ob h1 (by assumption)
      exact ⟨a, vs, rfl, h3, fun _ => .inl (.inl h2), fun q => by cases q⟩
    · cases h
  · cases h
theorem seqD_tup {T : Tm} {o : Op} {ds : List D} (h : seqD T o = some (true, ds)) : o = .val (.tup ds) := by
  unfold seqD at h
  split at h <;> first | (cases h; done) | skip
  · cases h
    rfl
  · split at h <;> cases h
theorem OpOk.mono {K : PySem.W.Frag} {Z : Zc} {G G1 : Hp} {ad ad1 : List Addr} {ρ : Rho} {σ : L2.St} {pa : Nat → Addr} {T1 : Tm} {H H1 : Hp} {v : V} {o : Op} (r : OpOk K G ad ρ pa v o) (x : Nx K Z G ad H ρ σ pa T1 G1 ad1 H1) : OpOk K G1 ad1 ρ pa v o := by
  cases o with
  | val d => exact x.rp r
  | own i ds => exact r

def ixD (T : Tm) (o : Op) (i : D) : Option D := match seqD T o, i with
  | some (_, ds), .int i => atI ds i
  | none, .int i => match o with
    | .val (.str s) => if s.length ≤ sizeLine then (atI s.cps.toList i).map fun c => .str ⟨#[c]⟩ else none
    | _ => none
  | _, _ => none
def ixF (fo : FO) (fi : FE) : FE := fun ρ T => bindF (fo ρ T) fun o T1 => bindF (fi ρ T1) fun i T2 => (ixD T2 o i).map fun d => (d, T2)
section
variable {X : Cx} {a b c : Expr} {pos : Pos} {f1 f2 : FE} {o1 : FO} {fs : FA} {t1 : FT}
theorem xe_ix (ho : XO X a o1) (hi : XE X b f2) (hs : PlainIx b := by exact fun _ _ => rfl) : XE X (.Subscript a b pos) (ixF o1 f2) := pe_weak (pe_ix ix_seq ho hi hs) fun σ H Q h => by
  obtain ⟨Z, G, ad, T, ρ, pa, d, T', N, hf, k⟩ := h
  obtain ⟨o, T1, h1, h2⟩ := bindF_eq hf
  obtain ⟨i, T2, h3, h4⟩ := bindF_eq h2
  obtain ⟨d', h5, h6⟩ := Option.map_eq_some_iff.mp h4
  cases h6
  refine ⟨Z, G, ad, T, ρ, pa, o, T1, N, h1, fun v G1 ad1 H1 x1 r1 => ⟨Z, G1, ad1, T1, ρ, pa, i, _, x1.en, h3, fun w G2 ad2 H2 x2 r2 => ?_⟩⟩
  have x := x1.trans x2
  have r3 := r1.mono x2
  unfold ixD at h5
  split at h5
  · rename_i b' ds i' hs'
    obtain ⟨p, vs, rfl, hr, hl, ht⟩ := seq_rel x.en r3 hs'
    obtain ⟨u, hu, ru⟩ := atI_rel hr h5
    cases b' with
    | false => exact .inl ⟨p, vs, i', u, rfl, r2.inv_int, hl rfl, hu, k u G2 ad2 H2 x ru⟩
    | true => exact .inr (.inl ⟨p, vs, i', u, rfl, r2.inv_int, ht rfl, hu, k u G2 ad2 H2 x ru⟩)
  · split at h5
    · split at h5
      · rename_i hz
        obtain ⟨c, hc, e⟩ := Option.map_eq_some_iff.mp h5
        subst e
        exact .inr (.inr ⟨_, _, c, Rp.inv_str r3, r2.inv_int, hz, hc, k _ G2 ad2 H2 x (.str _)⟩)
      · cases h5
    · cases h5
  · cases h5

/-! ### slices -/
def cutD (xs : List D) (lo hi : Option Int) : List D := (xs.drop (HT.sIx xs.length 0 lo)).take (HT.sIx xs.length xs.length hi - HT.sIx xs.length 0 lo)
theorem cut_rel {K : PySem.W.Frag} {G : Hp} {ad : List Addr} {vs : List V} {ds : List D} (r : RpL K G ad vs ds) (lo hi : Option Int) : RpL K G ad (cutV vs lo hi) (cutD ds lo hi) := by
  unfold cutV cutD
  rw [r.length]
  exact (r.drop _).take _
abbrev FB := Rho → Tm → Option (Option Int × Tm)
def tDB (K : PySem.W.Frag) (f : FB) : TO := fun σ H Q => ∃ Z G ad T ρ pa o T', En K Z G ad T ρ σ H pa ∧ f ρ T = some (o, T') ∧ ∀ G' ad' H', Nx K Z G ad H ρ σ pa T' G' ad' H' → Q o H'
abbrev XB (X : Cx) (o : Option Expr) (f : FB) : Prop := PO X o (tDB X.K f)
def bNo : FB := fun _ T => some (none, T)
def bSo (f : FE) : FB := fun ρ T => bindF (f ρ T) fun d T' => match d with
  | .int i => some (some i, T')
  | _ => none
theorem xb_none : XB X none bNo := ⟨fun pins s σ H Q I h => by
  obtain ⟨Z, G, ad, T, ρ, pa, o, T', N, hf, k⟩ := h
  cases hf
  exact po_none.run pins s σ H Q I (k G ad H N.nx)⟩
theorem xb_some (h1 : XE X a f1) : XB X (some a) (bSo f1) := ⟨fun pins s σ H Q I h => by
  obtain ⟨Z, G, ad, T, ρ, pa, o, T', N, hf, k⟩ := h
  obtain ⟨d, T1, h2, h3⟩ := bindF_eq hf
  refine (po_some h1).run pins s σ H Q I ⟨Z, G, ad, T, ρ, pa, d, T1, N, h2, fun v G1 ad1 H1 x1 r1 => ?_⟩
  cases d with
  | int i =>
    cases h3
    exact ⟨i, r1.inv_int, k G1 ad1 H1 x1⟩
  | _ => cases h3⟩
/-- a slice: a new list | a tuple -/
def slLF (fo : FO) (l u : FB) : FA := fun ρ T => bindF (fo ρ T) fun o T1 => bindF (l ρ T1) fun lo T2 => bindF (u ρ T2) fun hi T3 => match seqD T3 o with
  | some (false, ds) => some (cutD ds lo hi, T3)
  | _ => none
variable {l u : FB} {lo hi : Option Expr} {p2 : Pos}
theorem xl_sl (ho : XO X a o1) (hl : XB X lo l) (hu : XB X hi u) : XL X (.Subscript a (.Slice lo hi none p2) pos) (slLF o1 l u) := pe_weak (pe_slice sl_list ho hl hu) fun σ H Q h => by
  obtain ⟨Z, G, ad, T, ρ, pa, d, T', N, hf, k⟩ := h
  obtain ⟨o, T1, h1, h2⟩ := bindF_eq hf
  obtain ⟨i, T2, h3, h4⟩ := bindF_eq h2
  obtain ⟨j, T3, h5, h6⟩ := bindF_eq h4
  refine ⟨Z, G, ad, T, ρ, pa, o, T1, N, h1, fun v G1 ad1 H1 x1 r1 => ⟨Z, G1, ad1, T1, ρ, pa, i, T2, x1.en, h3, fun G2 ad2 H2 x2 => ⟨Z, G2, ad2, T2, ρ, pa, j, T3, x2.en, h5, fun G3 ad3 H3 x3 => ?_⟩⟩⟩
  have x := (x1.trans x2).trans x3
  have r3 := (r1.mono x2).mono x3
  split at h6
  · rename_i ds hs'
    cases h6
    obtain ⟨p, vs, rfl, hr, hl, ht⟩ := seq_rel x.en r3 hs'
    refine ⟨p, vs, rfl, hl rfl, fun q hq => ?_⟩
    obtain ⟨N2, w2⟩ := x.en.laid hq (cut_rel hr i j)
    refine k q G3 ad3 _ ⟨N2, x.gr.ex, x.gr.pr, fun b o hb hm => ?_, x.gr.nG, x.gr.nA⟩ w2 (x.gr.back x.en.iv.ats hq)
    have q' := x.gr.fr b o hb hm
    rw [upd_ne (ne_of_none q' hq)]
    exact q'
  · cases h6
end
end Fx
namespace Fx
open PySem PySem.Spec PyProof.Rows L2
open Evl (Ex)

/-! ### calls of one's own -/
abbrev HF := List D → Tm → Option (D × Tm)
def Sf (K : PySem.W.Frag) (n : Nat) (h : HF) : Sp := fun vs H Q _ => vs.length = n ∧ ∃ G ad T ds d T', Iv K ⟨G, H, ad⟩ G ad T H ∧ RpL K G ad vs ds ∧ h ds T = some (d, T') ∧
  ∀ v G' ad' H', Iv K ⟨G, H, ad⟩ G' ad' T' H' → Rp K G' ad' v d → Q v H'
section
variable {K : PySem.W.Frag} {Z : Zc} {G G' : Hp} {ad ad' : List Addr} {T T' : Tm} {ρ : Rho} {σ : L2.St} {H H' : Hp} {pa : Nat → Addr} {p : Addr} {ds : List D}
theorem Iv.entry (I : Iv K Z G ad T H) : Iv K ⟨G, H, ad⟩ G ad T H := ⟨I.ex, I.out, I.nd, I.len, I.obj, Ex.refl _, Pre.refl _, fun _ _ h _ => h, fun _ _ h => .inl h, fun _ h => .inl h⟩
theorem En.after (N : En K Z G ad T ρ σ H pa) (I : Iv K ⟨G, H, ad⟩ G' ad' T' H') : Nx K Z G ad H ρ σ pa T' G' ad' H' where
  gr := ⟨I.gex, I.pre, I.frame, I.newG, I.newA⟩
  en := by
    have hfr : ∀ b o, Z.He b = some o → b ∉ Z.ad0 → b ∉ ad := fun b o h1 h2 hm => by
      rcases N.iv.newA b hm with q | q
      · exact h2 q
      · rw [q] at h1
        cases h1
    refine ⟨⟨I.ex, I.out, I.nd, I.len, I.obj, N.iv.gex.trans I.gex, N.iv.pre.trans I.pre, fun b o h1 h2 => I.frame b o (N.iv.frame b o h1 h2) (hfr b o h1 h2), fun b o h => ?_, fun a h => ?_⟩, N.hl, fun i s h => ?_, N.ne⟩
    · rcases I.newG b o h with q | q
      · exact N.iv.newG b o q
      · exact .inr (N.iv.freshE q)
    · rcases I.newA a h with q | q
      · exact N.iv.newA a q
      · exact .inr (N.iv.freshE q)
    · have q := N.env i s h
      cases s with
      | un => trivial
      | dat d =>
        obtain ⟨v, q1, q2⟩ := q
        exact ⟨v, q1, q2.mono I.gex I.pre⟩
      | own es =>
        obtain ⟨us, q1, q2, q3, q4, q5, q6⟩ := q
        refine ⟨us, q1, I.frame _ _ q2 q5, q3.mono I.gex I.pre, ?_, fun hm => ?_, q6⟩
        · cases e : G' (pa i) with
          | none => rfl
          | some o =>
            rcases I.newG _ o e with z | z
            · have z' : G (pa i) = some o := z
              rw [q4] at z'
              cases z'
            · have z' : H (pa i) = none := z
              rw [q2] at z'
              cases z'
        · rcases I.newA _ hm with z | z
          · exact q5 z
          · have z' : H (pa i) = none := z
            rw [q2] at z'
            cases z'
end
def callF (h : HF) (fa : FA) : FE := fun ρ T => bindF (fa ρ T) fun ds T' => h ds T'
section
variable {X : Cx} {a b c : Expr} {es : List Expr} {st : Stmt} {pos : Pos} {f1 f2 : FE} {o1 : FO} {fs : FA} {t1 : FT} {g1 g2 : FS}
theorem call_run {n : Nat} {h : HF} {σ : L2.St} {H : Hp} {Q : VK} {E : XK} (hw : tD X.K (callF h fs) σ H Q) (hn : ∀ ρ T ds T', fs ρ T = some (ds, T') → ds.length = n) : tDA X.K fs σ H fun vs H1 => Sf X.K n h (vs ++ []) H1 Q E := by
  obtain ⟨Z, G, ad, T, ρ, pa, d, T', N, hf, k⟩ := hw
  obtain ⟨ds, T1, h1, h2⟩ := bindF_eq hf
  refine ⟨Z, G, ad, T, ρ, pa, ds, T1, N, h1, fun vs G1 ad1 H1 x1 r1 => ?_⟩
  show Sf X.K n h (vs ++ []) H1 Q E
  rw [List.append_nil]
  refine ⟨by rw [r1.length]; exact hn ρ T ds T1 h1, G1, ad1, T1, ds, d, T', x1.en.iv.entry, r1, h2, fun v G2 ad2 H2 I2 r2 => ?_⟩
  exact k v G2 ad2 H2 (x1.trans (x1.en.after I2)) r2
theorem xe_call {n : Nat} {h : HF} {e : Expr} {E : XK} (hp : PE X e (tCall (Sf X.K n h) [] E (tDA X.K fs))) (hn : ∀ ρ T ds T', fs ρ T = some (ds, T') → ds.length = n) : XE X e (callF h fs) := pe_weak hp fun _ _ _ hw => call_run hw hn
/-- how many arguments there are -/
theorem len_nil : ∀ ρ T ds T', nilF ρ T = some (ds, T') → ds.length = 0 := fun _ _ _ _ h => by
  cases h
  rfl
theorem len_cons {n : Nat} (h : ∀ ρ T ds T', fs ρ T = some (ds, T') → ds.length = n) : ∀ ρ T ds T', consF f1 fs ρ T = some (ds, T') → ds.length = n + 1 := fun ρ T ds T' e => by
  obtain ⟨x, T1, h1, h2⟩ := bindF_eq e
  obtain ⟨xs, T2, h3, h4⟩ := bindF_eq h2
  cases h4
  rw [List.length_cons, h _ _ _ _ h3]

/-! ### built-ins -/
def blF (g : List D → Option D) (fa : FA) : FE := fun ρ T => bindF (fa ρ T) fun ds T' => (g ds).map fun d => (d, T')
def OkC (K : PySem.W.Frag) (r : List V → Hp → VK → Prop) (g : List D → Option D) : Prop := ∀ (Z : Zc) (G : Hp) (ad : List Addr) (T : Tm) (ρ : Rho) (σ : L2.St) (H : Hp) (pa : Nat → Addr) (vs : List V) (ds : List D) (z : D) (Q : VK),
  En K Z G ad T ρ σ H pa → RpL K G ad vs ds → g ds = some z → (∀ u G' ad' H', Nx K Z G ad H ρ σ pa T G' ad' H' → Rp K G' ad' u z → Q u H') → r vs H Q
theorem bl_run {r : List V → Hp → VK → Prop} {g : List D → Option D} {σ : L2.St} {H : Hp} {Q : VK} (hr : OkC X.K r g) (h : tD X.K (blF g fs) σ H Q) : tCB r (tDA X.K fs) σ H Q := by
  obtain ⟨Z, G, ad, T, ρ, pa, d, T', N, hf, k⟩ := h
  obtain ⟨ds, T1, h1, h2⟩ := bindF_eq hf
  obtain ⟨z, h3, h4⟩ := Option.map_eq_some_iff.mp h2
  cases h4
  exact ⟨Z, G, ad, T, ρ, pa, ds, _, N, h1, fun vs G1 ad1 H1 x1 r1 => hr Z G1 ad1 _ ρ σ H1 pa vs ds _ Q x1.en r1 h3 fun u G2 ad2 H2 x2 r2 => k u G2 ad2 H2 (x1.trans x2) r2⟩
theorem xe_bl_ {e : Expr} {r : List V → Hp → VK → Prop} {g : List D → Option D} (hp : PE X e (tCB r (tDA X.K fs))) (hr : OkC X.K r g) : XE X e (blF g fs) := pe_weak hp fun _ _ _ => bl_run hr
def g1I (f : Int → D) : List D → Option D
  | [.int i] => some (f i)
  | _ => none
def g2I (C : Int → Int → Bool) (f : Int → Int → D) : List D → Option D
  | [.int i, .int j] => if C i j then some (f i j) else none
  | _ => none
theorem RpL.one {K : PySem.W.Frag} {G : Hp} {ad : List Addr} {vs : List V} {d : D} (r : RpL K G ad vs [d]) : ∃ v, vs = [v] ∧ Rp K G ad v d := by
  cases r with
  | cons h t =>
    cases t
    exact ⟨_, rfl, h⟩
theorem RpL.two {K : PySem.W.Frag} {G : Hp} {ad : List Addr} {vs : List V} {d e : D} (r : RpL K G ad vs [d, e]) : ∃ v w, vs = [v, w] ∧ Rp K G ad v d ∧ Rp K G ad w e := by
  cases r with
  | cons h t =>
    obtain ⟨w, rfl, h2⟩ := t.one
    exact ⟨_, w, rfl, h, h2⟩
def absD : List D → Option D
  | [.int i] => some (.int (if i < 0 then -i else i))
  | _ => none
theorem ok_abs {K : PySem.W.Frag} : OkC K (fun xs H Q => ∃ i, xs = [.int i] ∧ Q (.int (if i < 0 then -i else i)) H) absD := fun Z G ad T ρ σ H pa vs ds z Q N r hg k => by
  unfold absD at hg
  split at hg
  · cases hg
    obtain ⟨v, rfl, h⟩ := r.one
    exact ⟨_, by rw [h.inv_int], k _ G ad H N.nx (.int _)⟩
  · cases hg
def minD : List D → Option D
  | [.int i, .int j] => some (.int (if j < i then j else i))
  | _ => none
def maxD : List D → Option D
  | [.int i, .int j] => some (.int (if j > i then j else i))
  | _ => none
theorem ok_min {K : PySem.W.Frag} : OkC K (fun xs H Q => ∃ i j, xs = [.int i, .int j] ∧ Q (.int (if j < i then j else i)) H) minD := fun Z G ad T ρ σ H pa vs ds z Q N r hg k => by
  unfold minD at hg
  split at hg
  · cases hg
    obtain ⟨v, w, rfl, h1, h2⟩ := r.two
    exact ⟨_, _, by rw [h1.inv_int, h2.inv_int], k _ G ad H N.nx (.int _)⟩
  · cases hg
theorem ok_max {K : PySem.W.Frag} : OkC K (fun xs H Q => ∃ i j, xs = [.int i, .int j] ∧ Q (.int (if j > i then j else i)) H) maxD := fun Z G ad T ρ σ H pa vs ds z Q N r hg k => by
  unfold maxD at hg
  split at hg
  · cases hg
    obtain ⟨v, w, rfl, h1, h2⟩ := r.two
    exact ⟨_, _, by rw [h1.inv_int, h2.inv_int], k _ G ad H N.nx (.int _)⟩
  · cases hg
def intD : List D → Option D
  | [.int i] => some (.int i)
  | [.bl b] => some (.int (if b then 1 else 0))
  | _ => none
theorem ok_int {K : PySem.W.Frag} : OkC K (fun xs H Q => (∃ i, xs = [.int i] ∧ Q (.int i) H) ∨ ∃ k, xs = [.bl k] ∧ Q (.int (if k then 1 else 0)) H) intD := fun Z G ad T ρ σ H pa vs ds z Q N r hg k => by
  unfold intD at hg
  split at hg
  · cases hg
    obtain ⟨v, rfl, h⟩ := r.one
    exact .inl ⟨_, by rw [h.inv_int], k _ G ad H N.nx (.int _)⟩
  · cases hg
    obtain ⟨v, rfl, h⟩ := r.one
    exact .inr ⟨_, by rw [h.inv_bl], k _ G ad H N.nx (.int _)⟩
  · cases hg
noncomputable def cDivP : Int → Int → Bool := fun _ j => dc (0 < j ∧ j < 1073741824)
noncomputable def dvmD : List D → Option D
  | [.int i, .int j] => if cDivP i j then some (.tup [.int (i / j), .int (i % j)]) else none
  | _ => none
theorem ok_dvm {K : PySem.W.Frag} : OkC K rDvmP dvmD := fun Z G ad T ρ σ H pa vs ds z Q N r hg k => by
  unfold dvmD at hg
  split at hg
  · split at hg
    · rename_i hc
      cases hg
      obtain ⟨v, w, rfl, h1, h2⟩ := r.two
      refine ⟨_, _, by rw [h1.inv_int, h2.inv_int], of_dc hc, fun p o hp hd => ?_⟩
      exact k _ _ _ _ (N.knowN hp _) (.tup (TupK.new hd) (.cons (.int _) (.cons (.int _) .nil)))
    · cases hg
  · cases hg
/-- len of an operand -/
def lenD (T : Tm) (o : Op) : Option D := match seqD T o with
  | some (_, ds) => some (.int ds.length)
  | none => match o with
    | .val (.str s) => if s.length ≤ sizeLine then some (.int s.length) else none
    | _ => none
def lenF (fo : FO) : FE := fun ρ T => bindF (fo ρ T) fun o T' => (lenD T' o).map fun d => (d, T')
theorem xe_len {e : Expr} (hp : PE X e (tCB (fun xs H Q => ∃ x n, xs = [x] ∧ LenV X.K x H n ∧ Q (.int n) H) (tCons (tDO X.K o1) tNil))) : XE X e (lenF o1) := by
  refine pe_weak hp fun σ H Q h => ?_
  obtain ⟨Z, G, ad, T, ρ, pa, d, T', N, hf, k⟩ := h
  obtain ⟨o, T1, h1, h2⟩ := bindF_eq hf
  obtain ⟨z, h3, h4⟩ := Option.map_eq_some_iff.mp h2
  cases h4
  refine ⟨Z, G, ad, T, ρ, pa, o, _, N, h1, fun v G1 ad1 H1 x1 r1 => ?_⟩
  unfold lenD at h3
  split at h3
  · rename_i b ds hs
    cases h3
    obtain ⟨q, vs, rfl, hr, hl, ht⟩ := seq_rel x1.en r1 hs
    refine ⟨.ref q, ds.length, rfl, ?_, k _ G1 ad1 H1 x1 (.int _)⟩
    cases b with
    | false => exact .inl ⟨vs, hl rfl, hr.length.symm⟩
    | true => exact .inr ⟨vs, ht rfl, hr.length.symm⟩
  · split at h3
    · split at h3
      · rename_i hz
        cases h3
        rw [Rp.inv_str r1]
        exact ⟨_, _, rfl, ⟨hz, rfl⟩, k _ G1 ad1 H1 x1 (.int _)⟩
      · cases h3
    · cases h3
/-- list(x), tuple(x) -/
def lofF (fo : FO) : FA := fun ρ T => bindF (fo ρ T) fun o T' => match seqD T' o with
  | some (_, ds) => some (ds, T')
  | none => none
theorem xl_list {e : Expr} (hp : PE X e (tCB (fun xs H Q => ∃ p ys, xs = [.ref p] ∧ (SqL X.K H p ys ∨ SqT X.K H p ys) ∧ ∀ l, H l = none → Q (.ref l) (upd H l (.lst ys))) (tCons (tDO X.K o1) tNil))) : XL X e (lofF o1) := by
  refine pe_weak hp fun σ H Q h => ?_
  obtain ⟨Z, G, ad, T, ρ, pa, d, T', N, hf, k⟩ := h
  obtain ⟨o, T1, h1, h2⟩ := bindF_eq hf
  refine ⟨Z, G, ad, T, ρ, pa, o, T1, N, h1, fun v G1 ad1 H1 x1 r1 => ?_⟩
  split at h2
  · rename_i b ds hs
    cases h2
    obtain ⟨q, vs, rfl, hr, hl, ht⟩ := seq_rel x1.en r1 hs
    have hh : SqL X.K H1 q vs ∨ SqT X.K H1 q vs := by
      cases b with
      | false => exact .inl (hl rfl)
      | true => exact .inr (ht rfl)
    refine ⟨q, vs, rfl, hh, fun l hq => ?_⟩
    obtain ⟨N2, w2⟩ := x1.en.laid hq hr
    refine k l G1 ad1 _ ⟨N2, x1.gr.ex, x1.gr.pr, fun b o hb hm => ?_, x1.gr.nG, x1.gr.nA⟩ w2 (x1.gr.back x1.en.iv.ats hq)
    have q' := x1.gr.fr b o hb hm
    rw [upd_ne (ne_of_none q' hq)]
    exact q'
  · cases h2
def tofF (fo : FO) : FE := fun ρ T => bindF (fo ρ T) fun o T' => match seqD T' o with
  | some (_, ds) => some (.tup ds, T')
  | none => none
theorem xe_tuple {e : Expr} (hp : PE X e (tCB (rTupleP X.K) (tCons (tDO X.K o1) tNil))) : XE X e (tofF o1) := by
  refine pe_weak hp fun σ H Q h => ?_
  obtain ⟨Z, G, ad, T, ρ, pa, d, T', N, hf, k⟩ := h
  obtain ⟨o, T1, h1, h2⟩ := bindF_eq hf
  refine ⟨Z, G, ad, T, ρ, pa, o, T1, N, h1, fun v G1 ad1 H1 x1 r1 => ?_⟩
  split at h2
  · rename_i b ds hs
    cases h2
    cases b with
    | false =>
      obtain ⟨q, vs, rfl, hr, hl, ht⟩ := seq_rel x1.en r1 hs
      refine ⟨q, vs, rfl, .inl ⟨hl rfl, fun l o hq hd => ?_⟩⟩
      have x4 := x1.en.knowN hq (.frz o (.tup vs))
      exact k _ _ _ _ (x1.trans x4) (.tup (TupK.new hd) (x4.rpl hr))
    | true =>
      obtain rfl := seqD_tup hs
      obtain ⟨q, vs, rfl, hG, hr⟩ := Rp.inv_tup r1
      exact ⟨q, vs, rfl, .inr ⟨x1.en.iv.tup hG, k _ G1 ad1 H1 x1 (.tup hG hr)⟩⟩
  · cases h2
/-- all, any of a list of bools -/
def bls : List D → Option (List Bool)
  | [] => some []
  | .bl b :: r => (bls r).map (b :: ·)
  | _ :: _ => none
theorem bls_rel {K : PySem.W.Frag} {G : Hp} {ad : List Addr} : ∀ {vs : List V} {ds : List D} {bs : List Bool}, RpL K G ad vs ds → bls ds = some bs → vs = bs.map V.bl
  | _, _, _, .nil, h => by cases h; rfl
  | _, _, _, .cons (d := d) h t, e => by
    cases d with
    | bl b =>
      obtain ⟨r, h1, h2⟩ := Option.map_eq_some_iff.mp e
      subst h2
      rw [h.inv_bl, bls_rel t h1]
      rfl
    | _ => cases e
def allF (fo : FO) : FE := fun ρ T => bindF (fo ρ T) fun o T' => match seqD T' o with
  | some (false, ds) => (bls ds).map fun bs => (.bl (bs.all id), T')
  | _ => none
def anyF (fo : FO) : FE := fun ρ T => bindF (fo ρ T) fun o T' => match seqD T' o with
  | some (false, ds) => (bls ds).map fun bs => (.bl (bs.any id), T')
  | _ => none
theorem xe_all {e : Expr} (hp : PE X e (tCB (rAll X.K) (tCons (tDO X.K o1) tNil))) : XE X e (allF o1) := by
  refine pe_weak hp fun σ H Q h => ?_
  obtain ⟨Z, G, ad, T, ρ, pa, d, T', N, hf, k⟩ := h
  obtain ⟨o, T1, h1, h2⟩ := bindF_eq hf
  refine ⟨Z, G, ad, T, ρ, pa, o, T1, N, h1, fun v G1 ad1 H1 x1 r1 => ?_⟩
  split at h2
  · rename_i ds hs
    obtain ⟨bs, h3, h4⟩ := Option.map_eq_some_iff.mp h2
    cases h4
    obtain ⟨q, vs, rfl, hr, hl, ht⟩ := seq_rel x1.en r1 hs
    rw [bls_rel hr h3] at hl
    exact ⟨q, bs, rfl, hl rfl, k _ G1 ad1 H1 x1 (.bl _)⟩
  · cases h2
theorem xe_any {e : Expr} (hp : PE X e (tCB (rAny X.K) (tCons (tDO X.K o1) tNil))) : XE X e (anyF o1) := by
  refine pe_weak hp fun σ H Q h => ?_
  obtain ⟨Z, G, ad, T, ρ, pa, d, T', N, hf, k⟩ := h
  obtain ⟨o, T1, h1, h2⟩ := bindF_eq hf
  refine ⟨Z, G, ad, T, ρ, pa, o, T1, N, h1, fun v G1 ad1 H1 x1 r1 => ?_⟩
  split at h2
  · rename_i ds hs
    obtain ⟨bs, h3, h4⟩ := Option.map_eq_some_iff.mp h2
    cases h4
    obtain ⟨q, vs, rfl, hr, hl, ht⟩ := seq_rel x1.en r1 hs
    rw [bls_rel hr h3] at hl
    exact ⟨q, bs, rfl, hl rfl, k _ G1 ad1 H1 x1 (.bl _)⟩
  · cases h2
/-- list(range(a, b)) -/
def rngL (i j : Int) : List D := (List.range (j - i).toNat).map fun k => .int (i + (k : Nat))
open Classical in
/-- nothing is reckoned here: the decision is not computed -/
noncomputable def in62 (i : Int) : Bool := @decide (-4611686018427387904 ≤ i ∧ i < 4611686018427387904) (Classical.propDecidable _)
theorem in62_of {i : Int} (h1 : -4611686018427387904 ≤ i) (h2 : i < 4611686018427387904) : in62 i = true := by
  unfold in62
  exact @decide_eq_true _ (Classical.propDecidable _) ⟨h1, h2⟩
theorem of_in62 {i : Int} (h : in62 i = true) : -(2 ^ 62) ≤ i ∧ i < 2 ^ 62 := by
  unfold in62 at h
  have := @of_decide_eq_true _ (Classical.propDecidable _) h
  omega
noncomputable def in24 (n : Nat) : Bool := @decide (n ≤ 16777216) (Classical.propDecidable _)
theorem in24_of {n : Nat} (h : n ≤ 16777216) : in24 n = true := by
  unfold in24
  exact @decide_eq_true _ (Classical.propDecidable _) h
theorem of_in24 {n : Nat} (h : in24 n = true) : n ≤ 2 ^ 24 := by
  unfold in24 at h
  exact @of_decide_eq_true _ (Classical.propDecidable _) h
noncomputable def rgOkB (i j : Int) : Bool := in62 i && in62 j && in24 (j - i).toNat
theorem rgOk_of {i j : Int} (h : rgOkB i j = true) : RgOk i j := by
  unfold rgOkB at h
  simp only [Bool.and_eq_true] at h
  exact ⟨(of_in62 h.1.1).1, (of_in62 h.1.1).2, (of_in62 h.1.2).1, (of_in62 h.1.2).2, of_in24 h.2⟩
theorem rng_rel {K : PySem.W.Frag} {G : Hp} {ad : List Addr} (i j : Int) : RpL K G ad (rgV i j) (rngL i j) := by
  unfold rgV rngL
  generalize List.range (j - i).toNat = l
  induction l with
  | nil => exact .nil
  | cons x l ih => exact .cons (.int _) ih
noncomputable def lrgF (f g : FE) : FA := fun ρ T => bindF (f ρ T) fun x T1 => bindF (g ρ T1) fun y T2 => match x, y with
  | .int i, .int j => if rgOkB i j then some (rngL i j, T2) else none
  | _, _ => none
theorem xl_lrg {e : Expr} (hp : PE X e (tLstRg (tRg2 (tD X.K f1) (tD X.K f2)))) : XL X e (lrgF f1 f2) := by
  refine pe_weak hp fun σ H Q h => ?_
  obtain ⟨Z, G, ad, T, ρ, pa, d, T', N, hf, k⟩ := h
  obtain ⟨x, T1, e1, e2⟩ := bindF_eq hf
  obtain ⟨y, T2, e3, e4⟩ := bindF_eq e2
  refine ⟨Z, G, ad, T, ρ, pa, x, T1, N, e1, fun v G1 ad1 H1 x1 r1 => ⟨Z, G1, ad1, T1, ρ, pa, y, T2, x1.en, e3, fun w G2 ad2 H2 x2 r2 => ?_⟩⟩
  split at e4
  · split at e4
    · rename_i hk
      cases e4
      refine ⟨_, _, r1.inv_int, r2.inv_int, rgOk_of hk, fun q hq => ?_⟩
      have x3 := x1.trans x2
      obtain ⟨N2, w2⟩ := x3.en.laid hq (rng_rel _ _)
      refine k q G2 ad2 _ ⟨N2, x3.gr.ex, x3.gr.pr, fun b o hb hm => ?_, x3.gr.nG, x3.gr.nA⟩ w2 (x3.gr.back x3.en.iv.ats hq)
      have q' := x3.gr.fr b o hb hm
      rw [upd_ne (ne_of_none q' hq)]
      exact q'
    · cases e4
  · cases e4
/-- isinstance(x, T) -/
def tyN : D → Option String
  | .non => some "NoneType"
  | .bl _ => some "bool"
  | .int _ => some "int"
  | .str _ => some "str"
  | .tup _ => some "tuple"
  | .lst _ => some "list"
  | _ => none
def isiF (t : String) (f : FE) : FE := fun ρ T => bindF (f ρ T) fun d T' => match tyN d with
  | some n => (kitB n t).map fun b => (.bl b, T')
  | none => none
theorem ty_rel {K : PySem.W.Frag} {Z : Zc} {G : Hp} {ad : List Addr} {T : Tm} {H : Hp} (I : Iv K Z G ad T H) {v : V} {d : D} {n : String} (r : Rp K G ad v d) (h : tyN d = some n) : TyX K H v (.type n) := by
  cases r with
  | non => cases h; exact .base .non
  | bl b => cases h; exact .base (.bl b)
  | int i => cases h; exact .base (.int i)
  | str s => cases h; exact .base (.str s)
  | tup h1 _ =>
    cases h
    rcases h1 with ⟨o, h1, _⟩ | ⟨o, its, n, e, c, _⟩
    · exact .fTuple (I.ex _ _ h1)
    · exact .kTuple e c
  | lst h1 _ => cases h; exact .base (.lst (I.ex _ _ h1))
  | frl _ _ => cases h
  | ob _ => cases h
theorem xe_isi {t : String} {e : Expr} (hp : PE X e (tCB (rIsi X.K) (tCons (tD X.K f1) (tCons (tC (.ty t)) tNil)))) : XE X e (isiF t f1) := pe_weak hp fun σ H Q h => by
  obtain ⟨Z, G, ad, T, ρ, pa, d, T', N, hf, k⟩ := h
  obtain ⟨x, T1, h1, h2⟩ := bindF_eq hf
  refine ⟨Z, G, ad, T, ρ, pa, x, T1, N, h1, fun v G1 ad1 H1 x1 r1 => ?_⟩
  split at h2
  · rename_i n hn
    obtain ⟨b, h3, h4⟩ := Option.map_eq_some_iff.mp h2
    cases h4
    exact ⟨v, .ty t, .type n, .type t, b, rfl, .ty t, ty_rel x1.en.iv r1 hn, kit_ty h3, k _ G1 ad1 H1 x1 (.bl b)⟩
  · cases h2
end
end Fx
namespace Fx
open PySem PySem.Spec PyProof.Rows L2
open Evl (Ex)

/-! ### targets -/
inductive Tgt where
  | nm (i : Nat) | tp (is : List Nat)
def gNs : List Nat → TGs
  | [] => gNil
  | i :: is => gCons (gName i) (gNs is)
def tgT (K : PySem.W.Frag) : Tgt → TG
  | .nm i => gName i
  | .tp is => gTup K is.length (gNs is)
def setN : List Nat → List D → Rho → Option Rho
  | [], [], ρ => some ρ
  | i :: is, d :: ds, ρ => setN is ds (ρ.set i (.dat d))
  | _, _, _ => none
def tgD : Tgt → D → Rho → Option Rho
  | .nm i, d, ρ => some (ρ.set i (.dat d))
  | .tp is, .tup ds, ρ => setN is ds ρ
  | _, _, _ => none
def setV : List Nat → List V → L2.St → L2.St
  | i :: is, v :: vs, σ => setV is vs (σ.set i (some v))
  | _, _, σ => σ
def tgS : Tgt → List V → L2.St → L2.St
  | .nm i, vs, σ => match vs with
    | v :: _ => σ.set i (some v)
    | [] => σ
  | .tp is, vs, σ => setV is vs σ
section
variable {K : PySem.W.Frag} {Z : Zc} {G G' : Hp} {ad ad' : List Addr} {T T' : Tm} {ρ ρ' : Rho} {σ : L2.St} {H H' : Hp} {pa : Nat → Addr} {p : Addr} {ds : List D}
theorem setN_run : ∀ {is : List Nat} {vs : List V} {ds : List D} {ρ ρ' : Rho} {σ : L2.St} {Q : L2.St → Hp → Prop}, En K Z G ad T ρ σ H pa → RpL K G ad vs ds → setN is ds ρ = some ρ' → (En K Z G ad T ρ' (setV is vs σ) H pa → Q (setV is vs σ) H) → vs.length = is.length ∧ gNs is vs σ H Q
  | [], _, [], _, _, _, _, N, .nil, h, k => by cases h; exact ⟨rfl, rfl, k N⟩
  | [], _, _ :: _, _, _, _, _, _, _, h, _ => by cases h
  | _ :: _, _, [], _, _, _, _, _, _, h, _ => by cases h
  | i :: is, _, d :: ds, ρ, ρ', σ, Q, N, .cons (v := v) (vs := vs) h t, e, k => by
    obtain ⟨h1, h2⟩ := setN_run (is := is) (σ := σ.set i (some v)) (Q := Q) (N.setD i h) t e k
    exact ⟨by rw [List.length_cons, List.length_cons, h1], v, vs, rfl, h2⟩
theorem tg_run {t : Tgt} {v : V} {d : D} {Q : L2.St → Hp → Prop} (N : En K Z G ad T ρ σ H pa) (r : Rp K G ad v d) (h : tgD t d ρ = some ρ') (k : ∀ vs, En K Z G ad T ρ' (tgS t vs σ) H pa → Q (tgS t vs σ) H) : tgT K t v σ H Q := by
  cases t with
  | nm i =>
    cases h
    exact k [v] (N.setD i r)
  | tp is =>
    cases d with
    | tup ds =>
      obtain ⟨a, vs, rfl, h1, r1⟩ := r.inv_tup
      obtain ⟨q1, q2⟩ := setN_run (Q := Q) N r1 h (k vs)
      exact ⟨a, vs, rfl, N.iv.tup h1, q1, q2⟩
    | _ => cases h
end

/-! ### statements -/
def seqS (a b : FS) : FS := fun ρ T => match a ρ T with
  | some (.nx ρ', T') => b ρ' T'
  | r => r
def nilS : FS := fun ρ T => some (.nx ρ, T)
def brkS : FS := fun ρ T => some (.bk ρ, T)
def cntS : FS := fun ρ T => some (.ct ρ, T)
def retF (fo : FO) : FS := fun ρ T => bindF (fo ρ T) fun o T' => match o with
  | .val d => some (.rt d, T')
  | .own _ ds => some (.rt (.lst ds), T')
def retN : FS := fun _ T => some (.rt .non, T)
def asgF (i : Nat) (f : FE) : FS := fun ρ T => bindF (f ρ T) fun d T' => some (.nx (ρ.set i (.dat d)), T')
def ownF (i : Nat) (f : FA) : FS := fun ρ T => bindF (f ρ T) fun ds T' => some (.nx (ρ.set i (.own ds)), T')
def objF (i : Nat) (f : FA) : FS := fun ρ T => bindF (f ρ T) fun ds T' => some (.nx (ρ.set i (.dat (.ob T'.length))), T' ++ [.lst ds])
def unpF (t : Tgt) (f : FE) : FS := fun ρ T => bindF (f ρ T) fun d T' => (tgD t d ρ).map fun ρ' => (.nx ρ', T')
def dropF (f : FE) : FS := fun ρ T => bindF (f ρ T) fun _ T' => some (.nx ρ, T')
def ifS (t : FT) (a b : FS) : FS := fun ρ T => bindF (t ρ T) fun c T' => if c then a ρ T' else b ρ T'
def augF (i : Nat) (g : D → D → Option D) (f : FE) : FS := fun ρ T => match ρ[i]? with
  | some (.dat x) => bindF (f ρ T) fun y T' => (g x y).map fun z => (.nx (ρ.set i (.dat z)), T')
  | _ => none
def appF (i : Nat) (f : FE) : FS := fun ρ T => match ρ[i]? with
  | some (.own ds) => bindF (f ρ T) fun d T' => if ds.length < sizeLine then some (.nx (ρ.set i (.own (ds ++ [d]))), T') else none
  | _ => none
def setF (i : Nat) (fi fv : FE) : FS := fun ρ T => bindF (fv ρ T) fun d T1 => bindF (fi ρ T1) fun j T2 => match ρ[i]?, j with
  | some (.own ds), .int j => (ixN ds.length j).map fun m => (.nx (ρ.set i (.own (ds.set m d))), T2)
  | some (.dat (.ob k)), .int j => match T2[k]? with
    | some (.lst ds) => (ixN ds.length j).map fun m => (.nx ρ, T2.set k (.lst (ds.set m d)))
    | none => none
  | _, _ => none
def neverS : FS := fun _ _ => none
section
variable {X : Cx} {e c : Expr} {st : Stmt} {sts : List Stmt} {pos : Pos} {f f1 f2 : FE} {o1 : FO} {fs : FA} {t1 : FT} {g1 g2 : FS}
theorem xs_never : XS X st neverS := ps_weak ps_never fun D σ H h => by
  obtain ⟨Z, G, ad, T, ρ, pa, r, T', N, hf, k⟩ := h
  cases hf
theorem xss_nil : XSs X [] nilS := pss_weak pss_nil fun D σ H h => by
  obtain ⟨Z, G, ad, T, ρ, pa, r, T', N, hf, k⟩ := h
  cases hf
  exact k σ G ad H pa N (Ex.refl _) (Pre.refl _)
theorem EndD.mono {K : PySem.W.Frag} {Z : Zc} {G G1 : Hp} {ad ad1 : List Addr} {T' : Tm} {D0 : Ends} {r : Rz} (k : EndD K Z G ad T' D0 r) (e : Ex G G1) (p : Pre ad ad1) : EndD K Z G1 ad1 T' D0 r := by
  cases r with
  | nx ρ' => exact fun σ' G' ad' H' pa' N e' p' => k σ' G' ad' H' pa' N (e.trans e') (p.trans p')
  | bk ρ' => exact fun σ' G' ad' H' pa' N e' p' => k σ' G' ad' H' pa' N (e.trans e') (p.trans p')
  | ct ρ' => exact fun σ' G' ad' H' pa' N e' p' => k σ' G' ad' H' pa' N (e.trans e') (p.trans p')
  | rt d => exact fun v G' ad' H' I e' p' => k v G' ad' H' I (e.trans e') (p.trans p')
theorem xss_cons (h1 : XS X st g1) (h2 : XSs X sts g2) : XSs X (st :: sts) (seqS g1 g2) := pss_weak (pss_cons h1 h2) fun D σ H h => by
  obtain ⟨Z, G, ad, T, ρ, pa, r, T', N, hf, k⟩ := h
  unfold seqS at hf
  split at hf
  · rename_i ρ1 T1 h3
    exact ⟨Z, G, ad, T, ρ, pa, .nx ρ1, T1, N, h3, fun σ' G' ad' H' pa' N' e' p' => ⟨Z, G', ad', T1, ρ1, pa', r, T', N', hf, k.mono e' p'⟩⟩
  · rename_i hne
    refine ⟨Z, G, ad, T, ρ, pa, r, T', N, hf, ?_⟩
    cases r with
    | nx ρ' => exact absurd hf (hne ρ' T')
    | bk ρ' => exact k
    | ct ρ' => exact k
    | rt d => exact k
theorem xss_one (h1 : XS X st g1) : XSs X [st] g1 := pss_one h1
theorem xs_pass : XS X (.Pass pos) nilS := ps_weak ps_pass fun D σ H h => by
  obtain ⟨Z, G, ad, T, ρ, pa, r, T', N, hf, k⟩ := h
  cases hf
  exact k σ G ad H pa N (Ex.refl _) (Pre.refl _)
theorem xs_break : XS X (.Break pos) brkS := ps_weak ps_break fun D σ H h => by
  obtain ⟨Z, G, ad, T, ρ, pa, r, T', N, hf, k⟩ := h
  cases hf
  exact k σ G ad H pa N (Ex.refl _) (Pre.refl _)
theorem xs_continue : XS X (.Continue pos) cntS := ps_weak ps_continue fun D σ H h => by
  obtain ⟨Z, G, ad, T, ρ, pa, r, T', N, hf, k⟩ := h
  cases hf
  exact k σ G ad H pa N (Ex.refl _) (Pre.refl _)
theorem xs_ret (h : XO X e o1) : XS X (.Return (some e) pos) (retF o1) := ps_weak (ps_ret h) fun D σ H h => by
  obtain ⟨Z, G, ad, T, ρ, pa, r, T', N, hf, k⟩ := h
  obtain ⟨o, T1, h1, h2⟩ := bindF_eq hf
  refine ⟨Z, G, ad, T, ρ, pa, o, T1, N, h1, fun v G1 ad1 H1 x1 r1 => ?_⟩
  cases o with
  | val d =>
    cases h2
    exact k v G1 ad1 H1 x1.en.iv x1.gr.ex x1.gr.pr r1
  | own i ds =>
    cases h2
    obtain ⟨q1, rfl⟩ := r1
    obtain ⟨vs, h3, h4, h5, h6, h7, h8⟩ := x1.en.env i _ q1
    exact k _ (upd G1 (pa i) (.lst vs)) ad1 H1 (x1.en.iv.learn h6 h7 h8 h4) (x1.gr.ex.trans (Ex.new h6)) x1.gr.pr (.lst upd_same (h5.mono (Ex.new h6) (Pre.refl _)))
theorem xs_retN : XS X (.Return none pos) retN := ps_weak ps_retN fun D σ H h => by
  obtain ⟨Z, G, ad, T, ρ, pa, r, T', N, hf, k⟩ := h
  cases hf
  exact k _ G ad H N.iv (Ex.refl _) (Pre.refl _) .non
theorem xs_asg {i : Nat} (h : PS X st (tAsg (tD X.K f) (gName i))) : XS X st (asgF i f) := ps_weak h fun D σ H h => by
  obtain ⟨Z, G, ad, T, ρ, pa, r, T', N, hf, k⟩ := h
  obtain ⟨d, T1, h1, h2⟩ := bindF_eq hf
  cases h2
  exact ⟨Z, G, ad, T, ρ, pa, d, _, N, h1, fun v G1 ad1 H1 x1 r1 => k _ G1 ad1 H1 pa (x1.en.setD i r1) x1.gr.ex x1.gr.pr⟩
theorem xs_own {i : Nat} (h : PS X st (tAsg (tDL X.K fs) (gName i))) : XS X st (ownF i fs) := ps_weak h fun D σ H h => by
  obtain ⟨Z, G, ad, T, ρ, pa, r, T', N, hf, k⟩ := h
  obtain ⟨d, T1, h1, h2⟩ := bindF_eq hf
  cases h2
  exact ⟨Z, G, ad, T, ρ, pa, d, _, N, h1, fun p G1 ad1 H1 x1 w1 _ => k _ G1 ad1 H1 _ (x1.en.take w1 i) x1.gr.ex x1.gr.pr⟩
theorem xs_frz {i : Nat} (h : PS X st (tAsg (tDL X.K fs) (gName i))) : XS X st (asgF i (frzF fs)) := ps_weak h fun D σ H h => by
  obtain ⟨Z, G, ad, T, ρ, pa, r, T', N, hf, k⟩ := h
  obtain ⟨d, T1, h1, h2⟩ := bindF_eq hf
  obtain ⟨ds, T2, h3, h4⟩ := bindF_eq h1
  cases h2
  cases h4
  refine ⟨Z, G, ad, T, ρ, pa, ds, _, N, h3, fun p G1 ad1 H1 x1 w1 hp => ?_⟩
  obtain ⟨G2, x2, e2, r2⟩ := x1.learn w1 hp
  exact k _ G2 ad1 H1 pa (x2.en.setD i r2) x2.gr.ex x2.gr.pr
theorem xs_obj {i : Nat} (h : PS X st (tAsg (tDL X.K fs) (gName i))) : XS X st (objF i fs) := ps_weak h fun D σ H h => by
  obtain ⟨Z, G, ad, T, ρ, pa, r, T', N, hf, k⟩ := h
  obtain ⟨d, T1, h1, h2⟩ := bindF_eq hf
  cases h2
  refine ⟨Z, G, ad, T, ρ, pa, d, _, N, h1, fun p G1 ad1 H1 x1 w1 _ => ?_⟩
  obtain ⟨N2, p2, r2⟩ := x1.en.join w1
  exact k _ G1 (ad1 ++ [p]) H1 pa (N2.setD i r2) x1.gr.ex (x1.gr.pr.trans p2)
theorem xs_unp {t : Tgt} (h : PS X st (tAsg (tD X.K f) (tgT X.K t))) : XS X st (unpF t f) := ps_weak h fun D σ H h => by
  obtain ⟨Z, G, ad, T, ρ, pa, r, T', N, hf, k⟩ := h
  obtain ⟨d, T1, h1, h2⟩ := bindF_eq hf
  obtain ⟨ρ1, h3, h4⟩ := Option.map_eq_some_iff.mp h2
  cases h4
  exact ⟨Z, G, ad, T, ρ, pa, d, _, N, h1, fun v G1 ad1 H1 x1 r1 => tg_run x1.en r1 h3 fun vs N2 => k _ G1 ad1 H1 pa N2 x1.gr.ex x1.gr.pr⟩
theorem xs_expr (h : PS X st (tDrop (tD X.K f))) : XS X st (dropF f) := ps_weak h fun D σ H h => by
  obtain ⟨Z, G, ad, T, ρ, pa, r, T', N, hf, k⟩ := h
  obtain ⟨d, T1, h1, h2⟩ := bindF_eq hf
  cases h2
  exact ⟨Z, G, ad, T, ρ, pa, d, _, N, h1, fun v G1 ad1 H1 x1 r1 => k _ G1 ad1 H1 pa x1.en x1.gr.ex x1.gr.pr⟩
theorem xs_if {sb : List Stmt} (h : XT X c t1) (h1 : XSs X sts g1) (h2 : XSs X sb g2) : XS X (.If c sts sb pos) (ifS t1 g1 g2) := ps_weak (ps_if h h1 h2) fun D σ H h => by
  obtain ⟨Z, G, ad, T, ρ, pa, r, T', N, hf, k⟩ := h
  obtain ⟨b, T1, h1, h2⟩ := bindF_eq hf
  refine ⟨Z, G, ad, T, ρ, pa, b, T1, N, h1, fun G1 ad1 H1 x1 => ?_⟩
  cases b with
  | true => exact ⟨Z, G1, ad1, T1, ρ, pa, r, T', x1.en, h2, k.mono x1.gr.ex x1.gr.pr⟩
  | false => exact ⟨Z, G1, ad1, T1, ρ, pa, r, T', x1.en, h2, k.mono x1.gr.ex x1.gr.pr⟩
theorem xs_aug {i : Nat} {rr : R2} {g : D → D → Option D} (hr : OkR X.K rr g) (h : PS X st (tAug i (tD X.K f) rr)) : XS X st (augF i g f) := ps_weak h fun D σ H h => by
  obtain ⟨Z, G, ad, T, ρ, pa, r, T', N, hf, k⟩ := h
  unfold augF at hf
  split at hf
  · rename_i x hx
    obtain ⟨y, T1, h1, h2⟩ := bindF_eq hf
    obtain ⟨z, h3, h4⟩ := Option.map_eq_some_iff.mp h2
    cases h4
    obtain ⟨v, q1, q2⟩ := N.env i _ hx
    exact ⟨v, q1, Z, G, ad, T, ρ, pa, y, _, N, h1, fun w G1 ad1 H1 x1 r1 => hr Z G1 ad1 _ ρ σ H1 pa v w x y z _ x1.en (x1.rp q2) r1 h3 fun u G2 ad2 H2 x2 r2 => k _ G2 ad2 H2 pa ((x1.trans x2).en.setD i r2) (x1.trans x2).gr.ex (x1.trans x2).gr.pr⟩
  · cases hf
theorem xs_app {i : Nat} (h : PS X st (tDrop (tBM X.K "list" rAppend (tVar i) (tCons (tD X.K f) tNil)))) : XS X st (appF i f) := ps_weak h fun D σ H h => by
  obtain ⟨Z, G, ad, T, ρ, pa, r, T', N, hf, k⟩ := h
  unfold appF at hf
  split at hf
  · rename_i ds hx
    obtain ⟨y, T1, h1, h2⟩ := bindF_eq hf
    split at h2
    · rename_i hz
      cases h2
      obtain ⟨vs, q1, q2, q3, q4, q5, q6⟩ := N.env i _ hx
      refine ⟨_, q1, .inl ⟨rfl, vs, .inl (.inl q2)⟩, Z, G, ad, T, ρ, pa, y, _, N, h1, fun w G1 ad1 H1 x1 r1 => ?_⟩
      obtain ⟨us, s1, s2, s3, s4, s5, s6⟩ := x1.en.env i _ hx
      refine ⟨_, us, w, rfl, rfl, s2, by rw [s3.length]; exact hz, ?_⟩
      exact k _ G1 ad1 _ pa (x1.en.putO hx (s3.append (.cons r1 .nil))) x1.gr.ex x1.gr.pr
    · cases h2
  · cases hf
theorem xs_set {i : Nat} (h : PS X st (tAsg (tD X.K f1) (gSub (tVar i) (tD X.K f2) rSetL))) : XS X st (setF i f2 f1) := ps_weak h fun D σ H h => by
  obtain ⟨Z, G, ad, T, ρ, pa, r, T', N, hf, k⟩ := h
  obtain ⟨d, T1, h1, h2⟩ := bindF_eq hf
  obtain ⟨j, T2, h3, h4⟩ := bindF_eq h2
  refine ⟨Z, G, ad, T, ρ, pa, d, T1, N, h1, fun v G1 ad1 H1 x1 r1 => ?_⟩
  split at h4
  · rename_i ds j' hx
    obtain ⟨m, h5, h6⟩ := Option.map_eq_some_iff.mp h4
    cases h6
    obtain ⟨vs, q1, q2, q3, q4, q5, q6⟩ := x1.en.env i _ hx
    refine ⟨_, q1, Z, G1, ad1, T1, ρ, pa, _, _, x1.en, h3, fun w G2 ad2 H2 x2 r2 => ?_⟩
    obtain ⟨us, s1, s2, s3, s4, s5, s6⟩ := x2.en.env i _ hx
    refine ⟨_, us, j', m, rfl, r2.inv_int, s2, by rw [s3.length]; exact h5, ?_⟩
    have x := x1.trans x2
    exact k _ G2 ad2 _ pa (x.en.putO hx (s3.set (x2.rp r1) m)) x.gr.ex x.gr.pr
  · rename_i kk j' hx
    split at h4
    · rename_i ds hT
      obtain ⟨m, h5, h6⟩ := Option.map_eq_some_iff.mp h4
      cases h6
      obtain ⟨v0, q1, q2⟩ := x1.en.env i _ hx
      obtain ⟨a, rfl, q3⟩ := q2.inv_ob
      refine ⟨_, q1, Z, G1, ad1, T1, ρ, pa, _, _, x1.en, h3, fun w G2 ad2 H2 x2 r2 => ?_⟩
      have q4 := x2.gr.pr _ _ q3
      obtain ⟨us, s1, s2⟩ := x2.en.ob q4 hT
      refine ⟨_, us, j', m, rfl, r2.inv_int, s1, by rw [s2.length]; exact h5, ?_⟩
      have x := x1.trans x2
      exact k _ G2 ad2 _ pa (x.en.put q4 (s2.set (x2.rp r1) m)) x.gr.ex x.gr.pr
    · cases h4
  · cases h4
end

/-! ### walks -/
/-- a source of data, as it stands from (G, ad) on -/
structure ItOk (K : PySem.W.Frag) (J : It) (G0 : Hp) (ad0 : List Addr) (ds : List D) : Prop where
  go : ∀ (Z : Zc) (G : Hp) (ad : List Addr) (T : Tm) (ρ : Rho) (σ : L2.St) (H : Hp) (pa : Nat → Addr) (i : Nat), En K Z G ad T ρ σ H pa → Ex G0 G → Pre ad0 ad → i < ds.length → J.go i H
  stop : ∀ (Z : Zc) (G : Hp) (ad : List Addr) (T : Tm) (ρ : Rho) (σ : L2.St) (H : Hp) (pa : Nat → Addr) (i : Nat), En K Z G ad T ρ σ H pa → Ex G0 G → Pre ad0 ad → ds.length ≤ i → J.stop i H
  yld : ∀ (Z : Zc) (G : Hp) (ad : List Addr) (T : Tm) (ρ : Rho) (σ : L2.St) (H : Hp) (pa : Nat → Addr) (i : Nat) (x : V) (H' : Hp), En K Z G ad T ρ σ H pa → Ex G0 G → Pre ad0 ad → i < ds.length → J.yld i H x H' →
    ∃ G' d, Nx K Z G ad H ρ σ pa T G' ad H' ∧ ds[i]? = some d ∧ Rp K G' ad x d
def tDI (K : PySem.W.Frag) (f : FA) : TI := fun σ H R => ∃ Z G ad T ρ pa ds T', En K Z G ad T ρ σ H pa ∧ f ρ T = some (ds, T') ∧
  ∀ J G' ad' H', Nx K Z G ad H ρ σ pa T' G' ad' H' → ItOk K J G' ad' ds → R J H'
abbrev XI (X : Cx) (tg iter : Expr) (f : FA) : Prop := PI X tg iter (tDI X.K f)
theorem pi_weak {X : Cx} {tg e : Expr} {t t' : TI} (h : PI X tg e t) (k : ∀ σ H R, t' σ H R → t σ H R) : PI X tg e t' := ⟨fun pins s σ H R I hw => h.run pins s σ H R I (k σ H R hw)⟩
/-- over a tuple | a list that is data -/
def itT (f : FE) : FA := fun ρ T => bindF (f ρ T) fun d T' => match d with
  | .tup ds => some (ds, T')
  | _ => none
def itL (f : FE) : FA := fun ρ T => bindF (f ρ T) fun d T' => match d with
  | .lst ds => some (ds, T')
  | .frl ds => some (ds, T')
  | _ => none
section
variable {X : Cx} {e tg : Expr} {f f1 f2 : FE} {fs : FA}
theorem itOk_tup {K : PySem.W.Frag} {a : Addr} {G0 : Hp} {ad0 : List Addr} {vs : List V} {ds : List D} (h : TupK K G0 a vs) (r : RpL K G0 ad0 vs ds) (inj : ∀ (G : Hp), Ex G0 G → ∀ xs, SqT K G a xs → True) : ItOk K (Itt K a) G0 ad0 ds where
  go := fun Z G ad T ρ σ H pa i N e p hi => by
    have hv : i < vs.length := by rw [r.length]; exact hi
    exact ⟨vs, vs[i], N.iv.tup (h.mono e), List.getElem?_eq_getElem hv⟩
  stop := fun Z G ad T ρ σ H pa i N e p hi => ⟨vs, N.iv.tup (h.mono e), by rw [r.length]; exact hi⟩
  yld := fun Z G ad T ρ σ H pa i x H' N e p hi y => by
    obtain ⟨rfl, y⟩ := y
    obtain ⟨d, h1, h2⟩ := r.getV (y vs (N.iv.tup (h.mono e)))
    exact ⟨G, d, N.nx, h1, h2.mono e p⟩
theorem itOk_lst {K : PySem.W.Frag} {a : Addr} {G0 : Hp} {ad0 : List Addr} {vs : List V} {ds : List D} (h : SqL K G0 a vs) (r : RpL K G0 ad0 vs ds) : ItOk K (Itl K a) G0 ad0 ds where
  go := fun Z G ad T ρ σ H pa i N e p hi => by
    have hv : i < vs.length := by rw [r.length]; exact hi
    exact ⟨vs, vs[i], N.iv.seq (Evl.ex_l e h), List.getElem?_eq_getElem hv⟩
  stop := fun Z G ad T ρ σ H pa i N e p hi => ⟨vs, N.iv.seq (Evl.ex_l e h), by rw [r.length]; exact hi⟩
  yld := fun Z G ad T ρ σ H pa i x H' N e p hi y => by
    obtain ⟨rfl, y⟩ := y
    obtain ⟨d, h1, h2⟩ := r.getV (y vs (N.iv.seq (Evl.ex_l e h)))
    exact ⟨G, d, N.nx, h1, h2.mono e p⟩
theorem xi_tup (h : XE X e f) : XI X tg e (itT f) := pi_weak (pi_tup h) fun σ H R h => by
  obtain ⟨Z, G, ad, T, ρ, pa, ds, T', N, hf, k⟩ := h
  obtain ⟨d, T1, h1, h2⟩ := bindF_eq hf
  refine ⟨Z, G, ad, T, ρ, pa, d, T1, N, h1, fun v G1 ad1 H1 x1 r1 => ?_⟩
  split at h2
  · cases h2
    obtain ⟨a, vs, rfl, hh, hr⟩ := r1.inv_tup
    exact ⟨a, rfl, ⟨vs, x1.en.iv.tup hh⟩, k _ G1 ad1 H1 x1 (itOk_tup hh hr fun _ _ _ _ => trivial)⟩
  · cases h2
theorem xi_lst (h : XE X e f) : XI X tg e (itL f) := pi_weak (pi_list h) fun σ H R h => by
  obtain ⟨Z, G, ad, T, ρ, pa, ds, T', N, hf, k⟩ := h
  obtain ⟨d, T1, h1, h2⟩ := bindF_eq hf
  refine ⟨Z, G, ad, T, ρ, pa, d, T1, N, h1, fun v G1 ad1 H1 x1 r1 => ?_⟩
  split at h2
  · cases h2
    obtain ⟨a, vs, rfl, hh, hr⟩ := r1.inv_lst
    exact ⟨a, rfl, ⟨vs, .inl (.inl (x1.en.iv.ex _ _ hh))⟩, k _ G1 ad1 H1 x1 (itOk_lst (.inl (.inl hh)) hr)⟩
  · cases h2
    obtain ⟨a, vs, rfl, hh, hr⟩ := r1.inv_frl
    exact ⟨a, rfl, ⟨vs, x1.en.iv.seq hh⟩, k _ G1 ad1 H1 x1 (itOk_lst hh hr)⟩
  · cases h2
/-- over range(n), range(a, b) -/
noncomputable def rng1 (fs : FA) : FA := fun ρ T => bindF (fs ρ T) fun ds T' => match ds with
  | [.int j] => if in62 j then some (rngL 0 j, T') else none
  | _ => none
noncomputable def rng2 (fs : FA) : FA := fun ρ T => bindF (fs ρ T) fun ds T' => match ds with
  | [.int i, .int j] => if in62 i && in62 j then some (rngL i j, T') else none
  | _ => none
theorem rngL_len (i j : Int) : (rngL i j).length = (j - i).toNat := by unfold rngL; rw [List.length_map, List.length_range]
theorem itOk_rng {K : PySem.W.Frag} {G0 : Hp} {ad0 : List Addr} (i j : Int) : ItOk K (Itr i (j - i).toNat) G0 ad0 (rngL i j) where
  go := fun Z G ad T ρ σ H pa m N e p hi => by rw [rngL_len] at hi; exact hi
  stop := fun Z G ad T ρ σ H pa m N e p hi => by rw [rngL_len] at hi; exact hi
  yld := fun Z G ad T ρ σ H pa m x H' N e p hi y => by
    obtain ⟨rfl, rfl⟩ := y
    rw [rngL_len] at hi
    refine ⟨G, .int (i + (m : Nat)), N.nx, ?_, .int _⟩
    unfold rngL
    rw [List.getElem?_map, List.getElem?_range hi]
    rfl
theorem xi_rng1 (h : PI X tg e (iRng1 (tDA X.K fs))) : XI X tg e (rng1 fs) := pi_weak h fun σ H R h => by
  obtain ⟨Z, G, ad, T, ρ, pa, ds, T', N, hf, k⟩ := h
  obtain ⟨d, T1, h1, h2⟩ := bindF_eq hf
  refine ⟨Z, G, ad, T, ρ, pa, d, T1, N, h1, fun vs G1 ad1 H1 x1 r1 => ?_⟩
  split at h2
  · split at h2
    · rename_i hc
      cases h2
      obtain ⟨v, rfl, q⟩ := r1.one
      refine ⟨_, by rw [q.inv_int], (of_in62 hc).1, (of_in62 hc).2, k _ G1 ad1 H1 x1 ?_⟩
      have z := itOk_rng (K := X.K) (G0 := G1) (ad0 := ad1) 0 (by assumption)
      rw [Int.sub_zero] at z
      exact z
    · cases h2
  · cases h2
theorem xi_rng2 (h : PI X tg e (iRng2 (tDA X.K fs))) : XI X tg e (rng2 fs) := pi_weak h fun σ H R h => by
  obtain ⟨Z, G, ad, T, ρ, pa, ds, T', N, hf, k⟩ := h
  obtain ⟨d, T1, h1, h2⟩ := bindF_eq hf
  refine ⟨Z, G, ad, T, ρ, pa, d, T1, N, h1, fun vs G1 ad1 H1 x1 r1 => ?_⟩
  split at h2
  · split at h2
    · rename_i hc
      cases h2
      rw [Bool.and_eq_true] at hc
      obtain ⟨v, w, rfl, q1, q2⟩ := r1.two
      exact ⟨_, _, by rw [q1.inv_int, q2.inv_int], ⟨(of_in62 hc.1).1, (of_in62 hc.1).2, (of_in62 hc.2).1, (of_in62 hc.2).2⟩, k _ G1 ad1 H1 x1 (itOk_rng _ _)⟩
    · cases h2
  · cases h2
end

/-! ### for, while -/
def forL (t : Tgt) (body : FS) : List D → Rho → Tm → Option (Rz × Tm)
  | [], ρ, T => some (.nx ρ, T)
  | d :: ds, ρ, T => match tgD t d ρ with
    | none => none
    | some ρ1 => match body ρ1 T with
      | some (.nx ρ2, T2) => forL t body ds ρ2 T2
      | some (.ct ρ2, T2) => forL t body ds ρ2 T2
      | some (.bk ρ2, T2) => some (.nx ρ2, T2)
      | some (.rt d, T2) => some (.rt d, T2)
      | none => none
def forS (t : Tgt) (fs : FA) (body : FS) : FS := fun ρ T => bindF (fs ρ T) fun ds T' => forL t body ds ρ T'
def whL (c : FT) (body : FS) : Nat → Rho → Tm → Option (Rz × Tm)
  | 0, _, _ => none
  | n + 1, ρ, T => bindF (c ρ T) fun b T1 => if b then (match body ρ T1 with
      | some (.nx ρ2, T2) => whL c body n ρ2 T2
      | some (.ct ρ2, T2) => whL c body n ρ2 T2
      | some (.bk ρ2, T2) => some (.nx ρ2, T2)
      | some (.rt d, T2) => some (.rt d, T2)
      | none => none) else some (.nx ρ, T1)
open Classical in
/-- as many turns as it takes -/
noncomputable def whS (c : FT) (body : FS) : FS := fun ρ T => if h : ∃ n, (whL c body n ρ T).isSome = true then whL c body h.choose ρ T else none
theorem whL_mono (c : FT) (body : FS) : ∀ (n m : Nat) (ρ : Rho) (T : Tm) (r : Rz × Tm), whL c body n ρ T = some r → n ≤ m → whL c body m ρ T = some r
  | 0, _, _, _, _, h, _ => by cases h
  | n + 1, 0, _, _, _, _, hm => absurd hm (by omega)
  | n + 1, m + 1, ρ, T, r, h, hm => by
    unfold whL at h ⊢
    obtain ⟨b, T1, h1, h2⟩ := bindF_eq h
    rw [h1, bindF_some]
    cases b with
    | false => exact h2
    | true =>
      rw [if_pos rfl] at h2 ⊢
      split at h2
      · rename_i ρ2 T2 e
        exact whL_mono c body n m ρ2 T2 r h2 (by omega)
      · rename_i ρ2 T2 e
        exact whL_mono c body n m ρ2 T2 r h2 (by omega)
      · exact h2
      · exact h2
      · cases h2
theorem whS_of {c : FT} {body : FS} {n : Nat} {ρ : Rho} {T : Tm} {r : Rz × Tm} (h : whL c body n ρ T = some r) : whS c body ρ T = some r := by
  unfold whS
  have hx : ∃ n, (whL c body n ρ T).isSome = true := ⟨n, by rw [h]; rfl⟩
  rw [dif_pos hx]
  have hs := hx.choose_spec
  obtain ⟨r', e⟩ := Option.isSome_iff_exists.mp hs
  rw [e]
  have a := whL_mono c body _ (max n hx.choose) ρ T r h (Nat.le_max_left _ _)
  have b := whL_mono c body _ (max n hx.choose) ρ T r' e (Nat.le_max_right _ _)
  exact b.symm.trans a
theorem whS_eq {c : FT} {body : FS} {ρ : Rho} {T : Tm} {r : Rz × Tm} (h : whS c body ρ T = some r) : ∃ n, whL c body n ρ T = some r := by
  unfold whS at h
  split at h
  · exact ⟨_, h⟩
  · cases h
section
variable {X : Cx} {e tg c : Expr} {f f1 f2 : FE} {fs : FA} {t1 : FT} {st : Stmt} {sts : List Stmt} {pos : Pos} {g1 g2 : FS}
theorem xs_for {t : Tgt} (hp : PassesOwn (model X.prog X.w) X.A X.env X.xe) (hc : X.calm = true) (hi : XI X tg e fs) (hg : PG X tg (tgT X.K t)) (hb : XSs X sts g1) (hs : ∀ x, foldedSetIterable e X.env x = pure x := by intro _; rfl) :
    XS X (.For tg e sts [] pos) (forS t fs g1) := ps_weak (ps_for hp hc hi hg hb hs) fun D σ H h => by
  obtain ⟨Z, G, ad, T, ρ, pa, r, T', N, hf, k⟩ := h
  obtain ⟨ds, T1, h1, h2⟩ := bindF_eq hf
  refine ⟨Z, G, ad, T, ρ, pa, ds, T1, N, h1, fun J G1 ad1 H1 x1 it => ?_⟩
  refine ⟨fun i m σ' H' => m = ds.length - i ∧ i ≤ ds.length ∧ ∃ G2 ad2 T2 ρ2 pa2, En X.K Z G2 ad2 T2 ρ2 σ' H' pa2 ∧ Ex G1 G2 ∧ Pre ad1 ad2 ∧ forL t g1 (ds.drop i) ρ2 T2 = some (r, T'),
    ⟨ds.length, by simp, Nat.zero_le _, G1, ad1, T1, ρ, pa, x1.en, Ex.refl _, Pre.refl _, h2⟩, ?_⟩
  rintro i m σ' H' ⟨rfl, hi, G2, ad2, T2, ρ2, pa2, N2, e2, p2, h3⟩
  by_cases hlt : i < ds.length
  · refine .inr ⟨it.go _ _ _ _ _ _ _ _ i N2 e2 p2 hlt, fun σ' H' => i + 1 ≤ ds.length ∧ ∃ G2 ad2 T2 ρ2 pa2, En X.K Z G2 ad2 T2 ρ2 σ' H' pa2 ∧ Ex G1 G2 ∧ Pre ad1 ad2 ∧ forL t g1 (ds.drop (i + 1)) ρ2 T2 = some (r, T'),
      fun σ3 H3 hN => ⟨ds.length - (i + 1), by omega, rfl, hN.1, hN.2⟩, fun x H3 hy => ?_⟩
    obtain ⟨G3, d, x3, hd, r3⟩ := it.yld _ _ _ _ _ _ _ _ i x H3 N2 e2 p2 hlt hy
    rw [List.drop_eq_getElem_cons hlt] at h3
    have hd' : ds[i] = d := by
      rw [List.getElem?_eq_getElem hlt] at hd
      exact Option.some.inj hd
    rw [hd'] at h3
    unfold forL at h3
    split at h3
    · cases h3
    · rename_i ρ3 ht
      refine tg_run x3.en r3 ht fun vs N4 => ?_
      have eG : Ex G1 G3 := e2.trans x3.gr.ex
      have pA : Pre ad1 ad2 := p2.trans x3.gr.pr
      have base := k.mono (x1.gr.ex.trans eG) (x1.gr.pr.trans pA)
      split at h3
      · rename_i ρ4 T4 hb4
        exact ⟨Z, G3, ad2, T2, ρ3, pa2, .nx ρ4, T4, N4, hb4, fun σ5 G5 ad5 H5 pa5 N5 e5 p5 => ⟨by omega, G5, ad5, T4, ρ4, pa5, N5, eG.trans e5, pA.trans p5, h3⟩⟩
      · rename_i ρ4 T4 hb4
        exact ⟨Z, G3, ad2, T2, ρ3, pa2, .ct ρ4, T4, N4, hb4, fun σ5 G5 ad5 H5 pa5 N5 e5 p5 => ⟨by omega, G5, ad5, T4, ρ4, pa5, N5, eG.trans e5, pA.trans p5, h3⟩⟩
      · rename_i ρ4 T4 hb4
        cases h3
        exact ⟨Z, G3, ad2, T2, ρ3, pa2, .bk ρ4, _, N4, hb4, fun σ5 G5 ad5 H5 pa5 N5 e5 p5 => base σ5 G5 ad5 H5 pa5 N5 e5 p5⟩
      · rename_i d4 T4 hb4
        cases h3
        exact ⟨Z, G3, ad2, T2, ρ3, pa2, .rt d4, _, N4, hb4, fun v G5 ad5 H5 I5 e5 p5 r5 => base v G5 ad5 H5 I5 e5 p5 r5⟩
      · cases h3
  · have hi' : ds.length ≤ i := Nat.le_of_not_lt hlt
    rw [List.drop_eq_nil_of_le hi'] at h3
    cases h3
    exact .inl ⟨it.stop _ _ _ _ _ _ _ _ i N2 e2 p2 hi', k σ' G2 ad2 H' pa2 N2 (x1.gr.ex.trans e2) (x1.gr.pr.trans p2)⟩
theorem xs_while (hp : PassesOwn (model X.prog X.w) X.A X.env X.xe) (hc : XT X c t1) (hb : XSs X sts g1) : XS X (.While c sts [] pos) (whS t1 g1) := ps_weak (ps_while hp hc hb) fun D σ H h => by
  obtain ⟨Z, G, ad, T, ρ, pa, r, T', N, hf, k⟩ := h
  obtain ⟨n, hn⟩ := whS_eq hf
  refine ⟨fun m σ' H' => ∃ G2 ad2 T2 ρ2 pa2, En X.K Z G2 ad2 T2 ρ2 σ' H' pa2 ∧ Ex G G2 ∧ Pre ad ad2 ∧ whL t1 g1 m ρ2 T2 = some (r, T'), ⟨n, G, ad, T, ρ, pa, N, Ex.refl _, Pre.refl _, hn⟩, ?_⟩
  rintro m σ' H' ⟨G2, ad2, T2, ρ2, pa2, N2, e2, p2, h3⟩
  cases m with
  | zero => cases h3
  | succ m =>
    unfold whL at h3
    obtain ⟨b, T3, h4, h5⟩ := bindF_eq h3
    refine ⟨Z, G2, ad2, T2, ρ2, pa2, b, T3, N2, h4, fun G3 ad3 H3 x3 => ?_⟩
    have eG : Ex G G3 := e2.trans x3.gr.ex
    have pA : Pre ad ad3 := p2.trans x3.gr.pr
    have base := k.mono eG pA
    cases b with
    | false =>
      cases h5
      exact base σ' G3 ad3 H3 pa2 x3.en (Ex.refl _) (Pre.refl _)
    | true =>
      rw [if_pos rfl] at h5
      refine iteT ?_
      refine ⟨fun σ' H' => ∃ G2 ad2 T2 ρ2 pa2, En X.K Z G2 ad2 T2 ρ2 σ' H' pa2 ∧ Ex G G2 ∧ Pre ad ad2 ∧ whL t1 g1 m ρ2 T2 = some (r, T'), fun σ5 H5 hN => ⟨m, Nat.lt_succ_self m, hN⟩, ?_⟩
      split at h5
      · rename_i ρ4 T4 hb4
        exact ⟨Z, G3, ad3, T3, ρ2, pa2, .nx ρ4, T4, x3.en, hb4, fun σ5 G5 ad5 H5 pa5 N5 e5 p5 => ⟨G5, ad5, T4, ρ4, pa5, N5, eG.trans e5, pA.trans p5, h5⟩⟩
      · rename_i ρ4 T4 hb4
        exact ⟨Z, G3, ad3, T3, ρ2, pa2, .ct ρ4, T4, x3.en, hb4, fun σ5 G5 ad5 H5 pa5 N5 e5 p5 => ⟨G5, ad5, T4, ρ4, pa5, N5, eG.trans e5, pA.trans p5, h5⟩⟩
      · rename_i ρ4 T4 hb4
        cases h5
        exact ⟨Z, G3, ad3, T3, ρ2, pa2, .bk ρ4, _, x3.en, hb4, fun σ5 G5 ad5 H5 pa5 N5 e5 p5 => base σ5 G5 ad5 H5 pa5 N5 e5 p5⟩
      · rename_i d4 T4 hb4
        cases h5
        exact ⟨Z, G3, ad3, T3, ρ2, pa2, .rt d4, _, x3.en, hb4, fun v G5 ad5 H5 I5 e5 p5 r5 => base v G5 ad5 H5 I5 e5 p5 r5⟩
      · cases h5
end
end Fx
namespace Fx
open PySem PySem.Spec PyProof.Rows L2
open Evl (Ex)

section
variable {K : PySem.W.Frag} {Z : Zc} {G G' : Hp} {ad ad' : List Addr} {T T' : Tm} {ρ : Rho} {σ : L2.St} {H H' : Hp} {pa : Nat → Addr} {p : Addr} {ds : List D}
theorem En.carry (N : En K Z G ad T ρ σ H pa) (I : Iv K Z G' ad' T' H') (g : Gr G ad H G' ad' H') : En K Z G' ad' T' ρ σ H' pa := by
  refine ⟨I, N.hl, fun i s h => ?_, N.ne⟩
  have q := N.env i s h
  cases s with
  | un => trivial
  | dat d =>
    obtain ⟨v, q1, q2⟩ := q
    exact ⟨v, q1, q2.mono g.ex g.pr⟩
  | own es =>
    obtain ⟨us, q1, q2, q3, q4, q5, q6⟩ := q
    refine ⟨us, q1, g.fr _ _ q2 q5, q3.mono g.ex g.pr, ?_, fun hm => ?_, q6⟩
    · cases e : G' (pa i) with
      | none => rfl
      | some o =>
        rcases g.nG _ o e with z | z
        · rw [q4] at z
          cases z
        · rw [q2] at z
          cases z
    · rcases g.nA _ hm with z | z
      · exact q5 z
      · rw [q2] at z
        cases z
/-- the list that a comprehension fills -/
structure Fl (K : PySem.W.Frag) (Z : Zc) (G : Hp) (ad : List Addr) (H : Hp) (p : Addr) (acc : List D) : Prop where
  at_ : ∃ vs, H p = some (.lst vs) ∧ RpL K G ad vs acc
  g : G p = none
  a : p ∉ ad
  h : Z.He p = none
theorem Fl.step {acc : List D} (f : Fl K Z G ad H p acc) (g : Gr G ad H G' ad' H') : Fl K Z G' ad' H' p acc := by
  obtain ⟨vs, h1, h2⟩ := f.at_
  refine ⟨⟨vs, g.fr _ _ h1 f.a, h2.mono g.ex g.pr⟩, ?_, fun hm => ?_, f.h⟩
  · cases e : G' p with
    | none => rfl
    | some o =>
      rcases g.nG _ o e with z | z
      · rw [f.g] at z
        cases z
      · rw [h1] at z
        cases z
  · rcases g.nA _ hm with z | z
    · exact f.a z
    · rw [h1] at z
      cases z
theorem Fl.put {acc : List D} {vs : List V} {x : D} {v : V} (f : Fl K Z G ad H p acc) (hv : H p = some (.lst vs)) (r : RpL K G ad vs acc) (rx : Rp K G ad v x) : Fl K Z G ad (upd H p (.lst (vs ++ [v]))) p (acc ++ [x]) :=
  ⟨⟨_, upd_same, r.append (.cons rx .nil)⟩, f.g, f.a, f.h⟩
end
def wipeR (ρ : Rho) : List Nat → Rho
  | [] => ρ
  | v :: vs => (wipeR ρ vs).set v .un
theorem wipeR_length (ρ : Rho) : ∀ vs : List Nat, (wipeR ρ vs).length = ρ.length
  | [] => rfl
  | v :: vs => by unfold wipeR; rw [List.length_set, wipeR_length ρ vs]
theorem wipe_get (σ : L2.St) (i : Nat) : ∀ vs : List Nat, (wipe σ vs)[i]? = if i ∈ vs then (σ[i]?).map (fun _ => none) else σ[i]?
  | [] => by simp [wipe]
  | v :: vs => by
    unfold wipe
    by_cases hi : v = i
    · subst hi
      rw [if_pos List.mem_cons_self]
      by_cases hl : v < σ.length
      · rw [List.getElem?_set_self (by rw [wipe_length]; exact hl), List.getElem?_eq_getElem hl]
        rfl
      · rw [List.getElem?_eq_none (by rw [List.length_set, wipe_length]; omega), List.getElem?_eq_none (by omega)]
        rfl
    · rw [List.getElem?_set_ne hi, wipe_get σ i vs]
      by_cases hm : i ∈ vs
      · rw [if_pos hm, if_pos (List.mem_cons_of_mem _ hm)]
      · rw [if_neg hm, if_neg (by simp only [List.mem_cons, not_or]; exact ⟨fun e => hi e.symm, hm⟩)]
theorem wipeR_get (ρ : Rho) (i : Nat) : ∀ vs : List Nat, (wipeR ρ vs)[i]? = if i ∈ vs then (ρ[i]?).map (fun _ => Sl.un) else ρ[i]?
  | [] => by simp [wipeR]
  | v :: vs => by
    unfold wipeR
    by_cases hi : v = i
    · subst hi
      rw [if_pos List.mem_cons_self]
      by_cases hl : v < ρ.length
      · rw [List.getElem?_set_self (by rw [wipeR_length]; exact hl), List.getElem?_eq_getElem hl]
        rfl
      · rw [List.getElem?_eq_none (by rw [List.length_set, wipeR_length]; omega), List.getElem?_eq_none (by omega)]
        rfl
    · rw [List.getElem?_set_ne hi, wipeR_get ρ i vs]
      by_cases hm : i ∈ vs
      · rw [if_pos hm, if_pos (List.mem_cons_of_mem _ hm)]
      · rw [if_neg hm, if_neg (by simp only [List.mem_cons, not_or]; exact ⟨fun e => hi e.symm, hm⟩)]
theorem wipe_eq {σ1 σ2 : L2.St} {vs : List Nat} (hl : σ1.length = σ2.length) (h : ∀ i, i ∉ vs → σ1[i]? = σ2[i]?) : wipe σ1 vs = wipe σ2 vs := by
  apply List.ext_getElem?
  intro i
  rw [wipe_get, wipe_get]
  by_cases hm : i ∈ vs
  · rw [if_pos hm, if_pos hm]
    by_cases hi : i < σ1.length
    · rw [List.getElem?_eq_getElem hi, List.getElem?_eq_getElem (by omega)]
      rfl
    · rw [List.getElem?_eq_none (by omega), List.getElem?_eq_none (by omega)]
  · rw [if_neg hm, if_neg hm]
    exact h i hm
def tgIn : Tgt → List Nat → Bool
  | .nm i, vs => vs.contains i
  | .tp is, vs => is.all fun i => vs.contains i
theorem setV_length : ∀ (is : List Nat) (ws : List V) (σ : L2.St), (setV is ws σ).length = σ.length
  | [], _, _ => by simp [setV]
  | _ :: _, [], _ => by simp [setV]
  | i :: is, w :: ws, σ => by
    unfold setV
    rw [setV_length is ws, List.length_set]
theorem setV_out {i : Nat} : ∀ (is : List Nat) (ws : List V) (σ : L2.St), i ∉ is → (setV is ws σ)[i]? = σ[i]?
  | [], _, _, _ => by simp [setV]
  | _ :: _, [], _, _ => by simp [setV]
  | j :: is, w :: ws, σ, h => by
    unfold setV
    rw [setV_out is ws _ (fun z => h (List.mem_cons_of_mem _ z)), List.getElem?_set_ne (show j ≠ i from fun e => h (by rw [← e]; exact List.mem_cons_self))]
theorem tgS_wipe {t : Tgt} {vs : List Nat} (h : tgIn t vs = true) (ws : List V) (σ : L2.St) : wipe (tgS t ws (wipe σ vs)) vs = wipe σ vs := by
  have e : wipe (wipe σ vs) vs = wipe σ vs := by
    apply wipe_eq (wipe_length _ _)
    intro i hi
    rw [wipe_get, if_neg hi]
  refine Eq.trans (wipe_eq ?_ fun i hi => ?_) e
  · cases t with
    | nm i =>
      cases ws with
      | nil => rfl
      | cons w ws => exact List.length_set
    | tp is => exact setV_length _ _ _
  · cases t with
    | nm j =>
      cases ws with
      | nil => rfl
      | cons w ws =>
        have hj : j ∈ vs := by simpa [tgIn] using h
        exact List.getElem?_set_ne (show j ≠ i from fun e => hi (by rw [← e]; exact hj))
    | tp is =>
      refine setV_out _ _ _ fun hm => hi ?_
      have := List.all_eq_true.mp h i hm
      simpa using this
def compL (t : Tgt) (c : FT) (e : FE) (ρw : Rho) : List D → List D → Tm → Option (List D × Tm)
  | [], acc, T => some (acc, T)
  | d :: ds, acc, T => match tgD t d ρw with
    | none => none
    | some ρ1 => bindF (c ρ1 T) fun b T1 => if b then bindF (e ρ1 T1) fun x T2 => (if acc.length < sizeLine then compL t c e ρw ds (acc ++ [x]) T2 else none) else compL t c e ρw ds acc T1
def compF (t : Tgt) (fs : FA) (c : FT) (e : FE) (vs : List Nat) : FA := fun ρ T => if tgIn t vs = true then bindF (fs ρ T) fun ds T' => compL t c e (wipeR ρ vs) ds [] T' else none
def yesT : FT := fun _ T => some (true, T)
theorem yes_tt {K : PySem.W.Frag} {σ : L2.St} {H : Hp} {Q : Bool → Hp → Prop} (h : tDT K yesT σ H Q) : tYes σ H Q := by
  obtain ⟨Z, G, ad, T, ρ, pa, b, T', N, hf, k⟩ := h
  cases hf
  exact k G ad H N.nx
theorem xts_nil {X : Cx} : PTs X [] (tDT X.K yesT) := ⟨fun pins s σ H Q I h => pts_nil.run pins s σ H Q I (yes_tt h)⟩
theorem xts_one {X : Cx} {c : Expr} {t : FT} (h : XT X c t) : PTs X [c] (tDT X.K t) := pts_one h
theorem lc_imp {K : PySem.W.Frag} {t : Tgt} {fs : FA} {c : FT} {e : FE} {vs : List Nat} {σ : L2.St} {H : Hp} {Q : VK} (h : tDL K (compF t fs c e vs) σ H Q) : tLc (tDI K fs) (tgT K t) (tDT K c) (tD K e) vs σ H Q := by
  obtain ⟨Z, G, ad, T, ρ, pa, res, T', N, hf, k⟩ := h
  unfold compF at hf
  split at hf
  · rename_i hin
    obtain ⟨ds, T1, h1, h2⟩ := bindF_eq hf
    refine ⟨Z, G, ad, T, ρ, pa, ds, T1, N, h1, fun J G1 ad1 H1 x1 it p hp => ?_⟩
    have hp0 : H p = none := x1.gr.back x1.en.iv.ats hp
    have own_ne : ∀ (i : Nat) (es : List D), ρ[i]? = some (.own es) → pa i ≠ p := fun i es h => by
      obtain ⟨ws, _, q, _⟩ := x1.en.env i _ h
      exact ne_of_none q hp
    have wl : (wipeR ρ vs).length = (wipe σ vs).length := by rw [wipeR_length, wipe_length]; exact N.hl
    have wf : ∀ {G2 : Hp} {ad2 : List Addr} {T2 : Tm} {H2 : Hp}, En K Z G2 ad2 T2 ρ σ H2 pa → En K Z G2 ad2 T2 (wipeR ρ vs) (wipe σ vs) H2 pa := fun N2 => N2.forget wl fun i s hs => by
      rw [wipeR_get] at hs
      by_cases hm : i ∈ vs
      · rw [if_pos hm] at hs
        obtain ⟨_, _, e⟩ := Option.map_eq_some_iff.mp hs
        exact .inl e.symm
      · rw [if_neg hm] at hs
        exact .inr ⟨hs, by rw [wipe_get, if_neg hm]⟩
    obtain ⟨N0, w0⟩ := x1.en.laid (ds := []) hp .nil
    have g0 : Gr G1 ad1 H1 G1 ad1 (upd H1 p (.lst [])) := ⟨Ex.refl _, Pre.refl _, fun b o hb _ => by rw [upd_ne (ne_of_none hb hp)]; exact hb, fun _ _ h => .inl h, fun _ h => .inl h⟩
    refine ⟨fun i m Hc => m = ds.length - i ∧ i ≤ ds.length ∧ ∃ G2 ad2 T2 acc, Iv K Z G2 ad2 T2 Hc ∧ Gr G1 ad1 H1 G2 ad2 Hc ∧ Fl K Z G2 ad2 Hc p acc ∧ compL t c e (wipeR ρ vs) (ds.drop i) acc T2 = some (res, T'),
      ⟨ds.length, by simp, Nat.zero_le _, G1, ad1, T1, [], N0.iv, g0, ⟨w0.at_, w0.g, w0.a, w0.h⟩, h2⟩, ?_⟩
    rintro i m Hc ⟨rfl, hi, G2, ad2, T2, acc, I2, g2, f2, h3⟩
    have N2 : En K Z G2 ad2 T2 ρ σ Hc pa := x1.en.carry I2 g2
    by_cases hlt : i < ds.length
    · refine .inr ⟨it.go _ _ _ _ _ _ _ _ i N2 g2.ex g2.pr hlt, fun Hc => i + 1 ≤ ds.length ∧ ∃ G2 ad2 T2 acc, Iv K Z G2 ad2 T2 Hc ∧ Gr G1 ad1 H1 G2 ad2 Hc ∧ Fl K Z G2 ad2 Hc p acc ∧ compL t c e (wipeR ρ vs) (ds.drop (i + 1)) acc T2 = some (res, T'),
        fun H3 hN => ⟨ds.length - (i + 1), by omega, rfl, hN.1, hN.2⟩, fun x H3 hy => ?_⟩
      obtain ⟨G3, d, x3, hd, r3⟩ := it.yld _ _ _ _ _ _ _ _ i x H3 (wf N2) g2.ex g2.pr hlt hy
      rw [List.drop_eq_getElem_cons hlt] at h3
      have hd' : ds[i] = d := by
        rw [List.getElem?_eq_getElem hlt] at hd
        exact Option.some.inj hd
      rw [hd'] at h3
      unfold compL at h3
      split at h3
      · cases h3
      · rename_i ρ3 ht
        have g3 : Gr G1 ad1 H1 G3 ad2 H3 := g2.trans x3.gr I2.ats
        have f3 := f2.step x3.gr
        refine tg_run x3.en r3 ht fun ws N4 => ⟨tgS_wipe hin ws σ, ?_⟩
        obtain ⟨b, T4, h4, h5⟩ := bindF_eq h3
        refine ⟨Z, G3, ad2, T2, ρ3, pa, b, T4, N4, h4, fun G5 ad5 H5 x5 => ?_⟩
        have g5 := g3.trans x5.gr x3.en.iv.ats
        have f5 := f3.step x5.gr
        cases b with
        | false =>
          refine iteF ?_
          exact ⟨by omega, G5, ad5, T4, acc, x5.en.iv, g5, f5, h5⟩
        | true =>
          refine iteT ?_
          rw [if_pos rfl] at h5
          obtain ⟨y, T6, h6, h7⟩ := bindF_eq h5
          refine ⟨Z, G5, ad5, T4, ρ3, pa, y, T6, x5.en, h6, fun u G7 ad7 H7 x7 r7 => ?_⟩
          have g7 := g5.trans x7.gr x5.en.iv.ats
          have f7 := f5.step x7.gr
          split at h7
          · rename_i hz
            obtain ⟨us, q1, q2⟩ := f7.at_
            refine ⟨us, q1, by rw [q2.length]; exact hz, by omega, G7, ad7, T6, acc ++ [y], x7.en.iv.mine f7.g f7.a f7.h _, ⟨g7.ex, g7.pr, fun b o hb hm => ?_, g7.nG, g7.nA⟩, f7.put q1 q2 r7, h7⟩
            rw [upd_ne (ne_of_none hb hp)]
            exact g7.fr b o hb hm
          · cases h7
    · have hi' : ds.length ≤ i := Nat.le_of_not_lt hlt
      rw [List.drop_eq_nil_of_le hi'] at h3
      cases h3
      exact .inl ⟨it.stop _ _ _ _ _ _ _ _ i N2 g2.ex g2.pr hi', k p G2 ad2 Hc ⟨N2, x1.gr.trans g2 x1.en.iv.ats⟩ ⟨f2.g, f2.a, f2.h, own_ne, f2.at_⟩ hp0⟩
  · cases hf
section
variable {X : Cx} {e : Expr} {st : Stmt} {t : Tgt} {fs : FA} {c : FT} {f : FE} {vs : List Nat}
theorem xl_lc (h : PE X e (tLc (tDI X.K fs) (tgT X.K t) (tDT X.K c) (tD X.K f) vs)) : XL X e (compF t fs c f vs) := pe_weak h fun _ _ _ => lc_imp
/-- name = [..] -/
theorem asg_lc {i : Nat} (h : PS X st (tAsg (tLc (tDI X.K fs) (tgT X.K t) (tDT X.K c) (tD X.K f) vs) (gName i))) : PS X st (tAsg (tDL X.K (compF t fs c f vs)) (gName i)) := ps_weak h fun _ _ _ hw => lc_imp hw
/-- over a new list -/
def itN (f : FA) : FA := f
theorem xi_new {tg : Expr} (h : XL X e fs) : XI X tg e fs := pi_weak (pi_list h) fun σ H R h => by
  obtain ⟨Z, G, ad, T, ρ, pa, ds, T', N, hf, k⟩ := h
  refine ⟨Z, G, ad, T, ρ, pa, ds, T', N, hf, fun p G1 ad1 H1 x1 w1 hp => ?_⟩
  obtain ⟨G2, x2, e2, r2⟩ := x1.learn w1 hp
  obtain ⟨a, us, q, hh, hr⟩ := r2.inv_lst
  cases q
  exact ⟨p, rfl, ⟨us, .inl (.inl (x2.en.iv.ex _ _ hh))⟩, k _ G2 ad1 H1 x2 (itOk_lst (.inl (.inl hh)) hr)⟩
end

/-! ### a def -/
def runB (g : FS) (n : Nat) : HF := fun ds T => match g (ds.map Sl.dat ++ List.replicate (n - ds.length) Sl.un) T with
  | some (.rt d, T') => some (d, T')
  | some (.nx _, T') => some (.non, T')
  | _ => none
theorem en_start {K : PySem.W.Frag} {G : Hp} {ad : List Addr} {T : Tm} {H : Hp} {vs : List V} {ds : List D} {N : List Str} (I : Iv K ⟨G, H, ad⟩ G ad T H) (r : RpL K G ad vs ds) :
    En K ⟨G, H, ad⟩ G ad T (ds.map Sl.dat ++ List.replicate (N.length - ds.length) Sl.un) (L2.start N vs) H (fun _ => 0) := by
  have key : ∀ (i : Nat) (s : Sl), (ds.map Sl.dat ++ List.replicate (N.length - ds.length) Sl.un)[i]? = some s → s = .un ∨ ∃ d, ds[i]? = some d ∧ s = .dat d := fun i s h => by
    by_cases hi : i < ds.length
    · rw [List.getElem?_append_left (by rw [List.length_map]; exact hi), List.getElem?_map, List.getElem?_eq_getElem hi] at h
      cases h
      exact .inr ⟨_, List.getElem?_eq_getElem hi, rfl⟩
    · rw [List.getElem?_append_right (by rw [List.length_map]; omega)] at h
      have := List.mem_of_getElem? h
      rw [List.mem_replicate] at this
      exact .inl this.2
  refine ⟨I, ?_, fun i s h => ?_, fun i j es fs h1 h2 _ => ?_⟩
  · unfold L2.start
    rw [List.length_append, List.length_append, List.length_map, List.length_map, List.length_replicate, List.length_replicate, r.length]
  · rcases key i s h with rfl | ⟨d, h1, rfl⟩
    · trivial
    · obtain ⟨v, h2, h3⟩ := r.get h1
      refine ⟨v, ?_, h3⟩
      unfold L2.start
      rw [List.getElem?_append_left (by rw [List.length_map]; exact (List.getElem?_eq_some_iff.mp h2).1), List.getElem?_map, h2]
      rfl
  · rcases key i _ h1 with e | ⟨d, _, e⟩ <;> cases e
theorem fn_ok {P : Program} {w : World} {K : PySem.W.Frag} {mg : Str → Option Value} {base : Heap} {x qual : Str} {st : Stmt} {f : Addr} {fd : FuncData} {N ps : List Str} {k : Nat} {g : FS} (F : Fun K x qual st f fd) (S : FnScope N ps (defScope st))
    (hbody : ∀ (cdv : Value) (A : Around) (outer : List Env) (s : Shared) (H : Hp) (E : XK), Room k (A.deeper (envOfC qual (defScope st) s.heap.objs.size f cdv)) →
      XSs (cxOf CX0 P w K mg base N qual (defScope st) f cdv A outer s H E).nox (defBody st) g) : FnOk P w K mg base CX0 (k + 1) f fd ps (Sf K ps.length (runB g N.length)) := by
  refine F.ok S (fun vs H Q E h => h.1) (fun cdv A outer s H vs Q E hr h => ?_)
  obtain ⟨hn, G, ad, T, ds, d, T', I, r, hf, q⟩ := h
  refine ⟨_, hbody cdv A outer s H E hr, ⟨G, H, ad⟩, G, ad, T, (ds.map Sl.dat ++ List.replicate (N.length - ds.length) Sl.un), fun _ => 0, ?_⟩
  unfold runB at hf
  split at hf
  · rename_i d' T1 e
    cases hf
    exact ⟨.rt d, T', en_start I r, e, fun v G' ad' H' I' _ _ r' => q v G' ad' H' I' r'⟩
  · rename_i ρ' T1 e
    cases hf
    exact ⟨.nx ρ', T', en_start I r, e, fun σ' G' ad' H' pa' N' _ _ => q .non G' ad' H' N'.iv .non⟩
  · cases hf
end Fx
set_option maxHeartbeats 4000000
namespace Fx
open PySem PySem.Spec PyProof.Rows L2
open Evl (Ex)
/-! ### a tuple once -/
theorem mul_once (l : Addr) (xs : Array Value) (m : Nat) (dd : Option Addr) (sl : Array (Option Value)) (u : Tok) (hne : xs.isEmpty = false) :
    Meets (Builtin.«tuple.__mul__» ⟨[.ref l, .int 1 u], []⟩) (fun _ R s =>
      s.heap.get? l = some { cls := .type "tuple", dict := dd, data := .seq xs m, slots := sl } ∧ R (.ok (.ret (.ref l))) s) :=
  .of_wp fun prog w A R s h => by
    obtain ⟨hp, g, d, tk, os⟩ := s
    obtain ⟨hl, h⟩ := h
    have f1 := AutoSeq1.idx_int
    wp_walk using wpAny_loadPart' hl
    exact ⟨_, rfl, h⟩
def rOnce (K : PySem.W.Frag) : R2 := fun x y H Q => ∃ l xs, x = .ref l ∧ y = .int 1 ∧ SqT K H l xs ∧ xs ≠ [] ∧ Q (.ref l) H
section
variable {X : Cx}
theorem op_once : OpR X (binaryOp .Mult) (rOnce X.K) := by
  intro pins s σ H x y v u Q I rx ry h
  obtain ⟨l, xs, rfl, rfl, ht, hne, q⟩ := h
  cases rx
  obtain ⟨t, rfl⟩ := ry
  obtain ⟨its, r, hx, _⟩ := I.tuple ht
  obtain ⟨⟨cl, dd, da, sl⟩, ho, hc, m, hd⟩ := hx
  simp only at hc hd
  subst hc hd
  have he : its.toArray.isEmpty = false := by
    cases its with
    | nil =>
      cases r
      exact absurd rfl hne
    | cons a b => rfl
  refine wpAny_binaryOp_repeat_ref (T := "tuple") (U := "int") (by decide)
    ⟨_, ho, rfl⟩ (fun s' => typeIs_int s' 1 t) noFill_tuple_mul F.fills_int_mul
    F.slot_int_rmul repeat_tuple F.slot_int_index.lookup ?_
  refine call_meets F.slot_int_rmul (typeIs_int s 1 t) F.entry_int_rmul
    (F.args_int_rmul_2 _ _) (int_rmul_tuple 1 t l its.toArray m dd sl) ⟨ho, rfl, ⟨_, ho, rfl⟩, ?_⟩
  refine call_meets F.slot_tuple_mul ⟨_, ho, rfl⟩ F.entry_tuple_mul
    (F.args_tuple_mul_2 _ _) (mul_once l its.toArray m dd sl t he) ⟨ho, ?_⟩
  exact ⟨.ref l, H, I, rfl, q⟩
end
end Fx
set_option maxHeartbeats 4000000
namespace Fx
open PySem PySem.Spec PyProof.Rows L2
open Evl (Ex)
/-! ### t[::-1] -/
section
variable {prog : Program} {w : World} {A : Around} {E : Value → Shared → Prop} {s : Shared}
theorem back_places (n : Nat) : Builtin.Slice.slicePlaces ((n : Int) - 1) (-1) (-1) = n := by
  unfold Builtin.Slice.slicePlaces
  rw [if_neg (by decide)]
  by_cases h : (n : Int) - 1 > -1
  · rw [if_pos h]
    have : ((n : Int) - 1 - -1 - 1) / (- -1) + 1 = (n : Int) := by
      rw [show (- -1 : Int) = 1 from rfl, Int.ediv_one]
      omega
    rw [this]
    rfl
  · rw [if_neg h]
    have : n = 0 := by omega
    rw [this]
    rfl
theorem back_applied {sl : Addr} {vl vu vs : Value} {n : Nat} {Q : Int × Int × Nat → Shared → Prop} (hs : s.heap.IsSliceOf sl vl vu vs)
    (pl : IsPart vl none) (pu : IsPart vu none) (ps : IsPart vs (some (-1))) (h : Q ((n : Int) - 1, -1, n) s) :
    wpAny (model prog w) A (Builtin.Slice.sliceApplied (.ref sl) (pure (n : Int))) Q E s := by
  obtain ⟨ob, hob, _, hd⟩ := id hs
  unfold Builtin.Slice.sliceApplied
  unfold Builtin.Slice.sliceFields
  refine wpAny_bind (wpAny_bind (wpAny_field hob hd (x := vl) rfl (wpAny_bind
    (wpAny_field hob hd (x := vu) rfl (wpAny_bind (wpAny_field hob hd (x := vs) rfl (wpAny_pure ?_)))))))
  refine wpAny_bind (HT.slicePart_ ps ?_)
  show wpAny _ _ (if ((-1 : Int) == 0) = true then _ else _) _ _ s
  rw [if_neg (by decide : ¬ ((-1 : Int) == 0) = true)]
  refine wpAny_bind (HT.slicePart_ pl (wpAny_bind (HT.slicePart_ pu ?_)))
  refine wpAny_bind (wpAny_pure ?_)
  show wpAny _ _ (pure ((n : Int) - 1, (-1 : Int), Builtin.Slice.slicePlaces ((n : Int) - 1) (-1) (-1))) _ _ s
  rw [back_places]
  exact wpAny_pure h
theorem back_pick (xs : Array Value) : (List.range xs.size).filterMap (fun (k : Nat) => xs[((xs.size : Int) - 1 + (k : Int) * -1).toNat]?) = xs.toList.reverse := by
  have e : (List.range xs.size).filterMap (fun (k : Nat) => xs[((xs.size : Int) - 1 + (k : Int) * -1).toNat]?) = ((List.range xs.size).map fun k => xs.size - 1 - k).filterMap (xs[·]?) := by
    rw [List.filterMap_map]
    have key : ∀ (l : List Nat), (∀ k ∈ l, k < xs.size) → l.filterMap (fun (k : Nat) => xs[((xs.size : Int) - 1 + (k : Int) * -1).toNat]?) = l.filterMap ((fun x => xs[x]?) ∘ fun k => xs.size - 1 - k) := by
      intro l
      induction l with
      | nil => intro _; rfl
      | cons k l ih =>
        intro h
        have hk := h k List.mem_cons_self
        have e1 : ((xs.size : Int) - 1 + (k : Int) * -1).toNat = xs.size - 1 - k := by omega
        rw [List.filterMap_cons, List.filterMap_cons, ih fun j hj => h j (List.mem_cons_of_mem _ hj), e1]
        rfl
    exact key _ fun k hk => List.mem_range.mp hk
  rw [e, PySem.W.krv_range, List.filterMap_reverse, PySem.W.krv_all]
theorem back_tuple {t sl : Addr} {xs : Array Value} {vl vu vs : Value} {Q : Value → Shared → Prop} (ht : IsTup s.heap t xs) (hs : s.heap.IsSliceOf sl vl vu vs)
    (pl : IsPart vl none) (pu : IsPart vu none) (ps : IsPart vs (some (-1))) (hz : xs.size ≤ sizeLine)
    (h : Q (.ref s.heap.objs.size) { s with heap := s.heap.push { cls := .type "tuple", data := .seq xs.toList.reverse.toArray } }) :
    wpAny (model prog w) A (getItem (.ref t) (.ref sl)) Q E s := by
  have fits : sizeOk (.seq xs.toList.reverse.toArray) := by
    show xs.toList.reverse.toArray.size ≤ sizeLine
    rw [List.size_toArray, List.length_reverse, Array.length_toList]
    exact hz
  obtain ⟨ob, hob, hcb, _⟩ := id hs
  have hty : s.TypeIs (.ref sl) "slice" := ⟨ob, hob, hcb⟩
  unfold getItem
  try with_reducible refine wpAny_holding ?_
  first | refine wpAny_bind (wpAny_pure ?_) | skip
  refine wpAny_bind (wpAny_sequenceKey ht.typeIs (by decide) ?_)
  refine wpAny_bind (wpAny_callSpecial?_slot (name := Str.ofString "__getitem__") ht.typeIs
    PyProof.Rows.slot_tuple_getitem (wpAny_call_entry PyProof.Rows.slot_tuple_getitem ht.typeIs PyProof.Rows.entry_tuple_getitem ?_ (PyProof.Rows.args_tuple_getitem _ _)))
  show wpAny _ _ (Builtin.Tuple.tupleItemsOf (.ref t) >>= _) _ _ s
  refine wpAny_bind (PyProof.Rows.tupleItemsOf_ ht ?_)
  refine wpAny_bind (wpAny_typeOf hty ?_)
  rw [if_pos (by decide)]
  refine wpAny_bind (back_applied (n := xs.size) hs pl pu ps ?_)
  have no : ¬ (((xs.size : Int) - 1 == 0 && (-1 : Int) == 1 && xs.size == xs.size) = true) := by
    intro q
    rw [Bool.and_eq_true, Bool.and_eq_true] at q
    exact absurd q.1.2 (by decide)
  show wpAny _ _ (if (((xs.size : Int) - 1 == 0 && (-1 : Int) == 1 && xs.size == xs.size) = true) then _ else _) _ _ s
  rw [if_neg no, back_pick]
  first
    | exact wpAny_bind (m := Builtin.Tuple.tupleExact _) (wpAny_newObj_type (wpAny_pure ⟨_, rfl, wpAny_pure h⟩) fits)
    | exact wpAny_bind (m := Builtin.Tuple.tupleExact _) (wpAny_newObj_type (wpAny_bind (wpAny_pure (wpAny_pure ⟨_, rfl, wpAny_pure h⟩))) fits)
    | exact wpAny_bind (wpAny_bind (m := Builtin.Tuple.tupleExact _) (wpAny_newObj_type (wpAny_pure (wpAny_pure ⟨_, rfl, wpAny_pure h⟩)) fits))
    | exact wpAny_bind (wpAny_bind (m := Builtin.Tuple.tupleExact _) (wpAny_newObj_type (wpAny_pure ⟨_, rfl, wpAny_pure h⟩) fits))
end
section
variable {X : Cx}
def tBackT (K : PySem.W.Frag) (te : TE) : TE := fun σ H Q => te σ H fun x H1 => ∃ a xs, x = .ref a ∧ SqT K H1 a xs ∧ Tn H1 Q xs.reverse
theorem pe_backT {e : Expr} {te : TE} {k : Nat} {p1 p2 p3 pos : Pos} (he : PE X e te) : PE X (.Subscript e (.Slice none none (some (.UnaryOp .USub (.Constant (.int 1) k p1) p2)) p3) pos) (tBackT X.K te) := by
  refine ⟨fun pins s σ H Q I h => ?_⟩
  refine Subscript_ (thn (he.run pins s σ H _ I h) fun v s1 hv => ?_)
  obtain ⟨x, H1, I1, r1, a, xs, ex, hx, q⟩ := hv
  subst ex
  cases r1
  have hst : PO X (some (.UnaryOp .USub (.Constant (.int 1) k p1) p2)) (tPart (tUn (rU fun i => .int (-i)) (tC (.int 1)))) := po_some (pe_un un_neg pe_int)
  refine wpAny_Slice (thn (po_none.run pins s1 σ H1 (fun o H2 => o = none ∧ H2 = H1) I1 ⟨rfl, rfl⟩) fun vl s2 h2 => ?_)
  obtain ⟨l, H2, I2, pl, el, e2⟩ := h2
  subst el e2
  refine thn (po_none.run pins s2 σ H2 (fun o H3 => o = none ∧ H3 = H2) I2 ⟨rfl, rfl⟩) fun vu s3 h3 => ?_
  obtain ⟨u, H3, I3, pu, eu, e3⟩ := h3
  subst eu e3
  refine thn (hst.run pins s3 σ H3 (fun o H4 => o = some (-1) ∧ H4 = H3) I3 ⟨1, rfl, -1, rfl, rfl, rfl⟩) fun vs s4 h4 => ?_
  obtain ⟨o, H4, I4, ps, eo, e4⟩ := h4
  subst eo e4
  have I5 := I4.kept (h' := s4.heap.push { cls := .type "slice", data := .fields #[vl, vu, vs] }) (t' := s4.toks) fun b ob q => Heap.get?_push_of_some _ q
  obtain ⟨its, r, ht, hz⟩ := I5.tuple hx
  have hlen := r.length
  refine tail_any (ops := [.ref a, .ref s4.heap.objs.size]) ht.typeIs (PyProof.Rows.slot_tuple_getitem.lookup) ?_ (by with_unfolding_all rfl)
  refine back_tuple ht (Heap.IsSliceOf.new _ vl vu vs) pl pu ps (by rw [List.size_toArray]; omega) ?_
  exact lay_tup I5 r.reverse (by rw [List.length_reverse]; exact hz) q s4.toks
end
end Fx
set_option maxHeartbeats 4000000
namespace Fx
open PySem PySem.Spec PyProof.Rows L2
open Evl (Ex)
section
variable {X : Cx} {a b c : Expr} {es : List Expr} {st : Stmt} {sts : List Stmt} {pos : Pos} {f1 f2 f3 : FE} {o1 : FO} {fs : FA} {t1 : FT} {g1 g2 : FS}
/-! ### * -/
noncomputable def cRep (n : Nat) (k : Int) : Bool := dc (-9223372036854775808 ≤ k ∧ k < 9223372036854775808 ∧ n * k.toNat ≤ sizeLine)
noncomputable def cRepT (xs : List D) (k : Int) : Bool := dc (xs ≠ [] ∧ 1 ≤ k ∧ (k = 1 ∨ (k ≤ 1000 ∧ xs.length ≤ 1000)))
noncomputable def mulD : D → D → Option D
  | .int i, .int j => if cMul i j then some (.int (i * j)) else none
  | .lst xs, .int k => if cRep xs.length k then some (.lst (List.replicate k.toNat xs).flatten) else none
  | .tup xs, .int k => if cRepT xs k then some (.tup (List.replicate k.toNat xs).flatten) else none
  | _, _ => none
def rMulU (K : PySem.W.Frag) : R2 := fun x y H Q => (rI CMul fun i j => .int (i * j)) x y H Q ∨ rRep x y H Q ∨ rRepP K x y H Q ∨ rOnce K x y H Q
theorem op_mulU : OpR X (binaryOp .Mult) (rMulU X.K) := op_mul.or (op_rep.or (op_repP.or op_once))
theorem ok_mul {K : PySem.W.Frag} : OkR K (rMulU K) mulD := fun Z G ad T ρ σ H pa v w x y z Q N rx ry hg k => by
  unfold mulD at hg
  split at hg
  · split at hg
    · rename_i hc
      cases hg
      exact .inl ⟨_, _, rx.inv_int, ry.inv_int, cMul_ok _ _ hc, k _ G ad H N.nx (.int _)⟩
    · cases hg
  · split at hg
    · rename_i xs kk hc
      cases hg
      replace hc := of_dc hc
      obtain ⟨p, vs, rfl, h1, r1⟩ := rx.inv_lst
      refine .inr (.inl ⟨p, _, vs, rfl, ry.inv_int, N.iv.ex _ _ h1, by omega, by omega, by rw [r1.length]; exact hc.2.2, fun q hq => ?_⟩)
      have x := N.knowN hq (.lst (List.replicate kk.toNat vs).flatten)
      exact k _ _ _ _ x (.lst upd_same (x.rpl (r1.rep _)))
    · cases hg
  · split at hg
    · rename_i xs kk hc
      cases hg
      replace hc := of_dc hc
      obtain ⟨p, vs, rfl, h1, r1⟩ := rx.inv_tup
      have hv : vs ≠ [] := fun e => by
        subst e
        cases r1
        exact hc.1 rfl
      by_cases h2 : 2 ≤ kk
      · refine .inr (.inr (.inl ⟨p, _, vs, rfl, ry.inv_int, N.iv.tup h1, hv, h2, by rcases hc.2.2 with h | h <;> omega, by rw [r1.length]; rcases hc.2.2 with h | h; omega; exact h.2, fun q o hq hd => ?_⟩))
        have x := N.knowN hq (.frz o (.tup (List.replicate kk.toNat vs).flatten))
        exact k _ _ _ _ x (.tup (TupK.new hd) (x.rpl (r1.rep _)))
      · have e1 : kk = 1 := by have := hc.2.1; omega
        subst e1
        refine .inr (.inr (.inr ⟨p, vs, rfl, ry.inv_int, N.iv.tup h1, hv, k _ G ad H N.nx (.tup h1 ?_)⟩))
        have r2 := r1.rep 1
        have e2 : (List.replicate 1 vs).flatten = vs := by simp [List.replicate]
        rw [e2] at r2
        exact r2
    · cases hg
  · cases hg
theorem xe_mul (h1 : XE X a f1) (h2 : XE X b f2) : XE X (.BinOp a .Mult b pos) (binF mulD f1 f2) := xe_op op_mulU ok_mul h1 h2
/-- a new list, [x] * n, of one's own -/
noncomputable def repF (f : FA) (g : FE) : FA := fun ρ T => bindF (f ρ T) fun xs T1 => bindF (g ρ T1) fun y T2 => match y with
  | .int k => if cRep xs.length k then some ((List.replicate k.toNat xs).flatten, T2) else none
  | _ => none
theorem xl_rep (h1 : XL X a fs) (h2 : XE X b f2) : XL X (.BinOp a .Mult b pos) (repF fs f2) := pe_weak (pe_op op_rep (xe_frz h1) h2) fun σ H Q h => by
  obtain ⟨Z, G, ad, T, ρ, pa, d, T', N, hf, k⟩ := h
  obtain ⟨xs, T1, e1, e2⟩ := bindF_eq hf
  obtain ⟨y, T2, e3, e4⟩ := bindF_eq e2
  refine ⟨Z, G, ad, T, ρ, pa, .lst xs, T1, N, by unfold frzF; rw [e1]; rfl, fun v G1 ad1 H1 x1 r1 => ⟨Z, G1, ad1, T1, ρ, pa, y, T2, x1.en, e3, fun w G2 ad2 H2 x2 r2 => ?_⟩⟩
  split at e4
  · split at e4
    · rename_i hc
      cases e4
      replace hc := of_dc hc
      obtain ⟨p, vs, rfl, h1, q1⟩ := (x2.rp r1).inv_lst
      refine ⟨p, _, vs, rfl, r2.inv_int, x2.en.iv.ex _ _ h1, by omega, by omega, by rw [q1.length]; exact hc.2.2, fun q hq => ?_⟩
      have x3 := x1.trans x2
      obtain ⟨N2, w2⟩ := x3.en.laid hq (q1.rep _)
      refine k q G2 ad2 _ ⟨N2, x3.gr.ex, x3.gr.pr, fun b o hb hm => ?_, x3.gr.nG, x3.gr.nA⟩ w2 (x3.gr.back x3.en.iv.ats hq)
      have q' := x3.gr.fr b o hb hm
      rw [upd_ne (ne_of_none q' hq)]
      exact q'
    · cases e4
  · cases e4

/-! ### slices of whatever comes -/
def rSlU (K : PySem.W.Frag) : V → Option Int → Option Int → Hp → VK → Prop := fun x lo hi H Q => rSlP K x lo hi H Q ∨ rSlL K x lo hi H Q ∨ rSlS x lo hi H Q
theorem sl_U : L2.SlR X (rSlU X.K) := sl_tupP.or (sl_list.or sl_str)
def slD (T : Tm) (o : Op) (lo hi : Option Int) : Option D := match seqD T o with
  | some (true, ds) => some (.tup (cutD ds lo hi))
  | some (false, ds) => some (.lst (cutD ds lo hi))
  | none => match o with
    | .val (.str s) => if s.length ≤ sizeLine then some (.str (cutS s lo hi)) else none
    | _ => none
def slF (fo : FO) (l u : FB) : FE := fun ρ T => bindF (fo ρ T) fun o T1 => bindF (l ρ T1) fun lo T2 => bindF (u ρ T2) fun hi T3 => (slD T3 o lo hi).map fun d => (d, T3)
variable {l u : FB} {lo hi : Option Expr} {p2 : Pos}
theorem xe_sl (ho : XO X a o1) (hl : XB X lo l) (hu : XB X hi u) : XE X (.Subscript a (.Slice lo hi none p2) pos) (slF o1 l u) := pe_weak (pe_slice sl_U ho hl hu) fun σ H Q h => by
  obtain ⟨Z, G, ad, T, ρ, pa, d, T', N, hf, k⟩ := h
  obtain ⟨o, T1, h1, h2⟩ := bindF_eq hf
  obtain ⟨i, T2, h3, h4⟩ := bindF_eq h2
  obtain ⟨j, T3, h5, h6⟩ := bindF_eq h4
  obtain ⟨z, h7, h8⟩ := Option.map_eq_some_iff.mp h6
  cases h8
  refine ⟨Z, G, ad, T, ρ, pa, o, T1, N, h1, fun v G1 ad1 H1 x1 r1 => ⟨Z, G1, ad1, T1, ρ, pa, i, T2, x1.en, h3, fun G2 ad2 H2 x2 => ⟨Z, G2, ad2, T2, ρ, pa, j, _, x2.en, h5, fun G3 ad3 H3 x3 => ?_⟩⟩⟩
  have x := (x1.trans x2).trans x3
  have r3 := (r1.mono x2).mono x3
  unfold slD at h7
  split at h7
  · rename_i ds hs'
    cases h7
    obtain rfl := seqD_tup hs'
    obtain ⟨p, vs, rfl, hG, hr⟩ := Rp.inv_tup r3
    refine .inl ⟨p, vs, rfl, x.en.iv.tup hG, fun hw => ?_, fun _ q o hq hd => ?_⟩
    · have e : cutV vs i j = vs := by
        unfold cutV
        rw [hw.1, hw.2, List.drop_zero, Nat.sub_zero, List.take_length]
      have r4 := cut_rel hr i j
      rw [e] at r4
      exact k _ G3 ad3 H3 x (.tup hG r4)
    · have x4 := x.en.knowN hq (.frz o (.tup (cutV vs i j)))
      exact k _ _ _ _ (x.trans x4) (.tup (TupK.new hd) (x4.rpl (cut_rel hr i j)))
  · rename_i ds hs'
    cases h7
    obtain ⟨p, vs, rfl, hr, hl, ht⟩ := seq_rel x.en r3 hs'
    refine .inr (.inl ⟨p, vs, rfl, hl rfl, fun q hq => ?_⟩)
    have x4 := x.en.knowN hq (.lst (cutV vs i j))
    exact k _ _ _ _ (x.trans x4) (.lst upd_same (x4.rpl (cut_rel hr i j)))
  · split at h7
    · split at h7
      · rename_i hz
        cases h7
        have := Rp.inv_str r3
        subst this
        exact .inr (.inr ⟨_, rfl, hz, k _ G3 ad3 H3 x (.str _)⟩)
      · cases h7
    · cases h7
/-- t[::-1] -/
def bkF (f : FE) : FE := fun ρ T => bindF (f ρ T) fun d T' => match d with
  | .tup ds => some (.tup ds.reverse, T')
  | _ => none
theorem xe_bk {e : Expr} (h : PE X e (tBackT X.K (tD X.K f1))) : XE X e (bkF f1) := pe_weak h fun σ H Q h => by
  obtain ⟨Z, G, ad, T, ρ, pa, d, T', N, hf, k⟩ := h
  obtain ⟨x, T1, h1, h2⟩ := bindF_eq hf
  refine ⟨Z, G, ad, T, ρ, pa, x, T1, N, h1, fun v G1 ad1 H1 x1 r1 => ?_⟩
  split at h2
  · cases h2
    obtain ⟨p, vs, rfl, hG, hr⟩ := r1.inv_tup
    refine ⟨p, vs, rfl, x1.en.iv.tup hG, fun q o hq hd => ?_⟩
    have x4 := x1.en.knowN hq (.frz o (.tup vs.reverse))
    exact k _ _ _ _ (x1.trans x4) (.tup (TupK.new hd) (x4.rpl hr.reverse))
  · cases h2

/-! ### in -/
def flD : D → Bool
  | .non => true
  | .bl _ => true
  | .int _ => true
  | .str _ => true
  | _ => false
def eq1 : D → D → Bool
  | .non, .non => true
  | .bl a, .bl b => a == b
  | .bl a, .int b => (if a then 1 else 0) == b
  | .int a, .bl b => a == (if b then 1 else 0)
  | .int a, .int b => a == b
  | .str a, .str b => a == b
  | _, _ => false
theorem fl_rel {K : PySem.W.Frag} {G : Hp} {ad : List Addr} {v : V} {d : D} (r : Rp K G ad v d) (h : flD d = true) : flatV v = true := by
  cases r <;> first | rfl | cases h
theorem fls_rel {K : PySem.W.Frag} {G : Hp} {ad : List Addr} : ∀ {vs : List V} {ds : List D}, RpL K G ad vs ds → ds.all flD = true → vs.all flatV = true
  | _, _, .nil, _ => rfl
  | _, _, .cons h t, e => by
    rw [List.all_cons, Bool.and_eq_true] at e
    rw [List.all_cons, fl_rel h e.1, fls_rel t e.2]
    rfl
theorem eq1_rel {K : PySem.W.Frag} {G : Hp} {ad : List Addr} {v w : V} {d e : D} (r : Rp K G ad v d) (q : Rp K G ad w e) : eqV v w = eq1 d e := by
  cases r <;> cases q <;> rfl
theorem in_rel {K : PySem.W.Frag} {G : Hp} {ad : List Addr} {w : V} {e : D} (q : Rp K G ad w e) : ∀ {vs : List V} {ds : List D}, RpL K G ad vs ds → inV w vs = ds.any fun d => eq1 d e
  | _, _, .nil => rfl
  | _, _, .cons h t => by
    have := in_rel q t
    unfold inV at this ⊢
    rw [List.any_cons, List.any_cons, eq1_rel h q, this]
def inB (x y : D) : Option Bool := match y with
  | .tup ds => if flD x && ds.all flD then some (ds.any fun d => eq1 d x) else none
  | .lst ds => if flD x && ds.all flD then some (ds.any fun d => eq1 d x) else none
  | _ => none
/-- over data of any depth, a list -/
def inBD (x y : D) : Option Bool := match y with
  | .lst ds => match toPy x, toPyL ds with
    | some p, some ps => if SeqAt.shaped p && SeqAt.shaped (.list ps) then some (ps.any fun z => PyData.eqv z p) else none
    | _, _ => none
  | _ => none
def inB' (x y : D) : Option Bool := match inB x y with
  | some b => some b
  | none => inBD x y
def inD : D → D → Option D := fun x y => (inB' x y).map .bl
def ninD : D → D → Option D := fun x y => (inB' x y).map fun b => .bl (!b)
theorem inB_rel {K : PySem.W.Frag} {Z : Zc} {G : Hp} {ad : List Addr} {T : Tm} {ρ : Rho} {σ : L2.St} {H : Hp} {pa : Nat → Addr} {v w : V} {x y : D} {b : Bool} (N : En K Z G ad T ρ σ H pa) (rx : Rp K G ad v x) (ry : Rp K G ad w y) (h : inB x y = some b) :
    ∃ p xs, w = .ref p ∧ (SqL K H p xs ∨ SqT K H p xs) ∧ flatV v = true ∧ xs.all flatV = true ∧ inV v xs = b := by
  unfold inB at h
  split at h
  · split at h
    · rename_i hc
      cases h
      rw [Bool.and_eq_true] at hc
      obtain ⟨p, vs, rfl, hG, hr⟩ := ry.inv_tup
      exact ⟨p, vs, rfl, .inr (N.iv.tup hG), fl_rel rx hc.1, fls_rel hr hc.2, in_rel rx hr⟩
    · cases h
  · split at h
    · rename_i hc
      cases h
      rw [Bool.and_eq_true] at hc
      obtain ⟨p, vs, rfl, hG, hr⟩ := ry.inv_lst
      exact ⟨p, vs, rfl, .inl (.inl (.inl (N.iv.ex _ _ hG))), fl_rel rx hc.1, fls_rel hr hc.2, in_rel rx hr⟩
    · cases h
  · cases h
theorem inBD_rel {K : PySem.W.Frag} {Z : Zc} {G : Hp} {ad : List Addr} {T : Tm} {ρ : Rho} {σ : L2.St} {H : Hp} {pa : Nat → Addr} {v w : V} {x y : D} {b : Bool} (N : En K Z G ad T ρ σ H pa) (rx : Rp K G ad v x) (ry : Rp K G ad w y) (h : inBD x y = some b) :
    ∃ d ds, Dp K H v d ∧ Dp K H w (.list ds) ∧ SeqAt.shaped d = true ∧ SeqAt.shaped (.list ds) = true ∧ b = ds.any fun z => PyData.eqv z d := by
  unfold inBD at h
  split at h
  · rename_i es
    split at h
    · rename_i p ps h1 h2
      split at h
      · rename_i hc
        cases h
        rw [Bool.and_eq_true] at hc
        exact ⟨p, ps, rx.dp N.iv.ex h1, ry.dp N.iv.ex (by rw [toPy, h2]; rfl), hc.1, hc.2, rfl⟩
      · cases h
    · cases h
  · cases h
def rInU (K : PySem.W.Frag) : R2 := fun x y H Q => rIn K false x y H Q ∨ rInD K x y H Q
def rNinU (K : PySem.W.Frag) : R2 := fun x y H Q => rIn K true x y H Q ∨ rNotInD K x y H Q
theorem ok_in {K : PySem.W.Frag} : OkR K (rInU K) inD := fun Z G ad T ρ σ H pa v w x y z Q N rx ry hg k => by
  obtain ⟨b, hb, rfl⟩ := Option.map_eq_some_iff.mp hg
  unfold inB' at hb
  split at hb
  · rename_i b' hb'
    cases hb
    obtain ⟨p, xs, rfl, h1, h2, h3, rfl⟩ := inB_rel N rx ry hb'
    exact .inl ⟨p, xs, rfl, h1, h2, h3, k _ G ad H N.nx (.bl _)⟩
  · obtain ⟨d, ds, h1, h2, h3, h4, rfl⟩ := inBD_rel N rx ry hb
    exact .inr ⟨d, ds, h1, h2, h3, h4, k _ G ad H N.nx (.bl _)⟩
theorem ok_nin {K : PySem.W.Frag} : OkR K (rNinU K) ninD := fun Z G ad T ρ σ H pa v w x y z Q N rx ry hg k => by
  obtain ⟨b, hb, rfl⟩ := Option.map_eq_some_iff.mp hg
  unfold inB' at hb
  split at hb
  · rename_i b' hb'
    cases hb
    obtain ⟨p, xs, rfl, h1, h2, h3, rfl⟩ := inB_rel N rx ry hb'
    exact .inl ⟨p, xs, rfl, h1, h2, h3, k _ G ad H N.nx (.bl _)⟩
  · obtain ⟨d, ds, h1, h2, h3, h4, rfl⟩ := inBD_rel N rx ry hb
    exact .inr ⟨d, ds, h1, h2, h3, h4, k _ G ad H N.nx (.bl _)⟩
theorem op_inU {k : Nat} (hr : Room k X.A) : OpR X (compareOp .In) (rInU X.K) := op_in_seq.or (op_inD (by have := hr.un; omega))
theorem op_ninU {k : Nat} (hr : Room k X.A) : OpR X (compareOp .NotIn) (rNinU X.K) := op_notIn_seq.or (op_notInD (by have := hr.un; omega))
theorem xe_in {k : Nat} (hr : Room k X.A) (h1 : XE X a f1) (h2 : XE X b f2) (hm : behindInMarks .In b = false := by rfl) : XE X (.Compare a [.In] [b] pos) (binF inD f1 f2) := xe_cmp (op_inU hr) ok_in h1 h2 hm
theorem xe_nin {k : Nat} (hr : Room k X.A) (h1 : XE X a f1) (h2 : XE X b f2) (hm : behindInMarks .NotIn b = false := by rfl) : XE X (.Compare a [.NotIn] [b] pos) (binF ninD f1 f2) := xe_cmp (op_ninU hr) ok_nin h1 h2 hm
theorem xt_in {k : Nat} (hr : Room k X.A) (h1 : XE X a f1) (h2 : XE X b f2) (hm : behindInMarks .In b = false := by rfl) : XT X (.Compare a [.In] [b] pos) (testF (binF inD f1 f2)) := xt_cmp (op_inU hr) ok_in h1 h2 hm
theorem xt_nin {k : Nat} (hr : Room k X.A) (h1 : XE X a f1) (h2 : XE X b f2) (hm : behindInMarks .NotIn b = false := by rfl) : XT X (.Compare a [.NotIn] [b] pos) (testF (binF ninD f1 f2)) := xt_cmp (op_ninU hr) ok_nin h1 h2 hm

/-! ### a < b < c -/
def chF (g h : D → D → Option D) (f1 f2 f3 : FE) : FE := fun ρ T => bindF (f1 ρ T) fun x T1 => bindF (f2 ρ T1) fun y T2 => match g x y with
  | some (.bl true) => bindF (f3 ρ T2) fun z T3 => match h y z with
    | some r => some (r, T3)
    | none => none
  | some (.bl false) => some (.bl false, T2)
  | _ => none
def NoAl (K : PySem.W.Frag) (r : R2) (g : D → D → Option D) : Prop := ∀ (Z : Zc) (G : Hp) (ad : List Addr) (T : Tm) (ρ : Rho) (σ : L2.St) (H : Hp) (pa : Nat → Addr) (v w : V) (x y z : D) (Q : VK),
  En K Z G ad T ρ σ H pa → Rp K G ad v x → Rp K G ad w y → g x y = some z → (∀ u, Rp K G ad u z → Q u H) → r v w H Q
theorem na_ii0 {K : PySem.W.Frag} {C : Int → Int → Bool} {gV : Int → Int → V} {f : Int → Int → D} (hf : ∀ i j G ad, Rp K G ad (gV i j) (f i j)) : NoAl K (rI0 gV) (iiF C f) :=
  fun Z G ad T ρ σ H pa v w x y z Q N rx ry hg k => by
    obtain ⟨i, j, rfl, rfl, h, rfl⟩ := iiF_eq hg
    exact ⟨i, j, rx.inv_int, ry.inv_int, k _ (hf i j G ad)⟩
theorem ch_run {r r' : R2} {g h : D → D → Option D} {σ : L2.St} {H : Hp} {Q : VK} (hr : NoAl X.K r g) (hr' : OkR X.K r' h) (hw : tD X.K (chF g h f1 f2 f3) σ H Q) : tChain r r' (tD X.K f1) (tD X.K f2) (tD X.K f3) σ H Q := by
  obtain ⟨Z, G, ad, T, ρ, pa, d, T', N, hf, k⟩ := hw
  obtain ⟨x, T1, e1, e2⟩ := bindF_eq hf
  obtain ⟨y, T2, e3, e4⟩ := bindF_eq e2
  refine ⟨Z, G, ad, T, ρ, pa, x, T1, N, e1, fun v G1 ad1 H1 x1 r1 => ⟨Z, G1, ad1, T1, ρ, pa, y, T2, x1.en, e3, fun w G2 ad2 H2 x2 r2 => ?_⟩⟩
  split at e4
  · rename_i hg
    obtain ⟨z, T3, e5, e6⟩ := bindF_eq e4
    refine hr Z G2 ad2 T2 ρ σ H2 pa v w x y _ _ x2.en (x2.rp r1) r2 hg fun u ru => ⟨true, ru.inv_bl, iteT ?_⟩
    refine ⟨Z, G2, ad2, T2, ρ, pa, z, T3, x2.en, e5, fun w' G3 ad3 H3 x3 r3 => ?_⟩
    split at e6
    · rename_i zz hh
      cases e6
      exact hr' Z G3 ad3 _ ρ σ H3 pa w w' y z _ Q x3.en (x3.rp r2) r3 hh fun u G4 ad4 H4 x4 r4 => k u G4 ad4 H4 (((x1.trans x2).trans x3).trans x4) r4
    · cases e6
  · rename_i hg
    cases e4
    exact hr Z G2 ad2 _ ρ σ H2 pa v w x y _ _ x2.en (x2.rp r1) r2 hg fun u ru => ⟨false, ru.inv_bl, iteF (k _ G2 ad2 H2 (x1.trans x2) (.bl _))⟩
  · cases e4
theorem xe_ch {e : Expr} {r r' : R2} {g h : D → D → Option D} (hr : NoAl X.K r g) (hr' : OkR X.K r' h) (hp : PE X e (tChain r r' (tD X.K f1) (tD X.K f2) (tD X.K f3))) : XE X e (chF g h f1 f2 f3) := pe_weak hp fun _ _ _ => ch_run hr hr'
theorem xt_ch {e : Expr} {r r' : R2} {g h : D → D → Option D} (hr : NoAl X.K r g) (hr' : OkR X.K r' h) (hp : PT X e (tTest (tChain r r' (tD X.K f1) (tD X.K f2) (tD X.K f3)))) : XT X e (testF (chF g h f1 f2 f3)) := pt_weak hp fun _ _ _ hw => by
  have q := test_run hw
  exact ch_run hr hr' q

/-! ### a = b = e; a, b = e, f; try without a raise -/
def asg2F (i j : Nat) (f : FE) : FS := fun ρ T => bindF (f ρ T) fun d T' => some (.nx ((ρ.set i (.dat d)).set j (.dat d)), T')
theorem xs_asg2 {i j : Nat} (h : PS X st (tAsg2 (tD X.K f1) (gName i) (gName j))) : XS X st (asg2F i j f1) := ps_weak h fun D σ H h => by
  obtain ⟨Z, G, ad, T, ρ, pa, r, T', N, hf, k⟩ := h
  obtain ⟨d, T1, h1, h2⟩ := bindF_eq hf
  cases h2
  exact ⟨Z, G, ad, T, ρ, pa, d, _, N, h1, fun v G1 ad1 H1 x1 r1 => k _ G1 ad1 H1 pa ((x1.en.setD i r1).setD j r1) x1.gr.ex x1.gr.pr⟩
def parF (i j : Nat) (fs : FA) : FS := fun ρ T => bindF (fs ρ T) fun ds T' => match ds with
  | [x, y] => some (.nx ((ρ.set i (.dat x)).set j (.dat y)), T')
  | _ => none
theorem xs_par {i j : Nat} (h : PS X st (tPar i j (tDA X.K fs))) : XS X st (parF i j fs) := ps_weak h fun D σ H h => by
  obtain ⟨Z, G, ad, T, ρ, pa, r, T', N, hf, k⟩ := h
  obtain ⟨ds, T1, h1, h2⟩ := bindF_eq hf
  refine ⟨Z, G, ad, T, ρ, pa, ds, T1, N, h1, fun vs G1 ad1 H1 x1 r1 => ?_⟩
  split at h2
  · cases h2
    obtain ⟨v, w, rfl, q1, q2⟩ := r1.two
    exact ⟨v, w, rfl, k _ G1 ad1 H1 pa ((x1.en.setD i q1).setD j q2) x1.gr.ex x1.gr.pr⟩
  · cases h2
theorem ps_tryQ {body : List Stmt} {h0 : ExceptHandler} {hs : List ExceptHandler} {t : TS} (hx : X.xe = fun _ _ => False) (hb : PSs X body t) : PS X (.Try body (h0 :: hs) [] [] pos) t := by
  refine ⟨fun pins s σ H D I h => ?_⟩
  refine wpAny_Try_except ?_
  refine wpAny_mono (hb.run pins s σ H D I h) (fun f s1 q => ?_) fun e s1 z => ?_
  · cases f with
    | next => exact wpAny_execs_nil q
    | _ => exact q
  · rw [hx] at z
    exact z.elim
theorem xs_tryQ {body : List Stmt} {h0 : ExceptHandler} {hs : List ExceptHandler} (hx : X.xe = fun _ _ => False) (hb : XSs X body g1) : XS X (.Try body (h0 :: hs) [] [] pos) g1 := ps_tryQ hx hb
end

/-! ### what a caller knows of a def -/
structure Cal (P : Program) (w : World) (K : PySem.W.Frag) (mg : Str → Option Value) (base : Heap) (x : Str) (k n : Nat) (h : HF) : Prop where
  ok : ∃ f fd ps, FnOk P w K mg base CX0 k f fd ps (Sf K n h) ∧ mg x = some (.ref f) ∧ PySem.W.keepIn K (.ref f) = true ∧ Binds K fd ps []
theorem xe_own {X : Cx} {x : Str} {k n : Nat} {h : HF} {e : Expr} {es : List Expr} {p pos : Pos} {fs : FA} (C : Cal X.prog X.w X.K X.mg X.base x k n h) (hr : Room k X.A) (hg : Gl X x) (ha : XA X (e :: es) fs) (hn : ∀ ρ T ds T', fs ρ T = some (ds, T') → ds.length = n)
    (hdb : (x == ("__debug__" : Str)) = false := by decide) (he : starEach (e :: es) X.env = (false, eval e X.env) :: starEach es X.env := by rfl) (hpl : (backTo pos (starEach es X.env)).any (·.1) = false := by rfl) : XE X (.Call (.Name x p) (e :: es) [] pos) (callF h fs) := by
  obtain ⟨f, fd, ps, F, hm, hk, hb⟩ := C.ok
  exact xe_call (pe_call F hr hg hm hk hb .nil pass0 ha hdb he hpl) hn
theorem cal_of {P : Program} {w : World} {K : PySem.W.Frag} {mg : Str → Option Value} {base : Heap} {x qual : Str} {st : Stmt} {f : Addr} {fd : FuncData} {N ps : List Str} {k n m : Nat} {g : FS} (F : Fun K x qual st f fd) (hm : mg x = some (.ref f)) (hb : Binds K fd ps []) (S : FnScope N ps (defScope st))
    (hn : N.length = m) (hp : ps.length = n)
    (hbody : ∀ (cdv : Value) (A : Around) (outer : List Env) (s : Shared) (H : Hp) (E : XK), Room k (A.deeper (envOfC qual (defScope st) s.heap.objs.size f cdv)) →
      XSs (cxOf CX0 P w K mg base N qual (defScope st) f cdv A outer s H E).nox (defBody st) g) : Cal P w K mg base x (k + 1) n (runB g m) := by
  subst hn hp
  exact ⟨f, fd, ps, fn_ok F S hbody, hm, F.kp, hb⟩
end Fx
namespace Fx
open PySem PySem.Spec PyProof.Rows L2
open Evl (Ex)
/-! ### a walk over whatever comes -/
def itU (f : FE) : FA := fun ρ T => bindF (f ρ T) fun d T' => match d with
  | .tup ds => some (ds, T')
  | .lst ds => some (ds, T')
  | .frl ds => some (ds, T')
  | _ => none
theorem PI.or {X : Cx} {tg e : Expr} {t t' : TI} (h : PI X tg e t) (h' : PI X tg e t') : PI X tg e (fun σ H R => t σ H R ∨ t' σ H R) := ⟨fun pins s σ H R I hw => by
  rcases hw with hw | hw
  · exact h.run pins s σ H R I hw
  · exact h'.run pins s σ H R I hw⟩
theorem tD_map {K : PySem.W.Frag} {f g : FE} {σ : L2.St} {H : Hp} {Q : VK} (h : tD K g σ H Q) (k : ∀ ρ T d T', g ρ T = some (d, T') → f ρ T = some (d, T')) : tD K f σ H Q := by
  obtain ⟨Z, G, ad, T, ρ, pa, d, T', N, hf, q⟩ := h
  exact ⟨Z, G, ad, T, ρ, pa, d, T', N, k _ _ _ _ hf, q⟩
theorem xi_seq {X : Cx} {tg e : Expr} {f : FE} (h : XE X e f) : XI X tg e (itU f) := pi_weak (PI.or (xi_tup (tg := tg) h) (xi_lst (tg := tg) h)) fun σ H R h => by
  obtain ⟨Z, G, ad, T, ρ, pa, ds, T', N, hf, k⟩ := h
  obtain ⟨d, T1, h1, h2⟩ := bindF_eq hf
  split at h2
  · cases h2
    exact .inl ⟨Z, G, ad, T, ρ, pa, ds, _, N, by unfold itT; rw [h1]; rfl, k⟩
  · cases h2
    exact .inr ⟨Z, G, ad, T, ρ, pa, ds, _, N, by unfold itL; rw [h1]; rfl, k⟩
  · cases h2
    exact .inr ⟨Z, G, ad, T, ρ, pa, ds, _, N, by unfold itL; rw [h1]; rfl, k⟩
  · cases h2
/-! ### op= -/
abbrev addiD := iiF ctt fun i j => .int (i + j)
noncomputable abbrev muliD := iiF cMul fun i j => .int (i * j)
noncomputable abbrev dvpD := iiF cDivP fun i j => .int (i / j)
theorem cDivP_ok (i j : Int) (h : cDivP i j = true) : CDiv i j := of_dc h
theorem ok_ipadd {K : PySem.W.Frag} : OkR K (ipI fun i j => i + j) addiD := fun Z G ad T ρ σ H pa v w x y z Q N rx ry hg k => by
  obtain ⟨i, j, rfl, rfl, _, rfl⟩ := iiF_eq hg
  exact ⟨i, j, rx.inv_int, ry.inv_int, k _ G ad H N.nx (.int _)⟩
theorem ok_ipsub {K : PySem.W.Frag} : OkR K (ipI fun i j => i - j) subD := fun Z G ad T ρ σ H pa v w x y z Q N rx ry hg k => by
  obtain ⟨i, j, rfl, rfl, _, rfl⟩ := iiF_eq hg
  exact ⟨i, j, rx.inv_int, ry.inv_int, k _ G ad H N.nx (.int _)⟩
theorem xs_doc {X : Cx} {x : Str} {j : Nat} {pos pos' : Pos} : XS X (.Expr (.Constant (.str x) j pos) pos') nilS := ps_weak ps_doc fun D σ H h => by
  obtain ⟨Z, G, ad, T, ρ, pa, r, T', N, hf, k⟩ := h
  cases hf
  exact k σ G ad H pa N (Ex.refl _) (Pre.refl _)
/-- the law's own end -/
theorem law_sf {K : PySem.W.Frag} {H : Hp} {a : Addr} {ns : List Int} {h : HF} {E : XK} (hS : SqL K H a (ns.map V.int)) (hh : ∃ T, h [.frl (ns.map D.int)] [] = some (.bl true, T)) : Sf K 1 h [.ref a] H (fun v _ => v = .bl true) E := by
  obtain ⟨T, hT⟩ := hh
  have ri : ∀ l : List Int, RpL K H [] (l.map V.int) (l.map D.int) := fun l => by
    induction l with
    | nil => exact .nil
    | cons x l ih => exact .cons (.int x) ih
  exact ⟨rfl, H, [], [], [.frl (ns.map D.int)], .bl true, T, ⟨Ex.refl _, (fun _ h => by cases h), List.nodup_nil, rfl, (fun k a ds h _ => by simp at h), Ex.refl _, Pre.refl _, (fun _ _ h _ => h), (fun _ _ h => .inl h), (fun _ h => by cases h)⟩,
    .cons (.frl hS (ri ns)) .nil, hT, fun v G' ad' H' _ r => r.inv_bl⟩
end Fx
set_option maxHeartbeats 4000000
namespace Fx
open PySem PySem.Spec PyProof.Rows L2
open Evl (Ex)
/-! ### enumerate(tuple) -/
def IteT (K : PySem.W.Frag) (a : Addr) : It :=
  ⟨fun i H => ∃ (xs : List V) (x : V), SqT K H a xs ∧ xs[i]? = some x,
    fun i H v H' => ∃ T x o, v = .ref T ∧ H T = none ∧ o.dict = none ∧ H' = upd H T (.frz o (.tup [.int (i : Nat), x])) ∧ ∀ xs, SqT K H a xs → xs[i]? = some x,
    fun i H => ∃ xs : List V, SqT K H a xs ∧ xs.length ≤ i⟩
theorem tup_inj {X : Cx} {pins : List (Addr × Obj)} {σ : L2.St} {H : Hp} {s : Shared} {a : Addr} {xs ys : List V} (I : Inv X pins σ H s) (h : SqT X.K H a xs) (h' : SqT X.K H a ys) : xs = ys := by
  obtain ⟨its, r1, ⟨o, ho, _, n, hd⟩, _⟩ := I.tuple h
  obtain ⟨its', r2, ⟨o', ho', _, n', hd'⟩, _⟩ := I.tuple h'
  rw [ho] at ho'
  cases ho'
  rw [hd] at hd'
  have e : its.toArray = its'.toArray := by injection hd'
  have e' : its = its' := by simpa using e
  subst e'
  exact r1.inj r2
theorem turn_enumT {P : Program} {w : World} {K : PySem.W.Frag} {elts : List Expr} {kk : Nat} {tpos : Pos} (a e it : Addr) :
    Turn P w K (.Tuple elts kk tpos) (IteT K a) [e, it] e (fun i h => (∃ old, IsEnum h e it ((i : Nat) : Int) old) ∧ h.IsTupleIter it a i ∧ e ≠ it) where
  mem := List.mem_cons_self
  obj := fun i h st b hb => by
    obtain ⟨⟨old, he⟩, ⟨o, ho, hc, hd⟩, _⟩ := st
    rcases List.mem_cons.mp hb with z | z
    · subst z
      exact ⟨_, he, fun v q => nomatch q⟩
    · rw [List.mem_singleton.mp z]
      exact ⟨o, ho, fun v q => by rw [hd] at q; cases q⟩
  keep := fun i h h' st k => by
    obtain ⟨⟨old, he⟩, hi, hne⟩ := st
    exact ⟨⟨old, k e List.mem_cons_self _ he⟩, hi.at fun o q => k it (List.mem_cons_of_mem _ List.mem_cons_self) o q, hne⟩
  item := by
    intro X hP hw hK hc i pins s σ H E I hf st hg
    subst hP hw hK
    obtain ⟨⟨old, he⟩, hit, hne⟩ := st
    obtain ⟨xs, x, hq, hx⟩ := hg
    obtain ⟨its, rv, p, hz⟩ := I.tuple hq
    have hai : a ≠ it := fun z => by
      obtain ⟨o, ho, hco, _⟩ := p
      obtain ⟨o', ho', hco', _⟩ := hit
      rw [z, ho'] at ho
      cases ho
      rw [hco] at hco'
      exact absurd (Value.type.inj hco') (by decide)
    have hae : e ≠ a := fun z => by
      obtain ⟨o, ho, hco, _⟩ := p
      rw [← z] at ho
      rw [he] at ho
      cases ho
      exact absurd (Value.type.inj hco) (by decide)
    obtain ⟨u, hu, ru⟩ := rv.get hx
    have hlt : i < its.toArray.size := by
      rw [List.size_toArray]
      exact (List.getElem?_eq_some_iff.mp hu).1
    have hel : e < s.heap.objs.size := Heap.lt_size he
    have hil : it < s.heap.objs.size := by obtain ⟨_, q, _⟩ := hit; exact Heap.lt_size q
    have D := Draws.tuple (prog := X.prog) (w := X.w) (A := X.A.in1) (I.ok.hd hc) it a hai its.toArray
    refine wpAny_pyNext_enum_itemD D he ⟨hit, p⟩ hlt hne (by simp [hne, hae]) fun x' h' tk hpx ho hst' hT hsz hk => ?_
    have ex : x' = u := by
      have h1 : its[i]? = some x' := by simpa using hpx
      rw [hu] at h1
      exact (Option.some.inj h1).symm
    subst ex
    refine ⟨_, rfl, wpAny_letOwnedTupleGo_enum (s := { s with heap := h', toks := tk + 1 }) ho fun h'' he' sb => ?_⟩
    have hT2 := (sb.2 _ (Nat.ne_of_gt hel)).trans hT
    have new : ObjOk X.prog X.w (upd H s.heap.objs.size (.frz { cls := .type "tuple", data := .seq #[.int i tk, x'] } (.tup [.int (i : Nat), x]))) h'' s.heap.objs.size (.frz { cls := .type "tuple", data := .seq #[.int i tk, x'] } (.tup [.int (i : Nat), x])) :=
      ⟨hT2, by show 2 ≤ sizeLine; decide, [.int i tk, x'], .cons ⟨_, rfl⟩ (.cons ru .nil), ⟨_, hT2, rfl, _, rfl⟩⟩
    have I1 : Inv X pins σ (upd H s.heap.objs.size (.frz { cls := .type "tuple", data := .seq #[.int i tk, x'] } (.tup [.int (i : Nat), x]))) { s with heap := h'', toks := tk + 1 } :=
      I.turnedNew (ch := [e, it]) (fun b ob hb q => (sb.2 b (fun z => hb (z ▸ List.mem_cons_self))).trans (hk b ob (fun z => hb (z ▸ List.mem_cons_self)) (fun z => hb (z ▸ List.mem_cons_of_mem _ List.mem_cons_self)) q)) hf (Nat.le_refl _) new
    refine ⟨.ref s.heap.objs.size, _, I1, rfl, ⟨_, x, _, rfl, I.hok.fresh (Nat.le_refl _), rfl, rfl, fun ys hy => by rw [tup_inj I hy hq]; exact hx⟩, ⟨⟨x', ?_⟩, hst'.1.at fun o q => (sb.2 it (Ne.symm hne)).trans q, hne⟩, fun b hb => ?_⟩
    · rw [show ((i + 1 : Nat) : Int) = (i : Int) + 1 by omega]
      exact he'
    · have hb' : b < s.heap.objs.size := by
        rcases List.mem_cons.mp hb with z | z
        · rw [z]; exact hel
        · rw [List.mem_singleton.mp z]; exact hil
      rw [upd_ne (Nat.ne_of_lt hb')]
      exact (hf b hb).1
  done := by
    intro X hP hw hK hc i pins s σ H E I hf st hg
    subst hP hw hK
    obtain ⟨⟨old, he⟩, hit, hne⟩ := st
    obtain ⟨xs, hq, hx⟩ := hg
    obtain ⟨its, rv, p, hz⟩ := I.tuple hq
    have hai : a ≠ it := fun z => by
      obtain ⟨o, ho, hco, _⟩ := p
      obtain ⟨o', ho', hco', _⟩ := hit
      rw [z, ho'] at ho
      cases ho
      rw [hco] at hco'
      exact absurd (Value.type.inj hco') (by decide)
    have D : Draws X.prog X.w X.A.in1 it [it, a] i (fun _ _ => False) (fun j h => j = i ∧ h.IsTupleIter it a i ∧ h.IsTuple a its.toArray) :=
      { live := fun _ _ st => let ⟨o, ho, _⟩ := st.2.1; ⟨o, ho⟩
        frame := fun _ _ _ st hk => ⟨st.1, st.2.1.at fun o e => hk it (by simp) o e, st.2.2.at fun o e => hk a (by simp) o e⟩
        item := fun j s Q E hj st hQ => absurd st.1 (by omega)
        done := fun s Q E st hE => wpAny_nextOf_tuple_end (I.ok.hd hc) st.2.1 st.2.2 (by have := rv.length; simp; omega) hE }
    obtain ⟨f0, f1, f2, f3, f4, f5⟩ := hf it (by simp)
    exact wpAny_pyNext_enum_endD D he ⟨rfl, hit, p⟩ fun h' eb => ⟨rfl, I.turned (t' := s.toks) (fun b o hb q => eb b o hb q) f0 f1 f3 f4 f5⟩
  self := fun A i s Q E st h => wpAny_pyIter_enum st.1.choose_spec h
def itT_ (t : Addr) : Obj := { cls := .type "tuple_iterator", data := .fields #[.ref t, .int 0 0] }
def enT_ (a : Addr) : Obj := { cls := .type "enumerate", data := .fields #[.none, .bool false, .ref a, rawInt 0, .none, .none] }
theorem meets_enumT (t : Addr) (items : Array Value) : Meets (Builtin.«enumerate.__new__» ⟨[.type "enumerate", .ref t], []⟩)
    (fun _ R s => s.heap.IsTuple t items ∧ R (.ok (.ret (.ref (s.heap.push (itT_ t)).objs.size))) { s with heap := (s.heap.push (itT_ t)).push (enT_ s.heap.objs.size) }) :=
  .of_wp fun prog w A R s h => by
    obtain ⟨hp, g, d, tk, os⟩ := s
    obtain ⟨hL, h⟩ := h
    have hsub := sub_enumerate
    have q : ∀ {A' : Around} {E : Value → Shared → Prop} {Q : Value → Shared → Prop}, Q (.ref hp.objs.size) ⟨hp.push (itT_ t), g, d, tk, os⟩ → wpAny (model prog w) A' (pyIter (.ref t)) Q E ⟨hp, g, d, tk, os⟩ :=
      fun k => wpAny_pyIter_tuple hL k
    wp_walk using q
    refine wpAny_stack_any fun st => wpAny_pure ?_
    split
    · rename_i c _ _ _ _ _
      cases (c == Value.type "enumerate") <;> (wp_walk using q; exact ⟨_, rfl, h⟩)
    · wp_walk using q
      exact ⟨_, rfl, h⟩
theorem call_enumT {prog : Program} {w : World} {A : Around} {E : Value → Shared → Prop} {s : Shared} {t : Addr} {items : Array Value} {Q : Value → Shared → Prop} (hT : s.heap.IsTuple t items)
    (h : ∀ h', IsEnum h' (s.heap.objs.size + 1) s.heap.objs.size 0 .none → h'.IsTupleIter s.heap.objs.size t 0 → (∀ b o, s.heap.get? b = some o → h'.get? b = some o) → Q (.ref (s.heap.objs.size + 1)) { s with heap := h' }) :
    wpAny (model prog w) A (call (.type "enumerate") [.ref t]) Q E s := by
  refine callType_new F.called_enumerate (by decide) (F.typeCall_enumerate_1 _) (F.newCall_enumerate_1 _) (fun obj => F.args_object_init_2 obj _) F.entry_enumerate_new (meets_enumT t items) ⟨hT, ?_⟩
  have z : (s.heap.push (itT_ t)).objs.size = s.heap.objs.size + 1 := Heap.size_push ..
  show _ ∧ _
  rw [z]
  have e1 := Heap.get?_push_size (s.heap.push (itT_ t)) (o := enT_ s.heap.objs.size) rfl
  rw [z] at e1
  exact ⟨⟨_, e1, rfl⟩, h _ e1 ⟨_, Heap.get?_push_of_some _ (Heap.get?_push_size _ rfl), rfl, rfl⟩ fun b o k => Heap.get?_push_of_some _ (Heap.get?_push_of_some _ k)⟩
def iEnumT (K : PySem.W.Frag) (ta : TA) : TI := fun σ H R => ta σ H fun vs H1 => ∃ a xs, vs = [.ref a] ∧ SqT K H1 a xs ∧ R (IteT K a) H1
theorem pi_enumT {X : Cx} {e : Expr} {ta : TA} {p pos tpos : Pos} {elts : List Expr} {kk : Nat} (hg : Gl X "enumerate") (hm : X.mg "enumerate" = none) (ha : PA X [e] ta) (hs : starEach [e] X.env = [(false, eval e X.env)] := by rfl) :
    PI X (.Tuple elts kk tpos) (.Call (.Name "enumerate" p) [e] [] pos) (iEnumT X.K ta) := by
  refine ⟨fun pins s σ H R I h => ?_⟩
  refine Call_ (ld_blt I hg hm boot_enumerate (PyProof.Rows.callWith_type1 (thn (ha.run pos pins s σ H _ I h) fun us s1 ⟨vs, H1, I1, r1, q1⟩ => ?_) hs rfl))
  obtain ⟨a, xs, ex, hq, q⟩ := q1
  subst ex
  obtain ⟨u, rfl, ru⟩ := vals1 r1
  cases ru
  obtain ⟨its, rv, p', hz⟩ := I1.tuple hq
  refine call_enumT p' fun h' he hit hk => wpAny_pyIter_enum he ?_
  have I2 : Inv X pins σ H1 { s1 with heap := h' } := I1.kept (t' := s1.toks) hk
  refine ⟨s1.heap.objs.size + 1, [s1.heap.objs.size + 1, s1.heap.objs.size], _, _, H1, rfl, I2, turn_enumT a (s1.heap.objs.size + 1) s1.heap.objs.size, ⟨⟨.none, he⟩, hit, Nat.succ_ne_self _⟩, fun b hb => ?_, q⟩
  have hle : s1.heap.objs.size ≤ b := by
    rcases List.mem_cons.mp hb with z | z
    · rw [z]; exact Nat.le_add_right _ _
    · rw [List.mem_singleton.mp z]; exact Nat.le_refl _
  exact I1.fpOk hle (I1.hok.fresh hle)
/-- pairs of places and items -/
def enumL (i : Nat) : List D → List D
  | [] => []
  | d :: ds => .tup [.int (i : Int), d] :: enumL (i + 1) ds
theorem enumL_get : ∀ (ds : List D) (i k : Nat), (enumL i ds)[k]? = (ds[k]?).map fun d => .tup [.int ((i + k : Nat) : Int), d]
  | [], i, k => by simp [enumL]
  | d :: ds, i, 0 => by simp [enumL]
  | d :: ds, i, k + 1 => by
    simp only [enumL, List.getElem?_cons_succ]
    rw [enumL_get ds (i + 1) k, show i + 1 + k = i + (k + 1) by omega]
theorem enumL_len : ∀ (ds : List D) (i : Nat), (enumL i ds).length = ds.length
  | [], i => rfl
  | d :: ds, i => by simp [enumL, enumL_len ds]
def itE (f : FE) : FA := fun ρ T => bindF (f ρ T) fun d T' => match d with
  | .tup ds => some (enumL 0 ds, T')
  | _ => none
theorem itOk_enumT {K : PySem.W.Frag} {a : Addr} {G0 : Hp} {ad0 : List Addr} {vs : List V} {ds : List D} (h : TupK K G0 a vs) (r : RpL K G0 ad0 vs ds) : ItOk K (IteT K a) G0 ad0 (enumL 0 ds) where
  go := fun Z G ad T ρ σ H pa i N e p hi => by
    rw [enumL_len] at hi
    have hv : i < vs.length := by rw [r.length]; exact hi
    exact ⟨vs, vs[i], N.iv.tup (h.mono e), List.getElem?_eq_getElem hv⟩
  stop := fun Z G ad T ρ σ H pa i N e p hi => ⟨vs, N.iv.tup (h.mono e), by rw [enumL_len] at hi; rw [r.length]; exact hi⟩
  yld := fun Z G ad T ρ σ H pa i x H' N e p hi y => by
    obtain ⟨q, x', o, rfl, hq, hd, rfl, y⟩ := y
    obtain ⟨d, h1, h2⟩ := r.getV (y vs (N.iv.tup (h.mono e)))
    have n1 := N.knowN hq (.frz o (.tup [.int (i : Nat), x']))
    refine ⟨_, .tup [.int ((0 + i : Nat) : Int), d], n1, by rw [enumL_get, h1]; rfl, .tup (TupK.new hd) (.cons ?_ (.cons (n1.rp (h2.mono e p)) .nil))⟩
    rw [Nat.zero_add]
    exact .int _
theorem xi_enum {X : Cx} {e : Expr} {f : FE} {p pos tpos : Pos} {elts : List Expr} {kk : Nat} (hg : Gl X "enumerate") (hm : X.mg "enumerate" = none) (h : XE X e f) (hs : starEach [e] X.env = [(false, eval e X.env)] := by rfl) :
    XI X (.Tuple elts kk tpos) (.Call (.Name "enumerate" p) [e] [] pos) (itE f) := by
  have ha : PA X [e] (tDA X.K (consF f nilF)) := xa_cons h xa_nil (by rw [hs]; rfl)
  refine pi_weak (pi_enumT hg hm ha hs) fun σ H R h => ?_
  obtain ⟨Z, G, ad, T, ρ, pa, ds, T', N, hf, k⟩ := h
  obtain ⟨d, T1, h1, h2⟩ := bindF_eq hf
  have hc : consF f nilF ρ T = some ([d], T1) := by unfold consF nilF; rw [h1]; rfl
  cases d with
  | tup xs =>
    cases h2
    refine ⟨Z, G, ad, T, ρ, pa, [.tup xs], _, N, hc, fun vs G1 ad1 H1 x1 r1 => ?_⟩
    obtain ⟨v, rfl, q⟩ := r1.one
    obtain ⟨a, ws, rfl, hh, hr⟩ := q.inv_tup
    exact ⟨a, ws, rfl, x1.en.iv.tup hh, k _ G1 ad1 H1 x1 (itOk_enumT hh hr)⟩
  | _ => cases h2
end Fx
set_option maxHeartbeats 1000000
namespace Fx
open PySem PySem.Spec PyProof.Rows L2
open Evl (Ex)
/-! ### xs.count(True) -/
def eqb (k : Bool) (v : Value) : Bool := match v with
  | .bool b => b == k
  | _ => false
theorem eqb_at {A : Around} {s : Shared} {k : Bool} : ∀ {bs : List Bool} {us : List Value}, Vals (bs.map V.bl) us → ∀ y ∈ us, SeqAt.EqAt A s y (.bool k) (eqb k y)
  | [], _, .nil => fun y hy => by cases hy
  | b :: bs, _, .cons r h => fun y hy => by
    cases r
    rcases List.mem_cons.mp hy with e | e
    · subst e
      exact SeqAt.EqAt.bool_bool b k
    · exact eqb_at h y e
theorem eqb_count {k : Bool} : ∀ {bs : List Bool} {us : List Value}, Vals (bs.map V.bl) us → us.countP (eqb k) = bs.count k
  | [], _, .nil => rfl
  | b :: bs, _, .cons r h => by
    cases r
    rw [List.countP_cons, List.count_cons, eqb_count h]
    rfl
def rCntB (S : Hp → Addr → List V → Prop) : V → List V → Hp → VK → Prop := fun x xs H Q => ∃ (p : Addr) (bs : List Bool) (k : Bool), x = .ref p ∧ xs = [.bl k] ∧ S H p (bs.map V.bl) ∧ Q (.int ((bs.count k : Nat) : Int)) H
section
variable {X : Cx}
theorem mt_countL : MtR X "list.count" (rCntB (SqL X.K)) := by
  intro pins s σ H x xs v us Q I rx rxs ⟨p, bs, k, ex, exs, hs, q⟩
  subst ex exs
  cases rx
  obtain ⟨u, rfl, ru⟩ := rxs.one
  cases ru
  obtain ⟨its, rv, ⟨⟨cls, dd, data, sl⟩, n, ho, hc, hdn, hd⟩, _⟩ := I.list hs
  simp only at hc hd
  subst hc hd
  have ec := eqb_count (k := k) rv
  refine call_meets PySem.F.slot_list_count ⟨_, ho, rfl⟩ PySem.F.entry_list_count (PySem.F.args_list_count_2 _ _)
    (SeqAt.list_countAt p its.toArray n dd sl (.bool k) (eqb k)) ⟨ho, fun y hy => eqb_at rv y (by simpa using hy), .int ((bs.count k : Nat) : Int), H, I.tok _, ⟨s.toks, ?_⟩, q⟩
  show Value.int ((its.toArray.toList.countP (eqb k) : Nat) : Int) s.toks = _
  rw [show its.toArray.toList = its from rfl, ec]
theorem mt_countT : MtR X "tuple.count" (rCntB (SqT X.K)) := by
  intro pins s σ H x xs v us Q I rx rxs ⟨p, bs, k, ex, exs, hs, q⟩
  subst ex exs
  cases rx
  obtain ⟨u, rfl, ru⟩ := rxs.one
  cases ru
  obtain ⟨its, rv, ⟨⟨cls, dd, data, sl⟩, ho, hc, n, hd⟩, _⟩ := I.tuple hs
  simp only at hc hd
  subst hc hd
  have ec := eqb_count (k := k) rv
  refine call_meets PySem.F.slot_tuple_count ⟨_, ho, rfl⟩ PySem.F.entry_tuple_count (PySem.F.args_tuple_count_2 _ _)
    (SeqAt.tuple_countAt p its.toArray n dd sl (.bool k) (eqb k)) ⟨ho, fun y hy => eqb_at rv y (by simpa using hy), .int ((bs.count k : Nat) : Int), H, I.tok _, ⟨s.toks, ?_⟩, q⟩
  show Value.int ((its.toArray.toList.countP (eqb k) : Nat) : Int) s.toks = _
  rw [show its.toArray.toList = its from rfl, ec]
/-- a tuple on which no dict hangs -/
def tyTup (K : PySem.W.Frag) (x : V) (H : Hp) : Prop := ∃ a vs, x = .ref a ∧ TupK K H a vs
theorem ty_tup : TyOk X "tuple" (tyTup X.K) := by
  intro pins σ H s x v I r ⟨a, vs, ex, h⟩
  subst ex
  cases r
  obtain ⟨its, _, pl, _⟩ := I.tuple h.seq
  refine ⟨pl.typeIs, fun b e => ?_⟩
  cases e
  rcases h with ⟨o, h, hd⟩ | ⟨o, its, n, h1, h2, h3, h4, h5, hd⟩
  · exact ⟨o, (I.hok a _ h).1, hd⟩
  · exact ⟨o, I.kIn a o h1, hd⟩
theorem PE.or {e : Expr} {t t' : TE} (h : PE X e t) (h' : PE X e t') : PE X e (fun σ H Q => t σ H Q ∨ t' σ H Q) := ⟨fun pins s σ H Q I hw => by
  rcases hw with hw | hw
  · exact h.run pins s σ H Q I hw
  · exact h'.run pins s σ H Q I hw⟩
def cntF (k : Bool) (f : FE) : FE := fun ρ T => bindF (f ρ T) fun d T' => match d with
  | .tup ds => (bls ds).map fun bs => (.int ((bs.count k : Nat) : Int), T')
  | .lst ds => (bls ds).map fun bs => (.int ((bs.count k : Nat) : Int), T')
  | _ => none
theorem xe_count {o : Expr} {f : FE} {k : Bool} {j : Nat} {p1 apos cpos : Pos} (h : XE X o f)
    (hbase : attributeBase o "count" X.env (eval o X.env) = eval o X.env := by rfl) (hline : (apos.endLine == cpos.line) = true := by rfl) :
    XE X (.Call (.Attribute o "count" apos) [.Constant (.bool k) j p1] [] cpos) (cntF k f) := by
  have ha : PA X [.Constant (.bool k) j p1] (tDA X.K (consF (constF (.bl k)) nilF)) := xa_cons xe_bl xa_nil
  refine pe_weak (PE.or (pe_mG ty_tup PySem.F.plainAttrs_tuple PySem.F.slot_tuple_count PySem.F.type_tuple_count mt_countT h ha hbase rfl hline)
    (pe_bm PySem.F.plainAttrs_list PySem.F.slot_list_count PySem.F.type_list_count mt_countL h ha hbase rfl hline)) fun σ H Q hw => ?_
  obtain ⟨Z, G, ad, T, ρ, pa, d, T', N, hf, kk⟩ := hw
  obtain ⟨x, T1, h1, h2⟩ := bindF_eq hf
  have hc : ∀ T, consF (constF (.bl k)) nilF ρ T = some ([.bl k], T) := fun _ => rfl
  cases x with
  | tup ds =>
    obtain ⟨bs, h3, h4⟩ := Option.map_eq_some_iff.mp h2
    cases h4
    refine .inl ⟨Z, G, ad, T, ρ, pa, .tup ds, _, N, h1, fun v G1 ad1 H1 x1 r1 => ?_⟩
    obtain ⟨a, vs, rfl, hG, hr⟩ := r1.inv_tup
    refine ⟨⟨a, vs, rfl, hG.mono x1.en.iv.ex⟩, Z, G1, ad1, _, ρ, pa, [.bl k], _, x1.en, hc _, fun ws G2 ad2 H2 x2 r2 => ?_⟩
    obtain ⟨w, rfl, hw⟩ := r2.one
    have e := bls_rel hr h3
    subst e
    exact ⟨a, bs, k, rfl, by rw [hw.inv_bl], x2.en.iv.tup (hG.mono x2.gr.ex), kk _ G2 ad2 H2 (x1.trans x2) (.int _)⟩
  | lst ds =>
    obtain ⟨bs, h3, h4⟩ := Option.map_eq_some_iff.mp h2
    cases h4
    refine .inr ⟨Z, G, ad, T, ρ, pa, .lst ds, _, N, h1, fun v G1 ad1 H1 x1 r1 => ?_⟩
    obtain ⟨a, vs, rfl, hG, hr⟩ := r1.inv_lst
    refine ⟨.inl ⟨rfl, vs, .inl (.inl (x1.en.iv.ex _ _ hG))⟩, Z, G1, ad1, _, ρ, pa, [.bl k], _, x1.en, hc _, fun ws G2 ad2 H2 x2 r2 => ?_⟩
    obtain ⟨w, rfl, hw⟩ := r2.one
    have e := bls_rel hr h3
    subst e
    exact ⟨a, bs, k, rfl, by rw [hw.inv_bl], .inl (.inl (x2.en.iv.ex _ _ (x2.gr.ex _ _ hG))), kk _ G2 ad2 H2 (x1.trans x2) (.int _)⟩
  | _ => cases h2
end
end Fx
/-! rows that repeat, patterns: the mathematics alone -/
namespace PM
def at_ (l : List Bool) (y : Int) : Bool := l.getD (y % (l.length : Int)).toNat false
def rep (k : Nat) (l : List Bool) : List Bool := (List.replicate (l.length / k) (l.take k)).flatten
def okK (l : List Bool) (k : Nat) : Bool := decide (l.length % k = 0) && decide (l = rep k l)
def short (l : List Bool) : List Bool := match (List.range l.length).find? (fun k => okK l (k + 1)) with
  | some k => l.take (k + 1)
  | none => l
def Per (f : Int → Bool) (n : Int) : Prop := ∀ y, f (y + n) = f y
theorem flat_get (xs : List Bool) (k : Nat) (hk : xs.length = k) (h0 : 0 < k) : ∀ (m i : Nat), i < m * k → (List.replicate m xs).flatten[i]? = xs[i % k]?
  | 0, i, h => by omega
  | m + 1, i, h => by
    rw [List.replicate_succ, List.flatten_cons]
    by_cases hi : i < k
    · rw [List.getElem?_append_left (by omega), Nat.mod_eq_of_lt hi]
    · rw [List.getElem?_append_right (by omega), hk, flat_get xs k hk h0 m (i - k) (by rw [Nat.succ_mul] at h; omega)]
      congr 1
      rw [← Nat.mod_eq_sub_mod (by omega)]
theorem flat_len (xs : List Bool) : ∀ m : Nat, (List.replicate m xs).flatten.length = m * xs.length
  | 0 => by simp
  | m + 1 => by rw [List.replicate_succ, List.flatten_cons, List.length_append, flat_len xs m, Nat.succ_mul]; omega
theorem rep_iff {l : List Bool} {k : Nat} (h0 : 0 < k) (hk : k ≤ l.length) (hd : l.length % k = 0) : l = rep k l ↔ ∀ i, i < l.length → l[i]? = l[i % k]? := by
  have ht : (l.take k).length = k := by rw [List.length_take]; omega
  have hm : l.length / k * k = l.length := Nat.div_mul_cancel (Nat.dvd_of_mod_eq_zero hd)
  have key : ∀ i, i < l.length → (rep k l)[i]? = l[i % k]? := fun i hi => by
    unfold rep
    rw [flat_get _ k ht h0 _ i (by omega), List.getElem?_take, if_pos (Nat.mod_lt _ h0)]
  constructor
  · intro h i hi
    rw [← key i hi, ← h]
  · intro h
    apply List.ext_getElem?
    intro i
    by_cases hi : i < l.length
    · rw [key i hi]
      exact h i hi
    · have : (rep k l).length = l.length := by unfold rep; rw [flat_len, ht, hm]
      rw [List.getElem?_eq_none (by omega), List.getElem?_eq_none (by omega)]
theorem at_get {l : List Bool} (h : l ≠ []) (y : Int) : l[(y % (l.length : Int)).toNat]? = some (at_ l y) := by
  have hp : 0 < l.length := List.length_pos_iff.mpr h
  have h1 := Int.emod_nonneg y (show (l.length : Int) ≠ 0 by omega)
  have h2 := Int.emod_lt_of_pos y (show (0 : Int) < l.length by omega)
  have h3 : (y % (l.length : Int)).toNat < l.length := by omega
  unfold at_
  rw [List.getD_eq_getElem?_getD, List.getElem?_eq_getElem h3]
  rfl
theorem at_nat {l : List Bool} {i : Nat} (hi : i < l.length) : l[i]? = some (at_ l (i : Int)) := by
  have h : l ≠ [] := fun e => by subst e; simp at hi
  have := at_get h (i : Int)
  rw [Int.emod_eq_of_lt (by omega) (by omega)] at this
  exact this
theorem at_per {l : List Bool} : Per (at_ l) l.length := fun y => by
  unfold at_
  rw [Int.add_emod_right]
theorem Per.mul {f : Int → Bool} {n : Int} (h : Per f n) : ∀ (k : Nat) (y : Int), f (y + k * n) = f y
  | 0, y => by simp
  | k + 1, y => by
    have e : y + ((k + 1 : Nat) : Int) * n = (y + k * n) + n := by
      rw [Int.natCast_succ, Int.add_mul, Int.one_mul]
      omega
    rw [e, h, Per.mul h k y]
theorem Per.neg {f : Int → Bool} {n : Int} (h : Per f n) : Per f (-n) := fun y => by
  have := h (y + -n)
  rw [show y + -n + n = y by omega] at this
  exact this.symm
theorem Per.imul {f : Int → Bool} {n : Int} (h : Per f n) (k : Int) (y : Int) : f (y + k * n) = f y := by
  rcases Int.le_total 0 k with hk | hk
  · have := h.mul k.toNat y
    rw [show ((k.toNat : Nat) : Int) = k by omega] at this
    exact this
  · have := h.neg.mul (-k).toNat y
    rw [show (((-k).toNat : Nat) : Int) = -k by omega, Int.neg_mul_neg] at this
    exact this
theorem Per.add {f : Int → Bool} {n m : Int} (h : Per f n) (g : Per f m) : Per f (n + m) := fun y => by
  rw [← Int.add_assoc, g, h]
theorem Per.times {f : Int → Bool} {n : Int} (h : Per f n) (k : Int) : Per f (k * n) := fun y => h.imul k y
/-- a common divisor of two periods -/
theorem Per.gcd {f : Int → Bool} : ∀ (n m : Nat), Per f n → Per f m → Per f (Nat.gcd n m) := by
  intro n m
  induction n, m using Nat.gcd.induction with
  | H0 m => intro _ h; rw [Nat.gcd_zero_left]; exact h
  | H1 n m hn ih =>
    intro h1 h2
    rw [Nat.gcd_rec]
    refine ih ?_ h1
    have e : ((m % n : Nat) : Int) = (m : Int) + (-(m / n : Nat)) * (n : Int) := by
      have := Nat.div_add_mod m n
      have h3 : (m : Int) = (n : Int) * ((m / n : Nat) : Int) + ((m % n : Nat) : Int) := by exact_mod_cast this.symm
      rw [Int.neg_mul, Int.mul_comm]
      omega
    rw [e]
    exact h2.add (h1.times _)
/-- a row repeats by k exactly if its function does -/
theorem okK_iff {l : List Bool} {k : Nat} (h0 : 0 < k) (hk : k ≤ l.length) : okK l k = true ↔ l.length % k = 0 ∧ Per (at_ l) k := by
  unfold okK
  rw [Bool.and_eq_true, decide_eq_true_eq, decide_eq_true_eq]
  constructor
  · rintro ⟨hd, hr⟩
    refine ⟨hd, fun y => ?_⟩
    have hl : l ≠ [] := fun e => by subst e; simp at hk; omega
    have hp : 0 < l.length := List.length_pos_iff.mpr hl
    have q := (rep_iff h0 hk hd).mp hr
    have step : ∀ y : Int, at_ l y = at_ l (y % (k : Int)) := fun y => by
      have a1 := at_get hl y
      have n1 := Int.emod_nonneg y (show (l.length : Int) ≠ 0 by omega)
      have n2 := Int.emod_lt_of_pos y (show (0 : Int) < l.length by omega)
      rw [q _ (by omega)] at a1
      have n3 := Int.emod_nonneg y (show (k : Int) ≠ 0 by omega)
      have n4 := Int.emod_lt_of_pos y (show (0 : Int) < k by omega)
      have e : (y % (l.length : Int)).toNat % k = (y % (k : Int)).toNat := by
        have e1 : (((y % (l.length : Int)).toNat % k : Nat) : Int) = y % (k : Int) := by
          rw [Int.natCast_emod, Int.toNat_of_nonneg n1]
          exact Int.emod_emod_of_dvd y (Int.natCast_dvd_natCast.mpr (Nat.dvd_of_mod_eq_zero hd))
        omega
      rw [e] at a1
      have a2 := at_nat (l := l) (i := (y % (k : Int)).toNat) (by omega)
      rw [a1] at a2
      rw [show (((y % (k : Int)).toNat : Nat) : Int) = y % (k : Int) by omega] at a2
      exact Option.some.inj a2
    rw [step (y + k), step y, Int.add_emod_right]
  · rintro ⟨hd, hp⟩
    refine ⟨hd, (rep_iff h0 hk hd).mpr fun i hi => ?_⟩
    have hm : i % k < l.length := by have := Nat.mod_lt i h0; omega
    rw [at_nat hi, at_nat hm]
    congr 1
    have := hp.mul (i / k) ((i % k : Nat) : Int)
    rw [← this]
    congr 1
    have e := Nat.mod_add_div i k
    have : (i : Int) = ((i % k : Nat) : Int) + (k : Int) * ((i / k : Nat) : Int) := by exact_mod_cast e.symm
    rw [Int.mul_comm ((i / k : Nat) : Int)]
    exact this
/-- as short as possible -/
def Short (l : List Bool) : Prop := l ≠ [] ∧ ∀ k : Nat, 0 < k → k ≤ l.length → l.length % k = 0 → Per (at_ l) k → k = l.length
theorem take_at {l : List Bool} {k : Nat} (h0 : 0 < k) (hk : k ≤ l.length) (hp : Per (at_ l) k) : at_ (l.take k) = at_ l := by
  funext y
  have ht : (l.take k).length = k := by rw [List.length_take]; omega
  have hne : l.take k ≠ [] := fun e => by rw [e] at ht; simp at ht; omega
  have a := at_get hne y
  rw [ht] at a
  have n3 := Int.emod_nonneg y (show (k : Int) ≠ 0 by omega)
  have n4 := Int.emod_lt_of_pos y (show (0 : Int) < k by omega)
  rw [List.getElem?_take, if_pos (by omega), at_nat (by omega)] at a
  rw [← Option.some.inj a, show (((y % (k : Int)).toNat : Nat) : Int) = y % (k : Int) by omega]
  have e := hp.imul (y / k) (y % k)
  rw [← e]
  congr 1
  have := Int.emod_add_mul_ediv y k
  rw [Int.mul_comm] at this
  exact this
theorem find_range {p : Nat → Bool} : ∀ (n : Nat), (∃ k, k < n ∧ p k = true) → ∃ k, (List.range n).find? p = some k ∧ k < n ∧ p k = true ∧ ∀ j, j < k → p j = false := by
  intro n h
  cases e : (List.range n).find? p with
  | none =>
    obtain ⟨k, h1, h2⟩ := h
    have := List.find?_eq_none.mp e k (List.mem_range.mpr h1)
    rw [h2] at this
    exact absurd rfl this
  | some k =>
    refine ⟨k, rfl, List.mem_range.mp (List.mem_of_find?_eq_some e), List.find?_some e, fun j hj => ?_⟩
    obtain ⟨_, as, bs, h1, h2⟩ := List.find?_eq_some_iff_append.mp e
    have hlen : as.length = k := by
      have h3 : (List.range n)[as.length]? = some k := by rw [h1]; simp
      have h4 := (List.getElem?_eq_some_iff.mp h3).1
      rw [List.getElem?_range (by simpa using h4)] at h3
      exact Option.some.inj h3
    have hm : j ∈ as := by
      have h3 : as[j]? = some j := by
        have h5 : (List.range n)[j]? = as[j]? := by rw [h1, List.getElem?_append_left (by omega)]
        have h6 : j < n := by
          have := List.mem_range.mp (List.mem_of_find?_eq_some e)
          omega
        rw [← h5, List.getElem?_range h6]
      exact List.mem_of_getElem? h3
    simpa using h2 j hm
theorem short_spec {l : List Bool} (h : l ≠ []) : Short (short l) ∧ at_ (short l) = at_ l ∧ (short l).length ≤ l.length := by
  have hp : 0 < l.length := List.length_pos_iff.mpr h
  have full : okK l (l.length - 1 + 1) = true := by
    rw [show l.length - 1 + 1 = l.length by omega]
    exact (okK_iff hp (Nat.le_refl _)).mpr ⟨Nat.mod_self _, at_per⟩
  obtain ⟨k, h1, h2, h3, h4⟩ := find_range (p := fun k => okK l (k + 1)) l.length ⟨l.length - 1, by omega, full⟩
  have hs : short l = l.take (k + 1) := by unfold short; rw [h1]
  rw [hs]
  obtain ⟨hd, hper⟩ := (okK_iff (by omega) (by omega)).mp h3
  have hat := take_at (by omega) (by omega) hper
  have ht : (l.take (k + 1)).length = k + 1 := by rw [List.length_take]; omega
  refine ⟨⟨fun e => by rw [e] at ht; simp at ht, fun j j0 jl jd jp => ?_⟩, hat, by rw [ht]; omega⟩
  rw [ht] at jl jd ⊢
  rw [hat] at jp
  by_cases hj : j = k + 1
  · exact hj
  · have h5 := h4 (j - 1) (by omega)
    rw [show j - 1 + 1 = j by omega] at h5
    have : okK l j = true := (okK_iff j0 (by omega)).mpr ⟨?_, jp⟩
    · rw [this] at h5
      cases h5
    · exact Nat.mod_eq_zero_of_dvd (Nat.dvd_trans (Nat.dvd_of_mod_eq_zero jd) (Nat.dvd_of_mod_eq_zero hd))
/-- short rows are told by their functions -/
theorem short_inj {l m : List Bool} (hl : Short l) (hm : Short m) (h : at_ l = at_ m) : l = m := by
  have p1 : 0 < l.length := List.length_pos_iff.mpr hl.1
  have p2 : 0 < m.length := List.length_pos_iff.mpr hm.1
  have g1 : Per (at_ l) (Nat.gcd l.length m.length) := Per.gcd _ _ at_per (by rw [h]; exact at_per)
  have d1 := Nat.gcd_dvd_left l.length m.length
  have d2 := Nat.gcd_dvd_right l.length m.length
  have gp : 0 < Nat.gcd l.length m.length := Nat.gcd_pos_of_pos_left _ p1
  have e1 := hl.2 _ gp (Nat.le_of_dvd p1 d1) (Nat.mod_eq_zero_of_dvd d1) g1
  have e2 := hm.2 _ gp (Nat.le_of_dvd p2 d2) (Nat.mod_eq_zero_of_dvd d2) (by rw [← h]; exact g1)
  have e : l.length = m.length := e1.symm.trans e2
  apply List.ext_getElem?
  intro i
  by_cases hi : i < l.length
  · rw [at_nat hi, at_nat (by omega), h]
  · rw [List.getElem?_eq_none (by omega), List.getElem?_eq_none (by omega)]
end PM
/-! patterns, the next ones, written in one way -/
namespace PM
structure Pat where
  l : List Bool
  s : Int
  m : List Bool
  r : List Bool
def Pat.mem (p : Pat) (y : Int) : Bool := if y < p.s then at_ p.l y else if y < p.s + p.m.length then p.m.getD (y - p.s).toNat false else at_ p.r y
structure Pat.Ok (p : Pat) : Prop where
  l : p.l ≠ []
  r : p.r ≠ []
theorem pos_len {α : Type} {l : List α} (h : l ≠ []) : 0 < l.length := List.length_pos_iff.mpr h
theorem Pat.mem_l {p : Pat} {y : Int} (h : y < p.s) : p.mem y = at_ p.l y := if_pos h
theorem Pat.mem_r {p : Pat} {y : Int} (h : p.s + p.m.length ≤ y) : p.mem y = at_ p.r y := by
  unfold Pat.mem
  rw [if_neg (by omega), if_neg (by omega)]
theorem Pat.mem_m {p : Pat} {y : Int} (h : p.s ≤ y) (h2 : y < p.s + p.m.length) : p.mem y = p.m.getD (y - p.s).toNat false := by
  unfold Pat.mem
  rw [if_neg (by omega), if_pos h2]
/-- a row of what a function says -/
theorem at_map {g : Int → Bool} {n : Nat} (h0 : 0 < n) (hp : Per g n) (y : Int) : at_ ((List.range n).map fun (k : Nat) => g (k : Int)) y = g y := by
  have hl : ((List.range n).map fun (k : Nat) => g (k : Int)).length = n := by rw [List.length_map, List.length_range]
  have n1 := Int.emod_nonneg y (show (n : Int) ≠ 0 by omega)
  have n2 := Int.emod_lt_of_pos y (show (0 : Int) < n by omega)
  unfold at_
  rw [hl, List.getD_eq_getElem?_getD, List.getElem?_map, List.getElem?_range (by omega)]
  show g _ = g y
  rw [show (((y % (n : Int)).toNat : Nat) : Int) = y % (n : Int) by omega]
  have e := hp.imul (y / n) (y % n)
  rw [← e]
  congr 1
  have := Int.emod_add_mul_ediv y n
  rw [Int.mul_comm] at this
  exact this
/-- what repeats is told by one turn -/
theorem Per.window {f g : Int → Bool} {n : Int} (h0 : 0 < n) (hf : Per f n) (hg : Per g n) (a : Int) (h : ∀ w, a ≤ w → w < a + n → f w = g w) : f = g := by
  funext y
  have n1 := Int.emod_nonneg (y - a) (show n ≠ 0 by omega)
  have n2 := Int.emod_lt_of_pos (y - a) h0
  have e : a + (y - a) % n + (y - a) / n * n = y := by
    have := Int.emod_add_mul_ediv (y - a) n
    rw [Int.mul_comm] at this
    omega
  have q := h (a + (y - a) % n) (by omega) (by omega)
  have e1 := hf.imul ((y - a) / n) (a + (y - a) % n)
  have e2 := hg.imul ((y - a) / n) (a + (y - a) % n)
  rw [e] at e1 e2
  rw [e1, e2, q]
theorem per_const (b : Bool) (n : Int) : Per (fun _ => b) n := fun _ => rfl
theorem at_none {l : List Bool} (h : l ≠ []) (a : Int) (hw : ∀ w, a ≤ w → w < a + l.length → at_ l w = false) (y : Int) : at_ l y = false := by
  have hp := pos_len h
  exact congrFun (Per.window (by omega) (at_per (l := l)) (per_const false _) a hw) y
/-! ### the next one -/
def Next (f : Int → Bool) (y : Int) : Option Int → Prop
  | some z => y ≤ z ∧ f z = true ∧ ∀ w, y ≤ w → w < z → f w = false
  | none => ∀ w, y ≤ w → f w = false
def Prev (f : Int → Bool) (y : Int) : Option Int → Prop
  | some z => z ≤ y ∧ f z = true ∧ ∀ w, w ≤ y → z < w → f w = false
  | none => ∀ w, w ≤ y → f w = false
theorem Next.uniq {f : Int → Bool} {y : Int} : ∀ {a b : Option Int}, Next f y a → Next f y b → a = b
  | some a, some b, h, g => by
    rcases Int.lt_trichotomy a b with q | q | q
    · have := g.2.2 a h.1 q
      rw [h.2.1] at this
      cases this
    · rw [q]
    · have := h.2.2 b g.1 q
      rw [g.2.1] at this
      cases this
  | some a, none, h, g => by
    have := g a h.1
    rw [h.2.1] at this
    cases this
  | none, some b, h, g => by
    have := h b g.1
    rw [g.2.1] at this
    cases this
  | none, none, _, _ => rfl
theorem Prev.next {f : Int → Bool} {y : Int} : ∀ {a : Option Int}, Next (fun w => f (-w)) (-y) a ↔ Prev f y (a.map fun z => -z)
  | some a => by
    constructor
    · rintro ⟨h1, h2, h3⟩
      refine ⟨by show -a ≤ y; omega, h2, fun w h4 h5 => ?_⟩
      have := h3 (-w) (by omega) (by show -w < a; have : -a < w := h5; omega)
      simp only [Int.neg_neg] at this
      exact this
    · rintro ⟨h1, h2, h3⟩
      have h1' : -a ≤ y := h1
      refine ⟨by omega, h2, fun w h4 h5 => h3 (-w) (by omega) (by show -a < -w; omega)⟩
  | none => by
    constructor
    · intro h w hw
      have := h (-w) (by omega)
      simp only [Int.neg_neg] at this
      exact this
    · intro h w hw
      exact h (-w) (by omega)
theorem Prev.uniq {f : Int → Bool} {y : Int} {a b : Option Int} (h : Prev f y a) (g : Prev f y b) : a = b := by
  have e : ∀ o : Option Int, (o.map fun z => -z).map (fun z => -z) = o := fun o => by cases o <;> simp
  have h1 : Next (fun w => f (-w)) (-y) (a.map fun z => -z) := Prev.next.mpr (by rw [e]; exact h)
  have h2 : Next (fun w => f (-w)) (-y) (b.map fun z => -z) := Prev.next.mpr (by rw [e]; exact g)
  have := h1.uniq h2
  rw [← e a, this, e]
/-- the three searches -/
theorem next_a {p : Pat} (ok : p.Ok) {y : Int} (h : ∀ w, y ≤ w → w < (if y + p.l.length < p.s then y + p.l.length else p.s) → p.mem w = false) (w : Int) (h1 : y ≤ w) (h2 : w < p.s) : p.mem w = false := by
  by_cases hc : y + p.l.length < p.s
  · rw [if_pos hc] at h
    rw [Pat.mem_l h2]
    exact at_none ok.l y (fun v h3 h4 => by rw [← Pat.mem_l (by omega)]; exact h v h3 h4) w
  · rw [if_neg hc] at h
    exact h w h1 h2
theorem next_c {p : Pat} (ok : p.Ok) {low : Int} (hl : p.s + p.m.length ≤ low) (h : ∀ w, low ≤ w → w < low + p.r.length → p.mem w = false) (w : Int) (h1 : low ≤ w) : p.mem w = false := by
  rw [Pat.mem_r (by omega)]
  exact at_none ok.r low (fun v h3 h4 => by rw [← Pat.mem_r (by omega)]; exact h v h3 h4) w
/-- turned round -/
def neg (p : Pat) : Pat := ⟨(List.range p.r.length).map fun (k : Nat) => at_ p.r (-(k : Int)), 1 - p.s - p.m.length, p.m.reverse, (List.range p.l.length).map fun (k : Nat) => at_ p.l (-(k : Int))⟩
theorem neg_per {f : Int → Bool} {n : Int} (h : Per f n) : Per (fun y => f (-y)) n := fun y => by
  have := h.neg (-y)
  show f (-(y + n)) = f (-y)
  rw [← this]
  congr 1
  omega
theorem neg_ok {p : Pat} (ok : p.Ok) : (neg p).Ok := by
  have h1 := pos_len ok.l
  have h2 := pos_len ok.r
  constructor
  · apply List.ne_nil_of_length_pos
    show 0 < (List.map _ _).length
    rw [List.length_map, List.length_range]
    exact h2
  · apply List.ne_nil_of_length_pos
    show 0 < (List.map _ _).length
    rw [List.length_map, List.length_range]
    exact h1
theorem neg_mem {p : Pat} (ok : p.Ok) (y : Int) : (neg p).mem y = p.mem (-y) := by
  have h1 := pos_len ok.l
  have h2 := pos_len ok.r
  have el : ∀ y, at_ (neg p).l y = at_ p.r (-y) := fun y => at_map (g := fun y => at_ p.r (-y)) h2 (neg_per at_per) y
  have er : ∀ y, at_ (neg p).r y = at_ p.l (-y) := fun y => at_map (g := fun y => at_ p.l (-y)) h1 (neg_per at_per) y
  have es : (neg p).s = 1 - p.s - p.m.length := rfl
  have em : (neg p).m = p.m.reverse := rfl
  have eml : (neg p).m.length = p.m.length := by rw [em, List.length_reverse]
  by_cases c1 : y < 1 - p.s - p.m.length
  · rw [Pat.mem_l (by omega), el, Pat.mem_r (by omega)]
  · by_cases c2 : y < 1 - p.s
    · rw [Pat.mem_m (by omega) (by omega), Pat.mem_m (by omega) (by omega), em, es, List.getD_eq_getElem?_getD, List.getD_eq_getElem?_getD, List.getElem?_reverse (by omega)]
      congr 2
      omega
    · rw [Pat.mem_r (by omega), er, Pat.mem_l (by omega)]
/-! ### written in just one way -/
def IsA (f : Int → Bool) (l : List Bool) (a : Int) : Prop := f a ≠ at_ l a ∧ ∀ w, w < a → f w = at_ l w
def IsB (f : Int → Bool) (r : List Bool) (b : Int) : Prop := f (b - 1) ≠ at_ r (b - 1) ∧ ∀ w, b ≤ w → f w = at_ r w
structure Canon (p : Pat) : Prop where
  l : Short p.l
  r : Short p.r
  k : (p.l = p.r ∧ p.s = 0 ∧ p.m = []) ∨ ∃ a b, IsA p.mem p.l a ∧ IsB p.mem p.r b ∧ ((b ≤ a ∧ p.s = b ∧ p.m = []) ∨ (a < b ∧ p.s = a ∧ p.s + p.m.length = b))
theorem IsA.uniq {f : Int → Bool} {l : List Bool} {a b : Int} (h : IsA f l a) (g : IsA f l b) : a = b := by
  rcases Int.lt_trichotomy a b with q | q | q
  · exact absurd (g.2 a q) h.1
  · exact q
  · exact absurd (h.2 b q) g.1
theorem IsB.uniq {f : Int → Bool} {l : List Bool} {a b : Int} (h : IsB f l a) (g : IsB f l b) : a = b := by
  rcases Int.lt_trichotomy a b with q | q | q
  · exact absurd (h.2 (b - 1) (by omega)) g.1
  · exact q
  · exact absurd (g.2 (a - 1) (by omega)) h.1
theorem Canon.ok {p : Pat} (c : Canon p) : p.Ok := ⟨c.l.1, c.r.1⟩
/-- far below -/
theorem at_far {l m : List Bool} (hl : l ≠ []) (hm : m ≠ []) (a : Int) (h : ∀ w, w < a → at_ l w = at_ m w) : at_ l = at_ m := by
  have p1 := pos_len hl
  have p2 := pos_len hm
  have hn : (0 : Int) < (m.length : Int) * (l.length : Int) := Int.mul_pos (by omega) (by omega)
  refine Per.window (n := (m.length : Int) * (l.length : Int)) hn (at_per.times _) ?_ (a - (m.length : Int) * (l.length : Int)) fun w _ h2 => h w (by omega)
  rw [Int.mul_comm]
  exact at_per.times _
theorem at_far' {l m : List Bool} (hl : l ≠ []) (hm : m ≠ []) (a : Int) (h : ∀ w, a ≤ w → at_ l w = at_ m w) : at_ l = at_ m := by
  have p1 := pos_len hl
  have p2 := pos_len hm
  have hn : (0 : Int) < (m.length : Int) * (l.length : Int) := Int.mul_pos (by omega) (by omega)
  refine Per.window (n := (m.length : Int) * (l.length : Int)) hn (at_per.times _) ?_ a fun w h1 _ => h w h1
  rw [Int.mul_comm]
  exact at_per.times _
theorem Canon.all {p : Pat} (h1 : p.l = p.r) (h3 : p.m = []) : p.mem = at_ p.l := by
  funext y
  unfold Pat.mem
  rw [h3, h1]
  by_cases c : y < p.s
  · rw [if_pos c]
  · rw [if_neg c, if_neg (by simp; omega)]
theorem pat_eq {p q : Pat} (h : p.mem = q.mem) (e1 : p.l = q.l) (e2 : p.r = q.r) (e3 : p.s = q.s) (e4 : p.m.length = q.m.length) : p = q := by
  have em : p.m = q.m := by
    apply List.ext_getElem?
    intro i
    by_cases hi : i < p.m.length
    · have a1 := Pat.mem_m (p := p) (y := p.s + i) (by omega) (by omega)
      have a2 := Pat.mem_m (p := q) (y := p.s + i) (by omega) (by omega)
      rw [h, a2, List.getD_eq_getElem?_getD, List.getD_eq_getElem?_getD, show (p.s + (i : Int) - p.s).toNat = i by omega, show (p.s + (i : Int) - q.s).toNat = i by omega] at a1
      rw [List.getElem?_eq_getElem hi, List.getElem?_eq_getElem (by omega)] at a1 ⊢
      exact congrArg some a1.symm
    · rw [List.getElem?_eq_none (by omega), List.getElem?_eq_none (by omega)]
  cases p
  cases q
  simp_all
theorem Canon.uniq {p q : Pat} (c : Canon p) (d : Canon q) (h : p.mem = q.mem) : p = q := by
  have el : p.l = q.l := short_inj c.l d.l (at_far c.l.1 d.l.1 (if p.s < q.s then p.s else q.s) fun w hw => by
    split at hw
    · rw [← Pat.mem_l (by omega), h, Pat.mem_l (by omega)]
    · rw [← Pat.mem_l (by omega), h, Pat.mem_l (by omega)])
  have er : p.r = q.r := short_inj c.r d.r (at_far' c.r.1 d.r.1 (if p.s + p.m.length < q.s + q.m.length then q.s + q.m.length else p.s + p.m.length) fun w hw => by
    split at hw
    · rw [← Pat.mem_r (by omega), h, Pat.mem_r (by omega)]
    · rw [← Pat.mem_r (by omega), h, Pat.mem_r (by omega)])
  rcases c.k with ⟨a1, a2, a3⟩ | ⟨a, b, ha, hb, hc⟩
  · rcases d.k with ⟨b1, b2, b3⟩ | ⟨a', b', ha', _⟩
    · exact pat_eq h el er (by omega) (by rw [a3, b3])
    · have := Canon.all a1 a3
      rw [← el, ← h] at ha'
      exact absurd (by rw [this]) ha'.1
  · rcases d.k with ⟨b1, b2, b3⟩ | ⟨a', b', ha', hb', hc'⟩
    · have := Canon.all b1 b3
      rw [el, h] at ha
      exact absurd (by rw [this]) ha.1
    · rw [← el, ← h] at ha'
      rw [← er, ← h] at hb'
      have e1 := ha.uniq ha'
      have e2 := hb.uniq hb'
      subst e1 e2
      rcases hc with ⟨c1, c2, c3⟩ | ⟨c1, c2, c3⟩
      · rcases hc' with ⟨d1, d2, d3⟩ | ⟨d1, d2, d3⟩
        · exact pat_eq h el er (by omega) (by rw [c3, d3])
        · omega
      · rcases hc' with ⟨d1, d2, d3⟩ | ⟨d1, d2, d3⟩
        · omega
        · exact pat_eq h el er (by omega) (by omega)
end PM
/-! a pattern is written in one way, by looking at enough numbers -/
namespace PM
def rngZ (i j : Int) : List Int := (List.range (j - i).toNat).map fun (k : Nat) => i + (k : Int)
theorem rngZ_len (i j : Int) : (rngZ i j).length = (j - i).toNat := by unfold rngZ; rw [List.length_map, List.length_range]
theorem rngZ_mem {i j w : Int} : w ∈ rngZ i j ↔ i ≤ w ∧ w < j := by
  unfold rngZ
  rw [List.mem_map]
  constructor
  · rintro ⟨k, hk, rfl⟩
    have := List.mem_range.mp hk
    omega
  · rintro ⟨h1, h2⟩
    exact ⟨(w - i).toNat, List.mem_range.mpr (by omega), by omega⟩
theorem rngZ_lt (i j : Int) : (rngZ i j).Pairwise (· < ·) := by
  unfold rngZ
  rw [List.pairwise_map]
  exact List.pairwise_lt_range.imp fun h => by omega
theorem rngZ_get {i j : Int} {k : Nat} (h : k < (j - i).toNat) : (rngZ i j)[k]? = some (i + (k : Int)) := by
  unfold rngZ
  rw [List.getElem?_map, List.getElem?_range h]
  rfl
theorem filter_head {q : Int → Bool} {l : List Int} (hp : l.Pairwise (· < ·)) {a : Int} {xs : List Int} (h : l.filter q = a :: xs) : a ∈ l ∧ q a = true ∧ ∀ w ∈ l, w < a → q w = false := by
  have hm : a ∈ l.filter q := by rw [h]; exact List.mem_cons_self
  rw [List.mem_filter] at hm
  refine ⟨hm.1, hm.2, fun w hw hl => ?_⟩
  cases e : q w with
  | false => rfl
  | true =>
    have h1 : w ∈ l.filter q := List.mem_filter.mpr ⟨hw, e⟩
    have h2 : (l.filter q).Pairwise (· < ·) := hp.filter q
    rw [h] at h1 h2
    rcases List.mem_cons.mp h1 with h3 | h3
    · omega
    · have := (List.pairwise_cons.mp h2).1 w h3
      omega
theorem filter_last {q : Int → Bool} {l : List Int} (hp : l.Pairwise (· < ·)) {b : Int} {xs : List Int} (h : l.filter q = xs ++ [b]) : b ∈ l ∧ q b = true ∧ ∀ w ∈ l, b < w → q w = false := by
  have hm : b ∈ l.filter q := by rw [h]; exact List.mem_append_right _ List.mem_cons_self
  rw [List.mem_filter] at hm
  refine ⟨hm.1, hm.2, fun w hw hl => ?_⟩
  cases e : q w with
  | false => rfl
  | true =>
    have h1 : w ∈ l.filter q := List.mem_filter.mpr ⟨hw, e⟩
    have h2 : (l.filter q).Pairwise (· < ·) := hp.filter q
    rw [h] at h1 h2
    rcases List.mem_append.mp h1 with h3 | h3
    · have := (List.pairwise_append.mp h2).2.2 w h3 b List.mem_cons_self
      omega
    · rw [List.mem_singleton.mp h3] at hl
      omega
def dL (f : Int → Bool) (l : List Bool) (y : Int) : Bool := decide (f y ≠ at_ l y)
theorem dL_false {f : Int → Bool} {l : List Bool} {y : Int} : dL f l y = false ↔ f y = at_ l y := by
  unfold dL
  rw [decide_eq_false_iff_not]
  exact ⟨fun h => Decidable.byContradiction h, fun h h2 => h2 h⟩
theorem dL_true {f : Int → Bool} {l : List Bool} {y : Int} : dL f l y = true ↔ f y ≠ at_ l y := decide_eq_true_iff
/-- the ends of what is looked at -/
def lo_ (p : Pat) : Int := p.s - 2 * ((short p.l).length * (short p.r).length : Nat) - 2
def hi_ (p : Pat) : Int := p.s + p.m.length + 2 * ((short p.l).length * (short p.r).length : Nat) + 2
def odd_ (p : Pat) : List Int := (rngZ (lo_ p) (hi_ p)).filter (dL p.mem (short p.l))
def late_ (p : Pat) : List Int := (rngZ (lo_ p) (hi_ p)).filter (dL p.mem (short p.r))
/-- the pattern that is written, told by what is found -/
def wr0 (p : Pat) : Pat := ⟨short p.l, 0, [], short p.r⟩
def wr1 (p : Pat) (b : Int) : Pat := ⟨short p.l, b, [], short p.r⟩
def wr2 (p : Pat) (a b : Int) : Pat := ⟨short p.l, a, (rngZ a b).map p.mem, short p.r⟩
section
variable {p : Pat} (ok : p.Ok)
include ok
theorem sl_ : at_ (short p.l) = at_ p.l := (short_spec ok.l).2.1
theorem sr_ : at_ (short p.r) = at_ p.r := (short_spec ok.r).2.1
theorem pl_pos : 0 < (short p.l).length * (short p.r).length := Nat.mul_pos (pos_len (short_spec ok.l).1.1) (pos_len (short_spec ok.r).1.1)
theorem wr0_mem (h1 : short p.l = short p.r) (h2 : odd_ p = []) : (wr0 p).mem = p.mem := by
  have e : (wr0 p).mem = at_ (short p.l) := Canon.all (p := wr0 p) h1 rfl
  rw [e]
  funext y
  have pp := pl_pos ok
  by_cases c1 : y < p.s
  · rw [sl_ ok, Pat.mem_l c1]
  · by_cases c2 : p.s + p.m.length ≤ y
    · rw [h1, sr_ ok, Pat.mem_r c2]
    · have hm : y ∈ rngZ (lo_ p) (hi_ p) := rngZ_mem.mpr (by unfold lo_ hi_; omega)
      have := List.filter_eq_nil_iff.mp h2 y hm
      exact (dL_false.mp (by simpa using this)).symm
theorem wr0_canon (h1 : short p.l = short p.r) : Canon (wr0 p) := ⟨(short_spec ok.l).1, (short_spec ok.r).1, .inl ⟨h1, rfl, rfl⟩⟩
theorem odd_ne (h : ¬ (short p.l = short p.r ∧ odd_ p = [])) : odd_ p ≠ [] ∧ late_ p ≠ [] := by
  have pp := pl_pos ok
  have k1 := (short_spec ok.l).1
  have k2 := (short_spec ok.r).1
  by_cases h1 : short p.l = short p.r
  · have h2 : odd_ p ≠ [] := fun e => h ⟨h1, e⟩
    refine ⟨h2, ?_⟩
    unfold late_
    rw [← h1]
    exact h2
  · have hn : (0 : Int) < ((short p.l).length * (short p.r).length : Nat) := by omega
    have q1 : Per (at_ (short p.l)) ((short p.l).length * (short p.r).length : Nat) := by
      rw [Nat.mul_comm, Int.natCast_mul]
      exact at_per.times _
    have q2 : Per (at_ (short p.r)) ((short p.l).length * (short p.r).length : Nat) := by
      rw [Int.natCast_mul]
      exact at_per.times _
    have ex : ∀ a : Int, ∃ w, a ≤ w ∧ w < a + ((short p.l).length * (short p.r).length : Nat) ∧ at_ (short p.l) w ≠ at_ (short p.r) w := fun a => by
      apply Classical.byContradiction
      intro hc
      apply h1
      apply short_inj k1 k2
      refine Per.window hn q1 q2 a fun w h3 h4 => ?_
      apply Classical.byContradiction
      intro h5
      exact hc ⟨w, h3, h4, h5⟩
    constructor
    · obtain ⟨w, h3, h4, h5⟩ := ex (p.s + p.m.length)
      apply List.ne_nil_of_mem (a := w)
      refine List.mem_filter.mpr ⟨rngZ_mem.mpr (by unfold lo_ hi_; omega), dL_true.mpr ?_⟩
      rw [Pat.mem_r h3, ← sr_ ok]
      exact Ne.symm h5
    · obtain ⟨w, h3, h4, h5⟩ := ex (p.s - ((short p.l).length * (short p.r).length : Nat))
      apply List.ne_nil_of_mem (a := w)
      refine List.mem_filter.mpr ⟨rngZ_mem.mpr (by unfold lo_ hi_; omega), dL_true.mpr ?_⟩
      rw [Pat.mem_l (by omega), ← sl_ ok]
      exact h5
theorem odd_isA {a : Int} {xs : List Int} (h : odd_ p = a :: xs) : IsA p.mem (short p.l) a ∧ p.s ≤ a := by
  obtain ⟨h1, h2, h3⟩ := filter_head (rngZ_lt _ _) h
  have pp := pl_pos ok
  refine ⟨⟨dL_true.mp h2, fun w hw => ?_⟩, ?_⟩
  · by_cases c : lo_ p ≤ w
    · refine dL_false.mp (h3 w (rngZ_mem.mpr ⟨c, ?_⟩) hw)
      have := (rngZ_mem.mp h1).2
      omega
    · rw [sl_ ok, Pat.mem_l (by unfold lo_ at c; omega)]
  · apply Classical.byContradiction
    intro hc
    refine dL_true.mp h2 ?_
    rw [sl_ ok, Pat.mem_l (by omega)]
theorem late_isB {b : Int} {xs : List Int} (h : late_ p = xs ++ [b]) : IsB p.mem (short p.r) (b + 1) ∧ b < p.s + p.m.length := by
  obtain ⟨h1, h2, h3⟩ := filter_last (rngZ_lt _ _) h
  have pp := pl_pos ok
  refine ⟨⟨?_, fun w hw => ?_⟩, ?_⟩
  · rw [show b + 1 - 1 = b by omega]
    exact dL_true.mp h2
  · by_cases c : w < hi_ p
    · refine dL_false.mp (h3 w (rngZ_mem.mpr ⟨?_, c⟩) (by omega))
      have := (rngZ_mem.mp h1).1
      omega
    · rw [sr_ ok, Pat.mem_r (by unfold hi_ at c; omega)]
  · apply Classical.byContradiction
    intro hc
    refine dL_true.mp h2 ?_
    rw [sr_ ok, Pat.mem_r (by omega)]
theorem wr1_mem {a b : Int} (ha : IsA p.mem (short p.l) a) (hb : IsB p.mem (short p.r) b) (h : b ≤ a) : (wr1 p b).mem = p.mem := by
  funext y
  by_cases c : y < b
  · rw [Pat.mem_l (show y < (wr1 p b).s from c)]
    exact (ha.2 y (by omega)).symm
  · rw [Pat.mem_r (show (wr1 p b).s + ((wr1 p b).m.length : Int) ≤ y by show b + ((0 : Nat) : Int) ≤ y; omega)]
    exact (hb.2 y (by omega)).symm
theorem wr2_mem {a b : Int} (ha : IsA p.mem (short p.l) a) (hb : IsB p.mem (short p.r) b) (h : a < b) : (wr2 p a b).mem = p.mem := by
  funext y
  have hl : (wr2 p a b).m.length = (b - a).toNat := by show ((rngZ a b).map p.mem).length = _; rw [List.length_map, rngZ_len]
  have hs : (wr2 p a b).s = a := rfl
  by_cases c : y < a
  · rw [Pat.mem_l (by omega)]
    exact (ha.2 y (by omega)).symm
  · by_cases c2 : y < b
    · rw [Pat.mem_m (by omega) (by omega), hs]
      show ((rngZ a b).map p.mem).getD _ false = _
      rw [List.getD_eq_getElem?_getD, List.getElem?_map, rngZ_get (by omega)]
      show p.mem _ = _
      congr 1
      omega
    · rw [Pat.mem_r (by omega)]
      exact (hb.2 y (by omega)).symm
theorem wr1_canon {a b : Int} (ha : IsA p.mem (short p.l) a) (hb : IsB p.mem (short p.r) b) (h : b ≤ a) : Canon (wr1 p b) :=
  ⟨(short_spec ok.l).1, (short_spec ok.r).1, .inr ⟨a, b, by rw [wr1_mem ok ha hb h]; exact ha, by rw [wr1_mem ok ha hb h]; exact hb, .inl ⟨h, rfl, rfl⟩⟩⟩
theorem wr2_canon {a b : Int} (ha : IsA p.mem (short p.l) a) (hb : IsB p.mem (short p.r) b) (h : a < b) : Canon (wr2 p a b) := by
  have hl : (wr2 p a b).m.length = (b - a).toNat := by show ((rngZ a b).map p.mem).length = _; rw [List.length_map, rngZ_len]
  exact ⟨(short_spec ok.l).1, (short_spec ok.r).1, .inr ⟨a, b, by rw [wr2_mem ok ha hb h]; exact ha, by rw [wr2_mem ok ha hb h]; exact hb, .inr ⟨h, rfl, by rw [hl]; show a + _ = b; omega⟩⟩⟩
end
/-- a set that repeats with rows of at most six far below and far above -/
def Bd (f : Int → Bool) : Prop := ∃ l r : List Bool, l ≠ [] ∧ r ≠ [] ∧ l.length ≤ 6 ∧ r.length ≤ 6 ∧ (∀ y, y ≤ -50 → f y = at_ l y) ∧ ∀ y, 50 ≤ y → f y = at_ r y
theorem Bd.of {p : Pat} (ok : p.Ok) (h1 : p.l.length ≤ 6) (h2 : p.r.length ≤ 6) (h3 : -50 < p.s) (h4 : p.s + p.m.length ≤ 50) : Bd p.mem :=
  ⟨p.l, p.r, ok.l, ok.r, h1, h2, fun y hy => Pat.mem_l (by omega), fun y hy => Pat.mem_r (by omega)⟩
theorem Bd.neg {f : Int → Bool} (h : Bd f) : Bd fun y => f (-y) := by
  obtain ⟨l, r, h1, h2, h3, h4, h5, h6⟩ := h
  have p1 := pos_len h1
  have p2 := pos_len h2
  refine ⟨(List.range r.length).map fun (k : Nat) => at_ r (-(k : Int)), (List.range l.length).map fun (k : Nat) => at_ l (-(k : Int)), ?_, ?_, ?_, ?_, fun y hy => ?_, fun y hy => ?_⟩
  · exact List.ne_nil_of_length_pos (by rw [List.length_map, List.length_range]; exact p2)
  · exact List.ne_nil_of_length_pos (by rw [List.length_map, List.length_range]; exact p1)
  · rw [List.length_map, List.length_range]; exact h4
  · rw [List.length_map, List.length_range]; exact h3
  · rw [at_map (g := fun y => at_ r (-y)) p2 (neg_per at_per)]
    exact h6 (-y) (by omega)
  · rw [at_map (g := fun y => at_ l (-y)) p1 (neg_per at_per)]
    exact h5 (-y) (by omega)
theorem Bd.right {f : Int → Bool} (h : Bd f) {a : Int} (ha : 50 ≤ a) (hw : ∀ w, a ≤ w → w < a + 6 → f w = false) (w : Int) (hw2 : 50 ≤ w) : f w = false := by
  obtain ⟨l, r, h1, h2, h3, h4, h5, h6⟩ := h
  rw [h6 w hw2]
  exact at_none h2 a (fun v h7 h8 => by rw [← h6 v (by omega)]; exact hw v h7 (by omega)) w
theorem Bd.left {f : Int → Bool} (h : Bd f) {a : Int} (ha : a ≤ -56) (hw : ∀ w, a ≤ w → w < a + 6 → f w = false) (w : Int) (hw2 : w ≤ -50) : f w = false := by
  obtain ⟨l, r, h1, h2, h3, h4, h5, h6⟩ := h
  rw [h5 w hw2]
  exact at_none h1 a (fun v h7 h8 => by rw [← h5 v (by omega)]; exact hw v h7 (by omega)) w
theorem up_none1 {f : Int → Bool} (b : Bd f) {y : Int} (hy : -60 ≤ y) (h : ∀ w, y ≤ w → w < y + 120 → f w = false) : Next f y none := fun w hw => by
  by_cases c : w < y + 120
  · exact h w hw c
  · exact b.right (a := if 50 ≤ y then y else 50) (by split <;> omega) (fun v h1 h2 => h v (by split at h1 <;> omega) (by split at h2 <;> omega)) w (by omega)
theorem up_2 {f : Int → Bool} (b : Bd f) {y : Int} (hy : y < -60) (h : ∀ w, y ≤ w → w < y + 120 → f w = false) (w : Int) (h2 : w < -50) : f w = false :=
  b.left (a := y) (by omega) (fun v h1 h2 => h v h1 (by omega)) w (by omega)
theorem up_none2 {f : Int → Bool} (b : Bd f) {y : Int} (hy : y < -60) (h : ∀ w, y ≤ w → w < y + 120 → f w = false) (h2 : ∀ w, -60 ≤ w → w < 60 → f w = false) : Next f y none := fun w hw => by
  by_cases c : w < -50
  · exact up_2 b hy h w c
  · by_cases c2 : w < 60
    · exact h2 w (by omega) c2
    · exact b.right (a := 50) (by omega) (fun v h1 h3 => h2 v (by omega) (by omega)) w (by omega)
/-! ### counting -/
def cntN (f : Int → Bool) (a : Int) : Nat → Nat
  | 0 => 0
  | n + 1 => cntN f a n + if f (a + (n : Int)) then 1 else 0
def cnt (f : Int → Bool) (a b : Int) : Nat := cntN f a (b - a).toNat
theorem cntN_add (f : Int → Bool) (a : Int) (m : Nat) : ∀ n : Nat, cntN f a (m + n) = cntN f a m + cntN f (a + (m : Int)) n
  | 0 => rfl
  | n + 1 => by
    show cntN f a (m + n) + (if f (a + ((m + n : Nat) : Int)) then 1 else 0) = _
    rw [cntN_add f a m n]
    show _ = cntN f a m + (cntN f (a + (m : Int)) n + _)
    rw [show a + ((m + n : Nat) : Int) = a + (m : Int) + (n : Int) by omega]
    omega
theorem cnt_split (f : Int → Bool) {a b c : Int} (h1 : a ≤ b) (h2 : b ≤ c) : cnt f a c = cnt f a b + cnt f b c := by
  unfold cnt
  rw [show (c - a).toNat = (b - a).toNat + (c - b).toNat by omega, cntN_add, show a + ((b - a).toNat : Int) = b by omega]
theorem cnt_none (f : Int → Bool) {a b : Int} (h : b ≤ a) : cnt f a b = 0 := by
  unfold cnt
  rw [show (b - a).toNat = 0 by omega]
  rfl
theorem cntN_ext {f g : Int → Bool} {a : Int} : ∀ n : Nat, (∀ w, a ≤ w → w < a + n → f w = g w) → cntN f a n = cntN g a n
  | 0, _ => rfl
  | n + 1, h => by
    show cntN f a n + _ = cntN g a n + _
    rw [cntN_ext n fun w h1 h2 => h w h1 (by omega), h (a + n) (by omega) (by omega)]
theorem cnt_ext {f g : Int → Bool} {a b : Int} (h : ∀ w, a ≤ w → w < b → f w = g w) : cnt f a b = cnt g a b := by
  unfold cnt
  by_cases c : a ≤ b
  · exact cntN_ext _ fun w h1 h2 => h w h1 (by omega)
  · rw [show (b - a).toNat = 0 by omega]
    rfl
theorem cntN_step {f : Int → Bool} {p : Nat} (hp : Per f p) (a : Int) : cntN f a p = cntN f (a + 1) p := by
  have e1 := cntN_add f a 1 p
  have e2 := cntN_add f a p 1
  rw [Nat.add_comm] at e2
  rw [e1] at e2
  have e3 : cntN f (a + (p : Int)) 1 = cntN f a 1 := by
    show (0 + if f (a + (p : Int) + ((0 : Nat) : Int)) then 1 else 0) = 0 + if f (a + ((0 : Nat) : Int)) then 1 else 0
    rw [show a + (p : Int) + ((0 : Nat) : Int) = a + p by omega, show a + ((0 : Nat) : Int) = a by omega, hp a]
  rw [e3] at e2
  have e4 : a + ((1 : Nat) : Int) = a + 1 := rfl
  rw [e4] at e2
  omega
theorem cntN_turn {f : Int → Bool} {p : Nat} (hp : Per f p) (a : Int) : cntN f a p = cntN f 0 p := by
  have up : ∀ (n : Nat) (b : Int), cntN f (b + (n : Int)) p = cntN f b p := by
    intro n
    induction n with
    | zero => intro b; rw [show b + ((0 : Nat) : Int) = b by omega]
    | succ n ih => intro b; rw [show b + ((n + 1 : Nat) : Int) = b + (n : Int) + 1 by omega, ← cntN_step hp, ih]
  by_cases h : 0 ≤ a
  · have := up a.toNat 0
    rw [show (0 : Int) + (a.toNat : Int) = a by omega] at this
    exact this
  · have := up (-a).toNat a
    rw [show a + ((-a).toNat : Int) = 0 by omega] at this
    exact this.symm
theorem cntN_times {f : Int → Bool} {p : Nat} (hp : Per f p) (a : Int) : ∀ t : Nat, cntN f a (t * p) = t * cntN f 0 p
  | 0 => by rw [Nat.zero_mul, Nat.zero_mul]; rfl
  | t + 1 => by rw [Nat.succ_mul, cntN_add, cntN_times hp a t, cntN_turn hp (a + _), Nat.succ_mul]
theorem cntN_per {f : Int → Bool} {p : Nat} (hp : Per f p) (t : Nat) (a : Int) : ∀ n, cntN f (a + ((t * p : Nat) : Int)) n = cntN f a n
  | 0 => rfl
  | n + 1 => by
    show cntN _ _ n + _ = cntN _ _ n + _
    rw [cntN_per hp t a n]
    have := hp.mul t (a + n)
    rw [show a + ((t * p : Nat) : Int) + (n : Int) = a + n + (t : Int) * (p : Int) by rw [Int.natCast_mul]; omega, this]
/-- whole turns and a rest -/
theorem cnt_div {f : Int → Bool} {p : Nat} (hp : Per f p) (h0 : 0 < p) (a b : Int) (h : a ≤ b) : cnt f a b = ((b - a) / p).toNat * cntN f 0 p + cntN f a ((b - a) % p).toNat := by
  unfold cnt
  have n1 := Int.emod_nonneg (b - a) (show (p : Int) ≠ 0 by omega)
  have n2 := Int.ediv_nonneg (show 0 ≤ b - a by omega) (show (0 : Int) ≤ p by omega)
  have e : (b - a).toNat = ((b - a) / p).toNat * p + ((b - a) % p).toNat := by
    have := Int.emod_add_mul_ediv (b - a) p
    have e2 : (((b - a) / p).toNat * p : Nat) = (p : Int) * ((b - a) / p) := by
      rw [Int.natCast_mul, Int.toNat_of_nonneg n2, Int.mul_comm]
    omega
  rw [e, cntN_add, cntN_times hp, cntN_per hp]
theorem cnt_filter (f : Int → Bool) (a b : Int) : ((rngZ a b).filter f).length = cnt f a b := by
  unfold rngZ cnt
  generalize (b - a).toNat = n
  induction n with
  | zero => rfl
  | succ n ih =>
    rw [List.range_succ, List.map_append, List.filter_append, List.length_append, ih]
    show _ + (List.filter f [a + (n : Int)]).length = cntN f a n + _
    by_cases c : f (a + (n : Int)) <;> simp [List.filter_cons, c]
/-- the numbers of a pattern -/
theorem cnt_pat (p : Pat) (low high : Int) : cnt p.mem low high =
    cnt (at_ p.l) low (if high < p.s then high else p.s) + cnt p.mem (if low < p.s then p.s else low) (if high < p.s + p.m.length then high else p.s + p.m.length) +
      cnt (at_ p.r) (if low < p.s + p.m.length then p.s + p.m.length else low) high := by
  have el : ∀ a b, b ≤ p.s → cnt (at_ p.l) a b = cnt p.mem a b := fun a b h => cnt_ext fun w h1 h2 => (Pat.mem_l (by omega)).symm
  have er : ∀ a b, p.s + p.m.length ≤ a → cnt (at_ p.r) a b = cnt p.mem a b := fun a b h => cnt_ext fun w h1 h2 => (Pat.mem_r (by omega)).symm
  rw [el _ _ (by split <;> omega), er _ _ (by split <;> omega)]
  by_cases c : high ≤ low
  · rw [cnt_none _ c, cnt_none _ (by split <;> omega), cnt_none _ (by split <;> split <;> omega), cnt_none _ (by split <;> omega)]
  · by_cases c1 : high < p.s
    · rw [if_pos c1, cnt_none _ (show (if high < p.s + (p.m.length : Int) then high else p.s + (p.m.length : Int)) ≤ (if low < p.s then p.s else low) by split <;> split <;> omega), cnt_none _ (show high ≤ (if low < p.s + (p.m.length : Int) then p.s + (p.m.length : Int) else low) by split <;> omega)]
      rfl
    · rw [if_neg c1]
      by_cases c2 : high < p.s + p.m.length
      · rw [if_pos c2, cnt_none _ (show high ≤ (if low < p.s + (p.m.length : Int) then p.s + (p.m.length : Int) else low) by split <;> omega)]
        by_cases c3 : low < p.s
        · rw [if_pos c3, cnt_split _ (show low ≤ p.s by omega) (show p.s ≤ high by omega)]
          rfl
        · rw [if_neg c3, cnt_none _ (show p.s ≤ low by omega)]
          omega
      · rw [if_neg c2]
        by_cases c3 : low < p.s
        · rw [if_pos c3, if_pos (show low < p.s + (p.m.length : Int) by omega), cnt_split _ (show low ≤ p.s by omega) (show p.s ≤ high by omega), cnt_split _ (show p.s ≤ p.s + (p.m.length : Int) by omega) (show p.s + (p.m.length : Int) ≤ high by omega)]
          omega
        · rw [if_neg c3, cnt_none _ (show p.s ≤ low by omega)]
          by_cases c4 : low < p.s + p.m.length
          · rw [if_pos c4, cnt_split _ (show low ≤ p.s + (p.m.length : Int) by omega) (show p.s + (p.m.length : Int) ≤ high by omega)]
            omega
          · rw [if_neg c4, cnt_none _ (show p.s + (p.m.length : Int) ≤ low by omega)]
            omega
end PM
namespace LC
open PySem PySem.Spec PyProof.Rows L2 Fx
noncomputable def g__law_draw : FS := seqS (ifS (testF (binF ltD (ixF (varO 0) (constF (.int 0))) (varF 1))) (seqS (asgF 3 (ixF (varO 0) (constF (.int 1))))
      (seqS (setF 0 (constF (.int 1)) (binF addD (varF 3) (constF (.int 1))))
      (seqS (asgF 4 (constF (.int 0)))
      (seqS (ifS (testF (binF ltD (varF 3) (lenF (ofF (ixF (varO 0) (constF (.int 2))))))) (asgF 4 (ixF (ofF (ixF (varO 0) (constF (.int 2)))) (varF 3))) (nilS))
      (ifS (testF (binF geD (varF 4) (binF powD (constF (.int 10)) (constF (.int 18))))) (setF 0 (constF (.int 0)) (varF 4)) (seqS (setF 0 (constF (.int 3)) (binF modD (blF intD (consF (binF mulD (binF addD (binF addD (binF addD (ixF (varO 0) (constF (.int 3))) (binF modD (blF intD (consF (varF 4) (nilF))) (constF (.int 2147483629)))) (varF 3)) (constF (.int 1))) (constF (.int 48271))) (nilF))) (constF (.int 2147483647))))
      (seqS (asgF 5 (binF modD (blF intD (consF (binF addD (binF mulD (ixF (varO 0) (constF (.int 3))) (constF (.int 69621))) (constF (.int 11))) (nilF))) (constF (.int 2147483629))))
      (setF 0 (constF (.int 0)) (binF addD (binF mulD (varF 5) (constF (.int 2147483647))) (binF modD (blF intD (consF (binF addD (binF mulD (varF 5) (constF (.int 30011))) (ixF (varO 0) (constF (.int 3)))) (nilF))) (constF (.int 2147483587)))))))))))) (nilS))
      (seqS (asgF 2 (binF modD (blF intD (consF (ixF (varO 0) (constF (.int 0))) (nilF))) (varF 1)))
      (seqS (setF 0 (constF (.int 0)) (binF divD (ixF (varO 0) (constF (.int 0))) (varF 1)))
      (retF (varO 2))))
@[irreducible] noncomputable def h__law_draw : HF := runB g__law_draw 6
noncomputable def g_is_in : FS := seqS (unpF (.tp [2, 3, 4, 5]) (varF 0))
      (seqS (ifS (testF (binF ltD (varF 1) (varF 3))) (retF (ofF (ixF (varO 2) (binF modD (varF 1) (lenF (varO 2)))))) (nilS))
      (seqS (ifS (testF (binF ltD (varF 1) (binF addD (varF 3) (lenF (varO 4))))) (retF (ofF (ixF (varO 4) (binF subD (varF 1) (varF 3))))) (nilS))
      (retF (ofF (ixF (varO 5) (binF modD (varF 1) (lenF (varO 5))))))))
@[irreducible] noncomputable def h_is_in : HF := runB g_is_in 6
noncomputable def g__law_short : FS := seqS (forS (.nm 1) (rng2 (consF (constF (.int 1)) (consF (binF addD (lenF (varO 0)) (constF (.int 1))) (nilF)))) (ifS (andT (testF (binF eqD (binF modD (blF intD (consF (lenF (varO 0)) (nilF))) (varF 1)) (constF (.int 0)))) (testF (binF eqD (varF 0) (binF mulD (slF (varO 0) (bNo) (bSo (varF 1))) (binF divD (lenF (varO 0)) (varF 1)))))) (retF (ofF (slF (varO 0) (bNo) (bSo (varF 1))))) (nilS)))
      (retF (varO 0))
@[irreducible] noncomputable def h__law_short : HF := runB g__law_short 2
noncomputable def g__law_in : FS := seqS (unpF (.tp [2, 3, 4, 5]) (varF 0))
      (seqS (ifS (testF (binF ltD (varF 1) (varF 3))) (retF (ofF (ixF (varO 2) (binF modD (blF intD (consF (varF 1) (nilF))) (lenF (varO 2)))))) (nilS))
      (seqS (ifS (testF (binF ltD (varF 1) (binF addD (varF 3) (lenF (varO 4))))) (retF (ofF (ixF (varO 4) (binF subD (varF 1) (varF 3))))) (nilS))
      (retF (ofF (ixF (varO 5) (binF modD (blF intD (consF (varF 1) (nilF))) (lenF (varO 5))))))))
@[irreducible] noncomputable def h__law_in : HF := runB g__law_in 6
noncomputable def g__law_written : FS := seqS (asgF 1 (callF h__law_short (consF (ixF (varO 0) (constF (.int 0))) (nilF))))
      (seqS (asgF 2 (callF h__law_short (consF (ixF (varO 0) (constF (.int 3))) (nilF))))
      (seqS (asgF 3 (binF mulD (lenF (varO 1)) (lenF (varO 2))))
      (seqS (asgF 4 (frzF (lrgF (binF subD (binF subD (ixF (varO 0) (constF (.int 1))) (binF mulD (constF (.int 2)) (varF 3))) (constF (.int 2))) (binF addD (binF addD (binF addD (ixF (varO 0) (constF (.int 1))) (lenF (ofF (ixF (varO 0) (constF (.int 2)))))) (binF mulD (constF (.int 2)) (varF 3))) (constF (.int 2))))))
      (seqS (asgF 5 (frzF (compF (.nm 9) (itU (varF 4)) (testF (binF neD (callF h__law_in (consF (varF 0) (consF (varF 9) (nilF)))) (ixF (varO 1) (binF modD (blF intD (consF (varF 9) (nilF))) (lenF (varO 1)))))) (varF 9) [9])))
      (seqS (asgF 6 (frzF (compF (.nm 9) (itU (varF 4)) (testF (binF neD (callF h__law_in (consF (varF 0) (consF (varF 9) (nilF)))) (ixF (varO 2) (binF modD (blF intD (consF (varF 9) (nilF))) (lenF (varO 2)))))) (varF 9) [9])))
      (seqS (ifS (andT (testF (binF eqD (varF 1) (varF 2))) (testF (binF eqD (lenF (varO 5)) (constF (.int 0))))) (retF (ofF (tupF (consF (varF 1) (consF (constF (.int 0)) (consF (tupF (nilF)) (consF (varF 2) (nilF)))))))) (nilS))
      (seqS (asgF 7 (ixF (varO 5) (constF (.int 0))))
      (seqS (asgF 8 (binF addD (ixF (varO 6) (negF (constF (.int 1)))) (constF (.int 1))))
      (seqS (ifS (testF (binF leD (varF 8) (varF 7))) (retF (ofF (tupF (consF (varF 1) (consF (varF 8) (consF (tupF (nilF)) (consF (varF 2) (nilF)))))))) (nilS))
      (retF (ofF (tupF (consF (varF 1) (consF (varF 7) (consF (tofF (ofF (frzF (compF (.nm 9) (rng2 (consF (varF 7) (consF (varF 8) (nilF)))) (yesT) (callF h__law_in (consF (varF 0) (consF (varF 9) (nilF)))) [9])))) (consF (varF 2) (nilF)))))))))))))))))
@[irreducible] noncomputable def h__law_written : HF := runB g__law_written 10
noncomputable def g__law_row : FS := retF (ofF (tofF (ofF (frzF (compF (.nm 3) (rng1 (consF (binF addD (varF 1) (callF h__law_draw (consF (varF 0) (consF (binF addD (binF subD (varF 2) (varF 1)) (constF (.int 1))) (nilF))))) (nilF))) (yesT) (binF eqD (callF h__law_draw (consF (varF 0) (consF (constF (.int 2)) (nilF)))) (constF (.int 1))) [3])))))
@[irreducible] noncomputable def h__law_row : HF := runB g__law_row 4
noncomputable def g__law_pattern : FS := retF (ofF (callF h__law_written (consF (tupF (consF (callF h__law_row (consF (varF 0) (consF (constF (.int 1)) (consF (constF (.int 6)) (nilF))))) (consF (binF subD (callF h__law_draw (consF (varF 0) (consF (constF (.int 21)) (nilF)))) (constF (.int 10))) (consF (callF h__law_row (consF (varF 0) (consF (constF (.int 0)) (consF (constF (.int 6)) (nilF))))) (consF (callF h__law_row (consF (varF 0) (consF (constF (.int 1)) (consF (constF (.int 6)) (nilF))))) (nilF)))))) (nilF))))
@[irreducible] noncomputable def h__law_pattern : HF := runB g__law_pattern 1

end LC
namespace LC
open Fx PM
local macro_rules | `(tactic| walk_at "fx") => `(tactic| simp only [runB, seqS, nilS, asgF, ownF, retF, ifS, testF, binF, varF, varO, constF, ofF, ixF, ixD, seqD, lenF, lenD, unpF, tgD, setN, bindF_some, bindF_none, blF, consF, nilF, intD, iiF_int, ctt_eq, addD_int,
  List.map_cons, List.map_nil, List.cons_append, List.nil_append, List.length_cons, List.length_nil, List.length_map, List.replicate_succ, List.replicate_zero, List.getElem?_cons_zero, List.getElem?_cons_succ, List.set_cons_zero, List.set_cons_succ, Option.map_some, if_true, Nat.reduceAdd, Nat.reduceSub,
  decide_eq_true_eq, if_pos, if_neg, decide_true, decide_false, Bool.false_eq_true, if_false, ne_eq, not_false_eq_true, *])
def eB (bs : List Bool) : D := .tup (bs.map D.bl)
def eP (p : Pat) : D := .tup [eB p.l, .int p.s, eB p.m, eB p.r]
theorem cMod_nat {y : Int} {n : Nat} (h : 0 < n) : cMod y (n : Int) = true := by
  exact dc_of (by omega)
theorem fmod_nat (y : Int) (n : Nat) : y.fmod (n : Int) = y % (n : Int) := Int.fmod_eq_emod_of_nonneg y (by omega)
theorem atI_nn {α : Type} {xs : List α} {i : Int} (h0 : 0 ≤ i) (h1 : i < xs.length) : L2.atI xs i = xs[i.toNat]? := by
  unfold L2.atI L2.ixN
  rw [if_pos h0, if_pos h1]
  rfl
theorem atI_bl {l : List Bool} {i : Int} (h0 : 0 ≤ i) (h1 : i < l.length) : L2.atI (l.map D.bl) i = some (.bl (l.getD i.toNat false)) := by
  rw [atI_nn h0 (by rw [List.length_map]; exact h1), List.getElem?_map]
  have h2 : i.toNat < l.length := by omega
  rw [List.getElem?_eq_getElem h2, List.getD_eq_getElem?_getD, List.getElem?_eq_getElem h2]
  rfl
theorem atI_at {l : List Bool} (h : l ≠ []) (y : Int) : L2.atI (l.map D.bl) (y.fmod (l.length : Int)) = some (.bl (at_ l y)) := by
  have hp := pos_len h
  rw [fmod_nat]
  exact atI_bl (Int.emod_nonneg _ (by omega)) (Int.emod_lt_of_pos _ (by omega))
theorem in_run (p : Pat) (hl : p.l ≠ []) (hr : p.r ≠ []) (y : Int) (T : Tm) : h__law_in [eP p, .int y] T = some (.bl (p.mem y), T) := by
  unfold h__law_in g__law_in eP eB Pat.mem
  have c1 := cMod_nat (y := y) (pos_len hl)
  have c2 := cMod_nat (y := y) (pos_len hr)
  have a1 := atI_at hl y
  have a2 := atI_at hr y
  by_cases h1 : y < p.s
  · walk_at "fx"
  · by_cases h2 : y < p.s + p.m.length
    · have a3 := atI_bl (l := p.m) (i := y - p.s) (by omega) (by omega)
      walk_at "fx"
    · walk_at "fx"
end LC
namespace LC
open Fx PM
local macro_rules | `(tactic| walk_at "fx") => `(tactic| simp only [runB, seqS, nilS, asgF, ownF, retF, ifS, testF, binF, varF, varO, constF, ofF, ixF, ixD, seqD, lenF, lenD, unpF, tgD, setN, bindF_some, bindF_none, blF, consF, nilF, intD, iiF_int, ctt_eq, addD_int, setF, callF, tofF,
  List.map_cons, List.map_nil, List.cons_append, List.nil_append, List.length_cons, List.length_nil, List.length_map, List.replicate_succ, List.replicate_zero, List.getElem?_cons_zero, List.getElem?_cons_succ, List.set_cons_zero, List.set_cons_succ, Option.map_some, if_true, Nat.reduceAdd, Nat.reduceSub,
  decide_eq_true_eq, if_pos, if_neg, decide_true, decide_false, Bool.false_eq_true, if_false, ne_eq, not_false_eq_true, *])
/-- the law's state -/
def eS (ns : List Int) (a b c : Int) : Tm := [.lst [.int a, .int b, .lst (ns.map D.int), .int c]]
theorem ix0 (ds : List D) (x : D) : L2.atI (x :: ds) 0 = some x := by rw [atI_nn (by decide) (by simp only [List.length_cons]; omega)]; rfl
theorem ix1 (ds : List D) (x y : D) : L2.atI (x :: y :: ds) 1 = some y := by rw [atI_nn (by decide) (by simp only [List.length_cons]; omega)]; rfl
theorem ix2 (ds : List D) (x y z : D) : L2.atI (x :: y :: z :: ds) 2 = some z := by rw [atI_nn (by decide) (by simp only [List.length_cons]; omega)]; rfl
theorem ix3 (ds : List D) (x y z u : D) : L2.atI (x :: y :: z :: u :: ds) 3 = some u := by rw [atI_nn (by decide) (by simp only [List.length_cons]; omega)]; rfl
theorem n4_0 : L2.ixN 4 0 = some 0 := by decide
theorem n4_1 : L2.ixN 4 1 = some 1 := by decide
theorem n4_3 : L2.ixN 4 3 = some 3 := by decide
theorem cm {i j : Int} (h : -18446744073709551616 < j ∧ j < 18446744073709551616) : cMul i j = true := dc_of (.inr h)
theorem cmd {i j : Int} (h : j ≠ 0) : cMod i j = true := dc_of h
theorem cdv {i j : Int} (h : j ≠ 0) (h2 : j.natAbs < 1073741824) : cDiv i j = true := dc_of ⟨h, h2⟩
theorem cpw : cPow 10 18 = true := dc_of (by omega)
theorem fmod_lt (x : Int) {n : Int} (h : 0 < n) : 0 ≤ x.fmod n ∧ x.fmod n < n := by
  rw [Int.fmod_eq_emod_of_nonneg x (by omega)]
  exact ⟨Int.emod_nonneg _ (by omega), Int.emod_lt_of_pos _ h⟩
theorem atI_ints {ns : List Int} {b : Int} (h0 : 0 ≤ b) (h1 : b < ns.length) : ∃ v, L2.atI (ns.map D.int) b = some (.int v) := by
  rw [atI_nn h0 (by rw [List.length_map]; exact h1), List.getElem?_map]
  have h2 : b.toNat < ns.length := by omega
  rw [List.getElem?_eq_getElem h2]
  exact ⟨_, rfl⟩
set_option maxHeartbeats 4000000 in
theorem draw_run (ns : List Int) (a b c n : Int) (hb : 0 ≤ b) (hn : 0 < n) (hn2 : n < 1073741824) :
    ∃ d a' b' c', 0 ≤ d ∧ d < n ∧ 0 ≤ b' ∧ h__law_draw [.ob 0, .int n] (eS ns a b c) = some (.int d, eS ns a' b' c') := by
  unfold h__law_draw g__law_draw eS
  have d1 : ∀ x, cMod x n = true := fun x => cmd (by omega)
  have d2 : ∀ x, cDiv x n = true := fun x => cdv (by omega) (by omega)
  have m1 : ∀ x, cMod x 2147483629 = true := fun x => cmd (by decide)
  have m2 : ∀ x, cMod x 2147483647 = true := fun x => cmd (by decide)
  have m3 : ∀ x, cMod x 2147483587 = true := fun x => cmd (by decide)
  have p1 : ∀ x, cMul x 48271 = true := fun x => cm (by omega)
  have p2 : ∀ x, cMul x 69621 = true := fun x => cm (by omega)
  have p3 : ∀ x, cMul x 2147483647 = true := fun x => cm (by omega)
  have p4 : ∀ x, cMul x 30011 = true := fun x => cm (by omega)
  have q0 := @ix0
  have q1 := @ix1
  have q2 := @ix2
  have q3 := @ix3
  have e0 := n4_0
  have e1 := n4_1
  have e3 := n4_3
  have pw := cpw
  have mm : ∀ i j, mulD (.int i) (.int j) = if cMul i j then some (.int (i * j)) else none := fun _ _ => rfl
  by_cases h1 : a < n
  · by_cases h2 : b < ns.length
    · obtain ⟨v, hv⟩ := atI_ints (ns := ns) hb h2
      by_cases h3 : (10 : Int) ^ (18 : Int).toNat ≤ v
      · walk_at "fx"
        exact ⟨_, _, _, _, (fmod_lt v hn).1, (fmod_lt v hn).2, by omega, rfl⟩
      · walk_at "fx"
        exact ⟨_, _, _, _, (fmod_lt _ hn).1, (fmod_lt _ hn).2, by omega, rfl⟩
    · have h3 : ¬ (10 : Int) ^ (18 : Int).toNat ≤ 0 := by decide
      walk_at "fx"
      exact ⟨_, _, _, _, (fmod_lt _ hn).1, (fmod_lt _ hn).2, by omega, rfl⟩
  · walk_at "fx"
    exact ⟨_, _, _, _, (fmod_lt a hn).1, (fmod_lt a hn).2, hb, rfl⟩
end LC
namespace LC
open Fx PM
local macro_rules | `(tactic| walk_at "fx") => `(tactic| simp only [runB, seqS, nilS, asgF, ownF, retF, ifS, testF, binF, varF, varO, constF, ofF, ixF, ixD, seqD, lenF, lenD, unpF, tgD, setN, bindF_some, bindF_none, blF, consF, nilF, intD, iiF_int, ctt_eq, addD_int, setF, callF, tofF, frzF, tupF, negF, andT, slF, slD, bNo, bSo,
  List.map_cons, List.map_nil, List.cons_append, List.nil_append, List.length_cons, List.length_nil, List.length_map, List.replicate_succ, List.replicate_zero, List.getElem?_cons_zero, List.getElem?_cons_succ, List.set_cons_zero, List.set_cons_succ, Option.map_some, if_true, Nat.reduceAdd, Nat.reduceSub,
  decide_eq_true_eq, if_pos, if_neg, decide_true, decide_false, Bool.false_eq_true, if_false, ne_eq, not_false_eq_true, *])
/-! ### comprehensions and searches -/
theorem compL_all {t : Tgt} {e : FE} {ρw : Rho} {Pt : Fx.Tm → Prop} {R : D → Prop} : ∀ (ds : List D), (∀ d ∈ ds, ∀ T, Pt T → ∃ ρ1 x T', tgD t d ρw = some ρ1 ∧ e ρ1 T = some (x, T') ∧ R x ∧ Pt T') →
    ∀ (acc : List D) (T : Fx.Tm), Pt T → acc.length + ds.length ≤ PySem.sizeLine → ∃ xs T', compL t yesT e ρw ds acc T = some (acc ++ xs, T') ∧ xs.length = ds.length ∧ (∀ x ∈ xs, R x) ∧ Pt T'
  | [], _, acc, T, hp, _ => ⟨[], T, by simp [compL], rfl, (fun _ h => by cases h), hp⟩
  | d :: ds, step, acc, T, hp, hl => by
    obtain ⟨ρ1, x, T1, h1, h2, h3, h4⟩ := step d List.mem_cons_self T hp
    rw [List.length_cons] at hl
    obtain ⟨xs, T2, h5, h6, h7, h8⟩ := compL_all ds (fun d hd => step d (List.mem_cons_of_mem _ hd)) (acc ++ [x]) T1 h4 (by rw [List.length_append, List.length_singleton]; omega)
    refine ⟨x :: xs, T2, ?_, by rw [List.length_cons, List.length_cons, h6], fun y hy => ?_, h8⟩
    · unfold compL
      rw [h1]
      show bindF (yesT ρ1 T) _ = _
      rw [show yesT ρ1 T = some (true, T) from rfl, bindF_some, if_pos rfl, h2, bindF_some, if_pos (by omega), h5, List.append_assoc]
      rfl
    · rcases List.mem_cons.mp hy with rfl | hy
      · exact h3
      · exact h7 y hy
/-- nothing changes: a filter and a map -/
theorem compL_pure {t : Tgt} {c : FT} {e : FE} {ρw : Rho} {T : Fx.Tm} {p : D → Bool} {g : D → D} : ∀ (ds : List D), (∀ d ∈ ds, ∃ ρ1, tgD t d ρw = some ρ1 ∧ c ρ1 T = some (p d, T) ∧ (p d = true → e ρ1 T = some (g d, T))) →
    ∀ (acc : List D), acc.length + ds.length ≤ PySem.sizeLine → compL t c e ρw ds acc T = some (acc ++ (ds.filter p).map g, T)
  | [], _, acc, _ => by simp [compL]
  | d :: ds, step, acc, hl => by
    obtain ⟨ρ1, h1, h2, h3⟩ := step d List.mem_cons_self
    rw [List.length_cons] at hl
    have ih := fun (acc : List D) h => compL_pure ds (fun d hd => step d (List.mem_cons_of_mem _ hd)) acc h
    unfold compL
    rw [h1]
    show bindF (c ρ1 T) _ = _
    rw [h2, bindF_some]
    cases hp : p d with
    | false =>
      rw [if_neg (by decide), List.filter_cons, hp, if_neg (by decide)]
      exact ih acc (by omega)
    | true =>
      rw [if_pos rfl, h3 hp, bindF_some, if_pos (by omega), List.filter_cons, hp, if_pos rfl, ih (acc ++ [g d]) (by rw [List.length_append, List.length_singleton]; omega), List.map_cons, List.append_assoc]
      rfl
theorem forL_search {t : Tgt} {body : FS} {T : Fx.Tm} {p : D → Bool} {g : D → D} {inv : Rho → Prop} : ∀ (ds : List D), (∀ d ∈ ds, ∀ ρ, inv ρ → ∃ ρ1, tgD t d ρ = some ρ1 ∧ if p d = true then body ρ1 T = some (.rt (g d), T) else ∃ ρ2, inv ρ2 ∧ body ρ1 T = some (.nx ρ2, T)) →
    ∀ ρ, inv ρ → (∃ d, ds.find? p = some d ∧ forL t body ds ρ T = some (.rt (g d), T)) ∨ (ds.find? p = none ∧ ∃ ρ', inv ρ' ∧ forL t body ds ρ T = some (.nx ρ', T))
  | [], _, ρ, hi => .inr ⟨rfl, ρ, hi, rfl⟩
  | d :: ds, step, ρ, hi => by
    obtain ⟨ρ1, h1, h2⟩ := step d List.mem_cons_self ρ hi
    unfold forL
    simp only [h1]
    cases hp : p d with
    | true =>
      rw [hp, if_pos rfl] at h2
      refine .inl ⟨d, by rw [List.find?_cons, hp], ?_⟩
      simp only [h2]
    | false =>
      rw [hp, if_neg (by decide)] at h2
      obtain ⟨ρ2, h3, h4⟩ := h2
      have e1 : (d :: ds).find? p = ds.find? p := by rw [List.find?_cons, hp]
      rw [e1]
      have ih := forL_search ds (fun d hd => step d (List.mem_cons_of_mem _ hd)) ρ2 h3
      simp only [h4]
      exact ih
/-! ### == of rows -/
def pB (l : List Bool) : PySem.PyData := .tuple (l.map PySem.PyData.bool)
theorem toPyL_bl : ∀ l : List Bool, toPyL (l.map D.bl) = some (l.map PySem.PyData.bool)
  | [] => by simp [toPyL]
  | b :: l => by simp [toPyL, toPy, toPyL_bl l]
theorem toPy_eB (l : List Bool) : toPy (eB l) = some (pB l) := by
  unfold eB pB
  rw [toPy, toPyL_bl]
  rfl
theorem lay_bl : ∀ l : List Bool, PySem.PyData.canLayAll0 (l.map PySem.PyData.bool) = true
  | [] => by simp [PySem.PyData.canLayAll0]
  | b :: l => by simp [PySem.PyData.canLayAll0, PySem.PyData.canLay0, lay_bl l]
theorem dep_bl : ∀ l : List Bool, PySem.PyData.depthAll (l.map PySem.PyData.bool) = 0
  | [] => by simp [PySem.PyData.depthAll]
  | b :: l => by simp [PySem.PyData.depthAll, PySem.PyData.depth, dep_bl l]
theorem shaped_pB (l : List Bool) : PySem.SeqAt.shaped (pB l) = true := by
  unfold PySem.SeqAt.shaped pB
  simp [PySem.PyData.canLay0, lay_bl, PySem.PyData.depth, dep_bl]
theorem eqvAll_bl : ∀ a b : List Bool, PySem.PyData.eqvAll (a.map PySem.PyData.bool) (b.map PySem.PyData.bool) = decide (a = b)
  | [], [] => by simp [PySem.PyData.eqvAll]
  | [], _ :: _ => by simp [PySem.PyData.eqvAll]
  | _ :: _, [] => by simp [PySem.PyData.eqvAll]
  | x :: a, y :: b => by
    simp only [List.map_cons, PySem.PyData.eqvAll, PySem.PyData.eqv, eqvAll_bl a b, List.cons.injEq]
    by_cases h : x = y <;> by_cases h2 : a = b <;> simp [h, h2]
theorem eqv_pB (a b : List Bool) : PySem.PyData.eqv (pB a) (pB b) = decide (a = b) := by
  unfold pB
  rw [PySem.PyData.eqv, eqvAll_bl]
theorem eqD_eB (a b : List Bool) : eqD (eB a) (eB b) = some (.bl (decide (a = b))) := by
  unfold eqD eqB
  rw [toPy_eB, toPy_eB]
  simp only [shaped_pB, Bool.and_self, if_true, eqv_pB, Option.map_some]
theorem eqD_int (i j : Int) : eqD (.int i) (.int j) = some (.bl (decide (i = j))) := by
  unfold eqD eqB
  simp only [toPy]
  have h : ∀ i, PySem.SeqAt.shaped (.int i) = true := fun i => by simp [PySem.SeqAt.shaped, PySem.PyData.canLay0, PySem.PyData.depth]
  simp only [h, Bool.and_self, if_true, PySem.PyData.eqv, Option.map_some]
  by_cases e : i = j <;> simp [e]
theorem neD_bl (a b : Bool) : neD (.bl a) (.bl b) = some (.bl (decide (a ≠ b))) := by
  unfold neD eqB
  simp only [toPy]
  have h : ∀ i, PySem.SeqAt.shaped (.bool i) = true := fun i => by simp [PySem.SeqAt.shaped, PySem.PyData.canLay0, PySem.PyData.depth]
  simp only [h, Bool.and_self, if_true, PySem.PyData.eqv, Option.map_some]
  cases a <;> cases b <;> rfl
/-! ### a row -/
theorem line_eq : PySem.sizeLine = 16777216 := PySem.sizeLine_eq
theorem rngL_mem {i j : Int} {d : D} (h : d ∈ rngL i j) : ∃ k : Int, d = .int k ∧ i ≤ k ∧ k < j := by
  unfold rngL at h
  obtain ⟨m, hm, rfl⟩ := List.mem_map.mp h
  have := List.mem_range.mp hm
  exact ⟨_, rfl, by omega, by omega⟩
theorem bls_of : ∀ xs : List D, (∀ x ∈ xs, ∃ b, x = D.bl b) → ∃ bs : List Bool, xs = bs.map D.bl
  | [], _ => ⟨[], rfl⟩
  | x :: xs, h => by
    obtain ⟨b, rfl⟩ := h x List.mem_cons_self
    obtain ⟨bs, rfl⟩ := bls_of xs fun y hy => h y (List.mem_cons_of_mem _ hy)
    exact ⟨b :: bs, rfl⟩
set_option maxHeartbeats 4000000 in
theorem row_run (ns : List Int) (a b c lo hi : Int) (hb : 0 ≤ b) (h0 : 0 ≤ lo) (h1 : lo ≤ hi) (h2 : hi ≤ 1000) :
    ∃ (bs : List Bool) (a' b' c' : Int), lo ≤ bs.length ∧ (bs.length : Int) ≤ hi ∧ 0 ≤ b' ∧ h__law_row [.ob 0, .int lo, .int hi] (eS ns a b c) = some (eB bs, eS ns a' b' c') := by
  obtain ⟨d, a1, b1, c1, g1, g2, g3, g4⟩ := draw_run ns a b c (hi - lo + 1) hb (by omega) (by omega)
  have e1 : in62 (lo + d) = true := in62_of (by omega) (by omega)
  obtain ⟨xs, T', k1, k2, k3, k4⟩ := compL_all (t := .nm 3) (e := binF eqD (callF h__law_draw (consF (varF 0) (consF (constF (.int 2)) (nilF)))) (constF (.int 1)))
    (ρw := [.dat (.ob 0), .dat (.int lo), .dat (.int hi), .un]) (Pt := fun T => ∃ a b c, 0 ≤ b ∧ T = eS ns a b c) (R := fun x => ∃ b, x = D.bl b) (rngL 0 (lo + d)) (fun x hx T hT => by
      obtain ⟨k, rfl, _, _⟩ := rngL_mem hx
      obtain ⟨a2, b2, c2, h3, rfl⟩ := hT
      obtain ⟨d3, a3, b3, c3, _, _, h4, h5⟩ := draw_run ns a2 b2 c2 2 h3 (by decide) (by decide)
      have q := eqD_int d3 1
      refine ⟨_, .bl (decide (d3 = 1)), eS ns a3 b3 c3, rfl, ?_, ⟨_, rfl⟩, a3, b3, c3, h4, rfl⟩
      walk_at "fx") [] (eS ns a1 b1 c1) ⟨a1, b1, c1, g3, rfl⟩ (by rw [rngL_len, line_eq]; simp only [List.length_nil]; omega)
  obtain ⟨bs, rfl⟩ := bls_of xs k3
  obtain ⟨a2, b2, c2, h3, rfl⟩ := k4
  rw [List.length_map, rngL_len] at k2
  refine ⟨bs, a2, b2, c2, by omega, by omega, h3, ?_⟩
  unfold h__law_row g__law_row eB
  have in1 : tgIn (.nm 3) [3] = true := by decide
  simp only [runB, retF, ofF, tofF, frzF, compF, rng1, in1, wipeR, if_true]
  walk_at "fx"
end LC
namespace LC
open Fx PM
local macro_rules | `(tactic| walk_at "fx") => `(tactic| simp only [runB, seqS, nilS, asgF, ownF, retF, ifS, testF, binF, varF, varO, constF, ofF, ixF, ixD, seqD, lenF, lenD, unpF, tgD, setN, bindF_some, bindF_none, blF, consF, nilF, intD, iiF_int, ctt_eq, addD_int, setF, callF, tofF, frzF, tupF, negF, andT, orT, slF, slD, bNo, bSo, forS, rng1, rng2, lrgF, compF, yesT,
  List.map_cons, List.map_nil, List.cons_append, List.nil_append, List.length_cons, List.length_nil, List.length_map, List.replicate_succ, List.replicate_zero, List.getElem?_cons_zero, List.getElem?_cons_succ, List.set_cons_zero, List.set_cons_succ, Option.map_some, if_true, Nat.reduceAdd, Nat.reduceSub,
  decide_eq_true_eq, if_pos, if_neg, decide_true, decide_false, Bool.false_eq_true, if_false, ne_eq, not_false_eq_true, Bool.and_self, wipeR, *])
/-! ### ranges and loops -/
theorem rngL_cons {i j : Int} (h : i < j) : rngL i j = .int i :: rngL (i + 1) j := by
  unfold rngL
  rw [show (j - i).toNat = (j - (i + 1)).toNat + 1 by omega, List.range_succ_eq_map, List.map_cons, List.map_map]
  congr 1
  · congr 1
    omega
  · apply List.map_congr_left
    intro k _
    show D.int (i + ((k + 1 : Nat) : Int)) = D.int (i + 1 + (k : Int))
    congr 1
    omega
theorem rngL_nil {i j : Int} (h : j ≤ i) : rngL i j = [] := by
  unfold rngL
  rw [show (j - i).toNat = 0 by omega]
  rfl
theorem rngL_map (i j : Int) : rngL i j = (rngZ i j).map D.int := by
  unfold rngL rngZ
  rw [List.map_map]
  rfl
theorem forL_rng {t : Tgt} {body : FS} {T : Fx.Tm} {p : Int → Bool} {g : Int → D} {inv : Rho → Prop} {j : Int} : ∀ (n : Nat) (i : Int), (j - i).toNat = n →
    (∀ k, i ≤ k → k < j → ∀ ρ, inv ρ → ∃ ρ1, tgD t (.int k) ρ = some ρ1 ∧ if p k = true then body ρ1 T = some (.rt (g k), T) else ∃ ρ2, inv ρ2 ∧ body ρ1 T = some (.nx ρ2, T)) → ∀ ρ, inv ρ →
    (∃ z, i ≤ z ∧ z < j ∧ p z = true ∧ (∀ w, i ≤ w → w < z → p w = false) ∧ forL t body (rngL i j) ρ T = some (.rt (g z), T)) ∨ ((∀ w, i ≤ w → w < j → p w = false) ∧ ∃ ρ', inv ρ' ∧ forL t body (rngL i j) ρ T = some (.nx ρ', T))
  | 0, i, hn, step, ρ, hi => by
    rw [rngL_nil (by omega)]
    exact .inr ⟨fun w h1 h2 => by omega, ρ, hi, rfl⟩
  | n + 1, i, hn, step, ρ, hi => by
    rw [rngL_cons (by omega)]
    obtain ⟨ρ1, h1, h2⟩ := step i (by omega) (by omega) ρ hi
    unfold forL
    simp only [h1]
    cases hp : p i with
    | true =>
      rw [hp, if_pos rfl] at h2
      simp only [h2]
      exact .inl ⟨i, by omega, by omega, hp, fun w h3 h4 => by omega, rfl⟩
    | false =>
      rw [hp, if_neg (by decide)] at h2
      obtain ⟨ρ2, h3, h4⟩ := h2
      simp only [h4]
      rcases forL_rng n (i + 1) (by omega) (fun k h5 h6 => step k (by omega) h6) ρ2 h3 with ⟨z, a1, a2, a3, a4, a5⟩ | ⟨a1, a2⟩
      · exact .inl ⟨z, by omega, a2, a3, fun w h5 h6 => if c : w = i then c ▸ hp else a4 w (by omega) h6, a5⟩
      · exact .inr ⟨fun w h5 h6 => if c : w = i then c ▸ hp else a1 w (by omega) h6, a2⟩
/-- a loop that goes on -/
theorem forL_inv {t : Tgt} {body : FS} {inv : Rho → Fx.Tm → Prop} : ∀ (ds : List D), (∀ d ∈ ds, ∀ ρ T, inv ρ T → ∃ ρ1 ρ2 T2, tgD t d ρ = some ρ1 ∧ body ρ1 T = some (.nx ρ2, T2) ∧ inv ρ2 T2) →
    ∀ ρ T, inv ρ T → ∃ ρ' T', inv ρ' T' ∧ forL t body ds ρ T = some (.nx ρ', T')
  | [], _, ρ, T, h => ⟨ρ, T, h, rfl⟩
  | d :: ds, step, ρ, T, h => by
    obtain ⟨ρ1, ρ2, T2, h1, h2, h3⟩ := step d List.mem_cons_self ρ T h
    unfold forL
    simp only [h1, h2]
    exact forL_inv ds (fun d hd => step d (List.mem_cons_of_mem _ hd)) ρ2 T2 h3
/-! ### slices, products of rows -/
theorem take_len {α : Type} {xs : List α} {k : Nat} (h : k ≤ xs.length) : (xs.take k).length = k := by rw [List.length_take]; omega
theorem cutD_take {ds : List D} {k : Nat} (h : k ≤ ds.length) : cutD ds none (some (k : Int)) = ds.take k := by
  unfold cutD
  rw [HT.sIx_none, HT.sIx_nat, List.drop_zero, Nat.min_eq_left h]
  rfl
theorem slD_eB (T : Fx.Tm) {l : List Bool} {k : Nat} (h : k ≤ l.length) : slD T (.val (eB l)) none (some (k : Int)) = some (eB (l.take k)) := by
  unfold slD eB
  show some (D.tup (cutD _ _ _)) = _
  rw [cutD_take (by rw [List.length_map]; exact h), List.map_take]
theorem mulD_eB {l : List Bool} {k : Nat} (h0 : l ≠ []) (h1 : 1 ≤ k) (h2 : k ≤ 1000) (h3 : l.length ≤ 1000) : mulD (eB l) (.int (k : Int)) = some (eB (List.replicate k l).flatten) := by
  unfold mulD eB
  show (if _ then _ else _) = _
  rw [if_pos (show cRepT _ _ = true from dc_of ⟨by simpa using h0, by omega, .inr ⟨by omega, by rw [List.length_map]; exact h3⟩⟩), Int.toNat_natCast, List.map_flatten, List.map_replicate]
theorem lenD_eB (T : Fx.Tm) (l : List Bool) : lenD T (.val (eB l)) = some (.int (l.length : Int)) := by
  unfold lenD eB seqD
  show some (D.int _) = _
  rw [List.length_map]
theorem fmod_natnat (n k : Nat) : (n : Int).fmod (k : Int) = ((n % k : Nat) : Int) := by rw [fmod_nat, Int.natCast_emod]
theorem fdiv_natnat (n k : Nat) : (n : Int).fdiv (k : Int) = ((n / k : Nat) : Int) := by rw [Int.fdiv_eq_ediv_of_nonneg _ (by omega), Int.natCast_ediv]
/-- the first that fits -/
theorem short_first {l : List Bool} {z : Nat} (h0 : 1 ≤ z) (h1 : z ≤ l.length) (h2 : okK l z = true) (h3 : ∀ w : Nat, 1 ≤ w → w < z → okK l w = false) : short l = l.take z := by
  obtain ⟨k, q1, q2, q3, q4⟩ := find_range (p := fun k => okK l (k + 1)) l.length ⟨z - 1, by omega, by rw [show z - 1 + 1 = z by omega]; exact h2⟩
  have e : k + 1 = z := by
    rcases Nat.lt_trichotomy (k + 1) z with c | c | c
    · have := h3 (k + 1) (by omega) c
      rw [this] at q3
      cases q3
    · exact c
    · have := q4 (z - 1) (by omega)
      rw [show z - 1 + 1 = z by omega, h2] at this
      cases this
  unfold short
  rw [q1]
  show l.take (k + 1) = _
  rw [e]
theorem okK_full {l : List Bool} (h : l ≠ []) : okK l l.length = true := (okK_iff (pos_len h) (Nat.le_refl _)).mpr ⟨Nat.mod_self _, at_per⟩
set_option maxHeartbeats 1000000 in
theorem short_run (l : List Bool) (h : l ≠ []) (hl : l.length ≤ 1000) (T : Fx.Tm) : h__law_short [eB l] T = some (eB (short l), T) := by
  unfold h__law_short g__law_short
  have hp := pos_len h
  have el := lenD_eB T l
  have c1 : in62 1 = true := in62_of (by omega) (by omega)
  have c2 : in62 ((l.length : Int) + 1) = true := in62_of (by omega) (by omega)
  have key := forL_rng (t := .nm 1) (T := T) (body := ifS (andT (testF (binF eqD (binF modD (blF intD (consF (lenF (varO 0)) (nilF))) (varF 1)) (constF (.int 0)))) (testF (binF eqD (varF 0) (binF mulD (slF (varO 0) (bNo) (bSo (varF 1))) (binF divD (lenF (varO 0)) (varF 1)))))) (retF (ofF (slF (varO 0) (bNo) (bSo (varF 1))))) (nilS))
    (p := fun k => okK l k.toNat) (g := fun k => eB (l.take k.toNat)) (inv := fun ρ => ∃ x, ρ = [.dat (eB l), x]) (j := (l.length : Int) + 1) _ 1 rfl (fun k h1 h2 ρ hr => by
      obtain ⟨x, rfl⟩ := hr
      obtain ⟨k, rfl⟩ : ∃ n : Nat, k = (n : Int) := ⟨k.toNat, by omega⟩
      refine ⟨_, rfl, ?_⟩
      have hk : k ≤ l.length := by omega
      have m1 : cMod (l.length : Int) (k : Int) = true := cMod_nat (by omega)
      have m2 : cDiv (l.length : Int) (k : Int) = true := cdv (by omega) (by omega)
      have e1 := slD_eB T hk
      have e2 := eqD_int ((l.length : Int).fmod (k : Int)) 0
      rw [fmod_natnat] at e2
      have e3 := fdiv_natnat l.length k
      have e4 : mulD (eB (l.take k)) (.int ((l.length / k : Nat) : Int)) = some (eB (rep k l)) := mulD_eB (fun e => by have := take_len hk; rw [e] at this; simp at this; omega) (Nat.div_pos hk (by omega)) (Nat.le_trans (Nat.div_le_self _ _) hl) (by rw [take_len hk]; omega)
      have e5 := eqD_eB l (rep k l)
      have e6 := fmod_natnat l.length k
      show if okK l (Int.toNat (k : Int)) = true then _ else _
      rw [Int.toNat_natCast]
      by_cases a1 : l.length % k = 0
      · have a1' : ((l.length % k : Nat) : Int) = 0 := by omega
        by_cases a2 : l = rep k l
        · rw [if_pos (by unfold okK; rw [decide_eq_true a1, decide_eq_true a2]; rfl)]
          rw [decide_eq_true a1'] at e2
          rw [decide_eq_true a2] at e5
          simp only [runB, seqS, nilS, retF, ifS, testF, binF, varF, varO, constF, ofF, lenF, bindF_some, blF, consF, nilF, intD, iiF_int, andT, slF, bNo, bSo, List.getElem?_cons_zero, List.getElem?_cons_succ, List.set_cons_zero, List.set_cons_succ, Option.map_some, el, m1, m2, e1, e2, e3, e4, e5, e6, if_true, Int.toNat_natCast]
        · rw [if_neg (by unfold okK; rw [decide_eq_false a2, Bool.and_false]; decide)]
          rw [decide_eq_true a1'] at e2
          rw [decide_eq_false a2] at e5
          refine ⟨[.dat (eB l), .dat (.int (k : Int))], ⟨_, rfl⟩, ?_⟩
          simp only [runB, seqS, nilS, retF, ifS, testF, binF, varF, varO, constF, ofF, lenF, bindF_some, blF, consF, nilF, intD, iiF_int, andT, slF, bNo, bSo, List.getElem?_cons_zero, List.getElem?_cons_succ, List.set_cons_zero, List.set_cons_succ, Option.map_some, el, m1, m2, e1, e2, e3, e4, e5, e6, if_true, Bool.false_eq_true, if_false]
      · have a1' : ¬ ((l.length % k : Nat) : Int) = 0 := by omega
        rw [if_neg (by unfold okK; rw [decide_eq_false a1, Bool.false_and]; decide)]
        rw [decide_eq_false a1'] at e2
        refine ⟨[.dat (eB l), .dat (.int (k : Int))], ⟨_, rfl⟩, ?_⟩
        simp only [runB, seqS, nilS, retF, ifS, testF, binF, varF, varO, constF, ofF, lenF, bindF_some, blF, consF, nilF, intD, iiF_int, andT, slF, bNo, bSo, List.getElem?_cons_zero, List.getElem?_cons_succ, List.set_cons_zero, List.set_cons_succ, Option.map_some, el, m1, m2, e1, e2, e3, e4, e5, e6, if_true, Bool.false_eq_true, if_false]) [.dat (eB l), .un] ⟨_, rfl⟩
  rcases key with ⟨z, q1, q2, q3, q4, q5⟩ | ⟨q1, _⟩
  · obtain ⟨z, rfl⟩ : ∃ n : Nat, z = (n : Int) := ⟨z.toNat, by omega⟩
    rw [short_first (z := z) (by omega) (by omega) (by simpa using q3) fun w h1 h2 => by have := q4 (w : Int) (by omega) (by omega); simpa using this]
    rw [Int.toNat_natCast] at q5
    simp only [runB, seqS, forS, rng2, varO, lenF, binF, constF, consF, nilF, bindF_some, List.map_cons, List.map_nil, List.cons_append, List.nil_append, List.length_cons, List.length_nil, Nat.reduceAdd, Nat.reduceSub, List.replicate_succ, List.replicate_zero, List.getElem?_cons_zero, el, Option.map_some, addD_int, c1, c2, Bool.and_self, if_true, q5]
  · have := q1 (l.length : Int) (by omega) (by omega)
    rw [Int.toNat_natCast, okK_full h] at this
    cases this
theorem is_in_run (p : Pat) (ok : p.Ok) (y : Int) (T : Fx.Tm) : h_is_in [eP p, .int y] T = some (.bl (p.mem y), T) := by
  unfold h_is_in g_is_in eP eB Pat.mem
  have c1 := cMod_nat (y := y) (pos_len ok.l)
  have c2 := cMod_nat (y := y) (pos_len ok.r)
  have a1 := atI_at ok.l y
  have a2 := atI_at ok.r y
  by_cases h1 : y < p.s
  · walk_at "fx"
  · by_cases h2 : y < p.s + p.m.length
    · have a3 := atI_bl (l := p.m) (i := y - p.s) (by omega) (by omega)
      walk_at "fx"
    · walk_at "fx"
end LC
namespace LC
open Fx PM
/-! ### the law's own way to write a pattern -/
def pD (f : Int → Bool) (l : List Bool) : D → Bool
  | .int y => dL f l y
  | _ => false
theorem filter_rngL (f : Int → Bool) (l : List Bool) (i j : Int) : (rngL i j).filter (pD f l) = ((rngZ i j).filter (dL f l)).map D.int := by
  rw [rngL_map, List.filter_map]
  rfl
theorem atI_head {α : Type} (a : α) (xs : List α) : L2.atI (a :: xs) 0 = some a := by rw [atI_nn (by decide) (by simp only [List.length_cons]; omega)]; rfl
theorem atI_last {α : Type} (xs : List α) (b : α) : L2.atI (xs ++ [b]) (-1) = some b := by
  unfold L2.atI L2.ixN
  have hl : (xs ++ [b]).length = xs.length + 1 := by rw [List.length_append]; rfl
  rw [hl, if_neg (by omega), if_pos (by omega)]
  show (xs ++ [b])[(-1 + ((xs.length + 1 : Nat) : Int)).toNat]? = _
  rw [show (-1 + ((xs.length + 1 : Nat) : Int)).toNat = xs.length by omega, List.getElem?_append_right (Nat.le_refl _), Nat.sub_self]
  rfl
theorem ixD_eB (T : Fx.Tm) {l : List Bool} (h : l ≠ []) (y : Int) : ixD T (.val (eB l)) (.int (y.fmod (l.length : Int))) = some (.bl (at_ l y)) := by
  unfold ixD eB seqD
  exact atI_at h y
theorem ixD_lst (T : Fx.Tm) (ds : List D) (i : Int) : ixD T (.val (.lst ds)) (.int i) = L2.atI ds i := rfl
theorem ixD_tup (T : Fx.Tm) (ds : List D) (i : Int) : ixD T (.val (.tup ds)) (.int i) = L2.atI ds i := rfl
theorem lenD_lst (T : Fx.Tm) (ds : List D) : lenD T (.val (.lst ds)) = some (.int (ds.length : Int)) := rfl
theorem lenD_tup (T : Fx.Tm) (ds : List D) : lenD T (.val (.tup ds)) = some (.int (ds.length : Int)) := rfl
theorem seqD_lst (T : Fx.Tm) (ds : List D) : seqD T (.val (.lst ds)) = some (false, ds) := rfl
theorem seqD_tup (T : Fx.Tm) (ds : List D) : seqD T (.val (.tup ds)) = some (true, ds) := rfl
theorem intD_int (i : Int) : Fx.intD [.int i] = some (.int i) := rfl
theorem mulD_int (i j : Int) : mulD (.int i) (.int j) = if cMul i j then some (.int (i * j)) else none := rfl
structure PSz (p : Pat) (n : Int) : Prop where
  l : p.l.length ≤ 1000
  r : p.r.length ≤ 1000
  m : p.m.length ≤ 1000000
  s : -n ≤ p.s
  s' : p.s ≤ n
theorem rngL_ne {i j : Int} : (rngL i j).length = (j - i).toNat := rngL_len i j
local macro_rules | `(tactic| walk_at "fx") => `(tactic| simp only [runB, seqS, nilS, asgF, retF, ifS, testF, binF, varF, varO, constF, ofF, ixF, lenF, bindF_some, blF, consF, nilF, intD_int, iiF_int, ctt_eq, addD_int, mulD_int, callF, tofF, frzF, tupF, negF, andT, rng2, lrgF, compF, seqD_lst, seqD_tup, ixD_lst, ixD_tup, lenD_lst, lenD_tup, eqD_int, itU,
  List.map_cons, List.map_nil, List.cons_append, List.nil_append, List.length_cons, List.length_nil, List.replicate_succ, List.replicate_zero, List.getElem?_cons_zero, List.getElem?_cons_succ, List.set_cons_zero, List.set_cons_succ, Option.map_some, if_true, Nat.reduceAdd, Nat.reduceSub,
  Bool.false_eq_true, if_false, Bool.and_self, wipeR, *])
section
variable (p : Pat) (ok : p.Ok) (T : Fx.Tm)
include ok
theorem comp_dif {k : Nat} (l : List Bool) (h : l ≠ []) (x0 x1 x2 x3 x4 x5 x6 x7 x8 : Sl) (hx0 : x0 = .dat (eP p)) (hk : [x0, x1, x2, x3, x4, x5, x6, x7, x8][k]? = some (.dat (eB l))) (i j : Int) (hs : (j - i).toNat ≤ 16777216) :
    compL (.nm 9) (testF (binF neD (callF h__law_in (consF (varF 0) (consF (varF 9) (nilF)))) (ixF (varO k) (binF modD (blF Fx.intD (consF (varF 9) (nilF))) (lenF (varO k)))))) (varF 9) [x0, x1, x2, x3, x4, x5, x6, x7, x8, .un] (rngL i j) [] T
      = some (((rngZ i j).filter (dL p.mem l)).map D.int, T) := by
  have hk9 : k < 9 := (List.getElem?_eq_some_iff.mp hk).1
  rw [compL_pure (p := pD p.mem l) (g := id) (rngL i j) (fun d hd => ?_) [] (by rw [rngL_len, line_eq]; simpa using hs), filter_rngL, List.map_id]
  · rfl
  · obtain ⟨y, rfl, _, _⟩ := rngL_mem hd
    subst hx0
    refine ⟨[.dat (eP p), x1, x2, x3, x4, x5, x6, x7, x8, .dat (.int y)], rfl, ?_, fun _ => rfl⟩
    have e0 : [Sl.dat (eP p), x1, x2, x3, x4, x5, x6, x7, x8, .dat (.int y)][k]? = some (.dat (eB l)) := by
      rw [← hk]
      exact List.getElem?_append_left (l₁ := [Sl.dat (eP p), x1, x2, x3, x4, x5, x6, x7, x8]) (by simpa using hk9)
    have e1 := in_run p ok.l ok.r y T
    have e2 := lenD_eB T l
    have e3 := ixD_eB T h y
    have e4 := cMod_nat (y := y) (pos_len h)
    have e5 := neD_bl (p.mem y) (at_ l y)
    walk_at "fx"
    rfl
end
theorem eP_0 (T : Fx.Tm) (p : Pat) : ixD T (.val (eP p)) (.int 0) = some (eB p.l) := atI_head _ _
theorem eP_1 (T : Fx.Tm) (p : Pat) : ixD T (.val (eP p)) (.int 1) = some (.int p.s) := ix1 _ _ _
theorem eP_2 (T : Fx.Tm) (p : Pat) : ixD T (.val (eP p)) (.int 2) = some (eB p.m) := ix2 _ _ _ _
theorem eP_3 (T : Fx.Tm) (p : Pat) : ixD T (.val (eP p)) (.int 3) = some (eB p.r) := ix3 _ _ _ _ _
theorem eP_mk (l : List Bool) (s : Int) (m : List Bool) (r : List Bool) : D.tup [eB l, .int s, eB m, eB r] = eP ⟨l, s, m, r⟩ := rfl
theorem eB_nil : D.tup [] = eB [] := rfl
theorem len4 : ((0 + 1 + 1 + 1 + 1 : Nat) ≤ PySem.sizeLine) := by rw [line_eq]; omega
theorem len0 : ((0 : Nat) ≤ PySem.sizeLine) := Nat.zero_le _
theorem cm_l {i j : Int} (h : -18446744073709551616 < i ∧ i < 18446744073709551616) : cMul i j = true := dc_of (.inl h)
theorem atI_last' {ds : List D} {xs : List D} {b : D} (h : ds = xs ++ [b]) : L2.atI ds (-1) = some b := by rw [h]; exact atI_last xs b
local macro_rules | `(tactic| walk_at "fy") => `(tactic| simp only [runB, seqS, nilS, asgF, retF, ifS, testF, binF, varF, varO, constF, ofF, ixF, lenF, bindF_some, blF, consF, nilF, intD_int, iiF_int, ctt_eq, addD_int, mulD_int, callF, tofF, frzF, tupF, negF, andT, rng2, lrgF, compF, seqD_lst, seqD_tup, ixD_lst, ixD_tup, lenD_lst, lenD_tup, lenD_eB, eqD_int, itU, eP_0, eP_1, eP_2, eP_3, eqD_eB,
  List.map_cons, List.map_nil, List.cons_append, List.nil_append, List.length_cons, List.length_nil, List.replicate_succ, List.replicate_zero, List.getElem?_cons_zero, List.getElem?_cons_succ, List.set_cons_zero, List.set_cons_succ, Option.map_some, if_true, Nat.reduceAdd, Nat.reduceSub,
  Bool.false_eq_true, if_false, Bool.and_self, wipeR, *])
set_option maxHeartbeats 2000000 in
theorem written_run (p : Pat) (ok : p.Ok) {n : Int} (sz : PSz p n) (hn : n ≤ 1000000000) (T : Fx.Tm) : ∃ p' : Pat, Canon p' ∧ p'.mem = p.mem ∧ PSz p' (n + 3000002) ∧ h__law_written [eP p] T = some (eP p', T) := by
  have kl := short_spec ok.l
  have kr := short_spec ok.r
  have s1 := sz.s
  have s2 := sz.s'
  have s3 := sz.m
  have hP : (short p.l).length * (short p.r).length ≤ 1000 * 1000 := Nat.mul_le_mul (Nat.le_trans kl.2.2 sz.l) (Nat.le_trans kr.2.2 sz.r)
  have sl : (short p.l).length ≤ 1000 := Nat.le_trans kl.2.2 sz.l
  have sr : (short p.r).length ≤ 1000 := Nat.le_trans kr.2.2 sz.r
  have a1 := short_run p.l ok.l sz.l T
  have a2 := short_run p.r ok.r sz.r T
  have a3 : cMul ((short p.l).length : Int) ((short p.r).length : Int) = true := cm (by omega)
  have a4 : ((short p.l).length : Int) * ((short p.r).length : Int) = (((short p.l).length * (short p.r).length : Nat) : Int) := (Int.natCast_mul _ _).symm
  have a5 : cMul 2 (((short p.l).length * (short p.r).length : Nat) : Int) = true := cm_l (by omega)
  have e1 : p.s - 2 * (((short p.l).length * (short p.r).length : Nat) : Int) - 2 = lo_ p := rfl
  have e2 : p.s + (p.m.length : Int) + 2 * (((short p.l).length * (short p.r).length : Nat) : Int) + 2 = hi_ p := rfl
  have b1 : rgOkB (lo_ p) (hi_ p) = true := by
    unfold rgOkB
    rw [in62_of (by unfold lo_; omega) (by unfold lo_; omega), in62_of (by unfold hi_; omega) (by unfold hi_; omega), in24_of (by unfold lo_ hi_; omega)]
    rfl
  have hs : (hi_ p - lo_ p).toNat ≤ 16777216 := by unfold lo_ hi_; omega
  have c1 := comp_dif p ok T (k := 1) (short p.l) kl.1.1 (.dat (eP p)) (.dat (eB (short p.l))) (.dat (eB (short p.r))) (.dat (.int (((short p.l).length * (short p.r).length : Nat) : Int))) (.dat (.lst (rngL (lo_ p) (hi_ p)))) .un .un .un .un rfl rfl _ _ hs
  have c2 := comp_dif p ok T (k := 2) (short p.r) kr.1.1 (.dat (eP p)) (.dat (eB (short p.l))) (.dat (eB (short p.r))) (.dat (.int (((short p.l).length * (short p.r).length : Nat) : Int))) (.dat (.lst (rngL (lo_ p) (hi_ p)))) (.dat (.lst ((odd_ p).map D.int))) .un .un .un rfl rfl _ _ hs
  rw [show List.filter (dL p.mem (short p.l)) (rngZ (lo_ p) (hi_ p)) = odd_ p from rfl] at c1
  rw [show List.filter (dL p.mem (short p.r)) (rngZ (lo_ p) (hi_ p)) = late_ p from rfl] at c2
  have in9 : tgIn (.nm 9) [9] = true := by decide
  have l4 := len4
  have l0 := len0
  unfold h__law_written g__law_written
  by_cases h : short p.l = short p.r ∧ odd_ p = []
  · refine ⟨wr0 p, wr0_canon ok h.1, wr0_mem ok h.1 h.2, ⟨sl, sr, by show (0 : Nat) ≤ _; omega, by show _ ≤ (0 : Int); omega, by show (0 : Int) ≤ _; omega⟩, ?_⟩
    have h1 : decide (short p.l = short p.r) = true := decide_eq_true h.1
    have h2 : decide ((((odd_ p).map D.int).length : Int) = 0) = true := by rw [h.2]; rfl
    clear h kl kr sz ok
    walk_at "fy"
    rfl
  · obtain ⟨n1, n2⟩ := odd_ne ok h
    obtain ⟨a, xs, ho⟩ := List.exists_cons_of_ne_nil n1
    have hla := (List.dropLast_concat_getLast n2).symm
    generalize (late_ p).dropLast = ys at hla
    generalize (late_ p).getLast n2 = b at hla
    obtain ⟨ia, hsa⟩ := odd_isA ok ho
    obtain ⟨ib, hsb⟩ := late_isB ok hla
    have rb := rngZ_mem.mp (filter_last (rngZ_lt _ _) hla).1
    have ra := rngZ_mem.mp (filter_head (rngZ_lt _ _) ho).1
    unfold lo_ hi_ at ra rb
    have o1 : L2.atI ((odd_ p).map D.int) 0 = some (.int a) := by rw [ho]; exact atI_head _ _
    have o2 : L2.atI ((late_ p).map D.int) (-1) = some (.int b) := by rw [hla, List.map_append]; exact atI_last _ _
    have tst : (if decide (short p.l = short p.r) = true then some (decide ((((odd_ p).map D.int).length : Int) = 0), T) else some (false, T)) = some (false, T) := by
      by_cases h1 : short p.l = short p.r
      · rw [if_pos (decide_eq_true h1), show decide ((((odd_ p).map D.int).length : Int) = 0) = false from by rw [ho]; exact decide_eq_false (by rw [List.length_map, List.length_cons]; omega)]
      · rw [if_neg (by rw [decide_eq_false h1]; decide)]
    by_cases hc : b + 1 ≤ a
    · refine ⟨wr1 p (b + 1), wr1_canon ok ia ib hc, wr1_mem ok ia ib hc, ⟨sl, sr, by show (0 : Nat) ≤ _; omega, by show _ ≤ b + 1; omega, by show b + 1 ≤ _; omega⟩, ?_⟩
      have h3 : decide (b + 1 ≤ a) = true := decide_eq_true hc
      clear hc h ho hla kl kr sz ia ib
      walk_at "fy"
      rfl
    · have hlen : ((rngZ a (b + 1)).map p.mem).length = (b + 1 - a).toNat := by rw [List.length_map, rngZ_len]
      refine ⟨wr2 p a (b + 1), wr2_canon ok ia ib (by omega), wr2_mem ok ia ib (by omega), ⟨sl, sr, by show ((rngZ a (b + 1)).map p.mem).length ≤ _; rw [hlen]; omega, by show _ ≤ a; omega, by show a ≤ _; omega⟩, ?_⟩
      have h3 : decide (b + 1 ≤ a) = false := decide_eq_false hc
      have i1 : in62 a = true := in62_of (by omega) (by omega)
      have i2 : in62 (b + 1) = true := in62_of (by omega) (by omega)
      have k9 : compL (.nm 9) yesT (callF h__law_in (consF (varF 0) (consF (varF 9) (nilF)))) [.dat (eP p), .dat (eB (short p.l)), .dat (eB (short p.r)), .dat (.int (((short p.l).length * (short p.r).length : Nat) : Int)), .dat (.lst (rngL (lo_ p) (hi_ p))), .dat (.lst ((odd_ p).map D.int)), .dat (.lst ((late_ p).map D.int)), .dat (.int a), .dat (.int (b + 1)), .un] (rngL a (b + 1)) [] T = some ((rngL a (b + 1)).map fun d => match d with | .int y => .bl (p.mem y) | _ => .non, T) := by
        rw [compL_pure (p := fun _ => true) (g := fun d => match d with | .int y => .bl (p.mem y) | _ => .non) (rngL a (b + 1)) (fun d hd => ?_) [] (by rw [rngL_len, line_eq, List.length_nil]; omega), List.filter_eq_self.mpr fun _ _ => rfl]
        · rfl
        · obtain ⟨y, rfl, _, _⟩ := rngL_mem hd
          refine ⟨_, rfl, rfl, fun _ => ?_⟩
          have e1 := in_run p ok.l ok.r y T
          clear hc h ho hla kl kr sz ia ib tst
          walk_at "fy"
      clear hc h ho hla kl kr sz ia ib
      walk_at "fy"
      rw [rngL_map, List.map_map]
      show some (D.tup [eB _, .int a, .tup _, eB _], T) = _
      unfold wr2 eP
      congr 6
      unfold eB
      rw [List.map_map]
      rfl
end LC
namespace LC
open Fx PM
local macro_rules | `(tactic| walk_at "fy") => `(tactic| simp only [runB, seqS, nilS, asgF, retF, ifS, testF, binF, varF, varO, constF, ofF, ixF, lenF, bindF_some, blF, consF, nilF, intD_int, iiF_int, ctt_eq, addD_int, mulD_int, callF, tofF, frzF, tupF, negF, andT, rng2, lrgF, compF, seqD_lst, seqD_tup, ixD_lst, ixD_tup, lenD_lst, lenD_tup, lenD_eB, eqD_int, itU, eP_0, eP_1, eP_2, eP_3, eqD_eB,
  List.map_cons, List.map_nil, List.cons_append, List.nil_append, List.length_cons, List.length_nil, List.replicate_succ, List.replicate_zero, List.getElem?_cons_zero, List.getElem?_cons_succ, List.set_cons_zero, List.set_cons_succ, Option.map_some, if_true, Nat.reduceAdd, Nat.reduceSub,
  Bool.false_eq_true, if_false, Bool.and_self, wipeR, *])
/-- the law's state over a script -/
def St (ns : List Int) (T : Fx.Tm) : Prop := ∃ a b c, 0 ≤ b ∧ T = eS ns a b c
theorem draw_st {ns : List Int} {T : Fx.Tm} (h : St ns T) {n : Int} (h0 : 0 < n) (h1 : n < 1073741824) : ∃ d T', 0 ≤ d ∧ d < n ∧ St ns T' ∧ h__law_draw [.ob 0, .int n] T = some (.int d, T') := by
  obtain ⟨a, b, c, hb, rfl⟩ := h
  obtain ⟨d, a', b', c', h2, h3, h4, h5⟩ := draw_run ns a b c n hb h0 h1
  exact ⟨d, _, h2, h3, ⟨a', b', c', h4, rfl⟩, h5⟩
theorem row_st {ns : List Int} {T : Fx.Tm} (h : St ns T) {lo hi : Int} (h0 : 0 ≤ lo) (h1 : lo ≤ hi) (h2 : hi ≤ 1000) : ∃ bs T', lo ≤ bs.length ∧ (bs.length : Int) ≤ hi ∧ St ns T' ∧ h__law_row [.ob 0, .int lo, .int hi] T = some (eB bs, T') := by
  obtain ⟨a, b, c, hb, rfl⟩ := h
  obtain ⟨bs, a', b', c', h3, h4, h5, h6⟩ := row_run ns a b c lo hi hb h0 h1 h2
  exact ⟨bs, _, h3, h4, ⟨a', b', c', h5, rfl⟩, h6⟩
/-- a pattern as it is drawn -/
structure Raw (p : Pat) : Prop where
  ok : p.Ok
  l : p.l.length ≤ 6
  r : p.r.length ≤ 6
  m : p.m.length ≤ 6
  s : -10 ≤ p.s
  s' : p.s ≤ 10
theorem Raw.bd {p : Pat} (h : Raw p) : Bd p.mem := by
  have := h.s
  have := h.s'
  have := h.m
  exact Bd.of h.ok h.l h.r (by omega) (by omega)
theorem Raw.sz {p : Pat} (h : Raw p) : PSz p 10 := by
  have := h.s
  have := h.s'
  have := h.m
  have := h.l
  have := h.r
  exact ⟨by omega, by omega, by omega, by omega, by omega⟩
noncomputable def rawF (i : Nat) : FE := tupF (consF (callF h__law_row (consF (varF i) (consF (constF (.int 1)) (consF (constF (.int 6)) (nilF))))) (consF (binF subD (callF h__law_draw (consF (varF i) (consF (constF (.int 21)) (nilF)))) (constF (.int 10))) (consF (callF h__law_row (consF (varF i) (consF (constF (.int 0)) (consF (constF (.int 6)) (nilF))))) (consF (callF h__law_row (consF (varF i) (consF (constF (.int 1)) (consF (constF (.int 6)) (nilF))))) (nilF)))))
theorem raw_run {ns : List Int} {T : Fx.Tm} (h : St ns T) {i : Nat} {ρ : Rho} (hi : ρ[i]? = some (.dat (.ob 0))) : ∃ p T', Raw p ∧ St ns T' ∧ rawF i ρ T = some (eP p, T') := by
  obtain ⟨b1, T1, x1, y1, s1, e1⟩ := row_st h (lo := 1) (hi := 6) (by omega) (by omega) (by omega)
  obtain ⟨d, T2, x2, y2, s2, e2⟩ := draw_st s1 (n := 21) (by omega) (by omega)
  obtain ⟨b3, T3, x3, y3, s3, e3⟩ := row_st s2 (lo := 0) (hi := 6) (by omega) (by omega) (by omega)
  obtain ⟨b4, T4, x4, y4, s4, e4⟩ := row_st s3 (lo := 1) (hi := 6) (by omega) (by omega) (by omega)
  refine ⟨⟨b1, d - 10, b3, b4⟩, T4, ⟨⟨List.ne_nil_of_length_pos (by show 0 < b1.length; omega), List.ne_nil_of_length_pos (by show 0 < b4.length; omega)⟩, by show b1.length ≤ 6; omega, by show b4.length ≤ 6; omega, by show b3.length ≤ 6; omega, by show _ ≤ d - 10; omega, by show d - 10 ≤ _; omega⟩, s4, ?_⟩
  unfold rawF
  have l4 := len4
  clear x1 y1 x2 y2 x3 y3 x4 y4 s1 s2 s3 s4 h
  walk_at "fy"
  rfl
theorem pattern_run {ns : List Int} {T : Fx.Tm} (h : St ns T) : ∃ q p T', Raw q ∧ Canon p ∧ p.mem = q.mem ∧ PSz p 4000000 ∧ St ns T' ∧ h__law_pattern [.ob 0] T = some (eP p, T') := by
  obtain ⟨q, T1, hq, s1, e1⟩ := raw_run h (i := 0) (ρ := [.dat (.ob 0)]) rfl
  obtain ⟨p, c, m, sz, e2⟩ := written_run q hq.ok hq.sz (by omega) T1
  refine ⟨q, p, T1, hq, c, m, ⟨sz.l, sz.r, sz.m, by have := sz.s; omega, by have := sz.s'; omega⟩, s1, ?_⟩
  unfold h__law_pattern
  show runB (retF (ofF (callF h__law_written (consF (rawF 0) (nilF))))) 1 _ _ = _
  simp only [runB, List.map_cons, List.map_nil, List.cons_append, List.nil_append, List.length_cons, List.length_nil, List.replicate_succ, List.replicate_zero, Nat.reduceAdd, Nat.reduceSub, retF, ofF, callF, consF, nilF, bindF_some, e1, e2]
/-- the state at the law's start -/
theorem st_start (ns : List Int) : St ns [.lst [.int 0, .int 0, .lst (ns.map D.int), .int 1]] := ⟨0, 0, 1, by omega, rfl⟩
/-- an option as data -/
def eO : Option Int → D
  | none => .non
  | some z => .int z
theorem shp (x : PySem.PyData) (h : x = .none ∨ (∃ i, x = .int i) ∨ (∃ b, x = .bool b)) : PySem.SeqAt.shaped x = true := by
  rcases h with rfl | ⟨i, rfl⟩ | ⟨b, rfl⟩ <;> simp [PySem.SeqAt.shaped, PySem.PyData.canLay0, PySem.PyData.depth]
def pO : Option Int → PySem.PyData
  | none => .none
  | some z => .int z
theorem toPy_eO (o : Option Int) : toPy (eO o) = some (pO o) := by cases o <;> simp [eO, pO, toPy]
theorem shp_pO (o : Option Int) : PySem.SeqAt.shaped (pO o) = true := shp _ (by cases o <;> simp [pO])
theorem eqB_eO (a b : Option Int) : eqB (eO a) (eO b) = some (decide (a = b)) := by
  unfold eqB
  rw [toPy_eO, toPy_eO]
  simp only [shp_pO, Bool.and_self, if_true]
  congr 1
  cases a with
  | none => cases b <;> simp [pO, PySem.PyData.eqv]
  | some a =>
    cases b with
    | none => simp [pO, PySem.PyData.eqv]
    | some b => by_cases h : a = b <;> simp [pO, PySem.PyData.eqv, h]
theorem neD_eO (a b : Option Int) : neD (eO a) (eO b) = some (.bl (!decide (a = b))) := by
  unfold neD
  rw [eqB_eO]
  rfl
theorem eqD_eO (a b : Option Int) : eqD (eO a) (eO b) = some (.bl (decide (a = b))) := by
  unfold eqD
  rw [eqB_eO]
  rfl
theorem seqS_nx {a b : FS} {ρ ρ' : Rho} {T T' : Fx.Tm} (h : a ρ T = some (.nx ρ', T')) : seqS a b ρ T = b ρ' T' := by unfold seqS; rw [h]
theorem seqS_rt {a b : FS} {ρ : Rho} {d : D} {T T' : Fx.Tm} (h : a ρ T = some (.rt d, T')) : seqS a b ρ T = some (.rt d, T') := by unfold seqS; rw [h]
theorem seq3 {a b c : FS} {ρ ρ' : Rho} {T T' : Fx.Tm} (h : seqS a b ρ T = some (.nx ρ', T')) : seqS a (seqS b c) ρ T = c ρ' T' := by
  unfold seqS at h ⊢
  cases e : a ρ T with
  | none => rw [e] at h; cases h
  | some q =>
    obtain ⟨r, T1⟩ := q
    rw [e] at h
    cases r with
    | nx ρ1 => simp only at h ⊢; rw [h]
    | rt d => cases h
    | bk d => cases h
    | ct d => cases h
/-- a loop over a range that goes on, with its number -/
theorem forL_rngI {t : Tgt} {body : FS} {inv : Int → Rho → Fx.Tm → Prop} {j : Int} : ∀ (n : Nat) (i : Int), (j - i).toNat = n →
    (∀ k ρ T, i ≤ k → k < j → inv k ρ T → ∃ ρ1 ρ2 T2, tgD t (.int k) ρ = some ρ1 ∧ body ρ1 T = some (.nx ρ2, T2) ∧ inv (k + 1) ρ2 T2) → ∀ ρ T, inv i ρ T →
    ∃ ρ' T', inv (if i ≤ j then j else i) ρ' T' ∧ forL t body (rngL i j) ρ T = some (.nx ρ', T')
  | 0, i, hn, step, ρ, T, h => by
    rw [rngL_nil (by omega)]
    refine ⟨ρ, T, ?_, rfl⟩
    by_cases c : i ≤ j
    · rw [if_pos c, show j = i by omega]
      exact h
    · rw [if_neg c]
      exact h
  | n + 1, i, hn, step, ρ, T, h => by
    rw [rngL_cons (by omega)]
    obtain ⟨ρ1, ρ2, T2, h1, h2, h3⟩ := step i ρ T (by omega) (by omega) h
    obtain ⟨ρ', T', h4, h5⟩ := forL_rngI n (i + 1) (by omega) (fun k ρ T a b => step k ρ T (by omega) b) ρ2 T2 h3
    refine ⟨ρ', T', ?_, ?_⟩
    · rw [if_pos (by omega)] at h4 ⊢
      exact h4
    · unfold forL
      simp only [h1, h2]
      exact h5
end LC
set_option maxHeartbeats 4000000
namespace K1
open PySem PySem.Spec PyProof.Rows L2 Fx LC PM
def topS (i : Nat) : Stmt := PySem.Challenge.pw_sumsaid_k01_sayings.main.body.getD i (.Pass ⟨0, 0, 0, 0⟩)
/-! ### _law_draw -/
abbrev s__law_draw : Stmt := topS 11
abbrev n__law_draw : List Str := [Str.ofString "state", Str.ofString "limit", Str.ofString "digit", Str.ofString "position", Str.ofString "cell", Str.ofString "mixed"]
theorem sc__law_draw : FnScope n__law_draw [Str.ofString "state", Str.ofString "limit"] (defScope s__law_draw) := ⟨rfl, rfl, rfl, by decide +kernel, rfl, by decide +kernel, by decide +kernel⟩
theorem ok__law_draw {P : Program} {w : World} {K : PySem.W.Frag} {mg : Str → Option Value} {base : Heap} {f : Addr} {fd : FuncData} (F : Fun K (Str.ofString "_law_draw") (Str.ofString "_law_draw") s__law_draw f fd) (hm : mg (Str.ofString "_law_draw") = some (.ref f)) (hb : Binds K fd [Str.ofString "state", Str.ofString "limit"] []) (m_int : mg (Str.ofString "int") = none) (m_len : mg (Str.ofString "len") = none) :
    Cal P w K mg base (Str.ofString "_law_draw") 1 2 h__law_draw := by
  unfold h__law_draw
  exact cal_of (N := n__law_draw) (g := g__law_draw) F hm hb sc__law_draw rfl rfl fun cdv A outer s H E hr => xss_cons (xs_if (xt_lt (xe_ix (xo_var 0) (xe_int)) (xe_var 1)) (xss_cons (xs_asg (ps_set (i := 3) sc__law_draw.nd rfl (by first | exact Or.inl rfl | exact Or.inr rfl) (xe_ix (xo_var 0) (xe_int))))
      (xss_cons (xs_set (ps_asg (xe_add (xe_var 3) (xe_int)) (pg_sub (pv 0) (xe_int) set_list)))
      (xss_cons (xs_asg (ps_set (i := 4) sc__law_draw.nd rfl (by first | exact Or.inl rfl | exact Or.inr rfl) (xe_int)))
      (xss_cons (xs_if (xt_lt (xe_var 3) (xe_len (pe_callB call_len (by rfl) m_len PySem.boot_len (pa_cons (xo_of (xe_ix (xo_var 0) (xe_int))) pa_nil)))) (xss_one (xs_asg (ps_set (i := 4) sc__law_draw.nd rfl (by first | exact Or.inl rfl | exact Or.inr rfl) (xe_ix (xo_of (xe_ix (xo_var 0) (xe_int))) (xe_var 3))))) (xss_nil))
      (xss_one (xs_if (xt_ge (xe_var 4) (xe_pow (xe_int) (xe_int))) (xss_one (xs_set (ps_asg (xe_var 4) (pg_sub (pv 0) (xe_int) set_list)))) (xss_cons (xs_set (ps_asg (xe_mod (xe_bl_ (pe_callTy (call_int1) (by rfl) m_int (by decide +kernel) (xa_cons (xe_mul (xe_add (xe_add (xe_add (xe_ix (xo_var 0) (xe_int)) (xe_mod (xe_bl_ (pe_callTy (call_int1) (by rfl) m_int (by decide +kernel) (xa_cons (xe_var 4) (xa_nil))) ok_int) (xe_int))) (xe_var 3)) (xe_int)) (xe_int)) (xa_nil))) ok_int) (xe_int)) (pg_sub (pv 0) (xe_int) set_list)))
      (xss_cons (xs_asg (ps_set (i := 5) sc__law_draw.nd rfl (by first | exact Or.inl rfl | exact Or.inr rfl) (xe_mod (xe_bl_ (pe_callTy (call_int1) (by rfl) m_int (by decide +kernel) (xa_cons (xe_add (xe_mul (xe_ix (xo_var 0) (xe_int)) (xe_int)) (xe_int)) (xa_nil))) ok_int) (xe_int))))
      (xss_one (xs_set (ps_asg (xe_add (xe_mul (xe_var 5) (xe_int)) (xe_mod (xe_bl_ (pe_callTy (call_int1) (by rfl) m_int (by decide +kernel) (xa_cons (xe_add (xe_mul (xe_var 5) (xe_int)) (xe_ix (xo_var 0) (xe_int))) (xa_nil))) ok_int) (xe_int))) (pg_sub (pv 0) (xe_int) set_list)))))))))))) (xss_nil))
      (xss_cons (xs_asg (ps_set (i := 2) sc__law_draw.nd rfl (by first | exact Or.inl rfl | exact Or.inr rfl) (xe_mod (xe_bl_ (pe_callTy (call_int1) (by rfl) m_int (by decide +kernel) (xa_cons (xe_ix (xo_var 0) (xe_int)) (xa_nil))) ok_int) (xe_var 1))))
      (xss_cons (xs_set (ps_asg (xe_fdiv (xe_ix (xo_var 0) (xe_int)) (xe_var 1)) (pg_sub (pv 0) (xe_int) set_list)))
      (xss_one (xs_ret (xo_var 2)))))
/-! ### _law_factors -/
abbrev s__law_factors : Stmt := topS 12
abbrev n__law_factors : List Str := [Str.ofString "state", Str.ofString "count", Str.ofString "far", Str.ofString "row", Str.ofString "k"]
theorem sc__law_factors : FnScope n__law_factors [Str.ofString "state", Str.ofString "count", Str.ofString "far"] (defScope s__law_factors) := ⟨rfl, rfl, rfl, by decide +kernel, rfl, by decide +kernel, by decide +kernel⟩
noncomputable def g__law_factors : FS := seqS (asgF 3 (frzF (compF (.nm 4) (rng1 (consF (varF 1) (nilF))) (yesT) (binF subD (callF h__law_draw (consF (varF 0) (consF (binF addD (binF mulD (constF (.int 2)) (varF 2)) (constF (.int 1))) (nilF)))) (varF 2)) [4])))
      (retF (ofF (tofF (varO 3))))
@[irreducible] noncomputable def h__law_factors : HF := runB g__law_factors 5
theorem ok__law_factors {P : Program} {w : World} {K : PySem.W.Frag} {mg : Str → Option Value} {base : Heap} {f : Addr} {fd : FuncData} (F : Fun K (Str.ofString "_law_factors") (Str.ofString "_law_factors") s__law_factors f fd) (hm : mg (Str.ofString "_law_factors") = some (.ref f)) (hb : Binds K fd [Str.ofString "state", Str.ofString "count", Str.ofString "far"] []) (k__law_draw : Cal P w K mg base (Str.ofString "_law_draw") 1 2 h__law_draw) (m_tuple : mg (Str.ofString "tuple") = none) (m_range : mg (Str.ofString "range") = none) :
    Cal P w K mg base (Str.ofString "_law_factors") 2 3 h__law_factors := by
  unfold h__law_factors
  exact cal_of (N := n__law_factors) (g := g__law_factors) F hm hb sc__law_factors rfl rfl fun cdv A outer s H E hr => xss_cons (xs_frz (asg_lc (ps_setLc (i := 3) (own := [(Str.ofString "k", 4)]) (g := tgT _ (.nm 4)) rfl sc__law_factors.nd rfl rfl (sw_true rfl rfl rfl (by decide +kernel)) (xi_rng1 (pi_range1 (by rfl) m_range (xa_cons (xe_var 1) (xa_nil)))) (blkOk_by (N := n__law_factors) (sc := defScope s__law_factors) (by decide +kernel)) (fun _ _ _ _ _ => pg_name (i := 4) sc__law_factors.nd rfl (by first | exact Or.inl rfl | exact Or.inr rfl)) (fun _ _ _ _ _ => xts_nil) (fun _ _ _ _ _ => xe_sub (xe_own k__law_draw (hr.mono (by decide)) (by rfl) (xa_cons (xe_var 0) (xa_cons (xe_add (xe_mul (xe_int) (xe_var 2)) (xe_int)) (xa_nil))) (len_cons (len_cons (len_nil)))) (xe_var 2)))))
      (xss_one (xs_ret (xo_of (xe_tuple (pe_callTy call_tupleP (by rfl) m_tuple (by decide +kernel) (pa_cons (xo_var 3) pa_nil))))))
/-! ### _law_atom -/
abbrev s__law_atom : Stmt := topS 13
abbrev n__law_atom : List Str := [Str.ofString "state", Str.ofString "count", Str.ofString "far", Str.ofString "factors", Str.ofString "m"]
theorem sc__law_atom : FnScope n__law_atom [Str.ofString "state", Str.ofString "count", Str.ofString "far"] (defScope s__law_atom) := ⟨rfl, rfl, rfl, by decide +kernel, rfl, by decide +kernel, by decide +kernel⟩
noncomputable def g__law_atom : FS := seqS (asgF 3 (callF h__law_factors (consF (varF 0) (consF (varF 1) (consF (varF 2) (nilF))))))
      (seqS (ifS (testF (binF eqD (callF h__law_draw (consF (varF 0) (consF (constF (.int 3)) (nilF)))) (constF (.int 1)))) (seqS (asgF 4 (binF addD (constF (.int 1)) (callF h__law_draw (consF (varF 0) (consF (constF (.int 4)) (nilF))))))
      (retF (ofF (tupF (consF (constF (.str (Str.ofString "rest"))) (consF (varF 3) (consF (varF 4) (consF (callF h__law_draw (consF (varF 0) (consF (varF 4) (nilF)))) (nilF))))))))) (nilS))
      (retF (ofF (tupF (consF (constF (.str (Str.ofString "below"))) (consF (varF 3) (consF (binF subD (callF h__law_draw (consF (varF 0) (consF (constF (.int 21)) (nilF)))) (constF (.int 10))) (nilF))))))))
@[irreducible] noncomputable def h__law_atom : HF := runB g__law_atom 5
theorem ok__law_atom {P : Program} {w : World} {K : PySem.W.Frag} {mg : Str → Option Value} {base : Heap} {f : Addr} {fd : FuncData} (F : Fun K (Str.ofString "_law_atom") (Str.ofString "_law_atom") s__law_atom f fd) (hm : mg (Str.ofString "_law_atom") = some (.ref f)) (hb : Binds K fd [Str.ofString "state", Str.ofString "count", Str.ofString "far"] []) (k__law_factors : Cal P w K mg base (Str.ofString "_law_factors") 2 3 h__law_factors) (k__law_draw : Cal P w K mg base (Str.ofString "_law_draw") 1 2 h__law_draw) :
    Cal P w K mg base (Str.ofString "_law_atom") 3 3 h__law_atom := by
  unfold h__law_atom
  exact cal_of (N := n__law_atom) (g := g__law_atom) F hm hb sc__law_atom rfl rfl fun cdv A outer s H E hr => xss_cons (xs_asg (ps_set (i := 3) sc__law_atom.nd rfl (by first | exact Or.inl rfl | exact Or.inr rfl) (xe_own k__law_factors (hr.mono (by decide)) (by rfl) (xa_cons (xe_var 0) (xa_cons (xe_var 1) (xa_cons (xe_var 2) (xa_nil)))) (len_cons (len_cons (len_cons (len_nil)))))))
      (xss_cons (xs_if (xt_eq hr (xe_own k__law_draw (hr.mono (by decide)) (by rfl) (xa_cons (xe_var 0) (xa_cons (xe_int) (xa_nil))) (len_cons (len_cons (len_nil)))) (xe_int)) (xss_cons (xs_asg (ps_set (i := 4) sc__law_atom.nd rfl (by first | exact Or.inl rfl | exact Or.inr rfl) (xe_add (xe_int) (xe_own k__law_draw (hr.mono (by decide)) (by rfl) (xa_cons (xe_var 0) (xa_cons (xe_int) (xa_nil))) (len_cons (len_cons (len_nil)))))))
      (xss_one (xs_ret (xo_of (xe_tup (xa_cons (xe_str) (xa_cons (xe_var 3) (xa_cons (xe_var 4) (xa_cons (xe_own k__law_draw (hr.mono (by decide)) (by rfl) (xa_cons (xe_var 0) (xa_cons (xe_var 4) (xa_nil))) (len_cons (len_cons (len_nil)))) (xa_nil)))))))))) (xss_nil))
      (xss_one (xs_ret (xo_of (xe_tup (xa_cons (xe_str) (xa_cons (xe_var 3) (xa_cons (xe_sub (xe_own k__law_draw (hr.mono (by decide)) (by rfl) (xa_cons (xe_var 0) (xa_cons (xe_int) (xa_nil))) (len_cons (len_cons (len_nil)))) (xe_int)) (xa_nil)))))))))
/-! ### _law_plain -/
abbrev s__law_plain : Stmt := topS 14
abbrev n__law_plain : List Str := [Str.ofString "state", Str.ofString "count", Str.ofString "many", Str.ofString "far", Str.ofString "lines", Str.ofString "k", Str.ofString "number", Str.ofString "choice", Str.ofString "other"]
theorem sc__law_plain : FnScope n__law_plain [Str.ofString "state", Str.ofString "count", Str.ofString "many", Str.ofString "far"] (defScope s__law_plain) := ⟨rfl, rfl, rfl, by decide +kernel, rfl, by decide +kernel, by decide +kernel⟩
noncomputable def g__law_plain : FS := seqS (ownF 4 (lstF (consF (callF h__law_atom (consF (varF 0) (consF (varF 1) (consF (varF 3) (nilF))))) (nilF))))
      (seqS (forS (.nm 5) (rng1 (consF (callF h__law_draw (consF (varF 0) (consF (varF 2) (nilF)))) (nilF))) (seqS (asgF 6 (binF subD (lenF (varO 4)) (constF (.int 1))))
      (seqS (asgF 7 (callF h__law_draw (consF (varF 0) (consF (constF (.int 4)) (nilF)))))
      (seqS (appF 4 (callF h__law_atom (consF (varF 0) (consF (varF 1) (consF (varF 3) (nilF))))))
      (seqS (asgF 8 (binF subD (lenF (varO 4)) (constF (.int 1))))
      (seqS (ifS (testF (binF eqD (varF 7) (constF (.int 0)))) (seqS (appF 4 (tupF (consF (constF (.str (Str.ofString "not"))) (consF (varF 8) (nilF)))))
      (asgF 8 (binF subD (lenF (varO 4)) (constF (.int 1))))) (nilS))
      (seqS (ifS (testF (binF eqD (varF 7) (constF (.int 1)))) (seqS (appF 4 (tupF (consF (constF (.str (Str.ofString "not"))) (consF (varF 6) (nilF)))))
      (asgF 6 (binF subD (lenF (varO 4)) (constF (.int 1))))) (nilS))
      (seqS (appF 4 (tupF (consF (constF (.str (Str.ofString "both"))) (consF (varF 6) (consF (varF 8) (nilF))))))
      (ifS (andT (testF (binF gtD (varF 7) (constF (.int 1)))) (testF (binF eqD (callF h__law_draw (consF (varF 0) (consF (constF (.int 2)) (nilF)))) (constF (.int 1))))) (appF 4 (tupF (consF (constF (.str (Str.ofString "not"))) (consF (binF subD (lenF (varO 4)) (constF (.int 1))) (nilF))))) (nilS))))))))))
      (retF (ofF (tofF (varO 4)))))
@[irreducible] noncomputable def h__law_plain : HF := runB g__law_plain 9
theorem ok__law_plain {P : Program} {w : World} {K : PySem.W.Frag} {mg : Str → Option Value} {base : Heap} {f : Addr} {fd : FuncData} (F : Fun K (Str.ofString "_law_plain") (Str.ofString "_law_plain") s__law_plain f fd) (hm : mg (Str.ofString "_law_plain") = some (.ref f)) (hb : Binds K fd [Str.ofString "state", Str.ofString "count", Str.ofString "many", Str.ofString "far"] []) (k__law_atom : Cal P w K mg base (Str.ofString "_law_atom") 3 3 h__law_atom) (k__law_draw : Cal P w K mg base (Str.ofString "_law_draw") 1 2 h__law_draw) (m_range : mg (Str.ofString "range") = none) (m_tuple : mg (Str.ofString "tuple") = none) (m_len : mg (Str.ofString "len") = none) :
    Cal P w K mg base (Str.ofString "_law_plain") 4 4 h__law_plain := by
  unfold h__law_plain
  exact cal_of (N := n__law_plain) (g := g__law_plain) F hm hb sc__law_plain rfl rfl fun cdv A outer s H E hr => xss_cons (xs_own (ps_set (i := 4) sc__law_plain.nd rfl (by first | exact Or.inl rfl | exact Or.inr rfl) (xl_lst (xa_cons (xe_own k__law_atom (hr.mono (by decide)) (by rfl) (xa_cons (xe_var 0) (xa_cons (xe_var 1) (xa_cons (xe_var 3) (xa_nil)))) (len_cons (len_cons (len_cons (len_nil))))) (xa_nil)))))
      (xss_cons (xs_for (t := (.nm 5)) PassesOwn.never rfl (xi_rng1 (pi_range1 (by rfl) m_range (xa_cons (xe_own k__law_draw (hr.mono (by decide)) (by rfl) (xa_cons (xe_var 0) (xa_cons (xe_var 2) (xa_nil))) (len_cons (len_cons (len_nil)))) (xa_nil)))) (pg_name (i := 5) sc__law_plain.nd rfl (by first | exact Or.inl rfl | exact Or.inr rfl)) (xss_cons (xs_asg (ps_set (i := 6) sc__law_plain.nd rfl (by first | exact Or.inl rfl | exact Or.inr rfl) (xe_sub (xe_len (pe_callB call_len (by rfl) m_len PySem.boot_len (pa_cons (xo_var 4) pa_nil))) (xe_int))))
      (xss_cons (xs_asg (ps_set (i := 7) sc__law_plain.nd rfl (by first | exact Or.inl rfl | exact Or.inr rfl) (xe_own k__law_draw (hr.mono (by decide)) (by rfl) (xa_cons (xe_var 0) (xa_cons (xe_int) (xa_nil))) (len_cons (len_cons (len_nil))))))
      (xss_cons (xs_app (ps_expr (pe_bm PySem.F.plainAttrs_list PySem.F.slot_list_append PySem.F.type_list_append mt_append (pv 4) (pa_cons (xe_own k__law_atom (hr.mono (by decide)) (by rfl) (xa_cons (xe_var 0) (xa_cons (xe_var 1) (xa_cons (xe_var 3) (xa_nil)))) (len_cons (len_cons (len_cons (len_nil))))) pa_nil))))
      (xss_cons (xs_asg (ps_set (i := 8) sc__law_plain.nd rfl (by first | exact Or.inl rfl | exact Or.inr rfl) (xe_sub (xe_len (pe_callB call_len (by rfl) m_len PySem.boot_len (pa_cons (xo_var 4) pa_nil))) (xe_int))))
      (xss_cons (xs_if (xt_eq hr (xe_var 7) (xe_int)) (xss_cons (xs_app (ps_expr (pe_bm PySem.F.plainAttrs_list PySem.F.slot_list_append PySem.F.type_list_append mt_append (pv 4) (pa_cons (xe_tup (xa_cons (xe_str) (xa_cons (xe_var 8) (xa_nil)))) pa_nil))))
      (xss_one (xs_asg (ps_set (i := 8) sc__law_plain.nd rfl (by first | exact Or.inl rfl | exact Or.inr rfl) (xe_sub (xe_len (pe_callB call_len (by rfl) m_len PySem.boot_len (pa_cons (xo_var 4) pa_nil))) (xe_int)))))) (xss_nil))
      (xss_cons (xs_if (xt_eq hr (xe_var 7) (xe_int)) (xss_cons (xs_app (ps_expr (pe_bm PySem.F.plainAttrs_list PySem.F.slot_list_append PySem.F.type_list_append mt_append (pv 4) (pa_cons (xe_tup (xa_cons (xe_str) (xa_cons (xe_var 6) (xa_nil)))) pa_nil))))
      (xss_one (xs_asg (ps_set (i := 6) sc__law_plain.nd rfl (by first | exact Or.inl rfl | exact Or.inr rfl) (xe_sub (xe_len (pe_callB call_len (by rfl) m_len PySem.boot_len (pa_cons (xo_var 4) pa_nil))) (xe_int)))))) (xss_nil))
      (xss_cons (xs_app (ps_expr (pe_bm PySem.F.plainAttrs_list PySem.F.slot_list_append PySem.F.type_list_append mt_append (pv 4) (pa_cons (xe_tup (xa_cons (xe_str) (xa_cons (xe_var 6) (xa_cons (xe_var 8) (xa_nil))))) pa_nil))))
      (xss_one (xs_if (xt_w (xw_and (xt_gt (xe_var 7) (xe_int)) (xw_and1 (xt_eq hr (xe_own k__law_draw (hr.mono (by decide)) (by rfl) (xa_cons (xe_var 0) (xa_cons (xe_int) (xa_nil))) (len_cons (len_cons (len_nil)))) (xe_int))))) (xss_one (xs_app (ps_expr (pe_bm PySem.F.plainAttrs_list PySem.F.slot_list_append PySem.F.type_list_append mt_append (pv 4) (pa_cons (xe_tup (xa_cons (xe_str) (xa_cons (xe_sub (xe_len (pe_callB call_len (by rfl) m_len PySem.boot_len (pa_cons (xo_var 4) pa_nil))) (xe_int)) (xa_nil)))) pa_nil))))) (xss_nil)))))))))))
      (xss_one (xs_ret (xo_of (xe_tuple (pe_callTy call_tupleP (by rfl) m_tuple (by decide +kernel) (pa_cons (xo_var 4) pa_nil)))))))
/-! ### are_factors -/
abbrev s_are_factors : Stmt := topS 8
abbrev n_are_factors : List Str := [Str.ofString "factors", Str.ofString "factor"]
theorem sc_are_factors : FnScope n_are_factors [Str.ofString "factors"] (defScope s_are_factors) := ⟨rfl, rfl, rfl, by decide +kernel, rfl, by decide +kernel, by decide +kernel⟩
noncomputable def g_are_factors : FS := retF (ofF (andV (binF leD (lenF (varO 0)) (constF (.int 6))) (allF (ofF (frzF (compF (.nm 1) (itU (varF 0)) (yesT) (binF leD (blF absD (consF (varF 1) (nilF))) (constF (.int 9))) [1]))))))
@[irreducible] noncomputable def h_are_factors : HF := runB g_are_factors 2
theorem ok_are_factors {P : Program} {w : World} {K : PySem.W.Frag} {mg : Str → Option Value} {base : Heap} {f : Addr} {fd : FuncData} (F : Fun K (Str.ofString "are_factors") (Str.ofString "are_factors") s_are_factors f fd) (hm : mg (Str.ofString "are_factors") = some (.ref f)) (hb : Binds K fd [Str.ofString "factors"] []) (m_all : mg (Str.ofString "all") = none) (m_len : mg (Str.ofString "len") = none) (m_abs : mg (Str.ofString "abs") = none) (c_MOST_FACTORS : ∃ t, mg (Str.ofString "MOST_FACTORS") = some (.int 6 t)) (c_GREATEST_FACTOR : ∃ t, mg (Str.ofString "GREATEST_FACTOR") = some (.int 9 t)) :
    Cal P w K mg base (Str.ofString "are_factors") 1 1 h_are_factors := by
  unfold h_are_factors
  exact cal_of (N := n_are_factors) (g := g_are_factors) F hm hb sc_are_factors rfl rfl fun cdv A outer s H E hr => xss_one (xs_ret (xo_of (xe_and (xe_le (xe_len (pe_callB call_len (by rfl) m_len PySem.boot_len (pa_cons (xo_var 0) pa_nil))) (xe_gint (by rfl) c_MOST_FACTORS)) (xe_one (xe_all (pe_callB (cr_all rfl) (by rfl) m_all (by decide +kernel) (pa_cons (xo_of (xe_frz (xl_lc (pe_lc (own := [(Str.ofString "factor", 1)]) (g := tgT _ (.nm 1)) rfl sc_are_factors.nd (xi_seq (xe_var 0)) (blkOk_by (N := n_are_factors) (sc := defScope s_are_factors) (by decide +kernel)) (fun _ _ _ _ _ => pg_name (i := 1) sc_are_factors.nd rfl (by first | exact Or.inl rfl | exact Or.inr rfl)) (fun _ _ _ _ _ => xts_nil) (fun _ _ _ _ _ => xe_le (xe_bl_ (pe_callB (call_abs) (by rfl) m_abs (by decide +kernel) (xa_cons (xe_var 1) (xa_nil))) ok_abs) (xe_gint (by rfl) c_GREATEST_FACTOR)))))) pa_nil)))))))
/-! ### is_line -/
abbrev s_is_line : Stmt := topS 7
abbrev n_is_line : List Str := [Str.ofString "line", Str.ofString "index"]
theorem sc_is_line : FnScope n_is_line [Str.ofString "line", Str.ofString "index"] (defScope s_is_line) := ⟨rfl, rfl, rfl, by decide +kernel, rfl, by decide +kernel, by decide +kernel⟩
noncomputable def g_is_line : FS := seqS (ifS (andT (testF (binF eqD (lenF (varO 0)) (constF (.int 2)))) (testF (binF inD (ixF (varO 0) (constF (.int 0))) (tupF (consF (constF (.str (Str.ofString "not"))) (consF (constF (.str (Str.ofString "there"))) (nilF))))))) (retF (ofF (chF leD ltD (constF (.int 0)) (ixF (varO 0) (constF (.int 1))) (varF 1)))) (nilS))
      (seqS (ifS (andT (testF (binF eqD (lenF (varO 0)) (constF (.int 3)))) (testF (binF eqD (ixF (varO 0) (constF (.int 0))) (constF (.str (Str.ofString "both")))))) (retF (ofF (andV (chF leD ltD (constF (.int 0)) (ixF (varO 0) (constF (.int 1))) (varF 1)) (chF leD ltD (constF (.int 0)) (ixF (varO 0) (constF (.int 2))) (varF 1))))) (nilS))
      (seqS (ifS (andT (testF (binF eqD (lenF (varO 0)) (constF (.int 3)))) (testF (binF eqD (ixF (varO 0) (constF (.int 0))) (constF (.str (Str.ofString "below")))))) (retF (ofF (andV (callF h_are_factors (consF (ixF (varO 0) (constF (.int 1))) (nilF))) (binF leD (blF absD (consF (ixF (varO 0) (constF (.int 2))) (nilF))) (constF (.int 99)))))) (nilS))
      (seqS (ifS (andT (testF (binF eqD (lenF (varO 0)) (constF (.int 4)))) (testF (binF eqD (ixF (varO 0) (constF (.int 0))) (constF (.str (Str.ofString "rest")))))) (retF (ofF (andV (callF h_are_factors (consF (ixF (varO 0) (constF (.int 1))) (nilF))) (andV (chF leD leD (constF (.int 1)) (ixF (varO 0) (constF (.int 2))) (constF (.int 12))) (chF leD ltD (constF (.int 0)) (ixF (varO 0) (constF (.int 3))) (ixF (varO 0) (constF (.int 2)))))))) (nilS))
      (retF (ofF (constF (.bl false)))))))
@[irreducible] noncomputable def h_is_line : HF := runB g_is_line 2
theorem ok_is_line {P : Program} {w : World} {K : PySem.W.Frag} {mg : Str → Option Value} {base : Heap} {f : Addr} {fd : FuncData} (F : Fun K (Str.ofString "is_line") (Str.ofString "is_line") s_is_line f fd) (hm : mg (Str.ofString "is_line") = some (.ref f)) (hb : Binds K fd [Str.ofString "line", Str.ofString "index"] []) (k_are_factors : Cal P w K mg base (Str.ofString "are_factors") 1 1 h_are_factors) (m_len : mg (Str.ofString "len") = none) (m_abs : mg (Str.ofString "abs") = none) (c_GREATEST_CONSTANT : ∃ t, mg (Str.ofString "GREATEST_CONSTANT") = some (.int 99 t)) (c_GREATEST_MODULUS : ∃ t, mg (Str.ofString "GREATEST_MODULUS") = some (.int 12 t)) :
    Cal P w K mg base (Str.ofString "is_line") 2 2 h_is_line := by
  unfold h_is_line
  exact cal_of (N := n_is_line) (g := g_is_line) F hm hb sc_is_line rfl rfl fun cdv A outer s H E hr => xss_cons (xs_if (xt_w (xw_and (xt_eq hr (xe_len (pe_callB call_len (by rfl) m_len PySem.boot_len (pa_cons (xo_var 0) pa_nil))) (xe_int)) (xw_and1 (xt_in hr (xe_ix (xo_var 0) (xe_int)) (xe_tup (xa_cons (xe_str) (xa_cons (xe_str) (xa_nil)))))))) (xss_one (xs_ret (xo_of (xe_ch (na_ii0 fun _ _ _ _ => .bl _) (ok_ii0 fun _ _ _ _ => .bl _) (pe_chain op_le op_lt (xe_int) (xe_ix (xo_var 0) (xe_int)) (xe_var 1)))))) (xss_nil))
      (xss_cons (xs_if (xt_w (xw_and (xt_eq hr (xe_len (pe_callB call_len (by rfl) m_len PySem.boot_len (pa_cons (xo_var 0) pa_nil))) (xe_int)) (xw_and1 (xt_eq hr (xe_ix (xo_var 0) (xe_int)) (xe_str))))) (xss_one (xs_ret (xo_of (xe_and (xe_ch (na_ii0 fun _ _ _ _ => .bl _) (ok_ii0 fun _ _ _ _ => .bl _) (pe_chain op_le op_lt (xe_int) (xe_ix (xo_var 0) (xe_int)) (xe_var 1))) (xe_one (xe_ch (na_ii0 fun _ _ _ _ => .bl _) (ok_ii0 fun _ _ _ _ => .bl _) (pe_chain op_le op_lt (xe_int) (xe_ix (xo_var 0) (xe_int)) (xe_var 1)))))))) (xss_nil))
      (xss_cons (xs_if (xt_w (xw_and (xt_eq hr (xe_len (pe_callB call_len (by rfl) m_len PySem.boot_len (pa_cons (xo_var 0) pa_nil))) (xe_int)) (xw_and1 (xt_eq hr (xe_ix (xo_var 0) (xe_int)) (xe_str))))) (xss_one (xs_ret (xo_of (xe_and (xe_own k_are_factors (hr.mono (by decide)) (by rfl) (xa_cons (xe_ix (xo_var 0) (xe_int)) (xa_nil)) (len_cons (len_nil))) (xe_one (xe_le (xe_bl_ (pe_callB (call_abs) (by rfl) m_abs (by decide +kernel) (xa_cons (xe_ix (xo_var 0) (xe_int)) (xa_nil))) ok_abs) (xe_gint (by rfl) c_GREATEST_CONSTANT))))))) (xss_nil))
      (xss_cons (xs_if (xt_w (xw_and (xt_eq hr (xe_len (pe_callB call_len (by rfl) m_len PySem.boot_len (pa_cons (xo_var 0) pa_nil))) (xe_int)) (xw_and1 (xt_eq hr (xe_ix (xo_var 0) (xe_int)) (xe_str))))) (xss_one (xs_ret (xo_of (xe_and (xe_own k_are_factors (hr.mono (by decide)) (by rfl) (xa_cons (xe_ix (xo_var 0) (xe_int)) (xa_nil)) (len_cons (len_nil))) (xe_and (xe_ch (na_ii0 fun _ _ _ _ => .bl _) (ok_ii0 fun _ _ _ _ => .bl _) (pe_chain op_le op_le (xe_int) (xe_ix (xo_var 0) (xe_int)) (xe_gint (by rfl) c_GREATEST_MODULUS))) (xe_one (xe_ch (na_ii0 fun _ _ _ _ => .bl _) (ok_ii0 fun _ _ _ _ => .bl _) (pe_chain op_le op_lt (xe_int) (xe_ix (xo_var 0) (xe_int)) (xe_ix (xo_var 0) (xe_int)))))))))) (xss_nil))
      (xss_one (xs_ret (xo_of (xe_bl)))))))
/-! ### is_saying -/
abbrev s_is_saying : Stmt := topS 6
abbrev n_is_saying : List Str := [Str.ofString "saying", Str.ofString "index", Str.ofString "line"]
theorem sc_is_saying : FnScope n_is_saying [Str.ofString "saying"] (defScope s_is_saying) := ⟨rfl, rfl, rfl, by decide +kernel, rfl, by decide +kernel, by decide +kernel⟩
noncomputable def g_is_saying : FS := seqS (ifS (notT (testF (chF leD leD (constF (.int 1)) (lenF (varO 0)) (constF (.int 40))))) (retF (ofF (constF (.bl false)))) (nilS))
      (retF (ofF (allF (ofF (frzF (compF (.tp [1, 2]) (itE (varF 0)) (yesT) (callF h_is_line (consF (varF 2) (consF (varF 1) (nilF)))) [1, 2]))))))
@[irreducible] noncomputable def h_is_saying : HF := runB g_is_saying 3
theorem ok_is_saying {P : Program} {w : World} {K : PySem.W.Frag} {mg : Str → Option Value} {base : Heap} {f : Addr} {fd : FuncData} (F : Fun K (Str.ofString "is_saying") (Str.ofString "is_saying") s_is_saying f fd) (hm : mg (Str.ofString "is_saying") = some (.ref f)) (hb : Binds K fd [Str.ofString "saying"] []) (k_is_line : Cal P w K mg base (Str.ofString "is_line") 2 2 h_is_line) (m_all : mg (Str.ofString "all") = none) (m_len : mg (Str.ofString "len") = none) (m_enumerate : mg (Str.ofString "enumerate") = none) (c_MOST_LINES : ∃ t, mg (Str.ofString "MOST_LINES") = some (.int 40 t)) :
    Cal P w K mg base (Str.ofString "is_saying") 3 1 h_is_saying := by
  unfold h_is_saying
  exact cal_of (N := n_is_saying) (g := g_is_saying) F hm hb sc_is_saying rfl rfl fun cdv A outer s H E hr => xss_cons (xs_if (xt_not (xt_ch (na_ii0 fun _ _ _ _ => .bl _) (ok_ii0 fun _ _ _ _ => .bl _) (pt_chain op_le op_le (xe_int) (xe_len (pe_callB call_len (by rfl) m_len PySem.boot_len (pa_cons (xo_var 0) pa_nil))) (xe_gint (by rfl) c_MOST_LINES)))) (xss_one (xs_ret (xo_of (xe_bl)))) (xss_nil))
      (xss_one (xs_ret (xo_of (xe_all (pe_callB (cr_all rfl) (by rfl) m_all (by decide +kernel) (pa_cons (xo_of (xe_frz (xl_lc (pe_lc (own := [(Str.ofString "index", 1), (Str.ofString "line", 2)]) (g := tgT _ (.tp [1, 2])) rfl sc_is_saying.nd (xi_enum (by rfl) m_enumerate (xe_var 0)) (blkOk_by (N := n_is_saying) (sc := defScope s_is_saying) (by decide +kernel)) (fun _ _ _ _ _ => pg_tup rfl (pgs_cons (pg_name (i := 1) sc_is_saying.nd rfl (by first | exact Or.inl rfl | exact Or.inr rfl)) (pgs_cons (pg_name (i := 2) sc_is_saying.nd rfl (by first | exact Or.inl rfl | exact Or.inr rfl)) (pgs_nil)))) (fun _ _ _ _ _ => xts_nil) (fun _ _ _ _ _ => xe_own k_is_line (hr.mono (by decide)) (by rfl) (xa_cons (xe_var 2) (xa_cons (xe_var 1) (xa_nil))) (len_cons (len_cons (len_nil)))))))) pa_nil))))))
/-! ### is_plain -/
abbrev s_is_plain : Stmt := topS 9
abbrev n_is_plain : List Str := [Str.ofString "saying", Str.ofString "line"]
theorem sc_is_plain : FnScope n_is_plain [Str.ofString "saying"] (defScope s_is_plain) := ⟨rfl, rfl, rfl, by decide +kernel, rfl, by decide +kernel, by decide +kernel⟩
noncomputable def g_is_plain : FS := retF (ofF (allF (ofF (frzF (compF (.nm 1) (itU (varF 0)) (yesT) (binF neD (ixF (varO 1) (constF (.int 0))) (constF (.str (Str.ofString "there")))) [1])))))
@[irreducible] noncomputable def h_is_plain : HF := runB g_is_plain 2
theorem ok_is_plain {P : Program} {w : World} {K : PySem.W.Frag} {mg : Str → Option Value} {base : Heap} {f : Addr} {fd : FuncData} (F : Fun K (Str.ofString "is_plain") (Str.ofString "is_plain") s_is_plain f fd) (hm : mg (Str.ofString "is_plain") = some (.ref f)) (hb : Binds K fd [Str.ofString "saying"] []) (m_all : mg (Str.ofString "all") = none) :
    Cal P w K mg base (Str.ofString "is_plain") 1 1 h_is_plain := by
  unfold h_is_plain
  exact cal_of (N := n_is_plain) (g := g_is_plain) F hm hb sc_is_plain rfl rfl fun cdv A outer s H E hr => xss_one (xs_ret (xo_of (xe_all (pe_callB (cr_all rfl) (by rfl) m_all (by decide +kernel) (pa_cons (xo_of (xe_frz (xl_lc (pe_lc (own := [(Str.ofString "line", 1)]) (g := tgT _ (.nm 1)) rfl sc_is_plain.nd (xi_seq (xe_var 0)) (blkOk_by (N := n_is_plain) (sc := defScope s_is_plain) (by decide +kernel)) (fun _ _ _ _ _ => pg_name (i := 1) sc_is_plain.nd rfl (by first | exact Or.inl rfl | exact Or.inr rfl)) (fun _ _ _ _ _ => xts_nil) (fun _ _ _ _ _ => xe_ne hr (xe_ix (xo_var 1) (xe_int)) (xe_str)))))) pa_nil)))))
/-! ### law -/
abbrev s_law : Stmt := topS 15
abbrev n_law : List Str := [Str.ofString "script", Str.ofString "state", Str.ofString "saying", Str.ofString "size", Str.ofString "more", Str.ofString "longer", Str.ofString "deep", Str.ofString "k", Str.ofString "away", Str.ofString "odd", Str.ofString "line", Str.ofString "good", Str.ofString "at"]
theorem sc_law : FnScope n_law [Str.ofString "script"] (defScope s_law) := ⟨rfl, rfl, rfl, by decide +kernel, rfl, by decide +kernel, by decide +kernel⟩
noncomputable def g_law : FS := seqS (objF 1 (lstF (consF (constF (.int 0)) (consF (constF (.int 0)) (consF (frzF (lofF (varO 0))) (consF (constF (.int 1)) (nilF)))))))
      (seqS (asgF 2 (callF h__law_plain (consF (varF 1) (consF (constF (.int 3)) (consF (constF (.int 4)) (consF (constF (.int 3)) (nilF)))))))
      (seqS (asgF 3 (lenF (varO 2)))
      (seqS (asgF 4 (binF addD (varF 2) (tupF (consF (tupF (consF (constF (.str (Str.ofString "there"))) (consF (binF subD (varF 3) (constF (.int 1))) (nilF)))) (nilF)))))
      (seqS (ifS (orT (testF (binF isntF (callF h_is_saying (consF (varF 2) (nilF))) (constF (.bl true)))) (testF (binF isntF (callF h_is_saying (consF (varF 4) (nilF))) (constF (.bl true))))) (retF (ofF (constF (.bl false)))) (nilS))
      (seqS (asgF 5 (binF addD (varF 4) (binF mulD (tupF (consF (tupF (consF (constF (.str (Str.ofString "not"))) (consF (constF (.int 0)) (nilF)))) (nilF))) (binF addD (constF (.int 1)) (callF h__law_draw (consF (varF 1) (consF (constF (.int 5)) (nilF))))))))
      (seqS (ifS (orT (testF (binF isntF (callF h_is_plain (consF (varF 2) (nilF))) (constF (.bl true)))) (orT (testF (binF isntF (callF h_is_plain (consF (varF 4) (nilF))) (constF (.bl false)))) (testF (binF isntF (callF h_is_plain (consF (varF 5) (nilF))) (constF (.bl false)))))) (retF (ofF (constF (.bl false)))) (nilS))
      (seqS (asgF 6 (varF 2))
      (seqS (forS (.nm 7) (rng1 (consF (binF addD (constF (.int 2)) (callF h__law_draw (consF (varF 1) (consF (constF (.int 8)) (nilF))))) (nilF))) (asgF 6 (binF addD (varF 6) (tupF (consF (tupF (consF (constF (.str (Str.ofString "there"))) (consF (callF h__law_draw (consF (varF 1) (consF (lenF (varO 6)) (nilF)))) (nilF)))) (nilF))))))
      (seqS (ifS (orT (testF (binF isntF (callF h_is_saying (consF (varF 6) (nilF))) (constF (.bl true)))) (testF (binF isntF (callF h_is_saying (consF (varF 5) (nilF))) (constF (.bl true))))) (retF (ofF (constF (.bl false)))) (nilS))
      (seqS (asgF 8 (binF addD (constF (.int 1)) (callF h__law_draw (consF (varF 1) (consF (constF (.int 50)) (nilF))))))
      (seqS (asgF 9 (frzF (lstF (consF (tupF (nilF)) (consF (tupF (consF (constF (.str (Str.ofString "under"))) (consF (constF (.int 0)) (consF (constF (.int 0)) (nilF))))) (consF (tupF (consF (constF (.str (Str.ofString "under"))) (nilF))) (consF (tupF (consF (constF (.str (Str.ofString "not"))) (consF (binF subD (constF (.int 0)) (constF (.int 1))) (nilF)))) (consF (tupF (consF (constF (.str (Str.ofString "there"))) (consF (binF subD (constF (.int 0)) (varF 8)) (nilF)))) (consF (tupF (consF (constF (.str (Str.ofString "both"))) (consF (binF subD (constF (.int 0)) (varF 8)) (consF (constF (.int 0)) (nilF))))) (consF (tupF (consF (constF (.str (Str.ofString "rest"))) (consF (tupF (consF (constF (.int 1)) (nilF))) (consF (binF subD (constF (.int 0)) (constF (.int 1))) (consF (constF (.int 0)) (nilF)))))) (consF (tupF (consF (constF (.str (Str.ofString "rest"))) (consF (tupF (consF (constF (.int 0)) (consF (binF subD (binF subD (constF (.int 0)) (constF (.int 9))) (varF 8)) (nilF)))) (consF (constF (.int 3)) (consF (constF (.int 0)) (nilF)))))) (consF (tupF (consF (constF (.str (Str.ofString "below"))) (consF (tupF (consF (constF (.int 1)) (nilF))) (consF (binF addD (constF (.int 99)) (varF 8)) (nilF))))) (consF (tupF (consF (constF (.str (Str.ofString "below"))) (consF (tupF (consF (binF addD (constF (.int 9)) (varF 8)) (nilF))) (consF (constF (.int 1)) (nilF))))) (consF (tupF (consF (constF (.str (Str.ofString "rest"))) (consF (tupF (consF (constF (.int 1)) (nilF))) (consF (binF addD (constF (.int 12)) (varF 8)) (consF (constF (.int 0)) (nilF)))))) (consF (tupF (consF (constF (.str (Str.ofString "rest"))) (consF (tupF (consF (constF (.int 1)) (nilF))) (consF (constF (.int 3)) (consF (binF addD (constF (.int 2)) (varF 8)) (nilF)))))) (consF (tupF (consF (constF (.str (Str.ofString "not"))) (consF (binF addD (varF 3) (varF 8)) (nilF)))) (consF (tupF (consF (constF (.str (Str.ofString "below"))) (consF (tupF (consF (constF (.int 1)) (nilF))) (nilF)))) (consF (tupF (consF (constF (.str (Str.ofString "below"))) (consF (tupF (consF (constF (.int 1)) (nilF))) (consF (constF (.int 2)) (consF (constF (.int 3)) (nilF)))))) (consF (tupF (consF (constF (.str (Str.ofString "below"))) (consF (tupF (consF (constF (.int 10)) (nilF))) (consF (constF (.int 1)) (nilF))))) (consF (tupF (consF (constF (.str (Str.ofString "below"))) (consF (tupF (consF (constF (.int 0)) (consF (binF subD (constF (.int 0)) (constF (.int 10))) (nilF)))) (consF (constF (.int 1)) (nilF))))) (consF (tupF (consF (constF (.str (Str.ofString "below"))) (consF (binF mulD (tupF (consF (constF (.int 1)) (nilF))) (constF (.int 7))) (consF (constF (.int 1)) (nilF))))) (consF (tupF (consF (constF (.str (Str.ofString "below"))) (consF (tupF (consF (constF (.int 1)) (nilF))) (consF (constF (.int 100)) (nilF))))) (consF (tupF (consF (constF (.str (Str.ofString "below"))) (consF (tupF (consF (constF (.int 1)) (nilF))) (consF (binF subD (constF (.int 0)) (constF (.int 100))) (nilF))))) (consF (tupF (consF (constF (.str (Str.ofString "rest"))) (consF (tupF (consF (constF (.int 1)) (nilF))) (consF (constF (.int 3)) (nilF))))) (consF (tupF (consF (constF (.str (Str.ofString "rest"))) (consF (tupF (consF (constF (.int 1)) (nilF))) (consF (constF (.int 3)) (consF (constF (.int 3)) (nilF)))))) (consF (tupF (consF (constF (.str (Str.ofString "rest"))) (consF (tupF (consF (constF (.int 1)) (nilF))) (consF (constF (.int 0)) (consF (constF (.int 0)) (nilF)))))) (consF (tupF (consF (constF (.str (Str.ofString "rest"))) (consF (tupF (consF (constF (.int 1)) (nilF))) (consF (constF (.int 13)) (consF (constF (.int 0)) (nilF)))))) (consF (tupF (consF (constF (.str (Str.ofString "rest"))) (consF (tupF (consF (constF (.int 1)) (nilF))) (consF (constF (.int 3)) (consF (binF subD (constF (.int 0)) (constF (.int 1))) (nilF)))))) (consF (tupF (consF (constF (.str (Str.ofString "rest"))) (consF (tupF (consF (constF (.int 1)) (nilF))) (consF (constF (.int 3)) (consF (constF (.int 0)) (consF (constF (.int 0)) (nilF))))))) (consF (tupF (consF (constF (.str (Str.ofString "not"))) (consF (varF 3) (nilF)))) (consF (tupF (consF (constF (.str (Str.ofString "not"))) (nilF))) (consF (tupF (consF (constF (.str (Str.ofString "not"))) (consF (constF (.int 0)) (consF (constF (.int 0)) (nilF))))) (consF (tupF (consF (constF (.str (Str.ofString "both"))) (consF (constF (.int 0)) (nilF)))) (consF (tupF (consF (constF (.str (Str.ofString "both"))) (consF (constF (.int 0)) (consF (varF 3) (nilF))))) (consF (tupF (consF (constF (.str (Str.ofString "both"))) (consF (varF 3) (consF (constF (.int 0)) (nilF))))) (consF (tupF (consF (constF (.str (Str.ofString "both"))) (consF (constF (.int 0)) (consF (binF subD (constF (.int 0)) (constF (.int 1))) (nilF))))) (consF (tupF (consF (constF (.str (Str.ofString "there"))) (nilF))) (consF (tupF (consF (constF (.str (Str.ofString "there"))) (consF (varF 3) (nilF)))) (consF (tupF (consF (constF (.str (Str.ofString "both"))) (consF (constF (.int 0)) (consF (constF (.int 0)) (consF (constF (.int 0)) (nilF)))))) (consF (tupF (consF (constF (.str (Str.ofString "rest"))) (consF (binF mulD (tupF (consF (constF (.int 1)) (nilF))) (constF (.int 7))) (consF (constF (.int 3)) (consF (constF (.int 0)) (nilF)))))) (consF (tupF (consF (constF (.str (Str.ofString "rest"))) (consF (tupF (consF (constF (.int 0)) (consF (constF (.int 10)) (nilF)))) (consF (constF (.int 3)) (consF (constF (.int 0)) (nilF)))))) (nilF))))))))))))))))))))))))))))))))))))))))))
      (seqS (forS (.nm 10) (itU (varF 9)) (seqS (ifS (orT (testF (binF isntF (callF h_is_saying (consF (binF addD (varF 2) (tupF (consF (varF 10) (nilF)))) (nilF))) (constF (.bl false)))) (testF (binF isntF (callF h_is_saying (consF (binF addD (tupF (consF (varF 10) (nilF))) (varF 2)) (nilF))) (constF (.bl false))))) (retF (ofF (constF (.bl false)))) (nilS))
      (seqS (asgF 12 (callF h__law_draw (consF (varF 1) (consF (constF (.int 4)) (nilF)))))
      (seqS (asgF 11 (frzF (lstF (consF (tupF (consF (constF (.str (Str.ofString "below"))) (consF (tupF (consF (constF (.int 1)) (nilF))) (consF (constF (.int 2)) (nilF))))) (consF (tupF (consF (constF (.str (Str.ofString "rest"))) (consF (tupF (consF (constF (.int 0)) (consF (constF (.int 1)) (nilF)))) (consF (constF (.int 3)) (consF (constF (.int 1)) (nilF)))))) (consF (tupF (consF (constF (.str (Str.ofString "below"))) (consF (tupF (nilF)) (consF (constF (.int 0)) (nilF))))) (nilF)))))))
      (ifS (testF (binF ninD (varF 10) (frzF (lstF (consF (tupF (consF (constF (.str (Str.ofString "both"))) (consF (constF (.int 0)) (consF (varF 3) (nilF))))) (consF (tupF (consF (constF (.str (Str.ofString "both"))) (consF (varF 3) (consF (constF (.int 0)) (nilF))))) (consF (tupF (consF (constF (.str (Str.ofString "not"))) (consF (varF 3) (nilF)))) (consF (tupF (consF (constF (.str (Str.ofString "there"))) (consF (varF 3) (nilF)))) (consF (tupF (consF (constF (.str (Str.ofString "not"))) (consF (binF addD (varF 3) (varF 8)) (nilF)))) (nilF)))))))))) (ifS (testF (binF isntF (callF h_is_saying (consF (tofF (ofF (binF addD (binF addD (slF (varO 11) (bNo) (bSo (varF 12))) (frzF (lstF (consF (varF 10) (nilF))))) (slF (varO 11) (bSo (varF 12)) (bNo))))) (nilF))) (constF (.bl false)))) (retF (ofF (constF (.bl false)))) (nilS)) (nilS))))))
      (seqS (ifS (orT (testF (binF isntF (callF h_is_saying (consF (tupF (nilF)) (nilF))) (constF (.bl false)))) (testF (binF isntF (callF h_is_saying (consF (binF mulD (tupF (consF (tupF (consF (constF (.str (Str.ofString "below"))) (consF (tupF (nilF)) (consF (constF (.int 0)) (nilF))))) (nilF))) (constF (.int 41))) (nilF))) (constF (.bl false))))) (retF (ofF (constF (.bl false)))) (nilS))
      (seqS (ifS (testF (binF isntF (callF h_is_saying (consF (tupF (consF (tupF (consF (constF (.str (Str.ofString "not"))) (consF (constF (.int 1)) (nilF)))) (consF (tupF (consF (constF (.str (Str.ofString "below"))) (consF (tupF (nilF)) (consF (constF (.int 0)) (nilF))))) (nilF)))) (nilF))) (constF (.bl false)))) (retF (ofF (constF (.bl false)))) (nilS))
      (seqS (asgF 11 (frzF (lstF (consF (tupF (consF (constF (.str (Str.ofString "below"))) (consF (binF mulD (tupF (consF (constF (.int 9)) (consF (binF subD (constF (.int 0)) (constF (.int 9))) (nilF)))) (constF (.int 3))) (consF (constF (.int 99)) (nilF))))) (consF (tupF (consF (constF (.str (Str.ofString "below"))) (consF (tupF (nilF)) (consF (binF subD (constF (.int 0)) (constF (.int 99))) (nilF))))) (consF (tupF (consF (constF (.str (Str.ofString "rest"))) (consF (binF mulD (tupF (consF (constF (.int 9)) (nilF))) (constF (.int 6))) (consF (constF (.int 12)) (consF (constF (.int 11)) (nilF)))))) (consF (tupF (consF (constF (.str (Str.ofString "rest"))) (consF (tupF (nilF)) (consF (constF (.int 1)) (consF (constF (.int 0)) (nilF)))))) (nilF))))))))
      (retF (ofF (allF (ofF (frzF (compF (.nm 10) (itU (varF 11)) (yesT) (binF isF (callF h_is_saying (consF (binF mulD (tupF (consF (varF 10) (nilF))) (constF (.int 40))) (nilF))) (constF (.bl true))) [10])))))))))))))))))))))
@[irreducible] noncomputable def h_law : HF := runB g_law 13
theorem ok_law {P : Program} {w : World} {K : PySem.W.Frag} {mg : Str → Option Value} {base : Heap} {f : Addr} {fd : FuncData} (F : Fun K (Str.ofString "law") (Str.ofString "law") s_law f fd) (k__law_plain : Cal P w K mg base (Str.ofString "_law_plain") 4 4 h__law_plain) (k__law_draw : Cal P w K mg base (Str.ofString "_law_draw") 1 2 h__law_draw) (k_is_saying : Cal P w K mg base (Str.ofString "is_saying") 3 1 h_is_saying) (k_is_plain : Cal P w K mg base (Str.ofString "is_plain") 1 1 h_is_plain) (m_len : mg (Str.ofString "len") = none) (m_range : mg (Str.ofString "range") = none) (m_all : mg (Str.ofString "all") = none) (m_list : mg (Str.ofString "list") = none) (m_tuple : mg (Str.ofString "tuple") = none) :
    FnOk P w K mg base CX0 5 f fd [Str.ofString "script"] (Sf K 1 h_law) := by
  unfold h_law
  exact fn_ok (N := n_law) (g := g_law) F sc_law fun cdv A outer s H E hr => xss_cons (xs_obj (ps_set (i := 1) sc_law.nd rfl (by first | exact Or.inl rfl | exact Or.inr rfl) (xl_lst (xa_cons (xe_int) (xa_cons (xe_int) (xa_cons (xe_frz (xl_list (pe_callTy call_list_of (by rfl) m_list (by decide +kernel) (pa_cons (xo_var 0) pa_nil)))) (xa_cons (xe_int) (xa_nil))))))))
      (xss_cons (xs_asg (ps_set (i := 2) sc_law.nd rfl (by first | exact Or.inl rfl | exact Or.inr rfl) (xe_own k__law_plain (hr.mono (by decide)) (by rfl) (xa_cons (xe_var 1) (xa_cons (xe_int) (xa_cons (xe_int) (xa_cons (xe_int) (xa_nil))))) (len_cons (len_cons (len_cons (len_cons (len_nil))))))))
      (xss_cons (xs_asg (ps_set (i := 3) sc_law.nd rfl (by first | exact Or.inl rfl | exact Or.inr rfl) (xe_len (pe_callB call_len (by rfl) m_len PySem.boot_len (pa_cons (xo_var 2) pa_nil)))))
      (xss_cons (xs_asg (ps_set (i := 4) sc_law.nd rfl (by first | exact Or.inl rfl | exact Or.inr rfl) (xe_add (xe_var 2) (xe_tup (xa_cons (xe_tup (xa_cons (xe_str) (xa_cons (xe_sub (xe_var 3) (xe_int)) (xa_nil)))) (xa_nil))))))
      (xss_cons (xs_if (xt_w (xw_or (xt_isnt (xe_own k_is_saying (hr.mono (by decide)) (by rfl) (xa_cons (xe_var 2) (xa_nil)) (len_cons (len_nil))) (xe_bl)) (xw_or1 (xt_isnt (xe_own k_is_saying (hr.mono (by decide)) (by rfl) (xa_cons (xe_var 4) (xa_nil)) (len_cons (len_nil))) (xe_bl))))) (xss_one (xs_ret (xo_of (xe_bl)))) (xss_nil))
      (xss_cons (xs_asg (ps_set (i := 5) sc_law.nd rfl (by first | exact Or.inl rfl | exact Or.inr rfl) (xe_add (xe_var 4) (xe_mul (xe_tup (xa_cons (xe_tup (xa_cons (xe_str) (xa_cons (xe_int) (xa_nil)))) (xa_nil))) (xe_add (xe_int) (xe_own k__law_draw (hr.mono (by decide)) (by rfl) (xa_cons (xe_var 1) (xa_cons (xe_int) (xa_nil))) (len_cons (len_cons (len_nil)))))))))
      (xss_cons (xs_if (xt_w (xw_or (xt_isnt (xe_own k_is_plain (hr.mono (by decide)) (by rfl) (xa_cons (xe_var 2) (xa_nil)) (len_cons (len_nil))) (xe_bl)) (xw_or (xt_isnt (xe_own k_is_plain (hr.mono (by decide)) (by rfl) (xa_cons (xe_var 4) (xa_nil)) (len_cons (len_nil))) (xe_bl)) (xw_or1 (xt_isnt (xe_own k_is_plain (hr.mono (by decide)) (by rfl) (xa_cons (xe_var 5) (xa_nil)) (len_cons (len_nil))) (xe_bl)))))) (xss_one (xs_ret (xo_of (xe_bl)))) (xss_nil))
      (xss_cons (xs_asg (ps_set (i := 6) sc_law.nd rfl (by first | exact Or.inl rfl | exact Or.inr rfl) (xe_var 2)))
      (xss_cons (xs_for (t := (.nm 7)) PassesOwn.never rfl (xi_rng1 (pi_range1 (by rfl) m_range (xa_cons (xe_add (xe_int) (xe_own k__law_draw (hr.mono (by decide)) (by rfl) (xa_cons (xe_var 1) (xa_cons (xe_int) (xa_nil))) (len_cons (len_cons (len_nil))))) (xa_nil)))) (pg_name (i := 7) sc_law.nd rfl (by first | exact Or.inl rfl | exact Or.inr rfl)) (xss_one (xs_asg (ps_set (i := 6) sc_law.nd rfl (by first | exact Or.inl rfl | exact Or.inr rfl) (xe_add (xe_var 6) (xe_tup (xa_cons (xe_tup (xa_cons (xe_str) (xa_cons (xe_own k__law_draw (hr.mono (by decide)) (by rfl) (xa_cons (xe_var 1) (xa_cons (xe_len (pe_callB call_len (by rfl) m_len PySem.boot_len (pa_cons (xo_var 6) pa_nil))) (xa_nil))) (len_cons (len_cons (len_nil)))) (xa_nil)))) (xa_nil))))))))
      (xss_cons (xs_if (xt_w (xw_or (xt_isnt (xe_own k_is_saying (hr.mono (by decide)) (by rfl) (xa_cons (xe_var 6) (xa_nil)) (len_cons (len_nil))) (xe_bl)) (xw_or1 (xt_isnt (xe_own k_is_saying (hr.mono (by decide)) (by rfl) (xa_cons (xe_var 5) (xa_nil)) (len_cons (len_nil))) (xe_bl))))) (xss_one (xs_ret (xo_of (xe_bl)))) (xss_nil))
      (xss_cons (xs_asg (ps_set (i := 8) sc_law.nd rfl (by first | exact Or.inl rfl | exact Or.inr rfl) (xe_add (xe_int) (xe_own k__law_draw (hr.mono (by decide)) (by rfl) (xa_cons (xe_var 1) (xa_cons (xe_int) (xa_nil))) (len_cons (len_cons (len_nil)))))))
      (xss_cons (xs_asg (ps_set (i := 9) sc_law.nd rfl (by first | exact Or.inl rfl | exact Or.inr rfl) (xe_frz (xl_lst (xa_cons (xe_tup (xa_nil)) (xa_cons (xe_tup (xa_cons (xe_str) (xa_cons (xe_int) (xa_cons (xe_int) (xa_nil))))) (xa_cons (xe_tup (xa_cons (xe_str) (xa_nil))) (xa_cons (xe_tup (xa_cons (xe_str) (xa_cons (xe_sub (xe_int) (xe_int)) (xa_nil)))) (xa_cons (xe_tup (xa_cons (xe_str) (xa_cons (xe_sub (xe_int) (xe_var 8)) (xa_nil)))) (xa_cons (xe_tup (xa_cons (xe_str) (xa_cons (xe_sub (xe_int) (xe_var 8)) (xa_cons (xe_int) (xa_nil))))) (xa_cons (xe_tup (xa_cons (xe_str) (xa_cons (xe_tup (xa_cons (xe_int) (xa_nil))) (xa_cons (xe_sub (xe_int) (xe_int)) (xa_cons (xe_int) (xa_nil)))))) (xa_cons (xe_tup (xa_cons (xe_str) (xa_cons (xe_tup (xa_cons (xe_int) (xa_cons (xe_sub (xe_sub (xe_int) (xe_int)) (xe_var 8)) (xa_nil)))) (xa_cons (xe_int) (xa_cons (xe_int) (xa_nil)))))) (xa_cons (xe_tup (xa_cons (xe_str) (xa_cons (xe_tup (xa_cons (xe_int) (xa_nil))) (xa_cons (xe_add (xe_int) (xe_var 8)) (xa_nil))))) (xa_cons (xe_tup (xa_cons (xe_str) (xa_cons (xe_tup (xa_cons (xe_add (xe_int) (xe_var 8)) (xa_nil))) (xa_cons (xe_int) (xa_nil))))) (xa_cons (xe_tup (xa_cons (xe_str) (xa_cons (xe_tup (xa_cons (xe_int) (xa_nil))) (xa_cons (xe_add (xe_int) (xe_var 8)) (xa_cons (xe_int) (xa_nil)))))) (xa_cons (xe_tup (xa_cons (xe_str) (xa_cons (xe_tup (xa_cons (xe_int) (xa_nil))) (xa_cons (xe_int) (xa_cons (xe_add (xe_int) (xe_var 8)) (xa_nil)))))) (xa_cons (xe_tup (xa_cons (xe_str) (xa_cons (xe_add (xe_var 3) (xe_var 8)) (xa_nil)))) (xa_cons (xe_tup (xa_cons (xe_str) (xa_cons (xe_tup (xa_cons (xe_int) (xa_nil))) (xa_nil)))) (xa_cons (xe_tup (xa_cons (xe_str) (xa_cons (xe_tup (xa_cons (xe_int) (xa_nil))) (xa_cons (xe_int) (xa_cons (xe_int) (xa_nil)))))) (xa_cons (xe_tup (xa_cons (xe_str) (xa_cons (xe_tup (xa_cons (xe_int) (xa_nil))) (xa_cons (xe_int) (xa_nil))))) (xa_cons (xe_tup (xa_cons (xe_str) (xa_cons (xe_tup (xa_cons (xe_int) (xa_cons (xe_sub (xe_int) (xe_int)) (xa_nil)))) (xa_cons (xe_int) (xa_nil))))) (xa_cons (xe_tup (xa_cons (xe_str) (xa_cons (xe_mul (xe_tup (xa_cons (xe_int) (xa_nil))) (xe_int)) (xa_cons (xe_int) (xa_nil))))) (xa_cons (xe_tup (xa_cons (xe_str) (xa_cons (xe_tup (xa_cons (xe_int) (xa_nil))) (xa_cons (xe_int) (xa_nil))))) (xa_cons (xe_tup (xa_cons (xe_str) (xa_cons (xe_tup (xa_cons (xe_int) (xa_nil))) (xa_cons (xe_sub (xe_int) (xe_int)) (xa_nil))))) (xa_cons (xe_tup (xa_cons (xe_str) (xa_cons (xe_tup (xa_cons (xe_int) (xa_nil))) (xa_cons (xe_int) (xa_nil))))) (xa_cons (xe_tup (xa_cons (xe_str) (xa_cons (xe_tup (xa_cons (xe_int) (xa_nil))) (xa_cons (xe_int) (xa_cons (xe_int) (xa_nil)))))) (xa_cons (xe_tup (xa_cons (xe_str) (xa_cons (xe_tup (xa_cons (xe_int) (xa_nil))) (xa_cons (xe_int) (xa_cons (xe_int) (xa_nil)))))) (xa_cons (xe_tup (xa_cons (xe_str) (xa_cons (xe_tup (xa_cons (xe_int) (xa_nil))) (xa_cons (xe_int) (xa_cons (xe_int) (xa_nil)))))) (xa_cons (xe_tup (xa_cons (xe_str) (xa_cons (xe_tup (xa_cons (xe_int) (xa_nil))) (xa_cons (xe_int) (xa_cons (xe_sub (xe_int) (xe_int)) (xa_nil)))))) (xa_cons (xe_tup (xa_cons (xe_str) (xa_cons (xe_tup (xa_cons (xe_int) (xa_nil))) (xa_cons (xe_int) (xa_cons (xe_int) (xa_cons (xe_int) (xa_nil))))))) (xa_cons (xe_tup (xa_cons (xe_str) (xa_cons (xe_var 3) (xa_nil)))) (xa_cons (xe_tup (xa_cons (xe_str) (xa_nil))) (xa_cons (xe_tup (xa_cons (xe_str) (xa_cons (xe_int) (xa_cons (xe_int) (xa_nil))))) (xa_cons (xe_tup (xa_cons (xe_str) (xa_cons (xe_int) (xa_nil)))) (xa_cons (xe_tup (xa_cons (xe_str) (xa_cons (xe_int) (xa_cons (xe_var 3) (xa_nil))))) (xa_cons (xe_tup (xa_cons (xe_str) (xa_cons (xe_var 3) (xa_cons (xe_int) (xa_nil))))) (xa_cons (xe_tup (xa_cons (xe_str) (xa_cons (xe_int) (xa_cons (xe_sub (xe_int) (xe_int)) (xa_nil))))) (xa_cons (xe_tup (xa_cons (xe_str) (xa_nil))) (xa_cons (xe_tup (xa_cons (xe_str) (xa_cons (xe_var 3) (xa_nil)))) (xa_cons (xe_tup (xa_cons (xe_str) (xa_cons (xe_int) (xa_cons (xe_int) (xa_cons (xe_int) (xa_nil)))))) (xa_cons (xe_tup (xa_cons (xe_str) (xa_cons (xe_mul (xe_tup (xa_cons (xe_int) (xa_nil))) (xe_int)) (xa_cons (xe_int) (xa_cons (xe_int) (xa_nil)))))) (xa_cons (xe_tup (xa_cons (xe_str) (xa_cons (xe_tup (xa_cons (xe_int) (xa_cons (xe_int) (xa_nil)))) (xa_cons (xe_int) (xa_cons (xe_int) (xa_nil)))))) (xa_nil)))))))))))))))))))))))))))))))))))))))))))
      (xss_cons (xs_for (t := (.nm 10)) PassesOwn.never rfl (xi_seq (xe_var 9)) (pg_name (i := 10) sc_law.nd rfl (by first | exact Or.inl rfl | exact Or.inr rfl)) (xss_cons (xs_if (xt_w (xw_or (xt_isnt (xe_own k_is_saying (hr.mono (by decide)) (by rfl) (xa_cons (xe_add (xe_var 2) (xe_tup (xa_cons (xe_var 10) (xa_nil)))) (xa_nil)) (len_cons (len_nil))) (xe_bl)) (xw_or1 (xt_isnt (xe_own k_is_saying (hr.mono (by decide)) (by rfl) (xa_cons (xe_add (xe_tup (xa_cons (xe_var 10) (xa_nil))) (xe_var 2)) (xa_nil)) (len_cons (len_nil))) (xe_bl))))) (xss_one (xs_ret (xo_of (xe_bl)))) (xss_nil))
      (xss_cons (xs_asg (ps_set (i := 12) sc_law.nd rfl (by first | exact Or.inl rfl | exact Or.inr rfl) (xe_own k__law_draw (hr.mono (by decide)) (by rfl) (xa_cons (xe_var 1) (xa_cons (xe_int) (xa_nil))) (len_cons (len_cons (len_nil))))))
      (xss_cons (xs_asg (ps_set (i := 11) sc_law.nd rfl (by first | exact Or.inl rfl | exact Or.inr rfl) (xe_frz (xl_lst (xa_cons (xe_tup (xa_cons (xe_str) (xa_cons (xe_tup (xa_cons (xe_int) (xa_nil))) (xa_cons (xe_int) (xa_nil))))) (xa_cons (xe_tup (xa_cons (xe_str) (xa_cons (xe_tup (xa_cons (xe_int) (xa_cons (xe_int) (xa_nil)))) (xa_cons (xe_int) (xa_cons (xe_int) (xa_nil)))))) (xa_cons (xe_tup (xa_cons (xe_str) (xa_cons (xe_tup (xa_nil)) (xa_cons (xe_int) (xa_nil))))) (xa_nil))))))))
      (xss_one (xs_if (xt_nin hr (xe_var 10) (xe_frz (xl_lst (xa_cons (xe_tup (xa_cons (xe_str) (xa_cons (xe_int) (xa_cons (xe_var 3) (xa_nil))))) (xa_cons (xe_tup (xa_cons (xe_str) (xa_cons (xe_var 3) (xa_cons (xe_int) (xa_nil))))) (xa_cons (xe_tup (xa_cons (xe_str) (xa_cons (xe_var 3) (xa_nil)))) (xa_cons (xe_tup (xa_cons (xe_str) (xa_cons (xe_var 3) (xa_nil)))) (xa_cons (xe_tup (xa_cons (xe_str) (xa_cons (xe_add (xe_var 3) (xe_var 8)) (xa_nil)))) (xa_nil))))))))) (xss_one (xs_if (xt_isnt (xe_own k_is_saying (hr.mono (by decide)) (by rfl) (xa_cons (xe_tuple (pe_callTy call_tupleP (by rfl) m_tuple (by decide +kernel) (pa_cons (xo_of (xe_add (xe_add (xe_sl (xo_var 11) (xb_none) (xb_some (xe_var 12))) (xe_frz (xl_lst (xa_cons (xe_var 10) (xa_nil))))) (xe_sl (xo_var 11) (xb_some (xe_var 12)) (xb_none)))) pa_nil))) (xa_nil)) (len_cons (len_nil))) (xe_bl)) (xss_one (xs_ret (xo_of (xe_bl)))) (xss_nil))) (xss_nil)))))))
      (xss_cons (xs_if (xt_w (xw_or (xt_isnt (xe_own k_is_saying (hr.mono (by decide)) (by rfl) (xa_cons (xe_tup (xa_nil)) (xa_nil)) (len_cons (len_nil))) (xe_bl)) (xw_or1 (xt_isnt (xe_own k_is_saying (hr.mono (by decide)) (by rfl) (xa_cons (xe_mul (xe_tup (xa_cons (xe_tup (xa_cons (xe_str) (xa_cons (xe_tup (xa_nil)) (xa_cons (xe_int) (xa_nil))))) (xa_nil))) (xe_int)) (xa_nil)) (len_cons (len_nil))) (xe_bl))))) (xss_one (xs_ret (xo_of (xe_bl)))) (xss_nil))
      (xss_cons (xs_if (xt_isnt (xe_own k_is_saying (hr.mono (by decide)) (by rfl) (xa_cons (xe_tup (xa_cons (xe_tup (xa_cons (xe_str) (xa_cons (xe_int) (xa_nil)))) (xa_cons (xe_tup (xa_cons (xe_str) (xa_cons (xe_tup (xa_nil)) (xa_cons (xe_int) (xa_nil))))) (xa_nil)))) (xa_nil)) (len_cons (len_nil))) (xe_bl)) (xss_one (xs_ret (xo_of (xe_bl)))) (xss_nil))
      (xss_cons (xs_asg (ps_set (i := 11) sc_law.nd rfl (by first | exact Or.inl rfl | exact Or.inr rfl) (xe_frz (xl_lst (xa_cons (xe_tup (xa_cons (xe_str) (xa_cons (xe_mul (xe_tup (xa_cons (xe_int) (xa_cons (xe_sub (xe_int) (xe_int)) (xa_nil)))) (xe_int)) (xa_cons (xe_int) (xa_nil))))) (xa_cons (xe_tup (xa_cons (xe_str) (xa_cons (xe_tup (xa_nil)) (xa_cons (xe_sub (xe_int) (xe_int)) (xa_nil))))) (xa_cons (xe_tup (xa_cons (xe_str) (xa_cons (xe_mul (xe_tup (xa_cons (xe_int) (xa_nil))) (xe_int)) (xa_cons (xe_int) (xa_cons (xe_int) (xa_nil)))))) (xa_cons (xe_tup (xa_cons (xe_str) (xa_cons (xe_tup (xa_nil)) (xa_cons (xe_int) (xa_cons (xe_int) (xa_nil)))))) (xa_nil)))))))))
      (xss_one (xs_ret (xo_of (xe_all (pe_callB (cr_all rfl) (by rfl) m_all (by decide +kernel) (pa_cons (xo_of (xe_frz (xl_lc (pe_lc (own := [(Str.ofString "line", 10)]) (g := tgT _ (.nm 10)) rfl sc_law.nd (xi_seq (xe_var 11)) (blkOk_by (N := n_law) (sc := defScope s_law) (by decide +kernel)) (fun _ _ _ _ _ => pg_name (i := 10) sc_law.nd rfl (by first | exact Or.inl rfl | exact Or.inr rfl)) (fun _ _ _ _ _ => xts_nil) (fun _ _ _ _ _ => xe_is (xe_own k_is_saying (hr.mono (by decide)) (by rfl) (xa_cons (xe_mul (xe_tup (xa_cons (xe_var 10) (xa_nil))) (xe_int)) (xa_nil)) (len_cons (len_nil))) (xe_bl)))))) pa_nil)))))))))))))))))))))
end K1
namespace K1
open Fx LC PM
open PySem (Str)
/-! ### the words of a line -/
inductive Wd where
  | nt | th | bo | be | re | un
deriving DecidableEq
def Wd.str : Wd → Str
  | .nt => Str.ofString "not"
  | .th => Str.ofString "there"
  | .bo => Str.ofString "both"
  | .be => Str.ofString "below"
  | .re => Str.ofString "rest"
  | .un => Str.ofString "under"
theorem Wd.beq (a b : Wd) : (a.str == b.str) = decide (a = b) := by
  cases a <;> cases b <;> decide +kernel
theorem Wd.ok (a : Wd) : PySem.PyData.strOk a.str = true := by
  cases a <;> decide +kernel
def Wd.d (a : Wd) : D := .str a.str
theorem shp_str {x : Str} (h : PySem.PyData.strOk x = true) : PySem.SeqAt.shaped (.str x) = true := by simp [PySem.SeqAt.shaped, PySem.PyData.canLay0, PySem.PyData.depth, h]
theorem eqD_w (a b : Wd) : eqD a.d b.d = some (.bl (decide (a = b))) := by
  unfold eqD eqB Wd.d
  simp only [toPy, shp_str a.ok, shp_str b.ok, Bool.and_self, if_true, PySem.PyData.eqv, Wd.beq, Option.map_some]
theorem neD_w (a b : Wd) : neD a.d b.d = some (.bl (!decide (a = b))) := by
  unfold neD eqB Wd.d
  simp only [toPy, shp_str a.ok, shp_str b.ok, Bool.and_self, if_true, PySem.PyData.eqv, Wd.beq, Option.map_some]
theorem inD_w (a : Wd) : inD a.d (.tup [Wd.nt.d, Wd.th.d]) = some (.bl (decide (a = .nt) || decide (a = .th))) := by
  have e : ∀ b : Wd, eq1 b.d a.d = decide (a = b) := fun b => by
    show (b.str == a.str) = _
    rw [Wd.beq]
    by_cases h : a = b
    · rw [decide_eq_true h, decide_eq_true h.symm]
    · rw [decide_eq_false h, decide_eq_false fun z => h z.symm]
  show some (D.bl (eq1 Wd.nt.d a.d || (eq1 Wd.th.d a.d || false))) = _
  rw [e, e, Bool.or_false]
/-! ### lines -/
inductive Ag where
  | i (n : Int) | t (ns : List Int)
def eI (ns : List Int) : D := .tup (ns.map D.int)
def Ag.d : Ag → D
  | .i n => .int n
  | .t ns => eI ns
abbrev Line := Option (Wd × List Ag)
def Line.d : Line → D
  | none => .tup []
  | some (a, xs) => .tup (a.d :: xs.map Ag.d)
def facOk (ns : List Int) : Bool := decide ((ns.length : Int) ≤ 6) && ns.all fun n => decide ((if n < 0 then -n else n) ≤ 9)
def le_ (a b : Int) : Bool := decide (a ≤ b)
def lt_ (a b : Int) : Bool := decide (a < b)
def Line.ok : Line → Int → Bool
  | some (.nt, [.i f]), k => decide (0 ≤ f) && decide (f < k)
  | some (.th, [.i f]), k => decide (0 ≤ f) && decide (f < k)
  | some (.bo, [.i f, .i g]), k => (decide (0 ≤ f) && decide (f < k)) && (decide (0 ≤ g) && decide (g < k))
  | some (.be, [.t ns, .i c]), _ => facOk ns && decide ((if c < 0 then -c else c) ≤ 99)
  | some (.re, [.t ns, .i m, .i r]), _ => facOk ns && ((decide (1 ≤ m) && decide (m ≤ 12)) && (decide (0 ≤ r) && decide (r < m)))
  | _, _ => false
/-- the arguments are of the kinds that are read -/
def Line.fit : Line → Bool
  | some (.nt, [.t _]) => false
  | some (.th, [.t _]) => false
  | some (.bo, [.i _, .i _]) => true
  | some (.bo, [_, _]) => false
  | some (.be, [.t ns, .i _]) => decide (ns.length ≤ 1000)
  | some (.be, [_, _]) => false
  | some (.re, [.t ns, .i _, .i _]) => decide (ns.length ≤ 1000)
  | some (.re, [_, _, _]) => false
  | _ => true
local macro_rules | `(tactic| walk_at "fy") => `(tactic| simp only [runB, seqS, nilS, asgF, retF, ifS, testF, binF, varF, varO, constF, ofF, ixF, lenF, bindF_some, blF, consF, nilF, intD_int, iiF_int, ctt_eq, addD_int, mulD_int, callF, tofF, frzF, tupF, negF, andT, orT, notT, rng1, rng2, lrgF, compF, LC.seqD_lst, LC.seqD_tup, ixD_lst, ixD_tup, lenD_lst, lenD_tup, lenD_eB, eqD_int, itU, itE, eP_0, eP_1, eP_2, eP_3, eqD_eB, absD, minD, maxD, unpF, tgD, setN, forS, forL, lstF, ownF, setF, objF, lofF, appF, ifE, andV, chF, allF,
  List.map_cons, List.map_nil, List.cons_append, List.nil_append, List.length_cons, List.length_nil, List.replicate_succ, List.replicate_zero, List.getElem?_cons_zero, List.getElem?_cons_succ, List.set_cons_zero, List.set_cons_succ, Option.map_some, if_true, Nat.reduceAdd, Nat.reduceSub,
  Bool.false_eq_true, if_false, Bool.and_self, wipeR, decide_true, decide_false, Bool.not_true, Bool.not_false, *])
theorem bls_map : ∀ l : List Bool, bls (l.map D.bl) = some l
  | [] => rfl
  | b :: l => by
    show (bls (l.map D.bl)).map (b :: ·) = _
    rw [bls_map l]
    rfl
theorem factors_run (ns : List Int) (h : ns.length ≤ 1000) (T : Fx.Tm) : h_are_factors [eI ns] T = some (.bl (facOk ns), T) := by
  unfold h_are_factors g_are_factors
  have el : lenD T (.val (eI ns)) = some (.int (ns.length : Int)) := by show some (D.int ((ns.map D.int).length : Int)) = _; rw [List.length_map]
  have in1 : tgIn (.nm 1) [1] = true := by decide
  have cp : compL (.nm 1) yesT (binF leD (blF absD (consF (varF 1) (nilF))) (constF (.int 9))) [.dat (eI ns), .un] (ns.map D.int) [] T = some ((ns.map fun n => decide ((if n < 0 then -n else n) ≤ 9)).map D.bl, T) := by
    rw [compL_pure (p := fun _ => true) (g := fun d => match d with | .int n => .bl (decide ((if n < 0 then -n else n) ≤ 9)) | _ => .non) (ns.map D.int) (fun d hd => ?_) [] (by rw [List.length_map, line_eq, List.length_nil]; omega), List.filter_eq_self.mpr fun _ _ => rfl]
    · rw [List.map_map, List.map_map]
      rfl
    · obtain ⟨n, _, rfl⟩ := List.mem_map.mp hd
      exact ⟨_, rfl, rfl, fun _ => rfl⟩
  have ie : itU (varF 0) [.dat (eI ns), .un] T = some (ns.map D.int, T) := rfl
  have b1 := bls_map (ns.map fun n => decide ((if n < 0 then -n else n) ≤ 9))
  have w0 : wipeR [Sl.dat (eI ns), Sl.un] [1] = [.dat (eI ns), .un] := rfl
  have ev : ∀ l : List Bool, l.all id = l.all fun b => b := fun _ => rfl
  have ea : ((ns.map fun n => decide ((if n < 0 then -n else n) ≤ 9)).all id) = ns.all fun n => decide ((if n < 0 then -n else n) ≤ 9) := by rw [List.all_map]; rfl
  have cf : compF (.nm 1) (itU (varF 0)) yesT (binF leD (blF absD (consF (varF 1) (nilF))) (constF (.int 9))) [1] [.dat (eI ns), .un] T = some ((ns.map fun n => decide ((if n < 0 then -n else n) ≤ 9)).map D.bl, T) := by
    unfold compF
    rw [in1, if_pos rfl, ie, bindF_some, w0, cp]
  unfold facOk
  by_cases c : (ns.length : Int) ≤ 6
  · have c' : decide ((ns.length : Int) ≤ 6) = true := decide_eq_true c
    simp only [runB, retF, ofF, andV, allF, frzF, binF, lenF, varO, constF, bindF_some, List.map_cons, List.map_nil, List.cons_append, List.nil_append, List.length_cons, List.length_nil, List.replicate_succ, List.replicate_zero, List.getElem?_cons_zero, Nat.reduceAdd, Nat.reduceSub, el, Option.map_some, iiF_int, ctt_eq, if_true, c', cf, LC.seqD_lst, b1, ea, Bool.true_and]
  · have c' : decide ((ns.length : Int) ≤ 6) = false := decide_eq_false c
    simp only [runB, retF, ofF, andV, allF, frzF, binF, lenF, varO, constF, bindF_some, List.map_cons, List.map_nil, List.cons_append, List.nil_append, List.length_cons, List.length_nil, List.replicate_succ, List.replicate_zero, List.getElem?_cons_zero, Nat.reduceAdd, Nat.reduceSub, el, Option.map_some, iiF_int, ctt_eq, if_true, c', cf, LC.seqD_lst, b1, ea, Bool.false_and]

theorem w_nt : D.str (Str.ofString "not") = Wd.nt.d := rfl
theorem w_th : D.str (Str.ofString "there") = Wd.th.d := rfl
theorem w_bo : D.str (Str.ofString "both") = Wd.bo.d := rfl
theorem w_be : D.str (Str.ofString "below") = Wd.be.d := rfl
theorem w_re : D.str (Str.ofString "rest") = Wd.re.d := rfl
theorem w_un : D.str (Str.ofString "under") = Wd.un.d := rfl
theorem chd (T : Fx.Tm) (b c : Bool) : (match (some (D.bl b) : Option D) with
    | some (.bl true) => some (D.bl c, T)
    | some (.bl false) => some (D.bl false, T)
    | _ => none) = some (D.bl (b && c), T) := by cases b <;> rfl
theorem l2 : ((0 + 1 + 1 : Nat) ≤ PySem.sizeLine) := by rw [line_eq]; omega
theorem len_d (n : Nat) (m : Int) : decide (((n : Nat) : Int) = m) = decide ((n : Int) = m) := rfl
local macro_rules | `(tactic| walk_at "fz") => `(tactic| simp only [runB, seqS, nilS, retF, ifS, testF, binF, varF, varO, constF, ofF, ixF, lenF, bindF_some, blF, consF, nilF, iiF_int, ctt_eq, callF, tupF, andT, LC.seqD_tup, ixD_tup, lenD_tup, eqD_int, absD, andV, chF, Line.d, Ag.d, w_nt, w_th, w_bo, w_be, w_re, eqD_w, inD_w, ix0, ix1, ix2, ix3, l2, Line.ok, reduceCtorEq,
  List.map_cons, List.map_nil, List.cons_append, List.nil_append, List.length_cons, List.length_nil, List.length_map, List.replicate_succ, List.replicate_zero, List.getElem?_cons_zero, List.getElem?_cons_succ, List.set_cons_zero, List.set_cons_succ, Option.map_some, if_true, Nat.reduceAdd, Nat.reduceSub, Int.reduceEq, Int.cast_ofNat_Int,
  Bool.false_eq_true, if_false, Bool.and_self, decide_true, decide_false, Bool.not_true, Bool.not_false, Bool.or_true, Bool.or_false, Bool.true_or, Bool.false_or, Bool.true_and, Bool.false_and, Bool.and_true, Bool.and_false, *])
set_option maxHeartbeats 4000000 in
theorem line_run (l : Line) (h : l.fit = true) (k : Int) (T : Fx.Tm) : h_is_line [l.d, .int k] T = some (.bl (l.ok k), T) := by
  unfold h_is_line g_is_line
  match l, h with
  | none, _ => walk_at "fz"
  | some (a, []), _ => cases a <;> walk_at "fz"
  | some (a, [x]), h =>
    cases x with
    | i f =>
      by_cases c1 : 0 ≤ f <;> by_cases c2 : f < k <;> cases a <;> walk_at "fz"
    | t ns => cases a <;> first | (cases h; done) | (clear h; walk_at "fz")
  | some (a, [x, y]), h =>
    cases a with
    | bo =>
      cases x with
      | t ns => (cases h; done)
      | i f =>
        cases y with
        | t ns => (cases h; done)
        | i g =>
          clear h
          by_cases c1 : 0 ≤ f <;> by_cases c2 : f < k <;> by_cases c3 : 0 ≤ g <;> by_cases c4 : g < k <;> walk_at "fz"
    | be =>
      cases x with
      | i f => cases y <;> (cases h; done)
      | t ns =>
        cases y with
        | t ms => (cases h; done)
        | i c =>
          have e := factors_run ns (by simpa [Line.fit] using h) T
          clear h
          cases c1 : facOk ns <;> by_cases c2 : (if c < 0 then -c else c) ≤ 99 <;> walk_at "fz"
    | nt => clear h; walk_at "fz"
    | th => clear h; walk_at "fz"
    | re => clear h; walk_at "fz"
    | un => clear h; walk_at "fz"
  | some (a, [x, y, z]), h =>
    cases a with
    | re =>
      cases x with
      | i f => cases y <;> cases z <;> (cases h; done)
      | t ns =>
        cases y with
        | t ms => cases z <;> (cases h; done)
        | i m =>
          cases z with
          | t ms => (cases h; done)
          | i r =>
            have e := factors_run ns (by simpa [Line.fit] using h) T
            clear h
            cases c0 : facOk ns <;> by_cases c1 : 1 ≤ m <;> by_cases c2 : m ≤ 12 <;> by_cases c3 : 0 ≤ r <;> by_cases c4 : r < m <;> walk_at "fz"
    | nt => clear h; walk_at "fz"
    | th => clear h; walk_at "fz"
    | bo => clear h; walk_at "fz"
    | be => clear h; walk_at "fz"
    | un => clear h; walk_at "fz"
  | some (a, x :: y :: z :: u :: r), h =>
    clear h
    have n2 : decide ((((r.length + 1 + 1 + 1 + 1 + 1 : Nat) : Int)) = 2) = false := decide_eq_false (by omega)
    have n3 : decide ((((r.length + 1 + 1 + 1 + 1 + 1 : Nat) : Int)) = 3) = false := decide_eq_false (by omega)
    have n4 : decide ((((r.length + 1 + 1 + 1 + 1 + 1 : Nat) : Int)) = 4) = false := decide_eq_false (by omega)
    have lo : Line.ok (some (a, x :: y :: z :: u :: r)) k = false := by cases a <;> simp [Line.ok]
    rw [lo]
    clear lo
    walk_at "fz"
end K1
namespace K1
open Fx LC PM
open PySem (Str)
/-! ### sayings -/
def oks (i : Nat) : List Line → List Bool
  | [] => []
  | l :: r => l.ok (i : Int) :: oks (i + 1) r
theorem comp_lines (T : Fx.Tm) (x0 : Sl) : ∀ (ls : List Line) (i : Nat) (acc : List D), (∀ l ∈ ls, Line.fit l = true) → acc.length + ls.length ≤ PySem.sizeLine →
    compL (.tp [1, 2]) yesT (callF h_is_line (consF (varF 2) (consF (varF 1) (nilF)))) [x0, .un, .un] (enumL i (ls.map Line.d)) acc T = some (acc ++ (oks i ls).map D.bl, T)
  | [], i, acc, _, _ => by
    show some (acc, T) = _
    simp [oks]
  | l :: ls, i, acc, h, hl => by
    have e := line_run l (h l List.mem_cons_self) (i : Int) T
    rw [List.length_cons] at hl
    have ih := comp_lines T x0 ls (i + 1) (acc ++ [.bl (l.ok (i : Int))]) (fun l hl => h l (List.mem_cons_of_mem _ hl)) (by rw [List.length_append, List.length_singleton]; omega)
    show compL _ _ _ _ (.tup [.int (i : Int), l.d] :: enumL (i + 1) (ls.map Line.d)) acc T = _
    unfold compL
    have t1 : tgD (.tp [1, 2]) (.tup [.int (i : Int), l.d]) [x0, .un, .un] = some [x0, .dat (.int (i : Int)), .dat l.d] := rfl
    have e1 : callF h_is_line (consF (varF 2) (consF (varF 1) (nilF))) [x0, .dat (.int (i : Int)), .dat l.d] T = some (.bl (l.ok (i : Int)), T) := by
      simp only [callF, consF, varF, nilF, List.getElem?_cons_succ, List.getElem?_cons_zero, bindF_some, e]
    rw [t1]
    show bindF (yesT _ T) _ = _
    rw [show yesT [x0, Sl.dat (.int (i : Int)), Sl.dat l.d] T = some (true, T) from rfl, bindF_some, if_pos rfl, e1, bindF_some, if_pos (by omega), ih]
    show some (acc ++ [D.bl _] ++ _, T) = some (acc ++ (D.bl _ :: _), T)
    rw [List.append_assoc]
    rfl
def okS (ls : List Line) : Bool := decide (1 ≤ (ls.length : Int)) && decide ((ls.length : Int) ≤ 40) && (oks 0 ls).all id
def eY (ls : List Line) : D := .tup (ls.map Line.d)
theorem saying_run (ls : List Line) (h : ∀ l ∈ ls, Line.fit l = true) (hl : ls.length ≤ 1000) (T : Fx.Tm) : h_is_saying [eY ls] T = some (.bl (okS ls), T) := by
  have el : lenD T (.val (eY ls)) = some (.int (ls.length : Int)) := by show some (D.int ((ls.map Line.d).length : Int)) = _; rw [List.length_map]
  have cp := comp_lines T (.dat (eY ls)) ls 0 [] h (by rw [line_eq, List.length_nil]; omega)
  have cf : compF (.tp [1, 2]) (itE (varF 0)) yesT (callF h_is_line (consF (varF 2) (consF (varF 1) (nilF)))) [1, 2] [.dat (eY ls), .un, .un] T = some ((oks 0 ls).map D.bl, T) := by
    unfold compF
    rw [show tgIn (.tp [1, 2]) [1, 2] = true by decide, if_pos rfl, show itE (varF 0) [Sl.dat (eY ls), .un, .un] T = some (enumL 0 (ls.map Line.d), T) from rfl, bindF_some]
    exact cp
  have b1 := bls_map (oks 0 ls)
  unfold h_is_saying g_is_saying okS
  by_cases c1 : (1 : Int) ≤ (ls.length : Int)
  · by_cases c2 : (ls.length : Int) ≤ 40
    · simp only [runB, seqS, nilS, ifS, notT, testF, chF, retF, ofF, allF, frzF, lenF, varO, constF, bindF_some, List.map_cons, List.map_nil, List.cons_append, List.nil_append, List.length_cons, List.length_nil, List.replicate_succ, List.replicate_zero, List.getElem?_cons_zero, Nat.reduceAdd, Nat.reduceSub, el, Option.map_some, iiF_int, ctt_eq, if_true, c1, c2, decide_true, decide_false, cf, LC.seqD_lst, b1, Bool.true_and, Bool.not_true, Bool.false_eq_true, if_false]
    · simp only [runB, seqS, nilS, ifS, notT, testF, chF, retF, ofF, allF, frzF, lenF, varO, constF, bindF_some, List.map_cons, List.map_nil, List.cons_append, List.nil_append, List.length_cons, List.length_nil, List.replicate_succ, List.replicate_zero, List.getElem?_cons_zero, Nat.reduceAdd, Nat.reduceSub, el, Option.map_some, iiF_int, ctt_eq, if_true, c1, c2, decide_true, decide_false, Bool.true_and, Bool.false_and, Bool.not_false]
  · simp only [runB, seqS, nilS, ifS, notT, testF, chF, retF, ofF, allF, frzF, lenF, varO, constF, bindF_some, List.map_cons, List.map_nil, List.cons_append, List.nil_append, List.length_cons, List.length_nil, List.replicate_succ, List.replicate_zero, List.getElem?_cons_zero, Nat.reduceAdd, Nat.reduceSub, el, Option.map_some, iiF_int, ctt_eq, if_true, c1, decide_true, decide_false, Bool.true_and, Bool.false_and, Bool.not_false]
/-- there is no line there -/
def plW : Line → Bool
  | some (.th, _) => false
  | _ => true
theorem plain_run (ls : List Line) (h : ∀ l ∈ ls, l ≠ none) (hl : ls.length ≤ 1000) (T : Fx.Tm) : h_is_plain [eY ls] T = some (.bl (ls.all plW), T) := by
  have step : ∀ (ls : List Line) (acc : List D), (∀ l ∈ ls, l ≠ none) → acc.length + ls.length ≤ PySem.sizeLine → ∀ x0, compL (.nm 1) yesT (binF neD (ixF (varO 1) (constF (.int 0))) (constF (.str (Str.ofString "there")))) [x0, .un] (ls.map Line.d) acc T = some (acc ++ (ls.map plW).map D.bl, T) := by
    intro ls
    induction ls with
    | nil => intro acc _ _ x0; show some (acc, T) = _; simp
    | cons l ls ih =>
      intro acc h hl x0
      rw [List.length_cons] at hl
      obtain ⟨a, xs, rfl⟩ : ∃ a xs, l = some (a, xs) := by
        cases l with
        | none => exact absurd rfl (h none List.mem_cons_self)
        | some p => exact ⟨p.1, p.2, rfl⟩
      have e := neD_w a .th
      have e0 := ix0 (xs.map Ag.d) a.d
      have pw : plW (some (a, xs)) = !decide (a = .th) := by cases a <;> rfl
      have e1 : binF neD (ixF (varO 1) (constF (.int 0))) (constF (.str (Str.ofString "there"))) [x0, .dat (Line.d (some (a, xs)))] T = some (.bl (plW (some (a, xs))), T) := by
        simp only [binF, ixF, varO, constF, bindF_some, List.getElem?_cons_succ, List.getElem?_cons_zero, Line.d, ixD_tup, e0, Option.map_some, w_th, e, pw]
      show compL _ _ _ _ (Line.d (some (a, xs)) :: ls.map Line.d) acc T = _
      unfold compL
      rw [show tgD (.nm 1) (Line.d (some (a, xs))) [x0, .un] = some [x0, .dat (Line.d (some (a, xs)))] from rfl]
      show bindF (yesT _ T) _ = _
      rw [show yesT [x0, Sl.dat (Line.d (some (a, xs)))] T = some (true, T) from rfl, bindF_some, if_pos rfl, e1, bindF_some, if_pos (by omega), ih (acc ++ [D.bl (plW (some (a, xs)))]) (fun l hl => h l (List.mem_cons_of_mem _ hl)) (by rw [List.length_append, List.length_singleton]; omega)]
      show some (acc ++ [D.bl _] ++ _, T) = some (acc ++ (D.bl _ :: _), T)
      rw [List.append_assoc]
      rfl
  have cf : compF (.nm 1) (itU (varF 0)) yesT (binF neD (ixF (varO 1) (constF (.int 0))) (constF (.str (Str.ofString "there")))) [1] [.dat (eY ls), .un] T = some ((ls.map plW).map D.bl, T) := by
    unfold compF
    rw [show tgIn (.nm 1) [1] = true by decide, if_pos rfl, show itU (varF 0) [Sl.dat (eY ls), .un] T = some (ls.map Line.d, T) from rfl, bindF_some]
    exact step ls [] h (by rw [line_eq, List.length_nil]; omega) _
  have b1 := bls_map (ls.map plW)
  have ea : (ls.map plW).all id = ls.all plW := by rw [List.all_map]; rfl
  unfold h_is_plain g_is_plain
  simp only [runB, retF, ofF, allF, frzF, bindF_some, List.map_cons, List.map_nil, List.cons_append, List.nil_append, List.length_cons, List.length_nil, List.replicate_succ, List.replicate_zero, Nat.reduceAdd, Nat.reduceSub, Option.map_some, cf, LC.seqD_lst, b1, ea]
/-! ### drawn sayings -/
local macro_rules | `(tactic| walk_at "fy") => `(tactic| simp only [runB, seqS, nilS, asgF, retF, ifS, testF, binF, varF, varO, constF, ofF, ixF, lenF, bindF_some, blF, consF, nilF, intD_int, iiF_int, ctt_eq, addD_int, mulD_int, callF, tofF, frzF, tupF, negF, andT, orT, notT, rng1, rng2, lrgF, compF, LC.seqD_lst, LC.seqD_tup, ixD_lst, ixD_tup, lenD_lst, lenD_tup, eqD_int, itU, unpF, tgD, setN, forS, forL, lstF, ownF, setF, objF, lofF, appF, ifE, andV,
  List.map_cons, List.map_nil, List.cons_append, List.nil_append, List.length_cons, List.length_nil, List.replicate_succ, List.replicate_zero, List.getElem?_cons_zero, List.getElem?_cons_succ, List.set_cons_zero, List.set_cons_succ, Option.map_some, if_true, Nat.reduceAdd, Nat.reduceSub,
  Bool.false_eq_true, if_false, Bool.and_self, wipeR, decide_true, decide_false, Bool.not_true, Bool.not_false, *])
theorem facs_run {ns : List Int} {T : Fx.Tm} (h : St ns T) {count far : Int} (h0 : 0 ≤ count) (h1 : count ≤ 1000) (h2 : 0 ≤ far) (h3 : far ≤ 1000) :
    ∃ fs T', (fs.length : Int) = count ∧ (∀ f ∈ fs, -far ≤ f ∧ f ≤ far) ∧ St ns T' ∧ h__law_factors [.ob 0, .int count, .int far] T = some (eI fs, T') := by
  obtain ⟨xs, T', k1, k2, k3, k4⟩ := compL_all (t := .nm 4) (e := binF subD (callF h__law_draw (consF (varF 0) (consF (binF addD (binF mulD (constF (.int 2)) (varF 2)) (constF (.int 1))) (nilF)))) (varF 2))
    (ρw := [.dat (.ob 0), .dat (.int count), .dat (.int far), .un, .un]) (Pt := St ns) (R := fun x => ∃ f, x = .int f ∧ -far ≤ f ∧ f ≤ far) (rngL 0 count) (fun x hx T hT => by
      obtain ⟨k, rfl, _, _⟩ := rngL_mem hx
      obtain ⟨d, T1, g1, g2, t1, e1⟩ := draw_st hT (n := 2 * far + 1) (by omega) (by omega)
      refine ⟨_, .int (d - far), T1, rfl, ?_, ⟨_, rfl, by omega, by omega⟩, t1⟩
      have m1 : cMul 2 far = true := cm_l (by omega)
      clear hT t1 g1 g2 h0 h1 h2 h3 hx
      walk_at "fy") [] T h (by rw [rngL_len, line_eq, List.length_nil]; omega)
  have hx : ∀ xs : List D, (∀ x ∈ xs, ∃ f, x = .int f ∧ -far ≤ f ∧ f ≤ far) → ∃ fs : List Int, xs = fs.map D.int ∧ ∀ f ∈ fs, -far ≤ f ∧ f ≤ far := by
    intro xs
    induction xs with
    | nil => exact fun _ => ⟨[], rfl, fun _ h => by cases h⟩
    | cons x xs ih =>
      intro h
      obtain ⟨f, rfl, h1, h2⟩ := h x List.mem_cons_self
      obtain ⟨fs, rfl, h3⟩ := ih fun y hy => h y (List.mem_cons_of_mem _ hy)
      exact ⟨f :: fs, rfl, fun g hg => (List.mem_cons.mp hg).elim (fun e => e ▸ ⟨h1, h2⟩) (h3 g)⟩
  obtain ⟨fs, rfl, hf⟩ := hx xs k3
  rw [List.length_map, rngL_len] at k2
  refine ⟨fs, T', by omega, hf, k4, ?_⟩
  have r1 : in62 count = true := in62_of (by omega) (by omega)
  have in4 : tgIn (.nm 4) [4] = true := by decide
  unfold h__law_factors g__law_factors eI
  clear k3 k4 h hf
  walk_at "fy"
/-- what a line drawn is -/
structure Ln (l : Line) (n : Nat) : Prop where
  fit : Line.fit l = true
  ne : l ≠ none
  pl : plW l = true
  ok : l.ok (n : Int) = true
theorem fac3 {fs : List Int} {far : Int} (h : fs.length ≤ 6) (hf : ∀ f ∈ fs, -far ≤ f ∧ f ≤ far) (h9 : far ≤ 9) : facOk fs = true := by
  unfold facOk
  rw [decide_eq_true (show (fs.length : Int) ≤ 6 by omega), Bool.true_and, List.all_eq_true]
  intro f hm
  have := hf f hm
  apply decide_eq_true
  split <;> omega
theorem atom_run {ns : List Int} {T : Fx.Tm} (h : St ns T) {count far : Int} (h0 : 0 ≤ count) (h1 : count ≤ 6) (h2 : 0 ≤ far) (h3 : far ≤ 9) :
    ∃ l T', (∀ n, Ln l n) ∧ St ns T' ∧ h__law_atom [.ob 0, .int count, .int far] T = some (l.d, T') := by
  obtain ⟨fs, T1, q1, q2, t1, e1⟩ := facs_run h h0 (by omega) h2 (by omega)
  obtain ⟨d, T2, g1, g2, t2, e2⟩ := draw_st t1 (n := 3) (by omega) (by omega)
  have fk := fac3 (by omega) q2 h3
  by_cases c : d = 1
  · obtain ⟨m, T3, g3, g4, t3, e3⟩ := draw_st t2 (n := 4) (by omega) (by omega)
    obtain ⟨r, T4, g5, g6, t4, e4⟩ := draw_st t3 (n := 1 + m) (by omega) (by omega)
    refine ⟨some (.re, [.t fs, .i (1 + m), .i r]), T4, fun n => ⟨by simp [Line.fit]; omega, by simp, rfl, ?_⟩, t4, ?_⟩
    · show (facOk fs && ((decide (1 ≤ 1 + m) && decide (1 + m ≤ 12)) && (decide (0 ≤ r) && decide (r < 1 + m)))) = true
      rw [fk, decide_eq_true (show 1 ≤ 1 + m by omega), decide_eq_true (show 1 + m ≤ 12 by omega), decide_eq_true g5, decide_eq_true g6]
      rfl
    · have c' : decide (d = 1) = true := decide_eq_true c
      have l4 := len4
      unfold h__law_atom g__law_atom
      clear h h0 h1 h2 h3 q1 q2 t1 t2 t3 t4 g1 g2 g3 g4 g5 g6 c fk
      walk_at "fy"
      rfl
  · obtain ⟨k, T3, g3, g4, t3, e3⟩ := draw_st t2 (n := 21) (by omega) (by omega)
    refine ⟨some (.be, [.t fs, .i (k - 10)]), T3, fun n => ⟨by simp [Line.fit]; omega, by simp, rfl, ?_⟩, t3, ?_⟩
    · show (facOk fs && decide ((if k - 10 < 0 then -(k - 10) else k - 10) ≤ 99)) = true
      rw [fk, decide_eq_true (show (if k - 10 < 0 then -(k - 10) else k - 10) ≤ 99 by split <;> omega)]
      rfl
    · have c' : decide (d = 1) = false := decide_eq_false c
      have l3 : ((0 + 1 + 1 + 1 : Nat) ≤ PySem.sizeLine) := by rw [line_eq]; omega
      unfold h__law_atom g__law_atom
      clear h h0 h1 h2 h3 q1 q2 t1 t2 t3 g1 g2 g3 g4 c fk
      walk_at "fy"
      rfl
/-! ### the saying -/
noncomputable def plB : FS := seqS (asgF 6 (binF subD (lenF (varO 4)) (constF (.int 1))))
      (seqS (asgF 7 (callF h__law_draw (consF (varF 0) (consF (constF (.int 4)) (nilF)))))
      (seqS (appF 4 (callF h__law_atom (consF (varF 0) (consF (varF 1) (consF (varF 3) (nilF))))))
      (seqS (asgF 8 (binF subD (lenF (varO 4)) (constF (.int 1))))
      (seqS (ifS (testF (binF eqD (varF 7) (constF (.int 0)))) (seqS (appF 4 (tupF (consF (constF (.str (Str.ofString "not"))) (consF (varF 8) (nilF)))))
      (asgF 8 (binF subD (lenF (varO 4)) (constF (.int 1))))) (nilS))
      (seqS (ifS (testF (binF eqD (varF 7) (constF (.int 1)))) (seqS (appF 4 (tupF (consF (constF (.str (Str.ofString "not"))) (consF (varF 6) (nilF)))))
      (asgF 6 (binF subD (lenF (varO 4)) (constF (.int 1))))) (nilS))
      (seqS (appF 4 (tupF (consF (constF (.str (Str.ofString "both"))) (consF (varF 6) (consF (varF 8) (nilF))))))
      (ifS (andT (testF (binF gtD (varF 7) (constF (.int 1)))) (testF (binF eqD (callF h__law_draw (consF (varF 0) (consF (constF (.int 2)) (nilF)))) (constF (.int 1))))) (appF 4 (tupF (consF (constF (.str (Str.ofString "not"))) (consF (binF subD (lenF (varO 4)) (constF (.int 1))) (nilF))))) (nilS))))))))
theorem plain_eq : g__law_plain = seqS (ownF 4 (lstF (consF (callF h__law_atom (consF (varF 0) (consF (varF 1) (consF (varF 3) (nilF))))) (nilF))))
      (seqS (forS (.nm 5) (rng1 (consF (callF h__law_draw (consF (varF 0) (consF (varF 2) (nilF)))) (nilF))) plB)
      (retF (ofF (tofF (varO 4))))) := rfl


def Vl (ls : List Line) : Prop := ∀ (i : Nat) (l : Line), ls[i]? = some l → Ln l i
theorem Vl.snoc {ls : List Line} (h : Vl ls) {l : Line} (hl : Ln l ls.length) : Vl (ls ++ [l]) := fun i x hx => by
  by_cases hi : i < ls.length
  · rw [List.getElem?_append_left hi] at hx
    exact h i x hx
  · rw [List.getElem?_append_right (by omega)] at hx
    have e : i - ls.length = 0 := by
      have := (List.getElem?_eq_some_iff.mp hx).1
      simp at this
      omega
    rw [e] at hx
    cases hx
    rw [show i = ls.length by omega]
    exact hl
theorem vl_one {l : Line} (hl : Ln l 0) : Vl [l] := Vl.snoc (ls := []) (fun i x hx => by simp at hx) hl
theorem ln_no {f n : Nat} (h : f < n) : Ln (some (.nt, [.i (f : Int)])) n := ⟨rfl, by simp, rfl, by
  show (decide ((0 : Int) ≤ f) && decide ((f : Int) < n)) = true
  rw [decide_eq_true (by omega), decide_eq_true (by omega)]
  rfl⟩
theorem ln_bo {f g n : Nat} (h : f < n) (h2 : g < n) : Ln (some (.bo, [.i (f : Int), .i (g : Int)])) n := ⟨rfl, by simp, rfl, by
  show ((decide ((0 : Int) ≤ f) && decide ((f : Int) < n)) && (decide ((0 : Int) ≤ g) && decide ((g : Int) < n))) = true
  rw [decide_eq_true (by omega), decide_eq_true (by omega), decide_eq_true (by omega), decide_eq_true (by omega)]
  rfl⟩
theorem map_snoc (ls : List Line) (l : Line) : (ls.map Line.d) ++ [l.d] = (ls ++ [l]).map Line.d := by rw [List.map_append]; rfl
theorem lenD_own (T : Fx.Tm) (i : Nat) (ds : List D) : lenD T (.own i ds) = some (.int (ds.length : Int)) := rfl
theorem d_no (f : Int) : D.tup [Wd.nt.d, .int f] = Line.d (some (.nt, [.i f])) := rfl
theorem d_bo (f g : Int) : D.tup [Wd.bo.d, .int f, .int g] = Line.d (some (.bo, [.i f, .i g])) := rfl
theorem l3 : ((0 + 1 + 1 + 1 : Nat) ≤ PySem.sizeLine) := by rw [line_eq]; omega
theorem len_map (ls : List Line) : (ls.map Line.d).length = ls.length := List.length_map _
theorem len_sn (ls : List Line) (l : Line) : (ls ++ [l]).length = ls.length + 1 := by rw [List.length_append]; rfl
theorem succ_sub (n : Nat) : ((n + 1 : Nat) : Int) - 1 = (n : Int) := by omega
theorem lt_line {n : Nat} (h : n ≤ 1000) : n < PySem.sizeLine := by rw [line_eq]; omega
local macro_rules | `(tactic| walk_at "fl") => `(tactic| simp only [runB, seqS, nilS, asgF, retF, ifS, testF, binF, varF, varO, constF, ofF, ixF, lenF, bindF_some, blF, consF, nilF, intD_int, iiF_int, ctt_eq, addD_int, mulD_int, callF, tofF, frzF, tupF, negF, andT, orT, notT, rng1, rng2, lrgF, compF, LC.seqD_lst, LC.seqD_tup, ixD_lst, ixD_tup, lenD_lst, lenD_tup, lenD_own, w_nt, w_bo, w_th, d_no, d_bo, eqD_int, itU, unpF, tgD, setN, forS, forL, lstF, ownF, setF, objF, lofF, appF, ifE, andV,
  List.map_cons, List.map_nil, List.cons_append, List.nil_append, List.length_cons, List.length_nil, List.replicate_succ, List.replicate_zero, List.getElem?_cons_zero, List.getElem?_cons_succ, List.set_cons_zero, List.set_cons_succ, Option.map_some, if_true, Nat.reduceAdd, Nat.reduceSub,
  Bool.false_eq_true, if_false, Bool.and_self, wipeR, decide_true, decide_false, Bool.not_true, Bool.not_false, *])
set_option maxHeartbeats 4000000 in
theorem plB_run {ns : List Int} {T : Fx.Tm} (h : St ns T) (L : List Line) (hv : Vl L) (h1 : 1 ≤ L.length) (h2 : L.length ≤ 100) {count far : Int} (h0 : 0 ≤ count) (hc : count ≤ 6) (hf : 0 ≤ far) (hf9 : far ≤ 9) (many : Sl) (x5 x6 x7 x8 : Sl) :
    ∃ L' z6 z7 z8 T', Vl L' ∧ L.length ≤ L'.length ∧ L'.length ≤ L.length + 3 ∧ St ns T' ∧ plB [.dat (.ob 0), .dat (.int count), many, .dat (.int far), .own (L.map Line.d), x5, x6, x7, x8] T = some (.nx [.dat (.ob 0), .dat (.int count), many, .dat (.int far), .own (L'.map Line.d), x5, z6, z7, z8], T') := by
  obtain ⟨c, T1, g1, g2, t1, e1⟩ := draw_st h (n := 4) (by omega) (by omega)
  obtain ⟨l, T2, hl, t2, e2⟩ := atom_run t1 h0 hc hf hf9
  obtain ⟨n, hn⟩ : ∃ n : Nat, L.length = n + 1 := ⟨L.length - 1, by omega⟩
  have v1 := hv.snoc (hl L.length)
  have k1 : (L ++ [l]).length = n + 1 + 1 := by rw [len_sn, hn]
  have s1 : n + 1 < PySem.sizeLine := lt_line (by omega)
  have s2 : n + 1 + 1 < PySem.sizeLine := lt_line (by omega)
  have s3 : n + 1 + 1 + 1 < PySem.sizeLine := lt_line (by omega)
  have m0 := len_map L
  have m1 := len_map (L ++ [l])
  have a1 := map_snoc L l
  have u1 := succ_sub n
  have u2 := succ_sub (n + 1)
  have u3 := succ_sub (n + 1 + 1)
  have q2 := l2
  have q3 := l3
  have c4 : c = 0 ∨ c = 1 ∨ (1 < c ∧ c ≠ 0 ∧ c ≠ 1) := by omega
  unfold plB
  rcases c4 with rfl | rfl | ⟨cg, cn0, cn1⟩
  · -- 0: the new one denied
    have v2 := v1.snoc (l := some (.nt, [.i ((n + 1 : Nat) : Int)])) (ln_no (by omega))
    have k2 : (L ++ [l] ++ [some (Wd.nt, [Ag.i ((n + 1 : Nat) : Int)])]).length = n + 1 + 1 + 1 := by rw [len_sn, k1]
    have v3 := v2.snoc (l := some (.bo, [.i ((n : Nat) : Int), .i ((n + 1 + 1 : Nat) : Int)])) (ln_bo (by omega) (by omega))
    refine ⟨L ++ [l] ++ [some (.nt, [.i ((n + 1 : Nat) : Int)])] ++ [some (.bo, [.i ((n : Nat) : Int), .i ((n + 1 + 1 : Nat) : Int)])], .dat (.int (n : Int)), .dat (.int 0), .dat (.int ((n + 1 + 1 : Nat) : Int)), T2, v3, by rw [len_sn, k2]; omega, by rw [len_sn, k2]; omega, t2, ?_⟩
    have a2 := map_snoc (L ++ [l]) (some (.nt, [.i ((n + 1 : Nat) : Int)]))
    have a3 := map_snoc (L ++ [l] ++ [some (.nt, [.i ((n + 1 : Nat) : Int)])]) (some (.bo, [.i ((n : Nat) : Int), .i ((n + 1 + 1 : Nat) : Int)]))
    have m2 := len_map (L ++ [l] ++ [some (.nt, [.i ((n + 1 : Nat) : Int)])])
    have d0 : decide ((0 : Int) = 1) = false := decide_eq_false (by omega)
    have d1 : decide ((1 : Int) < 0) = false := decide_eq_false (by omega)
    rw [← a3]
    clear a3 v1 v2 v3 hv hl h t1 t2 g1 g2 h0 hc hf hf9 h1 h2
    walk_at "fl"
  · -- 1: the old one denied
    have v2 := v1.snoc (l := some (.nt, [.i ((n : Nat) : Int)])) (ln_no (by omega))
    have k2 : (L ++ [l] ++ [some (Wd.nt, [Ag.i ((n : Nat) : Int)])]).length = n + 1 + 1 + 1 := by rw [len_sn, k1]
    have v3 := v2.snoc (l := some (.bo, [.i ((n + 1 + 1 : Nat) : Int), .i ((n + 1 : Nat) : Int)])) (ln_bo (by omega) (by omega))
    refine ⟨L ++ [l] ++ [some (.nt, [.i ((n : Nat) : Int)])] ++ [some (.bo, [.i ((n + 1 + 1 : Nat) : Int), .i ((n + 1 : Nat) : Int)])], .dat (.int ((n + 1 + 1 : Nat) : Int)), .dat (.int 1), .dat (.int ((n + 1 : Nat) : Int)), T2, v3, by rw [len_sn, k2]; omega, by rw [len_sn, k2]; omega, t2, ?_⟩
    have a2 := map_snoc (L ++ [l]) (some (.nt, [.i ((n : Nat) : Int)]))
    have a3 := map_snoc (L ++ [l] ++ [some (.nt, [.i ((n : Nat) : Int)])]) (some (.bo, [.i ((n + 1 + 1 : Nat) : Int), .i ((n + 1 : Nat) : Int)]))
    have m2 := len_map (L ++ [l] ++ [some (.nt, [.i ((n : Nat) : Int)])])
    have d0 : decide ((1 : Int) = 0) = false := decide_eq_false (by omega)
    have d1 : decide ((1 : Int) < 1) = false := decide_eq_false (by omega)
    rw [← a3]
    clear a3 v1 v2 v3 hv hl h t1 t2 g1 g2 h0 hc hf hf9 h1 h2
    walk_at "fl"
  · -- 2, 3: both, perhaps denied
    obtain ⟨e, T3, g3, g4, t3, e3⟩ := draw_st t2 (n := 2) (by omega) (by omega)
    have v2 := v1.snoc (l := some (.bo, [.i ((n : Nat) : Int), .i ((n + 1 : Nat) : Int)])) (ln_bo (by omega) (by omega))
    have k2 : (L ++ [l] ++ [some (Wd.bo, [Ag.i ((n : Nat) : Int), .i ((n + 1 : Nat) : Int)])]).length = n + 1 + 1 + 1 := by rw [len_sn, k1]
    have a2 := map_snoc (L ++ [l]) (some (.bo, [.i ((n : Nat) : Int), .i ((n + 1 : Nat) : Int)]))
    have m2 := len_map (L ++ [l] ++ [some (.bo, [.i ((n : Nat) : Int), .i ((n + 1 : Nat) : Int)])])
    have d0 : decide (c = 0) = false := decide_eq_false cn0
    have d1 : decide (c = 1) = false := decide_eq_false cn1
    have d2 : decide (1 < c) = true := decide_eq_true cg
    by_cases ce : e = 1
    · have v3 := v2.snoc (l := some (.nt, [.i ((n + 1 + 1 : Nat) : Int)])) (ln_no (by omega))
      have a3 := map_snoc (L ++ [l] ++ [some (.bo, [.i ((n : Nat) : Int), .i ((n + 1 : Nat) : Int)])]) (some (.nt, [.i ((n + 1 + 1 : Nat) : Int)]))
      refine ⟨L ++ [l] ++ [some (.bo, [.i ((n : Nat) : Int), .i ((n + 1 : Nat) : Int)])] ++ [some (.nt, [.i ((n + 1 + 1 : Nat) : Int)])], .dat (.int (n : Int)), .dat (.int c), .dat (.int ((n + 1 : Nat) : Int)), T3, v3, by rw [len_sn, k2]; omega, by rw [len_sn, k2]; omega, t3, ?_⟩
      have d3 : decide (e = 1) = true := decide_eq_true ce
      rw [← a3]
      clear a3 v1 v2 v3 hv hl h t1 t2 t3 g1 g2 g3 g4 h0 hc hf hf9 h1 h2 ce cg cn0 cn1
      walk_at "fl"
    · refine ⟨L ++ [l] ++ [some (.bo, [.i ((n : Nat) : Int), .i ((n + 1 : Nat) : Int)])], .dat (.int (n : Int)), .dat (.int c), .dat (.int ((n + 1 : Nat) : Int)), T3, v2, by rw [k2]; omega, by rw [k2]; omega, t3, ?_⟩
      have d3 : decide (e = 1) = false := decide_eq_false ce
      rw [← a2]
      clear a2 v1 v2 hv hl h t1 t2 t3 g1 g2 g3 g4 h0 hc hf hf9 h1 h2 ce cg cn0 cn1
      walk_at "fl"
/-! ### the law of the lines -/
theorem plainS_run {ns : List Int} {T : Fx.Tm} (h : St ns T) {count many far : Int} (h0 : 0 ≤ count) (hc : count ≤ 6) (hf : 0 ≤ far) (hf9 : far ≤ 9) (hm : 1 ≤ many) (hm9 : many ≤ 10) :
    ∃ L T', Vl L ∧ 1 ≤ L.length ∧ (L.length : Int) ≤ 3 * many ∧ St ns T' ∧ h__law_plain [.ob 0, .int count, .int many, .int far] T = some (eY L, T') := by
  obtain ⟨l, T1, hl, t1, e1⟩ := atom_run h h0 hc hf hf9
  obtain ⟨d, T2, g1, g2, t2, e2⟩ := draw_st t1 (n := many) (by omega) (by omega)
  obtain ⟨ρ', T', ⟨L, z5, z6, z7, z8, rfl, hv, b1, b2, t'⟩, e⟩ := forL_rngI (t := .nm 5) (body := plB) (j := d)
    (inv := fun k ρ T => ∃ L x5 x6 x7 x8, ρ = [.dat (.ob 0), .dat (.int count), .dat (.int many), .dat (.int far), .own (L.map Line.d), x5, x6, x7, x8] ∧ Vl L ∧ 1 ≤ L.length ∧ (L.length : Int) ≤ 1 + 3 * k ∧ St ns T) _ 0 rfl
    (fun k ρ T a b hi => by
      obtain ⟨L, x5, x6, x7, x8, rfl, hv, b1, b2, t⟩ := hi
      obtain ⟨L', z6, z7, z8, T', hv', c1, c2, t', e⟩ := plB_run t L hv b1 (by omega) h0 hc hf hf9 (.dat (.int many)) (.dat (.int k)) x6 x7 x8
      exact ⟨_, _, T', rfl, e, L', _, _, _, _, rfl, hv', by omega, by omega, t'⟩)
    [.dat (.ob 0), .dat (.int count), .dat (.int many), .dat (.int far), .own [l.d], .un, .un, .un, .un] T2 ⟨[l], _, _, _, _, rfl, vl_one (hl 0), by simp, by simp, t2⟩
  rw [if_pos g1] at b2
  refine ⟨L, T', hv, b1, by omega, t', ?_⟩
  have r1 : in62 d = true := in62_of (by omega) (by omega)
  have l1 : ((0 + 1 : Nat) ≤ PySem.sizeLine) := by rw [line_eq]; omega
  have so : ∀ ds T, seqD T (.own 4 ds) = some (false, ds) := fun _ _ => rfl
  unfold h__law_plain
  rw [plain_eq]
  unfold eY
  clear h h0 hc hf hf9 hm hm9 hl t1 t2 t' g1 g2 hv b1 b2
  walk_at "fy"
theorem okS_of {L : List Line} (h : Vl L) (h1 : 1 ≤ L.length) (h2 : L.length ≤ 40) : okS L = true := by
  have key : ∀ (ls : List Line) (i : Nat), (∀ (k : Nat) (l : Line), ls[k]? = some l → l.ok ((i + k : Nat) : Int) = true) → (oks i ls).all id = true := by
    intro ls
    induction ls with
    | nil => intro i _; rfl
    | cons l ls ih =>
      intro i hk
      show (id (l.ok (i : Int)) && (oks (i + 1) ls).all id) = true
      rw [ih (i + 1) fun k x hx => by have := hk (k + 1) x (by simpa using hx); rw [show i + 1 + k = i + (k + 1) by omega]; exact this]
      have := hk 0 l (by simp)
      rw [Nat.add_zero] at this
      rw [Bool.and_true]
      exact this
  unfold okS
  rw [decide_eq_true (by omega), decide_eq_true (by omega), key L 0 fun k l hl => by rw [Nat.zero_add]; exact (h k l hl).ok]
  rfl
theorem oks_app : ∀ (a b : List Line) (i : Nat), oks i (a ++ b) = oks i a ++ oks (i + a.length) b
  | [], b, i => by simp [oks]
  | l :: a, b, i => by
    show l.ok (i : Int) :: oks (i + 1) (a ++ b) = _
    rw [oks_app a b (i + 1), List.length_cons, show i + 1 + a.length = i + (a.length + 1) by omega]
    rfl
/-- one line that does not fit -/
theorem okS_bad (a b : List Line) {l : Line} (h : l.ok (a.length : Int) = false) : okS (a ++ l :: b) = false := by
  unfold okS
  rw [oks_app]
  show (_ && (oks 0 a ++ (l.ok _ :: oks _ b)).all id) = false
  rw [List.all_append, List.all_cons, Nat.zero_add, h]
  simp
theorem okS_long {L : List Line} (h : 40 < L.length) : okS L = false := by
  unfold okS
  rw [decide_eq_false (show ¬ ((L.length : Int) ≤ 40) by omega)]
  simp
theorem vl_fit {L : List Line} (h : Vl L) : ∀ l ∈ L, Line.fit l = true := fun l hl => by
  obtain ⟨i, hi⟩ := List.mem_iff_getElem?.mp hl
  exact (h i l hi).fit
theorem vl_ne {L : List Line} (h : Vl L) : ∀ l ∈ L, l ≠ none := fun l hl => by
  obtain ⟨i, hi⟩ := List.mem_iff_getElem?.mp hl
  exact (h i l hi).ne
theorem vl_pl {L : List Line} (h : Vl L) : L.all plW = true := List.all_eq_true.mpr fun l hl => by
  obtain ⟨i, hi⟩ := List.mem_iff_getElem?.mp hl
  exact (h i l hi).pl
end K1
namespace K1
open Fx LC PM
open PySem (Str PyData)
/-! ### lines as data -/
def pyA : Ag → PyData
  | .i n => .int n
  | .t ns => .tuple (ns.map PyData.int)
def pyL : Line → PyData
  | none => .tuple []
  | some (a, xs) => .tuple (.str a.str :: xs.map pyA)
theorem toPyL_int : ∀ ns : List Int, toPyL (ns.map D.int) = some (ns.map PyData.int)
  | [] => by simp [toPyL]
  | n :: ns => by simp [toPyL, toPy, toPyL_int ns]
theorem toPy_ag (a : Ag) : toPy a.d = some (pyA a) := by
  cases a with
  | i n => simp [Ag.d, toPy, pyA]
  | t ns =>
    show toPy (.tup (ns.map D.int)) = _
    rw [toPy, toPyL_int]
    rfl
theorem toPyL_ags : ∀ xs : List Ag, toPyL (xs.map Ag.d) = some (xs.map pyA)
  | [] => by simp [toPyL]
  | x :: xs => by simp [toPyL, toPy_ag, toPyL_ags xs]
theorem toPy_line (l : Line) : toPy l.d = some (pyL l) := by
  match l with
  | none => simp [Line.d, toPy, toPyL, pyL]
  | some (a, xs) =>
    show toPy (.tup (.str a.str :: xs.map Ag.d)) = _
    rw [toPy, toPyL]
    simp only [toPy, toPyL_ags]
    rfl
theorem toPyL_lines : ∀ ls : List Line, toPyL (ls.map Line.d) = some (ls.map pyL)
  | [] => by simp [toPyL]
  | l :: ls => by simp [toPyL, toPy_line, toPyL_lines ls]
theorem lay_int : ∀ ns : List Int, PyData.canLayAll0 (ns.map PyData.int) = true
  | [] => by simp [PyData.canLayAll0]
  | n :: ns => by simp [PyData.canLayAll0, PyData.canLay0, lay_int ns]
theorem dep_int : ∀ ns : List Int, PyData.depthAll (ns.map PyData.int) = 0
  | [] => by simp [PyData.depthAll]
  | n :: ns => by simp [PyData.depthAll, PyData.depth, dep_int ns]
theorem lay_ags : ∀ xs : List Ag, PyData.canLayAll0 (xs.map pyA) = true ∧ PyData.depthAll (xs.map pyA) ≤ 1
  | [] => by simp [PyData.canLayAll0, PyData.depthAll]
  | x :: xs => by
    obtain ⟨h1, h2⟩ := lay_ags xs
    cases x with
    | i n => simp [PyData.canLayAll0, PyData.canLay0, PyData.depthAll, PyData.depth, pyA, h1, h2]
    | t ns => simp [PyData.canLayAll0, PyData.canLay0, PyData.depthAll, PyData.depth, pyA, h1, h2, lay_int, dep_int]
theorem lay_line (l : Line) : PyData.canLay0 (pyL l) = true ∧ PyData.depth (pyL l) ≤ 2 := by
  match l with
  | none => simp [pyL, PyData.canLay0, PyData.canLayAll0, PyData.depth, PyData.depthAll]
  | some (a, xs) =>
    obtain ⟨h1, h2⟩ := lay_ags xs
    simp [pyL, PyData.canLay0, PyData.canLayAll0, PyData.depth, PyData.depthAll, h1, a.ok]
    omega
theorem shp_line (l : Line) : PySem.SeqAt.shaped (pyL l) = true := by
  obtain ⟨h1, h2⟩ := lay_line l
  unfold PySem.SeqAt.shaped
  rw [h1, decide_eq_true (by omega)]
  rfl
theorem lay_lines : ∀ ls : List Line, PyData.canLayAll0 (ls.map pyL) = true ∧ PyData.depthAll (ls.map pyL) ≤ 2
  | [] => by simp [PyData.canLayAll0, PyData.depthAll]
  | l :: ls => by
    obtain ⟨h1, h2⟩ := lay_lines ls
    obtain ⟨h3, h4⟩ := lay_line l
    simp [PyData.canLayAll0, PyData.depthAll, h1, h3]
    omega
theorem shp_lines (ls : List Line) : PySem.SeqAt.shaped (.list (ls.map pyL)) = true := by
  obtain ⟨h1, h2⟩ := lay_lines ls
  unfold PySem.SeqAt.shaped
  rw [PyData.canLay0, h1, PyData.depth, decide_eq_true (by omega)]
  rfl
theorem eqv_int : ∀ ns : List Int, PyData.eqvAll (ns.map PyData.int) (ns.map PyData.int) = true
  | [] => by simp [PyData.eqvAll]
  | n :: ns => by simp [PyData.eqvAll, PyData.eqv, eqv_int ns]
theorem eqv_ags : ∀ xs : List Ag, PyData.eqvAll (xs.map pyA) (xs.map pyA) = true
  | [] => by simp [PyData.eqvAll]
  | .i n :: xs => by simp [PyData.eqvAll, PyData.eqv, pyA, eqv_ags xs]
  | .t ns :: xs => by simp [PyData.eqvAll, PyData.eqv, pyA, eqv_ags xs, eqv_int]
theorem eqv_line (l : Line) : PyData.eqv (pyL l) (pyL l) = true := by
  match l with
  | none => simp [pyL, PyData.eqv, PyData.eqvAll]
  | some (a, xs) => simp [pyL, PyData.eqv, PyData.eqvAll, eqv_ags]
theorem flD_line (l : Line) : flD l.d = false := by
  match l with
  | none => rfl
  | some (a, xs) => rfl
theorem nin_line (l : Line) (fs : List Line) : ninD l.d (.lst (fs.map Line.d)) = some (.bl (!((fs.map pyL).any fun z => PyData.eqv z (pyL l)))) := by
  have h1 : inB l.d (.lst (fs.map Line.d)) = none := by
    show (if flD l.d && (fs.map Line.d).all flD then _ else none) = none
    rw [flD_line, Bool.false_and, if_neg (by decide)]
  have h2 : inBD l.d (.lst (fs.map Line.d)) = some ((fs.map pyL).any fun z => PyData.eqv z (pyL l)) := by
    unfold inBD
    simp only [toPy_line, toPyL_lines, shp_line, shp_lines, Bool.and_self, if_true]
  unfold ninD inB'
  rw [h1, h2]
  rfl
theorem nin_mem {l : Line} {fs : List Line} (h : l ∈ fs) : ninD l.d (.lst (fs.map Line.d)) = some (.bl false) := by
  have e : ((fs.map pyL).any fun z => PyData.eqv z (pyL l)) = true := List.any_eq_true.mpr ⟨pyL l, List.mem_map.mpr ⟨l, h, rfl⟩, eqv_line l⟩
  rw [nin_line, e]
  rfl
/-! ### the lines that are wrong -/
def odds (n w : Int) : List Line :=
  [none, some (.un, [.i 0, .i 0]), some (.un, []), some (.nt, [.i (0 - 1)]), some (.th, [.i (0 - w)]), some (.bo, [.i (0 - w), .i 0]), some (.re, [.t [1], .i (0 - 1), .i 0]), some (.re, [.t [0, 0 - 9 - w], .i 3, .i 0]),
   some (.be, [.t [1], .i (99 + w)]), some (.be, [.t [9 + w], .i 1]), some (.re, [.t [1], .i (12 + w), .i 0]), some (.re, [.t [1], .i 3, .i (2 + w)]), some (.nt, [.i (n + w)]), some (.be, [.t [1]]), some (.be, [.t [1], .i 2, .i 3]),
   some (.be, [.t [10], .i 1]), some (.be, [.t [0, 0 - 10], .i 1]), some (.be, [.t [1, 1, 1, 1, 1, 1, 1], .i 1]), some (.be, [.t [1], .i 100]), some (.be, [.t [1], .i (0 - 100)]), some (.re, [.t [1], .i 3]), some (.re, [.t [1], .i 3, .i 3]),
   some (.re, [.t [1], .i 0, .i 0]), some (.re, [.t [1], .i 13, .i 0]), some (.re, [.t [1], .i 3, .i (0 - 1)]), some (.re, [.t [1], .i 3, .i 0, .i 0]), some (.nt, [.i n]), some (.nt, []), some (.nt, [.i 0, .i 0]), some (.bo, [.i 0]),
   some (.bo, [.i 0, .i n]), some (.bo, [.i n, .i 0]), some (.bo, [.i 0, .i (0 - 1)]), some (.th, []), some (.th, [.i n]), some (.bo, [.i 0, .i 0, .i 0]), some (.re, [.t [1, 1, 1, 1, 1, 1, 1], .i 3, .i 0]), some (.re, [.t [0, 10], .i 3, .i 0])]
def five (n w : Int) : List Line := [some (.bo, [.i 0, .i n]), some (.bo, [.i n, .i 0]), some (.nt, [.i n]), some (.th, [.i n]), some (.nt, [.i (n + w)])]
structure Cnd (n w : Int) (l : Line) : Prop where
  fit : Line.fit l = true
  ok_n : l.ok n = false
  ok_0 : l.ok 0 = false
  at_ : (∀ k, 0 ≤ k → k ≤ 3 → l.ok k = false) ∨ l ∈ five n w
set_option maxHeartbeats 4000000 in
theorem odds_cnd {n w : Int} (hn : 1 ≤ n) (hw : 1 ≤ w) : ∀ l ∈ odds n w, Cnd n w l := by
  intro l hl
  simp only [odds, List.mem_cons, List.not_mem_nil, or_false] at hl
  rcases hl with rfl | rfl | rfl | rfl | rfl | rfl | rfl | rfl | rfl | rfl | rfl | rfl | rfl | rfl | rfl | rfl | rfl | rfl | rfl | rfl | rfl | rfl | rfl | rfl | rfl | rfl | rfl | rfl | rfl | rfl | rfl | rfl | rfl | rfl | rfl | rfl | rfl | rfl <;>
    refine ⟨by simp [Line.fit], ?_, ?_, ?_⟩ <;> first
      | (simp only [Line.ok, facOk, List.all_cons, List.all_nil, Bool.and_eq_false_iff, decide_eq_false_iff_not, List.length_cons, List.length_nil]; omega)
      | rfl
      | (exact .inl fun k _ _ => rfl)
      | (refine .inl fun k h0 h1 => ?_; simp only [Line.ok, facOk, List.all_cons, List.all_nil, Bool.and_eq_false_iff, decide_eq_false_iff_not, List.length_cons, List.length_nil]; omega)
      | (exact .inr (by simp [five]))
      | skip
end K1
namespace K1
open Fx LC PM
open PySem (Str PyData)
noncomputable def depB : FS := asgF 6 (binF addD (varF 6) (tupF (consF (tupF (consF (constF (.str (Str.ofString "there"))) (consF (callF h__law_draw (consF (varF 1) (consF (lenF (varO 6)) (nilF)))) (nilF)))) (nilF))))
noncomputable def oddE : FE := frzF (lstF (consF (tupF (nilF)) (consF (tupF (consF (constF (.str (Str.ofString "under"))) (consF (constF (.int 0)) (consF (constF (.int 0)) (nilF))))) (consF (tupF (consF (constF (.str (Str.ofString "under"))) (nilF))) (consF (tupF (consF (constF (.str (Str.ofString "not"))) (consF (binF subD (constF (.int 0)) (constF (.int 1))) (nilF)))) (consF (tupF (consF (constF (.str (Str.ofString "there"))) (consF (binF subD (constF (.int 0)) (varF 8)) (nilF)))) (consF (tupF (consF (constF (.str (Str.ofString "both"))) (consF (binF subD (constF (.int 0)) (varF 8)) (consF (constF (.int 0)) (nilF))))) (consF (tupF (consF (constF (.str (Str.ofString "rest"))) (consF (tupF (consF (constF (.int 1)) (nilF))) (consF (binF subD (constF (.int 0)) (constF (.int 1))) (consF (constF (.int 0)) (nilF)))))) (consF (tupF (consF (constF (.str (Str.ofString "rest"))) (consF (tupF (consF (constF (.int 0)) (consF (binF subD (binF subD (constF (.int 0)) (constF (.int 9))) (varF 8)) (nilF)))) (consF (constF (.int 3)) (consF (constF (.int 0)) (nilF)))))) (consF (tupF (consF (constF (.str (Str.ofString "below"))) (consF (tupF (consF (constF (.int 1)) (nilF))) (consF (binF addD (constF (.int 99)) (varF 8)) (nilF))))) (consF (tupF (consF (constF (.str (Str.ofString "below"))) (consF (tupF (consF (binF addD (constF (.int 9)) (varF 8)) (nilF))) (consF (constF (.int 1)) (nilF))))) (consF (tupF (consF (constF (.str (Str.ofString "rest"))) (consF (tupF (consF (constF (.int 1)) (nilF))) (consF (binF addD (constF (.int 12)) (varF 8)) (consF (constF (.int 0)) (nilF)))))) (consF (tupF (consF (constF (.str (Str.ofString "rest"))) (consF (tupF (consF (constF (.int 1)) (nilF))) (consF (constF (.int 3)) (consF (binF addD (constF (.int 2)) (varF 8)) (nilF)))))) (consF (tupF (consF (constF (.str (Str.ofString "not"))) (consF (binF addD (varF 3) (varF 8)) (nilF)))) (consF (tupF (consF (constF (.str (Str.ofString "below"))) (consF (tupF (consF (constF (.int 1)) (nilF))) (nilF)))) (consF (tupF (consF (constF (.str (Str.ofString "below"))) (consF (tupF (consF (constF (.int 1)) (nilF))) (consF (constF (.int 2)) (consF (constF (.int 3)) (nilF)))))) (consF (tupF (consF (constF (.str (Str.ofString "below"))) (consF (tupF (consF (constF (.int 10)) (nilF))) (consF (constF (.int 1)) (nilF))))) (consF (tupF (consF (constF (.str (Str.ofString "below"))) (consF (tupF (consF (constF (.int 0)) (consF (binF subD (constF (.int 0)) (constF (.int 10))) (nilF)))) (consF (constF (.int 1)) (nilF))))) (consF (tupF (consF (constF (.str (Str.ofString "below"))) (consF (binF mulD (tupF (consF (constF (.int 1)) (nilF))) (constF (.int 7))) (consF (constF (.int 1)) (nilF))))) (consF (tupF (consF (constF (.str (Str.ofString "below"))) (consF (tupF (consF (constF (.int 1)) (nilF))) (consF (constF (.int 100)) (nilF))))) (consF (tupF (consF (constF (.str (Str.ofString "below"))) (consF (tupF (consF (constF (.int 1)) (nilF))) (consF (binF subD (constF (.int 0)) (constF (.int 100))) (nilF))))) (consF (tupF (consF (constF (.str (Str.ofString "rest"))) (consF (tupF (consF (constF (.int 1)) (nilF))) (consF (constF (.int 3)) (nilF))))) (consF (tupF (consF (constF (.str (Str.ofString "rest"))) (consF (tupF (consF (constF (.int 1)) (nilF))) (consF (constF (.int 3)) (consF (constF (.int 3)) (nilF)))))) (consF (tupF (consF (constF (.str (Str.ofString "rest"))) (consF (tupF (consF (constF (.int 1)) (nilF))) (consF (constF (.int 0)) (consF (constF (.int 0)) (nilF)))))) (consF (tupF (consF (constF (.str (Str.ofString "rest"))) (consF (tupF (consF (constF (.int 1)) (nilF))) (consF (constF (.int 13)) (consF (constF (.int 0)) (nilF)))))) (consF (tupF (consF (constF (.str (Str.ofString "rest"))) (consF (tupF (consF (constF (.int 1)) (nilF))) (consF (constF (.int 3)) (consF (binF subD (constF (.int 0)) (constF (.int 1))) (nilF)))))) (consF (tupF (consF (constF (.str (Str.ofString "rest"))) (consF (tupF (consF (constF (.int 1)) (nilF))) (consF (constF (.int 3)) (consF (constF (.int 0)) (consF (constF (.int 0)) (nilF))))))) (consF (tupF (consF (constF (.str (Str.ofString "not"))) (consF (varF 3) (nilF)))) (consF (tupF (consF (constF (.str (Str.ofString "not"))) (nilF))) (consF (tupF (consF (constF (.str (Str.ofString "not"))) (consF (constF (.int 0)) (consF (constF (.int 0)) (nilF))))) (consF (tupF (consF (constF (.str (Str.ofString "both"))) (consF (constF (.int 0)) (nilF)))) (consF (tupF (consF (constF (.str (Str.ofString "both"))) (consF (constF (.int 0)) (consF (varF 3) (nilF))))) (consF (tupF (consF (constF (.str (Str.ofString "both"))) (consF (varF 3) (consF (constF (.int 0)) (nilF))))) (consF (tupF (consF (constF (.str (Str.ofString "both"))) (consF (constF (.int 0)) (consF (binF subD (constF (.int 0)) (constF (.int 1))) (nilF))))) (consF (tupF (consF (constF (.str (Str.ofString "there"))) (nilF))) (consF (tupF (consF (constF (.str (Str.ofString "there"))) (consF (varF 3) (nilF)))) (consF (tupF (consF (constF (.str (Str.ofString "both"))) (consF (constF (.int 0)) (consF (constF (.int 0)) (consF (constF (.int 0)) (nilF)))))) (consF (tupF (consF (constF (.str (Str.ofString "rest"))) (consF (binF mulD (tupF (consF (constF (.int 1)) (nilF))) (constF (.int 7))) (consF (constF (.int 3)) (consF (constF (.int 0)) (nilF)))))) (consF (tupF (consF (constF (.str (Str.ofString "rest"))) (consF (tupF (consF (constF (.int 0)) (consF (constF (.int 10)) (nilF)))) (consF (constF (.int 3)) (consF (constF (.int 0)) (nilF)))))) (nilF))))))))))))))))))))))))))))))))))))))))
noncomputable def gdE : FE := frzF (lstF (consF (tupF (consF (constF (.str (Str.ofString "below"))) (consF (tupF (consF (constF (.int 1)) (nilF))) (consF (constF (.int 2)) (nilF))))) (consF (tupF (consF (constF (.str (Str.ofString "rest"))) (consF (tupF (consF (constF (.int 0)) (consF (constF (.int 1)) (nilF)))) (consF (constF (.int 3)) (consF (constF (.int 1)) (nilF)))))) (consF (tupF (consF (constF (.str (Str.ofString "below"))) (consF (tupF (nilF)) (consF (constF (.int 0)) (nilF))))) (nilF)))))
noncomputable def fvE : FE := frzF (lstF (consF (tupF (consF (constF (.str (Str.ofString "both"))) (consF (constF (.int 0)) (consF (varF 3) (nilF))))) (consF (tupF (consF (constF (.str (Str.ofString "both"))) (consF (varF 3) (consF (constF (.int 0)) (nilF))))) (consF (tupF (consF (constF (.str (Str.ofString "not"))) (consF (varF 3) (nilF)))) (consF (tupF (consF (constF (.str (Str.ofString "there"))) (consF (varF 3) (nilF)))) (consF (tupF (consF (constF (.str (Str.ofString "not"))) (consF (binF addD (varF 3) (varF 8)) (nilF)))) (nilF)))))))
noncomputable def mxE : FE := frzF (lstF (consF (tupF (consF (constF (.str (Str.ofString "below"))) (consF (binF mulD (tupF (consF (constF (.int 9)) (consF (binF subD (constF (.int 0)) (constF (.int 9))) (nilF)))) (constF (.int 3))) (consF (constF (.int 99)) (nilF))))) (consF (tupF (consF (constF (.str (Str.ofString "below"))) (consF (tupF (nilF)) (consF (binF subD (constF (.int 0)) (constF (.int 99))) (nilF))))) (consF (tupF (consF (constF (.str (Str.ofString "rest"))) (consF (binF mulD (tupF (consF (constF (.int 9)) (nilF))) (constF (.int 6))) (consF (constF (.int 12)) (consF (constF (.int 11)) (nilF)))))) (consF (tupF (consF (constF (.str (Str.ofString "rest"))) (consF (tupF (nilF)) (consF (constF (.int 1)) (consF (constF (.int 0)) (nilF)))))) (nilF))))))
noncomputable def oddB : FS := seqS (ifS (orT (testF (binF isntF (callF h_is_saying (consF (binF addD (varF 2) (tupF (consF (varF 10) (nilF)))) (nilF))) (constF (.bl false)))) (testF (binF isntF (callF h_is_saying (consF (binF addD (tupF (consF (varF 10) (nilF))) (varF 2)) (nilF))) (constF (.bl false))))) (retF (ofF (constF (.bl false)))) (nilS))
      (seqS (asgF 12 (callF h__law_draw (consF (varF 1) (consF (constF (.int 4)) (nilF)))))
      (seqS (asgF 11 gdE)
      (ifS (testF (binF ninD (varF 10) fvE)) (ifS (testF (binF isntF (callF h_is_saying (consF (tofF (ofF (binF addD (binF addD (slF (varO 11) (bNo) (bSo (varF 12))) (frzF (lstF (consF (varF 10) (nilF))))) (slF (varO 11) (bSo (varF 12)) (bNo))))) (nilF))) (constF (.bl false)))) (retF (ofF (constF (.bl false)))) (nilS)) (nilS))))
theorem law_eq : g_law = seqS (objF 1 (lstF (consF (constF (.int 0)) (consF (constF (.int 0)) (consF (frzF (lofF (varO 0))) (consF (constF (.int 1)) (nilF)))))))
      (seqS (asgF 2 (callF h__law_plain (consF (varF 1) (consF (constF (.int 3)) (consF (constF (.int 4)) (consF (constF (.int 3)) (nilF)))))))
      (seqS (asgF 3 (lenF (varO 2)))
      (seqS (asgF 4 (binF addD (varF 2) (tupF (consF (tupF (consF (constF (.str (Str.ofString "there"))) (consF (binF subD (varF 3) (constF (.int 1))) (nilF)))) (nilF)))))
      (seqS (ifS (orT (testF (binF isntF (callF h_is_saying (consF (varF 2) (nilF))) (constF (.bl true)))) (testF (binF isntF (callF h_is_saying (consF (varF 4) (nilF))) (constF (.bl true))))) (retF (ofF (constF (.bl false)))) (nilS))
      (seqS (asgF 5 (binF addD (varF 4) (binF mulD (tupF (consF (tupF (consF (constF (.str (Str.ofString "not"))) (consF (constF (.int 0)) (nilF)))) (nilF))) (binF addD (constF (.int 1)) (callF h__law_draw (consF (varF 1) (consF (constF (.int 5)) (nilF))))))))
      (seqS (ifS (orT (testF (binF isntF (callF h_is_plain (consF (varF 2) (nilF))) (constF (.bl true)))) (orT (testF (binF isntF (callF h_is_plain (consF (varF 4) (nilF))) (constF (.bl false)))) (testF (binF isntF (callF h_is_plain (consF (varF 5) (nilF))) (constF (.bl false)))))) (retF (ofF (constF (.bl false)))) (nilS))
      (seqS (asgF 6 (varF 2))
      (seqS (forS (.nm 7) (rng1 (consF (binF addD (constF (.int 2)) (callF h__law_draw (consF (varF 1) (consF (constF (.int 8)) (nilF))))) (nilF))) depB)
      (seqS (ifS (orT (testF (binF isntF (callF h_is_saying (consF (varF 6) (nilF))) (constF (.bl true)))) (testF (binF isntF (callF h_is_saying (consF (varF 5) (nilF))) (constF (.bl true))))) (retF (ofF (constF (.bl false)))) (nilS))
      (seqS (asgF 8 (binF addD (constF (.int 1)) (callF h__law_draw (consF (varF 1) (consF (constF (.int 50)) (nilF))))))
      (seqS (asgF 9 oddE)
      (seqS (forS (.nm 10) (itU (varF 9)) oddB)
      (seqS (ifS (orT (testF (binF isntF (callF h_is_saying (consF (tupF (nilF)) (nilF))) (constF (.bl false)))) (testF (binF isntF (callF h_is_saying (consF (binF mulD (tupF (consF (tupF (consF (constF (.str (Str.ofString "below"))) (consF (tupF (nilF)) (consF (constF (.int 0)) (nilF))))) (nilF))) (constF (.int 41))) (nilF))) (constF (.bl false))))) (retF (ofF (constF (.bl false)))) (nilS))
      (seqS (ifS (testF (binF isntF (callF h_is_saying (consF (tupF (consF (tupF (consF (constF (.str (Str.ofString "not"))) (consF (constF (.int 1)) (nilF)))) (consF (tupF (consF (constF (.str (Str.ofString "below"))) (consF (tupF (nilF)) (consF (constF (.int 0)) (nilF))))) (nilF)))) (nilF))) (constF (.bl false)))) (retF (ofF (constF (.bl false)))) (nilS))
      (seqS (asgF 11 mxE)
      (retF (ofF (allF (ofF (frzF (compF (.nm 10) (itU (varF 11)) (yesT) (binF isF (callF h_is_saying (consF (binF mulD (tupF (consF (varF 10) (nilF))) (constF (.int 40))) (nilF))) (constF (.bl true))) [10]))))))))))))))))))))) := rfl
theorem mulT (xs : List D) (k : Nat) (h0 : xs ≠ []) (h1 : 1 ≤ k) (h2 : k ≤ 1000) (h3 : xs.length ≤ 1000) : mulD (.tup xs) (.int (k : Int)) = some (.tup (List.replicate k xs).flatten) := by
  show (if cRepT xs (k : Int) = true then _ else _) = _
  rw [if_pos (show cRepT xs (k : Int) = true from dc_of ⟨h0, by omega, .inr ⟨by omega, h3⟩⟩), Int.toNat_natCast]
theorem flat_one {α : Type} (x : α) : ∀ k : Nat, (List.replicate k [x]).flatten = List.replicate k x
  | 0 => rfl
  | k + 1 => by rw [List.replicate_succ, List.flatten_cons, flat_one x k, List.replicate_succ]; rfl
theorem mul7 : mulD (.tup [.int 1]) (.int 7) = some (.tup [.int 1, .int 1, .int 1, .int 1, .int 1, .int 1, .int 1]) := by
  have := mulT [.int 1] 7 (by simp) (by omega) (by omega) (by simp)
  rw [flat_one] at this
  exact this
theorem tl0 : ((0 : Nat) ≤ PySem.sizeLine) := Nat.zero_le _
theorem tl1 : ((0 + 1 : Nat) ≤ PySem.sizeLine) := by rw [line_eq]; omega
theorem tl2 : ((0 + 1 + 1 : Nat) ≤ PySem.sizeLine) := by rw [line_eq]; omega
theorem tl3 : ((0 + 1 + 1 + 1 : Nat) ≤ PySem.sizeLine) := by rw [line_eq]; omega
theorem tl4 : ((0 + 1 + 1 + 1 + 1 : Nat) ≤ PySem.sizeLine) := by rw [line_eq]; omega
theorem tl5 : ((0 + 1 + 1 + 1 + 1 + 1 : Nat) ≤ PySem.sizeLine) := by rw [line_eq]; omega
theorem tl38 : ((0 + 1 + 1 + 1 + 1 + 1 + 1 + 1 + 1 + 1 + 1 + 1 + 1 + 1 + 1 + 1 + 1 + 1 + 1 + 1 + 1 + 1 + 1 + 1 + 1 + 1 + 1 + 1 + 1 + 1 + 1 + 1 + 1 + 1 + 1 + 1 + 1 + 1 + 1 : Nat) ≤ PySem.sizeLine) := by rw [line_eq]; omega
local macro_rules | `(tactic| walk_at "fo") => `(tactic| simp only [frzF, lstF, binF, varF, constF, bindF_some, consF, nilF, iiF_int, ctt_eq, addD_int, mul7, tupF,
  List.length_cons, List.length_nil, List.getElem?_cons_zero, List.getElem?_cons_succ, Option.map_some, if_true, tl0, tl1, tl2, tl3, tl4, tl5, tl38, *])
theorem odd_run (n w : Int) (x0 x1 x2 x4 x5 x6 x7 x9 x10 x11 x12 : Sl) (T : Fx.Tm) : oddE [x0, x1, x2, .dat (.int n), x4, x5, x6, x7, .dat (.int w), x9, x10, x11, x12] T = some (.lst ((odds n w).map Line.d), T) := by
  unfold oddE
  walk_at "fo"
  rfl
def gd : List Line := [some (.be, [.t [1], .i 2]), some (.re, [.t [0, 1], .i 3, .i 1]), some (.be, [.t [], .i 0])]
theorem gd_run (ρ : Rho) (T : Fx.Tm) : gdE ρ T = some (.lst (gd.map Line.d), T) := by
  unfold gdE
  walk_at "fo"
  rfl
theorem fv_run (n w : Int) (x0 x1 x2 x4 x5 x6 x7 x9 x10 x11 x12 : Sl) (T : Fx.Tm) : fvE [x0, x1, x2, .dat (.int n), x4, x5, x6, x7, .dat (.int w), x9, x10, x11, x12] T = some (.lst ((five n w).map Line.d), T) := by
  unfold fvE
  walk_at "fo"
  rfl
def mx : List Line := [some (.be, [.t [9, 0 - 9, 9, 0 - 9, 9, 0 - 9], .i 99]), some (.be, [.t [], .i (0 - 99)]), some (.re, [.t [9, 9, 9, 9, 9, 9], .i 12, .i 11]), some (.re, [.t [], .i 1, .i 0])]
theorem mul3 : mulD (.tup [.int 9, .int (0 - 9)]) (.int 3) = some (.tup [.int 9, .int (0 - 9), .int 9, .int (0 - 9), .int 9, .int (0 - 9)]) := mulT [.int 9, .int (0 - 9)] 3 (by simp) (by omega) (by omega) (by simp)
theorem mul6 : mulD (.tup [.int 9]) (.int 6) = some (.tup [.int 9, .int 9, .int 9, .int 9, .int 9, .int 9]) := mulT [.int 9] 6 (by simp) (by omega) (by omega) (by simp)
theorem mx_run (ρ : Rho) (T : Fx.Tm) : mxE ρ T = some (.lst (mx.map Line.d), T) := by
  unfold mxE
  have e3 := mul3
  have e6 := mul6
  walk_at "fo"
  rfl
theorem mx_cnd : ∀ l ∈ mx, Line.fit l = true ∧ ∀ k : Int, l.ok k = true := by
  intro l hl
  simp only [mx, List.mem_cons, List.not_mem_nil, or_false] at hl
  rcases hl with rfl | rfl | rfl | rfl <;> exact ⟨rfl, fun _ => rfl⟩
theorem gd_fit : ∀ l ∈ gd, Line.fit l = true := by
  intro l hl
  simp only [gd, List.mem_cons, List.not_mem_nil, or_false] at hl
  rcases hl with rfl | rfl | rfl <;> rfl
theorem oks_const {l : Line} (h : ∀ k : Int, l.ok k = true) : ∀ (n i : Nat), (oks i (List.replicate n l)).all id = true
  | 0, _ => rfl
  | n + 1, i => by
    rw [List.replicate_succ]
    show (id (l.ok (i : Int)) && _) = true
    rw [oks_const h n (i + 1)]
    show (l.ok (i : Int) && true) = true
    rw [h]
    rfl
theorem okS_40 {l : Line} (h : ∀ k : Int, l.ok k = true) : okS (List.replicate 40 l) = true := by
  unfold okS
  rw [oks_const h, List.length_replicate]
  rfl
/-! ### steps of the law -/
theorem eY_1 (l : Line) : D.tup [l.d] = eY [l] := rfl
theorem addY (a b : List Line) (h : a.length + b.length ≤ 1000) : addD (eY a) (eY b) = some (eY (a ++ b)) := by
  show (if (a.map Line.d).length + (b.map Line.d).length ≤ PySem.sizeLine then _ else none) = _
  rw [if_pos (by rw [List.length_map, List.length_map, line_eq]; omega)]
  unfold eY
  rw [List.map_append]
theorem mulY (l : Line) (k : Nat) (h1 : 1 ≤ k) (h2 : k ≤ 1000) : mulD (eY [l]) (.int (k : Int)) = some (eY (List.replicate k l)) := by
  have := mulT [l.d] k (by simp) h1 h2 (by simp)
  rw [flat_one] at this
  show mulD (.tup [l.d]) _ = _
  rw [this]
  unfold eY
  rw [List.map_replicate]
theorem lenY (T : Fx.Tm) (a : List Line) : lenD T (.val (eY a)) = some (.int (a.length : Int)) := by show some (D.int ((a.map Line.d).length : Int)) = _; rw [List.length_map]
theorem isnt_bl (a b : Bool) : isntF (.bl a) (.bl b) = some (.bl (!decide (a = b))) := rfl
theorem is_bl (a b : Bool) : isF (.bl a) (.bl b) = some (.bl (decide (a = b))) := rfl
local macro_rules | `(tactic| walk_at "fy") => `(tactic| simp only [runB, seqS, nilS, asgF, retF, ifS, testF, binF, varF, varO, constF, ofF, ixF, lenF, bindF_some, blF, consF, nilF, intD_int, iiF_int, ctt_eq, addD_int, mulD_int, callF, tofF, frzF, tupF, negF, andT, orT, notT, rng1, rng2, lrgF, compF, LC.seqD_lst, LC.seqD_tup, ixD_lst, ixD_tup, lenD_lst, lenD_tup, lenY, eqD_int, itU, unpF, tgD, setN, forS, forL, lstF, ownF, setF, objF, lofF, appF, ifE, andV, allF, slF, bNo, bSo, isnt_bl, is_bl, eY_1, tl0, tl1, tl2, tl3, tl4, w_nt, w_th, w_be, d_no,
  List.map_cons, List.map_nil, List.cons_append, List.nil_append, List.length_cons, List.length_nil, List.replicate_succ, List.replicate_zero, List.getElem?_cons_zero, List.getElem?_cons_succ, List.set_cons_zero, List.set_cons_succ, Option.map_some, if_true, Nat.reduceAdd, Nat.reduceSub,
  Bool.false_eq_true, if_false, Bool.and_self, wipeR, decide_true, decide_false, Bool.not_true, Bool.not_false, *])
theorem odd_fix {n w : Int} (L : List Line) (hL : (L.length : Int) = n) (h1 : 1 ≤ n) (hm : n ≤ 100) (hv : Vl L) {l : Line} (hc : Cnd n w l) {ns : List Int} {T : Fx.Tm} (hT : St ns T) (x0 x4 x5 x6 x7 x9 x11 x12 : Sl) :
    ∃ z11 z12 T', St ns T' ∧ oddB [x0, .dat (.ob 0), .dat (eY L), .dat (.int n), x4, x5, x6, x7, .dat (.int w), x9, .dat l.d, x11, x12] T = some (.nx [x0, .dat (.ob 0), .dat (eY L), .dat (.int n), x4, x5, x6, x7, .dat (.int w), x9, .dat l.d, z11, z12], T') := by
  obtain ⟨a, T1, g1, g2, t1, e1⟩ := draw_st hT (n := 4) (by omega) (by omega)
  obtain ⟨k, rfl⟩ : ∃ m : Nat, a = (m : Int) := ⟨a.toNat, by omega⟩
  refine ⟨.dat (.lst (gd.map Line.d)), .dat (.int (k : Int)), T1, t1, ?_⟩
  have ff : decide (false = false) = true := by decide
  have f1 := vl_fit hv
  have b1 : ∀ T, h_is_saying [eY (L ++ [l])] T = some (.bl false, T) := fun T => by
    rw [saying_run _ (fun x hx => by rcases List.mem_append.mp hx with h | h; exact f1 x h; rw [List.mem_singleton.mp h]; exact hc.fit) (by rw [len_sn]; omega), okS_bad L [] (by rw [hL]; exact hc.ok_n)]
  have b2 : ∀ T, h_is_saying [eY (l :: L)] T = some (.bl false, T) := fun T => by
    rw [saying_run _ (fun x hx => by rcases List.mem_cons.mp hx with h | h; rw [h]; exact hc.fit; exact f1 x h) (by rw [List.length_cons]; omega), show okS (l :: L) = false from okS_bad [] L (l := l) hc.ok_0]
  have ad1 := addY L [l] (by rw [List.length_singleton]; omega)
  have ad2 := addY [l] L (by rw [List.length_singleton]; omega)
  rw [List.singleton_append] at ad2
  have e2 := gd_run
  have e3 := fv_run n w
  have hk : k ≤ gd.length := by show k ≤ 3; omega
  have w1 : ifS (orT (testF (binF isntF (callF h_is_saying (consF (binF addD (varF 2) (tupF (consF (varF 10) (nilF)))) (nilF))) (constF (.bl false)))) (testF (binF isntF (callF h_is_saying (consF (binF addD (tupF (consF (varF 10) (nilF))) (varF 2)) (nilF))) (constF (.bl false))))) (retF (ofF (constF (.bl false)))) (nilS) [x0, .dat (.ob 0), .dat (eY L), .dat (.int n), x4, x5, x6, x7, .dat (.int w), x9, .dat l.d, x11, x12] T = some (.nx [x0, .dat (.ob 0), .dat (eY L), .dat (.int n), x4, x5, x6, x7, .dat (.int w), x9, .dat l.d, x11, x12], T) := by
    clear hL h1 hm hv hc hT t1 g1 g2 f1 e2 e3
    walk_at "fy"
  have w2 : asgF 12 (callF h__law_draw (consF (varF 1) (consF (constF (.int 4)) (nilF)))) [x0, .dat (.ob 0), .dat (eY L), .dat (.int n), x4, x5, x6, x7, .dat (.int w), x9, .dat l.d, x11, x12] T = some (.nx [x0, .dat (.ob 0), .dat (eY L), .dat (.int n), x4, x5, x6, x7, .dat (.int w), x9, .dat l.d, x11, .dat (.int (k : Int))], T1) := by
    clear hL h1 hm hv hc hT t1 g1 g2 f1 e2 e3
    walk_at "fy"
  have w3 : asgF 11 gdE [x0, .dat (.ob 0), .dat (eY L), .dat (.int n), x4, x5, x6, x7, .dat (.int w), x9, .dat l.d, x11, .dat (.int (k : Int))] T1 = some (.nx [x0, .dat (.ob 0), .dat (eY L), .dat (.int n), x4, x5, x6, x7, .dat (.int w), x9, .dat l.d, .dat (.lst (gd.map Line.d)), .dat (.int (k : Int))], T1) := by
    unfold asgF
    rw [e2]
    rfl
  unfold oddB
  rw [seqS_nx w1, seqS_nx w2, seqS_nx w3]
  have nn := nin_line l (five n w)
  cases hb : ((five n w).map pyL).any fun z => PyData.eqv z (pyL l) with
  | true =>
    rw [hb] at nn
    clear hL h1 hm hv hc hT t1 g1 g2 f1 e2 w1 w2 w3 b1 b2 ad1 ad2 hb
    walk_at "fy"
  | false =>
    have hbad : l.ok (k : Int) = false := by
      rcases hc.at_ with h | h
      · exact h k (by omega) (by omega)
      · have := nin_mem h
        rw [nn, hb] at this
        cases this
    rw [hb] at nn
    have b3 : ∀ T, h_is_saying [eY (gd.take k ++ l :: gd.drop k)] T = some (.bl false, T) := fun T => by
      have ft : ∀ x ∈ gd.take k ++ l :: gd.drop k, Line.fit x = true := fun x hx => by
        rcases List.mem_append.mp hx with h | h
        · exact gd_fit x (List.mem_of_mem_take h)
        · rcases List.mem_cons.mp h with h | h
          · rw [h]; exact hc.fit
          · exact gd_fit x (List.mem_of_mem_drop h)
      have le : (gd.take k ++ l :: gd.drop k).length ≤ 1000 := by
        rw [List.length_append, List.length_cons, List.length_take, List.length_drop]
        show _ + (3 - k + 1) ≤ 1000
        omega
      rw [saying_run _ ft le, okS_bad (gd.take k) (gd.drop k) (by rw [List.length_take, Nat.min_eq_left hk]; exact hbad)]
    have s1 : ∀ T, slD T (.val (.lst (gd.map Line.d))) none (some (k : Int)) = some (.lst ((gd.take k).map Line.d)) := fun T => by
      unfold slD
      show some (D.lst (Fx.cutD _ _ _)) = _
      rw [cutD_take (by rw [List.length_map]; exact hk), List.map_take]
    have s2 : ∀ T, slD T (.val (.lst (gd.map Line.d))) (some (k : Int)) none = some (.lst ((gd.drop k).map Line.d)) := fun T => by
      unfold slD
      show some (D.lst (Fx.cutD _ _ _)) = _
      unfold Fx.cutD
      rw [HT.sIx_none, HT.sIx_nat, List.length_map, Nat.min_eq_left hk, List.take_of_length_le (by rw [List.length_drop, List.length_map]; exact Nat.le_refl _), List.map_drop]
    have ad3 : addD (.lst ((gd.take k).map Line.d)) (.lst [l.d]) = some (.lst ((gd.take k).map Line.d ++ [l.d])) := by
      show (if _ then _ else none) = _
      rw [if_pos (by rw [List.length_map, List.length_take, line_eq]; show _ + 1 ≤ _; omega)]
    have ad4 : addD (.lst ((gd.take k).map Line.d ++ [l.d])) (.lst ((gd.drop k).map Line.d)) = some (.lst ((gd.take k).map Line.d ++ [l.d] ++ (gd.drop k).map Line.d)) := by
      show (if _ then _ else none) = _
      rw [if_pos (by rw [List.length_append, List.length_map, List.length_map, List.length_take, List.length_drop, line_eq]; show _ + 1 + (3 - k) ≤ _; omega)]
    have tp : D.tup ((gd.take k).map Line.d ++ [l.d] ++ (gd.drop k).map Line.d) = eY (gd.take k ++ l :: gd.drop k) := by
      unfold eY
      rw [List.map_append, List.map_cons, List.append_assoc]
      rfl
    clear hL h1 hm hv hc hT t1 g1 g2 f1 e2 w1 w2 w3 b1 b2 ad1 ad2 hb hbad hk
    walk_at "fy"

/-! ### the whole law -/
theorem th_ln {f n : Nat} (h : f < n) : Line.ok (some (.th, [.i (f : Int)])) (n : Int) = true := by
  show (decide ((0 : Int) ≤ f) && decide ((f : Int) < n)) = true
  rw [decide_eq_true (by omega), decide_eq_true (by omega)]
  rfl
/-- fitting lines, each right at its place -/
structure Fv (ls : List Line) : Prop where
  fit : ∀ l ∈ ls, Line.fit l = true
  ne : ∀ l ∈ ls, l ≠ none
  ok : (oks 0 ls).all id = true
theorem Fv.of {ls : List Line} (h : Vl ls) (h1 : 1 ≤ ls.length) (h2 : ls.length ≤ 40) : Fv ls := ⟨vl_fit h, vl_ne h, by
  have := okS_of h h1 h2
  unfold okS at this
  rw [Bool.and_eq_true] at this
  exact this.2⟩
theorem Fv.snoc {ls : List Line} (h : Fv ls) {l : Line} (hf : Line.fit l = true) (hn : l ≠ none) (ho : l.ok (ls.length : Int) = true) : Fv (ls ++ [l]) := by
  refine ⟨fun x hx => ?_, fun x hx => ?_, ?_⟩
  · rcases List.mem_append.mp hx with h' | h'
    · exact h.fit x h'
    · rw [List.mem_singleton.mp h']; exact hf
  · rcases List.mem_append.mp hx with h' | h'
    · exact h.ne x h'
    · rw [List.mem_singleton.mp h']; exact hn
  · rw [oks_app, List.all_append, h.ok, Nat.zero_add]
    show (true && (id (l.ok _) && true)) = true
    rw [show id (l.ok (ls.length : Int)) = true from ho]
    rfl
theorem Fv.reps {ls : List Line} (h : Fv ls) (h1 : 1 ≤ ls.length) : ∀ k : Nat, Fv (ls ++ List.replicate k (some (.nt, [.i 0])))
  | 0 => by rw [List.replicate_zero, List.append_nil]; exact h
  | k + 1 => by
    rw [List.replicate_succ', ← List.append_assoc]
    refine (Fv.reps h h1 k).snoc rfl (by simp) ?_
    have : ((0 : Nat) : Int) = 0 := rfl
    show (decide ((0 : Int) ≤ 0) && decide ((0 : Int) < _)) = true
    rw [decide_eq_true (by omega), decide_eq_true (by rw [List.length_append]; omega)]
    rfl
theorem Fv.run {ls : List Line} (h : Fv ls) (h1 : 1 ≤ ls.length) (h2 : ls.length ≤ 40) (T : Fx.Tm) : h_is_saying [eY ls] T = some (.bl true, T) := by
  rw [saying_run ls h.fit (by omega)]
  unfold okS
  rw [h.ok, decide_eq_true (by omega), decide_eq_true (by omega)]
  rfl
theorem dep_run {ns : List Int} {T : Fx.Tm} (hT : St ns T) (L : List Line) (h : Fv L) (h1 : 1 ≤ L.length) (h2 : L.length ≤ 100) (x0 x2 x3 x4 x5 x7 x8 x9 x10 x11 x12 : Sl) :
    ∃ L' T', Fv L' ∧ L'.length = L.length + 1 ∧ St ns T' ∧ depB [x0, .dat (.ob 0), x2, x3, x4, x5, .dat (eY L), x7, x8, x9, x10, x11, x12] T = some (.nx [x0, .dat (.ob 0), x2, x3, x4, x5, .dat (eY L'), x7, x8, x9, x10, x11, x12], T') := by
  obtain ⟨a, T1, g1, g2, t1, e1⟩ := draw_st hT (n := (L.length : Int)) (by omega) (by omega)
  obtain ⟨k, rfl⟩ : ∃ m : Nat, a = (m : Int) := ⟨a.toNat, by omega⟩
  refine ⟨L ++ [some (.th, [.i (k : Int)])], T1, h.snoc rfl (by simp) (th_ln (by omega)), len_sn _ _, t1, ?_⟩
  have ad := addY L [some (.th, [.i (k : Int)])] (by rw [List.length_singleton]; omega)
  have ft : D.tup [Wd.th.d, .int (k : Int)] = Line.d (some (.th, [.i (k : Int)])) := rfl
  unfold depB
  clear hT t1 g1 g2 h h1 h2
  walk_at "fy"
set_option maxHeartbeats 4000000 in
theorem law_true (ns : List Int) (hl : ns.length ≤ 63) : ∃ T, h_law [.frl (ns.map D.int)] [] = some (.bl true, T) := by
  obtain ⟨L, T1, hv, b1, b2, t1, e1⟩ := plainS_run (st_start ns) (count := 3) (many := 4) (far := 3) (by omega) (by omega) (by omega) (by omega) (by omega) (by omega)
  obtain ⟨n, hn⟩ : ∃ n : Nat, L.length = n + 1 := ⟨L.length - 1, by omega⟩
  have fL := Fv.of hv b1 (by omega)
  have fM := fL.snoc (l := some (.th, [.i (n : Int)])) rfl (by simp) (th_ln (by omega))
  have kM : (L ++ [some (Wd.th, [Ag.i (n : Int)])]).length = n + 2 := by rw [len_sn, hn]
  obtain ⟨d5, T2, g1, g2, t2, e2⟩ := draw_st t1 (n := 5) (by omega) (by omega)
  obtain ⟨k5, hk5⟩ : ∃ m : Nat, 1 + d5 = (m : Int) := ⟨(1 + d5).toNat, by omega⟩
  have fG := fM.reps (by omega) k5
  have kG : (L ++ [some (Wd.th, [Ag.i (n : Int)])] ++ List.replicate k5 (some (Wd.nt, [Ag.i 0]))).length = n + 2 + k5 := by rw [List.length_append, kM, List.length_replicate]
  obtain ⟨d8, T3, g3, g4, t3, e3⟩ := draw_st t2 (n := 8) (by omega) (by omega)
  -- the loop that goes deeper
  obtain ⟨ρ4, T4, ⟨P, y7, rfl, fP, cP1, cP2, t4⟩, e4⟩ := forL_rngI (t := .nm 7) (body := depB) (j := 2 + d8)
    (inv := fun k ρ T => ∃ P x7, ρ = [.dat (.frl (ns.map D.int)), .dat (.ob 0), .dat (eY L), .dat (.int ((n + 1 : Nat) : Int)), .dat (eY (L ++ [some (.th, [.i (n : Int)])])), .dat (eY (L ++ [some (.th, [.i (n : Int)])] ++ List.replicate k5 (some (.nt, [.i 0])))), .dat (eY P), x7, .un, .un, .un, .un, .un] ∧ Fv P ∧ 1 ≤ P.length ∧ (P.length : Int) ≤ (L.length : Int) + k ∧ St ns T) _ 0 rfl
    (fun k ρ T a b hi => by
      obtain ⟨P, x7, rfl, fP, c1, c2, t⟩ := hi
      obtain ⟨P', T', fP', c3, t', e⟩ := dep_run t P fP c1 (by omega) (.dat (.frl (ns.map D.int))) (.dat (eY L)) (.dat (.int ((n + 1 : Nat) : Int))) (.dat (eY (L ++ [some (.th, [.i (n : Int)])]))) (.dat (eY (L ++ [some (.th, [.i (n : Int)])] ++ List.replicate k5 (some (.nt, [.i 0]))))) (.dat (.int k)) .un .un .un .un .un
      exact ⟨_, _, T', rfl, e, P', _, rfl, fP', by omega, by omega, t'⟩)
    [.dat (.frl (ns.map D.int)), .dat (.ob 0), .dat (eY L), .dat (.int ((n + 1 : Nat) : Int)), .dat (eY (L ++ [some (.th, [.i (n : Int)])])), .dat (eY (L ++ [some (.th, [.i (n : Int)])] ++ List.replicate k5 (some (.nt, [.i 0])))), .dat (eY L), .un, .un, .un, .un, .un, .un] T3 ⟨L, _, rfl, fL, b1, by omega, t3⟩
  rw [if_pos (by omega)] at cP2
  obtain ⟨d50, T5, g5, g6, t5, e5⟩ := draw_st t4 (n := 50) (by omega) (by omega)
  -- the loop over the wrong ones
  obtain ⟨ρ6, T6, ⟨⟨z10, z11, z12, rfl⟩, t6⟩, e6⟩ := forL_inv (t := .nm 10) (body := oddB)
    (inv := fun ρ T => (∃ x10 x11 x12, ρ = [.dat (.frl (ns.map D.int)), .dat (.ob 0), .dat (eY L), .dat (.int ((n + 1 : Nat) : Int)), .dat (eY (L ++ [some (.th, [.i (n : Int)])])), .dat (eY (L ++ [some (.th, [.i (n : Int)])] ++ List.replicate k5 (some (.nt, [.i 0])))), .dat (eY P), y7, .dat (.int (1 + d50)), .dat (.lst ((odds ((n + 1 : Nat) : Int) (1 + d50)).map Line.d)), x10, x11, x12]) ∧ St ns T) ((odds ((n + 1 : Nat) : Int) (1 + d50)).map Line.d)
    (fun d hd ρ T hi => by
      obtain ⟨⟨x10, x11, x12, rfl⟩, t⟩ := hi
      obtain ⟨l, hl, rfl⟩ := List.mem_map.mp hd
      obtain ⟨z11, z12, T', t', e⟩ := odd_fix L (by rw [hn]) (by omega) (by omega) hv (odds_cnd (n := ((n + 1 : Nat) : Int)) (w := 1 + d50) (by omega) (by omega) l hl) t (.dat (.frl (ns.map D.int))) (.dat (eY (L ++ [some (.th, [.i (n : Int)])]))) (.dat (eY (L ++ [some (.th, [.i (n : Int)])] ++ List.replicate k5 (some (.nt, [.i 0]))))) (.dat (eY P)) y7 (.dat (.lst ((odds ((n + 1 : Nat) : Int) (1 + d50)).map Line.d))) x11 x12
      exact ⟨_, _, T', rfl, e, ⟨_, _, _, rfl⟩, t'⟩)
    [.dat (.frl (ns.map D.int)), .dat (.ob 0), .dat (eY L), .dat (.int ((n + 1 : Nat) : Int)), .dat (eY (L ++ [some (.th, [.i (n : Int)])])), .dat (eY (L ++ [some (.th, [.i (n : Int)])] ++ List.replicate k5 (some (.nt, [.i 0])))), .dat (eY P), y7, .dat (.int (1 + d50)), .dat (.lst ((odds ((n + 1 : Nat) : Int) (1 + d50)).map Line.d)), .un, .un, .un] T5 ⟨⟨_, _, _, rfl⟩, t5⟩
  -- the last
  have cl : compL (.nm 10) yesT (binF isF (callF h_is_saying (consF (binF mulD (tupF (consF (varF 10) (nilF))) (constF (.int 40))) (nilF))) (constF (.bl true))) [.dat (.frl (ns.map D.int)), .dat (.ob 0), .dat (eY L), .dat (.int ((n + 1 : Nat) : Int)), .dat (eY (L ++ [some (.th, [.i (n : Int)])])), .dat (eY (L ++ [some (.th, [.i (n : Int)])] ++ List.replicate k5 (some (.nt, [.i 0])))), .dat (eY P), y7, .dat (.int (1 + d50)), .dat (.lst ((odds ((n + 1 : Nat) : Int) (1 + d50)).map Line.d)), .un, .dat (.lst (mx.map Line.d)), z12] (mx.map Line.d) [] T6 = some ((List.replicate 4 true).map D.bl, T6) := by
    rw [compL_pure (p := fun _ => true) (g := fun _ => .bl true) (mx.map Line.d) (fun d hd => ?_) [] (by rw [line_eq]; decide), List.filter_eq_self.mpr fun _ _ => rfl]
    · rfl
    · obtain ⟨l, hl, rfl⟩ := List.mem_map.mp hd
      obtain ⟨m1, m2⟩ := mx_cnd l hl
      refine ⟨_, rfl, rfl, fun _ => ?_⟩
      have r := saying_run (List.replicate 40 l) (fun x hx => by rw [List.eq_of_mem_replicate hx]; exact m1) (by rw [List.length_replicate]; omega) T6
      rw [okS_40 m2] at r
      have mm : mulD (eY [l]) (.int 40) = some (eY (List.replicate 40 l)) := mulY l 40 (by omega) (by omega)
      have ff : decide (true = true) = true := by decide
      generalize List.replicate 40 l = q at r mm
      clear e1 e2 e3 e4 e5 e6 t1 t2 t3 t4 t5 t6 fL fM fG fP hv hd m2
      walk_at "fy"
  have s1 : ∀ T, h_is_saying [eY L] T = some (.bl true, T) := fun T => fL.run b1 (by omega) T
  have s2 : ∀ T, h_is_saying [eY (L ++ [some (.th, [.i (n : Int)])])] T = some (.bl true, T) := fun T => fM.run (by omega) (by omega) T
  have s3 : ∀ T, h_is_saying [eY (L ++ [some (.th, [.i (n : Int)])] ++ List.replicate k5 (some (.nt, [.i 0])))] T = some (.bl true, T) := fun T => fG.run (by omega) (by omega) T
  have s4 : ∀ T, h_is_saying [eY P] T = some (.bl true, T) := fun T => fP.run cP1 (by omega) T
  have p1 : ∀ T, h_is_plain [eY L] T = some (.bl true, T) := fun T => by rw [plain_run L fL.ne (by omega), vl_pl hv]
  have p2 : ∀ T, h_is_plain [eY (L ++ [some (.th, [.i (n : Int)])])] T = some (.bl false, T) := fun T => by
    rw [plain_run _ fM.ne (by omega), List.all_append]
    show some (D.bl (L.all plW && (false && true)), T) = _
    rw [Bool.false_and, Bool.and_false]
  have p3 : ∀ T, h_is_plain [eY (L ++ [some (.th, [.i (n : Int)])] ++ List.replicate k5 (some (.nt, [.i 0])))] T = some (.bl false, T) := fun T => by
    rw [plain_run _ fG.ne (by omega), List.all_append, List.all_append]
    show some (D.bl ((L.all plW && (false && true)) && _), T) = _
    rw [Bool.false_and, Bool.and_false, Bool.false_and]
  have s5 : ∀ T, h_is_saying [eY []] T = some (.bl false, T) := fun T => saying_run [] (fun _ h => by cases h) (by simp) T
  have s6 : ∀ T, h_is_saying [eY (List.replicate 41 (some (.be, [.t [], .i 0])))] T = some (.bl false, T) := fun T => by
    rw [saying_run _ (fun x hx => by rw [List.eq_of_mem_replicate hx]; rfl) (by rw [List.length_replicate]; omega), okS_long (by rw [List.length_replicate]; omega)]
  have s7 : ∀ T, h_is_saying [eY [some (.nt, [.i 1]), some (.be, [.t [], .i 0])]] T = some (.bl false, T) := fun T => by
    rw [saying_run _ (fun x hx => by rcases List.mem_cons.mp hx with h | h; rw [h]; rfl; rw [List.mem_singleton.mp h]; rfl) (by simp)]
    rfl
  have a1 := addY L [some (.th, [.i (n : Int)])] (by rw [List.length_singleton]; omega)
  have a2 := addY (L ++ [some (.th, [.i (n : Int)])]) (List.replicate k5 (some (.nt, [.i 0]))) (by rw [List.length_replicate]; omega)
  have m1 := mulY (some (.nt, [.i 0])) k5 (by omega) (by omega)
  have m2 : mulD (eY [some (.be, [.t [], .i 0])]) (.int 41) = some (eY (List.replicate 41 (some (.be, [.t [], .i 0])))) := mulY (some (.be, [.t [], .i 0])) 41 (by omega) (by omega)
  generalize List.replicate 41 (some (Wd.be, [Ag.t [], Ag.i 0])) = q41 at s6 m2
  generalize hG : L ++ [some (Wd.th, [Ag.i (n : Int)])] ++ List.replicate k5 (some (Wd.nt, [Ag.i 0])) = G at *
  generalize hM : L ++ [some (Wd.th, [Ag.i (n : Int)])] = M at *
  have u1 := succ_sub n
  have dth : D.tup [Wd.th.d, .int (n : Int)] = Line.d (some (.th, [.i (n : Int)])) := rfl
  have dbe : D.tup [Wd.be.d, .tup [], .int 0] = Line.d (some (.be, [.t [], .i 0])) := rfl
  have d2 : D.tup [Line.d (some (.nt, [.i 1])), Line.d (some (.be, [.t [], .i 0]))] = eY [some (.nt, [.i 1]), some (.be, [.t [], .i 0])] := rfl
  have d0 : eY [] = D.tup [] := rfl
  rw [d0] at s5
  have r8 : in62 (2 + d8) = true := in62_of (by omega) (by omega)
  have tt : decide (true = true) = true := by decide
  have ff : decide (false = false) = true := by decide
  have in10 : tgIn (.nm 10) [10] = true := by decide
  have b4 := bls_map (List.replicate 4 true)
  have al : (List.replicate 4 true).all id = true := by decide
  generalize List.replicate 4 true = q4 at cl b4 al
  have sq : ∀ T, seqD T (.val (.frl (ns.map D.int))) = some (false, ns.map D.int) := fun _ => rfl
  have oe := odd_run ((n + 1 : Nat) : Int) (1 + d50)
  have me := mx_run
  clear hl hv b1 b2 fL fM fG fP kM kG cP1 cP2 t1 t2 t3 t4 t5 t6 g1 g2 g3 g4 g5 g6 hG hM d0
  refine ⟨T6, ?_⟩
  unfold h_law
  rw [law_eq]
  walk_at "fy"

end K1
namespace K1
open PySem PySem.Spec PyProof.Rows L2 Fx LC PM
theorem all_mk {l : PySem.W.OpenLaw} {w : World} {K : PySem.W.Frag} {h : Heap} {mg : Str → Option Value} {fa : Addr} (X : K.In h) (G : h.Ns mainGlobals mg) (hfa : mg (Str.ofString "law") = some (.ref fa))
    {f0 : Addr} {oc0 kV0 dc0 pm0 cd0 ct0 : Value} {od0 an0 : Option Addr} {sl0 : Array (Option Value)}
    (a0 : PySem.W.nsIn K mainGlobals (Str.ofString "_law_draw") = some (some (.ref f0))) (l0 : K.lookup f0 = some ⟨oc0, od0, .func (PySem.W.fnOf (Str.ofString "_law_draw") (Str.ofString "_law_draw") (defArgs s__law_draw) (defBody s__law_draw) (defScope s__law_draw) .none kV0 dc0 pm0 an0 cd0 ct0), sl0⟩) (c0 : PySem.W.codeIn K cd0 (Str.ofString "_law_draw") = true) (k0 : PySem.W.keepIn K (.ref f0) = true)
    {f1 : Addr} {oc1 kV1 dc1 pm1 cd1 ct1 : Value} {od1 an1 : Option Addr} {sl1 : Array (Option Value)}
    (a1 : PySem.W.nsIn K mainGlobals (Str.ofString "_law_factors") = some (some (.ref f1))) (l1 : K.lookup f1 = some ⟨oc1, od1, .func (PySem.W.fnOf (Str.ofString "_law_factors") (Str.ofString "_law_factors") (defArgs s__law_factors) (defBody s__law_factors) (defScope s__law_factors) .none kV1 dc1 pm1 an1 cd1 ct1), sl1⟩) (c1 : PySem.W.codeIn K cd1 (Str.ofString "_law_factors") = true) (k1 : PySem.W.keepIn K (.ref f1) = true)
    {f2 : Addr} {oc2 kV2 dc2 pm2 cd2 ct2 : Value} {od2 an2 : Option Addr} {sl2 : Array (Option Value)}
    (a2 : PySem.W.nsIn K mainGlobals (Str.ofString "_law_atom") = some (some (.ref f2))) (l2 : K.lookup f2 = some ⟨oc2, od2, .func (PySem.W.fnOf (Str.ofString "_law_atom") (Str.ofString "_law_atom") (defArgs s__law_atom) (defBody s__law_atom) (defScope s__law_atom) .none kV2 dc2 pm2 an2 cd2 ct2), sl2⟩) (c2 : PySem.W.codeIn K cd2 (Str.ofString "_law_atom") = true) (k2 : PySem.W.keepIn K (.ref f2) = true)
    {f3 : Addr} {oc3 kV3 dc3 pm3 cd3 ct3 : Value} {od3 an3 : Option Addr} {sl3 : Array (Option Value)}
    (a3 : PySem.W.nsIn K mainGlobals (Str.ofString "_law_plain") = some (some (.ref f3))) (l3 : K.lookup f3 = some ⟨oc3, od3, .func (PySem.W.fnOf (Str.ofString "_law_plain") (Str.ofString "_law_plain") (defArgs s__law_plain) (defBody s__law_plain) (defScope s__law_plain) .none kV3 dc3 pm3 an3 cd3 ct3), sl3⟩) (c3 : PySem.W.codeIn K cd3 (Str.ofString "_law_plain") = true) (k3 : PySem.W.keepIn K (.ref f3) = true)
    {f4 : Addr} {oc4 kV4 dc4 pm4 cd4 ct4 : Value} {od4 an4 : Option Addr} {sl4 : Array (Option Value)}
    (a4 : PySem.W.nsIn K mainGlobals (Str.ofString "are_factors") = some (some (.ref f4))) (l4 : K.lookup f4 = some ⟨oc4, od4, .func (PySem.W.fnOf (Str.ofString "are_factors") (Str.ofString "are_factors") (defArgs s_are_factors) (defBody s_are_factors) (defScope s_are_factors) .none kV4 dc4 pm4 an4 cd4 ct4), sl4⟩) (c4 : PySem.W.codeIn K cd4 (Str.ofString "are_factors") = true) (k4 : PySem.W.keepIn K (.ref f4) = true)
    {f5 : Addr} {oc5 kV5 dc5 pm5 cd5 ct5 : Value} {od5 an5 : Option Addr} {sl5 : Array (Option Value)}
    (a5 : PySem.W.nsIn K mainGlobals (Str.ofString "is_line") = some (some (.ref f5))) (l5 : K.lookup f5 = some ⟨oc5, od5, .func (PySem.W.fnOf (Str.ofString "is_line") (Str.ofString "is_line") (defArgs s_is_line) (defBody s_is_line) (defScope s_is_line) .none kV5 dc5 pm5 an5 cd5 ct5), sl5⟩) (c5 : PySem.W.codeIn K cd5 (Str.ofString "is_line") = true) (k5 : PySem.W.keepIn K (.ref f5) = true)
    {f6 : Addr} {oc6 kV6 dc6 pm6 cd6 ct6 : Value} {od6 an6 : Option Addr} {sl6 : Array (Option Value)}
    (a6 : PySem.W.nsIn K mainGlobals (Str.ofString "is_saying") = some (some (.ref f6))) (l6 : K.lookup f6 = some ⟨oc6, od6, .func (PySem.W.fnOf (Str.ofString "is_saying") (Str.ofString "is_saying") (defArgs s_is_saying) (defBody s_is_saying) (defScope s_is_saying) .none kV6 dc6 pm6 an6 cd6 ct6), sl6⟩) (c6 : PySem.W.codeIn K cd6 (Str.ofString "is_saying") = true) (k6 : PySem.W.keepIn K (.ref f6) = true)
    {f7 : Addr} {oc7 kV7 dc7 pm7 cd7 ct7 : Value} {od7 an7 : Option Addr} {sl7 : Array (Option Value)}
    (a7 : PySem.W.nsIn K mainGlobals (Str.ofString "is_plain") = some (some (.ref f7))) (l7 : K.lookup f7 = some ⟨oc7, od7, .func (PySem.W.fnOf (Str.ofString "is_plain") (Str.ofString "is_plain") (defArgs s_is_plain) (defBody s_is_plain) (defScope s_is_plain) .none kV7 dc7 pm7 an7 cd7 ct7), sl7⟩) (c7 : PySem.W.codeIn K cd7 (Str.ofString "is_plain") = true) (k7 : PySem.W.keepIn K (.ref f7) = true)
    {f8 : Addr} {oc8 kV8 dc8 pm8 cd8 ct8 : Value} {od8 an8 : Option Addr} {sl8 : Array (Option Value)}
    (a8 : PySem.W.nsIn K mainGlobals (Str.ofString "law") = some (some (.ref f8))) (l8 : K.lookup f8 = some ⟨oc8, od8, .func (PySem.W.fnOf (Str.ofString "law") (Str.ofString "law") (defArgs s_law) (defBody s_law) (defScope s_law) .none kV8 dc8 pm8 an8 cd8 ct8), sl8⟩) (c8 : PySem.W.codeIn K cd8 (Str.ofString "law") = true) (k8 : PySem.W.keepIn K (.ref f8) = true)
    (z_int : PySem.W.nsIn K mainGlobals (Str.ofString "int") = some none)
    (z_len : PySem.W.nsIn K mainGlobals (Str.ofString "len") = some none)
    (z_tuple : PySem.W.nsIn K mainGlobals (Str.ofString "tuple") = some none)
    (z_range : PySem.W.nsIn K mainGlobals (Str.ofString "range") = some none)
    (z_all : PySem.W.nsIn K mainGlobals (Str.ofString "all") = some none)
    (z_abs : PySem.W.nsIn K mainGlobals (Str.ofString "abs") = some none)
    (z_enumerate : PySem.W.nsIn K mainGlobals (Str.ofString "enumerate") = some none)
    (z_list : PySem.W.nsIn K mainGlobals (Str.ofString "list") = some none)
    {t_MOST_FACTORS : Tok} (z_MOST_FACTORS : PySem.W.nsIn K mainGlobals (Str.ofString "MOST_FACTORS") = some (some (.int 6 t_MOST_FACTORS)))
    {t_GREATEST_FACTOR : Tok} (z_GREATEST_FACTOR : PySem.W.nsIn K mainGlobals (Str.ofString "GREATEST_FACTOR") = some (some (.int 9 t_GREATEST_FACTOR)))
    {t_GREATEST_CONSTANT : Tok} (z_GREATEST_CONSTANT : PySem.W.nsIn K mainGlobals (Str.ofString "GREATEST_CONSTANT") = some (some (.int 99 t_GREATEST_CONSTANT)))
    {t_GREATEST_MODULUS : Tok} (z_GREATEST_MODULUS : PySem.W.nsIn K mainGlobals (Str.ofString "GREATEST_MODULUS") = some (some (.int 12 t_GREATEST_MODULUS)))
    {t_MOST_LINES : Tok} (z_MOST_LINES : PySem.W.nsIn K mainGlobals (Str.ofString "MOST_LINES") = some (some (.int 40 t_MOST_LINES)))
    : ∃ fd : FuncData, (∀ (s : Shared) (v : Value), BindsTo s fd ⟨[v], []⟩ [(Str.ofString "script", v)]) ∧ ∀ base : Heap, K.In base → base.Ns mainGlobals mg → FnOk l.prog w K mg base CX0 5 fa fd [Str.ofString "script"] (Sf K 1 h_law) := by
  have e := hfa.symm.trans (PySem.W.mg_of X G a8)
  cases e
  have F0 := fun_mk (st := s__law_draw) l0 c0 k0
  have b0 := F0.binds (ps := [Str.ofString "state", Str.ofString "limit"]) fun _ _ _ _ _ _ us hl => match us, hl with | [_, _], _ => rfl
  have F1 := fun_mk (st := s__law_factors) l1 c1 k1
  have b1 := F1.binds (ps := [Str.ofString "state", Str.ofString "count", Str.ofString "far"]) fun _ _ _ _ _ _ us hl => match us, hl with | [_, _, _], _ => rfl
  have F2 := fun_mk (st := s__law_atom) l2 c2 k2
  have b2 := F2.binds (ps := [Str.ofString "state", Str.ofString "count", Str.ofString "far"]) fun _ _ _ _ _ _ us hl => match us, hl with | [_, _, _], _ => rfl
  have F3 := fun_mk (st := s__law_plain) l3 c3 k3
  have b3 := F3.binds (ps := [Str.ofString "state", Str.ofString "count", Str.ofString "many", Str.ofString "far"]) fun _ _ _ _ _ _ us hl => match us, hl with | [_, _, _, _], _ => rfl
  have F4 := fun_mk (st := s_are_factors) l4 c4 k4
  have b4 := F4.binds (ps := [Str.ofString "factors"]) fun _ _ _ _ _ _ us hl => match us, hl with | [_], _ => rfl
  have F5 := fun_mk (st := s_is_line) l5 c5 k5
  have b5 := F5.binds (ps := [Str.ofString "line", Str.ofString "index"]) fun _ _ _ _ _ _ us hl => match us, hl with | [_, _], _ => rfl
  have F6 := fun_mk (st := s_is_saying) l6 c6 k6
  have b6 := F6.binds (ps := [Str.ofString "saying"]) fun _ _ _ _ _ _ us hl => match us, hl with | [_], _ => rfl
  have F7 := fun_mk (st := s_is_plain) l7 c7 k7
  have b7 := F7.binds (ps := [Str.ofString "saying"]) fun _ _ _ _ _ _ us hl => match us, hl with | [_], _ => rfl
  have F8 := fun_mk (st := s_law) l8 c8 k8
  refine ⟨PySem.W.fnOf (Str.ofString "law") (Str.ofString "law") (defArgs s_law) (defBody s_law) (defScope s_law) .none kV8 dc8 pm8 an8 cd8 ct8, fun s v => .of_eq rfl, fun base _ _ => ?_⟩
  have q__law_draw := ok__law_draw (P := l.prog) (w := w) (base := base) F0 (PySem.W.mg_of X G a0) b0 (PySem.W.mg_none_of X G z_int) (PySem.W.mg_none_of X G z_len)
  have q__law_factors := ok__law_factors (P := l.prog) (w := w) (base := base) F1 (PySem.W.mg_of X G a1) b1 q__law_draw (PySem.W.mg_none_of X G z_tuple) (PySem.W.mg_none_of X G z_range)
  have q__law_atom := ok__law_atom (P := l.prog) (w := w) (base := base) F2 (PySem.W.mg_of X G a2) b2 q__law_factors q__law_draw
  have q__law_plain := ok__law_plain (P := l.prog) (w := w) (base := base) F3 (PySem.W.mg_of X G a3) b3 q__law_atom q__law_draw (PySem.W.mg_none_of X G z_range) (PySem.W.mg_none_of X G z_tuple) (PySem.W.mg_none_of X G z_len)
  have q_are_factors := ok_are_factors (P := l.prog) (w := w) (base := base) F4 (PySem.W.mg_of X G a4) b4 (PySem.W.mg_none_of X G z_all) (PySem.W.mg_none_of X G z_len) (PySem.W.mg_none_of X G z_abs) ⟨_, PySem.W.mg_of X G z_MOST_FACTORS⟩ ⟨_, PySem.W.mg_of X G z_GREATEST_FACTOR⟩
  have q_is_line := ok_is_line (P := l.prog) (w := w) (base := base) F5 (PySem.W.mg_of X G a5) b5 q_are_factors (PySem.W.mg_none_of X G z_len) (PySem.W.mg_none_of X G z_abs) ⟨_, PySem.W.mg_of X G z_GREATEST_CONSTANT⟩ ⟨_, PySem.W.mg_of X G z_GREATEST_MODULUS⟩
  have q_is_saying := ok_is_saying (P := l.prog) (w := w) (base := base) F6 (PySem.W.mg_of X G a6) b6 q_is_line (PySem.W.mg_none_of X G z_all) (PySem.W.mg_none_of X G z_len) (PySem.W.mg_none_of X G z_enumerate) ⟨_, PySem.W.mg_of X G z_MOST_LINES⟩
  have q_is_plain := ok_is_plain (P := l.prog) (w := w) (base := base) F7 (PySem.W.mg_of X G a7) b7 (PySem.W.mg_none_of X G z_all)
  exact ok_law F8 q__law_plain q__law_draw q_is_saying q_is_plain (PySem.W.mg_none_of X G z_len) (PySem.W.mg_none_of X G z_range) (PySem.W.mg_none_of X G z_all) (PySem.W.mg_none_of X G z_list) (PySem.W.mg_none_of X G z_tuple)

end K1

open PySem PySem.W PyProof.Rows
set_option maxHeartbeats 0 in
theorem PySem.Challenge.cw_sumsaid_k01_sayings_holds : PySem.Challenge.rw_sumsaid_k01_sayings.Holds := by
  w_on; o_law; k_head; (case hw => w_witness2)
  k_fill
  refine L2.walk_ofK (l := PySem.Challenge.rw_sumsaid_k01_sayings) (n := 63) (k := 5) (x := Str.ofString "script") (CX := L2.CX0) (sp := fun K => Fx.Sf K 1 K1.h_law) rfl (by decide) rfl ⟨rfl, by decide, by decide⟩ (fun w h Y => PySem.W.kIn_of Y) ?F (fun K H a ns hl _ hS => Fx.law_sf hS (K1.law_true ns hl)) (fun _ _ _ _ h => h)
  case F =>
    intro w mg fa h KX G hmg
    refine' K1.all_mk KX G hmg ?a0 ?l0 ?c0 ?k0 ?a1 ?l1 ?c1 ?k1 ?a2 ?l2 ?c2 ?k2 ?a3 ?l3 ?c3 ?k3 ?a4 ?l4 ?c4 ?k4 ?a5 ?l5 ?c5 ?k5 ?a6 ?l6 ?c6 ?k6 ?a7 ?l7 ?c7 ?k7 ?a8 ?l8 ?c8 ?k8 ?z_int ?z_len ?z_tuple ?z_range ?z_all ?z_abs ?z_enumerate ?z_list ?z_MOST_FACTORS ?z_GREATEST_FACTOR ?z_GREATEST_CONSTANT ?z_GREATEST_MODULUS ?z_MOST_LINES
    (case a0 => k_is)
    (case l0 => k_is)
    (case c0 => k_is)
    (case k0 => k_is)
    (case a1 => k_is)
    (case l1 => k_is)
    (case c1 => k_is)
    (case k1 => k_is)
    (case a2 => k_is)
    (case l2 => k_is)
    (case c2 => k_is)
    (case k2 => k_is)
    (case a3 => k_is)
    (case l3 => k_is)
    (case c3 => k_is)
    (case k3 => k_is)
    (case a4 => k_is)
    (case l4 => k_is)
    (case c4 => k_is)
    (case k4 => k_is)
    (case a5 => k_is)
    (case l5 => k_is)
    (case c5 => k_is)
    (case k5 => k_is)
    (case a6 => k_is)
    (case l6 => k_is)
    (case c6 => k_is)
    (case k6 => k_is)
    (case a7 => k_is)
    (case l7 => k_is)
    (case c7 => k_is)
    (case k7 => k_is)
    (case a8 => k_is)
    (case l8 => k_is)
    (case c8 => k_is)
    (case k8 => k_is)
    (case z_int => k_is)
    (case z_len => k_is)
    (case z_tuple => k_is)
    (case z_range => k_is)
    (case z_all => k_is)
    (case z_abs => k_is)
    (case z_enumerate => k_is)
    (case z_list => k_is)
    (case z_MOST_FACTORS => k_is)
    (case z_GREATEST_FACTOR => k_is)
    (case z_GREATEST_CONSTANT => k_is)
    (case z_GREATEST_MODULUS => k_is)
    (case z_MOST_LINES => k_is)
