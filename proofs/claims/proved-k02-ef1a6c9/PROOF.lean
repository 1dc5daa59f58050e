import PyProof.Rows.All
import Wide.All
import OpenK.AllK
import Wide.FinOn
import HandS.Base
import HandS.Call
import HandS.List
import HandS.TupAny
import HandS.TupMul
import KE.KIndexOf
import HandS.Comp
import HandS.Dict
import HandS.Iter
import HandS.Exc
import HandS.ExcOwn
import HandS.Ends
import HandS.Words
import HandS.Walk
import HandS.IsInst
import HandS.Style
import KE.DataMinMax
import KE.GoesEnum
import HandS.Deep
import HandS.Zip
import HandS.Star
import HandS.ExcValue
import HandS.WordsDict
import HandS.TupLen
import KE.KExcSuper
import HandS.ExcInit
import HandS.ExcField
import HandS.ExcIs
import KE.KExcIs
import HandS.Codes
import PySem.Challenge.RW_keptpartings_k02_whole_runs
/-! MiS -/
set_option Elab.async false
set_option linter.all false
set_option maxRecDepth 100000
set_option maxHeartbeats 1000000
set_option autoImplicit false
namespace Mi
open PySem PySem.Spec PyProof.Rows L2

/-! ### tuples made, with what they are: so that their methods may be called -/
/-- a tuple whose object is known to have no dict of its own -/
def St (H : Hp) (a : Addr) (xs : List V) : Prop := ∃ o : Obj, H a = some (.frz o (.tup xs)) ∧ o.dict = none
theorem St.sqt {K : PySem.W.Frag} {H : Hp} {a : Addr} {xs : List V} (h : St H a xs) : SqT K H a xs := by
  obtain ⟨o, h, _⟩ := h
  exact .inl (.inr ⟨o, h⟩)
abbrev tuO (us : List Value) : Obj := { cls := .type "tuple", data := .seq us.toArray }
/-- the wish for a new one -/
def NwT (H : Hp) (xs : List V) (Q : VK) : Prop := ∀ (p : Addr) (o : Obj), H p = none → o.dict = none → Q (.ref p) (upd H p (.frz o (.tup xs)))
section
variable {X : Cx} {pins : List (Addr × Obj)} {σ : L2.St} {H : Hp} {s : Shared} {Q : VK}
theorem laidT {xs : List V} {us : List Value} {h' : Heap} (I : Inv X pins σ H s) (r : Vals xs us) (hz : xs.length ≤ sizeLine) (k : ∀ b o, s.heap.get? b = some o → h'.get? b = some o) (at_ : h'.get? s.heap.objs.size = some (tuO us)) (q : NwT H xs Q) :
    EP X pins σ Q (.ref s.heap.objs.size) { s with heap := h' } :=
  ⟨.ref s.heap.objs.size, _, I.laid (t' := s.toks) (o := .frz (tuO us) (.tup xs)) k (Nat.le_refl _) ⟨at_, hz, us, r, ⟨_, at_, rfl, _, rfl⟩⟩, rfl, q _ _ (I.hok.fresh (Nat.le_refl _)) rfl⟩
def tTupF (t : TA) : TE := fun σ H Q => t σ H fun xs H1 => xs.length ≤ sizeLine ∧ NwT H1 xs Q
theorem pe_tupF {es : List Expr} {t : TA} {x1 : Nat} {pos : Pos} (h : PA X es t) : PE X (.Tuple es x1 pos) (tTupF t) := by
  refine ⟨fun pins s σ H Q I hq => ?_⟩
  refine wpAny_Tuple_spliced (thn (h.run pos pins s σ H _ I hq) fun us s1 ⟨xs, H1, I1, r, z, q⟩ => ⟨by rw [← r.length]; exact z, ?_⟩)
  exact laidT I1 r z (fun b u e => Heap.get?_push_of_some _ e) (Heap.get?_push_size _ rfl) q
def rTupF (K : PySem.W.Frag) : List V → Hp → VK → Prop := fun xs H Q => ∃ p ys, xs = [.ref p] ∧ ((SqL K H p ys ∧ NwT H ys Q) ∨ (SqT K H p ys ∧ Q (.ref p) H))
theorem call_tupF : CallR X (.type "tuple") (rTupF X.K) := by
  intro pins s σ H xs us Q I r h
  obtain ⟨p, ys, rfl, h⟩ := h
  rcases h with ⟨hq, q⟩ | ⟨hq, q⟩
  · obtain ⟨u, rfl, rx⟩ := vals1 r
    cases rx
    obtain ⟨its, r', pl, hz⟩ := I.list hq
    have hlen := r'.length
    refine call_tuple_list pl.isList (fun h' kp => ?_) (by simp only [List.size_toArray] <;> omega)
    have I1 : Inv X pins σ H { s with heap := h' } := I.kept (t' := s.toks) kp
    exact laidT I1 r' hz (fun b o e => Heap.get?_push_of_some _ e) (Heap.get?_push_size _ rfl) q
  · exact call_tupleT pins s σ H _ us Q I r ⟨p, ys, rfl, hq, q⟩
def rCatF (K : PySem.W.Frag) : R2 := fun x y H Q => ∃ a b xs ys, x = .ref a ∧ y = .ref b ∧ SqT K H a xs ∧ SqT K H b ys ∧ xs ≠ [] ∧ ys ≠ [] ∧ xs.length + ys.length ≤ sizeLine ∧ NwT H (xs ++ ys) Q
theorem op_catF : OpR X (binaryOp .Add) (rCatF X.K) := by
  intro pins s σ H x y v u Q I rx ry h
  obtain ⟨a, b, xs, ys, rfl, rfl, ha, hb, hx, hy, hz, q⟩ := h
  cases rx
  cases ry
  obtain ⟨its, r1, p1, _⟩ := I.tuple ha
  obtain ⟨its2, r2, p2, _⟩ := I.tuple hb
  refine HT.cat_tup p1 p2 (fun z => hx (r1.nil_iff.mp z)) (fun z => absurd (r2.nil_iff.mp z) hy) (fun z => ?_) (by rw [← r1.length, ← r2.length]; exact hz)
  exact laidT I (r1.append r2) (by rw [List.length_append]; exact hz) (fun b ob q => Heap.get?_push_of_some _ q) (Heap.get?_push_size _ rfl) q
/-- two times and more -/
def rRepF (K : PySem.W.Frag) : R2 := fun x y H Q => ∃ (l : Addr) (m : Nat) (xs : List V), x = .ref l ∧ y = .int ((m + 2 : Nat) : Int) ∧ SqT K H l xs ∧ xs ≠ [] ∧ m ≤ 900 ∧ xs.length ≤ 1000 ∧ NwT H (List.replicate (m + 2) xs).flatten Q
theorem op_repF : OpR X (binaryOp .Mult) (rRepF X.K) := by
  intro pins s σ H x y v u Q I rx ry h
  obtain ⟨l, m, xs, rfl, rfl, hT, hne, hm, hz, q⟩ := h
  cases rx; obtain ⟨t, rfl⟩ := ry
  obtain ⟨its, r, ⟨⟨c0, dd, da, sl⟩, ho, e1, n, e2⟩, hs⟩ := I.tuple hT
  obtain rfl : c0 = .type "tuple" := e1
  obtain rfl : da = .seq its.toArray n := e2
  have le := r.length
  have nn : its ≠ [] := fun e => hne (List.eq_nil_of_length_eq_zero (by rw [le, e]; rfl))
  have em : its.toArray.isEmpty = false := by cases its <;> first | exact absurd rfl nn | rfl
  have small : (m + 2) * xs.length ≤ 902 * 1000 := Nat.mul_le_mul (by omega) hz
  have tn : (((m + 2 : Nat) : Int)).toNat = m + 2 := Int.toNat_natCast _
  have prod : ((its.toArray.size : Nat) : Int) * ((m + 2 : Nat) : Int) = (((m + 2) * xs.length : Nat) : Int) := by rw [List.size_toArray, ← le, ← Int.natCast_mul, Nat.mul_comm]
  have fl : (List.replicate (m + 2) its).flatten.length = (m + 2) * xs.length := by rw [PyProof.Rows.lm_len_rep_flat, le]
  have sl0 := sizeLine_eq
  have k0 : (decide (((m + 2 : Nat) : Int) < -(2 ^ 63)) || decide (((m + 2 : Nat) : Int) ≥ 2 ^ 63)) = false := by rw [decide_eq_false (by omega), decide_eq_false (by omega)]; rfl
  have k1 : (its.toArray.isEmpty || ((m + 2 : Nat) : Int) == 1) = false := by rw [em, Bool.false_or]; exact beq_eq_false_iff_ne.mpr (by omega)
  have k2 : (decide (((m + 2 : Nat) : Int) ≤ 0) || its.toArray.isEmpty) = false := by rw [em, Bool.or_false]; exact decide_eq_false (by omega)
  have k4 : Builtin.Tuple.tupleTooMany (((its.toArray.size : Nat) : Int) * ((m + 2 : Nat) : Int)) = false := by rw [prod]; unfold Builtin.Tuple.tupleTooMany; exact decide_eq_false (by omega)
  have k5 : (List.foldl (fun x1 x2 => x1 ++ x2) #[] (List.replicate (((m + 2 : Nat) : Int)).toNat its.toArray)).size ≤ sizeLine := by rw [tn, size_rep, List.size_toArray, fl]; omega
  have go := tuple_mulW l its.toArray n dd sl ((m + 2 : Nat) : Int) t k0 k1 k2 (by rw [prod]; omega) k4 k5
  have back := int_rmul_tuple ((m + 2 : Nat) : Int) t l its.toArray n dd sl
  refine wpAny_binaryOp_repeat_ref (T := "tuple") (U := "int") (by decide) ⟨_, ho, rfl⟩ (fun s' => typeIs_int s' _ t) noFill_tuple_mul F.fills_int_mul F.slot_int_rmul repeat_tuple F.slot_int_index.lookup
    (call_meets F.slot_int_rmul (typeIs_int s _ t) F.entry_int_rmul (F.args_int_rmul_2 _ _) back ⟨ho, rfl, ⟨_, ho, rfl⟩, call_meets F.slot_tuple_mul ⟨_, ho, rfl⟩ F.entry_tuple_mul (F.args_tuple_mul_2 _ _) go ⟨ho, ?_⟩⟩)
  have rr : Vals (List.replicate (m + 2) xs).flatten (List.replicate (m + 2) its).flatten := r.rep (m + 2)
  refine laidT I rr (by rw [PyProof.Rows.lm_len_rep_flat]; omega) (fun b ob q => Heap.get?_push_of_some _ q) ?_ q
  rw [tn, size_rep]
  exact Heap.get?_push_size _ rfl

/-! ### a method of such a tuple -/
def tTM (r : V → List V → Hp → VK → Prop) (to : TE) (t : TA) : TE := fun σ H Q => to σ H fun x H1 => (∃ a xs, x = .ref a ∧ St H1 a xs) ∧ t σ H1 fun xs H2 => r x xs H2 Q
theorem pe_tm {o e : Expr} {es : List Expr} {to : TE} {t : TA} {name : Str} {apos cpos : Pos} {id : String} {r : V → List V → Hp → VK → Prop} (slot : Slot "tuple" name id) (hty : typeOf (.builtin id) = pure (.type "method_descriptor")) (hm : MtR X id r) (ho : PE X o to) (ha : PA X (e :: es) t)
    (hbase : attributeBase o name X.env (eval o X.env) = eval o X.env) (hfew : ((backTo cpos (starEach (e :: es) X.env)).all (fun x => !x.1) && (backToKw cpos (keywordEach [] X.env)).all (fun x => x.1.isSome) && decide ((e :: es).length + ([] : List Keyword).length + (if ([] : List Keyword).isEmpty then 0 else 1) < 30)) = true)
    (hline : (apos.endLine == cpos.line) = true) (hs : starEach (e :: es) X.env = (false, eval e X.env) :: starEach es X.env) (hplain : (backTo cpos (starEach es X.env)).any (·.1) = false) :
    PE X (.Call (.Attribute o name apos) (e :: es) [] cpos) (tTM r to t) := by
  refine ⟨fun pins s σ H Q I h => wpAny_Call_method_late hbase hfew hline rfl (thn (ho.run pins s σ H _ I h) ?_)⟩
  rintro v s1 ⟨x, H1, I1, r1, ⟨a, xs, rfl, o, hst, hnd⟩, q1⟩
  cases r1
  obtain ⟨at_, _, _, _, o', at2, hc, _⟩ := I1.hok a _ hst
  rw [at_] at at2; cases at2
  refine ⟨"tuple", id, PySem.F.plainAttrs_tuple, slot, hty, ⟨o, at_, hc⟩, fun b e => by cases e; exact ⟨o, at_, hnd⟩, ?_⟩
  have hA := ha.run cpos pins s1 σ H1 _ I1 q1
  rw [hs] at hA; rw [hs]
  refine Calls.callWith_builtin (show (false || (backTo cpos (starEach es X.env)).any (·.1)) = false from by rw [hplain]; rfl) (Calls.evalArgs_plain (thn hA ?_))
  rintro us s2 ⟨vs, H2, I2, r2, q2⟩
  exact hm pins s2 σ H2 (.ref a) vs (.ref a) us Q I2 rfl r2 q2
end
end Mi

/-! Mi0 -/
set_option Elab.async false
set_option linter.all false
set_option maxRecDepth 100000
set_option maxHeartbeats 1000000
namespace Mi
open PySem PySem.Spec PyProof.Rows L2

/-! ### values and cells of the plain reckoning -/
inductive D where
  | p (d : PyData) | loc (i : Nat) | scr (ns : List Int)
inductive Cell where
  | lst (xs : List D) | dk (kvs : List (Key × D)) | dt (kvs : List (List Key × D))
/-- an exception: the name of its class, its fields -/
structure Er where
  cls : Str
  fs : List (Str × PyData)
abbrev Sto := List Cell
abbrev Envr := List (Option D)
inductive Ot (α : Type) where
  | bad | err (e : Er) (S : Sto) | ok (a : α) (S : Sto)
def Ot.bind {α β : Type} : Ot α → (α → Sto → Ot β) → Ot β
  | .bad, _ => .bad
  | .err e S, _ => .err e S
  | .ok a S, k => k a S
abbrev EM := Envr → Sto → Ot D
inductive Os where
  | bad | nx (env : Envr) (S : Sto) | rt (d : D) (S : Sto) | bk (env : Envr) (S : Sto) | ct (env : Envr) (S : Sto) | err (e : Er) (env : Envr) (S : Sto)
abbrev SM := Envr → Sto → Os
abbrev FM := List D → Sto → Ot D

/-! ### how they lie in the heap -/
def Own (μ : Nat → Addr) (n : Nat) (a : Addr) : Prop := ∃ i, i < n ∧ a = μ i
mutual
inductive Pd (K : PySem.W.Frag) (H : Hp) (O : Addr → Prop) : V → PyData → Prop
  | non : Pd K H O .non .none
  | bl (b : Bool) : Pd K H O (.bl b) (.bool b)
  | int (i : Int) : Pd K H O (.int i) (.int i)
  | str (x : Str) : Pd K H O (.str x) (.str x)
  | lst {a : Addr} {xs : List V} {ds : List PyData} : H a = some (.lst xs) → ¬ O a → PdAll K H O xs ds → Pd K H O (.ref a) (.list ds)
  | tup {a : Addr} {xs : List V} {ds : List PyData} : St H a xs → PdAll K H O xs ds → Pd K H O (.ref a) (.tuple ds)
  | wk {a : Addr} {v w : V} {x y : PyData} : H a = some (.tup [v, w]) → Pd K H O v x → Pd K H O w y → Pd K H O (.ref a) (.dict [(.none, .none), (x, y)])
  | dk0 {a : Addr} : H a = some (.dK []) → ¬ O a → Pd K H O (.ref a) (.dict [])
  | dk1 {a : Addr} {i : Int} {v : V} {x : PyData} : H a = some (.dK [(.inl i, v)]) → ¬ O a → Pd K H O v x → Pd K H O (.ref a) (.dict [(.int i, x)])
inductive PdAll (K : PySem.W.Frag) (H : Hp) (O : Addr → Prop) : List V → List PyData → Prop
  | nil : PdAll K H O [] []
  | cons {v : V} {vs : List V} {d : PyData} {ds : List PyData} : Pd K H O v d → PdAll K H O vs ds → PdAll K H O (v :: vs) (d :: ds)
end
/-- from one heap to a later one: what is not owned stays, what is owned later was owned or is new -/
structure Le (H : Hp) (O : Addr → Prop) (H' : Hp) (O' : Addr → Prop) : Prop where
  keep : ∀ a o, H a = some o → ¬ O a → H' a = some o
  own : ∀ a, O' a → O a ∨ H a = none
  tups : ∀ a xs, H a = some (.tup xs) → H' a = some (.tup xs)
  frzs : ∀ a o u, H a = some (.frz o u) → H' a = some (.frz o u)
theorem Le.refl (H : Hp) (O : Addr → Prop) : Le H O H O := ⟨fun _ _ h _ => h, fun _ h => .inl h, fun _ _ h => h, fun _ _ _ h => h⟩
section
variable {K : PySem.W.Frag} {H H1 H2 H' : Hp} {O O1 O2 O' : Addr → Prop}
theorem Le.live (l : Le H O H' O') {a : Addr} {o : HO} (h : H a = some o) (n : ¬ O a) : ¬ O' a := fun z => by
  rcases l.own a z with q | q
  · exact n q
  · rw [h] at q; cases q
theorem Le.trans (a : Le H O H1 O1) (b : Le H1 O1 H2 O2) : Le H O H2 O2 where
  keep := fun x o h n => b.keep x o (a.keep x o h n) (a.live h n)
  own := fun x h => by
    rcases b.own x h with q | q
    · exact a.own x q
    · by_cases z : O x
      · exact .inl z
      · refine .inr ?_
        cases r : H x with
        | none => rfl
        | some o => rw [a.keep x o r z] at q; cases q
  tups := fun x xs h => b.tups x xs (a.tups x xs h)
  frzs := fun x o u h => b.frzs x o u (a.frzs x o u h)
/-- the script: locked, or written -/
def ScR (K : PySem.W.Frag) (H : Hp) (a : Addr) (ns : List Int) : Prop := (∃ o, H a = some (.frz o (.lst (ns.map V.int)))) ∨
  ∃ (o : Obj) (its : Array Value) (n : Nat), K.lookup a = some o ∧ o.cls = .type "list" ∧ o.dict = none ∧ o.data = .seq its n ∧ its.size ≤ sizeLine ∧ Vals (ns.map V.int) its.toList
theorem ScR.sq {a : Addr} {ns : List Int} (h : ScR K H a ns) : SqL K H a (ns.map V.int) := h.elim (fun q => .inl (.inr q)) .inr
theorem Le.scr (l : Le H O H' O') {a : Addr} {ns : List Int} (h : ScR K H a ns) : ScR K H' a ns := h.elim (fun ⟨o, q⟩ => .inl ⟨o, l.frzs a o _ q⟩) .inr
theorem Le.sqt (l : Le H O H' O') {a : Addr} {xs : List V} (h : SqT K H a xs) : SqT K H' a xs := by
  rcases h with (h | ⟨o, h⟩) | h
  · exact .inl (.inl (l.tups a xs h))
  · exact .inl (.inr ⟨o, l.frzs a o _ h⟩)
  · exact .inr h
mutual
theorem Pd.mono (l : Le H O H' O') : ∀ {v : V} {d : PyData}, Pd K H O v d → Pd K H' O' v d
  | _, _, .non => .non
  | _, _, .bl b => .bl b
  | _, _, .int i => .int i
  | _, _, .str x => .str x
  | _, _, .lst h n r => .lst (l.keep _ _ h n) (l.live h n) (PdAll.mono l r)
  | _, _, .tup ⟨o, h, z⟩ r => .tup ⟨o, l.frzs _ _ _ h, z⟩ (PdAll.mono l r)
  | _, _, .wk h a b => .wk (l.tups _ _ h) (Pd.mono l a) (Pd.mono l b)
  | _, _, .dk0 h n => .dk0 (l.keep _ _ h n) (l.live h n)
  | _, _, .dk1 h n r => .dk1 (l.keep _ _ h n) (l.live h n) (Pd.mono l r)
theorem PdAll.mono (l : Le H O H' O') : ∀ {vs : List V} {ds : List PyData}, PdAll K H O vs ds → PdAll K H' O' vs ds
  | _, _, .nil => .nil
  | _, _, .cons h r => .cons (Pd.mono l h) (PdAll.mono l r)
end
end
end Mi

/-! Mi1 -/
set_option Elab.async false
set_option linter.all false
set_option maxRecDepth 100000
set_option maxHeartbeats 1000000
set_option autoImplicit false
namespace Mi
open PySem PySem.Spec PyProof.Rows L2

/-- what plain data must not lean on: the cells, and what is reserved (a list that is being made) -/
def Av (R : Addr → Prop) (μ : Nat → Addr) (n : Nat) (a : Addr) : Prop := Own μ n a ∨ R a
/-- a value: plain data, or a cell -/
inductive DR (K : PySem.W.Frag) (R : Addr → Prop) (H : Hp) (μ : Nat → Addr) (n : Nat) : V → D → Prop
  | p {v : V} {d : PyData} : Pd K H (Av R μ n) v d → DR K R H μ n v (.p d)
  | loc {i : Nat} : i < n → DR K R H μ n (.ref (μ i)) (.loc i)
  | scr {a : Addr} {ns : List Int} : ScR K H a ns → DR K R H μ n (.ref a) (.scr ns)
inductive DRs (K : PySem.W.Frag) (R : Addr → Prop) (H : Hp) (μ : Nat → Addr) (n : Nat) : List V → List D → Prop
  | nil : DRs K R H μ n [] []
  | cons {v : V} {vs : List V} {d : D} {ds : List D} : DR K R H μ n v d → DRs K R H μ n vs ds → DRs K R H μ n (v :: vs) (d :: ds)
inductive DRo (K : PySem.W.Frag) (R : Addr → Prop) (H : Hp) (μ : Nat → Addr) (n : Nat) : List (Option V) → Envr → Prop
  | nil : DRo K R H μ n [] []
  | none {o : Option V} {vs : List (Option V)} {ds : Envr} : DRo K R H μ n vs ds → DRo K R H μ n (o :: vs) (none :: ds)
  | some {v : V} {vs : List (Option V)} {d : D} {ds : Envr} : DR K R H μ n v d → DRo K R H μ n vs ds → DRo K R H μ n (some v :: vs) (some d :: ds)
def DKv (K : PySem.W.Frag) (R : Addr → Prop) (H : Hp) (μ : Nat → Addr) (n : Nat) {κ : Type} (kvs : List (κ × V)) (kds : List (κ × D)) : Prop := kvs.map (·.1) = kds.map (·.1) ∧ DRs K R H μ n (kvs.map (·.2)) (kds.map (·.2))
/-- a cell -/
def CelR (K : PySem.W.Frag) (R : Addr → Prop) (H : Hp) (μ : Nat → Addr) (n : Nat) (a : Addr) : Cell → Prop
  | .lst xs => ∃ vs, H a = some (.lst vs) ∧ DRs K R H μ n vs xs
  | .dk kds => ∃ kvs, H a = some (.dK kvs) ∧ DKv K R H μ n kvs kds
  | .dt kds => ∃ kvs, H a = some (.dT kvs) ∧ DKv K R H μ n kvs kds
/-- what a cell holds leans on earlier cells alone -/
def D.lowb (m : Nat) : D → Bool
  | .p _ => true
  | .loc i => decide (i < m)
  | .scr _ => true
def Cell.items : Cell → List D
  | .lst xs => xs
  | .dk kvs => kvs.map (·.2)
  | .dt kvs => kvs.map (·.2)
def Cell.lowb (m : Nat) (c : Cell) : Bool := c.items.all (D.lowb m)
structure RS (K : PySem.W.Frag) (R : Addr → Prop) (H : Hp) (μ : Nat → Addr) (S : Sto) : Prop where
  inj : ∀ i j, i < S.length → j < S.length → μ i = μ j → i = j
  cell : ∀ i c, S[i]? = some c → CelR K R H μ S.length (μ i) c
  low : ∀ (i : Nat) (c : Cell), S[i]? = some c → c.lowb i = true
  res : ∀ a, R a → H a ≠ none ∧ ¬ Own μ S.length a
/-- a step -/
structure Sp1 (μ : Nat → Addr) (n : Nat) (H : Hp) (μ' : Nat → Addr) (n' : Nat) (H' : Hp) : Prop where
  le : n ≤ n'
  same : ∀ i, i < n → μ' i = μ i
  hp : Le H (Own μ n) H' (Own μ' n')
theorem av_le {R : Addr → Prop} {μ μ' : Nat → Addr} {n n' : Nat} {H H' : Hp} (l : Le H (Own μ n) H' (Own μ' n')) : Le H (Av R μ n) H' (Av R μ' n') :=
  ⟨fun a o h z => l.keep a o h fun q => z (.inl q), fun a z => z.elim (fun q => (l.own a q).elim (fun x => .inl (.inl x)) .inr) fun q => .inl (.inr q), l.tups, l.frzs⟩
section
variable {K : PySem.W.Frag} {R : Addr → Prop} {H H1 H2 H' : Hp} {μ μ1 μ2 μ' : Nat → Addr} {n n1 n2 n' : Nat}
theorem Sp1.refl : Sp1 μ n H μ n H := ⟨Nat.le_refl _, fun _ _ => rfl, Le.refl _ _⟩
theorem Sp1.trans (a : Sp1 μ n H μ1 n1 H1) (b : Sp1 μ1 n1 H1 μ2 n2 H2) : Sp1 μ n H μ2 n2 H2 :=
  ⟨Nat.le_trans a.le b.le, fun i h => (b.same i (Nat.lt_of_lt_of_le h a.le)).trans (a.same i h), a.hp.trans b.hp⟩
theorem DR.mono (s : Sp1 μ n H μ' n' H') {v : V} {d : D} (h : DR K R H μ n v d) : DR K R H' μ' n' v d := by
  cases h with
  | p h => exact .p (h.mono (av_le s.hp))
  | @loc i h => rw [← s.same i h]; exact .loc (Nat.lt_of_lt_of_le h s.le)
  | scr h => exact .scr (s.hp.scr h)
theorem DRs.mono (s : Sp1 μ n H μ' n' H') : ∀ {vs : List V} {ds : List D}, DRs K R H μ n vs ds → DRs K R H' μ' n' vs ds
  | _, _, .nil => .nil
  | _, _, .cons h r => .cons (h.mono s) (DRs.mono s r)
theorem DRo.mono (s : Sp1 μ n H μ' n' H') : ∀ {vs : List (Option V)} {ds : Envr}, DRo K R H μ n vs ds → DRo K R H' μ' n' vs ds
  | _, _, .nil => .nil
  | _, _, .none r => .none (DRo.mono s r)
  | _, _, .some h r => .some (h.mono s) (DRo.mono s r)
theorem DRs.len : ∀ {vs : List V} {ds : List D}, DRs K R H μ n vs ds → vs.length = ds.length
  | _, _, .nil => rfl
  | _, _, .cons _ r => by rw [List.length_cons, List.length_cons, DRs.len r]
theorem DRo.len : ∀ {vs : List (Option V)} {ds : Envr}, DRo K R H μ n vs ds → vs.length = ds.length
  | _, _, .nil => rfl
  | _, _, .none r => by rw [List.length_cons, List.length_cons, DRo.len r]
  | _, _, .some _ r => by rw [List.length_cons, List.length_cons, DRo.len r]
theorem DRo.get : ∀ {vs : List (Option V)} {ds : Envr} {i : Nat} {d : D}, DRo K R H μ n vs ds → ds[i]? = Option.some (Option.some d) → ∃ v, vs[i]? = Option.some (Option.some v) ∧ DR K R H μ n v d
  | _, _, _, _, .nil, e => by simp at e
  | _, _, 0, _, .none r, e => by simp at e
  | _, _, i + 1, d, .none r, e => by
    obtain ⟨v, h1, h2⟩ := DRo.get (i := i) (d := d) r (by simpa using e)
    exact ⟨v, by simpa using h1, h2⟩
  | _, _, 0, _, .some h r, e => by
    simp at e; subst e
    exact ⟨_, by simp, h⟩
  | _, _, i + 1, d, .some h r, e => by
    obtain ⟨v, h1, h2⟩ := DRo.get (i := i) (d := d) r (by simpa using e)
    exact ⟨v, by simpa using h1, h2⟩
theorem DRo.set {v : V} {d : D} (h : DR K R H μ n v d) : ∀ {vs : List (Option V)} {ds : Envr} (i : Nat), DRo K R H μ n vs ds → DRo K R H μ n (vs.set i (Option.some v)) (ds.set i (Option.some d))
  | _, _, _, .nil => .nil
  | _, _, 0, .none r => .some h r
  | _, _, i + 1, .none r => .none (DRo.set h i r)
  | _, _, 0, .some _ r => .some h r
  | _, _, i + 1, .some q r => .some q (DRo.set h i r)
theorem DRo.unset {o : Option V} : ∀ {vs : List (Option V)} {ds : Envr} (i : Nat), DRo K R H μ n vs ds → DRo K R H μ n (vs.set i o) (ds.set i Option.none)
  | _, _, _, .nil => .nil
  | _, _, 0, .none r => .none r
  | _, _, i + 1, .none r => .none (DRo.unset i r)
  | _, _, 0, .some _ r => .none r
  | _, _, i + 1, .some q r => .some q (DRo.unset i r)
theorem DRs.get : ∀ {vs : List V} {ds : List D} {i : Nat} {d : D}, DRs K R H μ n vs ds → ds[i]? = Option.some d → ∃ v, vs[i]? = Option.some v ∧ DR K R H μ n v d
  | _, _, _, _, .nil, e => by simp at e
  | _, _, 0, _, .cons h r, e => by simp at e; subst e; exact ⟨_, by simp, h⟩
  | _, _, i + 1, d, .cons h r, e => by
    obtain ⟨v, h1, h2⟩ := DRs.get (i := i) (d := d) r (by simpa using e)
    exact ⟨v, by simpa using h1, h2⟩
theorem DRs.append : ∀ {vs ws : List V} {ds es : List D}, DRs K R H μ n vs ds → DRs K R H μ n ws es → DRs K R H μ n (vs ++ ws) (ds ++ es)
  | _, _, _, _, .nil, s => s
  | _, _, _, _, .cons h r, s => .cons h (DRs.append r s)
theorem DKv.mono {κ : Type} (s : Sp1 μ n H μ' n' H') {kvs : List (κ × V)} {kds : List (κ × D)} (h : DKv K R H μ n kvs kds) : DKv K R H' μ' n' kvs kds := ⟨h.1, h.2.mono s⟩
end

/-! ### the state -/
structure RL (K : PySem.W.Frag) (R : Addr → Prop) (μ : Nat → Addr) (H : Hp) (S : Sto) (σ : L2.St) (env : Envr) (vs : List V) (ds : List D) : Prop where
  rs : RS K R H μ S
  en : DRo K R H μ S.length σ env
  tm : DRs K R H μ S.length vs ds
/-- an exception's own dict -/
def ErR (K : PySem.W.Frag) (mg : Str → Option Value) (H : Hp) (O : Addr → Prop) (cls : Value) (dd : Option Addr) (e : Er) : Prop :=
  mg e.cls = some cls ∧ ∃ d fs, dd = some d ∧ H d = some (.xd fs) ∧ fs.map (·.1) = e.fs.map (·.1) ∧ PdAll K H O (fs.map (·.2)) (e.fs.map (·.2))

section
variable (K : PySem.W.Frag) (mg : Str → Option Value) (W : WX)
/-- behind a reckoning -/
def Pg {α : Type} (R : Addr → Prop) (μ : Nat → Addr) (S : Sto) (H : Hp) (σ : L2.St) (env : Envr) (o : Ot α) (P : (Nat → Addr) → Hp → Sto → α → Prop) : Prop :=
  match o with
  | .bad => False
  | .err e S' => ∀ μ' H' cls dd, Sp1 μ S.length H μ' S'.length H' → RL K R μ' H' S' σ env [] [] → ErR K mg H' (Av R μ' S'.length) cls dd e → W cls dd σ H'
  | .ok d S' => ∀ μ' H', Sp1 μ S.length H μ' S'.length H' → RS K R H' μ' S' → P μ' H' S' d
abbrev Po (R : Addr → Prop) (μ : Nat → Addr) (S : Sto) (H : Hp) (σ : L2.St) (env : Envr) (o : Ot D) (Q : VK) : Prop := Pg K mg W R μ S H σ env o fun μ' H' S' d => ∀ v, DR K R H' μ' S'.length v d → Q v H'
abbrev PoB (R : Addr → Prop) (μ : Nat → Addr) (S : Sto) (H : Hp) (σ : L2.St) (env : Envr) (o : Ot Bool) (Q : Bool → Hp → Prop) : Prop := Pg K mg W R μ S H σ env o fun _ H' _ b => Q b H'
abbrev PoA (R : Addr → Prop) (μ : Nat → Addr) (S : Sto) (H : Hp) (σ : L2.St) (env : Envr) (o : Ot (List D)) (Q : List V → Hp → Prop) : Prop := Pg K mg W R μ S H σ env o fun μ' H' S' ds => ∀ vs, DRs K R H' μ' S'.length vs ds → Q vs H'
def te (m : EM) : TE := fun σ H Q => ∃ R μ env S, RL K R μ H S σ env [] [] ∧ Po K mg W R μ S H σ env (m env S) Q
def tt (m : Envr → Sto → Ot Bool) : TT := fun σ H Q => ∃ R μ env S, RL K R μ H S σ env [] [] ∧ PoB K mg W R μ S H σ env (m env S) Q
def ta (m : Envr → Sto → Ot (List D)) : TA := fun σ H Q => ∃ R μ env S, RL K R μ H S σ env [] [] ∧ PoA K mg W R μ S H σ env (m env S) Q
end
section
variable {K : PySem.W.Frag} {R : Addr → Prop} {mg : Str → Option Value} {W : WX} {μ μ' : Nat → Addr} {H H' : Hp} {S S' : Sto} {σ : L2.St} {env : Envr} {vs : List V} {ds : List D} {α β : Type}
theorem RL.mono (r : RL K R μ H S σ env vs ds) (s : Sp1 μ S.length H μ' S'.length H') (rs : RS K R H' μ' S') : RL K R μ' H' S' σ env vs ds := ⟨rs, r.en.mono s, r.tm.mono s⟩
theorem RL.push (r : RL K R μ H S σ env vs ds) {v : V} {d : D} (h : DR K R H μ S.length v d) : RL K R μ H S σ env (v :: vs) (d :: ds) := ⟨r.rs, r.en, .cons h r.tm⟩
theorem RL.drop (r : RL K R μ H S σ env vs ds) : RL K R μ H S σ env [] [] := ⟨r.rs, r.en, .nil⟩
/-- the heart: first m, then k with its value -/
theorem pg_bind {m : Ot α} {k : α → Sto → Ot β} {P : (Nat → Addr) → Hp → Sto → β → Prop} (h : Pg K mg W R μ S H σ env (m.bind k) P) :
    Pg K mg W R μ S H σ env m fun μ1 H1 S1 a => Pg K mg W R μ1 S1 H1 σ env (k a S1) P := by
  cases m with
  | bad => exact h
  | err e S1 => exact h
  | ok d S1 =>
    intro μ1 H1 s1 rs1
    have h' : Pg K mg W R μ S H σ env (k d S1) P := h
    show Pg K mg W R μ1 S1 H1 σ env (k d S1) P
    cases e : k d S1 with
    | bad => rw [e] at h'; exact h'
    | err x S2 =>
      rw [e] at h'
      exact fun μ2 H2 cls dd s2 rl er => h' μ2 H2 cls dd (s1.trans s2) rl er
    | ok d2 S2 =>
      rw [e] at h'
      exact fun μ2 H2 s2 rs2 => h' μ2 H2 (s1.trans s2) rs2
theorem pg_mono {m : Ot α} {P P' : (Nat → Addr) → Hp → Sto → α → Prop} (h : Pg K mg W R μ S H σ env m P) (hq : ∀ μ' H' S' a, Sp1 μ S.length H μ' S'.length H' → RS K R H' μ' S' → P μ' H' S' a → P' μ' H' S' a) : Pg K mg W R μ S H σ env m P' := by
  cases m with
  | bad => exact h
  | err e S1 => exact h
  | ok d S1 => exact fun μ1 H1 s1 rs1 => hq _ _ _ _ s1 rs1 (h μ1 H1 s1 rs1)
theorem pg_ok {a : α} {P : (Nat → Addr) → Hp → Sto → α → Prop} (h : Pg K mg W R μ S H σ env (.ok a S) P) (r : RS K R H μ S) : P μ H S a := h μ H Sp1.refl r
/-- a value at hand -/
theorem po_ok {d : D} {v : V} {Q : VK} (h : Po K mg W R μ S H σ env (.ok d S) Q) (r : RS K R H μ S) (dr : DR K R H μ S.length v d) : Q v H := h μ H Sp1.refl r v dr
/-- .. and the value onto the temporaries -/
theorem po_bind {m : Ot D} {k : D → Sto → Ot α} {P : (Nat → Addr) → Hp → Sto → α → Prop} (r : RL K R μ H S σ env vs ds) (h : Pg K mg W R μ S H σ env (m.bind k) P) :
    Po K mg W R μ S H σ env m fun v H2 => ∃ μ2 S2 d, RL K R μ2 H2 S2 σ env (v :: vs) (d :: ds) ∧ Pg K mg W R μ2 S2 H2 σ env (k d S2) P :=
  pg_mono (pg_bind h) fun μ' H' S' a s rs p v dr => ⟨μ', S', a, (r.mono s rs).push dr, p⟩
theorem pob_bind {m : Ot Bool} {k : Bool → Sto → Ot α} {P : (Nat → Addr) → Hp → Sto → α → Prop} (r : RL K R μ H S σ env vs ds) (h : Pg K mg W R μ S H σ env (m.bind k) P) :
    PoB K mg W R μ S H σ env m fun b H2 => ∃ μ2 S2, RL K R μ2 H2 S2 σ env vs ds ∧ Pg K mg W R μ2 S2 H2 σ env (k b S2) P :=
  pg_mono (pg_bind h) fun μ' H' S' a s rs p => ⟨μ', S', r.mono s rs, p⟩
theorem poa_bind {m : Ot (List D)} {k : List D → Sto → Ot α} {P : (Nat → Addr) → Hp → Sto → α → Prop} (r : RL K R μ H S σ env vs ds) (h : Pg K mg W R μ S H σ env (m.bind k) P) :
    PoA K mg W R μ S H σ env m fun ws H2 => ∃ μ2 S2 es, RL K R μ2 H2 S2 σ env vs ds ∧ DRs K R H2 μ2 S2.length ws es ∧ Pg K mg W R μ2 S2 H2 σ env (k es S2) P :=
  pg_mono (pg_bind h) fun μ' H' S' a s rs p ws dr => ⟨μ', S', a, r.mono s rs, dr, p⟩
theorem po_mono {m : Ot D} {Q Q' : VK} (h : Po K mg W R μ S H σ env m Q) (hq : ∀ v H, Q v H → Q' v H) : Po K mg W R μ S H σ env m Q' := pg_mono h fun _ _ _ _ _ _ p v dr => hq _ _ (p v dr)
theorem pob_mono {m : Ot Bool} {Q Q' : Bool → Hp → Prop} (h : PoB K mg W R μ S H σ env m Q) (hq : ∀ v H, Q v H → Q' v H) : PoB K mg W R μ S H σ env m Q' := pg_mono h fun _ _ _ _ _ _ p => hq _ _ p
theorem poa_mono {m : Ot (List D)} {Q Q' : List V → Hp → Prop} (h : PoA K mg W R μ S H σ env m Q) (hq : ∀ v H, Q v H → Q' v H) : PoA K mg W R μ S H σ env m Q' := pg_mono h fun _ _ _ _ _ _ p v dr => hq _ _ (p v dr)
end
theorem _root_.L2.PE.w {X : Cx} {e : Expr} {t t' : TE} (h : PE X e t) (hw : ∀ σ H Q, t' σ H Q → t σ H Q) : PE X e t' := ⟨fun pins s σ H Q I q => h.run pins s σ H Q I (hw σ H Q q)⟩
theorem _root_.L2.PT.w {X : Cx} {e : Expr} {t t' : TT} (h : PT X e t) (hw : ∀ σ H Q, t' σ H Q → t σ H Q) : PT X e t' := ⟨fun pins s σ H Q I q => h.run pins s σ H Q I (hw σ H Q q)⟩
theorem _root_.L2.PA.w {X : Cx} {e : List Expr} {t t' : TA} (h : PA X e t) (hw : ∀ σ H Q, t' σ H Q → t σ H Q) : PA X e t' := ⟨fun pos pins s σ H Q I q => h.run pos pins s σ H Q I (hw σ H Q q)⟩
theorem _root_.L2.PS.w {X : Cx} {st : Stmt} {t t' : TS} (h : PS X st t) (hw : ∀ D σ H, t' D σ H → t D σ H) : PS X st t' := ⟨fun pins s σ H D I q => h.run pins s σ H D I (hw D σ H q)⟩
theorem _root_.L2.PSs.w {X : Cx} {st : List Stmt} {t t' : TS} (h : PSs X st t) (hw : ∀ D σ H, t' D σ H → t D σ H) : PSs X st t' := ⟨fun pins s σ H D I q => h.run pins s σ H D I (hw D σ H q)⟩

/-! ### expressions -/
def eBind (m : EM) (k : D → EM) : EM := fun env S => (m env S).bind fun d S1 => k d env S1
def eVar (i : Nat) : EM := fun env S => match env[i]? with
  | some (some d) => .ok d S
  | _ => .bad
def eC (d : PyData) : EM := fun _ S => .ok (.p d) S
def eOp (f : D → D → Sto → Ot D) (a b : EM) : EM := fun env S => (a env S).bind fun x S1 => (b env S1).bind fun y S2 => f x y S2
def eUn (f : D → Sto → Ot D) (a : EM) : EM := fun env S => (a env S).bind fun x S1 => f x S1
section
variable {X : Cx} {W : WX} {a b c e : Expr} {ma mb mc : EM} {pos : Pos}
theorem me_var {i : Nat} {x : Str} (hN : X.N[i]? = some x := by rfl) (hv : Vis X.env.scope x := by first | exact Or.inl rfl | exact Or.inr (Or.inl rfl) | exact Or.inr (Or.inr rfl)) (hd : (x == ("__debug__" : Str)) = false := by decide)
    (hcd : (x == ("__classdict__" : Str)) = false := by decide) : PE X (.Name x pos) (te X.K X.mg W (eVar i)) := by
  refine (pe_var hN hv hd hcd).w fun σ H Q ⟨R, μ, env, S, r, h⟩ => ?_
  unfold eVar at h
  cases e : env[i]? with
  | none => rw [e] at h; exact h.elim
  | some o =>
    cases o with
    | none => rw [e] at h; exact h.elim
    | some d =>
      rw [e] at h
      obtain ⟨v, h1, h2⟩ := r.en.get e
      exact ⟨v, h1, po_ok h r.rs h2⟩
theorem te_c {W : WX} {v : V} {d : PyData} (hp : ∀ K H O, Pd K H O v d) (he : PE X e (tC v)) : PE X e (te X.K X.mg W (eC d)) :=
  he.w fun σ H Q ⟨R, μ, env, S, r, h⟩ => po_ok h r.rs (.p (hp _ _ _))
theorem me_int {i j} : PE X (.Constant (.int i) j pos) (te X.K X.mg W (eC (.int i))) := te_c (fun _ _ _ => .int i) pe_int
theorem me_bl {i j} : PE X (.Constant (.bool i) j pos) (te X.K X.mg W (eC (.bool i))) := te_c (fun _ _ _ => .bl i) pe_bl
theorem me_non {j} : PE X (.Constant .none j pos) (te X.K X.mg W (eC .none)) := te_c (fun _ _ _ => .non) pe_non
theorem me_str {x j} : PE X (.Constant (.str x) j pos) (te X.K X.mg W (eC (.str x))) := te_c (fun _ _ _ => .str x) pe_str
/-- a global constant that is an int -/
theorem me_gint {x : Str} {i : Int} {t : Tok} (hm : X.mg x = some (.int i t)) (hg : Gl X x := by rfl) (hd : (x == ("__debug__" : Str)) = false := by decide) : PE X (.Name x pos) (te X.K X.mg W (eC (.int i))) :=
  te_c (fun _ _ _ => .int i) (pe_glob hg hm ⟨t, rfl⟩ hd)
/-- what an operation's rule must give -/
def Op2 (K : PySem.W.Frag) (mg : Str → Option Value) (W : WX) (f : D → D → Sto → Ot D) (r : R2) : Prop :=
  ∀ (R : Addr → Prop) (μ : Nat → Addr) (H : Hp) (S : Sto) (σ : L2.St) (env : Envr) (x y : V) (dx dy : D) (Q : VK), RL K R μ H S σ env [y, x] [dy, dx] → Po K mg W R μ S H σ env (f dx dy S) Q → r x y H Q
theorem me_op {op : Operator} {r : R2} {f : D → D → Sto → Ot D} (ho : OpR X (binaryOp op) r) (hf : Op2 X.K X.mg W f r) (ha : PE X a (te X.K X.mg W ma)) (hb : PE X b (te X.K X.mg W mb)) : PE X (.BinOp a op b pos) (te X.K X.mg W (eOp f ma mb)) := by
  refine (pe_op ho ha hb).w fun σ H Q ⟨R, μ, env, S, r, h⟩ => ⟨R, μ, env, S, r, ?_⟩
  refine po_mono (po_bind r h) fun x H1 ⟨μ1, S1, d1, r1, h1⟩ => ⟨R, μ1, env, S1, r1.drop, ?_⟩
  exact po_mono (po_bind r1 h1) fun y H2 ⟨μ2, S2, d2, r2, h2⟩ => hf R μ2 H2 S2 σ env x y d1 d2 Q r2 h2
theorem me_cmp {op : CmpOp} {r : R2} {f : D → D → Sto → Ot D} (ho : OpR X (compareOp op) r) (hf : Op2 X.K X.mg W f r) (ha : PE X a (te X.K X.mg W ma)) (hb : PE X b (te X.K X.mg W mb)) (hm : behindInMarks op b = false) : PE X (.Compare a [op] [b] pos) (te X.K X.mg W (eOp f ma mb)) := by
  refine (pe_cmpR ho ha hb hm).w fun σ H Q ⟨R, μ, env, S, r, h⟩ => ⟨R, μ, env, S, r, ?_⟩
  refine po_mono (po_bind r h) fun x H1 ⟨μ1, S1, d1, r1, h1⟩ => ⟨R, μ1, env, S1, r1.drop, ?_⟩
  exact po_mono (po_bind r1 h1) fun y H2 ⟨μ2, S2, d2, r2, h2⟩ => hf R μ2 H2 S2 σ env x y d1 d2 Q r2 h2

end
/-! ### tests -/
abbrev BM := Envr → Sto → Ot Bool
def toB : D → Sto → Ot Bool
  | .p (.bool b), S => .ok b S
  | _, _ => .bad
def bOf (m : EM) : BM := fun env S => (m env S).bind toB
def bAnd (a b : BM) : BM := fun env S => (a env S).bind fun c S1 => if c = true then b env S1 else .ok false S1
def bOr (a b : BM) : BM := fun env S => (a env S).bind fun c S1 => if c = true then .ok true S1 else b env S1
def bNot (a : BM) : BM := fun env S => (a env S).bind fun c S1 => .ok (!c) S1
def eIf (t : BM) (a b : EM) : EM := fun env S => (t env S).bind fun c S1 => if c = true then a env S1 else b env S1
def eB (t : BM) : EM := fun env S => (t env S).bind fun c S1 => .ok (.p (.bool c)) S1
section
variable {X : Cx} {W : WX} {a b c e : Expr} {ma mb mc : EM} {ta tb tc : BM} {pos : Pos} {rest : List Expr}
theorem po_bool {K : PySem.W.Frag} {R : Addr → Prop} {mg : Str → Option Value} {W : WX} {μ : Nat → Addr} {H : Hp} {S : Sto} {σ : L2.St} {env : Envr} {v : V} {d : D} {Q : Bool → Hp → Prop} (r : RL K R μ H S σ env [v] [d])
    (h : PoB K mg W R μ S H σ env (toB d S) Q) : ∃ c, v = .bl c ∧ Q c H := by
  cases r.tm with
  | cons h1 _ =>
    cases h1 with
    | loc _ => exact h.elim
    | scr _ => exact h.elim
    | p h1 =>
      cases h1 with
      | bl b => exact ⟨b, rfl, pg_ok h r.rs⟩
      | non => exact h.elim
      | int _ => exact h.elim
      | str _ => exact h.elim
      | lst _ _ _ => exact h.elim
      | tup _ _ => exact h.elim
      | wk _ _ _ => exact h.elim
      | dk0 _ _ => exact h.elim
      | dk1 _ _ _ => exact h.elim
theorem mt_val (h : PE X e (te X.K X.mg W ma)) (he : ∀ whole, isTrue e X.env whole = (do let v ← whole; standAt e.pos; holding [v] (truthy v)) := by intro _; rfl) : PT X e (tt X.K X.mg W (bOf ma)) := by
  refine (pt_val h he).w fun σ H Q ⟨R, μ, env, S, r, h⟩ => ⟨R, μ, env, S, r, ?_⟩
  exact po_mono (po_bind r h) fun x H1 ⟨μ1, S1, d1, r1, h1⟩ => po_bool r1 h1
theorem mt_cmp {op : CmpOp} {r : R2} {f : D → D → Sto → Ot D} (ho : OpR X (compareOp op) r) (hf : Op2 X.K X.mg W f r) (ha : PE X a (te X.K X.mg W ma)) (hb : PE X b (te X.K X.mg W mb)) (hm : behindInMarks op b = false) : PT X (.Compare a [op] [b] pos) (tt X.K X.mg W (bOf (eOp f ma mb))) := by
  refine (pt_cmpR ho ha hb hm).w fun σ H Q ⟨R, μ, env, S, r, h⟩ => ⟨R, μ, env, S, r, ?_⟩
  have h0 := pg_bind h
  refine po_mono (po_bind r h0) fun x H1 ⟨μ1, S1, d1, r1, h1⟩ => ⟨R, μ1, env, S1, r1.drop, ?_⟩
  refine po_mono (po_bind r1 h1) fun y H2 ⟨μ2, S2, d2, r2, h2⟩ => hf R μ2 H2 S2 σ env x y d1 d2 _ r2 ?_
  exact pg_mono h2 fun μ3 H3 S3 d3 s3 rs3 p3 v dr => po_bool ⟨rs3, r2.en.mono s3, .cons dr .nil⟩ p3
theorem mt_not (h : PT X a (tt X.K X.mg W ta)) : PT X (.UnaryOp .Not a pos) (tt X.K X.mg W (bNot ta)) := by
  refine (pt_not h).w fun σ H Q ⟨R, μ, env, S, r, h⟩ => ⟨R, μ, env, S, r, ?_⟩
  exact pob_mono (pob_bind r h) fun x H1 ⟨μ1, S1, r1, h1⟩ => pg_ok h1 r1.rs
theorem mw_and1 (h : PT X a (tt X.K X.mg W ta)) : PW X (.BoolOp .And [a] pos) (tt X.K X.mg W ta) := pw_and1 h
theorem mw_or1 (h : PT X a (tt X.K X.mg W ta)) : PW X (.BoolOp .Or [a] pos) (tt X.K X.mg W ta) := pw_or1 h
theorem _root_.L2.PW.w {X : Cx} {e : Expr} {t t' : TT} (h : PW X e t) (hw : ∀ σ H Q, t' σ H Q → t σ H Q) : PW X e t' := ⟨fun wh pins s σ H Q I q => h.run wh pins s σ H Q I (hw σ H Q q)⟩
theorem mw_and (h1 : PT X a (tt X.K X.mg W ta)) (h2 : PW X (.BoolOp .And (b :: rest) pos) (tt X.K X.mg W tb)) : PW X (.BoolOp .And (a :: b :: rest) pos) (tt X.K X.mg W (bAnd ta tb)) := by
  refine (pw_and h1 h2).w fun σ H Q ⟨R, μ, env, S, r, h⟩ => ⟨R, μ, env, S, r, ?_⟩
  refine pob_mono (pob_bind r h) fun c H1 ⟨μ1, S1, r1, h1⟩ => ?_
  cases c with
  | true => exact iteT ⟨R, μ1, env, S1, r1.drop, h1⟩
  | false => exact iteF (pg_ok h1 r1.rs)
theorem mw_or (h1 : PT X a (tt X.K X.mg W ta)) (h2 : PW X (.BoolOp .Or (b :: rest) pos) (tt X.K X.mg W tb)) : PW X (.BoolOp .Or (a :: b :: rest) pos) (tt X.K X.mg W (bOr ta tb)) := by
  refine (pw_or h1 h2).w fun σ H Q ⟨R, μ, env, S, r, h⟩ => ⟨R, μ, env, S, r, ?_⟩
  refine pob_mono (pob_bind r h) fun c H1 ⟨μ1, S1, r1, h1⟩ => ?_
  cases c with
  | true => exact iteT (pg_ok h1 r1.rs)
  | false => exact iteF ⟨R, μ1, env, S1, r1.drop, h1⟩
theorem me_if (hc : PT X c (tt X.K X.mg W tc)) (ha : PE X a (te X.K X.mg W ma)) (hb : PE X b (te X.K X.mg W mb)) : PE X (.IfExp c a b pos) (te X.K X.mg W (eIf tc ma mb)) := by
  refine (pe_ifExp hc ha hb).w fun σ H Q ⟨R, μ, env, S, r, h⟩ => ⟨R, μ, env, S, r, ?_⟩
  refine pob_mono (pob_bind r h) fun c H1 ⟨μ1, S1, r1, h1⟩ => ?_
  cases c with
  | true => exact iteT ⟨R, μ1, env, S1, r1.drop, h1⟩
  | false => exact iteF ⟨R, μ1, env, S1, r1.drop, h1⟩
/-- and, or, not as values: of bools -/
theorem me_one {op} {m : EM} (h : PE X a (te X.K X.mg W m)) : PE X (.BoolOp op [a] pos) (te X.K X.mg W m) := pe_one h
def eAnd (a b : EM) : EM := eIf (bOf a) b (eC (.bool false))
def eOr (a b : EM) : EM := eIf (bOf a) (eC (.bool true)) b
theorem me_and (ha : PE X a (te X.K X.mg W ma)) (hb : PE X (.BoolOp .And (b :: rest) pos) (te X.K X.mg W mb)) : PE X (.BoolOp .And (a :: b :: rest) pos) (te X.K X.mg W (eAnd ma mb)) := by
  refine (pe_and ha hb).w fun σ H Q ⟨R, μ, env, S, r, h⟩ => ⟨R, μ, env, S, r, ?_⟩
  have h0 := pg_bind (pg_bind h)
  refine pg_mono h0 fun μ1 H1 S1 d1 s1 rs1 p1 v dr => ?_
  obtain ⟨c, hc, h2⟩ := po_bool (Q := fun c H => if c = true then te X.K X.mg W mb σ H Q else Q (.bl false) H) ⟨rs1, r.en.mono s1, .cons dr .nil⟩ (pg_mono p1 fun μ2 H2 S2 c s2 rs2 p2 => by
    cases c with
    | true => exact iteT ⟨R, μ2, env, S2, ⟨rs2, (r.en.mono s1).mono s2, .nil⟩, p2⟩
    | false => exact iteF (po_ok p2 rs2 (.p (.bl false))))
  exact ⟨c, hc, h2⟩
theorem me_or (ha : PE X a (te X.K X.mg W ma)) (hb : PE X (.BoolOp .Or (b :: rest) pos) (te X.K X.mg W mb)) : PE X (.BoolOp .Or (a :: b :: rest) pos) (te X.K X.mg W (eOr ma mb)) := by
  refine (pe_or ha hb).w fun σ H Q ⟨R, μ, env, S, r, h⟩ => ⟨R, μ, env, S, r, ?_⟩
  have h0 := pg_bind (pg_bind h)
  refine pg_mono h0 fun μ1 H1 S1 d1 s1 rs1 p1 v dr => ?_
  obtain ⟨c, hc, h2⟩ := po_bool (Q := fun c H => if c = true then Q (.bl true) H else te X.K X.mg W mb σ H Q) ⟨rs1, r.en.mono s1, .cons dr .nil⟩ (pg_mono p1 fun μ2 H2 S2 c s2 rs2 p2 => by
    cases c with
    | true => exact iteT (po_ok p2 rs2 (.p (.bl true)))
    | false => exact iteF ⟨R, μ2, env, S2, ⟨rs2, (r.en.mono s1).mono s2, .nil⟩, p2⟩)
  exact ⟨c, hc, h2⟩
theorem me_not (ha : PE X a (te X.K X.mg W ma)) : PE X (.UnaryOp .Not a pos) (te X.K X.mg W (eB (bNot (bOf ma)))) := by
  refine (pe_not ha).w fun σ H Q ⟨R, μ, env, S, r, h⟩ => ⟨R, μ, env, S, r, ?_⟩
  have h0 := pg_bind (pg_bind (pg_bind h))
  refine pg_mono h0 fun μ1 H1 S1 d1 s1 rs1 p1 v dr => ?_
  obtain ⟨c, hc, h2⟩ := po_bool (Q := fun c H => Q (.bl (!c)) H) ⟨rs1, r.en.mono s1, .cons dr .nil⟩ (pg_mono p1 fun μ2 H2 S2 c s2 rs2 p2 => po_ok (pg_ok p2 rs2) rs2 (.p (.bl _)))
  exact ⟨c, hc, h2⟩
end
/-! ### argument lists, displays -/
abbrev AM := Envr → Sto → Ot (List D)
def aNil : AM := fun _ S => .ok [] S
def aCons (m : EM) (r : AM) : AM := fun env S => (m env S).bind fun d S1 => (r env S1).bind fun ds S2 => .ok (d :: ds) S2
/-- plain all of them -/
def plains : List D → Option (List PyData)
  | [] => some []
  | .p d :: r => (plains r).map (d :: ·)
  | .loc _ :: _ => none
  | .scr _ :: _ => none
def mkTup (ds : List D) (S : Sto) : Ot D := match plains ds with
  | some l => if l.length ≤ sizeLine then .ok (.p (.tuple l)) S else .bad
  | none => .bad
def mkLst (ds : List D) (S : Sto) : Ot D := match plains ds with
  | some l => if l.length ≤ sizeLine then .ok (.p (.list l)) S else .bad
  | none => .bad
def eTup (a : AM) : EM := fun env S => (a env S).bind mkTup
def eLst (a : AM) : EM := fun env S => (a env S).bind mkLst
/-- a list that will be changed -/
def eLstM (a : AM) : EM := fun env S => (a env S).bind fun ds S1 => if ds.length ≤ sizeLine then .ok (.loc S1.length) (S1 ++ [.lst ds]) else .bad
section
variable {K : PySem.W.Frag} {R : Addr → Prop} {mg : Str → Option Value} {W : WX} {μ μ' : Nat → Addr} {H H' : Hp} {S S' : Sto} {σ : L2.St} {env : Envr} {vs : List V} {ds : List D} {n : Nat}
theorem plains_pd {vs : List V} {ds : List D} {l : List PyData} (h : DRs K R H μ n vs ds) (e : plains ds = some l) : PdAll K H (Av R μ n) vs l := by
  induction h generalizing l with
  | nil => cases e; exact .nil
  | cons h t ih =>
    cases h with
    | loc _ => simp [plains] at e
    | scr _ => simp [plains] at e
    | p h =>
      unfold plains at e
      cases q : plains _ with
      | none => rw [q] at e; cases e
      | some l' =>
        rw [q] at e
        cases e
        exact .cons h (ih q)
theorem PdAll.len {O : Addr → Prop} : ∀ {vs : List V} {ds : List PyData}, PdAll K H O vs ds → vs.length = ds.length
  | _, _, .nil => rfl
  | _, _, .cons _ r => by rw [List.length_cons, List.length_cons, PdAll.len r]
/-- a new object that is no cell -/
theorem sp_new {p : Addr} {o : HO} (hp : H p = none) : Sp1 μ n H μ n (upd H p o) :=
  ⟨Nat.le_refl _, fun _ _ => rfl, ⟨fun a u h _ => by rw [upd_ne (ne_of_none h hp)]; exact h, fun a h => .inl h, fun a u h => by rw [upd_ne (ne_of_none h hp)]; exact h, fun a o u h => by rw [upd_ne (ne_of_none h hp)]; exact h⟩⟩
theorem CelR.mono {n' : Nat} {a : Addr} {c : Cell} (s : Sp1 μ n H μ' n' H') (h : CelR K R H μ n a c) (hk : ∀ o, H a = some o → H' a = some o) : CelR K R H' μ' n' a c := by
  cases c with
  | lst xs => obtain ⟨vs, h1, h2⟩ := h; exact ⟨vs, hk _ h1, h2.mono s⟩
  | dk xs => obtain ⟨vs, h1, h2⟩ := h; exact ⟨vs, hk _ h1, h2.mono s⟩
  | dt xs => obtain ⟨vs, h1, h2⟩ := h; exact ⟨vs, hk _ h1, h2.mono s⟩
theorem CelR.some {a : Addr} {c : Cell} (h : CelR K R H μ n a c) : ∃ o, H a = some o := by
  cases c with
  | lst xs => obtain ⟨vs, h1, h2⟩ := h; exact ⟨_, h1⟩
  | dk xs => obtain ⟨vs, h1, h2⟩ := h; exact ⟨_, h1⟩
  | dt xs => obtain ⟨vs, h1, h2⟩ := h; exact ⟨_, h1⟩
theorem RS.some (r : RS K R H μ S) {i : Nat} (hi : i < S.length) : ∃ o, H (μ i) = Option.some o := (r.cell i S[i] (by simp [hi])).some
theorem upd_there {p a : Addr} {o : HO} (h : H a ≠ none) : upd H p o a ≠ none := by
  unfold upd
  split
  · exact fun z => nomatch z
  · exact h
theorem rs_new {p : Addr} {o : HO} (hp : H p = none) (r : RS K R H μ S) : RS K R (upd H p o) μ S :=
  ⟨r.inj, fun i c h => (r.cell i c h).mono (sp_new hp) fun u hu => by rw [upd_ne (ne_of_none hu hp)]; exact hu, r.low, fun a h => ⟨upd_there (r.res a h).1, (r.res a h).2⟩⟩
theorem not_ownO (r : RS K R H μ S) {p : Addr} (hp : H p = none) : ¬ Own μ S.length p := fun ⟨i, hi, e⟩ => by
  obtain ⟨o, ho⟩ := r.some hi
  rw [← e, hp] at ho
  cases ho
theorem not_own (r : RS K R H μ S) {p : Addr} (hp : H p = none) : ¬ Av R μ S.length p := fun z => z.elim (not_ownO r hp) fun q => (r.res p q).1 hp
/-- a new cell -/
def ext (μ : Nat → Addr) (n : Nat) (p : Addr) : Nat → Addr := fun i => if i = n then p else μ i
theorem ext_lt {p : Addr} {i : Nat} (h : i < n) : ext μ n p i = μ i := if_neg (Nat.ne_of_lt h)
theorem ext_at {p : Addr} : ext μ n p n = p := if_pos rfl
theorem sp_cell {p : Addr} {o : HO} (hp : H p = none) : Sp1 μ n H (ext μ n p) (n + 1) (upd H p o) := by
  refine ⟨Nat.le_succ _, fun i h => ext_lt h, ⟨fun a u h _ => by rw [upd_ne (ne_of_none h hp)]; exact h, fun a h => ?_, fun a u h => by rw [upd_ne (ne_of_none h hp)]; exact h, fun a o u h => by rw [upd_ne (ne_of_none h hp)]; exact h⟩⟩
  obtain ⟨i, hi, e⟩ := h
  by_cases hin : i = n
  · subst hin
    rw [ext_at] at e
    exact .inr (by rw [e]; exact hp)
  · have hlt : i < n := by omega
    rw [ext_lt hlt] at e
    exact .inl ⟨i, hlt, e⟩
theorem rs_cell {p : Addr} {o : HO} {c : Cell} (hp : H p = none) (r : RS K R H μ S) (h : CelR K R (upd H p o) (ext μ S.length p) (S ++ [c]).length p c) (hb : c.lowb S.length = true) : RS K R (upd H p o) (ext μ S.length p) (S ++ [c]) := by
  have hl : (S ++ [c]).length = S.length + 1 := by simp
  refine ⟨fun i j hi hj e => ?_, fun i d hd => ?_, fun i d hd => ?_, fun a ha => ⟨upd_there (r.res a ha).1, fun z => ?_⟩⟩
  · have ne : ∀ i, i < S.length → μ i ≠ p := fun i hi e => by
      obtain ⟨o, ho⟩ := r.some hi
      rw [e, hp] at ho
      cases ho
    by_cases h1 : i = S.length
    · by_cases h2 : j = S.length
      · rw [h1, h2]
      · rw [h1, ext_at, ext_lt (by omega)] at e
        exact absurd e.symm (ne j (by omega))
    · by_cases h2 : j = S.length
      · rw [h2, ext_at, ext_lt (by omega)] at e
        exact absurd e (ne i (by omega))
      · rw [ext_lt (by omega), ext_lt (by omega)] at e
        exact r.inj i j (by omega) (by omega) e
  · by_cases h1 : i < S.length
    · rw [List.getElem?_append_left h1] at hd
      rw [ext_lt h1, hl]
      exact (r.cell i d hd).mono (sp_cell hp) fun u hu => by rw [upd_ne (ne_of_none hu hp)]; exact hu
    · have h2 : i = S.length := by
        have := (List.getElem?_eq_some_iff.mp hd).1
        omega
      subst h2
      rw [List.getElem?_append_right (Nat.le_refl _)] at hd
      simp at hd
      subst hd
      rw [ext_at]
      exact h
  · by_cases h1 : i < S.length
    · rw [List.getElem?_append_left h1] at hd
      exact r.low i d hd
    · have h2 : i = S.length := by
        have := (List.getElem?_eq_some_iff.mp hd).1
        omega
      subst h2
      rw [List.getElem?_append_right (Nat.le_refl _)] at hd
      simp at hd
      subst hd
      exact hb
  · rw [hl] at z
    rcases (sp_cell (μ := μ) (n := S.length) (o := o) hp).hp.own a z with q | q
    · exact (r.res a ha).2 q
    · exact (r.res a ha).1 q
theorem DRs.lowb : ∀ {vs : List V} {ds : List D}, DRs K R H μ n vs ds → ds.all (D.lowb n) = true
  | _, _, .nil => rfl
  | _, _, .cons (.p _) r => by rw [List.all_cons, DRs.lowb r]; rfl
  | _, _, .cons (.loc h) r => by rw [List.all_cons, DRs.lowb r, Bool.and_true]; exact decide_eq_true h
  | _, _, .cons (.scr _) r => by rw [List.all_cons, DRs.lowb r]; rfl
end
section
variable {X : Cx} {W : WX} {a b c e : Expr} {ma mb mc : EM} {aa : AM} {pos : Pos} {es : List Expr}
theorem ma_nil : PA X [] (ta X.K X.mg W aNil) := pa_nil.w fun σ H Q ⟨R, μ, env, S, r, h⟩ => (pg_ok h r.rs) [] .nil
theorem ma_cons (ha : PE X e (te X.K X.mg W ma)) (hr : PA X es (ta X.K X.mg W aa)) (hs : starEach (e :: es) X.env = (false, eval e X.env) :: starEach es X.env := by rfl) : PA X (e :: es) (ta X.K X.mg W (aCons ma aa)) := by
  refine (pa_cons ha hr hs).w fun σ H Q ⟨R, μ, env, S, r, h⟩ => ⟨R, μ, env, S, r, ?_⟩
  refine po_mono (po_bind r h) fun x H1 ⟨μ1, S1, d1, r1, h1⟩ => ⟨R, μ1, env, S1, r1.drop, ?_⟩
  refine poa_mono (poa_bind r1 h1) fun xs H2 ⟨μ2, S2, ds, r2, dr2, h2⟩ => ?_
  cases r2.tm with
  | cons t1 _ => exact (pg_ok h2 r2.rs) _ (.cons t1 dr2)
theorem me_tup {x1} (h : PA X es (ta X.K X.mg W aa)) : PE X (.Tuple es x1 pos) (te X.K X.mg W (eTup aa)) := by
  refine (pe_tupF h).w fun σ H Q ⟨R, μ, env, S, r, h⟩ => ⟨R, μ, env, S, r, ?_⟩
  refine poa_mono (poa_bind r h) fun xs H1 ⟨μ1, S1, ds, r1, dr1, h1⟩ => ?_
  unfold mkTup at h1
  cases e : plains ds with
  | none => rw [e] at h1; exact h1.elim
  | some l =>
    rw [e] at h1
    have q := plains_pd dr1 e
    dsimp only at h1
    by_cases hz : l.length ≤ sizeLine
    · rw [if_pos hz] at h1
      refine ⟨by rw [q.len]; exact hz, fun p o hp hd => ?_⟩
      have s2 : Sp1 μ1 S1.length H1 μ1 S1.length (upd H1 p (.frz o (.tup xs))) := sp_new hp
      exact h1 μ1 _ s2 (rs_new hp r1.rs) _ (.p (.tup ⟨o, upd_same, hd⟩ (q.mono (av_le s2.hp))))
    · rw [if_neg hz] at h1
      exact h1.elim
theorem me_lst (h : PA X es (ta X.K X.mg W aa)) : PE X (.List es pos) (te X.K X.mg W (eLst aa)) := by
  refine (pe_lst h).w fun σ H Q ⟨R, μ, env, S, r, h⟩ => ⟨R, μ, env, S, r, ?_⟩
  refine poa_mono (poa_bind r h) fun xs H1 ⟨μ1, S1, ds, r1, dr1, h1⟩ => ?_
  unfold mkLst at h1
  cases e : plains ds with
  | none => rw [e] at h1; exact h1.elim
  | some l =>
    rw [e] at h1
    have q := plains_pd dr1 e
    dsimp only at h1
    by_cases hz : l.length ≤ sizeLine
    · rw [if_pos hz] at h1
      refine ⟨by rw [q.len]; exact hz, fun p hp => ?_⟩
      have s2 : Sp1 μ1 S1.length H1 μ1 S1.length (upd H1 p (.lst xs)) := sp_new hp
      exact h1 μ1 _ s2 (rs_new hp r1.rs) _ (.p (.lst upd_same (not_own r1.rs hp) (q.mono (av_le s2.hp))))
    · rw [if_neg hz] at h1
      exact h1.elim
theorem me_lstM (h : PA X es (ta X.K X.mg W aa)) : PE X (.List es pos) (te X.K X.mg W (eLstM aa)) := by
  refine (pe_lst h).w fun σ H Q ⟨R, μ, env, S, r, h⟩ => ⟨R, μ, env, S, r, ?_⟩
  refine poa_mono (poa_bind r h) fun xs H1 ⟨μ1, S1, ds, r1, dr1, h1⟩ => ?_
  by_cases hz : ds.length ≤ sizeLine
  · rw [if_pos hz] at h1
    refine ⟨by rw [dr1.len]; exact hz, fun p hp => ?_⟩
    have hl : (S1 ++ [Cell.lst ds]).length = S1.length + 1 := by simp
    have s2 : Sp1 μ1 S1.length H1 (ext μ1 S1.length p) (S1 ++ [Cell.lst ds]).length (upd H1 p (.lst xs)) := by rw [hl]; exact sp_cell hp
    have d2 : DR X.K R (upd H1 p (.lst xs)) (ext μ1 S1.length p) (S1 ++ [Cell.lst ds]).length (.ref (ext μ1 S1.length p S1.length)) (.loc S1.length) := .loc (by rw [hl]; exact Nat.lt_succ_self _)
    rw [ext_at] at d2
    exact h1 _ _ s2 (rs_cell hp r1.rs ⟨xs, upd_same, dr1.mono s2⟩ dr1.lowb) _ d2
  · rw [if_neg hz] at h1
    exact h1.elim
end
end Mi

/-! Mi2 -/
set_option Elab.async false
set_option linter.all false
set_option maxRecDepth 100000
set_option maxHeartbeats 1000000
namespace Mi
open PySem PySem.Spec PyProof.Rows L2

/-! ### a def's promise where nothing is being shown (so that repr may be asked within) -/
structure FnG (P : Program) (w : World) (K : PySem.W.Frag) (mg : Str → Option Value) (base : Heap) (k : Nat) (f : Addr) (fd : FuncData) (ps : List Str) (sp : Sp) : Prop where
  len : ∀ vs H Q E, sp vs H Q E → vs.length = ps.length
  go : ∀ (A : Around) (outer : List Env) (s : Shared) (H : Hp) (args : Args) (us : List Value) (vs : List V) (Q : VK) (E : XK), A.guards = some [] → Room k A → Env0 P w K mg base A outer s H → BindsTo s fd args (ps.zip us) → Vals vs us →
    sp vs H Q E → codeAny (model P w) A (.call (.ref f) args) (L2.CR (L2.CX P w) outer P w H s Q E) s
section
variable {P : Program} {w : World} {K : PySem.W.Frag} {mg : Str → Option Value} {base : Heap}
theorem FnG.mono {j k : Nat} {f : Addr} {fd : FuncData} {ps : List Str} {sp : Sp} (F : FnG P w K mg base j f fd ps sp) (h : j ≤ k) : FnG P w K mg base k f fd ps sp :=
  ⟨F.len, fun A outer s H args us vs Q E hg hr => F.go A outer s H args us vs Q E hg (hr.mono h)⟩
/-- a def of the text by its body -/
theorem fng_of {x qual : Str} {st : Stmt} {f : Addr} {fd : FuncData} {N ps : List Str} {k : Nat} {sp : Sp} (F : Fun K x qual st f fd) (S : FnScope N ps (defScope st)) (len : ∀ vs H Q E, sp vs H Q E → vs.length = ps.length)
    (hbody : ∀ (cdv : Value) (A : Around) (outer : List Env) (s : Shared) (H : Hp) (vs : List V) (Q : VK) (E : XK), A.guards = some [] → Room k (A.deeper (envOfC qual (defScope st) s.heap.objs.size f cdv)) → sp vs H Q E →
      ∃ t, PSs (cxOf (L2.CX P w) P w K mg base N qual (defScope st) f cdv A outer s H E) (defBody st) t ∧ t { nx := fun _ H' => Q .non H', rt := Q } (start N vs) H) : FnG P w K mg base (k + 1) f fd ps sp := by
  obtain ⟨oc, od, kV, doc, pm, an, cdv, ct, osl, rfl, lk, hcd⟩ := F.ex
  constructor
  · exact len
  intro A outer s H args us vs Q E hg hr e0 hb r hsp
  have hl := len _ _ _ _ hsp
  have keep := fun b o (e : base.get? b = some o) => (e0.bs b o e).1
  have KX : K.In s.heap := e0.mod.kin.keeps keep
  have lim : s.heap.NoLimit := e0.mod.nolimit.keeps keep
  have hkind : ∀ y ∈ ps.zip us, (defScope st).names.lookup y.1 = some .local ∨ ((defScope st).names.lookup y.1 = some .cell ∧ ((cellsFrom (s.heap.objs.size + 1) (defScope st).names []).lookup y.1).isSome = true) := by
    rintro ⟨n, v⟩ hy
    cases S.par n (List.of_mem_zip hy).1 with
    | inl q => exact .inl q
    | inr q => exact .inr ⟨q, PySem.W.cellsFrom_some _ _ _ (.inl q)⟩
  apply codeAny_call_function hr.depth (KX _ _ lk) rfl S.co S.gen rfl (PySem.W.codeRec_of KX hcd)
  apply hb
  apply wpAny_newFunctionEnv_cells S.kind hkind
  intro env he s1 x
  subst he
  constructor
  · exact lim.keeps x.toInCall.keep
  apply codeAny_func
  obtain ⟨t, ht, hq⟩ := hbody cdv A outer s H vs Q E hg (hr.deeper _) hsp
  have I0 := inv_start (CX := L2.CX P w) (f := f) (cd := cdv) (qual := qual) (E := E) S hr.hd e0 hl r x
  refine wpAny_mono (ht.run [] s1 (start N vs) H _ I0 hq) ?_ (fun e s' hs => hs)
  intro fl s' hs
  cases fl with
  | ret u => exact let ⟨v, _, H', J, rv, q⟩ := hs; ⟨v, H', J.os, J.bare, J.base, J.hok, rv, q⟩
  | next => exact let ⟨_, H', J, q⟩ := hs; ⟨V.non, H', J.os, J.bare, J.base, J.hok, rfl, q⟩
  | brk => exact let ⟨_, _, _, q⟩ := hs; q.elim
  | cont => exact let ⟨_, _, _, q⟩ := hs; q.elim
end
section
variable {X : Cx} {k : Nat} {f : Addr} {fd : FuncData} {ps : List Str} {sp : Sp} {W : WX} {x : Str} {p pos : Pos} {e : Expr} {es : List Expr} {t : TA}
/-- what a callee lets out is wished for at these slots -/
def EAt (W : WX) (σ : L2.St) : XK := fun c d H => W c d σ H
theorem run_g {pins : List (Addr × Obj)} {σ : L2.St} {H : Hp} {s : Shared} {Q : VK} {us : List Value} {vs : List V} (F : FnG X.prog X.w X.K X.mg X.base k f fd ps sp) (hg : X.A.guards = some []) (hr : Room k X.A) (hb : Binds X.K fd ps []) (tk : L2.Takes X W)
    (I : Inv X pins σ H s) (r : Vals vs us) (h : sp vs H Q (EAt W σ)) : wpAny (model X.prog X.w) X.A (call (.ref f) us) (EP X pins σ Q) X.xe s := by
  have hl : (us ++ []).length = ps.length := by
    rw [List.append_nil, ← r.length]
    exact F.len _ _ _ _ h
  have b := hb s us I.kIn hl
  rw [List.append_nil] at b
  apply wpAny_call
  apply codeAny_mono (F.go X.A X.stack s H ⟨us, []⟩ us vs Q (EAt W σ) hg hr I.env0 b r h)
  intro q s' hq
  match q, hq with
  | .error e, hq => exact tk e s' (L2.XE.of_call I (fun _ _ _ z => z) hq)
  | .ok (.ret u), hq => exact I.after hq
  | .ok .next, hq => exact hq.elim
  | .ok .brk, hq => exact hq.elim
  | .ok .cont, hq => exact hq.elim
def tCallG (sp : Sp) (W : WX) (t : TA) : TE := fun σ H Q => t σ H fun vs H1 => sp vs H1 Q (EAt W σ)
theorem pe_callG (F : FnG X.prog X.w X.K X.mg X.base k f fd ps sp) (hgd : X.A.guards = some []) (hr : Room k X.A) (hg : Gl X x) (hm : X.mg x = some (.ref f)) (hk : PySem.W.keepIn X.K (.ref f) = true) (hb : Binds X.K fd ps []) (tk : L2.Takes X W)
    (ha : PA X (e :: es) t) (hdb : (x == ("__debug__" : Str)) = false := by decide) (he : starEach (e :: es) X.env = (false, eval e X.env) :: starEach es X.env := by rfl)
    (hpl : (backTo pos (starEach es X.env)).any (·.1) = false := by rfl) : PE X (.Call (.Name x p) (e :: es) [] pos) (tCallG sp W t) := by
  constructor
  intro pins s σ H Q I h
  apply wpAny_Call_Name_kw
  apply ld_glob I hg hm _ hdb
  apply PySem.W.callWith_K (h₀ := X.base) I.ok.mod.kin hk _ he hpl
  apply thn (ha.run pos pins s σ H _ I h)
  rintro us s1 ⟨vs, H1, I1, r, q⟩
  exact ⟨I1.kIn, run_g F hgd hr hb tk I1 r q⟩
theorem pe_callG0 (F : FnG X.prog X.w X.K X.mg X.base k f fd ps sp) (hgd : X.A.guards = some []) (hr : Room k X.A) (hg : Gl X x) (hm : X.mg x = some (.ref f)) (hk : PySem.W.keepIn X.K (.ref f) = true) (hb : Binds X.K fd ps []) (tk : L2.Takes X W)
    (hdb : (x == ("__debug__" : Str)) = false := by decide) : PE X (.Call (.Name x p) [] [] pos) (tCallG sp W tNil) := by
  constructor
  intro pins s σ H Q I h
  apply wpAny_Call_Name_kw
  apply ld_glob I hg hm _ hdb
  exact PySem.W.callWith_K0 I.kIn hk (run_g (us := []) F hgd hr hb tk I .nil h)
end
/-! ### the promise of a plain reckoning -/
def spF (K : PySem.W.Frag) (mg : Str → Option Value) (n : Nat) (m : FM) : Sp := fun vs H Q E => vs.length = n ∧ ∃ R μ S ds, RS K R H μ S ∧ DRs K R H μ S.length vs ds ∧
  match m ds S with
  | .bad => False
  | .err e S' => ∀ μ' H' cls dd, Sp1 μ S.length H μ' S'.length H' → RS K R H' μ' S' → ErR K mg H' (Av R μ' S'.length) cls dd e → E cls dd H'
  | .ok d S' => ∀ μ' H' v, Sp1 μ S.length H μ' S'.length H' → RS K R H' μ' S' → DR K R H' μ' S'.length v d → Q v H'
def eCall (m : FM) (a : AM) : EM := fun env S => (a env S).bind m
section
variable {X : Cx} {k n : Nat} {f : Addr} {fd : FuncData} {ps : List Str} {W : WX} {x : Str} {p pos : Pos} {e : Expr} {es : List Expr} {aa : AM} {m : FM}
theorem spf_po {K : PySem.W.Frag} {R : Addr → Prop} {mg : Str → Option Value} {μ : Nat → Addr} {H : Hp} {S : Sto} {σ : L2.St} {env : Envr} {vs : List V} {ds : List D} {Q : VK} (r : RL K R μ H S σ env [] []) (h : DRs K R H μ S.length vs ds) (hl : vs.length = n) (q : Po K mg W R μ S H σ env (m ds S) Q) :
    spF K mg n m vs H Q (EAt W σ) := by
  refine ⟨hl, R, μ, S, ds, r.rs, h, ?_⟩
  cases e : m ds S with
  | bad => rw [e] at q; exact q
  | err x S1 =>
    rw [e] at q
    exact fun μ' H' cls dd s rs er => q μ' H' cls dd s (r.mono s rs) er
  | ok d S1 =>
    rw [e] at q
    exact fun μ' H' v s rs dr => q μ' H' s rs v dr
/-- so many arguments -/
def arity (n : Nat) (m : FM) : FM := fun ds S => if ds.length = n then m ds S else .bad
theorem me_call (F : FnG X.prog X.w X.K X.mg X.base k f fd ps (spF X.K X.mg n (arity n m))) (hgd : X.A.guards = some []) (hr : Room k X.A) (hm : X.mg x = some (.ref f)) (hk : PySem.W.keepIn X.K (.ref f) = true) (hb : Binds X.K fd ps []) (tk : L2.Takes X W)
    (ha : PA X (e :: es) (ta X.K X.mg W aa)) (hg : Gl X x := by rfl) (hdb : (x == ("__debug__" : Str)) = false := by decide) (he : starEach (e :: es) X.env = (false, eval e X.env) :: starEach es X.env := by rfl)
    (hpl : (backTo pos (starEach es X.env)).any (·.1) = false := by rfl) : PE X (.Call (.Name x p) (e :: es) [] pos) (te X.K X.mg W (eCall (arity n m) aa)) := by
  refine (pe_callG F hgd hr hg hm hk hb tk ha hdb he hpl).w fun σ H Q ⟨R, μ, env, S, r, h⟩ => ⟨R, μ, env, S, r, ?_⟩
  refine poa_mono (poa_bind r h) fun xs H1 ⟨μ1, S1, ds, r1, dr1, h1⟩ => ?_
  by_cases hl : ds.length = n
  · exact spf_po r1 dr1 (dr1.len.trans hl) h1
  · unfold arity at h1
    rw [if_neg hl] at h1
    exact h1.elim
theorem me_call0 (F : FnG X.prog X.w X.K X.mg X.base k f fd ps (spF X.K X.mg 0 (arity 0 m))) (hgd : X.A.guards = some []) (hr : Room k X.A) (hm : X.mg x = some (.ref f)) (hk : PySem.W.keepIn X.K (.ref f) = true) (hb : Binds X.K fd ps []) (tk : L2.Takes X W)
    (hg : Gl X x := by rfl) (hdb : (x == ("__debug__" : Str)) = false := by decide) : PE X (.Call (.Name x p) [] [] pos) (te X.K X.mg W (eCall (arity 0 m) aNil)) := by
  refine (pe_callG0 F hgd hr hg hm hk hb tk hdb).w fun σ H Q ⟨R, μ, env, S, r, h⟩ => ?_
  exact spf_po r .nil rfl h
end
end Mi

/-! Mi3 -/
set_option Elab.async false
set_option linter.all false
set_option maxRecDepth 100000
set_option maxHeartbeats 1000000
set_option autoImplicit false
namespace Mi
open PySem PySem.Spec PyProof.Rows L2

/-! ### statements -/
section
variable (K : PySem.W.Frag) (mg : Str → Option Value) (W : WX)
def Pz (R : Addr → Prop) (μ : Nat → Addr) (S : Sto) (H : Hp) (o : Os) (D : Ends) : Prop :=
  match o with
  | .bad => False
  | .nx env' S' => ∀ μ' H' σ', Sp1 μ S.length H μ' S'.length H' → RL K R μ' H' S' σ' env' [] [] → D.nx σ' H'
  | .bk env' S' => ∀ μ' H' σ', Sp1 μ S.length H μ' S'.length H' → RL K R μ' H' S' σ' env' [] [] → D.bk σ' H'
  | .ct env' S' => ∀ μ' H' σ', Sp1 μ S.length H μ' S'.length H' → RL K R μ' H' S' σ' env' [] [] → D.ct σ' H'
  | .rt d S' => ∀ μ' H' v, Sp1 μ S.length H μ' S'.length H' → RS K R H' μ' S' → DR K R H' μ' S'.length v d → D.rt v H'
  | .err e env' S' => ∀ μ' H' σ' cls dd, Sp1 μ S.length H μ' S'.length H' → RL K R μ' H' S' σ' env' [] [] → ErR K mg H' (Av R μ' S'.length) cls dd e → W cls dd σ' H'
def ts (m : SM) : TS := fun D σ H => ∃ R μ env S, RL K R μ H S σ env [] [] ∧ Pz K mg W R μ S H (m env S) D
end
section
variable {K : PySem.W.Frag} {R : Addr → Prop} {mg : Str → Option Value} {W : WX} {μ μ' : Nat → Addr} {H H' : Hp} {S S' : Sto} {σ : L2.St} {env : Envr} {D D' : Ends}
theorem pz_later {o : Os} (s : Sp1 μ S.length H μ' S'.length H') (h : Pz K mg W R μ S H o D) : Pz K mg W R μ' S' H' o D := by
  cases o with
  | bad => exact h
  | nx e S2 => exact fun m2 H2 σ2 s2 r2 => h m2 H2 σ2 (s.trans s2) r2
  | bk e S2 => exact fun m2 H2 σ2 s2 r2 => h m2 H2 σ2 (s.trans s2) r2
  | ct e S2 => exact fun m2 H2 σ2 s2 r2 => h m2 H2 σ2 (s.trans s2) r2
  | rt d S2 => exact fun m2 H2 v s2 r2 d2 => h m2 H2 v (s.trans s2) r2 d2
  | err e v S2 => exact fun m2 H2 σ2 c d s2 r2 e2 => h m2 H2 σ2 c d (s.trans s2) r2 e2
theorem pz_mono {o : Os} (h : Pz K mg W R μ S H o D) (h1 : ∀ σ H, D.nx σ H → D'.nx σ H) (h2 : ∀ v H, D.rt v H → D'.rt v H) (h3 : ∀ σ H, D.bk σ H → D'.bk σ H) (h4 : ∀ σ H, D.ct σ H → D'.ct σ H) : Pz K mg W R μ S H o D' := by
  cases o with
  | bad => exact h
  | nx e S2 => exact fun m2 H2 σ2 s2 r2 => h1 _ _ (h m2 H2 σ2 s2 r2)
  | bk e S2 => exact fun m2 H2 σ2 s2 r2 => h3 _ _ (h m2 H2 σ2 s2 r2)
  | ct e S2 => exact fun m2 H2 σ2 s2 r2 => h4 _ _ (h m2 H2 σ2 s2 r2)
  | rt d S2 => exact fun m2 H2 v s2 r2 d2 => h2 _ _ (h m2 H2 v s2 r2 d2)
  | err e v S2 => exact h
/-- a reckoning ahead of a statement -/
def Ot.then {α : Type} (m : Ot α) (env : Envr) (k : α → Sto → Os) : Os :=
  match m with
  | .bad => .bad
  | .err e S => .err e env S
  | .ok a S => k a S
theorem pz_then {α : Type} {m : Ot α} {k : α → Sto → Os} (h : Pz K mg W R μ S H (m.then env k) D) : Pg K mg W R μ S H σ env m fun μ1 H1 S1 a => Pz K mg W R μ1 S1 H1 (k a S1) D := by
  cases m with
  | bad => exact h
  | err e S1 => exact fun μ' H' cls dd s r er => h μ' H' σ cls dd s r er
  | ok a S1 => exact fun μ1 H1 s1 rs1 => pz_later s1 h
theorem pz_nx {env' : Envr} (h : Pz K mg W R μ S H (.nx env' S) D) (r : RL K R μ H S σ env' [] []) : D.nx σ H := h μ H σ Sp1.refl r
end
def sSeq (a b : SM) : SM := fun env S => match a env S with
  | .nx env1 S1 => b env1 S1
  | o => o
def sNx : SM := fun env S => .nx env S
def sExpr (m : EM) : SM := fun env S => (m env S).then env fun _ S1 => .nx env S1
def sRet (m : EM) : SM := fun env S => (m env S).then env fun d S1 => .rt d S1
def sRetN : SM := fun _ S => .rt (.p .none) S
def sBk : SM := fun env S => .bk env S
def sCt : SM := fun env S => .ct env S
def sIf (t : BM) (a b : SM) : SM := fun env S => (t env S).then env fun c S1 => if c = true then a env S1 else b env S1
/-- targets -/
abbrev GM := D → Envr → Option Envr
def gN (i : Nat) : GM := fun d env => some (env.set i (some d))
def gsOf : List GM → List PyData → Envr → Option Envr
  | [], [], env => some env
  | g :: gs, d :: ds, env => (g (.p d) env).bind fun e => gsOf gs ds e
  | _, _, _ => none
def gT (gs : List GM) : GM := fun d env => match d with
  | .p (.tuple ds) => gsOf gs ds env
  | .p (.dict [(.none, .none), (x, y)]) => gsOf gs [x, y] env
  | _ => none
def sAsg (m : EM) (g : GM) : SM := fun env S => (m env S).then env fun d S1 => match g d env with
  | some e => .nx e S1
  | none => .bad
def tg (K : PySem.W.Frag) (g : GM) : TG := fun v σ H Q => ∃ R μ S env d env', RL K R μ H S σ env [v] [d] ∧ g d env = some env' ∧ ∀ σ', RL K R μ H S σ' env' [] [] → Q σ' H
section
variable {X : Cx} {W : WX} {st : Stmt} {rest body : List Stmt} {e c target : Expr} {m : EM} {t : BM} {a b : SM} {g : GM} {pos : Pos}
theorem ss_nil : PSs X [] (ts X.K X.mg W sNx) := pss_nil.w fun D σ H ⟨R, μ, env, S, r, h⟩ => pz_nx h r
theorem ss_cons (h1 : PS X st (ts X.K X.mg W a)) (h2 : PSs X rest (ts X.K X.mg W b)) : PSs X (st :: rest) (ts X.K X.mg W (sSeq a b)) := by
  refine (pss_cons h1 h2).w fun D σ H ⟨R, μ, env, S, r, h⟩ => ⟨R, μ, env, S, r, ?_⟩
  unfold sSeq at h
  cases q : a env S with
  | bad => rw [q] at h; exact h
  | bk e2 S2 => rw [q] at h; exact h
  | ct e2 S2 => rw [q] at h; exact h
  | rt d S2 => rw [q] at h; exact h
  | err x e2 S2 => rw [q] at h; exact h
  | nx e2 S2 =>
    rw [q] at h
    exact fun μ' H' σ' s r' => ⟨R, μ', e2, S2, r', pz_later s h⟩
theorem ss_one (h1 : PS X st (ts X.K X.mg W a)) : PSs X [st] (ts X.K X.mg W a) := pss_one h1
theorem ms_pass : PS X (.Pass pos) (ts X.K X.mg W sNx) := ps_pass.w fun D σ H ⟨R, μ, env, S, r, h⟩ => pz_nx h r
theorem ms_break : PS X (.Break pos) (ts X.K X.mg W sBk) := ps_break.w fun D σ H ⟨R, μ, env, S, r, h⟩ => h μ H σ Sp1.refl r
theorem ms_continue : PS X (.Continue pos) (ts X.K X.mg W sCt) := ps_continue.w fun D σ H ⟨R, μ, env, S, r, h⟩ => h μ H σ Sp1.refl r
theorem ms_expr (h : PE X e (te X.K X.mg W m)) (hs : swapsWith e none pos.line X.env = pure false := by rfl) : PS X (.Expr e pos) (ts X.K X.mg W (sExpr m)) := by
  refine (ps_expr h hs).w fun D σ H ⟨R, μ, env, S, r, h⟩ => ⟨R, μ, env, S, r, ?_⟩
  exact pg_mono (pz_then h) fun μ1 H1 S1 d s1 rs1 p v dr => pz_nx p (r.mono s1 rs1)
theorem ms_ret (h : PE X e (te X.K X.mg W m)) : PS X (.Return (some e) pos) (ts X.K X.mg W (sRet m)) := by
  refine (ps_ret h).w fun D σ H ⟨R, μ, env, S, r, h⟩ => ⟨R, μ, env, S, r, ?_⟩
  exact pg_mono (pz_then h) fun μ1 H1 S1 d s1 rs1 p v dr => p μ1 H1 v Sp1.refl rs1 dr
theorem ms_retN : PS X (.Return none pos) (ts X.K X.mg W sRetN) := ps_retN.w fun D σ H ⟨R, μ, env, S, r, h⟩ => h μ H .non Sp1.refl r.rs (.p .non)
theorem ms_if {a1 b1 : List Stmt} (hc : PT X c (tt X.K X.mg W t)) (ha : PSs X a1 (ts X.K X.mg W a)) (hb : PSs X b1 (ts X.K X.mg W b)) : PS X (.If c a1 b1 pos) (ts X.K X.mg W (sIf t a b)) := by
  refine (ps_if hc ha hb).w fun D σ H ⟨R, μ, env, S, r, h⟩ => ⟨R, μ, env, S, r, ?_⟩
  refine pg_mono (pz_then h) fun μ1 H1 S1 d s1 rs1 p => ?_
  cases d with
  | true => exact iteT ⟨R, μ1, env, S1, r.mono s1 rs1, p⟩
  | false => exact iteF ⟨R, μ1, env, S1, r.mono s1 rs1, p⟩
theorem _root_.L2.PG.w {X : Cx} {e : Expr} {t t' : TG} (h : PG X e t) (hw : ∀ v σ H Q, t' v σ H Q → t v σ H Q) : PG X e t' := ⟨fun pins s σ H v u Q I r q => h.run pins s σ H v u Q I r (hw v σ H Q q)⟩
theorem mg_name {i : Nat} {x : Str} (hN : X.N.Nodup) (hi : X.N[i]? = some x := by rfl) (hx : Loc X.env.scope x := by first | exact Or.inl rfl | exact Or.inr rfl) (hf : X.fn x = true ∨ X.env.scope.names.lookup x = some .local := by first | exact .inl rfl | exact .inr rfl | assumption) :
    PG X (.Name x pos) (tg X.K (gN i)) := by
  refine (pg_name hN hi hx hf).w fun v σ H Q ⟨R, μ, S, env, d, env', r, e, q⟩ => ?_
  cases e
  cases r.tm with
  | cons h1 _ => exact q _ ⟨r.rs, r.en.set h1 i, .nil⟩
def tgs (K : PySem.W.Frag) (gs : List GM) : TGs := fun vs σ H Q => ∃ R μ S env ds env', RL K R μ H S σ env [] [] ∧ PdAll K H (Av R μ S.length) vs ds ∧ gsOf gs ds env = some env' ∧ ∀ σ', RL K R μ H S σ' env' [] [] → Q σ' H
theorem _root_.L2.PGs.w {X : Cx} {e : List Expr} {t t' : TGs} (h : PGs X e t) (hw : ∀ v σ H Q, t' v σ H Q → t v σ H Q) : PGs X e t' := ⟨fun pins s σ H v u Q I r q => h.run pins s σ H v u Q I r (hw v σ H Q q)⟩
theorem mgs_nil : PGs X [] (tgs X.K []) := by
  refine pgs_nil.w fun vs σ H Q ⟨R, μ, S, env, ds, env', r, pd, e, q⟩ => ?_
  cases pd with
  | nil => cases e; exact ⟨rfl, q σ r⟩
  | cons _ _ => cases e
theorem mgs_cons {es : List Expr} {gs : List GM} (h1 : PG X e (tg X.K g)) (h2 : PGs X es (tgs X.K gs)) (hs : (assignEach (e :: es) X.env).map (·.2) = assign e X.env :: (assignEach es X.env).map (·.2) := by rfl) : PGs X (e :: es) (tgs X.K (g :: gs)) := by
  refine (pgs_cons h1 h2 hs).w fun vs σ H Q ⟨R, μ, S, env, ds, env', r, pd, e, q⟩ => ?_
  cases pd with
  | nil => cases e
  | @cons v vr d dr p1 p2 =>
    unfold gsOf at e
    cases e1 : g (.p d) env with
    | none => rw [e1] at e; cases e
    | some e2 =>
      rw [e1] at e
      exact ⟨v, vr, rfl, R, μ, S, env, .p d, e2, ⟨r.rs, r.en, .cons (.p p1) .nil⟩, e1, fun σ1 r1 => ⟨R, μ, S, e2, dr, env', r1, p2, e, q⟩⟩
theorem gsOf_len : ∀ {gs : List GM} {ds : List PyData} {env env' : Envr}, gsOf gs ds env = some env' → ds.length = gs.length
  | [], [], _, _, _ => rfl
  | [], _ :: _, _, _, h => by cases h
  | _ :: _, [], _, _, h => by cases h
  | g :: gs, d :: ds, env, env', h => by
    unfold gsOf at h
    cases e1 : g (.p d) env with
    | none => rw [e1] at h; cases h
    | some e2 =>
      rw [e1] at h
      rw [List.length_cons, List.length_cons, gsOf_len (env := e2) h]
theorem mg_tup {es : List Expr} {x1 : Nat} {gs : List GM} (hc : X.calm = true) (h : PGs X es (tgs X.K gs)) (hn : (assignEach es X.env).length = gs.length := by rfl) (hst : (assignEach es X.env).findIdx? (·.1) = none := by rfl) :
    PG X (.Tuple es x1 pos) (tg X.K (gT gs)) := by
  refine (pg_tup hc h hn hst).w fun v σ H Q ⟨R, μ, S, env, d, env', r, e, q⟩ => ?_
  cases r.tm with
  | cons h1 _ =>
    cases h1 with
    | loc _ => cases e
    | scr _ => cases e
    | p h1 =>
      cases h1 with
      | non => cases e
      | bl _ => cases e
      | int _ => cases e
      | str _ => cases e
      | lst _ _ _ => cases e
      | dk0 _ _ => cases e
      | dk1 _ _ _ => cases e
      | wk hs pa pb => exact ⟨_, _, rfl, SqT.of hs, gsOf_len e, R, μ, S, env, _, env', r.drop, .cons pa (.cons pb .nil), e, q⟩
      | @tup a xs ds hs hall => exact ⟨a, xs, rfl, hs.sqt, by rw [hall.len]; exact gsOf_len e, R, μ, S, env, ds, env', r.drop, hall, e, q⟩
theorem ms_asg (h : PE X e (te X.K X.mg W m)) (hg : PG X target (tg X.K g)) (hs : swapsWithSole [target] e pos.line X.env = pure false := by rfl) (hw : swappedStores [target] e X.env = pure none := by rfl)
    (h1 : (assignEach [target] X.env).map (·.2) = [assign target X.env] := by rfl) : PS X (.Assign [target] e pos) (ts X.K X.mg W (sAsg m g)) := by
  refine (ps_asg h hg hs hw h1).w fun D σ H ⟨R, μ, env, S, r, h⟩ => ⟨R, μ, env, S, r, ?_⟩
  refine pg_mono (pz_then h) fun μ1 H1 S1 d s1 rs1 p v dr => ?_
  cases e1 : g d env with
  | none => rw [e1] at p; exact p.elim
  | some env' =>
    rw [e1] at p
    exact ⟨R, μ1, S1, env, d, env', ⟨rs1, r.en.mono s1, .cons dr .nil⟩, e1, fun σ' r' => pz_nx p r'⟩
end

/-! ### a def's body -/
/-- what comes back: cells of its own go; what it made and hands back is kept (b) or read only from then on -/
def fin (b : Bool) (n : Nat) (d : D) (S : Sto) : Ot D :=
  match d with
  | .p x => .ok (.p x) (S.take n)
  | .scr x => .ok (.scr x) (S.take n)
  | .loc i => if i < n then .ok (.loc i) (S.take n) else match b, S[i]? with
    | false, some (.lst xs) => match plains xs with
      | some l => .ok (.p (.list l)) (S.take n)
      | none => .bad
    | true, some c => if c.lowb n = true then .ok (.loc n) (S.take n ++ [c]) else .bad
    | _, _ => .bad
/-- a def of ps parameters and so many names in all -/
def fnM (b : Bool) (ps all : Nat) (m : SM) : FM := arity ps fun ds S => match m (ds.map some ++ List.replicate (all - ps) none) S with
  | .nx _ S1 => fin b S.length (.p .none) S1
  | .rt d S1 => fin b S.length d S1
  | .err e _ S1 => .err e (S1.take S.length)
  | _ => .bad
section
variable {K : PySem.W.Frag} {R : Addr → Prop} {mg : Str → Option Value} {W : WX} {μ μ' : Nat → Addr} {H H' : Hp} {S S' : Sto} {σ : L2.St} {env : Envr} {n m : Nat}
theorem le_cut (h : n ≤ m) : Le H (Own μ m) H (Own μ n) := ⟨fun _ _ q _ => q, fun _ ⟨i, hi, e⟩ => .inl ⟨i, Nat.lt_of_lt_of_le hi h, e⟩, fun _ _ q => q, fun _ _ _ q => q⟩
theorem av_re {μ2 : Nat → Addr} {n2 : Nat} (ho : ∀ a, Own μ2 n2 a → Own μ m a) : Le H (Av R μ m) H (Av R μ2 n2) := ⟨fun _ _ q _ => q, fun a z => .inl (z.elim (fun q => .inl (ho a q)) .inr), fun _ _ q => q, fun _ _ _ q => q⟩
theorem drs_re {μ2 : Nat → Addr} {n2 : Nat} (ho : ∀ a, Own μ2 n2 a → Own μ m a) (hs : ∀ j, j < n → μ2 j = μ j) (hn : n ≤ n2) : ∀ {vs : List V} {ds : List D}, ds.all (D.lowb n) = true → DRs K R H μ m vs ds → DRs K R H μ2 n2 vs ds
  | _, _, _, .nil => .nil
  | _, .p d :: r, q, .cons (.p x) t => .cons (.p (x.mono (av_re ho))) (drs_re ho hs hn (by rw [List.all_cons] at q; exact (Bool.and_eq_true_iff.mp q).2) t)
  | _, .loc i :: r, q, .cons (.loc x) t => by
    rw [List.all_cons] at q
    obtain ⟨q1, q2⟩ := Bool.and_eq_true_iff.mp q
    have q3 : i < n := of_decide_eq_true q1
    rw [← hs i q3]
    exact .cons (.loc (Nat.lt_of_lt_of_le q3 hn)) (drs_re ho hs hn q2 t)
  | _, .scr d :: r, q, .cons (.scr x) t => .cons (.scr x) (drs_re ho hs hn (by rw [List.all_cons] at q; exact (Bool.and_eq_true_iff.mp q).2) t)
theorem own_cut (h : n ≤ m) : ∀ a, Own μ n a → Own μ m a := fun _ ⟨i, hi, e⟩ => ⟨i, Nat.lt_of_lt_of_le hi h, e⟩
theorem drs_cut (h : n ≤ m) {vs : List V} {ds : List D} (q : ds.all (D.lowb n) = true) (r : DRs K R H μ m vs ds) : DRs K R H μ n vs ds := drs_re (own_cut h) (fun _ _ => rfl) (Nat.le_refl _) q r
theorem cel_re {μ2 : Nat → Addr} {n2 : Nat} (ho : ∀ a, Own μ2 n2 a → Own μ m a) (hs : ∀ j, j < n → μ2 j = μ j) (hn : n ≤ n2) {a : Addr} {c : Cell} (q : c.lowb n = true) (x : CelR K R H μ m a c) : CelR K R H μ2 n2 a c := by
  cases c with
  | lst xs => obtain ⟨vs, h1, h2⟩ := x; exact ⟨vs, h1, drs_re ho hs hn q h2⟩
  | dk xs => obtain ⟨vs, h1, h2, h3⟩ := x; exact ⟨vs, h1, h2, drs_re ho hs hn q h3⟩
  | dt xs => obtain ⟨vs, h1, h2, h3⟩ := x; exact ⟨vs, h1, h2, drs_re ho hs hn q h3⟩
theorem lowb_mono {c : Cell} (h : n ≤ m) (q : c.lowb n = true) : c.lowb m = true := by
  refine List.all_eq_true.mpr fun d hd => ?_
  have := List.all_eq_true.mp q d hd
  cases d with
  | p _ => rfl
  | scr _ => rfl
  | loc i => exact decide_eq_true (Nat.lt_of_lt_of_le (of_decide_eq_true this) h)
theorem cel_cut {a : Addr} {c : Cell} (h : n ≤ m) (q : c.lowb n = true) (x : CelR K R H μ m a c) : CelR K R H μ n a c := cel_re (own_cut h) (fun _ _ => rfl) (Nat.le_refl _) q x
theorem len_cut (h : n ≤ S.length) : (S.take n).length = n := by rw [List.length_take]; omega
theorem rs_cut (r : RS K R H μ S) (h : n ≤ S.length) : RS K R H μ (S.take n) := by
  have hl := len_cut h
  refine ⟨fun i j hi hj e => r.inj i j (by omega) (by omega) e, fun i c hc => ?_, fun i c hc => ?_, fun a ha => ⟨(r.res a ha).1, fun z => (r.res a ha).2 (own_cut (by omega) a z)⟩⟩
  · rw [List.getElem?_take] at hc
    split at hc
    · rename_i hi
      rw [hl]
      exact cel_cut h (lowb_mono (Nat.le_of_lt hi) (r.low i c hc)) (r.cell i c hc)
    · cases hc
  · rw [List.getElem?_take] at hc
    split at hc
    · exact r.low i c hc
    · cases hc
theorem sp_cut (s : Sp1 μ n H μ' m H') (h : n ≤ m) : Sp1 μ n H μ' n H' :=
  ⟨Nat.le_refl _, s.same, s.hp.trans (le_cut h)⟩
theorem start_dro {N : List Str} {vs : List V} {ds : List D} (hl : vs.length ≤ N.length) (h : DRs K R H μ n vs ds) : DRo K R H μ n (start N vs) (ds.map some ++ List.replicate (N.length - ds.length) none) := by
  have e : start N vs = vs.map some ++ List.replicate (N.length - vs.length) none := rfl
  rw [e, h.len]
  clear e hl
  induction h with
  | nil =>
    show DRo K R H μ n (List.replicate _ none) (List.replicate _ none)
    induction (N.length - ([] : List D).length) with
    | zero => exact .nil
    | succ k ih => exact .none ih
  | cons a r ih =>
    rename_i v vs d ds
    have : ∀ k, DRo K R H μ n (vs.map some ++ List.replicate k none) (ds.map some ++ List.replicate k none) := by
      intro k
      clear ih a
      induction r with
      | nil =>
        show DRo K R H μ n (List.replicate _ none) (List.replicate _ none)
        induction k with
        | zero => exact .nil
        | succ k ih => exact .none ih
      | cons a r ih => exact .some a ih
    exact .some a (this _)
/-- what fin gives stands -/
theorem fin_ok {b : Bool} {d : D} {v : V} {Q : VK} {W' : WX} (s : Sp1 μ S.length H μ' S'.length H') (rs : RS K R H' μ' S') (dr : DR K R H' μ' S'.length v d)
    (h : match fin b S.length d S' with
      | .bad => False
      | .err _ _ => True
      | .ok d2 S2 => ∀ μ2 H2 v2, Sp1 μ S.length H μ2 S2.length H2 → RS K R H2 μ2 S2 → DR K R H2 μ2 S2.length v2 d2 → Q v2 H2) : Q v H' := by
  have hl := len_cut (S := S') s.le
  have sc : Sp1 μ S.length H μ' (S'.take S.length).length H' := by rw [hl]; exact sp_cut s s.le
  have rc := rs_cut rs s.le
  cases dr with
  | scr x => exact h μ' H' _ sc rc (.scr x)
  | p x => exact h μ' H' v sc rc (.p (by rw [hl]; exact x.mono (av_re (own_cut s.le))))
  | @loc i hi =>
    unfold fin at h
    dsimp only at h
    by_cases hin : i < S.length
    · rw [if_pos hin] at h
      exact h μ' H' _ sc rc (.loc (by rw [hl]; exact hin))
    · rw [if_neg hin] at h
      have e0 : S'[i]? = some S'[i] := by simp [hi]
      rw [e0] at h
      have hc := rs.cell i _ e0
      have hc' := hc
      have no : ¬ Av R μ' S.length (μ' i) := fun z => by
        rcases z with ⟨j, hj, e⟩ | z
        · exact hin ((rs.inj i j hi (Nat.lt_of_lt_of_le hj s.le) e) ▸ hj)
        · exact (rs.res _ z).2 ⟨i, hi, rfl⟩
      cases b with
      | false =>
        cases ec : S'[i] with
        | dk _ => rw [ec] at h; exact h.elim
        | dt _ => rw [ec] at h; exact h.elim
        | lst xs =>
          rw [ec] at h hc
          obtain ⟨vs, h1, h2⟩ := hc
          cases ep : plains xs with
          | none =>
            dsimp only at h
            rw [ep] at h
            exact h.elim
          | some l =>
            dsimp only at h
            rw [ep] at h
            exact h μ' H' _ sc rc (.p (.lst h1 (by rw [hl]; exact no) ((plains_pd h2 ep).mono (by rw [hl]; exact av_re (own_cut s.le)))))
      | true =>
        dsimp only at h
        by_cases hb : S'[i].lowb S.length = true
        · rw [if_pos hb] at h
          have h2l : (S'.take S.length ++ [S'[i]]).length = S.length + 1 := by rw [List.length_append, hl]; rfl
          have lt1 : ∀ j, j < S.length → ext μ' S.length (μ' i) j = μ' j := fun j hj => ext_lt hj
          have at1 : ext μ' S.length (μ' i) S.length = μ' i := ext_at
          have hn := s.le
          have hown : ∀ a, Own (ext μ' S.length (μ' i)) (S.length + 1) a → Own μ' S'.length a := fun a ⟨j, hj, e⟩ => by
            by_cases hjn : j = S.length
            · exact ⟨i, hi, by rw [e, hjn, at1]⟩
            · exact ⟨j, by omega, by rw [e, lt1 j (by omega)]⟩
          have s2 : Sp1 μ S.length H (ext μ' S.length (μ' i)) (S.length + 1) H' :=
            ⟨Nat.le_succ _, fun j hj => (lt1 j hj).trans (s.same j hj), ⟨s.hp.keep, fun a z => s.hp.own a (hown a z), s.hp.tups, s.hp.frzs⟩⟩
          have ix : ∀ j, j < S.length + 1 → ∃ k, k < S'.length ∧ ext μ' S.length (μ' i) j = μ' k ∧ ((j < S.length ∧ k = j) ∨ (j = S.length ∧ k = i)) := fun j hj => by
            by_cases hjn : j = S.length
            · exact ⟨i, hi, by rw [hjn, at1], .inr ⟨hjn, rfl⟩⟩
            · exact ⟨j, by omega, lt1 j (by omega), .inl ⟨by omega, rfl⟩⟩
          have r2 : RS K R H' (ext μ' S.length (μ' i)) (S'.take S.length ++ [S'[i]]) := by
            refine ⟨fun j k hj hk e => ?_, fun j c hc => ?_, fun j c hc => ?_, fun a ha => ⟨(rs.res a ha).1, fun z => (rs.res a ha).2 (hown a (by rw [h2l] at z; exact z))⟩⟩
            · rw [h2l] at hj hk
              obtain ⟨j', g1, g2, g3⟩ := ix j hj
              obtain ⟨k', f1, f2, f3⟩ := ix k hk
              rw [g2, f2] at e
              have := rs.inj _ _ g1 f1 e
              omega
            · rw [h2l]
              by_cases hj : j < S.length
              · rw [List.getElem?_append_left (by omega), List.getElem?_take_of_lt hj] at hc
                rw [lt1 j hj]
                exact cel_re hown lt1 (Nat.le_succ _) (lowb_mono (Nat.le_of_lt hj) (rs.low j c hc)) (rs.cell j c hc)
              · have hjl := (List.getElem?_eq_some_iff.mp hc).1
                rw [h2l] at hjl
                have ej : j = S.length := by omega
                subst ej
                rw [List.getElem?_append_right (by omega), hl, Nat.sub_self] at hc
                cases hc
                rw [at1]
                exact cel_re hown lt1 (Nat.le_succ _) hb hc'
            · by_cases hj : j < S.length
              · rw [List.getElem?_append_left (by omega), List.getElem?_take_of_lt hj] at hc
                exact rs.low j c hc
              · have hjl := (List.getElem?_eq_some_iff.mp hc).1
                rw [h2l] at hjl
                have ej : j = S.length := by omega
                subst ej
                rw [List.getElem?_append_right (by omega), hl, Nat.sub_self] at hc
                cases hc
                exact hb
          have dl : DR K R H' (ext μ' S.length (μ' i)) (S'.take S.length ++ [S'[i]]).length (.ref (ext μ' S.length (μ' i) S.length)) (.loc S.length) := .loc (by rw [h2l]; exact Nat.lt_succ_self _)
          rw [at1] at dl
          exact h (ext μ' S.length (μ' i)) H' _ (by rw [h2l]; exact s2) r2 dl
        · rw [if_neg hb] at h
          exact h.elim
end

section
variable {P : Program} {w : World} {K : PySem.W.Frag} {mg : Str → Option Value} {base : Heap}
/-- a def's own wish -/
abbrev WD (E : XK) : WX := fun cls d _ H => E cls d H
theorem fn_def {x qual : Str} {st : Stmt} {f : Addr} {fd : FuncData} {N ps : List Str} {k : Nat} {b : Bool} {m : SM} (F : Fun K x qual st f fd) (S : FnScope N ps (defScope st))
    (hb : ∀ (cdv : Value) (A : Around) (outer : List Env) (s : Shared) (H : Hp) (E : XK), A.guards = some [] → Room k (A.deeper (envOfC qual (defScope st) s.heap.objs.size f cdv)) →
      PSs (cxOf (L2.CX P w) P w K mg base N qual (defScope st) f cdv A outer s H E) (defBody st) (ts K mg (WD E) m)) :
    FnG P w K mg base (k + 1) f fd ps (spF K mg ps.length (fnM b ps.length N.length m)) := by
  refine fng_of F S (fun vs H Q E h => h.1) fun cdv A outer s H vs Q E hg hr hsp => ⟨_, hb cdv A outer s H E hg hr, ?_⟩
  obtain ⟨hl, R, μ, S0, ds, rs, dr, h⟩ := hsp
  have hd : ds.length = ps.length := by rw [← dr.len]; exact hl
  have hN : ps.length ≤ N.length := by
    have e := congrArg List.length S.pre
    rw [List.length_take] at e
    omega
  have en := start_dro (N := N) (by omega) dr
  rw [hd] at en
  unfold fnM arity at h
  rw [if_pos hd] at h
  dsimp only at h
  refine ⟨R, μ, _, S0, ⟨rs, en, .nil⟩, ?_⟩
  cases e : m (ds.map some ++ List.replicate (N.length - ps.length) none) S0 with
  | bad => rw [e] at h; exact h.elim
  | bk _ _ => rw [e] at h; exact h.elim
  | ct _ _ => rw [e] at h; exact h.elim
  | nx env1 S1 =>
    rw [e] at h
    intro μ' H' σ' s1 r1
    have r2 : RS K R H' μ' (S1.take S0.length) := rs_cut r1.rs s1.le
    have hl := len_cut (S := S1) s1.le
    exact h μ' H' .non (by rw [hl]; exact sp_cut s1 s1.le) r2 (.p .non)
  | rt d S1 =>
    rw [e] at h
    intro μ' H' v s1 r1 dr1
    refine fin_ok (b := b) (W' := WD E) s1 r1 dr1 ?_
    dsimp only at h
    cases ef : fin b S0.length d S1 with
    | bad => rw [ef] at h; exact h
    | err _ _ => trivial
    | ok d2 S2 => rw [ef] at h; exact h
  | err x env1 S1 =>
    rw [e] at h
    intro μ' H' σ' cls dd s1 r1 er
    have hl := len_cut (S := S1) s1.le
    refine h μ' H' cls dd (by rw [hl]; exact sp_cut s1 s1.le) (rs_cut r1.rs s1.le) ?_
    obtain ⟨h1, d, fs, h2, h3, h4, h5⟩ := er
    exact ⟨h1, d, fs, h2, h3, h4, h5.mono (by rw [hl]; exact av_re (own_cut s1.le))⟩
end
end Mi

/-! Mi4 -/
set_option Elab.async false
set_option linter.all false
set_option maxRecDepth 100000
set_option maxHeartbeats 1000000
set_option autoImplicit false
namespace Mi
open PySem PySem.Spec PyProof.Rows L2

/-! ### what is walked -/
abbrev IM := Envr → Sto → Ot (List D × (Sto → Bool))
/-- nothing is asked of the store at each turn -/
def yes : Sto → Bool := fun _ => true
/-- a walk over these items, from this state on -/
structure Wk (K : PySem.W.Frag) (R : Addr → Prop) (μ : Nat → Addr) (n : Nat) (H : Hp) (items : List D) (chk : Sto → Bool) (J : It) : Prop where
  ex : ∃ (G : Hp → Prop) (Y : Nat → Hp → V → Hp → Prop), Walk J items.length G Y ∧ (∀ (R2 : Addr → Prop) μ2 S2 H2, (∀ a, R2 a → R a ∨ H a = none) → Sp1 μ n H μ2 S2.length H2 → RS K R2 H2 μ2 S2 → chk S2 = true → G H2) ∧
    ∀ (R2 : Addr → Prop) i d μ2 S2 H2 x H3, (∀ a, R2 a → R a ∨ H a = none) → items[i]? = some d → Sp1 μ n H μ2 S2.length H2 → RS K R2 H2 μ2 S2 → chk S2 = true → Y i H2 x H3 → Sp1 μ2 S2.length H2 μ2 S2.length H3 ∧ RS K R2 H3 μ2 S2 ∧ DR K R2 H3 μ2 S2.length x d
theorem le_grow {R R2 : Addr → Prop} {μ μ2 : Nat → Addr} {n n2 : Nat} {H H2 : Hp} (s : Sp1 μ n H μ2 n2 H2) (hR : ∀ a, R2 a → R a ∨ H a = none) : Le H (Av R μ n) H2 (Av R2 μ2 n2) :=
  ⟨fun a o h z => s.hp.keep a o h fun q => z (.inl q), fun a z => z.elim (fun q => (s.hp.own a q).elim (fun x => .inl (.inl x)) .inr) fun q => (hR a q).elim (fun x => .inl (.inr x)) .inr, s.hp.tups, s.hp.frzs⟩
def ti (K : PySem.W.Frag) (mg : Str → Option Value) (W : WX) (im : IM) (wi : TI) : Prop := ∀ σ H Rr, (∃ R μ env S, RL K R μ H S σ env [] [] ∧ Pg K mg W R μ S H σ env (im env S) fun μ1 H1 S1 items => ∀ J, Wk K R μ1 S1.length H1 items.1 items.2 J → Rr J H1) → wi σ H Rr
/-- an iterable, for a target -/
def MI (X : Cx) (W : WX) (tg iter : Expr) (im : IM) : Prop := ∃ wi, PI X tg iter wi ∧ ti X.K X.mg W im wi
/-- the items of a plain list, tuple -/
def isL : D → Sto → Ot (List D × (Sto → Bool))
  | .p (.list l), S => .ok (l.map .p, yes) S
  | _, _ => .bad
def isT : D → Sto → Ot (List D × (Sto → Bool))
  | .p (.tuple l), S => .ok (l.map .p, yes) S
  | _, _ => .bad
def iL (m : EM) : IM := fun env S => (m env S).bind isL
def iT (m : EM) : IM := fun env S => (m env S).bind isT
/-- the items of a list that may have changed: its cell as it stands ahead (what walks it must leave it so: readers alone) -/
def rangeD (lo : Int) (n : Nat) : List D := (List.range n).map fun (k : Nat) => D.p (.int (lo + (k : Int)))
def rng1 : List D → Sto → Ot (List D × (Sto → Bool))
  | [.p (.int j)], S => if -(2 ^ 62) ≤ j ∧ j < 2 ^ 62 then .ok (rangeD 0 j.toNat, yes) S else .bad
  | _, _ => .bad
def rng2 : List D → Sto → Ot (List D × (Sto → Bool))
  | [.p (.int i), .p (.int j)], S => if -(2 ^ 62) ≤ i ∧ i < 2 ^ 62 ∧ -(2 ^ 62) ≤ j ∧ j < 2 ^ 62 then .ok (rangeD i (j - i).toNat, yes) S else .bad
  | _, _ => .bad
def iR1 (a : AM) : IM := fun env S => (a env S).bind rng1
def iR2 (a : AM) : IM := fun env S => (a env S).bind rng2
section
variable {K : PySem.W.Frag} {R : Addr → Prop} {mg : Str → Option Value} {W : WX} {μ μ' : Nat → Addr} {H H' : Hp} {S S' : Sto} {σ : L2.St} {env : Envr} {n : Nat}
theorem pda_get {O : Addr → Prop} : ∀ {vs : List V} {ds : List PyData} {i : Nat} {d : PyData}, PdAll K H O vs ds → ds[i]? = some d → ∃ v, vs[i]? = some v ∧ Pd K H O v d
  | _, _, _, _, .nil, e => by simp at e
  | _, _, 0, _, .cons h r, e => by simp at e; subst e; exact ⟨_, by simp, h⟩
  | _, _, i + 1, d, .cons h r, e => by
    obtain ⟨v, h1, h2⟩ := pda_get (i := i) (d := d) r (by simpa using e)
    exact ⟨v, by simpa using h1, h2⟩
theorem wk_list {a : Addr} {xs : List V} {l : List PyData} (h : H a = some (.lst xs)) (no : ¬ Av R μ n a) (hp : PdAll K H (Av R μ n) xs l) : Wk K R μ n H (l.map .p) yes (Itl K a) := by
  refine ⟨⟨_, _, by rw [List.length_map, ← hp.len]; exact walk_list, fun _ μ2 S2 H2 _ s _ _ => SqL.of ((av_le (R := R) s.hp).keep _ _ h no), fun R2 i d μ2 S2 H2 x H3 hR hi s rs _ y => ?_⟩⟩
  obtain ⟨rfl, hx⟩ := y
  refine ⟨Sp1.refl, rs, ?_⟩
  rw [List.getElem?_map] at hi
  cases e : l[i]? with
  | none => rw [e] at hi; cases hi
  | some d0 =>
    rw [e] at hi
    cases hi
    obtain ⟨v, h1, h2⟩ := pda_get (hp.mono (le_grow s hR)) e
    rw [h1] at hx
    cases hx
    exact .p h2
theorem wk_tup {a : Addr} {xs : List V} {l : List PyData} (h : SqT K H a xs) (hp : PdAll K H (Av R μ n) xs l) : Wk K R μ n H (l.map .p) yes (Itt K a) := by
  refine ⟨⟨_, _, by rw [List.length_map, ← hp.len]; exact walk_tup, fun _ μ2 S2 H2 _ s _ _ => s.hp.sqt h, fun R2 i d μ2 S2 H2 x H3 hR hi s rs _ y => ?_⟩⟩
  obtain ⟨rfl, hx⟩ := y
  refine ⟨Sp1.refl, rs, ?_⟩
  rw [List.getElem?_map] at hi
  cases e : l[i]? with
  | none => rw [e] at hi; cases hi
  | some d0 =>
    rw [e] at hi
    cases hi
    obtain ⟨v, h1, h2⟩ := pda_get (hp.mono (le_grow s hR)) e
    rw [h1] at hx
    cases hx
    exact .p h2
/-- the list cell i, as it was -/
noncomputable def sameC (i : Nat) (xs : List D) : Sto → Bool := fun S => @decide (S[i]? = some (.lst xs)) (Classical.propDecidable _)
theorem sameC_iff {i : Nat} {xs : List D} {S : Sto} : sameC i xs S = true ↔ S[i]? = some (.lst xs) := by
  unfold sameC
  exact @decide_eq_true_iff _ (Classical.propDecidable _)
theorem wk_cell {i : Nat} {xs : List D} (hi : i < n) : Wk K R μ n H xs (sameC i xs) (Itl K (μ i)) := by
  have at2 : ∀ {R2 : Addr → Prop} {μ2 : Nat → Addr} {S2 : Sto} {H2 : Hp}, Sp1 μ n H μ2 S2.length H2 → RS K R2 H2 μ2 S2 → sameC i xs S2 = true → ∃ vs, H2 (μ i) = some (.lst vs) ∧ DRs K R2 H2 μ2 S2.length vs xs := fun {R2 μ2 S2 H2} s rs c => by
    obtain ⟨vs, h1, h2⟩ := rs.cell i _ (sameC_iff.mp c)
    rw [s.same i hi] at h1
    exact ⟨vs, h1, h2⟩
  refine ⟨⟨fun H2 => ∃ vs, H2 (μ i) = some (.lst vs) ∧ vs.length = xs.length, fun k H2 v H3 => H3 = H2 ∧ ∃ vs, H2 (μ i) = some (.lst vs) ∧ vs[k]? = some v, ⟨fun k H2 hk ⟨vs, h1, h2⟩ => ⟨vs, vs[k], SqL.of h1, by simp⟩, fun H2 ⟨vs, h1, h2⟩ => ⟨vs, SqL.of h1, Nat.le_of_eq h2⟩, fun k H2 v H3 _ ⟨vs, h1, h2⟩ y => ⟨y.1, vs, h1, y.2 vs (SqL.of h1)⟩⟩,
    fun R2 μ2 S2 H2 _ s rs c => ?_, fun R2 k d μ2 S2 H2 x H3 hR hk s rs c y => ?_⟩⟩
  · obtain ⟨vs, h1, h2⟩ := at2 s rs c
    exact ⟨vs, h1, h2.len⟩
  · obtain ⟨rfl, vs, h1, h2⟩ := y
    obtain ⟨vs', g1, g2⟩ := at2 s rs c
    rw [h1] at g1
    cases g1
    obtain ⟨v, e1, e2⟩ := g2.get hk
    rw [h2] at e1
    cases e1
    exact ⟨Sp1.refl, rs, e2⟩
theorem wk_range {lo : Int} {m : Nat} : Wk K R μ n H (rangeD lo m) yes (Itr lo m) := by
  have hl : (rangeD lo m).length = m := by unfold rangeD; rw [List.length_map, List.length_range]
  refine ⟨⟨_, _, by rw [hl]; exact walk_range, fun _ _ _ _ _ _ _ _ => trivial, fun R2 i d μ2 S2 H2 x H3 hR hi s rs _ y => ?_⟩⟩
  obtain ⟨rfl, hx⟩ := y
  refine ⟨Sp1.refl, rs, ?_⟩
  have hi' : i < m := by
    have := (List.getElem?_eq_some_iff.mp hi).1
    omega
  unfold rangeD at hi
  rw [List.getElem?_map, List.getElem?_range hi'] at hi
  cases hi
  rw [hx]
  exact .p (.int _)
end
section
variable {X : Cx} {W : WX} {tg e a b : Expr} {m : EM} {aa : AM} {p pos : Pos}
theorem mi_list (h : PE X e (te X.K X.mg W m)) : MI X W tg e (iL m) := by
  refine ⟨_, pi_list h, fun σ H Rr ⟨R, μ, env, S, r, h⟩ => ⟨R, μ, env, S, r, ?_⟩⟩
  refine pg_mono (pg_bind h) fun μ1 H1 S1 d s1 rs1 q v dr => ?_
  cases dr with
  | loc _ => exact q.elim
  | scr _ => exact q.elim
  | p dp =>
    cases dp with
    | non => exact q.elim
    | bl _ => exact q.elim
    | int _ => exact q.elim
    | str _ => exact q.elim
    | tup _ _ => exact q.elim
    | wk _ _ _ => exact q.elim
    | dk0 _ _ => exact q.elim
    | dk1 _ _ _ => exact q.elim
    | @lst a xs l h1 h2 h3 => exact ⟨a, rfl, ⟨xs, SqL.of h1⟩, pg_ok q rs1 _ (wk_list h1 h2 h3)⟩
theorem mi_tup (h : PE X e (te X.K X.mg W m)) : MI X W tg e (iT m) := by
  refine ⟨_, pi_tup h, fun σ H Rr ⟨R, μ, env, S, r, h⟩ => ⟨R, μ, env, S, r, ?_⟩⟩
  refine pg_mono (pg_bind h) fun μ1 H1 S1 d s1 rs1 q v dr => ?_
  cases dr with
  | loc _ => exact q.elim
  | scr _ => exact q.elim
  | p dp =>
    cases dp with
    | non => exact q.elim
    | bl _ => exact q.elim
    | int _ => exact q.elim
    | str _ => exact q.elim
    | lst _ _ _ => exact q.elim
    | wk _ _ _ => exact q.elim
    | dk0 _ _ => exact q.elim
    | dk1 _ _ _ => exact q.elim
    | @tup a xs l h1 h3 => exact ⟨a, rfl, ⟨xs, h1.sqt⟩, pg_ok q rs1 _ (wk_tup h1.sqt h3)⟩
/-- .. of a cell, while it stays as it is -/
noncomputable def isM : D → Sto → Ot (List D × (Sto → Bool))
  | .loc i, S => match S[i]? with
    | some (.lst xs) => .ok (xs, sameC i xs) S
    | _ => .bad
  | _, _ => .bad
noncomputable def iM (m : EM) : IM := fun env S => (m env S).bind isM
theorem mi_cell (h : PE X e (te X.K X.mg W m)) : MI X W tg e (iM m) := by
  refine ⟨_, pi_list h, fun σ H Rr ⟨R, μ, env, S, r, h⟩ => ⟨R, μ, env, S, r, ?_⟩⟩
  refine pg_mono (pg_bind h) fun μ1 H1 S1 d s1 rs1 q v dr => ?_
  cases dr with
  | scr _ => exact q.elim
  | p _ => exact q.elim
  | @loc i hi =>
    unfold isM at q
    dsimp only at q
    split at q
    · rename_i xs e0
      obtain ⟨vs, h1, h2⟩ := rs1.cell i _ e0
      exact ⟨μ1 i, rfl, ⟨vs, SqL.of h1⟩, pg_ok q rs1 _ (wk_cell hi)⟩
    · exact q.elim
/-- one int among the arguments -/
theorem drs_int1 {K : PySem.W.Frag} {R : Addr → Prop} {H : Hp} {μ : Nat → Addr} {n : Nat} {vs : List V} {j : Int} (h : DRs K R H μ n vs [.p (.int j)]) : vs = [.int j] := by
  cases h with
  | cons h r =>
    cases r
    cases h with
    | p h => cases h; rfl
theorem drs_int2 {K : PySem.W.Frag} {R : Addr → Prop} {H : Hp} {μ : Nat → Addr} {n : Nat} {vs : List V} {i j : Int} (h : DRs K R H μ n vs [.p (.int i), .p (.int j)]) : vs = [.int i, .int j] := by
  cases h with
  | cons h r =>
    have := drs_int1 r
    subst this
    cases h with
    | p h => cases h; rfl
theorem mi_range1 (hm : X.mg "range" = none) (ha : PA X [a] (ta X.K X.mg W aa)) (hg : Gl X "range" := by rfl) (hs : starEach [a] X.env = [(false, eval a X.env)] := by rfl) : MI X W tg (.Call (.Name "range" p) [a] [] pos) (iR1 aa) := by
  refine ⟨_, pi_range1 hg hm ha hs, fun σ H Rr ⟨R, μ, env, S, r, h⟩ => ⟨R, μ, env, S, r, ?_⟩⟩
  refine pg_mono (pg_bind h) fun μ1 H1 S1 ds s1 rs1 q vs dr => ?_
  unfold rng1 at q
  split at q
  · rename_i j
    split at q
    · rename_i hj
      exact ⟨j, drs_int1 dr, hj.1, hj.2, pg_ok q rs1 _ wk_range⟩
    · exact q.elim
  · exact q.elim
theorem mi_range2 (hm : X.mg "range" = none) (ha : PA X [a, b] (ta X.K X.mg W aa)) (hg : Gl X "range" := by rfl) (hs : starEach [a, b] X.env = [(false, eval a X.env), (false, eval b X.env)] := by rfl) (hs2 : starEach [b] X.env = [(false, eval b X.env)] := by rfl) :
    MI X W tg (.Call (.Name "range" p) [a, b] [] pos) (iR2 aa) := by
  refine ⟨_, pi_range2 hg hm ha hs hs2, fun σ H Rr ⟨R, μ, env, S, r, h⟩ => ⟨R, μ, env, S, r, ?_⟩⟩
  refine pg_mono (pg_bind h) fun μ1 H1 S1 ds s1 rs1 q vs dr => ?_
  unfold rng2 at q
  split at q
  · rename_i i j
    split at q
    · rename_i hj
      exact ⟨i, j, drs_int2 dr, hj, pg_ok q rs1 _ wk_range⟩
    · exact q.elim
  · exact q.elim
end

/-! ### for -/
def loop (chk : Sto → Bool) (g : GM) (body : SM) : List D → SM
  | [], env, S => if chk S = true then .nx env S else .bad
  | d :: r, env, S => if chk S = true then (match g d env with
    | none => .bad
    | some e1 => match body e1 S with
      | .nx e2 S2 => loop chk g body r e2 S2
      | .ct e2 S2 => loop chk g body r e2 S2
      | .bk e2 S2 => .nx e2 S2
      | o => o) else .bad
theorem loop_chk {K : PySem.W.Frag} {R : Addr → Prop} {mg : Str → Option Value} {W : WX} {μ : Nat → Addr} {H : Hp} {S : Sto} {env : Envr} {D : Ends} {chk : Sto → Bool} {g : GM} {body : SM} {l : List Mi.D} (h : Pz K mg W R μ S H (loop chk g body l env S) D) : chk S = true := by
  cases e : chk S with
  | true => rfl
  | false =>
    cases l with
    | nil => unfold loop at h; rw [e, if_neg Bool.false_ne_true] at h; exact h.elim
    | cons d r => unfold loop at h; rw [e, if_neg Bool.false_ne_true] at h; exact h.elim
def sFor (im : IM) (g : GM) (body : SM) : SM := fun env S => (im env S).then env fun items S1 => loop items.2 g body items.1 env S1
section
variable {X : Cx} {W : WX} {tgt iter : Expr} {body : List Stmt} {im : IM} {g : GM} {mb : SM} {pos : Pos}
theorem ms_for (po : PassesOwn (model X.prog X.w) X.A X.env X.xe) (hc : X.calm = true) (hi : MI X W tgt iter im) (hg : PG X tgt (tg X.K g)) (hb : PSs X body (ts X.K X.mg W mb)) (hs : ∀ x, foldedSetIterable iter X.env x = pure x := by intro _; rfl) :
    PS X (.For tgt iter body [] pos) (ts X.K X.mg W (sFor im g mb)) := by
  obtain ⟨wi, hpi, hti⟩ := hi
  refine (ps_for po hc hpi hg hb hs).w fun D σ H ⟨R, μ, env, S, r, h⟩ => ?_
  refine hti σ H _ ⟨R, μ, env, S, r, pg_mono (pz_then h) fun μ1 H1 S1 itc s1 rs1 q J w => ?_⟩
  obtain ⟨items, chk⟩ := itc
  obtain ⟨G, Y, hw, hG, hY⟩ := w.ex
  dsimp only at hw hG hY q
  refine for_it hw (fun i σ' H' => ∃ μ2 S2 env2, Sp1 μ1 S1.length H1 μ2 S2.length H' ∧ RL X.K R μ2 H' S2 σ' env2 [] [] ∧ Pz X.K X.mg W R μ2 S2 H' (loop chk g mb (items.drop i) env2 S2) D) ⟨μ1, S1, env, Sp1.refl, r.mono s1 rs1, q⟩ (fun i σ' H' _ ⟨μ2, S2, env2, s2, r2, q2⟩ => hG R μ2 S2 H' (fun _ z => .inl z) s2 r2.rs (loop_chk q2)) ?_ ?_
  · rintro i x σ2 H2 H3 hi ⟨μ2, S2, env2, s2, r2, q2⟩ y
    have e0 : items[i]? = some items[i] := by simp [hi]
    have ed : items.drop i = items[i] :: items.drop (i + 1) := by rw [List.drop_eq_getElem_cons hi]
    obtain ⟨s3, rs3, dx⟩ := hY R i _ μ2 S2 H2 x H3 (fun _ z => .inl z) e0 s2 r2.rs (loop_chk q2) y
    have q3 := pz_later s3 q2
    have ck := loop_chk q3
    rw [ed] at q3
    unfold loop at q3
    rw [if_pos ck] at q3
    cases e1 : g items[i] env2 with
    | none => rw [e1] at q3; exact q3.elim
    | some env3 =>
      rw [e1] at q3
      dsimp only at q3
      refine ⟨R, μ2, S2, env2, items[i], env3, ⟨rs3, r2.en.mono s3, .cons dx .nil⟩, e1, fun σ4 r4 => ⟨R, μ2, env3, S2, r4, ?_⟩⟩
      have s23 := s2.trans s3
      cases e2 : mb env3 S2 with
      | bad => rw [e2] at q3; exact q3.elim
      | nx e5 S5 =>
        rw [e2] at q3
        exact fun μ5 H5 σ5 s5 r5 => ⟨μ5, S5, e5, s23.trans s5, r5, pz_later s5 q3⟩
      | ct e5 S5 =>
        rw [e2] at q3
        exact fun μ5 H5 σ5 s5 r5 => ⟨μ5, S5, e5, s23.trans s5, r5, pz_later s5 q3⟩
      | bk e5 S5 =>
        rw [e2] at q3
        exact fun μ5 H5 σ5 s5 r5 => q3 μ5 H5 σ5 s5 r5
      | rt d5 S5 =>
        rw [e2] at q3
        exact q3
      | err e5 v5 S5 =>
        rw [e2] at q3
        exact q3
  · rintro σ2 H2 ⟨μ2, S2, env2, s2, r2, q2⟩
    have ck := loop_chk q2
    rw [List.drop_length] at q2
    unfold loop at q2
    rw [if_pos ck] at q2
    exact pz_nx q2 r2
end
end Mi

/-! Mi5 -/
set_option Elab.async false
set_option linter.all false
set_option maxRecDepth 100000
set_option maxHeartbeats 1000000
set_option autoImplicit false
namespace Mi
open PySem PySem.Spec PyProof.Rows L2

/-! ### list comprehensions -/
def wipeE (env : Envr) : List Nat → Envr
  | [] => env
  | v :: vs => (wipeE env vs).set v none
def compLoop (chk : Sto → Bool) (g : GM) (t : BM) (m : EM) (env : Envr) : List D → List D → Sto → Ot (List D)
  | [], acc, S => if chk S = true then .ok acc S else .bad
  | d :: r, acc, S => if chk S = true then (match g d env with
    | none => .bad
    | some e1 => match t e1 S with
      | .ok c S1 => if c = true then (match m e1 S1 with
        | .ok y S2 => if acc.length < sizeLine then compLoop chk g t m env r (acc ++ [y]) S2 else .bad
        | _ => .bad) else compLoop chk g t m env r acc S1
      | _ => .bad) else .bad
theorem comp_chk {chk : Sto → Bool} {g : GM} {t : BM} {m : EM} {env : Envr} {l acc : List D} {S : Sto} (h : compLoop chk g t m env l acc S ≠ .bad) : chk S = true := by
  cases e : chk S with
  | true => rfl
  | false => exact absurd (by cases l <;> (unfold compLoop; rw [e, if_neg Bool.false_ne_true])) h
def bYes : BM := fun _ S => .ok true S
/-- a list read only from then on | a list that may change -/
def keptAs (mu : Bool) (ds : List D) (S : Sto) : Ot D := if mu = true then .ok (.loc S.length) (S ++ [.lst ds]) else match plains ds with
  | some l => .ok (.p (.list l)) S
  | none => .bad
def eComp (mu : Bool) (im : IM) (own : List Nat) (g : GM) (t : BM) (m : EM) : EM := fun env S => (im env S).bind fun items S1 => (compLoop items.2 g t m (wipeE env own) items.1 [] S1).bind (keptAs mu)
/-- within a comprehension nothing is raised -/
abbrev W0 : WX := fun _ _ _ _ => False
section
variable {K : PySem.W.Frag} {R R' : Addr → Prop} {mg : Str → Option Value} {W : WX} {μ μ' : Nat → Addr} {H H' : Hp} {S S' : Sto} {σ : L2.St} {env : Envr} {n n' : Nat}
theorem DR.re (l : Le H (Av R μ n) H' (Av R' μ' n')) (hs : ∀ i, i < n → μ' i = μ i) (hn : n ≤ n') {v : V} {d : D} (h : DR K R H μ n v d) : DR K R' H' μ' n' v d := by
  cases h with
  | p h => exact .p (h.mono l)
  | @loc i h => rw [← hs i h]; exact .loc (Nat.lt_of_lt_of_le h hn)
  | scr h => exact .scr (l.scr h)
theorem DRs.re (l : Le H (Av R μ n) H' (Av R' μ' n')) (hs : ∀ i, i < n → μ' i = μ i) (hn : n ≤ n') : ∀ {vs : List V} {ds : List D}, DRs K R H μ n vs ds → DRs K R' H' μ' n' vs ds
  | _, _, .nil => .nil
  | _, _, .cons h r => .cons (h.re l hs hn) (DRs.re l hs hn r)
theorem DRo.re (l : Le H (Av R μ n) H' (Av R' μ' n')) (hs : ∀ i, i < n → μ' i = μ i) (hn : n ≤ n') : ∀ {vs : List (Option V)} {ds : Envr}, DRo K R H μ n vs ds → DRo K R' H' μ' n' vs ds
  | _, _, .nil => .nil
  | _, _, .none r => .none (DRo.re l hs hn r)
  | _, _, .some h r => .some (h.re l hs hn) (DRo.re l hs hn r)
theorem CelR.re (l : Le H (Av R μ n) H' (Av R' μ' n')) (hs : ∀ i, i < n → μ' i = μ i) (hn : n ≤ n') {a : Addr} {c : Cell} (hk : ∀ o, H a = Option.some o → H' a = Option.some o) (h : CelR K R H μ n a c) : CelR K R' H' μ' n' a c := by
  cases c with
  | lst xs => obtain ⟨vs, h1, h2⟩ := h; exact ⟨vs, hk _ h1, h2.re l hs hn⟩
  | dk xs => obtain ⟨vs, h1, h2, h3⟩ := h; exact ⟨vs, hk _ h1, h2, h3.re l hs hn⟩
  | dt xs => obtain ⟨vs, h1, h2, h3⟩ := h; exact ⟨vs, hk _ h1, h2, h3.re l hs hn⟩
theorem DRo.wipe : ∀ {vs : List Nat}, DRo K R H μ n σ env → DRo K R H μ n (L2.wipe σ vs) (wipeE env vs)
  | [], h => h
  | v :: vs, h => (DRo.wipe (vs := vs) h).unset v
/-- one more address is reserved -/
def more (R : Addr → Prop) (p : Addr) : Addr → Prop := fun a => R a ∨ a = p
theorem le_more {p : Addr} {o : HO} (hp : H p = none) : Le H (Av R μ n) (upd H p o) (Av (more R p) μ n) := by
  refine ⟨fun a u h _ => by rw [upd_ne (ne_of_none h hp)]; exact h, fun a h => ?_, fun a u h => by rw [upd_ne (ne_of_none h hp)]; exact h, fun a o u h => by rw [upd_ne (ne_of_none h hp)]; exact h⟩
  rcases h with h | h | h
  · exact .inl (.inl h)
  · exact .inl (.inr h)
  · exact .inr (by rw [h]; exact hp)
theorem rs_more {p : Addr} {o : HO} (hp : H p = none) (r : RS K R H μ S) : RS K (more R p) (upd H p o) μ S := by
  refine ⟨r.inj, fun i c h => (r.cell i c h).re (le_more hp) (fun _ _ => rfl) (Nat.le_refl _) fun u hu => by rw [upd_ne (ne_of_none hu hp)]; exact hu, r.low, fun a h => ?_⟩
  rcases h with h | h
  · exact ⟨upd_there (r.res a h).1, (r.res a h).2⟩
  · rw [h]
    refine ⟨?_, not_ownO r hp⟩
    rw [upd_same]
    exact fun z => nomatch z
/-- the reserved list changes -/
theorem le_res {p : Addr} {xs ys : List V} (hr : R p) (hp : H p = some (.lst xs)) : Le H (Av R μ n) (upd H p (.lst ys)) (Av R μ n) := by
  refine ⟨fun a u h z => ?_, fun a h => .inl h, fun a u h => ?_, fun a o u h => ?_⟩
  · rw [upd_ne fun e => z (.inr (by rw [e]; exact hr))]; exact h
  · rw [upd_ne fun e => by rw [e, hp] at h; cases h]; exact h
  · rw [upd_ne fun e => by rw [e, hp] at h; cases h]; exact h
theorem rs_res {p : Addr} {xs ys : List V} (hr : R p) (hp : H p = some (.lst xs)) (r : RS K R H μ S) : RS K R (upd H p (.lst ys)) μ S := by
  have no := (r.res p hr).2
  refine ⟨r.inj, fun i c h => (r.cell i c h).re (le_res hr hp) (fun _ _ => rfl) (Nat.le_refl _) fun u hu => ?_, r.low, fun a h => ⟨upd_there (r.res a h).1, (r.res a h).2⟩⟩
  rw [upd_ne fun e => no ⟨i, (List.getElem?_eq_some_iff.mp h).1, e.symm⟩]
  exact hu
theorem sp_res {p : Addr} {o : HO} (hp : H p = none) (s : Sp1 μ n H μ' n' H') : Sp1 μ n H μ' n' (upd H' p o) := by
  refine ⟨s.le, s.same, ⟨fun a u h z => ?_, s.hp.own, fun a u h => ?_, fun a o u h => ?_⟩⟩
  · rw [upd_ne (ne_of_none h hp)]; exact s.hp.keep a u h z
  · rw [upd_ne (ne_of_none h hp)]; exact s.hp.tups a u h
  · rw [upd_ne (ne_of_none h hp)]; exact s.hp.frzs a o u h
theorem le_less {p : Addr} : Le H (Av (more R p) μ n) H (Av R μ n) := ⟨fun _ _ q _ => q, fun a z => .inl (z.elim .inl fun q => .inr (.inl q)), fun _ _ q => q, fun _ _ _ q => q⟩
theorem rs_less {p : Addr} (r : RS K (more R p) H μ S) : RS K R H μ S :=
  ⟨r.inj, fun i c h => (r.cell i c h).re le_less (fun _ _ => rfl) (Nat.le_refl _) fun _ q => q, r.low, fun a h => r.res a (.inl h)⟩
/-- what is made is handed over -/
theorem kept_ok {mu : Bool} {p : Addr} {ws : List V} {acc : List D} {Q : VK} {n1 : Nat} {H1 : Hp} {μ1 : Nat → Addr} {S1 : Sto} (hn1 : n1 = S1.length) (h1 : H1 p = none) (hr : ¬ R p) (s : Sp1 μ1 n1 H1 μ S.length H) (rs : RS K (more R p) H μ S) (hp : H p = some (.lst ws)) (dr : DRs K (more R p) H μ S.length ws acc)
    (q : Po K mg W R μ1 S1 H1 σ env (keptAs mu acc S) Q) : Q (.ref p) H := by
  subst hn1
  have no : ¬ Own μ S.length p := (rs.res p (.inr rfl)).2
  unfold keptAs at q
  cases mu with
  | false =>
    rw [if_neg Bool.false_ne_true] at q
    cases e : plains acc with
    | none => rw [e] at q; exact q.elim
    | some l =>
      rw [e] at q
      refine q μ H s (rs_less rs) _ (.p (.lst hp (fun z => z.elim no hr) ((plains_pd dr e).mono le_less)))
  | true =>
    rw [if_pos rfl] at q
    have hl : (S ++ [Cell.lst acc]).length = S.length + 1 := by simp
    have lt1 : ∀ j, j < S.length → ext μ S.length p j = μ j := fun j hj => ext_lt hj
    have at1 : ext μ S.length p S.length = p := ext_at
    have own1 : ∀ a, Own (ext μ S.length p) (S.length + 1) a → Own μ S.length a ∨ a = p := fun a ⟨j, hj, e⟩ => by
      by_cases hjn : j = S.length
      · exact .inr (by rw [e, hjn, at1])
      · exact .inl ⟨j, by omega, by rw [e, lt1 j (by omega)]⟩
    have l2 : Le H (Av (more R p) μ S.length) H (Av R (ext μ S.length p) (S.length + 1)) := ⟨fun _ _ q _ => q, fun a z => .inl (z.elim (fun q => (own1 a q).elim .inl fun e => .inr (.inr e)) fun q => .inr (.inl q)), fun _ _ q => q, fun _ _ _ q => q⟩
    have s2 : Sp1 μ1 S1.length H1 (ext μ S.length p) (S.length + 1) H :=
      ⟨Nat.le_succ_of_le s.le, fun j hj => (lt1 j (Nat.lt_of_lt_of_le hj s.le)).trans (s.same j hj), ⟨s.hp.keep, fun a z => (own1 a z).elim (s.hp.own a) fun e => .inr (by rw [e]; exact h1), s.hp.tups, s.hp.frzs⟩⟩
    have ne1 : ∀ j, j < S.length → μ j ≠ p := fun j hj e => no ⟨j, hj, e.symm⟩
    have r2 : RS K R H (ext μ S.length p) (S ++ [Cell.lst acc]) := by
      refine ⟨fun j k hj hk e => ?_, fun j c hc => ?_, fun j c hc => ?_, fun a ha => ⟨(rs.res a (.inl ha)).1, fun z => ?_⟩⟩
      · rw [hl] at hj hk
        by_cases ej : j = S.length
        · by_cases ek : k = S.length
          · rw [ej, ek]
          · rw [ej, at1, lt1 k (by omega)] at e
            exact absurd e.symm (ne1 k (by omega))
        · by_cases ek : k = S.length
          · rw [ek, at1, lt1 j (by omega)] at e
            exact absurd e (ne1 j (by omega))
          · rw [lt1 j (by omega), lt1 k (by omega)] at e
            exact rs.inj j k (by omega) (by omega) e
      · rw [hl]
        by_cases hj : j < S.length
        · rw [List.getElem?_append_left hj] at hc
          rw [lt1 j hj]
          exact (rs.cell j c hc).re l2 lt1 (Nat.le_succ _) fun _ q => q
        · have hjl := (List.getElem?_eq_some_iff.mp hc).1
          rw [hl] at hjl
          have ej : j = S.length := by omega
          subst ej
          rw [List.getElem?_append_right (Nat.le_refl _), Nat.sub_self] at hc
          cases hc
          rw [at1]
          exact ⟨ws, hp, dr.re l2 lt1 (Nat.le_succ _)⟩
      · by_cases hj : j < S.length
        · rw [List.getElem?_append_left hj] at hc
          exact rs.low j c hc
        · have hjl := (List.getElem?_eq_some_iff.mp hc).1
          rw [hl] at hjl
          have ej : j = S.length := by omega
          subst ej
          rw [List.getElem?_append_right (Nat.le_refl _), Nat.sub_self] at hc
          cases hc
          exact dr.lowb
      · rw [hl] at z
        rcases own1 a z with z | z
        · exact (rs.res a (.inl ha)).2 z
        · rw [z] at ha; exact hr ha
    have d2 : DR K R H (ext μ S.length p) (S ++ [Cell.lst acc]).length (.ref (ext μ S.length p S.length)) (.loc S.length) := .loc (by rw [hl]; exact Nat.lt_succ_self _)
    rw [at1] at d2
    exact q (ext μ S.length p) H (by rw [hl]; exact s2) r2 _ d2
end
section
variable {X : Cx} {W : WX} {tgt iter elt : Expr} {ifs : List Expr} {scope : Scope} {own : List (Str × Nat)} {im : IM} {g : GM} {hg' : TG} {t : BM} {m : EM} {pos : Pos}
/-- a target of a comprehension: it stores into own slots alone -/
structure GC (K : PySem.W.Frag) (g : GM) (tgv : TG) (vs : List Nat) : Prop where
  run : ∀ (R : Addr → Prop) (μ : Nat → Addr) (S : Sto) (H : Hp) (σ : L2.St) (env env' : Envr) (x : V) (d : D) (Q : L2.St → Hp → Prop), RS K R H μ S → DRo K R H μ S.length (wipe σ vs) env → DR K R H μ S.length x d → g d env = some env' →
    (∀ σ2, wipe σ2 vs = wipe σ vs → DRo K R H μ S.length σ2 env' → Q σ2 H) → tgv x (wipe σ vs) H Q
theorem wipe_set {σ : L2.St} {i : Nat} {x : Option V} : (σ.set i x).set i none = σ.set i none := List.set_set ..
theorem gc_name {K : PySem.W.Frag} {i : Nat} : GC K (gN i) (gName i) [i] := by
  refine ⟨fun R μ S H σ env env' x d Q rs en dr e q => ?_⟩
  cases e
  exact q _ (by show ((σ.set i none).set i (some x)).set i none = σ.set i none; rw [List.set_set, List.set_set]) (en.set dr i)
/-- the tests: none, one -/
def tsc (K : PySem.W.Frag) (mg : Str → Option Value) (t : BM) (u : TT) : Prop := ∀ σ H Q, tt K mg W0 t σ H Q → u σ H Q
theorem tsc_none {K : PySem.W.Frag} {mg : Str → Option Value} : tsc K mg bYes tYes := fun σ H Q ⟨R, μ, env, S, r, h⟩ => pg_ok h r.rs
theorem tsc_one {K : PySem.W.Frag} {mg : Str → Option Value} {t : BM} : tsc K mg t (tt K mg W0 t) := fun _ _ _ h => h
theorem lc_core {wi : TI} {u : TT} {mu : Bool} {σ : L2.St} {H : Hp} {Q : VK} {vs : List Nat} (hti : ti X.K X.mg W im wi) (hgc : GC X.K g hg' vs) (hu : tsc X.K X.mg t u) (h : te X.K X.mg W (eComp mu im vs g t m) σ H Q) :
    tLc wi hg' u (te X.K X.mg W0 m) vs σ H Q := by
  obtain ⟨R, μ, env, S, r, h⟩ := h
  refine hti σ H _ ⟨R, μ, env, S, r, pg_mono (pg_bind h) fun μ1 H1 S1 itc s1 rs1 q J w => ?_⟩
  intro D hD
  obtain ⟨items, chk⟩ := itc
  obtain ⟨G, Y, hw, hG, hY⟩ := w.ex
  dsimp only at hw hG hY q
  have nR : ¬ R D := fun z => (rs1.res D z).1 hD
  have en1 := r.en.mono s1
  obtain ⟨fo, hfo⟩ : ∃ fo, fo = compLoop chk g t m (wipeE env vs) items [] S1 := ⟨_, rfl⟩
  rw [← hfo] at q
  have nb : fo ≠ .bad := fun z => by rw [z] at q; exact q.elim
  refine lc_it hw (fun i H' => ∃ μ2 S2 acc ws, Sp1 μ1 S1.length H1 μ2 S2.length H' ∧ RS X.K (more R D) H' μ2 S2 ∧ DRo X.K (more R D) H' μ2 S2.length σ env ∧ H' D = some (.lst ws) ∧ DRs X.K (more R D) H' μ2 S2.length ws acc ∧
    compLoop chk g t m (wipeE env vs) (items.drop i) acc S2 = fo) ?_ ?_ ?_ ?_
  · exact ⟨μ1, S1, [], [], sp_new hD, rs_more hD rs1, en1.re (le_more hD) (fun _ _ => rfl) (Nat.le_refl _), upd_same, .nil, hfo.symm⟩
  · exact fun i H' _ ⟨μ2, S2, acc, ws, s2, rs2, _, _, _, e2⟩ => hG (more R D) μ2 S2 H' (fun a z => z.elim .inl fun e => .inr (by rw [e]; exact hD)) s2 rs2 (comp_chk (by rw [e2]; exact nb))
  · rintro i x H2 H3 hi ⟨μ2, S2, acc, ws, s2, rs2, en2, hp2, dr2, e2⟩ y
    have e0 : items[i]? = some items[i] := by simp [hi]
    have ed : items.drop i = items[i] :: items.drop (i + 1) := by rw [List.drop_eq_getElem_cons hi]
    have ck := comp_chk (chk := chk) (by rw [e2]; exact nb)
    obtain ⟨s3, rs3, dx⟩ := hY (more R D) i _ μ2 S2 H2 x H3 (fun a z => z.elim .inl fun e => .inr (by rw [e]; exact hD)) e0 s2 rs2 ck y
    have hp3 : H3 D = some (.lst ws) := s3.hp.keep D _ hp2 (rs2.res D (.inr rfl)).2
    have en3 := en2.mono s3
    have dr3 := dr2.mono s3
    have s13 := s2.trans s3
    rw [ed] at e2
    have q2 : Po X.K X.mg W R μ1 S1 H1 σ env ((compLoop chk g t m (wipeE env vs) (items[i] :: items.drop (i + 1)) acc S2).bind (keptAs mu)) Q := by rw [e2]; exact q
    unfold compLoop at q2 e2
    rw [if_pos ck] at q2 e2
    cases e4 : g items[i] (wipeE env vs) with
    | none => rw [e4] at q2; exact q2.elim
    | some env4 =>
      rw [e4] at q2 e2
      dsimp only at q2 e2
      refine hgc.run (more R D) μ2 S2 H3 σ (wipeE env vs) env4 x items[i] _ rs3 (DRo.wipe en3) dx e4 fun σ4 hw4 en4 => ⟨hw4, hu _ _ _ ⟨more R D, μ2, env4, S2, ⟨rs3, en4, .nil⟩, ?_⟩⟩
      cases e5 : t env4 S2 with
      | bad => rw [e5] at q2; exact q2.elim
      | err _ _ => rw [e5] at q2; exact q2.elim
      | ok c S5 =>
        rw [e5] at q2 e2
        dsimp only at q2 e2
        intro μ5 H5 s5 rs5
        have hp5 : H5 D = some (.lst ws) := s5.hp.keep D _ hp3 (rs3.res D (.inr rfl)).2
        cases c with
        | false =>
          rw [if_neg Bool.false_ne_true] at q2 e2
          refine iteF ⟨μ5, S5, acc, ws, s13.trans s5, rs5, en3.mono s5, hp5, dr3.mono s5, e2⟩
        | true =>
          rw [if_pos rfl] at q2 e2
          refine iteT ⟨more R D, μ5, env4, S5, ⟨rs5, en4.mono s5, .nil⟩, ?_⟩
          cases e6 : m env4 S5 with
          | bad => rw [e6] at q2; exact q2.elim
          | err _ _ => rw [e6] at q2; exact q2.elim
          | ok y6 S6 =>
            rw [e6] at q2 e2
            dsimp only at q2 e2
            intro μ6 H6 s6 rs6 v6 dr6
            have hp6 : H6 D = some (.lst ws) := s6.hp.keep D _ hp5 (rs5.res D (.inr rfl)).2
            by_cases hz : acc.length < sizeLine
            · rw [if_pos hz] at e2
              have dr6' := ((dr3.mono s5).mono s6).append (.cons dr6 .nil)
              have l6 := le_res (μ := μ6) (n := S6.length) (ys := ws ++ [v6]) (R := more R D) (.inr rfl) hp6
              refine ⟨ws, hp6, by rw [(dr3.mono s5).len]; exact hz, μ6, S6, acc ++ [y6], ws ++ [v6], sp_res hD ((s13.trans s5).trans s6), rs_res (.inr rfl) hp6 rs6, ((en3.mono s5).mono s6).re l6 (fun _ _ => rfl) (Nat.le_refl _), upd_same, dr6'.re l6 (fun _ _ => rfl) (Nat.le_refl _), e2⟩
            · rw [if_neg hz] at q2
              exact q2.elim
  · rintro H2 ⟨μ2, S2, acc, ws, s2, rs2, en2, hp2, dr2, e2⟩
    have ck := comp_chk (chk := chk) (by rw [e2]; exact nb)
    rw [List.drop_length] at e2
    unfold compLoop at e2
    rw [if_pos ck] at e2
    rw [← e2] at q
    have q3 : Po X.K X.mg W R μ1 S1 H1 σ env (keptAs mu acc S2) Q := q
    exact kept_ok rfl hD nR s2 rs2 hp2 dr2 q3
/-- [e for x in it if t] -/
theorem me_comp {mu : Bool} {u : TT} (hc : X.calm = true) (hN : X.N.Nodup) (hi : MI X W tgt iter im) (ok : BlkOk X.N X.env.scope scope own) (hgc : GC X.K g hg' (own.map (·.2))) (hu : tsc X.K X.mg t u)
    (hg : ∀ (s : Shared) (H : Hp) (C : Addr) (cl : List (Str × Addr)) (fp : List Addr), PG (X.blk s H scope (compEnvC scope cl C X.env) fp) tgt hg') (ht : ∀ (s : Shared) (H : Hp) (C : Addr) (cl : List (Str × Addr)) (fp : List Addr), PTs (X.blk s H scope (compEnvC scope cl C X.env) fp) ifs u)
    (he : ∀ (s : Shared) (H : Hp) (C : Addr) (cl : List (Str × Addr)) (fp : List Addr), PE (X.blk s H scope (compEnvC scope cl C X.env) fp) elt (te X.K X.mg W0 m)) (hs : ∀ x, foldedSetIterable iter X.env x = pure x := by intro _; rfl) :
    PE X (.ListComp elt [⟨tgt, iter, ifs, 0⟩] scope pos) (te X.K X.mg W (eComp mu im (own.map (·.2)) g t m)) := by
  obtain ⟨wi, hpi, hti⟩ := hi
  exact (pe_lc hc hN hpi ok hg ht he hs).w fun σ H Q h => lc_core hti hgc hu h
/-- y = [e for x in it if t] -/
theorem ms_setComp {mu : Bool} {u : TT} {i : Nat} {y : Str} {py spos : Pos} (hc : X.calm = true) (hN : X.N.Nodup) (hy : X.N[i]? = some y) (hyl : X.env.scope.names.lookup y = some .local)
    (hsw : swapsWith (.ListComp elt [⟨tgt, iter, ifs, 0⟩] scope pos) (some (.Name y py)) spos.line X.env = pure true) (hi : MI X W tgt iter im) (ok : BlkOk X.N X.env.scope scope own) (hgc : GC X.K g hg' (own.map (·.2))) (hu : tsc X.K X.mg t u)
    (hg : ∀ (s : Shared) (H : Hp) (C : Addr) (cl : List (Str × Addr)) (fp : List Addr), PG (X.blk s H scope (compEnvC scope cl C X.env) fp) tgt hg') (ht : ∀ (s : Shared) (H : Hp) (C : Addr) (cl : List (Str × Addr)) (fp : List Addr), PTs (X.blk s H scope (compEnvC scope cl C X.env) fp) ifs u)
    (he : ∀ (s : Shared) (H : Hp) (C : Addr) (cl : List (Str × Addr)) (fp : List Addr), PE (X.blk s H scope (compEnvC scope cl C X.env) fp) elt (te X.K X.mg W0 m)) (hs : ∀ x, foldedSetIterable iter X.env x = pure x := by intro _; rfl) :
    PS X (.Assign [.Name y py] (.ListComp elt [⟨tgt, iter, ifs, 0⟩] scope pos) spos) (ts X.K X.mg W (sAsg (eComp mu im (own.map (·.2)) g t m) (gN i))) := by
  obtain ⟨wi, hpi, hti⟩ := hi
  refine (ps_setLc hc hN hy hyl hsw hpi ok hg ht he hs).w fun D σ H ⟨R, μ, env, S, r, h⟩ => ?_
  refine lc_core (mu := mu) (Q := fun v H1 => D.nx (σ.set i (some v)) H1) hti hgc hu ⟨R, μ, env, S, r, ?_⟩
  exact pg_mono (pz_then h) fun μ1 H1 S1 d s1 rs1 p v dr => pz_nx p ⟨rs1, (r.en.mono s1).set dr i, .nil⟩
end
end Mi

/-! Mi6 -/
set_option Elab.async false
set_option linter.all false
set_option maxRecDepth 100000
set_option maxHeartbeats 1000000
set_option autoImplicit false
namespace Mi
open PySem PySem.Spec PyProof.Rows L2

section
variable {K : PySem.W.Frag} {R : Addr → Prop} {mg : Str → Option Value} {W : WX} {μ μ' : Nat → Addr} {H H' : Hp} {S S' : Sto} {σ : L2.St} {env : Envr} {n : Nat} {v : V} {vs : List V} {ds : List D} {Q : VK}
/-! ### what a value is -/
theorem dr_int {i : Int} (h : DR K R H μ n v (.p (.int i))) : v = .int i := by
  cases h with
  | p h => cases h; rfl
theorem dr_bl {b : Bool} (h : DR K R H μ n v (.p (.bool b))) : v = .bl b := by
  cases h with
  | p h => cases h; rfl
theorem dr_non (h : DR K R H μ n v (.p .none)) : v = .non := by
  cases h with
  | p h => cases h; rfl
theorem dr_str {x : Str} (h : DR K R H μ n v (.p (.str x))) : v = .str x := by
  cases h with
  | p h => cases h; rfl
theorem dr_lst {l : List PyData} (h : DR K R H μ n v (.p (.list l))) : ∃ a xs, v = .ref a ∧ H a = some (.lst xs) ∧ ¬ Av R μ n a ∧ PdAll K H (Av R μ n) xs l := by
  cases h with
  | p h =>
    cases h with
    | lst h1 h2 h3 => exact ⟨_, _, rfl, h1, h2, h3⟩
theorem dr_tup {l : List PyData} (h : DR K R H μ n v (.p (.tuple l))) : ∃ a xs, v = .ref a ∧ SqT K H a xs ∧ PdAll K H (Av R μ n) xs l := by
  cases h with
  | p h =>
    cases h with
    | tup h1 h3 => exact ⟨_, _, rfl, h1.sqt, h3⟩
theorem dr_tupE {l : List PyData} (h : DR K R H μ n v (.p (.tuple l))) : ∃ a xs, v = .ref a ∧ St H a xs ∧ PdAll K H (Av R μ n) xs l := by
  cases h with
  | p h => cases h with
    | tup h1 h3 => exact ⟨_, _, rfl, h1, h3⟩
theorem dr_loc {i : Nat} (h : DR K R H μ n v (.loc i)) : v = .ref (μ i) ∧ i < n := by
  cases h with
  | loc h => exact ⟨rfl, h⟩
theorem dr_scr {ns : List Int} (h : DR K R H μ n v (.scr ns)) : ∃ a, v = .ref a ∧ ScR K H a ns := by
  cases h with
  | scr h => exact ⟨_, rfl, h⟩
theorem drs_nil (h : DRs K R H μ n vs []) : vs = [] := by cases h; rfl
theorem drs_cons {d : D} (h : DRs K R H μ n vs (d :: ds)) : ∃ v ws, vs = v :: ws ∧ DR K R H μ n v d ∧ DRs K R H μ n ws ds := by
  cases h with
  | cons a b => exact ⟨_, _, rfl, a, b⟩
theorem pda_append {O : Addr → Prop} : ∀ {vs ws : List V} {ds es : List PyData}, PdAll K H O vs ds → PdAll K H O ws es → PdAll K H O (vs ++ ws) (ds ++ es)
  | _, _, _, _, .nil, s => s
  | _, _, _, _, .cons h r, s => .cons h (pda_append r s)
theorem pda_take {O : Addr → Prop} : ∀ (k : Nat) {vs : List V} {ds : List PyData}, PdAll K H O vs ds → PdAll K H O (vs.take k) (ds.take k)
  | 0, _, _, _ => .nil
  | _ + 1, _, _, .nil => .nil
  | k + 1, _, _, .cons h r => .cons h (pda_take k r)
theorem pda_drop {O : Addr → Prop} : ∀ (k : Nat) {vs : List V} {ds : List PyData}, PdAll K H O vs ds → PdAll K H O (vs.drop k) (ds.drop k)
  | 0, _, _, h => h
  | _ + 1, _, _, .nil => .nil
  | k + 1, _, _, .cons h r => pda_drop k r
theorem pda_ints {O : Addr → Prop} : ∀ {ns : List Int}, PdAll K H O (ns.map V.int) (ns.map PyData.int)
  | [] => .nil
  | n :: ns => .cons (.int n) pda_ints
theorem pda_nil {O : Addr → Prop} {xs : List V} (h : PdAll K H O xs []) : xs = [] := by cases h; rfl
/-- a new list, a new tuple of plain items -/
theorem new_lst {xs : List V} {l : List PyData} {p : Addr} (h : Po K mg W R μ S H σ env (.ok (.p (.list l)) S) Q) (r : RS K R H μ S) (hx : PdAll K H (Av R μ S.length) xs l) (hp : H p = none) : Q (.ref p) (upd H p (.lst xs)) := by
  have s2 : Sp1 μ S.length H μ S.length (upd H p (.lst xs)) := sp_new hp
  exact h μ _ s2 (rs_new hp r) _ (.p (.lst upd_same (not_own r hp) (hx.mono (av_le s2.hp))))
theorem new_tup {xs : List V} {l : List PyData} {p : Addr} {o : Obj} (h : Po K mg W R μ S H σ env (.ok (.p (.tuple l)) S) Q) (r : RS K R H μ S) (hx : PdAll K H (Av R μ S.length) xs l) (hp : H p = none) (hd : o.dict = none) : Q (.ref p) (upd H p (.frz o (.tup xs))) := by
  have s2 : Sp1 μ S.length H μ S.length (upd H p (.frz o (.tup xs))) := sp_new hp
  exact h μ _ s2 (rs_new hp r) _ (.p (.tup ⟨o, upd_same, hd⟩ (hx.mono (av_le s2.hp))))
end

/-! ### + - * // % -/
def zOk (n : Nat) : Bool := decide (n ≤ sizeLine)
def addD : D → D → Sto → Ot D
  | .p (.int i), .p (.int j), S => .ok (.p (.int (i + j))) S
  | .p (.str a), .p (.str b), S => if a.length + b.length ≤ sizeLine then .ok (.p (.str (a ++ b))) S else .bad
  | .p (.list a), .p (.list b), S => if a.length + b.length ≤ sizeLine then .ok (.p (.list (a ++ b))) S else .bad
  | .p (.tuple a), .p (.tuple b), S => if a ≠ [] ∧ b ≠ [] ∧ a.length + b.length ≤ sizeLine then .ok (.p (.tuple (a ++ b))) S else if a = [] then .ok (.p (.tuple b)) S else if b = [] ∧ a.length ≤ sizeLine then .ok (.p (.tuple a)) S else .bad
  | _, _, _ => .bad
def rAddStr : R2 := fun x y H Q => ∃ a b : Str, x = .str a ∧ y = .str b ∧ a.length + b.length ≤ sizeLine ∧ Q (.str (a ++ b)) H
def rCat0 (K : PySem.W.Frag) : R2 := fun x y H Q => ∃ a b ys, x = .ref a ∧ y = .ref b ∧ SqT K H a [] ∧ SqT K H b ys ∧ Q (.ref b) H
def rCat1 (K : PySem.W.Frag) : R2 := fun x y H Q => ∃ a b xs, x = .ref a ∧ y = .ref b ∧ SqT K H a xs ∧ xs ≠ [] ∧ SqT K H b [] ∧ xs.length ≤ sizeLine ∧ Q (.ref a) H
theorem op_cat0 {X : Cx} : OpR X (binaryOp .Add) (rCat0 X.K) := by
  intro pins s σ H x y v u Q I rx ry h
  obtain ⟨a, b, ys, rfl, rfl, ha, hb, q⟩ := h
  cases rx
  cases ry
  obtain ⟨its, r1, p1, _⟩ := I.tuple ha
  obtain ⟨its2, r2, p2, _⟩ := I.tuple hb
  obtain rfl : its = [] := by cases r1; rfl
  exact cat_tup0 p1 p2 ⟨.ref b, H, I, rfl, q⟩
theorem op_cat1 {X : Cx} : OpR X (binaryOp .Add) (rCat1 X.K) := by
  intro pins s σ H x y v u Q I rx ry h
  obtain ⟨a, b, xs, rfl, rfl, ha, hx, hb, hz, q⟩ := h
  cases rx
  cases ry
  obtain ⟨its, r1, p1, _⟩ := I.tuple ha
  obtain ⟨its2, r2, p2, _⟩ := I.tuple hb
  obtain rfl : its2 = [] := by cases r2; rfl
  exact HT.cat_tup p1 p2 (fun z => hx (r1.nil_iff.mp z)) (fun _ => ⟨.ref a, H, I, rfl, q⟩) (fun z => absurd rfl z) (by rw [← r1.length]; exact hz)
def rAddD (K : PySem.W.Frag) : R2 := fun x y H Q => rI0 (fun i j => .int (i + j)) x y H Q ∨ rAddStr x y H Q ∨ rCat x y H Q ∨ rCatF K x y H Q ∨ rCat0 K x y H Q ∨ rCat1 K x y H Q
theorem op_addStr' {X : Cx} : OpR X (binaryOp .Add) rAddStr := op_add_str
theorem op_addD {X : Cx} : OpR X (binaryOp .Add) (rAddD X.K) := by
  intro pins s σ H x y v u Q I rx ry h
  rcases h with h | h | h | h | h | h
  · exact op_add pins s σ H x y v u Q I rx ry h
  · exact op_addStr' pins s σ H x y v u Q I rx ry h
  · exact op_cat pins s σ H x y v u Q I rx ry h
  · exact op_catF pins s σ H x y v u Q I rx ry h
  · exact op_cat0 pins s σ H x y v u Q I rx ry h
  · exact op_cat1 pins s σ H x y v u Q I rx ry h
theorem addD_ok {K : PySem.W.Frag} {mg : Str → Option Value} {W : WX} : Op2 K mg W addD (rAddD K) := by
  intro R μ H S σ env x y dx dy Q r h
  obtain ⟨y', ws, e1, hy, r1⟩ := drs_cons r.tm
  cases e1
  obtain ⟨x', ws', e2, hx, r2⟩ := drs_cons r1
  cases e2
  unfold addD at h
  split at h
  · rw [dr_int hx, dr_int hy]
    exact .inl ⟨_, _, rfl, rfl, po_ok h r.rs (.p (.int _))⟩
  · split at h
    · rename_i hz
      rw [dr_str hx, dr_str hy]
      exact .inr (.inl ⟨_, _, rfl, rfl, hz, po_ok h r.rs (.p (.str _))⟩)
    · exact h.elim
  · split at h
    · rename_i hz
      obtain ⟨a, xs, rfl, h1, h2, h3⟩ := dr_lst hx
      obtain ⟨b, ys, rfl, g1, g2, g3⟩ := dr_lst hy
      exact .inr (.inr (.inl ⟨a, b, xs, ys, rfl, rfl, h1, g1, by rw [h3.len, g3.len]; exact hz, fun p hp => new_lst h r.rs (pda_append h3 g3) hp⟩))
    · exact h.elim
  · split at h
    · rename_i hz
      obtain ⟨a, xs, rfl, h1, h3⟩ := dr_tupE hx
      obtain ⟨b, ys, rfl, g1, g3⟩ := dr_tupE hy
      have ne : ∀ {us : List V} {ms : List PyData}, PdAll K H (Av R μ S.length) us ms → ms ≠ [] → us ≠ [] := fun q z e => by
        subst e
        cases q
        exact z rfl
      exact .inr (.inr (.inr (.inl ⟨a, b, xs, ys, rfl, rfl, h1.sqt, g1.sqt, ne h3 hz.1, ne g3 hz.2.1, by rw [h3.len, g3.len]; exact hz.2.2, fun p o hp hd => new_tup h r.rs (pda_append h3 g3) hp hd⟩)))
    · split at h
      · rename_i ha
        subst ha
        obtain ⟨a, xs, rfl, h1, h3⟩ := dr_tupE hx
        obtain ⟨b, ys, rfl, g1, g3⟩ := dr_tupE hy
        obtain rfl := pda_nil h3
        exact .inr (.inr (.inr (.inr (.inl ⟨a, b, ys, rfl, rfl, h1.sqt, g1.sqt, po_ok h r.rs (.p (.tup g1 g3))⟩))))
      · split at h
        · rename_i hz ha hb
          obtain ⟨hb, hl⟩ := hb
          subst hb
          obtain ⟨a, xs, rfl, h1, h3⟩ := dr_tupE hx
          obtain ⟨b, ys, rfl, g1, g3⟩ := dr_tupE hy
          obtain rfl := pda_nil g3
          exact .inr (.inr (.inr (.inr (.inr ⟨a, b, xs, rfl, rfl, h1.sqt, fun e => by subst e; cases h3; exact ha rfl, g1.sqt, by rw [h3.len]; exact hl, po_ok h r.rs (.p (.tup h1 h3))⟩))))
        · exact h.elim
  · exact h.elim
/-- two ints -/
def int2 (ok : Int → Int → Bool) (g : Int → Int → Int) : D → D → Sto → Ot D
  | .p (.int i), .p (.int j), S => if ok i j = true then .ok (.p (.int (g i j))) S else .bad
  | _, _, _ => .bad
theorem int2_ok {K : PySem.W.Frag} {mg : Str → Option Value} {W : WX} {C : Int → Int → Prop} {ok : Int → Int → Bool} {g : Int → Int → Int} (hc : ∀ i j, ok i j = true → C i j) : Op2 K mg W (int2 ok g) (rI C fun i j => .int (g i j)) := by
  intro R μ H S σ env x y dx dy Q r h
  obtain ⟨y', ws, e1, hy, r1⟩ := drs_cons r.tm
  cases e1
  obtain ⟨x', ws', e2, hx, r2⟩ := drs_cons r1
  cases e2
  unfold int2 at h
  split at h
  · split at h
    · rename_i hz
      rw [dr_int hx, dr_int hy]
      exact ⟨_, _, rfl, rfl, hc _ _ hz, po_ok h r.rs (.p (.int _))⟩
    · exact h.elim
  · exact h.elim
def subD := int2 (fun _ _ => true) fun i j => i - j
def mulOk (i j : Int) : Bool := decide (-(2 ^ 64) < i ∧ i < 2 ^ 64) || decide (-(2 ^ 64) < j ∧ j < 2 ^ 64)
def mulD := int2 mulOk fun i j => i * j
def modD := int2 (fun _ j => decide (0 < j)) fun i j => i % j
def divD := int2 (fun _ j => decide (0 < j ∧ j < 1073741824)) fun i j => i / j
def powD := int2 (fun i j => decide (0 ≤ j ∧ j ≤ 1000000 ∧ i.natAbs < 2 ^ 64)) fun i j => i ^ j.toNat
theorem op_subD {X : Cx} : OpR X (binaryOp .Sub) (rI (fun _ _ => True) fun i j => .int (i - j)) := opI fun _ _ _ _ _ _ _ _ q => sub_int q
theorem subD_ok {K : PySem.W.Frag} {mg : Str → Option Value} {W : WX} : Op2 K mg W subD (rI (fun _ _ => True) fun i j => .int (i - j)) := int2_ok fun _ _ _ => trivial
theorem mulD_ok {K : PySem.W.Frag} {mg : Str → Option Value} {W : WX} : Op2 K mg W mulD (rI CMul fun i j => .int (i * j)) := int2_ok fun i j h => by
  unfold mulOk at h
  rcases Bool.or_eq_true_iff.mp h with h | h
  · exact .inl (of_decide_eq_true h)
  · exact .inr (of_decide_eq_true h)
theorem modD_ok {K : PySem.W.Frag} {mg : Str → Option Value} {W : WX} : Op2 K mg W modD (rI (fun _ j => 0 < j) fun i j => .int (i % j)) := int2_ok fun i j h => of_decide_eq_true h
theorem divD_ok {K : PySem.W.Frag} {mg : Str → Option Value} {W : WX} : Op2 K mg W divD (rI CDiv fun i j => .int (i / j)) := int2_ok fun i j h => of_decide_eq_true (p := 0 < j ∧ j < 1073741824) h
theorem powD_ok {K : PySem.W.Frag} {mg : Str → Option Value} {W : WX} : Op2 K mg W powD (rI CPow fun i j => .int (i ^ j.toNat)) := int2_ok fun i j h => of_decide_eq_true (p := 0 ≤ j ∧ j ≤ 1000000 ∧ i.natAbs < 2 ^ 64) h
section
variable {X : Cx} {W : WX} {a b c e : Expr} {ma mb mc : EM} {pos : Pos}
theorem me_add (ha : PE X a (te X.K X.mg W ma)) (hb : PE X b (te X.K X.mg W mb)) : PE X (.BinOp a .Add b pos) (te X.K X.mg W (eOp addD ma mb)) := me_op op_addD addD_ok ha hb
theorem me_sub (ha : PE X a (te X.K X.mg W ma)) (hb : PE X b (te X.K X.mg W mb)) : PE X (.BinOp a .Sub b pos) (te X.K X.mg W (eOp subD ma mb)) := me_op op_subD subD_ok ha hb
theorem me_mulI (ha : PE X a (te X.K X.mg W ma)) (hb : PE X b (te X.K X.mg W mb)) : PE X (.BinOp a .Mult b pos) (te X.K X.mg W (eOp mulD ma mb)) := me_op op_mul mulD_ok ha hb
theorem me_mod (ha : PE X a (te X.K X.mg W ma)) (hb : PE X b (te X.K X.mg W mb)) : PE X (.BinOp a .Mod b pos) (te X.K X.mg W (eOp modD ma mb)) := me_op op_mod modD_ok ha hb
theorem me_div (ha : PE X a (te X.K X.mg W ma)) (hb : PE X b (te X.K X.mg W mb)) : PE X (.BinOp a .FloorDiv b pos) (te X.K X.mg W (eOp divD ma mb)) := me_op op_fdiv divD_ok ha hb
theorem me_pow (ha : PE X a (te X.K X.mg W ma)) (hb : PE X b (te X.K X.mg W mb)) : PE X (.BinOp a .Pow b pos) (te X.K X.mg W (eOp powD ma mb)) := me_op op_pow powD_ok ha hb
/-- -n -/
def negD : D → Sto → Ot D
  | .p (.int i), S => .ok (.p (.int (-i))) S
  | _, _ => .bad
theorem me_neg (ha : PE X a (te X.K X.mg W ma)) : PE X (.UnaryOp .USub a pos) (te X.K X.mg W (eUn negD ma)) := by
  refine (pe_un un_neg ha).w fun σ H Q ⟨R, μ, env, S, r, h⟩ => ⟨R, μ, env, S, r, ?_⟩
  refine pg_mono (pg_bind h) fun μ1 H1 S1 d s1 rs1 q v dr => ?_
  unfold negD at q
  split at q
  · rw [dr_int dr]
    exact ⟨_, rfl, po_ok q rs1 (.p (.int _))⟩
  · exact q.elim
end

/-! ### comparisons -/
def cmpI (g : Int → Int → Bool) : D → D → Sto → Ot D
  | .p (.int i), .p (.int j), S => .ok (.p (.bool (g i j))) S
  | _, _, _ => .bad
theorem cmpI_ok {K : PySem.W.Frag} {mg : Str → Option Value} {W : WX} {g : Int → Int → Bool} : Op2 K mg W (cmpI g) (rI0 fun i j => .bl (g i j)) := by
  intro R μ H S σ env x y dx dy Q r h
  obtain ⟨y', ws, e1, hy, r1⟩ := drs_cons r.tm
  cases e1
  obtain ⟨x', ws', e2, hx, r2⟩ := drs_cons r1
  cases e2
  unfold cmpI at h
  split at h
  · rw [dr_int hx, dr_int hy]
    exact ⟨_, _, rfl, rfl, po_ok h r.rs (.p (.bl _))⟩
  · exact h.elim
/-- == and != of plain data without dicts -/
def eqD (neg : Bool) : D → D → Sto → Ot D
  | .p a, .p b, S => if SeqAt.shaped a = true ∧ SeqAt.shaped b = true then .ok (.p (.bool (if neg = true then !PyData.eqv a b else PyData.eqv a b))) S else .bad
  | _, _, _ => .bad
section
variable {K : PySem.W.Frag} {H : Hp} {O : Addr → Prop}
mutual
theorem pd_dp : ∀ (d : PyData) (v : V), d.canLay0 = true → Pd K H O v d → Dp K H v d
  | .none, _, _, h => by cases h; exact .non
  | .bool b, _, _, h => by cases h; exact .bl b
  | .int i, _, _, h => by cases h; exact .int i
  | .str x, _, _, h => by cases h; exact .str x
  | .list ds, _, c, h => by
    cases h with
    | lst h1 _ h3 => exact .lst (SqL.of h1) (pda_dp ds _ (by simpa [PyData.canLay0] using c) h3)
  | .tuple ds, _, c, h => by
    cases h with
    | tup h1 h3 => exact .tup h1.sqt (pda_dp ds _ (by simpa [PyData.canLay0] using c) h3)
  | .dict kvs, _, c, _ => by simp [PyData.canLay0] at c
theorem pda_dp : ∀ (ds : List PyData) (vs : List V), PyData.canLayAll0 ds = true → PdAll K H O vs ds → DpAll K H vs ds
  | [], _, _, h => by cases h; exact .nil
  | d :: ds, _, c, h => by
    cases h with
    | cons h1 h2 =>
      have c' : (d.canLay0 && PyData.canLayAll0 ds) = true := by simpa [PyData.canLayAll0] using c
      exact .cons (pd_dp d _ (Bool.and_eq_true_iff.mp c').1 h1) (pda_dp ds _ (Bool.and_eq_true_iff.mp c').2 h2)
end
theorem shaped_lay {d : PyData} (h : SeqAt.shaped d = true) : d.canLay0 = true := (Bool.and_eq_true_iff.mp h).1
end
def rEqN (K : PySem.W.Frag) (neg : Bool) : R2 := if neg = true then rNeD K else rEqD K
theorem eqD_ok {K : PySem.W.Frag} {mg : Str → Option Value} {W : WX} {neg : Bool} : Op2 K mg W (eqD neg) (rEqN K neg) := by
  intro R μ H S σ env x y dx dy Q r h
  obtain ⟨y', ws, e1, hy, r1⟩ := drs_cons r.tm
  cases e1
  obtain ⟨x', ws', e2, hx, r2⟩ := drs_cons r1
  cases e2
  unfold eqD at h
  split at h
  · split at h
    · rename_i a b hz
      cases hx with
      | p px =>
        cases hy with
        | p py =>
          have p1 := pd_dp a _ (shaped_lay hz.1) px
          have p2 := pd_dp b _ (shaped_lay hz.2) py
          unfold rEqN
          cases neg with
          | true => rw [if_pos rfl] at h ⊢; exact ⟨a, b, p1, p2, hz.1, hz.2, po_ok h r.rs (.p (.bl _))⟩
          | false => rw [if_neg Bool.false_ne_true] at h ⊢; exact ⟨a, b, p1, p2, hz.1, hz.2, po_ok h r.rs (.p (.bl _))⟩
    · exact h.elim
  · exact h.elim
theorem op_eqN {X : Cx} (hu : X.A.units + 64 < cLine) : OpR X (compareOp .Eq) (rEqN X.K false) := by
  unfold rEqN
  rw [if_neg Bool.false_ne_true]
  exact op_eqD hu
theorem op_neN {X : Cx} (hu : X.A.units + 64 < cLine) : OpR X (compareOp .NotEq) (rEqN X.K true) := by
  unfold rEqN
  rw [if_pos rfl]
  exact op_neD hu
/-- is, is not: None, True, False -/
def isD (neg : Bool) : D → D → Sto → Ot D
  | .p a, .p .none, S => .ok (.p (.bool (neg ^^ (match a with | .none => true | _ => false)))) S
  | .loc _, .p .none, S => .ok (.p (.bool neg)) S
  | .p (.bool a), .p (.bool b), S => .ok (.p (.bool (neg ^^ (a == b)))) S
  | _, _, _ => .bad
section
variable {X : Cx} {W : WX} {a b c e : Expr} {ma mb mc : EM} {pos : Pos} {k : Nat}
theorem me_lt (ha : PE X a (te X.K X.mg W ma)) (hb : PE X b (te X.K X.mg W mb)) : PE X (.Compare a [.Lt] [b] pos) (te X.K X.mg W (eOp (cmpI fun i j => decide (i < j)) ma mb)) := me_cmp op_lt cmpI_ok ha hb (nomark _)
theorem me_le (ha : PE X a (te X.K X.mg W ma)) (hb : PE X b (te X.K X.mg W mb)) : PE X (.Compare a [.LtE] [b] pos) (te X.K X.mg W (eOp (cmpI fun i j => decide (i ≤ j)) ma mb)) := me_cmp op_le cmpI_ok ha hb (nomark _)
theorem me_gt (ha : PE X a (te X.K X.mg W ma)) (hb : PE X b (te X.K X.mg W mb)) : PE X (.Compare a [.Gt] [b] pos) (te X.K X.mg W (eOp (cmpI fun i j => decide (j < i)) ma mb)) := me_cmp op_gt cmpI_ok ha hb (nomark _)
theorem me_ge (ha : PE X a (te X.K X.mg W ma)) (hb : PE X b (te X.K X.mg W mb)) : PE X (.Compare a [.GtE] [b] pos) (te X.K X.mg W (eOp (cmpI fun i j => decide (j ≤ i)) ma mb)) := me_cmp op_ge cmpI_ok ha hb (nomark _)
theorem me_eq (hr : Room k X.A) (ha : PE X a (te X.K X.mg W ma)) (hb : PE X b (te X.K X.mg W mb)) : PE X (.Compare a [.Eq] [b] pos) (te X.K X.mg W (eOp (eqD false) ma mb)) := me_cmp (op_eqN hr.units) eqD_ok ha hb (nomark _)
theorem me_ne (hr : Room k X.A) (ha : PE X a (te X.K X.mg W ma)) (hb : PE X b (te X.K X.mg W mb)) : PE X (.Compare a [.NotEq] [b] pos) (te X.K X.mg W (eOp (eqD true) ma mb)) := me_cmp (op_neN hr.units) eqD_ok ha hb (nomark _)
end
end Mi

/-! Mi7 -/
set_option Elab.async false
set_option linter.all false
set_option maxRecDepth 100000
set_option maxHeartbeats 1000000
set_option autoImplicit false
namespace Mi
open PySem PySem.Spec PyProof.Rows L2

/-! ### built-ins by values -/
def OpC (K : PySem.W.Frag) (mg : Str → Option Value) (W : WX) (f : FM) (r : List V → Hp → VK → Prop) : Prop :=
  ∀ (R : Addr → Prop) (μ : Nat → Addr) (H : Hp) (S : Sto) (σ : L2.St) (env : Envr) (vs : List V) (ds : List D) (Q : VK), RS K R H μ S → DRs K R H μ S.length vs ds → Po K mg W R μ S H σ env (f ds S) Q → r vs H Q
section
variable {X : Cx} {W : WX} {x : Str} {p pos : Pos} {e a b : Expr} {es : List Expr} {aa : AM} {f : FM} {id T : String} {r : List V → Hp → VK → Prop} {ma mb : EM}
theorem me_callB (hc : CallR X (.builtin id) r) (hf : OpC X.K X.mg W f r) (hm : X.mg x = none) (hv : bootBuiltins x = some (.builtin id)) (ha : PA X (e :: es) (ta X.K X.mg W aa)) (hg : Gl X x := by rfl) (hn : x ≠ "__name__" := by decide) (hdb : (x == ("__debug__" : Str)) = false := by decide)
    (he : starEach (e :: es) X.env = (false, eval e X.env) :: starEach es X.env := by rfl) (hpl : (backTo pos (starEach es X.env)).any (·.1) = false := by rfl) : PE X (.Call (.Name x p) (e :: es) [] pos) (te X.K X.mg W (eCall f aa)) := by
  refine (pe_callB hc hg hm hv ha hn hdb he hpl).w fun σ H Q ⟨R, μ, env, S, r, h⟩ => ⟨R, μ, env, S, r, ?_⟩
  exact pg_mono (pg_bind h) fun μ1 H1 S1 ds s1 rs1 q vs dr => hf R μ1 H1 S1 σ env vs ds Q rs1 dr q
theorem me_callTy (hc : CallR X (.type T) r) (hf : OpC X.K X.mg W f r) (hm : X.mg x = none) (hv : bootBuiltins x = some (.type T)) (ha : PA X (e :: es) (ta X.K X.mg W aa)) (hg : Gl X x := by rfl) (hn : x ≠ "__name__" := by decide) (hdb : (x == ("__debug__" : Str)) = false := by decide)
    (he : starEach (e :: es) X.env = (false, eval e X.env) :: starEach es X.env := by rfl) (hpl : (backTo pos (starEach es X.env)).any (·.1) = false := by rfl) : PE X (.Call (.Name x p) (e :: es) [] pos) (te X.K X.mg W (eCall f aa)) := by
  refine (pe_callTy hc hg hm hv ha hn hdb he hpl).w fun σ H Q ⟨R, μ, env, S, r, h⟩ => ⟨R, μ, env, S, r, ?_⟩
  exact pg_mono (pg_bind h) fun μ1 H1 S1 ds s1 rs1 q vs dr => hf R μ1 H1 S1 σ env vs ds Q rs1 dr q
end
/-- what a list's cell holds -/
def cellL (S : Sto) (i : Nat) : Option (List D) := match S[i]? with
  | some (.lst xs) => some xs
  | _ => none
theorem cellL_some {S : Sto} {i : Nat} {xs : List D} (h : cellL S i = some xs) : S[i]? = some (.lst xs) := by
  unfold cellL at h
  split at h
  · rename_i e
    cases h
    exact e
  · cases h
def lenF : FM
  | [.p (.list l)], S => .ok (.p (.int (l.length : Int))) S
  | [.p (.tuple l)], S => .ok (.p (.int (l.length : Int))) S
  | [.p (.str x)], S => if x.length ≤ sizeLine then .ok (.p (.int (x.length : Int))) S else .bad
  | [.scr ns], S => .ok (.p (.int (ns.length : Int))) S
  | [.loc i], S => match cellL S i with
    | some xs => .ok (.p (.int (xs.length : Int))) S
    | none => .bad
  | _, _ => .bad
def rLenS (K : PySem.W.Frag) : List V → Hp → VK → Prop := fun xs H Q => (∃ p ys, xs = [.ref p] ∧ (SqL K H p ys ∨ SqT K H p ys) ∧ Q (.int ys.length) H) ∨ ∃ z, xs = [.str z] ∧ z.length ≤ sizeLine ∧ Q (.int z.length) H
theorem call_lenS {X : Cx} : CallR X (.builtin "len") (rLenS X.K) := call_len_seq.or call_len_str
theorem lenF_ok {K : PySem.W.Frag} {mg : Str → Option Value} {W : WX} : OpC K mg W lenF (rLenS K) := by
  intro R μ H S σ env vs ds Q rs dr h
  unfold lenF at h
  split at h
  · obtain ⟨v, ws, rfl, d1, d2⟩ := drs_cons dr
    obtain rfl := drs_nil d2
    obtain ⟨a, xs, rfl, h1, h2, h3⟩ := dr_lst d1
    exact .inl ⟨a, xs, rfl, .inl (SqL.of h1), by rw [h3.len]; exact po_ok h rs (.p (.int _))⟩
  · obtain ⟨v, ws, rfl, d1, d2⟩ := drs_cons dr
    obtain rfl := drs_nil d2
    obtain ⟨a, xs, rfl, h1, h3⟩ := dr_tup d1
    exact .inl ⟨a, xs, rfl, .inr h1, by rw [h3.len]; exact po_ok h rs (.p (.int _))⟩
  · obtain ⟨v, ws, rfl, d1, d2⟩ := drs_cons dr
    obtain rfl := drs_nil d2
    obtain rfl := dr_str d1
    split at h
    · rename_i hz
      exact .inr ⟨_, rfl, hz, po_ok h rs (.p (.int _))⟩
    · exact h.elim
  · obtain ⟨v, ws, rfl, d1, d2⟩ := drs_cons dr
    obtain rfl := drs_nil d2
    obtain ⟨a, rfl, h1⟩ := dr_scr d1
    exact .inl ⟨a, _, rfl, .inl h1.sq, by rw [List.length_map]; exact po_ok h rs (.p (.int _))⟩
  · obtain ⟨v, ws, rfl, d1, d2⟩ := drs_cons dr
    obtain rfl := drs_nil d2
    obtain ⟨rfl, hi⟩ := dr_loc d1
    split at h
    · rename_i xs e
      obtain ⟨ys, g1, g2⟩ := rs.cell _ _ (cellL_some e)
      exact .inl ⟨_, ys, rfl, .inl (SqL.of g1), by rw [g2.len]; exact po_ok h rs (.p (.int _))⟩
    · exact h.elim
  · exact h.elim
def intF : FM
  | [.p (.int i)], S => .ok (.p (.int i)) S
  | [.p (.bool b)], S => .ok (.p (.int (if b then 1 else 0))) S
  | _, _ => .bad
theorem intF_ok {K : PySem.W.Frag} {mg : Str → Option Value} {W : WX} : OpC K mg W intF (fun xs H Q => (∃ i, xs = [.int i] ∧ Q (.int i) H) ∨ ∃ k, xs = [.bl k] ∧ Q (.int (if k then 1 else 0)) H) := by
  intro R μ H S σ env vs ds Q rs dr h
  unfold intF at h
  split at h
  · obtain ⟨v, ws, rfl, d1, d2⟩ := drs_cons dr
    obtain rfl := drs_nil d2
    obtain rfl := dr_int d1
    exact .inl ⟨_, rfl, po_ok h rs (.p (.int _))⟩
  · obtain ⟨v, ws, rfl, d1, d2⟩ := drs_cons dr
    obtain rfl := drs_nil d2
    obtain rfl := dr_bl d1
    exact .inr ⟨_, rfl, po_ok h rs (.p (.int _))⟩
  · exact h.elim
def max2F : FM
  | [.p (.int i), .p (.int j)], S => .ok (.p (.int (if j > i then j else i))) S
  | _, _ => .bad
def min2F : FM
  | [.p (.int i), .p (.int j)], S => .ok (.p (.int (if j < i then j else i))) S
  | _, _ => .bad
theorem max2F_ok {K : PySem.W.Frag} {mg : Str → Option Value} {W : WX} : OpC K mg W max2F (fun xs H Q => ∃ i j, xs = [.int i, .int j] ∧ Q (.int (if j > i then j else i)) H) := by
  intro R μ H S σ env vs ds Q rs dr h
  unfold max2F at h
  split at h
  · rw [drs_int2 dr]
    exact ⟨_, _, rfl, po_ok h rs (.p (.int _))⟩
  · exact h.elim
theorem min2F_ok {K : PySem.W.Frag} {mg : Str → Option Value} {W : WX} : OpC K mg W min2F (fun xs H Q => ∃ i j, xs = [.int i, .int j] ∧ Q (.int (if j < i then j else i)) H) := by
  intro R μ H S σ env vs ds Q rs dr h
  unfold min2F at h
  split at h
  · rw [drs_int2 dr]
    exact ⟨_, _, rfl, po_ok h rs (.p (.int _))⟩
  · exact h.elim
/-- tuple(..), list(..) of what is plain -/
def tupF : FM
  | [.p (.list l)], S => .ok (.p (.tuple l)) S
  | [.p (.tuple l)], S => .ok (.p (.tuple l)) S
  | [.scr ns], S => .ok (.p (.tuple (ns.map .int))) S
  | [.loc i], S => match (cellL S i).bind plains with
    | some l => .ok (.p (.tuple l)) S
    | none => .bad
  | _, _ => .bad
abbrev rTupOf (K : PySem.W.Frag) : List V → Hp → VK → Prop := rTupF K
theorem call_tupOf {X : Cx} : CallR X (.type "tuple") (rTupOf X.K) := call_tupF
theorem tupF_ok {K : PySem.W.Frag} {mg : Str → Option Value} {W : WX} : OpC K mg W tupF (rTupOf K) := by
  intro R μ H S σ env vs ds Q rs dr h
  unfold tupF at h
  split at h
  · obtain ⟨v, ws, rfl, d1, d2⟩ := drs_cons dr
    obtain rfl := drs_nil d2
    obtain ⟨a, xs, rfl, h1, h2, h3⟩ := dr_lst d1
    exact ⟨a, xs, rfl, .inl ⟨SqL.of h1, fun l o hl hd => new_tup h rs h3 hl hd⟩⟩
  · obtain ⟨v, ws, rfl, d1, d2⟩ := drs_cons dr
    obtain rfl := drs_nil d2
    obtain ⟨a, xs, rfl, h1, h3⟩ := dr_tupE d1
    exact ⟨a, xs, rfl, .inr ⟨h1.sqt, po_ok h rs (.p (.tup h1 h3))⟩⟩
  · obtain ⟨v, ws, rfl, d1, d2⟩ := drs_cons dr
    obtain rfl := drs_nil d2
    obtain ⟨a, rfl, h1⟩ := dr_scr d1
    exact ⟨a, _, rfl, .inl ⟨h1.sq, fun l o hl hd => new_tup h rs pda_ints hl hd⟩⟩
  · obtain ⟨v, ws, rfl, d1, d2⟩ := drs_cons dr
    obtain rfl := drs_nil d2
    obtain ⟨rfl, hi⟩ := dr_loc d1
    split at h
    · rename_i l e
      cases e1 : cellL S _ with
      | none => rw [e1] at e; cases e
      | some xs =>
        rw [e1] at e
        obtain ⟨ys, g1, g2⟩ := rs.cell _ _ (cellL_some e1)
        exact ⟨_, ys, rfl, .inl ⟨SqL.of g1, fun l o hl hd => new_tup h rs (plains_pd g2 e) hl hd⟩⟩
    · exact h.elim
  · exact h.elim
def lstF : FM
  | [.p (.list l)], S => .ok (.p (.list l)) S
  | [.p (.tuple l)], S => .ok (.p (.list l)) S
  | [.scr ns], S => .ok (.p (.list (ns.map .int))) S
  | [.loc i], S => match (cellL S i).bind plains with
    | some l => .ok (.p (.list l)) S
    | none => .bad
  | _, _ => .bad
def rLstOf (K : PySem.W.Frag) : List V → Hp → VK → Prop := fun xs H Q => ∃ p ys, xs = [.ref p] ∧ (SqL K H p ys ∨ SqT K H p ys) ∧ ∀ l, H l = none → Q (.ref l) (upd H l (.lst ys))
theorem call_lstOf {X : Cx} : CallR X (.type "list") (rLstOf X.K) := call_list_of
theorem lstF_ok {K : PySem.W.Frag} {mg : Str → Option Value} {W : WX} : OpC K mg W lstF (rLstOf K) := by
  intro R μ H S σ env vs ds Q rs dr h
  unfold lstF at h
  split at h
  · obtain ⟨v, ws, rfl, d1, d2⟩ := drs_cons dr
    obtain rfl := drs_nil d2
    obtain ⟨a, xs, rfl, h1, h2, h3⟩ := dr_lst d1
    exact ⟨a, xs, rfl, .inl (SqL.of h1), fun l hl => new_lst h rs h3 hl⟩
  · obtain ⟨v, ws, rfl, d1, d2⟩ := drs_cons dr
    obtain rfl := drs_nil d2
    obtain ⟨a, xs, rfl, h1, h3⟩ := dr_tup d1
    exact ⟨a, xs, rfl, .inr h1, fun l hl => new_lst h rs h3 hl⟩
  · obtain ⟨v, ws, rfl, d1, d2⟩ := drs_cons dr
    obtain rfl := drs_nil d2
    obtain ⟨a, rfl, h1⟩ := dr_scr d1
    exact ⟨a, _, rfl, .inl h1.sq, fun l hl => new_lst h rs pda_ints hl⟩
  · obtain ⟨v, ws, rfl, d1, d2⟩ := drs_cons dr
    obtain rfl := drs_nil d2
    obtain ⟨rfl, hi⟩ := dr_loc d1
    split at h
    · rename_i l e
      cases e1 : cellL S _ with
      | none => rw [e1] at e; cases e
      | some xs =>
        rw [e1] at e
        obtain ⟨ys, g1, g2⟩ := rs.cell _ _ (cellL_some e1)
        exact ⟨_, ys, rfl, .inl (SqL.of g1), fun l hl => new_lst h rs (plains_pd g2 e) hl⟩
    · exact h.elim
  · exact h.elim
/-- the greatest, the least of ints -/
def intsOf : List PyData → Option (List Int)
  | [] => some []
  | .int i :: r => (intsOf r).map (i :: ·)
  | _ :: _ => none
theorem intsOf_eq : ∀ {l : List PyData} {ns : List Int}, intsOf l = some ns → l = ns.map .int
  | [], _, h => by cases h; rfl
  | .int i :: r, ns, h => by
    unfold intsOf at h
    cases e : intsOf r with
    | none => rw [e] at h; cases h
    | some ms =>
      rw [e] at h
      cases h
      rw [intsOf_eq e]
      rfl
  | .none :: _, _, h => by cases h
  | .bool _ :: _, _, h => by cases h
  | .str _ :: _, _, h => by cases h
  | .list _ :: _, _, h => by cases h
  | .tuple _ :: _, _, h => by cases h
  | .dict _ :: _, _, h => by cases h
theorem pda_ints_eq {K : PySem.W.Frag} {H : Hp} {O : Addr → Prop} : ∀ {ns : List Int} {vs : List V}, PdAll K H O vs (ns.map PyData.int) → vs = ns.map V.int
  | [], _, h => by cases h; rfl
  | n :: ns, _, h => by
    cases h with
    | cons a b =>
      cases a
      rw [pda_ints_eq b]
      rfl
end Mi

/-! Mi8 -/
set_option Elab.async false
set_option linter.all false
set_option maxRecDepth 100000
set_option maxHeartbeats 1000000
set_option autoImplicit false
namespace Mi
open PySem PySem.Spec PyProof.Rows L2

/-! ### items by place -/
def ixD : D → D → Sto → Ot D
  | .p (.list l), .p (.int i), S => match atI l i with
    | some d => .ok (.p d) S
    | none => .bad
  | .p (.tuple l), .p (.int i), S => match atI l i with
    | some d => .ok (.p d) S
    | none => .bad
  | .p (.str x), .p (.int i), S => if x.length ≤ sizeLine then (match atI x.cps.toList i with
    | some c => .ok (.p (.str ⟨#[c]⟩)) S
    | none => .bad) else .bad
  | .loc k, .p (.int i), S => match (cellL S k).bind fun xs => atI xs i with
    | some d => .ok d S
    | none => .bad
  | .scr ns, .p (.int i), S => match atI ns i with
    | some n => .ok (.p (.int n)) S
    | none => .bad
  | _, _, _ => .bad
section
variable {K : PySem.W.Frag} {R : Addr → Prop} {mg : Str → Option Value} {W : WX} {μ μ' : Nat → Addr} {H H' : Hp} {S S' : Sto} {σ : L2.St} {env : Envr} {n : Nat} {v : V} {vs : List V} {ds : List D} {Q : VK}
theorem atI_pd {O : Addr → Prop} {xs : List V} {l : List PyData} {i : Int} {d : PyData} (h : PdAll K H O xs l) (e : atI l i = some d) : ∃ v, atI xs i = some v ∧ Pd K H O v d := by
  unfold atI at e ⊢
  rw [h.len]
  cases e1 : ixN l.length i with
  | none => rw [e1] at e; cases e
  | some j =>
    rw [e1] at e
    obtain ⟨v, h1, h2⟩ := pda_get h e
    exact ⟨v, h1, h2⟩
theorem atI_dr {xs : List V} {l : List D} {i : Int} {d : D} (h : DRs K R H μ n xs l) (e : atI l i = some d) : ∃ v, atI xs i = some v ∧ DR K R H μ n v d := by
  unfold atI at e ⊢
  rw [h.len]
  cases e1 : ixN l.length i with
  | none => rw [e1] at e; cases e
  | some j =>
    rw [e1] at e
    obtain ⟨v, h1, h2⟩ := h.get e
    exact ⟨v, h1, h2⟩
theorem atI_int {ns : List Int} {i m : Int} (e : atI ns i = some m) : atI (ns.map V.int) i = some (.int m) := by
  unfold atI at e ⊢
  rw [List.length_map]
  cases e1 : ixN ns.length i with
  | none => rw [e1] at e; cases e
  | some j =>
    rw [e1] at e
    have e' : ns[j]? = some m := e
    show (ns.map V.int)[j]? = some (.int m)
    rw [List.getElem?_map, e']
    rfl
theorem ixD_ok : Op2 K mg W ixD (rIx K) := by
  intro R μ H S σ env x y dx dy Q r h
  obtain ⟨y', ws, e1, hy, r1⟩ := drs_cons r.tm
  cases e1
  obtain ⟨x', ws', e2, hx, r2⟩ := drs_cons r1
  cases e2
  unfold ixD at h
  split at h
  · split at h
    · rename_i e
      obtain ⟨a, xs, rfl, h1, h2, h3⟩ := dr_lst hx
      obtain rfl := dr_int hy
      obtain ⟨v, g1, g2⟩ := atI_pd h3 e
      exact .inl ⟨a, xs, _, v, rfl, rfl, SqL.of h1, g1, po_ok h r.rs (.p g2)⟩
    · exact h.elim
  · split at h
    · rename_i e
      obtain ⟨a, xs, rfl, h1, h3⟩ := dr_tup hx
      obtain rfl := dr_int hy
      obtain ⟨v, g1, g2⟩ := atI_pd h3 e
      exact .inr (.inl ⟨a, xs, _, v, rfl, rfl, h1, g1, po_ok h r.rs (.p g2)⟩)
    · exact h.elim
  · split at h
    · rename_i hz
      split at h
      · rename_i c e
        obtain rfl := dr_str hx
        obtain rfl := dr_int hy
        exact .inr (.inr ⟨_, _, c, rfl, rfl, hz, e, po_ok h r.rs (.p (.str _))⟩)
      · exact h.elim
    · exact h.elim
  · split at h
    · rename_i k i S0 d e
      obtain ⟨rfl, hi⟩ := dr_loc hx
      obtain rfl := dr_int hy
      cases e1 : cellL S _ with
      | none => rw [e1] at e; cases e
      | some xs =>
        rw [e1] at e
        obtain ⟨ys, g1, g2⟩ := r.rs.cell _ _ (cellL_some e1)
        obtain ⟨v, f1, f2⟩ := atI_dr g2 e
        exact .inl ⟨_, ys, _, v, rfl, rfl, SqL.of g1, f1, po_ok h r.rs f2⟩
    · exact h.elim
  · split at h
    · rename_i m e
      obtain ⟨a, rfl, h1⟩ := dr_scr hx
      obtain rfl := dr_int hy
      exact .inl ⟨a, _, _, _, rfl, rfl, h1.sq, atI_int e, po_ok h r.rs (.p (.int _))⟩
    · exact h.elim
  · exact h.elim
end
section
variable {X : Cx} {W : WX} {a b c e o : Expr} {ma mb mc : EM} {pos p2 : Pos} {lo hi : Option Expr}
theorem me_ix (ha : PE X a (te X.K X.mg W ma)) (hb : PE X b (te X.K X.mg W mb)) (hs : PlainIx b := by intro _ _; rfl) : PE X (.Subscript a b pos) (te X.K X.mg W (eOp ixD ma mb)) := by
  refine (pe_ix ix_seq ha hb hs).w fun σ H Q ⟨R, μ, env, S, r, h⟩ => ⟨R, μ, env, S, r, ?_⟩
  refine po_mono (po_bind r h) fun x H1 ⟨μ1, S1, d1, r1, h1⟩ => ⟨R, μ1, env, S1, r1.drop, ?_⟩
  exact po_mono (po_bind r1 h1) fun y H2 ⟨μ2, S2, d2, r2, h2⟩ => ixD_ok (mg := X.mg) (W := W) R μ2 H2 S2 σ env x y d1 d2 Q r2 h2
end

/-! ### slices -/
abbrev OM := Envr → Sto → Ot (Option Int)
def oNone : OM := fun _ S => .ok none S
def toI : D → Sto → Ot (Option Int)
  | .p (.int i), S => .ok (some i) S
  | _, _ => .bad
def oSome (m : EM) : OM := fun env S => (m env S).bind toI
def tO (K : PySem.W.Frag) (mg : Str → Option Value) (W : WX) (m : OM) : TO := fun σ H Q => ∃ R μ env S, RL K R μ H S σ env [] [] ∧ Pg K mg W R μ S H σ env (m env S) fun _ H' _ o => Q o H'
/-- t[lo:hi] as a tuple that is known to have no dict of its own -/
def rSlF (K : PySem.W.Frag) : V → Option Int → Option Int → Hp → VK → Prop := fun x lo hi H Q => ∃ a xs, x = .ref a ∧ SqT K H a xs ∧
  ((HT.sIx xs.length 0 lo = 0 ∧ HT.sIx xs.length xs.length hi = xs.length) → Q (.ref a) H) ∧ (¬ (HT.sIx xs.length 0 lo = 0 ∧ HT.sIx xs.length xs.length hi = xs.length) → NwT H (cutV xs lo hi) Q)
theorem sl_tupF {X : Cx} : SlR X (rSlF X.K) := by
  intro pins s σ H x v vl vu lo hi sl Q I rx hs pl pu h
  obtain ⟨a, xs, rfl, hx, q1, q2⟩ := h
  cases rx
  obtain ⟨its, r, ht, hz⟩ := I.tuple hx
  have hlen : its.toArray.size = xs.length := by rw [List.size_toArray]; exact r.length.symm
  refine ⟨"tuple", _, PyProof.Rows.slot_tuple_getitem.lookup, ht.typeIs, ?_⟩
  by_cases hw : HT.sIx xs.length 0 lo = 0 ∧ HT.sIx xs.length xs.length hi = xs.length
  · exact getItem_tuple_whole ht hs pl pu (by rw [hlen]; exact hw) ⟨.ref a, H, I, rfl, q1 hw⟩
  · refine HT.getItem_tuple_cut ht hs pl pu (by rw [hlen]; exact hw) ?_ (by rw [hlen]; exact hz)
    rw [hlen]
    exact laidT I ((r.drop (HT.sIx xs.length 0 lo)).take (HT.sIx xs.length xs.length hi - HT.sIx xs.length 0 lo)) (Nat.le_trans (cutV_length xs lo hi) hz) (fun b ob q => Heap.get?_push_of_some _ q) (Heap.get?_push_size _ rfl) (q2 hw)
def cutL {α : Type} (xs : List α) (lo hi : Option Int) : List α := (xs.drop (HT.sIx xs.length 0 lo)).take (HT.sIx xs.length xs.length hi - HT.sIx xs.length 0 lo)
def slD : D → Option Int → Option Int → Sto → Ot D
  | .p (.list l), lo, hi, S => .ok (.p (.list (cutL l lo hi))) S
  | .scr ns, lo, hi, S => .ok (.p (.list ((cutL ns lo hi).map .int))) S
  | .p (.tuple l), lo, hi, S => .ok (.p (.tuple (cutL l lo hi))) S
  | _, _, _, _ => .bad
def eSl (m : EM) (lo hi : OM) : EM := fun env S => (m env S).bind fun d S1 => (lo env S1).bind fun l S2 => (hi env S2).bind fun u S3 => slD d l u S3
def rSlD (K : PySem.W.Frag) : V → Option Int → Option Int → Hp → VK → Prop := fun x lo hi H Q => rSlL K x lo hi H Q ∨ rSlF K x lo hi H Q
theorem sl_D {X : Cx} : SlR X (rSlD X.K) := sl_list.or sl_tupF
section
variable {X : Cx} {W : WX} {a b c e o : Expr} {ma mb mc : EM} {pos p2 : Pos} {lo hi : Option Expr} {ml mh : OM}
theorem _root_.L2.PO.w {X : Cx} {e : Option Expr} {t t' : TO} (h : PO X e t) (hw : ∀ σ H Q, t' σ H Q → t σ H Q) : PO X e t' := ⟨fun pins s σ H Q I q => h.run pins s σ H Q I (hw σ H Q q)⟩
theorem mo_none : PO X none (tO X.K X.mg W oNone) := po_none.w fun σ H Q ⟨R, μ, env, S, r, h⟩ => pg_ok h r.rs
theorem mo_some (h : PE X e (te X.K X.mg W ma)) : PO X (some e) (tO X.K X.mg W (oSome ma)) := by
  refine (po_some h).w fun σ H Q ⟨R, μ, env, S, r, h⟩ => ⟨R, μ, env, S, r, ?_⟩
  refine pg_mono (pg_bind h) fun μ1 H1 S1 d s1 rs1 q v dr => ?_
  unfold toI at q
  split at q
  · rw [dr_int dr]
    exact ⟨_, rfl, pg_ok q rs1⟩
  · exact q.elim
theorem cut_whole {α : Type} {xs : List α} {lo hi : Option Int} (h : HT.sIx xs.length 0 lo = 0 ∧ HT.sIx xs.length xs.length hi = xs.length) : cutL xs lo hi = xs := by
  unfold cutL
  rw [h.1, h.2]
  simp
theorem cut_pd {K : PySem.W.Frag} {H : Hp} {O : Addr → Prop} {xs : List V} {l : List PyData} {lo hi : Option Int} (h : PdAll K H O xs l) : PdAll K H O (cutV xs lo hi) (cutL l lo hi) := by
  unfold cutV cutL
  rw [h.len]
  exact pda_take _ (pda_drop _ h)
theorem me_sl (h : PE X e (te X.K X.mg W ma)) (hl : PO X lo (tO X.K X.mg W ml)) (hh : PO X hi (tO X.K X.mg W mh)) : PE X (.Subscript e (.Slice lo hi none p2) pos) (te X.K X.mg W (eSl ma ml mh)) := by
  refine (pe_slice sl_D h hl hh).w fun σ H Q ⟨R, μ, env, S, r, h⟩ => ⟨R, μ, env, S, r, ?_⟩
  refine po_mono (po_bind r h) fun x H1 ⟨μ1, S1, d1, r1, h1⟩ => ⟨R, μ1, env, S1, r1.drop, ?_⟩
  refine pg_mono (pg_bind h1) fun μ2 H2 S2 l s2 rs2 h2 => ⟨R, μ2, env, S2, ⟨rs2, r1.en.mono s2, .nil⟩, ?_⟩
  refine pg_mono (pg_bind h2) fun μ3 H3 S3 u s3 rs3 h3 => ?_
  have tm := (r1.mono s2 rs2).mono s3 rs3
  obtain ⟨v, ws, e1, hx, _⟩ := drs_cons tm.tm
  cases e1
  unfold slD at h3
  split at h3
  · obtain ⟨a, xs, rfl, g1, g2, g3⟩ := dr_lst hx
    exact .inl ⟨a, xs, rfl, SqL.of g1, fun p hp => new_lst h3 rs3 (cut_pd g3) hp⟩
  · obtain ⟨a, rfl, g1⟩ := dr_scr hx
    refine .inl ⟨a, _, rfl, g1.sq, fun p hp => ?_⟩
    have e : ∀ (ns : List Int) lo hi, cutV (ns.map V.int) lo hi = (cutL ns lo hi).map V.int := fun ns lo hi => by
      unfold cutV cutL
      rw [List.length_map, List.map_take, List.map_drop]
    rw [e]
    exact new_lst h3 rs3 pda_ints hp
  · obtain ⟨a, xs, rfl, g1, g3⟩ := dr_tupE hx
    refine .inr ⟨a, xs, rfl, g1.sqt, fun hw => ?_, fun _ p o hp hd => new_tup h3 rs3 (cut_pd g3) hp hd⟩
    have hw' := hw
    rw [g3.len] at hw'
    rw [cut_whole hw'] at h3
    exact po_ok h3 rs3 (.p (.tup g1 g3))
  · exact h3.elim
end

/-! ### a list's cell grows -/
section
variable {K : PySem.W.Frag} {R : Addr → Prop} {mg : Str → Option Value} {W : WX} {μ μ' : Nat → Addr} {H H' : Hp} {S S' : Sto} {σ : L2.St} {env : Envr} {n : Nat} {v : V} {vs : List V} {ds : List D} {Q : VK}
theorem le_cell {i : Nat} {o : HO} (hi : i < n) (hk : ∀ ob u, H (μ i) ≠ some (.frz ob u)) (hk2 : ∀ xs, H (μ i) ≠ some (.tup xs)) : Sp1 μ n H μ n (upd H (μ i) o) := by
  refine ⟨Nat.le_refl _, fun _ _ => rfl, ⟨fun a u h z => ?_, fun a h => .inl h, fun a u h => ?_, fun a ob u h => ?_⟩⟩
  · rw [upd_ne fun e => z ⟨i, hi, e⟩]; exact h
  · rw [upd_ne fun e => hk2 _ (by rw [← e]; exact h)]; exact h
  · rw [upd_ne fun e => hk _ _ (by rw [← e]; exact h)]; exact h
/-- a cell is changed -/
theorem rs_set {i : Nat} {c c' : Cell} {o : HO} (r : RS K R H μ S) (hc : S[i]? = some c) (hs : Sp1 μ S.length H μ S.length (upd H (μ i) o)) (hn : CelR K R (upd H (μ i) o) μ S.length (μ i) c') (hb : c'.lowb i = true) : RS K R (upd H (μ i) o) μ (S.set i c') := by
  have hi := (List.getElem?_eq_some_iff.mp hc).1
  have hl : (S.set i c').length = S.length := List.length_set ..
  refine ⟨fun j k hj hk e => r.inj j k (by omega) (by omega) e, fun j d hd => ?_, fun j d hd => ?_, fun a ha => ⟨upd_there (r.res a ha).1, fun z => (r.res a ha).2 (by rw [hl] at z; exact z)⟩⟩
  · rw [hl]
    by_cases hj : i = j
    · subst hj
      rw [List.getElem?_set_self hi] at hd
      cases hd
      exact hn
    · rw [List.getElem?_set_ne hj] at hd
      have hjl := (List.getElem?_eq_some_iff.mp hd).1
      exact (r.cell j d hd).mono hs fun u hu => by rw [upd_ne fun e => hj (r.inj j i hjl hi e).symm]; exact hu
  · by_cases hj : i = j
    · subst hj
      rw [List.getElem?_set_self hi] at hd
      cases hd
      exact hb
    · rw [List.getElem?_set_ne hj] at hd
      exact r.low j d hd
end
def apF : D → D → Sto → Ot D
  | .loc i, d, S => match cellL S i with
    | some xs => if xs.length < sizeLine ∧ d.lowb i = true then .ok (.p .none) (S.set i (.lst (xs ++ [d]))) else .bad
    | none => .bad
  | _, _, _ => .bad
def isCell : D → Sto → Bool
  | .loc i, S => (cellL S i).isSome
  | _, _ => false
def eApp (mo m : EM) : EM := fun env S => (mo env S).bind fun d S1 => if isCell d S1 = true then (m env S1).bind fun y S2 => apF d y S2 else .bad
section
variable {X : Cx} {W : WX} {o e : Expr} {mo m : EM} {apos cpos pos : Pos}
theorem me_append (ho : PE X o (te X.K X.mg W mo)) (he : PE X e (te X.K X.mg W m)) (hbase : attributeBase o "append" X.env (eval o X.env) = eval o X.env := by rfl)
    (hfew : ((backTo cpos (starEach [e] X.env)).all (fun x => !x.1) && (backToKw cpos (keywordEach [] X.env)).all (fun x => x.1.isSome) && decide (([e] : List Expr).length + ([] : List Keyword).length + (if ([] : List Keyword).isEmpty then 0 else 1) < 30)) = true := by rfl)
    (hline : (apos.endLine == cpos.line) = true := by rfl) (hs : starEach [e] X.env = (false, eval e X.env) :: starEach [] X.env := by rfl) (hplain : (backTo cpos (starEach [] X.env)).any (·.1) = false := by rfl) :
    PE X (.Call (.Attribute o "append" apos) [e] [] cpos) (te X.K X.mg W (eApp mo m)) := by
  refine (pe_bm PySem.F.plainAttrs_list PySem.F.slot_list_append PySem.F.type_list_append mt_append ho (pa_cons he pa_nil hs) hbase hfew hline hs hplain).w fun σ H Q ⟨R, μ, env, S, r, h⟩ => ⟨R, μ, env, S, r, ?_⟩
  refine po_mono (po_bind r h) fun x H1 ⟨μ1, S1, d1, r1, h1⟩ => ?_
  obtain ⟨x', ws, e1, hx, _⟩ := drs_cons r1.tm
  cases e1
  by_cases hc : isCell d1 S1 = true
  · rw [if_pos hc] at h1
    cases hx with
    | p _ => cases hc
    | scr _ => cases hc
    | @loc i hi =>
      obtain ⟨xs1, hx1⟩ := Option.isSome_iff_exists.mp (show (cellL S1 i).isSome = true from hc)
      obtain ⟨ys1, g1, g2⟩ := r1.rs.cell _ _ (cellL_some hx1)
      refine ⟨.inl ⟨rfl, ys1, SqL.of g1⟩, R, μ1, env, S1, r1.drop, ?_⟩
      refine po_mono (po_bind r1 h1) fun y H2 ⟨μ2, S2, d2, r2, h2⟩ => ?_
      obtain ⟨y', ws2, e2, hy, t2⟩ := drs_cons r2.tm
      cases e2
      obtain ⟨x2, ws3, e3, hx2, _⟩ := drs_cons t2
      cases e3
      obtain ⟨e4, hi2⟩ := dr_loc hx2
      unfold apF at h2
      dsimp only at h2
      cases hx3 : cellL S2 i with
      | none => rw [hx3] at h2; exact h2.elim
      | some xs2 =>
        rw [hx3] at h2
        obtain ⟨ys2, f1, f2⟩ := r2.rs.cell _ _ (cellL_some hx3)
        by_cases hz : xs2.length < sizeLine ∧ d2.lowb i = true
        · dsimp only at h2
          rw [if_pos hz] at h2
          refine ⟨_, ys2, y, e4, rfl, f1, by rw [f2.len]; exact hz.1, ?_⟩
          have sp : Sp1 μ2 S2.length H2 μ2 S2.length (upd H2 (μ2 i) (.lst (ys2 ++ [y]))) := le_cell hi2 (fun ob u q => by rw [f1] at q; cases q) (fun u q => by rw [f1] at q; cases q)
          have low := r2.rs.low _ _ (cellL_some hx3)
          refine h2 μ2 _ (by rw [List.length_set]; exact sp) (rs_set r2.rs (cellL_some hx3) sp ⟨_, upd_same, (f2.append (.cons hy .nil)).mono sp⟩ ?_) _ (.p .non)
          show (xs2 ++ [d2]).all (D.lowb i) = true
          rw [List.all_append]
          have l1 : xs2.all (D.lowb i) = true := low
          rw [l1]
          show (true && (d2.lowb i && true)) = true
          rw [hz.2]
          rfl
        · dsimp only at h2
          rw [if_neg hz] at h2
          exact h2.elim
  · rw [if_neg hc] at h1
    exact h1.elim
end
end Mi

/-! Mi9 -/
set_option Elab.async false
set_option linter.all false
set_option maxRecDepth 100000
set_option maxHeartbeats 1000000
set_option autoImplicit false
namespace Mi
open PySem PySem.Spec PyProof.Rows L2

section
variable {K : PySem.W.Frag} {R R' : Addr → Prop} {mg : Str → Option Value} {W : WX} {μ μ' : Nat → Addr} {H H' : Hp} {S S' : Sto} {σ : L2.St} {env : Envr} {n n' : Nat}
/-- a reserved object changes -/
theorem le_resG {p : Addr} {o o' : HO} (hr : R p) (hp : H p = some o) (nt : ∀ xs, o ≠ .tup xs) (nf : ∀ ob u, o ≠ .frz ob u) : Le H (Av R μ n) (upd H p o') (Av R μ n) := by
  refine ⟨fun a u h z => ?_, fun a h => .inl h, fun a u h => ?_, fun a ob u h => ?_⟩
  · rw [upd_ne fun e => z (.inr (by rw [e]; exact hr))]; exact h
  · rw [upd_ne fun e => by rw [e, hp] at h; cases h; exact nt _ rfl]; exact h
  · rw [upd_ne fun e => by rw [e, hp] at h; cases h; exact nf _ _ rfl]; exact h
theorem rs_resG {p : Addr} {o o' : HO} (hr : R p) (hp : H p = some o) (nt : ∀ xs, o ≠ .tup xs) (nf : ∀ ob u, o ≠ .frz ob u) (r : RS K R H μ S) : RS K R (upd H p o') μ S := by
  have no := (r.res p hr).2
  refine ⟨r.inj, fun i c h => CelR.re (le_resG hr hp nt nf) (fun _ _ => rfl) (Nat.le_refl _) (fun u hu => ?_) (r.cell i c h), r.low, fun a h => ⟨upd_there (r.res a h).1, (r.res a h).2⟩⟩
  rw [upd_ne fun e => no ⟨i, (List.getElem?_eq_some_iff.mp h).1, e.symm⟩]
  exact hu
/-- a reserved object becomes a cell -/
theorem cell_over {p : Addr} {c : Cell} {n1 : Nat} {H1 : Hp} {μ1 : Nat → Addr} (h1 : H1 p = none) (hr : ¬ R p) (s : Sp1 μ1 n1 H1 μ S.length H) (rs : RS K (more R p) H μ S) (hc : CelR K (more R p) H μ S.length p c) (hb : c.lowb S.length = true) :
    Sp1 μ1 n1 H1 (ext μ S.length p) (S ++ [c]).length H ∧ RS K R H (ext μ S.length p) (S ++ [c]) ∧ DR K R H (ext μ S.length p) (S ++ [c]).length (.ref p) (.loc S.length) := by
  have no : ¬ Own μ S.length p := (rs.res p (.inr rfl)).2
  have hl : (S ++ [c]).length = S.length + 1 := by simp
  have lt1 : ∀ j, j < S.length → ext μ S.length p j = μ j := fun j hj => ext_lt hj
  have at1 : ext μ S.length p S.length = p := ext_at
  have own1 : ∀ a, Own (ext μ S.length p) (S.length + 1) a → Own μ S.length a ∨ a = p := fun a ⟨j, hj, e⟩ => by
    by_cases hjn : j = S.length
    · exact .inr (by rw [e, hjn, at1])
    · exact .inl ⟨j, by omega, by rw [e, lt1 j (by omega)]⟩
  have l2 : Le H (Av (more R p) μ S.length) H (Av R (ext μ S.length p) (S.length + 1)) := ⟨fun _ _ q _ => q, fun a z => .inl (z.elim (fun q => (own1 a q).elim .inl fun e => .inr (.inr e)) fun q => .inr (.inl q)), fun _ _ q => q, fun _ _ _ q => q⟩
  have ne1 : ∀ j, j < S.length → μ j ≠ p := fun j hj e => no ⟨j, hj, e.symm⟩
  refine ⟨?_, ⟨fun j k hj hk e => ?_, fun j d hd => ?_, fun j d hd => ?_, fun a ha => ⟨(rs.res a (.inl ha)).1, fun z => ?_⟩⟩, ?_⟩
  · rw [hl]
    exact ⟨Nat.le_succ_of_le s.le, fun j hj => (lt1 j (Nat.lt_of_lt_of_le hj s.le)).trans (s.same j hj), ⟨s.hp.keep, fun a z => (own1 a z).elim (s.hp.own a) fun e => .inr (by rw [e]; exact h1), s.hp.tups, s.hp.frzs⟩⟩
  · rw [hl] at hj hk
    by_cases ej : j = S.length
    · by_cases ek : k = S.length
      · rw [ej, ek]
      · rw [ej, at1, lt1 k (by omega)] at e
        exact absurd e.symm (ne1 k (by omega))
    · by_cases ek : k = S.length
      · rw [ek, at1, lt1 j (by omega)] at e
        exact absurd e (ne1 j (by omega))
      · rw [lt1 j (by omega), lt1 k (by omega)] at e
        exact rs.inj j k (by omega) (by omega) e
  · rw [hl]
    by_cases hj : j < S.length
    · rw [List.getElem?_append_left hj] at hd
      rw [lt1 j hj]
      exact CelR.re l2 lt1 (Nat.le_succ _) (fun _ q => q) (rs.cell j d hd)
    · have hjl := (List.getElem?_eq_some_iff.mp hd).1
      rw [hl] at hjl
      have ej : j = S.length := by omega
      subst ej
      rw [List.getElem?_append_right (Nat.le_refl _), Nat.sub_self] at hd
      cases hd
      rw [at1]
      exact CelR.re l2 lt1 (Nat.le_succ _) (fun _ q => q) hc
  · by_cases hj : j < S.length
    · rw [List.getElem?_append_left hj] at hd
      exact rs.low j d hd
    · have hjl := (List.getElem?_eq_some_iff.mp hd).1
      rw [hl] at hjl
      have ej : j = S.length := by omega
      subst ej
      rw [List.getElem?_append_right (Nat.le_refl _), Nat.sub_self] at hd
      cases hd
      exact hb
  · rw [hl] at z
    rcases own1 a z with z | z
    · exact (rs.res a (.inl ha)).2 z
    · rw [z] at ha; exact hr ha
  · have dl : DR K R H (ext μ S.length p) (S ++ [c]).length (.ref (ext μ S.length p S.length)) (.loc S.length) := .loc (by rw [hl]; exact Nat.lt_succ_self _)
    rw [at1] at dl
    exact dl
end

/-! ### dicts with keys ints and texts -/
def keyOf : D → Option Key
  | .p (.int i) => some (.inl i)
  | .p (.str x) => some (.inr x)
  | _ => none
def keyD : Key → PyData
  | .inl i => .int i
  | .inr x => .str x
def pairsM : List (EM × EM) → Envr → Sto → Ot (List (Key × D))
  | [], _, S => .ok [] S
  | (k, v) :: r, env, S => (k env S).bind fun dk S1 => (v env S1).bind fun dv S2 => match keyOf dk with
    | none => .bad
    | some y => (pairsM r env S2).bind fun l S3 => .ok ((y, dv) :: l) S3
def mkDict (mu : Bool) (l : List (Key × D)) (S : Sto) : Ot D := if (l.map (·.1)).Nodup ∧ l.length ≤ 15 then (if mu = true then .ok (.loc S.length) (S ++ [.dk l]) else match plains (l.map (·.2)) with
  | some _ => .bad
  | none => .bad) else .bad
def eDict (mu : Bool) (ps : List (EM × EM)) : EM := fun env S => (pairsM ps env S).bind (mkDict mu)
section
variable {K : PySem.W.Frag} {R R' : Addr → Prop} {mg : Str → Option Value} {W : WX} {μ μ' : Nat → Addr} {H H' : Hp} {S S' : Sto} {σ : L2.St} {env : Envr} {n n' : Nat}
theorem keyOf_v {v : V} {d : D} {k : Key} (h : DR K R H μ n v d) (e : keyOf d = some k) : v = kV k := by
  unfold keyOf at e
  split at e
  · cases e; exact dr_int h
  · cases e; exact dr_str h
  · cases e
/-- the pairs -/
theorem tpairs_ok {te' : EM → TE} (hte : te' = te K mg W) : ∀ (ps : List (EM × EM)) (σ : L2.St) (H : Hp) (P : List (V × V) → Hp → Prop) (R : Addr → Prop) (μ : Nat → Addr) (env : Envr) (S : Sto) (vs : List V) (ds : List D), RL K R μ H S σ env vs ds →
    Pg K mg W R μ S H σ env (pairsM ps env S) (fun μ' H' S' l => ∀ (kvs : List (Key × V)), kvs.map (·.1) = l.map (·.1) → DRs K R H' μ' S'.length (kvs.map (·.2)) (l.map (·.2)) → P (kvs.map fun kv => (kV kv.1, kv.2)) H') →
    tPairs (ps.map fun q => (te' q.1, te' q.2)) σ H P := by
  subst hte
  intro ps
  induction ps with
  | nil =>
    intro σ H P R μ env S vs ds r h
    exact (pg_ok h r.rs) [] rfl .nil
  | cons q ps ih =>
    intro σ H P R μ env S vs ds r h
    refine ⟨R, μ, env, S, r.drop, ?_⟩
    refine po_mono (po_bind r h) fun x H1 ⟨μ1, S1, d1, r1, h1⟩ => ⟨R, μ1, env, S1, r1.drop, ?_⟩
    refine po_mono (po_bind r1 h1) fun y H2 ⟨μ2, S2, d2, r2, h2⟩ => ?_
    cases e : keyOf d1 with
    | none => rw [e] at h2; exact h2.elim
    | some k =>
      rw [e] at h2
      dsimp only at h2
      refine ih σ H2 _ R μ2 env S2 _ _ r2 (pg_mono (pg_bind h2) fun μ3 H3 S3 l s3 rs3 p kvs hk hd => ?_)
      obtain ⟨y', ws, e1, hy, t1⟩ := drs_cons (r2.mono s3 rs3).tm
      cases e1
      obtain ⟨x', ws', e2, hx, t2⟩ := drs_cons t1
      cases e2
      have := (pg_ok p rs3) ((k, y) :: kvs) (by rw [List.map_cons, List.map_cons, hk]) (by rw [List.map_cons, List.map_cons]; exact .cons hy hd)
      rw [keyOf_v hx e]
      exact this
theorem putK_new {kvs : List (Key × V)} {k : Key} {v : V} (h : k ∉ kvs.map (·.1)) : putK kvs k v = kvs ++ [(k, v)] := by
  unfold putK
  rw [if_neg]
  intro z
  obtain ⟨q, hq, e⟩ := List.any_eq_true.mp z
  exact h (List.mem_map.mpr ⟨q, hq, of_decide_eq_true e⟩)
theorem merge_nodup : ∀ (more acc : List (Key × V)), ((acc ++ more).map (·.1)).Nodup → mergeK acc more = acc ++ more
  | [], acc, _ => by unfold mergeK; rw [List.append_nil]; rfl
  | q :: more, acc, h => by
    have hq : q.1 ∉ acc.map (·.1) := by
      rw [List.map_append, List.map_cons] at h
      intro z
      exact (List.nodup_append.mp h).2.2 q.1 z q.1 List.mem_cons_self rfl
    show mergeK (putK acc q.1 q.2) more = _
    rw [putK_new hq, merge_nodup more (acc ++ [(q.1, q.2)]) (by rw [List.append_assoc]; exact h), List.append_assoc]
    rfl
end
section
variable {X : Cx} {W : WX} {pos : Pos} {keys : List (Option Expr)} {values : List Expr} {ps : List (EM × EM)} {mu : Bool}
theorem mp_nil : PPs X pos [] [] (([] : List (EM × EM)).map fun q => (te X.K X.mg W q.1, te X.K X.mg W q.2)) := pps_nil
theorem mp_cons {k v : Expr} {ks : List (Option Expr)} {vs : List Expr} {mk mv : EM} (hk : PE X k (te X.K X.mg W mk)) (hv : PE X v (te X.K X.mg W mv)) (hr : PPs X pos ks vs (ps.map fun q => (te X.K X.mg W q.1, te X.K X.mg W q.2))) :
    PPs X pos (some k :: ks) (v :: vs) (((mk, mv) :: ps).map fun q => (te X.K X.mg W q.1, te X.K X.mg W q.2)) := pps_cons hk hv hr
theorem me_dict (h : PPs X pos keys values (ps.map fun q => (te X.K X.mg W q.1, te X.K X.mg W q.2))) (hall : keys.all (·.isSome) = true := by rfl) (hl : keys.length = values.length := by rfl) (h0 : keys ≠ [] := by exact fun z => nomatch z) (h15 : keys.length ≤ 15 := by decide) :
    PE X (.Dict keys values pos) (te X.K X.mg W (eDict mu ps)) := by
  refine (pe_disp h hall hl h0 h15).w fun σ H Q ⟨R, μ, env, S, r, h⟩ => ?_
  intro p hp
  have nR : ¬ R p := fun z => (r.rs.res p z).1 hp
  have r1 : RL X.K (more R p) μ (upd H p (.dK [])) S σ env [] [] := ⟨rs_more hp r.rs, r.en.re (le_more hp) (fun _ _ => rfl) (Nat.le_refl _), .nil⟩
  have q := pg_bind h
  have hnot : ∀ (o : Ot (List (Key × D))) , o = pairsM ps env S → tPairs (ps.map fun q => (te X.K X.mg W q.1, te X.K X.mg W q.2)) σ (upd H p (.dK [])) fun ps' H2 => H2 p = some (.dK []) ∧ ∃ kvs : List (Key × V), ps' = kvs.map (fun kv => (kV kv.1, kv.2)) ∧ kvs.length ≤ 15 ∧ Q (.ref p) (upd H2 p (.dK (mergeK [] kvs))) := by
    intro o ho
    refine tpairs_ok rfl ps σ _ _ (more R p) μ env S [] [] r1 ?_
    rw [← ho] at q ⊢
    cases o with
    | bad => exact q
    | err e S1 =>
      intro μ' H' cls dd s1 rl er
      have s0 : Sp1 μ S.length H μ' S1.length H' := (sp_new (n := S.length) hp).trans s1
      refine q μ' H' cls dd s0 ⟨rs_less rl.rs, rl.en.re le_less (fun _ _ => rfl) (Nat.le_refl _), .nil⟩ ?_
      obtain ⟨e1, d, fs, e2, e3, e4, e5⟩ := er
      exact ⟨e1, d, fs, e2, e3, e4, e5.mono le_less⟩
    | ok l S1 =>
      intro μ' H' s1 rs1 kvs hk hd
      have s0 : Sp1 μ S.length H μ' S1.length H' := (sp_new (n := S.length) hp).trans s1
      have hp1 : H' p = some (.dK []) := s1.hp.keep p _ upd_same (r1.rs.res p (.inr rfl)).2
      have q1 : Po X.K X.mg W R μ S H σ env (mkDict mu l S1) Q := by
        have h' : Po X.K X.mg W R μ S H σ env ((pairsM ps env S).bind (mkDict mu)) Q := h
        rw [← ho] at h'
        exact h'
      have hlen : kvs.length = l.length := by
        have := congrArg List.length hk
        rw [List.length_map, List.length_map] at this
        exact this
      unfold mkDict at q1
      by_cases hz : (l.map (·.1)).Nodup ∧ l.length ≤ 15
      · rw [if_pos hz] at q1
        refine ⟨hp1, kvs, rfl, by omega, ?_⟩
        have em : mergeK [] kvs = kvs := merge_nodup kvs [] (by rw [List.nil_append, hk]; exact hz.1)
        rw [em]
        have l6 : Le H' (Av (more R p) μ' S1.length) (upd H' p (.dK kvs)) (Av (more R p) μ' S1.length) := le_resG (.inr rfl) hp1 (fun _ z => nomatch z) (fun _ _ z => nomatch z)
        have rs6 : RS X.K (more R p) (upd H' p (.dK kvs)) μ' S1 := rs_resG (.inr rfl) hp1 (fun _ z => nomatch z) (fun _ _ z => nomatch z) rs1
        have s6 : Sp1 μ S.length H μ' S1.length (upd H' p (.dK kvs)) := sp_res hp s0
        have d6 := DRs.re l6 (fun _ _ => rfl) (Nat.le_refl _) hd
        cases mu with
        | true =>
          rw [if_pos rfl] at q1
          obtain ⟨g1, g2, g3⟩ := cell_over (c := .dk l) hp nR s6 rs6 ⟨kvs, upd_same, hk, d6⟩ hd.lowb
          exact q1 _ _ g1 g2 _ g3
        | false =>
          rw [if_neg Bool.false_ne_true] at q1
          cases e : plains (l.map (·.2)) with
          | none => rw [e] at q1; exact q1.elim
          | some ds =>
            rw [e] at q1
            exact q1.elim
      · rw [if_neg hz] at q1
        exact q1.elim
  exact hnot _ rfl
end
/-- d[k] of a cell -/
def dval {κ : Type} [DecidableEq κ] (kds : List (κ × D)) (k : κ) : Option D := (kds.find? fun q => decide (q.1 = k)).map (·.2)
def dput {κ : Type} [DecidableEq κ] (kds : List (κ × D)) (k : κ) (d : D) : List (κ × D) :=
  if (kds.any fun q => decide (q.1 = k)) = true then kds.map (fun q => if q.1 = k then (q.1, d) else q) else kds ++ [(k, d)]
end Mi

/-! Mi10 -/
set_option Elab.async false
set_option linter.all false
set_option maxRecDepth 100000
set_option maxHeartbeats 1000000
set_option autoImplicit false
namespace Mi
open PySem PySem.Spec PyProof.Rows L2

def cellK (S : Sto) (i : Nat) : Option (List (Key × D)) := match S[i]? with
  | some (.dk xs) => some xs
  | _ => none
theorem cellK_some {S : Sto} {i : Nat} {xs : List (Key × D)} (h : cellK S i = some xs) : S[i]? = some (.dk xs) := by
  unfold cellK at h
  split at h
  · rename_i e
    cases h
    exact e
  · cases h
section
variable {K : PySem.W.Frag} {R R' : Addr → Prop} {mg : Str → Option Value} {W : WX} {μ μ' : Nat → Addr} {H H' : Hp} {S S' : Sto} {σ : L2.St} {env : Envr} {n n' : Nat} {κ : Type} [DecidableEq κ]
theorem dkv_cons {p : κ × V} {kvs : List (κ × V)} {q : κ × D} {kds : List (κ × D)} (h : DKv K R H μ n (p :: kvs) (q :: kds)) : p.1 = q.1 ∧ DR K R H μ n p.2 q.2 ∧ DKv K R H μ n kvs kds := by
  obtain ⟨h1, h2⟩ := h
  rw [List.map_cons, List.map_cons] at h1 h2
  obtain ⟨e1, e2⟩ := List.cons.inj h1
  cases h2 with
  | cons a b => exact ⟨e1, a, e2, b⟩
theorem dval_ok : ∀ {kvs : List (κ × V)} {kds : List (κ × D)} {k : κ} {d : D}, DKv K R H μ n kvs kds → dval kds k = some d → ∃ v, valV kvs k = some v ∧ DR K R H μ n v d
  | [], [], _, _, _, e => by cases e
  | [], _ :: _, _, _, h, _ => by cases h.2
  | _ :: _, [], _, _, h, _ => by cases h.2
  | p :: kvs, q :: kds, k, d, h, e => by
    obtain ⟨h1, h2, h3⟩ := dkv_cons h
    by_cases hk : q.1 = k
    · have e' : dval (q :: kds) k = some q.2 := by simp [dval, List.find?_cons, hk]
      rw [e'] at e
      cases e
      exact ⟨p.2, valV_pos (h1.trans hk), h2⟩
    · have e' : dval (q :: kds) k = dval kds k := by simp [dval, List.find?_cons, hk]
      rw [e'] at e
      obtain ⟨v, g1, g2⟩ := dval_ok h3 e
      exact ⟨v, by rw [valV_neg (fun z => hk (h1.symm.trans z))]; exact g1, g2⟩
theorem dval_none : ∀ {kvs : List (κ × V)} {kds : List (κ × D)} {k : κ}, DKv K R H μ n kvs kds → dval kds k = none → valV kvs k = none
  | [], [], _, _, _ => rfl
  | [], _ :: _, _, h, _ => by cases h.2
  | _ :: _, [], _, h, _ => by cases h.2
  | p :: kvs, q :: kds, k, h, e => by
    obtain ⟨h1, h2, h3⟩ := dkv_cons h
    by_cases hk : q.1 = k
    · have e' : dval (q :: kds) k = some q.2 := by simp [dval, List.find?_cons, hk]
      rw [e'] at e
      cases e
    · have e' : dval (q :: kds) k = dval kds k := by simp [dval, List.find?_cons, hk]
      rw [e'] at e
      rw [valV_neg (fun z => hk (h1.symm.trans z))]
      exact dval_none h3 e
theorem dkv_any {k : κ} : ∀ {kvs : List (κ × V)} {kds : List (κ × D)}, kvs.map (·.1) = kds.map (·.1) → (kvs.any fun q => decide (q.1 = k)) = (kds.any fun q => decide (q.1 = k))
  | [], [], _ => rfl
  | [], _ :: _, h => by cases h
  | _ :: _, [], h => by cases h
  | p :: kvs, q :: kds, h => by
    rw [List.map_cons, List.map_cons] at h
    obtain ⟨e1, e2⟩ := List.cons.inj h
    rw [List.any_cons, List.any_cons, e1, dkv_any e2]
theorem dkv_map {k : κ} {v : V} {d : D} (hd : DR K R H μ n v d) : ∀ {kvs : List (κ × V)} {kds : List (κ × D)}, DKv K R H μ n kvs kds →
    DKv K R H μ n (kvs.map fun kv => if kv.1 = k then (kv.1, v) else kv) (kds.map fun q => if q.1 = k then (q.1, d) else q)
  | [], [], _ => ⟨rfl, .nil⟩
  | [], _ :: _, h => by cases h.2
  | _ :: _, [], h => by cases h.2
  | p :: kvs, q :: kds, h => by
    obtain ⟨h1, h2, h3⟩ := dkv_cons h
    obtain ⟨g1, g2⟩ := dkv_map (k := k) hd h3
    rw [List.map_cons, List.map_cons]
    by_cases e : p.1 = k
    · rw [if_pos e, if_pos (h1.symm.trans e)]
      exact ⟨by rw [List.map_cons, List.map_cons, g1, h1], by rw [List.map_cons, List.map_cons]; exact .cons hd g2⟩
    · rw [if_neg e, if_neg (fun z => e (h1.trans z))]
      exact ⟨by rw [List.map_cons, List.map_cons, g1, h1], by rw [List.map_cons, List.map_cons]; exact .cons h2 g2⟩
theorem dput_ok {kvs : List (κ × V)} {kds : List (κ × D)} {k : κ} {v : V} {d : D} (h : DKv K R H μ n kvs kds) (hd : DR K R H μ n v d) : DKv K R H μ n (putK kvs k v) (dput kds k d) := by
  unfold putK dput
  rw [dkv_any (k := k) h.1]
  by_cases c : (kds.any fun q => decide (q.1 = k)) = true
  · rw [if_pos c, if_pos c]
    exact dkv_map hd h
  · rw [if_neg c, if_neg c]
    exact ⟨by rw [List.map_append, List.map_append, h.1]; rfl, by rw [List.map_append, List.map_append]; exact h.2.append (.cons hd .nil)⟩
theorem dput_lowb {kds : List (κ × D)} {k : κ} {d : D} {i : Nat} (h : (kds.map (·.2)).all (D.lowb i) = true) (hd : d.lowb i = true) : ((dput kds k d).map (·.2)).all (D.lowb i) = true := by
  refine List.all_eq_true.mpr fun x hx => ?_
  have h' := List.all_eq_true.mp h
  unfold dput at hx
  split at hx
  · rw [List.map_map] at hx
    obtain ⟨q, hq, e⟩ := List.mem_map.mp hx
    dsimp only [Function.comp] at e
    by_cases c : q.1 = k
    · rw [if_pos c] at e
      rw [← e]
      exact hd
    · rw [if_neg c] at e
      rw [← e]
      exact h' _ (List.mem_map.mpr ⟨q, hq, rfl⟩)
  · rw [List.map_append] at hx
    rcases List.mem_append.mp hx with z | z
    · exact h' _ z
    · have : x = d := by simpa using z
      rw [this]
      exact hd
end
/-- d[k] -/
def dgD : D → D → Sto → Ot D
  | .loc i, y, S => match cellK S i, keyOf y with
    | some kds, some k => match dval kds k with
      | some d => .ok d S
      | none => .bad
    | _, _ => .bad
  | _, _, _ => .bad
/-- k in d -/
def dinD (neg : Bool) : D → D → Sto → Ot D
  | y, .loc i, S => match cellK S i, keyOf y with
    | some kds, some k => .ok (.p (.bool (if neg = true then !(dval kds k).isSome else (dval kds k).isSome))) S
    | _, _ => .bad
  | _, _, _ => .bad
/-- d[k] = v -/
def dpD : D → D → D → Sto → Option Sto
  | .loc i, y, v, S => match cellK S i, keyOf y with
    | some kds, some k => if kds.length < sizeLine ∧ v.lowb i = true then some (S.set i (.dk (dput kds k v))) else none
    | _, _ => none
  | _, _, _, _ => none
def sDput (mo mk mv : EM) : SM := fun env S => (mv env S).then env fun v S1 => (mo env S1).then env fun o S2 => (mk env S2).then env fun y S3 => match dpD o y v S3 with
  | some S4 => .nx env S4
  | none => .bad
section
variable {X : Cx} {W : WX} {o i value : Expr} {mo mk mv : EM} {pos pos' : Pos} {k : Nat}
theorem me_dget (hr : Room k X.A) (ho : PE X o (te X.K X.mg W mo)) (hi : PE X i (te X.K X.mg W mk)) (hs : NoSl i := by intro _ _; rfl) : PE X (.Subscript o i pos) (te X.K X.mg W (eOp dgD mo mk)) := by
  refine (pe_dget (hu_of hr) ho hi hs).w fun σ H Q ⟨R, μ, env, S, r, h⟩ => ⟨R, μ, env, S, r, ?_⟩
  refine po_mono (po_bind r h) fun x H1 ⟨μ1, S1, d1, r1, h1⟩ => ⟨R, μ1, env, S1, r1.drop, ?_⟩
  refine po_mono (po_bind r1 h1) fun y H2 ⟨μ2, S2, d2, r2, h2⟩ => ?_
  obtain ⟨y', ws, e1, hy, t1⟩ := drs_cons r2.tm
  cases e1
  obtain ⟨x', ws', e2, hx, _⟩ := drs_cons t1
  cases e2
  unfold dgD at h2
  split at h2
  · rename_i j y2 S3
    obtain ⟨rfl, hj⟩ := dr_loc hx
    split at h2
    · rename_i kds kk e3 e4
      split at h2
      · rename_i d e5
        obtain ⟨kvs, g1, g2⟩ := r2.rs.cell _ _ (cellK_some e3)
        obtain ⟨v, f1, f2⟩ := dval_ok g2 e5
        refine ⟨_, v, rfl, ?_, po_ok h2 r2.rs f2⟩
        rw [keyOf_v hy e4, ← f1]
        exact DGet.k g1
      · exact h2.elim
    · exact h2.elim
  · exact h2.elim
theorem dput_run {σ : L2.St} {env : Envr} {R : Addr → Prop} {μ : Nat → Addr} {H : Hp} {S S4 : Sto} {x y v : V} {dx dy dv : D} (rs : RS X.K R H μ S) (hx : DR X.K R H μ S.length x dx) (hy : DR X.K R H μ S.length y dy) (hv : DR X.K R H μ S.length v dv) (e : dpD dx dy dv S = some S4) :
    ∃ a H4, x = .ref a ∧ DPut H a y v H4 ∧ Sp1 μ S.length H μ S4.length H4 ∧ RS X.K R H4 μ S4 := by
  cases hx with
  | p _ => cases e
  | scr _ => cases e
  | @loc j hj =>
    unfold dpD at e
    dsimp only at e
    split at e
    · rename_i kds kk e3 e4
      split at e
      · rename_i hz
        cases e
        obtain ⟨kvs, g1, g2⟩ := rs.cell _ _ (cellK_some e3)
        have hlen : kvs.length = kds.length := by
          have := congrArg List.length g2.1
          rw [List.length_map, List.length_map] at this
          exact this
        have sp : Sp1 μ S.length H μ S.length (upd H (μ j) (.dK (putK kvs kk v))) := le_cell hj (fun ob u q => by rw [g1] at q; cases q) (fun u q => by rw [g1] at q; cases q)
        refine ⟨_, _, rfl, by rw [keyOf_v hy e4]; exact DPut.k g1 (by rw [hlen]; exact hz.1), by rw [List.length_set]; exact sp, rs_set rs (cellK_some e3) sp ⟨_, upd_same, (dput_ok g2 hv).mono sp⟩ ?_⟩
        exact dput_lowb (rs.low _ _ (cellK_some e3)) hz.2
      · cases e
    · cases e
theorem ms_dput (hr : Room k X.A) (ho : PE X o (te X.K X.mg W mo)) (hi : PE X i (te X.K X.mg W mk)) (hv : PE X value (te X.K X.mg W mv)) (hs : swapsWith value (some (.Subscript o i pos')) pos.line X.env = pure false := by rfl) :
    PS X (.Assign [.Subscript o i pos'] value pos) (ts X.K X.mg W (sDput mo mk mv)) := by
  refine (ps_dput (hu_of hr) ho hi hv hs).w fun D σ H ⟨R, μ, env, S, r, h⟩ => ⟨R, μ, env, S, r, ?_⟩
  refine pg_mono (pz_then h) fun μ1 H1 S1 dv s1 rs1 q1 v drv => ⟨R, μ1, env, S1, r.mono s1 rs1, ?_⟩
  refine pg_mono (pz_then q1) fun μ2 H2 S2 dx s2 rs2 q2 x drx => ⟨R, μ2, env, S2, (r.mono s1 rs1).mono s2 rs2, ?_⟩
  refine pg_mono (pz_then q2) fun μ3 H3 S3 dy s3 rs3 q3 y dry => ?_
  cases e : dpD dx dy dv S3 with
  | none => rw [e] at q3; exact q3.elim
  | some S4 =>
    rw [e] at q3
    obtain ⟨a, H4, e1, e2, s4, rs4⟩ := dput_run (σ := σ) (env := env) rs3 (drx.mono s3) dry ((drv.mono s2).mono s3) e
    have r4 : RL X.K R μ3 H4 S4 σ env [] [] := (((r.mono s1 rs1).mono s2 rs2).mono s3 rs3).mono s4 rs4
    exact ⟨a, H4, e1, e2, q3 μ3 H4 σ s4 r4⟩
theorem mc_din (hr : Room k X.A) (hi : PE X i (te X.K X.mg W mk)) (ho : PE X o (te X.K X.mg W mo)) : PC X .In i o (te X.K X.mg W (eOp (dinD false) mk mo)) := by
  refine ⟨fun pins s σ H Q I h => (pc_din (hu_of hr) hi ho).run pins s σ H Q I ?_⟩
  obtain ⟨R, μ, env, S, r, h⟩ := h
  refine ⟨R, μ, env, S, r, ?_⟩
  refine po_mono (po_bind r h) fun y H1 ⟨μ1, S1, d1, r1, h1⟩ => ⟨R, μ1, env, S1, r1.drop, ?_⟩
  refine po_mono (po_bind r1 h1) fun x H2 ⟨μ2, S2, d2, r2, h2⟩ => ?_
  obtain ⟨x', ws, e1, hx, t1⟩ := drs_cons r2.tm
  cases e1
  obtain ⟨y', ws', e2, hy, _⟩ := drs_cons t1
  cases e2
  unfold dinD at h2
  split at h2
  · obtain ⟨rfl, hj⟩ := dr_loc hx
    split at h2
    · rename_i kds kk e3 e4
      rw [if_neg Bool.false_ne_true] at h2
      obtain ⟨kvs, g1, g2⟩ := r2.rs.cell _ _ (cellK_some e3)
      refine ⟨_, valV kvs kk, rfl, by rw [keyOf_v hy e4]; exact DGet.k g1, ?_⟩
      have ei : (valV kvs kk).isSome = (dval kds kk).isSome := by
        cases e5 : dval kds kk with
        | none => rw [dval_none g2 e5] <;> rfl
        | some d => obtain ⟨v, f1, _⟩ := dval_ok g2 e5; rw [f1] <;> rfl
      rw [ei]
      exact po_ok h2 r2.rs (.p (.bl _))
    · exact h2.elim
  · exact h2.elim
theorem mc_dnotin (hr : Room k X.A) (hi : PE X i (te X.K X.mg W mk)) (ho : PE X o (te X.K X.mg W mo)) : PC X .NotIn i o (te X.K X.mg W (eOp (dinD true) mk mo)) := by
  refine ⟨fun pins s σ H Q I h => (pc_dnotin (hu_of hr) hi ho).run pins s σ H Q I ?_⟩
  obtain ⟨R, μ, env, S, r, h⟩ := h
  refine ⟨R, μ, env, S, r, ?_⟩
  refine po_mono (po_bind r h) fun y H1 ⟨μ1, S1, d1, r1, h1⟩ => ⟨R, μ1, env, S1, r1.drop, ?_⟩
  refine po_mono (po_bind r1 h1) fun x H2 ⟨μ2, S2, d2, r2, h2⟩ => ?_
  obtain ⟨x', ws, e1, hx, t1⟩ := drs_cons r2.tm
  cases e1
  obtain ⟨y', ws', e2, hy, _⟩ := drs_cons t1
  cases e2
  unfold dinD at h2
  split at h2
  · obtain ⟨rfl, hj⟩ := dr_loc hx
    split at h2
    · rename_i kds kk e3 e4
      rw [if_pos rfl] at h2
      obtain ⟨kvs, g1, g2⟩ := r2.rs.cell _ _ (cellK_some e3)
      refine ⟨_, valV kvs kk, rfl, by rw [keyOf_v hy e4]; exact DGet.k g1, ?_⟩
      have ei : (valV kvs kk).isSome = (dval kds kk).isSome := by
        cases e5 : dval kds kk with
        | none => rw [dval_none g2 e5] <;> rfl
        | some d => obtain ⟨v, f1, _⟩ := dval_ok g2 e5; rw [f1] <;> rfl
      rw [ei]
      exact po_ok h2 r2.rs (.p (.bl _))
    · exact h2.elim
  · exact h2.elim
end
/-- d = {}: a cell -/
def eNewK : EM := fun _ S => .ok (.loc S.length) (S ++ [.dk []])
theorem new_cell {K : PySem.W.Frag} {R : Addr → Prop} {mg : Str → Option Value} {W : WX} {μ : Nat → Addr} {H : Hp} {S : Sto} {σ : L2.St} {env : Envr} {Q : VK} {p : Addr} {o : HO} {c : Cell} (rs : RS K R H μ S) (hp : H p = none)
    (hc : ∀ μ' n, Sp1 μ S.length H μ' n (upd H p o) → CelR K R (upd H p o) μ' n p c) (hb : c.lowb S.length = true) (h : Po K mg W R μ S H σ env (.ok (.loc S.length) (S ++ [c])) Q) : Q (.ref p) (upd H p o) := by
  have hl : (S ++ [c]).length = S.length + 1 := by simp
  have s2 : Sp1 μ S.length H (ext μ S.length p) (S ++ [c]).length (upd H p o) := by rw [hl]; exact sp_cell hp
  have d2 : DR K R (upd H p o) (ext μ S.length p) (S ++ [c]).length (.ref (ext μ S.length p S.length)) (.loc S.length) := .loc (by rw [hl]; exact Nat.lt_succ_self _)
  rw [ext_at] at d2
  exact h _ _ s2 (rs_cell hp rs (hc _ _ s2) hb) _ d2
theorem me_newK {X : Cx} {W : WX} {pos : Pos} : PE X (.Dict [] [] pos) (te X.K X.mg W eNewK) := pe_dnewK.w fun σ H Q ⟨R, μ, env, S, r, h⟩ p hp =>
  new_cell (c := .dk []) r.rs hp (fun μ' n _ => ⟨[], upd_same, rfl, .nil⟩) rfl h
end Mi

/-! Mi11 -/
set_option Elab.async false
set_option linter.all false
set_option maxRecDepth 100000
set_option maxHeartbeats 1000000
set_option autoImplicit false
namespace Mi
open PySem PySem.Spec PyProof.Rows L2

/-! ### isinstance of built-in types -/
inductive Ty0 where
  | non | bl | int | str | lst | tup | dct
  deriving DecidableEq
def Ty0.nm : Ty0 → String
  | .non => "NoneType" | .bl => "bool" | .int => "int" | .str => "str" | .lst => "list" | .tup => "tuple" | .dct => "dict"
def tyP : PyData → Ty0
  | .none => .non | .bool _ => .bl | .int _ => .int | .str _ => .str | .list _ => .lst | .tuple _ => .tup | .dict ((.none, _) :: _) => .tup | .dict _ => .dct
def tyC : Cell → Ty0
  | .lst _ => .lst | .dk _ => .dct | .dt _ => .dct
def tyD : D → Sto → Option Ty0
  | .p d, _ => some (tyP d)
  | .scr _, _ => some .lst
  | .loc i, S => (S[i]?).map tyC
def isiB (a b : Ty0) : Bool := decide (a = b) || (decide (a = .bl) && decide (b = .int))
theorem kit_all : ∀ a b : Ty0, b ≠ .non → L2.kitB a.nm b.nm = some (isiB a b) := by
  intro a b h
  cases b <;> first | exact absurd rfl h | (cases a <;> decide +kernel)
def isiF (b : Ty0) : D → Sto → Ot D := fun d S => match tyD d S with
  | some a => .ok (.p (.bool (isiB a b))) S
  | none => .bad
def eIsi (b : Ty0) (m : EM) : EM := fun env S => (m env S).bind (isiF b)
section
variable {X : Cx} {W : WX} {e : Expr} {m : EM} {p p2 pos : Pos}
theorem tyx_of {K : PySem.W.Frag} {R : Addr → Prop} {H : Hp} {μ : Nat → Addr} {S : Sto} {v : V} {d : D} {a : Ty0} (rs : RS K R H μ S) (h : DR K R H μ S.length v d) (e : tyD d S = some a) : TyX K H v (.type a.nm) := by
  cases h with
  | p h =>
    cases e
    cases h with
    | non => exact .base .non
    | bl b => exact .base (.bl b)
    | int i => exact .base (.int i)
    | str x => exact .base (.str x)
    | lst h1 _ _ => exact .base (.lst h1)
    | wk h1 _ _ => exact .base (.tup h1)
    | dk0 h1 _ => exact .base (.dK h1)
    | dk1 h1 _ _ => exact .base (.dK h1)
    | tup h1 _ =>
      obtain ⟨o, h1, _⟩ := h1
      exact .fTuple h1
  | scr h =>
    cases e
    rcases h with ⟨o, h⟩ | ⟨o, its, n, h1, h2, _⟩
    · exact .base (.frz h)
    · exact .kList h1 h2
  | @loc i h =>
    have e0 : S[i]? = some S[i] := by simp [h]
    have e' : (S[i]?).map tyC = some a := e
    rw [e0] at e'
    have hc := rs.cell i _ e0
    cases e'
    cases hq : S[i] with
    | lst xs => rw [hq] at hc; obtain ⟨vs, g, _⟩ := hc; exact .base (.lst g)
    | dk xs => rw [hq] at hc; obtain ⟨vs, g, _⟩ := hc; exact .base (.dK g)
    | dt xs => rw [hq] at hc; obtain ⟨vs, g, _⟩ := hc; exact .base (.dT g)
theorem me_isi (b : Ty0) {tn : Str} (hb : b ≠ .non) (hm : X.mg "isinstance" = none) (hmT : X.mg tn = none) (hvT : bootBuiltins tn = some (.type b.nm)) (he : PE X e (te X.K X.mg W m)) (hg : Gl X "isinstance" := by rfl) (hgT : Gl X tn := by rfl) (hnT : tn ≠ "__name__" := by decide) (hdT : (tn == ("__debug__" : Str)) = false := by decide)
    (hs : starEach [e, .Name tn p2] X.env = (false, eval e X.env) :: starEach [.Name tn p2] X.env := by rfl) (hs2 : starEach [.Name tn p2] X.env = (false, eval (.Name tn p2) X.env) :: starEach [] X.env := by rfl) (hpl : (backTo pos (starEach [.Name tn p2] X.env)).any (·.1) = false := by rfl) :
    PE X (.Call (.Name "isinstance" p) [e, .Name tn p2] [] pos) (te X.K X.mg W (eIsi b m)) := by
  refine (pe_callB call_isi hg hm boot_isinstance (pa_cons he (pa_cons (pe_bltn (v := .ty b.nm) hgT hmT hvT rfl hnT hdT) pa_nil hs2) hs) (by decide) (by decide) hs hpl).w fun σ H Q ⟨R, μ, env, S, r, h⟩ => ⟨R, μ, env, S, r, ?_⟩
  refine pg_mono (pg_bind h) fun μ1 H1 S1 d s1 rs1 q v dr => ?_
  unfold isiF at q
  cases e1 : tyD d S1 with
  | none => rw [e1] at q; exact q.elim
  | some a =>
    rw [e1] at q
    exact ⟨v, .ty b.nm, _, _, isiB a b, rfl, .ty _, tyx_of rs1 dr e1, kit_ty (kit_all a b hb), po_ok q rs1 (.p (.bl _))⟩
end

/-! ### repr of plain data -/
section
variable {prog : Program} {w : World} {h₀ : Heap}
/-- no dict stands at sys.modules -/
def NoSys (h : Heap) : Prop := ∀ o, h.get? sysModules = some o → o.cls ≠ .type "dict"
mutual
theorem shows_one (ns : NoSys h₀) {v : Value} {d : PyData} {as : List Addr} : Reads h₀ v d as → d.showable = true → d.shown.length ≤ sizeLine → ∃ bs, ReadAtMost h₀ d.depth bs ∧ ReprK prog w bs h₀ d.depth v d.shown
  | .none, _, _ => ⟨[], nofun, by rw [PyData.shown]; exact .of_is ReprIs.none _ _ _⟩
  | .bool b, _, _ => ⟨[], nofun, by rw [PyData.shown]; exact .of_is (ReprIs.bool b) _ _ _⟩
  | .int i t, hs, _ => ⟨[], nofun, by rw [PyData.shown]; exact .of_is (ReprIs.int t (by simpa [PyData.showable] using hs)) _ _ _⟩
  | .str x t, _, hz => ⟨[], nofun, by
    rw [PyData.shown] at hz ⊢
    exact .of_is (ReprIs.str x t hz) _ _ _⟩
  | .list (a := a) (vs := vs) (xs := xs) h1 h2 h3 h4, hs, hz => by
    rw [PyData.shown] at hz
    rw [PyData.showable] at hs
    obtain ⟨bs, hb, hk⟩ := shows_all ns h4 hs fun t ht => Nat.le_trans (listText_mem_le ht) hz
    have r := Reads.list h1 h2 h3 h4
    have hd : PyData.depthAll xs < (PyData.list xs).depth := by rw [PyData.depth]; omega
    have na := not_mem_of_deeper r hd hb
    refine ⟨a :: bs, .cons r (Nat.le_of_lt hd) hb, ?_⟩
    rw [PyData.depth, PyData.shown]
    obtain ⟨l⟩ := vs
    cases l with
    | cons x l => exact ReprK.list h1 h2 h3 na (by simpa using hk.length_eq) fun i y e => hk.item i y (by simpa using e)
    | nil =>
      have h5 : ReadsAll h₀ [] xs _ := h4
      cases h5
      rw [PyData.shownAll, listText_nil]
      exact ReprK.listEmpty h1 h2 h3
  | .tuple (a := a) (xs := xs) h1 h2 h3 h4, hs, hz => by
    rw [PyData.shown] at hz
    rw [PyData.showable] at hs
    obtain ⟨bs, hb, hk⟩ := shows_all ns h4 hs fun t ht => Nat.le_trans (tupleText_mem_le ht) hz
    have r := Reads.tuple h1 h2 h3 h4
    have hd : PyData.depthAll xs < (PyData.tuple xs).depth := by rw [PyData.depth]; omega
    refine ⟨a :: bs, .cons r (Nat.le_of_lt hd) hb, ?_⟩
    rw [PyData.depth, PyData.shown]
    exact ReprK.tuple h1 h2 h3 (not_mem_of_deeper r hd hb) hk
  | .dict (a := a) (es := es) (kvs := kvs) h1 h2 h3 h4 h5, hs, hz => by
    rw [PyData.shown] at hz
    rw [PyData.showable] at hs
    obtain ⟨q1, q2⟩ := PyData.showableKv_split kvs hs
    obtain ⟨b1, hb1, k1⟩ := shows_all ns h4 q1 fun t ht => by
      obtain ⟨p, hp, hl⟩ := PyData.shownKv_key_le kvs t ht
      exact Nat.le_trans hl (Nat.le_trans (dictText_mem_le hp) hz)
    obtain ⟨b2, hb2, k2⟩ := shows_all ns h5 q2 fun t ht => by
      obtain ⟨p, hp, hl⟩ := PyData.shownKv_val_le kvs t ht
      exact Nat.le_trans hl (Nat.le_trans (dictText_mem_le hp) hz)
    have r := Reads.dict h1 h2 h3 h4 h5
    have hd : PyData.depthKv kvs < (PyData.dict kvs).depth := by rw [PyData.depth]; omega
    have hb : ReadAtMost h₀ (PyData.depthKv kvs) (b1 ++ b2) := (hb1.mono (PyData.depthAll_keys_le kvs)).append (hb2.mono (PyData.depthAll_vals_le kvs))
    have sys : (a == sysModules) = false := beq_eq_false_iff_ne.mpr fun e => by
      rw [e] at h1
      exact ns _ h1 h2
    refine ⟨a :: (b1 ++ b2), .cons r (Nat.le_of_lt hd) hb, ?_⟩
    rw [PyData.depth, PyData.shown, PyData.shownKv_eq]
    have kk := k1.more_le (as' := b1 ++ b2) (fun b z => List.mem_append_left _ z) (PyData.depthAll_keys_le kvs)
    have kv := k2.more_le (as' := b1 ++ b2) (fun b z => List.mem_append_right _ z) (PyData.depthAll_vals_le kvs)
    exact ReprK.dict h1 h2 h3 sys (not_mem_of_deeper r hd hb) (ReprEntriesK.of_two es.toList _ _ kk kv)
theorem shows_all (ns : NoSys h₀) {vs : List Value} {ds : List PyData} {as : List Addr} : ReadsAll h₀ vs ds as → PyData.showableAll ds = true → (∀ t ∈ PyData.shownAll ds, t.length ≤ sizeLine) →
    ∃ bs, ReadAtMost h₀ (PyData.depthAll ds) bs ∧ ReprAllK prog w bs h₀ (PyData.depthAll ds) vs (PyData.shownAll ds)
  | .nil, _, _ => ⟨[], nofun, by rw [PyData.shownAll]; exact .nil⟩
  | .cons (d := d) (ds := ds) r rs, hs, hz => by
    rw [PyData.showableAll, Bool.and_eq_true] at hs
    rw [PyData.shownAll] at hz
    obtain ⟨b1, hb1, k1⟩ := shows_one ns r hs.1 (hz _ List.mem_cons_self)
    obtain ⟨b2, hb2, k2⟩ := shows_all ns rs hs.2 fun t ht => hz t (List.mem_cons_of_mem _ ht)
    rw [PyData.depthAll, PyData.shownAll]
    refine ⟨b1 ++ b2, (hb1.mono (Nat.le_max_left _ _)).append (hb2.mono (Nat.le_max_right _ _)), ?_⟩
    exact .cons ((k1.more fun b z => List.mem_append_left _ z).level_le (Nat.le_max_left _ _)) (k2.more_le (fun b z => List.mem_append_right _ z) (Nat.le_max_right _ _))
end
end
end Mi

/-! Mi12 -/
set_option Elab.async false
set_option linter.all false
set_option maxRecDepth 100000
set_option maxHeartbeats 1000000
set_option autoImplicit false
namespace Mi
open PySem PySem.Spec PyProof.Rows L2

section
variable {prog : Program} {w : World} {h₀ : Heap} {A : Around} {E : Value → Shared → Prop} {s : Shared} {Q : Value → Shared → Prop}
/-- repr(v) at the machine's level -/
theorem run_repr (ns : NoSys h₀) {v : Value} {d : PyData} {as : List Addr} (r : Reads h₀ v d as) (hs : d.showable = true) (hz : d.shown.length ≤ sizeLine) (hg : A.guards = some []) (hu : A.units + (d.depth + 1) < cLine) (hk0 : ∀ b o, h₀.get? b = some o → s.heap.get? b = some o)
    (hQ : ∀ h' u tk, (∀ b o, s.heap.get? b = some o → h'.get? b = some o) → Q (.str d.shown u) { s with heap := h', toks := tk }) : wpAny (model prog w) A (call (.builtin "repr") [v]) Q E s := by
  have hu1 : A.in1.units + d.depth < cLine := by show A.units + 1 + d.depth < cLine; omega
  have hu0 : A.units + 1 < cLine := by omega
  cases r with
  | none =>
    rw [PyData.shown] at hQ
    exact PySem.P.repr_of_none (hQ s.heap _ _ fun _ _ e => e)
  | bool b =>
    rw [PyData.shown] at hQ
    exact PySem.P.repr_of_bool (hQ s.heap _ _ fun _ _ e => e)
  | int i t =>
    rw [PyData.shown] at hQ
    exact PySem.P.repr_of_int (by simpa [PyData.showable] using hs) (hQ s.heap _ _ fun _ _ e => e)
  | str x t =>
    rw [PyData.shown] at hQ hz
    exact PySem.P.repr_of_str (hQ s.heap _ _ fun _ _ e => e) hz
  | list h1 h2 h3 h4 =>
    rename_i a o vs n xs as₁
    rw [PyData.shown] at hQ hz
    rw [PyData.showable] at hs
    rw [PyData.depth] at hu1
    obtain ⟨bs, hb, hk⟩ := shows_all (prog := prog) (w := w) ns h4 hs fun t ht => Nat.le_trans (listText_mem_le ht) hz
    have na := not_mem_of_deeper (Reads.list h1 h2 h3 h4) (by rw [PyData.depth]; omega) hb
    refine call_repr_slot (T := "list") (by omega) ⟨_, hk0 _ _ h1, h2⟩ F.slot_list_repr.toG ?_
    obtain ⟨l⟩ := vs
    cases l with
    | nil =>
      have h5 : ReadsAll h₀ [] xs _ := h4
      cases h5
      rw [PyData.shownAll, listText_nil] at hQ
      exact call_list_repr_empty ⟨_, hk0 _ _ h1, h2⟩ (hk0 _ _ h1) h3 ⟨_, _, rfl, hQ s.heap _ _ fun _ _ e => e⟩
    | cons x l =>
      exact call_list_reprK h1 h2 h3 na (by simpa using hk.length_eq) (fun i y e => hk.item i y (by simpa using e)) hg (fun b _ => Clear.nil b) (by omega) hk0 (fun h' u tk k => ⟨_, _, rfl, hQ h' u tk k⟩) hz
  | tuple h1 h2 h3 h4 =>
    rename_i a o vs n xs
    rw [PyData.shown] at hQ hz
    rw [PyData.showable] at hs
    rw [PyData.depth] at hu1
    obtain ⟨bs, hb, hk⟩ := shows_all (prog := prog) (w := w) ns h4 hs fun t ht => Nat.le_trans (tupleText_mem_le ht) hz
    have na := not_mem_of_deeper (Reads.tuple h1 h2 h3 h4) (by rw [PyData.depth]; omega) hb
    refine call_repr_slot (T := "tuple") (by omega) ⟨_, hk0 _ _ h1, h2⟩ F.slot_tuple_repr ?_
    exact call_tuple_reprK h1 h2 h3 na hk hg (fun b _ => Clear.nil b) (by omega) hk0 (fun h' u tk k => ⟨_, _, rfl, hQ h' u tk k⟩) hz
  | dict h1 h2 h3 h4 h5 =>
    rename_i a o es n kvs as₁ bs₁
    rw [PyData.shown] at hQ hz
    rw [PyData.showable] at hs
    rw [PyData.depth] at hu1
    obtain ⟨q1, q2⟩ := PyData.showableKv_split kvs hs
    obtain ⟨b1, hb1, k1⟩ := shows_all (prog := prog) (w := w) ns h4 q1 fun t ht => by
      obtain ⟨p, hp, hl⟩ := PyData.shownKv_key_le kvs t ht
      exact Nat.le_trans hl (Nat.le_trans (dictText_mem_le hp) hz)
    obtain ⟨b2, hb2, k2⟩ := shows_all (prog := prog) (w := w) ns h5 q2 fun t ht => by
      obtain ⟨p, hp, hl⟩ := PyData.shownKv_val_le kvs t ht
      exact Nat.le_trans hl (Nat.le_trans (dictText_mem_le hp) hz)
    have hb : ReadAtMost h₀ (PyData.depthKv kvs) (b1 ++ b2) := (hb1.mono (PyData.depthAll_keys_le kvs)).append (hb2.mono (PyData.depthAll_vals_le kvs))
    have na := not_mem_of_deeper (Reads.dict h1 h2 h3 h4 h5) (by rw [PyData.depth]; omega) hb
    have sys : (a == sysModules) = false := beq_eq_false_iff_ne.mpr fun e => by
      rw [e] at h1
      exact ns _ h1 h2
    rw [PyData.shownKv_eq] at hQ hz
    refine call_repr_slot (T := "dict") (by omega) ⟨_, hk0 _ _ h1, h2⟩ F.slot_dict_repr ?_
    have kk := k1.more_le (as' := b1 ++ b2) (fun b z => List.mem_append_left _ z) (PyData.depthAll_keys_le kvs)
    have kv := k2.more_le (as' := b1 ++ b2) (fun b z => List.mem_append_right _ z) (PyData.depthAll_vals_le kvs)
    exact call_dict_reprK h1 h2 h3 sys na (ReprEntriesK.of_two es.toList _ _ kk kv) hg (fun b _ => Clear.nil b) (by omega) hk0 (fun h' u tk k => ⟨_, _, rfl, hQ h' u tk k⟩) hz
end
/-! ### plain data is read by the machine -/
/-- the heap without a dict at sys.modules -/
def noSys (h : Heap) : Heap := PySem.W.hideAll h (if (match h.get? sysModules with | some o => o.cls == .type "dict" | none => false) = true then [sysModules] else [])
theorem noSys_sub {h : Heap} : ∀ b o, (noSys h).get? b = some o → h.get? b = some o := fun b o e => PySem.W.of_hideAll _ e
theorem noSys_no {h : Heap} : NoSys (noSys h) := fun o e c => by
  have e' := noSys_sub _ _ e
  unfold noSys at e
  rw [e'] at e
  have hc : (o.cls == Value.type "dict") = true := beq_iff_eq.mpr c
  dsimp only at e
  rw [if_pos hc] at e
  have z : (PySem.W.hideAll h [sysModules]).get? sysModules = none := PySem.W.hideAll_none _ (List.mem_singleton.mpr rfl)
  rw [z] at e
  cases e
theorem noSys_get {h : Heap} {b : Addr} {o : Obj} (e : h.get? b = some o) (n : b ≠ sysModules ∨ o.cls ≠ .type "dict") : (noSys h).get? b = some o := by
  refine PySem.W.hideAll_get _ e fun hm => ?_
  by_cases q : (match h.get? sysModules with | some o => o.cls == .type "dict" | none => false) = true
  · rw [if_pos q] at hm
    have eb : b = sysModules := List.mem_singleton.mp hm
    subst eb
    rw [e] at q
    have q' : o.cls = .type "dict" := beq_iff_eq.mp q
    rcases n with n | n
    · exact n rfl
    · exact n q'
  · rw [if_neg q] at hm
    cases hm
/-- what can be shown: no pair made in passing in it -/
def isIntP : PyData → Bool
  | .int _ => true
  | _ => false
mutual
def layD : PyData → Bool
  | .list l => layDs l
  | .tuple l => layDs l
  | .dict kvs => layKv kvs
  | .none => true
  | .bool _ => true
  | .int _ => true
  | .str _ => true
def layDs : List PyData → Bool
  | [] => true
  | d :: r => layD d && layDs r
def layKv : List (PyData × PyData) → Bool
  | [] => true
  | p :: r => isIntP p.1 && layD p.2 && r.isEmpty
end
mutual
theorem layD_of : ∀ (d : PyData), d.canLay0 = true → layD d = true
  | .none, _ => rfl
  | .bool _, _ => rfl
  | .int _, _ => rfl
  | .str _, _ => rfl
  | .list l, h => by
    rw [layD]
    exact layDs_of l (by simpa [PyData.canLay0] using h)
  | .tuple l, h => by
    rw [layD]
    exact layDs_of l (by simpa [PyData.canLay0] using h)
  | .dict kvs, h => by simp [PyData.canLay0] at h
theorem layDs_of : ∀ (l : List PyData), PyData.canLayAll0 l = true → layDs l = true
  | [], _ => rfl
  | d :: r, h => by
    have h' : (d.canLay0 && PyData.canLayAll0 r) = true := by simpa [PyData.canLayAll0] using h
    obtain ⟨h1, h2⟩ := Bool.and_eq_true_iff.mp h'
    rw [layDs, layD_of d h1, layDs_of r h2]
    rfl
end
section
variable {X : Cx} {pins : List (Addr × Obj)} {σ : L2.St} {H : Hp} {s : Shared} {O : Addr → Prop}
mutual
theorem pd_reads (I : Inv X pins σ H s) : ∀ {v : V} {d : PyData} (u : Value), Pd X.K H O v d → layD d = true → RelV v u → ∃ as, Reads (noSys s.heap) u d as
  | _, _, u, .non, _, r => by cases r; exact ⟨_, .none⟩
  | _, _, u, .bl b, _, r => by cases r; exact ⟨_, .bool b⟩
  | _, _, u, .int i, _, r => by obtain ⟨t, rfl⟩ := r; exact ⟨_, .int i t⟩
  | _, _, u, .str x, _, r => by obtain ⟨t, rfl⟩ := r; exact ⟨_, .str x t⟩
  | _, _, u, .lst h1 _ h3, c, r => by
    cases r
    obtain ⟨its, rv, ⟨o, n, ho, hc, _, hd⟩, _⟩ := I.list (SqL.of h1)
    obtain ⟨as, hr⟩ := pda_reads I its h3 (by simpa [layD] using c) rv
    exact ⟨_, .list (noSys_get ho (.inr (by rw [hc]; decide))) hc hd hr⟩
  | _, _, u, .tup h1 h3, c, r => by
    cases r
    obtain ⟨its, rv, ⟨o, ho, hc, n, hd⟩, _⟩ := I.tuple h1.sqt
    obtain ⟨as, hr⟩ := pda_reads I its h3 (by simpa [layD] using c) rv
    exact ⟨_, .tuple (noSys_get ho (.inr (by rw [hc]; decide))) hc hd hr⟩
  | _, _, u, .wk _ _ _, c, _ => by simp [layD, layKv, isIntP] at c
  | _, _, u, .dk0 (a := a) h1 _, c, r => by
    cases r
    have ok : ObjOk X.prog X.w H s.heap a (.dK []) := I.hok a _ h1
    obtain ⟨_, hn, vs, kv, o, es, ep, ho, ex, hd, _, hp, _⟩ := ok
    have ev : vs = [] := by cases kv; rfl
    subst ev
    have ee : es.toList = [] := by
      cases z : es.toList with
      | nil => rfl
      | cons e l => rw [z] at hp; cases hp
    exact ⟨_, .dict (noSys_get ho (.inl (by simpa using hn))) ex.1 hd (by rw [ee]; exact .nil) (by rw [ee]; exact .nil)⟩
  | _, _, u, .dk1 (a := a) (i := i) (v := v) h1 _ p, c, r => by
    cases r
    have ok : ObjOk X.prog X.w H s.heap a (.dK [(.inl i, v)]) := I.hok a _ h1
    obtain ⟨_, hn, vs, kv, o, es, ep, ho, ex, hd, _, hp, _⟩ := ok
    obtain ⟨w', ev, rw'⟩ : ∃ w', vs = [(.inl i, w')] ∧ RelV v w' := by
      cases kv with
      | cons k1 k2 =>
        cases k2
        refine ⟨_, ?_, k1.2⟩
        rw [show (Sum.inl i : Key) = _ from k1.1]
    subst ev
    obtain ⟨as, q1⟩ := pd_reads I w' p (by simpa [layD, layKv, isIntP] using c) rw'
    cases z : es.toList with
    | nil => rw [z] at hp; cases hp
    | cons e l =>
      rw [z] at hp
      cases hp with
      | cons e1 e2 e3 =>
        cases e3
        obtain ⟨tk, ek⟩ : ∃ tk, e.key = .int i tk := by
          have e1' : keyIs (.inl i) e.key = true := e1
          rcases keyIs_shape e1' with ⟨j, t, z1, z2⟩ | ⟨x, t, z1, z2⟩
          · cases z1
            exact ⟨t, z2⟩
          · cases z1
        exact ⟨_, .dict (noSys_get ho (.inl (by simpa using hn))) ex.1 hd (by rw [z]; exact .cons (show Reads _ e.key (.int i) _ by rw [ek]; exact .int i tk) .nil) (by rw [z]; exact .cons (show Reads _ e.val _ _ by rw [e2]; exact q1) .nil)⟩
theorem pda_reads (I : Inv X pins σ H s) : ∀ {vs : List V} {ds : List PyData} (us : List Value), PdAll X.K H O vs ds → layDs ds = true → Vals vs us → ∃ as, ReadsAll (noSys s.heap) us ds as
  | _, _, us, .nil, _, r => by cases r; exact ⟨_, .nil⟩
  | _, _, us, .cons (d := d) (ds := ds) h1 h2, c, r => by
    have c' : (layD d && layDs ds) = true := by simpa [layDs] using c
    cases r with
    | cons r1 r2 =>
      obtain ⟨as, q1⟩ := pd_reads I _ h1 (Bool.and_eq_true_iff.mp c').1 r1
      obtain ⟨bs, q2⟩ := pda_reads I _ h2 (Bool.and_eq_true_iff.mp c').2 r2
      exact ⟨_, .cons q1 q2⟩
end
end
/-- the built-in -/
def repF : FM
  | [.p d], S => if d.showable = true ∧ d.shown.length ≤ sizeLine ∧ d.depth ≤ 60 ∧ layD d = true then .ok (.p (.str d.shown)) S else .bad
  | _, _ => .bad
def rRep (K : PySem.W.Frag) : List V → Hp → VK → Prop := fun xs H Q => ∃ v d O, xs = [v] ∧ Pd K H O v d ∧ d.showable = true ∧ d.shown.length ≤ sizeLine ∧ d.depth ≤ 60 ∧ layD d = true ∧ Q (.str d.shown) H
theorem call_rep {X : Cx} {k : Nat} (hg : X.A.guards = some []) (hr : Room k X.A) : CallR X (.builtin "repr") (rRep X.K) := by
  intro pins s σ H xs us Q I r h
  obtain ⟨v, d, O, rfl, hp, hs, hz, hd, hc, q⟩ := h
  obtain ⟨u, rfl, ru⟩ := vals1 r
  obtain ⟨as, rd⟩ := pd_reads I u hp hc ru
  have := hr.units
  exact run_repr noSys_no rd hs hz hg (by omega) noSys_sub fun h' u tk hk => ⟨.str d.shown, H, I.kept hk, ⟨_, rfl⟩, q⟩
theorem repF_ok {K : PySem.W.Frag} {mg : Str → Option Value} {W : WX} : OpC K mg W repF (rRep K) := by
  intro R μ H S σ env vs ds Q rs dr h
  unfold repF at h
  split at h
  · split at h
    · rename_i hz
      obtain ⟨v, ws, rfl, d1, d2⟩ := drs_cons dr
      obtain rfl := drs_nil d2
      cases d1 with
      | p d1 => exact ⟨v, _, _, rfl, d1, hz.1, hz.2.1, hz.2.2.1, hz.2.2.2, po_ok h rs (.p (.str _))⟩
    · exact h.elim
  · exact h.elim
end Mi

/-! Mi13 -/
set_option Elab.async false
set_option linter.all false
set_option maxRecDepth 100000
set_option maxHeartbeats 1000000
set_option autoImplicit false
namespace Mi
open PySem PySem.Spec PyProof.Rows L2

/-- the script at a, and nothing else is tracked -/
def HScr (a : Addr) (o : Obj) (ns : List Int) : Hp := fun b => if b = a then some (.frz o (.lst (ns.map V.int))) else none
theorem hscr_at {a : Addr} {o : Obj} {ns : List Int} : HScr a o ns a = some (.frz o (.lst (ns.map V.int))) := if_pos rfl
theorem hscr_ne {a b : Addr} {o : Obj} {ns : List Int} (h : b ≠ a) : HScr a o ns b = none := if_neg h
section
variable {P : Program} {w : World} {K : PySem.W.Frag} {mg mb : Str → Option Value} {k : Nat} {fa a : Addr} {fd : FuncData} {x : Str} {m : FM} {s₁ : Shared} {vs : List Value} {ns : List Int}
/-- from an abstract heap at the law's entry -/
theorem law_core (KX : K.In s₁.heap) (hns : s₁.heap.Ns mainGlobals mg) (hb : s₁.heap.Ns builtinsNs mb) (hbb : ∀ x : Str, x ≠ "__name__" → mb x = bootBuiltins x) (hlim : s₁.heap.NoLimit) (hg : s₁.gens = #[]) (hr : Room k callerA)
    (ha : s₁.heap.get? a = some { cls := .type "list", data := .seq vs.toArray }) (F : ∀ base : Heap, K.In base → base.Ns mainGlobals mg → FnG P w K mg base k fa fd [x] (spF K mg 1 m)) (hbind : ∀ (s : Shared) (u : Value), BindsTo s fd ⟨[u], []⟩ [(x, u)])
    (hm : ∀ ns, ns.length ≤ 63 → ∃ S, m [.scr ns] [] = .ok (.p (.bool true)) S) (hl : ns.length ≤ 63) (H : Hp) (hS : ScR K H a ns) (hok : HOk P w H s₁.heap) (hA : ∀ b u, H b = some u → b = a ∧ ∃ o, u = .frz o (.lst (ns.map V.int))) (hK : ∀ u, H a = some u → K.lookup a = none) :
    codeAny (model P w) callerA (.call (.ref fa) ⟨[.ref a], []⟩) (fun r s' => r = .ok (.ret (.bool true)) ∧ OldK s₁.heap s'.heap ∧ s'.os = s₁.os ∧ AllBare s'.gens) s₁ := by
  have free : ∀ b, b ≠ a → H b = none := fun b nb => by
    cases q : H b with
    | none => rfl
    | some u => exact absurd (hA b u q).1 nb
  have isdict : ∀ {b : Addr} {o : Obj} {es : Array DictEntry} {ep : Nat}, s₁.heap.get? b = some o → o.data = .dict es ep → H b = none := fun {b o es ep} e d => free b fun z => by
    rw [z, ha] at e
    cases e
    cases d
  have nsK : ∀ {b : Addr} {m : Str → Option Value}, s₁.heap.Ns b m → (hidT s₁.heap H).Ns b m := fun {b m} ⟨o, es, ep, e, d, r⟩ => ⟨o, es, ep, hidT_get e (isdict e d), d, r⟩
  have inK : K.In (hidT s₁.heap H) := fun b o e => hidT_get (KX b o e) (by
    cases q : H b with
    | none => rfl
    | some u =>
      have z := hA b u q
      rw [z.1] at q e
      rw [hK u q] at e
      cases e)
  have md : Mod K mg (hidT s₁.heap H) := ⟨inK, nsK hns, ⟨mb, nsK hb, hbb⟩, let ⟨mc, q1, q2⟩ := hlim; ⟨mc, nsK q1, q2⟩⟩
  have e0 : Env0 P w K mg (hidT s₁.heap H) callerA [] s₁ H :=
    ⟨rfl, md, fun b o e => of_hidT e, Nat.le_of_eq (hidT_size _ _), trivial, fun b z => absurd (show b ∈ ([] : List Addr) from z) (by simp), hok, .of_eq hg⟩
  have rs0 : RS K (fun _ => False) H (fun _ => 0) [] := ⟨fun i j hi => absurd hi (Nat.not_lt_zero _), fun i c h => (nomatch h), fun i c h => (nomatch h), fun _ z => z.elim⟩
  obtain ⟨S1, hm1⟩ := hm ns hl
  have sp : spF K mg 1 m [.ref a] H (fun v _ => v = .bl true) (fun _ _ _ => False) := by
    refine ⟨rfl, fun _ => False, fun _ => 0, [], [.scr ns], rs0, .cons (.scr hS) .nil, ?_⟩
    rw [hm1]
    exact fun μ' H' v _ _ dr => dr_bl dr
  apply codeAny_mono ((F _ inK (nsK hns)).go callerA [] s₁ H ⟨[.ref a], []⟩ [.ref a] [.ref a] _ _ rfl hr e0 (hbind s₁ (.ref a)) (.cons rfl .nil) sp)
  intro r s' h
  match r, h with
  | .error e, h => exact let ⟨_, _, _, _, _, _, _, _, _, _, _, _, z⟩ := h; z.elim
  | .ok .next, h => exact h.elim
  | .ok .brk, h => exact h.elim
  | .ok .cont, h => exact h.elim
  | .ok (.ret u), h =>
    obtain ⟨v, H', os, bare, un, hok', rel, q⟩ := h
    subst q
    cases rel
    refine ⟨rfl, OldK.of_keep fun b o e => ?_, os, bare⟩
    cases q : H b with
    | none => exact un.keep b o e q (fun z => absurd (show b ∈ ([] : List Addr) from z) (by simp)) (by simp)
    | some u =>
      obtain ⟨_, ob, rfl⟩ := hA b u q
      obtain ⟨e1, _⟩ := hok b _ q
      obtain ⟨e2, _⟩ := hok' b _ (un.frzs b ob _ q)
      rw [e] at e1
      cases e1
      exact e2
theorem law_go (KX : K.In s₁.heap) (hns : s₁.heap.Ns mainGlobals mg) (hb : s₁.heap.Ns builtinsNs mb) (hbb : ∀ x : Str, x ≠ "__name__" → mb x = bootBuiltins x) (hlim : s₁.heap.NoLimit) (hg : s₁.gens = #[]) (hr : Room k callerA)
    (ha : s₁.heap.get? a = some { cls := .type "list", data := .seq vs.toArray }) (hi : IntsAre vs ns) (F : ∀ base : Heap, K.In base → base.Ns mainGlobals mg → FnG P w K mg base k fa fd [x] (spF K mg 1 m)) (hbind : ∀ (s : Shared) (u : Value), BindsTo s fd ⟨[u], []⟩ [(x, u)])
    (hm : ∀ ns, ns.length ≤ 63 → ∃ S, m [.scr ns] [] = .ok (.p (.bool true)) S) (hl : ns.length ≤ 63) :
    codeAny (model P w) callerA (.call (.ref fa) ⟨[.ref a], []⟩) (fun r s' => r = .ok (.ret (.bool true)) ∧ OldK s₁.heap s'.heap ∧ s'.os = s₁.os ∧ AllBare s'.gens) s₁ := by
  have rv := vals_ints hi
  have lz : ns.length ≤ sizeLine := Nat.le_trans hl (by decide)
  cases hk : K.lookup a with
  | some o =>
    have e := KX a o hk
    rw [ha] at e
    cases e
    refine law_core (ns := ns) KX hns hb hbb hlim hg hr ha F hbind hm hl (fun _ => none) (.inr ⟨_, vs.toArray, _, hk, rfl, rfl, rfl, by rw [List.size_toArray, hi.length]; exact lz, by simpa using rv⟩) (fun _ _ z => nomatch z) (fun _ _ z => nomatch z) fun _ z => nomatch z
  | none =>
    refine law_core (ns := ns) KX hns hb hbb hlim hg hr ha F hbind hm hl (HScr a { cls := .type "list", data := .seq vs.toArray } ns) (.inl ⟨_, hscr_at⟩) (fun b u z => ?_) (fun b u z => ?_) fun _ _ => hk
    · by_cases e : b = a
      · subst e
        rw [hscr_at] at z
        cases z
        exact ⟨ha, by rw [List.length_map]; exact lz, vs, _, rv, ha⟩
      · rw [hscr_ne e] at z
        cases z
    · by_cases e : b = a
      · subst e
        rw [hscr_at] at z
        cases z
        exact ⟨rfl, _, rfl⟩
      · rw [hscr_ne e] at z
        cases z
end
/-- the goal that k_head leaves -/
theorem walk_mi {l : PySem.W.OpenLaw} {k : Nat} {q : Program} {loose : List Str} {XP : (Str → Option Value) → Heap → Prop} {YP : World → Heap → Prop} {d : DefRec} {K : Params → PySem.W.Frag} {x : Str} {m : FM}
    (hn : l.most = some 63) (hdf : d.params.defaults = []) (hr : Room k callerA) (hY : ∀ (w : World) (h : Heap), YP w h → (K w.params).In h)
    (F : ∀ (w : World) (mg : Str → Option Value) (fa : Addr) (h : Heap), (K w.params).In h → h.Ns mainGlobals mg → mg d.name = some (.ref fa) →
      ∃ fd : FuncData, (∀ (s : Shared) (u : Value), BindsTo s fd ⟨[u], []⟩ [(x, u)]) ∧ ∀ base : Heap, (K w.params).In base → base.Ns mainGlobals mg → FnG l.prog w (K w.params) mg base k fa fd [x] (spF (K w.params) mg 1 m))
    (hm : ∀ ns : List Int, ns.length ≤ 63 → ∃ S, m [.scr ns] [] = .ok (.p (.bool true)) S) : PySem.W.WalkO q loose XP YP l.row.toRowW d [] (fun f vs => PySem.call f vs) := by
  refine Att.attach_call hn hdf fun w s₀ s₁ mg mb fa o pm cd doc a vs ns G Y ho hd hcd hmg hobj hints hlen hg => ?_
  have KX := hY w _ Y
  obtain ⟨fd, hb, hF⟩ := F w mg fa _ KX G.T.g hmg
  exact law_go KX G.T.g G.T.b G.T.builtins G.T.nolimit hg hr hobj hints hF hb hm hlen
end Mi

/-! Mi14 -/
set_option Elab.async false
set_option linter.all false
set_option maxRecDepth 100000
set_option maxHeartbeats 1000000
set_option autoImplicit false
namespace Mi
open PySem PySem.Spec PyProof.Rows L2

/-! ### what leaves -/
theorem takes0 {X : Cx} : L2.Takes X W0 := fun _ _ ⟨_, _, _, _, _, _, _, _, _, _, _, _, _, _, _, _, w⟩ => w.elim
section
variable {P : Program} {w : World} {K : PySem.W.Frag} {mg : Str → Option Value} {base : Heap} {N : List Str} {qual : Str} {sc : Scope} {f : Addr} {cd : Value} {A : Around} {outer : List Env} {s : Shared} {H : Hp} {E : XK}
theorem takesD : L2.Takes (cxOf (L2.CX P w) P w K mg base N qual sc f cd A outer s H E) (WD E) := takes_of rfl rfl rfl rfl
theorem passesD : PassesOwn (model P w) (cxOf (L2.CX P w) P w K mg base N qual sc f cd A outer s H E).A (cxOf (L2.CX P w) P w K mg base N qual sc f cd A outer s H E).env (cxOf (L2.CX P w) P w K mg base N qual sc f cd A outer s H E).xe :=
  passes_of (X := cxOf (L2.CX P w) P w K mg base N qual sc f cd A outer s H E) rfl
end
section
variable {X : Cx} {W : WX} {st : Stmt} {a b : Expr} {m : EM} {aa : AM}
theorem mt_pc {op : CmpOp} {pos : Pos} (h : PC X op a b (te X.K X.mg W m)) (h1 : behindInMarks op b = false) : PT X (.Compare a [op] [b] pos) (tt X.K X.mg W (bOf m)) := by
  refine (pt_cmp h h1).w fun σ H Q ⟨R, μ, env, S, r, h⟩ => ⟨R, μ, env, S, r, ?_⟩
  exact po_mono (po_bind r h) fun x H1 ⟨μ1, S1, d1, r1, h1⟩ => po_bool r1 h1
/-- a statement that is never come to -/
def sBad : SM := fun _ _ => .bad
theorem ms_never : PS X st (ts X.K X.mg W sBad) := ps_never.w fun D σ H ⟨R, μ, env, S, r, h⟩ => h
/-- a, b = x, y -/
def sPar (i j : Nat) (aa : AM) : SM := fun env S => (aa env S).then env fun ds S1 => match ds with
  | [d, e] => .nx ((env.set i (some d)).set j (some e)) S1
  | _ => .bad
theorem ms_par {i j : Nat} {x y : Str} {px py pt : Pos} {kt k2 pt2} {pos : Pos} (hc : X.calm = true) (hN : X.N.Nodup) (ha : PA X [a, b] (ta X.K X.mg W aa)) (hi : X.N[i]? = some x := by rfl) (hj : X.N[j]? = some y := by rfl) (hij : i ≠ j := by decide)
    (hx : X.env.scope.names.lookup x = some .local := by rfl) (hy : X.env.scope.names.lookup y = some .local := by rfl)
    (hw : swappedStores [.Tuple [.Name x px, .Name y py] kt pt] (.Tuple [a, b] k2 pt2) X.env = pure (some [x, y]) := by rfl)
    (hs : swapsWithSole [.Tuple [.Name x px, .Name y py] kt pt] (.Tuple [a, b] k2 pt2) pos.line X.env = pure false := by rfl) :
    PS X (.Assign [.Tuple [.Name x px, .Name y py] kt pt] (.Tuple [a, b] k2 pt2) pos) (ts X.K X.mg W (sPar i j aa)) := by
  refine (ps_par hc hN hi hj hij hx hy ha hw hs).w fun D σ H ⟨R, μ, env, S, r, h⟩ => ⟨R, μ, env, S, r, ?_⟩
  refine pg_mono (pz_then h) fun μ1 H1 S1 ds s1 rs1 p vs dr => ?_
  cases dr with
  | nil => exact p.elim
  | cons q1 r1 =>
    cases r1 with
    | nil => exact p.elim
    | cons q2 r2 =>
      cases r2 with
      | cons _ _ => exact p.elim
      | nil => exact ⟨_, _, rfl, pz_nx p ⟨rs1, ((r.en.mono s1).set q1 i).set q2 j, .nil⟩⟩
end
end Mi

/-! Mi15 -/
set_option Elab.async false
set_option linter.all false
set_option maxRecDepth 100000
set_option maxHeartbeats 1000000
set_option autoImplicit false
namespace Mi
open PySem PySem.Spec PyProof.Rows L2

/-! ### a def that may be called by its name -/
def CallF (P : Program) (w : World) (K : PySem.W.Frag) (mg : Str → Option Value) (base : Heap) (k : Nat) (x : Str) (ps : List Str) (fm : FM) : Prop :=
  ∃ f fd, mg x = some (.ref f) ∧ PySem.W.keepIn K (.ref f) = true ∧ Binds K fd ps [] ∧ FnG P w K mg base k f fd ps (spF K mg ps.length fm) ∧ ∀ ds S, ds.length ≠ ps.length → fm ds S = .bad
theorem fnM_ar {b : Bool} {n all : Nat} {m : SM} (ds : List D) (S : Sto) (h : ds.length ≠ n) : fnM b n all m ds S = .bad := by
  unfold fnM arity
  exact if_neg h
section
variable {X : Cx} {k : Nat} {ps : List Str} {W : WX} {x : Str} {p pos : Pos} {e : Expr} {es : List Expr} {aa : AM} {fm : FM}
theorem me_callC (h : CallF X.prog X.w X.K X.mg X.base k x ps fm) (hgd : X.A.guards = some []) (hr : Room k X.A) (tk : L2.Takes X W)
    (ha : PA X (e :: es) (ta X.K X.mg W aa)) (hg : Gl X x := by rfl) (hdb : (x == ("__debug__" : Str)) = false := by decide) (he : starEach (e :: es) X.env = (false, eval e X.env) :: starEach es X.env := by rfl)
    (hpl : (backTo pos (starEach es X.env)).any (·.1) = false := by rfl) : PE X (.Call (.Name x p) (e :: es) [] pos) (te X.K X.mg W (eCall fm aa)) := by
  obtain ⟨f, fd, hm, hk, hb, F, hx⟩ := h
  refine (pe_callG F hgd hr hg hm hk hb tk ha hdb he hpl).w fun σ H Q ⟨R, μ, env, S, r, h⟩ => ⟨R, μ, env, S, r, ?_⟩
  refine poa_mono (poa_bind r h) fun xs H1 ⟨μ1, S1, ds, r1, dr1, h1⟩ => ?_
  by_cases hl : ds.length = ps.length
  · exact spf_po r1 dr1 (dr1.len.trans hl) h1
  · rw [hx ds S1 hl] at h1
    exact h1.elim
theorem me_callC0 (h : CallF X.prog X.w X.K X.mg X.base k x [] fm) (hgd : X.A.guards = some []) (hr : Room k X.A) (tk : L2.Takes X W)
    (hg : Gl X x := by rfl) (hdb : (x == ("__debug__" : Str)) = false := by decide) : PE X (.Call (.Name x p) [] [] pos) (te X.K X.mg W (eCall fm aNil)) := by
  obtain ⟨f, fd, hm, hk, hb, F, hx⟩ := h
  refine (pe_callG0 F hgd hr hg hm hk hb tk hdb).w fun σ H Q ⟨R, μ, env, S, r, h⟩ => ?_
  exact spf_po r .nil rfl h
end
/-! ### the built-ins by their names -/
structure Bn (mg : Str → Option Value) : Prop where
  len : mg "len" = none
  int : mg "int" = none
  max : mg "max" = none
  min : mg "min" = none
  tuple : mg "tuple" = none
  list : mg "list" = none
  repr : mg "repr" = none
  range : mg "range" = none
  isinstance : mg "isinstance" = none
  bool : mg "bool" = none
  str : mg "str" = none
  dict : mg "dict" = none
  enumerate : mg "enumerate" = none
  zip : mg "zip" = none
  sorted : mg "sorted" = none
  set : mg "set" = none
section
variable {X : Cx} {W : WX} {p pos : Pos} {e a b : Expr} {es : List Expr} {aa : AM} {k : Nat}
theorem me_len (B : Bn X.mg) (ha : PA X [e] (ta X.K X.mg W aa)) (hg : Gl X "len" := by rfl) (he : starEach [e] X.env = (false, eval e X.env) :: starEach [] X.env := by rfl) : PE X (.Call (.Name "len" p) [e] [] pos) (te X.K X.mg W (eCall lenF aa)) :=
  me_callB call_lenS lenF_ok B.len PySem.boot_len ha hg (by decide) (by decide) he rfl
theorem me_int1 (B : Bn X.mg) (ha : PA X [e] (ta X.K X.mg W aa)) (hg : Gl X "int" := by rfl) (he : starEach [e] X.env = (false, eval e X.env) :: starEach [] X.env := by rfl) : PE X (.Call (.Name "int" p) [e] [] pos) (te X.K X.mg W (eCall intF aa)) :=
  me_callTy call_int1 intF_ok B.int (by decide +kernel) ha hg (by decide) (by decide) he rfl
theorem me_tuple (B : Bn X.mg) (ha : PA X [e] (ta X.K X.mg W aa)) (hg : Gl X "tuple" := by rfl) (he : starEach [e] X.env = (false, eval e X.env) :: starEach [] X.env := by rfl) : PE X (.Call (.Name "tuple" p) [e] [] pos) (te X.K X.mg W (eCall tupF aa)) :=
  me_callTy call_tupOf tupF_ok B.tuple (by decide +kernel) ha hg (by decide) (by decide) he rfl
theorem me_list (B : Bn X.mg) (ha : PA X [e] (ta X.K X.mg W aa)) (hg : Gl X "list" := by rfl) (he : starEach [e] X.env = (false, eval e X.env) :: starEach [] X.env := by rfl) : PE X (.Call (.Name "list" p) [e] [] pos) (te X.K X.mg W (eCall lstF aa)) :=
  me_callTy call_lstOf lstF_ok B.list (by decide +kernel) ha hg (by decide) (by decide) he rfl
theorem me_max2 (B : Bn X.mg) (hc : X.calm = true) (ha : PA X [a, b] (ta X.K X.mg W aa)) (hg : Gl X "max" := by rfl) (he : starEach [a, b] X.env = (false, eval a X.env) :: starEach [b] X.env := by rfl) (hpl : (backTo pos (starEach [b] X.env)).any (·.1) = false := by rfl) :
    PE X (.Call (.Name "max" p) [a, b] [] pos) (te X.K X.mg W (eCall max2F aa)) :=
  me_callB (call_max2 hc) max2F_ok B.max (by decide +kernel) ha hg (by decide) (by decide) he hpl
theorem me_min2 (B : Bn X.mg) (hc : X.calm = true) (ha : PA X [a, b] (ta X.K X.mg W aa)) (hg : Gl X "min" := by rfl) (he : starEach [a, b] X.env = (false, eval a X.env) :: starEach [b] X.env := by rfl) (hpl : (backTo pos (starEach [b] X.env)).any (·.1) = false := by rfl) :
    PE X (.Call (.Name "min" p) [a, b] [] pos) (te X.K X.mg W (eCall min2F aa)) :=
  me_callB (call_min2 hc) min2F_ok B.min (by decide +kernel) ha hg (by decide) (by decide) he hpl
theorem me_repr (B : Bn X.mg) (hgd : X.A.guards = some []) (hr : Room k X.A) (ha : PA X [e] (ta X.K X.mg W aa)) (hg : Gl X "repr" := by rfl) (he : starEach [e] X.env = (false, eval e X.env) :: starEach [] X.env := by rfl) : PE X (.Call (.Name "repr" p) [e] [] pos) (te X.K X.mg W (eCall repF aa)) :=
  me_callB (call_rep hgd hr) repF_ok B.repr (by decide +kernel) ha hg (by decide) (by decide) he rfl
end
end Mi

/-! Mi16 -/
set_option Elab.async false
set_option linter.all false
set_option maxRecDepth 100000
set_option maxHeartbeats 1000000
set_option autoImplicit false
namespace Mi
open PySem PySem.Spec PyProof.Rows L2

/-- a def by its body, its scope written out -/
theorem fn_def2 {P : Program} {w : World} {K : PySem.W.Frag} {mg : Str → Option Value} {base : Heap} {x qual : Str} {st : Stmt} {f : Addr} {fd : FuncData} {N ps : List Str} {k n all : Nat} {b : Bool} {m : SM} {sc : Scope} (F : Fun K x qual st f fd) (hsc : defScope st = sc) (S : FnScope N ps sc) (hn : ps.length = n) (ha : N.length = all)
    (hb : ∀ (cdv : Value) (A : Around) (outer : List Env) (s : Shared) (H : Hp) (E : XK), A.guards = some [] → Room k (A.deeper (envOfC qual sc s.heap.objs.size f cdv)) →
      PSs (cxOf (L2.CX P w) P w K mg base N qual sc f cdv A outer s H E) (defBody st) (ts K mg (WD E) m)) :
    FnG P w K mg base (k + 1) f fd ps (spF K mg n (fnM b n all m)) := by
  subst hsc hn ha
  exact fn_def F S hb
/-- a comprehension's own scope, by reckoning -/
def blkB (N : List Str) (sc scope : Scope) (own : List (Str × Nat)) : Bool :=
  decide (scope.kind = .function) && scope.names.all (fun y => decide (scope.names.lookup y.1 = some y.2)) && own.all (fun p => decide (N[p.2]? = some p.1)) &&
    scope.names.all (fun y => !decide (y.2 = .free) || decide (sc.names.lookup y.1 = some .cell) || decide (sc.names.lookup y.1 = some .free)) &&
    scope.names.all (fun y => !(decide (y.2 = .local) || decide (y.2 = .cell)) || decide (y.1 ∈ own.map (·.1)) || !decide (y.1 ∈ N))
theorem blk_of {N : List Str} {sc scope : Scope} {own : List (Str × Nat)} (h : blkB N sc scope own = true) : BlkOk N sc scope own := by
  unfold blkB at h
  simp only [Bool.and_eq_true, List.all_eq_true, decide_eq_true_eq, Bool.or_eq_true, Bool.not_eq_true', decide_eq_false_iff_not] at h
  obtain ⟨⟨⟨⟨h1, h2⟩, h3⟩, h4⟩, h5⟩ := h
  refine ⟨h1, h2, h3, fun y hy e => ?_, fun y hy e => ?_⟩
  · rcases h4 y hy with (q | q) | q
    · exact absurd e q
    · exact .inl q
    · exact .inr q
  · rcases h5 y hy with (q | q) | q
    · exfalso
      rcases e with e | e <;> simp [e] at q
    · exact .inl q
    · exact .inr q
/-- a list that is gone through, of either kind -/
theorem mt_w {X : Cx} {W : WX} {e : Expr} {t : BM} (h : PW X e (tt X.K X.mg W t)) : PT X e (tt X.K X.mg W t) := h.pt
end Mi

/-! Mi17 -/
set_option Elab.async false
set_option linter.all false
set_option maxRecDepth 100000
set_option maxHeartbeats 1000000
set_option autoImplicit false
namespace Mi
open PySem PySem.Spec PyProof.Rows L2

/-! ### a < b < c -/
def eChain (f f' : D → D → Sto → Ot D) (a b c : EM) : EM := fun env S => (a env S).bind fun x S1 => (b env S1).bind fun y S2 => (f x y S2).bind fun z S3 => match z with
  | .p (.bool k) => if k = true then (c env S3).bind fun w S4 => f' y w S4 else .ok (.p (.bool false)) S3
  | _ => .bad
section
variable {X : Cx} {W : WX} {a b c : Expr} {ma mb mc : EM} {pos : Pos} {f f' : D → D → Sto → Ot D} {op op' : CmpOp} {r r' : R2}
theorem chain_core {σ : L2.St} {H : Hp} {Q : VK} (hf : Op2 X.K X.mg W f r) (hf' : Op2 X.K X.mg W f' r') (h : te X.K X.mg W (eChain f f' ma mb mc) σ H Q) : tChain r r' (te X.K X.mg W ma) (te X.K X.mg W mb) (te X.K X.mg W mc) σ H Q := by
  obtain ⟨R, μ, env, S, r0, h⟩ := h
  refine ⟨R, μ, env, S, r0, ?_⟩
  refine po_mono (po_bind r0 h) fun x H1 ⟨μ1, S1, d1, r1, h1⟩ => ⟨R, μ1, env, S1, r1.drop, ?_⟩
  refine po_mono (po_bind r1 h1) fun y H2 ⟨μ2, S2, d2, r2, h2⟩ => hf R μ2 H2 S2 σ env x y d1 d2 _ r2 ?_
  refine pg_mono (pg_bind h2) fun μ3 H3 S3 z s3 rs3 p3 v dr => ?_
  have r3 := r2.mono s3 rs3
  cases dr with
  | loc _ => exact p3.elim
  | scr _ => exact p3.elim
  | p dr =>
    cases dr with
    | non => exact p3.elim
    | int _ => exact p3.elim
    | str _ => exact p3.elim
    | lst _ _ _ => exact p3.elim
    | tup _ _ => exact p3.elim
    | wk _ _ _ => exact p3.elim
    | dk0 _ _ => exact p3.elim
    | dk1 _ _ _ => exact p3.elim
    | bl k =>
      refine ⟨k, rfl, ?_⟩
      cases k with
      | false => exact iteF (pg_ok p3 rs3 _ (.p (.bl false)))
      | true =>
        refine iteT ⟨R, μ3, env, S3, r3.drop, ?_⟩
        cases r3.tm with
        | cons t1 t2 =>
          exact po_mono (po_bind ⟨r3.rs, r3.en, .cons t1 .nil⟩ p3) fun w' H4 ⟨μ4, S4, d4, r4, h4⟩ => hf' R μ4 H4 S4 σ env y w' d2 d4 Q r4 h4
theorem me_chain (ho : OpR X (compareOp op) r) (ho' : OpR X (compareOp op') r') (hf : Op2 X.K X.mg W f r) (hf' : Op2 X.K X.mg W f' r') (ha : PE X a (te X.K X.mg W ma)) (hb : PE X b (te X.K X.mg W mb)) (hc : PE X c (te X.K X.mg W mc))
    (hm : lastMarks [op, op'] [b, c] = false := by with_unfolding_all rfl) : PE X (.Compare a [op, op'] [b, c] pos) (te X.K X.mg W (eChain f f' ma mb mc)) :=
  (pe_chain ho ho' ha hb hc hm).w fun σ H Q h => chain_core hf hf' h
theorem mt_chain (ho : OpR X (compareOp op) r) (ho' : OpR X (compareOp op') r') (hf : Op2 X.K X.mg W f r) (hf' : Op2 X.K X.mg W f' r') (ha : PE X a (te X.K X.mg W ma)) (hb : PE X b (te X.K X.mg W mb)) (hc : PE X c (te X.K X.mg W mc))
    (hm : lastMarks [op, op'] [b, c] = false := by with_unfolding_all rfl) : PT X (.Compare a [op, op'] [b, c] pos) (tt X.K X.mg W (bOf (eChain f f' ma mb mc))) := by
  refine (pt_chain ho ho' ha hb hc hm).w fun σ H Q ⟨R, μ, env, S, r, h⟩ => chain_core hf hf' ⟨R, μ, env, S, r, ?_⟩
  exact po_mono (po_bind r h) fun x H1 ⟨μ1, S1, d1, r1, h1⟩ => po_bool r1 h1
end

/-! ### max(xs) of a list or tuple of ints -/
def rMaxS (K : PySem.W.Frag) : List V → Hp → VK → Prop := fun vs H Q => ∃ (a : Addr) (n : Int) (ns : List Int), vs = [.ref a] ∧ (SqL K H a ((n :: ns).map V.int) ∨ SqT K H a ((n :: ns).map V.int)) ∧ Q (.int (ns.foldl max n)) H
theorem readsAll_ints {h : Heap} : ∀ {its : List Value} {ns : List Int}, Vals (ns.map V.int) its → ReadsAll h its (ns.map PyData.int) []
  | [], [], _ => .nil
  | _ :: _, n :: ns, .cons r t => by
    obtain ⟨tk, rfl⟩ := r
    exact .cons (as := []) (bs := []) (.int n tk) (readsAll_ints t)
theorem alike_ints (ns : List Int) : PySem.W.AlikeAll (ns.map PyData.int) := by
  refine ⟨fun x hx y hy => ?_, fun x hx => ?_⟩
  · obtain ⟨i, _, rfl⟩ := List.mem_map.mp hx
    obtain ⟨j, _, rfl⟩ := List.mem_map.mp hy
    rfl
  · obtain ⟨i, _, rfl⟩ := List.mem_map.mp hx
    exact fun z => nomatch z
theorem depth_ints : ∀ ns : List Int, PyData.depthAll (ns.map PyData.int) ≤ 1
  | [] => by decide
  | n :: ns => by
    have := depth_ints ns
    show max _ _ ≤ 1
    exact Nat.max_le.mpr ⟨by show (PyData.int n).depth ≤ 1; unfold PyData.depth; decide, this⟩
theorem call_maxS {X : Cx} {k : Nat} (hc : X.calm = true) (hr : Room k X.A) : CallR X (.builtin "max") (rMaxS X.K) := by
  intro pins s σ H vs us Q I r h
  obtain ⟨a, n, ns, rfl, hs, q⟩ := h
  rw [Vals.ref1 r]
  have hu : X.A.units + 1 + PyData.depthAll (PyData.int n :: ns.map PyData.int) < cLine := by
    have e : PyData.depthAll (PyData.int n :: ns.map PyData.int) ≤ 1 := depth_ints (n :: ns)
    have := hr.un
    omega
  have al : PySem.W.AlikeAll (PyData.int n :: ns.map PyData.int) := alike_ints (n :: ns)
  have fin : ∀ (v : Value) (h' : Heap) tk (bs : List Addr), Reads h' v (PySem.W.maxD (.int n) (ns.map PyData.int)) bs → (∀ b o, s.heap.get? b = some o → h'.get? b = some o) → EP X pins σ Q v { s with heap := h', toks := tk } := fun v h' tk bs rd hk => by
    rw [PySem.W.maxD_ints] at rd
    cases rd with
    | int i t => exact ⟨.int _, H, I.kept hk, ⟨_, rfl⟩, q⟩
  rcases hs with hs | hs
  · obtain ⟨its, rv, hl, _⟩ := I.list hs
    exact PySem.W.max_list_data (I.ok.hd hc) hl.isList (by rw [List.toList_toArray]; exact readsAll_ints (ns := n :: ns) rv) al hu fun i v h' tk bs _ rd hk => fin v h' tk bs rd hk
  · obtain ⟨its, rv, hl, _⟩ := I.tuple hs
    exact PySem.W.max_tuple_data (I.ok.hd hc) hl (by rw [List.toList_toArray]; exact readsAll_ints (ns := n :: ns) rv) al hu fun i v h' tk bs _ rd hk => fin v h' tk bs rd hk
def maxI : List Int → Option Int
  | [] => none
  | n :: ns => some (ns.foldl max n)
def maxSF : FM
  | [.p (.list l)], S => match (intsOf l).bind maxI with
    | some i => .ok (.p (.int i)) S
    | none => .bad
  | [.p (.tuple l)], S => match (intsOf l).bind maxI with
    | some i => .ok (.p (.int i)) S
    | none => .bad
  | [.loc i], S => match ((cellL S i).bind plains).bind intsOf |>.bind maxI with
    | some i => .ok (.p (.int i)) S
    | none => .bad
  | _, _ => .bad
theorem maxI_some {ns : List Int} {i : Int} (h : maxI ns = some i) : ∃ n r, ns = n :: r ∧ i = r.foldl max n := by
  cases ns with
  | nil => cases h
  | cons n r => cases h; exact ⟨n, r, rfl, rfl⟩
theorem maxSF_ok {K : PySem.W.Frag} {mg : Str → Option Value} {W : WX} : OpC K mg W maxSF (rMaxS K) := by
  intro R μ H S σ env vs ds Q rs dr h
  unfold maxSF at h
  split at h
  · obtain ⟨v, ws, rfl, d1, d2⟩ := drs_cons dr
    obtain rfl := drs_nil d2
    obtain ⟨a, xs, rfl, h1, h2, h3⟩ := dr_lst d1
    split at h
    · rename_i e
      obtain ⟨ns, e1, e2⟩ := Option.bind_eq_some_iff.mp e
      obtain ⟨n, r, rfl, rfl⟩ := maxI_some e2
      rw [intsOf_eq e1] at h3
      have := pda_ints_eq h3
      subst this
      exact ⟨a, n, r, rfl, .inl (SqL.of h1), po_ok h rs (.p (.int _))⟩
    · exact h.elim
  · obtain ⟨v, ws, rfl, d1, d2⟩ := drs_cons dr
    obtain rfl := drs_nil d2
    obtain ⟨a, xs, rfl, h1, h3⟩ := dr_tup d1
    split at h
    · rename_i e
      obtain ⟨ns, e1, e2⟩ := Option.bind_eq_some_iff.mp e
      obtain ⟨n, r, rfl, rfl⟩ := maxI_some e2
      rw [intsOf_eq e1] at h3
      have := pda_ints_eq h3
      subst this
      exact ⟨a, n, r, rfl, .inr h1, po_ok h rs (.p (.int _))⟩
    · exact h.elim
  · obtain ⟨v, ws, rfl, d1, d2⟩ := drs_cons dr
    obtain rfl := drs_nil d2
    obtain ⟨rfl, hi⟩ := dr_loc d1
    split at h
    · rename_i e
      obtain ⟨ns, e1, e2⟩ := Option.bind_eq_some_iff.mp e
      obtain ⟨l, e3, e4⟩ := Option.bind_eq_some_iff.mp e1
      obtain ⟨xs, e5, e6⟩ := Option.bind_eq_some_iff.mp e3
      obtain ⟨n, r, rfl, rfl⟩ := maxI_some e2
      obtain ⟨ys, g1, g2⟩ := rs.cell _ _ (cellL_some e5)
      have g3 := plains_pd g2 e6
      rw [intsOf_eq e4] at g3
      have := pda_ints_eq g3
      subst this
      exact ⟨_, n, r, rfl, .inl (SqL.of g1), po_ok h rs (.p (.int _))⟩
    · exact h.elim
  · exact h.elim
theorem me_maxS {X : Cx} {W : WX} {p pos : Pos} {e : Expr} {aa : AM} {k : Nat} (B : Bn X.mg) (hc : X.calm = true) (hr : Room k X.A) (ha : PA X [e] (ta X.K X.mg W aa)) (hg : Gl X "max" := by rfl) (he : starEach [e] X.env = (false, eval e X.env) :: starEach [] X.env := by rfl) :
    PE X (.Call (.Name "max" p) [e] [] pos) (te X.K X.mg W (eCall maxSF aa)) :=
  me_callB (call_maxS hc hr) maxSF_ok B.max (by decide +kernel) ha hg (by decide) (by decide) he rfl
end Mi

/-! Mi18 -/
set_option Elab.async false
set_option linter.all false
set_option maxRecDepth 100000
set_option maxHeartbeats 1000000
set_option autoImplicit false
namespace Mi
open PySem PySem.Spec PyProof.Rows L2

/-! ### enumerate over a tuple: the library's walk of any iterator, as a Turn -/
/-- the tuple at a, numbered: at each turn a new pair -/
def JeT (K : PySem.W.Frag) (a : Addr) : It where
  go i H := ∃ ws y, SqT K H a ws ∧ ws[i]? = some y
  yld i H v H' := ∃ T y, v = .ref T ∧ H T = none ∧ H' = upd H T (.tup [.int (i : Nat), y]) ∧ ∀ ws, SqT K H a ws → ws[i]? = some y
  stop i H := ∃ ws : List V, SqT K H a ws ∧ ws.length = i
theorem other_cls {h : Heap} {a b : Addr} {o1 o2 : Obj} {m n : String} (e1 : h.get? a = some o1) (e2 : h.get? b = some o2) (c1 : o1.cls = .type m) (c2 : o2.cls = .type n) (ne : m ≠ n) : a ≠ b := fun q => by
  rw [q, e2] at e1
  cases e1
  exact ne (Value.type.inj (c1.symm.trans c2))
theorem turn_enumT {P : Program} {w : World} {K : PySem.W.Frag} {elts : List Expr} {kk : Nat} {tpos : Pos} (a e it : Addr) :
    Turn P w K (.Tuple elts kk tpos) (JeT K a) [e, it] e (fun i h => (∃ old, IsEnum h e it (0 + (i : Int)) old) ∧ h.IsTupleIter it a i) where
  mem := List.mem_cons_self ..
  obj := fun i h st b hb => by
    rcases st with ⟨⟨old, q1⟩, o2, q2, q3, q4⟩
    simp only [List.mem_cons, List.not_mem_nil, or_false] at hb
    rcases hb with rfl | rfl
    · exact ⟨_, q1, fun _ z => nomatch z⟩
    · exact ⟨o2, q2, fun v z => nomatch (q4.symm.trans z)⟩
  keep := fun i h h' st k => ⟨st.1.imp fun old q => k e (by simp) _ q, st.2.at fun o q => k it (by simp) o q⟩
  item := by
    rintro X rfl rfl rfl hc i pins s σ H E I hf ⟨⟨old, q1⟩, q2⟩ ⟨ws, y, hw, hy⟩
    obtain ⟨its, rv, tp, _⟩ := I.tuple hw
    obtain ⟨u, hu, ru⟩ := rv.get hy
    have n1 : a ≠ e := by obtain ⟨o, z1, z2, _⟩ := id tp; exact other_cls z1 q1 z2 rfl (by decide)
    have n2 : a ≠ it := by obtain ⟨o, z1, z2, _⟩ := id tp; obtain ⟨o', y1, y2, _⟩ := id q2; exact other_cls z1 y1 z2 y2 (by decide)
    have n3 : e ≠ it := by obtain ⟨o', y1, y2, _⟩ := id q2; exact other_cls q1 y1 rfl y2 (by decide)
    have lt : i < its.toArray.size := by simpa using (List.getElem?_eq_some_iff.mp hu).1
    have WT := WalksT.enumFrom (w := X.w) 0 (Draws.tuple (prog := X.prog) (w := X.w) (A := X.A.in1) (I.ok.hd hc) it a n2 its.toArray) e n3 (by simp [n3, Ne.symm n1]) (by simp)
    refine WT.item i s _ E lt ⟨⟨old, q1⟩, q2, tp⟩ fun T vals h1 tk ⟨t, x, hx, ev⟩ hnew hT hM hk => ⟨_, rfl, WT.go _ _ _ i T _ _ E hM fun h2 hst hk2 => ?_⟩
    have ex : x = u := by
      rw [show its.toArray[i]? = some u by simpa using hu] at hx
      exact (Option.some.inj hx).symm
    subst ex ev
    have hT2 : h2.IsTuple T #[.int (0 + (i : Int)) t, x] := hT.at fun o q => hk2 T o (WT.apart _ _ _ hM) q
    have e0 : (0 : Int) + (i : Int) = (i : Int) := Int.zero_add _
    rw [e0] at hT2
    have I2 : Inv X pins σ (upd H T (.tup [.int (i : Nat), y])) { s with heap := h2, toks := tk } :=
      I.turnedNew (ch := [e, it]) (fun b o hb q => hk2 b o hb (hk b o hb q)) hf hnew ⟨show 2 ≤ sizeLine by decide, _, .cons ⟨_, rfl⟩ (.cons ru .nil), hT2⟩
    refine ⟨.ref T, _, I2, rfl, ⟨T, y, rfl, I.hok.fresh hnew, rfl, fun zs hz => by rw [I.tuple_inj hz hw]; exact hy⟩, ⟨hst.1, hst.2.1⟩, fun b hb => ?_⟩
    have bl : b < s.heap.objs.size := by
      simp only [List.mem_cons, List.not_mem_nil, or_false] at hb
      rcases hb with rfl | rfl
      · exact Heap.lt_size q1
      · obtain ⟨o', y1, _⟩ := q2; exact Heap.lt_size y1
    rw [upd_ne (Nat.ne_of_lt (Nat.lt_of_lt_of_le bl hnew))]
    exact (hf b hb).1
  done := by
    rintro X rfl rfl rfl hc i pins s σ H E I hf ⟨⟨old, q1⟩, q2⟩ ⟨ws, hw, hl⟩
    obtain ⟨its, rv, tp, _⟩ := I.tuple hw
    have n1 : a ≠ e := by obtain ⟨o, z1, z2, _⟩ := id tp; exact other_cls z1 q1 z2 rfl (by decide)
    have n2 : a ≠ it := by obtain ⟨o, z1, z2, _⟩ := id tp; obtain ⟨o', y1, y2, _⟩ := id q2; exact other_cls z1 y1 z2 y2 (by decide)
    have n3 : e ≠ it := by obtain ⟨o', y1, y2, _⟩ := id q2; exact other_cls q1 y1 rfl y2 (by decide)
    have sz : i = its.toArray.size := by simp [← hl, rv.length]
    subst sz
    obtain ⟨f0, f1, f2, f3, f4, f5⟩ := hf it (by simp)
    refine wpAny_pyNext_enum_endD (Draws.tuple (A := X.A.in1) (I.ok.hd hc) it a n2 its.toArray) q1 ⟨q2, tp⟩ fun h' eb => ⟨rfl, ?_⟩
    exact I.turned (t' := s.toks) eb f0 f1 f3 f4 f5
  self := fun A i s Q E st h => let ⟨⟨_, q⟩, _⟩ := st; wpAny_pyIter_enum q h

/-- enumerate's making, of anything that can be gone through -/
theorem enum1_makes {v : Value} {o : Obj} {H : Heap → Prop} (B : Begins v o H) :
    Meets (Builtin.«enumerate.__new__» ⟨[.type "enumerate", v], []⟩) (fun _ R s => H s.heap ∧ R (.ok (.ret (.ref (s.heap.push o).objs.size)))
      { s with heap := (s.heap.push o).push { cls := .type "enumerate", data := .fields #[.none, .bool false, .ref s.heap.objs.size, rawInt 0, .none, .none] } }) :=
  .of_wp fun prog w A R s z => by
    obtain ⟨hp, g, d, tk, os⟩ := s
    obtain ⟨z1, z2⟩ := z
    have sb := sub_enumerate
    have go : ∀ {A' : Around} {E' Q' : Value → Shared → Prop}, Q' (.ref hp.objs.size) ⟨hp.push o, g, d, tk, os⟩ → wpAny (model prog w) A' (pyIter v) Q' E' ⟨hp, g, d, tk, os⟩ := fun q => B.iter prog w _ _ ⟨hp, g, d, tk, os⟩ _ z1 q
    wp_walk using go
    refine wpAny_stack_any fun _ => wpAny_pure ?_
    split
    · rename_i c _ _ _ _ _
      cases (c == Value.type "enumerate") <;> (wp_walk using go; exact ⟨_, rfl, z2⟩)
    · wp_walk using go
      exact ⟨_, rfl, z2⟩
theorem enum1_call {prog : Program} {w : World} {A : Around} {E : Value → Shared → Prop} {s : Shared} {v : Value} {o : Obj} {H : Heap → Prop} {Q : Value → Shared → Prop} (B : Begins v o H) (h1 : H s.heap)
    (h : ∀ h', IsEnum h' (s.heap.objs.size + 1) s.heap.objs.size 0 .none → h'.get? s.heap.objs.size = some o → (∀ b u, s.heap.get? b = some u → h'.get? b = some u) → Q (.ref (s.heap.objs.size + 1)) { s with heap := h' }) :
    wpAny (model prog w) A (call (.type "enumerate") [v]) Q E s := by
  have sz : (s.heap.push o).objs.size = s.heap.objs.size + 1 := Heap.size_push ..
  refine callType_new F.called_enumerate (by decide) (F.typeCall_enumerate_1 _) (F.newCall_enumerate_1 _) (fun obj => F.args_object_init_2 obj _) F.entry_enumerate_new (enum1_makes B) ⟨h1, ?_⟩
  show _ ∧ _
  rw [sz]
  have he : IsEnum ((s.heap.push o).push { cls := .type "enumerate", data := .fields #[.none, .bool false, .ref s.heap.objs.size, rawInt 0, .none, .none] }) (s.heap.objs.size + 1) s.heap.objs.size 0 .none := by
    rw [← sz]
    exact Heap.get?_push_size _ rfl
  exact ⟨⟨_, he, rfl⟩, h _ he (Heap.get?_push_of_some _ (Heap.get?_push_size _ B.free)) fun b u z => Heap.get?_push_of_some _ (Heap.get?_push_of_some _ z)⟩
def iEnumT (K : PySem.W.Frag) (u : TA) : TI := fun σ H R => u σ H fun vs H1 => ∃ a xs, vs = [.ref a] ∧ SqT K H1 a xs ∧ R (JeT K a) H1
theorem pi_enumT {X : Cx} {e : Expr} {u : TA} {p pos tpos : Pos} {elts : List Expr} {kk : Nat} (hg : Gl X "enumerate") (hm : X.mg "enumerate" = none) (ha : PA X [e] u) (hs : starEach [e] X.env = [(false, eval e X.env)] := by rfl) :
    PI X (.Tuple elts kk tpos) (.Call (.Name "enumerate" p) [e] [] pos) (iEnumT X.K u) := by
  refine ⟨fun pins s σ H R I h => Call_ (ld_blt I hg hm boot_enumerate (PyProof.Rows.callWith_type1 (thn (ha.run pos pins s σ H _ I h) ?_) hs rfl))⟩
  rintro us s1 ⟨vs, H1, I1, r1, a, xs, rfl, hq, q⟩
  cases r1 with
  | cons r rr =>
    cases rr
    cases r
    obtain ⟨its, rv, tp, _⟩ := I1.tuple hq
    refine enum1_call (begins_tuple a its.toArray) tp fun h' he hi hk => wpAny_pyIter_enum he ?_
    refine ⟨_, _, _, _, H1, rfl, I1.kept (t' := s1.toks) hk, turn_enumT a (s1.heap.objs.size + 1) s1.heap.objs.size, ⟨⟨.none, he⟩, ⟨_, hi, rfl, rfl⟩⟩, fun b hb => ?_, q⟩
    have le : s1.heap.objs.size ≤ b := by
      simp only [List.mem_cons, List.not_mem_nil, or_false] at hb
      rcases hb with rfl | rfl
      · exact Nat.le_succ _
      · exact Nat.le_refl _
    exact I1.fpOk le (I1.hok.fresh le)
/-! ### as an iterable of the reckoning -/
def numD : Nat → List PyData → List D
  | _, [] => []
  | k, d :: r => .p (.dict [(.none, .none), (.int (k : Int), d)]) :: numD (k + 1) r
theorem numD_len : ∀ (k : Nat) (l : List PyData), (numD k l).length = l.length
  | _, [] => rfl
  | k, d :: r => by rw [numD, List.length_cons, List.length_cons, numD_len (k + 1) r]
theorem numD_get : ∀ (k : Nat) (l : List PyData) (i : Nat), (numD k l)[i]? = l[i]?.map fun d => D.p (.dict [(.none, .none), (.int ((k + i : Nat) : Int), d)])
  | _, [], i => by simp [numD]
  | k, d :: r, 0 => by simp [numD]
  | k, d :: r, i + 1 => by
    rw [numD, List.getElem?_cons_succ, List.getElem?_cons_succ, numD_get (k + 1) r i]
    have : k + 1 + i = k + (i + 1) := by omega
    rw [this]
def enT : List D → Sto → Ot (List D × (Sto → Bool))
  | [.p (.tuple l)], S => .ok (numD 0 l, yes) S
  | _, _ => .bad
def iEnT (a : AM) : IM := fun env S => (a env S).bind enT
theorem walk_JeT {K : PySem.W.Frag} {a : Addr} {xs : List V} : Walk (JeT K a) xs.length (fun H => SqT K H a xs) (YPair (fun i => some (.int (i : Nat))) (fun i => xs[i]?)) :=
  ⟨fun i _ hi q => ⟨xs, xs[i], q, by simp [hi]⟩, fun _ q => ⟨xs, q, rfl⟩, fun i H v H' _ q ⟨T, y, h1, h2, h3, h4⟩ => ⟨T, _, y, h1, h2, h3, rfl, h4 xs q⟩⟩
theorem wk_enT {K : PySem.W.Frag} {R : Addr → Prop} {μ : Nat → Addr} {n : Nat} {H : Hp} {a : Addr} {xs : List V} {l : List PyData} (h : SqT K H a xs) (hp : PdAll K H (Av R μ n) xs l) : Wk K R μ n H (numD 0 l) yes (JeT K a) := by
  refine ⟨⟨_, _, by rw [numD_len, ← hp.len]; exact walk_JeT, fun _ μ2 S2 H2 _ s _ _ => s.hp.sqt h, fun R2 i d μ2 S2 H2 x H3 hR hi s rs _ y => ?_⟩⟩
  obtain ⟨T, v1, v2, rfl, hT, rfl, e1, e2⟩ := y
  cases e1
  rw [numD_get, Nat.zero_add] at hi
  cases e : l[i]? with
  | none => rw [e] at hi; cases hi
  | some d0 =>
    rw [e] at hi
    cases hi
    obtain ⟨v, h1, h2⟩ := pda_get (hp.mono (le_grow s hR)) e
    have e2' : xs[i]? = some v2 := e2
    rw [h1] at e2'
    cases e2'
    have sn : Sp1 μ2 S2.length H2 μ2 S2.length (upd H2 T (.tup [.int (i : Nat), v2])) := sp_new hT
    exact ⟨sn, rs_new hT rs, .p (.wk upd_same (.int _) (h2.mono (av_le sn.hp)))⟩
theorem mi_enumT {X : Cx} {W : WX} {e : Expr} {aa : AM} {p pos tpos : Pos} {elts : List Expr} {kk : Nat} (hm : X.mg "enumerate" = none) (ha : PA X [e] (ta X.K X.mg W aa)) (hg : Gl X "enumerate" := by rfl) (hs : starEach [e] X.env = [(false, eval e X.env)] := by rfl) :
    MI X W (.Tuple elts kk tpos) (.Call (.Name "enumerate" p) [e] [] pos) (iEnT aa) := by
  refine ⟨_, pi_enumT hg hm ha hs, fun σ H Rr ⟨R, μ, env, S, r, h⟩ => ⟨R, μ, env, S, r, ?_⟩⟩
  refine pg_mono (pg_bind h) fun μ1 H1 S1 ds s1 rs1 q vs dr => ?_
  unfold enT at q
  split at q
  · rename_i l
    obtain ⟨v, ws, rfl, d1, d2⟩ := drs_cons dr
    obtain rfl := drs_nil d2
    obtain ⟨a, xs, rfl, h1, h3⟩ := dr_tup d1
    exact ⟨a, xs, rfl, h1, pg_ok q rs1 _ (wk_enT h1 h3)⟩
  · exact q.elim
theorem me_gintE {X : Cx} {W : WX} {x : Str} {i : Int} {pos : Pos} (h : ∃ t : Tok, X.mg x = some (.int i t)) (hg : Gl X x := by rfl) (hd : (x == ("__debug__" : Str)) = false := by decide) : PE X (.Name x pos) (te X.K X.mg W (eC (.int i))) := by
  obtain ⟨_, h⟩ := h
  exact me_gint h hg hd
end Mi

/-! Mi19 -/
set_option Elab.async false
set_option linter.all false
set_option maxRecDepth 100000
set_option maxHeartbeats 1000000
set_option autoImplicit false
namespace Mi
open PySem PySem.Spec PyProof.Rows L2

/-! ### a comprehension's target of two names -/
theorem gc_two {K : PySem.W.Frag} {i j : Nat} (ne : i ≠ j) : GC K (gT [gN i, gN j]) (gTup K 2 (gCons (gName i) (gCons (gName j) gNil))) [i, j] := by
  refine ⟨fun R μ S H σ env env' x d Q rs en dr e q => ?_⟩
  cases dr with
  | loc _ => cases e
  | scr _ => cases e
  | p dp =>
    cases dp with
    | non => cases e
    | bl _ => cases e
    | int _ => cases e
    | str _ => cases e
    | lst _ _ _ => cases e
    | dk0 _ _ => cases e
    | dk1 _ _ _ => cases e
    | @wk a v w x y h1 p1 p2 =>
      have el : gsOf [gN i, gN j] [x, y] env = some env' := e
      cases el
      refine ⟨a, _, rfl, SqT.of h1, rfl, _, _, rfl, _, _, rfl, rfl, q _ ?_ ((en.set (.p p1) i).set (.p p2) j)⟩
      show wipe ((((wipe σ [i, j]).set i _).set j _)) [i, j] = wipe σ [i, j]
      show ((((((σ.set j none).set i none).set i _).set j _).set j none).set i none) = (σ.set j none).set i none
      rw [List.set_set, List.set_set, List.set_comm _ _ ne, List.set_set, List.set_set]
    | @tup a xs l h1 h3 =>
      have el : gsOf [gN i, gN j] l env = some env' := e
      cases h3 with
      | nil => cases el
      | cons p1 r1 =>
        cases r1 with
        | nil => cases el
        | cons p2 r2 =>
          cases r2 with
          | cons _ _ => cases el
          | nil =>
            cases el
            refine ⟨a, _, rfl, h1.sqt, rfl, _, _, rfl, _, _, rfl, rfl, q _ ?_ ((en.set (.p p1) i).set (.p p2) j)⟩
            show wipe ((((wipe σ [i, j]).set i _).set j _)) [i, j] = wipe σ [i, j]
            show ((((((σ.set j none).set i none).set i _).set j _).set j none).set i none) = (σ.set j none).set i none
            rw [List.set_set, List.set_set, List.set_comm _ _ ne, List.set_set, List.set_set]
end Mi

/-! Mi20 -/
set_option Elab.async false
set_option linter.all false
set_option maxRecDepth 100000
set_option maxHeartbeats 1000000
set_option autoImplicit false
namespace Mi
open PySem PySem.Spec PyProof.Rows L2

/-! ### enumerate over a plain list -/
theorem wk_enL {K : PySem.W.Frag} {R : Addr → Prop} {μ : Nat → Addr} {n : Nat} {H : Hp} {a : Addr} {xs : List V} {l : List PyData} (h : H a = some (.lst xs)) (no : ¬ Av R μ n a) (hp : PdAll K H (Av R μ n) xs l) : Wk K R μ n H (numD 0 l) yes (Ite K a) := by
  refine ⟨⟨_, _, by rw [numD_len, ← hp.len]; exact walk_enum, fun _ μ2 S2 H2 _ s _ _ => SqL.of ((av_le (R := R) s.hp).keep _ _ h no), fun R2 i d μ2 S2 H2 x H3 hR hi s rs _ y => ?_⟩⟩
  obtain ⟨T, v1, v2, rfl, hT, rfl, e1, e2⟩ := y
  cases e1
  rw [numD_get, Nat.zero_add] at hi
  cases e : l[i]? with
  | none => rw [e] at hi; cases hi
  | some d0 =>
    rw [e] at hi
    cases hi
    obtain ⟨v, h1, h2⟩ := pda_get (hp.mono (le_grow s hR)) e
    have e2' : xs[i]? = some v2 := e2
    rw [h1] at e2'
    cases e2'
    have sn : Sp1 μ2 S2.length H2 μ2 S2.length (upd H2 T (.tup [.int (i : Nat), v2])) := sp_new hT
    exact ⟨sn, rs_new hT rs, .p (.wk upd_same (.int _) (h2.mono (av_le sn.hp)))⟩
def enL : List D → Sto → Ot (List D × (Sto → Bool))
  | [.p (.list l)], S => .ok (numD 0 l, yes) S
  | _, _ => .bad
def iEnL (a : AM) : IM := fun env S => (a env S).bind enL
theorem mi_enumL {X : Cx} {W : WX} {e : Expr} {aa : AM} {p pos tpos : Pos} {elts : List Expr} {kk : Nat} (hm : X.mg "enumerate" = none) (ha : PA X [e] (ta X.K X.mg W aa)) (hg : Gl X "enumerate" := by rfl) (hs : starEach [e] X.env = [(false, eval e X.env)] := by rfl) :
    MI X W (.Tuple elts kk tpos) (.Call (.Name "enumerate" p) [e] [] pos) (iEnL aa) := by
  refine ⟨_, pi_enum hg hm ha hs, fun σ H Rr ⟨R, μ, env, S, r, h⟩ => ⟨R, μ, env, S, r, ?_⟩⟩
  refine pg_mono (pg_bind h) fun μ1 H1 S1 ds s1 rs1 q vs dr => ?_
  unfold enL at q
  split at q
  · rename_i l
    obtain ⟨v, ws, rfl, d1, d2⟩ := drs_cons dr
    obtain rfl := drs_nil d2
    obtain ⟨a, xs, rfl, h1, h2, h3⟩ := dr_lst d1
    exact ⟨a, xs, rfl, SqL.of h1, pg_ok q rs1 _ (wk_enL h1 h2 h3)⟩
  · exact q.elim

/-! ### x in a list -/
def listOf : D → Sto → Option (List PyData)
  | .p (.list l), _ => some l
  | .loc i, S => (cellL S i).bind plains
  | _, _ => none
/-- a pair that was made in passing, read as the tuple that it is -/
def unw1 : PyData → PyData
  | .dict [(.none, .none), (x, y)] => .tuple [x, y]
  | d => d
theorem pd1_dp {K : PySem.W.Frag} {H : Hp} {O : Addr → Prop} {v : V} {d : PyData} (h : Pd K H O v d) (c : (unw1 d).canLay0 = true) : Dp K H v (unw1 d) := by
  cases h with
  | wk h1 h2 h3 => exact .tup (SqT.of h1) (pda_dp (O := O) _ _ (by simpa [unw1, PyData.canLay0] using c) (.cons h2 (.cons h3 .nil)))
  | non => exact pd_dp (O := O) _ _ c .non
  | bl b => exact pd_dp (O := O) _ _ c (.bl b)
  | int i => exact pd_dp (O := O) _ _ c (.int i)
  | str x => exact pd_dp (O := O) _ _ c (.str x)
  | lst h1 h2 h3 => exact pd_dp (O := O) _ _ c (.lst h1 h2 h3)
  | tup h1 h2 => exact pd_dp (O := O) _ _ c (.tup h1 h2)
  | dk0 _ _ => simp [unw1, PyData.canLay0] at c
  | dk1 _ _ _ => simp [unw1, PyData.canLay0] at c
theorem pda1_dp {K : PySem.W.Frag} {H : Hp} {O : Addr → Prop} : ∀ {vs : List V} {ds : List PyData}, PdAll K H O vs ds → PyData.canLayAll0 (ds.map unw1) = true → DpAll K H vs (ds.map unw1)
  | _, _, .nil, _ => .nil
  | _, _, .cons (d := d) (ds := ds) h1 h2, c => by
    have c' : ((unw1 d).canLay0 && PyData.canLayAll0 (ds.map unw1)) = true := by simpa [PyData.canLayAll0] using c
    exact .cons (pd1_dp h1 (Bool.and_eq_true_iff.mp c').1) (pda1_dp h2 (Bool.and_eq_true_iff.mp c').2)
theorem listOf_dp {K : PySem.W.Frag} {R : Addr → Prop} {μ : Nat → Addr} {H : Hp} {S : Sto} {v : V} {d : D} {l : List PyData} (rs : RS K R H μ S) (h : DR K R H μ S.length v d) (e : listOf d S = some l) (c : SeqAt.shaped (.list (l.map unw1)) = true) : Dp K H v (.list (l.map unw1)) := by
  have lay : PyData.canLayAll0 (l.map unw1) = true := by simpa [PyData.canLay0] using shaped_lay c
  unfold listOf at e
  split at e
  · cases e
    obtain ⟨a, xs, rfl, h1, _, h3⟩ := dr_lst h
    exact .lst (SqL.of h1) (pda1_dp h3 lay)
  · obtain ⟨xs, q1, q2⟩ := Option.bind_eq_some_iff.mp e
    obtain ⟨rfl, hi⟩ := dr_loc h
    obtain ⟨vs, g1, g2⟩ := rs.cell _ _ (cellL_some q1)
    exact .lst (SqL.of g1) (pda1_dp (plains_pd g2 q2) lay)
  · cases e
def inG (neg : Bool) : D → D → Sto → Ot D
  | .p a, y, S => match listOf y S with
    | some l => if SeqAt.shaped (unw1 a) = true ∧ SeqAt.shaped (.list (l.map unw1)) = true then .ok (.p (.bool (if neg = true then !((l.map unw1).any fun z => PyData.eqv z (unw1 a)) else (l.map unw1).any fun z => PyData.eqv z (unw1 a)))) S else .bad
    | none => .bad
  | _, _, _ => .bad
def rInG (K : PySem.W.Frag) (neg : Bool) : R2 := if neg = true then rNotInD K else rInD K
theorem inG_ok {K : PySem.W.Frag} {mg : Str → Option Value} {W : WX} {neg : Bool} : Op2 K mg W (inG neg) (rInG K neg) := by
  intro R μ H S σ env x y dx dy Q r h
  obtain ⟨y', ws, e1, hy, r1⟩ := drs_cons r.tm
  cases e1
  obtain ⟨x', ws', e2, hx, r2⟩ := drs_cons r1
  cases e2
  cases hx with
  | loc _ => exact h.elim
  | scr _ => exact h.elim
  | @p _ a px =>
    unfold inG at h
    dsimp only at h
    cases hl : listOf dy S with
    | none => rw [hl] at h; exact h.elim
    | some l =>
      rw [hl] at h
      dsimp only at h
      by_cases hz : SeqAt.shaped (unw1 a) = true ∧ SeqAt.shaped (.list (l.map unw1)) = true
      · rw [if_pos hz] at h
        have p1 := pd1_dp px (shaped_lay hz.1)
        have p2 := listOf_dp r.rs hy hl hz.2
        unfold rInG
        cases neg with
        | true => rw [if_pos rfl] at h ⊢; exact ⟨unw1 a, l.map unw1, p1, p2, hz.1, hz.2, po_ok h r.rs (.p (.bl _))⟩
        | false => rw [if_neg Bool.false_ne_true] at h ⊢; exact ⟨unw1 a, l.map unw1, p1, p2, hz.1, hz.2, po_ok h r.rs (.p (.bl _))⟩
      · rw [if_neg hz] at h
        exact h.elim
theorem op_inG {X : Cx} (hu : X.A.units + 65 < cLine) : OpR X (compareOp .In) (rInG X.K false) := by
  unfold rInG
  rw [if_neg Bool.false_ne_true]
  exact op_inD hu
theorem op_notInG {X : Cx} (hu : X.A.units + 65 < cLine) : OpR X (compareOp .NotIn) (rInG X.K true) := by
  unfold rInG
  rw [if_pos rfl]
  exact op_notInD hu
theorem room65 {k : Nat} {A : Around} (r : Room k A) : A.units + 65 < cLine := by
  have := r.un
  omega
section
variable {X : Cx} {W : WX} {a b : Expr} {ma mb : EM} {pos : Pos} {k : Nat}
theorem me_in (hr : Room k X.A) (ha : PE X a (te X.K X.mg W ma)) (hb : PE X b (te X.K X.mg W mb)) (hm : behindInMarks .In b = false := by rfl) : PE X (.Compare a [.In] [b] pos) (te X.K X.mg W (eOp (inG false) ma mb)) := me_cmp (op_inG (room65 hr)) inG_ok ha hb hm
theorem me_notin (hr : Room k X.A) (ha : PE X a (te X.K X.mg W ma)) (hb : PE X b (te X.K X.mg W mb)) (hm : behindInMarks .NotIn b = false := by rfl) : PE X (.Compare a [.NotIn] [b] pos) (te X.K X.mg W (eOp (inG true) ma mb)) := me_cmp (op_notInG (room65 hr)) inG_ok ha hb hm
end
end Mi

/-! Mi21 -/
set_option Elab.async false
set_option linter.all false
set_option maxRecDepth 100000
set_option maxHeartbeats 1000000
set_option autoImplicit false
namespace Mi
open PySem PySem.Spec PyProof.Rows L2 RZ

/-! ### zip of two tuples, all pairs kept: from the second turn on the pair handed out first is alive -/
abbrev zipO (f0 f1 : Value) (TI TO : Addr) : Obj := { cls := .type "zip", dict := none, data := .fields #[f0, f1, .bool false, .ref TI, .ref TO], slots := #[] }
section
variable {prog : Program} {w : World} {A : Around} {E : Value → Shared → Prop} {s : Shared} {z TI TO i1 i2 l1 l2 T S : Addr} {k1 k2 : Nat} {xs ys : Array Value} {f1 : Value}
theorem alive_then {a : Addr} {o : Obj} {Q : Option Obj → Shared → Prop} (ho : s.heap.get? a = some o) (h : Q (some o) s) : wpAny (model prog w) A (loadIfAlive a) Q E s := fun Γ p hΓ => by
  unfold loadIfAlive
  rw [Sem.wp_loadIfAlive, ho]
  exact h
theorem zipH_free {Q : Bool → Shared → Prop} (hz : s.heap.get? z = some (zipO (rawInt T) f1 TI TO)) (hT : ∃ o, s.heap.get? T = some o) (hf : f1 = .bool false ∨ f1 = .bool true)
    (hq : ∀ h', h'.get? z = some (zipO (rawInt T) (.bool true) TI TO) → Heap.SameBut z s.heap h' → Q false { s with heap := h' }) : wpAny (model prog w) A (Builtin.SmallTypes.ownedTupleIsFree (.ref z)) Q E s := by
  obtain ⟨o, ho⟩ := hT
  unfold Builtin.SmallTypes.ownedTupleIsFree
  refine wpAny_bind (wpAny_field hz rfl (x := rawInt T) rfl ?_)
  simp only [rawInt]
  refine wpAny_bind (alive_then (a := T) ho ?_)
  simp only [Option.isNone_some, Bool.false_eq_true, if_false]
  refine wpAny_bind (wpAny_field hz rfl (x := f1) rfl ?_)
  rcases hf with rfl | rfl
  · rw [if_pos (by decide)]
    exact wpAny_bind (wpAny_setField_rec hz (by simp) fun h' hz' hs' => wpAny_pure (hq h' hz' hs'))
  · rw [if_neg (by decide)]
    exact wpAny_pure (hq s.heap hz ⟨rfl, fun _ _ => rfl⟩)
theorem zipH_item {x y : Value} {Q : Value → Shared → Prop} (D : ZipApart z TI TO i1 i2 l1 l2) (hz : s.heap.get? z = some (zipO (rawInt T) f1 TI TO)) (hT : ∃ o, s.heap.get? T = some o) (hf : f1 = .bool false ∨ f1 = .bool true)
    (hTI : IsPair s.heap TI (.ref i1) (.ref i2)) (h1 : s.heap.IsTupleIter i1 l1 k1) (h2 : s.heap.IsTupleIter i2 l2 k2) (hl1 : s.heap.IsTuple l1 xs) (hl2 : s.heap.IsTuple l2 ys) (hx : xs[k1]? = some x) (hy : ys[k2]? = some y)
    (hQ : ∀ h', h'.get? z = some (zipO (rawInt T) (.bool true) TI TO) → h'.IsTupleIter i1 l1 (k1 + 1) → h'.IsTupleIter i2 l2 (k2 + 1) → IsPair h' s.heap.objs.size x y → h'.objs.size = s.heap.objs.size + 1 →
      (∀ c o, c ≠ z → c ≠ i1 → c ≠ i2 → s.heap.get? c = some o → h'.get? c = some o) → Q (.ref s.heap.objs.size) { s with heap := h' }) :
    wpAny (model prog w) A (Builtin.«zip.__next__» ⟨[.ref z], []⟩) (fun fin s' => ∃ v, fin = .done (.ret v) ∧ Q v s') E s := by
  show wpAny _ _ (field (.ref z) 2 >>= _) _ _ _
  refine wpAny_bind (wpAny_field hz rfl (x := .bool false) rfl ?_)
  show wpAny _ _ (field (.ref z) 3 >>= _) _ _ _
  refine wpAny_bind (wpAny_field hz rfl (x := .ref TI) rfl ?_)
  refine wpAny_bind (wpAny_seqItems hTI rfl ?_)
  show wpAny _ _ (Builtin.SmallTypes.ownedTupleIsFree (.ref z) >>= _) _ _ _
  refine wpAny_bind (zipH_free hz hT hf fun h₁ hz₁ hs₁ => ?_)
  simp only [Bool.false_eq_true, if_false]
  refine wpAny_bind ?_
  simp only [List.forIn_toArray, List.forIn_cons, List.forIn_nil]
  refine wpAny_bind (wpAny_bind (wpAny_holding ?_))
  show wpAny _ _ (Builtin.SmallTypes.nextOf (.ref i1) >>= fun v => pure (some v)) _ _ _
  refine wpAny_bind (nextOf_tuple_item (h1.extBut hs₁.extBut D.i1z) (hl1.extBut hs₁.extBut D.l1z) hx fun h₂ h1₂ hs₂ => wpAny_pure (wpAny_pure ?_))
  refine wpAny_bind (wpAny_bind (wpAny_holding ?_))
  show wpAny _ _ (Builtin.SmallTypes.nextOf (.ref i2) >>= fun v => pure (some v)) _ _ _
  refine wpAny_bind (nextOf_tuple_item ((h2.extBut hs₁.extBut D.i2z).extBut hs₂.extBut D.i12.symm) ((hl2.extBut hs₁.extBut D.l2z).extBut hs₂.extBut D.l2i1) hy fun h₃ h2₃ hs₃ => wpAny_pure (wpAny_pure (wpAny_pure ?_)))
  refine wpAny_bind (wpAny_newTuple ?_ (by show 2 ≤ sizeLine; decide))
  have hsz : h₃.objs.size = s.heap.objs.size := by rw [hs₃.1, hs₂.1, hs₁.1]
  have up : ∀ c o, c ≠ z → c ≠ i1 → c ≠ i2 → s.heap.get? c = some o → (h₃.push { cls := .type "tuple", data := .seq #[x, y] }).get? c = some o := fun c o c1 c2 c3 e =>
    Heap.get?_push_of_some _ (hs₃.extBut _ _ c3 (hs₂.extBut _ _ c2 (hs₁.extBut _ _ c1 e)))
  refine wpAny_pure ⟨_, rfl, ?_⟩
  show Q (.ref h₃.objs.size) _
  have q := hQ (h₃.push { cls := .type "tuple", data := .seq #[x, y] }) (Heap.get?_push_of_some _ (hs₃.extBut _ _ D.i2z.symm (hs₂.extBut _ _ D.i1z.symm hz₁))) ((h1₂.extBut hs₃.extBut D.i12).at fun o e => Heap.get?_push_of_some _ e) (h2₃.at fun o e => Heap.get?_push_of_some _ e)
  rw [← hsz] at q
  exact q (Heap.get?_push_size _ rfl) (Heap.size_push ..) up
theorem zipH_end {Q : Fin → Shared → Prop} (hh : A.handled = none) (D : ZipApart z TI TO i1 i2 l1 l2) (hz : s.heap.get? z = some (zipO (rawInt T) f1 TI TO)) (hT : ∃ o, s.heap.get? T = some o) (hf : f1 = .bool false ∨ f1 = .bool true)
    (hTI : IsPair s.heap TI (.ref i1) (.ref i2)) (h1 : s.heap.IsTupleIter i1 l1 k1) (hl1 : s.heap.IsTuple l1 xs) (hx : xs[k1]? = none)
    (hE : ∀ h' e, (∀ c o, c ≠ z → c ≠ i1 → s.heap.get? c = some o → h'.get? c = some o) → (∃ o, h'.get? e = some o ∧ o.cls = .type "StopIteration") → E (.ref e) { s with heap := h' }) :
    wpAny (model prog w) A (Builtin.«zip.__next__» ⟨[.ref z], []⟩) Q E s := by
  show wpAny _ _ (field (.ref z) 2 >>= _) _ _ _
  refine wpAny_bind (wpAny_field hz rfl (x := .bool false) rfl ?_)
  show wpAny _ _ (field (.ref z) 3 >>= _) _ _ _
  refine wpAny_bind (wpAny_field hz rfl (x := .ref TI) rfl ?_)
  refine wpAny_bind (wpAny_seqItems hTI rfl ?_)
  show wpAny _ _ (Builtin.SmallTypes.ownedTupleIsFree (.ref z) >>= _) _ _ _
  refine wpAny_bind (zipH_free hz hT hf fun h₁ hz₁ hs₁ => ?_)
  simp only [Bool.false_eq_true, if_false]
  refine wpAny_bind ?_
  simp only [List.forIn_toArray, List.forIn_cons, List.forIn_nil]
  refine wpAny_bind (wpAny_bind (wpAny_holding ?_))
  show wpAny _ _ (Builtin.SmallTypes.nextOf (.ref i1) >>= fun v => pure (some v)) _ _ _
  exact wpAny_bind (nextOf_tuple_end hh (h1.extBut hs₁.extBut D.i1z) (hl1.extBut hs₁.extBut D.l1z) hx fun h₂ e hs₂ he => hE h₂ e (fun c o c1 c2 x => hs₂ _ _ c2 (hs₁.extBut _ _ c1 x)) he)

/-! one turn, whichever it is -/
/-- a zip of two tuples behind i turns -/
structure ZAt (h : Heap) (z TI TO i1 i2 l1 l2 S : Addr) (xs ys : Array Value) (i : Nat) : Prop where
  zip : ∃ f0 f1, h.get? z = some (zipO f0 f1 TI TO) ∧ ((f0 = .none ∧ f1 = .bool false) ∨ ∃ T : Addr, f0 = rawInt T ∧ (∃ o, h.get? T = some o) ∧ T ≠ z ∧ T ≠ TO ∧ T ≠ i1 ∧ T ≠ i2 ∧ T ≠ S ∧ (f1 = .bool false ∨ f1 = .bool true))
  ti : IsPair h TI (.ref i1) (.ref i2)
  to : ∃ a b, IsPair h TO a b
  it1 : h.IsTupleIter i1 l1 i
  it2 : h.IsTupleIter i2 l2 i
  tup1 : h.IsTuple l1 xs
  tup2 : h.IsTuple l2 ys
theorem zAt_next {i : Nat} {x y : Value} {Q : Option Value → Shared → Prop} (D : ZipApart z TI TO i1 i2 l1 l2) (st : ZAt s.heap z TI TO i1 i2 l1 l2 S xs ys i) (hx : xs[i]? = some x) (hy : ys[i]? = some y) (hS : S < s.heap.objs.size)
    (hQ : ∀ h', ZAt h' z TI TO i1 i2 l1 l2 S xs ys (i + 1) → IsPair h' s.heap.objs.size x y → h'.objs.size = s.heap.objs.size + 1 → (∀ c o, c ≠ z → c ≠ TO → c ≠ i1 → c ≠ i2 → s.heap.get? c = some o → h'.get? c = some o) → Q (some (.ref s.heap.objs.size)) { s with heap := h' }) :
    wpAny (model prog w) A (pyNext (.ref z)) Q E s := by
  obtain ⟨⟨f0, f1, hz, hcase⟩, hTI, ⟨a, b, hTO⟩, h1, h2, hl1, hl2⟩ := st
  have hzt : s.TypeIs (.ref z) "zip" := ⟨_, hz, rfl⟩
  have zlt := Heap.lt_size hz
  have olt := Heap.lt_size hTO
  have i1lt : i1 < s.heap.objs.size := by obtain ⟨_, e, _⟩ := h1; exact Heap.lt_size e
  have i2lt : i2 < s.heap.objs.size := by obtain ⟨_, e, _⟩ := h2; exact Heap.lt_size e
  rcases hcase with ⟨rfl, rfl⟩ | ⟨T, rfl, hT, t1, t2, t3, t4, t5, hf⟩
  · refine pyNext_zipT_item D hz hTI hTO h1 h2 hl1 hl2 hx hy fun h' a1 a2 a3 a4 a5 a6 a7 => hQ h' ⟨⟨_, _, a1, .inr ⟨_, rfl, ⟨_, a5⟩, Nat.ne_of_gt zlt, Nat.ne_of_gt olt, Nat.ne_of_gt i1lt, Nat.ne_of_gt i2lt, Nat.ne_of_gt hS, .inl rfl⟩⟩, a7 _ _ D.TIz D.TITO D.TIi1 D.TIi2 hTI, ⟨_, _, a2⟩, a3, a4, hl1.at fun o e => a7 _ o D.l1z D.l1TO D.l1i1 D.l1i2 e, hl2.at fun o e => a7 _ o D.l2z D.l2TO D.l2i1 D.l2i2 e⟩ a5 a6 a7
  · unfold pyNext
    refine wpAny_bind (wpAny_attempt (wpAny_callSpecial?_slot (name := Str.ofString "__next__") hzt F.slot_zip_next
      (wpAny_call_entry F.slot_zip_next hzt F.entry_zip_next (zipH_item D hz hT hf hTI h1 h2 hl1 hl2 hx hy fun h' b1 b2 b3 b4 b5 b6 => wpAny_pure ?_) (F.args_zip_next_1 _))))
    obtain ⟨oT, hoT⟩ := hT
    exact hQ h' ⟨⟨_, _, b1, .inr ⟨T, rfl, ⟨oT, b6 _ _ t1 t3 t4 hoT⟩, t1, t2, t3, t4, t5, .inr rfl⟩⟩, b6 _ _ D.TIz D.TIi1 D.TIi2 hTI, ⟨a, b, b6 _ _ D.TOz D.TOi1 D.TOi2 hTO⟩, b2, b3, hl1.at fun o e => b6 _ o D.l1z D.l1i1 D.l1i2 e, hl2.at fun o e => b6 _ o D.l2z D.l2i1 D.l2i2 e⟩ b4 b5 fun c o c1 _ c3 c4 e => b6 c o c1 c3 c4 e
theorem zAt_end {i : Nat} {Q : Option Value → Shared → Prop} (hh : A.handled = none) (D : ZipApart z TI TO i1 i2 l1 l2) (st : ZAt s.heap z TI TO i1 i2 l1 l2 S xs ys i) (hx : xs[i]? = none)
    (hQ : ∀ h', (∀ c o, c ≠ z → c ≠ TO → c ≠ i1 → c ≠ i2 → s.heap.get? c = some o → h'.get? c = some o) → Q none { s with heap := h' }) : wpAny (model prog w) A (pyNext (.ref z)) Q E s := by
  obtain ⟨⟨f0, f1, hz, hcase⟩, hTI, ⟨a, b, hTO⟩, h1, h2, hl1, hl2⟩ := st
  have hzt : s.TypeIs (.ref z) "zip" := ⟨_, hz, rfl⟩
  rcases hcase with ⟨rfl, rfl⟩ | ⟨T, rfl, hT, t1, t2, t3, t4, t5, hf⟩
  · exact pyNext_zipT_end hh D hz hTI hTO h1 h2 hl1 hl2 (.inl hx) hQ
  · unfold pyNext
    refine wpAny_bind (wpAny_attempt (wpAny_callSpecial?_slot (name := Str.ofString "__next__") hzt F.slot_zip_next
      (wpAny_call_entry F.slot_zip_next hzt F.entry_zip_next (zipH_end hh D hz hT hf hTI h1 hl1 hx fun h' e hk he => ?_) (F.args_zip_next_1 _))))
    obtain ⟨o, ho, hc⟩ := he
    exact wpAny_bind (wpAny_isInstance (T := "StopIteration") (b := true) ⟨o, ho, hc⟩ isSubtype_stop (wpAny_pure (hQ _ fun c o c1 _ c3 _ e => hk c o c1 c3 e)))

/-! the list that takes them all -/
abbrev lsO (acc : Array Value) (c : Nat) : Obj := { cls := .type "list", dict := none, data := .seq acc c, slots := #[] }
/-- what the list holds: new pairs, each of its own -/
def Prs (h : Heap) (S : Addr) (xs ys : Array Value) (acc : Array Value) : Prop := ∀ (j : Nat) (v : Value), acc[j]? = some v → ∃ (T : Addr) (x y : Value), v = .ref T ∧ S < T ∧ xs[j]? = some x ∧ ys[j]? = some y ∧ IsPair h T x y ∧ ∀ j', j' < j → ∀ T', acc[j']? = some (.ref T') → T' < T
theorem zAt_frame {h h' : Heap} {i : Nat} (st : ZAt h z TI TO i1 i2 l1 l2 S xs ys i) (k : ∀ c o, h.get? c = some o → c ≠ S → h'.get? c = some o) (hS : ∀ c, c = z ∨ c = TI ∨ c = TO ∨ c = i1 ∨ c = i2 ∨ c = l1 ∨ c = l2 → c ≠ S) :
    ZAt h' z TI TO i1 i2 l1 l2 S xs ys i := by
  obtain ⟨⟨f0, f1, hz, hcase⟩, hTI, ⟨a, b, hTO⟩, h1, h2, hl1, hl2⟩ := st
  refine ⟨⟨f0, f1, k _ _ hz (hS _ (by simp)), ?_⟩, k _ _ hTI (hS _ (by simp)), ⟨a, b, k _ _ hTO (hS _ (by simp))⟩, h1.at fun o e => k _ o e (hS _ (by simp)), h2.at fun o e => k _ o e (hS _ (by simp)), hl1.at fun o e => k _ o e (hS _ (by simp)), hl2.at fun o e => k _ o e (hS _ (by simp))⟩
  rcases hcase with q | ⟨T, rfl, ⟨o, hT'⟩, t1, t2, t3, t4, t5, r⟩
  · exact .inl q
  · exact .inr ⟨T, rfl, ⟨o, k _ _ hT' t5⟩, t1, t2, t3, t4, t5, r⟩
theorem prs_push {h h' : Heap} {acc : Array Value} {T : Addr} {x y : Value} (p : Prs h S xs ys acc) (k : ∀ c o, S < c → h.get? c = some o → h'.get? c = some o) (hT : S < T) (hx : xs[acc.size]? = some x) (hy : ys[acc.size]? = some y) (hp : IsPair h' T x y) (hn : ∀ T', (∃ o, h.get? T' = some o) → T' < T) : Prs h' S xs ys (acc.push (.ref T)) := by
  intro j v hj
  rw [Array.getElem?_push] at hj
  split at hj
  · rename_i e
    cases hj
    subst e
    refine ⟨T, x, y, rfl, hT, hx, hy, hp, fun j' hl T' q => ?_⟩
    rw [Array.getElem?_push, if_neg (Nat.ne_of_lt hl)] at q
    obtain ⟨T2, x2, y2, e2, _, _, _, p2, _⟩ := p j' _ q
    cases e2
    exact hn _ ⟨_, p2⟩
  · obtain ⟨T2, x2, y2, e2, l2, a2, b2, p2, q2⟩ := p j v hj
    refine ⟨T2, x2, y2, e2, l2, a2, b2, k _ _ l2 p2, fun j' hl T' q => ?_⟩
    have lt : j < acc.size := (Array.getElem?_eq_some_iff.mp hj).1
    rw [Array.getElem?_push, if_neg (Nat.ne_of_lt (Nat.lt_trans hl lt))] at q
    exact q2 j' hl T' q
theorem zip_loop {R : Result → Shared → Prop} (hh : A.handled = none) (D : ZipApart z TI TO i1 i2 l1 l2) (hS : ∀ c, c = z ∨ c = TI ∨ c = TO ∨ c = i1 ∨ c = i2 ∨ c = l1 ∨ c = l2 → c < S) (res : Value) (hl : xs.size = ys.size) (hn : xs.size ≤ sizeLine) :
    ∀ (k i : Nat) (s : Shared) (acc : Array Value) (c : Nat), xs.size - i = k → i ≤ xs.size → ZAt s.heap z TI TO i1 i2 l1 l2 S xs ys i → s.heap.get? S = some (lsO acc c) → acc.size = i → Prs s.heap S xs ys acc →
    (∀ h' acc' c', (∀ b o, b ≠ S → b ≠ z → b ≠ TO → b ≠ i1 → b ≠ i2 → s.heap.get? b = some o → h'.get? b = some o) → h'.get? S = some (lsO acc' c') → acc'.size = xs.size → Prs h' S xs ys acc' → R (.ok (.ret res)) { s with heap := h' }) →
    codeAny (model prog w) A (.builtin "list.extend.loop" ⟨[.ref S, .ref z, res], []⟩) R s := by
  have hS' : ∀ c, c = z ∨ c = TI ∨ c = TO ∨ c = i1 ∨ c = i2 ∨ c = l1 ∨ c = l2 → c ≠ S := fun c q => Nat.ne_of_lt (hS c q)
  intro k
  induction k with
  | zero =>
    intro i s acc c hk hi st hls ha hp hR
    obtain rfl : i = xs.size := by omega
    refine codeAny_builtin F.entry_extend_loop ?_
    rw [Around.under_plainId F.plain_extend_loop _]
    show wpAny _ A.in1 (pyNext (.ref z) >>= _) _ _ s
    refine wpAny_bind (zAt_end (S := S) hh D st (by simp) fun h' hk => wpAny_pure ?_)
    exact hR h' acc c (fun b o _ b1 b2 b3 b4 e => hk b o b1 b2 b3 b4 e) (hk S _ (hS' z (by simp)).symm (hS' TO (by simp)).symm (hS' i1 (by simp)).symm (hS' i2 (by simp)).symm hls) ha fun j v hj => by
      obtain ⟨T, x, y, e, l, a, b, p, q⟩ := hp j v hj
      have nz : ∀ c, (c = z ∨ c = TI ∨ c = TO ∨ c = i1 ∨ c = i2 ∨ c = l1 ∨ c = l2) → T ≠ c := fun c q => Nat.ne_of_gt (Nat.lt_trans (hS c q) l)
      exact ⟨T, x, y, e, l, a, b, hk _ _ (nz _ (by simp)) (nz _ (by simp)) (nz _ (by simp)) (nz _ (by simp)) p, q⟩
  | succ k ih =>
    intro i s acc c hk hi st hls ha hp hR
    have hlt : i < xs.size := by omega
    have hx : xs[i]? = some xs[i] := Array.getElem?_eq_getElem hlt
    have hlt2 : i < ys.size := by omega
    have hy : ys[i]? = some ys[i] := Array.getElem?_eq_getElem hlt2
    have sl := Heap.lt_size hls
    refine codeAny_builtin F.entry_extend_loop ?_
    rw [Around.under_plainId F.plain_extend_loop _]
    show wpAny _ A.in1 (pyNext (.ref z) >>= _) _ _ s
    refine wpAny_bind (zAt_next D st hx hy sl fun h' st' hp' hsz hk' => ?_)
    have hls' := hk' S _ (hS' z (by simp)).symm (hS' TO (by simp)).symm (hS' i1 (by simp)).symm (hS' i2 (by simp)).symm hls
    show wpAny _ A.in1 (updateSeq S (·.push (.ref s.heap.objs.size)) >>= _) _ _ _
    refine wpAny_bind ?_
    have ks : ∀ b o, b ≠ S → h'.get? b = some o → (h'.update S (Obj.mapSeq (·.push (.ref s.heap.objs.size)))).get? b = some o := fun b o hb e => (Heap.get?_update_other _ _ (Ne.symm hb)).trans e
    refine wpAny_updateSeq hls' rfl (wpAny_pure ⟨plainId_quiet F.plain_extend_loop _, ih (i + 1) _ (acc.push (.ref s.heap.objs.size)) _ (by omega) hlt (zAt_frame st' (fun b o e hb => ks b o hb e) hS') (Heap.get?_update_self _ hls' rfl) (by rw [Array.size_push, ha]) ?_ fun h'' acc' c' k2 q1 q2 q3 => ?_⟩)
      (by rw [ha]; omega) (by show (acc.push (Value.ref s.heap.objs.size)).size ≤ sizeLine + 1; rw [Array.size_push, ha]; omega)
    · subst ha
      refine prs_push hp (fun c o lc e => ?_) sl hx hy (ks _ _ (Nat.ne_of_gt sl) hp') fun T' ⟨o, e⟩ => Heap.lt_size e
      have nz : ∀ d, (d = z ∨ d = TI ∨ d = TO ∨ d = i1 ∨ d = i2 ∨ d = l1 ∨ d = l2) → c ≠ d := fun d q => Nat.ne_of_gt (Nat.lt_trans (hS d q) lc)
      exact ks _ _ (Nat.ne_of_gt lc) (hk' _ _ (nz _ (by simp)) (nz _ (by simp)) (nz _ (by simp)) (nz _ (by simp)) e)
    · exact hR h'' acc' c' (fun b o b0 b1 b2 b3 b4 e => k2 b o b0 b1 b2 b3 b4 (ks b o b0 (hk' b o b1 b2 b3 b4 e))) q1 q2 q3
theorem zip_no_len : typeLookup (.type "zip") "__len__" = pure none := by rw [typeLookup_type, builtinLookup_eq_fast]; kernel_rfl
theorem zip_no_hint : typeLookup (.type "zip") "__length_hint__" = pure none := by rw [typeLookup_type, builtinLookup_eq_fast]; kernel_rfl
theorem list_of_zip {Q : Value → Shared → Prop} (hh : A.handled = none) (D : ZipApart z TI TO i1 i2 l1 l2) (hz : IsZip s.heap z TI TO .none) (hTI : IsPair s.heap TI (.ref i1) (.ref i2)) (hTO : ∃ a b, IsPair s.heap TO a b) (h1 : s.heap.IsTupleIter i1 l1 0) (h2 : s.heap.IsTupleIter i2 l2 0)
    (hl1 : s.heap.IsTuple l1 xs) (hl2 : s.heap.IsTuple l2 ys) (hl : xs.size = ys.size) (hn : xs.size ≤ sizeLine)
    (hQ : ∀ h' acc c, (∀ b o, b ≠ z → b ≠ TO → b ≠ i1 → b ≠ i2 → s.heap.get? b = some o → h'.get? b = some o) → h'.get? s.heap.objs.size = some (lsO acc c) → acc.size = xs.size → Prs h' s.heap.objs.size xs ys acc → Q (.ref s.heap.objs.size) { s with heap := h' }) :
    wpAny (model prog w) A (call (.type "list") [.ref z]) Q E s := by
  have below : ∀ c, c = z ∨ c = TI ∨ c = TO ∨ c = i1 ∨ c = i2 ∨ c = l1 ∨ c = l2 → c < s.heap.objs.size := by
    rintro c (rfl | rfl | rfl | rfl | rfl | rfl | rfl)
    · exact Heap.lt_size hz
    · exact Heap.lt_size hTI
    · obtain ⟨_, _, q⟩ := hTO; exact Heap.lt_size q
    · obtain ⟨_, e, _⟩ := h1; exact Heap.lt_size e
    · obtain ⟨_, e, _⟩ := h2; exact Heap.lt_size e
    · obtain ⟨_, e, _⟩ := hl1; exact Heap.lt_size e
    · obtain ⟨_, e, _⟩ := hl2; exact Heap.lt_size e
  refine callType_codes (Q₁ := fun obj s₁ => obj = .ref s.heap.objs.size ∧ s₁ = { s with heap := s.heap.push (lsO #[] 0) }) F.called_list (F.typeCall_list_1 _) F.entry_list_init (code_list_new _ ⟨rfl, rfl⟩) fun obj s₁ q₁ => ?_
  obtain ⟨rfl, rfl⟩ := q₁
  have hls : (s.heap.push (lsO #[] 0)).get? s.heap.objs.size = some (lsO #[] 0) := Heap.get?_push_size _ rfl
  refine ⟨⟨_, hls, rfl⟩, F.args_list_init_2 _ _, ?_⟩
  show wpAny _ A.in1.in1 (do let old ← Builtin.List.listItems (.ref s.heap.objs.size); Builtin.List.listUpdate (.ref s.heap.objs.size) (fun _ => #[]); letGo old.toList.reverse; Builtin.List.listExtendWith (.ref s.heap.objs.size) (.ref z) .none) _ _ _
  refine wpAny_bind ?_
  unfold Builtin.List.listItems
  refine wpAny_bind (wpAny_seqItems hls rfl (wpAny_pure ?_))
  show wpAny _ A.in1.in1 (updateSeq s.heap.objs.size (fun _ => #[]) >>= fun _ => letGo (#[] : Array Value).toList.reverse >>= fun _ => Builtin.List.listExtendWith (.ref s.heap.objs.size) (.ref z) .none) _ _ _
  refine wpAny_bind (wpAny_updateSeq hls rfl ?_)
  have hls2 := Heap.get?_update_self (Obj.mapSeq (fun _ => (#[] : Array Value))) hls rfl
  refine wpAny_bind (wpAny_letGo ?_)
  have oth : ∀ b o, s.heap.get? b = some o → ((s.heap.push (lsO #[] 0)).update s.heap.objs.size (Obj.mapSeq (fun _ => (#[] : Array Value)))).get? b = some o :=
    fun b o e => (Heap.get?_update_other _ _ (Nat.ne_of_gt (Heap.lt_size e))).trans (Heap.get?_push_of_some _ e)
  have hz2 := oth _ _ hz
  have ht2 : ∀ t, (⟨(s.heap.push (lsO #[] 0)).update s.heap.objs.size (Obj.mapSeq (fun _ => (#[] : Array Value))), s.gens, s.drawn, t, s.os⟩ : Shared).TypeIs (.ref z) "zip" := fun _ => ⟨_, hz2, rfl⟩
  unfold Builtin.List.listExtendWith
  refine wpAny_bind (wpAny_typeOf (ht2 _) ?_)
  have e1 : Builtin.List.listSameRef (.ref s.heap.objs.size) (.ref z) = false := by simp [Builtin.List.listSameRef, Nat.ne_of_gt (below z (.inl rfl))]
  have e2 : (Value.type "zip" == Value.type "list") = false := by decide
  have e3 : (Value.type "zip" == Value.type "tuple") = false := by decide
  simp only [e1, e2, e3, Bool.or_false, Bool.false_eq_true, if_false]
  refine wpAny_bind (wpAny_pyIter_zip (f0 := .none) hz2 ?_)
  refine wpAny_bind (wpAny_holding ?_)
  unfold Builtin.List.listLengthHint
  refine wpAny_bind (wpAny_specialOf (ht2 _) zip_no_len ?_)
  show wpAny _ A.in1.in1 (specialOf (Value.ref z) (Str.ofString "__length_hint__") >>= _) _ _ _
  refine wpAny_bind (wpAny_specialOf (ht2 _) zip_no_hint ?_)
  refine wpAny_pure ?_
  show wpAny _ A.in1.in1 (rule "list.extend.makes-room" >>= fun _ => Builtin.List.listTouch (.ref s.heap.objs.size) >>= fun _ => again (.builtin "list.extend.loop" ⟨[.ref s.heap.objs.size, .ref z, .none], []⟩)) _ _ _
  refine wpAny_bind (wpAny_rule ?_)
  refine wpAny_bind ?_
  show wpAny _ A.in1.in1 (updateSeq s.heap.objs.size (·.push .none) >>= fun _ => updateSeq s.heap.objs.size (·.pop)) _ _ _
  refine wpAny_bind (wpAny_updateSeq hls2 rfl ?_)
  have hls3 := Heap.get?_update_self (Obj.mapSeq (·.push Value.none)) hls2 rfl
  refine wpAny_updateSeq (hz := by seq_fits) hls3 rfl ?_
  have hls4 := Heap.get?_update_self (Obj.mapSeq (·.pop)) hls3 rfl
  refine wpAny_pure ⟨plainId_quiet F.plain_extend_loop _, ?_⟩
  have ne : ∀ b o, s.heap.get? b = some o → b ≠ s.heap.objs.size := fun b o e => Nat.ne_of_lt (Heap.lt_size e)
  have oth2 : ∀ b o, s.heap.get? b = some o → ((((s.heap.push (lsO #[] 0)).update s.heap.objs.size (Obj.mapSeq (fun _ => (#[] : Array Value)))).update s.heap.objs.size (Obj.mapSeq (·.push Value.none))).update s.heap.objs.size (Obj.mapSeq (·.pop))).get? b = some o :=
    fun b o e => (Heap.get?_update_other _ _ (Ne.symm (ne b o e))).trans ((Heap.get?_update_other _ _ (Ne.symm (ne b o e))).trans (oth b o e))
  obtain ⟨ta, tb, hTO⟩ := hTO
  exact zip_loop (A := A.in1) hh D below .none hl hn _ 0 _ #[] _ rfl (Nat.zero_le _) ⟨⟨_, _, oth2 _ _ hz, .inl ⟨rfl, rfl⟩⟩, oth2 _ _ hTI, ⟨_, _, oth2 _ _ hTO⟩, h1.at fun o e => oth2 _ o e, h2.at fun o e => oth2 _ o e, hl1.at fun o e => oth2 _ o e, hl2.at fun o e => oth2 _ o e⟩ hls4 rfl (fun j v q => by simp at q)
    fun h' acc c k q1 q2 q3 => ⟨rfl, hQ h' acc c (fun b o b1 b2 b3 b4 e => k b o (ne b o e) b1 b2 b3 b4 (oth2 b o e)) q1 q2 q3⟩
end
end Mi

/-! Mi22 -/
set_option Elab.async false
set_option linter.all false
set_option maxRecDepth 100000
set_option maxHeartbeats 1000000
set_option autoImplicit false
namespace Mi
open PySem PySem.Spec PyProof.Rows L2 RZ StX

/-! ### many new tuples seen at once -/
structure NewT where
  t : Addr
  vs : List V
  us : List Value
theorem lay_all {X : Cx} {pins : List (Addr × Obj)} {σ : L2.St} {s : Shared} {h : Heap} : ∀ (L : List NewT) (H : Hp) (G : Heap), Inv X pins σ H { s with heap := G } → (∀ b o, G.get? b = some o → h.get? b = some o) →
    (∀ q ∈ L, G.get? q.t = none ∧ H q.t = none ∧ Vals q.vs q.us ∧ q.vs.length ≤ sizeLine ∧ h.get? q.t = some { cls := .type "tuple", data := .seq q.us.toArray }) → (L.map NewT.t).Nodup →
    ∃ (G' : Heap) (H' : Hp), Inv X pins σ H' { s with heap := G' } ∧ (∀ b o, G'.get? b = some o → h.get? b = some o) ∧ (∀ b, b ∉ L.map NewT.t → H' b = H b ∧ (G.get? b = none → G'.get? b = none)) ∧ (∀ b o, H b = some o → H' b = some o) ∧ ∀ q ∈ L, H' q.t = some (.tup q.vs)
  | [], H, G, I, sub, _, _ => ⟨G, H, I, sub, fun _ _ => ⟨rfl, id⟩, fun _ _ e => e, fun _ z => by cases z⟩
  | q :: L, H, G, I, sub, all, nd => by
    obtain ⟨a1, a2, a3, a4, a5⟩ := all q (List.mem_cons_self ..)
    obtain ⟨G1, g1, g2⟩ := restrict h fun b => (G.get? b).isSome || b == q.t
    have up : ∀ b o, G.get? b = some o → G1.get? b = some o := fun b o e => by
      rw [g1 b (by rw [e]; rfl)]
      exact sub b o e
    have at1 : G1.get? q.t = some { cls := .type "tuple", data := .seq q.us.toArray } := by
      rw [g1 q.t (by simp)]
      exact a5
    have sub1 : ∀ b o, G1.get? b = some o → h.get? b = some o := fun b o e => by
      cases z : ((G.get? b).isSome || b == q.t) with
      | true => rw [g1 b z] at e; exact e
      | false => rw [g2 b z] at e; cases e
    have I1 : Inv X pins σ (upd H q.t (.tup q.vs)) { s with heap := G1 } := I.laidN (t' := s.toks) up a1 a2 ⟨a4, q.us, a3, ⟨_, at1, rfl, _, rfl⟩⟩
    have nd' := List.nodup_cons.mp (show (q.t :: L.map NewT.t).Nodup from nd)
    have ne : ∀ p ∈ L, p.t ≠ q.t := fun p hp e => nd'.1 (List.mem_map.mpr ⟨p, hp, e⟩)
    obtain ⟨G2, H2, I2, s2, k2, m2, l2⟩ := lay_all L _ G1 I1 sub1 (fun p hp => by
      obtain ⟨b1, b2, b3, b4, b5⟩ := all p (List.mem_cons_of_mem _ hp)
      refine ⟨?_, ?_, b3, b4, b5⟩
      · refine g2 _ ?_
        rw [b1]
        simpa using ne p hp
      · rw [upd_ne (ne p hp)]
        exact b2) nd'.2
    refine ⟨G2, H2, I2, s2, fun b hb => ?_, fun b o e => m2 b o ?_, fun p hp => ?_⟩
    · have hb' : b ≠ q.t ∧ b ∉ L.map NewT.t := by
        have : b ∉ q.t :: L.map NewT.t := hb
        simpa using this
      obtain ⟨c1, c2⟩ := k2 b hb'.2
      refine ⟨c1.trans (upd_ne hb'.1), fun z => c2 (g2 b ?_)⟩
      rw [z]
      simpa using hb'.1
    · rw [upd_ne (ne_of_none e a2)]
      exact e
    · rcases List.mem_cons.mp hp with rfl | hp
      · exact m2 _ _ upd_same
      · exact l2 p hp
/-- pairs of items, new -/
def PrsH (H : Hp) (ts : List Addr) (xs ys : List V) : Prop := ts.length = xs.length ∧ ∀ (j : Nat) (t : Addr), ts[j]? = some t → ∃ x y, xs[j]? = some x ∧ ys[j]? = some y ∧ H t = some (.tup [x, y])
def kLZ (K : PySem.W.Frag) (vs : List V) (H1 : Hp) (Q : VK) : Prop := ∃ a b xs ys, vs = [V.ref a, V.ref b] ∧ SqT K H1 a xs ∧ SqT K H1 b ys ∧ xs.length = ys.length ∧
  ∀ (S : Addr) (ts : List Addr) (H' : Hp), (∀ b o, H1 b = some o → H' b = some o) → H1 S = none → H' S = some (.lst (ts.map V.ref)) → PrsH H' ts xs ys → Q (.ref S) H'
section
variable {X : Cx} {pins : List (Addr × Obj)} {σ : L2.St} {H : Hp} {s : Shared} {Q : VK}
theorem val_refs : ∀ {n : Nat} {acc : List Value}, acc.length = n → (∀ (j : Nat) (v : Value), acc[j]? = some v → ∃ T : Addr, v = Value.ref T) → ∃ ts : List Addr, acc = ts.map Value.ref
  | _, [], _, _ => ⟨[], rfl⟩
  | _, v :: acc, _, h => by
    obtain ⟨T, rfl⟩ := h 0 v rfl
    obtain ⟨ts, rfl⟩ := val_refs (acc := acc) rfl fun j v e => h (j + 1) v e
    exact ⟨T :: ts, rfl⟩
theorem vals_refs : ∀ (ts : List Addr), Vals (ts.map V.ref) (ts.map Value.ref)
  | [] => .nil
  | t :: ts => .cons rfl (vals_refs ts)
theorem news_of {P : NewT → Prop} : ∀ (ts : List Addr), (∀ t ∈ ts, ∃ q : NewT, q.t = t ∧ P q) → ∃ L : List NewT, L.map NewT.t = ts ∧ ∀ q ∈ L, P q
  | [], _ => ⟨[], rfl, fun _ z => by cases z⟩
  | t :: ts, h => by
    obtain ⟨q, e, p⟩ := h t (List.mem_cons_self ..)
    obtain ⟨L, e2, p2⟩ := news_of ts fun t ht => h t (List.mem_cons_of_mem _ ht)
    refine ⟨q :: L, by rw [List.map_cons, e, e2], fun r hr => ?_⟩
    rcases List.mem_cons.mp hr with rfl | hr
    · exact p
    · exact p2 r hr
theorem up_nodup {ts : List Addr} (h : ∀ (j j' : Nat) (t t' : Addr), j' < j → ts[j]? = some t → ts[j']? = some t' → t' < t) : ts.Nodup := by
  refine List.pairwise_iff_getElem.mpr fun i j hi hj hij e => ?_
  have := h j i ts[j] ts[i] hij (List.getElem?_eq_getElem hj) (List.getElem?_eq_getElem hi)
  rw [e] at this
  exact Nat.lt_irrefl _ this
theorem nodup_ix {ts : List Addr} (nd : ts.Nodup) {i j : Nat} {t : Addr} (e1 : ts[i]? = some t) (e2 : ts[j]? = some t) : i = j := by
  obtain ⟨i1, w1⟩ := List.getElem?_eq_some_iff.mp e1
  obtain ⟨i2, w2⟩ := List.getElem?_eq_some_iff.mp e2
  have p := List.pairwise_iff_getElem.mp nd
  rcases Nat.lt_trichotomy i j with q | q | q
  · exact absurd (w1.trans w2.symm) (p i j i1 i2 q)
  · exact q
  · exact absurd (w2.trans w1.symm) (p j i i2 i1 q)
theorem zip_then_list {a b : Addr} {xs ys : List V} (hc : X.calm = true) (I : Inv X pins σ H s) (hx : SqT X.K H a xs) (hy : SqT X.K H b ys) (hl : xs.length = ys.length) {P : Value → Shared → Prop}
    (hP : ∀ z s2, wpAny (model X.prog X.w) X.A (call (.type "list") [z]) (fun v s3 => ∃ (S : Addr) (ts : List Addr) (H' : Hp), v = .ref S ∧ Inv X pins σ H' s3 ∧ (∀ b o, H b = some o → H' b = some o) ∧ H S = none ∧ H' S = some (.lst (ts.map V.ref)) ∧ PrsH H' ts xs ys) X.xe s2 → P z s2) :
    wpAny (model X.prog X.w) X.A (call (.type "zip") [.ref a, .ref b]) P X.xe s := by
  obtain ⟨its, rv, p1, lz⟩ := I.tuple hx
  obtain ⟨its2, rv2, p2, lz2⟩ := I.tuple hy
  obtain ⟨o1, ho1, _⟩ := id p1
  obtain ⟨o2, ho2, _⟩ := id p2
  have l1 := rv.length
  have l2 := rv2.length
  refine call_zipT (show s.heap.IsTuple a its.toArray from p1) (show s.heap.IsTuple b its2.toArray from p2) fun h' hz hTI hTO h1 h2 hsz hk => hP _ _ ?_
  have D := PySem.W.ktu_apart s.heap.objs.size a b (Heap.lt_size ho1) (Heap.lt_size ho2)
  refine list_of_zip (s := { s with heap := h' }) (I.ok.hd hc) D hz hTI ⟨_, _, hTO⟩ h1 h2 ((show s.heap.IsTuple a its.toArray from p1).at fun o e => hk _ o e) ((show s.heap.IsTuple b its2.toArray from p2).at fun o e => hk _ o e) (by simp; omega) (by simp; omega) fun h acc c k q1 q2 q3 => ?_
  show ∃ (S : Addr) (ts : List Addr) (H' : Hp), Value.ref h'.objs.size = .ref S ∧ _
  have q1' : h.get? h'.objs.size = some (lsO acc c) := q1
  have q3' : Prs h h'.objs.size its.toArray its2.toArray acc := q3
  have old : ∀ b o, s.heap.get? b = some o → h.get? b = some o := fun b o e => by
    have lt := Heap.lt_size e
    refine k b o (fun z => ?_) (fun z => ?_) (fun z => ?_) (fun z => ?_) (hk b o e)
    all_goals (rw [z] at lt; first | exact absurd lt (Nat.not_lt.mpr (Nat.le_add_right _ _)) | exact absurd lt (Nat.lt_irrefl _))
  obtain ⟨ts, ets⟩ := val_refs (acc := acc.toList) rfl fun j v e => by
    obtain ⟨T, _, _, r, _⟩ := q3' j v (by simpa using e)
    exact ⟨T, r⟩
  have at_ : ∀ (j : Nat) (t : Addr), ts[j]? = some t → acc[j]? = some (.ref t) := fun j t e => by
    have : acc.toList[j]? = some (.ref t) := by rw [ets, List.getElem?_map, e]; rfl
    simpa using this
  have nd : ts.Nodup := up_nodup fun j j' t t' lt e e' => by
    obtain ⟨T, x, y, z, _, _, _, _, q⟩ := q3' j _ (at_ j t e)
    cases z
    exact q j' lt t' (at_ j' t' e')
  have big : ∀ t ∈ ts, h'.objs.size < t := fun t ht => by
    obtain ⟨j, hj, e⟩ := List.getElem_of_mem ht
    obtain ⟨T, x, y, z, l, _⟩ := q3' j _ (at_ j t (by rw [List.getElem?_eq_getElem hj, e]))
    cases z
    exact l
  obtain ⟨G0, g1, g2⟩ := restrict h fun c => !(c == h'.objs.size) && !(ts.contains c)
  have up0 : ∀ c o, s.heap.get? c = some o → G0.get? c = some o := fun c o e => by
    have lt := Heap.lt_size e
    rw [g1 c]
    · exact old c o e
    · have n1 : c ≠ h'.objs.size := fun z => by rw [z, hsz] at lt; exact absurd lt (Nat.not_lt.mpr (Nat.le_add_right _ _))
      have n2 : c ∉ ts := fun z => by
        have q := big c z
        rw [hsz] at q
        exact absurd lt (Nat.not_lt.mpr (Nat.le_of_lt (Nat.lt_of_le_of_lt (Nat.le_add_right _ 5) q)))
      simp [n1, n2]
  have I0 : Inv X pins σ H { s with heap := G0 } := I.kept (t' := s.toks) up0
  have sub0 : ∀ c o, G0.get? c = some o → h.get? c = some o := fun c o e => by
    cases z : (!(c == h'.objs.size) && !(ts.contains c)) with
    | true => rw [g1 c z] at e; exact e
    | false => rw [g2 c z] at e; cases e
  have fresh : ∀ c, s.heap.objs.size ≤ c → H c = none := fun c q => I.hok.fresh q
  obtain ⟨L, eL, pL⟩ := news_of (P := fun q => ∃ j x y, ts[j]? = some q.t ∧ xs[j]? = some x ∧ ys[j]? = some y ∧ q.vs = [x, y] ∧ Vals q.vs q.us ∧ h.get? q.t = some { cls := .type "tuple", data := .seq q.us.toArray }) ts fun t ht => by
    obtain ⟨j, hj, e⟩ := List.getElem_of_mem ht
    have e1 : ts[j]? = some t := by rw [List.getElem?_eq_getElem hj, e]
    obtain ⟨T, u, u2, z, _, z1, z2, z3, _⟩ := q3' j _ (at_ j t e1)
    cases z
    have y1 : its[j]? = some u := by simpa using z1
    have y2 : its2[j]? = some u2 := by simpa using z2
    obtain ⟨k1, _⟩ := List.getElem?_eq_some_iff.mp y1
    obtain ⟨k2, _⟩ := List.getElem?_eq_some_iff.mp y2
    have x1 : xs[j]? = some xs[j] := List.getElem?_eq_getElem (by omega)
    have x2 : ys[j]? = some ys[j] := List.getElem?_eq_getElem (by omega)
    obtain ⟨w1, f1, r1⟩ := rv.get x1
    obtain ⟨w2, f2, r2⟩ := rv2.get x2
    rw [y1] at f1
    cases f1
    rw [y2] at f2
    cases f2
    exact ⟨⟨t, [xs[j], ys[j]], [u, u2]⟩, rfl, j, _, _, e1, x1, x2, rfl, .cons r1 (.cons r2 .nil), z3⟩
  obtain ⟨G1, H1, I1, sub1, k1, m1, n1⟩ := lay_all L H G0 I0 sub0 (fun q hq => by
    obtain ⟨j, x, y, e1, _, _, e4, e5, e6⟩ := pL q hq
    have mem : q.t ∈ ts := List.mem_of_getElem? e1
    refine ⟨g2 _ (by simp [mem]), fresh _ ?_, e5, by rw [e4]; show 2 ≤ sizeLine; decide, e6⟩
    have := big _ mem
    rw [hsz] at this
    exact Nat.le_of_lt (Nat.lt_of_le_of_lt (Nat.le_add_right _ 5) this)) (by rw [eL]; exact nd)
  have nS : h'.objs.size ∉ ts := fun z => Nat.lt_irrefl _ (big _ z)
  obtain ⟨c1, c2⟩ := k1 h'.objs.size (by rw [eL]; exact nS)
  have HS : H h'.objs.size = none := fresh _ (by rw [hsz]; exact Nat.le_add_right _ _)
  have tl : ts.length = xs.length := by
    have : acc.toList.length = ts.length := by rw [ets, List.length_map]
    have e2 : acc.size = its.toArray.size := q2
    simp at this e2
    omega
  have I2 : Inv X pins σ (upd H1 h'.objs.size (.lst (ts.map V.ref))) { s with heap := h } := I1.laidN (t' := s.toks) sub1 (c2 (g2 _ (by simp))) (c1.trans HS)
    ⟨by rw [List.length_map, tl]; exact lz, ts.map Value.ref, c, vals_refs ts, by rw [← ets]; simpa using q1'⟩
  refine ⟨_, ts, _, rfl, I2, fun b o e => ?_, HS, upd_same, tl, fun j t e => ?_⟩
  · rw [upd_ne (ne_of_none e HS)]
    exact m1 b o e
  · have mem : t ∈ ts := List.mem_of_getElem? e
    rw [← eL] at mem
    obtain ⟨q, hq, rfl⟩ := List.mem_map.mp mem
    obtain ⟨j2, x, y, e1, e2, e3, e4, _⟩ := pL q hq
    have ej : j2 = j := nodup_ix nd e1 e
    subst ej
    refine ⟨x, y, e2, e3, ?_⟩
    rw [upd_ne (fun z => nS (by rw [← z, ← eL]; exact List.mem_map.mpr ⟨q, hq, rfl⟩)), n1 q hq, e4]
variable {p q pos qpos : Pos} {e1 e2 e : Expr} {ta : TA} {te : TE}
theorem pe_listZip (hc : X.calm = true) (hml : X.mg "list" = none) (hmz : X.mg "zip" = none) (ha : PA X [e1, e2] ta) (hgl : Gl X "list" := by rfl) (hgz : Gl X "zip" := by rfl)
    (hs : starEach [e1, e2] X.env = (false, eval e1 X.env) :: starEach [e2] X.env := by rfl) (hpl : (backTo qpos (starEach [e2] X.env)).any (·.1) = false := by rfl)
    (hs2 : starEach [.Call (.Name "zip" q) [e1, e2] [] qpos] X.env = (false, eval (.Call (.Name "zip" q) [e1, e2] [] qpos) X.env) :: starEach [] X.env := by rfl) :
    PE X (.Call (.Name "list" p) [.Call (.Name "zip" q) [e1, e2] [] qpos] [] pos) (fun σ H Q => ta σ H fun vs H1 => kLZ X.K vs H1 Q) := by
  refine ⟨fun pins s σ H Q I h => ?_⟩
  refine Call_ (ld_blt I hgl hml (u := .type "list") (by decide +kernel) (PyProof.Rows.callWith_type1 ?_ hs2 rfl))
  rw [hs2]
  show wpAny _ _ (spliced ((false, eval (.Call (.Name "zip" q) [e1, e2] [] qpos) X.env) :: backTo pos (starEach [] X.env))) _ _ s
  refine Calls.spliced_cons ?_
  refine Call_ (ld_blt I hgz hmz PyProof.Rows.boot_zip (PyProof.Rows.callWith_type1 (thn (ha.run qpos pins s σ H _ I h) fun us s1 ⟨vs, H1, I1, r1, q1⟩ => ?_) hs hpl))
  obtain ⟨a, b, xs, ys, rfl, hx, hy, hl, k⟩ := q1
  cases r1 with
  | cons ra rr =>
    cases rr with
    | cons rb rr =>
      cases rr
      cases ra
      cases rb
      refine zip_then_list hc I1 hx hy hl fun z s2 hz => Calls.spliced_nil (thn hz fun v s3 ⟨S, ts, H', ev, I3, k1, k2, k3, k4⟩ => ⟨.ref S, H', I3, ev, k S ts H' k1 k2 k3 k4⟩)
theorem keeper_zip {M : Model} {h : Heap} : PySem.W.Looks M h (keeperOf (.type "zip")) Keeper.machine := by
  unfold keeperOf
  exact .now
theorem pe_listZipS {sp_ : Pos} (hc : X.calm = true) (hml : X.mg "list" = none) (hmz : X.mg "zip" = none) (he : PE X e te) (hgl : Gl X "list" := by rfl) (hgz : Gl X "zip" := by rfl)
    (hst : starEach [.Starred e sp_] X.env = [(true, eval e X.env)] := by rfl)
    (hs2 : starEach [.Call (.Name "zip" q) [.Starred e sp_] [] qpos] X.env = (false, eval (.Call (.Name "zip" q) [.Starred e sp_] [] qpos) X.env) :: starEach [] X.env := by rfl) :
    PE X (.Call (.Name "list" p) [.Call (.Name "zip" q) [.Starred e sp_] [] qpos] [] pos) (fun σ H Q => te σ H fun y H1 => ∃ a ws, y = .ref a ∧ (SqT X.K H1 a ws ∨ SqL X.K H1 a ws) ∧ kLZ X.K ws H1 Q) := by
  refine ⟨fun pins s σ H Q I h => ?_⟩
  refine Call_ (ld_blt I hgl hml (u := .type "list") (by decide +kernel) (PyProof.Rows.callWith_type1 ?_ hs2 rfl))
  rw [hs2]
  show wpAny _ _ (spliced ((false, eval (.Call (.Name "zip" q) [.Starred e sp_] [] qpos) X.env) :: backTo pos (starEach [] X.env))) _ _ s
  refine Calls.spliced_cons ?_
  refine Call_ (ld_blt I hgz hmz PyProof.Rows.boot_zip ?_)
  rw [hst]
  refine PySem.W.ks_call (P := fun _ => True) rfl (fun _ _ => ⟨_, .inr (.inl rfl), keeper_zip⟩) (PySem.W.ks_lone (thn (he.run pins s σ H _ I h) fun v s1 ⟨y, H1, I1, ry, a, ws, ey, hws, q1⟩ => ?_))
  subst ey
  obtain rfl : v = Value.ref a := ry
  refine star_any I1 hws fun us s2 I2 rv => ⟨trivial, ?_⟩
  obtain ⟨a1, b1, xs, ys, rfl, hx, hy, hl, k⟩ := q1
  cases rv with
  | cons ra rr =>
    cases rr with
    | cons rb rr =>
      cases rr
      cases ra
      cases rb
      refine zip_then_list hc I2 hx hy hl fun z s3 hz => Calls.spliced_nil (thn hz fun v s4 ⟨S, ts, H', ev, I3, k1, k2, k3, k4⟩ => ⟨.ref S, H', I3, ev, k S ts H' k1 k2 k3 k4⟩)
end
end Mi

/-! Mi23 -/
set_option Elab.async false
set_option linter.all false
set_option maxRecDepth 100000
set_option maxHeartbeats 1000000
set_option autoImplicit false
namespace Mi
open PySem PySem.Spec PyProof.Rows L2

/-! ### list(zip(a, b)), list(zip(*ab)) of two tuples -/
def zipP : List PyData → List PyData → List PyData
  | a :: as, b :: bs => .dict [(.none, .none), (a, b)] :: zipP as bs
  | _, _ => []
def zipF : List D → Sto → Ot D
  | [.p (.tuple a), .p (.tuple b)], S => if a.length = b.length then .ok (.p (.list (zipP a b))) S else .bad
  | _, _ => .bad
def zipSF : D → Sto → Ot D
  | .p (.list [.tuple a, .tuple b]), S => if a.length = b.length then .ok (.p (.list (zipP a b))) S else .bad
  | _, _ => .bad
def eLZ (a : AM) : EM := fun env S => (a env S).bind zipF
def eLZS (m : EM) : EM := fun env S => (m env S).bind zipSF
section
variable {K : PySem.W.Frag} {R : Addr → Prop} {mg : Str → Option Value} {W : WX} {μ : Nat → Addr} {H H' : Hp} {S : Sto} {σ : L2.St} {env : Envr} {Q : VK}
theorem sp_keep {n : Nat} (k : ∀ b o, H b = some o → H' b = some o) : Sp1 μ n H μ n H' := ⟨Nat.le_refl _, fun _ _ => rfl, ⟨fun a o e _ => k a o e, fun _ e => .inl e, fun a xs e => k a _ e, fun a o u e => k a _ e⟩⟩
theorem rs_keep (k : ∀ b o, H b = some o → H' b = some o) (r : RS K R H μ S) : RS K R H' μ S :=
  ⟨r.inj, fun i c e => (r.cell i c e).mono (sp_keep k) fun o q => k _ o q, r.low, fun a q => by
    obtain ⟨z1, z2⟩ := r.res a q
    refine ⟨fun z => ?_, z2⟩
    cases e : H a with
    | none => exact z1 e
    | some o => rw [k a o e] at z; cases z⟩
theorem prsH_tail {t : Addr} {ts : List Addr} {x y : V} {xs ys : List V} (p : PrsH H (t :: ts) (x :: xs) (y :: ys)) : H t = some (.tup [x, y]) ∧ PrsH H ts xs ys := by
  obtain ⟨l, q⟩ := p
  refine ⟨?_, by simpa using l, fun j t' e => ?_⟩
  · obtain ⟨x', y', e1, e2, e3⟩ := q 0 t rfl
    cases e1
    cases e2
    exact e3
  · obtain ⟨x', y', e1, e2, e3⟩ := q (j + 1) t' e
    exact ⟨x', y', e1, e2, e3⟩
theorem pda_pairs {O : Addr → Prop} : ∀ {ts : List Addr} {xs ys : List V} {l l2 : List PyData}, PrsH H ts xs ys → xs.length = ys.length → PdAll K H O xs l → PdAll K H O ys l2 → PdAll K H O (ts.map V.ref) (zipP l l2)
  | [], _, _, _, _, p, hl, .nil, q => by cases q <;> exact .nil
  | [], _, _, _, _, p, hl, .cons _ _, _ => absurd p.1 (by simp)
  | t :: ts, _, _, _, _, p, hl, .nil, _ => absurd p.1 (by simp)
  | t :: ts, _, _, _, _, p, hl, .cons _ _, .nil => absurd hl (by simp)
  | t :: ts, _, _, _, _, p, hl, .cons a as, .cons b bs => by
    obtain ⟨p1, p2⟩ := prsH_tail p
    exact .cons (.wk p1 a b) (pda_pairs p2 (by simpa using hl) as bs)
theorem kLZ_ok {a b : Addr} {xs ys : List V} {l l2 : List PyData} (rs : RS K R H μ S) (hx : SqT K H a xs) (px : PdAll K H (Av R μ S.length) xs l) (hy : SqT K H b ys) (py : PdAll K H (Av R μ S.length) ys l2) (hl : l.length = l2.length)
    (h : Po K mg W R μ S H σ env (.ok (.p (.list (zipP l l2))) S) Q) : kLZ K [.ref a, .ref b] H Q := by
  have hl' : xs.length = ys.length := by rw [px.len, py.len]; exact hl
  refine ⟨a, b, xs, ys, rfl, hx, hy, hl', fun A ts H' k n1 e1 p => ?_⟩
  have sp : Sp1 μ S.length H μ S.length H' := sp_keep k
  exact h μ H' sp (rs_keep k rs) _ (.p (.lst e1 (fun z => not_own rs n1 z) (pda_pairs p hl' (px.mono (av_le sp.hp)) (py.mono (av_le sp.hp)))))
end
section
variable {X : Cx} {W : WX} {p q pos qpos sp_ : Pos} {e1 e2 e : Expr} {aa : AM} {m : EM}
theorem me_listZip (B : Bn X.mg) (hc : X.calm = true) (ha : PA X [e1, e2] (ta X.K X.mg W aa)) (hgl : Gl X "list" := by rfl) (hgz : Gl X "zip" := by rfl)
    (hs : starEach [e1, e2] X.env = (false, eval e1 X.env) :: starEach [e2] X.env := by rfl) (hpl : (backTo qpos (starEach [e2] X.env)).any (·.1) = false := by rfl)
    (hs2 : starEach [.Call (.Name "zip" q) [e1, e2] [] qpos] X.env = (false, eval (.Call (.Name "zip" q) [e1, e2] [] qpos) X.env) :: starEach [] X.env := by rfl) :
    PE X (.Call (.Name "list" p) [.Call (.Name "zip" q) [e1, e2] [] qpos] [] pos) (te X.K X.mg W (eLZ aa)) := by
  refine (pe_listZip hc B.list B.zip ha hgl hgz hs hpl hs2).w fun σ H Q ⟨R, μ, env, S, r, h⟩ => ⟨R, μ, env, S, r, ?_⟩
  refine poa_mono (poa_bind r h) fun vs H1 ⟨μ1, S1, ds, r1, dr, h1⟩ => ?_
  unfold zipF at h1
  split at h1
  · split at h1
    · rename_i hl
      obtain ⟨v, ws, rfl, d1, d2⟩ := drs_cons dr
      obtain ⟨v2, ws, rfl, f2, d3⟩ := drs_cons d2
      obtain rfl := drs_nil d3
      obtain ⟨a, xs, rfl, h3, h4⟩ := dr_tup d1
      obtain ⟨b, ys, rfl, g3, g4⟩ := dr_tup f2
      exact kLZ_ok r1.rs h3 h4 g3 g4 hl h1
    · exact h1.elim
  · exact h1.elim
theorem me_listZipS (B : Bn X.mg) (hc : X.calm = true) (he : PE X e (te X.K X.mg W m)) (hgl : Gl X "list" := by rfl) (hgz : Gl X "zip" := by rfl) (hst : starEach [.Starred e sp_] X.env = [(true, eval e X.env)] := by rfl)
    (hs2 : starEach [.Call (.Name "zip" q) [.Starred e sp_] [] qpos] X.env = (false, eval (.Call (.Name "zip" q) [.Starred e sp_] [] qpos) X.env) :: starEach [] X.env := by rfl) :
    PE X (.Call (.Name "list" p) [.Call (.Name "zip" q) [.Starred e sp_] [] qpos] [] pos) (te X.K X.mg W (eLZS m)) := by
  refine (pe_listZipS hc B.list B.zip he hgl hgz hst hs2).w fun σ H Q ⟨R, μ, env, S, r, h⟩ => ⟨R, μ, env, S, r, ?_⟩
  refine po_mono (po_bind r h) fun v H1 ⟨μ1, S1, d1, r1, h1⟩ => ?_
  obtain ⟨v', ws, ev, dv, _⟩ := drs_cons r1.tm
  cases ev
  unfold zipSF at h1
  split at h1
  · split at h1
    · rename_i hl
      obtain ⟨a, xs, rfl, h2, _, h4⟩ := dr_lst dv
      cases h4 with
      | cons ha hr =>
        cases hr with
        | cons hb hr =>
          cases hr
          cases ha with
          | tup ha1 ha2 =>
            cases hb with
            | tup hb1 hb2 =>
              exact ⟨a, _, rfl, .inr (SqL.of h2), kLZ_ok r1.rs ha1.sqt ha2 hb1.sqt hb2 hl h1⟩
    · exact h1.elim
  · exact h1.elim
end
end Mi

/-! Mi24 -/
set_option Elab.async false
set_option linter.all false
set_option maxRecDepth 100000
set_option maxHeartbeats 1000000
set_option autoImplicit false
namespace Mi
open PySem PySem.Spec PyProof.Rows L2

/-! ### tuple * 1 -/
theorem tuple_mul1 (l : Addr) (items : Array Value) (n : Nat) (dd : Option Addr) (sl : Array (Option Value)) (u : Tok) :
    Meets (Builtin.«tuple.__mul__» ⟨[.ref l, .int 1 u], []⟩) (fun _ R s => s.heap.get? l = some { cls := .type "tuple", dict := dd, data := .seq items n, slots := sl } ∧ R (.ok (.ret (.ref l))) s) :=
  .of_wp fun prog w A R s h => by
    obtain ⟨hp, g, d, tk, os⟩ := s
    obtain ⟨hl, h⟩ := h
    have f1 := AutoSeq1.idx_int
    have c1 : (items.isEmpty || (1 : Int) == 1) = true := by simp
    wp_walk using wpAny_loadPart' hl
    all_goals exact ⟨_, rfl, h⟩
def rRep1 (K : PySem.W.Frag) : R2 := fun x y H Q => ∃ l xs, x = .ref l ∧ y = .int 1 ∧ SqT K H l xs ∧ Q (.ref l) H
theorem op_rep1 {X : Cx} : OpR X (binaryOp .Mult) (rRep1 X.K) := by
  intro pins s σ H x y v u Q I rx ry h
  obtain ⟨l, xs, rfl, rfl, hT, q⟩ := h
  cases rx
  obtain ⟨t, rfl⟩ := ry
  obtain ⟨its, r, ⟨⟨cls, dd, data, sl⟩, ho, hc, n, hd⟩, hs⟩ := I.tuple hT
  simp only at hc hd
  subst hc hd
  refine wpAny_binaryOp_repeat_ref (T := "tuple") (U := "int") (by decide) ⟨_, ho, rfl⟩ (fun s' => typeIs_int s' 1 t) noFill_tuple_mul F.fills_int_mul F.slot_int_rmul repeat_tuple F.slot_int_index.lookup
    (call_meets F.slot_int_rmul (typeIs_int s 1 t) F.entry_int_rmul (F.args_int_rmul_2 _ _) (int_rmul_tuple 1 t l its.toArray n dd sl)
      ⟨ho, rfl, ⟨_, ho, rfl⟩, call_meets F.slot_tuple_mul ⟨_, ho, rfl⟩ F.entry_tuple_mul (F.args_tuple_mul_2 _ _) (tuple_mul1 l its.toArray n dd sl t) ⟨ho, ?_⟩⟩)
  exact ⟨.ref l, H, I, rfl, q⟩

/-! ### list * int, tuple * int -/
def repP (k : Nat) (l : List PyData) : List PyData := (List.replicate k l).flatten
theorem pda_rep {K : PySem.W.Frag} {H : Hp} {O : Addr → Prop} {xs : List V} {l : List PyData} (h : PdAll K H O xs l) : ∀ (k : Nat), PdAll K H O (List.replicate k xs).flatten (repP k l)
  | 0 => .nil
  | k + 1 => by
    unfold repP
    rw [List.replicate_succ, List.replicate_succ, List.flatten_cons, List.flatten_cons]
    exact pda_append h (pda_rep h k)
def repD : D → D → Sto → Ot D
  | .p (.int i), .p (.int j), S => mulD (.p (.int i)) (.p (.int j)) S
  | .p (.list l), .p (.int k), S => if 0 ≤ k ∧ k < 2 ^ 63 ∧ l.length * k.toNat ≤ sizeLine then .ok (.p (.list (repP k.toNat l))) S else .bad
  | .p (.tuple l), .p (.int k), S => if k = 1 then .ok (.p (.tuple l)) S else if l ≠ [] ∧ 2 ≤ k ∧ k ≤ 900 ∧ l.length ≤ 1000 then .ok (.p (.tuple (repP k.toNat l))) S else .bad
  | _, _, _ => .bad
def rRepD (K : PySem.W.Frag) : R2 := fun x y H Q => rI CMul (fun i j => .int (i * j)) x y H Q ∨ L2.rRep x y H Q ∨ rRep1 K x y H Q ∨ rRepF K x y H Q
theorem op_repD {X : Cx} : OpR X (binaryOp .Mult) (rRepD X.K) := by
  intro pins s σ H x y v u Q I rx ry h
  rcases h with h | h | h | h
  · exact op_mul pins s σ H x y v u Q I rx ry h
  · exact op_rep pins s σ H x y v u Q I rx ry h
  · exact op_rep1 pins s σ H x y v u Q I rx ry h
  · exact op_repF pins s σ H x y v u Q I rx ry h
theorem repD_ok {K : PySem.W.Frag} {mg : Str → Option Value} {W : WX} : Op2 K mg W repD (rRepD K) := by
  intro R μ H S σ env x y dx dy Q r h
  obtain ⟨y', ws, e1, hy, r1⟩ := drs_cons r.tm
  cases e1
  obtain ⟨x', ws', e2, hx, r2⟩ := drs_cons r1
  cases e2
  unfold repD at h
  split at h
  · exact .inl (mulD_ok R μ H S σ env _ _ _ _ Q r h)
  · split at h
    · rename_i hz
      obtain ⟨a, xs, rfl, h1, h2, h3⟩ := dr_lst hx
      rw [dr_int hy]
      exact .inr (.inl ⟨a, _, xs, rfl, rfl, h1, by omega, hz.2.1, by rw [h3.len]; exact hz.2.2, fun p hp => new_lst h r.rs (pda_rep h3 _) hp⟩)
    · exact h.elim
  · obtain ⟨a, xs, rfl, h1, h3⟩ := dr_tupE hx
    rw [dr_int hy]
    split at h
    · rename_i hk
      exact .inr (.inr (.inl ⟨a, xs, rfl, by rw [hk], h1.sqt, po_ok h r.rs (.p (.tup h1 h3))⟩))
    · split at h
      · rename_i hz
        rename_i ll kk _
        obtain ⟨m, hm⟩ : ∃ m : Nat, kk = ((m + 2 : Nat) : Int) := ⟨(kk - 2).toNat, by omega⟩
        subst hm
        have tn : (((m + 2 : Nat) : Int)).toNat = m + 2 := Int.toNat_natCast _
        rw [tn] at h
        refine .inr (.inr (.inr ⟨a, m, xs, rfl, rfl, h1.sqt, fun e => hz.1 ?_, by omega, by rw [h3.len]; exact hz.2.2.2, fun p o hp hd => new_tup h r.rs (pda_rep h3 _) hp hd⟩))
        subst e
        cases h3
        rfl
      · exact h.elim
  · exact h.elim
section
variable {X : Cx} {W : WX} {a b e o : Expr} {ma mb mo m : EM} {pos apos cpos p : Pos} {k : Nat} {aa : AM}
theorem me_rep (ha : PE X a (te X.K X.mg W ma)) (hb : PE X b (te X.K X.mg W mb)) : PE X (.BinOp a .Mult b pos) (te X.K X.mg W (eOp repD ma mb)) := me_op op_repD repD_ok ha hb

/-! ### is, is not -/
def rIsNo : R2 := fun x y H Q => y = .non ∧ Q (.bl (decide (x = .non))) H
def rIsD : R2 := fun x y H Q => rIsNo x y H Q ∨ rIsB x y H Q
theorem op_isD : OpR X (compareOp .Is) rIsD := by
  intro pins s σ H x y v u Q I rx ry h
  rcases h with h | h
  · exact op_isN pins s σ H x y v u Q I rx ry h
  · exact op_isBl pins s σ H x y v u Q I rx ry h
theorem isD_ok {K : PySem.W.Frag} {mg : Str → Option Value} {W : WX} : Op2 K mg W (isD false) rIsD := by
  intro R μ H S σ env x y dx dy Q r h
  obtain ⟨y', ws, e1, hy, r1⟩ := drs_cons r.tm
  cases e1
  obtain ⟨x', ws', e2, hx, r2⟩ := drs_cons r1
  cases e2
  unfold isD at h
  split at h
  · rename_i d
    refine .inl ⟨dr_non hy, ?_⟩
    have q := po_ok h r.rs (.p (.bl _))
    cases hx with
    | p hx => cases hx <;> exact q
  · obtain ⟨rfl, _⟩ := dr_loc hx
    exact .inl ⟨dr_non hy, po_ok h r.rs (.p (.bl _))⟩
  · rw [dr_bl hx, dr_bl hy]
    refine .inr ⟨_, _, rfl, rfl, ?_⟩
    have q := po_ok h r.rs (.p (.bl _))
    rename_i c d
    revert q
    cases c <;> cases d <;> exact id
  · exact h.elim
theorem me_is (ha : PE X a (te X.K X.mg W ma)) (hb : PE X b (te X.K X.mg W mb)) : PE X (.Compare a [.Is] [b] pos) (te X.K X.mg W (eOp (isD false) ma mb)) := me_cmp op_isD isD_ok ha hb (nomark _)

/-! ### the place of a thing: of plain data in a list, of an int in a tuple of ints -/
def indexL (y x : D) (S : Sto) : Ot D := match x with
  | .p a => match listOf y S with
    | some l => if SeqAt.shaped (unw1 a) = true ∧ SeqAt.shaped (.list (l.map unw1)) = true then (match (l.map unw1).findIdx? (fun z => PyData.eqv z (unw1 a)) with
      | some j => .ok (.p (.int (j : Nat))) S
      | none => .bad) else .bad
    | none => .bad
  | _ => .bad
theorem findIdx_at {α : Type} {p : α → Bool} : ∀ {l : List α} {j : Nat}, l.findIdx? p = some j → ∃ z, l[j]? = some z ∧ p z = true ∧ ∀ (m : Nat) (z' : α), m < j → l[m]? = some z' → p z' = false := by
  intro l j h
  obtain ⟨h1, h2, h3⟩ := List.findIdx?_eq_some_iff_getElem.mp h
  refine ⟨l[j], List.getElem?_eq_getElem h1, h2, fun m z' hm e => ?_⟩
  have q := h3 m hm
  obtain ⟨i1, i2⟩ := List.getElem?_eq_some_iff.mp e
  rw [← i2]
  simpa using q
def isLst (d : D) (S : Sto) : Bool := (listOf d S).isSome
def eIdx (ok : D → Sto → Bool) (f : D → D → Sto → Ot D) (mo m : EM) : EM := fun env S => (mo env S).bind fun d S1 => if ok d S1 = true then (m env S1).bind fun y S2 => f d y S2 else .bad
theorem listOf_seq {K : PySem.W.Frag} {R : Addr → Prop} {μ : Nat → Addr} {H : Hp} {S : Sto} {v : V} {d : D} (rs : RS K R H μ S) (h : DR K R H μ S.length v d) (e : isLst d S = true) : ∃ a xs, v = .ref a ∧ SqL K H a xs := by
  unfold isLst at e
  obtain ⟨l, e⟩ := Option.isSome_iff_exists.mp e
  unfold listOf at e
  split at e
  · obtain ⟨a, xs, rfl, h1, _⟩ := dr_lst h
    exact ⟨a, xs, rfl, SqL.of h1⟩
  · obtain ⟨xs, q1, q2⟩ := Option.bind_eq_some_iff.mp e
    obtain ⟨rfl, hi⟩ := dr_loc h
    obtain ⟨vs, g1, g2⟩ := rs.cell _ _ (cellL_some q1)
    exact ⟨_, vs, rfl, SqL.of g1⟩
  · cases e
theorem me_indexL (hr : Room k X.A) (ho : PE X o (te X.K X.mg W mo)) (he : PE X e (te X.K X.mg W m)) (hbase : attributeBase o "index" X.env (eval o X.env) = eval o X.env := by rfl)
    (hfew : ((backTo cpos (starEach [e] X.env)).all (fun x => !x.1) && (backToKw cpos (keywordEach [] X.env)).all (fun x => x.1.isSome) && decide (([e] : List Expr).length + ([] : List Keyword).length + (if ([] : List Keyword).isEmpty then 0 else 1) < 30)) = true := by rfl)
    (hline : (apos.endLine == cpos.line) = true := by rfl) (hs : starEach [e] X.env = (false, eval e X.env) :: starEach [] X.env := by rfl) (hplain : (backTo cpos (starEach [] X.env)).any (·.1) = false := by rfl) :
    PE X (.Call (.Attribute o "index" apos) [e] [] cpos) (te X.K X.mg W (eIdx isLst indexL mo m)) := by
  refine (pe_bm PySem.F.plainAttrs_list PySem.F.slot_list_index PySem.F.type_list_index (mt_indexD (room65 hr)) ho (pa_cons he pa_nil hs) hbase hfew hline hs hplain).w fun σ H Q ⟨R, μ, env, S, r, h⟩ => ⟨R, μ, env, S, r, ?_⟩
  refine po_mono (po_bind r h) fun x H1 ⟨μ1, S1, d1, r1, h1⟩ => ?_
  obtain ⟨x', ws, e1, hx, _⟩ := drs_cons r1.tm
  cases e1
  by_cases hc : isLst d1 S1 = true
  · rw [if_pos hc] at h1
    obtain ⟨a, xs, rfl, hq⟩ := listOf_seq r1.rs hx hc
    refine ⟨.inl ⟨rfl, xs, hq⟩, R, μ1, env, S1, r1.drop, ?_⟩
    refine po_mono (po_bind r1 h1) fun y H2 ⟨μ2, S2, d2, r2, h2⟩ => ?_
    obtain ⟨y', ws2, e2, hy, t2⟩ := drs_cons r2.tm
    cases e2
    obtain ⟨x2, ws3, e3, hx2, _⟩ := drs_cons t2
    cases e3
    cases hy with
    | loc _ => exact h2.elim
    | scr _ => exact h2.elim
    | @p _ z pz =>
      unfold indexL at h2
      dsimp only at h2
      cases hl : listOf d1 S2 with
      | none => rw [hl] at h2; exact h2.elim
      | some l =>
        rw [hl] at h2
        dsimp only at h2
        by_cases hz : SeqAt.shaped (unw1 z) = true ∧ SeqAt.shaped (.list (l.map unw1)) = true
        · rw [if_pos hz] at h2
          cases hj : (l.map unw1).findIdx? (fun u => PyData.eqv u (unw1 z)) with
          | none => rw [hj] at h2; exact h2.elim
          | some j =>
            rw [hj] at h2
            obtain ⟨u, f1, f2, f3⟩ := findIdx_at hj
            have p1 := pd1_dp pz (shaped_lay hz.1)
            have p2 := listOf_dp r2.rs hx2 hl hz.2
            exact ⟨a, _, unw1 z, l.map unw1, j, u, rfl, rfl, p2, p1, hz.2, hz.1, f1, f2, f3, po_ok h2 r2.rs (.p (.int _))⟩
        · rw [if_neg hz] at h2
          exact h2.elim
  · rw [if_neg hc] at h1
    exact h1.elim

/-- the first place of an int in a tuple of ints -/
def indexT (y x : D) (S : Sto) : Ot D := match y, x with
  | .p (.tuple l), .p (.int k) => match intsOf l with
    | some ns => if k ∈ ns then .ok (.p (.int (ns.idxOf k : Nat))) S else .bad
    | none => .bad
  | _, _ => .bad
def isTup : D → Sto → Bool
  | .p (.tuple _), _ => true
  | _, _ => false
theorem intsAre_of : ∀ {ns : List Int} {us : List Value}, Vals (ns.map V.int) us → IntsAre us ns
  | [], _, .nil => .nil
  | n :: ns, _, .cons h r => by
    obtain ⟨t, rfl⟩ := h
    exact .cons n t (intsAre_of r)
def rIdxT (K : PySem.W.Frag) : V → List V → Hp → VK → Prop := fun x xs H Q => ∃ (a : Addr) (ns : List Int) (k : Int), x = V.ref a ∧ xs = [V.int k] ∧ SqT K H a (ns.map V.int) ∧ k ∈ ns ∧ Q (.int (ns.idxOf k : Nat)) H
theorem mt_idxT : MtR X "tuple.index" (rIdxT X.K) := by
  intro pins s σ H x xs v us Q I rx rs h
  obtain ⟨a, ns, k, rfl, rfl, hq, hk, q⟩ := h
  cases rx
  obtain ⟨u, rfl, t, rfl⟩ := vals1 rs
  obtain ⟨its, r, pl, hz⟩ := I.tuple hq
  exact PySem.SeqAt.tuple_index_ints (show s.heap.IsTuple a its.toArray from pl) (intsAre_of r) hk ⟨.int (ns.idxOf k : Nat), H, I.tok _, ⟨_, rfl⟩, q⟩
theorem me_indexT (ho : PE X o (te X.K X.mg W mo)) (he : PE X e (te X.K X.mg W m)) (hbase : attributeBase o "index" X.env (eval o X.env) = eval o X.env := by rfl)
    (hfew : ((backTo cpos (starEach [e] X.env)).all (fun x => !x.1) && (backToKw cpos (keywordEach [] X.env)).all (fun x => x.1.isSome) && decide (([e] : List Expr).length + ([] : List Keyword).length + (if ([] : List Keyword).isEmpty then 0 else 1) < 30)) = true := by rfl)
    (hline : (apos.endLine == cpos.line) = true := by rfl) (hs : starEach [e] X.env = (false, eval e X.env) :: starEach [] X.env := by rfl) (hplain : (backTo cpos (starEach [] X.env)).any (·.1) = false := by rfl) :
    PE X (.Call (.Attribute o "index" apos) [e] [] cpos) (te X.K X.mg W (eIdx isTup indexT mo m)) := by
  refine (pe_tm PySem.F.slot_tuple_index PySem.F.type_tuple_index mt_idxT ho (pa_cons he pa_nil hs) hbase hfew hline hs hplain).w fun σ H Q ⟨R, μ, env, S, r, h⟩ => ⟨R, μ, env, S, r, ?_⟩
  refine po_mono (po_bind r h) fun x H1 ⟨μ1, S1, d1, r1, h1⟩ => ?_
  obtain ⟨x', ws, e1, hx, _⟩ := drs_cons r1.tm
  cases e1
  by_cases hc : isTup d1 S1 = true
  · rw [if_pos hc] at h1
    unfold isTup at hc
    split at hc
    · rename_i l
      obtain ⟨a, xs, rfl, hq, hp⟩ := dr_tupE hx
      refine ⟨⟨a, xs, rfl, hq⟩, R, μ1, env, S1, r1.drop, ?_⟩
      refine po_mono (po_bind r1 h1) fun y H2 ⟨μ2, S2, d2, r2, h2⟩ => ?_
      obtain ⟨y', ws2, e2, hy, t2⟩ := drs_cons r2.tm
      cases e2
      obtain ⟨x2, ws3, e3, hx2, _⟩ := drs_cons t2
      cases e3
      obtain ⟨b, ys, eb, hq2, hp2⟩ := dr_tupE hx2
      cases eb
      unfold indexT at h2
      split at h2
      · rename_i l2 k2 e4
        cases e4
        split at h2
        · rename_i ns hns
          split at h2
          · rename_i hm
            have e5 := intsOf_eq hns
            subst e5
            rw [dr_int hy]
            exact ⟨a, ns, _, rfl, rfl, by rw [← pda_ints_eq hp2]; exact hq2.sqt, hm, po_ok h2 r2.rs (.p (.int _))⟩
          · exact h2.elim
        · exact h2.elim
      · exact h2.elim
    · cases hc
  · rw [if_neg hc] at h1
    exact h1.elim
end
/-! ### sorted of a list of ints -/
def insI (x : Int) : List Int → List Int
  | [] => [x]
  | y :: r => if x ≤ y then x :: y :: r else y :: insI x r
def sortI : List Int → List Int
  | [] => []
  | x :: r => insI x (sortI r)
theorem insI_perm (x : Int) : ∀ l, (insI x l).Perm (x :: l)
  | [] => .refl _
  | y :: r => by
    unfold insI
    split
    · exact .refl _
    · exact ((insI_perm x r).cons y).trans (.swap x y r)
theorem sortI_perm : ∀ l, (sortI l).Perm l
  | [] => .refl _
  | x :: r => (insI_perm x _).trans ((sortI_perm r).cons x)
theorem insI_sorted (x : Int) : ∀ l : List Int, l.Pairwise (· ≤ ·) → (insI x l).Pairwise (· ≤ ·)
  | [], _ => List.pairwise_singleton _ _
  | y :: r, h => by
    obtain ⟨h1, h2⟩ := List.pairwise_cons.mp h
    unfold insI
    split
    · rename_i hl
      refine List.pairwise_cons.mpr ⟨fun z hz => ?_, h⟩
      rcases List.mem_cons.mp hz with rfl | hz
      · exact hl
      · exact Int.le_trans hl (h1 z hz)
    · rename_i hl
      refine List.pairwise_cons.mpr ⟨fun z hz => ?_, insI_sorted x r h2⟩
      rcases List.mem_cons.mp ((insI_perm x r).mem_iff.mp hz) with rfl | hz
      · omega
      · exact h1 z hz
theorem sortI_sorted : ∀ l, (sortI l).Pairwise (· ≤ ·)
  | [] => List.Pairwise.nil
  | x :: r => insI_sorted x _ (sortI_sorted r)
theorem sorted_one : ∀ {l m : List Int}, l.Pairwise (· ≤ ·) → m.Pairwise (· ≤ ·) → l.Perm m → l = m := fun {l m} h1 h2 p => p.eq_of_pairwise (fun a b _ _ h h' => Int.le_antisymm h h') h1 h2
def srtF : FM
  | [.p (.list l)], S => match intsOf l with
    | some ns => if ns.length < 64 then .ok (.p (.list ((sortI ns).map .int))) S else .bad
    | none => .bad
  | _, _ => .bad
theorem srtF_ok {K : PySem.W.Frag} {mg : Str → Option Value} {W : WX} : OpC K mg W srtF (rSorted K) := by
  intro R μ H S σ env vs ds Q rs dr h
  unfold srtF at h
  split at h
  · split at h
    · rename_i ns hns
      split at h
      · rename_i hz
        obtain ⟨v, ws, rfl, d1, d2⟩ := drs_cons dr
        obtain rfl := drs_nil d2
        obtain ⟨a, xs, rfl, h1, h2, h3⟩ := dr_lst d1
        have e := intsOf_eq hns
        subst e
        have e2 := pda_ints_eq h3
        subst e2
        refine ⟨a, ns, rfl, SqL.of h1, hz, fun ns' p hp hs hn => ?_⟩
        have e3 : ns' = sortI ns := sorted_one hs (sortI_sorted ns) (hp.trans (sortI_perm ns).symm)
        subst e3
        exact new_lst h rs pda_ints hn
      · exact h.elim
    · exact h.elim
  · exact h.elim
section
variable {X : Cx} {W : WX} {e : Expr} {pos p : Pos} {aa : AM}
theorem me_sorted (B : Bn X.mg) (ha : PA X [e] (ta X.K X.mg W aa)) (hg : Gl X "sorted" := by rfl) (he : starEach [e] X.env = (false, eval e X.env) :: starEach [] X.env := by rfl) : PE X (.Call (.Name "sorted" p) [e] [] pos) (te X.K X.mg W (eCall srtF aa)) :=
  me_callB cr_sorted srtF_ok B.sorted (by decide +kernel) ha hg (by decide) (by decide) he rfl
end
end Mi

/-! Mi25 -/
set_option Elab.async false
set_option linter.all false
set_option maxRecDepth 100000
set_option maxHeartbeats 1000000
set_option autoImplicit false
namespace Mi
open PySem PySem.Spec PyProof.Rows L2
/-- what has no rule: the reckoning is bad there -/
def eBad : EM := fun _ _ => .bad
theorem me_bad {X : Cx} {W : WX} {e : Expr} : PE X e (te X.K X.mg W eBad) := ⟨fun _ _ _ _ _ _ h => by
  obtain ⟨_, _, _, _, _, h⟩ := h
  exact h.elim⟩
end Mi

/-! Mi26 -/
set_option Elab.async false
set_option linter.all false
set_option maxRecDepth 100000
set_option maxHeartbeats 1000000
set_option autoImplicit false
namespace Mi
open PySem PySem.Spec PyProof.Rows L2

/-! ### dicts whose keys are tuples of ints and texts -/
def cellT (S : Sto) (i : Nat) : Option (List (List Key × D)) := match S[i]? with
  | some (.dt xs) => some xs
  | _ => none
theorem cellT_some {S : Sto} {i : Nat} {xs : List (List Key × D)} (h : cellT S i = some xs) : S[i]? = some (.dt xs) := by
  unfold cellT at h
  split at h
  · rename_i e
    cases h
    exact e
  · cases h
def keysL : List PyData → Option (List Key)
  | [] => some []
  | .int i :: r => (keysL r).map (.inl i :: ·)
  | .str x :: r => (keysL r).map (.inr x :: ·)
  | _ :: _ => none
def keysOf : D → Option (List Key)
  | .p (.dict [(.none, .none), (x, y)]) => keysL [x, y]
  | _ => none
theorem keysL_v {K : PySem.W.Frag} {H : Hp} {O : Addr → Prop} : ∀ {l : List PyData} {xs : List V} {ks : List Key}, PdAll K H O xs l → keysL l = some ks → xs = ks.map kV
  | [], _, _, .nil, e => by cases e; rfl
  | .int i :: r, _, _, .cons h t, e => by
    obtain ⟨ks, e1, rfl⟩ := Option.map_eq_some_iff.mp (show (keysL r).map (Sum.inl i :: ·) = some _ from e)
    cases h
    rw [keysL_v t e1]
    rfl
  | .str x :: r, _, _, .cons h t, e => by
    obtain ⟨ks, e1, rfl⟩ := Option.map_eq_some_iff.mp (show (keysL r).map (Sum.inr x :: ·) = some _ from e)
    cases h
    rw [keysL_v t e1]
    rfl
  | .none :: _, _, _, _, e => by cases e
  | .bool _ :: _, _, _, _, e => by cases e
  | .list _ :: _, _, _, _, e => by cases e
  | .tuple _ :: _, _, _, _, e => by cases e
  | .dict _ :: _, _, _, _, e => by cases e
theorem keysOf_v {K : PySem.W.Frag} {R : Addr → Prop} {H : Hp} {μ : Nat → Addr} {n : Nat} {v : V} {d : D} {k : List Key} (h : DR K R H μ n v d) (e : keysOf d = some k) : ∃ b, v = .ref b ∧ H b = some (.tup (k.map kV)) := by
  unfold keysOf at e
  split at e
  · cases h with
    | p h => cases h with
      | wk h1 h2 h3 =>
        have q := keysL_v (.cons h2 (.cons h3 .nil)) e
        rw [q] at h1
        exact ⟨_, rfl, h1⟩
  · cases e
/-- d[k] -/
def dgT : D → D → Sto → Ot D
  | .loc i, y, S => match cellT S i, keysOf y with
    | some kds, some k => match dval kds k with
      | some d => .ok d S
      | none => .bad
    | _, _ => .bad
  | _, _, _ => .bad
/-- k in d -/
def dinT (neg : Bool) : D → D → Sto → Ot D
  | y, .loc i, S => match cellT S i, keysOf y with
    | some kds, some k => .ok (.p (.bool (if neg = true then !(dval kds k).isSome else (dval kds k).isSome))) S
    | _, _ => .bad
  | _, _, _ => .bad
/-- d[k] = v -/
def dpT : D → D → D → Sto → Option Sto
  | .loc i, y, v, S => match cellT S i, keysOf y with
    | some kds, some k => if kds.length < sizeLine ∧ v.lowb i = true then some (S.set i (.dt (dput kds k v))) else none
    | _, _ => none
  | _, _, _, _ => none
def sDputT (mo mk mv : EM) : SM := fun env S => (mv env S).then env fun v S1 => (mo env S1).then env fun o S2 => (mk env S2).then env fun y S3 => match dpT o y v S3 with
  | some S4 => .nx env S4
  | none => .bad
section
variable {X : Cx} {W : WX} {o i value : Expr} {mo mk mv : EM} {pos pos' : Pos} {k : Nat}
theorem me_dgetT (hr : Room k X.A) (ho : PE X o (te X.K X.mg W mo)) (hi : PE X i (te X.K X.mg W mk)) (hs : NoSl i := by intro _ _; rfl) : PE X (.Subscript o i pos) (te X.K X.mg W (eOp dgT mo mk)) := by
  refine (pe_dget (hu_of hr) ho hi hs).w fun σ H Q ⟨R, μ, env, S, r, h⟩ => ⟨R, μ, env, S, r, ?_⟩
  refine po_mono (po_bind r h) fun x H1 ⟨μ1, S1, d1, r1, h1⟩ => ⟨R, μ1, env, S1, r1.drop, ?_⟩
  refine po_mono (po_bind r1 h1) fun y H2 ⟨μ2, S2, d2, r2, h2⟩ => ?_
  obtain ⟨y', ws, e1, hy, t1⟩ := drs_cons r2.tm
  cases e1
  obtain ⟨x', ws', e2, hx, _⟩ := drs_cons t1
  cases e2
  unfold dgT at h2
  split at h2
  · obtain ⟨rfl, hj⟩ := dr_loc hx
    split at h2
    · rename_i kds kk e3 e4
      split at h2
      · rename_i d e5
        obtain ⟨kvs, g1, g2⟩ := r2.rs.cell _ _ (cellT_some e3)
        obtain ⟨v, f1, f2⟩ := dval_ok g2 e5
        obtain ⟨b, rfl, hb⟩ := keysOf_v hy e4
        refine ⟨_, v, rfl, ?_, po_ok h2 r2.rs f2⟩
        rw [← f1]
        exact DGet.t g1 hb
      · exact h2.elim
    · exact h2.elim
  · exact h2.elim
theorem dputT_run {σ : L2.St} {env : Envr} {R : Addr → Prop} {μ : Nat → Addr} {H : Hp} {S S4 : Sto} {x y v : V} {dx dy dv : D} (rs : RS X.K R H μ S) (hx : DR X.K R H μ S.length x dx) (hy : DR X.K R H μ S.length y dy) (hv : DR X.K R H μ S.length v dv) (e : dpT dx dy dv S = some S4) :
    ∃ a H4, x = .ref a ∧ DPut H a y v H4 ∧ Sp1 μ S.length H μ S4.length H4 ∧ RS X.K R H4 μ S4 := by
  cases hx with
  | p _ => cases e
  | scr _ => cases e
  | @loc j hj =>
    unfold dpT at e
    dsimp only at e
    split at e
    · rename_i kds kk e3 e4
      split at e
      · rename_i hz
        cases e
        obtain ⟨kvs, g1, g2⟩ := rs.cell _ _ (cellT_some e3)
        have hlen : kvs.length = kds.length := by
          have := congrArg List.length g2.1
          rw [List.length_map, List.length_map] at this
          exact this
        obtain ⟨b, rfl, hb⟩ := keysOf_v hy e4
        have sp : Sp1 μ S.length H μ S.length (upd H (μ j) (.dT (putK kvs kk v))) := le_cell hj (fun ob u q => by rw [g1] at q; cases q) (fun u q => by rw [g1] at q; cases q)
        refine ⟨_, _, rfl, DPut.t g1 hb (by rw [hlen]; exact hz.1), by rw [List.length_set]; exact sp, rs_set rs (cellT_some e3) sp ⟨_, upd_same, (dput_ok g2 hv).mono sp⟩ ?_⟩
        exact dput_lowb (rs.low _ _ (cellT_some e3)) hz.2
      · cases e
    · cases e
theorem ms_dputT (hr : Room k X.A) (ho : PE X o (te X.K X.mg W mo)) (hi : PE X i (te X.K X.mg W mk)) (hv : PE X value (te X.K X.mg W mv)) (hs : swapsWith value (some (.Subscript o i pos')) pos.line X.env = pure false := by rfl) :
    PS X (.Assign [.Subscript o i pos'] value pos) (ts X.K X.mg W (sDputT mo mk mv)) := by
  refine (ps_dput (hu_of hr) ho hi hv hs).w fun D σ H ⟨R, μ, env, S, r, h⟩ => ⟨R, μ, env, S, r, ?_⟩
  refine pg_mono (pz_then h) fun μ1 H1 S1 dv s1 rs1 q1 v drv => ⟨R, μ1, env, S1, r.mono s1 rs1, ?_⟩
  refine pg_mono (pz_then q1) fun μ2 H2 S2 dx s2 rs2 q2 x drx => ⟨R, μ2, env, S2, (r.mono s1 rs1).mono s2 rs2, ?_⟩
  refine pg_mono (pz_then q2) fun μ3 H3 S3 dy s3 rs3 q3 y dry => ?_
  cases e : dpT dx dy dv S3 with
  | none => rw [e] at q3; exact q3.elim
  | some S4 =>
    rw [e] at q3
    obtain ⟨a, H4, e1, e2, s4, rs4⟩ := dputT_run (σ := σ) (env := env) rs3 (drx.mono s3) dry ((drv.mono s2).mono s3) e
    have r4 : RL X.K R μ3 H4 S4 σ env [] [] := (((r.mono s1 rs1).mono s2 rs2).mono s3 rs3).mono s4 rs4
    exact ⟨a, H4, e1, e2, q3 μ3 H4 σ s4 r4⟩
theorem isT_ans {kvs : List (List Key × V)} {kds : List (List Key × D)} {K : PySem.W.Frag} {R : Addr → Prop} {H : Hp} {μ : Nat → Addr} {n : Nat} {kk : List Key} (g2 : DKv K R H μ n kvs kds) : (valV kvs kk).isSome = (dval kds kk).isSome := by
  cases e5 : dval kds kk with
  | none => rw [dval_none g2 e5] <;> rfl
  | some d => obtain ⟨v, f1, _⟩ := dval_ok g2 e5; rw [f1] <;> rfl
theorem mc_dinT (hr : Room k X.A) (hi : PE X i (te X.K X.mg W mk)) (ho : PE X o (te X.K X.mg W mo)) : PC X .In i o (te X.K X.mg W (eOp (dinT false) mk mo)) := by
  refine ⟨fun pins s σ H Q I h => (pc_din (hu_of hr) hi ho).run pins s σ H Q I ?_⟩
  obtain ⟨R, μ, env, S, r, h⟩ := h
  refine ⟨R, μ, env, S, r, ?_⟩
  refine po_mono (po_bind r h) fun y H1 ⟨μ1, S1, d1, r1, h1⟩ => ⟨R, μ1, env, S1, r1.drop, ?_⟩
  refine po_mono (po_bind r1 h1) fun x H2 ⟨μ2, S2, d2, r2, h2⟩ => ?_
  obtain ⟨x', ws, e1, hx, t1⟩ := drs_cons r2.tm
  cases e1
  obtain ⟨y', ws', e2, hy, _⟩ := drs_cons t1
  cases e2
  unfold dinT at h2
  split at h2
  · obtain ⟨rfl, hj⟩ := dr_loc hx
    split at h2
    · rename_i kds kk e3 e4
      rw [if_neg Bool.false_ne_true, ← isT_ans (r2.rs.cell _ _ (cellT_some e3)).choose_spec.2] at h2
      obtain ⟨g1, g2⟩ := (r2.rs.cell _ _ (cellT_some e3)).choose_spec
      obtain ⟨b, rfl, hb⟩ := keysOf_v hy e4
      exact ⟨_, _, rfl, DGet.t g1 hb, po_ok h2 r2.rs (.p (.bl _))⟩
    · exact h2.elim
  · exact h2.elim
theorem mc_dnotinT (hr : Room k X.A) (hi : PE X i (te X.K X.mg W mk)) (ho : PE X o (te X.K X.mg W mo)) : PC X .NotIn i o (te X.K X.mg W (eOp (dinT true) mk mo)) := by
  refine ⟨fun pins s σ H Q I h => (pc_dnotin (hu_of hr) hi ho).run pins s σ H Q I ?_⟩
  obtain ⟨R, μ, env, S, r, h⟩ := h
  refine ⟨R, μ, env, S, r, ?_⟩
  refine po_mono (po_bind r h) fun y H1 ⟨μ1, S1, d1, r1, h1⟩ => ⟨R, μ1, env, S1, r1.drop, ?_⟩
  refine po_mono (po_bind r1 h1) fun x H2 ⟨μ2, S2, d2, r2, h2⟩ => ?_
  obtain ⟨x', ws, e1, hx, t1⟩ := drs_cons r2.tm
  cases e1
  obtain ⟨y', ws', e2, hy, _⟩ := drs_cons t1
  cases e2
  unfold dinT at h2
  split at h2
  · obtain ⟨rfl, hj⟩ := dr_loc hx
    split at h2
    · rename_i kds kk e3 e4
      rw [if_pos rfl, ← isT_ans (r2.rs.cell _ _ (cellT_some e3)).choose_spec.2] at h2
      obtain ⟨g1, g2⟩ := (r2.rs.cell _ _ (cellT_some e3)).choose_spec
      obtain ⟨b, rfl, hb⟩ := keysOf_v hy e4
      exact ⟨_, _, rfl, DGet.t g1 hb, po_ok h2 r2.rs (.p (.bl _))⟩
    · exact h2.elim
  · exact h2.elim
end
/-- d = {}: a cell for such keys -/
def eNewT : EM := fun _ S => .ok (.loc S.length) (S ++ [.dt []])
theorem me_newT {X : Cx} {W : WX} {pos : Pos} : PE X (.Dict [] [] pos) (te X.K X.mg W eNewT) := pe_dnewT.w fun σ H Q ⟨R, μ, env, S, r, h⟩ p hp =>
  new_cell (c := .dt []) r.rs hp (fun μ' n _ => ⟨[], upd_same, rfl, .nil⟩) rfl h
end Mi

/-! Mi27 -/
set_option Elab.async false
set_option linter.all false
set_option maxRecDepth 100000
set_option maxHeartbeats 1000000
set_option autoImplicit false
namespace Mi
open PySem PySem.Spec PyProof.Rows L2
/-! ### how many pairs a dict holds -/
def lenA : FM := fun ds S => match ds with
  | [.loc i] => match cellK S i with
    | some kds => .ok (.p (.int (kds.length : Int))) S
    | none => match cellT S i with
      | some kds => .ok (.p (.int (kds.length : Int))) S
      | none => lenF [.loc i] S
  | _ => lenF ds S
def rLenA (K : PySem.W.Frag) : List V → Hp → VK → Prop := fun xs H Q => (rLenS K xs H Q ∨ ∃ a kvs, xs = [V.ref a] ∧ H a = some (.dK kvs) ∧ Q (.int kvs.length) H) ∨ rLenT xs H Q
theorem call_lenA {X : Cx} : CallR X (.builtin "len") (rLenA X.K) := (call_lenS.or call_lenD).or call_len_dT
theorem dkv_len {κ : Type} {K : PySem.W.Frag} {R : Addr → Prop} {H : Hp} {μ : Nat → Addr} {n : Nat} {kvs : List (κ × V)} {kds : List (κ × D)} (h : DKv K R H μ n kvs kds) : kvs.length = kds.length := by
  have := congrArg List.length h.1
  rwa [List.length_map, List.length_map] at this
theorem lenA_ok {K : PySem.W.Frag} {mg : Str → Option Value} {W : WX} : OpC K mg W lenA (rLenA K) := by
  intro R μ H S σ env vs ds Q rs dr h
  unfold lenA at h
  split at h
  · split at h
    · rename_i kds e
      obtain ⟨v, ws, rfl, d1, d2⟩ := drs_cons dr
      obtain rfl := drs_nil d2
      obtain ⟨rfl, hi⟩ := dr_loc d1
      obtain ⟨kvs, g1, g2⟩ := rs.cell _ _ (cellK_some e)
      exact .inl (.inr ⟨_, kvs, rfl, g1, by rw [dkv_len g2]; exact po_ok h rs (.p (.int _))⟩)
    · split at h
      · rename_i kds e
        obtain ⟨v, ws, rfl, d1, d2⟩ := drs_cons dr
        obtain rfl := drs_nil d2
        obtain ⟨rfl, hi⟩ := dr_loc d1
        obtain ⟨kvs, g1, g2⟩ := rs.cell _ _ (cellT_some e)
        exact .inr ⟨_, kvs, rfl, g1, by rw [dkv_len g2]; exact po_ok h rs (.p (.int _))⟩
      · exact .inl (.inl (lenF_ok R μ H S σ env vs _ Q rs dr h))
  · exact .inl (.inl (lenF_ok R μ H S σ env vs ds Q rs dr h))
section
variable {X : Cx} {W : WX} {p pos : Pos} {e : Expr} {aa : AM}
theorem me_lenA (B : Bn X.mg) (ha : PA X [e] (ta X.K X.mg W aa)) (hg : Gl X "len" := by rfl) (he : starEach [e] X.env = (false, eval e X.env) :: starEach [] X.env := by rfl) : PE X (.Call (.Name "len" p) [e] [] pos) (te X.K X.mg W (eCall lenA aa)) :=
  me_callB call_lenA lenA_ok B.len PySem.boot_len ha hg (by decide) (by decide) he rfl
end
end Mi

/-! Mi28 -/
set_option Elab.async false
set_option linter.all false
set_option maxRecDepth 100000
set_option maxHeartbeats 4000000
set_option autoImplicit false
namespace Mi
open PySem PySem.Spec PyProof.Rows L2 PySem.Calls PySem.W PySem.HandSPX

/-! ### an error of the program, one field, its maker asks its elder's first -/
def erA (f : Str) (p1 p2 : Pos) : Arguments := ⟨[], [⟨"self", none, p1⟩, ⟨f, none, p2⟩], none, [], [], none, []⟩
structure ErP where
  (a b c d e g i j k l m n : Pos)
def erB (f msg : Str) (p : ErP) : List Stmt :=
  [.Expr (.Call (.Attribute (.Call (.Name "super" p.a) [] [] p.b) "__init__" p.c) [.Constant (.str msg) 0 p.d] [] p.e) p.g, .Assign [.Attribute (.Name "self" p.i) f p.j] (.Name f p.k) p.l]
def erS (f : Str) : Scope := ⟨.function, [("self", .local), (f, .local), ("__class__", .free), ("super", .globalImplicit)], false, false, []⟩
abbrev erFd (q f msg : Str) (p : ErP) (doc pm : Value) (an : Option Addr) (cdv ct : Value) (cc : Addr) : FuncData := ksFn "__init__" q (erA f p.m p.n) (erB f msg p) (erS f) .none .none doc pm an cdv ct cc
/-- the first line of the maker, read as a method's call (its places stand in one line) -/
def ErLn (msg : Str) (p : ErP) : Prop := ∃ pl : Sem Bool, ∀ env : Env, eval (.Call (.Attribute (.Call (.Name "super" p.a) [] [] p.b) "__init__" p.c) [.Constant (.str msg) 0 p.d] [] p.e) env = (do
      let ov ← attributeBase (.Call (.Name "super" p.a) [] [] p.b) "__init__" env (eval (.Call (.Name "super" p.a) [] [] p.b) env)
      standAt p.c.atName
      let (f, first) ← holding [ov] (getMethod ov "__init__" pl)
      callWith p.e f first (backTo p.e (starEach [.Constant (.str msg) 0 p.d] env)) [])
/-- what the written part says of the class at C -/
structure ErTx (pr : Program) (K : Frag) (f : Str) (C fI : Addr) : Prop where
  cls : ∃ nm q N bs bm sn sub ab col dd k0 k1 k2 k3 k5, K.lookup C = some (excClassObj nm q C N bs bm true sn sub ab col dd k0 k1 k2 k3 k5 "ValueError.__new__") ∧ refsVE bm = true
  sa : findIn K (.ref C) "__setattr__" = some (some (.builtin "object.__setattr__"))
  no : findIn K (.ref C) f = some none
  iC : findIn K (.ref C) "__init__" = some (some (.ref fI))
  tI : typeIn K (.ref fI) = some (.type "function")
  kC : keepIn K (.ref C) = true
  eC : subIn K (.ref C) (.type "BaseException") = some true
  tC : typeIn K (.ref C) = some (.type "type")
  vC : subIn K (.ref C) (.type "ValueError") = some true
  sC : mroIn K C (.ref C) = some true
  up : ks_superIn K C C "__init__" = some (some (.builtin "ValueError.__init__"))
  np : nsIn K cStatics "thirdparty.any" = some none
  fn : ∃ (oc : Value) (od : Option Addr) (q msg : Str) (p : ErP) (doc pm : Value) (an : Option Addr) (cda : Addr) (ct : Value) (cc : Addr) (osl : Array (Option Value)),
    K.lookup fI = some ⟨oc, od, .func (erFd q f msg p doc pm an (.ref cda) ct cc), osl⟩ ∧ codeIn K (.ref cda) q = true ∧ ErLn msg p ∧
    (∃ (ccl : Value) (cdd : Option Addr) (vs : Array Value) (ccs : Array (Option Value)) (file : Str) (tf : Tok), K.lookup cda = some ⟨ccl, cdd, .fields vs, ccs⟩ ∧ vs[2]? = some (.str file tf) ∧ ((pr.main.file : Str) == file) = true) ∧
    ∃ (cl : Value) (cld : Option Addr) (csl : Array (Option Value)), K.lookup cc = some ⟨cl, cld, .cell (some (.ref C)), csl⟩
/-- the names of fields -/
def FldN (f : Str) : Prop := f = "place" ∨ f = "value" ∨ f = "word"
structure MadeI (h h' : Heap) (x C dx t1 : Addr) (f : Str) (v : Value) : Prop where
  keep : ∀ b o, b ≠ x → h.get? b = some o → h'.get? b = some o
  obj : h'.get? x = some { cls := .ref C, dict := some dx, data := .fields #[.ref t1, .none, .none, .none, .bool false, .none] }
  dbig : h.objs.size ≤ dx
  dne : dx ≠ x
  ns : h'.Ns1 dx (fun y => if y = f then some v else none)
section
variable {prog : Program} {w : World} {A : Around} {E : Value → Shared → Prop} {R : Result → Shared → Prop} {s : Shared} {K : Frag} {mg : Str → Option Value} {C fI : Addr} {f : Str}
theorem mw_call {h : Heap} {g : Array GenState} {d : Drawn} {t : Nat} {os : OsState} {u e t0 : Addr} {rest : List Value} {Q : Value → Shared → Prop} {nm q : Str} {N : Addr} {bs bm : List Value} {hdct : Bool} {sn : List Str} {sub : List Value} {ab : Bool} {col : Option Bool} {dd : Option Addr} {k0 k1 k2 k3 k5 : Option Value}
    (hC : h.get? C = some (excClassObj nm q C N bs bm hdct sn sub ab col dd k0 k1 k2 k3 k5 "ValueError.__new__")) (he : h.get? e = some (excO C t0)) (hu : h.get? u = some (kxs_mw "ValueError.__init__" e)) (hl : rest.length ≤ sizeLine)
    (hq : ∀ h' t1, (∀ b o, b ≠ e → h.get? b = some o → h'.get? b = some o) → h'.get? e = some (excO C t1) → Q .none ⟨h', g, d, t, os⟩) :
    wpAny (model prog w) A (call (.ref u) rest) Q E ⟨h, g, d, t, os⟩ := by
  have FB := PySem.F.excBase_ValueError
  refine wpAny_call (codeAny_of_tree ?_)
  show wpAny _ A.in1 (callAny (.ref u) ⟨rest, []⟩) _ _ _
  simp only [callAny]
  refine wpAny_bind (wpAny_load hu ?_)
  refine KFB.if_so (show (Value.type "method-wrapper" == Value.type "method" || Value.type "method-wrapper" == Value.type "builtin_function_or_method" || Value.type "method-wrapper" == Value.type "method-wrapper") = true by decide) ?_
  refine wpAny_bind (check_bound_init FB.toExcCallFacts hC he rfl ?_)
  refine wpAny_bind (wpAny_pure (wpAny_pure ?_))
  refine ⟨plainId_quiet FB.init.plain _, codeAny_builtin FB.initEntry ?_⟩
  exact exc_init_tree (cls := .ref C) (t0 := t0) (dv := none) (c2 := .none) (c3 := .none) (b4 := .bool false) he hl fun h' k' e' _ => hq h' _ k' e'
theorem er_init (T : ErTx prog K f C fI) (hf : FldN f) {x t0 : Addr} {v : Value} (X : K.In s.heap) (hlim : s.heap.NoLimit) (G : s.heap.Ns mainGlobals mg) (hs : mg "super" = none) (hb : ∃ mb, s.heap.Ns builtinsNs mb ∧ ∀ x : Str, x ≠ "__name__" → mb x = bootBuiltins x)
    (htop : (prog.main.scope.names.lookup ("super" : Str)).isSome = false) (hx : s.heap.get? x = some (excO C t0)) (hnK : ∀ o, K.lookup x ≠ some o) (hroom : A.depth < recursionLimit)
    (hq : ∀ h' tk dx t1, MadeI s.heap h' x C dx t1 f v → R (.ok (.ret .none)) { s with heap := h', toks := tk }) :
    codeAny (model prog w) A (.call (.ref fI) ⟨[.ref x, v], []⟩) R s := by
  obtain ⟨oc, od, q, msg, p, doc, pm, an, cda, ct, cc, osl, ho, hcd, ⟨pl, ln⟩, ⟨ccl, cdd, vs, ccs, file, tf, hcode, hvs, hfile⟩, cl, cld, csl, hcell⟩ := T.fn
  obtain ⟨nm, q', N, bs, bm, sn, sub, ab, col, dd, k0, k1, k2, k3, k5, hC, hbm⟩ := T.cls
  obtain ⟨mb, B, hmb⟩ := hb
  have hcl : clsIn K C = some { name := nm, bases := bs, mro := .ref C :: bm, ns := N, qualname := q', hasDict := true, slotNames := sn, subclasses := sub, abstract := ab, collection := col, hasDel := false } := by unfold clsIn; rw [hC] <;> rfl
  have hnx : x ≠ C := fun z => by
    have e := X _ _ hC
    rw [← z, hx] at e
    cases e
  have lk : ∀ y : Str, y = "self" ∨ y = f → (erS f).names.lookup y = some .local := fun y hy => by
    rcases hy with rfl | rfl
    · rfl
    · rcases hf with rfl | rfl | rfl <;> rfl
  have kS : (erS f).names.lookup ("super" : Str) = some .globalImplicit := by rcases hf with rfl | rfl | rfl <;> rfl
  have kK : (erS f).names.lookup ("__class__" : Str) = some .free := by rcases hf with rfl | rfl | rfl <;> rfl
  have kD : (f == ("__debug__" : Str)) = false := by rcases hf with rfl | rfl | rfl <;> decide
  have kf : (([("self", Value.ref x), (f, v)] : List (Str × Value)).reverse).lookup f = some v := by rcases hf with rfl | rfl | rfl <;> rfl
  have ks : (([("self", Value.ref x), (f, v)] : List (Str × Value)).reverse).lookup ("self" : Str) = some (Value.ref x) := by rcases hf with rfl | rfl | rfl <;> rfl
  have bt : BindsTo s (erFd q f msg p doc pm an (.ref cda) ct cc) ⟨[.ref x, v], []⟩ [("self", .ref x), (f, v)] := BindsTo.of_eq (by rcases hf with rfl | rfl | rfl <;> first | rfl | with_unfolding_all rfl)
  refine ks_codeAny_call_defAt (fd := erFd q f msg p doc pm an (.ref cda) ct cc) (body := erB f msg p) (binds := [("self", .ref x), (f, v)]) hroom (X _ _ ho) rfl hlim (codeRec_of X hcd) rfl bt
    (fun y hy => by
      have q : ∀ y ∈ (erS f).names, y.2 ≠ .cell := by rcases hf with rfl | rfl | rfl <;> decide
      exact q y hy) (fun (y : Str × Value) (hy : y ∈ ([("self", Value.ref x), (f, v)] : List (Str × Value))) => lk y.1 (by
      rcases List.mem_cons.mp hy with rfl | hy
      · exact .inl rfl
      · rcases List.mem_cons.mp hy with rfl | hy
        · exact .inr rfl
        · cases hy)) (fun h₁ hns k => ?_) rfl rfl rfl
  have X₁ : K.In h₁ := X.keeps k
  have hx₁ := k _ _ hx
  have hC₁ := X₁ _ _ hC
  have z1 : s.heap.objs.size < h₁.objs.size := hns.lt
  refine ks_wpAt_execs_cons (ks_wpAt_Expr_any (ks_wpAt_MethodCall ?_ (ln _)))
  refine ks_wpAt_super_base kS kK rfl rfl (X₁ _ _ ho) rfl rfl rfl (X₁ _ _ hcode) rfl hvs hfile htop ?_
  refine ks_loadName_global rfl kS (loadGlobal_builtin (G.keeps k) hs (B.keeps k) ((hmb "super" (by decide)).trans (by kernel_rfl)) ⟨rfl, ?_⟩)
  refine wpAny_loadName_free rfl kK rfl ⟨_, X₁ _ _ hcell, rfl⟩ ?_
  refine wpAny_loadName_local rfl (lk "self" (.inl rfl)) hns ks ?_
  refine ks_wpAny_isType_cls hC₁ rfl ⟨rfl, ?_⟩
  refine ks_wpAny_call_super hC₁ rfl hx₁ rfl (fun c e => by cases e) (looks_mroIn X₁ T.sC) (fun h2 e2 k2 => ?_)
  have X₂ : K.In h2 := X₁.keeps k2
  have I2 : InstAt h2 x (excO C t0) C none := ⟨k2 _ _ hx₁, rfl, rfl, trivial⟩
  have hm : alongIn K "__init__" (((Value.ref C :: bm).dropWhile (· != .ref C)).drop 1) = some (some (.builtin "ValueError.__init__")) := by
    have e := T.up
    unfold ks_superIn at e
    rw [hcl] at e
    exact e
  refine kxs_getMethod kxs_ValueError e2 (looks_opaque X₂ T.np) (l₀ := .ref C :: bm) (fun A Q E s k q => wpAny_bind ((looks_clsIn X₂ hcl) A _ E s k (wpAny_pure q))) rfl X₂ hm (I2.type.andThen (looks_subIn X₂ T.vC)) hnx (by decide) ?_
  have hx2 : (h2.push (kxs_mw "ValueError.__init__" x)).get? x = some (excO C t0) := Heap.get?_push_of_some _ I2.at_
  have hu2 : (h2.push (kxs_mw "ValueError.__init__" x)).get? h2.objs.size = some (kxs_mw "ValueError.__init__" x) := Heap.get?_push_at rfl rfl
  refine kxs_callWith (i := "ValueError.__init__") (x := x) rfl (evalArgs_plain (Calls.spliced_cons (wpAny_Constant_str (k := 0) (pos := p.d) (Calls.spliced_nil ⟨hu2, ?_⟩))))
  refine mw_call (Heap.get?_push_of_some _ (X₂ _ _ hC)) hx2 hu2 (by show 1 ≤ sizeLine; rw [sizeLine_eq]; omega) fun h3 t3 k3 hx3 => ?_
  have X3 : K.In h3 := fun b o e => by
    refine k3 b o (fun z => ?_) (Heap.get?_push_of_some _ (X₂ b o e))
    have e1 := X₂ b o e
    rw [z, I2.at_] at e1
    have e2 := X _ _ e
    rw [z, hx] at e2
    subst z
    exact hnK _ e
  have old3 : ∀ b o, b ≠ x → s.heap.get? b = some o → h3.get? b = some o := fun b o hb e => k3 b o hb (Heap.get?_push_of_some _ (k2 b o (k b o e)))
  have hn3 : h3.Ns s.heap.objs.size (fun y => ([("self", Value.ref x), (f, v)] : List (Str × Value)).reverse.lookup y) := hns.at fun o e => k3 _ _ (Nat.ne_of_gt (Heap.lt_size hx)) (Heap.get?_push_of_some _ (k2 _ _ e))
  refine ks_wpAt_execs_cons (wpAt_of_wpAny (plainObj_wpAny_Assign_Attribute ?_ ?_))
  · refine wpAny_Name (wpAny_loadName_local rfl (lk f (.inr rfl)) hn3 kf ?_) kD
    refine wpAny_Name (wpAny_loadName_local rfl (lk "self" (.inl rfl)) hn3 ks ?_) (by decide)
    refine set_plain X3 (ox := excO C t3) (od := none) ⟨hx3, rfl, rfl, trivial⟩ T.sa ?_
    refine exc_osa X3 hx3 hcl (show refsVE (.ref C :: bm) = true from hbm) rfl T.no (fun h4 tk4 dx k4 dn dne hx4 hn4 => ?_)
    show PySem.wpAt _ _ _ (execs _ _) _ _ _
    refine wpAt_of_wpAny (wpAny_execs_nil (hq h4 tk4 dx t3 ⟨fun b o hb e => k4 b o hb (old3 b o hb e), hx4, ?_, dne, hn4⟩))
    have z3 : s.heap.objs.size ≤ h3.objs.size := Nat.le_of_lt hn3.lt
    exact Nat.le_trans z3 dn
  · rcases hf with rfl | rfl | rfl <;> rfl
end
end Mi

/-! Mi29 -/
set_option Elab.async false
set_option linter.all false
set_option maxRecDepth 100000
set_option maxHeartbeats 4000000
set_option autoImplicit false
namespace Mi
open PySem PySem.Spec PyProof.Rows L2 PySem.Calls PySem.W PySem.HandSPX

/-! ### the error made -/
structure MadeE (h h' : Heap) (e C d : Addr) (f : Str) (v : Value) : Prop where
  keep : ∀ b o, h.get? b = some o → h'.get? b = some o
  big : h.objs.size ≤ e
  obj : ∃ oe vs, h'.get? e = some oe ∧ Zc (.ref C) (some d) oe ∧ oe.data = .fields vs ∧ vs[1]? = some .none
  dbig : h.objs.size ≤ d
  dne : d ≠ e
  ns : h'.Ns1 d (fun y => if y = f then some v else none)
section
variable {prog : Program} {w : World} {A : Around} {E : Value → Shared → Prop} {R : Result → Shared → Prop} {s : Shared} {K : Frag} {mg : Str → Option Value} {C fI : Addr} {f : Str}
theorem er_made (T : ErTx prog K f C fI) (hf : FldN f) {v : Value} (X : K.In s.heap) (hlim : s.heap.NoLimit) (G : s.heap.Ns mainGlobals mg) (hs : mg "super" = none) (hb : ∃ mb, s.heap.Ns builtinsNs mb ∧ ∀ x : Str, x ≠ "__name__" → mb x = bootBuiltins x)
    (htop : (prog.main.scope.names.lookup ("super" : Str)).isSome = false) (hroom : A.depth + 1 < recursionLimit)
    (hq : ∀ h' tk e d, MadeE s.heap h' e C d f v → R (.ok (.ret (.ref e))) { s with heap := h', toks := tk }) :
    codeAny (model prog w) A (.call (.ref C) ⟨[v], []⟩) R s := by
  obtain ⟨nm, q, N, bs, bm, sn, sub, ab, col, dd, k0, k1, k2, k3, k5, hC, hbm⟩ := T.cls
  obtain ⟨mb, B, hmb⟩ := hb
  obtain ⟨hp, g, dr, tk, os⟩ := s
  have k : ∀ b o, hp.get? b = some o → ((hp.push (kdv_tup [v])).push (excO C hp.objs.size)).get? b = some o := fun b o e => Heap.get?_push_of_some _ (Heap.get?_push_of_some _ e)
  have at_ : ((hp.push (kdv_tup [v])).push (excO C hp.objs.size)).get? (hp.objs.size + 1) = some (excO C hp.objs.size) := by heap_get
  have off : ∀ o, K.lookup (hp.objs.size + 1) ≠ some o := fun o e => absurd (Nat.lt_of_succ_lt (Heap.lt_size (X _ _ e))) (Nat.lt_irrefl _)
  have one : [v].length ≤ sizeLine := by show 1 ≤ sizeLine; rw [sizeLine_eq]; omega
  refine call_own PySem.F.excBase_ValueError (fun Y => refsVE_contains Y bm hbm) (X _ _ hC) (looks_findIn X T.iC) (fun self => bind_fn X self T.tI) one ?_
  refine er_init (s := ⟨(hp.push (kdv_tup [v])).push (excO C hp.objs.size), g, dr, tk, os⟩) T hf (X.keeps k) (hlim.keeps k) (G.keeps k) hs ⟨mb, B.keeps k, hmb⟩ htop at_ off hroom fun h' tk' dx t1 M => ?_
  have old : ∀ b o, hp.get? b = some o → h'.get? b = some o := fun b o e => M.keep b o (Nat.ne_of_lt (Nat.lt_succ_of_lt (Heap.lt_size e))) (k b o e)
  have z : hp.objs.size ≤ dx := by
    have y := M.dbig
    rw [Heap.size_push, Heap.size_push] at y
    omega
  exact ⟨rfl, hq h' tk' (hp.objs.size + 1) dx ⟨old, Nat.le_succ _, ⟨_, _, M.obj, ⟨rfl, rfl⟩, rfl, rfl⟩, z, M.dne, M.ns⟩⟩
end
/-- the error's dict as it is read -/
theorem relO_one {f : Str} {v : V} {u : Value} (r : RelV v u) (g : Str) : RelO (List.lookup g [(f, v)]) (if g = f then some u else none) := by
  have e := relO_put (fs := []) (mA := fun _ => none) (f := f) r (fun _ => True.intro) g
  exact e
section
variable {X : Cx} {C fI : Addr} {f x : Str}
def tMkE (C : Addr) (f : Str) (ta : TA) : L2.St → Hp → XK → Prop := fun σ H Q => ta σ H fun vs H1 => ∃ v, vs = [v] ∧ ∀ d, H1 d = none → Q (.ref C) (some d) (upd H1 d (.xd [(f, v)]))
theorem pmk_er {a : Expr} {ta : TA} {p pos : Pos} {k : Nat} (T : ErTx X.prog X.K f C fI) (hf : FldN f) (hs : X.mg "super" = none) (htop : (X.prog.main.scope.names.lookup ("super" : Str)).isSome = false) (hr : Room (k + 1) X.A) (ha : PA X [a] ta) (hm : X.mg x = some (.ref C))
    (hg : Gl X x := by rfl) (hdb : (x == ("__debug__" : Str)) = false := by decide) (he : starEach (a :: []) X.env = (false, eval a X.env) :: starEach [] X.env := by rfl) (hpl : (backTo pos (starEach [] X.env)).any (·.1) = false := by rfl) :
    PMk X (.Call (.Name x p) [a] [] pos) (tMkE C f ta) := by
  intro pins s σ H Q I h
  refine wpAny_Call_Name_kw (ld_glob I hg hm ?_ hdb)
  refine callWith_K (h₀ := X.base) I.ok.mod.kin T.kC (thn (ha.run pos pins s σ H _ I h) fun us s1 ⟨vs, H1, I1, r1, v, ev, q1⟩ => ?_) he hpl
  subst ev
  refine ⟨I1.kIn, ?_⟩
  cases r1 with
  | @cons _ u _ us' rv rn =>
    cases rn
    have lim := I1.nolimit
    have gl := I1.ok.mod.glob.keeps I1.bk
    obtain ⟨mb, b1, b2⟩ := I1.ok.mod.blt
    have bl := b1.keeps I1.bk
    obtain ⟨hp, g, dr, tk, os⟩ := s1
    refine wpAny_call (er_made T hf I1.kIn lim gl hs ⟨mb, bl, b2⟩ htop (by have := hr.dp; omega) fun h' tk' e d M => ?_)
    obtain ⟨oe, fv, hoe, hz, hdat, h1⟩ := M.obj
    obtain ⟨G', g1, g2⟩ := restrict h' fun b => decide (b ≠ e)
    have gk : ∀ b, b ≠ e → G'.get? b = h'.get? b := fun b hb => g1 b (decide_eq_true hb)
    have ge : G'.get? e = none := g2 e (by simp)
    have old : ∀ b o, hp.get? b = some o → G'.get? b = some o := fun b o q => (gk b (Nat.ne_of_lt (Nat.lt_of_lt_of_le (Heap.lt_size q) M.big))).trans (M.keep b o q)
    have ob : ObjOk X.prog X.w (upd H1 d (.xd [(f, v)])) G' d (.xd [(f, v)]) := ⟨_, M.ns.at (fun o q => (gk d M.dne).trans q), relO_one rv⟩
    have J : Inv X pins σ (upd H1 d (.xd [(f, v)])) ⟨G', g, dr, tk', os⟩ := I1.laid (t' := tk') old M.dbig ob
    refine ⟨e, oe, fv, ⟨G', g, dr, tk', os⟩, _, .ref C, some d, rfl, J, fun b o q => ?_, ge, hoe, hz, hdat, h1, ?_, rfl, I1.bare, raises_own T.eC T.tC, q1 d (I1.hok.fresh M.dbig)⟩
    · by_cases hb : b = e
      · have q' : G'.get? b = some o := q
        rw [hb, ge] at q'
        cases q'
      · exact (gk b hb).symm.trans q
    · rw [upd_ne (Ne.symm M.dne)]
      exact I1.hok.fresh M.big
end
/-! ### raise C(e), of the reckoning -/
def sRaise (x f : Str) (aa : AM) : SM := fun env S => (aa env S).then env fun ds S1 => match ds with
  | [.p d] => .err ⟨x, [(f, d)]⟩ env S1
  | _ => .bad
section
variable {X : Cx} {W : WX} {C fI : Addr} {f x : Str} {aa : AM}
theorem ms_raise {a : Expr} {p pos pos2 : Pos} {k : Nat} (hc : X.calm = true) (tk : L2.Takes X W) (T : ErTx X.prog X.K f C fI) (hf : FldN f) (hs : X.mg "super" = none) (htop : (X.prog.main.scope.names.lookup ("super" : Str)).isSome = false) (hr : Room (k + 1) X.A) (hm : X.mg x = some (.ref C))
    (ha : PA X [a] (ta X.K X.mg W aa)) (hg : Gl X x := by rfl) (hdb : (x == ("__debug__" : Str)) = false := by decide) (he : starEach (a :: []) X.env = (false, eval a X.env) :: starEach [] X.env := by rfl) (hpl : (backTo pos (starEach [] X.env)).any (·.1) = false := by rfl) :
    PS X (.Raise (some (.Call (.Name x p) [a] [] pos)) none pos2) (ts X.K X.mg W (sRaise x f aa)) := by
  refine (ps_raise hc tk (pmk_er T hf hs htop hr ha hm hg hdb he hpl)).w fun D σ H ⟨R, μ, env, S, r, h⟩ => ⟨R, μ, env, S, r, ?_⟩
  refine pg_mono (pz_then h) fun μ1 H1 S1 ds s1 rs1 p vs dr => ?_
  cases dr with
  | nil => exact p.elim
  | @cons v vs' d ds' q1 r1 =>
    cases r1 with
    | cons _ _ => cases d <;> exact p.elim
    | nil =>
      cases q1 with
      | loc _ => exact p.elim
      | scr _ => exact p.elim
      | @p _ d pd =>
        refine ⟨v, rfl, fun b hb => ?_⟩
        have s2 : Sp1 μ1 S1.length H1 μ1 S1.length (upd H1 b (.xd [(f, v)])) := sp_new hb
        exact p μ1 _ σ (.ref C) (some b) s2 ((r.mono s1 rs1).mono s2 (rs_new hb rs1)) ⟨hm, b, [(f, v)], rfl, upd_same, rfl, .cons (pd.mono (av_le s2.hp)) .nil⟩
end
end Mi

/-! Mi30 -/
set_option Elab.async false
set_option linter.all false
set_option maxRecDepth 100000
set_option maxHeartbeats 4000000
set_option autoImplicit false
namespace Mi
open PySem PySem.Spec PyProof.Rows L2 PySem.Calls

/-! ### try: .. except E as n: .. -/
/-- what the written part says of the class of a caught error -/
structure CaTx (K : PySem.W.Frag) (C : Addr) : Prop where
  xf : XfC K C
  no : ∀ f, FldN f → PySem.W.findIn K (.ref C) f = some none
  cl : (PySem.W.clsIn K C).isSome = true
  ha : PySem.W.findIn K (.ref C) "__class__" = some (some (.builtin "object.__class__"))
  hn : PySem.W.specialIn K (.builtin "object.__class__") "__get__" = some (some (.builtin "getset_descriptor.__get__"))
  ht : PySem.W.takesIn K (.builtin "object.__class__") = some true
  hm : PySem.W.mroIn K C (.type "object") = some true
/-- the classes that may be caught here -/
def Caught (K : PySem.W.Frag) (mg : Str → Option Value) (yes : List Str) : Prop := ∀ x ∈ yes, ∃ C, mg x = some (.ref C) ∧ CaTx K C
def CatBy (K : PySem.W.Frag) (mg : Str → Option Value) (yes : List Str) (y : Str) : Prop := ∃ Y, mg y = some (.ref Y) ∧ ∀ x ∈ yes, ∀ C, mg x = some (.ref C) → PySem.W.exmOne K (.ref C) (.ref Y) = some true
def IsBy (K : PySem.W.Frag) (mg : Str → Option Value) (yes : List Str) (y : Str) (subs : List Str) : Prop := ∃ Y, mg y = some (.ref Y) ∧ ∀ x ∈ yes, ∀ C, mg x = some (.ref C) → PySem.W.kitOne K (.ref C) (.ref Y) = some (decide (x ∈ subs))
/-- what a suite leans on: the error at a, in slot i -/
def teE (K : PySem.W.Frag) (mg : Str → Option Value) (yes : List Str) (i : Nat) (a : Addr) (cls : Value) (d : Option Addr) (m : Er → EM) : TE := fun σ H Q => ∃ R μ env S e, RL K R μ H S σ env [] [] ∧ σ[i]? = some (some (.ref a)) ∧ e.cls ∈ yes ∧
  ErR K mg H (Av R μ S.length) cls d e ∧ Po K mg W0 R μ S H σ env (m e env S) Q
def tsE (K : PySem.W.Frag) (mg : Str → Option Value) (yes : List Str) (i : Nat) (a : Addr) (cls : Value) (d : Option Addr) (m : Er → SM) : TS := fun D σ H => ∃ R μ env S e, RL K R μ H S σ env [] [] ∧ σ[i]? = some (some (.ref a)) ∧ e.cls ∈ yes ∧
  ErR K mg H (Av R μ S.length) cls d e ∧ Pz K mg W0 R μ S H (m e env S) D
section
variable {X : Cx} {i : Nat} {a : Addr} {oe : Obj} {cls : Value} {d : Option Addr} {pn : List (Addr × Obj)} {yes subs : List Str} {n f y : Str}
theorem xe_lift {E : Expr} {m : EM} (h : PE X E (te X.K X.mg W0 m)) : PE X E (teE X.K X.mg yes i a cls d (fun _ => m)) := h.w fun σ H Q ⟨R, μ, env, S, e, r, _, _, _, h⟩ => ⟨R, μ, env, S, r, h⟩
/-- (c, error.f) -/
def ePairE (c f : Str) : Er → EM := fun e _ S => match e.fs with
  | [(g, x)] => if g = f then .ok (.p (.tuple [.str c, x])) S else .bad
  | _ => .bad
theorem xe_pair {c : Str} {j k : Nat} {p1 p2 p3 p4 : Pos} (hf : FldN f) (Ca : Caught X.K X.mg yes) (hz : Zc cls d oe) (hv : ∃ vs, oe.data = .fields vs) (hi : X.N[i]? = some n := by rfl) (hs : Vis X.env.scope n := by first | exact Or.inl rfl | exact Or.inr (Or.inl rfl) | exact Or.inr (Or.inr rfl))
    (hd : (n == ("__debug__" : Str)) = false := by decide) (hcd : (n == ("__classdict__" : Str)) = false := by decide) (hb : attributeBase (.Name n p2) f X.env (eval (.Name n p2) X.env) = eval (.Name n p2) X.env := by rfl)
    (s1 : starEach [.Constant (.str c) j p1, .Attribute (.Name n p2) f p3] X.env = (false, eval (.Constant (.str c) j p1) X.env) :: starEach [.Attribute (.Name n p2) f p3] X.env := by rfl)
    (s2 : starEach [.Attribute (.Name n p2) f p3] X.env = (false, eval (.Attribute (.Name n p2) f p3) X.env) :: starEach [] X.env := by rfl) :
    PE (X.suite a ((a, oe) :: pn)) (.Tuple [.Constant (.str c) j p1, .Attribute (.Name n p2) f p3] k p4) (teE X.K X.mg yes i a cls d (ePairE c f)) := by
  refine ⟨fun pins s σ H Q I h => ?_⟩
  obtain ⟨R, μ, env, S, e, r, hσ, hy, ⟨hc, dd, fs, rfl, hdd, hn, hp⟩, q⟩ := h
  obtain ⟨C, mC, T⟩ := Ca _ hy
  rw [mC] at hc
  cases hc
  have key : PE (X.suite a ((a, oe) :: pn)) (.Tuple [.Constant (.str c) j p1, .Attribute (.Name n p2) f p3] k p4) (tTupF (tCons (tC (.str c)) (tCons (tXf a (.ref C) (some dd) C f (tVar i)) tNil))) :=
    pe_tupF (pa_cons pe_str (pa_cons (pe_xf T.xf (T.no f hf) hz hv (pe_var hi hs hd hcd) hb) pa_nil s2) s1)
  refine key.run pins s σ H Q I ?_
  have q' : Po X.K X.mg W0 R μ S H σ env (ePairE c f e env S) Q := q
  cases ef : e.fs with
  | nil => simp only [ePairE, ef] at q'; exact q'.elim
  | cons p rest =>
    cases rest with
    | cons _ _ => simp only [ePairE, ef] at q'; exact q'.elim
    | nil =>
      obtain ⟨g, x⟩ := p
      simp only [ePairE, ef] at q'
      by_cases hg : g = f
      · rw [if_pos hg] at q'
        subst hg
        rw [ef] at hn hp
        cases fs with
        | nil => cases hn
        | cons fv fr =>
          cases fr with
          | cons _ _ => cases hn
          | nil =>
            obtain ⟨g', v⟩ := fv
            obtain rfl : g' = g := by
              have z : [g'] = [g] := hn
              exact (List.cons.inj z).1
            cases hp with
            | cons pd _ =>
              refine ⟨.ref a, hσ, rfl, rfl, dd, [(g', v)], v, rfl, hdd, by simp [List.lookup], by show 2 ≤ sizeLine; decide, fun b o hb ho => ?_⟩
              have s3 : Sp1 μ S.length H μ S.length (upd H b (.frz o (.tup [.str c, v]))) := sp_new hb
              exact q' μ _ s3 (rs_new hb r.rs) _ (.p (.tup ⟨o, upd_same, ho⟩ (.cons (.str c) (.cons (pd.mono (av_le s3.hp)) .nil))))
      · rw [if_neg hg] at q'
        exact q'.elim
/-- isinstance(error, y) -/
def ttE (K : PySem.W.Frag) (mg : Str → Option Value) (yes : List Str) (i : Nat) (a : Addr) (cls : Value) (d : Option Addr) (subs : List Str) (k : Er → Prop) : L2.St → Hp → Prop := fun σ H => ∃ (R : Addr → Prop) (μ : Nat → Addr) (n : Nat) (e : Er), σ[i]? = some (some (.ref a)) ∧ e.cls ∈ yes ∧ ErR K mg H (Av R μ n) cls d e ∧ k e
theorem xe_is {p1 p2 p3 p4 : Pos} (B : Bn X.mg) (Ca : Caught X.K X.mg yes) (hI : IsBy X.K X.mg yes y subs) (hz : Zc cls d oe) (hv : ∃ vs, oe.data = .fields vs) (hi : X.N[i]? = some n := by rfl) (hs : Vis X.env.scope n := by first | exact Or.inl rfl | exact Or.inr (Or.inl rfl) | exact Or.inr (Or.inr rfl))
    (hd : (n == ("__debug__" : Str)) = false := by decide) (hcd : (n == ("__classdict__" : Str)) = false := by decide) (hgi : Gl X "isinstance" := by rfl) (hgy : Gl X y := by rfl) (hdy : (y == ("__debug__" : Str)) = false := by decide)
    (s1 : starEach [.Name n p1, .Name y p2] X.env = (false, eval (.Name n p1) X.env) :: starEach [.Name y p2] X.env := by rfl) (s2 : starEach [.Name y p2] X.env = (false, eval (.Name y p2) X.env) :: starEach [] X.env := by rfl)
    (hpl : (backTo p4 (starEach [.Name y p2] X.env)).any (·.1) = false := by rfl) :
    PT (X.suite a ((a, oe) :: pn)) (.Call (.Name "isinstance" p3) [.Name n p1, .Name y p2] [] p4) (fun σ H Q => ∃ (R : Addr → Prop) (μ : Nat → Addr) (m : Nat) (e : Er), σ[i]? = some (some (.ref a)) ∧ e.cls ∈ yes ∧ ErR X.K X.mg H (Av R μ m) cls d e ∧ Q (decide (e.cls ∈ subs)) H) := by
  obtain ⟨Y, mY, hY⟩ := hI
  have G : Gl (X.suite a ((a, oe) :: pn)) "isinstance" := hgi
  have rule : CallR (X.suite a ((a, oe) :: pn)) (.builtin "isinstance") (fun vs H Q => vs = [.ref a, .ref Y] ∧ ∃ (R : Addr → Prop) (μ : Nat → Addr) (m : Nat) (e : Er), e.cls ∈ yes ∧ ErR X.K X.mg H (Av R μ m) cls d e ∧ Q (.bl (decide (e.cls ∈ subs))) H) := by
    intro pins s σ H vs us Q I rr hh
    obtain ⟨rfl, R, μ, m, e, hy, ⟨hc, dd, fs, rfl, hdd, _, _⟩, q⟩ := hh
    obtain ⟨C, mC, T⟩ := Ca _ hy
    rw [mC] at hc
    cases hc
    obtain ⟨u1, u2, rfl, rx, rt⟩ : ∃ u1 u2, us = [u1, u2] ∧ RelV (.ref a) u1 ∧ RelV (.ref Y) u2 := by
      cases rr with
      | cons rx rr =>
        cases rr with
        | cons rt rr =>
          cases rr
          exact ⟨_, _, rfl, rx, rt⟩
    cases rx
    cases rt
    obtain ⟨hget, _⟩ := I.pin (a, oe) (List.mem_append.mpr (.inl List.mem_cons_self))
    obtain ⟨vs, hvv⟩ := hv
    have hx : ObjOk X.prog X.w H s.heap dd (.xd fs) := I.hok dd _ hdd
    obtain ⟨mA, hns, _⟩ := hx
    obtain ⟨od, ho, _⟩ := lookIn_ns hns
    have J : PySem.W.InstAt s.heap a oe C (some od) := ⟨hget, hz.1, by unfold PySem.W.notCls; rw [hvv] <;> rfl, by rw [hz.2]; exact ho⟩
    exact PySem.W.kia_one (PySem.W.kitx_exc T.cl T.xf.ga T.xf.gg T.xf.exC T.ha T.hn T.ht T.hm) I.kIn J (hY _ hy C mC) (fun z => nomatch z) fun tk => ⟨.bl _, H, I.kept (t' := tk) fun _ _ z => z, rfl, q⟩
  have call := pe_callB (X := X.suite a ((a, oe) :: pn)) (p := p3) (pos := p4) rule G B.isinstance (by decide +kernel) (pa_cons (pe_var (pos := p1) hi hs hd hcd) (pa_cons (pe_glob (pos := p2) (v := .ref Y) hgy mY rfl hdy) pa_nil s2) s1) (by decide) (by decide) s1 hpl
  have test := pt_val call
  refine ⟨fun pins s σ H Q I h => test.run pins s σ H Q I ?_⟩
  obtain ⟨R, μ, m, e, hσ, hy, er, q⟩ := h
  exact ⟨.ref a, hσ, rfl, R, μ, m, e, hy, er, _, rfl, q⟩
end
end Mi

/-! Mi31 -/
set_option Elab.async false
set_option linter.all false
set_option maxRecDepth 100000
set_option maxHeartbeats 4000000
set_option autoImplicit false
namespace Mi
open PySem PySem.Spec PyProof.Rows L2 PySem.Calls

/-! ### the suite's statements, the try -/
def eIfE (subs : List Str) (a b : Er → EM) : Er → EM := fun e => if e.cls ∈ subs then a e else b e
def sIfE (subs : List Str) (a b : Er → SM) : Er → SM := fun e => if e.cls ∈ subs then (fun env S => match a e env S with
  | .rt d S1 => .rt d S1
  | _ => .bad) else b e
def sRetE (m : Er → EM) : Er → SM := fun e => sRet (m e)
theorem so_p {c : Bool} {A B : Prop} (h : c = true) (x : A) : if c = true then A else B := by
  rw [if_pos h]
  exact x
theorem not_p {c : Bool} {A B : Prop} (h : c = false) (x : B) : if c = true then A else B := by
  rw [if_neg (by rw [h]; exact Bool.false_ne_true)]
  exact x
theorem in_true {e : Er} {l : List Str} {α : Type} {x y : α} (h : e.cls ∈ l) : (if e.cls ∈ l then x else y) = x := if_pos h
section
variable {X : Cx} {i : Nat} {a : Addr} {oe : Obj} {cls : Value} {d : Option Addr} {pn : List (Addr × Obj)} {yes subs : List Str} {K : PySem.W.Frag} {mg : Str → Option Value}
abbrev tIs (K : PySem.W.Frag) (mg : Str → Option Value) (yes : List Str) (i : Nat) (a : Addr) (cls : Value) (d : Option Addr) (subs : List Str) : TT :=
  fun σ H Q => ∃ (R : Addr → Prop) (μ : Nat → Addr) (m : Nat) (e : Er), σ[i]? = some (some (.ref a)) ∧ e.cls ∈ yes ∧ ErR K mg H (Av R μ m) cls d e ∧ Q (decide (e.cls ∈ subs)) H
theorem xe_if {Z : Cx} {c A B : Expr} {p : Pos} {m1 m2 : Er → EM} (hc : PT Z c (tIs K mg yes i a cls d subs)) (hA : PE Z A (teE K mg yes i a cls d m1)) (hB : PE Z B (teE K mg yes i a cls d m2)) : PE Z (.IfExp c A B p) (teE K mg yes i a cls d (eIfE subs m1 m2)) := by
  refine (pe_ifExp hc hA hB).w fun σ H Q ⟨R, μ, env, S, e, r, hσ, hy, er, q⟩ => ⟨R, μ, S.length, e, hσ, hy, er, ?_⟩
  have q' : Po K mg W0 R μ S H σ env (eIfE subs m1 m2 e env S) Q := q
  unfold eIfE at q'
  by_cases h : e.cls ∈ subs
  · rw [if_pos h] at q'
    exact so_p (decide_eq_true h) ⟨R, μ, env, S, e, r, hσ, hy, er, q'⟩
  · rw [if_neg h] at q'
    exact not_p (decide_eq_false h) ⟨R, μ, env, S, e, r, hσ, hy, er, q'⟩
theorem xs_ret {Z : Cx} {E : Expr} {p : Pos} {m : Er → EM} (hk : Z.K = K) (hm : Z.mg = mg) (h : PE Z E (teE K mg yes i a cls d m)) : PSs Z [.Return (some E) p] (tsE K mg yes i a cls d (sRetE m)) := by
  refine (pss_one (ps_ret h)).w fun D σ H ⟨R, μ, env, S, e, r, hσ, hy, er, q⟩ => ⟨R, μ, env, S, e, r, hσ, hy, er, ?_⟩
  have q' : Pz K mg W0 R μ S H (sRet (m e) env S) D := q
  exact pg_mono (pz_then q') fun μ1 H1 S1 x s1 rs1 pz v dr => pz μ1 H1 v Sp1.refl rs1 dr
theorem xs_if {Z : Cx} {c : Expr} {b rest : List Stmt} {p : Pos} {m1 m2 : Er → SM} (hc : PT Z c (tIs K mg yes i a cls d subs)) (hb : PSs Z b (tsE K mg yes i a cls d m1)) (hr : PSs Z rest (tsE K mg yes i a cls d m2)) : PSs Z (.If c b [] p :: rest) (tsE K mg yes i a cls d (sIfE subs m1 m2)) := by
  refine (pss_cons (ps_if hc hb pss_nil) hr).w fun D σ H ⟨R, μ, env, S, e, r, hσ, hy, er, q⟩ => ⟨R, μ, S.length, e, hσ, hy, er, ?_⟩
  have q' : Pz K mg W0 R μ S H (sIfE subs m1 m2 e env S) D := q
  unfold sIfE at q'
  by_cases h : e.cls ∈ subs
  · rw [if_pos h] at q'
    refine so_p (decide_eq_true h) ⟨R, μ, env, S, e, r, hσ, hy, er, ?_⟩
    cases z : m1 e env S with
    | rt x S1 => simp only [z] at q'; exact q'
    | nx _ _ => simp only [z] at q'; exact q'.elim
    | bk _ _ => simp only [z] at q'; exact q'.elim
    | ct _ _ => simp only [z] at q'; exact q'.elim
    | err _ _ _ => simp only [z] at q'; exact q'.elim
    | bad => simp only [z] at q'; exact q'.elim
  · rw [if_neg h] at q'
    exact not_p (decide_eq_false h) ⟨R, μ, env, S, e, r, hσ, hy, er, q'⟩
end
/-- try: bm, except (the classes yes) as the name in slot i: sm; what else leaves bm leaves this -/
def sTry (yes no : List Str) (i : Nat) (bm : SM) (sm : Er → SM) : SM := fun env S => match bm env S with
  | .err e env1 S1 => if e.cls ∈ yes ∧ i < env1.length then (match sm e (env1.set i none) S1 with
      | .nx env2 S2 => .nx (env2.set i none) S2
      | .bk env2 S2 => .bk (env2.set i none) S2
      | .ct env2 S2 => .ct (env2.set i none) S2
      | .rt d S2 => .rt d S2
      | _ => .bad) else if e.cls ∈ no then .err e env1 S1 else .bad
  | o => o
/-- another clause's classes -/
def CatNo (K : PySem.W.Frag) (mg : Str → Option Value) (no : List Str) (y : Str) : Prop := ∀ Y, mg y = some (.ref Y) → ∀ x ∈ no, ∀ cls, mg x = some cls → PySem.W.exmOne K cls (.ref Y) = some false
theorem catNo_nil {K : PySem.W.Frag} {mg : Str → Option Value} {y : Str} : CatNo K mg [] y := fun _ _ x h => by simp at h
theorem RL.unset {K : PySem.W.Frag} {R : Addr → Prop} {μ : Nat → Addr} {H : Hp} {S : Sto} {σ : L2.St} {env : Envr} (o : Option V) (i : Nat) (r : RL K R μ H S σ env [] []) : RL K R μ H S (σ.set i o) (env.set i none) [] [] := ⟨r.rs, DRo.unset i r.en, .nil⟩
section
variable {X : Cx} {W : WX} {i : Nat} {yes no : List Str} {n y : Str} {body suite : List Stmt} {b₀ : Stmt} {np pos pos' : Pos} {bm : SM} {sm : Er → SM}
theorem ms_try (hs : X.stack = X.env :: X.outer) (hf : X.env.frame = some X.env.locals) (hN : X.N.Nodup) (tk : L2.Takes X W) (Ca : Caught X.K X.mg yes) (hC : CatBy X.K X.mg yes y) (hno : CatNo X.K X.mg no y)
    (hb : ∀ (V : WX) (pn : List (Addr × Obj)) (xe : Value → Shared → Prop), L2.Takes (X.tr pn xe) V → PassesOwn (model X.prog X.w) X.A X.env xe → PSs (X.tr pn xe) body (ts X.K X.mg V bm))
    (hsu : ∀ (a : Addr) (oe : Obj) (cls : Value) (d : Option Addr) (pn : List (Addr × Obj)), Zc cls d oe → (∃ vs, oe.data = .fields vs) → PSs (X.suite a ((a, oe) :: pn)) (b₀ :: suite) (tsE X.K X.mg yes i a cls d sm))
    (hi : X.N[i]? = some n := by rfl) (hln : X.env.kindOf n = some .local := by rfl) (hg : Gl X y := by rfl) (hdb : (y == ("__debug__" : Str)) = false := by decide) :
    PS X (.Try body [.ExceptHandler (some (.Name y np)) (some n) (b₀ :: suite) pos'] [] [] pos) (ts X.K X.mg W (sTry yes no i bm sm)) := by
  obtain ⟨Y, mY, hY⟩ := hC
  refine (ps_try_as (c := .ref Y) (tb := fun V => ts X.K X.mg V bm) (ts := fun a cls d => tsE X.K X.mg yes i a cls d sm) (Wout := W) hs hf hN hi hln ⟨hg, hdb, .inl mY⟩ tk hb hsu).w fun D σ H ⟨R, μ, env, S, r, h⟩ => ⟨R, μ, env, S, r, ?_⟩
  unfold sTry at h
  cases z : bm env S with
  | bad => rw [z] at h; exact h
  | nx e1 S1 => rw [z] at h; exact h
  | bk e1 S1 => rw [z] at h; exact h
  | ct e1 S1 => rw [z] at h; exact h
  | rt x S1 => rw [z] at h; exact h
  | err e env1 S1 =>
    rw [z] at h
    dsimp only at h
    intro μ' H' σ' cls dd s1 r1 er
    have mc := er.1
    by_cases hy : e.cls ∈ yes ∧ i < env1.length
    · rw [if_pos hy] at h
      obtain ⟨C, mC, T⟩ := Ca _ hy.1
      rw [mC] at mc
      cases mc
      refine ⟨true, hY _ hy.1 C mC, fun _ a ha => ?_, fun q => Bool.noConfusion q⟩
      have hlen : i < σ'.length := by rw [r1.en.len]; exact hy.2
      refine ⟨R, μ', env1.set i none, S1, e, r1.unset _ i, by rw [List.getElem?_set_self hlen], hy.1, er, ?_⟩
      have h1 := pz_later s1 h
      cases q : sm e (env1.set i none) S1 with
      | bad => rw [q] at h1; exact h1.elim
      | err _ _ _ => rw [q] at h1; exact h1.elim
      | rt x S2 => rw [q] at h1; exact h1
      | nx env2 S2 => rw [q] at h1; exact fun μ2 H2 σ2 s2 r2 => h1 μ2 H2 _ s2 (r2.unset none i)
      | bk env2 S2 => rw [q] at h1; exact fun μ2 H2 σ2 s2 r2 => h1 μ2 H2 _ s2 (r2.unset none i)
      | ct env2 S2 => rw [q] at h1; exact fun μ2 H2 σ2 s2 r2 => h1 μ2 H2 _ s2 (r2.unset none i)
    · rw [if_neg hy] at h
      by_cases hn : e.cls ∈ no
      · rw [if_pos hn] at h
        refine ⟨false, hno Y mY _ hn cls mc, fun q => Bool.noConfusion q, fun _ => h μ' H' σ' cls dd s1 r1 er⟩
      · rw [if_neg hn] at h
        exact h.elim
end
end Mi

/-! Mi32 -/
set_option Elab.async false
set_option linter.all false
set_option maxRecDepth 100000
set_option maxHeartbeats 4000000
set_option autoImplicit false
namespace Mi
open PySem PySem.Spec PyProof.Rows L2

/-- {} that nothing changes -/
def eD0 : EM := fun _ S => .ok (.p (.dict [])) S
theorem me_d0 {X : Cx} {W : WX} {pos : Pos} : PE X (.Dict [] [] pos) (te X.K X.mg W eD0) := pe_dnewK.w fun σ H Q ⟨R, μ, env, S, r, h⟩ p hp => by
  have s2 : Sp1 μ S.length H μ S.length (upd H p (.dK [])) := sp_new hp
  exact h μ _ s2 (rs_new hp r.rs) _ (.p (.dk0 upd_same (not_own r.rs hp)))
/-- an error's class by its name -/
def EcX (P : Program) (K : PySem.W.Frag) (mg : Str → Option Value) (x f : Str) : Prop := ∃ C fI, mg x = some (.ref C) ∧ ErTx P K f C fI
theorem ms_raiseE {X : Cx} {W : WX} {x f : Str} {aa : AM} {a : Expr} {p pos pos2 : Pos} {k : Nat} (hc : X.calm = true) (tk : L2.Takes X W) (T : EcX X.prog X.K X.mg x f) (hf : FldN f) (hs : X.mg "super" = none) (htop : (X.prog.main.scope.names.lookup ("super" : Str)).isSome = false) (hr : Room (k + 1) X.A)
    (ha : PA X [a] (ta X.K X.mg W aa)) (hg : Gl X x := by rfl) (hdb : (x == ("__debug__" : Str)) = false := by decide) (he : starEach (a :: []) X.env = (false, eval a X.env) :: starEach [] X.env := by rfl) (hpl : (backTo pos (starEach [] X.env)).any (·.1) = false := by rfl) :
    PS X (.Raise (some (.Call (.Name x p) [a] [] pos)) none pos2) (ts X.K X.mg W (sRaise x f aa)) := by
  obtain ⟨C, fI, hm, T⟩ := T
  exact ms_raise hc tk T hf hs htop hr hm ha hg hdb he hpl
end Mi

/-! L4 -/
set_option Elab.async false
set_option linter.all false
set_option maxRecDepth 100000
set_option maxHeartbeats 4000000
set_option autoImplicit false
noncomputable section
namespace Lw
open PySem PySem.Spec PyProof.Rows L2 Mi
structure Gi (mg : Str → Option Value) : Prop where
  MOST_STANDINGS : ∃ t : Tok, mg "MOST_STANDINGS" = some (.int 8 t)
  MOST_LETTERS : ∃ t : Tok, mg "MOST_LETTERS" = some (.int 4 t)
  MOST_SHOWN : ∃ t : Tok, mg "MOST_SHOWN" = some (.int 9 t)
  LONGEST_WORD : ∃ t : Tok, mg "LONGEST_WORD" = some (.int 400 t)
def top (i : Nat) : Stmt := PySem.Challenge.pw_keptpartings_k02_whole_runs.main.body.getD i (.Pass ⟨0, 0, 0, 0⟩)
def yesX : List Str := ["BadMachine", "BadWord", "BadStanding"]
structure Ex (P : Program) (K : PySem.W.Frag) (mg : Str → Option Value) : Prop where
  sup : mg "super" = none
  top : (P.main.scope.names.lookup ("super" : Str)).isSome = false
  BadMachine : EcX P K mg "BadMachine" "place"
  BadWord : EcX P K mg "BadWord" "place"
  BadStanding : EcX P K mg "BadStanding" "value"
  ca : Caught K mg yesX
  by_PartError : CatBy K mg yesX "PartError"
  is_BadMachine : IsBy K mg yesX "BadMachine" ["BadMachine"]
  is_BadWord : IsBy K mg yesX "BadWord" ["BadWord"]
  is_BadStanding : IsBy K mg yesX "BadStanding" ["BadStanding"]
section
variable {P : Program} {w : World} {K : PySem.W.Frag} {mg : Str → Option Value} {base : Heap}
abbrev s_is_number_below : Stmt := top 10
def z_is_number_below : Scope := ⟨.function, [("thing", .local), ("many", .local), ("isinstance", .globalImplicit), ("int", .globalImplicit), ("bool", .globalImplicit)], false, false, []⟩
abbrev n_is_number_below : List Str := ["thing", "many"]
theorem sc_is_number_below : FnScope n_is_number_below ["thing", "many"] z_is_number_below := ⟨rfl, rfl, rfl, by decide +kernel, rfl, by decide +kernel, by decide +kernel⟩
def b_is_number_below : SM := (sRet (eAnd (eIsi .int (eVar 0)) (eAnd (eB (bNot (bOf (eIsi .bl (eVar 0))))) (eChain (cmpI fun i j => decide (i ≤ j)) (cmpI fun i j => decide (i < j)) (eC (.int 0)) (eVar 0) (eVar 1)))))
def m_is_number_below : FM := fnM false 2 2 b_is_number_below
theorem f_is_number_below {f : Addr} {fd : FuncData} (F : Fun K "is_number_below" "is_number_below" s_is_number_below f fd) (T : Bn mg) (G : Gi mg) (E : Ex P K mg)  : FnG P w K mg base 1 f fd ["thing", "many"] (spF K mg 2 m_is_number_below) :=
  fn_def2 (b := false) (m := b_is_number_below) (sc := z_is_number_below) F rfl sc_is_number_below rfl rfl fun cdv A outer s H E_ hg hr => (ss_one (ms_ret (me_and (me_isi .int (fun z => nomatch z) T.isinstance T.int (by decide +kernel) (me_var (i := 0))) (me_and (me_not (me_isi .bl (fun z => nomatch z) T.isinstance T.bool (by decide +kernel) (me_var (i := 0)))) (me_one (me_chain op_le op_lt cmpI_ok cmpI_ok me_int (me_var (i := 0)) (me_var (i := 1))))))))

abbrev s_is_tuple_of : Stmt := top 11
def z_is_tuple_of : Scope := ⟨.function, [("thing", .local), ("least", .local), ("most", .local), ("isinstance", .globalImplicit), ("tuple", .globalImplicit), ("len", .globalImplicit)], false, false, []⟩
abbrev n_is_tuple_of : List Str := ["thing", "least", "most"]
theorem sc_is_tuple_of : FnScope n_is_tuple_of ["thing", "least", "most"] z_is_tuple_of := ⟨rfl, rfl, rfl, by decide +kernel, rfl, by decide +kernel, by decide +kernel⟩
def b_is_tuple_of : SM := (sRet (eAnd (eIsi .tup (eVar 0)) (eChain (cmpI fun i j => decide (i ≤ j)) (cmpI fun i j => decide (i ≤ j)) (eVar 1) (eCall lenF (aCons (eVar 0) aNil)) (eVar 2))))
def m_is_tuple_of : FM := fnM false 3 3 b_is_tuple_of
theorem f_is_tuple_of {f : Addr} {fd : FuncData} (F : Fun K "is_tuple_of" "is_tuple_of" s_is_tuple_of f fd) (T : Bn mg) (G : Gi mg) (E : Ex P K mg)  : FnG P w K mg base 1 f fd ["thing", "least", "most"] (spF K mg 3 m_is_tuple_of) :=
  fn_def2 (b := false) (m := b_is_tuple_of) (sc := z_is_tuple_of) F rfl sc_is_tuple_of rfl rfl fun cdv A outer s H E_ hg hr => (ss_one (ms_ret (me_and (me_isi .tup (fun z => nomatch z) T.isinstance T.tuple (by decide +kernel) (me_var (i := 0))) (me_one (me_chain op_le op_le cmpI_ok cmpI_ok (me_var (i := 1)) (me_len T (ma_cons (me_var (i := 0)) ma_nil)) (me_var (i := 2)))))))

abbrev s_need_table_form : Stmt := top 13
def z_need_table_form : Scope := ⟨.function, [("table", .local), ("number", .local), ("standing", .local), ("is_tuple_of", .globalImplicit), ("MOST_STANDINGS", .globalImplicit), ("BadMachine", .globalImplicit), ("enumerate", .globalImplicit), ("MOST_LETTERS", .globalImplicit), ("len", .globalImplicit)], false, false, []⟩
abbrev n_need_table_form : List Str := ["table", "number", "standing"]
theorem sc_need_table_form : FnScope n_need_table_form ["table"] z_need_table_form := ⟨rfl, rfl, rfl, by decide +kernel, rfl, by decide +kernel, by decide +kernel⟩
def b_need_table_form : SM := (sSeq (sIf (bNot (bOf (eCall m_is_tuple_of (aCons (eVar 0) (aCons (eC (.int 1)) (aCons (eC (.int 8)) aNil)))))) (sRaise "BadMachine" "place" (aCons (eTup (aCons (eC (.int 0)) aNil)) aNil)) sNx) (sFor (iEnT (aCons (eVar 0) aNil)) (gT [(gN 1), (gN 2)]) (sIf (bOr (bNot (bOf (eCall m_is_tuple_of (aCons (eVar 2) (aCons (eC (.int 1)) (aCons (eC (.int 4)) aNil)))))) (bOf (eOp (eqD true) (eCall lenF (aCons (eVar 2) aNil)) (eCall lenF (aCons (eOp ixD (eVar 0) (eC (.int 0))) aNil))))) (sRaise "BadMachine" "place" (aCons (eTup (aCons (eC (.int 0)) (aCons (eVar 1) aNil))) aNil)) sNx)))
def m_need_table_form : FM := fnM false 1 3 b_need_table_form
theorem f_need_table_form {f : Addr} {fd : FuncData} (F : Fun K "need_table_form" "need_table_form" s_need_table_form f fd) (T : Bn mg) (G : Gi mg) (E : Ex P K mg) (C_is_tuple_of : ∀ base : Heap, CallF P w K mg base 1 "is_tuple_of" ["thing", "least", "most"] m_is_tuple_of) : FnG P w K mg base 2 f fd ["table"] (spF K mg 1 m_need_table_form) :=
  fn_def2 (b := false) (m := b_need_table_form) (sc := z_need_table_form) F rfl sc_need_table_form rfl rfl fun cdv A outer s H E_ hg hr => (ss_cons (ms_if (mt_not (mt_val (me_callC (C_is_tuple_of base) hg (hr.mono (by decide)) takesD (ma_cons (me_var (i := 0)) (ma_cons me_int (ma_cons (me_gintE G.MOST_STANDINGS) ma_nil)))))) (ss_one (ms_raiseE (k := 0) rfl takesD E.BadMachine (.inl rfl) E.sup E.top (hr.mono (by decide)) (ma_cons (me_tup (ma_cons me_int ma_nil)) ma_nil))) ss_nil) (ss_one (ms_for passesD rfl (mi_enumT T.enumerate (ma_cons (me_var (i := 0)) ma_nil)) (mg_tup rfl (mgs_cons (mg_name (i := 1) sc_need_table_form.nd) (mgs_cons (mg_name (i := 2) sc_need_table_form.nd) mgs_nil))) (ss_one (ms_if (mt_w (mw_or (mt_not (mt_val (me_callC (C_is_tuple_of base) hg (hr.mono (by decide)) takesD (ma_cons (me_var (i := 2)) (ma_cons me_int (ma_cons (me_gintE G.MOST_LETTERS) ma_nil)))))) (mw_or1 (mt_cmp (op_neN hr.units) eqD_ok (me_len T (ma_cons (me_var (i := 2)) ma_nil)) (me_len T (ma_cons (me_ix (me_var (i := 0)) me_int) ma_nil)) (nomark _))))) (ss_one (ms_raiseE (k := 0) rfl takesD E.BadMachine (.inl rfl) E.sup E.top (hr.mono (by decide)) (ma_cons (me_tup (ma_cons me_int (ma_cons (me_var (i := 1)) ma_nil))) ma_nil))) ss_nil)))))

abbrev s_need_goals : Stmt := top 14
def z_need_goals : Scope := ⟨.function, [("table", .local), ("number", .local), ("standing", .local), ("letter", .local), ("goal", .local), ("enumerate", .globalImplicit), ("is_number_below", .globalImplicit), ("len", .globalImplicit), ("BadMachine", .globalImplicit)], false, false, []⟩
abbrev n_need_goals : List Str := ["table", "number", "standing", "letter", "goal"]
theorem sc_need_goals : FnScope n_need_goals ["table"] z_need_goals := ⟨rfl, rfl, rfl, by decide +kernel, rfl, by decide +kernel, by decide +kernel⟩
def b_need_goals : SM := (sFor (iEnT (aCons (eVar 0) aNil)) (gT [(gN 1), (gN 2)]) (sFor (iEnT (aCons (eVar 2) aNil)) (gT [(gN 3), (gN 4)]) (sIf (bNot (bOf (eCall m_is_number_below (aCons (eVar 4) (aCons (eCall lenF (aCons (eVar 0) aNil)) aNil))))) (sRaise "BadMachine" "place" (aCons (eTup (aCons (eC (.int 0)) (aCons (eVar 1) (aCons (eVar 3) aNil)))) aNil)) sNx)))
def m_need_goals : FM := fnM false 1 5 b_need_goals
theorem f_need_goals {f : Addr} {fd : FuncData} (F : Fun K "need_goals" "need_goals" s_need_goals f fd) (T : Bn mg) (G : Gi mg) (E : Ex P K mg) (C_is_number_below : ∀ base : Heap, CallF P w K mg base 1 "is_number_below" ["thing", "many"] m_is_number_below) : FnG P w K mg base 2 f fd ["table"] (spF K mg 1 m_need_goals) :=
  fn_def2 (b := false) (m := b_need_goals) (sc := z_need_goals) F rfl sc_need_goals rfl rfl fun cdv A outer s H E_ hg hr => (ss_one (ms_for passesD rfl (mi_enumT T.enumerate (ma_cons (me_var (i := 0)) ma_nil)) (mg_tup rfl (mgs_cons (mg_name (i := 1) sc_need_goals.nd) (mgs_cons (mg_name (i := 2) sc_need_goals.nd) mgs_nil))) (ss_one (ms_for passesD rfl (mi_enumT T.enumerate (ma_cons (me_var (i := 2)) ma_nil)) (mg_tup rfl (mgs_cons (mg_name (i := 3) sc_need_goals.nd) (mgs_cons (mg_name (i := 4) sc_need_goals.nd) mgs_nil))) (ss_one (ms_if (mt_not (mt_val (me_callC (C_is_number_below base) hg (hr.mono (by decide)) takesD (ma_cons (me_var (i := 4)) (ma_cons (me_len T (ma_cons (me_var (i := 0)) ma_nil)) ma_nil))))) (ss_one (ms_raiseE (k := 0) rfl takesD E.BadMachine (.inl rfl) E.sup E.top (hr.mono (by decide)) (ma_cons (me_tup (ma_cons me_int (ma_cons (me_var (i := 1)) (ma_cons (me_var (i := 3)) ma_nil)))) ma_nil))) ss_nil))))))

abbrev s_need_shown : Stmt := top 15
def z_need_shown : Scope := ⟨.function, [("shown", .local), ("many", .local), ("number", .local), ("thing", .local), ("is_tuple_of", .globalImplicit), ("BadMachine", .globalImplicit), ("enumerate", .globalImplicit), ("is_number_below", .globalImplicit), ("MOST_SHOWN", .globalImplicit)], false, false, []⟩
abbrev n_need_shown : List Str := ["shown", "many", "number", "thing"]
theorem sc_need_shown : FnScope n_need_shown ["shown", "many"] z_need_shown := ⟨rfl, rfl, rfl, by decide +kernel, rfl, by decide +kernel, by decide +kernel⟩
def b_need_shown : SM := (sSeq (sIf (bNot (bOf (eCall m_is_tuple_of (aCons (eVar 0) (aCons (eVar 1) (aCons (eVar 1) aNil)))))) (sRaise "BadMachine" "place" (aCons (eTup (aCons (eC (.int 1)) aNil)) aNil)) sNx) (sFor (iEnT (aCons (eVar 0) aNil)) (gT [(gN 2), (gN 3)]) (sIf (bNot (bOf (eCall m_is_number_below (aCons (eVar 3) (aCons (eOp addD (eC (.int 9)) (eC (.int 1))) aNil))))) (sRaise "BadMachine" "place" (aCons (eTup (aCons (eC (.int 1)) (aCons (eVar 2) aNil))) aNil)) sNx)))
def m_need_shown : FM := fnM false 2 4 b_need_shown
theorem f_need_shown {f : Addr} {fd : FuncData} (F : Fun K "need_shown" "need_shown" s_need_shown f fd) (T : Bn mg) (G : Gi mg) (E : Ex P K mg) (C_is_tuple_of : ∀ base : Heap, CallF P w K mg base 1 "is_tuple_of" ["thing", "least", "most"] m_is_tuple_of) (C_is_number_below : ∀ base : Heap, CallF P w K mg base 1 "is_number_below" ["thing", "many"] m_is_number_below) : FnG P w K mg base 2 f fd ["shown", "many"] (spF K mg 2 m_need_shown) :=
  fn_def2 (b := false) (m := b_need_shown) (sc := z_need_shown) F rfl sc_need_shown rfl rfl fun cdv A outer s H E_ hg hr => (ss_cons (ms_if (mt_not (mt_val (me_callC (C_is_tuple_of base) hg (hr.mono (by decide)) takesD (ma_cons (me_var (i := 0)) (ma_cons (me_var (i := 1)) (ma_cons (me_var (i := 1)) ma_nil)))))) (ss_one (ms_raiseE (k := 0) rfl takesD E.BadMachine (.inl rfl) E.sup E.top (hr.mono (by decide)) (ma_cons (me_tup (ma_cons me_int ma_nil)) ma_nil))) ss_nil) (ss_one (ms_for passesD rfl (mi_enumT T.enumerate (ma_cons (me_var (i := 0)) ma_nil)) (mg_tup rfl (mgs_cons (mg_name (i := 2) sc_need_shown.nd) (mgs_cons (mg_name (i := 3) sc_need_shown.nd) mgs_nil))) (ss_one (ms_if (mt_not (mt_val (me_callC (C_is_number_below base) hg (hr.mono (by decide)) takesD (ma_cons (me_var (i := 3)) (ma_cons (me_add (me_gintE G.MOST_SHOWN) me_int) ma_nil))))) (ss_one (ms_raiseE (k := 0) rfl takesD E.BadMachine (.inl rfl) E.sup E.top (hr.mono (by decide)) (ma_cons (me_tup (ma_cons me_int (ma_cons (me_var (i := 2)) ma_nil))) ma_nil))) ss_nil)))))

abbrev s_need_machine : Stmt := top 12
def z_need_machine : Scope := ⟨.function, [("thing", .local), ("table", .local), ("shown", .local), ("is_tuple_of", .globalImplicit), ("BadMachine", .globalImplicit), ("need_table_form", .globalImplicit), ("need_goals", .globalImplicit), ("need_shown", .globalImplicit), ("len", .globalImplicit)], false, false, []⟩
abbrev n_need_machine : List Str := ["thing", "table", "shown"]
theorem sc_need_machine : FnScope n_need_machine ["thing"] z_need_machine := ⟨rfl, rfl, rfl, by decide +kernel, rfl, by decide +kernel, by decide +kernel⟩
def b_need_machine : SM := (sSeq (sIf (bNot (bOf (eCall m_is_tuple_of (aCons (eVar 0) (aCons (eC (.int 2)) (aCons (eC (.int 2)) aNil)))))) (sRaise "BadMachine" "place" (aCons (eTup aNil) aNil)) sNx) (sSeq (sAsg (eVar 0) (gT [(gN 1), (gN 2)])) (sSeq (sExpr (eCall m_need_table_form (aCons (eVar 1) aNil))) (sSeq (sExpr (eCall m_need_goals (aCons (eVar 1) aNil))) (sSeq (sExpr (eCall m_need_shown (aCons (eVar 2) (aCons (eCall lenF (aCons (eVar 1) aNil)) aNil)))) (sRet (eVar 0)))))))
def m_need_machine : FM := fnM false 1 3 b_need_machine
theorem f_need_machine {f : Addr} {fd : FuncData} (F : Fun K "need_machine" "need_machine" s_need_machine f fd) (T : Bn mg) (G : Gi mg) (E : Ex P K mg) (C_is_tuple_of : ∀ base : Heap, CallF P w K mg base 1 "is_tuple_of" ["thing", "least", "most"] m_is_tuple_of) (C_need_table_form : ∀ base : Heap, CallF P w K mg base 2 "need_table_form" ["table"] m_need_table_form) (C_need_goals : ∀ base : Heap, CallF P w K mg base 2 "need_goals" ["table"] m_need_goals) (C_need_shown : ∀ base : Heap, CallF P w K mg base 2 "need_shown" ["shown", "many"] m_need_shown) : FnG P w K mg base 3 f fd ["thing"] (spF K mg 1 m_need_machine) :=
  fn_def2 (b := false) (m := b_need_machine) (sc := z_need_machine) F rfl sc_need_machine rfl rfl fun cdv A outer s H E_ hg hr => (ss_cons (ms_if (mt_not (mt_val (me_callC (C_is_tuple_of base) hg (hr.mono (by decide)) takesD (ma_cons (me_var (i := 0)) (ma_cons me_int (ma_cons me_int ma_nil)))))) (ss_one (ms_raiseE (k := 0) rfl takesD E.BadMachine (.inl rfl) E.sup E.top (hr.mono (by decide)) (ma_cons (me_tup ma_nil) ma_nil))) ss_nil) (ss_cons (ms_asg (me_var (i := 0)) (mg_tup rfl (mgs_cons (mg_name (i := 1) sc_need_machine.nd) (mgs_cons (mg_name (i := 2) sc_need_machine.nd) mgs_nil)))) (ss_cons (ms_expr (me_callC (C_need_table_form base) hg (hr.mono (by decide)) takesD (ma_cons (me_var (i := 1)) ma_nil))) (ss_cons (ms_expr (me_callC (C_need_goals base) hg (hr.mono (by decide)) takesD (ma_cons (me_var (i := 1)) ma_nil))) (ss_cons (ms_expr (me_callC (C_need_shown base) hg (hr.mono (by decide)) takesD (ma_cons (me_var (i := 2)) (ma_cons (me_len T (ma_cons (me_var (i := 1)) ma_nil)) ma_nil)))) (ss_one (ms_ret (me_var (i := 0)))))))))

abbrev s_need_standing : Stmt := top 16
def z_need_standing : Scope := ⟨.function, [("machine", .local), ("standing", .local), ("is_number_below", .globalImplicit), ("len", .globalImplicit), ("BadStanding", .globalImplicit)], false, false, []⟩
abbrev n_need_standing : List Str := ["machine", "standing"]
theorem sc_need_standing : FnScope n_need_standing ["machine", "standing"] z_need_standing := ⟨rfl, rfl, rfl, by decide +kernel, rfl, by decide +kernel, by decide +kernel⟩
def b_need_standing : SM := (sIf (bNot (bOf (eCall m_is_number_below (aCons (eVar 1) (aCons (eCall lenF (aCons (eOp ixD (eVar 0) (eC (.int 0))) aNil)) aNil))))) (sRaise "BadStanding" "value" (aCons (eVar 1) aNil)) sNx)
def m_need_standing : FM := fnM false 2 2 b_need_standing
theorem f_need_standing {f : Addr} {fd : FuncData} (F : Fun K "need_standing" "need_standing" s_need_standing f fd) (T : Bn mg) (G : Gi mg) (E : Ex P K mg) (C_is_number_below : ∀ base : Heap, CallF P w K mg base 1 "is_number_below" ["thing", "many"] m_is_number_below) : FnG P w K mg base 2 f fd ["machine", "standing"] (spF K mg 2 m_need_standing) :=
  fn_def2 (b := false) (m := b_need_standing) (sc := z_need_standing) F rfl sc_need_standing rfl rfl fun cdv A outer s H E_ hg hr => (ss_one (ms_if (mt_not (mt_val (me_callC (C_is_number_below base) hg (hr.mono (by decide)) takesD (ma_cons (me_var (i := 1)) (ma_cons (me_len T (ma_cons (me_ix (me_var (i := 0)) me_int) ma_nil)) ma_nil))))) (ss_one (ms_raiseE (k := 0) rfl takesD E.BadStanding (.inr (.inl rfl)) E.sup E.top (hr.mono (by decide)) (ma_cons (me_var (i := 1)) ma_nil))) ss_nil))

abbrev s_need_word : Stmt := top 17
def z_need_word : Scope := ⟨.function, [("machine", .local), ("word", .local), ("place", .local), ("letter", .local), ("is_tuple_of", .globalImplicit), ("LONGEST_WORD", .globalImplicit), ("BadWord", .globalImplicit), ("enumerate", .globalImplicit), ("is_number_below", .globalImplicit), ("len", .globalImplicit)], false, false, []⟩
abbrev n_need_word : List Str := ["machine", "word", "place", "letter"]
theorem sc_need_word : FnScope n_need_word ["machine", "word"] z_need_word := ⟨rfl, rfl, rfl, by decide +kernel, rfl, by decide +kernel, by decide +kernel⟩
def b_need_word : SM := (sSeq (sIf (bNot (bOf (eCall m_is_tuple_of (aCons (eVar 1) (aCons (eC (.int 0)) (aCons (eC (.int 400)) aNil)))))) (sRaise "BadWord" "place" (aCons (eC .none) aNil)) sNx) (sFor (iEnT (aCons (eVar 1) aNil)) (gT [(gN 2), (gN 3)]) (sIf (bNot (bOf (eCall m_is_number_below (aCons (eVar 3) (aCons (eCall lenF (aCons (eOp ixD (eOp ixD (eVar 0) (eC (.int 0))) (eC (.int 0))) aNil)) aNil))))) (sRaise "BadWord" "place" (aCons (eVar 2) aNil)) sNx)))
def m_need_word : FM := fnM false 2 4 b_need_word
theorem f_need_word {f : Addr} {fd : FuncData} (F : Fun K "need_word" "need_word" s_need_word f fd) (T : Bn mg) (G : Gi mg) (E : Ex P K mg) (C_is_tuple_of : ∀ base : Heap, CallF P w K mg base 1 "is_tuple_of" ["thing", "least", "most"] m_is_tuple_of) (C_is_number_below : ∀ base : Heap, CallF P w K mg base 1 "is_number_below" ["thing", "many"] m_is_number_below) : FnG P w K mg base 2 f fd ["machine", "word"] (spF K mg 2 m_need_word) :=
  fn_def2 (b := false) (m := b_need_word) (sc := z_need_word) F rfl sc_need_word rfl rfl fun cdv A outer s H E_ hg hr => (ss_cons (ms_if (mt_not (mt_val (me_callC (C_is_tuple_of base) hg (hr.mono (by decide)) takesD (ma_cons (me_var (i := 1)) (ma_cons me_int (ma_cons (me_gintE G.LONGEST_WORD) ma_nil)))))) (ss_one (ms_raiseE (k := 0) rfl takesD E.BadWord (.inl rfl) E.sup E.top (hr.mono (by decide)) (ma_cons me_non ma_nil))) ss_nil) (ss_one (ms_for passesD rfl (mi_enumT T.enumerate (ma_cons (me_var (i := 1)) ma_nil)) (mg_tup rfl (mgs_cons (mg_name (i := 2) sc_need_word.nd) (mgs_cons (mg_name (i := 3) sc_need_word.nd) mgs_nil))) (ss_one (ms_if (mt_not (mt_val (me_callC (C_is_number_below base) hg (hr.mono (by decide)) takesD (ma_cons (me_var (i := 3)) (ma_cons (me_len T (ma_cons (me_ix (me_ix (me_var (i := 0)) me_int) me_int) ma_nil)) ma_nil))))) (ss_one (ms_raiseE (k := 0) rfl takesD E.BadWord (.inl rfl) E.sup E.top (hr.mono (by decide)) (ma_cons (me_var (i := 2)) ma_nil))) ss_nil)))))

abbrev s_run : Stmt := top 18
def z_run : Scope := ⟨.function, [("machine", .local), ("standing", .local), ("word", .local), ("table", .local), ("passed", .local), ("letter", .local), ("need_machine", .globalImplicit), ("need_standing", .globalImplicit), ("need_word", .globalImplicit), ("tuple", .globalImplicit)], false, false, []⟩
abbrev n_run : List Str := ["machine", "standing", "word", "table", "passed", "letter"]
theorem sc_run : FnScope n_run ["machine", "standing", "word"] z_run := ⟨rfl, rfl, rfl, by decide +kernel, rfl, by decide +kernel, by decide +kernel⟩
def b_run : SM := (sSeq (sExpr (eCall m_need_machine (aCons (eVar 0) aNil))) (sSeq (sExpr (eCall m_need_standing (aCons (eVar 0) (aCons (eVar 1) aNil)))) (sSeq (sExpr (eCall m_need_word (aCons (eVar 0) (aCons (eVar 2) aNil)))) (sSeq (sAsg (eOp ixD (eVar 0) (eC (.int 0))) (gN 3)) (sSeq (sAsg (eLstM (aCons (eVar 1) aNil)) (gN 4)) (sSeq (sFor (iT (eVar 2)) (gN 5) (sExpr (eApp (eVar 4) (eOp ixD (eOp ixD (eVar 3) (eOp ixD (eVar 4) (eUn negD (eC (.int 1))))) (eVar 5))))) (sRet (eCall tupF (aCons (eVar 4) aNil)))))))))
def m_run : FM := fnM false 3 6 b_run
theorem f_run {f : Addr} {fd : FuncData} (F : Fun K "run" "run" s_run f fd) (T : Bn mg) (G : Gi mg) (E : Ex P K mg) (C_need_machine : ∀ base : Heap, CallF P w K mg base 3 "need_machine" ["thing"] m_need_machine) (C_need_standing : ∀ base : Heap, CallF P w K mg base 2 "need_standing" ["machine", "standing"] m_need_standing) (C_need_word : ∀ base : Heap, CallF P w K mg base 2 "need_word" ["machine", "word"] m_need_word) : FnG P w K mg base 4 f fd ["machine", "standing", "word"] (spF K mg 3 m_run) :=
  fn_def2 (b := false) (m := b_run) (sc := z_run) F rfl sc_run rfl rfl fun cdv A outer s H E_ hg hr => (ss_cons (ms_expr (me_callC (C_need_machine base) hg (hr.mono (by decide)) takesD (ma_cons (me_var (i := 0)) ma_nil))) (ss_cons (ms_expr (me_callC (C_need_standing base) hg (hr.mono (by decide)) takesD (ma_cons (me_var (i := 0)) (ma_cons (me_var (i := 1)) ma_nil)))) (ss_cons (ms_expr (me_callC (C_need_word base) hg (hr.mono (by decide)) takesD (ma_cons (me_var (i := 0)) (ma_cons (me_var (i := 2)) ma_nil)))) (ss_cons (ms_asg (me_ix (me_var (i := 0)) me_int) (mg_name (i := 3) sc_run.nd)) (ss_cons (ms_asg (me_lstM (ma_cons (me_var (i := 1)) ma_nil)) (mg_name (i := 4) sc_run.nd)) (ss_cons (ms_for passesD rfl (mi_tup (me_var (i := 2))) (mg_name (i := 5) sc_run.nd) (ss_one (ms_expr (me_append (me_var (i := 4)) (me_ix (me_ix (me_var (i := 3)) (me_ix (me_var (i := 4)) (me_neg me_int))) (me_var (i := 5))))))) (ss_one (ms_ret (me_tuple T (ma_cons (me_var (i := 4)) ma_nil))))))))))

abbrev s_law_begun : Stmt := top 20
def z_law_begun : Scope := ⟨.function, [("script", .local), ("k", .local), ("cells", .local), ("cell", .local), ("great", .local), ("seed", .local), ("int", .globalImplicit)], false, false, [("fast", .str "script"), ("fast", .str "k"), ("fast", .str "cells"), ("fast", .str "cell"), ("fast", .str "great"), ("fast", .str "seed")]⟩
abbrev n_law_begun : List Str := ["script", "k", "cells", "great", "seed", "cell"]
theorem sc_law_begun : FnScope n_law_begun ["script", "k"] z_law_begun := ⟨rfl, rfl, rfl, by decide +kernel, rfl, by decide +kernel, by decide +kernel⟩
def b_law_begun : SM := (sSeq (sAsg (eOp addD (eSl (eVar 0) (oSome (eVar 1)) oNone) (eSl (eVar 0) oNone (oSome (eVar 1)))) (gN 2)) (sSeq (sAsg (eComp false (iL (eVar 2)) [5] (gN 5) (bOf (eOp (cmpI fun i j => decide (j ≤ i)) (eVar 5) (eOp powD (eC (.int 10)) (eC (.int 18))))) (eVar 5)) (gN 3)) (sSeq (sAsg (eOp addD (eC (.int 71)) (eVar 1)) (gN 4)) (sSeq (sFor (iL (eVar 2)) (gN 5) (sAsg (eOp modD (eCall intF (aCons (eOp addD (eOp mulD (eVar 4) (eC (.int 48271))) (eVar 5)) aNil)) (eC (.int 2147483647))) (gN 4))) (sRet (eDict true [((eC (.str "left")), (eIf (bOf (eOp (eqD true) (eVar 3) (eLst aNil))) (eOp ixD (eVar 3) (eC (.int 0))) (eC (.int 0)))), ((eC (.str "seed")), (eVar 4)), ((eC (.str "cells")), (eOp addD (eVar 2) (eLst (aCons (eOp addD (eOp mulD (eC (.int 41)) (eVar 1)) (eC (.int 3))) aNil)))), ((eC (.str "spot")), (eC (.int 0)))]))))))
def m_law_begun : FM := fnM true 2 6 b_law_begun
theorem f_law_begun {f : Addr} {fd : FuncData} (F : Fun K "_law_begun" "_law_begun" s_law_begun f fd) (T : Bn mg) (G : Gi mg) (E : Ex P K mg)  : FnG P w K mg base 1 f fd ["script", "k"] (spF K mg 2 m_law_begun) :=
  fn_def2 (b := true) (m := b_law_begun) (sc := z_law_begun) F rfl sc_law_begun rfl rfl fun cdv A outer s H E_ hg hr => (ss_cons (ms_asg (me_add (me_sl (me_var (i := 0)) (mo_some (me_var (i := 1))) mo_none) (me_sl (me_var (i := 0)) mo_none (mo_some (me_var (i := 1))))) (mg_name (i := 2) sc_law_begun.nd)) (ss_cons (ms_setComp (mu := false) (i := 3) rfl sc_law_begun.nd rfl rfl rfl (mi_list (me_var (i := 2))) (own := [("cell", 5)]) (blk_of (N := n_law_begun) (sc := z_law_begun) (by decide +kernel)) gc_name tsc_one (fun _ _ _ _ _ => (pg_name (i := 5) sc_law_begun.nd rfl (by first | exact Or.inl rfl | exact Or.inr rfl) (by first | exact .inr rfl | exact .inl rfl))) (fun _ _ _ _ _ => pts_one (mt_cmp op_ge cmpI_ok (me_var (i := 5)) (me_pow me_int me_int) (nomark _))) (fun _ _ _ _ _ => (me_var (i := 5)))) (ss_cons (ms_asg (me_add me_int (me_var (i := 1))) (mg_name (i := 4) sc_law_begun.nd)) (ss_cons (ms_for passesD rfl (mi_list (me_var (i := 2))) (mg_name (i := 5) sc_law_begun.nd) (ss_one (ms_asg (me_mod (me_int1 T (ma_cons (me_add (me_mulI (me_var (i := 4)) me_int) (me_var (i := 5))) ma_nil)) me_int) (mg_name (i := 4) sc_law_begun.nd)))) (ss_one (ms_ret (me_dict (mu := true) (mp_cons me_str (me_if (mt_cmp (op_neN hr.units) eqD_ok (me_var (i := 3)) (me_lst ma_nil) (nomark _)) (me_ix (me_var (i := 3)) me_int) me_int) (mp_cons me_str (me_var (i := 4)) (mp_cons me_str (me_add (me_var (i := 2)) (me_lst (ma_cons (me_add (me_mulI me_int (me_var (i := 1))) me_int) ma_nil))) (mp_cons me_str me_int mp_nil)))))))))))

abbrev s_law_draw : Stmt := top 21
def z_law_draw : Scope := ⟨.function, [("m", .local), ("many", .local), ("found", .local), ("spot", .local), ("cells", .local), ("added", .local), ("cell", .local), ("blend", .local), ("int", .globalImplicit), ("len", .globalImplicit)], false, false, []⟩
abbrev n_law_draw : List Str := ["m", "many", "found", "spot", "cells", "added", "cell", "blend"]
theorem sc_law_draw : FnScope n_law_draw ["m", "many"] z_law_draw := ⟨rfl, rfl, rfl, by decide +kernel, rfl, by decide +kernel, by decide +kernel⟩
def b_law_draw : SM := (sSeq (sIf (bOf (eOp (cmpI fun i j => decide (j < i)) (eOp dgD (eVar 0) (eC (.str "left"))) (eC (.int 0)))) (sSeq (sAsg (eOp modD (eCall intF (aCons (eOp dgD (eVar 0) (eC (.str "left"))) aNil)) (eVar 1)) (gN 2)) (sSeq (sDput (eVar 0) (eC (.str "left")) (eOp divD (eOp dgD (eVar 0) (eC (.str "left"))) (eVar 1))) (sRet (eVar 2)))) sNx) (sSeq (sAsg (eOp dgD (eVar 0) (eC (.str "spot"))) (gN 3)) (sSeq (sDput (eVar 0) (eC (.str "spot")) (eOp addD (eVar 3) (eC (.int 1)))) (sSeq (sPar 4 5 (aCons (eOp dgD (eVar 0) (eC (.str "cells"))) (aCons (eOp addD (eOp dgD (eVar 0) (eC (.str "seed"))) (eOp mulD (eOp mulD (eC (.int 40503)) (eVar 3)) (eVar 3))) aNil))) (sSeq (sAsg (eOp ixD (eVar 4) (eOp modD (eCall intF (aCons (eVar 3) aNil)) (eCall lenF (aCons (eVar 4) aNil)))) (gN 6)) (sSeq (sAsg (eOp modD (eCall intF (aCons (eOp addD (eOp mulD (eVar 6) (eOp addD (eOp mulD (eC (.int 2)) (eVar 3)) (eC (.int 3)))) (eVar 5)) aNil)) (eC (.int 2147483647))) (gN 7)) (sSeq (sAsg (eOp modD (eCall intF (aCons (eOp addD (eOp addD (eOp mulD (eVar 7) (eVar 7)) (eOp mulD (eC (.int 69621)) (eVar 3))) (eOp dgD (eVar 0) (eC (.str "seed")))) aNil)) (eC (.int 2147483629))) (gN 7)) (sRet (eOp modD (eOp divD (eOp modD (eCall intF (aCons (eOp addD (eOp mulD (eVar 7) (eC (.int 48271))) (eVar 3)) aNil)) (eC (.int 2147483647))) (eC (.int 11))) (eVar 1))))))))))
def m_law_draw : FM := fnM false 2 8 b_law_draw
theorem f_law_draw {f : Addr} {fd : FuncData} (F : Fun K "_law_draw" "_law_draw" s_law_draw f fd) (T : Bn mg) (G : Gi mg) (E : Ex P K mg)  : FnG P w K mg base 1 f fd ["m", "many"] (spF K mg 2 m_law_draw) :=
  fn_def2 (b := false) (m := b_law_draw) (sc := z_law_draw) F rfl sc_law_draw rfl rfl fun cdv A outer s H E_ hg hr => (ss_cons (ms_if (mt_cmp op_gt cmpI_ok (me_dget hr (me_var (i := 0)) me_str) me_int (nomark _)) (ss_cons (ms_asg (me_mod (me_int1 T (ma_cons (me_dget hr (me_var (i := 0)) me_str) ma_nil)) (me_var (i := 1))) (mg_name (i := 2) sc_law_draw.nd)) (ss_cons (ms_dput hr (me_var (i := 0)) me_str (me_div (me_dget hr (me_var (i := 0)) me_str) (me_var (i := 1)))) (ss_one (ms_ret (me_var (i := 2)))))) ss_nil) (ss_cons (ms_asg (me_dget hr (me_var (i := 0)) me_str) (mg_name (i := 3) sc_law_draw.nd)) (ss_cons (ms_dput hr (me_var (i := 0)) me_str (me_add (me_var (i := 3)) me_int)) (ss_cons (ms_par (i := 4) (j := 5) rfl sc_law_draw.nd (ma_cons (me_dget hr (me_var (i := 0)) me_str) (ma_cons (me_add (me_dget hr (me_var (i := 0)) me_str) (me_mulI (me_mulI me_int (me_var (i := 3))) (me_var (i := 3)))) ma_nil))) (ss_cons (ms_asg (me_ix (me_var (i := 4)) (me_mod (me_int1 T (ma_cons (me_var (i := 3)) ma_nil)) (me_len T (ma_cons (me_var (i := 4)) ma_nil)))) (mg_name (i := 6) sc_law_draw.nd)) (ss_cons (ms_asg (me_mod (me_int1 T (ma_cons (me_add (me_mulI (me_var (i := 6)) (me_add (me_mulI me_int (me_var (i := 3))) me_int)) (me_var (i := 5))) ma_nil)) me_int) (mg_name (i := 7) sc_law_draw.nd)) (ss_cons (ms_asg (me_mod (me_int1 T (ma_cons (me_add (me_add (me_mulI (me_var (i := 7)) (me_var (i := 7))) (me_mulI me_int (me_var (i := 3)))) (me_dget hr (me_var (i := 0)) me_str)) ma_nil)) me_int) (mg_name (i := 7) sc_law_draw.nd)) (ss_one (ms_ret (me_mod (me_div (me_mod (me_int1 T (ma_cons (me_add (me_mulI (me_var (i := 7)) me_int) (me_var (i := 3))) ma_nil)) me_int) me_int) (me_var (i := 1))))))))))))

abbrev s_law_of : Stmt := top 22
def z_law_of : Scope := ⟨.function, [("m", .local), ("some", .local), ("_law_draw", .globalImplicit), ("len", .globalImplicit)], false, false, []⟩
abbrev n_law_of : List Str := ["m", "some"]
theorem sc_law_of : FnScope n_law_of ["m", "some"] z_law_of := ⟨rfl, rfl, rfl, by decide +kernel, rfl, by decide +kernel, by decide +kernel⟩
def b_law_of : SM := (sRet (eOp ixD (eVar 1) (eCall m_law_draw (aCons (eVar 0) (aCons (eCall lenF (aCons (eVar 1) aNil)) aNil)))))
def m_law_of : FM := fnM false 2 2 b_law_of
theorem f_law_of {f : Addr} {fd : FuncData} (F : Fun K "_law_of" "_law_of" s_law_of f fd) (T : Bn mg) (G : Gi mg) (E : Ex P K mg) (C_law_draw : ∀ base : Heap, CallF P w K mg base 1 "_law_draw" ["m", "many"] m_law_draw) : FnG P w K mg base 2 f fd ["m", "some"] (spF K mg 2 m_law_of) :=
  fn_def2 (b := false) (m := b_law_of) (sc := z_law_of) F rfl sc_law_of rfl rfl fun cdv A outer s H E_ hg hr => (ss_one (ms_ret (me_ix (me_var (i := 1)) (me_callC (C_law_draw base) hg (hr.mono (by decide)) takesD (ma_cons (me_var (i := 0)) (ma_cons (me_len T (ma_cons (me_var (i := 1)) ma_nil)) ma_nil))))))

abbrev s_law_frame : Stmt := top 23
def z_law_frame : Scope := ⟨.function, [("m", .cell), ("most", .local), ("wide", .local), ("many", .local), ("letters", .local), ("k", .local), ("rows", .local), ("turn", .local), ("kind", .local), ("step", .local), ("half", .local), ("goal", .local), ("_law_draw", .globalImplicit), ("range", .globalImplicit), ("max", .globalImplicit), ("int", .globalImplicit), ("min", .globalImplicit), ("tuple", .globalImplicit)], false, false, [("fast", .str "m"), ("fast", .str "most"), ("fast", .str "wide"), ("fast", .str "many"), ("fast", .str "letters"), ("fast", .str "k"), ("fast", .str "rows"), ("fast", .str "turn"), ("fast", .str "kind"), ("fast", .str "step"), ("fast", .str "half"), ("fast", .str "goal"), ("fast", .str "row")]⟩
abbrev n_law_frame : List Str := ["m", "most", "wide", "many", "letters", "rows", "turn", "kind", "step", "half", "k", "goal", "row"]
theorem sc_law_frame : FnScope n_law_frame ["m", "most", "wide"] z_law_frame := ⟨rfl, rfl, rfl, by decide +kernel, rfl, by decide +kernel, by decide +kernel⟩
def b_law_frame : SM := (sSeq (sPar 3 4 (aCons (eOp addD (eC (.int 1)) (eCall m_law_draw (aCons (eVar 0) (aCons (eVar 1) aNil)))) (aCons (eOp addD (eC (.int 1)) (eCall m_law_draw (aCons (eVar 0) (aCons (eVar 2) aNil)))) aNil))) (sSeq (sAsg (eComp true (iR1 (aCons (eVar 3) aNil)) [10] (gN 10) bYes (eLstM aNil)) (gN 5)) (sSeq (sFor (iR1 (aCons (eVar 4) aNil)) (gN 6) (sSeq (sPar 7 8 (aCons (eCall m_law_draw (aCons (eVar 0) (aCons (eC (.int 5)) aNil))) (aCons (eOp addD (eC (.int 1)) (eCall m_law_draw (aCons (eVar 0) (aCons (eCall max2F (aCons (eOp subD (eVar 3) (eC (.int 1))) (aCons (eC (.int 1)) aNil))) aNil)))) aNil))) (sSeq (sAsg (eOp addD (eC (.int 1)) (eCall m_law_draw (aCons (eVar 0) (aCons (eVar 3) aNil)))) (gN 9)) (sFor (iR1 (aCons (eVar 3) aNil)) (gN 10) (sSeq (sAsg (eCall m_law_draw (aCons (eVar 0) (aCons (eVar 3) aNil))) (gN 11)) (sSeq (sIf (bOf (eOp (cmpI fun i j => decide (i < j)) (eVar 7) (eC (.int 2)))) (sAsg (eOp modD (eCall intF (aCons (eOp addD (eVar 10) (eVar 8)) aNil)) (eVar 3)) (gN 11)) sNx) (sSeq (sIf (bOf (eOp (eqD false) (eVar 7) (eC (.int 2)))) (sAsg (eOp addD (eOp mulD (eCall intF (aCons (eOp divD (eVar 10) (eVar 9)) aNil)) (eVar 9)) (eOp modD (eCall intF (aCons (eOp addD (eVar 10) (eC (.int 1))) aNil)) (eVar 9))) (gN 11)) sNx) (sSeq (sIf (bOf (eOp (eqD false) (eVar 7) (eC (.int 3)))) (sAsg (eOp modD (eCall intF (aCons (eVar 10) aNil)) (eVar 9)) (gN 11)) sNx) (sExpr (eApp (eOp ixD (eVar 5) (eVar 10)) (eCall min2F (aCons (eVar 11) (aCons (eOp subD (eVar 3) (eC (.int 1))) aNil))))))))))))) (sRet (eTup (aCons (eCall tupF (aCons (eComp false (iM (eVar 5)) [12] (gN 12) bYes (eCall tupF (aCons (eVar 12) aNil))) aNil)) (aCons (eCall tupF (aCons (eComp false (iR1 (aCons (eVar 3) aNil)) [10] (gN 10) bYes (eCall m_law_of (aCons (eVar 0) (aCons (eLst (aCons (eC (.int 0)) (aCons (eC (.int 0)) (aCons (eC (.int 1)) (aCons (eC (.int 2)) aNil))))) aNil)))) aNil)) aNil)))))))
def m_law_frame : FM := fnM false 3 13 b_law_frame
theorem f_law_frame {f : Addr} {fd : FuncData} (F : Fun K "_law_frame" "_law_frame" s_law_frame f fd) (T : Bn mg) (G : Gi mg) (E : Ex P K mg) (C_law_draw : ∀ base : Heap, CallF P w K mg base 1 "_law_draw" ["m", "many"] m_law_draw) (C_law_of : ∀ base : Heap, CallF P w K mg base 2 "_law_of" ["m", "some"] m_law_of) : FnG P w K mg base 3 f fd ["m", "most", "wide"] (spF K mg 3 m_law_frame) :=
  fn_def2 (b := false) (m := b_law_frame) (sc := z_law_frame) F rfl sc_law_frame rfl rfl fun cdv A outer s H E_ hg hr => (ss_cons (ms_par (i := 3) (j := 4) rfl sc_law_frame.nd (ma_cons (me_add me_int (me_callC (C_law_draw base) hg (hr.mono (by decide)) takesD (ma_cons (me_var (i := 0)) (ma_cons (me_var (i := 1)) ma_nil)))) (ma_cons (me_add me_int (me_callC (C_law_draw base) hg (hr.mono (by decide)) takesD (ma_cons (me_var (i := 0)) (ma_cons (me_var (i := 2)) ma_nil)))) ma_nil))) (ss_cons (ms_setComp (mu := true) (i := 5) rfl sc_law_frame.nd rfl rfl rfl (mi_range1 T.range (ma_cons (me_var (i := 3)) ma_nil)) (own := [("k", 10)]) (blk_of (N := n_law_frame) (sc := z_law_frame) (by decide +kernel)) gc_name tsc_none (fun _ _ _ _ _ => (pg_name (i := 10) sc_law_frame.nd rfl (by first | exact Or.inl rfl | exact Or.inr rfl) (by first | exact .inr rfl | exact .inl rfl))) (fun _ _ _ _ _ => pts_nil) (fun _ _ _ _ _ => (me_lstM ma_nil))) (ss_cons (ms_for passesD rfl (mi_range1 T.range (ma_cons (me_var (i := 4)) ma_nil)) (mg_name (i := 6) sc_law_frame.nd) (ss_cons (ms_par (i := 7) (j := 8) rfl sc_law_frame.nd (ma_cons (me_callC (C_law_draw base) hg (hr.mono (by decide)) takesD (ma_cons (me_var (i := 0)) (ma_cons me_int ma_nil))) (ma_cons (me_add me_int (me_callC (C_law_draw base) hg (hr.mono (by decide)) takesD (ma_cons (me_var (i := 0)) (ma_cons (me_max2 T rfl (ma_cons (me_sub (me_var (i := 3)) me_int) (ma_cons me_int ma_nil))) ma_nil)))) ma_nil))) (ss_cons (ms_asg (me_add me_int (me_callC (C_law_draw base) hg (hr.mono (by decide)) takesD (ma_cons (me_var (i := 0)) (ma_cons (me_var (i := 3)) ma_nil)))) (mg_name (i := 9) sc_law_frame.nd)) (ss_one (ms_for passesD rfl (mi_range1 T.range (ma_cons (me_var (i := 3)) ma_nil)) (mg_name (i := 10) sc_law_frame.nd) (ss_cons (ms_asg (me_callC (C_law_draw base) hg (hr.mono (by decide)) takesD (ma_cons (me_var (i := 0)) (ma_cons (me_var (i := 3)) ma_nil))) (mg_name (i := 11) sc_law_frame.nd)) (ss_cons (ms_if (mt_cmp op_lt cmpI_ok (me_var (i := 7)) me_int (nomark _)) (ss_one (ms_asg (me_mod (me_int1 T (ma_cons (me_add (me_var (i := 10)) (me_var (i := 8))) ma_nil)) (me_var (i := 3))) (mg_name (i := 11) sc_law_frame.nd))) ss_nil) (ss_cons (ms_if (mt_cmp (op_eqN hr.units) eqD_ok (me_var (i := 7)) me_int (nomark _)) (ss_one (ms_asg (me_add (me_mulI (me_int1 T (ma_cons (me_div (me_var (i := 10)) (me_var (i := 9))) ma_nil)) (me_var (i := 9))) (me_mod (me_int1 T (ma_cons (me_add (me_var (i := 10)) me_int) ma_nil)) (me_var (i := 9)))) (mg_name (i := 11) sc_law_frame.nd))) ss_nil) (ss_cons (ms_if (mt_cmp (op_eqN hr.units) eqD_ok (me_var (i := 7)) me_int (nomark _)) (ss_one (ms_asg (me_mod (me_int1 T (ma_cons (me_var (i := 10)) ma_nil)) (me_var (i := 9))) (mg_name (i := 11) sc_law_frame.nd))) ss_nil) (ss_one (ms_expr (me_append (me_ix (me_var (i := 5)) (me_var (i := 10))) (me_min2 T rfl (ma_cons (me_var (i := 11)) (ma_cons (me_sub (me_var (i := 3)) me_int) ma_nil))))))))))))))) (ss_one (ms_ret (me_tup (ma_cons (me_tuple T (ma_cons (me_comp (mu := false) rfl sc_law_frame.nd (mi_cell (me_var (i := 5))) (own := [("row", 12)]) (blk_of (N := n_law_frame) (sc := z_law_frame) (by decide +kernel)) gc_name tsc_none (fun _ _ _ _ _ => (pg_name (i := 12) sc_law_frame.nd rfl (by first | exact Or.inl rfl | exact Or.inr rfl) (by first | exact .inr rfl | exact .inl rfl))) (fun _ _ _ _ _ => pts_nil) (fun _ _ _ _ _ => (me_tuple T (ma_cons (me_var (i := 12)) ma_nil)))) ma_nil)) (ma_cons (me_tuple T (ma_cons (me_comp (mu := false) rfl sc_law_frame.nd (mi_range1 T.range (ma_cons (me_var (i := 3)) ma_nil)) (own := [("k", 10)]) (blk_of (N := n_law_frame) (sc := z_law_frame) (by decide +kernel)) gc_name tsc_none (fun _ _ _ _ _ => (pg_name (i := 10) sc_law_frame.nd rfl (by first | exact Or.inl rfl | exact Or.inr rfl) (by first | exact .inr rfl | exact .inl rfl))) (fun _ _ _ _ _ => pts_nil) (fun _ _ _ _ _ => (me_callC (C_law_of base) hg (hr.mono (by decide)) takes0 (ma_cons (me_var (i := 0)) (ma_cons (me_lst (ma_cons me_int (ma_cons me_int (ma_cons me_int (ma_cons me_int ma_nil))))) ma_nil))))) ma_nil)) ma_nil))))))))

abbrev s_law_gone : Stmt := top 24
def z_law_gone : Scope := ⟨.function, [("frame", .local), ("begin", .local), ("letters", .local), ("found", .local), ("letter", .local), ("tuple", .globalImplicit)], false, false, []⟩
abbrev n_law_gone : List Str := ["frame", "begin", "letters", "found", "letter"]
theorem sc_law_gone : FnScope n_law_gone ["frame", "begin", "letters"] z_law_gone := ⟨rfl, rfl, rfl, by decide +kernel, rfl, by decide +kernel, by decide +kernel⟩
def b_law_gone : SM := (sSeq (sAsg (eLst (aCons (eVar 1) aNil)) (gN 3)) (sSeq (sFor (iT (eVar 2)) (gN 4) (sAsg (eOp addD (eVar 3) (eLst (aCons (eOp ixD (eOp ixD (eOp ixD (eVar 0) (eC (.int 0))) (eOp ixD (eVar 3) (eUn negD (eC (.int 1))))) (eVar 4)) aNil))) (gN 3))) (sRet (eCall tupF (aCons (eVar 3) aNil)))))
def m_law_gone : FM := fnM false 3 5 b_law_gone
theorem f_law_gone {f : Addr} {fd : FuncData} (F : Fun K "_law_gone" "_law_gone" s_law_gone f fd) (T : Bn mg) (G : Gi mg) (E : Ex P K mg)  : FnG P w K mg base 1 f fd ["frame", "begin", "letters"] (spF K mg 3 m_law_gone) :=
  fn_def2 (b := false) (m := b_law_gone) (sc := z_law_gone) F rfl sc_law_gone rfl rfl fun cdv A outer s H E_ hg hr => (ss_cons (ms_asg (me_lst (ma_cons (me_var (i := 1)) ma_nil)) (mg_name (i := 3) sc_law_gone.nd)) (ss_cons (ms_for passesD rfl (mi_tup (me_var (i := 2))) (mg_name (i := 4) sc_law_gone.nd) (ss_one (ms_asg (me_add (me_var (i := 3)) (me_lst (ma_cons (me_ix (me_ix (me_ix (me_var (i := 0)) me_int) (me_ix (me_var (i := 3)) (me_neg me_int))) (me_var (i := 4))) ma_nil))) (mg_name (i := 3) sc_law_gone.nd)))) (ss_one (ms_ret (me_tuple T (ma_cons (me_var (i := 3)) ma_nil))))))

abbrev s_law_heard : Stmt := top 25
def z_law_heard : Scope := ⟨.function, [("frame", .local), ("begin", .local), ("letters", .local), ("error", .local), ("run", .globalImplicit), ("PartError", .globalImplicit), ("isinstance", .globalImplicit), ("BadMachine", .globalImplicit), ("BadWord", .globalImplicit), ("BadStanding", .globalImplicit)], false, false, []⟩
abbrev n_law_heard : List Str := ["frame", "begin", "letters", "error"]
theorem sc_law_heard : FnScope n_law_heard ["frame", "begin", "letters"] z_law_heard := ⟨rfl, rfl, rfl, by decide +kernel, rfl, by decide +kernel, by decide +kernel⟩
def b_law_heard : SM := (sTry yesX [] 3 (sRet (eLst (aCons (eCall m_run (aCons (eVar 0) (aCons (eVar 1) (aCons (eVar 2) aNil)))) aNil))) (sIfE ["BadMachine"] (sRetE (ePairE "machine" "place")) (sIfE ["BadWord"] (sRetE (ePairE "word" "place")) (sRetE (eIfE ["BadStanding"] (ePairE "standing" "value") (fun _ => (eTup (aCons (eC (.str "other")) aNil))))))))
def m_law_heard : FM := fnM false 3 4 b_law_heard
theorem f_law_heard {f : Addr} {fd : FuncData} (F : Fun K "_law_heard" "_law_heard" s_law_heard f fd) (T : Bn mg) (G : Gi mg) (E : Ex P K mg) (C_run : ∀ base : Heap, CallF P w K mg base 4 "run" ["machine", "standing", "word"] m_run) : FnG P w K mg base 5 f fd ["frame", "begin", "letters"] (spF K mg 3 m_law_heard) :=
  fn_def2 (b := false) (m := b_law_heard) (sc := z_law_heard) F rfl sc_law_heard rfl rfl fun cdv A outer s H E_ hg hr => (ss_one (ms_try (i := 3) (y := "PartError") rfl rfl sc_law_heard.nd takesD E.ca E.by_PartError catNo_nil (fun V pn xe tk po => (ss_one (ms_ret (me_lst (ma_cons (me_callC (C_run base) hg (hr.mono (by decide)) tk (ma_cons (me_var (i := 0)) (ma_cons (me_var (i := 1)) (ma_cons (me_var (i := 2)) ma_nil)))) ma_nil))))) (fun a oe cls d pn hz hv => (xs_if (xe_is T E.ca E.is_BadMachine hz hv) (xs_ret rfl rfl (xe_pair (.inl rfl) E.ca hz hv)) (xs_if (xe_is T E.ca E.is_BadWord hz hv) (xs_ret rfl rfl (xe_pair (.inl rfl) E.ca hz hv)) (xs_ret rfl rfl (xe_if (xe_is T E.ca E.is_BadStanding hz hv) (xe_pair (.inr (.inl rfl)) E.ca hz hv) (xe_lift (me_tup (ma_cons me_str ma_nil))))))))))

abbrev s_law_right : Stmt := top 26
def z_law_right : Scope := ⟨.function, [("frame", .local), ("begin", .local), ("letters", .local), ("due", .local), ("kept_so", .local), ("turn", .local), ("repr", .globalImplicit), ("range", .globalImplicit), ("_law_heard", .globalImplicit)], false, false, []⟩
abbrev n_law_right : List Str := ["frame", "begin", "letters", "due", "kept_so", "turn"]
theorem sc_law_right : FnScope n_law_right ["frame", "begin", "letters", "due"] z_law_right := ⟨rfl, rfl, rfl, by decide +kernel, rfl, by decide +kernel, by decide +kernel⟩
def b_law_right : SM := (sSeq (sAsg (eCall repF (aCons (eLst (aCons (eVar 0) (aCons (eVar 1) (aCons (eVar 2) aNil)))) aNil)) (gN 4)) (sSeq (sFor (iR1 (aCons (eC (.int 2)) aNil)) (gN 5) (sIf (bOf (eOp (eqD true) (eCall repF (aCons (eCall m_law_heard (aCons (eVar 0) (aCons (eVar 1) (aCons (eVar 2) aNil)))) aNil)) (eCall repF (aCons (eVar 3) aNil)))) (sRet (eC (.bool false))) sNx)) (sRet (eOp (eqD false) (eCall repF (aCons (eLst (aCons (eVar 0) (aCons (eVar 1) (aCons (eVar 2) aNil)))) aNil)) (eVar 4)))))
def m_law_right : FM := fnM false 4 6 b_law_right
theorem f_law_right {f : Addr} {fd : FuncData} (F : Fun K "_law_right" "_law_right" s_law_right f fd) (T : Bn mg) (G : Gi mg) (E : Ex P K mg) (C_law_heard : ∀ base : Heap, CallF P w K mg base 5 "_law_heard" ["frame", "begin", "letters"] m_law_heard) : FnG P w K mg base 6 f fd ["frame", "begin", "letters", "due"] (spF K mg 4 m_law_right) :=
  fn_def2 (b := false) (m := b_law_right) (sc := z_law_right) F rfl sc_law_right rfl rfl fun cdv A outer s H E_ hg hr => (ss_cons (ms_asg (me_repr T hg hr (ma_cons (me_lst (ma_cons (me_var (i := 0)) (ma_cons (me_var (i := 1)) (ma_cons (me_var (i := 2)) ma_nil)))) ma_nil)) (mg_name (i := 4) sc_law_right.nd)) (ss_cons (ms_for passesD rfl (mi_range1 T.range (ma_cons me_int ma_nil)) (mg_name (i := 5) sc_law_right.nd) (ss_one (ms_if (mt_cmp (op_neN hr.units) eqD_ok (me_repr T hg hr (ma_cons (me_callC (C_law_heard base) hg (hr.mono (by decide)) takesD (ma_cons (me_var (i := 0)) (ma_cons (me_var (i := 1)) (ma_cons (me_var (i := 2)) ma_nil)))) ma_nil)) (me_repr T hg hr (ma_cons (me_var (i := 3)) ma_nil)) (nomark _)) (ss_one (ms_ret me_bl)) ss_nil))) (ss_one (ms_ret (me_eq hr (me_repr T hg hr (ma_cons (me_lst (ma_cons (me_var (i := 0)) (ma_cons (me_var (i := 1)) (ma_cons (me_var (i := 2)) ma_nil)))) ma_nil)) (me_var (i := 4)))))))

abbrev s_law_refused : Stmt := top 27
def z_law_refused : Scope := ⟨.function, [("m", .cell), ("frame", .local), ("many", .local), ("wide", .cell), ("odd", .local), ("good", .local), ("len", .globalImplicit), ("_law_right", .globalImplicit), ("tuple", .globalImplicit), ("range", .globalImplicit), ("_law_draw", .globalImplicit), ("_law_gone", .globalImplicit)], false, false, [("fast", .str "m"), ("fast", .str "frame"), ("fast", .str "many"), ("fast", .str "wide"), ("fast", .str "odd"), ("fast", .str "k"), ("fast", .str "good")]⟩
abbrev n_law_refused : List Str := ["m", "frame", "many", "wide", "odd", "good", "k"]
theorem sc_law_refused : FnScope n_law_refused ["m", "frame"] z_law_refused := ⟨rfl, rfl, rfl, by decide +kernel, rfl, by decide +kernel, by decide +kernel⟩
def b_law_refused : SM := (sSeq (sAsg (eTup (aCons (eCall lenF (aCons (eOp ixD (eVar 1) (eC (.int 0))) aNil)) (aCons (eCall lenF (aCons (eOp ixD (eOp ixD (eVar 1) (eC (.int 0))) (eC (.int 0))) aNil)) aNil))) (gT [(gN 2), (gN 3)])) (sSeq (sFor (iT (eTup (aCons (eC .none) (aCons (eUn negD (eC (.int 1))) (aCons (eVar 2) (aCons (eC (.bool true)) (aCons (eC (.bool false)) (aCons (eC (.str "0")) (aCons (eTup (aCons (eC (.int 0)) aNil)) (aCons (eLst (aCons (eC (.int 0)) aNil)) (aCons eD0 (aCons (eOp powD (eC (.int 10)) (eC (.int 30))) aNil)))))))))))) (gN 4) (sSeq (sIf (bOr (bNot (bOf (eCall m_law_right (aCons (eVar 1) (aCons (eVar 4) (aCons (eTup aNil) (aCons (eTup (aCons (eC (.str "standing")) (aCons (eVar 4) aNil))) aNil))))))) (bNot (bOf (eCall m_law_right (aCons (eVar 1) (aCons (eVar 4) (aCons (eC .none) (aCons (eTup (aCons (eC (.str "standing")) (aCons (eVar 4) aNil))) aNil)))))))) (sRet (eC (.bool false))) sNx) (sIf (bNot (bOf (eCall m_law_right (aCons (eTup aNil) (aCons (eVar 4) (aCons (eVar 4) (aCons (eTup (aCons (eC (.str "machine")) (aCons (eTup aNil) aNil))) aNil))))))) (sRet (eC (.bool false))) sNx))) (sSeq (sAsg (eCall tupF (aCons (eComp false (iR1 (aCons (eCall m_law_draw (aCons (eVar 0) (aCons (eC (.int 4)) aNil))) aNil)) [6] (gN 6) bYes (eCall m_law_draw (aCons (eVar 0) (aCons (eVar 3) aNil)))) aNil)) (gN 5)) (sSeq (sFor (iT (eTup (aCons (eC .none) (aCons (eLst (aCons (eC (.int 0)) aNil)) (aCons (eLst aNil) (aCons (eC (.str "0")) (aCons (eC (.str "")) (aCons (eC (.int 0)) (aCons eD0 (aCons (eOp repD (eTup (aCons (eC (.int 0)) aNil)) (eC (.int 401))) (aCons (eOp repD (eTup (aCons (eC .none) aNil)) (eC (.int 401))) aNil))))))))))) (gN 4) (sIf (bNot (bOf (eCall m_law_right (aCons (eVar 1) (aCons (eOp subD (eVar 2) (eC (.int 1))) (aCons (eVar 4) (aCons (eTup (aCons (eC (.str "word")) (aCons (eC .none) aNil))) aNil))))))) (sRet (eC (.bool false))) sNx)) (sSeq (sFor (iT (eTup (aCons (eC .none) (aCons (eUn negD (eC (.int 1))) (aCons (eVar 3) (aCons (eC (.bool true)) (aCons (eC (.str "0")) (aCons (eTup (aCons (eC (.int 0)) aNil)) (aCons (eLst (aCons (eC (.int 0)) aNil)) (aCons eD0 (aCons (eOp powD (eC (.int 10)) (eC (.int 30))) aNil))))))))))) (gN 4) (sIf (bNot (bOf (eCall m_law_right (aCons (eVar 1) (aCons (eC (.int 0)) (aCons (eOp addD (eVar 5) (eTup (aCons (eVar 4) (aCons (eVar 4) aNil)))) (aCons (eTup (aCons (eC (.str "word")) (aCons (eCall lenF (aCons (eVar 5) aNil)) aNil))) aNil))))))) (sRet (eC (.bool false))) sNx)) (sRet (eCall m_law_right (aCons (eVar 1) (aCons (eOp subD (eVar 2) (eC (.int 1))) (aCons (eVar 5) (aCons (eLst (aCons (eCall m_law_gone (aCons (eVar 1) (aCons (eOp subD (eVar 2) (eC (.int 1))) (aCons (eVar 5) aNil)))) aNil)) aNil)))))))))))
def m_law_refused : FM := fnM false 2 7 b_law_refused
theorem f_law_refused {f : Addr} {fd : FuncData} (F : Fun K "_law_refused" "_law_refused" s_law_refused f fd) (T : Bn mg) (G : Gi mg) (E : Ex P K mg) (C_law_right : ∀ base : Heap, CallF P w K mg base 6 "_law_right" ["frame", "begin", "letters", "due"] m_law_right) (C_law_draw : ∀ base : Heap, CallF P w K mg base 1 "_law_draw" ["m", "many"] m_law_draw) (C_law_gone : ∀ base : Heap, CallF P w K mg base 1 "_law_gone" ["frame", "begin", "letters"] m_law_gone) : FnG P w K mg base 7 f fd ["m", "frame"] (spF K mg 2 m_law_refused) :=
  fn_def2 (b := false) (m := b_law_refused) (sc := z_law_refused) F rfl sc_law_refused rfl rfl fun cdv A outer s H E_ hg hr => (ss_cons (ms_asg (me_tup (ma_cons (me_len T (ma_cons (me_ix (me_var (i := 1)) me_int) ma_nil)) (ma_cons (me_len T (ma_cons (me_ix (me_ix (me_var (i := 1)) me_int) me_int) ma_nil)) ma_nil))) (mg_tup rfl (mgs_cons (mg_name (i := 2) sc_law_refused.nd) (mgs_cons (mg_name (i := 3) sc_law_refused.nd) mgs_nil)))) (ss_cons (ms_for passesD rfl (mi_tup (me_tup (ma_cons me_non (ma_cons (me_neg me_int) (ma_cons (me_var (i := 2)) (ma_cons me_bl (ma_cons me_bl (ma_cons me_str (ma_cons (me_tup (ma_cons me_int ma_nil)) (ma_cons (me_lst (ma_cons me_int ma_nil)) (ma_cons me_d0 (ma_cons (me_pow me_int me_int) ma_nil)))))))))))) (mg_name (i := 4) sc_law_refused.nd) (ss_cons (ms_if (mt_w (mw_or (mt_not (mt_val (me_callC (C_law_right base) hg (hr.mono (by decide)) takesD (ma_cons (me_var (i := 1)) (ma_cons (me_var (i := 4)) (ma_cons (me_tup ma_nil) (ma_cons (me_tup (ma_cons me_str (ma_cons (me_var (i := 4)) ma_nil))) ma_nil))))))) (mw_or1 (mt_not (mt_val (me_callC (C_law_right base) hg (hr.mono (by decide)) takesD (ma_cons (me_var (i := 1)) (ma_cons (me_var (i := 4)) (ma_cons me_non (ma_cons (me_tup (ma_cons me_str (ma_cons (me_var (i := 4)) ma_nil))) ma_nil)))))))))) (ss_one (ms_ret me_bl)) ss_nil) (ss_one (ms_if (mt_not (mt_val (me_callC (C_law_right base) hg (hr.mono (by decide)) takesD (ma_cons (me_tup ma_nil) (ma_cons (me_var (i := 4)) (ma_cons (me_var (i := 4)) (ma_cons (me_tup (ma_cons me_str (ma_cons (me_tup ma_nil) ma_nil))) ma_nil))))))) (ss_one (ms_ret me_bl)) ss_nil)))) (ss_cons (ms_asg (me_tuple T (ma_cons (me_comp (mu := false) rfl sc_law_refused.nd (mi_range1 T.range (ma_cons (me_callC (C_law_draw base) hg (hr.mono (by decide)) takesD (ma_cons (me_var (i := 0)) (ma_cons me_int ma_nil))) ma_nil)) (own := [("k", 6)]) (blk_of (N := n_law_refused) (sc := z_law_refused) (by decide +kernel)) gc_name tsc_none (fun _ _ _ _ _ => (pg_name (i := 6) sc_law_refused.nd rfl (by first | exact Or.inl rfl | exact Or.inr rfl) (by first | exact .inr rfl | exact .inl rfl))) (fun _ _ _ _ _ => pts_nil) (fun _ _ _ _ _ => (me_callC (C_law_draw base) hg (hr.mono (by decide)) takes0 (ma_cons (me_var (i := 0)) (ma_cons (me_var (i := 3)) ma_nil))))) ma_nil)) (mg_name (i := 5) sc_law_refused.nd)) (ss_cons (ms_for passesD rfl (mi_tup (me_tup (ma_cons me_non (ma_cons (me_lst (ma_cons me_int ma_nil)) (ma_cons (me_lst ma_nil) (ma_cons me_str (ma_cons me_str (ma_cons me_int (ma_cons me_d0 (ma_cons (me_rep (me_tup (ma_cons me_int ma_nil)) me_int) (ma_cons (me_rep (me_tup (ma_cons me_non ma_nil)) me_int) ma_nil))))))))))) (mg_name (i := 4) sc_law_refused.nd) (ss_one (ms_if (mt_not (mt_val (me_callC (C_law_right base) hg (hr.mono (by decide)) takesD (ma_cons (me_var (i := 1)) (ma_cons (me_sub (me_var (i := 2)) me_int) (ma_cons (me_var (i := 4)) (ma_cons (me_tup (ma_cons me_str (ma_cons me_non ma_nil))) ma_nil))))))) (ss_one (ms_ret me_bl)) ss_nil))) (ss_cons (ms_for passesD rfl (mi_tup (me_tup (ma_cons me_non (ma_cons (me_neg me_int) (ma_cons (me_var (i := 3)) (ma_cons me_bl (ma_cons me_str (ma_cons (me_tup (ma_cons me_int ma_nil)) (ma_cons (me_lst (ma_cons me_int ma_nil)) (ma_cons me_d0 (ma_cons (me_pow me_int me_int) ma_nil))))))))))) (mg_name (i := 4) sc_law_refused.nd) (ss_one (ms_if (mt_not (mt_val (me_callC (C_law_right base) hg (hr.mono (by decide)) takesD (ma_cons (me_var (i := 1)) (ma_cons me_int (ma_cons (me_add (me_var (i := 5)) (me_tup (ma_cons (me_var (i := 4)) (ma_cons (me_var (i := 4)) ma_nil)))) (ma_cons (me_tup (ma_cons me_str (ma_cons (me_len T (ma_cons (me_var (i := 5)) ma_nil)) ma_nil))) ma_nil))))))) (ss_one (ms_ret me_bl)) ss_nil))) (ss_one (ms_ret (me_callC (C_law_right base) hg (hr.mono (by decide)) takesD (ma_cons (me_var (i := 1)) (ma_cons (me_sub (me_var (i := 2)) me_int) (ma_cons (me_var (i := 5)) (ma_cons (me_lst (ma_cons (me_callC (C_law_gone base) hg (hr.mono (by decide)) takesD (ma_cons (me_var (i := 1)) (ma_cons (me_sub (me_var (i := 2)) me_int) (ma_cons (me_var (i := 5)) ma_nil)))) ma_nil)) ma_nil))))))))))))

abbrev s_law_hand_right : Stmt := top 28
def z_law_hand_right : Scope := ⟨.function, [("six", .local), ("two", .local), ("told_so", .local), ("far", .local), ("last", .local), ("run", .globalImplicit), ("repr", .globalImplicit), ("len", .globalImplicit), ("_law_gone", .globalImplicit), ("_law_heard", .globalImplicit), ("_law_right", .globalImplicit)], false, false, []⟩
abbrev n_law_hand_right : List Str := ["six", "two", "told_so", "far", "last"]
theorem sc_law_hand_right : FnScope n_law_hand_right [] z_law_hand_right := ⟨rfl, rfl, rfl, by decide +kernel, rfl, by decide +kernel, by decide +kernel⟩
def b_law_hand_right : SM := (sSeq (sAsg (eTup (aCons (eTup (aCons (eTup (aCons (eC (.int 1)) aNil)) (aCons (eTup (aCons (eC (.int 2)) aNil)) (aCons (eTup (aCons (eC (.int 3)) aNil)) (aCons (eTup (aCons (eC (.int 4)) aNil)) (aCons (eTup (aCons (eC (.int 5)) aNil)) (aCons (eTup (aCons (eC (.int 0)) aNil)) aNil))))))) (aCons (eTup (aCons (eC (.int 0)) (aCons (eC (.int 0)) (aCons (eC (.int 0)) (aCons (eC (.int 0)) (aCons (eC (.int 0)) (aCons (eC (.int 1)) aNil))))))) aNil))) (gN 0)) (sSeq (sAsg (eTup (aCons (eTup (aCons (eTup (aCons (eC (.int 1)) (aCons (eC (.int 0)) aNil))) (aCons (eTup (aCons (eC (.int 2)) (aCons (eC (.int 1)) aNil))) (aCons (eTup (aCons (eC (.int 0)) (aCons (eC (.int 2)) aNil))) aNil)))) (aCons (eTup (aCons (eC (.int 0)) (aCons (eC (.int 0)) (aCons (eC (.int 1)) aNil)))) aNil))) (gN 1)) (sSeq (sAsg (eLst (aCons (eCall m_run (aCons (eVar 0) (aCons (eC (.int 4)) (aCons (eTup (aCons (eC (.int 0)) (aCons (eC (.int 0)) (aCons (eC (.int 0)) aNil)))) aNil)))) (aCons (eCall m_run (aCons (eVar 0) (aCons (eC (.int 4)) (aCons (eTup aNil) aNil)))) (aCons (eCall m_run (aCons (eVar 1) (aCons (eC (.int 0)) (aCons (eTup (aCons (eC (.int 0)) (aCons (eC (.int 1)) (aCons (eC (.int 0)) (aCons (eC (.int 1)) (aCons (eC (.int 0)) (aCons (eC (.int 0)) aNil))))))) aNil)))) (aCons (eCall m_run (aCons (eVar 1) (aCons (eC (.int 2)) (aCons (eTup (aCons (eC (.int 1)) (aCons (eC (.int 1)) (aCons (eC (.int 0)) aNil)))) aNil)))) aNil))))) (gN 2)) (sSeq (sIf (bOf (eOp (eqD true) (eCall repF (aCons (eVar 2) aNil)) (eCall repF (aCons (eLst (aCons (eTup (aCons (eC (.int 4)) (aCons (eC (.int 5)) (aCons (eC (.int 0)) (aCons (eC (.int 1)) aNil))))) (aCons (eTup (aCons (eC (.int 4)) aNil)) (aCons (eTup (aCons (eC (.int 0)) (aCons (eC (.int 1)) (aCons (eC (.int 1)) (aCons (eC (.int 2)) (aCons (eC (.int 2)) (aCons (eC (.int 0)) (aCons (eC (.int 1)) aNil)))))))) (aCons (eTup (aCons (eC (.int 2)) (aCons (eC (.int 2)) (aCons (eC (.int 2)) (aCons (eC (.int 0)) aNil))))) aNil))))) aNil)))) (sRet (eC (.bool false))) sNx) (sSeq (sAsg (eCall m_run (aCons (eVar 0) (aCons (eC (.int 0)) (aCons (eOp repD (eTup (aCons (eC (.int 0)) aNil)) (eC (.int 400))) aNil)))) (gN 3)) (sSeq (sIf (bOr (bOf (eOp (eqD true) (eCall lenF (aCons (eVar 3) aNil)) (eC (.int 401)))) (bOr (bOf (eOp (eqD true) (eSl (eVar 3) (oSome (eC (.int 399))) oNone) (eTup (aCons (eC (.int 3)) (aCons (eC (.int 4)) aNil))))) (bOf (eOp (eqD true) (eCall repF (aCons (eVar 3) aNil)) (eCall repF (aCons (eCall m_law_gone (aCons (eVar 0) (aCons (eC (.int 0)) (aCons (eOp repD (eTup (aCons (eC (.int 0)) aNil)) (eC (.int 400))) aNil)))) aNil)))))) (sRet (eC (.bool false))) sNx) (sSeq (sIf (bOf (eOp (eqD true) (eCall repF (aCons (eCall m_law_heard (aCons (eVar 1) (aCons (eC (.int 0)) (aCons (eOp repD (eTup (aCons (eC (.int 1)) aNil)) (eC (.int 400))) aNil)))) aNil)) (eCall repF (aCons (eLst (aCons (eOp repD (eTup (aCons (eC (.int 0)) aNil)) (eC (.int 401))) aNil)) aNil)))) (sRet (eC (.bool false))) sNx) (sSeq (sAsg (eOp addD (eOp repD (eTup (aCons (eC (.int 0)) aNil)) (eC (.int 399))) (eTup (aCons (eC (.int 1)) aNil))) (gN 4)) (sRet (eAnd (eCall m_law_right (aCons (eVar 0) (aCons (eC (.int 0)) (aCons (eOp repD (eTup (aCons (eC (.int 0)) aNil)) (eC (.int 401))) (aCons (eTup (aCons (eC (.str "word")) (aCons (eC .none) aNil))) aNil))))) (eCall m_law_right (aCons (eVar 0) (aCons (eC (.int 5)) (aCons (eVar 4) (aCons (eTup (aCons (eC (.str "word")) (aCons (eC (.int 399)) aNil))) aNil)))))))))))))))
def m_law_hand_right : FM := fnM false 0 5 b_law_hand_right
theorem f_law_hand_right {f : Addr} {fd : FuncData} (F : Fun K "_law_hand_right" "_law_hand_right" s_law_hand_right f fd) (T : Bn mg) (G : Gi mg) (E : Ex P K mg) (C_run : ∀ base : Heap, CallF P w K mg base 4 "run" ["machine", "standing", "word"] m_run) (C_law_gone : ∀ base : Heap, CallF P w K mg base 1 "_law_gone" ["frame", "begin", "letters"] m_law_gone) (C_law_heard : ∀ base : Heap, CallF P w K mg base 5 "_law_heard" ["frame", "begin", "letters"] m_law_heard) (C_law_right : ∀ base : Heap, CallF P w K mg base 6 "_law_right" ["frame", "begin", "letters", "due"] m_law_right) : FnG P w K mg base 7 f fd [] (spF K mg 0 m_law_hand_right) :=
  fn_def2 (b := false) (m := b_law_hand_right) (sc := z_law_hand_right) F rfl sc_law_hand_right rfl rfl fun cdv A outer s H E_ hg hr => (ss_cons (ms_asg (me_tup (ma_cons (me_tup (ma_cons (me_tup (ma_cons me_int ma_nil)) (ma_cons (me_tup (ma_cons me_int ma_nil)) (ma_cons (me_tup (ma_cons me_int ma_nil)) (ma_cons (me_tup (ma_cons me_int ma_nil)) (ma_cons (me_tup (ma_cons me_int ma_nil)) (ma_cons (me_tup (ma_cons me_int ma_nil)) ma_nil))))))) (ma_cons (me_tup (ma_cons me_int (ma_cons me_int (ma_cons me_int (ma_cons me_int (ma_cons me_int (ma_cons me_int ma_nil))))))) ma_nil))) (mg_name (i := 0) sc_law_hand_right.nd)) (ss_cons (ms_asg (me_tup (ma_cons (me_tup (ma_cons (me_tup (ma_cons me_int (ma_cons me_int ma_nil))) (ma_cons (me_tup (ma_cons me_int (ma_cons me_int ma_nil))) (ma_cons (me_tup (ma_cons me_int (ma_cons me_int ma_nil))) ma_nil)))) (ma_cons (me_tup (ma_cons me_int (ma_cons me_int (ma_cons me_int ma_nil)))) ma_nil))) (mg_name (i := 1) sc_law_hand_right.nd)) (ss_cons (ms_asg (me_lst (ma_cons (me_callC (C_run base) hg (hr.mono (by decide)) takesD (ma_cons (me_var (i := 0)) (ma_cons me_int (ma_cons (me_tup (ma_cons me_int (ma_cons me_int (ma_cons me_int ma_nil)))) ma_nil)))) (ma_cons (me_callC (C_run base) hg (hr.mono (by decide)) takesD (ma_cons (me_var (i := 0)) (ma_cons me_int (ma_cons (me_tup ma_nil) ma_nil)))) (ma_cons (me_callC (C_run base) hg (hr.mono (by decide)) takesD (ma_cons (me_var (i := 1)) (ma_cons me_int (ma_cons (me_tup (ma_cons me_int (ma_cons me_int (ma_cons me_int (ma_cons me_int (ma_cons me_int (ma_cons me_int ma_nil))))))) ma_nil)))) (ma_cons (me_callC (C_run base) hg (hr.mono (by decide)) takesD (ma_cons (me_var (i := 1)) (ma_cons me_int (ma_cons (me_tup (ma_cons me_int (ma_cons me_int (ma_cons me_int ma_nil)))) ma_nil)))) ma_nil))))) (mg_name (i := 2) sc_law_hand_right.nd)) (ss_cons (ms_if (mt_cmp (op_neN hr.units) eqD_ok (me_repr T hg hr (ma_cons (me_var (i := 2)) ma_nil)) (me_repr T hg hr (ma_cons (me_lst (ma_cons (me_tup (ma_cons me_int (ma_cons me_int (ma_cons me_int (ma_cons me_int ma_nil))))) (ma_cons (me_tup (ma_cons me_int ma_nil)) (ma_cons (me_tup (ma_cons me_int (ma_cons me_int (ma_cons me_int (ma_cons me_int (ma_cons me_int (ma_cons me_int (ma_cons me_int ma_nil)))))))) (ma_cons (me_tup (ma_cons me_int (ma_cons me_int (ma_cons me_int (ma_cons me_int ma_nil))))) ma_nil))))) ma_nil)) (nomark _)) (ss_one (ms_ret me_bl)) ss_nil) (ss_cons (ms_asg (me_callC (C_run base) hg (hr.mono (by decide)) takesD (ma_cons (me_var (i := 0)) (ma_cons me_int (ma_cons (me_rep (me_tup (ma_cons me_int ma_nil)) me_int) ma_nil)))) (mg_name (i := 3) sc_law_hand_right.nd)) (ss_cons (ms_if (mt_w (mw_or (mt_cmp (op_neN hr.units) eqD_ok (me_len T (ma_cons (me_var (i := 3)) ma_nil)) me_int (nomark _)) (mw_or (mt_cmp (op_neN hr.units) eqD_ok (me_sl (me_var (i := 3)) (mo_some me_int) mo_none) (me_tup (ma_cons me_int (ma_cons me_int ma_nil))) (nomark _)) (mw_or1 (mt_cmp (op_neN hr.units) eqD_ok (me_repr T hg hr (ma_cons (me_var (i := 3)) ma_nil)) (me_repr T hg hr (ma_cons (me_callC (C_law_gone base) hg (hr.mono (by decide)) takesD (ma_cons (me_var (i := 0)) (ma_cons me_int (ma_cons (me_rep (me_tup (ma_cons me_int ma_nil)) me_int) ma_nil)))) ma_nil)) (nomark _)))))) (ss_one (ms_ret me_bl)) ss_nil) (ss_cons (ms_if (mt_cmp (op_neN hr.units) eqD_ok (me_repr T hg hr (ma_cons (me_callC (C_law_heard base) hg (hr.mono (by decide)) takesD (ma_cons (me_var (i := 1)) (ma_cons me_int (ma_cons (me_rep (me_tup (ma_cons me_int ma_nil)) me_int) ma_nil)))) ma_nil)) (me_repr T hg hr (ma_cons (me_lst (ma_cons (me_rep (me_tup (ma_cons me_int ma_nil)) me_int) ma_nil)) ma_nil)) (nomark _)) (ss_one (ms_ret me_bl)) ss_nil) (ss_cons (ms_asg (me_add (me_rep (me_tup (ma_cons me_int ma_nil)) me_int) (me_tup (ma_cons me_int ma_nil))) (mg_name (i := 4) sc_law_hand_right.nd)) (ss_one (ms_ret (me_and (me_callC (C_law_right base) hg (hr.mono (by decide)) takesD (ma_cons (me_var (i := 0)) (ma_cons me_int (ma_cons (me_rep (me_tup (ma_cons me_int ma_nil)) me_int) (ma_cons (me_tup (ma_cons me_str (ma_cons me_non ma_nil))) ma_nil))))) (me_one (me_callC (C_law_right base) hg (hr.mono (by decide)) takesD (ma_cons (me_var (i := 0)) (ma_cons me_int (ma_cons (me_var (i := 4)) (ma_cons (me_tup (ma_cons me_str (ma_cons me_int ma_nil))) ma_nil)))))))))))))))))

abbrev s_law : Stmt := top 29
def z_law : Scope := ⟨.function, [("script", .local), ("k", .local), ("m", .cell), ("frame", .cell), ("turn", .local), ("begin", .local), ("letters", .local), ("range", .globalImplicit), ("min", .globalImplicit), ("len", .globalImplicit), ("_law_begun", .globalImplicit), ("_law_frame", .globalImplicit), ("_law_draw", .globalImplicit), ("tuple", .globalImplicit), ("_law_right", .globalImplicit), ("_law_gone", .globalImplicit), ("_law_refused", .globalImplicit), ("_law_hand_right", .globalImplicit)], false, false, [("fast", .str "script"), ("fast", .str "k"), ("fast", .str "m"), ("fast", .str "frame"), ("fast", .str "turn"), ("fast", .str "begin"), ("fast", .str "one"), ("fast", .str "letters")]⟩
abbrev n_law : List Str := ["script", "k", "m", "frame", "turn", "begin", "letters", "one"]
theorem sc_law : FnScope n_law ["script"] z_law := ⟨rfl, rfl, rfl, by decide +kernel, rfl, by decide +kernel, by decide +kernel⟩
def b_law : SM := (sSeq (sFor (iR1 (aCons (eOp addD (eC (.int 3)) (eCall min2F (aCons (eCall lenF (aCons (eVar 0) aNil)) (aCons (eC (.int 6)) aNil)))) aNil)) (gN 1) (sSeq (sAsg (eCall m_law_begun (aCons (eVar 0) (aCons (eVar 1) aNil))) (gN 2)) (sSeq (sAsg (eCall m_law_frame (aCons (eVar 2) (aCons (eC (.int 8)) (aCons (eC (.int 4)) aNil)))) (gN 3)) (sSeq (sFor (iR1 (aCons (eC (.int 5)) aNil)) (gN 4) (sSeq (sAsg (eCall m_law_draw (aCons (eVar 2) (aCons (eCall lenF (aCons (eOp ixD (eVar 3) (eC (.int 0))) aNil)) aNil))) (gN 5)) (sSeq (sAsg (eCall tupF (aCons (eComp false (iR1 (aCons (eCall m_law_draw (aCons (eVar 2) (aCons (eC (.int 13)) aNil))) aNil)) [7] (gN 7) bYes (eCall m_law_draw (aCons (eVar 2) (aCons (eCall lenF (aCons (eOp ixD (eOp ixD (eVar 3) (eC (.int 0))) (eC (.int 0))) aNil)) aNil)))) aNil)) (gN 6)) (sIf (bNot (bOf (eCall m_law_right (aCons (eVar 3) (aCons (eVar 5) (aCons (eVar 6) (aCons (eLst (aCons (eCall m_law_gone (aCons (eVar 3) (aCons (eVar 5) (aCons (eVar 6) aNil)))) aNil)) aNil))))))) (sRet (eC (.bool false))) sNx)))) (sIf (bNot (bOf (eCall m_law_refused (aCons (eVar 2) (aCons (eVar 3) aNil))))) (sRet (eC (.bool false))) sNx))))) (sRet (eCall m_law_hand_right aNil)))
def m_law : FM := fnM false 1 8 b_law
theorem f_law {f : Addr} {fd : FuncData} (F : Fun K "law" "law" s_law f fd) (T : Bn mg) (G : Gi mg) (E : Ex P K mg) (C_law_begun : ∀ base : Heap, CallF P w K mg base 1 "_law_begun" ["script", "k"] m_law_begun) (C_law_frame : ∀ base : Heap, CallF P w K mg base 3 "_law_frame" ["m", "most", "wide"] m_law_frame) (C_law_draw : ∀ base : Heap, CallF P w K mg base 1 "_law_draw" ["m", "many"] m_law_draw) (C_law_right : ∀ base : Heap, CallF P w K mg base 6 "_law_right" ["frame", "begin", "letters", "due"] m_law_right) (C_law_gone : ∀ base : Heap, CallF P w K mg base 1 "_law_gone" ["frame", "begin", "letters"] m_law_gone) (C_law_refused : ∀ base : Heap, CallF P w K mg base 7 "_law_refused" ["m", "frame"] m_law_refused) (C_law_hand_right : ∀ base : Heap, CallF P w K mg base 7 "_law_hand_right" [] m_law_hand_right) : FnG P w K mg base 8 f fd ["script"] (spF K mg 1 m_law) :=
  fn_def2 (b := false) (m := b_law) (sc := z_law) F rfl sc_law rfl rfl fun cdv A outer s H E_ hg hr => (ss_cons (ms_for passesD rfl (mi_range1 T.range (ma_cons (me_add me_int (me_min2 T rfl (ma_cons (me_len T (ma_cons (me_var (i := 0)) ma_nil)) (ma_cons me_int ma_nil)))) ma_nil)) (mg_name (i := 1) sc_law.nd) (ss_cons (ms_asg (me_callC (C_law_begun base) hg (hr.mono (by decide)) takesD (ma_cons (me_var (i := 0)) (ma_cons (me_var (i := 1)) ma_nil))) (mg_name (i := 2) sc_law.nd)) (ss_cons (ms_asg (me_callC (C_law_frame base) hg (hr.mono (by decide)) takesD (ma_cons (me_var (i := 2)) (ma_cons me_int (ma_cons me_int ma_nil)))) (mg_name (i := 3) sc_law.nd)) (ss_cons (ms_for passesD rfl (mi_range1 T.range (ma_cons me_int ma_nil)) (mg_name (i := 4) sc_law.nd) (ss_cons (ms_asg (me_callC (C_law_draw base) hg (hr.mono (by decide)) takesD (ma_cons (me_var (i := 2)) (ma_cons (me_len T (ma_cons (me_ix (me_var (i := 3)) me_int) ma_nil)) ma_nil))) (mg_name (i := 5) sc_law.nd)) (ss_cons (ms_asg (me_tuple T (ma_cons (me_comp (mu := false) rfl sc_law.nd (mi_range1 T.range (ma_cons (me_callC (C_law_draw base) hg (hr.mono (by decide)) takesD (ma_cons (me_var (i := 2)) (ma_cons me_int ma_nil))) ma_nil)) (own := [("one", 7)]) (blk_of (N := n_law) (sc := z_law) (by decide +kernel)) gc_name tsc_none (fun _ _ _ _ _ => (pg_name (i := 7) sc_law.nd rfl (by first | exact Or.inl rfl | exact Or.inr rfl) (by first | exact .inr rfl | exact .inl rfl))) (fun _ _ _ _ _ => pts_nil) (fun _ _ _ _ _ => (me_callC (C_law_draw base) hg (hr.mono (by decide)) takes0 (ma_cons (me_var (i := 2)) (ma_cons (me_len T (ma_cons (me_ix (me_ix (me_var (i := 3)) me_int) me_int) ma_nil)) ma_nil))))) ma_nil)) (mg_name (i := 6) sc_law.nd)) (ss_one (ms_if (mt_not (mt_val (me_callC (C_law_right base) hg (hr.mono (by decide)) takesD (ma_cons (me_var (i := 3)) (ma_cons (me_var (i := 5)) (ma_cons (me_var (i := 6)) (ma_cons (me_lst (ma_cons (me_callC (C_law_gone base) hg (hr.mono (by decide)) takesD (ma_cons (me_var (i := 3)) (ma_cons (me_var (i := 5)) (ma_cons (me_var (i := 6)) ma_nil)))) ma_nil)) ma_nil))))))) (ss_one (ms_ret me_bl)) ss_nil))))) (ss_one (ms_if (mt_not (mt_val (me_callC (C_law_refused base) hg (hr.mono (by decide)) takesD (ma_cons (me_var (i := 2)) (ma_cons (me_var (i := 3)) ma_nil))))) (ss_one (ms_ret me_bl)) ss_nil)))))) (ss_one (ms_ret (me_callC0 (C_law_hand_right base) hg (hr.mono (by decide)) takesD))))

end
end Lw
end

/-! Q0 -/
set_option Elab.async false
set_option linter.all false
set_option maxRecDepth 100000
set_option maxHeartbeats 1000000
set_option autoImplicit false
namespace Mi
open PySem PySem.Spec PyProof.Rows L2

/-! ### loops and comprehensions of the reckoning, by what stands before each turn -/
section
variable {chk : Sto → Bool} {g : GM} {body : SM} {t : BM} {m : EM} {items : List D}
theorem loop_ok (P : Nat → Envr → Sto → Prop) : ∀ (items : List D) (k : Nat) (env : Envr) (S : Sto), (∀ j env S, P j env S → chk S = true) → (∀ (j : Nat) d env S, items[j]? = some d → P (k + j) env S → ∃ e1 e2 S2, g d env = some e1 ∧ (body e1 S = .nx e2 S2 ∨ body e1 S = .ct e2 S2) ∧ P (k + j + 1) e2 S2) →
    P k env S → ∃ env' S', loop chk g body items env S = .nx env' S' ∧ P (k + items.length) env' S'
  | [], k, env, S, hc, _, h => ⟨env, S, by unfold loop; rw [if_pos (hc _ _ _ h)], h⟩
  | d :: r, k, env, S, hc, step, h => by
    obtain ⟨e1, e2, S2, h1, h2, h3⟩ := step 0 d env S rfl h
    obtain ⟨e', S', q1, q2⟩ := loop_ok P r (k + 1) e2 S2 hc (fun j d' env S hj hp => by
      have a : k + 1 + j = k + (j + 1) := by omega
      rw [a] at hp
      obtain ⟨x1, x2, x3, y1, y2, y3⟩ := step (j + 1) d' env S hj hp
      exact ⟨x1, x2, x3, y1, y2, by rw [a]; exact y3⟩) h3
    refine ⟨e', S', ?_, ?_⟩
    · unfold loop
      rw [if_pos (hc _ _ _ h)]
      simp only [h1]
      rcases h2 with h2 | h2 <;> simp only [h2] <;> exact q1
    · rw [List.length_cons]
      have a : k + (r.length + 1) = k + 1 + r.length := by omega
      rw [a]
      exact q2
/-- one that may leave by what is given back -/
theorem loop_rt (P : Nat → Envr → Sto → Prop) (Z : D → Sto → Prop) : ∀ (items : List D) (k : Nat) (env : Envr) (S : Sto), (∀ j env S, P j env S → chk S = true) → (∀ (j : Nat) d env S, items[j]? = some d → P (k + j) env S → ∃ e1, g d env = some e1 ∧ ((∃ e2 S2, (body e1 S = .nx e2 S2 ∨ body e1 S = .ct e2 S2) ∧ P (k + j + 1) e2 S2) ∨ ∃ v S2, body e1 S = .rt v S2 ∧ Z v S2)) →
    P k env S → (∃ env' S', loop chk g body items env S = .nx env' S' ∧ P (k + items.length) env' S') ∨ ∃ v S', loop chk g body items env S = .rt v S' ∧ Z v S'
  | [], k, env, S, hc, _, h => .inl ⟨env, S, by unfold loop; rw [if_pos (hc _ _ _ h)], h⟩
  | d :: r, k, env, S, hc, step, h => by
    obtain ⟨e1, h1, h2⟩ := step 0 d env S rfl h
    rcases h2 with ⟨e2, S2, h2, h3⟩ | ⟨v, S2, h2, h3⟩
    · have q := loop_rt P Z r (k + 1) e2 S2 hc (fun j d' env S hj hp => by
        have a : k + 1 + j = k + (j + 1) := by omega
        rw [a] at hp
        obtain ⟨x1, y1, y2⟩ := step (j + 1) d' env S hj hp
        refine ⟨x1, y1, y2.imp (fun ⟨e2, S2, z1, z2⟩ => ⟨e2, S2, z1, by rw [a]; exact z2⟩) id⟩) h3
      have e : loop chk g body (d :: r) env S = loop chk g body r e2 S2 := by
        conv => lhs; unfold loop
        rw [if_pos (hc _ _ _ h)]
        simp only [h1]
        rcases h2 with h2 | h2 <;> simp only [h2]
      rw [e, List.length_cons]
      have a : k + (r.length + 1) = k + 1 + r.length := by omega
      rw [a]
      exact q
    · refine .inr ⟨v, S2, ?_, h3⟩
      unfold loop
      rw [if_pos (hc _ _ _ h)]
      simp only [h1, h2]
theorem comp_ok {env : Envr} (P : Nat → List D → Sto → Prop) : ∀ (items : List D) (k : Nat) (acc : List D) (S : Sto), (∀ j acc S, P j acc S → chk S = true ∧ acc.length < sizeLine) →
    (∀ (j : Nat) d acc S, items[j]? = some d → P (k + j) acc S → ∃ e1, g d env = some e1 ∧ ((∃ y S1 S2, t e1 S = .ok true S1 ∧ m e1 S1 = .ok y S2 ∧ P (k + j + 1) (acc ++ [y]) S2) ∨ ∃ S1, t e1 S = .ok false S1 ∧ P (k + j + 1) acc S1)) →
    P k acc S → ∃ acc' S', compLoop chk g t m env items acc S = .ok acc' S' ∧ P (k + items.length) acc' S'
  | [], k, acc, S, hc, _, h => ⟨acc, S, by unfold compLoop; rw [if_pos (hc _ _ _ h).1], h⟩
  | d :: r, k, acc, S, hc, step, h => by
    obtain ⟨e1, h1, h2⟩ := step 0 d acc S rfl h
    obtain ⟨c1, c2⟩ := hc _ _ _ h
    have a : ∀ j, k + 1 + j = k + (j + 1) := fun j => by omega
    have st : ∀ (j : Nat) d' acc S, r[j]? = some d' → P (k + 1 + j) acc S → ∃ e1, g d' env = some e1 ∧ ((∃ y S1 S2, t e1 S = .ok true S1 ∧ m e1 S1 = .ok y S2 ∧ P (k + 1 + j + 1) (acc ++ [y]) S2) ∨ ∃ S1, t e1 S = .ok false S1 ∧ P (k + 1 + j + 1) acc S1) := fun j d' acc S hj hp => by
      rw [a] at hp ⊢
      exact step (j + 1) d' acc S hj hp
    rcases h2 with ⟨y, S1, S2, z1, z2, z3⟩ | ⟨S1, z1, z3⟩
    · obtain ⟨acc', S', q1, q2⟩ := comp_ok P r (k + 1) (acc ++ [y]) S2 hc st z3
      refine ⟨acc', S', ?_, by rw [List.length_cons, ← a]; exact q2⟩
      unfold compLoop
      rw [if_pos c1]
      simp only [h1, z1, z2, if_true, c2, q1]
    · obtain ⟨acc', S', q1, q2⟩ := comp_ok P r (k + 1) acc S1 hc st z3
      refine ⟨acc', S', ?_, by rw [List.length_cons, ← a]; exact q2⟩
      unfold compLoop
      rw [if_pos c1]
      simp only [h1, z1, Bool.false_eq_true, if_false, q1]
/-- one that changes nothing -/
theorem comp_map {env : Envr} {S : Sto} (tf : D → Bool) (mf : D → D) : ∀ (items acc : List D), chk S = true → acc.length + items.length < sizeLine →
    (∀ d ∈ items, ∃ e1, g d env = some e1 ∧ t e1 S = .ok (tf d) S ∧ (tf d = true → m e1 S = .ok (mf d) S)) → compLoop chk g t m env items acc S = .ok (acc ++ (items.filter tf).map mf) S
  | [], acc, hc, _, _ => by
    unfold compLoop
    rw [if_pos hc]
    simp
  | d :: r, acc, hc, hl, h => by
    obtain ⟨e1, h1, h2, h3⟩ := h d (List.mem_cons_self ..)
    have hl' : acc.length + (r.length + 1) < sizeLine := hl
    unfold compLoop
    rw [if_pos hc]
    simp only [h1, h2]
    cases q : tf d with
    | true =>
      have al : acc.length < sizeLine := by omega
      simp only [h3 q, if_true, al]
      rw [comp_map tf mf r (acc ++ [mf d]) hc (by rw [List.length_append]; show acc.length + 1 + r.length < sizeLine; omega) fun d' hd => h d' (List.mem_cons_of_mem _ hd)]
      rw [List.filter_cons_of_pos q, List.map_cons, List.append_assoc]
      rfl
    | false =>
      simp only [Bool.false_eq_true, if_false]
      rw [comp_map tf mf r acc hc (by omega) fun d' hd => h d' (List.mem_cons_of_mem _ hd)]
      rw [List.filter_cons_of_neg (by rw [q]; exact Bool.false_ne_true)]
end
theorem plains_map : ∀ (l : List PyData), plains (l.map .p) = some l
  | [] => rfl
  | a :: l => by
    show (plains (l.map D.p)).map (a :: ·) = _
    rw [plains_map l]
    rfl
theorem yes_is (S : Sto) : yes S = true := rfl
end Mi

/-! P2 -/
set_option Elab.async false
set_option linter.all false
set_option maxRecDepth 100000
set_option maxHeartbeats 4000000
set_option autoImplicit false
namespace Lw
open PySem PySem.Spec PyProof.Rows L2 Mi
abbrev kL : Key := .inr "left"
abbrev kS : Key := .inr "seed"
abbrev kC : Key := .inr "cells"
abbrev kP : Key := .inr "spot"
def mcell (l s : Int) (cs : List Int) (t : Int) : Cell := .dk [(kL, .p (.int l)), (kS, .p (.int s)), (kC, .p (.list (cs.map .int))), (kP, .p (.int t))]
theorem ck_of {S : Sto} {i : Nat} {xs : List (Key × D)} (h : S[i]? = some (.dk xs)) : cellK S i = some xs := by
  unfold cellK
  simp only [h]
theorem ck {S : Sto} {i : Nat} {l s t : Int} {cs : List Int} (h : S[i]? = some (mcell l s cs t)) : cellK S i = some [(kL, .p (.int l)), (kS, .p (.int s)), (kC, .p (.list (cs.map .int))), (kP, .p (.int t))] := ck_of h
section
variable {S : Sto} {i : Nat} {l s t l' t' : Int} {cs : List Int}
theorem g_left (h : S[i]? = some (mcell l s cs t)) : dgD (.loc i) (.p (.str "left")) S = .ok (.p (.int l)) S := by
  simp only [dgD, ck h]
  rfl
theorem g_seed (h : S[i]? = some (mcell l s cs t)) : dgD (.loc i) (.p (.str "seed")) S = .ok (.p (.int s)) S := by
  simp only [dgD, ck h]
  rfl
theorem g_cells (h : S[i]? = some (mcell l s cs t)) : dgD (.loc i) (.p (.str "cells")) S = .ok (.p (.list (cs.map .int))) S := by
  simp only [dgD, ck h]
  rfl
theorem g_spot (h : S[i]? = some (mcell l s cs t)) : dgD (.loc i) (.p (.str "spot")) S = .ok (.p (.int t)) S := by
  simp only [dgD, ck h]
  rfl
theorem p_left (h : S[i]? = some (mcell l s cs t)) : dpD (.loc i) (.p (.str "left")) (.p (.int l')) S = some (S.set i (mcell l' s cs t)) := by
  simp only [dpD, ck h]
  rfl
theorem p_spot (h : S[i]? = some (mcell l s cs t)) : dpD (.loc i) (.p (.str "spot")) (.p (.int t')) S = some (S.set i (mcell l s cs t')) := by
  simp only [dpD, ck h]
  rfl
end

theorem set_get {S : Sto} {i : Nat} {c c' : Cell} (h : S[i]? = some c) : (S.set i c')[i]? = some c' := by
  obtain ⟨hl, _⟩ := List.getElem?_eq_some_iff.mp h
  simp [hl]
theorem take_len {S : Sto} : S.take S.length = S := List.take_length
theorem take_set {S : Sto} {i : Nat} {c : Cell} : (S.set i c).take S.length = S.set i c := by
  have : (S.set i c).length = S.length := List.length_set
  rw [← this, List.take_length]
theorem draw_left {S : Sto} {i : Nat} {l s t many : Int} {cs : List Int} (h : S[i]? = some (mcell l s cs t)) (hl : 0 < l) (hm : 0 < many) (hm2 : many < 1073741824) :
    m_law_draw [.loc i, .p (.int many)] S = .ok (.p (.int (l % many))) (S.set i (mcell (l / many) s cs t)) := by
  unfold m_law_draw fnM arity b_law_draw
  simp only [List.length_cons, List.length_nil, List.map_cons, List.map_nil, List.replicate, List.cons_append, List.nil_append, List.getElem?_cons_zero, List.getElem?_cons_succ, List.set_cons_zero, List.set_cons_succ, sSeq, sIf, sAsg, sRet, sPar, sDput, sNx, sExpr, eOp, eUn, eVar, eC, eCall, eTup, eLst, eIf, aCons, aNil, bOf, bNot, bAnd, bOr, eB, eAnd, eOr, gN, Ot.bind, Ot.then, cmpI, toB, modD, divD, mulD, subD, int2, addD, intF, lenF, max2F, min2F, decide_true, decide_false, if_true, if_false, Bool.false_eq_true, ite_true, ite_false, Bool.not_true, Bool.not_false, decide_eq_true_eq, Nat.reduceSub, Nat.reduceAdd, Nat.reduceEqDiff, fin, take_len, plains, mkTup, mkLst, reduceCtorEq, and_self, and_true, true_and, Bool.or_true, Bool.true_or, g_left h, hl, hm, hm2, p_left h, take_set]
theorem atI_in {α : Type} {l : List α} {k : Int} (h0 : 0 ≤ k) (h1 : k < l.length) : ∃ x, atI l k = some x := by
  have q : k.toNat < l.length := by omega
  refine ⟨l[k.toNat], ?_⟩
  unfold atI ixN
  rw [if_pos h0, if_pos h1]
  show l[k.toNat]? = _
  exact List.getElem?_eq_getElem q
def lim : Int := 1000000000
theorem small_mul {i j : Int} (h : -(2 ^ 64) < j ∧ j < 2 ^ 64) : mulOk i j = true := by
  unfold mulOk
  rw [decide_eq_true h, Bool.or_true]
theorem small_mul' {i j : Int} (h : -(2 ^ 64) < i ∧ i < 2 ^ 64) : mulOk i j = true := by
  unfold mulOk
  rw [decide_eq_true h, Bool.true_or]
theorem mo1 (x : Int) : mulOk x 48271 = true := small_mul (by decide)
theorem mo2 (x : Int) : mulOk (x % 2147483647) (x % 2147483647) = true := small_mul (by omega)
theorem draw_spot {S : Sto} {i : Nat} {l s t many : Int} {cs : List Int} (h : S[i]? = some (mcell l s cs t)) (hl : ¬ 0 < l) (hc : cs ≠ []) (ht : 0 ≤ t) (ht2 : t < 1000000000) (hm : 0 < many) (hm2 : many < 1073741824) :
    ∃ x, m_law_draw [.loc i, .p (.int many)] S = .ok (.p (.int (x % many))) (S.set i (mcell l s cs (t + 1))) := by
  have hcl : 0 < ((cs.map PyData.int).length : Int) := by
    cases cs with
    | nil => exact absurd rfl hc
    | cons a b => simp
  obtain ⟨x, hx⟩ := atI_in (l := cs.map PyData.int) (k := t % ((cs.map PyData.int).length : Int)) (Int.emod_nonneg _ (by omega)) (Int.emod_lt_of_pos _ hcl)
  obtain ⟨z, rfl⟩ : ∃ z : Int, x = .int z := by
    unfold atI at hx
    obtain ⟨j, _, h2⟩ := Option.bind_eq_some_iff.mp hx
    rw [List.getElem?_map] at h2
    obtain ⟨z, _, e⟩ := Option.map_eq_some_iff.mp h2
    exact ⟨z, e.symm⟩
  have h' := set_get (c' := mcell l s cs (t + 1)) h
  have e1 : mulOk 40503 t = true := small_mul' (by decide)
  have e2 : mulOk (40503 * t) t = true := small_mul (by omega)
  have e3 : mulOk 2 t = true := small_mul' (by decide)
  have e4 : mulOk z (2 * t + 3) = true := small_mul (by omega)
  have e5 : mulOk 69621 t = true := small_mul' (by decide)
  unfold m_law_draw fnM arity b_law_draw
  simp only [List.length_cons, List.length_nil, List.map_cons, List.map_nil, List.replicate, List.cons_append, List.nil_append, List.getElem?_cons_zero, List.getElem?_cons_succ, List.set_cons_zero, List.set_cons_succ, sSeq, sIf, sAsg, sRet, sPar, sDput, sNx, sExpr, eOp, eUn, eVar, eC, eCall, eTup, eLst, eIf, aCons, aNil, bOf, bNot, bAnd, bOr, eB, eAnd, eOr, gN, Ot.bind, Ot.then, cmpI, toB, modD, divD, mulD, subD, int2, addD, intF, lenF, max2F, min2F, decide_true, decide_false, if_true, if_false, Bool.false_eq_true, ite_true, ite_false, Bool.not_true, Bool.not_false, decide_eq_true_eq, Nat.reduceSub, Nat.reduceAdd, Nat.reduceEqDiff, fin, take_len, plains, mkTup, mkLst, reduceCtorEq, and_self, and_true, true_and, Bool.or_true, Bool.true_or, g_left h, hl, g_spot h, p_spot h, g_cells h', g_seed h', take_set, hcl, e1, e2, e3, e4, e5, ixD, hx, Int.reduceLT, mo1, mo2, hm]
  exact ⟨_, rfl⟩
end Lw

/-! P3 -/
set_option Elab.async false
set_option linter.all false
set_option maxRecDepth 100000
set_option maxHeartbeats 4000000
set_option autoImplicit false
namespace Lw
open PySem PySem.Spec PyProof.Rows L2 Mi
theorem eq_ii (neg : Bool) (a b : Int) (S : Sto) : eqD neg (.p (.int a)) (.p (.int b)) S = .ok (.p (.bool (if neg = true then !(a == b) else a == b))) S := by
  have h : ∀ x : Int, SeqAt.shaped (.int x) = true := fun x => rfl
  simp only [eqD, h, and_self, if_true]
  rfl
/-- m's cell, some draws later -/
def Gd (B : Int) (S : Sto) (i : Nat) : Prop := ∃ l s cs t, S[i]? = some (mcell l s cs t) ∧ cs ≠ [] ∧ 0 ≤ t ∧ t ≤ B
theorem Gd.lt {B : Int} {S : Sto} {i : Nat} (g : Gd B S i) : i < S.length := by
  obtain ⟨l, s, cs, t, h, _⟩ := g
  exact (List.getElem?_eq_some_iff.mp h).1
theorem Gd.mono {B B' : Int} {S : Sto} {i : Nat} (g : Gd B S i) (h : B ≤ B') : Gd B' S i := by
  obtain ⟨l, s, cs, t, h1, h2, h3, h4⟩ := g
  exact ⟨l, s, cs, t, h1, h2, h3, Int.le_trans h4 h⟩
/-- nothing but the cell i is otherwise -/
structure Ch (i : Nat) (S S' : Sto) : Prop where
  len : S'.length = S.length
  at_ : ∀ j, j ≠ i → S'[j]? = S[j]?
theorem Ch.refl {i : Nat} {S : Sto} : Ch i S S := ⟨rfl, fun _ _ => rfl⟩
theorem Ch.trans {i : Nat} {S S1 S2 : Sto} (a : Ch i S S1) (b : Ch i S1 S2) : Ch i S S2 := ⟨b.len.trans a.len, fun j h => (b.at_ j h).trans (a.at_ j h)⟩
theorem Ch.set {i : Nat} {S : Sto} {c : Cell} : Ch i S (S.set i c) := ⟨List.length_set, fun j h => by rw [List.getElem?_set_ne (Ne.symm h)]⟩
theorem draw_ok {B : Int} {S : Sto} {i : Nat} {many : Int} (g : Gd B S i) (hB : B < 1000000000) (hm : 0 < many) (hm2 : many < 1073741824) :
    ∃ v S', m_law_draw [.loc i, .p (.int many)] S = .ok (.p (.int v)) S' ∧ 0 ≤ v ∧ v < many ∧ Gd (B + 1) S' i ∧ Ch i S S' := by
  obtain ⟨l, s, cs, t, h, hc, h0, h1⟩ := g
  by_cases hl : 0 < l
  · exact ⟨_, _, draw_left h hl hm hm2, Int.emod_nonneg _ (by omega), Int.emod_lt_of_pos _ hm, ⟨_, _, _, _, set_get h, hc, h0, by omega⟩, .set⟩
  · obtain ⟨x, e⟩ := draw_spot h hl hc h0 (by omega) hm hm2
    exact ⟨_, _, e, Int.emod_nonneg _ (by omega), Int.emod_lt_of_pos _ hm, ⟨_, _, _, _, set_get h, hc, by omega, by omega⟩, .set⟩
/-- the same with cells of one's own behind -/
theorem Gd.app {B : Int} {A T : Sto} {i : Nat} (g : Gd B A i) : Gd B (A ++ T) i := by
  obtain ⟨l, s, cs, t, h, r⟩ := g
  refine ⟨l, s, cs, t, ?_, r⟩
  rw [List.getElem?_append_left (List.getElem?_eq_some_iff.mp h).1]
  exact h
theorem draw_app {B : Int} {A : Sto} (T : Sto) {i : Nat} {many : Int} (g : Gd B A i) (hB : B < 1000000000) (hm : 0 < many) (hm2 : many < 1073741824) :
    ∃ v A', m_law_draw [.loc i, .p (.int many)] (A ++ T) = .ok (.p (.int v)) (A' ++ T) ∧ 0 ≤ v ∧ v < many ∧ Gd (B + 1) A' i ∧ Ch i A A' := by
  have lt := g.lt
  obtain ⟨l, s, cs, t, h, hc, h0, h1⟩ := g
  have h' : (A ++ T)[i]? = some (mcell l s cs t) := by
    rw [List.getElem?_append_left lt]
    exact h
  by_cases hl : 0 < l
  · refine ⟨_, A.set i (mcell (l / many) s cs t), ?_, Int.emod_nonneg l (Int.ne_of_gt hm), Int.emod_lt_of_pos l hm, ⟨_, _, _, _, set_get h, hc, h0, by omega⟩, .set⟩
    rw [draw_left h' hl hm hm2, List.set_append_left _ _ lt]
  · obtain ⟨x, e⟩ := draw_spot h' hl hc h0 (by omega) hm hm2
    refine ⟨_, A.set i (mcell l s cs (t + 1)), ?_, Int.emod_nonneg x (Int.ne_of_gt hm), Int.emod_lt_of_pos x hm, ⟨_, _, _, _, set_get h, hc, by omega, by omega⟩, .set⟩
    rw [e, List.set_append_left _ _ lt]
end Lw

/-! P4 -/
set_option Elab.async false
set_option linter.all false
set_option maxRecDepth 100000
set_option maxHeartbeats 4000000
set_option autoImplicit false
namespace Lw
open PySem PySem.Spec PyProof.Rows L2 Mi
/-! ### a drawn machine -/
abbrev pI (x : Int) : D := .p (.int x)
def rc (r : List Int) : Cell := .lst (r.map fun x => pI x)
def locs (n0 n : Nat) : List D := (List.range n).map fun k => .loc (n0 + k)
def FS (A : Sto) (rows : List (List Int)) : Sto := A ++ (rows.map rc ++ [.lst (locs A.length rows.length)])
section
variable {A A' : Sto} {rows : List (List Int)} {k : Nat} {r : List Int}
theorem fs_row (h : rows[k]? = some r) : (FS A rows)[A.length + k]? = some (rc r) := by
  have hk := (List.getElem?_eq_some_iff.mp h).1
  unfold FS
  rw [List.getElem?_append_right (by omega), Nat.add_sub_cancel_left, List.getElem?_append_left (by simpa using hk), List.getElem?_map, h]
  rfl
theorem fs_all : (FS A rows)[A.length + rows.length]? = some (.lst (locs A.length rows.length)) := by
  unfold FS
  rw [List.getElem?_append_right (by omega), Nat.add_sub_cancel_left, List.getElem?_append_right (by simp)]
  simp
theorem fs_set (hk : k < rows.length) : (FS A rows).set (A.length + k) (rc r) = FS A (rows.set k r) := by
  unfold FS
  rw [List.set_append_right _ _ (by omega), Nat.add_sub_cancel_left, List.set_append_left _ _ (by simpa using hk), List.length_set, List.map_set]
theorem locs_at {n0 n : Nat} {k : Int} (h0 : 0 ≤ k) (h1 : k < n) : atI (locs n0 n) k = some (.loc (n0 + k.toNat)) := by
  have hl : (locs n0 n).length = n := by simp [locs]
  have q : k.toNat < n := by omega
  unfold atI ixN
  rw [if_pos h0, hl, if_pos h1]
  show (locs n0 n)[k.toNat]? = _
  simp [locs, q]
theorem cl_of {S : Sto} {i : Nat} {xs : List D} (h : S[i]? = some (.lst xs)) : cellL S i = some xs := by
  unfold cellL
  simp only [h]
theorem fs_ix {k : Int} (h0 : 0 ≤ k) (h1 : k < rows.length) : ixD (.loc (A.length + rows.length)) (.p (.int k)) (FS A rows) = .ok (.loc (A.length + k.toNat)) (FS A rows) := by
  have e : (cellL (FS A rows) (A.length + rows.length)).bind (fun xs => atI xs k) = some (.loc (A.length + k.toNat)) := by
    rw [cl_of fs_all]
    exact locs_at h0 h1
  simp only [ixD, e]
theorem draw_fs {B : Int} {i : Nat} {many : Int} (g : Gd B A i) (hB : B < 1000000000) (hm : 0 < many) (hm2 : many < 1073741824) :
    ∃ v A', m_law_draw [.loc i, .p (.int many)] (FS A rows) = .ok (.p (.int v)) (FS A' rows) ∧ 0 ≤ v ∧ v < many ∧ Gd (B + 1) A' i ∧ Ch i A A' := by
  obtain ⟨v, A', e, h0, h1, g', c⟩ := draw_app (rows.map rc ++ [.lst (locs A.length rows.length)]) g hB hm hm2
  refine ⟨v, A', ?_, h0, h1, g', c⟩
  unfold FS
  rw [c.len]
  exact e
theorem fs_app {k : Nat} {r : List Int} (h : rows[k]? = some r) (hl : r.length < 1000) (x : Int) : apF (.loc (A.length + k)) (pI x) (FS A rows) = .ok (.p .none) (FS A (rows.set k (r ++ [x]))) := by
  have hk := (List.getElem?_eq_some_iff.mp h).1
  have e := cl_of (fs_row (A := A) h)
  have z : (r.map fun x => pI x).length < sizeLine ∧ (pI x).lowb (A.length + k) = true := ⟨by rw [List.length_map]; exact Nat.lt_trans hl (by decide), rfl⟩
  have s : (FS A rows).set (A.length + k) (.lst ((r.map fun x => pI x) ++ [pI x])) = FS A (rows.set k (r ++ [x])) := by
    rw [← fs_set hk]
    unfold rc
    rw [List.map_append]
    rfl
  simp only [apF, e]
  rw [if_pos z, s]
theorem fs_cell {k : Nat} {r : List Int} (h : rows[k]? = some r) : isCell (.loc (A.length + k)) (FS A rows) = true := by
  simp only [isCell, cl_of (fs_row h)]
  rfl
end
def b_turn : SM := (sSeq (sAsg (eCall m_law_draw (aCons (eVar 0) (aCons (eVar 3) aNil))) (gN 11)) (sSeq (sIf (bOf (eOp (cmpI fun i j => decide (i < j)) (eVar 7) (eC (.int 2)))) (sAsg (eOp modD (eCall intF (aCons (eOp addD (eVar 10) (eVar 8)) aNil)) (eVar 3)) (gN 11)) sNx) (sSeq (sIf (bOf (eOp (eqD false) (eVar 7) (eC (.int 2)))) (sAsg (eOp addD (eOp mulD (eCall intF (aCons (eOp divD (eVar 10) (eVar 9)) aNil)) (eVar 9)) (eOp modD (eCall intF (aCons (eOp addD (eVar 10) (eC (.int 1))) aNil)) (eVar 9))) (gN 11)) sNx) (sSeq (sIf (bOf (eOp (eqD false) (eVar 7) (eC (.int 3)))) (sAsg (eOp modD (eCall intF (aCons (eVar 10) aNil)) (eVar 9)) (gN 11)) sNx) (sExpr (eApp (eOp ixD (eVar 5) (eVar 10)) (eCall min2F (aCons (eVar 11) (aCons (eOp subD (eVar 3) (eC (.int 1))) aNil)))))))))
theorem turn_ok {B : Int} {A : Sto} {rows : List (List Int)} {i : Nat} {o1 o2 o4 o6 o11 o12 : Option D} {kind step half : Int} {k : Nat} {r : List Int} (g : Gd B A i) (hB : B < 1000000000) (hn : rows.length < 1000) (hr : rows[k]? = some r) (hl : r.length < 1000)
    (hs : 0 < step) (hh : 0 < half) (hh2 : half < 1000) :
    ∃ (o11' : Option D) (A' : Sto) (x : Int), b_turn [some (.loc i), o1, o2, some (pI rows.length), o4, some (.loc (A.length + rows.length)), o6, some (pI kind), some (pI step), some (pI half), some (pI (k : Nat)), o11, o12] (FS A rows) =
        .nx [some (.loc i), o1, o2, some (pI rows.length), o4, some (.loc (A.length + rows.length)), o6, some (pI kind), some (pI step), some (pI half), some (pI (k : Nat)), o11', o12] (FS A' (rows.set k (r ++ [x]))) ∧ 0 ≤ x ∧ x < rows.length ∧ Gd (B + 1) A' i ∧ Ch i A A' := by
  have hk := (List.getElem?_eq_some_iff.mp hr).1
  have n0 : (0 : Int) < rows.length := by omega
  obtain ⟨v, A', e, v0, v1, g', c⟩ := draw_fs (rows := rows) g hB n0 (by omega)
  have ix := fs_ix (A := A') (rows := rows) (k := (k : Nat)) (by omega) (by omega)
  rw [c.len] at ix
  have d0 : (0 < half ∧ half < 1073741824) := ⟨hh, by omega⟩
  have mo : mulOk ((k : Int) / half) half = true := small_mul (by omega)
  have cell := fs_cell (A := A') hr
  have app : ∀ x : Int, apF (.loc (A'.length + k)) (pI x) (FS A' rows) = .ok (.p .none) (FS A' (rows.set k (r ++ [x]))) := fs_app hr hl
  rw [c.len] at cell app
  have kn : ((k : Nat) : Int).toNat = k := by omega
  have n1 : (0 : Int) ≤ (rows.length : Int) - 1 := by omega
  have fin_ : ∀ w : Int, 0 ≤ w → 0 ≤ (if (rows.length : Int) - 1 < w then (rows.length : Int) - 1 else w) ∧ (if (rows.length : Int) - 1 < w then (rows.length : Int) - 1 else w) < rows.length := fun w hw => by
    split <;> exact ⟨by omega, by omega⟩
  by_cases h2 : kind < 2
  · have ne2 : (kind == (2 : Int)) = false := by simp; omega
    have ne3 : (kind == (3 : Int)) = false := by simp; omega
    obtain ⟨q1, q2⟩ := fin_ _ (Int.emod_nonneg ((k : Int) + step) (Int.ne_of_gt n0))
    refine ⟨some (pI (((k : Int) + step) % rows.length)), A', _, ?_, q1, q2, g', c⟩
    unfold b_turn
    simp only [List.length_cons, List.length_nil, List.map_cons, List.map_nil, List.replicate, List.cons_append, List.nil_append, List.getElem?_cons_zero, List.getElem?_cons_succ, List.set_cons_zero, List.set_cons_succ, sSeq, sIf, sAsg, sRet, sPar, sDput, sNx, sExpr, eOp, eUn, eVar, eC, eCall, eTup, eLst, eIf, aCons, aNil, bOf, bNot, bAnd, bOr, eB, eAnd, eOr, gN, Ot.bind, Ot.then, cmpI, toB, modD, divD, mulD, subD, int2, addD, intF, lenF, max2F, min2F, decide_true, decide_false, if_true, if_false, Bool.false_eq_true, ite_true, ite_false, Bool.not_true, Bool.not_false, decide_eq_true_eq, Nat.reduceSub, Nat.reduceAdd, Nat.reduceEqDiff, fin, take_len, plains, mkTup, mkLst, reduceCtorEq, and_self, and_true, true_and, Bool.or_true, Bool.true_or, e, h2, n0, eq_ii, ne2, ne3, eApp, ix, kn, cell, app]
  · by_cases h3 : kind = 2
    · subst h3
      obtain ⟨q1, q2⟩ := fin_ ((k : Int) / half * half + ((k : Int) + 1) % half) (Int.add_nonneg (Int.mul_nonneg (Int.ediv_nonneg (by omega) (by omega)) (by omega)) (Int.emod_nonneg _ (Int.ne_of_gt hh)))
      refine ⟨some (pI ((k : Int) / half * half + ((k : Int) + 1) % half)), A', _, ?_, q1, q2, g', c⟩
      unfold b_turn
      simp only [List.length_cons, List.length_nil, List.map_cons, List.map_nil, List.replicate, List.cons_append, List.nil_append, List.getElem?_cons_zero, List.getElem?_cons_succ, List.set_cons_zero, List.set_cons_succ, sSeq, sIf, sAsg, sRet, sPar, sDput, sNx, sExpr, eOp, eUn, eVar, eC, eCall, eTup, eLst, eIf, aCons, aNil, bOf, bNot, bAnd, bOr, eB, eAnd, eOr, gN, Ot.bind, Ot.then, cmpI, toB, modD, divD, mulD, subD, int2, addD, intF, lenF, max2F, min2F, decide_true, decide_false, if_true, if_false, Bool.false_eq_true, ite_true, ite_false, Bool.not_true, Bool.not_false, decide_eq_true_eq, Nat.reduceSub, Nat.reduceAdd, Nat.reduceEqDiff, fin, take_len, plains, mkTup, mkLst, reduceCtorEq, and_self, and_true, true_and, Bool.or_true, Bool.true_or, e, h2, n0, eq_ii, eApp, ix, kn, cell, app, d0, mo, hh, beq_self_eq_true, (show ((2 : Int) == 3) = false from rfl)]
    · have ne2 : (kind == (2 : Int)) = false := by simpa using h3
      by_cases h4 : kind = 3
      · subst h4
        obtain ⟨q1, q2⟩ := fin_ ((k : Int) % half) (Int.emod_nonneg _ (Int.ne_of_gt hh))
        refine ⟨some (pI ((k : Int) % half)), A', _, ?_, q1, q2, g', c⟩
        unfold b_turn
        simp only [List.length_cons, List.length_nil, List.map_cons, List.map_nil, List.replicate, List.cons_append, List.nil_append, List.getElem?_cons_zero, List.getElem?_cons_succ, List.set_cons_zero, List.set_cons_succ, sSeq, sIf, sAsg, sRet, sPar, sDput, sNx, sExpr, eOp, eUn, eVar, eC, eCall, eTup, eLst, eIf, aCons, aNil, bOf, bNot, bAnd, bOr, eB, eAnd, eOr, gN, Ot.bind, Ot.then, cmpI, toB, modD, divD, mulD, subD, int2, addD, intF, lenF, max2F, min2F, decide_true, decide_false, if_true, if_false, Bool.false_eq_true, ite_true, ite_false, Bool.not_true, Bool.not_false, decide_eq_true_eq, Nat.reduceSub, Nat.reduceAdd, Nat.reduceEqDiff, fin, take_len, plains, mkTup, mkLst, reduceCtorEq, and_self, and_true, true_and, Bool.or_true, Bool.true_or, e, h2, n0, eq_ii, eApp, ix, kn, cell, app, hh, beq_self_eq_true, ne2]
      · have ne3 : (kind == (3 : Int)) = false := by simpa using h4
        obtain ⟨q1, q2⟩ := fin_ v v0
        refine ⟨some (pI v), A', _, ?_, q1, q2, g', c⟩
        unfold b_turn
        simp only [List.length_cons, List.length_nil, List.map_cons, List.map_nil, List.replicate, List.cons_append, List.nil_append, List.getElem?_cons_zero, List.getElem?_cons_succ, List.set_cons_zero, List.set_cons_succ, sSeq, sIf, sAsg, sRet, sPar, sDput, sNx, sExpr, eOp, eUn, eVar, eC, eCall, eTup, eLst, eIf, aCons, aNil, bOf, bNot, bAnd, bOr, eB, eAnd, eOr, gN, Ot.bind, Ot.then, cmpI, toB, modD, divD, mulD, subD, int2, addD, intF, lenF, max2F, min2F, decide_true, decide_false, if_true, if_false, Bool.false_eq_true, ite_true, ite_false, Bool.not_true, Bool.not_false, decide_eq_true_eq, Nat.reduceSub, Nat.reduceAdd, Nat.reduceEqDiff, fin, take_len, plains, mkTup, mkLst, reduceCtorEq, and_self, and_true, true_and, Bool.or_true, Bool.true_or, e, h2, n0, eq_ii, eApp, ix, kn, cell, app, ne2, ne3]
end Lw

/-! P5 -/
set_option Elab.async false
set_option linter.all false
set_option maxRecDepth 100000
set_option maxHeartbeats 4000000
set_option autoImplicit false
namespace Lw
open PySem PySem.Spec PyProof.Rows L2 Mi
theorem rng_at {n : Nat} {k : Nat} {d : D} (h : (rangeD 0 n)[k]? = some d) : k < n ∧ d = pI (k : Nat) := by
  unfold rangeD at h
  rw [List.getElem?_map] at h
  obtain ⟨j, h1, h2⟩ := Option.map_eq_some_iff.mp h
  obtain ⟨q, e⟩ := List.getElem?_eq_some_iff.mp h1
  simp at q e
  subst e
  exact ⟨q, by rw [← h2, Int.zero_add]⟩
theorem rng_len {n : Nat} : (rangeD 0 n).length = n := by simp [rangeD]
theorem rng_ok {j : Int} {S : Sto} (h0 : 0 ≤ j) (h1 : j < 1000000) : rng1 [pI j] S = .ok (rangeD 0 j.toNat, yes) S := by
  simp only [rng1]
  rw [if_pos ⟨by omega, by omega⟩]
theorem sFor_r1 {a : AM} {g : GM} {body : SM} {env : Envr} {S S' : Sto} {j : Int} (h : a env S = .ok [pI j] S') (h0 : 0 ≤ j) (h1 : j < 1000000) : sFor (iR1 a) g body env S = loop yes g body (rangeD 0 j.toNat) env S' := by
  unfold sFor iR1
  rw [h]
  show ((rng1 [pI j] S').then env fun items S1 => loop items.2 g body items.1 env S1) = _
  rw [rng_ok h0 h1]
  rfl
theorem eComp_r1 {mu : Bool} {a : AM} {own : List Nat} {g : GM} {t : BM} {m : EM} {env : Envr} {S S' : Sto} {j : Int} (h : a env S = .ok [pI j] S') (h0 : 0 ≤ j) (h1 : j < 1000000) :
    eComp mu (iR1 a) own g t m env S = (compLoop yes g t m (wipeE env own) (rangeD 0 j.toNat) [] S').bind (keptAs mu) := by
  unfold eComp iR1
  rw [h]
  show ((rng1 [pI j] S').bind fun items S1 => (compLoop items.2 g t m (wipeE env own) items.1 [] S1).bind (keptAs mu)) = _
  rw [rng_ok h0 h1]
  rfl
structure RowsOk (n t k : Nat) (rows : List (List Int)) : Prop where
  len : rows.length = n
  row : ∀ (j : Nat) (r : List Int), rows[j]? = some r → r.length = (if j < k then t + 1 else t) ∧ ∀ x ∈ r, 0 ≤ x ∧ x < (n : Int)
theorem RowsOk.step {n t k : Nat} {rows : List (List Int)} {r : List Int} {x : Int} (h : RowsOk n t k rows) (hr : rows[k]? = some r) (h0 : 0 ≤ x) (h1 : x < n) : RowsOk n t (k + 1) (rows.set k (r ++ [x])) := by
  refine ⟨by rw [List.length_set]; exact h.len, fun j q e => ?_⟩
  rw [List.getElem?_set] at e
  by_cases hj : k = j
  · subst hj
    have hk := (List.getElem?_eq_some_iff.mp hr).1
    rw [if_pos rfl, if_pos hk] at e
    cases e
    obtain ⟨a, b⟩ := h.row k r hr
    rw [if_neg (Nat.lt_irrefl k)] at a
    rw [if_pos (Nat.lt_succ_self k)]
    refine ⟨by rw [List.length_append, a]; rfl, fun y hy => ?_⟩
    rcases List.mem_append.mp hy with hy | hy
    · exact b y hy
    · rw [List.mem_singleton.mp hy]; exact ⟨h0, h1⟩
  · rw [if_neg hj] at e
    obtain ⟨a, b⟩ := h.row j q e
    refine ⟨?_, b⟩
    rw [a]
    by_cases z : j < k
    · rw [if_pos z, if_pos (by omega)]
    · rw [if_neg z, if_neg (by omega)]
theorem RowsOk.next {n t : Nat} {rows : List (List Int)} (h : RowsOk n t n rows) : RowsOk n (t + 1) 0 rows := by
  refine ⟨h.len, fun j q e => ?_⟩
  obtain ⟨a, b⟩ := h.row j q e
  have hj := (List.getElem?_eq_some_iff.mp e).1
  rw [h.len] at hj
  rw [if_pos hj] at a
  exact ⟨by rw [a, if_neg (Nat.not_lt_zero j)], b⟩
section
variable {B : Int} {A : Sto} {i n t : Nat} {rows : List (List Int)} {o1 o2 o4 o6 o10 o11 o12 : Option D} {kind stp half : Int}
theorem inner_ok (g : Gd B A i) (hB : B < 999999000) (hn : n ≤ 8) (ht : t ≤ 8) (hs : 0 < stp) (hh : 0 < half) (hh2 : half < 1000) (h : RowsOk n t 0 rows) :
    ∃ o10' o11' A' rows', sFor (iR1 (aCons (eVar 3) aNil)) (gN 10) b_turn [some (.loc i), o1, o2, some (pI n), o4, some (.loc (A.length + n)), o6, some (pI kind), some (pI stp), some (pI half), o10, o11, o12] (FS A rows) =
      .nx [some (.loc i), o1, o2, some (pI n), o4, some (.loc (A.length + n)), o6, some (pI kind), some (pI stp), some (pI half), o10', o11', o12] (FS A' rows') ∧ RowsOk n t n rows' ∧ Gd (B + n) A' i ∧ Ch i A A' := by
  have e := sFor_r1 (a := aCons (eVar 3) aNil) (g := gN 10) (body := b_turn) (env := [some (.loc i), o1, o2, some (pI n), o4, some (.loc (A.length + n)), o6, some (pI kind), some (pI stp), some (pI half), o10, o11, o12]) (S := FS A rows) (S' := FS A rows) (j := (n : Int)) rfl (by omega) (by omega)
  rw [Int.toNat_natCast] at e
  rw [e]
  have step : ∀ (k : Nat) (d : D) (env : Envr) (S : Sto), (rangeD 0 n)[k]? = some d → (∃ o10' o11' A' rows', env = [some (.loc i), o1, o2, some (pI n), o4, some (.loc (A.length + n)), o6, some (pI kind), some (pI stp), some (pI half), o10', o11', o12] ∧ S = FS A' rows' ∧ RowsOk n t (0 + k) rows' ∧ Gd (B + ((0 + k : Nat) : Int)) A' i ∧ Ch i A A') →
      ∃ e1 e2 S2, gN 10 d env = some e1 ∧ (b_turn e1 S = .nx e2 S2 ∨ b_turn e1 S = .ct e2 S2) ∧ (∃ o10' o11' A' rows', e2 = [some (.loc i), o1, o2, some (pI n), o4, some (.loc (A.length + n)), o6, some (pI kind), some (pI stp), some (pI half), o10', o11', o12] ∧ S2 = FS A' rows' ∧ RowsOk n t (0 + k + 1) rows' ∧ Gd (B + ((0 + k + 1 : Nat) : Int)) A' i ∧ Ch i A A') := by
    intro k d env S hk hP
    obtain ⟨p10, p11, A1, rows1, e1, e2, e3, e4, e5⟩ := hP
    rw [Nat.zero_add] at e3 e4
    obtain ⟨hkn, rfl⟩ := rng_at hk
    subst e1 e2
    obtain ⟨r, hr⟩ : ∃ r, rows1[k]? = some r := ⟨_, List.getElem?_eq_getElem (show k < rows1.length by rw [e3.len]; exact hkn)⟩
    obtain ⟨a1, a2⟩ := e3.row k _ hr
    rw [if_neg (Nat.lt_irrefl k)] at a1
    have hB' : B + (k : Int) < 1000000000 := by omega
    obtain ⟨o11', A2, x, z1, z2, z3, z4, z5⟩ := turn_ok (o1 := o1) (o2 := o2) (o4 := o4) (o6 := o6) (o11 := p11) (o12 := o12) (kind := kind) e4 hB' (by rw [e3.len]; omega) hr (by rw [a1]; omega) hs hh hh2
    rw [e3.len, e5.len] at z1
    rw [e3.len] at z3
    refine ⟨_, _, _, rfl, .inl z1, some (pI k), o11', A2, rows1.set k (r ++ [x]), rfl, rfl, ?_, ?_, e5.trans z5⟩
    · rw [Nat.zero_add]
      exact e3.step hr z2 z3
    · rw [Nat.zero_add]
      have eb : B + ((k + 1 : Nat) : Int) = B + k + 1 := by omega
      rw [eb]
      exact z4
  obtain ⟨env', S', q1, o10', o11', A', rows', q2, q3, q4, q5, q6⟩ := loop_ok (chk := yes) (g := gN 10) (body := b_turn)
    (fun k env S => ∃ o10' o11' A' rows', env = [some (.loc i), o1, o2, some (pI n), o4, some (.loc (A.length + n)), o6, some (pI kind), some (pI stp), some (pI half), o10', o11', o12] ∧ S = FS A' rows' ∧ RowsOk n t k rows' ∧ Gd (B + (k : Int)) A' i ∧ Ch i A A')
    (rangeD 0 n) 0 _ (FS A rows) (fun _ _ _ _ => rfl) step ⟨o10, o11, A, rows, rfl, rfl, h, by simpa using g, .refl⟩
  rw [rng_len, Nat.zero_add] at q4 q5
  exact ⟨o10', o11', A', rows', by rw [q1, q2, q3], q4, q5, q6⟩
end
end Lw

/-! P6 -/
set_option Elab.async false
set_option linter.all false
set_option maxRecDepth 100000
set_option maxHeartbeats 4000000
set_option autoImplicit false
namespace Lw
open PySem PySem.Spec PyProof.Rows L2 Mi
def b_round : SM := (sSeq (sPar 7 8 (aCons (eCall m_law_draw (aCons (eVar 0) (aCons (eC (.int 5)) aNil))) (aCons (eOp addD (eC (.int 1)) (eCall m_law_draw (aCons (eVar 0) (aCons (eCall max2F (aCons (eOp subD (eVar 3) (eC (.int 1))) (aCons (eC (.int 1)) aNil))) aNil)))) aNil))) (sSeq (sAsg (eOp addD (eC (.int 1)) (eCall m_law_draw (aCons (eVar 0) (aCons (eVar 3) aNil)))) (gN 9)) (sFor (iR1 (aCons (eVar 3) aNil)) (gN 10) (sSeq (sAsg (eCall m_law_draw (aCons (eVar 0) (aCons (eVar 3) aNil))) (gN 11)) (sSeq (sIf (bOf (eOp (cmpI fun i j => decide (i < j)) (eVar 7) (eC (.int 2)))) (sAsg (eOp modD (eCall intF (aCons (eOp addD (eVar 10) (eVar 8)) aNil)) (eVar 3)) (gN 11)) sNx) (sSeq (sIf (bOf (eOp (eqD false) (eVar 7) (eC (.int 2)))) (sAsg (eOp addD (eOp mulD (eCall intF (aCons (eOp divD (eVar 10) (eVar 9)) aNil)) (eVar 9)) (eOp modD (eCall intF (aCons (eOp addD (eVar 10) (eC (.int 1))) aNil)) (eVar 9))) (gN 11)) sNx) (sSeq (sIf (bOf (eOp (eqD false) (eVar 7) (eC (.int 3)))) (sAsg (eOp modD (eCall intF (aCons (eVar 10) aNil)) (eVar 9)) (gN 11)) sNx) (sExpr (eApp (eOp ixD (eVar 5) (eVar 10)) (eCall min2F (aCons (eVar 11) (aCons (eOp subD (eVar 3) (eC (.int 1))) aNil))))))))))))
section
variable {B : Int} {A : Sto} {i n t : Nat} {rows : List (List Int)} {o1 o2 o4 o6 o7 o8 o9 o10 o11 o12 : Option D}
theorem round_ok (g : Gd B A i) (hB : B < 999990000) (hn : n ≤ 8) (hn0 : 0 < n) (ht : t ≤ 8) (h : RowsOk n t 0 rows) :
    ∃ o7' o8' o9' o10' o11' A' rows', b_round [some (.loc i), o1, o2, some (pI n), o4, some (.loc (A.length + n)), o6, o7, o8, o9, o10, o11, o12] (FS A rows) =
      .nx [some (.loc i), o1, o2, some (pI n), o4, some (.loc (A.length + n)), o6, o7', o8', o9', o10', o11', o12] (FS A' rows') ∧ RowsOk n (t + 1) 0 rows' ∧ Gd (B + 20) A' i ∧ Ch i A A' := by
  obtain ⟨kind, A1, d1, k0, k1, g1, c1⟩ := draw_fs (rows := rows) (many := 5) g (by omega) (by omega) (by omega)
  have m0 : 0 < (if (1 : Int) > (n : Int) - 1 then 1 else (n : Int) - 1) := by split <;> omega
  have m1 : (if (1 : Int) > (n : Int) - 1 then 1 else (n : Int) - 1) < 1073741824 := by split <;> omega
  obtain ⟨s1, A2, d2, s0, _, g2, c2⟩ := draw_fs (rows := rows) (many := (if (1 : Int) > (n : Int) - 1 then 1 else (n : Int) - 1)) g1 (by omega) m0 m1
  obtain ⟨hf, A3, d3, f0, f1, g3, c3⟩ := draw_fs (rows := rows) (many := (n : Int)) g2 (by omega) (by omega) (by omega)
  have c123 := (c1.trans c2).trans c3
  obtain ⟨o10', o11', A4, rows4, e4, r4, g4, c4⟩ := inner_ok (o1 := o1) (o2 := o2) (o4 := o4) (o6 := o6) (o10 := o10) (o11 := o11) (o12 := o12) (kind := kind) (stp := 1 + s1) (half := 1 + hf) (rows := rows) g3 (by omega) hn ht (by omega) (by omega) (by omega) h
  rw [c123.len] at e4
  refine ⟨some (pI kind), some (pI (1 + s1)), some (pI (1 + hf)), o10', o11', A4, rows4, ?_, r4.next, g4.mono (by omega), c123.trans c4⟩
  rw [← e4]
  show b_round _ _ = sFor (iR1 (aCons (eVar 3) aNil)) (gN 10) b_turn _ _
  have x1 : sPar 7 8 (aCons (eCall m_law_draw (aCons (eVar 0) (aCons (eC (.int 5)) aNil))) (aCons (eOp addD (eC (.int 1)) (eCall m_law_draw (aCons (eVar 0) (aCons (eCall max2F (aCons (eOp subD (eVar 3) (eC (.int 1))) (aCons (eC (.int 1)) aNil))) aNil)))) aNil))
      [some (.loc i), o1, o2, some (pI n), o4, some (.loc (A.length + n)), o6, o7, o8, o9, o10, o11, o12] (FS A rows) = .nx [some (.loc i), o1, o2, some (pI n), o4, some (.loc (A.length + n)), o6, some (pI kind), some (pI (1 + s1)), o9, o10, o11, o12] (FS A2 rows) := by
    simp only [List.length_cons, List.length_nil, List.map_cons, List.map_nil, List.replicate, List.cons_append, List.nil_append, List.getElem?_cons_zero, List.getElem?_cons_succ, List.set_cons_zero, List.set_cons_succ, sSeq, sIf, sAsg, sRet, sPar, sDput, sNx, sExpr, eOp, eUn, eVar, eC, eCall, eTup, eLst, eIf, aCons, aNil, bOf, bNot, bAnd, bOr, eB, eAnd, eOr, gN, Ot.bind, Ot.then, cmpI, toB, modD, divD, mulD, subD, int2, addD, intF, lenF, max2F, min2F, decide_true, decide_false, if_true, if_false, Bool.false_eq_true, ite_true, ite_false, Bool.not_true, Bool.not_false, decide_eq_true_eq, Nat.reduceSub, Nat.reduceAdd, Nat.reduceEqDiff, fin, take_len, plains, mkTup, mkLst, reduceCtorEq, and_self, and_true, true_and, Bool.or_true, Bool.true_or, d1, d2]
  have x2 : sAsg (eOp addD (eC (.int 1)) (eCall m_law_draw (aCons (eVar 0) (aCons (eVar 3) aNil)))) (gN 9) [some (.loc i), o1, o2, some (pI n), o4, some (.loc (A.length + n)), o6, some (pI kind), some (pI (1 + s1)), o9, o10, o11, o12] (FS A2 rows) =
      .nx [some (.loc i), o1, o2, some (pI n), o4, some (.loc (A.length + n)), o6, some (pI kind), some (pI (1 + s1)), some (pI (1 + hf)), o10, o11, o12] (FS A3 rows) := by
    simp only [List.length_cons, List.length_nil, List.map_cons, List.map_nil, List.replicate, List.cons_append, List.nil_append, List.getElem?_cons_zero, List.getElem?_cons_succ, List.set_cons_zero, List.set_cons_succ, sSeq, sIf, sAsg, sRet, sPar, sDput, sNx, sExpr, eOp, eUn, eVar, eC, eCall, eTup, eLst, eIf, aCons, aNil, bOf, bNot, bAnd, bOr, eB, eAnd, eOr, gN, Ot.bind, Ot.then, cmpI, toB, modD, divD, mulD, subD, int2, addD, intF, lenF, max2F, min2F, decide_true, decide_false, if_true, if_false, Bool.false_eq_true, ite_true, ite_false, Bool.not_true, Bool.not_false, decide_eq_true_eq, Nat.reduceSub, Nat.reduceAdd, Nat.reduceEqDiff, fin, take_len, plains, mkTup, mkLst, reduceCtorEq, and_self, and_true, true_and, Bool.or_true, Bool.true_or, d3]
  show sSeq (sPar 7 8 _) (sSeq (sAsg _ (gN 9)) (sFor (iR1 (aCons (eVar 3) aNil)) (gN 10) b_turn)) _ _ = _
  unfold sSeq
  rw [x1]
  show (match sAsg _ (gN 9) _ _ with | .nx env1 S1 => sFor (iR1 (aCons (eVar 3) aNil)) (gN 10) b_turn env1 S1 | o => o) = _
  rw [x2]
end
end Lw

/-! P7 -/
set_option Elab.async false
set_option linter.all false
set_option maxRecDepth 100000
set_option maxHeartbeats 4000000
set_option autoImplicit false
namespace Lw
open PySem PySem.Spec PyProof.Rows L2 Mi
/-- ints as a tuple, a list -/
abbrev tI (r : List Int) : PyData := .tuple (r.map .int)
abbrev lI (r : List Int) : PyData := .list (r.map .int)
/-- a machine as data -/
def mach (tab : List (List Int)) (sh : List Int) : PyData := .tuple [.tuple (tab.map tI), tI sh]
structure IsM (n l : Nat) (tab : List (List Int)) (sh : List Int) : Prop where
  len : tab.length = n
  row : ∀ r ∈ tab, r.length = l ∧ ∀ x ∈ r, 0 ≤ x ∧ x < (n : Int)
  shl : sh.length = n
  shd : ∀ x ∈ sh, 0 ≤ x ∧ x ≤ 9
theorem at_mem {α β : Type} (f : α → β) {l : List α} {v : Int} (h0 : 0 ≤ v) (h1 : v < (l.length : Int)) : ∃ x ∈ l, atI (l.map f) v = some (f x) := by
  have q : v.toNat < l.length := by omega
  obtain ⟨x, hx⟩ : ∃ x, l[v.toNat]? = some x := ⟨_, List.getElem?_eq_getElem q⟩
  refine ⟨x, List.mem_of_getElem? hx, ?_⟩
  unfold atI ixN
  rw [if_pos h0, List.length_map, if_pos h1]
  show (l.map f)[v.toNat]? = _
  rw [List.getElem?_map, hx]
  rfl
theorem of_ok {B : Int} {A T : Sto} {i : Nat} {xs : List Int} (g : Gd B A i) (hB : B < 999999000) (hx : 0 < xs.length) (hx2 : xs.length < 1000000) :
    ∃ x A', m_law_of [.loc i, .p (lI xs)] (A ++ T) = .ok (pI x) (A' ++ T) ∧ x ∈ xs ∧ Gd (B + 1) A' i ∧ Ch i A A' := by
  obtain ⟨v, A', e, v0, v1, g', c⟩ := draw_app (many := (((xs.map PyData.int).length : Nat) : Int)) T g (by omega) (by simpa using hx) (by rw [List.length_map]; omega)
  rw [List.length_map] at v1
  obtain ⟨x, hm, at_⟩ := at_mem PyData.int v0 v1
  refine ⟨x, A', ?_, hm, g', c⟩
  have tk : (A' ++ T).take (A ++ T).length = A' ++ T := by
    have : (A ++ T).length = (A' ++ T).length := by rw [List.length_append, List.length_append, c.len]
    rw [this, List.take_length]
  unfold m_law_of fnM arity b_law_of
  simp only [List.length_cons, List.length_nil, List.map_cons, List.map_nil, List.replicate, List.cons_append, List.nil_append, List.getElem?_cons_zero, List.getElem?_cons_succ, List.set_cons_zero, List.set_cons_succ, sSeq, sIf, sAsg, sRet, sPar, sDput, sNx, sExpr, eOp, eUn, eVar, eC, eCall, eTup, eLst, eIf, aCons, aNil, bOf, bNot, bAnd, bOr, eB, eAnd, eOr, gN, Ot.bind, Ot.then, cmpI, toB, modD, divD, mulD, subD, int2, addD, intF, lenF, max2F, min2F, decide_true, decide_false, if_true, if_false, Bool.false_eq_true, ite_true, ite_false, Bool.not_true, Bool.not_false, decide_eq_true_eq, Nat.reduceSub, Nat.reduceAdd, Nat.reduceEqDiff, fin, take_len, plains, mkTup, mkLst, reduceCtorEq, and_self, and_true, true_and, Bool.or_true, Bool.true_or, e, ixD, at_, tk]
def emp (n : Nat) : List (List Int) := List.replicate n []
/-- the rows, made -/
theorem rows_made {A : Sto} {n : Nat} {env : Envr} (hn : n ≤ 8) (h3 : env[3]? = some (some (pI n))) (h10 : env.length = 13) :
    eComp true (iR1 (aCons (eVar 3) aNil)) [10] (gN 10) bYes (eLstM aNil) env A = .ok (.loc (A.length + n)) (FS A (emp n)) := by
  have ea : aCons (eVar 3) aNil env A = .ok [pI n] A := by
    simp only [aCons, eVar, h3, Ot.bind, aNil]
  rw [eComp_r1 ea (by omega) (by omega), Int.toNat_natCast]
  have step : ∀ (j : Nat) (d : D) (acc : List D) (S : Sto), (rangeD 0 n)[j]? = some d → (0 + j ≤ n ∧ acc = locs A.length (0 + j) ∧ S = A ++ (emp (0 + j)).map rc) →
      ∃ e1, gN 10 d (wipeE env [10]) = some e1 ∧ ((∃ y S1 S2, bYes e1 S = .ok true S1 ∧ eLstM aNil e1 S1 = .ok y S2 ∧ (0 + j + 1 ≤ n ∧ acc ++ [y] = locs A.length (0 + j + 1) ∧ S2 = A ++ (emp (0 + j + 1)).map rc)) ∨ ∃ S1, bYes e1 S = .ok false S1 ∧ (0 + j + 1 ≤ n ∧ acc = locs A.length (0 + j + 1) ∧ S1 = A ++ (emp (0 + j + 1)).map rc)) := by
    intro j d acc S hj hP
    obtain ⟨p1, rfl, rfl⟩ := hP
    obtain ⟨hj', rfl⟩ := rng_at hj
    rw [Nat.zero_add] at *
    refine ⟨_, rfl, .inl ⟨.loc (A.length + j), _, A ++ (emp j).map rc ++ [.lst []], rfl, ?_, hj', ?_, ?_⟩⟩
    · have ln : (A ++ (emp j).map rc).length = A.length + j := by simp [emp]
      show (if ([] : List D).length ≤ sizeLine then (Ot.ok (.loc (A ++ (emp j).map rc).length) ((A ++ (emp j).map rc) ++ [.lst []]) : Ot D) else .bad) = _
      rw [ln, if_pos (show ([] : List D).length ≤ sizeLine from Nat.zero_le _)]
    · unfold locs
      rw [List.range_succ, List.map_append]
      rfl
    · unfold emp
      rw [List.replicate_succ', List.map_append, ← List.append_assoc]
      rfl
  obtain ⟨acc, S, q1, q2, q3, q4⟩ := comp_ok (chk := yes) (g := gN 10) (t := bYes) (m := eLstM aNil) (env := wipeE env [10]) (fun k acc S => k ≤ n ∧ acc = locs A.length k ∧ S = A ++ (emp k).map rc) (rangeD 0 n) 0 [] A
    (fun j acc S h => ⟨rfl, by obtain ⟨h1, h2, _⟩ := h; rw [h2]; unfold locs; rw [List.length_map, List.length_range]; exact Nat.lt_of_le_of_lt (Nat.le_trans h1 hn) (by decide)⟩) step ⟨Nat.zero_le _, rfl, by simp [emp]⟩
  rw [rng_len, Nat.zero_add] at q3 q4
  rw [q1, q3, q4]
  show (Ot.ok (D.loc (A ++ (emp n).map rc).length) ((A ++ (emp n).map rc) ++ [.lst (locs A.length n)]) : Ot D) = _
  have ln : (A ++ (emp n).map rc).length = A.length + n := by simp [emp]
  have le : (emp n).length = n := by simp [emp]
  unfold FS
  rw [ln, le, List.append_assoc]
theorem filt_all {α : Type} (l : List α) : l.filter (fun _ => true) = l := List.filter_eq_self.mpr fun _ _ => rfl
theorem pI_map (r : List Int) : (r.map fun x => pI x) = (r.map PyData.int).map D.p := by rw [List.map_map]; rfl
theorem tup_row {A : Sto} {rows : List (List Int)} {k : Nat} {r : List Int} (h : rows[k]? = some r) : tupF [.loc (A.length + k)] (FS A rows) = .ok (.p (tI r)) (FS A rows) := by
  have e : (cellL (FS A rows) (A.length + k)).bind plains = some (r.map PyData.int) := by
    rw [cl_of (fs_row h)]
    show plains (r.map fun x => pI x) = _
    rw [pI_map, plains_map]
  simp only [tupF, e]
theorem rows_read {A : Sto} {rows : List (List Int)} {env : Envr} (hn : rows.length ≤ 8) (h5 : env[5]? = some (some (.loc (A.length + rows.length)))) (h13 : env.length = 13) :
    eComp false (iM (eVar 5)) [12] (gN 12) bYes (eCall tupF (aCons (eVar 12) aNil)) env (FS A rows) = .ok (.p (.list (rows.map tI))) (FS A rows) := by
  have e1 : iM (eVar 5) env (FS A rows) = .ok (locs A.length rows.length, sameC (A.length + rows.length) (locs A.length rows.length)) (FS A rows) := by
    unfold iM
    simp only [eVar, h5, Ot.bind, isM, fs_all]
  unfold eComp
  rw [e1]
  show (compLoop (sameC (A.length + rows.length) (locs A.length rows.length)) (gN 12) bYes (eCall tupF (aCons (eVar 12) aNil)) (wipeE env [12]) (locs A.length rows.length) [] (FS A rows)).bind (keptAs false) = _
  have w12 : ∀ d : D, ((wipeE env [12]).set 12 (some d))[12]? = some (some d) := fun d => by simp [wipeE, h13]
  rw [comp_map (fun _ => true) (fun d => match d with | .loc j => (match rows[j - A.length]? with | some r => .p (tI r) | none => d) | d => d) (locs A.length rows.length) [] (sameC_iff.mpr fs_all)
    (by unfold locs; rw [List.length_map, List.length_range]; show 0 + rows.length < sizeLine; exact Nat.lt_of_le_of_lt (by omega) (by decide : 8 < sizeLine)) (fun d hd => by
      unfold locs at hd
      obtain ⟨k, hk, rfl⟩ := List.mem_map.mp hd
      obtain ⟨r, hr⟩ : ∃ r, rows[k]? = some r := ⟨_, List.getElem?_eq_getElem (List.mem_range.mp hk)⟩
      refine ⟨_, rfl, rfl, fun _ => ?_⟩
      simp only [eCall, aCons, aNil, eVar, w12, Ot.bind, tup_row hr, Nat.add_sub_cancel_left, hr])]
  have el : ((locs A.length rows.length).filter fun _ => true).map (fun d => match d with | .loc j => (match rows[j - A.length]? with | some r => D.p (tI r) | none => d) | d => d) = (rows.map tI).map D.p := by
    rw [filt_all]
    unfold locs
    rw [List.map_map, List.map_map]
    refine List.ext_getElem? fun k => ?_
    rw [List.getElem?_map, List.getElem?_map]
    by_cases hk : k < rows.length
    · have q : (List.range rows.length)[k]? = some k := by simp [hk]
      obtain ⟨r, hr⟩ : ∃ r, rows[k]? = some r := ⟨_, List.getElem?_eq_getElem hk⟩
      rw [q, hr]
      show some (match rows[A.length + k - A.length]? with | some r => D.p (tI r) | none => _) = _
      rw [Nat.add_sub_cancel_left, hr]
      rfl
    · have q : (List.range rows.length)[k]? = none := by simp; omega
      have q2 : rows[k]? = none := List.getElem?_eq_none (by omega)
      rw [q, q2]
      rfl
  rw [el]
  show (match plains ([] ++ (rows.map tI).map D.p) with | some l => (Ot.ok (D.p (.list l)) (FS A rows) : Ot D) | none => .bad) = _
  rw [List.nil_append, plains_map]
theorem shown_made {B : Int} {A T : Sto} {i n : Nat} {env : Envr} (g : Gd B A i) (hB : B < 999990000) (hn : n ≤ 8) (h0 : env[0]? = some (some (.loc i))) (h3 : env[3]? = some (some (pI n))) (h13 : env.length = 13) :
    ∃ sh A', eComp false (iR1 (aCons (eVar 3) aNil)) [10] (gN 10) bYes (eCall m_law_of (aCons (eVar 0) (aCons (eLst (aCons (eC (.int 0)) (aCons (eC (.int 0)) (aCons (eC (.int 1)) (aCons (eC (.int 2)) aNil))))) aNil))) env (A ++ T) = .ok (.p (lI sh)) (A' ++ T) ∧
      sh.length = n ∧ (∀ x ∈ sh, 0 ≤ x ∧ x ≤ 9) ∧ Gd (B + (n : Int)) A' i ∧ Ch i A A' := by
  have ea : aCons (eVar 3) aNil env (A ++ T) = .ok [pI n] (A ++ T) := by
    simp only [aCons, eVar, h3, Ot.bind, aNil]
  have w0 : ∀ d : D, ((wipeE env [10]).set 10 (some d))[0]? = some (some (.loc i)) := fun d => by
    rw [List.getElem?_set_ne (by decide)]
    show (env.set 10 none)[0]? = _
    rw [List.getElem?_set_ne (by decide)]
    exact h0
  have step : ∀ (j : Nat) (d : D) (acc : List D) (S : Sto), (rangeD 0 n)[j]? = some d → (∃ (sh : List Int) (A' : Sto), acc = (sh.map PyData.int).map D.p ∧ S = A' ++ T ∧ sh.length = 0 + j ∧ (∀ x ∈ sh, 0 ≤ x ∧ x ≤ 9) ∧ Gd (B + ((0 + j : Nat) : Int)) A' i ∧ Ch i A A' ∧ 0 + j ≤ n) →
      ∃ e1, gN 10 d (wipeE env [10]) = some e1 ∧ ((∃ y S1 S2, bYes e1 S = .ok true S1 ∧ eCall m_law_of (aCons (eVar 0) (aCons (eLst (aCons (eC (.int 0)) (aCons (eC (.int 0)) (aCons (eC (.int 1)) (aCons (eC (.int 2)) aNil))))) aNil)) e1 S1 = .ok y S2 ∧
        (∃ (sh : List Int) (A' : Sto), acc ++ [y] = (sh.map PyData.int).map D.p ∧ S2 = A' ++ T ∧ sh.length = 0 + j + 1 ∧ (∀ x ∈ sh, 0 ≤ x ∧ x ≤ 9) ∧ Gd (B + ((0 + j + 1 : Nat) : Int)) A' i ∧ Ch i A A' ∧ 0 + j + 1 ≤ n)) ∨ ∃ S1, bYes e1 S = .ok false S1 ∧
        (∃ (sh : List Int) (A' : Sto), acc = (sh.map PyData.int).map D.p ∧ S1 = A' ++ T ∧ sh.length = 0 + j + 1 ∧ (∀ x ∈ sh, 0 ≤ x ∧ x ≤ 9) ∧ Gd (B + ((0 + j + 1 : Nat) : Int)) A' i ∧ Ch i A A' ∧ 0 + j + 1 ≤ n)) := by
    intro j d acc S hj hP
    obtain ⟨sh, A1, rfl, rfl, p1, p2, p3, p4, p5⟩ := hP
    obtain ⟨hj', rfl⟩ := rng_at hj
    rw [Nat.zero_add] at *
    obtain ⟨x, A2, e, hx, g2, c2⟩ := of_ok (T := T) (xs := [0, 0, 1, 2]) p3 (by omega) (by decide) (by decide)
    have hx9 : 0 ≤ x ∧ x ≤ 9 := by
      simp at hx
      omega
    refine ⟨_, rfl, .inl ⟨pI x, _, A2 ++ T, rfl, ?_, sh ++ [x], A2, ?_, rfl, by rw [List.length_append, p1]; rfl, fun z hz => ?_, ?_, p4.trans c2, hj'⟩⟩
    · have e' : m_law_of [.loc i, .p (.list [.int 0, .int 0, .int 1, .int 2])] (A1 ++ T) = .ok (pI x) (A2 ++ T) := e
      simp only [eCall, aCons, aNil, eVar, w0, Ot.bind, eLst, eC, mkLst, plains, Option.map, List.length_cons, List.length_nil, (show (0 + 1 + 1 + 1 + 1 ≤ sizeLine) = True from eq_true (by decide)), if_true, e']
    · rw [List.map_append, List.map_append]
      rfl
    · rcases List.mem_append.mp hz with hz | hz
      · exact p2 z hz
      · rw [List.mem_singleton.mp hz]; exact hx9
    · have eb : B + ((j + 1 : Nat) : Int) = B + (j : Int) + 1 := by omega
      rw [eb]
      exact g2
  obtain ⟨acc, S, q1, sh, A', rfl, rfl, q3, q4, q5, q6, _⟩ := comp_ok (chk := yes) (g := gN 10) (t := bYes) (env := wipeE env [10])
    (fun k acc S => ∃ (sh : List Int) (A' : Sto), acc = (sh.map PyData.int).map D.p ∧ S = A' ++ T ∧ sh.length = k ∧ (∀ x ∈ sh, 0 ≤ x ∧ x ≤ 9) ∧ Gd (B + (k : Int)) A' i ∧ Ch i A A' ∧ k ≤ n) (rangeD 0 n) 0 [] (A ++ T)
    (fun j acc S h => ⟨rfl, by obtain ⟨sh, A', rfl, _, h3, _, _, _, h4⟩ := h; rw [List.length_map, List.length_map, h3]; exact Nat.lt_of_le_of_lt (Nat.le_trans h4 hn) (by decide)⟩) step ⟨[], A, rfl, rfl, rfl, fun _ z => (by cases z), by simpa using g, .refl, Nat.zero_le _⟩
  rw [rng_len, Nat.zero_add] at q3 q5
  refine ⟨sh, A', ?_, q3, q4, q5, q6⟩
  rw [eComp_r1 ea (by omega) (by omega), Int.toNat_natCast, q1]
  show (match plains ((sh.map PyData.int).map D.p) with | some l => (Ot.ok (D.p (.list l)) (A' ++ T) : Ot D) | none => .bad) = _
  rw [plains_map]
theorem sSeq_nx {a b : SM} {env e1 : Envr} {S S1 : Sto} (h : a env S = .nx e1 S1) : sSeq a b env S = b e1 S1 := by
  unfold sSeq
  rw [h]
theorem call1 {f : FM} {m : EM} {env : Envr} {S S1 : Sto} {d : D} {r : Ot D} (h : m env S = .ok d S1) (hf : f [d] S1 = r) : eCall f (aCons m aNil) env S = r := by
  unfold eCall aCons aNil
  simp only [h, Ot.bind, hf]
theorem call2 {f : FM} {m m2 : EM} {env : Envr} {S S1 S2 : Sto} {d d2 : D} {r : Ot D} (h : m env S = .ok d S1) (h2 : m2 env S1 = .ok d2 S2) (hf : f [d, d2] S2 = r) : eCall f (aCons m (aCons m2 aNil)) env S = r := by
  unfold eCall aCons aNil
  simp only [h, h2, Ot.bind, aCons, aNil, hf]
theorem call3 {f : FM} {m m2 m3 : EM} {env : Envr} {S S1 S2 S3 : Sto} {d d2 d3 : D} {r : Ot D} (h : m env S = .ok d S1) (h2 : m2 env S1 = .ok d2 S2) (h3 : m3 env S2 = .ok d3 S3) (hf : f [d, d2, d3] S3 = r) : eCall f (aCons m (aCons m2 (aCons m3 aNil))) env S = r := by
  unfold eCall aCons aNil
  simp only [h, h2, h3, Ot.bind, aCons, aNil, hf]
theorem tup2 {m m2 : EM} {env : Envr} {S S1 S2 : Sto} {x y : PyData} (h : m env S = .ok (.p x) S1) (h2 : m2 env S1 = .ok (.p y) S2) : eTup (aCons m (aCons m2 aNil)) env S = .ok (.p (.tuple [x, y])) S2 := by
  unfold eTup aCons aNil
  simp only [h, h2, Ot.bind, aCons, aNil]
  rfl
theorem ret_ok {m : EM} {env : Envr} {S S1 : Sto} {d : D} (h : m env S = .ok d S1) : sRet m env S = .rt d S1 := by
  unfold sRet
  simp only [h, Ot.then]
theorem fnM_rt {b : Bool} {n all : Nat} {m : SM} {ds : List D} {S S1 : Sto} {d : D} (hl : ds.length = n) (h : m (ds.map some ++ List.replicate (all - n) none) S = .rt d S1) : fnM b n all m ds S = fin b S.length d S1 := by
  unfold fnM arity
  rw [if_pos hl]
  simp only [h]
theorem fnM_nx {b : Bool} {n all : Nat} {m : SM} {ds : List D} {S S1 : Sto} {e : Envr} (hl : ds.length = n) (h : m (ds.map some ++ List.replicate (all - n) none) S = .nx e S1) : fnM b n all m ds S = fin b S.length (.p .none) S1 := by
  unfold fnM arity
  rw [if_pos hl]
  simp only [h]
/-- the drawn part of a frame -/
theorem frame_ok {B : Int} {A : Sto} {i : Nat} {most wide : Int} (g : Gd B A i) (hB : B < 999000000) (hm : 0 < most) (hm8 : most ≤ 8) (hw : 0 < wide) (hw4 : wide ≤ 4) :
    ∃ n l tab sh A', m_law_frame [.loc i, pI most, pI wide] A = .ok (.p (mach tab sh)) A' ∧ IsM n l tab sh ∧ 0 < n ∧ (n : Int) ≤ most ∧ 0 < l ∧ (l : Int) ≤ wide ∧ Gd (B + 200) A' i ∧ Ch i A A' := by
  obtain ⟨vn, A1, d1, n0, n1, g1, c1⟩ := draw_ok (many := most) g (by omega) hm (by omega)
  obtain ⟨vl, A2, d2, l0, l1, g2, c2⟩ := draw_ok (many := wide) g1 (by omega) hw (by omega)
  obtain ⟨n, hn⟩ : ∃ n : Nat, (n : Int) = 1 + vn := ⟨(1 + vn).toNat, by omega⟩
  obtain ⟨l, hl⟩ : ∃ l : Nat, (l : Int) = 1 + vl := ⟨(1 + vl).toNat, by omega⟩
  have hn8 : n ≤ 8 := by omega
  have hl4 : l ≤ 4 := by omega
  have c12 := c1.trans c2
  have x1 : sPar 3 4 (aCons (eOp addD (eC (.int 1)) (eCall m_law_draw (aCons (eVar 0) (aCons (eVar 1) aNil)))) (aCons (eOp addD (eC (.int 1)) (eCall m_law_draw (aCons (eVar 0) (aCons (eVar 2) aNil)))) aNil))
      [some (.loc i), some (pI most), some (pI wide), none, none, none, none, none, none, none, none, none, none] A = .nx [some (.loc i), some (pI most), some (pI wide), some (pI n), some (pI l), none, none, none, none, none, none, none, none] A2 := by
    simp only [List.length_cons, List.length_nil, List.map_cons, List.map_nil, List.replicate, List.cons_append, List.nil_append, List.getElem?_cons_zero, List.getElem?_cons_succ, List.set_cons_zero, List.set_cons_succ, sSeq, sIf, sAsg, sRet, sPar, sDput, sNx, sExpr, eOp, eUn, eVar, eC, eCall, eTup, eLst, eIf, aCons, aNil, bOf, bNot, bAnd, bOr, eB, eAnd, eOr, gN, Ot.bind, Ot.then, cmpI, toB, modD, divD, mulD, subD, int2, addD, intF, lenF, max2F, min2F, decide_true, decide_false, if_true, if_false, Bool.false_eq_true, ite_true, ite_false, Bool.not_true, Bool.not_false, decide_eq_true_eq, Nat.reduceSub, Nat.reduceAdd, Nat.reduceEqDiff, fin, take_len, plains, mkTup, mkLst, reduceCtorEq, and_self, and_true, true_and, Bool.or_true, Bool.true_or, d1, d2, hn, hl]
  have x2 := rows_made (A := A2) (n := n) (env := [some (.loc i), some (pI most), some (pI wide), some (pI n), some (pI l), none, none, none, none, none, none, none, none]) hn8 rfl rfl
  have x3 := sFor_r1 (a := aCons (eVar 4) aNil) (g := gN 6) (body := b_round) (env := [some (.loc i), some (pI most), some (pI wide), some (pI n), some (pI l), some (.loc (A2.length + n)), none, none, none, none, none, none, none]) (S := FS A2 (emp n)) (S' := FS A2 (emp n)) (j := (l : Int)) rfl (by omega) (by omega)
  rw [Int.toNat_natCast] at x3
  have step : ∀ (j : Nat) (d : D) (env : Envr) (S : Sto), (rangeD 0 l)[j]? = some d → (∃ (o6 o7 o8 o9 o10 o11 : Option D) (A' : Sto) (rows : List (List Int)), env = [some (.loc i), some (pI most), some (pI wide), some (pI n), some (pI l), some (.loc (A2.length + n)), o6, o7, o8, o9, o10, o11, none] ∧ S = FS A' rows ∧ RowsOk n (0 + j) 0 rows ∧ Gd (B + 2 + 20 * ((0 + j : Nat) : Int)) A' i ∧ Ch i A2 A' ∧ 0 + j ≤ l) →
      ∃ e1 e2 S2, gN 6 d env = some e1 ∧ (b_round e1 S = .nx e2 S2 ∨ b_round e1 S = .ct e2 S2) ∧ (∃ (o6 o7 o8 o9 o10 o11 : Option D) (A' : Sto) (rows : List (List Int)), e2 = [some (.loc i), some (pI most), some (pI wide), some (pI n), some (pI l), some (.loc (A2.length + n)), o6, o7, o8, o9, o10, o11, none] ∧ S2 = FS A' rows ∧ RowsOk n (0 + j + 1) 0 rows ∧ Gd (B + 2 + 20 * ((0 + j + 1 : Nat) : Int)) A' i ∧ Ch i A2 A' ∧ 0 + j + 1 ≤ l) := by
    intro j d env S hj hP
    obtain ⟨o6, o7, o8, o9, o10, o11, A3, rows, rfl, rfl, p1, p2, p3, p4⟩ := hP
    obtain ⟨hj', rfl⟩ := rng_at hj
    rw [Nat.zero_add] at *
    obtain ⟨o7', o8', o9', o10', o11', A4, rows', z1, z2, z3, z4⟩ := round_ok (o1 := some (pI most)) (o2 := some (pI wide)) (o4 := some (pI l)) (o6 := some (pI j)) (o7 := o7) (o8 := o8) (o9 := o9) (o10 := o10) (o11 := o11) (o12 := none) p2 (by omega) hn8 (by omega) (by omega) p1
    rw [p3.len] at z1
    have eb : B + 2 + 20 * ((j + 1 : Nat) : Int) = B + 2 + 20 * (j : Int) + 20 := by omega
    exact ⟨_, _, _, rfl, .inl z1, some (pI j), o7', o8', o9', o10', o11', A4, rows', rfl, rfl, z2, by rw [eb]; exact z3, p3.trans z4, hj'⟩
  have r0 : RowsOk n 0 0 (emp n) := by
    refine ⟨by simp [emp], fun j r e => ?_⟩
    have := List.mem_of_getElem? e
    obtain ⟨_, rfl⟩ := List.mem_replicate.mp this
    exact ⟨rfl, fun x hx => by cases hx⟩
  have e0 : B + 2 + 20 * ((0 : Nat) : Int) = B + 1 + 1 := by omega
  have g2' : Gd (B + 2 + 20 * ((0 : Nat) : Int)) A2 i := by rw [e0]; exact g2
  obtain ⟨env3, S3, q1, o6, o7, o8, o9, o10, o11, A3, rows, rfl, rfl, q4, q5, q6, _⟩ := loop_ok (chk := yes) (g := gN 6) (body := b_round)
    (fun k env S => ∃ (o6 o7 o8 o9 o10 o11 : Option D) (A' : Sto) (rows : List (List Int)), env = [some (.loc i), some (pI most), some (pI wide), some (pI n), some (pI l), some (.loc (A2.length + n)), o6, o7, o8, o9, o10, o11, none] ∧ S = FS A' rows ∧ RowsOk n k 0 rows ∧ Gd (B + 2 + 20 * (k : Int)) A' i ∧ Ch i A2 A' ∧ k ≤ l)
    (rangeD 0 l) 0 _ (FS A2 (emp n)) (fun _ _ _ _ => rfl) step ⟨none, none, none, none, none, none, A2, emp n, rfl, rfl, r0, g2', .refl, Nat.zero_le _⟩
  rw [rng_len, Nat.zero_add] at q4 q5
  rw [q1] at x3
  have rl : rows.length = n := q4.len
  have x4 := rows_read (A := A3) (rows := rows) (env := [some (.loc i), some (pI most), some (pI wide), some (pI n), some (pI l), some (.loc (A2.length + n)), o6, o7, o8, o9, o10, o11, none]) (by omega) (by rw [rl, q6.len]; rfl) rfl
  obtain ⟨sh, A4, x5, s1, s2, g4, c4⟩ := shown_made (T := rows.map rc ++ [.lst (locs A3.length rows.length)]) (n := n) (env := [some (.loc i), some (pI most), some (pI wide), some (pI n), some (pI l), some (.loc (A2.length + n)), o6, o7, o8, o9, o10, o11, none]) q5 (by omega) hn8 rfl rfl rfl
  have x5' : eComp false (iR1 (aCons (eVar 3) aNil)) [10] (gN 10) bYes (eCall m_law_of (aCons (eVar 0) (aCons (eLst (aCons (eC (.int 0)) (aCons (eC (.int 0)) (aCons (eC (.int 1)) (aCons (eC (.int 2)) aNil))))) aNil))) [some (.loc i), some (pI most), some (pI wide), some (pI n), some (pI l), some (.loc (A2.length + n)), o6, o7, o8, o9, o10, o11, none] (FS A3 rows) = .ok (.p (lI sh)) (A4 ++ (rows.map rc ++ [.lst (locs A3.length rows.length)])) := x5
  refine ⟨n, l, rows, sh, A4, ?_, ⟨rl, fun r hr => ?_, s1, s2⟩, by omega, by omega, by omega, by omega, g4.mono (by omega), (c12.trans q6).trans c4⟩
  · have c24 := (c12.trans q6).trans c4
    have tk : (A4 ++ (rows.map rc ++ [Cell.lst (locs A3.length rows.length)])).take A.length = A4 := by
      rw [← c24.len]
      exact List.take_left
    have body : b_law_frame [some (.loc i), some (pI most), some (pI wide), none, none, none, none, none, none, none, none, none, none] A = .rt (.p (mach rows sh)) (A4 ++ (rows.map rc ++ [.lst (locs A3.length rows.length)])) := by
      show sSeq (sPar 3 4 _) (sSeq (sAsg _ (gN 5)) (sSeq (sFor (iR1 (aCons (eVar 4) aNil)) (gN 6) b_round) (sRet _))) _ _ = _
      have y2 : sAsg (eComp true (iR1 (aCons (eVar 3) aNil)) [10] (gN 10) bYes (eLstM aNil)) (gN 5) [some (.loc i), some (pI most), some (pI wide), some (pI n), some (pI l), none, none, none, none, none, none, none, none] A2 =
          .nx [some (.loc i), some (pI most), some (pI wide), some (pI n), some (pI l), some (.loc (A2.length + n)), none, none, none, none, none, none, none] (FS A2 (emp n)) := by
        unfold sAsg
        rw [x2]
        rfl
      rw [sSeq_nx x1, sSeq_nx y2, sSeq_nx x3]
      show sRet (eTup (aCons (eCall tupF (aCons (eComp false (iM (eVar 5)) [12] (gN 12) bYes (eCall tupF (aCons (eVar 12) aNil))) aNil)) (aCons (eCall tupF (aCons (eComp false (iR1 (aCons (eVar 3) aNil)) [10] (gN 10) bYes (eCall m_law_of (aCons (eVar 0) (aCons (eLst (aCons (eC (.int 0)) (aCons (eC (.int 0)) (aCons (eC (.int 1)) (aCons (eC (.int 2)) aNil))))) aNil)))) aNil)) aNil))) _ (FS A3 rows) = _
      exact ret_ok (tup2 (call1 x4 rfl) (call1 x5' rfl))
    have q := fnM_rt (b := false) (n := 3) (all := 13) (m := b_law_frame) (ds := [.loc i, pI most, pI wide]) rfl body
    refine Eq.trans (show m_law_frame [.loc i, pI most, pI wide] A = fnM false 3 13 b_law_frame [.loc i, pI most, pI wide] A from rfl) (q.trans ?_)
    unfold fin
    rw [tk]
  · obtain ⟨k, hk⟩ := List.getElem?_of_mem hr
    obtain ⟨a, b⟩ := q4.row k r hk
    rw [if_neg (Nat.not_lt_zero k)] at a
    exact ⟨a, b⟩
end Lw

/-! P8 -/
set_option Elab.async false
set_option linter.all false
set_option maxRecDepth 100000
set_option maxHeartbeats 4000000
set_option autoImplicit false
namespace Lw
open PySem PySem.Spec PyProof.Rows L2 Mi
theorem isi_ii (v : Int) (S : Sto) : isiF .int (pI v) S = .ok (.p (.bool true)) S := rfl
theorem isi_bi (v : Int) (S : Sto) : isiF .bl (pI v) S = .ok (.p (.bool false)) S := rfl
theorem isi_tt (l : List PyData) (S : Sto) : isiF .tup (.p (.tuple l)) S = .ok (.p (.bool true)) S := rfl
theorem below_ok {v n : Int} {S : Sto} (h0 : 0 ≤ v) (h1 : v < n) : m_is_number_below [pI v, pI n] S = .ok (.p (.bool true)) S := by
  have body : b_is_number_below [some (pI v), some (pI n)] S = .rt (.p (.bool true)) S := by
    unfold b_is_number_below
    simp only [List.length_cons, List.length_nil, List.map_cons, List.map_nil, List.replicate, List.cons_append, List.nil_append, List.getElem?_cons_zero, List.getElem?_cons_succ, List.set_cons_zero, List.set_cons_succ, sSeq, sIf, sAsg, sRet, sPar, sDput, sNx, sExpr, eOp, eUn, eVar, eC, eCall, eTup, eLst, eIf, aCons, aNil, bOf, bNot, bAnd, bOr, eB, eAnd, eOr, gN, Ot.bind, Ot.then, cmpI, toB, modD, divD, mulD, subD, int2, addD, intF, lenF, max2F, min2F, decide_true, decide_false, if_true, if_false, Bool.false_eq_true, ite_true, ite_false, Bool.not_true, Bool.not_false, decide_eq_true_eq, Nat.reduceSub, Nat.reduceAdd, Nat.reduceEqDiff, fin, take_len, plains, mkTup, mkLst, reduceCtorEq, and_self, and_true, true_and, Bool.or_true, Bool.true_or, eIsi, eChain, isi_ii, isi_bi, h0, h1]
  exact (fnM_rt (b := false) (n := 2) (all := 2) (m := b_is_number_below) (ds := [pI v, pI n]) rfl body).trans (by unfold fin; rw [take_len])
theorem below_no {v n : Int} {S : Sto} (h : ¬ (0 ≤ v ∧ v < n)) : m_is_number_below [pI v, pI n] S = .ok (.p (.bool false)) S := by
  have body : b_is_number_below [some (pI v), some (pI n)] S = .rt (.p (.bool false)) S := by
    unfold b_is_number_below
    by_cases h0 : 0 ≤ v
    · have h1 : ¬ v < n := fun q => h ⟨h0, q⟩
      simp only [List.length_cons, List.length_nil, List.map_cons, List.map_nil, List.replicate, List.cons_append, List.nil_append, List.getElem?_cons_zero, List.getElem?_cons_succ, List.set_cons_zero, List.set_cons_succ, sSeq, sIf, sAsg, sRet, sPar, sDput, sNx, sExpr, eOp, eUn, eVar, eC, eCall, eTup, eLst, eIf, aCons, aNil, bOf, bNot, bAnd, bOr, eB, eAnd, eOr, gN, Ot.bind, Ot.then, cmpI, toB, modD, divD, mulD, subD, int2, addD, intF, lenF, max2F, min2F, decide_true, decide_false, if_true, if_false, Bool.false_eq_true, ite_true, ite_false, Bool.not_true, Bool.not_false, decide_eq_true_eq, Nat.reduceSub, Nat.reduceAdd, Nat.reduceEqDiff, fin, take_len, plains, mkTup, mkLst, reduceCtorEq, and_self, and_true, true_and, Bool.or_true, Bool.true_or, eIsi, eChain, isi_ii, isi_bi, h0, h1]
    · simp only [List.length_cons, List.length_nil, List.map_cons, List.map_nil, List.replicate, List.cons_append, List.nil_append, List.getElem?_cons_zero, List.getElem?_cons_succ, List.set_cons_zero, List.set_cons_succ, sSeq, sIf, sAsg, sRet, sPar, sDput, sNx, sExpr, eOp, eUn, eVar, eC, eCall, eTup, eLst, eIf, aCons, aNil, bOf, bNot, bAnd, bOr, eB, eAnd, eOr, gN, Ot.bind, Ot.then, cmpI, toB, modD, divD, mulD, subD, int2, addD, intF, lenF, max2F, min2F, decide_true, decide_false, if_true, if_false, Bool.false_eq_true, ite_true, ite_false, Bool.not_true, Bool.not_false, decide_eq_true_eq, Nat.reduceSub, Nat.reduceAdd, Nat.reduceEqDiff, fin, take_len, plains, mkTup, mkLst, reduceCtorEq, and_self, and_true, true_and, Bool.or_true, Bool.true_or, eIsi, eChain, isi_ii, isi_bi, h0]
  exact (fnM_rt (b := false) (n := 2) (all := 2) (m := b_is_number_below) (ds := [pI v, pI n]) rfl body).trans (by unfold fin; rw [take_len])
theorem tuple_ok {l : List PyData} {a b : Int} {S : Sto} (h0 : a ≤ (l.length : Int)) (h1 : (l.length : Int) ≤ b) : m_is_tuple_of [.p (.tuple l), pI a, pI b] S = .ok (.p (.bool true)) S := by
  have body : b_is_tuple_of [some (.p (.tuple l)), some (pI a), some (pI b)] S = .rt (.p (.bool true)) S := by
    unfold b_is_tuple_of
    simp only [List.length_cons, List.length_nil, List.map_cons, List.map_nil, List.replicate, List.cons_append, List.nil_append, List.getElem?_cons_zero, List.getElem?_cons_succ, List.set_cons_zero, List.set_cons_succ, sSeq, sIf, sAsg, sRet, sPar, sDput, sNx, sExpr, eOp, eUn, eVar, eC, eCall, eTup, eLst, eIf, aCons, aNil, bOf, bNot, bAnd, bOr, eB, eAnd, eOr, gN, Ot.bind, Ot.then, cmpI, toB, modD, divD, mulD, subD, int2, addD, intF, lenF, max2F, min2F, decide_true, decide_false, if_true, if_false, Bool.false_eq_true, ite_true, ite_false, Bool.not_true, Bool.not_false, decide_eq_true_eq, Nat.reduceSub, Nat.reduceAdd, Nat.reduceEqDiff, fin, take_len, plains, mkTup, mkLst, reduceCtorEq, and_self, and_true, true_and, Bool.or_true, Bool.true_or, eIsi, eChain, isi_tt, h0, h1]
  exact (fnM_rt (b := false) (n := 3) (all := 3) (m := b_is_tuple_of) (ds := [.p (.tuple l), pI a, pI b]) rfl body).trans (by unfold fin; rw [take_len])
/-- a loop that changes nothing that counts -/
theorem enT_at {l : List PyData} {k : Nat} {d : D} (h : (numD 0 l)[k]? = some d) : ∃ x, l[k]? = some x ∧ d = .p (.dict [(.none, .none), (.int (k : Nat), x)]) := by
  rw [numD_get] at h
  obtain ⟨x, h1, h2⟩ := Option.map_eq_some_iff.mp h
  exact ⟨x, h1, by rw [← h2, Nat.zero_add]⟩
theorem sFor_T {a : AM} {g : GM} {body : SM} {env : Envr} {S S' : Sto} {l : List PyData} (h : a env S = .ok [.p (.tuple l)] S') : sFor (iEnT a) g body env S = loop yes g body (numD 0 l) env S' := by
  unfold sFor iEnT
  rw [h]
  rfl
theorem form_ok {tab : List (List Int)} {n l : Nat} {S : Sto} (hn : tab.length = n) (h0 : 0 < n) (hn8 : n ≤ 8) (hr : ∀ r ∈ tab, r.length = l) (l0 : 0 < l) (l4 : l ≤ 4) :
    m_need_table_form [.p (.tuple (tab.map tI))] S = .ok (.p .none) S := by
  have hl : ((tab.map tI).length : Int) = n := by rw [List.length_map, hn]
  have t1 := tuple_ok (l := tab.map tI) (a := 1) (b := 8) (S := S) (by omega) (by omega)
  obtain ⟨r0, hr0, at0⟩ := at_mem tI (l := tab) (v := 0) (by omega) (by omega)
  have step : ∀ (k : Nat) (d : D) (env : Envr) (S' : Sto), (numD 0 (tab.map tI))[k]? = some d → (∃ (o1 o2 : Option D), env = [some (.p (.tuple (tab.map tI))), o1, o2] ∧ S' = S) →
      ∃ e1 e2 S2, gT [gN 1, gN 2] d env = some e1 ∧ ((sIf (bOr (bNot (bOf (eCall m_is_tuple_of (aCons (eVar 2) (aCons (eC (.int 1)) (aCons (eC (.int 4)) aNil)))))) (bOf (eOp (eqD true) (eCall lenF (aCons (eVar 2) aNil)) (eCall lenF (aCons (eOp ixD (eVar 0) (eC (.int 0))) aNil))))) (sRaise "BadMachine" "place" (aCons (eTup (aCons (eC (.int 0)) (aCons (eVar 1) aNil))) aNil)) sNx) e1 S' = .nx e2 S2 ∨ (sIf (bOr (bNot (bOf (eCall m_is_tuple_of (aCons (eVar 2) (aCons (eC (.int 1)) (aCons (eC (.int 4)) aNil)))))) (bOf (eOp (eqD true) (eCall lenF (aCons (eVar 2) aNil)) (eCall lenF (aCons (eOp ixD (eVar 0) (eC (.int 0))) aNil))))) (sRaise "BadMachine" "place" (aCons (eTup (aCons (eC (.int 0)) (aCons (eVar 1) aNil))) aNil)) sNx) e1 S' = .ct e2 S2) ∧ (∃ (o1 o2 : Option D), e2 = [some (.p (.tuple (tab.map tI))), o1, o2] ∧ S2 = S) := by
    intro k d env S' hk hP
    obtain ⟨o1, o2, rfl, rfl⟩ := hP
    obtain ⟨x, hx, rfl⟩ := enT_at hk
    rw [List.getElem?_map] at hx
    obtain ⟨r, hr1, rfl⟩ := Option.map_eq_some_iff.mp hx
    have lr := hr r (List.mem_of_getElem? hr1)
    have l0' := hr r0 hr0
    have t2 := tuple_ok (l := r.map PyData.int) (a := 1) (b := 4) (S := S') (by rw [List.length_map]; omega) (by rw [List.length_map]; omega)
    refine ⟨[some (.p (.tuple (tab.map tI))), some (pI k), some (.p (tI r))], [some (.p (.tuple (tab.map tI))), some (pI k), some (.p (tI r))], S', rfl, .inl ?_, _, _, rfl, rfl⟩
    simp only [List.length_cons, List.length_nil, List.map_cons, List.map_nil, List.replicate, List.cons_append, List.nil_append, List.getElem?_cons_zero, List.getElem?_cons_succ, List.set_cons_zero, List.set_cons_succ, sSeq, sIf, sAsg, sRet, sPar, sDput, sNx, sExpr, eOp, eUn, eVar, eC, eCall, eTup, eLst, eIf, aCons, aNil, bOf, bNot, bAnd, bOr, eB, eAnd, eOr, gN, Ot.bind, Ot.then, cmpI, toB, modD, divD, mulD, subD, int2, addD, intF, lenF, max2F, min2F, decide_true, decide_false, if_true, if_false, Bool.false_eq_true, ite_true, ite_false, Bool.not_true, Bool.not_false, decide_eq_true_eq, Nat.reduceSub, Nat.reduceAdd, Nat.reduceEqDiff, fin, take_len, plains, mkTup, mkLst, reduceCtorEq, and_self, and_true, true_and, Bool.or_true, Bool.true_or, t2, ixD, at0, eq_ii, List.length_map, lr, l0', beq_self_eq_true]
  have e := sFor_T (a := aCons (eVar 0) aNil) (g := gT [gN 1, gN 2]) (body := (sIf (bOr (bNot (bOf (eCall m_is_tuple_of (aCons (eVar 2) (aCons (eC (.int 1)) (aCons (eC (.int 4)) aNil)))))) (bOf (eOp (eqD true) (eCall lenF (aCons (eVar 2) aNil)) (eCall lenF (aCons (eOp ixD (eVar 0) (eC (.int 0))) aNil))))) (sRaise "BadMachine" "place" (aCons (eTup (aCons (eC (.int 0)) (aCons (eVar 1) aNil))) aNil)) sNx)) (env := [some (.p (.tuple (tab.map tI))), none, none]) (S := S) (S' := S) rfl
  obtain ⟨e', S', q1, o1, o2, rfl, rfl⟩ := loop_ok (chk := yes) (g := gT [gN 1, gN 2]) (fun _ env S' => ∃ (o1 o2 : Option D), env = [some (.p (.tuple (tab.map tI))), o1, o2] ∧ S' = S) (numD 0 (tab.map tI)) 0 _ S (fun _ _ _ _ => rfl) (fun k d env S' hk hP => step k d env S' hk hP) ⟨none, none, rfl, rfl⟩
  rw [q1] at e
  have body : b_need_table_form [some (.p (.tuple (tab.map tI))), none, none] S' = .nx [some (.p (.tuple (tab.map tI))), o1, o2] S' := by
    refine Eq.trans (sSeq_nx (S1 := S') (e1 := [some (.p (.tuple (tab.map tI))), none, none]) ?_) e
    simp only [List.length_cons, List.length_nil, List.map_cons, List.map_nil, List.replicate, List.cons_append, List.nil_append, List.getElem?_cons_zero, List.getElem?_cons_succ, List.set_cons_zero, List.set_cons_succ, sSeq, sIf, sAsg, sRet, sPar, sDput, sNx, sExpr, eOp, eUn, eVar, eC, eCall, eTup, eLst, eIf, aCons, aNil, bOf, bNot, bAnd, bOr, eB, eAnd, eOr, gN, Ot.bind, Ot.then, cmpI, toB, modD, divD, mulD, subD, int2, addD, intF, lenF, max2F, min2F, decide_true, decide_false, if_true, if_false, Bool.false_eq_true, ite_true, ite_false, Bool.not_true, Bool.not_false, decide_eq_true_eq, Nat.reduceSub, Nat.reduceAdd, Nat.reduceEqDiff, fin, take_len, plains, mkTup, mkLst, reduceCtorEq, and_self, and_true, true_and, Bool.or_true, Bool.true_or, t1]
  exact (fnM_nx (b := false) (n := 1) (all := 3) (m := b_need_table_form) (ds := [.p (.tuple (tab.map tI))]) rfl body).trans (by unfold fin; rw [take_len])
end Lw

/-! P9 -/
set_option Elab.async false
set_option linter.all false
set_option maxRecDepth 100000
set_option maxHeartbeats 4000000
set_option autoImplicit false
namespace Lw
open PySem PySem.Spec PyProof.Rows L2 Mi
theorem shown_ok {sh : List Int} {n : Nat} {S : Sto} (hn : sh.length = n) (hn8 : n ≤ 8) (hs : ∀ x ∈ sh, 0 ≤ x ∧ x ≤ 9) : m_need_shown [.p (tI sh), pI n] S = .ok (.p .none) S := by
  have t1 := tuple_ok (l := sh.map PyData.int) (a := (n : Int)) (b := (n : Int)) (S := S) (by rw [List.length_map]; omega) (by rw [List.length_map]; omega)
  have step : ∀ (k : Nat) (d : D) (env : Envr) (S' : Sto), (numD 0 (sh.map PyData.int))[k]? = some d → (∃ (o2 o3 : Option D), env = [some (.p (tI sh)), some (pI n), o2, o3] ∧ S' = S) →
      ∃ e1 e2 S2, gT [gN 2, gN 3] d env = some e1 ∧ ((sIf (bNot (bOf (eCall m_is_number_below (aCons (eVar 3) (aCons (eOp addD (eC (.int 9)) (eC (.int 1))) aNil))))) (sRaise "BadMachine" "place" (aCons (eTup (aCons (eC (.int 1)) (aCons (eVar 2) aNil))) aNil)) sNx) e1 S' = .nx e2 S2 ∨ (sIf (bNot (bOf (eCall m_is_number_below (aCons (eVar 3) (aCons (eOp addD (eC (.int 9)) (eC (.int 1))) aNil))))) (sRaise "BadMachine" "place" (aCons (eTup (aCons (eC (.int 1)) (aCons (eVar 2) aNil))) aNil)) sNx) e1 S' = .ct e2 S2) ∧ (∃ (o2 o3 : Option D), e2 = [some (.p (tI sh)), some (pI n), o2, o3] ∧ S2 = S) := by
    intro k d env S' hk hP
    obtain ⟨o1, o2, rfl, rfl⟩ := hP
    obtain ⟨x, hx, rfl⟩ := enT_at hk
    rw [List.getElem?_map] at hx
    obtain ⟨v, hv, rfl⟩ := Option.map_eq_some_iff.mp hx
    obtain ⟨v0, v9⟩ := hs v (List.mem_of_getElem? hv)
    have t2 := below_ok (v := v) (n := 9 + 1) (S := S') v0 (by omega)
    refine ⟨[some (.p (tI sh)), some (pI n), some (pI k), some (pI v)], [some (.p (tI sh)), some (pI n), some (pI k), some (pI v)], S', rfl, .inl ?_, _, _, rfl, rfl⟩
    simp only [List.length_cons, List.length_nil, List.map_cons, List.map_nil, List.replicate, List.cons_append, List.nil_append, List.getElem?_cons_zero, List.getElem?_cons_succ, List.set_cons_zero, List.set_cons_succ, sSeq, sIf, sAsg, sRet, sPar, sDput, sNx, sExpr, eOp, eUn, eVar, eC, eCall, eTup, eLst, eIf, aCons, aNil, bOf, bNot, bAnd, bOr, eB, eAnd, eOr, gN, Ot.bind, Ot.then, cmpI, toB, modD, divD, mulD, subD, int2, addD, intF, lenF, max2F, min2F, decide_true, decide_false, if_true, if_false, Bool.false_eq_true, ite_true, ite_false, Bool.not_true, Bool.not_false, decide_eq_true_eq, Nat.reduceSub, Nat.reduceAdd, Nat.reduceEqDiff, fin, take_len, plains, mkTup, mkLst, reduceCtorEq, and_self, and_true, true_and, Bool.or_true, Bool.true_or, t2]
  have e := sFor_T (a := aCons (eVar 0) aNil) (g := gT [gN 2, gN 3]) (body := (sIf (bNot (bOf (eCall m_is_number_below (aCons (eVar 3) (aCons (eOp addD (eC (.int 9)) (eC (.int 1))) aNil))))) (sRaise "BadMachine" "place" (aCons (eTup (aCons (eC (.int 1)) (aCons (eVar 2) aNil))) aNil)) sNx)) (env := [some (.p (tI sh)), some (pI n), none, none]) (S := S) (S' := S) rfl
  obtain ⟨e', S', q1, o1, o2, rfl, rfl⟩ := loop_ok (chk := yes) (g := gT [gN 2, gN 3]) (fun _ env S' => ∃ (o2 o3 : Option D), env = [some (.p (tI sh)), some (pI n), o2, o3] ∧ S' = S) (numD 0 (sh.map PyData.int)) 0 _ S (fun _ _ _ _ => rfl) (fun k d env S' hk hP => step k d env S' hk hP) ⟨none, none, rfl, rfl⟩
  rw [q1] at e
  have body : b_need_shown [some (.p (tI sh)), some (pI n), none, none] S' = .nx [some (.p (tI sh)), some (pI n), o1, o2] S' := by
    refine Eq.trans (sSeq_nx (S1 := S') (e1 := [some (.p (tI sh)), some (pI n), none, none]) ?_) e
    simp only [List.length_cons, List.length_nil, List.map_cons, List.map_nil, List.replicate, List.cons_append, List.nil_append, List.getElem?_cons_zero, List.getElem?_cons_succ, List.set_cons_zero, List.set_cons_succ, sSeq, sIf, sAsg, sRet, sPar, sDput, sNx, sExpr, eOp, eUn, eVar, eC, eCall, eTup, eLst, eIf, aCons, aNil, bOf, bNot, bAnd, bOr, eB, eAnd, eOr, gN, Ot.bind, Ot.then, cmpI, toB, modD, divD, mulD, subD, int2, addD, intF, lenF, max2F, min2F, decide_true, decide_false, if_true, if_false, Bool.false_eq_true, ite_true, ite_false, Bool.not_true, Bool.not_false, decide_eq_true_eq, Nat.reduceSub, Nat.reduceAdd, Nat.reduceEqDiff, fin, take_len, plains, mkTup, mkLst, reduceCtorEq, and_self, and_true, true_and, Bool.or_true, Bool.true_or, t1]
  exact (fnM_nx (b := false) (n := 2) (all := 4) (m := b_need_shown) (ds := [.p (tI sh), pI n]) rfl body).trans (by unfold fin; rw [take_len])
theorem goals_ok {tab : List (List Int)} {n : Nat} {S : Sto} (hn : tab.length = n) (hr : ∀ r ∈ tab, ∀ x ∈ r, 0 ≤ x ∧ x < (n : Int)) : m_need_goals [.p (.tuple (tab.map tI))] S = .ok (.p .none) S := by
  have inner : ∀ (r : List Int), r ∈ tab → ∀ (o1 o3 o4 : Option D), ∃ o3' o4' : Option D, (sFor (iEnT (aCons (eVar 2) aNil)) (gT [(gN 3), (gN 4)]) (sIf (bNot (bOf (eCall m_is_number_below (aCons (eVar 4) (aCons (eCall lenF (aCons (eVar 0) aNil)) aNil))))) (sRaise "BadMachine" "place" (aCons (eTup (aCons (eC (.int 0)) (aCons (eVar 1) (aCons (eVar 3) aNil)))) aNil)) sNx)) [some (.p (.tuple (tab.map tI))), o1, some (.p (tI r)), o3, o4] S = .nx [some (.p (.tuple (tab.map tI))), o1, some (.p (tI r)), o3', o4'] S := by
    intro r hrm o1 o3 o4
    have step : ∀ (k : Nat) (d : D) (env : Envr) (S' : Sto), (numD 0 (r.map PyData.int))[k]? = some d → (∃ (o3 o4 : Option D), env = [some (.p (.tuple (tab.map tI))), o1, some (.p (tI r)), o3, o4] ∧ S' = S) →
        ∃ e1 e2 S2, gT [gN 3, gN 4] d env = some e1 ∧ ((sIf (bNot (bOf (eCall m_is_number_below (aCons (eVar 4) (aCons (eCall lenF (aCons (eVar 0) aNil)) aNil))))) (sRaise "BadMachine" "place" (aCons (eTup (aCons (eC (.int 0)) (aCons (eVar 1) (aCons (eVar 3) aNil)))) aNil)) sNx) e1 S' = .nx e2 S2 ∨ (sIf (bNot (bOf (eCall m_is_number_below (aCons (eVar 4) (aCons (eCall lenF (aCons (eVar 0) aNil)) aNil))))) (sRaise "BadMachine" "place" (aCons (eTup (aCons (eC (.int 0)) (aCons (eVar 1) (aCons (eVar 3) aNil)))) aNil)) sNx) e1 S' = .ct e2 S2) ∧ (∃ (o3 o4 : Option D), e2 = [some (.p (.tuple (tab.map tI))), o1, some (.p (tI r)), o3, o4] ∧ S2 = S) := by
      intro k d env S' hk hP
      obtain ⟨p3, p4, rfl, rfl⟩ := hP
      obtain ⟨x, hx, rfl⟩ := enT_at hk
      rw [List.getElem?_map] at hx
      obtain ⟨v, hv, rfl⟩ := Option.map_eq_some_iff.mp hx
      obtain ⟨v0, v1⟩ := hr r hrm v (List.mem_of_getElem? hv)
      have t2 := below_ok (v := v) (n := (((tab.map tI).length : Nat) : Int)) (S := S') v0 (by rw [List.length_map, hn]; exact v1)
      refine ⟨[some (.p (.tuple (tab.map tI))), o1, some (.p (tI r)), some (pI k), some (pI v)], [some (.p (.tuple (tab.map tI))), o1, some (.p (tI r)), some (pI k), some (pI v)], S', rfl, .inl ?_, _, _, rfl, rfl⟩
      simp only [List.length_cons, List.length_nil, List.map_cons, List.map_nil, List.replicate, List.cons_append, List.nil_append, List.getElem?_cons_zero, List.getElem?_cons_succ, List.set_cons_zero, List.set_cons_succ, sSeq, sIf, sAsg, sRet, sPar, sDput, sNx, sExpr, eOp, eUn, eVar, eC, eCall, eTup, eLst, eIf, aCons, aNil, bOf, bNot, bAnd, bOr, eB, eAnd, eOr, gN, Ot.bind, Ot.then, cmpI, toB, modD, divD, mulD, subD, int2, addD, intF, lenF, max2F, min2F, decide_true, decide_false, if_true, if_false, Bool.false_eq_true, ite_true, ite_false, Bool.not_true, Bool.not_false, decide_eq_true_eq, Nat.reduceSub, Nat.reduceAdd, Nat.reduceEqDiff, fin, take_len, plains, mkTup, mkLst, reduceCtorEq, and_self, and_true, true_and, Bool.or_true, Bool.true_or, t2]
    have e := sFor_T (a := aCons (eVar 2) aNil) (g := gT [gN 3, gN 4]) (body := (sIf (bNot (bOf (eCall m_is_number_below (aCons (eVar 4) (aCons (eCall lenF (aCons (eVar 0) aNil)) aNil))))) (sRaise "BadMachine" "place" (aCons (eTup (aCons (eC (.int 0)) (aCons (eVar 1) (aCons (eVar 3) aNil)))) aNil)) sNx)) (env := [some (.p (.tuple (tab.map tI))), o1, some (.p (tI r)), o3, o4]) (S := S) (S' := S) rfl
    obtain ⟨e', S', q1, p3, p4, rfl, rfl⟩ := loop_ok (chk := yes) (g := gT [gN 3, gN 4]) (fun _ env S' => ∃ (o3 o4 : Option D), env = [some (.p (.tuple (tab.map tI))), o1, some (.p (tI r)), o3, o4] ∧ S' = S) (numD 0 (r.map PyData.int)) 0 _ S (fun _ _ _ _ => rfl) (fun k d env S' hk hP => step k d env S' hk hP) ⟨o3, o4, rfl, rfl⟩
    exact ⟨p3, p4, e.trans q1⟩
  have step : ∀ (k : Nat) (d : D) (env : Envr) (S' : Sto), (numD 0 (tab.map tI))[k]? = some d → (∃ (o1 o2 o3 o4 : Option D), env = [some (.p (.tuple (tab.map tI))), o1, o2, o3, o4] ∧ S' = S) →
      ∃ e1 e2 S2, gT [gN 1, gN 2] d env = some e1 ∧ ((sFor (iEnT (aCons (eVar 2) aNil)) (gT [(gN 3), (gN 4)]) (sIf (bNot (bOf (eCall m_is_number_below (aCons (eVar 4) (aCons (eCall lenF (aCons (eVar 0) aNil)) aNil))))) (sRaise "BadMachine" "place" (aCons (eTup (aCons (eC (.int 0)) (aCons (eVar 1) (aCons (eVar 3) aNil)))) aNil)) sNx)) e1 S' = .nx e2 S2 ∨ (sFor (iEnT (aCons (eVar 2) aNil)) (gT [(gN 3), (gN 4)]) (sIf (bNot (bOf (eCall m_is_number_below (aCons (eVar 4) (aCons (eCall lenF (aCons (eVar 0) aNil)) aNil))))) (sRaise "BadMachine" "place" (aCons (eTup (aCons (eC (.int 0)) (aCons (eVar 1) (aCons (eVar 3) aNil)))) aNil)) sNx)) e1 S' = .ct e2 S2) ∧ (∃ (o1 o2 o3 o4 : Option D), e2 = [some (.p (.tuple (tab.map tI))), o1, o2, o3, o4] ∧ S2 = S) := by
    intro k d env S' hk hP
    obtain ⟨o1, o2, o3, o4, rfl, rfl⟩ := hP
    obtain ⟨x, hx, rfl⟩ := enT_at hk
    rw [List.getElem?_map] at hx
    obtain ⟨r, hr1, rfl⟩ := Option.map_eq_some_iff.mp hx
    obtain ⟨p3, p4, q⟩ := inner r (List.mem_of_getElem? hr1) (some (pI k)) o3 o4
    exact ⟨[some (.p (.tuple (tab.map tI))), some (pI k), some (.p (tI r)), o3, o4], _, S', rfl, .inl q, some (pI k), some (.p (tI r)), p3, p4, rfl, rfl⟩
  have e := sFor_T (a := aCons (eVar 0) aNil) (g := gT [gN 1, gN 2]) (body := (sFor (iEnT (aCons (eVar 2) aNil)) (gT [(gN 3), (gN 4)]) (sIf (bNot (bOf (eCall m_is_number_below (aCons (eVar 4) (aCons (eCall lenF (aCons (eVar 0) aNil)) aNil))))) (sRaise "BadMachine" "place" (aCons (eTup (aCons (eC (.int 0)) (aCons (eVar 1) (aCons (eVar 3) aNil)))) aNil)) sNx))) (env := [some (.p (.tuple (tab.map tI))), none, none, none, none]) (S := S) (S' := S) rfl
  obtain ⟨e', S', q1, o1, o2, o3, o4, rfl, rfl⟩ := loop_ok (chk := yes) (g := gT [gN 1, gN 2]) (fun _ env S' => ∃ (o1 o2 o3 o4 : Option D), env = [some (.p (.tuple (tab.map tI))), o1, o2, o3, o4] ∧ S' = S) (numD 0 (tab.map tI)) 0 _ S (fun _ _ _ _ => rfl) (fun k d env S' hk hP => step k d env S' hk hP) ⟨none, none, none, none, rfl, rfl⟩
  have body : b_need_goals [some (.p (.tuple (tab.map tI))), none, none, none, none] S' = .nx [some (.p (.tuple (tab.map tI))), o1, o2, o3, o4] S' := e.trans q1
  exact (fnM_nx (b := false) (n := 1) (all := 5) (m := b_need_goals) (ds := [.p (.tuple (tab.map tI))]) rfl body).trans (by unfold fin; rw [take_len])
theorem machine_ok {tab : List (List Int)} {sh : List Int} {n l : Nat} {S : Sto} (M : IsM n l tab sh) (h0 : 0 < n) (hn8 : n ≤ 8) (l0 : 0 < l) (l4 : l ≤ 4) : m_need_machine [.p (mach tab sh)] S = .ok (.p (mach tab sh)) S := by
  have t1 := tuple_ok (l := [.tuple (tab.map tI), tI sh]) (a := 2) (b := 2) (S := S) (Int.le_refl 2) (Int.le_refl 2)
  have t2 := form_ok (S := S) M.len h0 hn8 (fun r hr => (M.row r hr).1) l0 l4
  have t3 := goals_ok (S := S) M.len fun r hr => (M.row r hr).2
  have t4 := shown_ok (S := S) M.shl hn8 M.shd
  have ln : (((tab.map tI).length : Nat) : Int) = n := by rw [List.length_map, M.len]
  have body : b_need_machine [some (.p (mach tab sh)), none, none] S = .rt (.p (mach tab sh)) S := by
    have s1 : (sIf (bNot (bOf (eCall m_is_tuple_of (aCons (eVar 0) (aCons (eC (.int 2)) (aCons (eC (.int 2)) aNil)))))) (sRaise "BadMachine" "place" (aCons (eTup aNil) aNil)) sNx) [some (.p (mach tab sh)), none, none] S = .nx [some (.p (mach tab sh)), none, none] S := by
      have t1' : m_is_tuple_of [.p (mach tab sh), pI 2, pI 2] S = .ok (.p (.bool true)) S := t1
      simp only [List.length_cons, List.length_nil, List.map_cons, List.map_nil, List.replicate, List.cons_append, List.nil_append, List.getElem?_cons_zero, List.getElem?_cons_succ, List.set_cons_zero, List.set_cons_succ, sSeq, sIf, sAsg, sRet, sPar, sDput, sNx, sExpr, eOp, eUn, eVar, eC, eCall, eTup, eLst, eIf, aCons, aNil, bOf, bNot, bAnd, bOr, eB, eAnd, eOr, gN, Ot.bind, Ot.then, cmpI, toB, modD, divD, mulD, subD, int2, addD, intF, lenF, max2F, min2F, decide_true, decide_false, if_true, if_false, Bool.false_eq_true, ite_true, ite_false, Bool.not_true, Bool.not_false, decide_eq_true_eq, Nat.reduceSub, Nat.reduceAdd, Nat.reduceEqDiff, fin, take_len, plains, mkTup, mkLst, reduceCtorEq, and_self, and_true, true_and, Bool.or_true, Bool.true_or, t1']
    have s2 : sAsg (eVar 0) (gT [gN 1, gN 2]) [some (.p (mach tab sh)), none, none] S = .nx [some (.p (mach tab sh)), some (.p (.tuple (tab.map tI))), some (.p (tI sh))] S := rfl
    have s3 : sExpr (eCall m_need_table_form (aCons (eVar 1) aNil)) [some (.p (mach tab sh)), some (.p (.tuple (tab.map tI))), some (.p (tI sh))] S = .nx [some (.p (mach tab sh)), some (.p (.tuple (tab.map tI))), some (.p (tI sh))] S := by
      simp only [List.length_cons, List.length_nil, List.map_cons, List.map_nil, List.replicate, List.cons_append, List.nil_append, List.getElem?_cons_zero, List.getElem?_cons_succ, List.set_cons_zero, List.set_cons_succ, sSeq, sIf, sAsg, sRet, sPar, sDput, sNx, sExpr, eOp, eUn, eVar, eC, eCall, eTup, eLst, eIf, aCons, aNil, bOf, bNot, bAnd, bOr, eB, eAnd, eOr, gN, Ot.bind, Ot.then, cmpI, toB, modD, divD, mulD, subD, int2, addD, intF, lenF, max2F, min2F, decide_true, decide_false, if_true, if_false, Bool.false_eq_true, ite_true, ite_false, Bool.not_true, Bool.not_false, decide_eq_true_eq, Nat.reduceSub, Nat.reduceAdd, Nat.reduceEqDiff, fin, take_len, plains, mkTup, mkLst, reduceCtorEq, and_self, and_true, true_and, Bool.or_true, Bool.true_or, t2]
    have s4 : sExpr (eCall m_need_goals (aCons (eVar 1) aNil)) [some (.p (mach tab sh)), some (.p (.tuple (tab.map tI))), some (.p (tI sh))] S = .nx [some (.p (mach tab sh)), some (.p (.tuple (tab.map tI))), some (.p (tI sh))] S := by
      simp only [List.length_cons, List.length_nil, List.map_cons, List.map_nil, List.replicate, List.cons_append, List.nil_append, List.getElem?_cons_zero, List.getElem?_cons_succ, List.set_cons_zero, List.set_cons_succ, sSeq, sIf, sAsg, sRet, sPar, sDput, sNx, sExpr, eOp, eUn, eVar, eC, eCall, eTup, eLst, eIf, aCons, aNil, bOf, bNot, bAnd, bOr, eB, eAnd, eOr, gN, Ot.bind, Ot.then, cmpI, toB, modD, divD, mulD, subD, int2, addD, intF, lenF, max2F, min2F, decide_true, decide_false, if_true, if_false, Bool.false_eq_true, ite_true, ite_false, Bool.not_true, Bool.not_false, decide_eq_true_eq, Nat.reduceSub, Nat.reduceAdd, Nat.reduceEqDiff, fin, take_len, plains, mkTup, mkLst, reduceCtorEq, and_self, and_true, true_and, Bool.or_true, Bool.true_or, t3]
    have s5 : sExpr (eCall m_need_shown (aCons (eVar 2) (aCons (eCall lenF (aCons (eVar 1) aNil)) aNil))) [some (.p (mach tab sh)), some (.p (.tuple (tab.map tI))), some (.p (tI sh))] S = .nx [some (.p (mach tab sh)), some (.p (.tuple (tab.map tI))), some (.p (tI sh))] S := by
      simp only [List.length_cons, List.length_nil, List.map_cons, List.map_nil, List.replicate, List.cons_append, List.nil_append, List.getElem?_cons_zero, List.getElem?_cons_succ, List.set_cons_zero, List.set_cons_succ, sSeq, sIf, sAsg, sRet, sPar, sDput, sNx, sExpr, eOp, eUn, eVar, eC, eCall, eTup, eLst, eIf, aCons, aNil, bOf, bNot, bAnd, bOr, eB, eAnd, eOr, gN, Ot.bind, Ot.then, cmpI, toB, modD, divD, mulD, subD, int2, addD, intF, lenF, max2F, min2F, decide_true, decide_false, if_true, if_false, Bool.false_eq_true, ite_true, ite_false, Bool.not_true, Bool.not_false, decide_eq_true_eq, Nat.reduceSub, Nat.reduceAdd, Nat.reduceEqDiff, fin, take_len, plains, mkTup, mkLst, reduceCtorEq, and_self, and_true, true_and, Bool.or_true, Bool.true_or, ln, t4]
    exact (sSeq_nx s1).trans ((sSeq_nx s2).trans ((sSeq_nx s3).trans ((sSeq_nx s4).trans ((sSeq_nx s5).trans rfl))))
  exact (fnM_rt (b := false) (n := 1) (all := 3) (m := b_need_machine) (ds := [.p (mach tab sh)]) rfl body).trans (by unfold mach fin; rw [take_len])
theorem sFor_TT {m : EM} {g : GM} {body : SM} {env : Envr} {S S' : Sto} {l : List PyData} (h : m env S = .ok (.p (.tuple l)) S') : sFor (iT m) g body env S = loop yes g body (l.map .p) env S' := by
  unfold sFor iT
  rw [h]
  rfl
theorem sFor_LL {m : EM} {g : GM} {body : SM} {env : Envr} {S S' : Sto} {l : List PyData} (h : m env S = .ok (.p (.list l)) S') : sFor (iL m) g body env S = loop yes g body (l.map .p) env S' := by
  unfold sFor iL
  rw [h]
  rfl
end Lw

/-! P10 -/
set_option Elab.async false
set_option linter.all false
set_option maxRecDepth 100000
set_option maxHeartbeats 4000000
set_option autoImplicit false
namespace Lw
open PySem PySem.Spec PyProof.Rows L2 Mi
theorem lay_ints : ∀ r : List Int, PyData.canLayAll0 (r.map .int) = true
  | [] => rfl
  | x :: r => by
    show ((PyData.int x).canLay0 && PyData.canLayAll0 (r.map .int)) = true
    rw [lay_ints r]
    rfl
theorem deep_ints : ∀ r : List Int, PyData.depthAll (r.map .int) ≤ 1
  | [] => by simp [PyData.depthAll]
  | x :: r => by
    have := deep_ints r
    simp only [List.map_cons, PyData.depthAll, PyData.depth]
    omega
theorem eqv_ints : ∀ a b : List Int, PyData.eqvAll (a.map .int) (b.map .int) = decide (a = b)
  | [], [] => rfl
  | [], _ :: _ => rfl
  | _ :: _, [] => rfl
  | x :: a, y :: b => by
    show (PyData.eqv (.int x) (.int y) && PyData.eqvAll (a.map .int) (b.map .int)) = _
    rw [eqv_ints a b]
    show ((x == y) && decide (a = b)) = _
    by_cases h : x = y
    · subst h; simp
    · simp [h]
theorem shaped_lI (r : List Int) : SeqAt.shaped (lI r) = true := by
  have := deep_ints r
  unfold SeqAt.shaped
  rw [PyData.canLay0, lay_ints]
  simp only [PyData.depth, Bool.true_and]
  exact decide_eq_true (by omega)
theorem shaped_tI (r : List Int) : SeqAt.shaped (tI r) = true := by
  have := deep_ints r
  unfold SeqAt.shaped
  rw [PyData.canLay0, lay_ints]
  simp only [PyData.depth, Bool.true_and]
  exact decide_eq_true (by omega)
theorem eq_ll (neg : Bool) (a b : List Int) (S : Sto) : eqD neg (.p (lI a)) (.p (lI b)) S = .ok (.p (.bool (if neg = true then !decide (a = b) else decide (a = b)))) S := by
  simp only [eqD, shaped_lI, and_self, if_true]
  show Ot.ok (D.p (.bool (if neg = true then !PyData.eqvAll (a.map .int) (b.map .int) else PyData.eqvAll (a.map .int) (b.map .int)))) S = _
  rw [eqv_ints]
theorem eq_tt (neg : Bool) (a b : List Int) (S : Sto) : eqD neg (.p (tI a)) (.p (tI b)) S = .ok (.p (.bool (if neg = true then !decide (a = b) else decide (a = b)))) S := by
  simp only [eqD, shaped_tI, and_self, if_true]
  show Ot.ok (D.p (.bool (if neg = true then !PyData.eqvAll (a.map .int) (b.map .int) else PyData.eqvAll (a.map .int) (b.map .int)))) S = _
  rw [eqv_ints]
end Lw

/-! P11 -/
set_option Elab.async false
set_option linter.all false
set_option maxRecDepth 100000
set_option maxHeartbeats 4000000
set_option autoImplicit false
namespace Lw
open PySem PySem.Spec PyProof.Rows L2 Mi
/-! ### the state of the draws begins -/
theorem asg_ok {m : EM} {g : GM} {env e1 : Envr} {S S1 : Sto} {d : D} (h : m env S = .ok d S1) (hg : g d env = some e1) : sAsg m g env S = .nx e1 S1 := by
  unfold sAsg
  simp only [h, Ot.then, hg]
theorem plains_ints (xs : List Int) : plains (xs.map pI) = some (xs.map .int) := by
  rw [show xs.map pI = (xs.map PyData.int).map D.p from by rw [List.map_map]; rfl]
  exact plains_map _
/-- a comprehension over a list of ints that keeps some -/
theorem comp_ints {t : BM} {m : EM} {i : Nat} {env : Envr} {S : Sto} {a : EM} {xs : List Int} (tf : Int → Bool) (mf : Int → Int) (h : a env S = .ok (.p (lI xs)) S) (hl : xs.length < 1000000)
    (ht : ∀ x ∈ xs, t ((env.set i none).set i (some (pI x))) S = .ok (tf x) S) (hm : ∀ x ∈ xs, tf x = true → m ((env.set i none).set i (some (pI x))) S = .ok (pI (mf x)) S) :
    eComp false (iL a) [i] (gN i) t m env S = .ok (.p (lI ((xs.filter tf).map mf))) S := by
  unfold eComp iL
  rw [h]
  show (compLoop yes (gN i) t m (wipeE env [i]) ((xs.map PyData.int).map D.p) [] S).bind (keptAs false) = _
  rw [comp_map (fun d => match d with | .p (.int x) => tf x | _ => false) (fun d => match d with | .p (.int x) => pI (mf x) | _ => d) ((xs.map PyData.int).map D.p) [] rfl
    (by rw [List.length_map, List.length_map]; show 0 + xs.length < sizeLine; exact Nat.lt_trans (by omega : 0 + xs.length < 1000000) (by decide)) (fun d hd => by
      obtain ⟨y, hy, rfl⟩ := List.mem_map.mp hd
      obtain ⟨x, hx, rfl⟩ := List.mem_map.mp hy
      exact ⟨_, rfl, ht x hx, fun q => hm x hx q⟩)]
  have e : (((xs.map PyData.int).map D.p).filter fun d => match d with | .p (.int x) => tf x | _ => false).map (fun d => match d with | .p (.int x) => pI (mf x) | _ => d) = ((xs.filter tf).map mf).map pI := by
    rw [List.map_map, List.filter_map, List.map_map, List.map_map]
    rfl
  rw [e]
  show (match plains ([] ++ ((xs.filter tf).map mf).map pI) with | some l => (Ot.ok (D.p (.list l)) S : Ot D) | none => .bad) = _
  rw [List.nil_append, plains_ints]
theorem last_get {α : Type} {S : List α} {c : α} : (S ++ [c])[S.length]? = some c := by simp
theorem at0 {α : Type} (a : α) (r : List α) : atI (a :: r) 0 = some a := by
  unfold atI ixN
  rw [if_pos (Int.le_refl 0), if_pos (by rw [List.length_cons]; omega)]
  rfl
theorem begun_ok {ns : List Int} {k : Nat} {S : Sto} (hl : ns.length ≤ 63) (hk : k ≤ 100) : ∃ c, m_law_begun [.scr ns, pI k] S = .ok (.loc S.length) (S ++ [c]) ∧ Gd 0 (S ++ [c]) S.length := by
  obtain ⟨cs, hcs⟩ : ∃ cs : List Int, cs = cutL ns (some (k : Int)) none ++ cutL ns none (some (k : Int)) := ⟨_, rfl⟩
  have cl : cs.length ≤ 126 := by
    rw [hcs, List.length_append]
    unfold cutL
    have a1 : ∀ (lo hi : Option Int), (((ns.drop (HT.sIx ns.length 0 lo)).take (HT.sIx ns.length ns.length hi - HT.sIx ns.length 0 lo))).length ≤ ns.length := fun lo hi => by
      rw [List.length_take, List.length_drop]
      omega
    have b1 := a1 (some (k : Int)) none
    have b2 := a1 none (some (k : Int))
    omega
  have z1 : (cs.length : Nat) ≤ sizeLine := Nat.le_trans cl (by decide)
  have x1 : eOp addD (eSl (eVar 0) (oSome (eVar 1)) oNone) (eSl (eVar 0) oNone (oSome (eVar 1))) [some (.scr ns), some (pI k), none, none, none, none] S = .ok (.p (lI cs)) S := by
    have z2 : (((cutL ns (some (k : Int)) none).map PyData.int).length + ((cutL ns none (some (k : Int))).map PyData.int).length) ≤ sizeLine := by
      rw [List.length_map, List.length_map, ← List.length_append, ← hcs]
      exact z1
    simp only [List.length_cons, List.length_nil, List.map_cons, List.map_nil, List.replicate, List.cons_append, List.nil_append, List.getElem?_cons_zero, List.getElem?_cons_succ, List.set_cons_zero, List.set_cons_succ, sSeq, sIf, sAsg, sRet, sPar, sDput, sNx, sExpr, eOp, eUn, eVar, eC, eCall, eTup, eLst, eIf, aCons, aNil, bOf, bNot, bAnd, bOr, eB, eAnd, eOr, gN, Ot.bind, Ot.then, cmpI, toB, modD, divD, mulD, subD, int2, addD, intF, lenF, max2F, min2F, decide_true, decide_false, if_true, if_false, Bool.false_eq_true, ite_true, ite_false, Bool.not_true, Bool.not_false, decide_eq_true_eq, Nat.reduceSub, Nat.reduceAdd, Nat.reduceEqDiff, fin, take_len, plains, mkTup, mkLst, reduceCtorEq, and_self, and_true, true_and, Bool.or_true, Bool.true_or, eSl, oSome, oNone, toI, slD, z2]
    rw [hcs]
    show _ = (Ot.ok (D.p (.list ((_ ++ _ : List Int).map .int))) S : Ot D)
    rw [List.map_append]
  have x2 : eComp false (iL (eVar 2)) [5] (gN 5) (bOf (eOp (cmpI fun i j => decide (j ≤ i)) (eVar 5) (eOp powD (eC (.int 10)) (eC (.int 18))))) (eVar 5) [some (.scr ns), some (pI k), some (.p (lI cs)), none, none, none] S =
      .ok (.p (lI ((cs.filter fun x => decide ((10 : Int) ^ (18 : Int).toNat ≤ x)).map id))) S :=
    comp_ints (a := eVar 2) (i := 5) (fun x => decide ((10 : Int) ^ (18 : Int).toNat ≤ x)) id rfl (by omega) (fun x _ => by
      simp only [List.length_cons, List.length_nil, List.map_cons, List.map_nil, List.replicate, List.cons_append, List.nil_append, List.getElem?_cons_zero, List.getElem?_cons_succ, List.set_cons_zero, List.set_cons_succ, sSeq, sIf, sAsg, sRet, sPar, sDput, sNx, sExpr, eOp, eUn, eVar, eC, eCall, eTup, eLst, eIf, aCons, aNil, bOf, bNot, bAnd, bOr, eB, eAnd, eOr, gN, Ot.bind, Ot.then, cmpI, toB, modD, divD, mulD, subD, int2, addD, intF, lenF, max2F, min2F, decide_true, decide_false, if_true, if_false, Bool.false_eq_true, ite_true, ite_false, Bool.not_true, Bool.not_false, decide_eq_true_eq, Nat.reduceSub, Nat.reduceAdd, Nat.reduceEqDiff, fin, take_len, plains, mkTup, mkLst, reduceCtorEq, and_self, and_true, true_and, Bool.or_true, Bool.true_or, powD]
      rfl) (fun x _ _ => rfl)
  obtain ⟨gr, hgr⟩ : ∃ gr : List Int, gr = (cs.filter fun x => decide ((10 : Int) ^ (18 : Int).toNat ≤ x)).map id := ⟨_, rfl⟩
  rw [← hgr] at x2
  have x3 := sFor_LL (m := eVar 2) (g := gN 5) (body := (sAsg (eOp modD (eCall intF (aCons (eOp addD (eOp mulD (eVar 4) (eC (.int 48271))) (eVar 5)) aNil)) (eC (.int 2147483647))) (gN 4))) (env := [some (.scr ns), some (pI k), some (.p (lI cs)), some (.p (lI gr)), some (pI (71 + k)), none]) (S := S) (S' := S) (l := cs.map .int) rfl
  obtain ⟨e4, S4, q1, sd, o5, rfl, rfl⟩ := loop_ok (chk := yes) (g := gN 5) (body := (sAsg (eOp modD (eCall intF (aCons (eOp addD (eOp mulD (eVar 4) (eC (.int 48271))) (eVar 5)) aNil)) (eC (.int 2147483647))) (gN 4))) (fun _ env S' => ∃ (sd : Int) (o5 : Option D), env = [some (.scr ns), some (pI k), some (.p (lI cs)), some (.p (lI gr)), some (pI sd), o5] ∧ S' = S)
    ((cs.map PyData.int).map .p) 0 _ S (fun _ _ _ _ => rfl) (fun j d env S' hj hP => by
      obtain ⟨sd, o5, rfl, rfl⟩ := hP
      rw [List.map_map, List.getElem?_map] at hj
      obtain ⟨x, _, rfl⟩ := Option.map_eq_some_iff.mp hj
      refine ⟨_, _, _, rfl, .inl ?_, (sd * 48271 + x) % 2147483647, some (pI x), rfl, rfl⟩
      have mo := mo1 sd
      show sAsg _ (gN 4) [some (.scr ns), some (pI k), some (.p (lI cs)), some (.p (lI gr)), some (pI sd), some (pI x)] _ = _
      simp only [List.length_cons, List.length_nil, List.map_cons, List.map_nil, List.replicate, List.cons_append, List.nil_append, List.getElem?_cons_zero, List.getElem?_cons_succ, List.set_cons_zero, List.set_cons_succ, sSeq, sIf, sAsg, sRet, sPar, sDput, sNx, sExpr, eOp, eUn, eVar, eC, eCall, eTup, eLst, eIf, aCons, aNil, bOf, bNot, bAnd, bOr, eB, eAnd, eOr, gN, Ot.bind, Ot.then, cmpI, toB, modD, divD, mulD, subD, int2, addD, intF, lenF, max2F, min2F, decide_true, decide_false, if_true, if_false, Bool.false_eq_true, ite_true, ite_false, Bool.not_true, Bool.not_false, decide_eq_true_eq, Nat.reduceSub, Nat.reduceAdd, Nat.reduceEqDiff, fin, take_len, plains, mkTup, mkLst, reduceCtorEq, and_self, and_true, true_and, Bool.or_true, Bool.true_or, mo, Int.reduceLT]) ⟨71 + k, none, rfl, rfl⟩
  have x4 : eIf (bOf (eOp (eqD true) (eVar 3) (eLst aNil))) (eOp ixD (eVar 3) (eC (.int 0))) (eC (.int 0)) [some (.scr ns), some (pI k), some (.p (lI cs)), some (.p (lI gr)), some (pI sd), o5] S4 = .ok (pI (gr.headD 0)) S4 := by
    have el := eq_ll true gr [] S4
    have el' : eqD true (.p (lI gr)) (.p (.list [])) S4 = .ok (.p (.bool (!decide (gr = [])))) S4 := el
    cases gr with
    | nil => simp only [List.length_cons, List.length_nil, List.map_cons, List.map_nil, List.replicate, List.cons_append, List.nil_append, List.getElem?_cons_zero, List.getElem?_cons_succ, List.set_cons_zero, List.set_cons_succ, sSeq, sIf, sAsg, sRet, sPar, sDput, sNx, sExpr, eOp, eUn, eVar, eC, eCall, eTup, eLst, eIf, aCons, aNil, bOf, bNot, bAnd, bOr, eB, eAnd, eOr, gN, Ot.bind, Ot.then, cmpI, toB, modD, divD, mulD, subD, int2, addD, intF, lenF, max2F, min2F, decide_true, decide_false, if_true, if_false, Bool.false_eq_true, ite_true, ite_false, Bool.not_true, Bool.not_false, decide_eq_true_eq, Nat.reduceSub, Nat.reduceAdd, Nat.reduceEqDiff, fin, take_len, plains, mkTup, mkLst, reduceCtorEq, and_self, and_true, true_and, Bool.or_true, Bool.true_or, el', (show (0 ≤ sizeLine) = True from eq_true (Nat.zero_le _))]; rfl
    | cons a r =>
      have a0 : atI (PyData.int a :: r.map PyData.int) 0 = some (.int a) := at0 _ _
      simp only [List.length_cons, List.length_nil, List.map_cons, List.map_nil, List.replicate, List.cons_append, List.nil_append, List.getElem?_cons_zero, List.getElem?_cons_succ, List.set_cons_zero, List.set_cons_succ, sSeq, sIf, sAsg, sRet, sPar, sDput, sNx, sExpr, eOp, eUn, eVar, eC, eCall, eTup, eLst, eIf, aCons, aNil, bOf, bNot, bAnd, bOr, eB, eAnd, eOr, gN, Ot.bind, Ot.then, cmpI, toB, modD, divD, mulD, subD, int2, addD, intF, lenF, max2F, min2F, decide_true, decide_false, if_true, if_false, Bool.false_eq_true, ite_true, ite_false, Bool.not_true, Bool.not_false, decide_eq_true_eq, Nat.reduceSub, Nat.reduceAdd, Nat.reduceEqDiff, fin, take_len, plains, mkTup, mkLst, reduceCtorEq, and_self, and_true, true_and, Bool.or_true, Bool.true_or, el', (show (0 ≤ sizeLine) = True from eq_true (Nat.zero_le _)), ixD, a0]
      rfl
  have x5 : eOp addD (eVar 2) (eLst (aCons (eOp addD (eOp mulD (eC (.int 41)) (eVar 1)) (eC (.int 3))) aNil)) [some (.scr ns), some (pI k), some (.p (lI cs)), some (.p (lI gr)), some (pI sd), o5] S4 = .ok (.p (lI (cs ++ [41 * (k : Int) + 3]))) S4 := by
    have m41 : mulOk 41 k = true := small_mul' (by decide)
    have z2 : (cs.map PyData.int).length + (0 + 1) ≤ sizeLine := by rw [List.length_map]; exact Nat.le_trans (by omega : cs.length + (0 + 1) ≤ 127) (by decide)
    simp only [List.length_cons, List.length_nil, List.map_cons, List.map_nil, List.replicate, List.cons_append, List.nil_append, List.getElem?_cons_zero, List.getElem?_cons_succ, List.set_cons_zero, List.set_cons_succ, sSeq, sIf, sAsg, sRet, sPar, sDput, sNx, sExpr, eOp, eUn, eVar, eC, eCall, eTup, eLst, eIf, aCons, aNil, bOf, bNot, bAnd, bOr, eB, eAnd, eOr, gN, Ot.bind, Ot.then, cmpI, toB, modD, divD, mulD, subD, int2, addD, intF, lenF, max2F, min2F, decide_true, decide_false, if_true, if_false, Bool.false_eq_true, ite_true, ite_false, Bool.not_true, Bool.not_false, decide_eq_true_eq, Nat.reduceSub, Nat.reduceAdd, Nat.reduceEqDiff, fin, take_len, plains, mkTup, mkLst, reduceCtorEq, and_self, and_true, true_and, Bool.or_true, Bool.true_or, m41, (show (0 + 1 ≤ sizeLine) = True from eq_true (by decide)), Option.map, z2]
    show (Ot.ok (D.p (.list (cs.map .int ++ [.int (41 * k + 3)]))) S4 : Ot D) = .ok (D.p (.list ((cs ++ [41 * (k : Int) + 3]).map .int))) S4
    rw [List.map_append]
    rfl
  have body : b_law_begun [some (.scr ns), some (pI k), none, none, none, none] S4 = .rt (.loc S4.length) (S4 ++ [mcell (gr.headD 0) sd (cs ++ [41 * (k : Int) + 3]) 0]) := by
    refine (sSeq_nx (asg_ok x1 rfl)).trans ((sSeq_nx (asg_ok x2 rfl)).trans ((sSeq_nx (asg_ok (d := pI (71 + k)) rfl rfl)).trans ((sSeq_nx (x3.trans q1)).trans (ret_ok ?_))))
    simp only [eDict, pairsM, x4, x5, eC, eVar, List.getElem?_cons_zero, List.getElem?_cons_succ, Ot.bind, keyOf]
    rfl
  refine ⟨mcell (gr.headD 0) sd (cs ++ [41 * (k : Int) + 3]) 0, ?_, ⟨_, _, _, _, last_get, by simp, Int.le_refl _, Int.le_refl _⟩⟩
  refine (fnM_rt (b := true) (n := 2) (all := 6) (m := b_law_begun) (ds := [.scr ns, pI k]) rfl body).trans ?_
  have g : (S4 ++ [mcell (gr.headD 0) sd (cs ++ [41 * (k : Int) + 3]) 0])[S4.length]? = some (mcell (gr.headD 0) sd (cs ++ [41 * (k : Int) + 3]) 0) := last_get
  unfold fin
  simp only [Nat.lt_irrefl, if_false, g, List.take_left]
  rfl
end Lw

/-! R0 -/
set_option Elab.async false
set_option linter.all false
set_option maxRecDepth 100000
set_option maxHeartbeats 4000000
set_option autoImplicit false
namespace Lw
open PySem PySem.Spec PyProof.Rows L2 Mi
theorem cell_of {S : Sto} {i : Nat} {xs : List D} (h : S[i]? = some (.lst xs)) : isCell (.loc i) S = true := by
  simp only [isCell, cl_of h]
  rfl
theorem app_of {S : Sto} {i : Nat} {xs : List D} (h : S[i]? = some (.lst xs)) (hl : xs.length < 1000000) (x : Int) : apF (.loc i) (pI x) S = .ok (.p .none) (S.set i (.lst (xs ++ [pI x]))) := by
  have z : xs.length < sizeLine ∧ (pI x).lowb i = true := ⟨Nat.lt_trans hl (by decide), rfl⟩
  simp only [apF, cl_of h]
  rw [if_pos z]
theorem add_ll {a b : List PyData} {S : Sto} (h : a.length + b.length < 1000000) : addD (.p (.list a)) (.p (.list b)) S = .ok (.p (.list (a ++ b))) S := by
  show (if a.length + b.length ≤ sizeLine then (Ot.ok (.p (.list (a ++ b))) S : Ot D) else .bad) = _
  rw [if_pos (Nat.le_of_lt (Nat.lt_trans h (by decide)))]
theorem op2 {f : D → D → Sto → Ot D} {m m2 : EM} {env : Envr} {S S1 S2 : Sto} {d d2 : D} {r : Ot D} (h : m env S = .ok d S1) (h2 : m2 env S1 = .ok d2 S2) (hf : f d d2 S2 = r) : eOp f m m2 env S = r := by
  unfold eOp
  simp only [h, h2, Ot.bind, hf]
theorem lst1 {m : EM} {env : Envr} {S S1 : Sto} {d : PyData} (h : m env S = .ok (.p d) S1) : eLst (aCons m aNil) env S = .ok (.p (.list [d])) S1 := by
  unfold eLst aCons aNil
  simp only [h, Ot.bind, aCons, aNil]
  rfl
theorem loop_fold {α γ ε : Type} {chk : Sto → Bool} {g : GM} {body : SM} (c : α → D) (f : γ → α → γ) (E : γ → ε → Envr) (T : γ → Sto) (I : List α → γ → Prop) (hc : ∀ r z, I r z → chk (T z) = true) :
    ∀ (xs : List α) (z : γ) (o : ε), (∀ x r z o, x ∈ xs → I (x :: r) z → ∃ e1 o', g (c x) (E z o) = some e1 ∧ body e1 (T z) = .nx (E (f z x) o') (T (f z x)) ∧ I r (f z x)) → I xs z →
    ∃ o', loop chk g body (xs.map c) (E z o) (T z) = .nx (E (xs.foldl f z) o') (T (xs.foldl f z)) ∧ I [] (xs.foldl f z)
  | [], z, o, _, h => ⟨o, by
    show loop chk g body [] (E z o) (T z) = _
    unfold loop
    rw [if_pos (hc _ _ h)]
    rfl, h⟩
  | x :: r, z, o, st, h => by
    obtain ⟨e1, o', h1, h2, h3⟩ := st x r z o (List.mem_cons_self ..) h
    obtain ⟨o2, q1, q2⟩ := loop_fold c f E T I hc r (f z x) o' (fun y r' z o hy hi => st y r' z o (List.mem_cons_of_mem _ hy) hi) h3
    refine ⟨o2, ?_, q2⟩
    show loop chk g body (c x :: r.map c) (E z o) (T z) = _
    unfold loop
    rw [if_pos (hc _ _ h)]
    simp only [h1, h2]
    exact q1
theorem loop_all {α ε : Type} {chk : Sto → Bool} {g : GM} {body : SM} {S : Sto} (c : α → D) (E : ε → Envr) (t : α → Prop) (v : D) (hc : chk S = true) :
    ∀ (xs : List α) (o : ε), (∀ x ∈ xs, ∀ o, ∃ e1, g (c x) (E o) = some e1 ∧ ((t x ∧ ∃ o', body e1 S = .nx (E o') S) ∨ (¬ t x ∧ body e1 S = .rt v S))) →
    (∃ o', loop chk g body (xs.map c) (E o) S = .nx (E o') S ∧ ∀ x ∈ xs, t x) ∨ (loop chk g body (xs.map c) (E o) S = .rt v S ∧ ∃ x ∈ xs, ¬ t x)
  | [], o, _ => .inl ⟨o, by
    show loop chk g body [] (E o) S = _
    unfold loop
    rw [if_pos hc], fun x h => by simp at h⟩
  | x :: r, o, h => by
    obtain ⟨e1, h1, h2⟩ := h x (List.mem_cons_self ..) o
    have un : loop chk g body ((x :: r).map c) (E o) S = match body e1 S with | .nx e' S' => loop chk g body (r.map c) e' S' | .ct e' S' => loop chk g body (r.map c) e' S' | .bk e' S' => .nx e' S' | o => o := by
      show loop chk g body (c x :: r.map c) (E o) S = _
      conv => lhs; unfold loop
      rw [if_pos hc]
      simp only [h1]
      all_goals (cases body e1 S <;> rfl)
    rcases h2 with ⟨ht, o', h2⟩ | ⟨ht, h2⟩
    · rw [h2] at un
      rcases loop_all c E t v hc r o' fun y hy => h y (List.mem_cons_of_mem _ hy) with ⟨o2, q1, q2⟩ | ⟨q1, y, hy, q2⟩
      · refine .inl ⟨o2, un.trans q1, fun y hy => ?_⟩
        rcases List.mem_cons.mp hy with e | hy
        · rw [e]; exact ht
        · exact q2 y hy
      · exact .inr ⟨un.trans q1, y, List.mem_cons_of_mem _ hy, q2⟩
    · rw [h2] at un
      exact .inr ⟨un, x, List.mem_cons_self .., ht⟩
theorem ix_nat {xs : List Int} {k : Nat} {x : Int} (h : xs[k]? = some x) : atI (xs.map PyData.int) (k : Int) = some (.int x) := by
  have q := (List.getElem?_eq_some_iff.mp h).1
  unfold atI ixN
  rw [if_pos (by omega), if_pos (by rw [List.length_map]; omega)]
  show (xs.map PyData.int)[(k : Int).toNat]? = _
  rw [Int.toNat_natCast, List.getElem?_map, h]
  rfl
theorem ix_T {xs : List Int} {k : Nat} {x : Int} {S : Sto} (h : xs[k]? = some x) : ixD (.p (tI xs)) (pI k) S = .ok (pI x) S := by
  show (match atI (xs.map PyData.int) (k : Int) with | some d => (Ot.ok (.p d) S : Ot D) | none => .bad) = _
  rw [ix_nat h]
theorem ix_L {xs : List Int} {k : Nat} {x : Int} {S : Sto} (h : xs[k]? = some x) : ixD (.p (lI xs)) (pI k) S = .ok (pI x) S := by
  show (match atI (xs.map PyData.int) (k : Int) with | some d => (Ot.ok (.p d) S : Ot D) | none => .bad) = _
  rw [ix_nat h]
theorem get_is {xs : List Int} {n k : Nat} (h : xs.length = n) (hk : k < n) : ∃ x, xs[k]? = some x := ⟨_, List.getElem?_eq_getElem (by omega)⟩
theorem if_rt {t : BM} {a b : SM} {env : Envr} {S S1 : Sto} (h : t env S = .ok true S1) : sIf t a b env S = a env S1 := by
  unfold sIf
  rw [h]
  rfl
theorem if_no {t : BM} {a b : SM} {env : Envr} {S S1 : Sto} (h : t env S = .ok false S1) : sIf t a b env S = b env S1 := by
  unfold sIf
  rw [h]
  rfl
theorem eif_no {t : BM} {a b : EM} {env : Envr} {S S1 : Sto} (h : t env S = .ok false S1) : eIf t a b env S = b env S1 := by
  unfold eIf
  rw [h]
  rfl
theorem eif_rt {t : BM} {a b : EM} {env : Envr} {S S1 : Sto} (h : t env S = .ok true S1) : eIf t a b env S = a env S1 := by
  unfold eIf
  rw [h]
  rfl
theorem and_ok {m1 m2 : EM} {env : Envr} {S : Sto} {a b : Bool} (h1 : m1 env S = .ok (.p (.bool a)) S) (h2 : m2 env S = .ok (.p (.bool b)) S) : eAnd m1 m2 env S = .ok (.p (.bool (a && b))) S := by
  have t : bOf m1 env S = .ok a S := by
    unfold bOf
    rw [h1]
    rfl
  unfold eAnd
  cases a
  · exact (eif_no t).trans rfl
  · exact (eif_rt t).trans h2
def okS (x : Str) (c : Nat) : Prop := x.length ≤ c ∧ PyData.strOk x = true
theorem okS_app {x y : Str} {a b : Nat} (hx : okS x a) (hy : okS y b) : okS (x ++ y) (a + b) := by
  refine ⟨by rw [strLen_append]; have := hx.1; have := hy.1; omega, ?_⟩
  show ((x.cps ++ y.cps).all fun c => decide (c < 0x110000)) = true
  rw [Array.all_append]
  have h1 : x.cps.all (fun c => decide (c < 0x110000)) = true := hx.2
  have h2 : y.cps.all (fun c => decide (c < 0x110000)) = true := hy.2
  rw [h1, h2]
  rfl
theorem okS_mono {x : Str} {a b : Nat} (h : okS x a) (l : a ≤ b) : okS x b := ⟨Nat.le_trans h.1 l, h.2⟩
theorem okS_lit {x : Str} {c : Nat} (h1 : decide (x.length ≤ c) = true) (h2 : PyData.strOk x = true) : okS x c := ⟨of_decide_eq_true h1, h2⟩
theorem okS_from {c : Nat} : ∀ (ts : List Str) (k : Nat) (acc : Str) (a : Nat), okS acc a → (∀ t ∈ ts, okS t c) → okS (textFrom k acc ts) (a + ts.length * (c + 2))
  | [], k, acc, a, h, _ => by
    rw [List.length_nil, Nat.zero_mul]
    exact h
  | t :: r, k, acc, a, h, ht => by
    have s2 : okS ((if k > 0 then ", " else "" : String) : Str) 2 := by
      by_cases q : k > 0
      · rw [if_pos q]; exact okS_lit (by decide +kernel) (by decide +kernel)
      · rw [if_neg q]; exact okS_lit (by decide +kernel) (by decide +kernel)
    have := okS_from r (k + 1) _ _ (okS_app (okS_app h s2) (ht t (List.mem_cons_self ..))) fun u hu => ht u (List.mem_cons_of_mem _ hu)
    refine okS_mono this ?_
    rw [List.length_cons, Nat.succ_mul]
    omega
theorem okS_join {c : Nat} : ∀ ts : List Str, (∀ t ∈ ts, okS t c) → okS (Str.join ", " ts) (ts.length * (c + 2))
  | [], _ => okS_mono (okS_lit (c := 0) (x := Str.join ", " []) (by decide +kernel) (by decide +kernel)) (Nat.zero_le _)
  | [x], h => okS_mono (h x (List.mem_cons_self ..)) (by rw [List.length_singleton]; omega)
  | x :: y :: r, h => by
    have ih := okS_join (y :: r) fun u hu => h u (List.mem_cons_of_mem _ hu)
    have s2 : okS ((", " : String) : Str) 2 := okS_lit (by decide +kernel) (by decide +kernel)
    refine okS_mono (okS_app (okS_app (h x (List.mem_cons_self ..)) s2) ih) ?_
    rw [List.length_cons (a := x), Nat.succ_mul]
    omega
structure okD (d : PyData) (c h : Nat) : Prop where
  sh : d.showable = true
  s : okS d.shown c
  dp : d.depth ≤ h
  lay : layD d = true
theorem shownAll_map : ∀ xs : List PyData, PyData.shownAll xs = xs.map PyData.shown
  | [] => rfl
  | x :: r => by
    show x.shown :: PyData.shownAll r = _
    rw [shownAll_map r]
    rfl
theorem all_show {c h : Nat} : ∀ xs : List PyData, (∀ x ∈ xs, okD x c h) → PyData.showableAll xs = true ∧ PyData.depthAll xs ≤ h ∧ layDs xs = true
  | [], _ => ⟨rfl, Nat.zero_le _, rfl⟩
  | x :: r, q => by
    obtain ⟨a, b, d⟩ := all_show r fun y hy => q y (List.mem_cons_of_mem _ hy)
    have k := q x (List.mem_cons_self ..)
    refine ⟨?_, ?_, ?_⟩
    · show (x.showable && PyData.showableAll r) = true
      rw [k.sh, a]; rfl
    · show max x.depth (PyData.depthAll r) ≤ h
      have := k.dp
      omega
    · show (layD x && layDs r) = true
      rw [k.lay, d]; rfl
theorem all_text {c h : Nat} {xs : List PyData} (q : ∀ x ∈ xs, okD x c h) : ∀ t ∈ PyData.shownAll xs, okS t c := fun t ht => by
  rw [shownAll_map] at ht
  obtain ⟨x, hx, rfl⟩ := List.mem_map.mp ht
  exact (q x hx).s
theorem shown_len (xs : List PyData) : (PyData.shownAll xs).length = xs.length := by rw [shownAll_map, List.length_map]
theorem okD_list {c h m : Nat} {xs : List PyData} (q : ∀ x ∈ xs, okD x c h) (l : xs.length ≤ m) : okD (.list xs) (2 + m * (c + 2)) (h + 1) := by
  obtain ⟨a, b, d⟩ := all_show xs q
  refine ⟨a, ?_, Nat.succ_le_succ b, d⟩
  show okS (listText (PyData.shownAll xs)) _
  refine okS_mono (okS_app (okS_from (PyData.shownAll xs) 0 _ 1 (okS_lit (by decide +kernel) (by decide +kernel)) (all_text q)) (okS_lit (c := 1) (by decide +kernel) (by decide +kernel))) ?_
  rw [shown_len]
  have := Nat.mul_le_mul_right (c + 2) l
  omega
theorem okD_tup {c h m : Nat} {xs : List PyData} (q : ∀ x ∈ xs, okD x c h) (l : xs.length ≤ m) : okD (.tuple xs) (3 + m * (c + 2)) (h + 1) := by
  obtain ⟨a, b, d⟩ := all_show xs q
  refine ⟨a, ?_, Nat.succ_le_succ b, d⟩
  show okS (tupleText (PyData.shownAll xs)) _
  have e : okS ((if (PyData.shownAll xs).length == 1 then ",)" else ")" : String) : Str) 2 := by
    cases ((PyData.shownAll xs).length == 1)
    · exact okS_lit (by decide +kernel) (by decide +kernel)
    · exact okS_lit (by decide +kernel) (by decide +kernel)
  refine okS_mono (okS_app (okS_app (okS_lit (c := 1) (by decide +kernel) (by decide +kernel)) (okS_join (PyData.shownAll xs) (all_text q))) e) ?_
  rw [shown_len]
  have := Nat.mul_le_mul_right (c + 2) l
  omega
theorem okD_int {x : Int} (h0 : 0 ≤ x) (h9 : x ≤ 9) : okD (.int x) 3 0 := by
  have : x = 0 ∨ x = 1 ∨ x = 2 ∨ x = 3 ∨ x = 4 ∨ x = 5 ∨ x = 6 ∨ x = 7 ∨ x = 8 ∨ x = 9 := by omega
  rcases this with rfl | rfl | rfl | rfl | rfl | rfl | rfl | rfl | rfl | rfl <;> exact ⟨by decide +kernel, okS_lit (by decide +kernel) (by decide +kernel), Nat.le_refl _, rfl⟩
theorem okD_bool (b : Bool) : okD (.bool b) 5 0 := by
  cases b <;> exact ⟨rfl, okS_lit (by decide +kernel) (by decide +kernel), Nat.le_refl _, rfl⟩
theorem okD_tI {r : List Int} {m : Nat} (l : r.length ≤ m) (h : ∀ x ∈ r, 0 ≤ x ∧ x ≤ 9) : okD (tI r) (3 + m * 5) 1 :=
  okD_tup (c := 3) (h := 0) (fun d hd => by
    obtain ⟨x, hx, rfl⟩ := List.mem_map.mp hd
    exact okD_int (h x hx).1 (h x hx).2) (by rw [List.length_map]; exact l)
theorem okD_mono {d : PyData} {c c' h h' : Nat} (k : okD d c h) (l : c ≤ c') (l2 : h ≤ h') : okD d c' h' := ⟨k.sh, okS_mono k.s l, Nat.le_trans k.dp l2, k.lay⟩
theorem rep_ok {d : PyData} {c h : Nat} {S : Sto} (k : okD d c h) (l : c < 1000000) (l2 : h ≤ 60) : repF [.p d] S = .ok (.p (.str d.shown)) S := by
  show (if d.showable = true ∧ d.shown.length ≤ sizeLine ∧ d.depth ≤ 60 ∧ layD d = true then (Ot.ok (.p (.str d.shown)) S : Ot D) else .bad) = _
  rw [if_pos ⟨k.sh, Nat.le_trans k.s.1 (Nat.le_of_lt (Nat.lt_trans l (by decide))), Nat.le_trans k.dp l2, k.lay⟩]
theorem eq_str (neg : Bool) {d : PyData} {c h : Nat} {S : Sto} (k : okD d c h) : eqD neg (.p (.str d.shown)) (.p (.str d.shown)) S = .ok (.p (.bool (!neg))) S := by
  have sp : SeqAt.shaped (.str d.shown) = true := by
    unfold SeqAt.shaped
    rw [show (PyData.str d.shown).canLay0 = PyData.strOk d.shown from rfl, k.s.2]
    rfl
  have ev : PyData.eqv (.str d.shown) (.str d.shown) = true := by
    show (d.shown == d.shown) = true
    exact beq_self_eq_true _
  simp only [eqD, sp, ev, and_self, if_true]
  cases neg <;> rfl
theorem lst2 {m1 m2 : EM} {env : Envr} {S S1 S2 : Sto} {x y : PyData} (h1 : m1 env S = .ok (.p x) S1) (h2 : m2 env S1 = .ok (.p y) S2) : eLst (aCons m1 (aCons m2 aNil)) env S = .ok (.p (.list [x, y])) S2 := by
  unfold eLst aCons aNil
  simp only [h1, h2, Ot.bind, aCons, aNil]
  rfl
theorem lst3 {m1 m2 m3 : EM} {env : Envr} {S S1 S2 S3 : Sto} {x y z : PyData} (h1 : m1 env S = .ok (.p x) S1) (h2 : m2 env S1 = .ok (.p y) S2) (h3 : m3 env S2 = .ok (.p z) S3) : eLst (aCons m1 (aCons m2 (aCons m3 aNil))) env S = .ok (.p (.list [x, y, z])) S3 := by
  unfold eLst aCons aNil
  simp only [h1, h2, h3, Ot.bind, aCons, aNil]
  rfl
theorem rep2 {x : PyData} {S : Sto} : repD (.p (.list [x])) (pI 2) S = .ok (.p (.list [x, x])) S := by
  show (if (0 : Int) ≤ 2 ∧ (2 : Int) < 2 ^ 63 ∧ [x].length * (2 : Int).toNat ≤ sizeLine then (Ot.ok (.p (.list (repP (2 : Int).toNat [x]))) S : Ot D) else .bad) = _
  rw [if_pos ⟨by decide, by decide, by show 1 * 2 ≤ sizeLine; decide⟩]
  rfl
theorem okD_mach {tab : List (List Int)} {sh : List Int} {n l : Nat} (M : IsM n l tab sh) (hn8 : n ≤ 8) (l4 : l ≤ 4) : okD (mach tab sh) 1000 3 := by
  have a : okD (.tuple (tab.map tI)) 203 2 := okD_tup (c := 23) (h := 1) (m := 8) (fun d hd => by
    obtain ⟨r, hr, rfl⟩ := List.mem_map.mp hd
    exact okD_tI (m := 4) (by rw [(M.row r hr).1]; exact l4) fun x hx => by have := (M.row r hr).2 x hx; omega) (by rw [List.length_map, M.len]; exact hn8)
  have b : okD (tI sh) 203 2 := okD_mono (okD_tI (m := 8) (by rw [M.shl]; exact hn8) M.shd) (by omega) (by omega)
  exact okD_mono (okD_tup (m := 2) (c := 203) (h := 2) (xs := [.tuple (tab.map tI), tI sh]) (fun d hd => by
    rcases List.mem_cons.mp hd with rfl | hd
    · exact a
    · rw [List.mem_singleton.mp hd]; exact b) (by show 2 ≤ 2; omega)) (by omega) (by omega)
theorem bof_ok {m : EM} {env : Envr} {S : Sto} {b : Bool} (h : m env S = .ok (.p (.bool b)) S) : bOf m env S = .ok b S := by
  show (m env S).bind toB = _
  rw [h]
  rfl
theorem not_ok {t : BM} {env : Envr} {S : Sto} (h : t env S = .ok true S) : bNot t env S = .ok false S := by
  unfold bNot
  rw [h]
  rfl
end Lw

/-! R1 -/
set_option Elab.async false
set_option linter.all false
set_option maxRecDepth 100000
set_option maxHeartbeats 4000000
set_option autoImplicit false
namespace Lw
open PySem PySem.Spec PyProof.Rows L2 Mi
/-! ### what leaves a def -/
theorem fnM_err {b : Bool} {n all : Nat} {m : SM} {ds : List D} {S S1 : Sto} {e : Er} {env1 : Envr} (hl : ds.length = n) (h : m (ds.map some ++ List.replicate (all - n) none) S = .err e env1 S1) : fnM b n all m ds S = .err e (S1.take S.length) := by
  unfold fnM arity
  rw [if_pos hl]
  show (match m (ds.map some ++ List.replicate (all - n) none) S with | .nx env S1 => fin b S.length (.p .none) S1 | .rt d S1 => fin b S.length d S1 | .err e env S1 => .err e (S1.take S.length) | _ => .bad) = _
  rw [h]
theorem sSeq_err {a b : SM} {env e1 : Envr} {S S1 : Sto} {e : Er} (h : a env S = .err e e1 S1) : sSeq a b env S = .err e e1 S1 := by
  unfold sSeq
  rw [h]
theorem expr_err {m : EM} {env : Envr} {S S1 : Sto} {e : Er} (h : m env S = .err e S1) : sExpr m env S = .err e env S1 := by
  unfold sExpr
  rw [h]
  rfl
theorem expr_ok {m : EM} {env : Envr} {S S1 : Sto} {d : D} (h : m env S = .ok d S1) : sExpr m env S = .nx env S1 := by
  unfold sExpr
  rw [h]
  rfl
theorem ret_err {m : EM} {env : Envr} {S S1 : Sto} {e : Er} (h : m env S = .err e S1) : sRet m env S = .err e env S1 := by
  unfold sRet
  rw [h]
  rfl
theorem raise_ok {x f : Str} {m : EM} {env : Envr} {S S1 : Sto} {d : PyData} (h : m env S = .ok (.p d) S1) : sRaise x f (aCons m aNil) env S = .err ⟨x, [(f, d)]⟩ env S1 := by
  unfold sRaise aCons aNil
  rw [h]
  rfl
theorem call1_err {f : FM} {m : EM} {env : Envr} {S S1 : Sto} {d : D} {e : Er} {S2 : Sto} (h : m env S = .ok d S1) (hf : f [d] S1 = .err e S2) : eCall f (aCons m aNil) env S = .err e S2 := call1 h hf
theorem lst1_err {m : EM} {env : Envr} {S S1 : Sto} {e : Er} (h : m env S = .err e S1) : eLst (aCons m aNil) env S = .err e S1 := by
  unfold eLst aCons
  rw [h]
  rfl
/-! ### is_number_below, is_tuple_of, of any value -/
def bel : PyData → Int → Bool
  | .int v, n => decide (0 ≤ v ∧ v < n)
  | _, _ => false
theorem isi_any (b : Ty0) (d : PyData) (S : Sto) : isiF b (.p d) S = .ok (.p (.bool (isiB (tyP d) b))) S := rfl
theorem below_false {d : PyData} {n : Int} {S : Sto} (h : isiB (tyP d) .int = false) : m_is_number_below [.p d, pI n] S = .ok (.p (.bool false)) S := by
  have body : b_is_number_below [some (.p d), some (pI n)] S = .rt (.p (.bool false)) S := by
    unfold b_is_number_below
    simp only [List.length_cons, List.length_nil, List.map_cons, List.map_nil, List.replicate, List.cons_append, List.nil_append, List.getElem?_cons_zero, List.getElem?_cons_succ, List.set_cons_zero, List.set_cons_succ, sSeq, sIf, sAsg, sRet, sPar, sDput, sNx, sExpr, eOp, eUn, eVar, eC, eCall, eTup, eLst, eIf, aCons, aNil, bOf, bNot, bAnd, bOr, eB, eAnd, eOr, gN, Ot.bind, Ot.then, cmpI, toB, modD, divD, mulD, subD, int2, addD, intF, lenF, max2F, min2F, decide_true, decide_false, if_true, if_false, Bool.false_eq_true, ite_true, ite_false, Bool.not_true, Bool.not_false, decide_eq_true_eq, Nat.reduceSub, Nat.reduceAdd, Nat.reduceEqDiff, fin, take_len, plains, mkTup, mkLst, reduceCtorEq, and_self, and_true, true_and, Bool.or_true, Bool.true_or, eIsi, eChain, isi_any, h]
  exact (fnM_rt (b := false) (n := 2) (all := 2) (m := b_is_number_below) (ds := [.p d, pI n]) rfl body).trans (by unfold fin; rw [take_len])
theorem ty_dict : ∀ (kvs : List (PyData × PyData)) (b : Ty0), b = .int ∨ b = .bl → isiB (tyP (.dict kvs)) b = false
  | [], _, h => by rcases h with rfl | rfl <;> rfl
  | (.none, y) :: r, _, h => by rcases h with rfl | rfl <;> rfl
  | (.bool _, y) :: r, _, h => by rcases h with rfl | rfl <;> rfl
  | (.int _, y) :: r, _, h => by rcases h with rfl | rfl <;> rfl
  | (.str _, y) :: r, _, h => by rcases h with rfl | rfl <;> rfl
  | (.list _, y) :: r, _, h => by rcases h with rfl | rfl <;> rfl
  | (.tuple _, y) :: r, _, h => by rcases h with rfl | rfl <;> rfl
  | (.dict _, y) :: r, _, h => by rcases h with rfl | rfl <;> rfl
theorem below_any (d : PyData) (n : Int) (S : Sto) : m_is_number_below [.p d, pI n] S = .ok (.p (.bool (bel d n))) S := by
  cases d with
  | none => exact below_false rfl
  | str x => exact below_false rfl
  | list l => exact below_false rfl
  | tuple l => exact below_false rfl
  | dict kvs => exact below_false (ty_dict kvs _ (.inl rfl))
  | int v =>
    by_cases h : 0 ≤ v ∧ v < n
    · rw [show bel (.int v) n = true from decide_eq_true h]
      exact below_ok h.1 h.2
    · rw [show bel (.int v) n = false from decide_eq_false h]
      exact below_no h
  | bool b =>
    have body : b_is_number_below [some (.p (.bool b)), some (pI n)] S = .rt (.p (.bool false)) S := by
      have h1 : isiB (tyP (.bool b)) .int = true := rfl
      have h2 : isiB (tyP (.bool b)) .bl = true := rfl
      unfold b_is_number_below
      simp only [List.length_cons, List.length_nil, List.map_cons, List.map_nil, List.replicate, List.cons_append, List.nil_append, List.getElem?_cons_zero, List.getElem?_cons_succ, List.set_cons_zero, List.set_cons_succ, sSeq, sIf, sAsg, sRet, sPar, sDput, sNx, sExpr, eOp, eUn, eVar, eC, eCall, eTup, eLst, eIf, aCons, aNil, bOf, bNot, bAnd, bOr, eB, eAnd, eOr, gN, Ot.bind, Ot.then, cmpI, toB, modD, divD, mulD, subD, int2, addD, intF, lenF, max2F, min2F, decide_true, decide_false, if_true, if_false, Bool.false_eq_true, ite_true, ite_false, Bool.not_true, Bool.not_false, decide_eq_true_eq, Nat.reduceSub, Nat.reduceAdd, Nat.reduceEqDiff, fin, take_len, plains, mkTup, mkLst, reduceCtorEq, and_self, and_true, true_and, Bool.or_true, Bool.true_or, eIsi, eChain, isi_any, h1, h2]
    exact (fnM_rt (b := false) (n := 2) (all := 2) (m := b_is_number_below) (ds := [.p (.bool b), pI n]) rfl body).trans (by unfold fin; rw [take_len]; rfl)
/-- a tuple of a to b things, of what is no pair made in passing -/
def tup_ : PyData → Int → Int → Bool
  | .tuple l, a, b => decide (a ≤ (l.length : Int) ∧ (l.length : Int) ≤ b)
  | _, _, _ => false
theorem tuple_false {d : PyData} {a b : Int} {S : Sto} (h : isiB (tyP d) .tup = false) : m_is_tuple_of [.p d, pI a, pI b] S = .ok (.p (.bool false)) S := by
  have body : b_is_tuple_of [some (.p d), some (pI a), some (pI b)] S = .rt (.p (.bool false)) S := by
    unfold b_is_tuple_of
    simp only [List.length_cons, List.length_nil, List.map_cons, List.map_nil, List.replicate, List.cons_append, List.nil_append, List.getElem?_cons_zero, List.getElem?_cons_succ, List.set_cons_zero, List.set_cons_succ, sSeq, sIf, sAsg, sRet, sPar, sDput, sNx, sExpr, eOp, eUn, eVar, eC, eCall, eTup, eLst, eIf, aCons, aNil, bOf, bNot, bAnd, bOr, eB, eAnd, eOr, gN, Ot.bind, Ot.then, cmpI, toB, modD, divD, mulD, subD, int2, addD, intF, lenF, max2F, min2F, decide_true, decide_false, if_true, if_false, Bool.false_eq_true, ite_true, ite_false, Bool.not_true, Bool.not_false, decide_eq_true_eq, Nat.reduceSub, Nat.reduceAdd, Nat.reduceEqDiff, fin, take_len, plains, mkTup, mkLst, reduceCtorEq, and_self, and_true, true_and, Bool.or_true, Bool.true_or, eIsi, eChain, isi_any, h]
  exact (fnM_rt (b := false) (n := 3) (all := 3) (m := b_is_tuple_of) (ds := [.p d, pI a, pI b]) rfl body).trans (by unfold fin; rw [take_len])
theorem tuple_any {d : PyData} {a b : Int} {S : Sto} (hd : ∀ kvs, d = .dict kvs → isiB (tyP d) .tup = false) : m_is_tuple_of [.p d, pI a, pI b] S = .ok (.p (.bool (tup_ d a b))) S := by
  cases d with
  | none => exact tuple_false rfl
  | str x => exact tuple_false rfl
  | list l => exact tuple_false rfl
  | int l => exact tuple_false rfl
  | bool l => exact tuple_false rfl
  | dict kvs => exact tuple_false (hd kvs rfl)
  | tuple l =>
    by_cases h0 : a ≤ (l.length : Int)
    · by_cases h1 : (l.length : Int) ≤ b
      · rw [show tup_ (.tuple l) a b = true from decide_eq_true ⟨h0, h1⟩]
        exact tuple_ok h0 h1
      · rw [show tup_ (.tuple l) a b = false from decide_eq_false fun q => h1 q.2]
        have body : b_is_tuple_of [some (.p (.tuple l)), some (pI a), some (pI b)] S = .rt (.p (.bool false)) S := by
          unfold b_is_tuple_of
          simp only [List.length_cons, List.length_nil, List.map_cons, List.map_nil, List.replicate, List.cons_append, List.nil_append, List.getElem?_cons_zero, List.getElem?_cons_succ, List.set_cons_zero, List.set_cons_succ, sSeq, sIf, sAsg, sRet, sPar, sDput, sNx, sExpr, eOp, eUn, eVar, eC, eCall, eTup, eLst, eIf, aCons, aNil, bOf, bNot, bAnd, bOr, eB, eAnd, eOr, gN, Ot.bind, Ot.then, cmpI, toB, modD, divD, mulD, subD, int2, addD, intF, lenF, max2F, min2F, decide_true, decide_false, if_true, if_false, Bool.false_eq_true, ite_true, ite_false, Bool.not_true, Bool.not_false, decide_eq_true_eq, Nat.reduceSub, Nat.reduceAdd, Nat.reduceEqDiff, fin, take_len, plains, mkTup, mkLst, reduceCtorEq, and_self, and_true, true_and, Bool.or_true, Bool.true_or, eIsi, eChain, isi_tt, h0, h1]
        exact (fnM_rt (b := false) (n := 3) (all := 3) (m := b_is_tuple_of) (ds := [.p (.tuple l), pI a, pI b]) rfl body).trans (by unfold fin; rw [take_len])
    · rw [show tup_ (.tuple l) a b = false from decide_eq_false fun q => h0 q.1]
      have body : b_is_tuple_of [some (.p (.tuple l)), some (pI a), some (pI b)] S = .rt (.p (.bool false)) S := by
        unfold b_is_tuple_of
        simp only [List.length_cons, List.length_nil, List.map_cons, List.map_nil, List.replicate, List.cons_append, List.nil_append, List.getElem?_cons_zero, List.getElem?_cons_succ, List.set_cons_zero, List.set_cons_succ, sSeq, sIf, sAsg, sRet, sPar, sDput, sNx, sExpr, eOp, eUn, eVar, eC, eCall, eTup, eLst, eIf, aCons, aNil, bOf, bNot, bAnd, bOr, eB, eAnd, eOr, gN, Ot.bind, Ot.then, cmpI, toB, modD, divD, mulD, subD, int2, addD, intF, lenF, max2F, min2F, decide_true, decide_false, if_true, if_false, Bool.false_eq_true, ite_true, ite_false, Bool.not_true, Bool.not_false, decide_eq_true_eq, Nat.reduceSub, Nat.reduceAdd, Nat.reduceEqDiff, fin, take_len, plains, mkTup, mkLst, reduceCtorEq, and_self, and_true, true_and, Bool.or_true, Bool.true_or, eIsi, eChain, isi_tt, h0]
      exact (fnM_rt (b := false) (n := 3) (all := 3) (m := b_is_tuple_of) (ds := [.p (.tuple l), pI a, pI b]) rfl body).trans (by unfold fin; rw [take_len])
/-! ### the needs -/
theorem len_tab {tab : List (List Int)} {sh : List Int} {n l : Nat} {env : Envr} {S : Sto} (M : IsM n l tab sh) (h : env[0]? = some (some (.p (mach tab sh)))) : eCall lenF (aCons (eOp ixD (eVar 0) (eC (.int 0))) aNil) env S = .ok (pI n) S := by
  have e0 : eVar 0 env S = .ok (.p (mach tab sh)) S := by
    unfold eVar
    rw [h]
  refine call1 (d := .p (.tuple (tab.map tI))) (op2 (d := .p (mach tab sh)) (d2 := pI 0) (S1 := S) (S2 := S) e0 rfl rfl) ?_
  show (Ot.ok (.p (.int ((tab.map tI).length : Nat))) S : Ot D) = _
  rw [List.length_map, M.len]
theorem stand_ok {tab : List (List Int)} {sh : List Int} {n l : Nat} {d : PyData} {S : Sto} (M : IsM n l tab sh) (h : bel d n = true) : m_need_standing [.p (mach tab sh), .p d] S = .ok (.p .none) S := by
  have t := below_any d (n : Int) S
  rw [h] at t
  have body : b_need_standing [some (.p (mach tab sh)), some (.p d)] S = .nx [some (.p (mach tab sh)), some (.p d)] S := if_no (not_ok (bof_ok (call2 (d := .p d) (S1 := S) rfl (len_tab M rfl) t)))
  exact (fnM_nx (b := false) (n := 2) (all := 2) (m := b_need_standing) (ds := [.p (mach tab sh), .p d]) rfl body).trans (by unfold fin; rw [take_len])
theorem not_no {t : BM} {env : Envr} {S : Sto} (h : t env S = .ok false S) : bNot t env S = .ok true S := by
  unfold bNot
  rw [h]
  rfl
theorem stand_no {tab : List (List Int)} {sh : List Int} {n l : Nat} {d : PyData} {S : Sto} (M : IsM n l tab sh) (h : bel d n = false) : m_need_standing [.p (mach tab sh), .p d] S = .err ⟨"BadStanding", [("value", d)]⟩ S := by
  have t := below_any d (n : Int) S
  rw [h] at t
  have body : b_need_standing [some (.p (mach tab sh)), some (.p d)] S = .err ⟨"BadStanding", [("value", d)]⟩ [some (.p (mach tab sh)), some (.p d)] S := (if_rt (not_no (bof_ok (call2 (d := .p d) (S1 := S) rfl (len_tab M rfl) t)))).trans (raise_ok rfl)
  exact (fnM_err (b := false) (n := 2) (all := 2) (m := b_need_standing) (ds := [.p (mach tab sh), .p d]) rfl body).trans (by rw [take_len])
theorem mach_no {S : Sto} : m_need_machine [.p (.tuple [])] S = .err ⟨"BadMachine", [("place", .tuple [])]⟩ S := by
  have t : m_is_tuple_of [.p (.tuple []), pI 2, pI 2] S = .ok (.p (.bool false)) S := tuple_any (d := .tuple []) (fun _ z => nomatch z)
  have body : b_need_machine [some (.p (.tuple [])), none, none] S = .err ⟨"BadMachine", [("place", .tuple [])]⟩ [some (.p (.tuple [])), none, none] S := sSeq_err ((if_rt (not_no (bof_ok (call3 (d := .p (.tuple [])) (d2 := pI 2) (d3 := pI 2) (S1 := S) (S2 := S) (S3 := S) rfl rfl rfl t)))).trans (raise_ok rfl))
  exact (fnM_err (b := false) (n := 1) (all := 3) (m := b_need_machine) (ds := [.p (.tuple [])]) rfl body).trans (by rw [take_len])
end Lw

/-! R2 -/
set_option Elab.async false
set_option linter.all false
set_option maxRecDepth 100000
set_option maxHeartbeats 4000000
set_option autoImplicit false
namespace Lw
open PySem PySem.Spec PyProof.Rows L2 Mi
theorem len_row {tab : List (List Int)} {sh : List Int} {n l : Nat} {env : Envr} {S : Sto} (M : IsM n l tab sh) (h0 : 0 < n) (h : env[0]? = some (some (.p (mach tab sh)))) : eCall lenF (aCons (eOp ixD (eOp ixD (eVar 0) (eC (.int 0))) (eC (.int 0))) aNil) env S = .ok (pI l) S := by
  have e0 : eVar 0 env S = .ok (.p (mach tab sh)) S := by
    unfold eVar
    rw [h]
  obtain ⟨r0, hr0, at0⟩ := at_mem tI (l := tab) (v := 0) (by omega) (by rw [M.len]; omega)
  have e1 : eOp ixD (eVar 0) (eC (.int 0)) env S = .ok (.p (.tuple (tab.map tI))) S := op2 (d := .p (mach tab sh)) (d2 := pI 0) (S1 := S) (S2 := S) e0 rfl rfl
  have e2 : eOp ixD (eOp ixD (eVar 0) (eC (.int 0))) (eC (.int 0)) env S = .ok (.p (tI r0)) S := op2 (d2 := pI 0) (S2 := S) e1 rfl (by
    show (match atI (tab.map tI) 0 with | some d => (Ot.ok (.p d) S : Ot D) | none => .bad) = _
    rw [at0])
  refine call1 e2 ?_
  show (Ot.ok (.p (.int ((r0.map PyData.int).length : Nat))) S : Ot D) = _
  rw [List.length_map, (M.row r0 hr0).1]
def b_nw : SM := (sIf (bNot (bOf (eCall m_is_number_below (aCons (eVar 3) (aCons (eCall lenF (aCons (eOp ixD (eOp ixD (eVar 0) (eC (.int 0))) (eC (.int 0))) aNil)) aNil))))) (sRaise "BadWord" "place" (aCons (eVar 2) aNil)) sNx)
theorem numD_cons {k : Nat} {x : PyData} {r : List PyData} : numD k (x :: r) = D.p (.dict [(.none, .none), (.int (k : Int), x)]) :: numD (k + 1) r := rfl
section
variable {tab : List (List Int)} {sh : List Int} {n l : Nat} {S : Sto}
theorem nw_step (M : IsM n l tab sh) (h0 : 0 < n) {o1 : Option D} {k : Nat} {x : PyData} (h : bel x l = true) : b_nw [some (.p (mach tab sh)), o1, some (pI k), some (.p x)] S = .nx [some (.p (mach tab sh)), o1, some (pI k), some (.p x)] S := by
  have t := below_any x (l : Int) S
  rw [h] at t
  exact if_no (not_ok (bof_ok (call2 (d := .p x) (S1 := S) rfl (len_row M h0 rfl) t)))
theorem nw_no (M : IsM n l tab sh) (h0 : 0 < n) {o1 : Option D} {k : Nat} {x : PyData} (h : bel x l = false) : b_nw [some (.p (mach tab sh)), o1, some (pI k), some (.p x)] S = .err ⟨"BadWord", [("place", .int k)]⟩ [some (.p (mach tab sh)), o1, some (pI k), some (.p x)] S := by
  have t := below_any x (l : Int) S
  rw [h] at t
  exact (if_rt (not_no (bof_ok (call2 (d := .p x) (S1 := S) rfl (len_row M h0 rfl) t)))).trans (raise_ok rfl)
theorem nw_un {o1 o2 o3 : Option D} {k : Nat} {x : PyData} {r : List PyData} : loop yes (gT [gN 2, gN 3]) b_nw (numD k (x :: r)) [some (.p (mach tab sh)), o1, o2, o3] S =
    (match b_nw [some (.p (mach tab sh)), o1, some (pI k), some (.p x)] S with | .nx e2 S2 => loop yes (gT [gN 2, gN 3]) b_nw (numD (k + 1) r) e2 S2 | .ct e2 S2 => loop yes (gT [gN 2, gN 3]) b_nw (numD (k + 1) r) e2 S2 | .bk e2 S2 => .nx e2 S2 | o => o) := by
  rw [numD_cons]
  conv => lhs; unfold loop
  rw [if_pos (yes_is S)]
  show (match b_nw [some (.p (mach tab sh)), o1, some (pI k), some (.p x)] S with | .nx e2 S2 => loop yes (gT [gN 2, gN 3]) b_nw (numD (k + 1) r) e2 S2 | .ct e2 S2 => loop yes (gT [gN 2, gN 3]) b_nw (numD (k + 1) r) e2 S2 | .bk e2 S2 => .nx e2 S2 | o => o) = _
  rfl
theorem nw_loop (M : IsM n l tab sh) (h0 : 0 < n) {o1 : Option D} : ∀ (g : List PyData) (k : Nat) (o2 o3 : Option D) (r : List PyData), (∀ x ∈ g, bel x l = true) →
    ∃ o2' o3', loop yes (gT [gN 2, gN 3]) b_nw (numD k (g ++ r)) [some (.p (mach tab sh)), o1, o2, o3] S = loop yes (gT [gN 2, gN 3]) b_nw (numD (k + g.length) r) [some (.p (mach tab sh)), o1, o2', o3'] S
  | [], k, o2, o3, r, _ => ⟨o2, o3, rfl⟩
  | x :: g, k, o2, o3, r, h => by
    obtain ⟨p2, p3, q⟩ := nw_loop M h0 (o1 := o1) g (k + 1) (some (pI k)) (some (.p x)) r fun y hy => h y (List.mem_cons_of_mem _ hy)
    refine ⟨p2, p3, ?_⟩
    rw [List.cons_append, nw_un, nw_step M h0 (h x (List.mem_cons_self ..))]
    rw [show k + (x :: g).length = k + 1 + g.length by rw [List.length_cons]; omega]
    exact q
theorem word_ok {ws : List PyData} (M : IsM n l tab sh) (h0 : 0 < n) (hl : ws.length ≤ 400) (h : ∀ x ∈ ws, bel x l = true) : m_need_word [.p (mach tab sh), .p (.tuple ws)] S = .ok (.p .none) S := by
  have t1 := tuple_ok (l := ws) (a := 0) (b := 400) (S := S) (by omega) (by omega)
  obtain ⟨o2, o3, q⟩ := nw_loop (S := S) M h0 (o1 := some (.p (.tuple ws))) ws 0 none none [] h
  have body : b_need_word [some (.p (mach tab sh)), some (.p (.tuple ws)), none, none] S = .nx [some (.p (mach tab sh)), some (.p (.tuple ws)), o2, o3] S := by
    refine (sSeq_nx (if_no (not_ok (bof_ok (call3 (d := .p (.tuple ws)) (d2 := pI 0) (d3 := pI 400) (S1 := S) (S2 := S) (S3 := S) rfl rfl rfl t1))))).trans ((sFor_T (l := ws) (S' := S) rfl).trans ?_)
    rw [List.append_nil] at q
    exact q
  exact (fnM_nx (b := false) (n := 2) (all := 4) (m := b_need_word) (ds := [.p (mach tab sh), .p (.tuple ws)]) rfl body).trans (by unfold fin; rw [take_len])
theorem word_bad {g r : List PyData} {x : PyData} (M : IsM n l tab sh) (h0 : 0 < n) (hl : (g ++ x :: r).length ≤ 400) (h : ∀ y ∈ g, bel y l = true) (hx : bel x l = false) : m_need_word [.p (mach tab sh), .p (.tuple (g ++ x :: r))] S = .err ⟨"BadWord", [("place", .int g.length)]⟩ S := by
  have t1 := tuple_ok (l := g ++ x :: r) (a := 0) (b := 400) (S := S) (by omega) (by omega)
  obtain ⟨o2, o3, q⟩ := nw_loop (S := S) M h0 (o1 := some (.p (.tuple (g ++ x :: r)))) g 0 none none (x :: r) h
  have body : b_need_word [some (.p (mach tab sh)), some (.p (.tuple (g ++ x :: r))), none, none] S = .err ⟨"BadWord", [("place", .int g.length)]⟩ [some (.p (mach tab sh)), some (.p (.tuple (g ++ x :: r))), some (pI g.length), some (.p x)] S := by
    refine (sSeq_nx (if_no (not_ok (bof_ok (call3 (d := .p (.tuple (g ++ x :: r))) (d2 := pI 0) (d3 := pI 400) (S1 := S) (S2 := S) (S3 := S) rfl rfl rfl t1))))).trans ((sFor_T (l := g ++ x :: r) (S' := S) rfl).trans (q.trans ?_))
    rw [Nat.zero_add, nw_un, nw_no M h0 hx]
  exact (fnM_err (b := false) (n := 2) (all := 4) (m := b_need_word) (ds := [.p (mach tab sh), .p (.tuple (g ++ x :: r))]) rfl body).trans (by rw [take_len])
theorem word_none {d : PyData} (h : tup_ d 0 400 = false) (hd : ∀ kvs, d = .dict kvs → isiB (tyP d) .tup = false) : m_need_word [.p (mach tab sh), .p d] S = .err ⟨"BadWord", [("place", .none)]⟩ S := by
  have t := tuple_any (S := S) (a := 0) (b := 400) hd
  rw [h] at t
  have body : b_need_word [some (.p (mach tab sh)), some (.p d), none, none] S = .err ⟨"BadWord", [("place", .none)]⟩ [some (.p (mach tab sh)), some (.p d), none, none] S :=
    sSeq_err ((if_rt (not_no (bof_ok (call3 (d := .p d) (d2 := pI 0) (d3 := pI 400) (S1 := S) (S2 := S) (S3 := S) rfl rfl rfl t)))).trans (raise_ok rfl))
  exact (fnM_err (b := false) (n := 2) (all := 4) (m := b_need_word) (ds := [.p (mach tab sh), .p d]) rfl body).trans (by rw [take_len])
end
end Lw

/-! R3 -/
set_option Elab.async false
set_option linter.all false
set_option maxRecDepth 100000
set_option maxHeartbeats 4000000
set_option autoImplicit false
namespace Lw
open PySem PySem.Spec PyProof.Rows L2 Mi
/-! ### the going -/
def lk (tab : List (List Int)) (b x : Int) : Int := (tab.getD b.toNat []).getD x.toNat 0
def lastI (xs : List Int) : Int := xs.getLastD 0
def goS (tab : List (List Int)) (xs : List Int) (x : Int) : List Int := xs ++ [lk tab (lastI xs) x]
theorem at_last {α : Type} (ys : List α) (y : α) : atI (ys ++ [y]) (-1) = some y := by
  unfold atI ixN
  have e : (ys ++ [y]).length = ys.length + 1 := by simp
  rw [if_neg (by omega), if_pos (by rw [e]; omega), e]
  have z : ((-1 : Int) + ((ys.length + 1 : Nat) : Int)).toNat = ys.length := by omega
  show (ys ++ [y])[((-1 : Int) + ((ys.length + 1 : Nat) : Int)).toNat]? = some y
  rw [z]
  simp
theorem snoc_of {xs : List Int} (h : xs ≠ []) : ∃ ys, xs = ys ++ [lastI xs] := by
  refine ⟨xs.dropLast, ?_⟩
  have e : lastI xs = xs.getLast h := by
    unfold lastI
    rw [List.getLastD_eq_getLast?, List.getLast?_eq_some_getLast h]
    rfl
  rw [e, List.dropLast_concat_getLast h]
theorem last_mem {xs : List Int} (h : xs ≠ []) : lastI xs ∈ xs := by
  obtain ⟨ys, e⟩ := snoc_of h
  rw [e]
  have : lastI (ys ++ [lastI xs]) = lastI xs := by simp [lastI]
  rw [this]
  simp
theorem at_map_last {xs : List Int} {β : Type} (f : Int → β) (h : xs ≠ []) : atI (xs.map f) (-1) = some (f (lastI xs)) := by
  obtain ⟨ys, e⟩ := snoc_of h
  have e2 : xs.map f = ys.map f ++ [f (lastI xs)] := by
    conv => lhs; rw [e]
    rw [List.map_append]
    rfl
  rw [e2, at_last]
section
variable {tab : List (List Int)} {sh : List Int} {n l : Nat}
theorem lk_at (M : IsM n l tab sh) {b x : Int} (b0 : 0 ≤ b) (b1 : b < n) (x0 : 0 ≤ x) (x1 : x < l) : ∃ r, r ∈ tab ∧ atI (tab.map tI) b = some (tI r) ∧ atI (r.map PyData.int) x = some (.int (lk tab b x)) ∧ 0 ≤ lk tab b x ∧ lk tab b x < n := by
  have hb : b.toNat < tab.length := by rw [M.len]; omega
  have gr : tab[b.toNat]? = some tab[b.toNat] := List.getElem?_eq_getElem hb
  have mr : tab[b.toNat] ∈ tab := List.getElem_mem hb
  obtain ⟨lr, hr⟩ := M.row _ mr
  have hx : x.toNat < tab[b.toNat].length := by rw [lr]; omega
  have gx : (tab[b.toNat])[x.toNat]? = some (tab[b.toNat])[x.toNat] := List.getElem?_eq_getElem hx
  have el : lk tab b x = (tab[b.toNat])[x.toNat] := by
    unfold lk
    rw [List.getD_eq_getElem?_getD, List.getD_eq_getElem?_getD, gr]
    show ((tab[b.toNat])[x.toNat]?).getD 0 = _
    rw [gx]
    rfl
  refine ⟨tab[b.toNat], mr, ?_, ?_, ?_⟩
  · unfold atI ixN
    rw [if_pos b0, List.length_map, if_pos (by rw [M.len]; exact b1)]
    show (tab.map tI)[b.toNat]? = _
    rw [List.getElem?_map, gr]
    rfl
  · unfold atI ixN
    rw [if_pos x0, List.length_map, if_pos (by rw [lr]; exact x1)]
    show ((tab[b.toNat]).map PyData.int)[x.toNat]? = _
    rw [List.getElem?_map, gx, el]
    rfl
  · rw [el]
    exact hr _ (List.getElem_mem hx)
structure Stn (n : Nat) (xs : List Int) : Prop where
  ne : xs ≠ []
  low : ∀ x ∈ xs, 0 ≤ x ∧ x < (n : Int)
theorem goS_ok (M : IsM n l tab sh) {xs : List Int} {x : Int} (h : Stn n xs) (x0 : 0 ≤ x) (x1 : x < l) : Stn n (goS tab xs x) := by
  obtain ⟨b0, b1⟩ := h.low _ (last_mem h.ne)
  obtain ⟨r, _, _, _, q⟩ := lk_at M b0 b1 x0 x1
  refine ⟨by unfold goS; simp, fun y hy => ?_⟩
  rcases List.mem_append.mp hy with hy | hy
  · exact h.low y hy
  · rw [List.mem_singleton.mp hy]; exact q
def b_rg : SM := (sExpr (eApp (eVar 4) (eOp ixD (eOp ixD (eVar 3) (eOp ixD (eVar 4) (eUn negD (eC (.int 1))))) (eVar 5))))
theorem goS_len (xs : List Int) (x : Int) : (goS tab xs x).length = xs.length + 1 := by unfold goS; simp
theorem fold_len : ∀ (w xs : List Int), (w.foldl (goS tab) xs).length = xs.length + w.length
  | [], xs => rfl
  | x :: w, xs => by
    show (w.foldl (goS tab) (goS tab xs x)).length = _
    rw [fold_len w, goS_len, List.length_cons]
    omega
theorem stn_one {b : Int} (b0 : 0 ≤ b) (b1 : b < n) : Stn n [b] := ⟨by simp, fun x hx => by rw [List.mem_singleton.mp hx]; exact ⟨b0, b1⟩⟩
theorem fold_stn (M : IsM n l tab sh) : ∀ (w xs : List Int), Stn n xs → (∀ x ∈ w, 0 ≤ x ∧ x < (l : Int)) → Stn n (w.foldl (goS tab) xs)
  | [], xs, h, _ => h
  | x :: w, xs, h, q => fold_stn M w _ (goS_ok M h (q x (List.mem_cons_self ..)).1 (q x (List.mem_cons_self ..)).2) fun y hy => q y (List.mem_cons_of_mem _ hy)
theorem rg_step (M : IsM n l tab sh) {S : Sto} {o0 o1 o2 : Option D} {xs : List Int} {x : Int} (h : Stn n xs) (x0 : 0 ≤ x) (x1 : x < l) (hl : xs.length < 1000) :
    b_rg [o0, o1, o2, some (.p (.tuple (tab.map tI))), some (.loc S.length), some (pI x)] (S ++ [Cell.lst (xs.map pI)]) = .nx [o0, o1, o2, some (.p (.tuple (tab.map tI))), some (.loc S.length), some (pI x)] (S ++ [Cell.lst ((goS tab xs x).map pI)]) := by
  obtain ⟨b0, b1⟩ := h.low _ (last_mem h.ne)
  obtain ⟨r, _, a1, a2, _⟩ := lk_at M b0 b1 x0 x1
  have hc : (S ++ [Cell.lst (xs.map pI)])[S.length]? = some (.lst (xs.map pI)) := last_get
  have ap := app_of hc (by rw [List.length_map]; omega) (lk tab (lastI xs) x)
  have st : (S ++ [Cell.lst (xs.map pI)]).set S.length (.lst (xs.map pI ++ [pI (lk tab (lastI xs) x)])) = S ++ [Cell.lst ((goS tab xs x).map pI)] := by
    rw [List.set_append_right _ _ (Nat.le_refl _), Nat.sub_self]
    unfold goS
    rw [List.map_append]
    rfl
  rw [st] at ap
  have ce := cell_of hc
  have i1 : eOp ixD (eVar 4) (eUn negD (eC (.int 1))) [o0, o1, o2, some (.p (.tuple (tab.map tI))), some (.loc S.length), some (pI x)] (S ++ [Cell.lst (xs.map pI)]) = .ok (pI (lastI xs)) (S ++ [Cell.lst (xs.map pI)]) := by
    refine op2 (d := .loc S.length) (d2 := pI (-1)) (S1 := S ++ [Cell.lst (xs.map pI)]) (S2 := S ++ [Cell.lst (xs.map pI)]) rfl rfl ?_
    show (match (cellL (S ++ [Cell.lst (xs.map pI)]) S.length).bind (fun xs => atI xs (-1)) with | some d => (Ot.ok d (S ++ [Cell.lst (xs.map pI)]) : Ot D) | none => .bad) = _
    rw [cl_of hc]
    show (match atI (xs.map pI) (-1) with | some d => (Ot.ok d (S ++ [Cell.lst (xs.map pI)]) : Ot D) | none => .bad) = _
    rw [at_map_last pI h.ne]
  have i2 : eOp ixD (eOp ixD (eVar 3) (eOp ixD (eVar 4) (eUn negD (eC (.int 1))))) (eVar 5) [o0, o1, o2, some (.p (.tuple (tab.map tI))), some (.loc S.length), some (pI x)] (S ++ [Cell.lst (xs.map pI)]) = .ok (pI (lk tab (lastI xs) x)) (S ++ [Cell.lst (xs.map pI)]) := by
    refine op2 (op2 (d := .p (.tuple (tab.map tI))) (S1 := S ++ [Cell.lst (xs.map pI)]) rfl i1 (r := .ok (.p (tI r)) (S ++ [Cell.lst (xs.map pI)])) ?_) rfl ?_
    · show (match atI (tab.map tI) (lastI xs) with | some d => (Ot.ok (.p d) (S ++ [Cell.lst (xs.map pI)]) : Ot D) | none => .bad) = _
      rw [a1]
    · show (match atI (r.map PyData.int) x with | some d => (Ot.ok (.p d) (S ++ [Cell.lst (xs.map pI)]) : Ot D) | none => .bad) = _
      rw [a2]
  show sExpr (eApp (eVar 4) _) _ _ = _
  unfold sExpr eApp
  show ((Ot.ok (D.loc S.length) (S ++ [Cell.lst (xs.map pI)]) : Ot D).bind fun d S1 => if isCell d S1 = true then (eOp ixD (eOp ixD (eVar 3) (eOp ixD (eVar 4) (eUn negD (eC (.int 1))))) (eVar 5) _ S1).bind fun y S2 => apF d y S2 else .bad).then _ _ = _
  simp only [Ot.bind, ce, if_true]
  rw [i2]
  simp only [Ot.bind, ap, Ot.then]
end
end Lw

/-! R4 -/
set_option Elab.async false
set_option linter.all false
set_option maxRecDepth 100000
set_option maxHeartbeats 4000000
set_option autoImplicit false
namespace Lw
open PySem PySem.Spec PyProof.Rows L2 Mi
/-! ### run, and the law's own going -/
section
variable {tab : List (List Int)} {sh : List Int} {n l : Nat} {S : Sto}
def gone (tab : List (List Int)) (b : Int) (w : List Int) : List Int := w.foldl (goS tab) [b]
theorem bel_in {d : Int} {n : Nat} (h0 : 0 ≤ d) (h1 : d < n) : bel (.int d) n = true := decide_eq_true ⟨h0, h1⟩
theorem run_ok (M : IsM n l tab sh) (h0 : 0 < n) (hn8 : n ≤ 8) (l0 : 0 < l) (l4 : l ≤ 4) {b : Int} {w : List Int} (b0 : 0 ≤ b) (b1 : b < n) (hl : w.length ≤ 400) (hw : ∀ x ∈ w, 0 ≤ x ∧ x < (l : Int)) :
    m_run [.p (mach tab sh), pI b, .p (tI w)] S = .ok (.p (tI (gone tab b w))) S := by
  have t1 := machine_ok (S := S) M h0 hn8 l0 l4
  have t2 := stand_ok (S := S) M (bel_in b0 b1)
  have t3 := word_ok (S := S) (ws := w.map .int) M h0 (by rw [List.length_map]; exact hl) (fun d hd => by
    obtain ⟨x, hx, rfl⟩ := List.mem_map.mp hd
    exact bel_in (hw x hx).1 (hw x hx).2)
  obtain ⟨o, q, _⟩ := loop_fold (chk := yes) (g := gN 5) (body := b_rg) pI (goS tab) (fun _ (o : Option D) => [some (.p (mach tab sh)), some (pI b), some (.p (tI w)), some (.p (.tuple (tab.map tI))), some (.loc S.length), o]) (fun xs => S ++ [Cell.lst (xs.map pI)])
    (fun r xs => Stn n xs ∧ xs.length + r.length ≤ 401 ∧ ∀ x ∈ r, 0 ≤ x ∧ x < (l : Int)) (fun _ _ _ => rfl) w [b] none (fun x r xs o _ hI => by
      obtain ⟨i1, i2, i3⟩ := hI
      rw [List.length_cons] at i2
      obtain ⟨x0, x1⟩ := i3 x (List.mem_cons_self ..)
      refine ⟨_, some (pI x), rfl, rg_step M i1 x0 x1 (by omega), goS_ok M i1 x0 x1, by rw [goS_len]; omega, fun y hy => i3 y (List.mem_cons_of_mem _ hy)⟩) ⟨stn_one b0 b1, by rw [List.length_singleton]; omega, hw⟩
  have tu : tupF [.loc S.length] (S ++ [Cell.lst ((gone tab b w).map pI)]) = .ok (.p (tI (gone tab b w))) (S ++ [Cell.lst ((gone tab b w).map pI)]) := by
    have e : (cellL (S ++ [Cell.lst ((gone tab b w).map pI)]) S.length).bind plains = some ((gone tab b w).map PyData.int) := by
      rw [cl_of last_get]
      exact plains_ints (gone tab b w)
    simp only [tupF, e]
  have lp : sFor (iT (eVar 2)) (gN 5) b_rg [some (.p (mach tab sh)), some (pI b), some (.p (tI w)), some (.p (.tuple (tab.map tI))), some (.loc S.length), none] (S ++ [Cell.lst (([b] : List Int).map pI)]) =
      .nx [some (.p (mach tab sh)), some (pI b), some (.p (tI w)), some (.p (.tuple (tab.map tI))), some (.loc S.length), o] (S ++ [Cell.lst ((gone tab b w).map pI)]) := by
    rw [sFor_TT (l := w.map .int) (S' := S ++ [Cell.lst (([b] : List Int).map pI)]) rfl, List.map_map]
    exact q
  have body : b_run [some (.p (mach tab sh)), some (pI b), some (.p (tI w)), none, none, none] S = .rt (.p (tI (gone tab b w))) (S ++ [Cell.lst ((gone tab b w).map pI)]) :=
    (sSeq_nx (expr_ok (call1 (d := .p (mach tab sh)) rfl t1))).trans ((sSeq_nx (expr_ok (call2 (d := .p (mach tab sh)) (d2 := pI b) (S1 := S) (S2 := S) rfl rfl t2))).trans ((sSeq_nx (expr_ok (call2 (d := .p (mach tab sh)) (d2 := .p (tI w)) (S1 := S) (S2 := S) rfl rfl t3))).trans
      ((sSeq_nx (asg_ok (d := .p (.tuple (tab.map tI))) rfl rfl)).trans ((sSeq_nx (asg_ok (d := .loc S.length) (S1 := S ++ [Cell.lst (([b] : List Int).map pI)]) rfl rfl)).trans ((sSeq_nx lp).trans (ret_ok (call1 (d := .loc S.length) rfl tu)))))))
  refine (fnM_rt (b := false) (n := 3) (all := 6) (m := b_run) (ds := [.p (mach tab sh), pI b, .p (tI w)]) rfl body).trans ?_
  unfold fin
  rw [List.take_left]
/-- what it refuses -/
theorem run_m {x y : PyData} : m_run [.p (.tuple []), .p x, .p y] S = .err ⟨"BadMachine", [("place", .tuple [])]⟩ S := by
  have body : b_run [some (.p (.tuple [])), some (.p x), some (.p y), none, none, none] S = .err ⟨"BadMachine", [("place", .tuple [])]⟩ [some (.p (.tuple [])), some (.p x), some (.p y), none, none, none] S := sSeq_err (expr_err (call1 (d := .p (.tuple [])) rfl mach_no))
  exact (fnM_err (b := false) (n := 3) (all := 6) (m := b_run) (ds := [.p (.tuple []), .p x, .p y]) rfl body).trans (by rw [take_len])
theorem run_s (M : IsM n l tab sh) (h0 : 0 < n) (hn8 : n ≤ 8) (l0 : 0 < l) (l4 : l ≤ 4) {x y : PyData} (h : bel x n = false) : m_run [.p (mach tab sh), .p x, .p y] S = .err ⟨"BadStanding", [("value", x)]⟩ S := by
  have t1 := machine_ok (S := S) M h0 hn8 l0 l4
  have body : b_run [some (.p (mach tab sh)), some (.p x), some (.p y), none, none, none] S = .err ⟨"BadStanding", [("value", x)]⟩ [some (.p (mach tab sh)), some (.p x), some (.p y), none, none, none] S :=
    (sSeq_nx (expr_ok (call1 (d := .p (mach tab sh)) rfl t1))).trans (sSeq_err (expr_err (call2 (d := .p (mach tab sh)) (d2 := .p x) (S1 := S) (S2 := S) rfl rfl (stand_no M h))))
  exact (fnM_err (b := false) (n := 3) (all := 6) (m := b_run) (ds := [.p (mach tab sh), .p x, .p y]) rfl body).trans (by rw [take_len])
theorem run_w (M : IsM n l tab sh) (h0 : 0 < n) (hn8 : n ≤ 8) (l0 : 0 < l) (l4 : l ≤ 4) {b : Int} {y : PyData} {e : Er} (b0 : 0 ≤ b) (b1 : b < n) (h : m_need_word [.p (mach tab sh), .p y] S = .err e S) : m_run [.p (mach tab sh), pI b, .p y] S = .err e S := by
  have t1 := machine_ok (S := S) M h0 hn8 l0 l4
  have t2 := stand_ok (S := S) M (bel_in b0 b1)
  have body : b_run [some (.p (mach tab sh)), some (pI b), some (.p y), none, none, none] S = .err e [some (.p (mach tab sh)), some (pI b), some (.p y), none, none, none] S :=
    (sSeq_nx (expr_ok (call1 (d := .p (mach tab sh)) rfl t1))).trans ((sSeq_nx (expr_ok (call2 (d := .p (mach tab sh)) (d2 := pI b) (S1 := S) (S2 := S) rfl rfl t2))).trans (sSeq_err (expr_err (call2 (d := .p (mach tab sh)) (d2 := .p y) (S1 := S) (S2 := S) rfl rfl h))))
  exact (fnM_err (b := false) (n := 3) (all := 6) (m := b_run) (ds := [.p (mach tab sh), pI b, .p y]) rfl body).trans (by rw [take_len])
/-! ### the law's own -/
def b_gn : SM := (sAsg (eOp addD (eVar 3) (eLst (aCons (eOp ixD (eOp ixD (eOp ixD (eVar 0) (eC (.int 0))) (eOp ixD (eVar 3) (eUn negD (eC (.int 1))))) (eVar 4)) aNil))) (gN 3))
theorem gone_ok (M : IsM n l tab sh) {b : Int} {w : List Int} (b0 : 0 ≤ b) (b1 : b < n) (hl : w.length ≤ 400) (hw : ∀ x ∈ w, 0 ≤ x ∧ x < (l : Int)) : m_law_gone [.p (mach tab sh), pI b, .p (tI w)] S = .ok (.p (tI (gone tab b w))) S := by
  obtain ⟨o, q, _⟩ := loop_fold (chk := yes) (g := gN 4) (body := b_gn) pI (goS tab) (fun xs (o : Option D) => [some (.p (mach tab sh)), some (pI b), some (.p (tI w)), some (.p (lI xs)), o]) (fun _ => S)
    (fun r xs => Stn n xs ∧ xs.length + r.length ≤ 401 ∧ ∀ x ∈ r, 0 ≤ x ∧ x < (l : Int)) (fun _ _ _ => rfl) w [b] none (fun x r xs o _ hI => by
      obtain ⟨i1, i2, i3⟩ := hI
      rw [List.length_cons] at i2
      obtain ⟨x0, x1⟩ := i3 x (List.mem_cons_self ..)
      obtain ⟨c0, c1⟩ := i1.low _ (last_mem i1.ne)
      obtain ⟨r', _, a1, a2, _⟩ := lk_at M c0 c1 x0 x1
      refine ⟨_, some (pI x), rfl, ?_, goS_ok M i1 x0 x1, by rw [goS_len]; omega, fun y hy => i3 y (List.mem_cons_of_mem _ hy)⟩
      have j1 : eOp ixD (eVar 3) (eUn negD (eC (.int 1))) [some (.p (mach tab sh)), some (pI b), some (.p (tI w)), some (.p (lI xs)), some (pI x)] S = .ok (pI (lastI xs)) S := by
        refine op2 (d := .p (lI xs)) (d2 := pI (-1)) (S1 := S) (S2 := S) rfl rfl ?_
        show (match atI (xs.map PyData.int) (-1) with | some d => (Ot.ok (.p d) S : Ot D) | none => .bad) = _
        rw [at_map_last PyData.int i1.ne]
      have j2 : eOp ixD (eOp ixD (eOp ixD (eVar 0) (eC (.int 0))) (eOp ixD (eVar 3) (eUn negD (eC (.int 1))))) (eVar 4) [some (.p (mach tab sh)), some (pI b), some (.p (tI w)), some (.p (lI xs)), some (pI x)] S = .ok (pI (lk tab (lastI xs) x)) S := by
        refine op2 (op2 (op2 (d := .p (mach tab sh)) (d2 := pI 0) (S1 := S) (S2 := S) (r := .ok (.p (.tuple (tab.map tI))) S) rfl rfl rfl) j1 (r := .ok (.p (tI r')) S) ?_) rfl ?_
        · show (match atI (tab.map tI) (lastI xs) with | some d => (Ot.ok (.p d) S : Ot D) | none => .bad) = _
          rw [a1]
        · show (match atI (r'.map PyData.int) x with | some d => (Ot.ok (.p d) S : Ot D) | none => .bad) = _
          rw [a2]
      refine asg_ok (d := .p (lI (goS tab xs x))) ((op2 (d := .p (lI xs)) rfl (lst1 j2) (add_ll (by rw [List.length_map]; show xs.length + 1 < 1000000; omega))).trans ?_) rfl
      unfold goS lI
      rw [List.map_append]
      rfl) ⟨stn_one b0 b1, by rw [List.length_singleton]; omega, hw⟩
  have lp : sFor (iT (eVar 2)) (gN 4) b_gn [some (.p (mach tab sh)), some (pI b), some (.p (tI w)), some (.p (lI [b])), none] S = .nx [some (.p (mach tab sh)), some (pI b), some (.p (tI w)), some (.p (lI (gone tab b w))), o] S := by
    rw [sFor_TT (l := w.map .int) (S' := S) rfl, List.map_map]
    exact q
  have body : b_law_gone [some (.p (mach tab sh)), some (pI b), some (.p (tI w)), none, none] S = .rt (.p (tI (gone tab b w))) S :=
    (sSeq_nx (asg_ok (d := .p (lI [b])) rfl rfl)).trans ((sSeq_nx lp).trans (ret_ok (call1 (d := .p (lI (gone tab b w))) rfl rfl)))
  exact (fnM_rt (b := false) (n := 3) (all := 5) (m := b_law_gone) (ds := [.p (mach tab sh), pI b, .p (tI w)]) rfl body).trans (by unfold fin; rw [take_len])
end
end Lw

/-! R5 -/
set_option Elab.async false
set_option linter.all false
set_option maxRecDepth 100000
set_option maxHeartbeats 4000000
set_option autoImplicit false
namespace Lw
open PySem PySem.Spec PyProof.Rows L2 Mi
/-! ### what the law hears -/
theorem try_ok {yes no : List Str} {i : Nat} {bm : SM} {sm : Er → SM} {env : Envr} {S S1 : Sto} {d : D} (h : bm env S = .rt d S1) : sTry yes no i bm sm env S = .rt d S1 := by
  unfold sTry
  rw [h]
theorem try_err {yes no : List Str} {i : Nat} {bm : SM} {sm : Er → SM} {env env1 : Envr} {S S1 S2 : Sto} {e : Er} {d : D} (h : bm env S = .err e env1 S1) (h1 : e.cls ∈ yes) (h2 : i < env1.length) (h3 : sm e (env1.set i none) S1 = .rt d S2) : sTry yes no i bm sm env S = .rt d S2 := by
  unfold sTry
  rw [h]
  show (if e.cls ∈ yes ∧ i < env1.length then _ else _) = _
  rw [if_pos ⟨h1, h2⟩, h3]
theorem su_yes {subs : List Str} {a b : Er → SM} {e : Er} {env : Envr} {S S1 : Sto} {d : D} (h : e.cls ∈ subs) (h2 : a e env S = .rt d S1) : sIfE subs a b e env S = .rt d S1 := by
  unfold sIfE
  rw [if_pos h]
  show (match a e env S with | .rt d S1 => Os.rt d S1 | _ => Os.bad) = _
  rw [h2]
theorem su_no {subs : List Str} {a b : Er → SM} {e : Er} {env : Envr} {S : Sto} {r : Os} (h : ¬ e.cls ∈ subs) (h2 : b e env S = r) : sIfE subs a b e env S = r := by
  unfold sIfE
  rw [if_neg h]
  exact h2
theorem sx_yes {subs : List Str} {a b : Er → EM} {e : Er} {env : Envr} {S : Sto} {r : Ot D} (h : e.cls ∈ subs) (h2 : a e env S = r) : eIfE subs a b e env S = r := by
  unfold eIfE
  rw [if_pos h]
  exact h2
theorem pair_is {c f x : Str} {d : PyData} {env : Envr} {S : Sto} : ePairE c f ⟨x, [(f, d)]⟩ env S = .ok (.p (.tuple [.str c, d])) S := by
  unfold ePairE
  show (if f = f then (Ot.ok (.p (.tuple [.str c, d])) S : Ot D) else .bad) = _
  rw [if_pos rfl]
section
variable {F x y : PyData} {S : Sto}
theorem heard_ok {r : PyData} (h : m_run [.p F, .p x, .p y] S = .ok (.p r) S) : m_law_heard [.p F, .p x, .p y] S = .ok (.p (.list [r])) S := by
  have body : b_law_heard [some (.p F), some (.p x), some (.p y), none] S = .rt (.p (.list [r])) S := try_ok (ret_ok (lst1 (call3 (d := .p F) (d2 := .p x) (d3 := .p y) (S1 := S) (S2 := S) (S3 := S) rfl rfl rfl h)))
  exact (fnM_rt (b := false) (n := 3) (all := 4) (m := b_law_heard) (ds := [.p F, .p x, .p y]) rfl body).trans (by unfold fin; rw [take_len])
theorem heard_of {e : Er} {r : PyData} (h : m_run [.p F, .p x, .p y] S = .err e S) (h1 : e.cls ∈ yesX) (h2 : ∀ env, (sIfE ["BadMachine"] (sRetE (ePairE "machine" "place")) (sIfE ["BadWord"] (sRetE (ePairE "word" "place")) (sRetE (eIfE ["BadStanding"] (ePairE "standing" "value") (fun _ => (eTup (aCons (eC (.str "other")) aNil))))))) e env S = .rt (.p r) S) :
    m_law_heard [.p F, .p x, .p y] S = .ok (.p r) S := by
  have body : b_law_heard [some (.p F), some (.p x), some (.p y), none] S = .rt (.p r) S :=
    try_err (ret_err (lst1_err (call3 (d := .p F) (d2 := .p x) (d3 := .p y) (S1 := S) (S2 := S) (S3 := S) rfl rfl rfl h))) h1 (by show 3 < 4; omega) (h2 _)
  exact (fnM_rt (b := false) (n := 3) (all := 4) (m := b_law_heard) (ds := [.p F, .p x, .p y]) rfl body).trans (by unfold fin; rw [take_len])
theorem heard_m {d : PyData} (h : m_run [.p F, .p x, .p y] S = .err ⟨"BadMachine", [("place", d)]⟩ S) : m_law_heard [.p F, .p x, .p y] S = .ok (.p (.tuple [.str "machine", d])) S :=
  heard_of h (show ("BadMachine" : Str) ∈ yesX by decide) fun env => su_yes (show ("BadMachine" : Str) ∈ (["BadMachine"] : List Str) by decide) (ret_ok pair_is)
theorem heard_w {d : PyData} (h : m_run [.p F, .p x, .p y] S = .err ⟨"BadWord", [("place", d)]⟩ S) : m_law_heard [.p F, .p x, .p y] S = .ok (.p (.tuple [.str "word", d])) S :=
  heard_of h (show ("BadWord" : Str) ∈ yesX by decide) fun env => su_no (show ¬ ("BadWord" : Str) ∈ (["BadMachine"] : List Str) by decide) (su_yes (show ("BadWord" : Str) ∈ (["BadWord"] : List Str) by decide) (ret_ok pair_is))
theorem heard_s {d : PyData} (h : m_run [.p F, .p x, .p y] S = .err ⟨"BadStanding", [("value", d)]⟩ S) : m_law_heard [.p F, .p x, .p y] S = .ok (.p (.tuple [.str "standing", d])) S :=
  heard_of h (show ("BadStanding" : Str) ∈ yesX by decide) fun env => su_no (show ¬ ("BadStanding" : Str) ∈ (["BadMachine"] : List Str) by decide) (su_no (show ¬ ("BadStanding" : Str) ∈ (["BadWord"] : List Str) by decide) (ret_ok (sx_yes (show ("BadStanding" : Str) ∈ (["BadStanding"] : List Str) by decide) pair_is)))
/-! ### right: what is heard is what is due, twice, and nothing changed -/
def b_rt : SM := (sIf (bOf (eOp (eqD true) (eCall repF (aCons (eCall m_law_heard (aCons (eVar 0) (aCons (eVar 1) (aCons (eVar 2) aNil)))) aNil)) (eCall repF (aCons (eVar 3) aNil)))) (sRet (eC (.bool false))) sNx)
theorem right_ok {due : PyData} {c c2 h h2 : Nat} (k1 : okD (.list [F, x, y]) c h) (k2 : okD due c2 h2) (l1 : c < 1000000) (l2 : c2 < 1000000) (m1 : h ≤ 60) (m2 : h2 ≤ 60) (hh : m_law_heard [.p F, .p x, .p y] S = .ok (.p due) S) :
    m_law_right [.p F, .p x, .p y, .p due] S = .ok (.p (.bool true)) S := by
  have r0 := rep_ok (S := S) k1 l1 m1
  have r1 := rep_ok (S := S) k2 l2 m2
  obtain ⟨K, hK⟩ : ∃ K, K = (PyData.list [F, x, y]).shown := ⟨_, rfl⟩
  have s1 : sAsg (eCall repF (aCons (eLst (aCons (eVar 0) (aCons (eVar 1) (aCons (eVar 2) aNil)))) aNil)) (gN 4) [some (.p F), some (.p x), some (.p y), some (.p due), none, none] S = .nx [some (.p F), some (.p x), some (.p y), some (.p due), some (.p (.str K)), none] S := by
    rw [hK]
    exact asg_ok (call1 (lst3 (S1 := S) (S2 := S) (S3 := S) rfl rfl rfl) r0) rfl
  obtain ⟨o, s4, _⟩ := loop_fold (chk := yes) (g := gN 5) (body := b_rt) (fun k : Nat => pI (0 + (k : Int))) (fun (u : Unit) _ => u) (fun _ (o : Option D) => [some (.p F), some (.p x), some (.p y), some (.p due), some (.p (.str K)), o]) (fun _ => S) (fun _ _ => True) (fun _ _ _ => rfl)
    (List.range 2) () none (fun k r z o _ _ => by
      refine ⟨[some (.p F), some (.p x), some (.p y), some (.p due), some (.p (.str K)), some (pI (0 + (k : Int)))], some (pI (0 + (k : Int))), rfl, ?_, trivial⟩
      refine if_no ?_
      have e := op2 (f := eqD true) (m := eCall repF (aCons (eCall m_law_heard (aCons (eVar 0) (aCons (eVar 1) (aCons (eVar 2) aNil)))) aNil)) (m2 := eCall repF (aCons (eVar 3) aNil)) (env := [some (.p F), some (.p x), some (.p y), some (.p due), some (.p (.str K)), some (pI (0 + (k : Int)))])
        (call1 (call3 (d := .p F) (d2 := .p x) (d3 := .p y) (S1 := S) (S2 := S) (S3 := S) rfl rfl rfl hh) r1) (call1 (d := .p due) rfl r1) (eq_str true (S := S) k2)
      unfold bOf
      rw [e]
      rfl) trivial
  have s4' : sFor (iR1 (aCons (eC (.int 2)) aNil)) (gN 5) b_rt [some (.p F), some (.p x), some (.p y), some (.p due), some (.p (.str K)), none] S = .nx [some (.p F), some (.p x), some (.p y), some (.p due), some (.p (.str K)), o] S := (sFor_r1 (j := 2) rfl (by omega) (by omega)).trans s4
  have e5 : eOp (eqD false) (eCall repF (aCons (eLst (aCons (eVar 0) (aCons (eVar 1) (aCons (eVar 2) aNil)))) aNil)) (eVar 4) [some (.p F), some (.p x), some (.p y), some (.p due), some (.p (.str K)), o] S = .ok (.p (.bool true)) S := by
    rw [hK]
    exact op2 (call1 (lst3 (S1 := S) (S2 := S) (S3 := S) rfl rfl rfl) r0) rfl (eq_str false k1)
  have body : b_law_right [some (.p F), some (.p x), some (.p y), some (.p due), none, none] S = .rt (.p (.bool true)) S := (sSeq_nx s1).trans ((sSeq_nx s4').trans (ret_ok e5))
  exact (fnM_rt (b := false) (n := 4) (all := 6) (m := b_law_right) (ds := [.p F, .p x, .p y, .p due]) rfl body).trans (by unfold fin; rw [take_len])
end
end Lw

/-! R6 -/
set_option Elab.async false
set_option linter.all false
set_option maxRecDepth 100000
set_option maxHeartbeats 4000000
set_option autoImplicit false
namespace Lw
open PySem PySem.Spec PyProof.Rows L2 Mi
/-! ### drawn letters -/
theorem drawn_letters {B : Int} {S S0 : Sto} {i c l i0 j : Nat} {env : Envr} {a : AM} {mw : EM} (ea : a env S0 = .ok [pI c] S) (g : Gd B S i) (hB : B < 999990000) (hc : c ≤ 12) (l0 : 0 < l) (l4 : l ≤ 4)
    (hi : ∀ d : D, ((wipeE env [j]).set j (some d))[i0]? = some (some (.loc i))) (hw : ∀ (d : D) (S : Sto), mw ((wipeE env [j]).set j (some d)) S = .ok (pI l) S) :
    ∃ w S', eComp false (iR1 a) [j] (gN j) bYes (eCall m_law_draw (aCons (eVar i0) (aCons mw aNil))) env S0 = .ok (.p (lI w)) S' ∧ w.length = c ∧ (∀ x ∈ w, 0 ≤ x ∧ x < (l : Int)) ∧ Gd (B + (c : Int)) S' i := by
  have step : ∀ (k : Nat) (d : D) (acc : List D) (S : Sto), (rangeD 0 c)[k]? = some d → (∃ w : List Int, acc = (w.map PyData.int).map D.p ∧ w.length = 0 + k ∧ (∀ x ∈ w, 0 ≤ x ∧ x < (l : Int)) ∧ Gd (B + ((0 + k : Nat) : Int)) S i ∧ 0 + k ≤ c) →
      ∃ e1, gN j d (wipeE env [j]) = some e1 ∧ ((∃ y S1 S2, bYes e1 S = .ok true S1 ∧ eCall m_law_draw (aCons (eVar i0) (aCons mw aNil)) e1 S1 = .ok y S2 ∧
        (∃ w : List Int, acc ++ [y] = (w.map PyData.int).map D.p ∧ w.length = 0 + k + 1 ∧ (∀ x ∈ w, 0 ≤ x ∧ x < (l : Int)) ∧ Gd (B + ((0 + k + 1 : Nat) : Int)) S2 i ∧ 0 + k + 1 ≤ c)) ∨ ∃ S1, bYes e1 S = .ok false S1 ∧
        (∃ w : List Int, acc = (w.map PyData.int).map D.p ∧ w.length = 0 + k + 1 ∧ (∀ x ∈ w, 0 ≤ x ∧ x < (l : Int)) ∧ Gd (B + ((0 + k + 1 : Nat) : Int)) S1 i ∧ 0 + k + 1 ≤ c)) := by
    intro k d acc S hk hP
    obtain ⟨w, rfl, p1, p2, p3, p5⟩ := hP
    obtain ⟨hk', rfl⟩ := rng_at hk
    rw [Nat.zero_add] at *
    obtain ⟨v, S2, e, v0, v1, g2, _⟩ := draw_ok (many := (l : Int)) p3 (by omega) (by omega) (by omega)
    refine ⟨_, rfl, .inl ⟨pI v, S, S2, rfl, ?_, w ++ [v], ?_, by rw [List.length_append, p1]; rfl, fun z hz => ?_, ?_, hk'⟩⟩
    · refine call2 (d := .loc i) (d2 := pI l) (S1 := S) (S2 := S) ?_ (hw _ S) e
      unfold eVar
      rw [hi]
    · rw [List.map_append, List.map_append]
      rfl
    · rcases List.mem_append.mp hz with hz | hz
      · exact p2 z hz
      · rw [List.mem_singleton.mp hz]; exact ⟨v0, v1⟩
    · have eb : B + ((k + 1 : Nat) : Int) = B + (k : Int) + 1 := by omega
      rw [eb]
      exact g2
  obtain ⟨acc, S', q1, w, rfl, q3, q4, q5, _⟩ := comp_ok (chk := yes) (g := gN j) (t := bYes) (env := wipeE env [j])
    (fun k acc S => ∃ w : List Int, acc = (w.map PyData.int).map D.p ∧ w.length = k ∧ (∀ x ∈ w, 0 ≤ x ∧ x < (l : Int)) ∧ Gd (B + (k : Int)) S i ∧ k ≤ c) (rangeD 0 c) 0 [] S
    (fun j acc S h => ⟨rfl, by obtain ⟨w, rfl, h3, _, _, h4⟩ := h; rw [List.length_map, List.length_map, h3]; exact Nat.lt_of_le_of_lt (Nat.le_trans h4 hc) (by decide)⟩) step ⟨[], rfl, rfl, fun _ z => (by cases z), by simpa using g, Nat.zero_le _⟩
  rw [rng_len, Nat.zero_add] at q3 q5
  refine ⟨w, S', ?_, q3, q4, q5⟩
  rw [eComp_r1 ea (by omega) (by omega), Int.toNat_natCast, q1]
  show (match plains ((w.map PyData.int).map D.p) with | some l => (Ot.ok (D.p (.list l)) S' : Ot D) | none => .bad) = _
  rw [plains_map]
/-! ### what is shown of odd things -/
theorem okD_lit {d : PyData} (h1 : d.showable = true) (h2 : decide (d.shown.length ≤ 1000) = true) (h3 : PyData.strOk d.shown = true) (h4 : decide (d.depth ≤ 3) = true) (h5 : layD d = true) : okD d 1000 3 := ⟨h1, ⟨of_decide_eq_true h2, h3⟩, of_decide_eq_true h4, h5⟩
def big : Int := 1000000000000000000000000000000
theorem k_none : okD .none 1000 3 := okD_lit (by decide +kernel) (by decide +kernel) (by decide +kernel) (by decide +kernel) (by decide +kernel)
theorem k_neg : okD (.int (-1)) 1000 3 := okD_lit (by decide +kernel) (by decide +kernel) (by decide +kernel) (by decide +kernel) (by decide +kernel)
theorem k_true : okD (.bool true) 1000 3 := okD_lit (by decide +kernel) (by decide +kernel) (by decide +kernel) (by decide +kernel) (by decide +kernel)
theorem k_false : okD (.bool false) 1000 3 := okD_lit (by decide +kernel) (by decide +kernel) (by decide +kernel) (by decide +kernel) (by decide +kernel)
theorem k_s0 : okD (.str "0") 1000 3 := okD_lit (by decide +kernel) (by decide +kernel) (by decide +kernel) (by decide +kernel) (by decide +kernel)
theorem k_se : okD (.str "") 1000 3 := okD_lit (by decide +kernel) (by decide +kernel) (by decide +kernel) (by decide +kernel) (by decide +kernel)
theorem k_t0 : okD (.tuple [.int 0]) 1000 3 := okD_lit (by decide +kernel) (by decide +kernel) (by decide +kernel) (by decide +kernel) (by decide +kernel)
theorem k_te : okD (.tuple []) 1000 3 := okD_lit (by decide +kernel) (by decide +kernel) (by decide +kernel) (by decide +kernel) (by decide +kernel)
theorem k_l0 : okD (.list [.int 0]) 1000 3 := okD_lit (by decide +kernel) (by decide +kernel) (by decide +kernel) (by decide +kernel) (by decide +kernel)
theorem k_le : okD (.list []) 1000 3 := okD_lit (by decide +kernel) (by decide +kernel) (by decide +kernel) (by decide +kernel) (by decide +kernel)
theorem k_de : okD (.dict []) 1000 3 := okD_lit (by decide +kernel) (by decide +kernel) (by decide +kernel) (by decide +kernel) (by decide +kernel)
theorem k_big : okD (.int big) 1000 3 := okD_lit (by decide +kernel) (by decide +kernel) (by decide +kernel) (by decide +kernel) (by decide +kernel)
theorem k_standing : okD (.str "standing") 1000 3 := okD_lit (by decide +kernel) (by decide +kernel) (by decide +kernel) (by decide +kernel) (by decide +kernel)
theorem k_machine : okD (.str "machine") 1000 3 := okD_lit (by decide +kernel) (by decide +kernel) (by decide +kernel) (by decide +kernel) (by decide +kernel)
theorem k_word : okD (.str "word") 1000 3 := okD_lit (by decide +kernel) (by decide +kernel) (by decide +kernel) (by decide +kernel) (by decide +kernel)
theorem k_int {x : Int} (h0 : 0 ≤ x) (h9 : x ≤ 9) : okD (.int x) 1000 3 := okD_mono (okD_int h0 h9) (by omega) (by omega)
theorem k_three {F x y : PyData} (a : okD F 10000 4) (b : okD x 10000 4) (c : okD y 10000 4) : okD (.list [F, x, y]) (2 + 3 * (10000 + 2)) 5 := okD_list (fun d hd => by
  simp only [List.mem_cons, List.not_mem_nil, or_false] at hd
  rcases hd with rfl | rfl | rfl
  · exact a
  · exact b
  · exact c) (Nat.le_refl 3)
theorem k_pair {x y : PyData} (b : okD x 10000 4) (c : okD y 10000 4) : okD (.tuple [x, y]) (3 + 2 * (10000 + 2)) 5 := okD_tup (fun d hd => by
  simp only [List.mem_cons, List.not_mem_nil, or_false] at hd
  rcases hd with rfl | rfl
  · exact b
  · exact c) (Nat.le_refl 2)
theorem k_one {x : PyData} (b : okD x 10000 4) : okD (.list [x]) (2 + 1 * (10000 + 2)) 5 := okD_list (fun d hd => by rw [List.mem_singleton.mp hd]; exact b) (Nat.le_refl 1)
theorem k_up {x : PyData} (b : okD x 1000 3) : okD x 10000 4 := okD_mono b (by omega) (by omega)
theorem k_tI {r : List Int} (hl : r.length ≤ 401) (h : ∀ x ∈ r, 0 ≤ x ∧ x ≤ 9) : okD (tI r) 10000 4 := okD_mono (okD_tI hl h) (by omega) (by omega)
section
variable {F x y d : PyData} {S : Sto}
theorem right_m (a : okD F 10000 4) (b : okD x 10000 4) (c : okD y 10000 4) (k : okD d 10000 4) (h : m_run [.p F, .p x, .p y] S = .err ⟨"BadMachine", [("place", d)]⟩ S) : m_law_right [.p F, .p x, .p y, .p (.tuple [.str "machine", d])] S = .ok (.p (.bool true)) S :=
  right_ok (k_three a b c) (k_pair (k_up k_machine) k) (by omega) (by omega) (by omega) (by omega) (heard_m h)
theorem right_w (a : okD F 10000 4) (b : okD x 10000 4) (c : okD y 10000 4) (k : okD d 10000 4) (h : m_run [.p F, .p x, .p y] S = .err ⟨"BadWord", [("place", d)]⟩ S) : m_law_right [.p F, .p x, .p y, .p (.tuple [.str "word", d])] S = .ok (.p (.bool true)) S :=
  right_ok (k_three a b c) (k_pair (k_up k_word) k) (by omega) (by omega) (by omega) (by omega) (heard_w h)
theorem right_s (a : okD F 10000 4) (b : okD x 10000 4) (c : okD y 10000 4) (h : m_run [.p F, .p x, .p y] S = .err ⟨"BadStanding", [("value", x)]⟩ S) : m_law_right [.p F, .p x, .p y, .p (.tuple [.str "standing", x])] S = .ok (.p (.bool true)) S :=
  right_ok (k_three a b c) (k_pair (k_up k_standing) b) (by omega) (by omega) (by omega) (by omega) (heard_s h)
end
section
variable {tab : List (List Int)} {sh : List Int} {n l : Nat} {S : Sto}
theorem gone_low (M : IsM n l tab sh) (hn8 : n ≤ 8) {b : Int} {w : List Int} (b0 : 0 ≤ b) (b1 : b < n) (hw : ∀ x ∈ w, 0 ≤ x ∧ x < (l : Int)) : ∀ x ∈ gone tab b w, 0 ≤ x ∧ x ≤ 9 := fun x hx => by
  obtain ⟨h1, h2⟩ := (fold_stn M w [b] (stn_one b0 b1) hw).low x hx
  exact ⟨h1, by omega⟩
theorem gone_len (b : Int) (w : List Int) : (gone tab b w).length = w.length + 1 := by
  unfold gone
  rw [fold_len, List.length_singleton]
  omega
theorem right_g (M : IsM n l tab sh) (h0 : 0 < n) (hn8 : n ≤ 8) (l0 : 0 < l) (l4 : l ≤ 4) {b : Int} {w : List Int} (b0 : 0 ≤ b) (b1 : b < n) (hl : w.length ≤ 400) (hw : ∀ x ∈ w, 0 ≤ x ∧ x < (l : Int)) :
    m_law_right [.p (mach tab sh), pI b, .p (tI w), .p (.list [tI (gone tab b w)])] S = .ok (.p (.bool true)) S :=
  right_ok (k_three (k_up (okD_mach M hn8 l4)) (k_up (k_int b0 (by omega))) (k_tI (by omega) fun x hx => ⟨(hw x hx).1, by have := (hw x hx).2; omega⟩)) (k_one (k_tI (by rw [gone_len]; omega) (gone_low M hn8 b0 b1 hw))) (by omega) (by omega) (by omega) (by omega)
    (heard_ok (run_ok M h0 hn8 l0 l4 b0 b1 hl hw))
end
end Lw

/-! R7 -/
set_option Elab.async false
set_option linter.all false
set_option maxRecDepth 100000
set_option maxHeartbeats 4000000
set_option autoImplicit false
namespace Lw
open PySem PySem.Spec PyProof.Rows L2 Mi
theorem flat_one {α : Type} (x : α) : ∀ n : Nat, (List.replicate n [x]).flatten = List.replicate n x
  | 0 => rfl
  | n + 1 => by
    rw [List.replicate_succ, List.flatten_cons, flat_one x n]
    rfl
theorem repN {x : PyData} {n : Nat} {S : Sto} (h0 : 2 ≤ n) (hn : n ≤ 900) : repD (.p (.tuple [x])) (pI n) S = .ok (.p (.tuple (List.replicate n x))) S := by
  show (if (n : Int) = 1 then (Ot.ok (.p (.tuple [x])) S : Ot D) else if [x] ≠ [] ∧ (2 : Int) ≤ n ∧ (n : Int) ≤ 900 ∧ [x].length ≤ 1000 then .ok (.p (.tuple (repP (n : Int).toNat [x]))) S else .bad) = _
  rw [if_neg (by omega), if_pos ⟨by simp, by omega, by omega, by show 1 ≤ 1000; omega⟩, Int.toNat_natCast]
  unfold repP
  rw [flat_one]
/-- a loop over things, each of which goes by -/
theorem by_loop {S : Sto} {g : GM} {body : SM} (E : Option D → Envr) : ∀ (ds : List PyData) (o : Option D), (∀ d ∈ ds, ∀ o, g (.p d) (E o) = some (E (some (.p d))) ∧ body (E (some (.p d))) S = .nx (E (some (.p d))) S) →
    ∃ o', loop yes g body (ds.map .p) (E o) S = .nx (E o') S := fun ds o h => by
  obtain ⟨o', q, _⟩ := loop_fold (chk := yes) (g := g) (body := body) D.p (fun (u : Unit) _ => u) (fun _ o => E o) (fun _ => S) (fun r _ => ∀ d ∈ r, d ∈ ds) (fun _ _ _ => rfl) ds () o (fun d r _ o hd hI => by
    obtain ⟨h1, h2⟩ := h d hd o
    exact ⟨_, some (.p d), h1, h2, fun y hy => hI y (List.mem_cons_of_mem _ hy)⟩) fun d hd => hd
  exact ⟨o', q⟩
def odds (n : Nat) : List PyData := [.none, .int (-1), .int n, .bool true, .bool false, .str "0", .tuple [.int 0], .list [.int 0], .dict [], .int big]
def oddl (l : Nat) : List PyData := [.none, .int (-1), .int l, .bool true, .str "0", .tuple [.int 0], .list [.int 0], .dict [], .int big]
def oddw : List PyData := [.none, .list [.int 0], .list [], .str "0", .str "", .int 0, .dict [], .tuple (List.replicate 401 (.int 0)), .tuple (List.replicate 401 .none)]
theorem bel_n {n : Nat} : bel (.int n) n = false := decide_eq_false fun h => by omega
theorem bel_neg {n : Nat} : bel (.int (-1)) n = false := by
  show decide ((0 : Int) ≤ -1 ∧ (-1 : Int) < n) = false
  exact decide_eq_false fun h => by omega
theorem bel_big {n : Nat} (h : n ≤ 8) : bel (.int big) n = false := decide_eq_false fun q => by
  have := q.2
  unfold big at this
  omega
theorem odds_ok {n : Nat} (hn : n ≤ 8) : ∀ d ∈ odds n, bel d n = false ∧ okD d 10000 4 := fun d hd => by
  simp only [odds, List.mem_cons, List.not_mem_nil, or_false] at hd
  rcases hd with rfl | rfl | rfl | rfl | rfl | rfl | rfl | rfl | rfl | rfl
  · exact ⟨rfl, k_up k_none⟩
  · exact ⟨bel_neg, k_up k_neg⟩
  · exact ⟨bel_n, k_up (k_int (by omega) (by omega))⟩
  · exact ⟨rfl, k_up k_true⟩
  · exact ⟨rfl, k_up k_false⟩
  · exact ⟨rfl, k_up k_s0⟩
  · exact ⟨rfl, k_up k_t0⟩
  · exact ⟨rfl, k_up k_l0⟩
  · exact ⟨rfl, k_up k_de⟩
  · exact ⟨bel_big hn, k_up k_big⟩
theorem oddl_ok {l : Nat} (hl : l ≤ 4) : ∀ d ∈ oddl l, bel d l = false ∧ okD d 1000 3 := fun d hd => by
  simp only [oddl, List.mem_cons, List.not_mem_nil, or_false] at hd
  rcases hd with rfl | rfl | rfl | rfl | rfl | rfl | rfl | rfl | rfl
  · exact ⟨rfl, k_none⟩
  · exact ⟨bel_neg, k_neg⟩
  · exact ⟨bel_n, k_int (by omega) (by omega)⟩
  · exact ⟨rfl, k_true⟩
  · exact ⟨rfl, k_s0⟩
  · exact ⟨rfl, k_t0⟩
  · exact ⟨rfl, k_l0⟩
  · exact ⟨rfl, k_de⟩
  · exact ⟨bel_big (by omega), k_big⟩
theorem k_nones : okD (.tuple (List.replicate 401 .none)) 1000000 5 := okD_mono (okD_tup (c := 1000) (h := 3) (m := 401) (fun d hd => by rw [(List.mem_replicate.mp hd).2]; exact k_none) (by rw [List.length_replicate]; exact Nat.le_refl _)) (by omega) (by omega)
theorem k_nones' : okD (.tuple (List.replicate 401 .none)) 10000 4 := by
  have kn : okD .none 4 0 := ⟨rfl, okS_lit (by decide +kernel) (by decide +kernel), Nat.le_refl _, rfl⟩
  exact okD_mono (okD_tup (c := 4) (h := 0) (m := 401) (fun d hd => by rw [(List.mem_replicate.mp hd).2]; exact kn) (by rw [List.length_replicate]; exact Nat.le_refl _)) (by omega) (by omega)
theorem k_zeros : okD (.tuple (List.replicate 401 (.int 0))) 10000 4 := by
  have e : PyData.tuple (List.replicate 401 (.int 0)) = tI (List.replicate 401 0) := by
    show _ = PyData.tuple ((List.replicate 401 (0 : Int)).map .int)
    rw [List.map_replicate]
  rw [e]
  exact k_tI (by rw [List.length_replicate]; exact Nat.le_refl _) fun x hx => by rw [(List.mem_replicate.mp hx).2]; omega
theorem oddw_ok : ∀ d ∈ oddw, tup_ d 0 400 = false ∧ (∀ kvs, d = .dict kvs → isiB (tyP d) .tup = false) ∧ okD d 10000 4 := fun d hd => by
  have big_ : ∀ x : PyData, tup_ (.tuple (List.replicate 401 x)) 0 400 = false := fun x => by
    show decide ((0 : Int) ≤ ((List.replicate 401 x).length : Int) ∧ ((List.replicate 401 x).length : Int) ≤ 400) = false
    rw [List.length_replicate]
    rfl
  simp only [oddw, List.mem_cons, List.not_mem_nil, or_false] at hd
  rcases hd with rfl | rfl | rfl | rfl | rfl | rfl | rfl | rfl | rfl
  · exact ⟨rfl, fun _ z => (by cases z), k_up k_none⟩
  · exact ⟨rfl, fun _ z => (by cases z), k_up k_l0⟩
  · exact ⟨rfl, fun _ z => (by cases z), k_up k_le⟩
  · exact ⟨rfl, fun _ z => (by cases z), k_up k_s0⟩
  · exact ⟨rfl, fun _ z => (by cases z), k_up k_se⟩
  · exact ⟨rfl, fun _ z => (by cases z), k_up (k_int (by omega) (by omega))⟩
  · exact ⟨rfl, fun _ _ => rfl, k_up k_de⟩
  · exact ⟨big_ _, fun _ z => (by cases z), k_zeros⟩
  · exact ⟨big_ _, fun _ z => (by cases z), k_nones'⟩
def b_o1 : SM := (sSeq (sIf (bOr (bNot (bOf (eCall m_law_right (aCons (eVar 1) (aCons (eVar 4) (aCons (eTup aNil) (aCons (eTup (aCons (eC (.str "standing")) (aCons (eVar 4) aNil))) aNil))))))) (bNot (bOf (eCall m_law_right (aCons (eVar 1) (aCons (eVar 4) (aCons (eC .none) (aCons (eTup (aCons (eC (.str "standing")) (aCons (eVar 4) aNil))) aNil)))))))) (sRet (eC (.bool false))) sNx) (sIf (bNot (bOf (eCall m_law_right (aCons (eTup aNil) (aCons (eVar 4) (aCons (eVar 4) (aCons (eTup (aCons (eC (.str "machine")) (aCons (eTup aNil) aNil))) aNil))))))) (sRet (eC (.bool false))) sNx))
def b_o2 : SM := (sIf (bNot (bOf (eCall m_law_right (aCons (eVar 1) (aCons (eOp subD (eVar 2) (eC (.int 1))) (aCons (eVar 4) (aCons (eTup (aCons (eC (.str "word")) (aCons (eC .none) aNil))) aNil))))))) (sRet (eC (.bool false))) sNx)
def b_o3 : SM := (sIf (bNot (bOf (eCall m_law_right (aCons (eVar 1) (aCons (eC (.int 0)) (aCons (eOp addD (eVar 5) (eTup (aCons (eVar 4) (aCons (eVar 4) aNil)))) (aCons (eTup (aCons (eC (.str "word")) (aCons (eCall lenF (aCons (eVar 5) aNil)) aNil))) aNil))))))) (sRet (eC (.bool false))) sNx)
theorem or_no {t u : BM} {env : Envr} {S : Sto} (h : t env S = .ok false S) (h2 : u env S = .ok false S) : bOr t u env S = .ok false S := by
  show (t env S).bind _ = _
  rw [h]
  exact h2
section
variable {tab : List (List Int)} {sh : List Int} {n l : Nat} {S : Sto}
theorem call4 {f : FM} {m m2 m3 m4 : EM} {env : Envr} {S S1 S2 S3 S4 : Sto} {d d2 d3 d4 : D} {r : Ot D} (h : m env S = .ok d S1) (h2 : m2 env S1 = .ok d2 S2) (h3 : m3 env S2 = .ok d3 S3) (h4 : m4 env S3 = .ok d4 S4) (hf : f [d, d2, d3, d4] S4 = r) : eCall f (aCons m (aCons m2 (aCons m3 (aCons m4 aNil)))) env S = r := by
  unfold eCall aCons aNil
  simp only [h, h2, h3, h4, Ot.bind, aCons, aNil, hf]
theorem o1_ok (M : IsM n l tab sh) (h0 : 0 < n) (hn8 : n ≤ 8) (l0 : 0 < l) (l4 : l ≤ 4) {d0 d2 d3 d5 d6 : Option D} {x : PyData} (hb : bel x n = false) (k : okD x 10000 4) :
    b_o1 [d0, some (.p (mach tab sh)), d2, d3, some (.p x), d5, d6] S = .nx [d0, some (.p (mach tab sh)), d2, d3, some (.p x), d5, d6] S := by
  have kF := k_up (okD_mach M hn8 l4)
  have r1 := right_s (S := S) (y := .tuple []) kF k (k_up k_te) (run_s M h0 hn8 l0 l4 hb)
  have r2 := right_s (S := S) (y := .none) kF k (k_up k_none) (run_s M h0 hn8 l0 l4 hb)
  have r3 := right_m (S := S) (F := .tuple []) (d := .tuple []) (k_up k_te) k k (k_up k_te) (run_m (x := x) (y := x))
  refine (sSeq_nx (if_no (or_no (not_ok (bof_ok (call4 (d := .p (mach tab sh)) (d2 := .p x) (d3 := .p (.tuple [])) (d4 := .p (.tuple [.str "standing", x])) (S1 := S) (S2 := S) (S3 := S) (S4 := S) rfl rfl rfl rfl r1))) (not_ok (bof_ok (call4 (d := .p (mach tab sh)) (d2 := .p x) (d3 := .p .none) (d4 := .p (.tuple [.str "standing", x])) (S1 := S) (S2 := S) (S3 := S) (S4 := S) rfl rfl rfl rfl r2)))))).trans ?_
  exact if_no (not_ok (bof_ok (call4 (d := .p (.tuple [])) (d2 := .p x) (d3 := .p x) (d4 := .p (.tuple [.str "machine", .tuple []])) (S1 := S) (S2 := S) (S3 := S) (S4 := S) rfl rfl rfl rfl r3)))
theorem o2_ok (M : IsM n l tab sh) (h0 : 0 < n) (hn8 : n ≤ 8) (l0 : 0 < l) (l4 : l ≤ 4) {d0 d3 d5 d6 : Option D} {x : PyData} (h1 : tup_ x 0 400 = false) (h2 : ∀ kvs, x = .dict kvs → isiB (tyP x) .tup = false) (k : okD x 10000 4) :
    b_o2 [d0, some (.p (mach tab sh)), some (pI n), d3, some (.p x), d5, d6] S = .nx [d0, some (.p (mach tab sh)), some (pI n), d3, some (.p x), d5, d6] S := by
  have kF := k_up (okD_mach M hn8 l4)
  have r1 := right_w (S := S) (x := .int ((n : Int) - 1)) (y := x) (d := .none) kF (k_up (k_int (by omega) (by omega))) k (k_up k_none) (run_w M h0 hn8 l0 l4 (b := (n : Int) - 1) (by omega) (by omega) (word_none h1 h2))
  exact if_no (not_ok (bof_ok (call4 (d := .p (mach tab sh)) (d2 := pI ((n : Int) - 1)) (d3 := .p x) (d4 := .p (.tuple [.str "word", .none])) (S1 := S) (S2 := S) (S3 := S) (S4 := S) rfl rfl rfl rfl r1)))
theorem o3_ok (M : IsM n l tab sh) (h0 : 0 < n) (hn8 : n ≤ 8) (l0 : 0 < l) (l4 : l ≤ 4) {d0 d2 d3 d6 : Option D} {w : List Int} {x : PyData} (hl : w.length ≤ 3) (hw : ∀ y ∈ w, 0 ≤ y ∧ y < (l : Int)) (hb : bel x l = false) (k : okD x 1000 3) :
    b_o3 [d0, some (.p (mach tab sh)), d2, d3, some (.p x), some (.p (tI w)), d6] S = .nx [d0, some (.p (mach tab sh)), d2, d3, some (.p x), some (.p (tI w)), d6] S := by
  have kF := k_up (okD_mach M hn8 l4)
  have kw : okD (.tuple (w.map .int ++ [x, x])) 10000 4 := okD_mono (okD_tup (c := 1000) (h := 3) (m := 5) (fun d hd => by
    rcases List.mem_append.mp hd with hd | hd
    · obtain ⟨y, hy, rfl⟩ := List.mem_map.mp hd
      exact k_int (hw y hy).1 (by have := (hw y hy).2; omega)
    · simp only [List.mem_cons, List.not_mem_nil, or_false] at hd
      rcases hd with rfl | rfl <;> exact k) (by rw [List.length_append, List.length_map]; show w.length + 2 ≤ 5; omega)) (by omega) (by omega)
  have wb := word_bad (S := S) (g := w.map .int) (r := [x]) (x := x) M h0 (by rw [List.length_append, List.length_map]; show w.length + 2 ≤ 400; omega) (fun d hd => by
    obtain ⟨y, hy, rfl⟩ := List.mem_map.mp hd
    exact bel_in (hw y hy).1 (hw y hy).2) hb
  rw [List.length_map] at wb
  have r1 := right_w (S := S) (x := .int 0) (y := .tuple (w.map .int ++ [x, x])) (d := .int w.length) kF (k_up (k_int (by omega) (by omega))) kw (k_up (k_int (by omega) (by omega))) (run_w M h0 hn8 l0 l4 (b := 0) (by omega) (by omega) wb)
  have ad : eOp addD (eVar 5) (eTup (aCons (eVar 4) (aCons (eVar 4) aNil))) [d0, some (.p (mach tab sh)), d2, d3, some (.p x), some (.p (tI w)), d6] S = .ok (.p (.tuple (w.map .int ++ [x, x]))) S := by
    refine op2 (d := .p (tI w)) (d2 := .p (.tuple [x, x])) (S1 := S) (S2 := S) rfl rfl ?_
    have hz : ([x, x] ≠ [] ∧ (w.map PyData.int).length + [x, x].length ≤ sizeLine) := ⟨by simp, by rw [List.length_map]; exact Nat.le_trans (by show w.length + 2 ≤ 5; omega) (by decide : 5 ≤ sizeLine)⟩
    show (if (w.map PyData.int) ≠ [] ∧ [x, x] ≠ [] ∧ (w.map PyData.int).length + [x, x].length ≤ sizeLine then (Ot.ok (.p (.tuple (w.map PyData.int ++ [x, x]))) S : Ot D) else if w.map PyData.int = [] then .ok (.p (.tuple [x, x])) S else if [x, x] = [] ∧ (w.map PyData.int).length ≤ sizeLine then .ok (.p (.tuple (w.map PyData.int))) S else .bad) = _
    by_cases hne : w = []
    · subst hne
      rw [if_neg (fun q => q.1 rfl), if_pos (show ([] : List Int).map PyData.int = [] from rfl)]
      rfl
    · rw [if_pos ⟨by simpa using hne, hz⟩]
  have du : eTup (aCons (eC (.str "word")) (aCons (eCall lenF (aCons (eVar 5) aNil)) aNil)) [d0, some (.p (mach tab sh)), d2, d3, some (.p x), some (.p (tI w)), d6] S = .ok (.p (.tuple [.str "word", .int w.length])) S := by
    refine tup2 (x := .str "word") (y := .int w.length) (S1 := S) rfl (call1 (d := .p (tI w)) (S1 := S) rfl ?_)
    show (Ot.ok (.p (.int ((w.map PyData.int).length : Nat))) S : Ot D) = _
    rw [List.length_map]
  exact if_no (not_ok (bof_ok (call4 (d := .p (mach tab sh)) (d2 := pI 0) (S1 := S) (S2 := S) (S3 := S) (S4 := S) rfl rfl ad du r1)))
end
end Lw

/-! R8 -/
set_option Elab.async false
set_option linter.all false
set_option maxRecDepth 100000
set_option maxHeartbeats 4000000
set_option autoImplicit false
namespace Lw
open PySem PySem.Spec PyProof.Rows L2 Mi
section
variable {tab : List (List Int)} {sh : List Int} {n l : Nat}
theorem len_tab' {env : Envr} {S : Sto} {j : Nat} (M : IsM n l tab sh) (h : env[j]? = some (some (.p (mach tab sh)))) : eCall lenF (aCons (eOp ixD (eVar j) (eC (.int 0))) aNil) env S = .ok (pI n) S := by
  have e0 : eVar j env S = .ok (.p (mach tab sh)) S := by
    unfold eVar
    rw [h]
  refine call1 (d := .p (.tuple (tab.map tI))) (op2 (d := .p (mach tab sh)) (d2 := pI 0) (S1 := S) (S2 := S) e0 rfl rfl) ?_
  show (Ot.ok (.p (.int ((tab.map tI).length : Nat))) S : Ot D) = _
  rw [List.length_map, M.len]
theorem len_row' {env : Envr} {S : Sto} {j : Nat} (M : IsM n l tab sh) (h0 : 0 < n) (h : env[j]? = some (some (.p (mach tab sh)))) : eCall lenF (aCons (eOp ixD (eOp ixD (eVar j) (eC (.int 0))) (eC (.int 0))) aNil) env S = .ok (pI l) S := by
  have e0 : eVar j env S = .ok (.p (mach tab sh)) S := by
    unfold eVar
    rw [h]
  obtain ⟨r0, hr0, at0⟩ := at_mem tI (l := tab) (v := 0) (by omega) (by rw [M.len]; omega)
  have e1 : eOp ixD (eVar j) (eC (.int 0)) env S = .ok (.p (.tuple (tab.map tI))) S := op2 (d := .p (mach tab sh)) (d2 := pI 0) (S1 := S) (S2 := S) e0 rfl rfl
  have e2 : eOp ixD (eOp ixD (eVar j) (eC (.int 0))) (eC (.int 0)) env S = .ok (.p (tI r0)) S := op2 (d2 := pI 0) (S2 := S) e1 rfl (by
    show (match atI (tab.map tI) 0 with | some d => (Ot.ok (.p d) S : Ot D) | none => .bad) = _
    rw [at0])
  refine call1 e2 ?_
  show (Ot.ok (.p (.int ((r0.map PyData.int).length : Nat))) S : Ot D) = _
  rw [List.length_map, (M.row r0 hr0).1]
theorem take_ge {S S' : Sto} (h : S'.length = S.length) : S'.take S.length = S' := by rw [← h, List.take_length]
theorem drawn_letters_len {B : Int} {S S0 : Sto} {i c l i0 j : Nat} {env : Envr} {a : AM} {mw : EM} : True := trivial
theorem refused_ok {B : Int} {S : Sto} {i : Nat} (M : IsM n l tab sh) (h0 : 0 < n) (hn8 : n ≤ 8) (l0 : 0 < l) (l4 : l ≤ 4) (g : Gd B S i) (hB : B < 900000000) :
    ∃ S', b_law_refused [some (.loc i), some (.p (mach tab sh)), none, none, none, none, none] S = .rt (.p (.bool true)) S' ∧ Gd (B + 20) S' i := by
  have kF := k_up (okD_mach M hn8 l4)
  -- many, wide
  have s1 : (sAsg (eTup (aCons (eCall lenF (aCons (eOp ixD (eVar 1) (eC (.int 0))) aNil)) (aCons (eCall lenF (aCons (eOp ixD (eOp ixD (eVar 1) (eC (.int 0))) (eC (.int 0))) aNil)) aNil))) (gT [(gN 2), (gN 3)])) [some (.loc i), some (.p (mach tab sh)), none, none, none, none, none] S = .nx [some (.loc i), some (.p (mach tab sh)), some (pI n), some (pI l), none, none, none] S :=
    asg_ok (tup2 (len_tab' M rfl) (len_row' M h0 rfl)) rfl
  -- standings
  obtain ⟨o4, q1⟩ := by_loop (S := S) (g := gN 4) (body := b_o1) (fun o => [some (.loc i), some (.p (mach tab sh)), some (pI n), some (pI l), o, none, none]) (odds n) none (fun d hd o => ⟨rfl, o1_ok M h0 hn8 l0 l4 (odds_ok hn8 d hd).1 (odds_ok hn8 d hd).2⟩)
  have s2 : (sFor (iT (eTup (aCons (eC .none) (aCons (eUn negD (eC (.int 1))) (aCons (eVar 2) (aCons (eC (.bool true)) (aCons (eC (.bool false)) (aCons (eC (.str "0")) (aCons (eTup (aCons (eC (.int 0)) aNil)) (aCons (eLst (aCons (eC (.int 0)) aNil)) (aCons eD0 (aCons (eOp powD (eC (.int 10)) (eC (.int 30))) aNil)))))))))))) (gN 4) (sSeq (sIf (bOr (bNot (bOf (eCall m_law_right (aCons (eVar 1) (aCons (eVar 4) (aCons (eTup aNil) (aCons (eTup (aCons (eC (.str "standing")) (aCons (eVar 4) aNil))) aNil))))))) (bNot (bOf (eCall m_law_right (aCons (eVar 1) (aCons (eVar 4) (aCons (eC .none) (aCons (eTup (aCons (eC (.str "standing")) (aCons (eVar 4) aNil))) aNil)))))))) (sRet (eC (.bool false))) sNx) (sIf (bNot (bOf (eCall m_law_right (aCons (eTup aNil) (aCons (eVar 4) (aCons (eVar 4) (aCons (eTup (aCons (eC (.str "machine")) (aCons (eTup aNil) aNil))) aNil))))))) (sRet (eC (.bool false))) sNx))) [some (.loc i), some (.p (mach tab sh)), some (pI n), some (pI l), none, none, none] S = .nx [some (.loc i), some (.p (mach tab sh)), some (pI n), some (pI l), o4, none, none] S :=
    (sFor_TT (l := odds n) (S' := S) rfl).trans q1
  -- good letters
  obtain ⟨c, S1, d1, c0, c1, g1, _⟩ := draw_ok (many := 4) g (by omega) (by omega) (by omega)
  obtain ⟨cn, rfl⟩ : ∃ cn : Nat, c = cn := ⟨c.toNat, by omega⟩
  obtain ⟨w, S2, d2, w1, w2, g2⟩ := drawn_letters (S := S1) (S0 := S) (i := i) (c := cn) (l := l) (i0 := 0) (j := 6) (env := [some (.loc i), some (.p (mach tab sh)), some (pI n), some (pI l), o4, none, none]) (a := aCons (eCall m_law_draw (aCons (eVar 0) (aCons (eC (.int 4)) aNil))) aNil) (mw := eVar 3) (by
    have e : eCall m_law_draw (aCons (eVar 0) (aCons (eC (.int 4)) aNil)) [some (.loc i), some (.p (mach tab sh)), some (pI n), some (pI l), o4, none, none] S = .ok (pI cn) S1 := call2 (d := .loc i) (d2 := pI 4) (S1 := S) (S2 := S) rfl rfl d1
    simp only [aCons, aNil, e, Ot.bind]) g1 (by omega) (by omega) l0 l4 (fun _ => rfl) (fun _ _ => rfl)
  have s3 : (sAsg (eCall tupF (aCons (eComp false (iR1 (aCons (eCall m_law_draw (aCons (eVar 0) (aCons (eC (.int 4)) aNil))) aNil)) [6] (gN 6) bYes (eCall m_law_draw (aCons (eVar 0) (aCons (eVar 3) aNil)))) aNil)) (gN 5)) [some (.loc i), some (.p (mach tab sh)), some (pI n), some (pI l), o4, none, none] S = .nx [some (.loc i), some (.p (mach tab sh)), some (pI n), some (pI l), o4, some (.p (tI w)), none] S2 :=
    asg_ok (d := .p (tI w)) (call1 (d := .p (lI w)) (S1 := S2) d2 rfl) rfl
  -- words
  obtain ⟨o4', q2⟩ := by_loop (S := S2) (g := gN 4) (body := b_o2) (fun o => [some (.loc i), some (.p (mach tab sh)), some (pI n), some (pI l), o, some (.p (tI w)), none]) oddw o4 (fun d hd o => ⟨rfl, o2_ok M h0 hn8 l0 l4 (oddw_ok d hd).1 (oddw_ok d hd).2.1 (oddw_ok d hd).2.2⟩)
  have tw : eTup (aCons (eC .none) (aCons (eLst (aCons (eC (.int 0)) aNil)) (aCons (eLst aNil) (aCons (eC (.str "0")) (aCons (eC (.str "")) (aCons (eC (.int 0)) (aCons eD0 (aCons (eOp repD (eTup (aCons (eC (.int 0)) aNil)) (eC (.int 401))) (aCons (eOp repD (eTup (aCons (eC .none) aNil)) (eC (.int 401))) aNil))))))))) [some (.loc i), some (.p (mach tab sh)), some (pI n), some (pI l), o4, some (.p (tI w)), none] S2 = .ok (.p (.tuple oddw)) S2 := by
    have r1 : eOp repD (eTup (aCons (eC (.int 0)) aNil)) (eC (.int 401)) [some (.loc i), some (.p (mach tab sh)), some (pI n), some (pI l), o4, some (.p (tI w)), none] S2 = .ok (.p (.tuple (List.replicate 401 (.int 0)))) S2 := op2 (d := .p (.tuple [.int 0])) (d2 := pI (401 : Nat)) (S1 := S2) (S2 := S2) rfl rfl (repN (by omega) (by omega))
    have r2 : eOp repD (eTup (aCons (eC .none) aNil)) (eC (.int 401)) [some (.loc i), some (.p (mach tab sh)), some (pI n), some (pI l), o4, some (.p (tI w)), none] S2 = .ok (.p (.tuple (List.replicate 401 .none))) S2 := op2 (d := .p (.tuple [.none])) (d2 := pI (401 : Nat)) (S1 := S2) (S2 := S2) rfl rfl (repN (by omega) (by omega))
    have tl : (aCons (eOp repD (eTup (aCons (eC (.int 0)) aNil)) (eC (.int 401))) (aCons (eOp repD (eTup (aCons (eC .none) aNil)) (eC (.int 401))) aNil)) [some (.loc i), some (.p (mach tab sh)), some (pI n), some (pI l), o4, some (.p (tI w)), none] S2 = .ok [.p (.tuple (List.replicate 401 (.int 0))), .p (.tuple (List.replicate 401 .none))] S2 := by
      simp only [aCons, aNil, r1, r2, Ot.bind]
    obtain ⟨Z, hZ⟩ : ∃ Z, Z = aCons (eOp repD (eTup (aCons (eC (.int 0)) aNil)) (eC (.int 401))) (aCons (eOp repD (eTup (aCons (eC .none) aNil)) (eC (.int 401))) aNil) := ⟨_, rfl⟩
    rw [← hZ] at tl ⊢
    unfold eTup
    have al : aCons (eC .none) (aCons (eLst (aCons (eC (.int 0)) aNil)) (aCons (eLst aNil) (aCons (eC (.str "0")) (aCons (eC (.str "")) (aCons (eC (.int 0)) (aCons eD0 Z)))))) [some (.loc i), some (.p (mach tab sh)), some (pI n), some (pI l), o4, some (.p (tI w)), none] S2 = .ok (oddw.map .p) S2 := by
      have a1 : eLst (aCons (eC (.int 0)) aNil) [some (.loc i), some (.p (mach tab sh)), some (pI n), some (pI l), o4, some (.p (tI w)), none] S2 = .ok (.p (.list [.int 0])) S2 := rfl
      have a2 : eLst aNil [some (.loc i), some (.p (mach tab sh)), some (pI n), some (pI l), o4, some (.p (tI w)), none] S2 = .ok (.p (.list [])) S2 := rfl
      simp only [aCons, eC, eD0, a1, a2, tl, Ot.bind]
      rfl
    rw [al]
    show mkTup (oddw.map .p) S2 = _
    unfold mkTup
    rw [plains_map]
    show (if oddw.length ≤ sizeLine then (Ot.ok (.p (.tuple oddw)) S2 : Ot D) else .bad) = _
    rw [if_pos (show oddw.length ≤ sizeLine from Nat.le_trans (show oddw.length ≤ 9 from Nat.le_refl 9) (by decide))]
  have s4 : (sFor (iT (eTup (aCons (eC .none) (aCons (eLst (aCons (eC (.int 0)) aNil)) (aCons (eLst aNil) (aCons (eC (.str "0")) (aCons (eC (.str "")) (aCons (eC (.int 0)) (aCons eD0 (aCons (eOp repD (eTup (aCons (eC (.int 0)) aNil)) (eC (.int 401))) (aCons (eOp repD (eTup (aCons (eC .none) aNil)) (eC (.int 401))) aNil))))))))))) (gN 4) (sIf (bNot (bOf (eCall m_law_right (aCons (eVar 1) (aCons (eOp subD (eVar 2) (eC (.int 1))) (aCons (eVar 4) (aCons (eTup (aCons (eC (.str "word")) (aCons (eC .none) aNil))) aNil))))))) (sRet (eC (.bool false))) sNx)) [some (.loc i), some (.p (mach tab sh)), some (pI n), some (pI l), o4, some (.p (tI w)), none] S2 = .nx [some (.loc i), some (.p (mach tab sh)), some (pI n), some (pI l), o4', some (.p (tI w)), none] S2 :=
    (sFor_TT (l := oddw) (S' := S2) tw).trans q2
  obtain ⟨o4'', q3⟩ := by_loop (S := S2) (g := gN 4) (body := b_o3) (fun o => [some (.loc i), some (.p (mach tab sh)), some (pI n), some (pI l), o, some (.p (tI w)), none]) (oddl l) o4' (fun d hd o => ⟨rfl, o3_ok M h0 hn8 l0 l4 (by omega) w2 (oddl_ok l4 d hd).1 (oddl_ok l4 d hd).2⟩)
  have s5 : (sFor (iT (eTup (aCons (eC .none) (aCons (eUn negD (eC (.int 1))) (aCons (eVar 3) (aCons (eC (.bool true)) (aCons (eC (.str "0")) (aCons (eTup (aCons (eC (.int 0)) aNil)) (aCons (eLst (aCons (eC (.int 0)) aNil)) (aCons eD0 (aCons (eOp powD (eC (.int 10)) (eC (.int 30))) aNil))))))))))) (gN 4) (sIf (bNot (bOf (eCall m_law_right (aCons (eVar 1) (aCons (eC (.int 0)) (aCons (eOp addD (eVar 5) (eTup (aCons (eVar 4) (aCons (eVar 4) aNil)))) (aCons (eTup (aCons (eC (.str "word")) (aCons (eCall lenF (aCons (eVar 5) aNil)) aNil))) aNil))))))) (sRet (eC (.bool false))) sNx)) [some (.loc i), some (.p (mach tab sh)), some (pI n), some (pI l), o4', some (.p (tI w)), none] S2 = .nx [some (.loc i), some (.p (mach tab sh)), some (pI n), some (pI l), o4'', some (.p (tI w)), none] S2 :=
    (sFor_TT (l := oddl l) (S' := S2) rfl).trans q3
  have gd := gone_ok (S := S2) M (b := (n : Int) - 1) (w := w) (by omega) (by omega) (by omega) w2
  have rg := right_g (S := S2) M h0 hn8 l0 l4 (b := (n : Int) - 1) (w := w) (by omega) (by omega) (by omega) w2
  have s6 : (sRet (eCall m_law_right (aCons (eVar 1) (aCons (eOp subD (eVar 2) (eC (.int 1))) (aCons (eVar 5) (aCons (eLst (aCons (eCall m_law_gone (aCons (eVar 1) (aCons (eOp subD (eVar 2) (eC (.int 1))) (aCons (eVar 5) aNil)))) aNil)) aNil)))))) [some (.loc i), some (.p (mach tab sh)), some (pI n), some (pI l), o4'', some (.p (tI w)), none] S2 = .rt (.p (.bool true)) S2 :=
    ret_ok (call4 (d := .p (mach tab sh)) (d2 := pI ((n : Int) - 1)) (d3 := .p (tI w)) (d4 := .p (.list [tI (gone tab ((n : Int) - 1) w)])) (S1 := S2) (S2 := S2) (S3 := S2) (S4 := S2) rfl rfl rfl (lst1 (call3 (d := .p (mach tab sh)) (d2 := pI ((n : Int) - 1)) (d3 := .p (tI w)) (S1 := S2) (S2 := S2) (S3 := S2) rfl rfl rfl gd)) rg)
  exact ⟨S2, (sSeq_nx s1).trans ((sSeq_nx s2).trans ((sSeq_nx s3).trans ((sSeq_nx s4).trans ((sSeq_nx s5).trans s6)))), g2.mono (by omega)⟩
end
end Lw

/-! R9 -/
set_option Elab.async false
set_option linter.all false
set_option maxRecDepth 100000
set_option maxHeartbeats 4000000
set_option autoImplicit false
namespace Lw
open PySem PySem.Spec PyProof.Rows L2 Mi
theorem lst4 {m1 m2 m3 m4 : EM} {env : Envr} {S : Sto} {x y z u : PyData} (h1 : m1 env S = .ok (.p x) S) (h2 : m2 env S = .ok (.p y) S) (h3 : m3 env S = .ok (.p z) S) (h4 : m4 env S = .ok (.p u) S) : eLst (aCons m1 (aCons m2 (aCons m3 (aCons m4 aNil)))) env S = .ok (.p (.list [x, y, z, u])) S := by
  unfold eLst aCons aNil
  simp only [h1, h2, h3, h4, Ot.bind, aCons, aNil]
  rfl
theorem same_rep {m1 m2 : EM} {env : Envr} {S : Sto} {d : PyData} {c h : Nat} {b : SM} (k : okD d c h) (hc : c < 1000000) (hh : h ≤ 60) (h1 : m1 env S = .ok (.p d) S) (h2 : m2 env S = .ok (.p d) S) :
    sIf (bOf (eOp (eqD true) (eCall repF (aCons m1 aNil)) (eCall repF (aCons m2 aNil)))) b sNx env S = .nx env S :=
  if_no (bof_ok (op2 (call1 h1 (rep_ok k hc hh)) (call1 h2 (rep_ok k hc hh)) (eq_str true k)))
def tab6 : List (List Int) := [[1], [2], [3], [4], [5], [0]]
def sh6 : List Int := [0, 0, 0, 0, 0, 1]
def tab2 : List (List Int) := [[1, 0], [2, 1], [0, 2]]
def sh2 : List Int := [0, 0, 1]
theorem M6 : IsM 6 1 tab6 sh6 := ⟨rfl, by decide, rfl, by decide⟩
theorem M2 : IsM 3 2 tab2 sh2 := ⟨rfl, by decide, rfl, by decide⟩
def z400 : List Int := List.replicate 400 0
def o400 : List Int := List.replicate 400 1
def far_ : List Int := gone tab6 0 z400
theorem far_end : far_.drop 399 = [3, 4] := by decide +kernel
theorem two_far : gone tab2 0 o400 = List.replicate 401 0 := by decide +kernel
theorem far_len : far_.length = 401 := by
  unfold far_ z400
  rw [gone_len, List.length_replicate]
theorem rep_lit {x : Int} {n : Nat} : PyData.tuple (List.replicate n (.int x)) = tI (List.replicate n x) := by
  show _ = PyData.tuple ((List.replicate n x).map .int)
  rw [List.map_replicate]
theorem repE {x : Int} {n : Nat} {env : Envr} {S : Sto} (h0 : 2 ≤ n) (hn : n ≤ 900) : eOp repD (eTup (aCons (eC (.int x)) aNil)) (eC (.int n)) env S = .ok (.p (tI (List.replicate n x))) S := by
  rw [← rep_lit]
  exact op2 (d := .p (.tuple [.int x])) (d2 := pI n) (S1 := S) (S2 := S) rfl rfl (repN h0 hn)
theorem or3_no {t u v : BM} {env : Envr} {S : Sto} (h : t env S = .ok false S) (h2 : u env S = .ok false S) (h3 : v env S = .ok false S) : bOr t (bOr u v) env S = .ok false S := or_no h (or_no h2 h3)
section
variable {S : Sto}
abbrev hE (a b c d e : Option D) : Envr := [a, b, c, d, e]
abbrev d6 : Option D := some (.p (mach tab6 sh6))
abbrev d2_ : Option D := some (.p (mach tab2 sh2))
theorem low_of {xs : List Int} (h : decide (∀ x ∈ xs, 0 ≤ x ∧ x ≤ 9) = true) : ∀ x ∈ xs, 0 ≤ x ∧ x ≤ 9 := of_decide_eq_true h
theorem in_of {l : Nat} {xs : List Int} (h : decide (∀ x ∈ xs, 0 ≤ x ∧ x < (l : Int)) = true) : ∀ x ∈ xs, 0 ≤ x ∧ x < (l : Int) := of_decide_eq_true h
theorem z_in : ∀ x ∈ z400, 0 ≤ x ∧ x < ((1 : Nat) : Int) := fun x hx => by rw [(List.mem_replicate.mp hx).2]; omega
theorem o_in : ∀ x ∈ o400, 0 ≤ x ∧ x < ((2 : Nat) : Int) := fun x hx => by rw [(List.mem_replicate.mp hx).2]; omega
theorem hand_right_ok : m_law_hand_right [] S = .ok (.p (.bool true)) S := by
  have a1 := run_ok (S := S) M6 (by omega) (by omega) (by omega) (by omega) (b := 4) (w := [0, 0, 0]) (by omega) (by omega) (by decide) (by decide)
  have a2 := run_ok (S := S) M6 (by omega) (by omega) (by omega) (by omega) (b := 4) (w := []) (by omega) (by omega) (by decide) (by decide)
  have a3 := run_ok (S := S) M2 (by omega) (by omega) (by omega) (by omega) (b := 0) (w := [0, 1, 0, 1, 0, 0]) (by omega) (by omega) (by decide) (by decide)
  have a4 := run_ok (S := S) M2 (by omega) (by omega) (by omega) (by omega) (b := 2) (w := [1, 1, 0]) (by omega) (by omega) (by decide) (by decide)
  have far := run_ok (S := S) M6 (by omega) (by omega) (by omega) (by omega) (b := 0) (w := z400) (by omega) (by omega) (by unfold z400; rw [List.length_replicate]; exact Nat.le_refl _) z_in
  have fargone := gone_ok (S := S) M6 (b := 0) (w := z400) (by omega) (by omega) (by unfold z400; rw [List.length_replicate]; exact Nat.le_refl _) z_in
  have far2 := run_ok (S := S) M2 (by omega) (by omega) (by omega) (by omega) (b := 0) (w := o400) (by omega) (by omega) (by unfold o400; rw [List.length_replicate]; exact Nat.le_refl _) o_in
  have kfar : okD (tI far_) 10000 4 := k_tI (by rw [far_len]; exact Nat.le_refl _) (gone_low M6 (by omega) (by omega) (by omega) z_in)
  have body : b_law_hand_right (hE none none none none none) S = .rt (.p (.bool true)) S := by
    unfold b_law_hand_right
    refine (sSeq_nx (e1 := hE d6 none none none none) (S1 := S) rfl).trans ?_
    refine (sSeq_nx (e1 := hE d6 d2_ none none none) (S1 := S) rfl).trans ?_
    refine (sSeq_nx (e1 := hE d6 d2_ (some (.p (.list [tI [4, 5, 0, 1], tI [4], tI [0, 1, 1, 2, 2, 0, 1], tI [2, 2, 2, 0]]))) none none) (S1 := S) ?_).trans ?_
    · exact asg_ok (lst4 (call3 (d := .p (mach tab6 sh6)) (d2 := pI 4) (d3 := .p (tI [0, 0, 0])) (S1 := S) (S2 := S) (S3 := S) rfl rfl rfl a1) (call3 (d := .p (mach tab6 sh6)) (d2 := pI 4) (d3 := .p (tI [])) (S1 := S) (S2 := S) (S3 := S) rfl rfl rfl a2)
        (call3 (d := .p (mach tab2 sh2)) (d2 := pI 0) (d3 := .p (tI [0, 1, 0, 1, 0, 0])) (S1 := S) (S2 := S) (S3 := S) rfl rfl rfl a3) (call3 (d := .p (mach tab2 sh2)) (d2 := pI 2) (d3 := .p (tI [1, 1, 0])) (S1 := S) (S2 := S) (S3 := S) rfl rfl rfl a4)) rfl
    refine (sSeq_nx (same_rep (d := .list [tI [4, 5, 0, 1], tI [4], tI [0, 1, 1, 2, 2, 0, 1], tI [2, 2, 2, 0]]) (okD_list (c := 10000) (h := 4) (m := 4) (fun d hd => ?_) (Nat.le_refl _)) (by omega) (by omega) rfl rfl)).trans ?_
    · simp only [List.mem_cons, List.not_mem_nil, or_false] at hd
      rcases hd with rfl | rfl | rfl | rfl <;> exact k_tI (by decide) (by decide)
    refine (sSeq_nx (e1 := hE d6 d2_ (some (.p (.list [tI [4, 5, 0, 1], tI [4], tI [0, 1, 1, 2, 2, 0, 1], tI [2, 2, 2, 0]]))) (some (.p (tI far_))) none) (S1 := S) ?_).trans ?_
    · exact asg_ok (call3 (d := .p (mach tab6 sh6)) (d2 := pI 0) (S1 := S) (S2 := S) (S3 := S) rfl rfl (repE (x := 0) (n := 400) (by omega) (by omega)) far) rfl
    refine (sSeq_nx (if_no (or3_no ?_ ?_ ?_))).trans ?_
    · refine bof_ok (op2 (d := pI 401) (d2 := pI 401) (S1 := S) (S2 := S) (call1 (d := .p (tI far_)) (S1 := S) rfl ?_) rfl rfl)
      show (Ot.ok (.p (.int ((far_.map PyData.int).length : Nat))) S : Ot D) = _
      rw [List.length_map, far_len]
      rfl
    · refine bof_ok (op2 (d := .p (tI [3, 4])) (d2 := .p (tI [3, 4])) (S1 := S) (S2 := S) ?_ rfl (eq_tt true _ _ S))
      show (Ot.ok (.p (.tuple (cutL (far_.map PyData.int) (some 399) none))) S : Ot D) = _
      have e : cutL (far_.map PyData.int) (some 399) none = (far_.drop 399).map PyData.int := by
        unfold cutL
        rw [List.length_map, far_len]
        show ((far_.map PyData.int).drop (HT.sIx 401 0 (some ((399 : Nat) : Int)))).take (HT.sIx 401 401 none - HT.sIx 401 0 (some ((399 : Nat) : Int))) = _
        rw [HT.sIx_nat, HT.sIx_none, ← List.map_drop, ← List.map_take]
        show ((far_.drop 399).take 2).map PyData.int = _
        rw [far_end]
        rfl
      rw [e, far_end]
    · refine bof_ok (op2 (call1 (d := .p (tI far_)) (S1 := S) rfl (rep_ok kfar (by omega) (by omega))) (call1 (d := .p (tI far_)) (S1 := S) (call3 (d := .p (mach tab6 sh6)) (d2 := pI 0) (S1 := S) (S2 := S) (S3 := S) rfl rfl (repE (x := 0) (n := 400) (by omega) (by omega)) fargone) (rep_ok kfar (by omega) (by omega))) (eq_str true kfar))
    refine (sSeq_nx (same_rep (d := .list [tI (List.replicate 401 0)]) (k_one (by rw [← rep_lit]; exact k_zeros)) (by omega) (by omega) ?_ ?_)).trans ?_
    · rw [two_far] at far2
      exact call3 (d := .p (mach tab2 sh2)) (d2 := pI 0) (S1 := S) (S2 := S) (S3 := S) rfl rfl (repE (x := 1) (n := 400) (by omega) (by omega)) (heard_ok far2)
    · exact lst1 (repE (x := 0) (n := 401) (by omega) (by omega))
    have wl : eOp addD (eOp repD (eTup (aCons (eC (.int 0)) aNil)) (eC (.int 399))) (eTup (aCons (eC (.int 1)) aNil)) (hE d6 d2_ (some (.p (.list [tI [4, 5, 0, 1], tI [4], tI [0, 1, 1, 2, 2, 0, 1], tI [2, 2, 2, 0]]))) (some (.p (tI far_))) none) S = .ok (.p (.tuple ((List.replicate 399 (0 : Int)).map .int ++ [.int 1]))) S := by
      refine op2 (d2 := .p (.tuple [.int 1])) (S2 := S) (repE (x := 0) (n := 399) (by omega) (by omega)) rfl ?_
      have ne : (List.replicate 399 (0 : Int)).map PyData.int ≠ [] := by simp
      show (if (List.replicate 399 (0 : Int)).map PyData.int ≠ [] ∧ [PyData.int 1] ≠ [] ∧ ((List.replicate 399 (0 : Int)).map PyData.int).length + [PyData.int 1].length ≤ sizeLine then (Ot.ok (.p (.tuple ((List.replicate 399 (0 : Int)).map .int ++ [.int 1]))) S : Ot D) else if (List.replicate 399 (0 : Int)).map PyData.int = [] then .ok (.p (.tuple [.int 1])) S else if [PyData.int 1] = [] ∧ ((List.replicate 399 (0 : Int)).map PyData.int).length ≤ sizeLine then .ok (.p (.tuple ((List.replicate 399 (0 : Int)).map PyData.int))) S else .bad) = _
      rw [if_pos ⟨ne, by simp, by rw [List.length_map, List.length_replicate]; decide⟩]
    refine (sSeq_nx (asg_ok wl rfl)).trans ?_
    have kF := k_up (okD_mach M6 (by omega) (by omega))
    have r1 := right_w (S := S) (x := .int 0) (y := .tuple (List.replicate 401 (.int 0))) (d := .none) kF (k_up (k_int (by omega) (by omega))) k_zeros (k_up k_none) (run_w M6 (by omega) (by omega) (by omega) (by omega) (b := 0) (by omega) (by omega) (word_none (by
      show decide ((0 : Int) ≤ ((List.replicate 401 (PyData.int 0)).length : Int) ∧ ((List.replicate 401 (PyData.int 0)).length : Int) ≤ 400) = false
      rw [List.length_replicate]
      rfl) (fun _ z => (by cases z))))
    have wb := word_bad (S := S) (g := (List.replicate 399 (0 : Int)).map .int) (r := []) (x := .int 1) M6 (by omega) (by rw [List.length_append, List.length_map, List.length_replicate]; decide) (fun d hd => by
      obtain ⟨y, hy, rfl⟩ := List.mem_map.mp hd
      rw [(List.mem_replicate.mp hy).2]
      rfl) rfl
    rw [List.length_map, List.length_replicate] at wb
    have kl : okD (.tuple ((List.replicate 399 (0 : Int)).map .int ++ [.int 1])) 10000 4 := by
      have e : PyData.tuple ((List.replicate 399 (0 : Int)).map .int ++ [.int 1]) = tI (List.replicate 399 0 ++ [1]) := by
        show _ = PyData.tuple ((List.replicate 399 (0 : Int) ++ [1]).map .int)
        rw [List.map_append]
        rfl
      rw [e]
      exact k_tI (by rw [List.length_append, List.length_replicate]; decide) fun x hx => by
        rcases List.mem_append.mp hx with hx | hx
        · rw [(List.mem_replicate.mp hx).2]; omega
        · rw [List.mem_singleton.mp hx]; omega
    have k399 : okD (.int 399) 10000 4 := k_up (okD_lit (by decide +kernel) (by decide +kernel) (by decide +kernel) (by decide +kernel) (by decide +kernel))
    have r2 := right_w (S := S) (x := .int 5) (d := .int 399) kF (k_up (k_int (by omega) (by omega))) kl k399 (run_w M6 (by omega) (by omega) (by omega) (by omega) (b := 5) (by omega) (by omega) wb)
    refine ret_ok (and_ok (a := true) (b := true) ?_ ?_)
    · exact call4 (d := .p (mach tab6 sh6)) (d2 := pI 0) (d3 := .p (.tuple (List.replicate 401 (.int 0)))) (d4 := .p (.tuple [.str "word", .none])) (S1 := S) (S2 := S) (S3 := S) (S4 := S) rfl rfl (by rw [rep_lit]; exact repE (x := 0) (n := 401) (by omega) (by omega)) rfl r1
    · exact call4 (d := .p (mach tab6 sh6)) (d2 := pI 5) (d4 := .p (.tuple [.str "word", .int 399])) (S1 := S) (S2 := S) (S3 := S) (S4 := S) rfl rfl rfl rfl r2
  exact (fnM_rt (b := false) (n := 0) (all := 5) (m := b_law_hand_right) (ds := []) rfl body).trans (by unfold fin; rw [take_len])
end
end Lw

/-! R10 -/
set_option Elab.async false
set_option linter.all false
set_option maxRecDepth 100000
set_option maxHeartbeats 4000000
set_option autoImplicit false
namespace Lw
open PySem PySem.Spec PyProof.Rows L2 Mi
/-! ### the law -/
theorem Gd.take {B : Int} {S : Sto} {i L : Nat} (g : Gd B S i) (h : i < L) : Gd B (S.take L) i := by
  obtain ⟨l, s, cs, t, q, r⟩ := g
  refine ⟨l, s, cs, t, ?_, r⟩
  rw [List.getElem?_take_of_lt h]
  exact q
noncomputable def b_l1 : SM := (sSeq (sAsg (eCall m_law_begun (aCons (eVar 0) (aCons (eVar 1) aNil))) (gN 2)) (sSeq (sAsg (eCall m_law_frame (aCons (eVar 2) (aCons (eC (.int 8)) (aCons (eC (.int 4)) aNil)))) (gN 3)) (sSeq (sFor (iR1 (aCons (eC (.int 5)) aNil)) (gN 4) (sSeq (sAsg (eCall m_law_draw (aCons (eVar 2) (aCons (eCall lenF (aCons (eOp ixD (eVar 3) (eC (.int 0))) aNil)) aNil))) (gN 5)) (sSeq (sAsg (eCall tupF (aCons (eComp false (iR1 (aCons (eCall m_law_draw (aCons (eVar 2) (aCons (eC (.int 13)) aNil))) aNil)) [7] (gN 7) bYes (eCall m_law_draw (aCons (eVar 2) (aCons (eCall lenF (aCons (eOp ixD (eOp ixD (eVar 3) (eC (.int 0))) (eC (.int 0))) aNil)) aNil)))) aNil)) (gN 6)) (sIf (bNot (bOf (eCall m_law_right (aCons (eVar 3) (aCons (eVar 5) (aCons (eVar 6) (aCons (eLst (aCons (eCall m_law_gone (aCons (eVar 3) (aCons (eVar 5) (aCons (eVar 6) aNil)))) aNil)) aNil))))))) (sRet (eC (.bool false))) sNx)))) (sIf (bNot (bOf (eCall m_law_refused (aCons (eVar 2) (aCons (eVar 3) aNil))))) (sRet (eC (.bool false))) sNx))))
noncomputable def b_l3 : SM := (sFor (iR1 (aCons (eC (.int 5)) aNil)) (gN 4) (sSeq (sAsg (eCall m_law_draw (aCons (eVar 2) (aCons (eCall lenF (aCons (eOp ixD (eVar 3) (eC (.int 0))) aNil)) aNil))) (gN 5)) (sSeq (sAsg (eCall tupF (aCons (eComp false (iR1 (aCons (eCall m_law_draw (aCons (eVar 2) (aCons (eC (.int 13)) aNil))) aNil)) [7] (gN 7) bYes (eCall m_law_draw (aCons (eVar 2) (aCons (eCall lenF (aCons (eOp ixD (eOp ixD (eVar 3) (eC (.int 0))) (eC (.int 0))) aNil)) aNil)))) aNil)) (gN 6)) (sIf (bNot (bOf (eCall m_law_right (aCons (eVar 3) (aCons (eVar 5) (aCons (eVar 6) (aCons (eLst (aCons (eCall m_law_gone (aCons (eVar 3) (aCons (eVar 5) (aCons (eVar 6) aNil)))) aNil)) aNil))))))) (sRet (eC (.bool false))) sNx))))
noncomputable def b_l4 : SM := (sSeq (sAsg (eCall m_law_draw (aCons (eVar 2) (aCons (eCall lenF (aCons (eOp ixD (eVar 3) (eC (.int 0))) aNil)) aNil))) (gN 5)) (sSeq (sAsg (eCall tupF (aCons (eComp false (iR1 (aCons (eCall m_law_draw (aCons (eVar 2) (aCons (eC (.int 13)) aNil))) aNil)) [7] (gN 7) bYes (eCall m_law_draw (aCons (eVar 2) (aCons (eCall lenF (aCons (eOp ixD (eOp ixD (eVar 3) (eC (.int 0))) (eC (.int 0))) aNil)) aNil)))) aNil)) (gN 6)) (sIf (bNot (bOf (eCall m_law_right (aCons (eVar 3) (aCons (eVar 5) (aCons (eVar 6) (aCons (eLst (aCons (eCall m_law_gone (aCons (eVar 3) (aCons (eVar 5) (aCons (eVar 6) aNil)))) aNil)) aNil))))))) (sRet (eC (.bool false))) sNx)))
section
variable {ns : List Int} {tab : List (List Int)} {sh : List Int} {n l i : Nat}
theorem l_one (M : IsM n l tab sh) (h0 : 0 < n) (hn8 : n ≤ 8) (l0 : 0 < l) (l4 : l ≤ 4) {B : Int} {S : Sto} {o1 o4 o5 o6 o7 : Option D} (g : Gd B S i) (hB : B < 900000000) :
    ∃ o5' o6' S', b_l4 [some (.scr ns), o1, some (.loc i), some (.p (mach tab sh)), o4, o5, o6, o7] S = .nx [some (.scr ns), o1, some (.loc i), some (.p (mach tab sh)), o4, o5', o6', o7] S' ∧ Gd (B + 20) S' i := by
  obtain ⟨b, S1, d1, b0, b1, g1, _⟩ := draw_ok (many := (n : Int)) g (by omega) (by omega) (by omega)
  have s1 : sAsg (eCall m_law_draw (aCons (eVar 2) (aCons (eCall lenF (aCons (eOp ixD (eVar 3) (eC (.int 0))) aNil)) aNil))) (gN 5) [some (.scr ns), o1, some (.loc i), some (.p (mach tab sh)), o4, o5, o6, o7] S = .nx [some (.scr ns), o1, some (.loc i), some (.p (mach tab sh)), o4, some (pI b), o6, o7] S1 :=
    asg_ok (call2 (d := .loc i) (d2 := pI n) (S1 := S) (S2 := S) rfl (len_tab' M rfl) d1) rfl
  obtain ⟨c, S2, d2, c0, c1, g2, _⟩ := draw_ok (many := 13) g1 (by omega) (by omega) (by omega)
  obtain ⟨cn, rfl⟩ : ∃ cn : Nat, c = cn := ⟨c.toNat, by omega⟩
  obtain ⟨w, S3, d3, w1, w2, g3⟩ := drawn_letters (S := S2) (S0 := S1) (i := i) (c := cn) (l := l) (i0 := 2) (j := 7) (env := [some (.scr ns), o1, some (.loc i), some (.p (mach tab sh)), o4, some (pI b), o6, o7]) (a := aCons (eCall m_law_draw (aCons (eVar 2) (aCons (eC (.int 13)) aNil))) aNil) (mw := eCall lenF (aCons (eOp ixD (eOp ixD (eVar 3) (eC (.int 0))) (eC (.int 0))) aNil)) (by
    have e : eCall m_law_draw (aCons (eVar 2) (aCons (eC (.int 13)) aNil)) [some (.scr ns), o1, some (.loc i), some (.p (mach tab sh)), o4, some (pI b), o6, o7] S1 = .ok (pI cn) S2 := call2 (d := .loc i) (d2 := pI 13) (S1 := S1) (S2 := S1) rfl rfl d2
    simp only [aCons, aNil, e, Ot.bind]) g2 (by omega) (by omega) l0 l4 (fun _ => rfl) (fun _ _ => len_row' M h0 rfl)
  have s2 : (sAsg (eCall tupF (aCons (eComp false (iR1 (aCons (eCall m_law_draw (aCons (eVar 2) (aCons (eC (.int 13)) aNil))) aNil)) [7] (gN 7) bYes (eCall m_law_draw (aCons (eVar 2) (aCons (eCall lenF (aCons (eOp ixD (eOp ixD (eVar 3) (eC (.int 0))) (eC (.int 0))) aNil)) aNil)))) aNil)) (gN 6)) [some (.scr ns), o1, some (.loc i), some (.p (mach tab sh)), o4, some (pI b), o6, o7] S1 = .nx [some (.scr ns), o1, some (.loc i), some (.p (mach tab sh)), o4, some (pI b), some (.p (tI w)), o7] S3 :=
    asg_ok (d := .p (tI w)) (call1 (d := .p (lI w)) (S1 := S3) d3 rfl) rfl
  have gd := gone_ok (S := S3) M (b := b) (w := w) b0 b1 (by omega) w2
  have rg := right_g (S := S3) M h0 hn8 l0 l4 (b := b) (w := w) b0 b1 (by omega) w2
  have r : eCall m_law_right (aCons (eVar 3) (aCons (eVar 5) (aCons (eVar 6) (aCons (eLst (aCons (eCall m_law_gone (aCons (eVar 3) (aCons (eVar 5) (aCons (eVar 6) aNil)))) aNil)) aNil)))) [some (.scr ns), o1, some (.loc i), some (.p (mach tab sh)), o4, some (pI b), some (.p (tI w)), o7] S3 = .ok (.p (.bool true)) S3 :=
    call4 (d := .p (mach tab sh)) (d2 := pI b) (d3 := .p (tI w)) (d4 := .p (.list [tI (gone tab b w)])) (S1 := S3) (S2 := S3) (S3 := S3) (S4 := S3) rfl rfl rfl (lst1 (call3 (d := .p (mach tab sh)) (d2 := pI b) (d3 := .p (tI w)) (S1 := S3) (S2 := S3) (S3 := S3) rfl rfl rfl gd)) rg
  exact ⟨_, _, S3, (sSeq_nx s1).trans ((sSeq_nx s2).trans (if_no (not_ok (bof_ok r)))), g3.mono (by omega)⟩
theorem l_turns (M : IsM n l tab sh) (h0 : 0 < n) (hn8 : n ≤ 8) (l0 : 0 < l) (l4 : l ≤ 4) {S : Sto} {o1 o4 o5 o6 o7 : Option D} (g : Gd 200 S i) :
    ∃ o4' o5' o6' o7' S', b_l3 [some (.scr ns), o1, some (.loc i), some (.p (mach tab sh)), o4, o5, o6, o7] S = .nx [some (.scr ns), o1, some (.loc i), some (.p (mach tab sh)), o4', o5', o6', o7'] S' ∧ Gd 350 S' i := by
  have step : ∀ (j : Nat) (d : D) (env : Envr) (S : Sto), (rangeD 0 5)[j]? = some d → (∃ o4 o5 o6 o7, env = [some (.scr ns), o1, some (.loc i), some (.p (mach tab sh)), o4, o5, o6, o7] ∧ Gd (200 + 20 * ((0 + j : Nat) : Int)) S i ∧ 0 + j ≤ 5) →
      ∃ e1 e2 S2, gN 4 d env = some e1 ∧ (b_l4 e1 S = .nx e2 S2 ∨ b_l4 e1 S = .ct e2 S2) ∧ (∃ o4 o5 o6 o7, e2 = [some (.scr ns), o1, some (.loc i), some (.p (mach tab sh)), o4, o5, o6, o7] ∧ Gd (200 + 20 * ((0 + j + 1 : Nat) : Int)) S2 i ∧ 0 + j + 1 ≤ 5) := by
    rintro j d env S hj ⟨o4, o5, o6, o7, rfl, g, hl⟩
    obtain ⟨hj', rfl⟩ := rng_at hj
    obtain ⟨p5, p6, S', e, g'⟩ := l_one (ns := ns) (o1 := o1) (o4 := some (pI j)) (o5 := o5) (o6 := o6) (o7 := o7) M h0 hn8 l0 l4 g (by omega)
    exact ⟨_, _, S', rfl, .inl e, some (pI j), p5, p6, o7, rfl, g'.mono (by omega), by omega⟩
  obtain ⟨env', S', q1, o4', o5', o6', o7', rfl, q2, _⟩ := loop_ok (chk := yes) (g := gN 4) (body := b_l4) (fun j env S => ∃ o4 o5 o6 o7, env = [some (.scr ns), o1, some (.loc i), some (.p (mach tab sh)), o4, o5, o6, o7] ∧ Gd (200 + 20 * (j : Int)) S i ∧ j ≤ 5)
    (rangeD 0 5) 0 [some (.scr ns), o1, some (.loc i), some (.p (mach tab sh)), o4, o5, o6, o7] S (fun _ _ _ _ => rfl) step ⟨o4, o5, o6, o7, rfl, g.mono (by omega), by omega⟩
  exact ⟨o4', o5', o6', o7', S', (sFor_r1 (j := 5) rfl (by omega) (by omega)).trans q1, q2.mono (by rw [rng_len]; omega)⟩
theorem l_turn {k : Nat} {o2 o3 o4 o5 o6 o7 : Option D} {S : Sto} (hl : ns.length ≤ 63) (hk : k ≤ 100) :
    ∃ o2' o3' o4' o5' o6' o7' S', b_l1 [some (.scr ns), some (pI k), o2, o3, o4, o5, o6, o7] S = .nx [some (.scr ns), some (pI k), o2', o3', o4', o5', o6', o7'] S' := by
  obtain ⟨c, e1, g1⟩ := begun_ok (S := S) hl hk
  obtain ⟨n, l, tab, sh, S2, e2, M, n0, n8, l0, l4, g2, _⟩ := frame_ok (most := 8) (wide := 4) g1 (by omega) (by omega) (by omega) (by omega) (by omega)
  obtain ⟨p4, p5, p6, p7, S3, e3, g3⟩ := l_turns (ns := ns) (o1 := some (pI k)) (o4 := o4) (o5 := o5) (o6 := o6) (o7 := o7) M n0 (by omega) l0 (by omega) (g2.mono (by omega))
  obtain ⟨S4, e4, g4⟩ := refused_ok M n0 (by omega) l0 (by omega) g3 (by omega)
  have r : eCall m_law_refused (aCons (eVar 2) (aCons (eVar 3) aNil)) [some (.scr ns), some (pI k), some (.loc S.length), some (.p (mach tab sh)), p4, p5, p6, p7] S3 = .ok (.p (.bool true)) (S4.take S3.length) :=
    call2 (d := .loc S.length) (d2 := .p (mach tab sh)) (S1 := S3) (S2 := S3) rfl rfl ((fnM_rt (b := false) (n := 2) (all := 7) (m := b_law_refused) (ds := [.loc S.length, .p (mach tab sh)]) rfl e4).trans rfl)
  have t : bNot (bOf (eCall m_law_refused (aCons (eVar 2) (aCons (eVar 3) aNil)))) [some (.scr ns), some (pI k), some (.loc S.length), some (.p (mach tab sh)), p4, p5, p6, p7] S3 = .ok false (S4.take S3.length) := by
    unfold bNot bOf
    rw [r]
    rfl
  refine ⟨some (.loc S.length), some (.p (mach tab sh)), p4, p5, p6, p7, S4.take S3.length, (sSeq_nx (asg_ok (call2 (d := .scr ns) (d2 := pI k) (S1 := S) (S2 := S) rfl rfl e1) rfl)).trans ((sSeq_nx (asg_ok (call3 (d := .loc S.length) (d2 := pI 8) (d3 := pI 4) (S1 := S ++ [c]) (S2 := S ++ [c]) (S3 := S ++ [c]) rfl rfl rfl e2) rfl)).trans ((sSeq_nx e3).trans ?_))⟩
  show sIf _ _ _ _ _ = _
  unfold sIf
  rw [t]
  rfl
end
theorem law_ok (ns : List Int) (hl : ns.length ≤ 63) : ∃ S, m_law [.scr ns] [] = .ok (.p (.bool true)) S := by
  obtain ⟨N, hN, h9⟩ : ∃ N : Nat, (N : Int) = 3 + (if (6 : Int) < (ns.length : Int) then 6 else (ns.length : Int)) ∧ N ≤ 9 := by
    by_cases q : (6 : Int) < (ns.length : Int)
    · exact ⟨9, by rw [if_pos q]; rfl, by omega⟩
    · exact ⟨3 + ns.length, by rw [if_neg q]; omega, by omega⟩
  have y : aCons (eOp addD (eC (.int 3)) (eCall min2F (aCons (eCall lenF (aCons (eVar 0) aNil)) (aCons (eC (.int 6)) aNil)))) aNil [some (.scr ns), none, none, none, none, none, none, none] [] = .ok [pI N] [] := by
    rw [hN]
    rfl
  have step : ∀ (j : Nat) (d : D) (env : Envr) (S : Sto), (rangeD 0 N)[j]? = some d → (∃ o1 o2 o3 o4 o5 o6 o7, env = [some (.scr ns), o1, o2, o3, o4, o5, o6, o7]) →
      ∃ e1 e2 S2, gN 1 d env = some e1 ∧ (b_l1 e1 S = .nx e2 S2 ∨ b_l1 e1 S = .ct e2 S2) ∧ (∃ o1 o2 o3 o4 o5 o6 o7, e2 = [some (.scr ns), o1, o2, o3, o4, o5, o6, o7]) := by
    rintro j d env S hj ⟨o1, o2, o3, o4, o5, o6, o7, rfl⟩
    obtain ⟨hj', rfl⟩ := rng_at hj
    obtain ⟨q2, q3, q4, q5, q6, q7, S', e⟩ := l_turn (ns := ns) (k := j) (o2 := o2) (o3 := o3) (o4 := o4) (o5 := o5) (o6 := o6) (o7 := o7) (S := S) hl (by omega)
    exact ⟨_, _, S', rfl, .inl e, some (pI j), q2, q3, q4, q5, q6, q7, rfl⟩
  obtain ⟨env', S', q1, o1, o2, o3, o4, o5, o6, o7, rfl⟩ := loop_ok (chk := yes) (g := gN 1) (body := b_l1) (fun _ env _ => ∃ o1 o2 o3 o4 o5 o6 o7, env = [some (.scr ns), o1, o2, o3, o4, o5, o6, o7])
    (rangeD 0 N) 0 [some (.scr ns), none, none, none, none, none, none, none] [] (fun _ _ _ _ => rfl) step ⟨none, none, none, none, none, none, none, rfl⟩
  have z : ∀ env, eCall m_law_hand_right aNil env S' = .ok (.p (.bool true)) S' := fun env => hand_right_ok
  have x2 := sFor_r1 (g := gN 1) (body := b_l1) y (by omega) (by omega)
  rw [Int.toNat_natCast] at x2
  have body : b_law [some (.scr ns), none, none, none, none, none, none, none] [] = .rt (.p (.bool true)) S' := (sSeq_nx (x2.trans q1)).trans (ret_ok (z _))
  exact ⟨_, (fnM_rt (b := false) (n := 1) (all := 8) (m := b_law) (ds := [.scr ns]) rfl body).trans rfl⟩
end Lw

/-! H4 -/
set_option Elab.async false
set_option linter.all false
set_option maxRecDepth 100000
set_option maxHeartbeats 4000000
set_option autoImplicit false
namespace Lw
open PySem PySem.Spec PyProof.Rows L2 Mi
theorem all_mk {l : PySem.W.OpenLaw} {w : World} {K : PySem.W.Frag} {h : Heap} {mg : Str → Option Value} {fa f0 f1 f2 f3 f4 f5 f6 f7 f8 f9 f10 f11 f12 f13 f14 f15 f16 f17 f18 : Addr} (X : K.In h) (G : h.Ns mainGlobals mg) (hfa : mg "law" = some (.ref fa))
    {od0 an0 od1 an1 od2 an2 od3 an3 od4 an4 od5 an5 od6 an6 od7 an7 od8 an8 od9 an9 od10 an10 od11 an11 od12 an12 od13 an13 od14 an14 od15 an15 od16 an16 od17 an17 od18 an18 : Option Addr} {sl0 sl1 sl2 sl3 sl4 sl5 sl6 sl7 sl8 sl9 sl10 sl11 sl12 sl13 sl14 sl15 sl16 sl17 sl18 : Array (Option Value)} {oc0 kV0 dc0 pm0 cd0 ct0 oc1 kV1 dc1 pm1 cd1 ct1 oc2 kV2 dc2 pm2 cd2 ct2 oc3 kV3 dc3 pm3 cd3 ct3 oc4 kV4 dc4 pm4 cd4 ct4 oc5 kV5 dc5 pm5 cd5 ct5 oc6 kV6 dc6 pm6 cd6 ct6 oc7 kV7 dc7 pm7 cd7 ct7 oc8 kV8 dc8 pm8 cd8 ct8 oc9 kV9 dc9 pm9 cd9 ct9 oc10 kV10 dc10 pm10 cd10 ct10 oc11 kV11 dc11 pm11 cd11 ct11 oc12 kV12 dc12 pm12 cd12 ct12 oc13 kV13 dc13 pm13 cd13 ct13 oc14 kV14 dc14 pm14 cd14 ct14 oc15 kV15 dc15 pm15 cd15 ct15 oc16 kV16 dc16 pm16 cd16 ct16 oc17 kV17 dc17 pm17 cd17 ct17 oc18 kV18 dc18 pm18 cd18 ct18 : Value} {t_MOST_STANDINGS t_MOST_LETTERS t_MOST_SHOWN t_LONGEST_WORD : Tok} {ePE : Addr} {C0 I0 N0 cda0 cc0 : Addr} {nm0 qn0 file0 : Str} {bs0 : List Value} {sn0 : List Str} {sub0 : List Value} {ab0 : Bool} {co0 : Option Bool} {dd0 xd0 xn0 yd0 zd0 : Option Addr} {m00 m10 m20 m30 m50 : Option Value} {xo0 xdc0 xpm0 xct0 yc0 zc0 : Value} {xs0 ys0 zs0 : Array (Option Value)} {vs0 : Array Value} {tf0 : Tok} {C1 I1 N1 cda1 cc1 : Addr} {nm1 qn1 file1 : Str} {bs1 : List Value} {sn1 : List Str} {sub1 : List Value} {ab1 : Bool} {co1 : Option Bool} {dd1 xd1 xn1 yd1 zd1 : Option Addr} {m01 m11 m21 m31 m51 : Option Value} {xo1 xdc1 xpm1 xct1 yc1 zc1 : Value} {xs1 ys1 zs1 : Array (Option Value)} {vs1 : Array Value} {tf1 : Tok} {C2 I2 N2 cda2 cc2 : Addr} {nm2 qn2 file2 : Str} {bs2 : List Value} {sn2 : List Str} {sub2 : List Value} {ab2 : Bool} {co2 : Option Bool} {dd2 xd2 xn2 yd2 zd2 : Option Addr} {m02 m12 m22 m32 m52 : Option Value} {xo2 xdc2 xpm2 xct2 yc2 zc2 : Value} {xs2 ys2 zs2 : Array (Option Value)} {vs2 : Array Value} {tf2 : Tok}
    (a0 : PySem.W.nsIn K mainGlobals "is_number_below" = some (some (.ref f0))) (l0 : K.lookup f0 = some ⟨oc0, od0, .func (PySem.W.fnOf "is_number_below" "is_number_below" (defArgs s_is_number_below) (defBody s_is_number_below) (defScope s_is_number_below) .none kV0 dc0 pm0 an0 cd0 ct0), sl0⟩) (c0 : PySem.W.codeIn K cd0 "is_number_below" = true) (k0 : PySem.W.keepIn K (.ref f0) = true)
    (a1 : PySem.W.nsIn K mainGlobals "is_tuple_of" = some (some (.ref f1))) (l1 : K.lookup f1 = some ⟨oc1, od1, .func (PySem.W.fnOf "is_tuple_of" "is_tuple_of" (defArgs s_is_tuple_of) (defBody s_is_tuple_of) (defScope s_is_tuple_of) .none kV1 dc1 pm1 an1 cd1 ct1), sl1⟩) (c1 : PySem.W.codeIn K cd1 "is_tuple_of" = true) (k1 : PySem.W.keepIn K (.ref f1) = true)
    (a2 : PySem.W.nsIn K mainGlobals "need_table_form" = some (some (.ref f2))) (l2 : K.lookup f2 = some ⟨oc2, od2, .func (PySem.W.fnOf "need_table_form" "need_table_form" (defArgs s_need_table_form) (defBody s_need_table_form) (defScope s_need_table_form) .none kV2 dc2 pm2 an2 cd2 ct2), sl2⟩) (c2 : PySem.W.codeIn K cd2 "need_table_form" = true) (k2 : PySem.W.keepIn K (.ref f2) = true)
    (a3 : PySem.W.nsIn K mainGlobals "need_goals" = some (some (.ref f3))) (l3 : K.lookup f3 = some ⟨oc3, od3, .func (PySem.W.fnOf "need_goals" "need_goals" (defArgs s_need_goals) (defBody s_need_goals) (defScope s_need_goals) .none kV3 dc3 pm3 an3 cd3 ct3), sl3⟩) (c3 : PySem.W.codeIn K cd3 "need_goals" = true) (k3 : PySem.W.keepIn K (.ref f3) = true)
    (a4 : PySem.W.nsIn K mainGlobals "need_shown" = some (some (.ref f4))) (l4 : K.lookup f4 = some ⟨oc4, od4, .func (PySem.W.fnOf "need_shown" "need_shown" (defArgs s_need_shown) (defBody s_need_shown) (defScope s_need_shown) .none kV4 dc4 pm4 an4 cd4 ct4), sl4⟩) (c4 : PySem.W.codeIn K cd4 "need_shown" = true) (k4 : PySem.W.keepIn K (.ref f4) = true)
    (a5 : PySem.W.nsIn K mainGlobals "need_machine" = some (some (.ref f5))) (l5 : K.lookup f5 = some ⟨oc5, od5, .func (PySem.W.fnOf "need_machine" "need_machine" (defArgs s_need_machine) (defBody s_need_machine) (defScope s_need_machine) .none kV5 dc5 pm5 an5 cd5 ct5), sl5⟩) (c5 : PySem.W.codeIn K cd5 "need_machine" = true) (k5 : PySem.W.keepIn K (.ref f5) = true)
    (a6 : PySem.W.nsIn K mainGlobals "need_standing" = some (some (.ref f6))) (l6 : K.lookup f6 = some ⟨oc6, od6, .func (PySem.W.fnOf "need_standing" "need_standing" (defArgs s_need_standing) (defBody s_need_standing) (defScope s_need_standing) .none kV6 dc6 pm6 an6 cd6 ct6), sl6⟩) (c6 : PySem.W.codeIn K cd6 "need_standing" = true) (k6 : PySem.W.keepIn K (.ref f6) = true)
    (a7 : PySem.W.nsIn K mainGlobals "need_word" = some (some (.ref f7))) (l7 : K.lookup f7 = some ⟨oc7, od7, .func (PySem.W.fnOf "need_word" "need_word" (defArgs s_need_word) (defBody s_need_word) (defScope s_need_word) .none kV7 dc7 pm7 an7 cd7 ct7), sl7⟩) (c7 : PySem.W.codeIn K cd7 "need_word" = true) (k7 : PySem.W.keepIn K (.ref f7) = true)
    (a8 : PySem.W.nsIn K mainGlobals "run" = some (some (.ref f8))) (l8 : K.lookup f8 = some ⟨oc8, od8, .func (PySem.W.fnOf "run" "run" (defArgs s_run) (defBody s_run) (defScope s_run) .none kV8 dc8 pm8 an8 cd8 ct8), sl8⟩) (c8 : PySem.W.codeIn K cd8 "run" = true) (k8 : PySem.W.keepIn K (.ref f8) = true)
    (a9 : PySem.W.nsIn K mainGlobals "_law_begun" = some (some (.ref f9))) (l9 : K.lookup f9 = some ⟨oc9, od9, .func (PySem.W.fnOf "_law_begun" "_law_begun" (defArgs s_law_begun) (defBody s_law_begun) (defScope s_law_begun) .none kV9 dc9 pm9 an9 cd9 ct9), sl9⟩) (c9 : PySem.W.codeIn K cd9 "_law_begun" = true) (k9 : PySem.W.keepIn K (.ref f9) = true)
    (a10 : PySem.W.nsIn K mainGlobals "_law_draw" = some (some (.ref f10))) (l10 : K.lookup f10 = some ⟨oc10, od10, .func (PySem.W.fnOf "_law_draw" "_law_draw" (defArgs s_law_draw) (defBody s_law_draw) (defScope s_law_draw) .none kV10 dc10 pm10 an10 cd10 ct10), sl10⟩) (c10 : PySem.W.codeIn K cd10 "_law_draw" = true) (k10 : PySem.W.keepIn K (.ref f10) = true)
    (a11 : PySem.W.nsIn K mainGlobals "_law_of" = some (some (.ref f11))) (l11 : K.lookup f11 = some ⟨oc11, od11, .func (PySem.W.fnOf "_law_of" "_law_of" (defArgs s_law_of) (defBody s_law_of) (defScope s_law_of) .none kV11 dc11 pm11 an11 cd11 ct11), sl11⟩) (c11 : PySem.W.codeIn K cd11 "_law_of" = true) (k11 : PySem.W.keepIn K (.ref f11) = true)
    (a12 : PySem.W.nsIn K mainGlobals "_law_frame" = some (some (.ref f12))) (l12 : K.lookup f12 = some ⟨oc12, od12, .func (PySem.W.fnOf "_law_frame" "_law_frame" (defArgs s_law_frame) (defBody s_law_frame) (defScope s_law_frame) .none kV12 dc12 pm12 an12 cd12 ct12), sl12⟩) (c12 : PySem.W.codeIn K cd12 "_law_frame" = true) (k12 : PySem.W.keepIn K (.ref f12) = true)
    (a13 : PySem.W.nsIn K mainGlobals "_law_gone" = some (some (.ref f13))) (l13 : K.lookup f13 = some ⟨oc13, od13, .func (PySem.W.fnOf "_law_gone" "_law_gone" (defArgs s_law_gone) (defBody s_law_gone) (defScope s_law_gone) .none kV13 dc13 pm13 an13 cd13 ct13), sl13⟩) (c13 : PySem.W.codeIn K cd13 "_law_gone" = true) (k13 : PySem.W.keepIn K (.ref f13) = true)
    (a14 : PySem.W.nsIn K mainGlobals "_law_heard" = some (some (.ref f14))) (l14 : K.lookup f14 = some ⟨oc14, od14, .func (PySem.W.fnOf "_law_heard" "_law_heard" (defArgs s_law_heard) (defBody s_law_heard) (defScope s_law_heard) .none kV14 dc14 pm14 an14 cd14 ct14), sl14⟩) (c14 : PySem.W.codeIn K cd14 "_law_heard" = true) (k14 : PySem.W.keepIn K (.ref f14) = true)
    (a15 : PySem.W.nsIn K mainGlobals "_law_right" = some (some (.ref f15))) (l15 : K.lookup f15 = some ⟨oc15, od15, .func (PySem.W.fnOf "_law_right" "_law_right" (defArgs s_law_right) (defBody s_law_right) (defScope s_law_right) .none kV15 dc15 pm15 an15 cd15 ct15), sl15⟩) (c15 : PySem.W.codeIn K cd15 "_law_right" = true) (k15 : PySem.W.keepIn K (.ref f15) = true)
    (a16 : PySem.W.nsIn K mainGlobals "_law_refused" = some (some (.ref f16))) (l16 : K.lookup f16 = some ⟨oc16, od16, .func (PySem.W.fnOf "_law_refused" "_law_refused" (defArgs s_law_refused) (defBody s_law_refused) (defScope s_law_refused) .none kV16 dc16 pm16 an16 cd16 ct16), sl16⟩) (c16 : PySem.W.codeIn K cd16 "_law_refused" = true) (k16 : PySem.W.keepIn K (.ref f16) = true)
    (a17 : PySem.W.nsIn K mainGlobals "_law_hand_right" = some (some (.ref f17))) (l17 : K.lookup f17 = some ⟨oc17, od17, .func (PySem.W.fnOf "_law_hand_right" "_law_hand_right" (defArgs s_law_hand_right) (defBody s_law_hand_right) (defScope s_law_hand_right) .none kV17 dc17 pm17 an17 cd17 ct17), sl17⟩) (c17 : PySem.W.codeIn K cd17 "_law_hand_right" = true) (k17 : PySem.W.keepIn K (.ref f17) = true)
    (a18 : PySem.W.nsIn K mainGlobals "law" = some (some (.ref f18))) (l18 : K.lookup f18 = some ⟨oc18, od18, .func (PySem.W.fnOf "law" "law" (defArgs s_law) (defBody s_law) (defScope s_law) .none kV18 dc18 pm18 an18 cd18 ct18), sl18⟩) (c18 : PySem.W.codeIn K cd18 "law" = true) (k18 : PySem.W.keepIn K (.ref f18) = true)
    (z_len0 : PySem.W.nsIn K mainGlobals "len" = some none)
    (z_int0 : PySem.W.nsIn K mainGlobals "int" = some none)
    (z_max0 : PySem.W.nsIn K mainGlobals "max" = some none)
    (z_min0 : PySem.W.nsIn K mainGlobals "min" = some none)
    (z_tuple0 : PySem.W.nsIn K mainGlobals "tuple" = some none)
    (z_list0 : PySem.W.nsIn K mainGlobals "list" = some none)
    (z_repr0 : PySem.W.nsIn K mainGlobals "repr" = some none)
    (z_range0 : PySem.W.nsIn K mainGlobals "range" = some none)
    (z_isinstance0 : PySem.W.nsIn K mainGlobals "isinstance" = some none)
    (z_bool0 : PySem.W.nsIn K mainGlobals "bool" = some none)
    (z_str0 : PySem.W.nsIn K mainGlobals "str" = some none)
    (z_dict0 : PySem.W.nsIn K mainGlobals "dict" = some none)
    (z_enumerate0 : PySem.W.nsIn K mainGlobals "enumerate" = some none)
    (z_zip0 : PySem.W.nsIn K mainGlobals "zip" = some none)
    (z_sorted0 : PySem.W.nsIn K mainGlobals "sorted" = some none)
    (z_set0 : PySem.W.nsIn K mainGlobals "set" = some none)
    (g_MOST_STANDINGS : PySem.W.nsIn K mainGlobals "MOST_STANDINGS" = some (some (.int 8 t_MOST_STANDINGS)))
    (g_MOST_LETTERS : PySem.W.nsIn K mainGlobals "MOST_LETTERS" = some (some (.int 4 t_MOST_LETTERS)))
    (g_MOST_SHOWN : PySem.W.nsIn K mainGlobals "MOST_SHOWN" = some (some (.int 9 t_MOST_SHOWN)))
    (g_LONGEST_WORD : PySem.W.nsIn K mainGlobals "LONGEST_WORD" = some (some (.int 400 t_LONGEST_WORD)))
    (e_sup : PySem.W.nsIn K mainGlobals "super" = some none) (e_np : PySem.W.nsIn K cStatics "thirdparty.any" = some none) (e_top : (l.prog.main.scope.names.lookup ("super" : Str)).isSome = false) (e_hn : PySem.W.specialIn K (.builtin "object.__class__") "__get__" = some (some (.builtin "getset_descriptor.__get__"))) (e_ht : PySem.W.takesIn K (.builtin "object.__class__") = some true)
    (e_PE : PySem.W.nsIn K mainGlobals "PartError" = some (some (.ref ePE))) (e_PEe : PySem.W.subIn K (.ref ePE) (.type "BaseException") = some true) (e_PEd : PySem.W.hasDictIn K ePE = true) (e_PEt : PySem.W.typeIn K (.ref ePE) = some (.type "type"))
    (e0a : PySem.W.nsIn K mainGlobals "BadMachine" = some (some (.ref C0))) (e0l : K.lookup C0 = some (PySem.excClassObj nm0 qn0 C0 N0 bs0 [.ref ePE, .type "ValueError", .type "Exception", .type "BaseException", .type "object"] true sn0 sub0 ab0 co0 dd0 m00 m10 m20 m30 m50 "ValueError.__new__")) (e0sa : PySem.W.findIn K (.ref C0) "__setattr__" = some (some (.builtin "object.__setattr__"))) (e0nplace : PySem.W.findIn K (.ref C0) "place" = some none) (e0nvalue : PySem.W.findIn K (.ref C0) "value" = some none) (e0nword : PySem.W.findIn K (.ref C0) "word" = some none) (e0iC : PySem.W.findIn K (.ref C0) "__init__" = some (some (.ref I0))) (e0tI : PySem.W.typeIn K (.ref I0) = some (.type "function")) (e0kC : PySem.W.keepIn K (.ref C0) = true) (e0eC : PySem.W.subIn K (.ref C0) (.type "BaseException") = some true) (e0tC : PySem.W.typeIn K (.ref C0) = some (.type "type")) (e0vC : PySem.W.subIn K (.ref C0) (.type "ValueError") = some true) (e0sC : PySem.W.mroIn K C0 (.ref C0) = some true) (e0up : PySem.W.ks_superIn K C0 C0 "__init__" = some (some (.builtin "ValueError.__init__"))) (e0fn : K.lookup I0 = some ⟨xo0, xd0, .func (erFd "BadMachine.__init__" "place" "this is no machine" ⟨⟨7, 8, 7, 13⟩, ⟨7, 8, 7, 15⟩, ⟨7, 8, 7, 24⟩, ⟨7, 25, 7, 45⟩, ⟨7, 8, 7, 46⟩, ⟨7, 8, 7, 46⟩, ⟨8, 8, 8, 12⟩, ⟨8, 8, 8, 18⟩, ⟨8, 21, 8, 26⟩, ⟨8, 8, 8, 26⟩, ⟨6, 17, 6, 21⟩, ⟨6, 23, 6, 28⟩⟩ xdc0 xpm0 xn0 (.ref cda0) xct0 cc0), xs0⟩) (e0cd : PySem.W.codeIn K (.ref cda0) "BadMachine.__init__" = true) (e0co : K.lookup cda0 = some ⟨yc0, yd0, .fields vs0, ys0⟩) (e0fi : vs0[2]? = some (.str file0 tf0)) (e0fj : ((l.prog.main.file : Str) == file0) = true) (e0ce : K.lookup cc0 = some ⟨zc0, zd0, .cell (some (.ref C0)), zs0⟩) (e0ga : PySem.W.findIn K (.ref C0) "__getattribute__" = some (some (.builtin "BaseException.__getattribute__"))) (e0gg : PySem.W.findIn K (.ref C0) "__getattr__" = some none) (e0hd : PySem.W.hasDictIn K C0 = true) (e0hc : PySem.W.findIn K (.ref C0) "__class__" = some (some (.builtin "object.__class__"))) (e0hm : PySem.W.mroIn K C0 (.type "object") = some true) (e0pe : PySem.W.subIn K (.ref C0) (.ref ePE) = some true) (e0is0 : PySem.W.kitOne K (.ref C0) (.ref C0) = some true) (e0is1 : PySem.W.kitOne K (.ref C0) (.ref C1) = some false) (e0is2 : PySem.W.kitOne K (.ref C0) (.ref C2) = some false)
    (e1a : PySem.W.nsIn K mainGlobals "BadWord" = some (some (.ref C1))) (e1l : K.lookup C1 = some (PySem.excClassObj nm1 qn1 C1 N1 bs1 [.ref ePE, .type "ValueError", .type "Exception", .type "BaseException", .type "object"] true sn1 sub1 ab1 co1 dd1 m01 m11 m21 m31 m51 "ValueError.__new__")) (e1sa : PySem.W.findIn K (.ref C1) "__setattr__" = some (some (.builtin "object.__setattr__"))) (e1nplace : PySem.W.findIn K (.ref C1) "place" = some none) (e1nvalue : PySem.W.findIn K (.ref C1) "value" = some none) (e1nword : PySem.W.findIn K (.ref C1) "word" = some none) (e1iC : PySem.W.findIn K (.ref C1) "__init__" = some (some (.ref I1))) (e1tI : PySem.W.typeIn K (.ref I1) = some (.type "function")) (e1kC : PySem.W.keepIn K (.ref C1) = true) (e1eC : PySem.W.subIn K (.ref C1) (.type "BaseException") = some true) (e1tC : PySem.W.typeIn K (.ref C1) = some (.type "type")) (e1vC : PySem.W.subIn K (.ref C1) (.type "ValueError") = some true) (e1sC : PySem.W.mroIn K C1 (.ref C1) = some true) (e1up : PySem.W.ks_superIn K C1 C1 "__init__" = some (some (.builtin "ValueError.__init__"))) (e1fn : K.lookup I1 = some ⟨xo1, xd1, .func (erFd "BadWord.__init__" "place" "this is no word of the machine" ⟨⟨12, 8, 12, 13⟩, ⟨12, 8, 12, 15⟩, ⟨12, 8, 12, 24⟩, ⟨12, 25, 12, 57⟩, ⟨12, 8, 12, 58⟩, ⟨12, 8, 12, 58⟩, ⟨13, 8, 13, 12⟩, ⟨13, 8, 13, 18⟩, ⟨13, 21, 13, 26⟩, ⟨13, 8, 13, 26⟩, ⟨11, 17, 11, 21⟩, ⟨11, 23, 11, 28⟩⟩ xdc1 xpm1 xn1 (.ref cda1) xct1 cc1), xs1⟩) (e1cd : PySem.W.codeIn K (.ref cda1) "BadWord.__init__" = true) (e1co : K.lookup cda1 = some ⟨yc1, yd1, .fields vs1, ys1⟩) (e1fi : vs1[2]? = some (.str file1 tf1)) (e1fj : ((l.prog.main.file : Str) == file1) = true) (e1ce : K.lookup cc1 = some ⟨zc1, zd1, .cell (some (.ref C1)), zs1⟩) (e1ga : PySem.W.findIn K (.ref C1) "__getattribute__" = some (some (.builtin "BaseException.__getattribute__"))) (e1gg : PySem.W.findIn K (.ref C1) "__getattr__" = some none) (e1hd : PySem.W.hasDictIn K C1 = true) (e1hc : PySem.W.findIn K (.ref C1) "__class__" = some (some (.builtin "object.__class__"))) (e1hm : PySem.W.mroIn K C1 (.type "object") = some true) (e1pe : PySem.W.subIn K (.ref C1) (.ref ePE) = some true) (e1is0 : PySem.W.kitOne K (.ref C1) (.ref C0) = some false) (e1is1 : PySem.W.kitOne K (.ref C1) (.ref C1) = some true) (e1is2 : PySem.W.kitOne K (.ref C1) (.ref C2) = some false)
    (e2a : PySem.W.nsIn K mainGlobals "BadStanding" = some (some (.ref C2))) (e2l : K.lookup C2 = some (PySem.excClassObj nm2 qn2 C2 N2 bs2 [.ref ePE, .type "ValueError", .type "Exception", .type "BaseException", .type "object"] true sn2 sub2 ab2 co2 dd2 m02 m12 m22 m32 m52 "ValueError.__new__")) (e2sa : PySem.W.findIn K (.ref C2) "__setattr__" = some (some (.builtin "object.__setattr__"))) (e2nplace : PySem.W.findIn K (.ref C2) "place" = some none) (e2nvalue : PySem.W.findIn K (.ref C2) "value" = some none) (e2nword : PySem.W.findIn K (.ref C2) "word" = some none) (e2iC : PySem.W.findIn K (.ref C2) "__init__" = some (some (.ref I2))) (e2tI : PySem.W.typeIn K (.ref I2) = some (.type "function")) (e2kC : PySem.W.keepIn K (.ref C2) = true) (e2eC : PySem.W.subIn K (.ref C2) (.type "BaseException") = some true) (e2tC : PySem.W.typeIn K (.ref C2) = some (.type "type")) (e2vC : PySem.W.subIn K (.ref C2) (.type "ValueError") = some true) (e2sC : PySem.W.mroIn K C2 (.ref C2) = some true) (e2up : PySem.W.ks_superIn K C2 C2 "__init__" = some (some (.builtin "ValueError.__init__"))) (e2fn : K.lookup I2 = some ⟨xo2, xd2, .func (erFd "BadStanding.__init__" "value" "this is no standing that serves here" ⟨⟨17, 8, 17, 13⟩, ⟨17, 8, 17, 15⟩, ⟨17, 8, 17, 24⟩, ⟨17, 25, 17, 63⟩, ⟨17, 8, 17, 64⟩, ⟨17, 8, 17, 64⟩, ⟨18, 8, 18, 12⟩, ⟨18, 8, 18, 18⟩, ⟨18, 21, 18, 26⟩, ⟨18, 8, 18, 26⟩, ⟨16, 17, 16, 21⟩, ⟨16, 23, 16, 28⟩⟩ xdc2 xpm2 xn2 (.ref cda2) xct2 cc2), xs2⟩) (e2cd : PySem.W.codeIn K (.ref cda2) "BadStanding.__init__" = true) (e2co : K.lookup cda2 = some ⟨yc2, yd2, .fields vs2, ys2⟩) (e2fi : vs2[2]? = some (.str file2 tf2)) (e2fj : ((l.prog.main.file : Str) == file2) = true) (e2ce : K.lookup cc2 = some ⟨zc2, zd2, .cell (some (.ref C2)), zs2⟩) (e2ga : PySem.W.findIn K (.ref C2) "__getattribute__" = some (some (.builtin "BaseException.__getattribute__"))) (e2gg : PySem.W.findIn K (.ref C2) "__getattr__" = some none) (e2hd : PySem.W.hasDictIn K C2 = true) (e2hc : PySem.W.findIn K (.ref C2) "__class__" = some (some (.builtin "object.__class__"))) (e2hm : PySem.W.mroIn K C2 (.type "object") = some true) (e2pe : PySem.W.subIn K (.ref C2) (.ref ePE) = some true) (e2is0 : PySem.W.kitOne K (.ref C2) (.ref C0) = some false) (e2is1 : PySem.W.kitOne K (.ref C2) (.ref C1) = some false) (e2is2 : PySem.W.kitOne K (.ref C2) (.ref C2) = some true) :
    ∃ fd : FuncData, (∀ (s : Shared) (v : Value), BindsTo s fd ⟨[v], []⟩ [("script", v)]) ∧ ∀ base : Heap, K.In base → base.Ns mainGlobals mg → FnG l.prog w K mg base 8 fa fd ["script"] (spF K mg 1 m_law) := by
  have e := hfa.symm.trans (PySem.W.mg_of X G a18)
  cases e
  have T : Bn mg := ⟨PySem.W.mg_none_of X G z_len0, PySem.W.mg_none_of X G z_int0, PySem.W.mg_none_of X G z_max0, PySem.W.mg_none_of X G z_min0, PySem.W.mg_none_of X G z_tuple0, PySem.W.mg_none_of X G z_list0, PySem.W.mg_none_of X G z_repr0, PySem.W.mg_none_of X G z_range0, PySem.W.mg_none_of X G z_isinstance0, PySem.W.mg_none_of X G z_bool0, PySem.W.mg_none_of X G z_str0, PySem.W.mg_none_of X G z_dict0, PySem.W.mg_none_of X G z_enumerate0, PySem.W.mg_none_of X G z_zip0, PySem.W.mg_none_of X G z_sorted0, PySem.W.mg_none_of X G z_set0⟩
  have I : Gi mg := ⟨⟨_, PySem.W.mg_of X G g_MOST_STANDINGS⟩, ⟨_, PySem.W.mg_of X G g_MOST_LETTERS⟩, ⟨_, PySem.W.mg_of X G g_MOST_SHOWN⟩, ⟨_, PySem.W.mg_of X G g_LONGEST_WORD⟩⟩
  have M0 := PySem.W.mg_of X G e0a
  have T0 : ErTx l.prog K "place" C0 I0 := ⟨⟨_, _, _, _, _, _, _, _, _, _, _, _, _, _, _, e0l, by first | rfl | decide +kernel⟩, e0sa, e0nplace, e0iC, e0tI, e0kC, e0eC, e0tC, e0vC, e0sC, e0up, e_np, _, _, _, _, _, _, _, _, _, _, _, _, e0fn, e0cd, ⟨_, fun env => by first | rfl | with_unfolding_all rfl⟩, ⟨_, _, _, _, _, _, e0co, e0fi, e0fj⟩, _, _, _, e0ce⟩
  have Y0 : CaTx K C0 := ⟨⟨e0ga, e0gg, e0eC, e0hd⟩, fun f hf => by rcases hf with rfl | rfl | rfl <;> assumption, by unfold PySem.W.clsIn; rw [e0l] <;> rfl, e0hc, e_hn, e_ht, e0hm⟩
  have M1 := PySem.W.mg_of X G e1a
  have T1 : ErTx l.prog K "place" C1 I1 := ⟨⟨_, _, _, _, _, _, _, _, _, _, _, _, _, _, _, e1l, by first | rfl | decide +kernel⟩, e1sa, e1nplace, e1iC, e1tI, e1kC, e1eC, e1tC, e1vC, e1sC, e1up, e_np, _, _, _, _, _, _, _, _, _, _, _, _, e1fn, e1cd, ⟨_, fun env => by first | rfl | with_unfolding_all rfl⟩, ⟨_, _, _, _, _, _, e1co, e1fi, e1fj⟩, _, _, _, e1ce⟩
  have Y1 : CaTx K C1 := ⟨⟨e1ga, e1gg, e1eC, e1hd⟩, fun f hf => by rcases hf with rfl | rfl | rfl <;> assumption, by unfold PySem.W.clsIn; rw [e1l] <;> rfl, e1hc, e_hn, e_ht, e1hm⟩
  have M2 := PySem.W.mg_of X G e2a
  have T2 : ErTx l.prog K "value" C2 I2 := ⟨⟨_, _, _, _, _, _, _, _, _, _, _, _, _, _, _, e2l, by first | rfl | decide +kernel⟩, e2sa, e2nvalue, e2iC, e2tI, e2kC, e2eC, e2tC, e2vC, e2sC, e2up, e_np, _, _, _, _, _, _, _, _, _, _, _, _, e2fn, e2cd, ⟨_, fun env => by first | rfl | with_unfolding_all rfl⟩, ⟨_, _, _, _, _, _, e2co, e2fi, e2fj⟩, _, _, _, e2ce⟩
  have Y2 : CaTx K C2 := ⟨⟨e2ga, e2gg, e2eC, e2hd⟩, fun f hf => by rcases hf with rfl | rfl | rfl <;> assumption, by unfold PySem.W.clsIn; rw [e2l] <;> rfl, e2hc, e_hn, e_ht, e2hm⟩
  have ca : Caught K mg yesX := fun x hx => by
    have hx' := hx; simp only [yesX, List.mem_cons, List.not_mem_nil, or_false] at hx'; rcases hx' with rfl | rfl | rfl
    · exact ⟨_, M0, Y0⟩
    · exact ⟨_, M1, Y1⟩
    · exact ⟨_, M2, Y2⟩
  have byP : CatBy K mg yesX "PartError" := ⟨ePE, PySem.W.mg_of X G e_PE, fun x hx C hC => by
    have hx' := hx; simp only [yesX, List.mem_cons, List.not_mem_nil, or_false] at hx'; rcases hx' with rfl | rfl | rfl
    · rw [M0] at hC; cases hC; exact PySem.W.exm_ref e_PEe e_PEd e_PEt e0pe
    · rw [M1] at hC; cases hC; exact PySem.W.exm_ref e_PEe e_PEd e_PEt e1pe
    · rw [M2] at hC; cases hC; exact PySem.W.exm_ref e_PEe e_PEd e_PEt e2pe⟩
  have is0 : IsBy K mg yesX "BadMachine" ["BadMachine"] := ⟨C0, M0, fun x hx C hC => by
    have hx' := hx; simp only [yesX, List.mem_cons, List.not_mem_nil, or_false] at hx'; rcases hx' with rfl | rfl | rfl
    · rw [M0] at hC; cases hC; exact e0is0
    · rw [M1] at hC; cases hC; exact e1is0
    · rw [M2] at hC; cases hC; exact e2is0⟩
  have is1 : IsBy K mg yesX "BadWord" ["BadWord"] := ⟨C1, M1, fun x hx C hC => by
    have hx' := hx; simp only [yesX, List.mem_cons, List.not_mem_nil, or_false] at hx'; rcases hx' with rfl | rfl | rfl
    · rw [M0] at hC; cases hC; exact e0is1
    · rw [M1] at hC; cases hC; exact e1is1
    · rw [M2] at hC; cases hC; exact e2is1⟩
  have is2 : IsBy K mg yesX "BadStanding" ["BadStanding"] := ⟨C2, M2, fun x hx C hC => by
    have hx' := hx; simp only [yesX, List.mem_cons, List.not_mem_nil, or_false] at hx'; rcases hx' with rfl | rfl | rfl
    · rw [M0] at hC; cases hC; exact e0is2
    · rw [M1] at hC; cases hC; exact e1is2
    · rw [M2] at hC; cases hC; exact e2is2⟩
  have EE : Ex l.prog K mg := ⟨PySem.W.mg_none_of X G e_sup, e_top, ⟨C0, I0, M0, T0⟩, ⟨C1, I1, M1, T1⟩, ⟨C2, I2, M2, T2⟩, ca, byP, is0, is1, is2⟩
  have F0 := fun_mk (st := s_is_number_below) l0 c0 k0
  have C0_ : ∀ base : Heap, CallF l.prog w K mg base 1 "is_number_below" ["thing", "many"] m_is_number_below := fun base => ⟨f0, _, PySem.W.mg_of X G a0, k0, F0.binds (ps := ["thing", "many"]) (fun _ _ _ _ _ _ us hl => match us, hl with | [_, _], _ => rfl), f_is_number_below F0 T I EE , fun ds S h => fnM_ar ds S h⟩
  have F1 := fun_mk (st := s_is_tuple_of) l1 c1 k1
  have C1_ : ∀ base : Heap, CallF l.prog w K mg base 1 "is_tuple_of" ["thing", "least", "most"] m_is_tuple_of := fun base => ⟨f1, _, PySem.W.mg_of X G a1, k1, F1.binds (ps := ["thing", "least", "most"]) (fun _ _ _ _ _ _ us hl => match us, hl with | [_, _, _], _ => rfl), f_is_tuple_of F1 T I EE , fun ds S h => fnM_ar ds S h⟩
  have F2 := fun_mk (st := s_need_table_form) l2 c2 k2
  have C2_ : ∀ base : Heap, CallF l.prog w K mg base 2 "need_table_form" ["table"] m_need_table_form := fun base => ⟨f2, _, PySem.W.mg_of X G a2, k2, F2.binds (ps := ["table"]) (fun _ _ _ _ _ _ us hl => match us, hl with | [_], _ => rfl), f_need_table_form F2 T I EE C1_, fun ds S h => fnM_ar ds S h⟩
  have F3 := fun_mk (st := s_need_goals) l3 c3 k3
  have C3_ : ∀ base : Heap, CallF l.prog w K mg base 2 "need_goals" ["table"] m_need_goals := fun base => ⟨f3, _, PySem.W.mg_of X G a3, k3, F3.binds (ps := ["table"]) (fun _ _ _ _ _ _ us hl => match us, hl with | [_], _ => rfl), f_need_goals F3 T I EE C0_, fun ds S h => fnM_ar ds S h⟩
  have F4 := fun_mk (st := s_need_shown) l4 c4 k4
  have C4_ : ∀ base : Heap, CallF l.prog w K mg base 2 "need_shown" ["shown", "many"] m_need_shown := fun base => ⟨f4, _, PySem.W.mg_of X G a4, k4, F4.binds (ps := ["shown", "many"]) (fun _ _ _ _ _ _ us hl => match us, hl with | [_, _], _ => rfl), f_need_shown F4 T I EE C1_ C0_, fun ds S h => fnM_ar ds S h⟩
  have F5 := fun_mk (st := s_need_machine) l5 c5 k5
  have C5_ : ∀ base : Heap, CallF l.prog w K mg base 3 "need_machine" ["thing"] m_need_machine := fun base => ⟨f5, _, PySem.W.mg_of X G a5, k5, F5.binds (ps := ["thing"]) (fun _ _ _ _ _ _ us hl => match us, hl with | [_], _ => rfl), f_need_machine F5 T I EE C1_ C2_ C3_ C4_, fun ds S h => fnM_ar ds S h⟩
  have F6 := fun_mk (st := s_need_standing) l6 c6 k6
  have C6_ : ∀ base : Heap, CallF l.prog w K mg base 2 "need_standing" ["machine", "standing"] m_need_standing := fun base => ⟨f6, _, PySem.W.mg_of X G a6, k6, F6.binds (ps := ["machine", "standing"]) (fun _ _ _ _ _ _ us hl => match us, hl with | [_, _], _ => rfl), f_need_standing F6 T I EE C0_, fun ds S h => fnM_ar ds S h⟩
  have F7 := fun_mk (st := s_need_word) l7 c7 k7
  have C7_ : ∀ base : Heap, CallF l.prog w K mg base 2 "need_word" ["machine", "word"] m_need_word := fun base => ⟨f7, _, PySem.W.mg_of X G a7, k7, F7.binds (ps := ["machine", "word"]) (fun _ _ _ _ _ _ us hl => match us, hl with | [_, _], _ => rfl), f_need_word F7 T I EE C1_ C0_, fun ds S h => fnM_ar ds S h⟩
  have F8 := fun_mk (st := s_run) l8 c8 k8
  have C8_ : ∀ base : Heap, CallF l.prog w K mg base 4 "run" ["machine", "standing", "word"] m_run := fun base => ⟨f8, _, PySem.W.mg_of X G a8, k8, F8.binds (ps := ["machine", "standing", "word"]) (fun _ _ _ _ _ _ us hl => match us, hl with | [_, _, _], _ => rfl), f_run F8 T I EE C5_ C6_ C7_, fun ds S h => fnM_ar ds S h⟩
  have F9 := fun_mk (st := s_law_begun) l9 c9 k9
  have C9_ : ∀ base : Heap, CallF l.prog w K mg base 1 "_law_begun" ["script", "k"] m_law_begun := fun base => ⟨f9, _, PySem.W.mg_of X G a9, k9, F9.binds (ps := ["script", "k"]) (fun _ _ _ _ _ _ us hl => match us, hl with | [_, _], _ => rfl), f_law_begun F9 T I EE , fun ds S h => fnM_ar ds S h⟩
  have F10 := fun_mk (st := s_law_draw) l10 c10 k10
  have C10_ : ∀ base : Heap, CallF l.prog w K mg base 1 "_law_draw" ["m", "many"] m_law_draw := fun base => ⟨f10, _, PySem.W.mg_of X G a10, k10, F10.binds (ps := ["m", "many"]) (fun _ _ _ _ _ _ us hl => match us, hl with | [_, _], _ => rfl), f_law_draw F10 T I EE , fun ds S h => fnM_ar ds S h⟩
  have F11 := fun_mk (st := s_law_of) l11 c11 k11
  have C11_ : ∀ base : Heap, CallF l.prog w K mg base 2 "_law_of" ["m", "some"] m_law_of := fun base => ⟨f11, _, PySem.W.mg_of X G a11, k11, F11.binds (ps := ["m", "some"]) (fun _ _ _ _ _ _ us hl => match us, hl with | [_, _], _ => rfl), f_law_of F11 T I EE C10_, fun ds S h => fnM_ar ds S h⟩
  have F12 := fun_mk (st := s_law_frame) l12 c12 k12
  have C12_ : ∀ base : Heap, CallF l.prog w K mg base 3 "_law_frame" ["m", "most", "wide"] m_law_frame := fun base => ⟨f12, _, PySem.W.mg_of X G a12, k12, F12.binds (ps := ["m", "most", "wide"]) (fun _ _ _ _ _ _ us hl => match us, hl with | [_, _, _], _ => rfl), f_law_frame F12 T I EE C10_ C11_, fun ds S h => fnM_ar ds S h⟩
  have F13 := fun_mk (st := s_law_gone) l13 c13 k13
  have C13_ : ∀ base : Heap, CallF l.prog w K mg base 1 "_law_gone" ["frame", "begin", "letters"] m_law_gone := fun base => ⟨f13, _, PySem.W.mg_of X G a13, k13, F13.binds (ps := ["frame", "begin", "letters"]) (fun _ _ _ _ _ _ us hl => match us, hl with | [_, _, _], _ => rfl), f_law_gone F13 T I EE , fun ds S h => fnM_ar ds S h⟩
  have F14 := fun_mk (st := s_law_heard) l14 c14 k14
  have C14_ : ∀ base : Heap, CallF l.prog w K mg base 5 "_law_heard" ["frame", "begin", "letters"] m_law_heard := fun base => ⟨f14, _, PySem.W.mg_of X G a14, k14, F14.binds (ps := ["frame", "begin", "letters"]) (fun _ _ _ _ _ _ us hl => match us, hl with | [_, _, _], _ => rfl), f_law_heard F14 T I EE C8_, fun ds S h => fnM_ar ds S h⟩
  have F15 := fun_mk (st := s_law_right) l15 c15 k15
  have C15_ : ∀ base : Heap, CallF l.prog w K mg base 6 "_law_right" ["frame", "begin", "letters", "due"] m_law_right := fun base => ⟨f15, _, PySem.W.mg_of X G a15, k15, F15.binds (ps := ["frame", "begin", "letters", "due"]) (fun _ _ _ _ _ _ us hl => match us, hl with | [_, _, _, _], _ => rfl), f_law_right F15 T I EE C14_, fun ds S h => fnM_ar ds S h⟩
  have F16 := fun_mk (st := s_law_refused) l16 c16 k16
  have C16_ : ∀ base : Heap, CallF l.prog w K mg base 7 "_law_refused" ["m", "frame"] m_law_refused := fun base => ⟨f16, _, PySem.W.mg_of X G a16, k16, F16.binds (ps := ["m", "frame"]) (fun _ _ _ _ _ _ us hl => match us, hl with | [_, _], _ => rfl), f_law_refused F16 T I EE C15_ C10_ C13_, fun ds S h => fnM_ar ds S h⟩
  have F17 := fun_mk (st := s_law_hand_right) l17 c17 k17
  have C17_ : ∀ base : Heap, CallF l.prog w K mg base 7 "_law_hand_right" [] m_law_hand_right := fun base => ⟨f17, _, PySem.W.mg_of X G a17, k17, F17.binds (ps := []) (fun _ _ _ _ _ _ us hl => match us, hl with | [], _ => rfl), f_law_hand_right F17 T I EE C8_ C13_ C14_ C15_, fun ds S h => fnM_ar ds S h⟩
  have F18 := fun_mk (st := s_law) l18 c18 k18
  exact ⟨_, fun s v => .of_eq rfl, fun base _ _ => f_law F18 T I EE C9_ C12_ C10_ C15_ C13_ C16_ C17_⟩
end Lw
open PySem PySem.W PyProof.Rows in
set_option maxRecDepth 100000 in
set_option maxHeartbeats 0 in
theorem PySem.Challenge.cw_keptpartings_k02_whole_runs_holds : PySem.Challenge.rw_keptpartings_k02_whole_runs.Holds := by
  w_on; o_law; k_head; (case hw => w_witness2)
  k_fill
  refine Mi.walk_mi (l := PySem.Challenge.rw_keptpartings_k02_whole_runs) (k := 8) (x := "script") (m := Lw.m_law) rfl rfl ⟨rfl, by decide, by decide⟩ (fun w h Y => PySem.W.kIn_of Y) ?F Lw.law_ok
  case F =>
    intro w mg fa h KX G hmg
    refine' Lw.all_mk KX G hmg ?a0 ?l0 ?c0 ?k0 ?a1 ?l1 ?c1 ?k1 ?a2 ?l2 ?c2 ?k2 ?a3 ?l3 ?c3 ?k3 ?a4 ?l4 ?c4 ?k4 ?a5 ?l5 ?c5 ?k5 ?a6 ?l6 ?c6 ?k6 ?a7 ?l7 ?c7 ?k7 ?a8 ?l8 ?c8 ?k8 ?a9 ?l9 ?c9 ?k9 ?a10 ?l10 ?c10 ?k10 ?a11 ?l11 ?c11 ?k11 ?a12 ?l12 ?c12 ?k12 ?a13 ?l13 ?c13 ?k13 ?a14 ?l14 ?c14 ?k14 ?a15 ?l15 ?c15 ?k15 ?a16 ?l16 ?c16 ?k16 ?a17 ?l17 ?c17 ?k17 ?a18 ?l18 ?c18 ?k18 ?z_len0 ?z_int0 ?z_max0 ?z_min0 ?z_tuple0 ?z_list0 ?z_repr0 ?z_range0 ?z_isinstance0 ?z_bool0 ?z_str0 ?z_dict0 ?z_enumerate0 ?z_zip0 ?z_sorted0 ?z_set0 ?g_MOST_STANDINGS ?g_MOST_LETTERS ?g_MOST_SHOWN ?g_LONGEST_WORD ?e_sup ?e_np ?e_top ?e_hn ?e_ht ?e_PE ?e_PEe ?e_PEd ?e_PEt ?e0a ?e0l ?e0sa ?e0nplace ?e0nvalue ?e0nword ?e0iC ?e0tI ?e0kC ?e0eC ?e0tC ?e0vC ?e0sC ?e0up ?e0fn ?e0cd ?e0co ?e0fi ?e0fj ?e0ce ?e0ga ?e0gg ?e0hd ?e0hc ?e0hm ?e0pe ?e0is0 ?e0is1 ?e0is2 ?e1a ?e1l ?e1sa ?e1nplace ?e1nvalue ?e1nword ?e1iC ?e1tI ?e1kC ?e1eC ?e1tC ?e1vC ?e1sC ?e1up ?e1fn ?e1cd ?e1co ?e1fi ?e1fj ?e1ce ?e1ga ?e1gg ?e1hd ?e1hc ?e1hm ?e1pe ?e1is0 ?e1is1 ?e1is2 ?e2a ?e2l ?e2sa ?e2nplace ?e2nvalue ?e2nword ?e2iC ?e2tI ?e2kC ?e2eC ?e2tC ?e2vC ?e2sC ?e2up ?e2fn ?e2cd ?e2co ?e2fi ?e2fj ?e2ce ?e2ga ?e2gg ?e2hd ?e2hc ?e2hm ?e2pe ?e2is0 ?e2is1 ?e2is2
    (case a0 => k_is)
    (case l0 => k_is)
    (case c0 => k_is)
    (case k0 => k_is)
    (case a1 => k_is)
    (case l1 => k_is)
    (case c1 => k_is)
    (case k1 => k_is)
    (case a2 => k_is)
    (case l2 => k_is)
    (case c2 => k_is)
    (case k2 => k_is)
    (case a3 => k_is)
    (case l3 => k_is)
    (case c3 => k_is)
    (case k3 => k_is)
    (case a4 => k_is)
    (case l4 => k_is)
    (case c4 => k_is)
    (case k4 => k_is)
    (case a5 => k_is)
    (case l5 => k_is)
    (case c5 => k_is)
    (case k5 => k_is)
    (case a6 => k_is)
    (case l6 => k_is)
    (case c6 => k_is)
    (case k6 => k_is)
    (case a7 => k_is)
    (case l7 => k_is)
    (case c7 => k_is)
    (case k7 => k_is)
    (case a8 => k_is)
    (case l8 => k_is)
    (case c8 => k_is)
    (case k8 => k_is)
    (case a9 => k_is)
    (case l9 => k_is)
    (case c9 => k_is)
    (case k9 => k_is)
    (case a10 => k_is)
    (case l10 => k_is)
    (case c10 => k_is)
    (case k10 => k_is)
    (case a11 => k_is)
    (case l11 => k_is)
    (case c11 => k_is)
    (case k11 => k_is)
    (case a12 => k_is)
    (case l12 => k_is)
    (case c12 => k_is)
    (case k12 => k_is)
    (case a13 => k_is)
    (case l13 => k_is)
    (case c13 => k_is)
    (case k13 => k_is)
    (case a14 => k_is)
    (case l14 => k_is)
    (case c14 => k_is)
    (case k14 => k_is)
    (case a15 => k_is)
    (case l15 => k_is)
    (case c15 => k_is)
    (case k15 => k_is)
    (case a16 => k_is)
    (case l16 => k_is)
    (case c16 => k_is)
    (case k16 => k_is)
    (case a17 => k_is)
    (case l17 => k_is)
    (case c17 => k_is)
    (case k17 => k_is)
    (case a18 => k_is)
    (case l18 => k_is)
    (case c18 => k_is)
    (case k18 => k_is)
    (case z_len0 => k_is)
    (case z_int0 => k_is)
    (case z_max0 => k_is)
    (case z_min0 => k_is)
    (case z_tuple0 => k_is)
    (case z_list0 => k_is)
    (case z_repr0 => k_is)
    (case z_range0 => k_is)
    (case z_isinstance0 => k_is)
    (case z_bool0 => k_is)
    (case z_str0 => k_is)
    (case z_dict0 => k_is)
    (case z_enumerate0 => k_is)
    (case z_zip0 => k_is)
    (case z_sorted0 => k_is)
    (case z_set0 => k_is)
    (case g_MOST_STANDINGS => k_is)
    (case g_MOST_LETTERS => k_is)
    (case g_MOST_SHOWN => k_is)
    (case g_LONGEST_WORD => k_is)
    (case e_sup => k_is)
    (case e_np => k_is)
    (case e_top => first | rfl | kernel_rfl | decide +kernel)
    (case e_hn => k_is)
    (case e_ht => k_is)
    (case e_PE => k_is)
    (case e_PEe => k_is)
    (case e_PEd => k_is)
    (case e_PEt => k_is)
    (case e0a => k_is)
    (case e0l => k_is)
    (case e0sa => k_is)
    (case e0nplace => k_is)
    (case e0nvalue => k_is)
    (case e0nword => k_is)
    (case e0iC => k_is)
    (case e0tI => k_is)
    (case e0kC => k_is)
    (case e0eC => k_is)
    (case e0tC => k_is)
    (case e0vC => k_is)
    (case e0sC => k_is)
    (case e0up => ks_is)
    (case e0fn => k_is)
    (case e0cd => k_is)
    (case e0co => k_is)
    (case e0fi => first | rfl | kernel_rfl)
    (case e0fj => first | rfl | kernel_rfl | decide +kernel)
    (case e0ce => k_is)
    (case e0ga => k_is)
    (case e0gg => k_is)
    (case e0hd => k_is)
    (case e0hc => k_is)
    (case e0hm => k_is)
    (case e0pe => k_is)
    (case e0is0 => kernel_rfl)
    (case e0is1 => kernel_rfl)
    (case e0is2 => kernel_rfl)
    (case e1a => k_is)
    (case e1l => k_is)
    (case e1sa => k_is)
    (case e1nplace => k_is)
    (case e1nvalue => k_is)
    (case e1nword => k_is)
    (case e1iC => k_is)
    (case e1tI => k_is)
    (case e1kC => k_is)
    (case e1eC => k_is)
    (case e1tC => k_is)
    (case e1vC => k_is)
    (case e1sC => k_is)
    (case e1up => ks_is)
    (case e1fn => k_is)
    (case e1cd => k_is)
    (case e1co => k_is)
    (case e1fi => first | rfl | kernel_rfl)
    (case e1fj => first | rfl | kernel_rfl | decide +kernel)
    (case e1ce => k_is)
    (case e1ga => k_is)
    (case e1gg => k_is)
    (case e1hd => k_is)
    (case e1hc => k_is)
    (case e1hm => k_is)
    (case e1pe => k_is)
    (case e1is0 => kernel_rfl)
    (case e1is1 => kernel_rfl)
    (case e1is2 => kernel_rfl)
    (case e2a => k_is)
    (case e2l => k_is)
    (case e2sa => k_is)
    (case e2nplace => k_is)
    (case e2nvalue => k_is)
    (case e2nword => k_is)
    (case e2iC => k_is)
    (case e2tI => k_is)
    (case e2kC => k_is)
    (case e2eC => k_is)
    (case e2tC => k_is)
    (case e2vC => k_is)
    (case e2sC => k_is)
    (case e2up => ks_is)
    (case e2fn => k_is)
    (case e2cd => k_is)
    (case e2co => k_is)
    (case e2fi => first | rfl | kernel_rfl)
    (case e2fj => first | rfl | kernel_rfl | decide +kernel)
    (case e2ce => k_is)
    (case e2ga => k_is)
    (case e2gg => k_is)
    (case e2hd => k_is)
    (case e2hc => k_is)
    (case e2hm => k_is)
    (case e2pe => k_is)
    (case e2is0 => kernel_rfl)
    (case e2is1 => kernel_rfl)
    (case e2is2 => kernel_rfl)
