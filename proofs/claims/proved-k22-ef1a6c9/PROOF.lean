import PyProof.Rows.All
import Wide.All
import OpenK.AllK
import Wide.FinOn
import HandS.Base
import HandS.Call
import HandS.List
import HandS.TupAny
import HandS.TupMul
import KE.KIndexOf
import HandS.Comp
import HandS.Dict
import HandS.Iter
import HandS.Exc
import HandS.ExcOwn
import HandS.ExcValue
import HandS.Ends
import HandS.Words
import HandS.Walk
import HandS.IsInst
import HandS.Style
import KE.DataMinMax
import KE.GoesEnum
import HandS.Deep
import HandS.Zip
import HandS.Star
import HandS.WordsDict
import HandS.TupLen
import KE.KExcSuper
import HandS.ExcInit
import HandS.ExcField
import HandS.ExcIs
import KE.KExcIs
import HandS.Conv
import HandS.SetKeys
import HandS.TupSets
import KE.KDictList
import HandS.Sort
import HandS.TupLe
import HandS.SetFor
import PyProof.P3In
import HandS.Property
import PyProof.InstSpecial
import KE.KExcInit
import KE.KIsAll
import HandS.Text
import HandS.Codes
import PySem.Challenge.RW_keptpartings_k22_exceptions
/-! MiS -/
set_option Elab.async false
set_option linter.all false
set_option maxRecDepth 100000
set_option maxHeartbeats 1000000
set_option autoImplicit false
namespace Mi
open PySem PySem.Spec PyProof.Rows L2

/-! ### tuples made, with what they are: so that their methods may be called -/
/-- a tuple whose object is known to have no dict of its own -/
def St (H : Hp) (a : Addr) (xs : List V) : Prop := ∃ o : Obj, H a = some (.frz o (.tup xs)) ∧ o.dict = none
theorem St.sqt {K : PySem.W.Frag} {H : Hp} {a : Addr} {xs : List V} (h : St H a xs) : SqT K H a xs := by
  obtain ⟨o, h, _⟩ := h
  exact .inl (.inr ⟨o, h⟩)
abbrev tuO (us : List Value) : Obj := { cls := .type "tuple", data := .seq us.toArray }
/-- the wish for a new one -/
def NwT (H : Hp) (xs : List V) (Q : VK) : Prop := ∀ (p : Addr) (o : Obj), H p = none → o.dict = none → Q (.ref p) (upd H p (.frz o (.tup xs)))
section
variable {X : Cx} {pins : List (Addr × Obj)} {σ : L2.St} {H : Hp} {s : Shared} {Q : VK}
theorem laidT {xs : List V} {us : List Value} {h' : Heap} (I : Inv X pins σ H s) (r : Vals xs us) (hz : xs.length ≤ sizeLine) (k : ∀ b o, s.heap.get? b = some o → h'.get? b = some o) (at_ : h'.get? s.heap.objs.size = some (tuO us)) (q : NwT H xs Q) :
    EP X pins σ Q (.ref s.heap.objs.size) { s with heap := h' } :=
  ⟨.ref s.heap.objs.size, _, I.laid (t' := s.toks) (o := .frz (tuO us) (.tup xs)) k (Nat.le_refl _) ⟨at_, hz, us, r, ⟨_, at_, rfl, _, rfl⟩⟩, rfl, q _ _ (I.hok.fresh (Nat.le_refl _)) rfl⟩
def tTupF (t : TA) : TE := fun σ H Q => t σ H fun xs H1 => xs.length ≤ sizeLine ∧ NwT H1 xs Q
theorem pe_tupF {es : List Expr} {t : TA} {x1 : Nat} {pos : Pos} (h : PA X es t) : PE X (.Tuple es x1 pos) (tTupF t) := by
  refine ⟨fun pins s σ H Q I hq => ?_⟩
  refine wpAny_Tuple_spliced (thn (h.run pos pins s σ H _ I hq) fun us s1 ⟨xs, H1, I1, r, z, q⟩ => ⟨by rw [← r.length]; exact z, ?_⟩)
  exact laidT I1 r z (fun b u e => Heap.get?_push_of_some _ e) (Heap.get?_push_size _ rfl) q
def rTupF (K : PySem.W.Frag) : List V → Hp → VK → Prop := fun xs H Q => ∃ p ys, xs = [.ref p] ∧ ((SqL K H p ys ∧ NwT H ys Q) ∨ (SqT K H p ys ∧ Q (.ref p) H))
theorem call_tupF : CallR X (.type "tuple") (rTupF X.K) := by
  intro pins s σ H xs us Q I r h
  obtain ⟨p, ys, rfl, h⟩ := h
  rcases h with ⟨hq, q⟩ | ⟨hq, q⟩
  · obtain ⟨u, rfl, rx⟩ := vals1 r
    cases rx
    obtain ⟨its, r', pl, hz⟩ := I.list hq
    have hlen := r'.length
    refine call_tuple_list pl.isList (fun h' kp => ?_) (by simp only [List.size_toArray] <;> omega)
    have I1 : Inv X pins σ H { s with heap := h' } := I.kept (t' := s.toks) kp
    exact laidT I1 r' hz (fun b o e => Heap.get?_push_of_some _ e) (Heap.get?_push_size _ rfl) q
  · exact call_tupleT pins s σ H _ us Q I r ⟨p, ys, rfl, hq, q⟩
def rCatF (K : PySem.W.Frag) : R2 := fun x y H Q => ∃ a b xs ys, x = .ref a ∧ y = .ref b ∧ SqT K H a xs ∧ SqT K H b ys ∧ xs ≠ [] ∧ ys ≠ [] ∧ xs.length + ys.length ≤ sizeLine ∧ NwT H (xs ++ ys) Q
theorem op_catF : OpR X (binaryOp .Add) (rCatF X.K) := by
  intro pins s σ H x y v u Q I rx ry h
  obtain ⟨a, b, xs, ys, rfl, rfl, ha, hb, hx, hy, hz, q⟩ := h
  cases rx
  cases ry
  obtain ⟨its, r1, p1, _⟩ := I.tuple ha
  obtain ⟨its2, r2, p2, _⟩ := I.tuple hb
  refine HT.cat_tup p1 p2 (fun z => hx (r1.nil_iff.mp z)) (fun z => absurd (r2.nil_iff.mp z) hy) (fun z => ?_) (by rw [← r1.length, ← r2.length]; exact hz)
  exact laidT I (r1.append r2) (by rw [List.length_append]; exact hz) (fun b ob q => Heap.get?_push_of_some _ q) (Heap.get?_push_size _ rfl) q
/-- two times and more -/
def rRepF (K : PySem.W.Frag) : R2 := fun x y H Q => ∃ (l : Addr) (m : Nat) (xs : List V), x = .ref l ∧ y = .int ((m + 2 : Nat) : Int) ∧ SqT K H l xs ∧ xs ≠ [] ∧ m ≤ 900 ∧ xs.length ≤ 1000 ∧ NwT H (List.replicate (m + 2) xs).flatten Q
theorem op_repF : OpR X (binaryOp .Mult) (rRepF X.K) := by
  intro pins s σ H x y v u Q I rx ry h
  obtain ⟨l, m, xs, rfl, rfl, hT, hne, hm, hz, q⟩ := h
  cases rx; obtain ⟨t, rfl⟩ := ry
  obtain ⟨its, r, ⟨⟨c0, dd, da, sl⟩, ho, e1, n, e2⟩, hs⟩ := I.tuple hT
  obtain rfl : c0 = .type "tuple" := e1
  obtain rfl : da = .seq its.toArray n := e2
  have le := r.length
  have nn : its ≠ [] := fun e => hne (List.eq_nil_of_length_eq_zero (by rw [le, e]; rfl))
  have em : its.toArray.isEmpty = false := by cases its <;> first | exact absurd rfl nn | rfl
  have small : (m + 2) * xs.length ≤ 902 * 1000 := Nat.mul_le_mul (by omega) hz
  have tn : (((m + 2 : Nat) : Int)).toNat = m + 2 := Int.toNat_natCast _
  have prod : ((its.toArray.size : Nat) : Int) * ((m + 2 : Nat) : Int) = (((m + 2) * xs.length : Nat) : Int) := by rw [List.size_toArray, ← le, ← Int.natCast_mul, Nat.mul_comm]
  have fl : (List.replicate (m + 2) its).flatten.length = (m + 2) * xs.length := by rw [PyProof.Rows.lm_len_rep_flat, le]
  have sl0 := sizeLine_eq
  have k0 : (decide (((m + 2 : Nat) : Int) < -(2 ^ 63)) || decide (((m + 2 : Nat) : Int) ≥ 2 ^ 63)) = false := by rw [decide_eq_false (by omega), decide_eq_false (by omega)]; rfl
  have k1 : (its.toArray.isEmpty || ((m + 2 : Nat) : Int) == 1) = false := by rw [em, Bool.false_or]; exact beq_eq_false_iff_ne.mpr (by omega)
  have k2 : (decide (((m + 2 : Nat) : Int) ≤ 0) || its.toArray.isEmpty) = false := by rw [em, Bool.or_false]; exact decide_eq_false (by omega)
  have k4 : Builtin.Tuple.tupleTooMany (((its.toArray.size : Nat) : Int) * ((m + 2 : Nat) : Int)) = false := by rw [prod]; unfold Builtin.Tuple.tupleTooMany; exact decide_eq_false (by omega)
  have k5 : (List.foldl (fun x1 x2 => x1 ++ x2) #[] (List.replicate (((m + 2 : Nat) : Int)).toNat its.toArray)).size ≤ sizeLine := by rw [tn, size_rep, List.size_toArray, fl]; omega
  have go := tuple_mulW l its.toArray n dd sl ((m + 2 : Nat) : Int) t k0 k1 k2 (by rw [prod]; omega) k4 k5
  have back := int_rmul_tuple ((m + 2 : Nat) : Int) t l its.toArray n dd sl
  refine wpAny_binaryOp_repeat_ref (T := "tuple") (U := "int") (by decide) ⟨_, ho, rfl⟩ (fun s' => typeIs_int s' _ t) noFill_tuple_mul F.fills_int_mul F.slot_int_rmul repeat_tuple F.slot_int_index.lookup
    (call_meets F.slot_int_rmul (typeIs_int s _ t) F.entry_int_rmul (F.args_int_rmul_2 _ _) back ⟨ho, rfl, ⟨_, ho, rfl⟩, call_meets F.slot_tuple_mul ⟨_, ho, rfl⟩ F.entry_tuple_mul (F.args_tuple_mul_2 _ _) go ⟨ho, ?_⟩⟩)
  have rr : Vals (List.replicate (m + 2) xs).flatten (List.replicate (m + 2) its).flatten := r.rep (m + 2)
  refine laidT I rr (by rw [PyProof.Rows.lm_len_rep_flat]; omega) (fun b ob q => Heap.get?_push_of_some _ q) ?_ q
  rw [tn, size_rep]
  exact Heap.get?_push_size _ rfl

/-! ### a method of such a tuple -/
def tTM (r : V → List V → Hp → VK → Prop) (to : TE) (t : TA) : TE := fun σ H Q => to σ H fun x H1 => (∃ a xs, x = .ref a ∧ St H1 a xs) ∧ t σ H1 fun xs H2 => r x xs H2 Q
theorem pe_tm {o e : Expr} {es : List Expr} {to : TE} {t : TA} {name : Str} {apos cpos : Pos} {id : String} {r : V → List V → Hp → VK → Prop} (slot : Slot "tuple" name id) (hty : typeOf (.builtin id) = pure (.type "method_descriptor")) (hm : MtR X id r) (ho : PE X o to) (ha : PA X (e :: es) t)
    (hbase : attributeBase o name X.env (eval o X.env) = eval o X.env) (hfew : ((backTo cpos (starEach (e :: es) X.env)).all (fun x => !x.1) && (backToKw cpos (keywordEach [] X.env)).all (fun x => x.1.isSome) && decide ((e :: es).length + ([] : List Keyword).length + (if ([] : List Keyword).isEmpty then 0 else 1) < 30)) = true)
    (hline : (apos.endLine == cpos.line) = true) (hs : starEach (e :: es) X.env = (false, eval e X.env) :: starEach es X.env) (hplain : (backTo cpos (starEach es X.env)).any (·.1) = false) :
    PE X (.Call (.Attribute o name apos) (e :: es) [] cpos) (tTM r to t) := by
  refine ⟨fun pins s σ H Q I h => wpAny_Call_method_late hbase hfew hline rfl (thn (ho.run pins s σ H _ I h) ?_)⟩
  rintro v s1 ⟨x, H1, I1, r1, ⟨a, xs, rfl, o, hst, hnd⟩, q1⟩
  cases r1
  obtain ⟨at_, _, _, _, o', at2, hc, _⟩ := I1.hok a _ hst
  rw [at_] at at2; cases at2
  refine ⟨"tuple", id, PySem.F.plainAttrs_tuple, slot, hty, ⟨o, at_, hc⟩, fun b e => by cases e; exact ⟨o, at_, hnd⟩, ?_⟩
  have hA := ha.run cpos pins s1 σ H1 _ I1 q1
  rw [hs] at hA; rw [hs]
  refine Calls.callWith_builtin (show (false || (backTo cpos (starEach es X.env)).any (·.1)) = false from by rw [hplain]; rfl) (Calls.evalArgs_plain (thn hA ?_))
  rintro us s2 ⟨vs, H2, I2, r2, q2⟩
  exact hm pins s2 σ H2 (.ref a) vs (.ref a) us Q I2 rfl r2 q2
end
end Mi

/-! Mi0 -/
set_option Elab.async false
set_option linter.all false
set_option maxRecDepth 100000
set_option maxHeartbeats 1000000
namespace Mi
open PySem PySem.Spec PyProof.Rows L2

/-! ### values and cells of the plain reckoning -/
inductive D where
  | p (d : PyData) | loc (i : Nat) | scr (ns : List Int)
inductive Cell where
  | lst (xs : List D) | dk (kvs : List (Key × D)) | dt (kvs : List (List Key × D)) | ins (t : Nat) (fs : List (Str × D))
/-- the own classes whose instances are cells -/
def clsN : Nat → Str
  | 0 => "Bench" | 1 => "Desk" | 2 => "Trial" | _ => "Saved"
/-- an exception: the name of its class, its fields -/
structure Er where
  cls : Str
  fs : List (Str × PyData)
abbrev Sto := List Cell
abbrev Envr := List (Option D)
inductive Ot (α : Type) where
  | bad | err (e : Er) (S : Sto) | ok (a : α) (S : Sto)
def Ot.bind {α β : Type} : Ot α → (α → Sto → Ot β) → Ot β
  | .bad, _ => .bad
  | .err e S, _ => .err e S
  | .ok a S, k => k a S
abbrev EM := Envr → Sto → Ot D
inductive Os where
  | bad | nx (env : Envr) (S : Sto) | rt (d : D) (S : Sto) | bk (env : Envr) (S : Sto) | ct (env : Envr) (S : Sto) | err (e : Er) (env : Envr) (S : Sto)
abbrev SM := Envr → Sto → Os
abbrev FM := List D → Sto → Ot D

/-! ### how they lie in the heap -/
def Own (μ : Nat → Addr) (n : Nat) (a : Addr) : Prop := ∃ i, i < n ∧ a = μ i
/-- an exception of the class C with the dict d, at e, as data -/
def excH (e C d : Addr) : HO := .ext fun h => ∃ (oe : Obj) (vs : Array Value), h.get? e = some oe ∧ Zc (.ref C) (some d) oe ∧ oe.data = .fields vs
mutual
inductive Pd (K : PySem.W.Frag) (H : Hp) (O : Addr → Prop) : V → PyData → Prop
  | non : Pd K H O .non .none
  | bl (b : Bool) : Pd K H O (.bl b) (.bool b)
  | int (i : Int) : Pd K H O (.int i) (.int i)
  | str (x : Str) : Pd K H O (.str x) (.str x)
  | lst {a : Addr} {xs : List V} {ds : List PyData} : H a = some (.lst xs) → ¬ O a → PdAll K H O xs ds → Pd K H O (.ref a) (.list ds)
  | tup {a : Addr} {xs : List V} {ds : List PyData} : St H a xs → PdAll K H O xs ds → Pd K H O (.ref a) (.tuple ds)
  | wk {a : Addr} {v w : V} {x y : PyData} : H a = some (.tup [v, w]) → Pd K H O v x → Pd K H O w y → Pd K H O (.ref a) (.dict [(.none, .none), (x, y)])
  | wkn {a : Addr} {vs : List V} {ds : List PyData} : H a = some (.tup vs) → PdAll K H O vs ds → Pd K H O (.ref a) (.dict ((.bool true, .none) :: ds.map fun d => (d, .none)))
  | dk0 {a : Addr} : H a = some (.dK []) → ¬ O a → Pd K H O (.ref a) (.dict [])
  | dk1 {a : Addr} {i : Int} {v : V} {x : PyData} : H a = some (.dK [(.inl i, v)]) → ¬ O a → Pd K H O v x → Pd K H O (.ref a) (.dict [(.int i, x)])
  | dks {a : Addr} {k : Str} {v : V} {x : PyData} : H a = some (.dK [(.inr k, v)]) → ¬ O a → Pd K H O v x → Pd K H O (.ref a) (.dict [(.str k, x)])
  | ex0 {e C : Addr} {c : Str} : PySem.W.nsIn K mainGlobals c = some (some (.ref C)) → H e = some (ExO (.ref C) e) → ¬ O e → Pd K H O (.ref e) (.dict [(.bool false, .str c)])
  | exn {e C d : Addr} {c : Str} {ks : List Str} {vs : List V} {ds : List PyData} : PySem.W.nsIn K mainGlobals c = some (some (.ref C)) → H e = some (excH e C d) → ¬ O e → H d = some (.xd (ks.zip vs)) → ¬ O d → ks.length = vs.length → PdAll K H O vs ds → Pd K H O (.ref e) (.dict ((.bool false, .str c) :: (.bool false, .none) :: (ks.zip ds).map fun p => (.str p.1, p.2)))
inductive PdAll (K : PySem.W.Frag) (H : Hp) (O : Addr → Prop) : List V → List PyData → Prop
  | nil : PdAll K H O [] []
  | cons {v : V} {vs : List V} {d : PyData} {ds : List PyData} : Pd K H O v d → PdAll K H O vs ds → PdAll K H O (v :: vs) (d :: ds)
end
/-- from one heap to a later one: what is not owned stays, what is owned later was owned or is new -/
structure Le (H : Hp) (O : Addr → Prop) (H' : Hp) (O' : Addr → Prop) : Prop where
  keep : ∀ a o, H a = some o → ¬ O a → H' a = some o
  own : ∀ a, O' a → O a ∨ H a = none
  tups : ∀ a xs, H a = some (.tup xs) → H' a = some (.tup xs)
  frzs : ∀ a o u, H a = some (.frz o u) → H' a = some (.frz o u)
theorem Le.refl (H : Hp) (O : Addr → Prop) : Le H O H O := ⟨fun _ _ h _ => h, fun _ h => .inl h, fun _ _ h => h, fun _ _ _ h => h⟩
section
variable {K : PySem.W.Frag} {H H1 H2 H' : Hp} {O O1 O2 O' : Addr → Prop}
theorem Le.live (l : Le H O H' O') {a : Addr} {o : HO} (h : H a = some o) (n : ¬ O a) : ¬ O' a := fun z => by
  rcases l.own a z with q | q
  · exact n q
  · rw [h] at q; cases q
theorem Le.trans (a : Le H O H1 O1) (b : Le H1 O1 H2 O2) : Le H O H2 O2 where
  keep := fun x o h n => b.keep x o (a.keep x o h n) (a.live h n)
  own := fun x h => by
    rcases b.own x h with q | q
    · exact a.own x q
    · by_cases z : O x
      · exact .inl z
      · refine .inr ?_
        cases r : H x with
        | none => rfl
        | some o => rw [a.keep x o r z] at q; cases q
  tups := fun x xs h => b.tups x xs (a.tups x xs h)
  frzs := fun x o u h => b.frzs x o u (a.frzs x o u h)
/-- the script: locked, or written -/
def ScR (K : PySem.W.Frag) (H : Hp) (a : Addr) (ns : List Int) : Prop := (∃ o, H a = some (.frz o (.lst (ns.map V.int)))) ∨
  ∃ (o : Obj) (its : Array Value) (n : Nat), K.lookup a = some o ∧ o.cls = .type "list" ∧ o.dict = none ∧ o.data = .seq its n ∧ its.size ≤ sizeLine ∧ Vals (ns.map V.int) its.toList
theorem ScR.sq {a : Addr} {ns : List Int} (h : ScR K H a ns) : SqL K H a (ns.map V.int) := h.elim (fun q => .inl (.inr q)) .inr
theorem Le.scr (l : Le H O H' O') {a : Addr} {ns : List Int} (h : ScR K H a ns) : ScR K H' a ns := h.elim (fun ⟨o, q⟩ => .inl ⟨o, l.frzs a o _ q⟩) .inr
theorem Le.sqt (l : Le H O H' O') {a : Addr} {xs : List V} (h : SqT K H a xs) : SqT K H' a xs := by
  rcases h with (h | ⟨o, h⟩) | h
  · exact .inl (.inl (l.tups a xs h))
  · exact .inl (.inr ⟨o, l.frzs a o _ h⟩)
  · exact .inr h
mutual
theorem Pd.mono (l : Le H O H' O') : ∀ {v : V} {d : PyData}, Pd K H O v d → Pd K H' O' v d
  | _, _, .non => .non
  | _, _, .bl b => .bl b
  | _, _, .int i => .int i
  | _, _, .str x => .str x
  | _, _, .lst h n r => .lst (l.keep _ _ h n) (l.live h n) (PdAll.mono l r)
  | _, _, .tup ⟨o, h, z⟩ r => .tup ⟨o, l.frzs _ _ _ h, z⟩ (PdAll.mono l r)
  | _, _, .wk h a b => .wk (l.tups _ _ h) (Pd.mono l a) (Pd.mono l b)
  | _, _, .wkn h r => .wkn (l.tups _ _ h) (PdAll.mono l r)
  | _, _, .dk0 h n => .dk0 (l.keep _ _ h n) (l.live h n)
  | _, _, .dk1 h n r => .dk1 (l.keep _ _ h n) (l.live h n) (Pd.mono l r)
  | _, _, .dks h n r => .dks (l.keep _ _ h n) (l.live h n) (Pd.mono l r)
  | _, _, .ex0 c h n => .ex0 c (l.keep _ _ h n) (l.live h n)
  | _, _, .exn c h n hd nd e r => .exn c (l.keep _ _ h n) (l.live h n) (l.keep _ _ hd nd) (l.live hd nd) e (PdAll.mono l r)
theorem PdAll.mono (l : Le H O H' O') : ∀ {vs : List V} {ds : List PyData}, PdAll K H O vs ds → PdAll K H' O' vs ds
  | _, _, .nil => .nil
  | _, _, .cons h r => .cons (Pd.mono l h) (PdAll.mono l r)
end
end
end Mi

/-! Mi1 -/
set_option Elab.async false
set_option linter.all false
set_option maxRecDepth 100000
set_option maxHeartbeats 1000000
set_option autoImplicit false
namespace Mi
open PySem PySem.Spec PyProof.Rows L2

/-- what plain data must not lean on: the cells, and what is reserved (a list that is being made) -/
def Av (R : Addr → Prop) (μ : Nat → Addr) (n : Nat) (a : Addr) : Prop := Own μ n a ∨ R a
/-- a value: plain data, or a cell -/
inductive DR (K : PySem.W.Frag) (R : Addr → Prop) (H : Hp) (μ : Nat → Addr) (n : Nat) : V → D → Prop
  | p {v : V} {d : PyData} : Pd K H (Av R μ n) v d → DR K R H μ n v (.p d)
  | loc {i : Nat} : i < n → DR K R H μ n (.ref (μ i)) (.loc i)
  | scr {a : Addr} {ns : List Int} : ScR K H a ns → DR K R H μ n (.ref a) (.scr ns)
inductive DRs (K : PySem.W.Frag) (R : Addr → Prop) (H : Hp) (μ : Nat → Addr) (n : Nat) : List V → List D → Prop
  | nil : DRs K R H μ n [] []
  | cons {v : V} {vs : List V} {d : D} {ds : List D} : DR K R H μ n v d → DRs K R H μ n vs ds → DRs K R H μ n (v :: vs) (d :: ds)
inductive DRo (K : PySem.W.Frag) (R : Addr → Prop) (H : Hp) (μ : Nat → Addr) (n : Nat) : List (Option V) → Envr → Prop
  | nil : DRo K R H μ n [] []
  | none {o : Option V} {vs : List (Option V)} {ds : Envr} : DRo K R H μ n vs ds → DRo K R H μ n (o :: vs) (none :: ds)
  | some {v : V} {vs : List (Option V)} {d : D} {ds : Envr} : DR K R H μ n v d → DRo K R H μ n vs ds → DRo K R H μ n (some v :: vs) (some d :: ds)
def DKv (K : PySem.W.Frag) (R : Addr → Prop) (H : Hp) (μ : Nat → Addr) (n : Nat) {κ : Type} (kvs : List (κ × V)) (kds : List (κ × D)) : Prop := kvs.map (·.1) = kds.map (·.1) ∧ DRs K R H μ n (kvs.map (·.2)) (kds.map (·.2))
/-- a cell -/
def CelR (K : PySem.W.Frag) (R : Addr → Prop) (H : Hp) (μ : Nat → Addr) (n : Nat) (a : Addr) : Cell → Prop
  | .lst xs => ∃ vs, H a = some (.lst vs) ∧ DRs K R H μ n vs xs
  | .dk kds => ∃ kvs, H a = some (.dK kvs) ∧ DKv K R H μ n kvs kds
  | .dt kds => ∃ kvs, H a = some (.dT kvs) ∧ DKv K R H μ n kvs kds
  | .ins nm fds => ∃ fs, (∃ C dx, PySem.W.nsIn K mainGlobals (clsN nm) = some (some (.ref C)) ∧ H a = some (.ins C dx fs)) ∧ DKv K R H μ n fs fds
/-- what a cell holds leans on earlier cells alone -/
def D.lowb (m : Nat) : D → Bool
  | .p _ => true
  | .loc i => decide (i < m)
  | .scr _ => true
def Cell.items : Cell → List D
  | .lst xs => xs
  | .dk kvs => kvs.map (·.2)
  | .dt kvs => kvs.map (·.2)
  | .ins _ fs => fs.map (·.2)
def Cell.lowb (m : Nat) (c : Cell) : Bool := c.items.all (D.lowb m)
structure RS (K : PySem.W.Frag) (R : Addr → Prop) (H : Hp) (μ : Nat → Addr) (S : Sto) : Prop where
  inj : ∀ i j, i < S.length → j < S.length → μ i = μ j → i = j
  cell : ∀ i c, S[i]? = some c → CelR K R H μ S.length (μ i) c
  low : ∀ (i : Nat) (c : Cell), S[i]? = some c → c.lowb i = true
  res : ∀ a, R a → H a ≠ none ∧ ¬ Own μ S.length a
/-- a step -/
structure Sp1 (μ : Nat → Addr) (n : Nat) (H : Hp) (μ' : Nat → Addr) (n' : Nat) (H' : Hp) : Prop where
  le : n ≤ n'
  same : ∀ i, i < n → μ' i = μ i
  hp : Le H (Own μ n) H' (Own μ' n')
theorem av_le {R : Addr → Prop} {μ μ' : Nat → Addr} {n n' : Nat} {H H' : Hp} (l : Le H (Own μ n) H' (Own μ' n')) : Le H (Av R μ n) H' (Av R μ' n') :=
  ⟨fun a o h z => l.keep a o h fun q => z (.inl q), fun a z => z.elim (fun q => (l.own a q).elim (fun x => .inl (.inl x)) .inr) fun q => .inl (.inr q), l.tups, l.frzs⟩
section
variable {K : PySem.W.Frag} {R : Addr → Prop} {H H1 H2 H' : Hp} {μ μ1 μ2 μ' : Nat → Addr} {n n1 n2 n' : Nat}
theorem Sp1.refl : Sp1 μ n H μ n H := ⟨Nat.le_refl _, fun _ _ => rfl, Le.refl _ _⟩
theorem Sp1.trans (a : Sp1 μ n H μ1 n1 H1) (b : Sp1 μ1 n1 H1 μ2 n2 H2) : Sp1 μ n H μ2 n2 H2 :=
  ⟨Nat.le_trans a.le b.le, fun i h => (b.same i (Nat.lt_of_lt_of_le h a.le)).trans (a.same i h), a.hp.trans b.hp⟩
theorem DR.mono (s : Sp1 μ n H μ' n' H') {v : V} {d : D} (h : DR K R H μ n v d) : DR K R H' μ' n' v d := by
  cases h with
  | p h => exact .p (h.mono (av_le s.hp))
  | @loc i h => rw [← s.same i h]; exact .loc (Nat.lt_of_lt_of_le h s.le)
  | scr h => exact .scr (s.hp.scr h)
theorem DRs.mono (s : Sp1 μ n H μ' n' H') : ∀ {vs : List V} {ds : List D}, DRs K R H μ n vs ds → DRs K R H' μ' n' vs ds
  | _, _, .nil => .nil
  | _, _, .cons h r => .cons (h.mono s) (DRs.mono s r)
theorem DRo.mono (s : Sp1 μ n H μ' n' H') : ∀ {vs : List (Option V)} {ds : Envr}, DRo K R H μ n vs ds → DRo K R H' μ' n' vs ds
  | _, _, .nil => .nil
  | _, _, .none r => .none (DRo.mono s r)
  | _, _, .some h r => .some (h.mono s) (DRo.mono s r)
theorem DRs.len : ∀ {vs : List V} {ds : List D}, DRs K R H μ n vs ds → vs.length = ds.length
  | _, _, .nil => rfl
  | _, _, .cons _ r => by rw [List.length_cons, List.length_cons, DRs.len r]
theorem DRo.len : ∀ {vs : List (Option V)} {ds : Envr}, DRo K R H μ n vs ds → vs.length = ds.length
  | _, _, .nil => rfl
  | _, _, .none r => by rw [List.length_cons, List.length_cons, DRo.len r]
  | _, _, .some _ r => by rw [List.length_cons, List.length_cons, DRo.len r]
theorem DRo.get : ∀ {vs : List (Option V)} {ds : Envr} {i : Nat} {d : D}, DRo K R H μ n vs ds → ds[i]? = Option.some (Option.some d) → ∃ v, vs[i]? = Option.some (Option.some v) ∧ DR K R H μ n v d
  | _, _, _, _, .nil, e => by simp at e
  | _, _, 0, _, .none r, e => by simp at e
  | _, _, i + 1, d, .none r, e => by
    obtain ⟨v, h1, h2⟩ := DRo.get (i := i) (d := d) r (by simpa using e)
    exact ⟨v, by simpa using h1, h2⟩
  | _, _, 0, _, .some h r, e => by
    simp at e; subst e
    exact ⟨_, by simp, h⟩
  | _, _, i + 1, d, .some h r, e => by
    obtain ⟨v, h1, h2⟩ := DRo.get (i := i) (d := d) r (by simpa using e)
    exact ⟨v, by simpa using h1, h2⟩
theorem DRo.set {v : V} {d : D} (h : DR K R H μ n v d) : ∀ {vs : List (Option V)} {ds : Envr} (i : Nat), DRo K R H μ n vs ds → DRo K R H μ n (vs.set i (Option.some v)) (ds.set i (Option.some d))
  | _, _, _, .nil => .nil
  | _, _, 0, .none r => .some h r
  | _, _, i + 1, .none r => .none (DRo.set h i r)
  | _, _, 0, .some _ r => .some h r
  | _, _, i + 1, .some q r => .some q (DRo.set h i r)
theorem DRo.unset {o : Option V} : ∀ {vs : List (Option V)} {ds : Envr} (i : Nat), DRo K R H μ n vs ds → DRo K R H μ n (vs.set i o) (ds.set i Option.none)
  | _, _, _, .nil => .nil
  | _, _, 0, .none r => .none r
  | _, _, i + 1, .none r => .none (DRo.unset i r)
  | _, _, 0, .some _ r => .none r
  | _, _, i + 1, .some q r => .some q (DRo.unset i r)
theorem DRs.get : ∀ {vs : List V} {ds : List D} {i : Nat} {d : D}, DRs K R H μ n vs ds → ds[i]? = Option.some d → ∃ v, vs[i]? = Option.some v ∧ DR K R H μ n v d
  | _, _, _, _, .nil, e => by simp at e
  | _, _, 0, _, .cons h r, e => by simp at e; subst e; exact ⟨_, by simp, h⟩
  | _, _, i + 1, d, .cons h r, e => by
    obtain ⟨v, h1, h2⟩ := DRs.get (i := i) (d := d) r (by simpa using e)
    exact ⟨v, by simpa using h1, h2⟩
theorem DRs.append : ∀ {vs ws : List V} {ds es : List D}, DRs K R H μ n vs ds → DRs K R H μ n ws es → DRs K R H μ n (vs ++ ws) (ds ++ es)
  | _, _, _, _, .nil, s => s
  | _, _, _, _, .cons h r, s => .cons h (DRs.append r s)
theorem DKv.mono {κ : Type} (s : Sp1 μ n H μ' n' H') {kvs : List (κ × V)} {kds : List (κ × D)} (h : DKv K R H μ n kvs kds) : DKv K R H' μ' n' kvs kds := ⟨h.1, h.2.mono s⟩
end

/-! ### the state -/
structure RL (K : PySem.W.Frag) (R : Addr → Prop) (μ : Nat → Addr) (H : Hp) (S : Sto) (σ : L2.St) (env : Envr) (vs : List V) (ds : List D) : Prop where
  rs : RS K R H μ S
  en : DRo K R H μ S.length σ env
  tm : DRs K R H μ S.length vs ds
/-- an exception's own dict -/
def ErR (K : PySem.W.Frag) (mg : Str → Option Value) (H : Hp) (O : Addr → Prop) (cls : Value) (dd : Option Addr) (e : Er) : Prop :=
  mg e.cls = some cls ∧ ∃ d fs, dd = some d ∧ H d = some (.xd fs) ∧ fs.map (·.1) = e.fs.map (·.1) ∧ PdAll K H O (fs.map (·.2)) (e.fs.map (·.2))

section
variable (K : PySem.W.Frag) (mg : Str → Option Value) (W : WX)
/-- behind a reckoning -/
def Pg {α : Type} (R : Addr → Prop) (μ : Nat → Addr) (S : Sto) (H : Hp) (σ : L2.St) (env : Envr) (o : Ot α) (P : (Nat → Addr) → Hp → Sto → α → Prop) : Prop :=
  match o with
  | .bad => False
  | .err e S' => ∀ μ' H' cls dd, Sp1 μ S.length H μ' S'.length H' → RL K R μ' H' S' σ env [] [] → ErR K mg H' (Av R μ' S'.length) cls dd e → W cls dd σ H'
  | .ok d S' => ∀ μ' H', Sp1 μ S.length H μ' S'.length H' → RS K R H' μ' S' → P μ' H' S' d
abbrev Po (R : Addr → Prop) (μ : Nat → Addr) (S : Sto) (H : Hp) (σ : L2.St) (env : Envr) (o : Ot D) (Q : VK) : Prop := Pg K mg W R μ S H σ env o fun μ' H' S' d => ∀ v, DR K R H' μ' S'.length v d → Q v H'
abbrev PoB (R : Addr → Prop) (μ : Nat → Addr) (S : Sto) (H : Hp) (σ : L2.St) (env : Envr) (o : Ot Bool) (Q : Bool → Hp → Prop) : Prop := Pg K mg W R μ S H σ env o fun _ H' _ b => Q b H'
abbrev PoA (R : Addr → Prop) (μ : Nat → Addr) (S : Sto) (H : Hp) (σ : L2.St) (env : Envr) (o : Ot (List D)) (Q : List V → Hp → Prop) : Prop := Pg K mg W R μ S H σ env o fun μ' H' S' ds => ∀ vs, DRs K R H' μ' S'.length vs ds → Q vs H'
def te (m : EM) : TE := fun σ H Q => ∃ R μ env S, RL K R μ H S σ env [] [] ∧ Po K mg W R μ S H σ env (m env S) Q
def tt (m : Envr → Sto → Ot Bool) : TT := fun σ H Q => ∃ R μ env S, RL K R μ H S σ env [] [] ∧ PoB K mg W R μ S H σ env (m env S) Q
def ta (m : Envr → Sto → Ot (List D)) : TA := fun σ H Q => ∃ R μ env S, RL K R μ H S σ env [] [] ∧ PoA K mg W R μ S H σ env (m env S) Q
end
section
variable {K : PySem.W.Frag} {R : Addr → Prop} {mg : Str → Option Value} {W : WX} {μ μ' : Nat → Addr} {H H' : Hp} {S S' : Sto} {σ : L2.St} {env : Envr} {vs : List V} {ds : List D} {α β : Type}
theorem RL.mono (r : RL K R μ H S σ env vs ds) (s : Sp1 μ S.length H μ' S'.length H') (rs : RS K R H' μ' S') : RL K R μ' H' S' σ env vs ds := ⟨rs, r.en.mono s, r.tm.mono s⟩
theorem RL.push (r : RL K R μ H S σ env vs ds) {v : V} {d : D} (h : DR K R H μ S.length v d) : RL K R μ H S σ env (v :: vs) (d :: ds) := ⟨r.rs, r.en, .cons h r.tm⟩
theorem RL.drop (r : RL K R μ H S σ env vs ds) : RL K R μ H S σ env [] [] := ⟨r.rs, r.en, .nil⟩
/-- the heart: first m, then k with its value -/
theorem pg_bind {m : Ot α} {k : α → Sto → Ot β} {P : (Nat → Addr) → Hp → Sto → β → Prop} (h : Pg K mg W R μ S H σ env (m.bind k) P) :
    Pg K mg W R μ S H σ env m fun μ1 H1 S1 a => Pg K mg W R μ1 S1 H1 σ env (k a S1) P := by
  cases m with
  | bad => exact h
  | err e S1 => exact h
  | ok d S1 =>
    intro μ1 H1 s1 rs1
    have h' : Pg K mg W R μ S H σ env (k d S1) P := h
    show Pg K mg W R μ1 S1 H1 σ env (k d S1) P
    cases e : k d S1 with
    | bad => rw [e] at h'; exact h'
    | err x S2 =>
      rw [e] at h'
      exact fun μ2 H2 cls dd s2 rl er => h' μ2 H2 cls dd (s1.trans s2) rl er
    | ok d2 S2 =>
      rw [e] at h'
      exact fun μ2 H2 s2 rs2 => h' μ2 H2 (s1.trans s2) rs2
theorem pg_mono {m : Ot α} {P P' : (Nat → Addr) → Hp → Sto → α → Prop} (h : Pg K mg W R μ S H σ env m P) (hq : ∀ μ' H' S' a, Sp1 μ S.length H μ' S'.length H' → RS K R H' μ' S' → P μ' H' S' a → P' μ' H' S' a) : Pg K mg W R μ S H σ env m P' := by
  cases m with
  | bad => exact h
  | err e S1 => exact h
  | ok d S1 => exact fun μ1 H1 s1 rs1 => hq _ _ _ _ s1 rs1 (h μ1 H1 s1 rs1)
theorem pg_ok {a : α} {P : (Nat → Addr) → Hp → Sto → α → Prop} (h : Pg K mg W R μ S H σ env (.ok a S) P) (r : RS K R H μ S) : P μ H S a := h μ H Sp1.refl r
/-- a value at hand -/
theorem po_ok {d : D} {v : V} {Q : VK} (h : Po K mg W R μ S H σ env (.ok d S) Q) (r : RS K R H μ S) (dr : DR K R H μ S.length v d) : Q v H := h μ H Sp1.refl r v dr
/-- .. and the value onto the temporaries -/
theorem po_bind {m : Ot D} {k : D → Sto → Ot α} {P : (Nat → Addr) → Hp → Sto → α → Prop} (r : RL K R μ H S σ env vs ds) (h : Pg K mg W R μ S H σ env (m.bind k) P) :
    Po K mg W R μ S H σ env m fun v H2 => ∃ μ2 S2 d, RL K R μ2 H2 S2 σ env (v :: vs) (d :: ds) ∧ Pg K mg W R μ2 S2 H2 σ env (k d S2) P :=
  pg_mono (pg_bind h) fun μ' H' S' a s rs p v dr => ⟨μ', S', a, (r.mono s rs).push dr, p⟩
theorem pob_bind {m : Ot Bool} {k : Bool → Sto → Ot α} {P : (Nat → Addr) → Hp → Sto → α → Prop} (r : RL K R μ H S σ env vs ds) (h : Pg K mg W R μ S H σ env (m.bind k) P) :
    PoB K mg W R μ S H σ env m fun b H2 => ∃ μ2 S2, RL K R μ2 H2 S2 σ env vs ds ∧ Pg K mg W R μ2 S2 H2 σ env (k b S2) P :=
  pg_mono (pg_bind h) fun μ' H' S' a s rs p => ⟨μ', S', r.mono s rs, p⟩
theorem poa_bind {m : Ot (List D)} {k : List D → Sto → Ot α} {P : (Nat → Addr) → Hp → Sto → α → Prop} (r : RL K R μ H S σ env vs ds) (h : Pg K mg W R μ S H σ env (m.bind k) P) :
    PoA K mg W R μ S H σ env m fun ws H2 => ∃ μ2 S2 es, RL K R μ2 H2 S2 σ env vs ds ∧ DRs K R H2 μ2 S2.length ws es ∧ Pg K mg W R μ2 S2 H2 σ env (k es S2) P :=
  pg_mono (pg_bind h) fun μ' H' S' a s rs p ws dr => ⟨μ', S', a, r.mono s rs, dr, p⟩
theorem po_mono {m : Ot D} {Q Q' : VK} (h : Po K mg W R μ S H σ env m Q) (hq : ∀ v H, Q v H → Q' v H) : Po K mg W R μ S H σ env m Q' := pg_mono h fun _ _ _ _ _ _ p v dr => hq _ _ (p v dr)
theorem pob_mono {m : Ot Bool} {Q Q' : Bool → Hp → Prop} (h : PoB K mg W R μ S H σ env m Q) (hq : ∀ v H, Q v H → Q' v H) : PoB K mg W R μ S H σ env m Q' := pg_mono h fun _ _ _ _ _ _ p => hq _ _ p
theorem poa_mono {m : Ot (List D)} {Q Q' : List V → Hp → Prop} (h : PoA K mg W R μ S H σ env m Q) (hq : ∀ v H, Q v H → Q' v H) : PoA K mg W R μ S H σ env m Q' := pg_mono h fun _ _ _ _ _ _ p v dr => hq _ _ (p v dr)
end
theorem _root_.L2.PE.w {X : Cx} {e : Expr} {t t' : TE} (h : PE X e t) (hw : ∀ σ H Q, t' σ H Q → t σ H Q) : PE X e t' := ⟨fun pins s σ H Q I q => h.run pins s σ H Q I (hw σ H Q q)⟩
theorem _root_.L2.PT.w {X : Cx} {e : Expr} {t t' : TT} (h : PT X e t) (hw : ∀ σ H Q, t' σ H Q → t σ H Q) : PT X e t' := ⟨fun pins s σ H Q I q => h.run pins s σ H Q I (hw σ H Q q)⟩
theorem _root_.L2.PA.w {X : Cx} {e : List Expr} {t t' : TA} (h : PA X e t) (hw : ∀ σ H Q, t' σ H Q → t σ H Q) : PA X e t' := ⟨fun pos pins s σ H Q I q => h.run pos pins s σ H Q I (hw σ H Q q)⟩
theorem _root_.L2.PS.w {X : Cx} {st : Stmt} {t t' : TS} (h : PS X st t) (hw : ∀ D σ H, t' D σ H → t D σ H) : PS X st t' := ⟨fun pins s σ H D I q => h.run pins s σ H D I (hw D σ H q)⟩
theorem _root_.L2.PSs.w {X : Cx} {st : List Stmt} {t t' : TS} (h : PSs X st t) (hw : ∀ D σ H, t' D σ H → t D σ H) : PSs X st t' := ⟨fun pins s σ H D I q => h.run pins s σ H D I (hw D σ H q)⟩

/-! ### expressions -/
def eBind (m : EM) (k : D → EM) : EM := fun env S => (m env S).bind fun d S1 => k d env S1
def eVar (i : Nat) : EM := fun env S => match env[i]? with
  | some (some d) => .ok d S
  | _ => .bad
def eC (d : PyData) : EM := fun _ S => .ok (.p d) S
def eOp (f : D → D → Sto → Ot D) (a b : EM) : EM := fun env S => (a env S).bind fun x S1 => (b env S1).bind fun y S2 => f x y S2
def eUn (f : D → Sto → Ot D) (a : EM) : EM := fun env S => (a env S).bind fun x S1 => f x S1
section
variable {X : Cx} {W : WX} {a b c e : Expr} {ma mb mc : EM} {pos : Pos}
theorem me_var {i : Nat} {x : Str} (hN : X.N[i]? = some x := by rfl) (hv : Vis X.env.scope x := by first | exact Or.inl rfl | exact Or.inr (Or.inl rfl) | exact Or.inr (Or.inr rfl)) (hd : (x == ("__debug__" : Str)) = false := by decide)
    (hcd : (x == ("__classdict__" : Str)) = false := by decide) : PE X (.Name x pos) (te X.K X.mg W (eVar i)) := by
  refine (pe_var hN hv hd hcd).w fun σ H Q ⟨R, μ, env, S, r, h⟩ => ?_
  unfold eVar at h
  cases e : env[i]? with
  | none => rw [e] at h; exact h.elim
  | some o =>
    cases o with
    | none => rw [e] at h; exact h.elim
    | some d =>
      rw [e] at h
      obtain ⟨v, h1, h2⟩ := r.en.get e
      exact ⟨v, h1, po_ok h r.rs h2⟩
theorem te_c {W : WX} {v : V} {d : PyData} (hp : ∀ K H O, Pd K H O v d) (he : PE X e (tC v)) : PE X e (te X.K X.mg W (eC d)) :=
  he.w fun σ H Q ⟨R, μ, env, S, r, h⟩ => po_ok h r.rs (.p (hp _ _ _))
theorem me_int {i j} : PE X (.Constant (.int i) j pos) (te X.K X.mg W (eC (.int i))) := te_c (fun _ _ _ => .int i) pe_int
theorem me_bl {i j} : PE X (.Constant (.bool i) j pos) (te X.K X.mg W (eC (.bool i))) := te_c (fun _ _ _ => .bl i) pe_bl
theorem me_non {j} : PE X (.Constant .none j pos) (te X.K X.mg W (eC .none)) := te_c (fun _ _ _ => .non) pe_non
theorem me_str {x j} : PE X (.Constant (.str x) j pos) (te X.K X.mg W (eC (.str x))) := te_c (fun _ _ _ => .str x) pe_str
/-- a global constant that is an int -/
theorem me_gint {x : Str} {i : Int} {t : Tok} (hm : X.mg x = some (.int i t)) (hg : Gl X x := by rfl) (hd : (x == ("__debug__" : Str)) = false := by decide) : PE X (.Name x pos) (te X.K X.mg W (eC (.int i))) :=
  te_c (fun _ _ _ => .int i) (pe_glob hg hm ⟨t, rfl⟩ hd)
/-- what an operation's rule must give -/
def Op2 (K : PySem.W.Frag) (mg : Str → Option Value) (W : WX) (f : D → D → Sto → Ot D) (r : R2) : Prop :=
  ∀ (R : Addr → Prop) (μ : Nat → Addr) (H : Hp) (S : Sto) (σ : L2.St) (env : Envr) (x y : V) (dx dy : D) (Q : VK), RL K R μ H S σ env [y, x] [dy, dx] → Po K mg W R μ S H σ env (f dx dy S) Q → r x y H Q
theorem me_op {op : Operator} {r : R2} {f : D → D → Sto → Ot D} (ho : OpR X (binaryOp op) r) (hf : Op2 X.K X.mg W f r) (ha : PE X a (te X.K X.mg W ma)) (hb : PE X b (te X.K X.mg W mb)) : PE X (.BinOp a op b pos) (te X.K X.mg W (eOp f ma mb)) := by
  refine (pe_op ho ha hb).w fun σ H Q ⟨R, μ, env, S, r, h⟩ => ⟨R, μ, env, S, r, ?_⟩
  refine po_mono (po_bind r h) fun x H1 ⟨μ1, S1, d1, r1, h1⟩ => ⟨R, μ1, env, S1, r1.drop, ?_⟩
  exact po_mono (po_bind r1 h1) fun y H2 ⟨μ2, S2, d2, r2, h2⟩ => hf R μ2 H2 S2 σ env x y d1 d2 Q r2 h2
theorem me_cmp {op : CmpOp} {r : R2} {f : D → D → Sto → Ot D} (ho : OpR X (compareOp op) r) (hf : Op2 X.K X.mg W f r) (ha : PE X a (te X.K X.mg W ma)) (hb : PE X b (te X.K X.mg W mb)) (hm : behindInMarks op b = false) : PE X (.Compare a [op] [b] pos) (te X.K X.mg W (eOp f ma mb)) := by
  refine (pe_cmpR ho ha hb hm).w fun σ H Q ⟨R, μ, env, S, r, h⟩ => ⟨R, μ, env, S, r, ?_⟩
  refine po_mono (po_bind r h) fun x H1 ⟨μ1, S1, d1, r1, h1⟩ => ⟨R, μ1, env, S1, r1.drop, ?_⟩
  exact po_mono (po_bind r1 h1) fun y H2 ⟨μ2, S2, d2, r2, h2⟩ => hf R μ2 H2 S2 σ env x y d1 d2 Q r2 h2

end
/-! ### tests -/
abbrev BM := Envr → Sto → Ot Bool
def toB : D → Sto → Ot Bool
  | .p (.bool b), S => .ok b S
  | _, _ => .bad
def bOf (m : EM) : BM := fun env S => (m env S).bind toB
def bAnd (a b : BM) : BM := fun env S => (a env S).bind fun c S1 => if c = true then b env S1 else .ok false S1
def bOr (a b : BM) : BM := fun env S => (a env S).bind fun c S1 => if c = true then .ok true S1 else b env S1
def bNot (a : BM) : BM := fun env S => (a env S).bind fun c S1 => .ok (!c) S1
def eIf (t : BM) (a b : EM) : EM := fun env S => (t env S).bind fun c S1 => if c = true then a env S1 else b env S1
def eB (t : BM) : EM := fun env S => (t env S).bind fun c S1 => .ok (.p (.bool c)) S1
section
variable {X : Cx} {W : WX} {a b c e : Expr} {ma mb mc : EM} {ta tb tc : BM} {pos : Pos} {rest : List Expr}
theorem po_bool {K : PySem.W.Frag} {R : Addr → Prop} {mg : Str → Option Value} {W : WX} {μ : Nat → Addr} {H : Hp} {S : Sto} {σ : L2.St} {env : Envr} {v : V} {d : D} {Q : Bool → Hp → Prop} (r : RL K R μ H S σ env [v] [d])
    (h : PoB K mg W R μ S H σ env (toB d S) Q) : ∃ c, v = .bl c ∧ Q c H := by
  cases r.tm with
  | cons h1 _ =>
    cases h1 with
    | loc _ => exact h.elim
    | scr _ => exact h.elim
    | p h1 =>
      cases h1 with
      | bl b => exact ⟨b, rfl, pg_ok h r.rs⟩
      | non => exact h.elim
      | int _ => exact h.elim
      | str _ => exact h.elim
      | lst _ _ _ => exact h.elim
      | tup _ _ => exact h.elim
      | wk _ _ _ => exact h.elim
      | wkn _ _ => exact h.elim
      | dk0 _ _ => exact h.elim
      | dk1 _ _ _ => exact h.elim
      | dks _ _ _ => exact h.elim
      | ex0 _ _ _ => exact h.elim
      | exn _ _ _ _ _ _ _ => exact h.elim
theorem mt_val (h : PE X e (te X.K X.mg W ma)) (he : ∀ whole, isTrue e X.env whole = (do let v ← whole; standAt e.pos; holding [v] (truthy v)) := by intro _; rfl) : PT X e (tt X.K X.mg W (bOf ma)) := by
  refine (pt_val h he).w fun σ H Q ⟨R, μ, env, S, r, h⟩ => ⟨R, μ, env, S, r, ?_⟩
  exact po_mono (po_bind r h) fun x H1 ⟨μ1, S1, d1, r1, h1⟩ => po_bool r1 h1
theorem mt_cmp {op : CmpOp} {r : R2} {f : D → D → Sto → Ot D} (ho : OpR X (compareOp op) r) (hf : Op2 X.K X.mg W f r) (ha : PE X a (te X.K X.mg W ma)) (hb : PE X b (te X.K X.mg W mb)) (hm : behindInMarks op b = false) : PT X (.Compare a [op] [b] pos) (tt X.K X.mg W (bOf (eOp f ma mb))) := by
  refine (pt_cmpR ho ha hb hm).w fun σ H Q ⟨R, μ, env, S, r, h⟩ => ⟨R, μ, env, S, r, ?_⟩
  have h0 := pg_bind h
  refine po_mono (po_bind r h0) fun x H1 ⟨μ1, S1, d1, r1, h1⟩ => ⟨R, μ1, env, S1, r1.drop, ?_⟩
  refine po_mono (po_bind r1 h1) fun y H2 ⟨μ2, S2, d2, r2, h2⟩ => hf R μ2 H2 S2 σ env x y d1 d2 _ r2 ?_
  exact pg_mono h2 fun μ3 H3 S3 d3 s3 rs3 p3 v dr => po_bool ⟨rs3, r2.en.mono s3, .cons dr .nil⟩ p3
theorem mt_not (h : PT X a (tt X.K X.mg W ta)) : PT X (.UnaryOp .Not a pos) (tt X.K X.mg W (bNot ta)) := by
  refine (pt_not h).w fun σ H Q ⟨R, μ, env, S, r, h⟩ => ⟨R, μ, env, S, r, ?_⟩
  exact pob_mono (pob_bind r h) fun x H1 ⟨μ1, S1, r1, h1⟩ => pg_ok h1 r1.rs
theorem mw_and1 (h : PT X a (tt X.K X.mg W ta)) : PW X (.BoolOp .And [a] pos) (tt X.K X.mg W ta) := pw_and1 h
theorem mw_or1 (h : PT X a (tt X.K X.mg W ta)) : PW X (.BoolOp .Or [a] pos) (tt X.K X.mg W ta) := pw_or1 h
theorem _root_.L2.PW.w {X : Cx} {e : Expr} {t t' : TT} (h : PW X e t) (hw : ∀ σ H Q, t' σ H Q → t σ H Q) : PW X e t' := ⟨fun wh pins s σ H Q I q => h.run wh pins s σ H Q I (hw σ H Q q)⟩
theorem mw_and (h1 : PT X a (tt X.K X.mg W ta)) (h2 : PW X (.BoolOp .And (b :: rest) pos) (tt X.K X.mg W tb)) : PW X (.BoolOp .And (a :: b :: rest) pos) (tt X.K X.mg W (bAnd ta tb)) := by
  refine (pw_and h1 h2).w fun σ H Q ⟨R, μ, env, S, r, h⟩ => ⟨R, μ, env, S, r, ?_⟩
  refine pob_mono (pob_bind r h) fun c H1 ⟨μ1, S1, r1, h1⟩ => ?_
  cases c with
  | true => exact iteT ⟨R, μ1, env, S1, r1.drop, h1⟩
  | false => exact iteF (pg_ok h1 r1.rs)
theorem mw_or (h1 : PT X a (tt X.K X.mg W ta)) (h2 : PW X (.BoolOp .Or (b :: rest) pos) (tt X.K X.mg W tb)) : PW X (.BoolOp .Or (a :: b :: rest) pos) (tt X.K X.mg W (bOr ta tb)) := by
  refine (pw_or h1 h2).w fun σ H Q ⟨R, μ, env, S, r, h⟩ => ⟨R, μ, env, S, r, ?_⟩
  refine pob_mono (pob_bind r h) fun c H1 ⟨μ1, S1, r1, h1⟩ => ?_
  cases c with
  | true => exact iteT (pg_ok h1 r1.rs)
  | false => exact iteF ⟨R, μ1, env, S1, r1.drop, h1⟩
theorem me_if (hc : PT X c (tt X.K X.mg W tc)) (ha : PE X a (te X.K X.mg W ma)) (hb : PE X b (te X.K X.mg W mb)) : PE X (.IfExp c a b pos) (te X.K X.mg W (eIf tc ma mb)) := by
  refine (pe_ifExp hc ha hb).w fun σ H Q ⟨R, μ, env, S, r, h⟩ => ⟨R, μ, env, S, r, ?_⟩
  refine pob_mono (pob_bind r h) fun c H1 ⟨μ1, S1, r1, h1⟩ => ?_
  cases c with
  | true => exact iteT ⟨R, μ1, env, S1, r1.drop, h1⟩
  | false => exact iteF ⟨R, μ1, env, S1, r1.drop, h1⟩
/-- and, or, not as values: of bools -/
theorem me_one {op} {m : EM} (h : PE X a (te X.K X.mg W m)) : PE X (.BoolOp op [a] pos) (te X.K X.mg W m) := pe_one h
def eAnd (a b : EM) : EM := eIf (bOf a) b (eC (.bool false))
def eOr (a b : EM) : EM := eIf (bOf a) (eC (.bool true)) b
theorem me_and (ha : PE X a (te X.K X.mg W ma)) (hb : PE X (.BoolOp .And (b :: rest) pos) (te X.K X.mg W mb)) : PE X (.BoolOp .And (a :: b :: rest) pos) (te X.K X.mg W (eAnd ma mb)) := by
  refine (pe_and ha hb).w fun σ H Q ⟨R, μ, env, S, r, h⟩ => ⟨R, μ, env, S, r, ?_⟩
  have h0 := pg_bind (pg_bind h)
  refine pg_mono h0 fun μ1 H1 S1 d1 s1 rs1 p1 v dr => ?_
  obtain ⟨c, hc, h2⟩ := po_bool (Q := fun c H => if c = true then te X.K X.mg W mb σ H Q else Q (.bl false) H) ⟨rs1, r.en.mono s1, .cons dr .nil⟩ (pg_mono p1 fun μ2 H2 S2 c s2 rs2 p2 => by
    cases c with
    | true => exact iteT ⟨R, μ2, env, S2, ⟨rs2, (r.en.mono s1).mono s2, .nil⟩, p2⟩
    | false => exact iteF (po_ok p2 rs2 (.p (.bl false))))
  exact ⟨c, hc, h2⟩
theorem me_or (ha : PE X a (te X.K X.mg W ma)) (hb : PE X (.BoolOp .Or (b :: rest) pos) (te X.K X.mg W mb)) : PE X (.BoolOp .Or (a :: b :: rest) pos) (te X.K X.mg W (eOr ma mb)) := by
  refine (pe_or ha hb).w fun σ H Q ⟨R, μ, env, S, r, h⟩ => ⟨R, μ, env, S, r, ?_⟩
  have h0 := pg_bind (pg_bind h)
  refine pg_mono h0 fun μ1 H1 S1 d1 s1 rs1 p1 v dr => ?_
  obtain ⟨c, hc, h2⟩ := po_bool (Q := fun c H => if c = true then Q (.bl true) H else te X.K X.mg W mb σ H Q) ⟨rs1, r.en.mono s1, .cons dr .nil⟩ (pg_mono p1 fun μ2 H2 S2 c s2 rs2 p2 => by
    cases c with
    | true => exact iteT (po_ok p2 rs2 (.p (.bl true)))
    | false => exact iteF ⟨R, μ2, env, S2, ⟨rs2, (r.en.mono s1).mono s2, .nil⟩, p2⟩)
  exact ⟨c, hc, h2⟩
theorem me_not (ha : PE X a (te X.K X.mg W ma)) : PE X (.UnaryOp .Not a pos) (te X.K X.mg W (eB (bNot (bOf ma)))) := by
  refine (pe_not ha).w fun σ H Q ⟨R, μ, env, S, r, h⟩ => ⟨R, μ, env, S, r, ?_⟩
  have h0 := pg_bind (pg_bind (pg_bind h))
  refine pg_mono h0 fun μ1 H1 S1 d1 s1 rs1 p1 v dr => ?_
  obtain ⟨c, hc, h2⟩ := po_bool (Q := fun c H => Q (.bl (!c)) H) ⟨rs1, r.en.mono s1, .cons dr .nil⟩ (pg_mono p1 fun μ2 H2 S2 c s2 rs2 p2 => po_ok (pg_ok p2 rs2) rs2 (.p (.bl _)))
  exact ⟨c, hc, h2⟩
end
/-! ### argument lists, displays -/
abbrev AM := Envr → Sto → Ot (List D)
def aNil : AM := fun _ S => .ok [] S
def aCons (m : EM) (r : AM) : AM := fun env S => (m env S).bind fun d S1 => (r env S1).bind fun ds S2 => .ok (d :: ds) S2
/-- plain all of them -/
def plains : List D → Option (List PyData)
  | [] => some []
  | .p d :: r => (plains r).map (d :: ·)
  | .loc _ :: _ => none
  | .scr _ :: _ => none
def mkTup (ds : List D) (S : Sto) : Ot D := match plains ds with
  | some l => if l.length ≤ sizeLine then .ok (.p (.tuple l)) S else .bad
  | none => .bad
def mkLst (ds : List D) (S : Sto) : Ot D := match plains ds with
  | some l => if l.length ≤ sizeLine then .ok (.p (.list l)) S else .bad
  | none => .bad
def eTup (a : AM) : EM := fun env S => (a env S).bind mkTup
def eLst (a : AM) : EM := fun env S => (a env S).bind mkLst
/-- a list that will be changed -/
def eLstM (a : AM) : EM := fun env S => (a env S).bind fun ds S1 => if ds.length ≤ sizeLine then .ok (.loc S1.length) (S1 ++ [.lst ds]) else .bad
section
variable {K : PySem.W.Frag} {R : Addr → Prop} {mg : Str → Option Value} {W : WX} {μ μ' : Nat → Addr} {H H' : Hp} {S S' : Sto} {σ : L2.St} {env : Envr} {vs : List V} {ds : List D} {n : Nat}
theorem plains_pd {vs : List V} {ds : List D} {l : List PyData} (h : DRs K R H μ n vs ds) (e : plains ds = some l) : PdAll K H (Av R μ n) vs l := by
  induction h generalizing l with
  | nil => cases e; exact .nil
  | cons h t ih =>
    cases h with
    | loc _ => simp [plains] at e
    | scr _ => simp [plains] at e
    | p h =>
      unfold plains at e
      cases q : plains _ with
      | none => rw [q] at e; cases e
      | some l' =>
        rw [q] at e
        cases e
        exact .cons h (ih q)
theorem PdAll.len {O : Addr → Prop} : ∀ {vs : List V} {ds : List PyData}, PdAll K H O vs ds → vs.length = ds.length
  | _, _, .nil => rfl
  | _, _, .cons _ r => by rw [List.length_cons, List.length_cons, PdAll.len r]
/-- a new object that is no cell -/
theorem sp_new {p : Addr} {o : HO} (hp : H p = none) : Sp1 μ n H μ n (upd H p o) :=
  ⟨Nat.le_refl _, fun _ _ => rfl, ⟨fun a u h _ => by rw [upd_ne (ne_of_none h hp)]; exact h, fun a h => .inl h, fun a u h => by rw [upd_ne (ne_of_none h hp)]; exact h, fun a o u h => by rw [upd_ne (ne_of_none h hp)]; exact h⟩⟩
theorem CelR.mono {n' : Nat} {a : Addr} {c : Cell} (s : Sp1 μ n H μ' n' H') (h : CelR K R H μ n a c) (hk : ∀ o, H a = some o → H' a = some o) : CelR K R H' μ' n' a c := by
  cases c with
  | lst xs => obtain ⟨vs, h1, h2⟩ := h; exact ⟨vs, hk _ h1, h2.mono s⟩
  | dk xs => obtain ⟨vs, h1, h2⟩ := h; exact ⟨vs, hk _ h1, h2.mono s⟩
  | dt xs => obtain ⟨vs, h1, h2⟩ := h; exact ⟨vs, hk _ h1, h2.mono s⟩
  | ins nm xs => obtain ⟨vs, ⟨C, dx, hC, h1⟩, h2⟩ := h; exact ⟨vs, ⟨C, dx, hC, hk _ h1⟩, h2.mono s⟩
theorem CelR.some {a : Addr} {c : Cell} (h : CelR K R H μ n a c) : ∃ o, H a = some o := by
  cases c with
  | lst xs => obtain ⟨vs, h1, h2⟩ := h; exact ⟨_, h1⟩
  | dk xs => obtain ⟨vs, h1, h2⟩ := h; exact ⟨_, h1⟩
  | dt xs => obtain ⟨vs, h1, h2⟩ := h; exact ⟨_, h1⟩
  | ins nm xs => obtain ⟨vs, ⟨C, dx, hC, h1⟩, h2⟩ := h; exact ⟨_, h1⟩
theorem RS.some (r : RS K R H μ S) {i : Nat} (hi : i < S.length) : ∃ o, H (μ i) = Option.some o := (r.cell i S[i] (by simp [hi])).some
theorem upd_there {p a : Addr} {o : HO} (h : H a ≠ none) : upd H p o a ≠ none := by
  unfold upd
  split
  · exact fun z => nomatch z
  · exact h
theorem rs_new {p : Addr} {o : HO} (hp : H p = none) (r : RS K R H μ S) : RS K R (upd H p o) μ S :=
  ⟨r.inj, fun i c h => (r.cell i c h).mono (sp_new hp) fun u hu => by rw [upd_ne (ne_of_none hu hp)]; exact hu, r.low, fun a h => ⟨upd_there (r.res a h).1, (r.res a h).2⟩⟩
theorem not_ownO (r : RS K R H μ S) {p : Addr} (hp : H p = none) : ¬ Own μ S.length p := fun ⟨i, hi, e⟩ => by
  obtain ⟨o, ho⟩ := r.some hi
  rw [← e, hp] at ho
  cases ho
theorem not_own (r : RS K R H μ S) {p : Addr} (hp : H p = none) : ¬ Av R μ S.length p := fun z => z.elim (not_ownO r hp) fun q => (r.res p q).1 hp
/-- a new cell -/
def ext (μ : Nat → Addr) (n : Nat) (p : Addr) : Nat → Addr := fun i => if i = n then p else μ i
theorem ext_lt {p : Addr} {i : Nat} (h : i < n) : ext μ n p i = μ i := if_neg (Nat.ne_of_lt h)
theorem ext_at {p : Addr} : ext μ n p n = p := if_pos rfl
theorem sp_cell {p : Addr} {o : HO} (hp : H p = none) : Sp1 μ n H (ext μ n p) (n + 1) (upd H p o) := by
  refine ⟨Nat.le_succ _, fun i h => ext_lt h, ⟨fun a u h _ => by rw [upd_ne (ne_of_none h hp)]; exact h, fun a h => ?_, fun a u h => by rw [upd_ne (ne_of_none h hp)]; exact h, fun a o u h => by rw [upd_ne (ne_of_none h hp)]; exact h⟩⟩
  obtain ⟨i, hi, e⟩ := h
  by_cases hin : i = n
  · subst hin
    rw [ext_at] at e
    exact .inr (by rw [e]; exact hp)
  · have hlt : i < n := by omega
    rw [ext_lt hlt] at e
    exact .inl ⟨i, hlt, e⟩
theorem rs_cell {p : Addr} {o : HO} {c : Cell} (hp : H p = none) (r : RS K R H μ S) (h : CelR K R (upd H p o) (ext μ S.length p) (S ++ [c]).length p c) (hb : c.lowb S.length = true) : RS K R (upd H p o) (ext μ S.length p) (S ++ [c]) := by
  have hl : (S ++ [c]).length = S.length + 1 := by simp
  refine ⟨fun i j hi hj e => ?_, fun i d hd => ?_, fun i d hd => ?_, fun a ha => ⟨upd_there (r.res a ha).1, fun z => ?_⟩⟩
  · have ne : ∀ i, i < S.length → μ i ≠ p := fun i hi e => by
      obtain ⟨o, ho⟩ := r.some hi
      rw [e, hp] at ho
      cases ho
    by_cases h1 : i = S.length
    · by_cases h2 : j = S.length
      · rw [h1, h2]
      · rw [h1, ext_at, ext_lt (by omega)] at e
        exact absurd e.symm (ne j (by omega))
    · by_cases h2 : j = S.length
      · rw [h2, ext_at, ext_lt (by omega)] at e
        exact absurd e (ne i (by omega))
      · rw [ext_lt (by omega), ext_lt (by omega)] at e
        exact r.inj i j (by omega) (by omega) e
  · by_cases h1 : i < S.length
    · rw [List.getElem?_append_left h1] at hd
      rw [ext_lt h1, hl]
      exact (r.cell i d hd).mono (sp_cell hp) fun u hu => by rw [upd_ne (ne_of_none hu hp)]; exact hu
    · have h2 : i = S.length := by
        have := (List.getElem?_eq_some_iff.mp hd).1
        omega
      subst h2
      rw [List.getElem?_append_right (Nat.le_refl _)] at hd
      simp at hd
      subst hd
      rw [ext_at]
      exact h
  · by_cases h1 : i < S.length
    · rw [List.getElem?_append_left h1] at hd
      exact r.low i d hd
    · have h2 : i = S.length := by
        have := (List.getElem?_eq_some_iff.mp hd).1
        omega
      subst h2
      rw [List.getElem?_append_right (Nat.le_refl _)] at hd
      simp at hd
      subst hd
      exact hb
  · rw [hl] at z
    rcases (sp_cell (μ := μ) (n := S.length) (o := o) hp).hp.own a z with q | q
    · exact (r.res a ha).2 q
    · exact (r.res a ha).1 q
theorem DRs.lowb : ∀ {vs : List V} {ds : List D}, DRs K R H μ n vs ds → ds.all (D.lowb n) = true
  | _, _, .nil => rfl
  | _, _, .cons (.p _) r => by rw [List.all_cons, DRs.lowb r]; rfl
  | _, _, .cons (.loc h) r => by rw [List.all_cons, DRs.lowb r, Bool.and_true]; exact decide_eq_true h
  | _, _, .cons (.scr _) r => by rw [List.all_cons, DRs.lowb r]; rfl
end
section
variable {X : Cx} {W : WX} {a b c e : Expr} {ma mb mc : EM} {aa : AM} {pos : Pos} {es : List Expr}
theorem ma_nil : PA X [] (ta X.K X.mg W aNil) := pa_nil.w fun σ H Q ⟨R, μ, env, S, r, h⟩ => (pg_ok h r.rs) [] .nil
theorem ma_cons (ha : PE X e (te X.K X.mg W ma)) (hr : PA X es (ta X.K X.mg W aa)) (hs : starEach (e :: es) X.env = (false, eval e X.env) :: starEach es X.env := by rfl) : PA X (e :: es) (ta X.K X.mg W (aCons ma aa)) := by
  refine (pa_cons ha hr hs).w fun σ H Q ⟨R, μ, env, S, r, h⟩ => ⟨R, μ, env, S, r, ?_⟩
  refine po_mono (po_bind r h) fun x H1 ⟨μ1, S1, d1, r1, h1⟩ => ⟨R, μ1, env, S1, r1.drop, ?_⟩
  refine poa_mono (poa_bind r1 h1) fun xs H2 ⟨μ2, S2, ds, r2, dr2, h2⟩ => ?_
  cases r2.tm with
  | cons t1 _ => exact (pg_ok h2 r2.rs) _ (.cons t1 dr2)
theorem me_tup {x1} (h : PA X es (ta X.K X.mg W aa)) : PE X (.Tuple es x1 pos) (te X.K X.mg W (eTup aa)) := by
  refine (pe_tupF h).w fun σ H Q ⟨R, μ, env, S, r, h⟩ => ⟨R, μ, env, S, r, ?_⟩
  refine poa_mono (poa_bind r h) fun xs H1 ⟨μ1, S1, ds, r1, dr1, h1⟩ => ?_
  unfold mkTup at h1
  cases e : plains ds with
  | none => rw [e] at h1; exact h1.elim
  | some l =>
    rw [e] at h1
    have q := plains_pd dr1 e
    dsimp only at h1
    by_cases hz : l.length ≤ sizeLine
    · rw [if_pos hz] at h1
      refine ⟨by rw [q.len]; exact hz, fun p o hp hd => ?_⟩
      have s2 : Sp1 μ1 S1.length H1 μ1 S1.length (upd H1 p (.frz o (.tup xs))) := sp_new hp
      exact h1 μ1 _ s2 (rs_new hp r1.rs) _ (.p (.tup ⟨o, upd_same, hd⟩ (q.mono (av_le s2.hp))))
    · rw [if_neg hz] at h1
      exact h1.elim
theorem me_lst (h : PA X es (ta X.K X.mg W aa)) : PE X (.List es pos) (te X.K X.mg W (eLst aa)) := by
  refine (pe_lst h).w fun σ H Q ⟨R, μ, env, S, r, h⟩ => ⟨R, μ, env, S, r, ?_⟩
  refine poa_mono (poa_bind r h) fun xs H1 ⟨μ1, S1, ds, r1, dr1, h1⟩ => ?_
  unfold mkLst at h1
  cases e : plains ds with
  | none => rw [e] at h1; exact h1.elim
  | some l =>
    rw [e] at h1
    have q := plains_pd dr1 e
    dsimp only at h1
    by_cases hz : l.length ≤ sizeLine
    · rw [if_pos hz] at h1
      refine ⟨by rw [q.len]; exact hz, fun p hp => ?_⟩
      have s2 : Sp1 μ1 S1.length H1 μ1 S1.length (upd H1 p (.lst xs)) := sp_new hp
      exact h1 μ1 _ s2 (rs_new hp r1.rs) _ (.p (.lst upd_same (not_own r1.rs hp) (q.mono (av_le s2.hp))))
    · rw [if_neg hz] at h1
      exact h1.elim
theorem me_lstM (h : PA X es (ta X.K X.mg W aa)) : PE X (.List es pos) (te X.K X.mg W (eLstM aa)) := by
  refine (pe_lst h).w fun σ H Q ⟨R, μ, env, S, r, h⟩ => ⟨R, μ, env, S, r, ?_⟩
  refine poa_mono (poa_bind r h) fun xs H1 ⟨μ1, S1, ds, r1, dr1, h1⟩ => ?_
  by_cases hz : ds.length ≤ sizeLine
  · rw [if_pos hz] at h1
    refine ⟨by rw [dr1.len]; exact hz, fun p hp => ?_⟩
    have hl : (S1 ++ [Cell.lst ds]).length = S1.length + 1 := by simp
    have s2 : Sp1 μ1 S1.length H1 (ext μ1 S1.length p) (S1 ++ [Cell.lst ds]).length (upd H1 p (.lst xs)) := by rw [hl]; exact sp_cell hp
    have d2 : DR X.K R (upd H1 p (.lst xs)) (ext μ1 S1.length p) (S1 ++ [Cell.lst ds]).length (.ref (ext μ1 S1.length p S1.length)) (.loc S1.length) := .loc (by rw [hl]; exact Nat.lt_succ_self _)
    rw [ext_at] at d2
    exact h1 _ _ s2 (rs_cell hp r1.rs ⟨xs, upd_same, dr1.mono s2⟩ dr1.lowb) _ d2
  · rw [if_neg hz] at h1
    exact h1.elim
end
end Mi

/-! Mi2 -/
set_option Elab.async false
set_option linter.all false
set_option maxRecDepth 100000
set_option maxHeartbeats 1000000
namespace Mi
open PySem PySem.Spec PyProof.Rows L2

/-! ### a def's promise where nothing is being shown (so that repr may be asked within) -/
structure FnG (P : Program) (w : World) (K : PySem.W.Frag) (mg : Str → Option Value) (base : Heap) (k : Nat) (f : Addr) (fd : FuncData) (ps : List Str) (sp : Sp) : Prop where
  len : ∀ vs H Q E, sp vs H Q E → vs.length = ps.length
  go : ∀ (A : Around) (outer : List Env) (s : Shared) (H : Hp) (args : Args) (us : List Value) (vs : List V) (Q : VK) (E : XK), A.guards = some [] → Room k A → Env0 P w K mg base A outer s H → BindsTo s fd args (ps.zip us) → Vals vs us →
    sp vs H Q E → codeAny (model P w) A (.call (.ref f) args) (L2.CR (L2.CX P w) outer P w H s Q E) s
section
variable {P : Program} {w : World} {K : PySem.W.Frag} {mg : Str → Option Value} {base : Heap}
theorem FnG.mono {j k : Nat} {f : Addr} {fd : FuncData} {ps : List Str} {sp : Sp} (F : FnG P w K mg base j f fd ps sp) (h : j ≤ k) : FnG P w K mg base k f fd ps sp :=
  ⟨F.len, fun A outer s H args us vs Q E hg hr => F.go A outer s H args us vs Q E hg (hr.mono h)⟩
/-- a def of the text by its body -/
theorem fng_of {x qual : Str} {st : Stmt} {f : Addr} {fd : FuncData} {N ps : List Str} {k : Nat} {sp : Sp} (F : Fun K x qual st f fd) (S : FnScope N ps (defScope st)) (len : ∀ vs H Q E, sp vs H Q E → vs.length = ps.length)
    (hbody : ∀ (cdv : Value) (A : Around) (outer : List Env) (s : Shared) (H : Hp) (vs : List V) (Q : VK) (E : XK), A.guards = some [] → Room k (A.deeper (envOfC qual (defScope st) s.heap.objs.size f cdv)) → sp vs H Q E →
      ∃ t, PSs (cxOf (L2.CX P w) P w K mg base N qual (defScope st) f cdv A outer s H E) (defBody st) t ∧ t { nx := fun _ H' => Q .non H', rt := Q } (start N vs) H) : FnG P w K mg base (k + 1) f fd ps sp := by
  obtain ⟨oc, od, kV, doc, pm, an, cdv, ct, osl, rfl, lk, hcd⟩ := F.ex
  constructor
  · exact len
  intro A outer s H args us vs Q E hg hr e0 hb r hsp
  have hl := len _ _ _ _ hsp
  have keep := fun b o (e : base.get? b = some o) => (e0.bs b o e).1
  have KX : K.In s.heap := e0.mod.kin.keeps keep
  have lim : s.heap.NoLimit := e0.mod.nolimit.keeps keep
  have hkind : ∀ y ∈ ps.zip us, (defScope st).names.lookup y.1 = some .local ∨ ((defScope st).names.lookup y.1 = some .cell ∧ ((cellsFrom (s.heap.objs.size + 1) (defScope st).names []).lookup y.1).isSome = true) := by
    rintro ⟨n, v⟩ hy
    cases S.par n (List.of_mem_zip hy).1 with
    | inl q => exact .inl q
    | inr q => exact .inr ⟨q, PySem.W.cellsFrom_some _ _ _ (.inl q)⟩
  apply codeAny_call_function hr.depth (KX _ _ lk) rfl S.co S.gen rfl (PySem.W.codeRec_of KX hcd)
  apply hb
  apply wpAny_newFunctionEnv_cells S.kind hkind
  intro env he s1 x
  subst he
  constructor
  · exact lim.keeps x.toInCall.keep
  apply codeAny_func
  obtain ⟨t, ht, hq⟩ := hbody cdv A outer s H vs Q E hg (hr.deeper _) hsp
  have I0 := inv_start (CX := L2.CX P w) (f := f) (cd := cdv) (qual := qual) (E := E) S hr.hd e0 hl r x
  refine wpAny_mono (ht.run [] s1 (start N vs) H _ I0 hq) ?_ (fun e s' hs => hs)
  intro fl s' hs
  cases fl with
  | ret u => exact let ⟨v, _, H', J, rv, q⟩ := hs; ⟨v, H', J.os, J.bare, J.base, J.hok, rv, q⟩
  | next => exact let ⟨_, H', J, q⟩ := hs; ⟨V.non, H', J.os, J.bare, J.base, J.hok, rfl, q⟩
  | brk => exact let ⟨_, _, _, q⟩ := hs; q.elim
  | cont => exact let ⟨_, _, _, q⟩ := hs; q.elim
end
section
variable {X : Cx} {k : Nat} {f : Addr} {fd : FuncData} {ps : List Str} {sp : Sp} {W : WX} {x : Str} {p pos : Pos} {e : Expr} {es : List Expr} {t : TA}
/-- what a callee lets out is wished for at these slots -/
def EAt (W : WX) (σ : L2.St) : XK := fun c d H => W c d σ H
theorem run_g {pins : List (Addr × Obj)} {σ : L2.St} {H : Hp} {s : Shared} {Q : VK} {us : List Value} {vs : List V} (F : FnG X.prog X.w X.K X.mg X.base k f fd ps sp) (hg : X.A.guards = some []) (hr : Room k X.A) (hb : Binds X.K fd ps []) (tk : L2.Takes X W)
    (I : Inv X pins σ H s) (r : Vals vs us) (h : sp vs H Q (EAt W σ)) : wpAny (model X.prog X.w) X.A (call (.ref f) us) (EP X pins σ Q) X.xe s := by
  have hl : (us ++ []).length = ps.length := by
    rw [List.append_nil, ← r.length]
    exact F.len _ _ _ _ h
  have b := hb s us I.kIn hl
  rw [List.append_nil] at b
  apply wpAny_call
  apply codeAny_mono (F.go X.A X.stack s H ⟨us, []⟩ us vs Q (EAt W σ) hg hr I.env0 b r h)
  intro q s' hq
  match q, hq with
  | .error e, hq => exact tk e s' (L2.XE.of_call I (fun _ _ _ z => z) hq)
  | .ok (.ret u), hq => exact I.after hq
  | .ok .next, hq => exact hq.elim
  | .ok .brk, hq => exact hq.elim
  | .ok .cont, hq => exact hq.elim
def tCallG (sp : Sp) (W : WX) (t : TA) : TE := fun σ H Q => t σ H fun vs H1 => sp vs H1 Q (EAt W σ)
theorem pe_callG (F : FnG X.prog X.w X.K X.mg X.base k f fd ps sp) (hgd : X.A.guards = some []) (hr : Room k X.A) (hg : Gl X x) (hm : X.mg x = some (.ref f)) (hk : PySem.W.keepIn X.K (.ref f) = true) (hb : Binds X.K fd ps []) (tk : L2.Takes X W)
    (ha : PA X (e :: es) t) (hdb : (x == ("__debug__" : Str)) = false := by decide) (he : starEach (e :: es) X.env = (false, eval e X.env) :: starEach es X.env := by rfl)
    (hpl : (backTo pos (starEach es X.env)).any (·.1) = false := by rfl) : PE X (.Call (.Name x p) (e :: es) [] pos) (tCallG sp W t) := by
  constructor
  intro pins s σ H Q I h
  apply wpAny_Call_Name_kw
  apply ld_glob I hg hm _ hdb
  apply PySem.W.callWith_K (h₀ := X.base) I.ok.mod.kin hk _ he hpl
  apply thn (ha.run pos pins s σ H _ I h)
  rintro us s1 ⟨vs, H1, I1, r, q⟩
  exact ⟨I1.kIn, run_g F hgd hr hb tk I1 r q⟩
theorem pe_callG0 (F : FnG X.prog X.w X.K X.mg X.base k f fd ps sp) (hgd : X.A.guards = some []) (hr : Room k X.A) (hg : Gl X x) (hm : X.mg x = some (.ref f)) (hk : PySem.W.keepIn X.K (.ref f) = true) (hb : Binds X.K fd ps []) (tk : L2.Takes X W)
    (hdb : (x == ("__debug__" : Str)) = false := by decide) : PE X (.Call (.Name x p) [] [] pos) (tCallG sp W tNil) := by
  constructor
  intro pins s σ H Q I h
  apply wpAny_Call_Name_kw
  apply ld_glob I hg hm _ hdb
  exact PySem.W.callWith_K0 I.kIn hk (run_g (us := []) F hgd hr hb tk I .nil h)
end
/-! ### the promise of a plain reckoning -/
def spF (K : PySem.W.Frag) (mg : Str → Option Value) (n : Nat) (m : FM) : Sp := fun vs H Q E => vs.length = n ∧ ∃ R μ S ds, RS K R H μ S ∧ DRs K R H μ S.length vs ds ∧
  match m ds S with
  | .bad => False
  | .err e S' => ∀ μ' H' cls dd, Sp1 μ S.length H μ' S'.length H' → RS K R H' μ' S' → ErR K mg H' (Av R μ' S'.length) cls dd e → E cls dd H'
  | .ok d S' => ∀ μ' H' v, Sp1 μ S.length H μ' S'.length H' → RS K R H' μ' S' → DR K R H' μ' S'.length v d → Q v H'
def eCall (m : FM) (a : AM) : EM := fun env S => (a env S).bind m
section
variable {X : Cx} {k n : Nat} {f : Addr} {fd : FuncData} {ps : List Str} {W : WX} {x : Str} {p pos : Pos} {e : Expr} {es : List Expr} {aa : AM} {m : FM}
theorem spf_po {K : PySem.W.Frag} {R : Addr → Prop} {mg : Str → Option Value} {μ : Nat → Addr} {H : Hp} {S : Sto} {σ : L2.St} {env : Envr} {vs : List V} {ds : List D} {Q : VK} (r : RL K R μ H S σ env [] []) (h : DRs K R H μ S.length vs ds) (hl : vs.length = n) (q : Po K mg W R μ S H σ env (m ds S) Q) :
    spF K mg n m vs H Q (EAt W σ) := by
  refine ⟨hl, R, μ, S, ds, r.rs, h, ?_⟩
  cases e : m ds S with
  | bad => rw [e] at q; exact q
  | err x S1 =>
    rw [e] at q
    exact fun μ' H' cls dd s rs er => q μ' H' cls dd s (r.mono s rs) er
  | ok d S1 =>
    rw [e] at q
    exact fun μ' H' v s rs dr => q μ' H' s rs v dr
/-- so many arguments -/
def arity (n : Nat) (m : FM) : FM := fun ds S => if ds.length = n then m ds S else .bad
theorem me_call (F : FnG X.prog X.w X.K X.mg X.base k f fd ps (spF X.K X.mg n (arity n m))) (hgd : X.A.guards = some []) (hr : Room k X.A) (hm : X.mg x = some (.ref f)) (hk : PySem.W.keepIn X.K (.ref f) = true) (hb : Binds X.K fd ps []) (tk : L2.Takes X W)
    (ha : PA X (e :: es) (ta X.K X.mg W aa)) (hg : Gl X x := by rfl) (hdb : (x == ("__debug__" : Str)) = false := by decide) (he : starEach (e :: es) X.env = (false, eval e X.env) :: starEach es X.env := by rfl)
    (hpl : (backTo pos (starEach es X.env)).any (·.1) = false := by rfl) : PE X (.Call (.Name x p) (e :: es) [] pos) (te X.K X.mg W (eCall (arity n m) aa)) := by
  refine (pe_callG F hgd hr hg hm hk hb tk ha hdb he hpl).w fun σ H Q ⟨R, μ, env, S, r, h⟩ => ⟨R, μ, env, S, r, ?_⟩
  refine poa_mono (poa_bind r h) fun xs H1 ⟨μ1, S1, ds, r1, dr1, h1⟩ => ?_
  by_cases hl : ds.length = n
  · exact spf_po r1 dr1 (dr1.len.trans hl) h1
  · unfold arity at h1
    rw [if_neg hl] at h1
    exact h1.elim
theorem me_call0 (F : FnG X.prog X.w X.K X.mg X.base k f fd ps (spF X.K X.mg 0 (arity 0 m))) (hgd : X.A.guards = some []) (hr : Room k X.A) (hm : X.mg x = some (.ref f)) (hk : PySem.W.keepIn X.K (.ref f) = true) (hb : Binds X.K fd ps []) (tk : L2.Takes X W)
    (hg : Gl X x := by rfl) (hdb : (x == ("__debug__" : Str)) = false := by decide) : PE X (.Call (.Name x p) [] [] pos) (te X.K X.mg W (eCall (arity 0 m) aNil)) := by
  refine (pe_callG0 F hgd hr hg hm hk hb tk hdb).w fun σ H Q ⟨R, μ, env, S, r, h⟩ => ?_
  exact spf_po r .nil rfl h
end
end Mi

/-! Mi3 -/
set_option Elab.async false
set_option linter.all false
set_option maxRecDepth 100000
set_option maxHeartbeats 1000000
set_option autoImplicit false
namespace Mi
open PySem PySem.Spec PyProof.Rows L2

/-! ### statements -/
section
variable (K : PySem.W.Frag) (mg : Str → Option Value) (W : WX)
def Pz (R : Addr → Prop) (μ : Nat → Addr) (S : Sto) (H : Hp) (o : Os) (D : Ends) : Prop :=
  match o with
  | .bad => False
  | .nx env' S' => ∀ μ' H' σ', Sp1 μ S.length H μ' S'.length H' → RL K R μ' H' S' σ' env' [] [] → D.nx σ' H'
  | .bk env' S' => ∀ μ' H' σ', Sp1 μ S.length H μ' S'.length H' → RL K R μ' H' S' σ' env' [] [] → D.bk σ' H'
  | .ct env' S' => ∀ μ' H' σ', Sp1 μ S.length H μ' S'.length H' → RL K R μ' H' S' σ' env' [] [] → D.ct σ' H'
  | .rt d S' => ∀ μ' H' v, Sp1 μ S.length H μ' S'.length H' → RS K R H' μ' S' → DR K R H' μ' S'.length v d → D.rt v H'
  | .err e env' S' => ∀ μ' H' σ' cls dd, Sp1 μ S.length H μ' S'.length H' → RL K R μ' H' S' σ' env' [] [] → ErR K mg H' (Av R μ' S'.length) cls dd e → W cls dd σ' H'
def ts (m : SM) : TS := fun D σ H => ∃ R μ env S, RL K R μ H S σ env [] [] ∧ Pz K mg W R μ S H (m env S) D
end
section
variable {K : PySem.W.Frag} {R : Addr → Prop} {mg : Str → Option Value} {W : WX} {μ μ' : Nat → Addr} {H H' : Hp} {S S' : Sto} {σ : L2.St} {env : Envr} {D D' : Ends}
theorem pz_later {o : Os} (s : Sp1 μ S.length H μ' S'.length H') (h : Pz K mg W R μ S H o D) : Pz K mg W R μ' S' H' o D := by
  cases o with
  | bad => exact h
  | nx e S2 => exact fun m2 H2 σ2 s2 r2 => h m2 H2 σ2 (s.trans s2) r2
  | bk e S2 => exact fun m2 H2 σ2 s2 r2 => h m2 H2 σ2 (s.trans s2) r2
  | ct e S2 => exact fun m2 H2 σ2 s2 r2 => h m2 H2 σ2 (s.trans s2) r2
  | rt d S2 => exact fun m2 H2 v s2 r2 d2 => h m2 H2 v (s.trans s2) r2 d2
  | err e v S2 => exact fun m2 H2 σ2 c d s2 r2 e2 => h m2 H2 σ2 c d (s.trans s2) r2 e2
theorem pz_mono {o : Os} (h : Pz K mg W R μ S H o D) (h1 : ∀ σ H, D.nx σ H → D'.nx σ H) (h2 : ∀ v H, D.rt v H → D'.rt v H) (h3 : ∀ σ H, D.bk σ H → D'.bk σ H) (h4 : ∀ σ H, D.ct σ H → D'.ct σ H) : Pz K mg W R μ S H o D' := by
  cases o with
  | bad => exact h
  | nx e S2 => exact fun m2 H2 σ2 s2 r2 => h1 _ _ (h m2 H2 σ2 s2 r2)
  | bk e S2 => exact fun m2 H2 σ2 s2 r2 => h3 _ _ (h m2 H2 σ2 s2 r2)
  | ct e S2 => exact fun m2 H2 σ2 s2 r2 => h4 _ _ (h m2 H2 σ2 s2 r2)
  | rt d S2 => exact fun m2 H2 v s2 r2 d2 => h2 _ _ (h m2 H2 v s2 r2 d2)
  | err e v S2 => exact h
/-- a reckoning ahead of a statement -/
def Ot.then {α : Type} (m : Ot α) (env : Envr) (k : α → Sto → Os) : Os :=
  match m with
  | .bad => .bad
  | .err e S => .err e env S
  | .ok a S => k a S
theorem pz_then {α : Type} {m : Ot α} {k : α → Sto → Os} (h : Pz K mg W R μ S H (m.then env k) D) : Pg K mg W R μ S H σ env m fun μ1 H1 S1 a => Pz K mg W R μ1 S1 H1 (k a S1) D := by
  cases m with
  | bad => exact h
  | err e S1 => exact fun μ' H' cls dd s r er => h μ' H' σ cls dd s r er
  | ok a S1 => exact fun μ1 H1 s1 rs1 => pz_later s1 h
theorem pz_nx {env' : Envr} (h : Pz K mg W R μ S H (.nx env' S) D) (r : RL K R μ H S σ env' [] []) : D.nx σ H := h μ H σ Sp1.refl r
end
def sSeq (a b : SM) : SM := fun env S => match a env S with
  | .nx env1 S1 => b env1 S1
  | o => o
def sNx : SM := fun env S => .nx env S
def sExpr (m : EM) : SM := fun env S => (m env S).then env fun _ S1 => .nx env S1
def sRet (m : EM) : SM := fun env S => (m env S).then env fun d S1 => .rt d S1
def sRetN : SM := fun _ S => .rt (.p .none) S
def sBk : SM := fun env S => .bk env S
def sCt : SM := fun env S => .ct env S
def sIf (t : BM) (a b : SM) : SM := fun env S => (t env S).then env fun c S1 => if c = true then a env S1 else b env S1
/-- targets -/
abbrev GM := D → Envr → Option Envr
def gN (i : Nat) : GM := fun d env => some (env.set i (some d))
def gsOf : List GM → List PyData → Envr → Option Envr
  | [], [], env => some env
  | g :: gs, d :: ds, env => (g (.p d) env).bind fun e => gsOf gs ds e
  | _, _, _ => none
def gT (gs : List GM) : GM := fun d env => match d with
  | .p (.tuple ds) => gsOf gs ds env
  | .p (.dict [(.none, .none), (x, y)]) => gsOf gs [x, y] env
  | _ => none
def sAsg (m : EM) (g : GM) : SM := fun env S => (m env S).then env fun d S1 => match g d env with
  | some e => .nx e S1
  | none => .bad
def tg (K : PySem.W.Frag) (g : GM) : TG := fun v σ H Q => ∃ R μ S env d env', RL K R μ H S σ env [v] [d] ∧ g d env = some env' ∧ ∀ σ', RL K R μ H S σ' env' [] [] → Q σ' H
section
variable {X : Cx} {W : WX} {st : Stmt} {rest body : List Stmt} {e c target : Expr} {m : EM} {t : BM} {a b : SM} {g : GM} {pos : Pos}
theorem ss_nil : PSs X [] (ts X.K X.mg W sNx) := pss_nil.w fun D σ H ⟨R, μ, env, S, r, h⟩ => pz_nx h r
theorem ss_cons (h1 : PS X st (ts X.K X.mg W a)) (h2 : PSs X rest (ts X.K X.mg W b)) : PSs X (st :: rest) (ts X.K X.mg W (sSeq a b)) := by
  refine (pss_cons h1 h2).w fun D σ H ⟨R, μ, env, S, r, h⟩ => ⟨R, μ, env, S, r, ?_⟩
  unfold sSeq at h
  cases q : a env S with
  | bad => rw [q] at h; exact h
  | bk e2 S2 => rw [q] at h; exact h
  | ct e2 S2 => rw [q] at h; exact h
  | rt d S2 => rw [q] at h; exact h
  | err x e2 S2 => rw [q] at h; exact h
  | nx e2 S2 =>
    rw [q] at h
    exact fun μ' H' σ' s r' => ⟨R, μ', e2, S2, r', pz_later s h⟩
theorem ss_one (h1 : PS X st (ts X.K X.mg W a)) : PSs X [st] (ts X.K X.mg W a) := pss_one h1
theorem ms_pass : PS X (.Pass pos) (ts X.K X.mg W sNx) := ps_pass.w fun D σ H ⟨R, μ, env, S, r, h⟩ => pz_nx h r
theorem ms_break : PS X (.Break pos) (ts X.K X.mg W sBk) := ps_break.w fun D σ H ⟨R, μ, env, S, r, h⟩ => h μ H σ Sp1.refl r
theorem ms_continue : PS X (.Continue pos) (ts X.K X.mg W sCt) := ps_continue.w fun D σ H ⟨R, μ, env, S, r, h⟩ => h μ H σ Sp1.refl r
theorem ms_expr (h : PE X e (te X.K X.mg W m)) (hs : swapsWith e none pos.line X.env = pure false := by rfl) : PS X (.Expr e pos) (ts X.K X.mg W (sExpr m)) := by
  refine (ps_expr h hs).w fun D σ H ⟨R, μ, env, S, r, h⟩ => ⟨R, μ, env, S, r, ?_⟩
  exact pg_mono (pz_then h) fun μ1 H1 S1 d s1 rs1 p v dr => pz_nx p (r.mono s1 rs1)
theorem ms_ret (h : PE X e (te X.K X.mg W m)) : PS X (.Return (some e) pos) (ts X.K X.mg W (sRet m)) := by
  refine (ps_ret h).w fun D σ H ⟨R, μ, env, S, r, h⟩ => ⟨R, μ, env, S, r, ?_⟩
  exact pg_mono (pz_then h) fun μ1 H1 S1 d s1 rs1 p v dr => p μ1 H1 v Sp1.refl rs1 dr
theorem ms_retN : PS X (.Return none pos) (ts X.K X.mg W sRetN) := ps_retN.w fun D σ H ⟨R, μ, env, S, r, h⟩ => h μ H .non Sp1.refl r.rs (.p .non)
theorem ms_if {a1 b1 : List Stmt} (hc : PT X c (tt X.K X.mg W t)) (ha : PSs X a1 (ts X.K X.mg W a)) (hb : PSs X b1 (ts X.K X.mg W b)) : PS X (.If c a1 b1 pos) (ts X.K X.mg W (sIf t a b)) := by
  refine (ps_if hc ha hb).w fun D σ H ⟨R, μ, env, S, r, h⟩ => ⟨R, μ, env, S, r, ?_⟩
  refine pg_mono (pz_then h) fun μ1 H1 S1 d s1 rs1 p => ?_
  cases d with
  | true => exact iteT ⟨R, μ1, env, S1, r.mono s1 rs1, p⟩
  | false => exact iteF ⟨R, μ1, env, S1, r.mono s1 rs1, p⟩
theorem _root_.L2.PG.w {X : Cx} {e : Expr} {t t' : TG} (h : PG X e t) (hw : ∀ v σ H Q, t' v σ H Q → t v σ H Q) : PG X e t' := ⟨fun pins s σ H v u Q I r q => h.run pins s σ H v u Q I r (hw v σ H Q q)⟩
theorem mg_name {i : Nat} {x : Str} (hN : X.N.Nodup) (hi : X.N[i]? = some x := by rfl) (hx : Loc X.env.scope x := by first | exact Or.inl rfl | exact Or.inr rfl) (hf : X.fn x = true ∨ X.env.scope.names.lookup x = some .local := by first | exact .inl rfl | exact .inr rfl | assumption) :
    PG X (.Name x pos) (tg X.K (gN i)) := by
  refine (pg_name hN hi hx hf).w fun v σ H Q ⟨R, μ, S, env, d, env', r, e, q⟩ => ?_
  cases e
  cases r.tm with
  | cons h1 _ => exact q _ ⟨r.rs, r.en.set h1 i, .nil⟩
def tgs (K : PySem.W.Frag) (gs : List GM) : TGs := fun vs σ H Q => ∃ R μ S env ds env', RL K R μ H S σ env [] [] ∧ PdAll K H (Av R μ S.length) vs ds ∧ gsOf gs ds env = some env' ∧ ∀ σ', RL K R μ H S σ' env' [] [] → Q σ' H
theorem _root_.L2.PGs.w {X : Cx} {e : List Expr} {t t' : TGs} (h : PGs X e t) (hw : ∀ v σ H Q, t' v σ H Q → t v σ H Q) : PGs X e t' := ⟨fun pins s σ H v u Q I r q => h.run pins s σ H v u Q I r (hw v σ H Q q)⟩
theorem mgs_nil : PGs X [] (tgs X.K []) := by
  refine pgs_nil.w fun vs σ H Q ⟨R, μ, S, env, ds, env', r, pd, e, q⟩ => ?_
  cases pd with
  | nil => cases e; exact ⟨rfl, q σ r⟩
  | cons _ _ => cases e
theorem mgs_cons {es : List Expr} {gs : List GM} (h1 : PG X e (tg X.K g)) (h2 : PGs X es (tgs X.K gs)) (hs : (assignEach (e :: es) X.env).map (·.2) = assign e X.env :: (assignEach es X.env).map (·.2) := by rfl) : PGs X (e :: es) (tgs X.K (g :: gs)) := by
  refine (pgs_cons h1 h2 hs).w fun vs σ H Q ⟨R, μ, S, env, ds, env', r, pd, e, q⟩ => ?_
  cases pd with
  | nil => cases e
  | @cons v vr d dr p1 p2 =>
    unfold gsOf at e
    cases e1 : g (.p d) env with
    | none => rw [e1] at e; cases e
    | some e2 =>
      rw [e1] at e
      exact ⟨v, vr, rfl, R, μ, S, env, .p d, e2, ⟨r.rs, r.en, .cons (.p p1) .nil⟩, e1, fun σ1 r1 => ⟨R, μ, S, e2, dr, env', r1, p2, e, q⟩⟩
theorem gsOf_len : ∀ {gs : List GM} {ds : List PyData} {env env' : Envr}, gsOf gs ds env = some env' → ds.length = gs.length
  | [], [], _, _, _ => rfl
  | [], _ :: _, _, _, h => by cases h
  | _ :: _, [], _, _, h => by cases h
  | g :: gs, d :: ds, env, env', h => by
    unfold gsOf at h
    cases e1 : g (.p d) env with
    | none => rw [e1] at h; cases h
    | some e2 =>
      rw [e1] at h
      rw [List.length_cons, List.length_cons, gsOf_len (env := e2) h]
theorem mg_tup {es : List Expr} {x1 : Nat} {gs : List GM} (hc : X.calm = true) (h : PGs X es (tgs X.K gs)) (hn : (assignEach es X.env).length = gs.length := by rfl) (hst : (assignEach es X.env).findIdx? (·.1) = none := by rfl) :
    PG X (.Tuple es x1 pos) (tg X.K (gT gs)) := by
  refine (pg_tup hc h hn hst).w fun v σ H Q ⟨R, μ, S, env, d, env', r, e, q⟩ => ?_
  cases r.tm with
  | cons h1 _ =>
    cases h1 with
    | loc _ => cases e
    | scr _ => cases e
    | p h1 =>
      cases h1 with
      | non => cases e
      | bl _ => cases e
      | int _ => cases e
      | str _ => cases e
      | lst _ _ _ => cases e
      | dk0 _ _ => cases e
      | wkn _ _ => cases e
      | dk1 _ _ _ => cases e
      | dks _ _ _ => cases e
      | ex0 _ _ _ => cases e
      | exn _ _ _ _ _ _ _ => cases e
      | wk hs pa pb => exact ⟨_, _, rfl, SqT.of hs, gsOf_len e, R, μ, S, env, _, env', r.drop, .cons pa (.cons pb .nil), e, q⟩
      | @tup a xs ds hs hall => exact ⟨a, xs, rfl, hs.sqt, by rw [hall.len]; exact gsOf_len e, R, μ, S, env, ds, env', r.drop, hall, e, q⟩
theorem ms_asg (h : PE X e (te X.K X.mg W m)) (hg : PG X target (tg X.K g)) (hs : swapsWithSole [target] e pos.line X.env = pure false := by rfl) (hw : swappedStores [target] e X.env = pure none := by rfl)
    (h1 : (assignEach [target] X.env).map (·.2) = [assign target X.env] := by rfl) : PS X (.Assign [target] e pos) (ts X.K X.mg W (sAsg m g)) := by
  refine (ps_asg h hg hs hw h1).w fun D σ H ⟨R, μ, env, S, r, h⟩ => ⟨R, μ, env, S, r, ?_⟩
  refine pg_mono (pz_then h) fun μ1 H1 S1 d s1 rs1 p v dr => ?_
  cases e1 : g d env with
  | none => rw [e1] at p; exact p.elim
  | some env' =>
    rw [e1] at p
    exact ⟨R, μ1, S1, env, d, env', ⟨rs1, r.en.mono s1, .cons dr .nil⟩, e1, fun σ' r' => pz_nx p r'⟩
end

/-! ### a def's body -/
/-- what comes back: cells of its own go; what it made and hands back is kept (b) or read only from then on -/
def fin (b : Bool) (n : Nat) (d : D) (S : Sto) : Ot D :=
  match d with
  | .p x => .ok (.p x) (S.take n)
  | .scr x => .ok (.scr x) (S.take n)
  | .loc i => if i < n then .ok (.loc i) (S.take n) else match b, S[i]? with
    | false, some (.lst xs) => match plains xs with
      | some l => .ok (.p (.list l)) (S.take n)
      | none => .bad
    | true, some c => if c.lowb n = true then .ok (.loc n) (S.take n ++ [c]) else .bad
    | _, _ => .bad
/-- a def of ps parameters and so many names in all -/
def fnM (b : Bool) (ps all : Nat) (m : SM) : FM := arity ps fun ds S => match m (ds.map some ++ List.replicate (all - ps) none) S with
  | .nx _ S1 => fin b S.length (.p .none) S1
  | .rt d S1 => fin b S.length d S1
  | .err e _ S1 => .err e (S1.take S.length)
  | _ => .bad
section
variable {K : PySem.W.Frag} {R : Addr → Prop} {mg : Str → Option Value} {W : WX} {μ μ' : Nat → Addr} {H H' : Hp} {S S' : Sto} {σ : L2.St} {env : Envr} {n m : Nat}
theorem le_cut (h : n ≤ m) : Le H (Own μ m) H (Own μ n) := ⟨fun _ _ q _ => q, fun _ ⟨i, hi, e⟩ => .inl ⟨i, Nat.lt_of_lt_of_le hi h, e⟩, fun _ _ q => q, fun _ _ _ q => q⟩
theorem av_re {μ2 : Nat → Addr} {n2 : Nat} (ho : ∀ a, Own μ2 n2 a → Own μ m a) : Le H (Av R μ m) H (Av R μ2 n2) := ⟨fun _ _ q _ => q, fun a z => .inl (z.elim (fun q => .inl (ho a q)) .inr), fun _ _ q => q, fun _ _ _ q => q⟩
theorem drs_re {μ2 : Nat → Addr} {n2 : Nat} (ho : ∀ a, Own μ2 n2 a → Own μ m a) (hs : ∀ j, j < n → μ2 j = μ j) (hn : n ≤ n2) : ∀ {vs : List V} {ds : List D}, ds.all (D.lowb n) = true → DRs K R H μ m vs ds → DRs K R H μ2 n2 vs ds
  | _, _, _, .nil => .nil
  | _, .p d :: r, q, .cons (.p x) t => .cons (.p (x.mono (av_re ho))) (drs_re ho hs hn (by rw [List.all_cons] at q; exact (Bool.and_eq_true_iff.mp q).2) t)
  | _, .loc i :: r, q, .cons (.loc x) t => by
    rw [List.all_cons] at q
    obtain ⟨q1, q2⟩ := Bool.and_eq_true_iff.mp q
    have q3 : i < n := of_decide_eq_true q1
    rw [← hs i q3]
    exact .cons (.loc (Nat.lt_of_lt_of_le q3 hn)) (drs_re ho hs hn q2 t)
  | _, .scr d :: r, q, .cons (.scr x) t => .cons (.scr x) (drs_re ho hs hn (by rw [List.all_cons] at q; exact (Bool.and_eq_true_iff.mp q).2) t)
theorem own_cut (h : n ≤ m) : ∀ a, Own μ n a → Own μ m a := fun _ ⟨i, hi, e⟩ => ⟨i, Nat.lt_of_lt_of_le hi h, e⟩
theorem drs_cut (h : n ≤ m) {vs : List V} {ds : List D} (q : ds.all (D.lowb n) = true) (r : DRs K R H μ m vs ds) : DRs K R H μ n vs ds := drs_re (own_cut h) (fun _ _ => rfl) (Nat.le_refl _) q r
theorem cel_re {μ2 : Nat → Addr} {n2 : Nat} (ho : ∀ a, Own μ2 n2 a → Own μ m a) (hs : ∀ j, j < n → μ2 j = μ j) (hn : n ≤ n2) {a : Addr} {c : Cell} (q : c.lowb n = true) (x : CelR K R H μ m a c) : CelR K R H μ2 n2 a c := by
  cases c with
  | lst xs => obtain ⟨vs, h1, h2⟩ := x; exact ⟨vs, h1, drs_re ho hs hn q h2⟩
  | dk xs => obtain ⟨vs, h1, h2, h3⟩ := x; exact ⟨vs, h1, h2, drs_re ho hs hn q h3⟩
  | dt xs => obtain ⟨vs, h1, h2, h3⟩ := x; exact ⟨vs, h1, h2, drs_re ho hs hn q h3⟩
  | ins nm xs => obtain ⟨vs, h1, h2, h3⟩ := x; exact ⟨vs, h1, h2, drs_re ho hs hn q h3⟩
theorem lowb_mono {c : Cell} (h : n ≤ m) (q : c.lowb n = true) : c.lowb m = true := by
  refine List.all_eq_true.mpr fun d hd => ?_
  have := List.all_eq_true.mp q d hd
  cases d with
  | p _ => rfl
  | scr _ => rfl
  | loc i => exact decide_eq_true (Nat.lt_of_lt_of_le (of_decide_eq_true this) h)
theorem cel_cut {a : Addr} {c : Cell} (h : n ≤ m) (q : c.lowb n = true) (x : CelR K R H μ m a c) : CelR K R H μ n a c := cel_re (own_cut h) (fun _ _ => rfl) (Nat.le_refl _) q x
theorem len_cut (h : n ≤ S.length) : (S.take n).length = n := by rw [List.length_take]; omega
theorem rs_cut (r : RS K R H μ S) (h : n ≤ S.length) : RS K R H μ (S.take n) := by
  have hl := len_cut h
  refine ⟨fun i j hi hj e => r.inj i j (by omega) (by omega) e, fun i c hc => ?_, fun i c hc => ?_, fun a ha => ⟨(r.res a ha).1, fun z => (r.res a ha).2 (own_cut (by omega) a z)⟩⟩
  · rw [List.getElem?_take] at hc
    split at hc
    · rename_i hi
      rw [hl]
      exact cel_cut h (lowb_mono (Nat.le_of_lt hi) (r.low i c hc)) (r.cell i c hc)
    · cases hc
  · rw [List.getElem?_take] at hc
    split at hc
    · exact r.low i c hc
    · cases hc
theorem sp_cut (s : Sp1 μ n H μ' m H') (h : n ≤ m) : Sp1 μ n H μ' n H' :=
  ⟨Nat.le_refl _, s.same, s.hp.trans (le_cut h)⟩
theorem start_dro {N : List Str} {vs : List V} {ds : List D} (hl : vs.length ≤ N.length) (h : DRs K R H μ n vs ds) : DRo K R H μ n (start N vs) (ds.map some ++ List.replicate (N.length - ds.length) none) := by
  have e : start N vs = vs.map some ++ List.replicate (N.length - vs.length) none := rfl
  rw [e, h.len]
  clear e hl
  induction h with
  | nil =>
    show DRo K R H μ n (List.replicate _ none) (List.replicate _ none)
    induction (N.length - ([] : List D).length) with
    | zero => exact .nil
    | succ k ih => exact .none ih
  | cons a r ih =>
    rename_i v vs d ds
    have : ∀ k, DRo K R H μ n (vs.map some ++ List.replicate k none) (ds.map some ++ List.replicate k none) := by
      intro k
      clear ih a
      induction r with
      | nil =>
        show DRo K R H μ n (List.replicate _ none) (List.replicate _ none)
        induction k with
        | zero => exact .nil
        | succ k ih => exact .none ih
      | cons a r ih => exact .some a ih
    exact .some a (this _)
/-- what fin gives stands -/
theorem fin_ok {b : Bool} {d : D} {v : V} {Q : VK} {W' : WX} (s : Sp1 μ S.length H μ' S'.length H') (rs : RS K R H' μ' S') (dr : DR K R H' μ' S'.length v d)
    (h : match fin b S.length d S' with
      | .bad => False
      | .err _ _ => True
      | .ok d2 S2 => ∀ μ2 H2 v2, Sp1 μ S.length H μ2 S2.length H2 → RS K R H2 μ2 S2 → DR K R H2 μ2 S2.length v2 d2 → Q v2 H2) : Q v H' := by
  have hl := len_cut (S := S') s.le
  have sc : Sp1 μ S.length H μ' (S'.take S.length).length H' := by rw [hl]; exact sp_cut s s.le
  have rc := rs_cut rs s.le
  cases dr with
  | scr x => exact h μ' H' _ sc rc (.scr x)
  | p x => exact h μ' H' v sc rc (.p (by rw [hl]; exact x.mono (av_re (own_cut s.le))))
  | @loc i hi =>
    unfold fin at h
    dsimp only at h
    by_cases hin : i < S.length
    · rw [if_pos hin] at h
      exact h μ' H' _ sc rc (.loc (by rw [hl]; exact hin))
    · rw [if_neg hin] at h
      have e0 : S'[i]? = some S'[i] := by simp [hi]
      rw [e0] at h
      have hc := rs.cell i _ e0
      have hc' := hc
      have no : ¬ Av R μ' S.length (μ' i) := fun z => by
        rcases z with ⟨j, hj, e⟩ | z
        · exact hin ((rs.inj i j hi (Nat.lt_of_lt_of_le hj s.le) e) ▸ hj)
        · exact (rs.res _ z).2 ⟨i, hi, rfl⟩
      cases b with
      | false =>
        cases ec : S'[i] with
        | dk _ => rw [ec] at h; exact h.elim
        | dt _ => rw [ec] at h; exact h.elim
        | ins _ _ => rw [ec] at h; exact h.elim
        | lst xs =>
          rw [ec] at h hc
          obtain ⟨vs, h1, h2⟩ := hc
          cases ep : plains xs with
          | none =>
            dsimp only at h
            rw [ep] at h
            exact h.elim
          | some l =>
            dsimp only at h
            rw [ep] at h
            exact h μ' H' _ sc rc (.p (.lst h1 (by rw [hl]; exact no) ((plains_pd h2 ep).mono (by rw [hl]; exact av_re (own_cut s.le)))))
      | true =>
        dsimp only at h
        by_cases hb : S'[i].lowb S.length = true
        · rw [if_pos hb] at h
          have h2l : (S'.take S.length ++ [S'[i]]).length = S.length + 1 := by rw [List.length_append, hl]; rfl
          have lt1 : ∀ j, j < S.length → ext μ' S.length (μ' i) j = μ' j := fun j hj => ext_lt hj
          have at1 : ext μ' S.length (μ' i) S.length = μ' i := ext_at
          have hn := s.le
          have hown : ∀ a, Own (ext μ' S.length (μ' i)) (S.length + 1) a → Own μ' S'.length a := fun a ⟨j, hj, e⟩ => by
            by_cases hjn : j = S.length
            · exact ⟨i, hi, by rw [e, hjn, at1]⟩
            · exact ⟨j, by omega, by rw [e, lt1 j (by omega)]⟩
          have s2 : Sp1 μ S.length H (ext μ' S.length (μ' i)) (S.length + 1) H' :=
            ⟨Nat.le_succ _, fun j hj => (lt1 j hj).trans (s.same j hj), ⟨s.hp.keep, fun a z => s.hp.own a (hown a z), s.hp.tups, s.hp.frzs⟩⟩
          have ix : ∀ j, j < S.length + 1 → ∃ k, k < S'.length ∧ ext μ' S.length (μ' i) j = μ' k ∧ ((j < S.length ∧ k = j) ∨ (j = S.length ∧ k = i)) := fun j hj => by
            by_cases hjn : j = S.length
            · exact ⟨i, hi, by rw [hjn, at1], .inr ⟨hjn, rfl⟩⟩
            · exact ⟨j, by omega, lt1 j (by omega), .inl ⟨by omega, rfl⟩⟩
          have r2 : RS K R H' (ext μ' S.length (μ' i)) (S'.take S.length ++ [S'[i]]) := by
            refine ⟨fun j k hj hk e => ?_, fun j c hc => ?_, fun j c hc => ?_, fun a ha => ⟨(rs.res a ha).1, fun z => (rs.res a ha).2 (hown a (by rw [h2l] at z; exact z))⟩⟩
            · rw [h2l] at hj hk
              obtain ⟨j', g1, g2, g3⟩ := ix j hj
              obtain ⟨k', f1, f2, f3⟩ := ix k hk
              rw [g2, f2] at e
              have := rs.inj _ _ g1 f1 e
              omega
            · rw [h2l]
              by_cases hj : j < S.length
              · rw [List.getElem?_append_left (by omega), List.getElem?_take_of_lt hj] at hc
                rw [lt1 j hj]
                exact cel_re hown lt1 (Nat.le_succ _) (lowb_mono (Nat.le_of_lt hj) (rs.low j c hc)) (rs.cell j c hc)
              · have hjl := (List.getElem?_eq_some_iff.mp hc).1
                rw [h2l] at hjl
                have ej : j = S.length := by omega
                subst ej
                rw [List.getElem?_append_right (by omega), hl, Nat.sub_self] at hc
                cases hc
                rw [at1]
                exact cel_re hown lt1 (Nat.le_succ _) hb hc'
            · by_cases hj : j < S.length
              · rw [List.getElem?_append_left (by omega), List.getElem?_take_of_lt hj] at hc
                exact rs.low j c hc
              · have hjl := (List.getElem?_eq_some_iff.mp hc).1
                rw [h2l] at hjl
                have ej : j = S.length := by omega
                subst ej
                rw [List.getElem?_append_right (by omega), hl, Nat.sub_self] at hc
                cases hc
                exact hb
          have dl : DR K R H' (ext μ' S.length (μ' i)) (S'.take S.length ++ [S'[i]]).length (.ref (ext μ' S.length (μ' i) S.length)) (.loc S.length) := .loc (by rw [h2l]; exact Nat.lt_succ_self _)
          rw [at1] at dl
          exact h (ext μ' S.length (μ' i)) H' _ (by rw [h2l]; exact s2) r2 dl
        · rw [if_neg hb] at h
          exact h.elim
end

section
variable {P : Program} {w : World} {K : PySem.W.Frag} {mg : Str → Option Value} {base : Heap}
/-- a def's own wish -/
abbrev WD (E : XK) : WX := fun cls d _ H => E cls d H
theorem fn_def {x qual : Str} {st : Stmt} {f : Addr} {fd : FuncData} {N ps : List Str} {k : Nat} {b : Bool} {m : SM} (F : Fun K x qual st f fd) (S : FnScope N ps (defScope st))
    (hb : ∀ (cdv : Value) (A : Around) (outer : List Env) (s : Shared) (H : Hp) (E : XK), A.guards = some [] → Room k (A.deeper (envOfC qual (defScope st) s.heap.objs.size f cdv)) →
      PSs (cxOf (L2.CX P w) P w K mg base N qual (defScope st) f cdv A outer s H E) (defBody st) (ts K mg (WD E) m)) :
    FnG P w K mg base (k + 1) f fd ps (spF K mg ps.length (fnM b ps.length N.length m)) := by
  refine fng_of F S (fun vs H Q E h => h.1) fun cdv A outer s H vs Q E hg hr hsp => ⟨_, hb cdv A outer s H E hg hr, ?_⟩
  obtain ⟨hl, R, μ, S0, ds, rs, dr, h⟩ := hsp
  have hd : ds.length = ps.length := by rw [← dr.len]; exact hl
  have hN : ps.length ≤ N.length := by
    have e := congrArg List.length S.pre
    rw [List.length_take] at e
    omega
  have en := start_dro (N := N) (by omega) dr
  rw [hd] at en
  unfold fnM arity at h
  rw [if_pos hd] at h
  dsimp only at h
  refine ⟨R, μ, _, S0, ⟨rs, en, .nil⟩, ?_⟩
  cases e : m (ds.map some ++ List.replicate (N.length - ps.length) none) S0 with
  | bad => rw [e] at h; exact h.elim
  | bk _ _ => rw [e] at h; exact h.elim
  | ct _ _ => rw [e] at h; exact h.elim
  | nx env1 S1 =>
    rw [e] at h
    intro μ' H' σ' s1 r1
    have r2 : RS K R H' μ' (S1.take S0.length) := rs_cut r1.rs s1.le
    have hl := len_cut (S := S1) s1.le
    exact h μ' H' .non (by rw [hl]; exact sp_cut s1 s1.le) r2 (.p .non)
  | rt d S1 =>
    rw [e] at h
    intro μ' H' v s1 r1 dr1
    refine fin_ok (b := b) (W' := WD E) s1 r1 dr1 ?_
    dsimp only at h
    cases ef : fin b S0.length d S1 with
    | bad => rw [ef] at h; exact h
    | err _ _ => trivial
    | ok d2 S2 => rw [ef] at h; exact h
  | err x env1 S1 =>
    rw [e] at h
    intro μ' H' σ' cls dd s1 r1 er
    have hl := len_cut (S := S1) s1.le
    refine h μ' H' cls dd (by rw [hl]; exact sp_cut s1 s1.le) (rs_cut r1.rs s1.le) ?_
    obtain ⟨h1, d, fs, h2, h3, h4, h5⟩ := er
    exact ⟨h1, d, fs, h2, h3, h4, h5.mono (by rw [hl]; exact av_re (own_cut s1.le))⟩
end
end Mi

/-! Mi4 -/
set_option Elab.async false
set_option linter.all false
set_option maxRecDepth 100000
set_option maxHeartbeats 1000000
set_option autoImplicit false
namespace Mi
open PySem PySem.Spec PyProof.Rows L2

/-! ### what is walked -/
abbrev IM := Envr → Sto → Ot (List D × (Sto → Bool))
/-- nothing is asked of the store at each turn -/
def yes : Sto → Bool := fun _ => true
/-- a walk over these items, from this state on -/
structure Wk (K : PySem.W.Frag) (R : Addr → Prop) (μ : Nat → Addr) (n : Nat) (H : Hp) (items : List D) (chk : Sto → Bool) (J : It) : Prop where
  ex : ∃ (G : Hp → Prop) (Y : Nat → Hp → V → Hp → Prop), Walk J items.length G Y ∧ (∀ (R2 : Addr → Prop) μ2 S2 H2, (∀ a, R2 a → R a ∨ H a = none) → Sp1 μ n H μ2 S2.length H2 → RS K R2 H2 μ2 S2 → chk S2 = true → G H2) ∧
    ∀ (R2 : Addr → Prop) i d μ2 S2 H2 x H3, (∀ a, R2 a → R a ∨ H a = none) → items[i]? = some d → Sp1 μ n H μ2 S2.length H2 → RS K R2 H2 μ2 S2 → chk S2 = true → Y i H2 x H3 → Sp1 μ2 S2.length H2 μ2 S2.length H3 ∧ RS K R2 H3 μ2 S2 ∧ DR K R2 H3 μ2 S2.length x d
theorem le_grow {R R2 : Addr → Prop} {μ μ2 : Nat → Addr} {n n2 : Nat} {H H2 : Hp} (s : Sp1 μ n H μ2 n2 H2) (hR : ∀ a, R2 a → R a ∨ H a = none) : Le H (Av R μ n) H2 (Av R2 μ2 n2) :=
  ⟨fun a o h z => s.hp.keep a o h fun q => z (.inl q), fun a z => z.elim (fun q => (s.hp.own a q).elim (fun x => .inl (.inl x)) .inr) fun q => (hR a q).elim (fun x => .inl (.inr x)) .inr, s.hp.tups, s.hp.frzs⟩
def ti (K : PySem.W.Frag) (mg : Str → Option Value) (W : WX) (im : IM) (wi : TI) : Prop := ∀ σ H Rr, (∃ R μ env S, RL K R μ H S σ env [] [] ∧ Pg K mg W R μ S H σ env (im env S) fun μ1 H1 S1 items => ∀ J, Wk K R μ1 S1.length H1 items.1 items.2 J → Rr J H1) → wi σ H Rr
/-- an iterable, for a target -/
def MI (X : Cx) (W : WX) (tg iter : Expr) (im : IM) : Prop := ∃ wi, PI X tg iter wi ∧ ti X.K X.mg W im wi
/-- the items of a plain list, tuple -/
def isL : D → Sto → Ot (List D × (Sto → Bool))
  | .p (.list l), S => .ok (l.map .p, yes) S
  | _, _ => .bad
def isT : D → Sto → Ot (List D × (Sto → Bool))
  | .p (.tuple l), S => .ok (l.map .p, yes) S
  | _, _ => .bad
def iL (m : EM) : IM := fun env S => (m env S).bind isL
def iT (m : EM) : IM := fun env S => (m env S).bind isT
/-- the items of a list that may have changed: its cell as it stands ahead (what walks it must leave it so: readers alone) -/
def rangeD (lo : Int) (n : Nat) : List D := (List.range n).map fun (k : Nat) => D.p (.int (lo + (k : Int)))
def rng1 : List D → Sto → Ot (List D × (Sto → Bool))
  | [.p (.int j)], S => if -(2 ^ 62) ≤ j ∧ j < 2 ^ 62 then .ok (rangeD 0 j.toNat, yes) S else .bad
  | _, _ => .bad
def rng2 : List D → Sto → Ot (List D × (Sto → Bool))
  | [.p (.int i), .p (.int j)], S => if -(2 ^ 62) ≤ i ∧ i < 2 ^ 62 ∧ -(2 ^ 62) ≤ j ∧ j < 2 ^ 62 then .ok (rangeD i (j - i).toNat, yes) S else .bad
  | _, _ => .bad
def iR1 (a : AM) : IM := fun env S => (a env S).bind rng1
def iR2 (a : AM) : IM := fun env S => (a env S).bind rng2
section
variable {K : PySem.W.Frag} {R : Addr → Prop} {mg : Str → Option Value} {W : WX} {μ μ' : Nat → Addr} {H H' : Hp} {S S' : Sto} {σ : L2.St} {env : Envr} {n : Nat}
theorem pda_get {O : Addr → Prop} : ∀ {vs : List V} {ds : List PyData} {i : Nat} {d : PyData}, PdAll K H O vs ds → ds[i]? = some d → ∃ v, vs[i]? = some v ∧ Pd K H O v d
  | _, _, _, _, .nil, e => by simp at e
  | _, _, 0, _, .cons h r, e => by simp at e; subst e; exact ⟨_, by simp, h⟩
  | _, _, i + 1, d, .cons h r, e => by
    obtain ⟨v, h1, h2⟩ := pda_get (i := i) (d := d) r (by simpa using e)
    exact ⟨v, by simpa using h1, h2⟩
theorem wk_list {a : Addr} {xs : List V} {l : List PyData} (h : H a = some (.lst xs)) (no : ¬ Av R μ n a) (hp : PdAll K H (Av R μ n) xs l) : Wk K R μ n H (l.map .p) yes (Itl K a) := by
  refine ⟨⟨_, _, by rw [List.length_map, ← hp.len]; exact walk_list, fun _ μ2 S2 H2 _ s _ _ => SqL.of ((av_le (R := R) s.hp).keep _ _ h no), fun R2 i d μ2 S2 H2 x H3 hR hi s rs _ y => ?_⟩⟩
  obtain ⟨rfl, hx⟩ := y
  refine ⟨Sp1.refl, rs, ?_⟩
  rw [List.getElem?_map] at hi
  cases e : l[i]? with
  | none => rw [e] at hi; cases hi
  | some d0 =>
    rw [e] at hi
    cases hi
    obtain ⟨v, h1, h2⟩ := pda_get (hp.mono (le_grow s hR)) e
    rw [h1] at hx
    cases hx
    exact .p h2
theorem wk_tup {a : Addr} {xs : List V} {l : List PyData} (h : SqT K H a xs) (hp : PdAll K H (Av R μ n) xs l) : Wk K R μ n H (l.map .p) yes (Itt K a) := by
  refine ⟨⟨_, _, by rw [List.length_map, ← hp.len]; exact walk_tup, fun _ μ2 S2 H2 _ s _ _ => s.hp.sqt h, fun R2 i d μ2 S2 H2 x H3 hR hi s rs _ y => ?_⟩⟩
  obtain ⟨rfl, hx⟩ := y
  refine ⟨Sp1.refl, rs, ?_⟩
  rw [List.getElem?_map] at hi
  cases e : l[i]? with
  | none => rw [e] at hi; cases hi
  | some d0 =>
    rw [e] at hi
    cases hi
    obtain ⟨v, h1, h2⟩ := pda_get (hp.mono (le_grow s hR)) e
    rw [h1] at hx
    cases hx
    exact .p h2
/-- the list cell i, as it was -/
noncomputable def sameC (i : Nat) (xs : List D) : Sto → Bool := fun S => @decide (S[i]? = some (.lst xs)) (Classical.propDecidable _)
theorem sameC_iff {i : Nat} {xs : List D} {S : Sto} : sameC i xs S = true ↔ S[i]? = some (.lst xs) := by
  unfold sameC
  exact @decide_eq_true_iff _ (Classical.propDecidable _)
theorem wk_cell {i : Nat} {xs : List D} (hi : i < n) : Wk K R μ n H xs (sameC i xs) (Itl K (μ i)) := by
  have at2 : ∀ {R2 : Addr → Prop} {μ2 : Nat → Addr} {S2 : Sto} {H2 : Hp}, Sp1 μ n H μ2 S2.length H2 → RS K R2 H2 μ2 S2 → sameC i xs S2 = true → ∃ vs, H2 (μ i) = some (.lst vs) ∧ DRs K R2 H2 μ2 S2.length vs xs := fun {R2 μ2 S2 H2} s rs c => by
    obtain ⟨vs, h1, h2⟩ := rs.cell i _ (sameC_iff.mp c)
    rw [s.same i hi] at h1
    exact ⟨vs, h1, h2⟩
  refine ⟨⟨fun H2 => ∃ vs, H2 (μ i) = some (.lst vs) ∧ vs.length = xs.length, fun k H2 v H3 => H3 = H2 ∧ ∃ vs, H2 (μ i) = some (.lst vs) ∧ vs[k]? = some v, ⟨fun k H2 hk ⟨vs, h1, h2⟩ => ⟨vs, vs[k], SqL.of h1, by simp⟩, fun H2 ⟨vs, h1, h2⟩ => ⟨vs, SqL.of h1, Nat.le_of_eq h2⟩, fun k H2 v H3 _ ⟨vs, h1, h2⟩ y => ⟨y.1, vs, h1, y.2 vs (SqL.of h1)⟩⟩,
    fun R2 μ2 S2 H2 _ s rs c => ?_, fun R2 k d μ2 S2 H2 x H3 hR hk s rs c y => ?_⟩⟩
  · obtain ⟨vs, h1, h2⟩ := at2 s rs c
    exact ⟨vs, h1, h2.len⟩
  · obtain ⟨rfl, vs, h1, h2⟩ := y
    obtain ⟨vs', g1, g2⟩ := at2 s rs c
    rw [h1] at g1
    cases g1
    obtain ⟨v, e1, e2⟩ := g2.get hk
    rw [h2] at e1
    cases e1
    exact ⟨Sp1.refl, rs, e2⟩
theorem wk_range {lo : Int} {m : Nat} : Wk K R μ n H (rangeD lo m) yes (Itr lo m) := by
  have hl : (rangeD lo m).length = m := by unfold rangeD; rw [List.length_map, List.length_range]
  refine ⟨⟨_, _, by rw [hl]; exact walk_range, fun _ _ _ _ _ _ _ _ => trivial, fun R2 i d μ2 S2 H2 x H3 hR hi s rs _ y => ?_⟩⟩
  obtain ⟨rfl, hx⟩ := y
  refine ⟨Sp1.refl, rs, ?_⟩
  have hi' : i < m := by
    have := (List.getElem?_eq_some_iff.mp hi).1
    omega
  unfold rangeD at hi
  rw [List.getElem?_map, List.getElem?_range hi'] at hi
  cases hi
  rw [hx]
  exact .p (.int _)
end
section
variable {X : Cx} {W : WX} {tg e a b : Expr} {m : EM} {aa : AM} {p pos : Pos}
theorem mi_list (h : PE X e (te X.K X.mg W m)) : MI X W tg e (iL m) := by
  refine ⟨_, pi_list h, fun σ H Rr ⟨R, μ, env, S, r, h⟩ => ⟨R, μ, env, S, r, ?_⟩⟩
  refine pg_mono (pg_bind h) fun μ1 H1 S1 d s1 rs1 q v dr => ?_
  cases dr with
  | loc _ => exact q.elim
  | scr _ => exact q.elim
  | p dp =>
    cases dp with
    | non => exact q.elim
    | bl _ => exact q.elim
    | int _ => exact q.elim
    | str _ => exact q.elim
    | tup _ _ => exact q.elim
    | wk _ _ _ => exact q.elim
    | wkn _ _ => exact q.elim
    | dk0 _ _ => exact q.elim
    | dk1 _ _ _ => exact q.elim
    | dks _ _ _ => exact q.elim
    | ex0 _ _ _ => exact q.elim
    | exn _ _ _ _ _ _ _ => exact q.elim
    | @lst a xs l h1 h2 h3 => exact ⟨a, rfl, ⟨xs, SqL.of h1⟩, pg_ok q rs1 _ (wk_list h1 h2 h3)⟩
theorem mi_tup (h : PE X e (te X.K X.mg W m)) : MI X W tg e (iT m) := by
  refine ⟨_, pi_tup h, fun σ H Rr ⟨R, μ, env, S, r, h⟩ => ⟨R, μ, env, S, r, ?_⟩⟩
  refine pg_mono (pg_bind h) fun μ1 H1 S1 d s1 rs1 q v dr => ?_
  cases dr with
  | loc _ => exact q.elim
  | scr _ => exact q.elim
  | p dp =>
    cases dp with
    | non => exact q.elim
    | bl _ => exact q.elim
    | int _ => exact q.elim
    | str _ => exact q.elim
    | lst _ _ _ => exact q.elim
    | wk _ _ _ => exact q.elim
    | wkn _ _ => exact q.elim
    | dk0 _ _ => exact q.elim
    | dk1 _ _ _ => exact q.elim
    | dks _ _ _ => exact q.elim
    | ex0 _ _ _ => exact q.elim
    | exn _ _ _ _ _ _ _ => exact q.elim
    | @tup a xs l h1 h3 => exact ⟨a, rfl, ⟨xs, h1.sqt⟩, pg_ok q rs1 _ (wk_tup h1.sqt h3)⟩
/-- .. of a cell, while it stays as it is -/
noncomputable def isM : D → Sto → Ot (List D × (Sto → Bool))
  | .loc i, S => match S[i]? with
    | some (.lst xs) => .ok (xs, sameC i xs) S
    | _ => .bad
  | _, _ => .bad
noncomputable def iM (m : EM) : IM := fun env S => (m env S).bind isM
theorem mi_cell (h : PE X e (te X.K X.mg W m)) : MI X W tg e (iM m) := by
  refine ⟨_, pi_list h, fun σ H Rr ⟨R, μ, env, S, r, h⟩ => ⟨R, μ, env, S, r, ?_⟩⟩
  refine pg_mono (pg_bind h) fun μ1 H1 S1 d s1 rs1 q v dr => ?_
  cases dr with
  | scr _ => exact q.elim
  | p _ => exact q.elim
  | @loc i hi =>
    unfold isM at q
    dsimp only at q
    split at q
    · rename_i xs e0
      obtain ⟨vs, h1, h2⟩ := rs1.cell i _ e0
      exact ⟨μ1 i, rfl, ⟨vs, SqL.of h1⟩, pg_ok q rs1 _ (wk_cell hi)⟩
    · exact q.elim
/-- one int among the arguments -/
theorem drs_int1 {K : PySem.W.Frag} {R : Addr → Prop} {H : Hp} {μ : Nat → Addr} {n : Nat} {vs : List V} {j : Int} (h : DRs K R H μ n vs [.p (.int j)]) : vs = [.int j] := by
  cases h with
  | cons h r =>
    cases r
    cases h with
    | p h => cases h; rfl
theorem drs_int2 {K : PySem.W.Frag} {R : Addr → Prop} {H : Hp} {μ : Nat → Addr} {n : Nat} {vs : List V} {i j : Int} (h : DRs K R H μ n vs [.p (.int i), .p (.int j)]) : vs = [.int i, .int j] := by
  cases h with
  | cons h r =>
    have := drs_int1 r
    subst this
    cases h with
    | p h => cases h; rfl
theorem mi_range1 (hm : X.mg "range" = none) (ha : PA X [a] (ta X.K X.mg W aa)) (hg : Gl X "range" := by rfl) (hs : starEach [a] X.env = [(false, eval a X.env)] := by rfl) : MI X W tg (.Call (.Name "range" p) [a] [] pos) (iR1 aa) := by
  refine ⟨_, pi_range1 hg hm ha hs, fun σ H Rr ⟨R, μ, env, S, r, h⟩ => ⟨R, μ, env, S, r, ?_⟩⟩
  refine pg_mono (pg_bind h) fun μ1 H1 S1 ds s1 rs1 q vs dr => ?_
  unfold rng1 at q
  split at q
  · rename_i j
    split at q
    · rename_i hj
      exact ⟨j, drs_int1 dr, hj.1, hj.2, pg_ok q rs1 _ wk_range⟩
    · exact q.elim
  · exact q.elim
theorem mi_range2 (hm : X.mg "range" = none) (ha : PA X [a, b] (ta X.K X.mg W aa)) (hg : Gl X "range" := by rfl) (hs : starEach [a, b] X.env = [(false, eval a X.env), (false, eval b X.env)] := by rfl) (hs2 : starEach [b] X.env = [(false, eval b X.env)] := by rfl) :
    MI X W tg (.Call (.Name "range" p) [a, b] [] pos) (iR2 aa) := by
  refine ⟨_, pi_range2 hg hm ha hs hs2, fun σ H Rr ⟨R, μ, env, S, r, h⟩ => ⟨R, μ, env, S, r, ?_⟩⟩
  refine pg_mono (pg_bind h) fun μ1 H1 S1 ds s1 rs1 q vs dr => ?_
  unfold rng2 at q
  split at q
  · rename_i i j
    split at q
    · rename_i hj
      exact ⟨i, j, drs_int2 dr, hj, pg_ok q rs1 _ wk_range⟩
    · exact q.elim
  · exact q.elim
end

/-! ### for -/
def loop (chk : Sto → Bool) (g : GM) (body : SM) : List D → SM
  | [], env, S => if chk S = true then .nx env S else .bad
  | d :: r, env, S => if chk S = true then (match g d env with
    | none => .bad
    | some e1 => match body e1 S with
      | .nx e2 S2 => loop chk g body r e2 S2
      | .ct e2 S2 => loop chk g body r e2 S2
      | .bk e2 S2 => .nx e2 S2
      | o => o) else .bad
theorem loop_chk {K : PySem.W.Frag} {R : Addr → Prop} {mg : Str → Option Value} {W : WX} {μ : Nat → Addr} {H : Hp} {S : Sto} {env : Envr} {D : Ends} {chk : Sto → Bool} {g : GM} {body : SM} {l : List Mi.D} (h : Pz K mg W R μ S H (loop chk g body l env S) D) : chk S = true := by
  cases e : chk S with
  | true => rfl
  | false =>
    cases l with
    | nil => unfold loop at h; rw [e, if_neg Bool.false_ne_true] at h; exact h.elim
    | cons d r => unfold loop at h; rw [e, if_neg Bool.false_ne_true] at h; exact h.elim
def sFor (im : IM) (g : GM) (body : SM) : SM := fun env S => (im env S).then env fun items S1 => loop items.2 g body items.1 env S1
section
variable {X : Cx} {W : WX} {tgt iter : Expr} {body : List Stmt} {im : IM} {g : GM} {mb : SM} {pos : Pos}
theorem ms_for (po : PassesOwn (model X.prog X.w) X.A X.env X.xe) (hc : X.calm = true) (hi : MI X W tgt iter im) (hg : PG X tgt (tg X.K g)) (hb : PSs X body (ts X.K X.mg W mb)) (hs : ∀ x, foldedSetIterable iter X.env x = pure x := by intro _; rfl) :
    PS X (.For tgt iter body [] pos) (ts X.K X.mg W (sFor im g mb)) := by
  obtain ⟨wi, hpi, hti⟩ := hi
  refine (ps_for po hc hpi hg hb hs).w fun D σ H ⟨R, μ, env, S, r, h⟩ => ?_
  refine hti σ H _ ⟨R, μ, env, S, r, pg_mono (pz_then h) fun μ1 H1 S1 itc s1 rs1 q J w => ?_⟩
  obtain ⟨items, chk⟩ := itc
  obtain ⟨G, Y, hw, hG, hY⟩ := w.ex
  dsimp only at hw hG hY q
  refine for_it hw (fun i σ' H' => ∃ μ2 S2 env2, Sp1 μ1 S1.length H1 μ2 S2.length H' ∧ RL X.K R μ2 H' S2 σ' env2 [] [] ∧ Pz X.K X.mg W R μ2 S2 H' (loop chk g mb (items.drop i) env2 S2) D) ⟨μ1, S1, env, Sp1.refl, r.mono s1 rs1, q⟩ (fun i σ' H' _ ⟨μ2, S2, env2, s2, r2, q2⟩ => hG R μ2 S2 H' (fun _ z => .inl z) s2 r2.rs (loop_chk q2)) ?_ ?_
  · rintro i x σ2 H2 H3 hi ⟨μ2, S2, env2, s2, r2, q2⟩ y
    have e0 : items[i]? = some items[i] := by simp [hi]
    have ed : items.drop i = items[i] :: items.drop (i + 1) := by rw [List.drop_eq_getElem_cons hi]
    obtain ⟨s3, rs3, dx⟩ := hY R i _ μ2 S2 H2 x H3 (fun _ z => .inl z) e0 s2 r2.rs (loop_chk q2) y
    have q3 := pz_later s3 q2
    have ck := loop_chk q3
    rw [ed] at q3
    unfold loop at q3
    rw [if_pos ck] at q3
    cases e1 : g items[i] env2 with
    | none => rw [e1] at q3; exact q3.elim
    | some env3 =>
      rw [e1] at q3
      dsimp only at q3
      refine ⟨R, μ2, S2, env2, items[i], env3, ⟨rs3, r2.en.mono s3, .cons dx .nil⟩, e1, fun σ4 r4 => ⟨R, μ2, env3, S2, r4, ?_⟩⟩
      have s23 := s2.trans s3
      cases e2 : mb env3 S2 with
      | bad => rw [e2] at q3; exact q3.elim
      | nx e5 S5 =>
        rw [e2] at q3
        exact fun μ5 H5 σ5 s5 r5 => ⟨μ5, S5, e5, s23.trans s5, r5, pz_later s5 q3⟩
      | ct e5 S5 =>
        rw [e2] at q3
        exact fun μ5 H5 σ5 s5 r5 => ⟨μ5, S5, e5, s23.trans s5, r5, pz_later s5 q3⟩
      | bk e5 S5 =>
        rw [e2] at q3
        exact fun μ5 H5 σ5 s5 r5 => q3 μ5 H5 σ5 s5 r5
      | rt d5 S5 =>
        rw [e2] at q3
        exact q3
      | err e5 v5 S5 =>
        rw [e2] at q3
        exact q3
  · rintro σ2 H2 ⟨μ2, S2, env2, s2, r2, q2⟩
    have ck := loop_chk q2
    rw [List.drop_length] at q2
    unfold loop at q2
    rw [if_pos ck] at q2
    exact pz_nx q2 r2
end
end Mi

/-! Mi5 -/
set_option Elab.async false
set_option linter.all false
set_option maxRecDepth 100000
set_option maxHeartbeats 1000000
set_option autoImplicit false
namespace Mi
open PySem PySem.Spec PyProof.Rows L2

/-! ### list comprehensions -/
def wipeE (env : Envr) : List Nat → Envr
  | [] => env
  | v :: vs => (wipeE env vs).set v none
def compLoop (chk : Sto → Bool) (g : GM) (t : BM) (m : EM) (env : Envr) : List D → List D → Sto → Ot (List D)
  | [], acc, S => if chk S = true then .ok acc S else .bad
  | d :: r, acc, S => if chk S = true then (match g d env with
    | none => .bad
    | some e1 => match t e1 S with
      | .ok c S1 => if c = true then (match m e1 S1 with
        | .ok y S2 => if acc.length < sizeLine then compLoop chk g t m env r (acc ++ [y]) S2 else .bad
        | _ => .bad) else compLoop chk g t m env r acc S1
      | _ => .bad) else .bad
theorem comp_chk {chk : Sto → Bool} {g : GM} {t : BM} {m : EM} {env : Envr} {l acc : List D} {S : Sto} (h : compLoop chk g t m env l acc S ≠ .bad) : chk S = true := by
  cases e : chk S with
  | true => rfl
  | false => exact absurd (by cases l <;> (unfold compLoop; rw [e, if_neg Bool.false_ne_true])) h
def bYes : BM := fun _ S => .ok true S
/-- a list read only from then on | a list that may change -/
def keptAs (mu : Bool) (ds : List D) (S : Sto) : Ot D := if mu = true then .ok (.loc S.length) (S ++ [.lst ds]) else match plains ds with
  | some l => .ok (.p (.list l)) S
  | none => .bad
def eComp (mu : Bool) (im : IM) (own : List Nat) (g : GM) (t : BM) (m : EM) : EM := fun env S => (im env S).bind fun items S1 => (compLoop items.2 g t m (wipeE env own) items.1 [] S1).bind (keptAs mu)
/-- within a comprehension nothing is raised -/
abbrev W0 : WX := fun _ _ _ _ => False
section
variable {K : PySem.W.Frag} {R R' : Addr → Prop} {mg : Str → Option Value} {W : WX} {μ μ' : Nat → Addr} {H H' : Hp} {S S' : Sto} {σ : L2.St} {env : Envr} {n n' : Nat}
theorem DR.re (l : Le H (Av R μ n) H' (Av R' μ' n')) (hs : ∀ i, i < n → μ' i = μ i) (hn : n ≤ n') {v : V} {d : D} (h : DR K R H μ n v d) : DR K R' H' μ' n' v d := by
  cases h with
  | p h => exact .p (h.mono l)
  | @loc i h => rw [← hs i h]; exact .loc (Nat.lt_of_lt_of_le h hn)
  | scr h => exact .scr (l.scr h)
theorem DRs.re (l : Le H (Av R μ n) H' (Av R' μ' n')) (hs : ∀ i, i < n → μ' i = μ i) (hn : n ≤ n') : ∀ {vs : List V} {ds : List D}, DRs K R H μ n vs ds → DRs K R' H' μ' n' vs ds
  | _, _, .nil => .nil
  | _, _, .cons h r => .cons (h.re l hs hn) (DRs.re l hs hn r)
theorem DRo.re (l : Le H (Av R μ n) H' (Av R' μ' n')) (hs : ∀ i, i < n → μ' i = μ i) (hn : n ≤ n') : ∀ {vs : List (Option V)} {ds : Envr}, DRo K R H μ n vs ds → DRo K R' H' μ' n' vs ds
  | _, _, .nil => .nil
  | _, _, .none r => .none (DRo.re l hs hn r)
  | _, _, .some h r => .some (h.re l hs hn) (DRo.re l hs hn r)
theorem CelR.re (l : Le H (Av R μ n) H' (Av R' μ' n')) (hs : ∀ i, i < n → μ' i = μ i) (hn : n ≤ n') {a : Addr} {c : Cell} (hk : ∀ o, H a = Option.some o → H' a = Option.some o) (h : CelR K R H μ n a c) : CelR K R' H' μ' n' a c := by
  cases c with
  | lst xs => obtain ⟨vs, h1, h2⟩ := h; exact ⟨vs, hk _ h1, h2.re l hs hn⟩
  | dk xs => obtain ⟨vs, h1, h2, h3⟩ := h; exact ⟨vs, hk _ h1, h2, h3.re l hs hn⟩
  | dt xs => obtain ⟨vs, h1, h2, h3⟩ := h; exact ⟨vs, hk _ h1, h2, h3.re l hs hn⟩
  | ins nm xs => obtain ⟨vs, ⟨C, dx, hC, h1⟩, h2, h3⟩ := h; exact ⟨vs, ⟨C, dx, hC, hk _ h1⟩, h2, h3.re l hs hn⟩
theorem DRo.wipe : ∀ {vs : List Nat}, DRo K R H μ n σ env → DRo K R H μ n (L2.wipe σ vs) (wipeE env vs)
  | [], h => h
  | v :: vs, h => (DRo.wipe (vs := vs) h).unset v
/-- one more address is reserved -/
def more (R : Addr → Prop) (p : Addr) : Addr → Prop := fun a => R a ∨ a = p
theorem le_more {p : Addr} {o : HO} (hp : H p = none) : Le H (Av R μ n) (upd H p o) (Av (more R p) μ n) := by
  refine ⟨fun a u h _ => by rw [upd_ne (ne_of_none h hp)]; exact h, fun a h => ?_, fun a u h => by rw [upd_ne (ne_of_none h hp)]; exact h, fun a o u h => by rw [upd_ne (ne_of_none h hp)]; exact h⟩
  rcases h with h | h | h
  · exact .inl (.inl h)
  · exact .inl (.inr h)
  · exact .inr (by rw [h]; exact hp)
theorem rs_more {p : Addr} {o : HO} (hp : H p = none) (r : RS K R H μ S) : RS K (more R p) (upd H p o) μ S := by
  refine ⟨r.inj, fun i c h => (r.cell i c h).re (le_more hp) (fun _ _ => rfl) (Nat.le_refl _) fun u hu => by rw [upd_ne (ne_of_none hu hp)]; exact hu, r.low, fun a h => ?_⟩
  rcases h with h | h
  · exact ⟨upd_there (r.res a h).1, (r.res a h).2⟩
  · rw [h]
    refine ⟨?_, not_ownO r hp⟩
    rw [upd_same]
    exact fun z => nomatch z
/-- the reserved list changes -/
theorem le_res {p : Addr} {xs ys : List V} (hr : R p) (hp : H p = some (.lst xs)) : Le H (Av R μ n) (upd H p (.lst ys)) (Av R μ n) := by
  refine ⟨fun a u h z => ?_, fun a h => .inl h, fun a u h => ?_, fun a o u h => ?_⟩
  · rw [upd_ne fun e => z (.inr (by rw [e]; exact hr))]; exact h
  · rw [upd_ne fun e => by rw [e, hp] at h; cases h]; exact h
  · rw [upd_ne fun e => by rw [e, hp] at h; cases h]; exact h
theorem rs_res {p : Addr} {xs ys : List V} (hr : R p) (hp : H p = some (.lst xs)) (r : RS K R H μ S) : RS K R (upd H p (.lst ys)) μ S := by
  have no := (r.res p hr).2
  refine ⟨r.inj, fun i c h => (r.cell i c h).re (le_res hr hp) (fun _ _ => rfl) (Nat.le_refl _) fun u hu => ?_, r.low, fun a h => ⟨upd_there (r.res a h).1, (r.res a h).2⟩⟩
  rw [upd_ne fun e => no ⟨i, (List.getElem?_eq_some_iff.mp h).1, e.symm⟩]
  exact hu
theorem sp_res {p : Addr} {o : HO} (hp : H p = none) (s : Sp1 μ n H μ' n' H') : Sp1 μ n H μ' n' (upd H' p o) := by
  refine ⟨s.le, s.same, ⟨fun a u h z => ?_, s.hp.own, fun a u h => ?_, fun a o u h => ?_⟩⟩
  · rw [upd_ne (ne_of_none h hp)]; exact s.hp.keep a u h z
  · rw [upd_ne (ne_of_none h hp)]; exact s.hp.tups a u h
  · rw [upd_ne (ne_of_none h hp)]; exact s.hp.frzs a o u h
theorem le_less {p : Addr} : Le H (Av (more R p) μ n) H (Av R μ n) := ⟨fun _ _ q _ => q, fun a z => .inl (z.elim .inl fun q => .inr (.inl q)), fun _ _ q => q, fun _ _ _ q => q⟩
theorem rs_less {p : Addr} (r : RS K (more R p) H μ S) : RS K R H μ S :=
  ⟨r.inj, fun i c h => (r.cell i c h).re le_less (fun _ _ => rfl) (Nat.le_refl _) fun _ q => q, r.low, fun a h => r.res a (.inl h)⟩
/-- what is made is handed over -/
theorem kept_ok {mu : Bool} {p : Addr} {ws : List V} {acc : List D} {Q : VK} {n1 : Nat} {H1 : Hp} {μ1 : Nat → Addr} {S1 : Sto} (hn1 : n1 = S1.length) (h1 : H1 p = none) (hr : ¬ R p) (s : Sp1 μ1 n1 H1 μ S.length H) (rs : RS K (more R p) H μ S) (hp : H p = some (.lst ws)) (dr : DRs K (more R p) H μ S.length ws acc)
    (q : Po K mg W R μ1 S1 H1 σ env (keptAs mu acc S) Q) : Q (.ref p) H := by
  subst hn1
  have no : ¬ Own μ S.length p := (rs.res p (.inr rfl)).2
  unfold keptAs at q
  cases mu with
  | false =>
    rw [if_neg Bool.false_ne_true] at q
    cases e : plains acc with
    | none => rw [e] at q; exact q.elim
    | some l =>
      rw [e] at q
      refine q μ H s (rs_less rs) _ (.p (.lst hp (fun z => z.elim no hr) ((plains_pd dr e).mono le_less)))
  | true =>
    rw [if_pos rfl] at q
    have hl : (S ++ [Cell.lst acc]).length = S.length + 1 := by simp
    have lt1 : ∀ j, j < S.length → ext μ S.length p j = μ j := fun j hj => ext_lt hj
    have at1 : ext μ S.length p S.length = p := ext_at
    have own1 : ∀ a, Own (ext μ S.length p) (S.length + 1) a → Own μ S.length a ∨ a = p := fun a ⟨j, hj, e⟩ => by
      by_cases hjn : j = S.length
      · exact .inr (by rw [e, hjn, at1])
      · exact .inl ⟨j, by omega, by rw [e, lt1 j (by omega)]⟩
    have l2 : Le H (Av (more R p) μ S.length) H (Av R (ext μ S.length p) (S.length + 1)) := ⟨fun _ _ q _ => q, fun a z => .inl (z.elim (fun q => (own1 a q).elim .inl fun e => .inr (.inr e)) fun q => .inr (.inl q)), fun _ _ q => q, fun _ _ _ q => q⟩
    have s2 : Sp1 μ1 S1.length H1 (ext μ S.length p) (S.length + 1) H :=
      ⟨Nat.le_succ_of_le s.le, fun j hj => (lt1 j (Nat.lt_of_lt_of_le hj s.le)).trans (s.same j hj), ⟨s.hp.keep, fun a z => (own1 a z).elim (s.hp.own a) fun e => .inr (by rw [e]; exact h1), s.hp.tups, s.hp.frzs⟩⟩
    have ne1 : ∀ j, j < S.length → μ j ≠ p := fun j hj e => no ⟨j, hj, e.symm⟩
    have r2 : RS K R H (ext μ S.length p) (S ++ [Cell.lst acc]) := by
      refine ⟨fun j k hj hk e => ?_, fun j c hc => ?_, fun j c hc => ?_, fun a ha => ⟨(rs.res a (.inl ha)).1, fun z => ?_⟩⟩
      · rw [hl] at hj hk
        by_cases ej : j = S.length
        · by_cases ek : k = S.length
          · rw [ej, ek]
          · rw [ej, at1, lt1 k (by omega)] at e
            exact absurd e.symm (ne1 k (by omega))
        · by_cases ek : k = S.length
          · rw [ek, at1, lt1 j (by omega)] at e
            exact absurd e (ne1 j (by omega))
          · rw [lt1 j (by omega), lt1 k (by omega)] at e
            exact rs.inj j k (by omega) (by omega) e
      · rw [hl]
        by_cases hj : j < S.length
        · rw [List.getElem?_append_left hj] at hc
          rw [lt1 j hj]
          exact (rs.cell j c hc).re l2 lt1 (Nat.le_succ _) fun _ q => q
        · have hjl := (List.getElem?_eq_some_iff.mp hc).1
          rw [hl] at hjl
          have ej : j = S.length := by omega
          subst ej
          rw [List.getElem?_append_right (Nat.le_refl _), Nat.sub_self] at hc
          cases hc
          rw [at1]
          exact ⟨ws, hp, dr.re l2 lt1 (Nat.le_succ _)⟩
      · by_cases hj : j < S.length
        · rw [List.getElem?_append_left hj] at hc
          exact rs.low j c hc
        · have hjl := (List.getElem?_eq_some_iff.mp hc).1
          rw [hl] at hjl
          have ej : j = S.length := by omega
          subst ej
          rw [List.getElem?_append_right (Nat.le_refl _), Nat.sub_self] at hc
          cases hc
          exact dr.lowb
      · rw [hl] at z
        rcases own1 a z with z | z
        · exact (rs.res a (.inl ha)).2 z
        · rw [z] at ha; exact hr ha
    have d2 : DR K R H (ext μ S.length p) (S ++ [Cell.lst acc]).length (.ref (ext μ S.length p S.length)) (.loc S.length) := .loc (by rw [hl]; exact Nat.lt_succ_self _)
    rw [at1] at d2
    exact q (ext μ S.length p) H (by rw [hl]; exact s2) r2 _ d2
end
section
variable {X : Cx} {W : WX} {tgt iter elt : Expr} {ifs : List Expr} {scope : Scope} {own : List (Str × Nat)} {im : IM} {g : GM} {hg' : TG} {t : BM} {m : EM} {pos : Pos}
/-- a target of a comprehension: it stores into own slots alone -/
structure GC (K : PySem.W.Frag) (g : GM) (tgv : TG) (vs : List Nat) : Prop where
  run : ∀ (R : Addr → Prop) (μ : Nat → Addr) (S : Sto) (H : Hp) (σ : L2.St) (env env' : Envr) (x : V) (d : D) (Q : L2.St → Hp → Prop), RS K R H μ S → DRo K R H μ S.length (wipe σ vs) env → DR K R H μ S.length x d → g d env = some env' →
    (∀ σ2, wipe σ2 vs = wipe σ vs → DRo K R H μ S.length σ2 env' → Q σ2 H) → tgv x (wipe σ vs) H Q
theorem wipe_set {σ : L2.St} {i : Nat} {x : Option V} : (σ.set i x).set i none = σ.set i none := List.set_set ..
theorem gc_name {K : PySem.W.Frag} {i : Nat} : GC K (gN i) (gName i) [i] := by
  refine ⟨fun R μ S H σ env env' x d Q rs en dr e q => ?_⟩
  cases e
  exact q _ (by show ((σ.set i none).set i (some x)).set i none = σ.set i none; rw [List.set_set, List.set_set]) (en.set dr i)
/-- the tests: none, one -/
def tsc (K : PySem.W.Frag) (mg : Str → Option Value) (t : BM) (u : TT) : Prop := ∀ σ H Q, tt K mg W0 t σ H Q → u σ H Q
theorem tsc_none {K : PySem.W.Frag} {mg : Str → Option Value} : tsc K mg bYes tYes := fun σ H Q ⟨R, μ, env, S, r, h⟩ => pg_ok h r.rs
theorem tsc_one {K : PySem.W.Frag} {mg : Str → Option Value} {t : BM} : tsc K mg t (tt K mg W0 t) := fun _ _ _ h => h
theorem lc_core {wi : TI} {u : TT} {mu : Bool} {σ : L2.St} {H : Hp} {Q : VK} {vs : List Nat} (hti : ti X.K X.mg W im wi) (hgc : GC X.K g hg' vs) (hu : tsc X.K X.mg t u) (h : te X.K X.mg W (eComp mu im vs g t m) σ H Q) :
    tLc wi hg' u (te X.K X.mg W0 m) vs σ H Q := by
  obtain ⟨R, μ, env, S, r, h⟩ := h
  refine hti σ H _ ⟨R, μ, env, S, r, pg_mono (pg_bind h) fun μ1 H1 S1 itc s1 rs1 q J w => ?_⟩
  intro D hD
  obtain ⟨items, chk⟩ := itc
  obtain ⟨G, Y, hw, hG, hY⟩ := w.ex
  dsimp only at hw hG hY q
  have nR : ¬ R D := fun z => (rs1.res D z).1 hD
  have en1 := r.en.mono s1
  obtain ⟨fo, hfo⟩ : ∃ fo, fo = compLoop chk g t m (wipeE env vs) items [] S1 := ⟨_, rfl⟩
  rw [← hfo] at q
  have nb : fo ≠ .bad := fun z => by rw [z] at q; exact q.elim
  refine lc_it hw (fun i H' => ∃ μ2 S2 acc ws, Sp1 μ1 S1.length H1 μ2 S2.length H' ∧ RS X.K (more R D) H' μ2 S2 ∧ DRo X.K (more R D) H' μ2 S2.length σ env ∧ H' D = some (.lst ws) ∧ DRs X.K (more R D) H' μ2 S2.length ws acc ∧
    compLoop chk g t m (wipeE env vs) (items.drop i) acc S2 = fo) ?_ ?_ ?_ ?_
  · exact ⟨μ1, S1, [], [], sp_new hD, rs_more hD rs1, en1.re (le_more hD) (fun _ _ => rfl) (Nat.le_refl _), upd_same, .nil, hfo.symm⟩
  · exact fun i H' _ ⟨μ2, S2, acc, ws, s2, rs2, _, _, _, e2⟩ => hG (more R D) μ2 S2 H' (fun a z => z.elim .inl fun e => .inr (by rw [e]; exact hD)) s2 rs2 (comp_chk (by rw [e2]; exact nb))
  · rintro i x H2 H3 hi ⟨μ2, S2, acc, ws, s2, rs2, en2, hp2, dr2, e2⟩ y
    have e0 : items[i]? = some items[i] := by simp [hi]
    have ed : items.drop i = items[i] :: items.drop (i + 1) := by rw [List.drop_eq_getElem_cons hi]
    have ck := comp_chk (chk := chk) (by rw [e2]; exact nb)
    obtain ⟨s3, rs3, dx⟩ := hY (more R D) i _ μ2 S2 H2 x H3 (fun a z => z.elim .inl fun e => .inr (by rw [e]; exact hD)) e0 s2 rs2 ck y
    have hp3 : H3 D = some (.lst ws) := s3.hp.keep D _ hp2 (rs2.res D (.inr rfl)).2
    have en3 := en2.mono s3
    have dr3 := dr2.mono s3
    have s13 := s2.trans s3
    rw [ed] at e2
    have q2 : Po X.K X.mg W R μ1 S1 H1 σ env ((compLoop chk g t m (wipeE env vs) (items[i] :: items.drop (i + 1)) acc S2).bind (keptAs mu)) Q := by rw [e2]; exact q
    unfold compLoop at q2 e2
    rw [if_pos ck] at q2 e2
    cases e4 : g items[i] (wipeE env vs) with
    | none => rw [e4] at q2; exact q2.elim
    | some env4 =>
      rw [e4] at q2 e2
      dsimp only at q2 e2
      refine hgc.run (more R D) μ2 S2 H3 σ (wipeE env vs) env4 x items[i] _ rs3 (DRo.wipe en3) dx e4 fun σ4 hw4 en4 => ⟨hw4, hu _ _ _ ⟨more R D, μ2, env4, S2, ⟨rs3, en4, .nil⟩, ?_⟩⟩
      cases e5 : t env4 S2 with
      | bad => rw [e5] at q2; exact q2.elim
      | err _ _ => rw [e5] at q2; exact q2.elim
      | ok c S5 =>
        rw [e5] at q2 e2
        dsimp only at q2 e2
        intro μ5 H5 s5 rs5
        have hp5 : H5 D = some (.lst ws) := s5.hp.keep D _ hp3 (rs3.res D (.inr rfl)).2
        cases c with
        | false =>
          rw [if_neg Bool.false_ne_true] at q2 e2
          refine iteF ⟨μ5, S5, acc, ws, s13.trans s5, rs5, en3.mono s5, hp5, dr3.mono s5, e2⟩
        | true =>
          rw [if_pos rfl] at q2 e2
          refine iteT ⟨more R D, μ5, env4, S5, ⟨rs5, en4.mono s5, .nil⟩, ?_⟩
          cases e6 : m env4 S5 with
          | bad => rw [e6] at q2; exact q2.elim
          | err _ _ => rw [e6] at q2; exact q2.elim
          | ok y6 S6 =>
            rw [e6] at q2 e2
            dsimp only at q2 e2
            intro μ6 H6 s6 rs6 v6 dr6
            have hp6 : H6 D = some (.lst ws) := s6.hp.keep D _ hp5 (rs5.res D (.inr rfl)).2
            by_cases hz : acc.length < sizeLine
            · rw [if_pos hz] at e2
              have dr6' := ((dr3.mono s5).mono s6).append (.cons dr6 .nil)
              have l6 := le_res (μ := μ6) (n := S6.length) (ys := ws ++ [v6]) (R := more R D) (.inr rfl) hp6
              refine ⟨ws, hp6, by rw [(dr3.mono s5).len]; exact hz, μ6, S6, acc ++ [y6], ws ++ [v6], sp_res hD ((s13.trans s5).trans s6), rs_res (.inr rfl) hp6 rs6, ((en3.mono s5).mono s6).re l6 (fun _ _ => rfl) (Nat.le_refl _), upd_same, dr6'.re l6 (fun _ _ => rfl) (Nat.le_refl _), e2⟩
            · rw [if_neg hz] at q2
              exact q2.elim
  · rintro H2 ⟨μ2, S2, acc, ws, s2, rs2, en2, hp2, dr2, e2⟩
    have ck := comp_chk (chk := chk) (by rw [e2]; exact nb)
    rw [List.drop_length] at e2
    unfold compLoop at e2
    rw [if_pos ck] at e2
    rw [← e2] at q
    have q3 : Po X.K X.mg W R μ1 S1 H1 σ env (keptAs mu acc S2) Q := q
    exact kept_ok rfl hD nR s2 rs2 hp2 dr2 q3
/-- [e for x in it if t] -/
theorem me_comp {mu : Bool} {u : TT} (hc : X.calm = true) (hN : X.N.Nodup) (hi : MI X W tgt iter im) (ok : BlkOk X.N X.env.scope scope own) (hgc : GC X.K g hg' (own.map (·.2))) (hu : tsc X.K X.mg t u)
    (hg : ∀ (s : Shared) (H : Hp) (C : Addr) (cl : List (Str × Addr)) (fp : List Addr), PG (X.blk s H scope (compEnvC scope cl C X.env) fp) tgt hg') (ht : ∀ (s : Shared) (H : Hp) (C : Addr) (cl : List (Str × Addr)) (fp : List Addr), PTs (X.blk s H scope (compEnvC scope cl C X.env) fp) ifs u)
    (he : ∀ (s : Shared) (H : Hp) (C : Addr) (cl : List (Str × Addr)) (fp : List Addr), PE (X.blk s H scope (compEnvC scope cl C X.env) fp) elt (te X.K X.mg W0 m)) (hs : ∀ x, foldedSetIterable iter X.env x = pure x := by intro _; rfl) :
    PE X (.ListComp elt [⟨tgt, iter, ifs, 0⟩] scope pos) (te X.K X.mg W (eComp mu im (own.map (·.2)) g t m)) := by
  obtain ⟨wi, hpi, hti⟩ := hi
  exact (pe_lc hc hN hpi ok hg ht he hs).w fun σ H Q h => lc_core hti hgc hu h
/-- y = [e for x in it if t] -/
theorem ms_setComp {mu : Bool} {u : TT} {i : Nat} {y : Str} {py spos : Pos} (hc : X.calm = true) (hN : X.N.Nodup) (hy : X.N[i]? = some y) (hyl : X.env.scope.names.lookup y = some .local)
    (hsw : swapsWith (.ListComp elt [⟨tgt, iter, ifs, 0⟩] scope pos) (some (.Name y py)) spos.line X.env = pure true) (hi : MI X W tgt iter im) (ok : BlkOk X.N X.env.scope scope own) (hgc : GC X.K g hg' (own.map (·.2))) (hu : tsc X.K X.mg t u)
    (hg : ∀ (s : Shared) (H : Hp) (C : Addr) (cl : List (Str × Addr)) (fp : List Addr), PG (X.blk s H scope (compEnvC scope cl C X.env) fp) tgt hg') (ht : ∀ (s : Shared) (H : Hp) (C : Addr) (cl : List (Str × Addr)) (fp : List Addr), PTs (X.blk s H scope (compEnvC scope cl C X.env) fp) ifs u)
    (he : ∀ (s : Shared) (H : Hp) (C : Addr) (cl : List (Str × Addr)) (fp : List Addr), PE (X.blk s H scope (compEnvC scope cl C X.env) fp) elt (te X.K X.mg W0 m)) (hs : ∀ x, foldedSetIterable iter X.env x = pure x := by intro _; rfl) :
    PS X (.Assign [.Name y py] (.ListComp elt [⟨tgt, iter, ifs, 0⟩] scope pos) spos) (ts X.K X.mg W (sAsg (eComp mu im (own.map (·.2)) g t m) (gN i))) := by
  obtain ⟨wi, hpi, hti⟩ := hi
  refine (ps_setLc hc hN hy hyl hsw hpi ok hg ht he hs).w fun D σ H ⟨R, μ, env, S, r, h⟩ => ?_
  refine lc_core (mu := mu) (Q := fun v H1 => D.nx (σ.set i (some v)) H1) hti hgc hu ⟨R, μ, env, S, r, ?_⟩
  exact pg_mono (pz_then h) fun μ1 H1 S1 d s1 rs1 p v dr => pz_nx p ⟨rs1, (r.en.mono s1).set dr i, .nil⟩
end
end Mi

/-! Mi6 -/
set_option Elab.async false
set_option linter.all false
set_option maxRecDepth 100000
set_option maxHeartbeats 1000000
set_option autoImplicit false
namespace Mi
open PySem PySem.Spec PyProof.Rows L2

section
variable {K : PySem.W.Frag} {R : Addr → Prop} {mg : Str → Option Value} {W : WX} {μ μ' : Nat → Addr} {H H' : Hp} {S S' : Sto} {σ : L2.St} {env : Envr} {n : Nat} {v : V} {vs : List V} {ds : List D} {Q : VK}
/-! ### what a value is -/
theorem dr_int {i : Int} (h : DR K R H μ n v (.p (.int i))) : v = .int i := by
  cases h with
  | p h => cases h; rfl
theorem dr_bl {b : Bool} (h : DR K R H μ n v (.p (.bool b))) : v = .bl b := by
  cases h with
  | p h => cases h; rfl
theorem dr_non (h : DR K R H μ n v (.p .none)) : v = .non := by
  cases h with
  | p h => cases h; rfl
theorem dr_str {x : Str} (h : DR K R H μ n v (.p (.str x))) : v = .str x := by
  cases h with
  | p h => cases h; rfl
theorem dr_lst {l : List PyData} (h : DR K R H μ n v (.p (.list l))) : ∃ a xs, v = .ref a ∧ H a = some (.lst xs) ∧ ¬ Av R μ n a ∧ PdAll K H (Av R μ n) xs l := by
  cases h with
  | p h =>
    cases h with
    | lst h1 h2 h3 => exact ⟨_, _, rfl, h1, h2, h3⟩
theorem dr_tup {l : List PyData} (h : DR K R H μ n v (.p (.tuple l))) : ∃ a xs, v = .ref a ∧ SqT K H a xs ∧ PdAll K H (Av R μ n) xs l := by
  cases h with
  | p h =>
    cases h with
    | tup h1 h3 => exact ⟨_, _, rfl, h1.sqt, h3⟩
theorem dr_tupE {l : List PyData} (h : DR K R H μ n v (.p (.tuple l))) : ∃ a xs, v = .ref a ∧ St H a xs ∧ PdAll K H (Av R μ n) xs l := by
  cases h with
  | p h => cases h with
    | tup h1 h3 => exact ⟨_, _, rfl, h1, h3⟩
theorem dr_loc {i : Nat} (h : DR K R H μ n v (.loc i)) : v = .ref (μ i) ∧ i < n := by
  cases h with
  | loc h => exact ⟨rfl, h⟩
theorem dr_scr {ns : List Int} (h : DR K R H μ n v (.scr ns)) : ∃ a, v = .ref a ∧ ScR K H a ns := by
  cases h with
  | scr h => exact ⟨_, rfl, h⟩
theorem drs_nil (h : DRs K R H μ n vs []) : vs = [] := by cases h; rfl
theorem drs_cons {d : D} (h : DRs K R H μ n vs (d :: ds)) : ∃ v ws, vs = v :: ws ∧ DR K R H μ n v d ∧ DRs K R H μ n ws ds := by
  cases h with
  | cons a b => exact ⟨_, _, rfl, a, b⟩
theorem pda_append {O : Addr → Prop} : ∀ {vs ws : List V} {ds es : List PyData}, PdAll K H O vs ds → PdAll K H O ws es → PdAll K H O (vs ++ ws) (ds ++ es)
  | _, _, _, _, .nil, s => s
  | _, _, _, _, .cons h r, s => .cons h (pda_append r s)
theorem pda_take {O : Addr → Prop} : ∀ (k : Nat) {vs : List V} {ds : List PyData}, PdAll K H O vs ds → PdAll K H O (vs.take k) (ds.take k)
  | 0, _, _, _ => .nil
  | _ + 1, _, _, .nil => .nil
  | k + 1, _, _, .cons h r => .cons h (pda_take k r)
theorem pda_drop {O : Addr → Prop} : ∀ (k : Nat) {vs : List V} {ds : List PyData}, PdAll K H O vs ds → PdAll K H O (vs.drop k) (ds.drop k)
  | 0, _, _, h => h
  | _ + 1, _, _, .nil => .nil
  | k + 1, _, _, .cons h r => pda_drop k r
theorem pda_ints {O : Addr → Prop} : ∀ {ns : List Int}, PdAll K H O (ns.map V.int) (ns.map PyData.int)
  | [] => .nil
  | n :: ns => .cons (.int n) pda_ints
theorem pda_nil {O : Addr → Prop} {xs : List V} (h : PdAll K H O xs []) : xs = [] := by cases h; rfl
/-- a new list, a new tuple of plain items -/
theorem new_lst {xs : List V} {l : List PyData} {p : Addr} (h : Po K mg W R μ S H σ env (.ok (.p (.list l)) S) Q) (r : RS K R H μ S) (hx : PdAll K H (Av R μ S.length) xs l) (hp : H p = none) : Q (.ref p) (upd H p (.lst xs)) := by
  have s2 : Sp1 μ S.length H μ S.length (upd H p (.lst xs)) := sp_new hp
  exact h μ _ s2 (rs_new hp r) _ (.p (.lst upd_same (not_own r hp) (hx.mono (av_le s2.hp))))
theorem new_tup {xs : List V} {l : List PyData} {p : Addr} {o : Obj} (h : Po K mg W R μ S H σ env (.ok (.p (.tuple l)) S) Q) (r : RS K R H μ S) (hx : PdAll K H (Av R μ S.length) xs l) (hp : H p = none) (hd : o.dict = none) : Q (.ref p) (upd H p (.frz o (.tup xs))) := by
  have s2 : Sp1 μ S.length H μ S.length (upd H p (.frz o (.tup xs))) := sp_new hp
  exact h μ _ s2 (rs_new hp r) _ (.p (.tup ⟨o, upd_same, hd⟩ (hx.mono (av_le s2.hp))))
end

/-! ### + - * // % -/
def zOk (n : Nat) : Bool := decide (n ≤ sizeLine)
def addD : D → D → Sto → Ot D
  | .p (.int i), .p (.int j), S => .ok (.p (.int (i + j))) S
  | .p (.str a), .p (.str b), S => if a.length + b.length ≤ sizeLine then .ok (.p (.str (a ++ b))) S else .bad
  | .p (.list a), .p (.list b), S => if a.length + b.length ≤ sizeLine then .ok (.p (.list (a ++ b))) S else .bad
  | .p (.tuple a), .p (.tuple b), S => if a ≠ [] ∧ b ≠ [] ∧ a.length + b.length ≤ sizeLine then .ok (.p (.tuple (a ++ b))) S else if a = [] then .ok (.p (.tuple b)) S else if b = [] ∧ a.length ≤ sizeLine then .ok (.p (.tuple a)) S else .bad
  | _, _, _ => .bad
def rAddStr : R2 := fun x y H Q => ∃ a b : Str, x = .str a ∧ y = .str b ∧ a.length + b.length ≤ sizeLine ∧ Q (.str (a ++ b)) H
def rCat0 (K : PySem.W.Frag) : R2 := fun x y H Q => ∃ a b ys, x = .ref a ∧ y = .ref b ∧ SqT K H a [] ∧ SqT K H b ys ∧ Q (.ref b) H
def rCat1 (K : PySem.W.Frag) : R2 := fun x y H Q => ∃ a b xs, x = .ref a ∧ y = .ref b ∧ SqT K H a xs ∧ xs ≠ [] ∧ SqT K H b [] ∧ xs.length ≤ sizeLine ∧ Q (.ref a) H
theorem op_cat0 {X : Cx} : OpR X (binaryOp .Add) (rCat0 X.K) := by
  intro pins s σ H x y v u Q I rx ry h
  obtain ⟨a, b, ys, rfl, rfl, ha, hb, q⟩ := h
  cases rx
  cases ry
  obtain ⟨its, r1, p1, _⟩ := I.tuple ha
  obtain ⟨its2, r2, p2, _⟩ := I.tuple hb
  obtain rfl : its = [] := by cases r1; rfl
  exact cat_tup0 p1 p2 ⟨.ref b, H, I, rfl, q⟩
theorem op_cat1 {X : Cx} : OpR X (binaryOp .Add) (rCat1 X.K) := by
  intro pins s σ H x y v u Q I rx ry h
  obtain ⟨a, b, xs, rfl, rfl, ha, hx, hb, hz, q⟩ := h
  cases rx
  cases ry
  obtain ⟨its, r1, p1, _⟩ := I.tuple ha
  obtain ⟨its2, r2, p2, _⟩ := I.tuple hb
  obtain rfl : its2 = [] := by cases r2; rfl
  exact HT.cat_tup p1 p2 (fun z => hx (r1.nil_iff.mp z)) (fun _ => ⟨.ref a, H, I, rfl, q⟩) (fun z => absurd rfl z) (by rw [← r1.length]; exact hz)
def rAddD (K : PySem.W.Frag) : R2 := fun x y H Q => rI0 (fun i j => .int (i + j)) x y H Q ∨ rAddStr x y H Q ∨ rCat x y H Q ∨ rCatF K x y H Q ∨ rCat0 K x y H Q ∨ rCat1 K x y H Q
theorem op_addStr' {X : Cx} : OpR X (binaryOp .Add) rAddStr := op_add_str
theorem op_addD {X : Cx} : OpR X (binaryOp .Add) (rAddD X.K) := by
  intro pins s σ H x y v u Q I rx ry h
  rcases h with h | h | h | h | h | h
  · exact op_add pins s σ H x y v u Q I rx ry h
  · exact op_addStr' pins s σ H x y v u Q I rx ry h
  · exact op_cat pins s σ H x y v u Q I rx ry h
  · exact op_catF pins s σ H x y v u Q I rx ry h
  · exact op_cat0 pins s σ H x y v u Q I rx ry h
  · exact op_cat1 pins s σ H x y v u Q I rx ry h
theorem addD_ok {K : PySem.W.Frag} {mg : Str → Option Value} {W : WX} : Op2 K mg W addD (rAddD K) := by
  intro R μ H S σ env x y dx dy Q r h
  obtain ⟨y', ws, e1, hy, r1⟩ := drs_cons r.tm
  cases e1
  obtain ⟨x', ws', e2, hx, r2⟩ := drs_cons r1
  cases e2
  unfold addD at h
  split at h
  · rw [dr_int hx, dr_int hy]
    exact .inl ⟨_, _, rfl, rfl, po_ok h r.rs (.p (.int _))⟩
  · split at h
    · rename_i hz
      rw [dr_str hx, dr_str hy]
      exact .inr (.inl ⟨_, _, rfl, rfl, hz, po_ok h r.rs (.p (.str _))⟩)
    · exact h.elim
  · split at h
    · rename_i hz
      obtain ⟨a, xs, rfl, h1, h2, h3⟩ := dr_lst hx
      obtain ⟨b, ys, rfl, g1, g2, g3⟩ := dr_lst hy
      exact .inr (.inr (.inl ⟨a, b, xs, ys, rfl, rfl, h1, g1, by rw [h3.len, g3.len]; exact hz, fun p hp => new_lst h r.rs (pda_append h3 g3) hp⟩))
    · exact h.elim
  · split at h
    · rename_i hz
      obtain ⟨a, xs, rfl, h1, h3⟩ := dr_tupE hx
      obtain ⟨b, ys, rfl, g1, g3⟩ := dr_tupE hy
      have ne : ∀ {us : List V} {ms : List PyData}, PdAll K H (Av R μ S.length) us ms → ms ≠ [] → us ≠ [] := fun q z e => by
        subst e
        cases q
        exact z rfl
      exact .inr (.inr (.inr (.inl ⟨a, b, xs, ys, rfl, rfl, h1.sqt, g1.sqt, ne h3 hz.1, ne g3 hz.2.1, by rw [h3.len, g3.len]; exact hz.2.2, fun p o hp hd => new_tup h r.rs (pda_append h3 g3) hp hd⟩)))
    · split at h
      · rename_i ha
        subst ha
        obtain ⟨a, xs, rfl, h1, h3⟩ := dr_tupE hx
        obtain ⟨b, ys, rfl, g1, g3⟩ := dr_tupE hy
        obtain rfl := pda_nil h3
        exact .inr (.inr (.inr (.inr (.inl ⟨a, b, ys, rfl, rfl, h1.sqt, g1.sqt, po_ok h r.rs (.p (.tup g1 g3))⟩))))
      · split at h
        · rename_i hz ha hb
          obtain ⟨hb, hl⟩ := hb
          subst hb
          obtain ⟨a, xs, rfl, h1, h3⟩ := dr_tupE hx
          obtain ⟨b, ys, rfl, g1, g3⟩ := dr_tupE hy
          obtain rfl := pda_nil g3
          exact .inr (.inr (.inr (.inr (.inr ⟨a, b, xs, rfl, rfl, h1.sqt, fun e => by subst e; cases h3; exact ha rfl, g1.sqt, by rw [h3.len]; exact hl, po_ok h r.rs (.p (.tup h1 h3))⟩))))
        · exact h.elim
  · exact h.elim
/-- two ints -/
def int2 (ok : Int → Int → Bool) (g : Int → Int → Int) : D → D → Sto → Ot D
  | .p (.int i), .p (.int j), S => if ok i j = true then .ok (.p (.int (g i j))) S else .bad
  | _, _, _ => .bad
theorem int2_ok {K : PySem.W.Frag} {mg : Str → Option Value} {W : WX} {C : Int → Int → Prop} {ok : Int → Int → Bool} {g : Int → Int → Int} (hc : ∀ i j, ok i j = true → C i j) : Op2 K mg W (int2 ok g) (rI C fun i j => .int (g i j)) := by
  intro R μ H S σ env x y dx dy Q r h
  obtain ⟨y', ws, e1, hy, r1⟩ := drs_cons r.tm
  cases e1
  obtain ⟨x', ws', e2, hx, r2⟩ := drs_cons r1
  cases e2
  unfold int2 at h
  split at h
  · split at h
    · rename_i hz
      rw [dr_int hx, dr_int hy]
      exact ⟨_, _, rfl, rfl, hc _ _ hz, po_ok h r.rs (.p (.int _))⟩
    · exact h.elim
  · exact h.elim
def subD := int2 (fun _ _ => true) fun i j => i - j
def mulOk (i j : Int) : Bool := decide (-(2 ^ 64) < i ∧ i < 2 ^ 64) || decide (-(2 ^ 64) < j ∧ j < 2 ^ 64)
def mulD := int2 mulOk fun i j => i * j
def modD := int2 (fun _ j => decide (0 < j)) fun i j => i % j
def divD := int2 (fun _ j => decide (0 < j ∧ j < 1073741824)) fun i j => i / j
def powD := int2 (fun i j => decide (0 ≤ j ∧ j ≤ 1000000 ∧ i.natAbs < 2 ^ 64)) fun i j => i ^ j.toNat
theorem op_subD {X : Cx} : OpR X (binaryOp .Sub) (rI (fun _ _ => True) fun i j => .int (i - j)) := opI fun _ _ _ _ _ _ _ _ q => sub_int q
theorem subD_ok {K : PySem.W.Frag} {mg : Str → Option Value} {W : WX} : Op2 K mg W subD (rI (fun _ _ => True) fun i j => .int (i - j)) := int2_ok fun _ _ _ => trivial
theorem mulD_ok {K : PySem.W.Frag} {mg : Str → Option Value} {W : WX} : Op2 K mg W mulD (rI CMul fun i j => .int (i * j)) := int2_ok fun i j h => by
  unfold mulOk at h
  rcases Bool.or_eq_true_iff.mp h with h | h
  · exact .inl (of_decide_eq_true h)
  · exact .inr (of_decide_eq_true h)
theorem modD_ok {K : PySem.W.Frag} {mg : Str → Option Value} {W : WX} : Op2 K mg W modD (rI (fun _ j => 0 < j) fun i j => .int (i % j)) := int2_ok fun i j h => of_decide_eq_true h
theorem divD_ok {K : PySem.W.Frag} {mg : Str → Option Value} {W : WX} : Op2 K mg W divD (rI CDiv fun i j => .int (i / j)) := int2_ok fun i j h => of_decide_eq_true (p := 0 < j ∧ j < 1073741824) h
theorem powD_ok {K : PySem.W.Frag} {mg : Str → Option Value} {W : WX} : Op2 K mg W powD (rI CPow fun i j => .int (i ^ j.toNat)) := int2_ok fun i j h => of_decide_eq_true (p := 0 ≤ j ∧ j ≤ 1000000 ∧ i.natAbs < 2 ^ 64) h
section
variable {X : Cx} {W : WX} {a b c e : Expr} {ma mb mc : EM} {pos : Pos}
theorem me_add (ha : PE X a (te X.K X.mg W ma)) (hb : PE X b (te X.K X.mg W mb)) : PE X (.BinOp a .Add b pos) (te X.K X.mg W (eOp addD ma mb)) := me_op op_addD addD_ok ha hb
theorem me_sub (ha : PE X a (te X.K X.mg W ma)) (hb : PE X b (te X.K X.mg W mb)) : PE X (.BinOp a .Sub b pos) (te X.K X.mg W (eOp subD ma mb)) := me_op op_subD subD_ok ha hb
theorem me_mulI (ha : PE X a (te X.K X.mg W ma)) (hb : PE X b (te X.K X.mg W mb)) : PE X (.BinOp a .Mult b pos) (te X.K X.mg W (eOp mulD ma mb)) := me_op op_mul mulD_ok ha hb
theorem me_mod (ha : PE X a (te X.K X.mg W ma)) (hb : PE X b (te X.K X.mg W mb)) : PE X (.BinOp a .Mod b pos) (te X.K X.mg W (eOp modD ma mb)) := me_op op_mod modD_ok ha hb
theorem me_div (ha : PE X a (te X.K X.mg W ma)) (hb : PE X b (te X.K X.mg W mb)) : PE X (.BinOp a .FloorDiv b pos) (te X.K X.mg W (eOp divD ma mb)) := me_op op_fdiv divD_ok ha hb
theorem me_pow (ha : PE X a (te X.K X.mg W ma)) (hb : PE X b (te X.K X.mg W mb)) : PE X (.BinOp a .Pow b pos) (te X.K X.mg W (eOp powD ma mb)) := me_op op_pow powD_ok ha hb
/-- -n -/
def negD : D → Sto → Ot D
  | .p (.int i), S => .ok (.p (.int (-i))) S
  | _, _ => .bad
theorem me_neg (ha : PE X a (te X.K X.mg W ma)) : PE X (.UnaryOp .USub a pos) (te X.K X.mg W (eUn negD ma)) := by
  refine (pe_un un_neg ha).w fun σ H Q ⟨R, μ, env, S, r, h⟩ => ⟨R, μ, env, S, r, ?_⟩
  refine pg_mono (pg_bind h) fun μ1 H1 S1 d s1 rs1 q v dr => ?_
  unfold negD at q
  split at q
  · rw [dr_int dr]
    exact ⟨_, rfl, po_ok q rs1 (.p (.int _))⟩
  · exact q.elim
end

/-! ### comparisons -/
def cmpI (g : Int → Int → Bool) : D → D → Sto → Ot D
  | .p (.int i), .p (.int j), S => .ok (.p (.bool (g i j))) S
  | _, _, _ => .bad
theorem cmpI_ok {K : PySem.W.Frag} {mg : Str → Option Value} {W : WX} {g : Int → Int → Bool} : Op2 K mg W (cmpI g) (rI0 fun i j => .bl (g i j)) := by
  intro R μ H S σ env x y dx dy Q r h
  obtain ⟨y', ws, e1, hy, r1⟩ := drs_cons r.tm
  cases e1
  obtain ⟨x', ws', e2, hx, r2⟩ := drs_cons r1
  cases e2
  unfold cmpI at h
  split at h
  · rw [dr_int hx, dr_int hy]
    exact ⟨_, _, rfl, rfl, po_ok h r.rs (.p (.bl _))⟩
  · exact h.elim
/-- == and != of plain data without dicts -/
def eqD (neg : Bool) : D → D → Sto → Ot D
  | .p a, .p b, S => if SeqAt.shaped a = true ∧ SeqAt.shaped b = true then .ok (.p (.bool (if neg = true then !PyData.eqv a b else PyData.eqv a b))) S else .bad
  | _, _, _ => .bad
section
variable {K : PySem.W.Frag} {H : Hp} {O : Addr → Prop}
mutual
theorem pd_dp : ∀ (d : PyData) (v : V), d.canLay0 = true → Pd K H O v d → Dp K H v d
  | .none, _, _, h => by cases h; exact .non
  | .bool b, _, _, h => by cases h; exact .bl b
  | .int i, _, _, h => by cases h; exact .int i
  | .str x, _, _, h => by cases h; exact .str x
  | .list ds, _, c, h => by
    cases h with
    | lst h1 _ h3 => exact .lst (SqL.of h1) (pda_dp ds _ (by simpa [PyData.canLay0] using c) h3)
  | .tuple ds, _, c, h => by
    cases h with
    | tup h1 h3 => exact .tup h1.sqt (pda_dp ds _ (by simpa [PyData.canLay0] using c) h3)
  | .dict kvs, _, c, _ => by simp [PyData.canLay0] at c
theorem pda_dp : ∀ (ds : List PyData) (vs : List V), PyData.canLayAll0 ds = true → PdAll K H O vs ds → DpAll K H vs ds
  | [], _, _, h => by cases h; exact .nil
  | d :: ds, _, c, h => by
    cases h with
    | cons h1 h2 =>
      have c' : (d.canLay0 && PyData.canLayAll0 ds) = true := by simpa [PyData.canLayAll0] using c
      exact .cons (pd_dp d _ (Bool.and_eq_true_iff.mp c').1 h1) (pda_dp ds _ (Bool.and_eq_true_iff.mp c').2 h2)
end
theorem shaped_lay {d : PyData} (h : SeqAt.shaped d = true) : d.canLay0 = true := (Bool.and_eq_true_iff.mp h).1
end
def rEqN (K : PySem.W.Frag) (neg : Bool) : R2 := if neg = true then rNeD K else rEqD K
theorem eqD_ok {K : PySem.W.Frag} {mg : Str → Option Value} {W : WX} {neg : Bool} : Op2 K mg W (eqD neg) (rEqN K neg) := by
  intro R μ H S σ env x y dx dy Q r h
  obtain ⟨y', ws, e1, hy, r1⟩ := drs_cons r.tm
  cases e1
  obtain ⟨x', ws', e2, hx, r2⟩ := drs_cons r1
  cases e2
  unfold eqD at h
  split at h
  · split at h
    · rename_i a b hz
      cases hx with
      | p px =>
        cases hy with
        | p py =>
          have p1 := pd_dp a _ (shaped_lay hz.1) px
          have p2 := pd_dp b _ (shaped_lay hz.2) py
          unfold rEqN
          cases neg with
          | true => rw [if_pos rfl] at h ⊢; exact ⟨a, b, p1, p2, hz.1, hz.2, po_ok h r.rs (.p (.bl _))⟩
          | false => rw [if_neg Bool.false_ne_true] at h ⊢; exact ⟨a, b, p1, p2, hz.1, hz.2, po_ok h r.rs (.p (.bl _))⟩
    · exact h.elim
  · exact h.elim
theorem op_eqN {X : Cx} (hu : X.A.units + 64 < cLine) : OpR X (compareOp .Eq) (rEqN X.K false) := by
  unfold rEqN
  rw [if_neg Bool.false_ne_true]
  exact op_eqD hu
theorem op_neN {X : Cx} (hu : X.A.units + 64 < cLine) : OpR X (compareOp .NotEq) (rEqN X.K true) := by
  unfold rEqN
  rw [if_pos rfl]
  exact op_neD hu
/-- is, is not: None, True, False -/
def isD (neg : Bool) : D → D → Sto → Ot D
  | .p a, .p .none, S => .ok (.p (.bool (neg ^^ (match a with | .none => true | _ => false)))) S
  | .loc _, .p .none, S => .ok (.p (.bool neg)) S
  | .p (.bool a), .p (.bool b), S => .ok (.p (.bool (neg ^^ (a == b)))) S
  | _, _, _ => .bad
section
variable {X : Cx} {W : WX} {a b c e : Expr} {ma mb mc : EM} {pos : Pos} {k : Nat}
theorem me_lt (ha : PE X a (te X.K X.mg W ma)) (hb : PE X b (te X.K X.mg W mb)) : PE X (.Compare a [.Lt] [b] pos) (te X.K X.mg W (eOp (cmpI fun i j => decide (i < j)) ma mb)) := me_cmp op_lt cmpI_ok ha hb (nomark _)
theorem me_le (ha : PE X a (te X.K X.mg W ma)) (hb : PE X b (te X.K X.mg W mb)) : PE X (.Compare a [.LtE] [b] pos) (te X.K X.mg W (eOp (cmpI fun i j => decide (i ≤ j)) ma mb)) := me_cmp op_le cmpI_ok ha hb (nomark _)
theorem me_gt (ha : PE X a (te X.K X.mg W ma)) (hb : PE X b (te X.K X.mg W mb)) : PE X (.Compare a [.Gt] [b] pos) (te X.K X.mg W (eOp (cmpI fun i j => decide (j < i)) ma mb)) := me_cmp op_gt cmpI_ok ha hb (nomark _)
theorem me_ge (ha : PE X a (te X.K X.mg W ma)) (hb : PE X b (te X.K X.mg W mb)) : PE X (.Compare a [.GtE] [b] pos) (te X.K X.mg W (eOp (cmpI fun i j => decide (j ≤ i)) ma mb)) := me_cmp op_ge cmpI_ok ha hb (nomark _)
theorem me_eq (hr : Room k X.A) (ha : PE X a (te X.K X.mg W ma)) (hb : PE X b (te X.K X.mg W mb)) : PE X (.Compare a [.Eq] [b] pos) (te X.K X.mg W (eOp (eqD false) ma mb)) := me_cmp (op_eqN hr.units) eqD_ok ha hb (nomark _)
theorem me_ne (hr : Room k X.A) (ha : PE X a (te X.K X.mg W ma)) (hb : PE X b (te X.K X.mg W mb)) : PE X (.Compare a [.NotEq] [b] pos) (te X.K X.mg W (eOp (eqD true) ma mb)) := me_cmp (op_neN hr.units) eqD_ok ha hb (nomark _)
end
end Mi

/-! Mi7 -/
set_option Elab.async false
set_option linter.all false
set_option maxRecDepth 100000
set_option maxHeartbeats 1000000
set_option autoImplicit false
namespace Mi
open PySem PySem.Spec PyProof.Rows L2

/-! ### built-ins by values -/
def OpC (K : PySem.W.Frag) (mg : Str → Option Value) (W : WX) (f : FM) (r : List V → Hp → VK → Prop) : Prop :=
  ∀ (R : Addr → Prop) (μ : Nat → Addr) (H : Hp) (S : Sto) (σ : L2.St) (env : Envr) (vs : List V) (ds : List D) (Q : VK), RS K R H μ S → DRs K R H μ S.length vs ds → Po K mg W R μ S H σ env (f ds S) Q → r vs H Q
section
variable {X : Cx} {W : WX} {x : Str} {p pos : Pos} {e a b : Expr} {es : List Expr} {aa : AM} {f : FM} {id T : String} {r : List V → Hp → VK → Prop} {ma mb : EM}
theorem me_callB (hc : CallR X (.builtin id) r) (hf : OpC X.K X.mg W f r) (hm : X.mg x = none) (hv : bootBuiltins x = some (.builtin id)) (ha : PA X (e :: es) (ta X.K X.mg W aa)) (hg : Gl X x := by rfl) (hn : x ≠ "__name__" := by decide) (hdb : (x == ("__debug__" : Str)) = false := by decide)
    (he : starEach (e :: es) X.env = (false, eval e X.env) :: starEach es X.env := by rfl) (hpl : (backTo pos (starEach es X.env)).any (·.1) = false := by rfl) : PE X (.Call (.Name x p) (e :: es) [] pos) (te X.K X.mg W (eCall f aa)) := by
  refine (pe_callB hc hg hm hv ha hn hdb he hpl).w fun σ H Q ⟨R, μ, env, S, r, h⟩ => ⟨R, μ, env, S, r, ?_⟩
  exact pg_mono (pg_bind h) fun μ1 H1 S1 ds s1 rs1 q vs dr => hf R μ1 H1 S1 σ env vs ds Q rs1 dr q
theorem me_callTy (hc : CallR X (.type T) r) (hf : OpC X.K X.mg W f r) (hm : X.mg x = none) (hv : bootBuiltins x = some (.type T)) (ha : PA X (e :: es) (ta X.K X.mg W aa)) (hg : Gl X x := by rfl) (hn : x ≠ "__name__" := by decide) (hdb : (x == ("__debug__" : Str)) = false := by decide)
    (he : starEach (e :: es) X.env = (false, eval e X.env) :: starEach es X.env := by rfl) (hpl : (backTo pos (starEach es X.env)).any (·.1) = false := by rfl) : PE X (.Call (.Name x p) (e :: es) [] pos) (te X.K X.mg W (eCall f aa)) := by
  refine (pe_callTy hc hg hm hv ha hn hdb he hpl).w fun σ H Q ⟨R, μ, env, S, r, h⟩ => ⟨R, μ, env, S, r, ?_⟩
  exact pg_mono (pg_bind h) fun μ1 H1 S1 ds s1 rs1 q vs dr => hf R μ1 H1 S1 σ env vs ds Q rs1 dr q
end
/-- what a list's cell holds -/
def cellL (S : Sto) (i : Nat) : Option (List D) := match S[i]? with
  | some (.lst xs) => some xs
  | _ => none
theorem cellL_some {S : Sto} {i : Nat} {xs : List D} (h : cellL S i = some xs) : S[i]? = some (.lst xs) := by
  unfold cellL at h
  split at h
  · rename_i e
    cases h
    exact e
  · cases h
def lenF : FM
  | [.p (.list l)], S => .ok (.p (.int (l.length : Int))) S
  | [.p (.tuple l)], S => .ok (.p (.int (l.length : Int))) S
  | [.p (.str x)], S => if x.length ≤ sizeLine then .ok (.p (.int (x.length : Int))) S else .bad
  | [.scr ns], S => .ok (.p (.int (ns.length : Int))) S
  | [.loc i], S => match cellL S i with
    | some xs => .ok (.p (.int (xs.length : Int))) S
    | none => .bad
  | _, _ => .bad
def rLenS (K : PySem.W.Frag) : List V → Hp → VK → Prop := fun xs H Q => (∃ p ys, xs = [.ref p] ∧ (SqL K H p ys ∨ SqT K H p ys) ∧ Q (.int ys.length) H) ∨ ∃ z, xs = [.str z] ∧ z.length ≤ sizeLine ∧ Q (.int z.length) H
theorem call_lenS {X : Cx} : CallR X (.builtin "len") (rLenS X.K) := call_len_seq.or call_len_str
theorem lenF_ok {K : PySem.W.Frag} {mg : Str → Option Value} {W : WX} : OpC K mg W lenF (rLenS K) := by
  intro R μ H S σ env vs ds Q rs dr h
  unfold lenF at h
  split at h
  · obtain ⟨v, ws, rfl, d1, d2⟩ := drs_cons dr
    obtain rfl := drs_nil d2
    obtain ⟨a, xs, rfl, h1, h2, h3⟩ := dr_lst d1
    exact .inl ⟨a, xs, rfl, .inl (SqL.of h1), by rw [h3.len]; exact po_ok h rs (.p (.int _))⟩
  · obtain ⟨v, ws, rfl, d1, d2⟩ := drs_cons dr
    obtain rfl := drs_nil d2
    obtain ⟨a, xs, rfl, h1, h3⟩ := dr_tup d1
    exact .inl ⟨a, xs, rfl, .inr h1, by rw [h3.len]; exact po_ok h rs (.p (.int _))⟩
  · obtain ⟨v, ws, rfl, d1, d2⟩ := drs_cons dr
    obtain rfl := drs_nil d2
    obtain rfl := dr_str d1
    split at h
    · rename_i hz
      exact .inr ⟨_, rfl, hz, po_ok h rs (.p (.int _))⟩
    · exact h.elim
  · obtain ⟨v, ws, rfl, d1, d2⟩ := drs_cons dr
    obtain rfl := drs_nil d2
    obtain ⟨a, rfl, h1⟩ := dr_scr d1
    exact .inl ⟨a, _, rfl, .inl h1.sq, by rw [List.length_map]; exact po_ok h rs (.p (.int _))⟩
  · obtain ⟨v, ws, rfl, d1, d2⟩ := drs_cons dr
    obtain rfl := drs_nil d2
    obtain ⟨rfl, hi⟩ := dr_loc d1
    split at h
    · rename_i xs e
      obtain ⟨ys, g1, g2⟩ := rs.cell _ _ (cellL_some e)
      exact .inl ⟨_, ys, rfl, .inl (SqL.of g1), by rw [g2.len]; exact po_ok h rs (.p (.int _))⟩
    · exact h.elim
  · exact h.elim
def intF : FM
  | [.p (.int i)], S => .ok (.p (.int i)) S
  | [.p (.bool b)], S => .ok (.p (.int (if b then 1 else 0))) S
  | _, _ => .bad
theorem intF_ok {K : PySem.W.Frag} {mg : Str → Option Value} {W : WX} : OpC K mg W intF (fun xs H Q => (∃ i, xs = [.int i] ∧ Q (.int i) H) ∨ ∃ k, xs = [.bl k] ∧ Q (.int (if k then 1 else 0)) H) := by
  intro R μ H S σ env vs ds Q rs dr h
  unfold intF at h
  split at h
  · obtain ⟨v, ws, rfl, d1, d2⟩ := drs_cons dr
    obtain rfl := drs_nil d2
    obtain rfl := dr_int d1
    exact .inl ⟨_, rfl, po_ok h rs (.p (.int _))⟩
  · obtain ⟨v, ws, rfl, d1, d2⟩ := drs_cons dr
    obtain rfl := drs_nil d2
    obtain rfl := dr_bl d1
    exact .inr ⟨_, rfl, po_ok h rs (.p (.int _))⟩
  · exact h.elim
def max2F : FM
  | [.p (.int i), .p (.int j)], S => .ok (.p (.int (if j > i then j else i))) S
  | _, _ => .bad
def min2F : FM
  | [.p (.int i), .p (.int j)], S => .ok (.p (.int (if j < i then j else i))) S
  | _, _ => .bad
theorem max2F_ok {K : PySem.W.Frag} {mg : Str → Option Value} {W : WX} : OpC K mg W max2F (fun xs H Q => ∃ i j, xs = [.int i, .int j] ∧ Q (.int (if j > i then j else i)) H) := by
  intro R μ H S σ env vs ds Q rs dr h
  unfold max2F at h
  split at h
  · rw [drs_int2 dr]
    exact ⟨_, _, rfl, po_ok h rs (.p (.int _))⟩
  · exact h.elim
theorem min2F_ok {K : PySem.W.Frag} {mg : Str → Option Value} {W : WX} : OpC K mg W min2F (fun xs H Q => ∃ i j, xs = [.int i, .int j] ∧ Q (.int (if j < i then j else i)) H) := by
  intro R μ H S σ env vs ds Q rs dr h
  unfold min2F at h
  split at h
  · rw [drs_int2 dr]
    exact ⟨_, _, rfl, po_ok h rs (.p (.int _))⟩
  · exact h.elim
/-- tuple(..), list(..) of what is plain -/
def tupF : FM
  | [.p (.list l)], S => .ok (.p (.tuple l)) S
  | [.p (.tuple l)], S => .ok (.p (.tuple l)) S
  | [.scr ns], S => .ok (.p (.tuple (ns.map .int))) S
  | [.loc i], S => match (cellL S i).bind plains with
    | some l => .ok (.p (.tuple l)) S
    | none => .bad
  | _, _ => .bad
abbrev rTupOf (K : PySem.W.Frag) : List V → Hp → VK → Prop := rTupF K
theorem call_tupOf {X : Cx} : CallR X (.type "tuple") (rTupOf X.K) := call_tupF
theorem tupF_ok {K : PySem.W.Frag} {mg : Str → Option Value} {W : WX} : OpC K mg W tupF (rTupOf K) := by
  intro R μ H S σ env vs ds Q rs dr h
  unfold tupF at h
  split at h
  · obtain ⟨v, ws, rfl, d1, d2⟩ := drs_cons dr
    obtain rfl := drs_nil d2
    obtain ⟨a, xs, rfl, h1, h2, h3⟩ := dr_lst d1
    exact ⟨a, xs, rfl, .inl ⟨SqL.of h1, fun l o hl hd => new_tup h rs h3 hl hd⟩⟩
  · obtain ⟨v, ws, rfl, d1, d2⟩ := drs_cons dr
    obtain rfl := drs_nil d2
    obtain ⟨a, xs, rfl, h1, h3⟩ := dr_tupE d1
    exact ⟨a, xs, rfl, .inr ⟨h1.sqt, po_ok h rs (.p (.tup h1 h3))⟩⟩
  · obtain ⟨v, ws, rfl, d1, d2⟩ := drs_cons dr
    obtain rfl := drs_nil d2
    obtain ⟨a, rfl, h1⟩ := dr_scr d1
    exact ⟨a, _, rfl, .inl ⟨h1.sq, fun l o hl hd => new_tup h rs pda_ints hl hd⟩⟩
  · obtain ⟨v, ws, rfl, d1, d2⟩ := drs_cons dr
    obtain rfl := drs_nil d2
    obtain ⟨rfl, hi⟩ := dr_loc d1
    split at h
    · rename_i l e
      cases e1 : cellL S _ with
      | none => rw [e1] at e; cases e
      | some xs =>
        rw [e1] at e
        obtain ⟨ys, g1, g2⟩ := rs.cell _ _ (cellL_some e1)
        exact ⟨_, ys, rfl, .inl ⟨SqL.of g1, fun l o hl hd => new_tup h rs (plains_pd g2 e) hl hd⟩⟩
    · exact h.elim
  · exact h.elim
def lstF : FM
  | [.p (.list l)], S => .ok (.p (.list l)) S
  | [.p (.tuple l)], S => .ok (.p (.list l)) S
  | [.scr ns], S => .ok (.p (.list (ns.map .int))) S
  | [.loc i], S => match (cellL S i).bind plains with
    | some l => .ok (.p (.list l)) S
    | none => .bad
  | _, _ => .bad
def rLstOf (K : PySem.W.Frag) : List V → Hp → VK → Prop := fun xs H Q => ∃ p ys, xs = [.ref p] ∧ (SqL K H p ys ∨ SqT K H p ys) ∧ ∀ l, H l = none → Q (.ref l) (upd H l (.lst ys))
theorem call_lstOf {X : Cx} : CallR X (.type "list") (rLstOf X.K) := call_list_of
theorem lstF_ok {K : PySem.W.Frag} {mg : Str → Option Value} {W : WX} : OpC K mg W lstF (rLstOf K) := by
  intro R μ H S σ env vs ds Q rs dr h
  unfold lstF at h
  split at h
  · obtain ⟨v, ws, rfl, d1, d2⟩ := drs_cons dr
    obtain rfl := drs_nil d2
    obtain ⟨a, xs, rfl, h1, h2, h3⟩ := dr_lst d1
    exact ⟨a, xs, rfl, .inl (SqL.of h1), fun l hl => new_lst h rs h3 hl⟩
  · obtain ⟨v, ws, rfl, d1, d2⟩ := drs_cons dr
    obtain rfl := drs_nil d2
    obtain ⟨a, xs, rfl, h1, h3⟩ := dr_tup d1
    exact ⟨a, xs, rfl, .inr h1, fun l hl => new_lst h rs h3 hl⟩
  · obtain ⟨v, ws, rfl, d1, d2⟩ := drs_cons dr
    obtain rfl := drs_nil d2
    obtain ⟨a, rfl, h1⟩ := dr_scr d1
    exact ⟨a, _, rfl, .inl h1.sq, fun l hl => new_lst h rs pda_ints hl⟩
  · obtain ⟨v, ws, rfl, d1, d2⟩ := drs_cons dr
    obtain rfl := drs_nil d2
    obtain ⟨rfl, hi⟩ := dr_loc d1
    split at h
    · rename_i l e
      cases e1 : cellL S _ with
      | none => rw [e1] at e; cases e
      | some xs =>
        rw [e1] at e
        obtain ⟨ys, g1, g2⟩ := rs.cell _ _ (cellL_some e1)
        exact ⟨_, ys, rfl, .inl (SqL.of g1), fun l hl => new_lst h rs (plains_pd g2 e) hl⟩
    · exact h.elim
  · exact h.elim
/-- the greatest, the least of ints -/
def intsOf : List PyData → Option (List Int)
  | [] => some []
  | .int i :: r => (intsOf r).map (i :: ·)
  | _ :: _ => none
theorem intsOf_eq : ∀ {l : List PyData} {ns : List Int}, intsOf l = some ns → l = ns.map .int
  | [], _, h => by cases h; rfl
  | .int i :: r, ns, h => by
    unfold intsOf at h
    cases e : intsOf r with
    | none => rw [e] at h; cases h
    | some ms =>
      rw [e] at h
      cases h
      rw [intsOf_eq e]
      rfl
  | .none :: _, _, h => by cases h
  | .bool _ :: _, _, h => by cases h
  | .str _ :: _, _, h => by cases h
  | .list _ :: _, _, h => by cases h
  | .tuple _ :: _, _, h => by cases h
  | .dict _ :: _, _, h => by cases h
theorem pda_ints_eq {K : PySem.W.Frag} {H : Hp} {O : Addr → Prop} : ∀ {ns : List Int} {vs : List V}, PdAll K H O vs (ns.map PyData.int) → vs = ns.map V.int
  | [], _, h => by cases h; rfl
  | n :: ns, _, h => by
    cases h with
    | cons a b =>
      cases a
      rw [pda_ints_eq b]
      rfl
end Mi

/-! Mi8 -/
set_option Elab.async false
set_option linter.all false
set_option maxRecDepth 100000
set_option maxHeartbeats 1000000
set_option autoImplicit false
namespace Mi
open PySem PySem.Spec PyProof.Rows L2

/-! ### items by place -/
def ixD : D → D → Sto → Ot D
  | .p (.list l), .p (.int i), S => match atI l i with
    | some d => .ok (.p d) S
    | none => .bad
  | .p (.tuple l), .p (.int i), S => match atI l i with
    | some d => .ok (.p d) S
    | none => .bad
  | .p (.str x), .p (.int i), S => if x.length ≤ sizeLine then (match atI x.cps.toList i with
    | some c => .ok (.p (.str ⟨#[c]⟩)) S
    | none => .bad) else .bad
  | .loc k, .p (.int i), S => match (cellL S k).bind fun xs => atI xs i with
    | some d => .ok d S
    | none => .bad
  | .scr ns, .p (.int i), S => match atI ns i with
    | some n => .ok (.p (.int n)) S
    | none => .bad
  | _, _, _ => .bad
section
variable {K : PySem.W.Frag} {R : Addr → Prop} {mg : Str → Option Value} {W : WX} {μ μ' : Nat → Addr} {H H' : Hp} {S S' : Sto} {σ : L2.St} {env : Envr} {n : Nat} {v : V} {vs : List V} {ds : List D} {Q : VK}
theorem atI_pd {O : Addr → Prop} {xs : List V} {l : List PyData} {i : Int} {d : PyData} (h : PdAll K H O xs l) (e : atI l i = some d) : ∃ v, atI xs i = some v ∧ Pd K H O v d := by
  unfold atI at e ⊢
  rw [h.len]
  cases e1 : ixN l.length i with
  | none => rw [e1] at e; cases e
  | some j =>
    rw [e1] at e
    obtain ⟨v, h1, h2⟩ := pda_get h e
    exact ⟨v, h1, h2⟩
theorem atI_dr {xs : List V} {l : List D} {i : Int} {d : D} (h : DRs K R H μ n xs l) (e : atI l i = some d) : ∃ v, atI xs i = some v ∧ DR K R H μ n v d := by
  unfold atI at e ⊢
  rw [h.len]
  cases e1 : ixN l.length i with
  | none => rw [e1] at e; cases e
  | some j =>
    rw [e1] at e
    obtain ⟨v, h1, h2⟩ := h.get e
    exact ⟨v, h1, h2⟩
theorem atI_int {ns : List Int} {i m : Int} (e : atI ns i = some m) : atI (ns.map V.int) i = some (.int m) := by
  unfold atI at e ⊢
  rw [List.length_map]
  cases e1 : ixN ns.length i with
  | none => rw [e1] at e; cases e
  | some j =>
    rw [e1] at e
    have e' : ns[j]? = some m := e
    show (ns.map V.int)[j]? = some (.int m)
    rw [List.getElem?_map, e']
    rfl
theorem ixD_ok : Op2 K mg W ixD (rIx K) := by
  intro R μ H S σ env x y dx dy Q r h
  obtain ⟨y', ws, e1, hy, r1⟩ := drs_cons r.tm
  cases e1
  obtain ⟨x', ws', e2, hx, r2⟩ := drs_cons r1
  cases e2
  unfold ixD at h
  split at h
  · split at h
    · rename_i e
      obtain ⟨a, xs, rfl, h1, h2, h3⟩ := dr_lst hx
      obtain rfl := dr_int hy
      obtain ⟨v, g1, g2⟩ := atI_pd h3 e
      exact .inl ⟨a, xs, _, v, rfl, rfl, SqL.of h1, g1, po_ok h r.rs (.p g2)⟩
    · exact h.elim
  · split at h
    · rename_i e
      obtain ⟨a, xs, rfl, h1, h3⟩ := dr_tup hx
      obtain rfl := dr_int hy
      obtain ⟨v, g1, g2⟩ := atI_pd h3 e
      exact .inr (.inl ⟨a, xs, _, v, rfl, rfl, h1, g1, po_ok h r.rs (.p g2)⟩)
    · exact h.elim
  · split at h
    · rename_i hz
      split at h
      · rename_i c e
        obtain rfl := dr_str hx
        obtain rfl := dr_int hy
        exact .inr (.inr ⟨_, _, c, rfl, rfl, hz, e, po_ok h r.rs (.p (.str _))⟩)
      · exact h.elim
    · exact h.elim
  · split at h
    · rename_i k i S0 d e
      obtain ⟨rfl, hi⟩ := dr_loc hx
      obtain rfl := dr_int hy
      cases e1 : cellL S _ with
      | none => rw [e1] at e; cases e
      | some xs =>
        rw [e1] at e
        obtain ⟨ys, g1, g2⟩ := r.rs.cell _ _ (cellL_some e1)
        obtain ⟨v, f1, f2⟩ := atI_dr g2 e
        exact .inl ⟨_, ys, _, v, rfl, rfl, SqL.of g1, f1, po_ok h r.rs f2⟩
    · exact h.elim
  · split at h
    · rename_i m e
      obtain ⟨a, rfl, h1⟩ := dr_scr hx
      obtain rfl := dr_int hy
      exact .inl ⟨a, _, _, _, rfl, rfl, h1.sq, atI_int e, po_ok h r.rs (.p (.int _))⟩
    · exact h.elim
  · exact h.elim
end
section
variable {X : Cx} {W : WX} {a b c e o : Expr} {ma mb mc : EM} {pos p2 : Pos} {lo hi : Option Expr}
theorem me_ix (ha : PE X a (te X.K X.mg W ma)) (hb : PE X b (te X.K X.mg W mb)) (hs : PlainIx b := by intro _ _; rfl) : PE X (.Subscript a b pos) (te X.K X.mg W (eOp ixD ma mb)) := by
  refine (pe_ix ix_seq ha hb hs).w fun σ H Q ⟨R, μ, env, S, r, h⟩ => ⟨R, μ, env, S, r, ?_⟩
  refine po_mono (po_bind r h) fun x H1 ⟨μ1, S1, d1, r1, h1⟩ => ⟨R, μ1, env, S1, r1.drop, ?_⟩
  exact po_mono (po_bind r1 h1) fun y H2 ⟨μ2, S2, d2, r2, h2⟩ => ixD_ok (mg := X.mg) (W := W) R μ2 H2 S2 σ env x y d1 d2 Q r2 h2
end

/-! ### slices -/
abbrev OM := Envr → Sto → Ot (Option Int)
def oNone : OM := fun _ S => .ok none S
def toI : D → Sto → Ot (Option Int)
  | .p (.int i), S => .ok (some i) S
  | _, _ => .bad
def oSome (m : EM) : OM := fun env S => (m env S).bind toI
def tO (K : PySem.W.Frag) (mg : Str → Option Value) (W : WX) (m : OM) : TO := fun σ H Q => ∃ R μ env S, RL K R μ H S σ env [] [] ∧ Pg K mg W R μ S H σ env (m env S) fun _ H' _ o => Q o H'
/-- t[lo:hi] as a tuple that is known to have no dict of its own -/
def rSlF (K : PySem.W.Frag) : V → Option Int → Option Int → Hp → VK → Prop := fun x lo hi H Q => ∃ a xs, x = .ref a ∧ SqT K H a xs ∧
  ((HT.sIx xs.length 0 lo = 0 ∧ HT.sIx xs.length xs.length hi = xs.length) → Q (.ref a) H) ∧ (¬ (HT.sIx xs.length 0 lo = 0 ∧ HT.sIx xs.length xs.length hi = xs.length) → NwT H (cutV xs lo hi) Q)
theorem sl_tupF {X : Cx} : SlR X (rSlF X.K) := by
  intro pins s σ H x v vl vu lo hi sl Q I rx hs pl pu h
  obtain ⟨a, xs, rfl, hx, q1, q2⟩ := h
  cases rx
  obtain ⟨its, r, ht, hz⟩ := I.tuple hx
  have hlen : its.toArray.size = xs.length := by rw [List.size_toArray]; exact r.length.symm
  refine ⟨"tuple", _, PyProof.Rows.slot_tuple_getitem.lookup, ht.typeIs, ?_⟩
  by_cases hw : HT.sIx xs.length 0 lo = 0 ∧ HT.sIx xs.length xs.length hi = xs.length
  · exact getItem_tuple_whole ht hs pl pu (by rw [hlen]; exact hw) ⟨.ref a, H, I, rfl, q1 hw⟩
  · refine HT.getItem_tuple_cut ht hs pl pu (by rw [hlen]; exact hw) ?_ (by rw [hlen]; exact hz)
    rw [hlen]
    exact laidT I ((r.drop (HT.sIx xs.length 0 lo)).take (HT.sIx xs.length xs.length hi - HT.sIx xs.length 0 lo)) (Nat.le_trans (cutV_length xs lo hi) hz) (fun b ob q => Heap.get?_push_of_some _ q) (Heap.get?_push_size _ rfl) (q2 hw)
def cutL {α : Type} (xs : List α) (lo hi : Option Int) : List α := (xs.drop (HT.sIx xs.length 0 lo)).take (HT.sIx xs.length xs.length hi - HT.sIx xs.length 0 lo)
def slD : D → Option Int → Option Int → Sto → Ot D
  | .p (.list l), lo, hi, S => .ok (.p (.list (cutL l lo hi))) S
  | .scr ns, lo, hi, S => .ok (.p (.list ((cutL ns lo hi).map .int))) S
  | .p (.tuple l), lo, hi, S => .ok (.p (.tuple (cutL l lo hi))) S
  | _, _, _, _ => .bad
def eSl (m : EM) (lo hi : OM) : EM := fun env S => (m env S).bind fun d S1 => (lo env S1).bind fun l S2 => (hi env S2).bind fun u S3 => slD d l u S3
def rSlD (K : PySem.W.Frag) : V → Option Int → Option Int → Hp → VK → Prop := fun x lo hi H Q => rSlL K x lo hi H Q ∨ rSlF K x lo hi H Q
theorem sl_D {X : Cx} : SlR X (rSlD X.K) := sl_list.or sl_tupF
section
variable {X : Cx} {W : WX} {a b c e o : Expr} {ma mb mc : EM} {pos p2 : Pos} {lo hi : Option Expr} {ml mh : OM}
theorem _root_.L2.PO.w {X : Cx} {e : Option Expr} {t t' : TO} (h : PO X e t) (hw : ∀ σ H Q, t' σ H Q → t σ H Q) : PO X e t' := ⟨fun pins s σ H Q I q => h.run pins s σ H Q I (hw σ H Q q)⟩
theorem mo_none : PO X none (tO X.K X.mg W oNone) := po_none.w fun σ H Q ⟨R, μ, env, S, r, h⟩ => pg_ok h r.rs
theorem mo_some (h : PE X e (te X.K X.mg W ma)) : PO X (some e) (tO X.K X.mg W (oSome ma)) := by
  refine (po_some h).w fun σ H Q ⟨R, μ, env, S, r, h⟩ => ⟨R, μ, env, S, r, ?_⟩
  refine pg_mono (pg_bind h) fun μ1 H1 S1 d s1 rs1 q v dr => ?_
  unfold toI at q
  split at q
  · rw [dr_int dr]
    exact ⟨_, rfl, pg_ok q rs1⟩
  · exact q.elim
theorem cut_whole {α : Type} {xs : List α} {lo hi : Option Int} (h : HT.sIx xs.length 0 lo = 0 ∧ HT.sIx xs.length xs.length hi = xs.length) : cutL xs lo hi = xs := by
  unfold cutL
  rw [h.1, h.2]
  simp
theorem cut_pd {K : PySem.W.Frag} {H : Hp} {O : Addr → Prop} {xs : List V} {l : List PyData} {lo hi : Option Int} (h : PdAll K H O xs l) : PdAll K H O (cutV xs lo hi) (cutL l lo hi) := by
  unfold cutV cutL
  rw [h.len]
  exact pda_take _ (pda_drop _ h)
theorem me_sl (h : PE X e (te X.K X.mg W ma)) (hl : PO X lo (tO X.K X.mg W ml)) (hh : PO X hi (tO X.K X.mg W mh)) : PE X (.Subscript e (.Slice lo hi none p2) pos) (te X.K X.mg W (eSl ma ml mh)) := by
  refine (pe_slice sl_D h hl hh).w fun σ H Q ⟨R, μ, env, S, r, h⟩ => ⟨R, μ, env, S, r, ?_⟩
  refine po_mono (po_bind r h) fun x H1 ⟨μ1, S1, d1, r1, h1⟩ => ⟨R, μ1, env, S1, r1.drop, ?_⟩
  refine pg_mono (pg_bind h1) fun μ2 H2 S2 l s2 rs2 h2 => ⟨R, μ2, env, S2, ⟨rs2, r1.en.mono s2, .nil⟩, ?_⟩
  refine pg_mono (pg_bind h2) fun μ3 H3 S3 u s3 rs3 h3 => ?_
  have tm := (r1.mono s2 rs2).mono s3 rs3
  obtain ⟨v, ws, e1, hx, _⟩ := drs_cons tm.tm
  cases e1
  unfold slD at h3
  split at h3
  · obtain ⟨a, xs, rfl, g1, g2, g3⟩ := dr_lst hx
    exact .inl ⟨a, xs, rfl, SqL.of g1, fun p hp => new_lst h3 rs3 (cut_pd g3) hp⟩
  · obtain ⟨a, rfl, g1⟩ := dr_scr hx
    refine .inl ⟨a, _, rfl, g1.sq, fun p hp => ?_⟩
    have e : ∀ (ns : List Int) lo hi, cutV (ns.map V.int) lo hi = (cutL ns lo hi).map V.int := fun ns lo hi => by
      unfold cutV cutL
      rw [List.length_map, List.map_take, List.map_drop]
    rw [e]
    exact new_lst h3 rs3 pda_ints hp
  · obtain ⟨a, xs, rfl, g1, g3⟩ := dr_tupE hx
    refine .inr ⟨a, xs, rfl, g1.sqt, fun hw => ?_, fun _ p o hp hd => new_tup h3 rs3 (cut_pd g3) hp hd⟩
    have hw' := hw
    rw [g3.len] at hw'
    rw [cut_whole hw'] at h3
    exact po_ok h3 rs3 (.p (.tup g1 g3))
  · exact h3.elim
end

/-! ### a list's cell grows -/
section
variable {K : PySem.W.Frag} {R : Addr → Prop} {mg : Str → Option Value} {W : WX} {μ μ' : Nat → Addr} {H H' : Hp} {S S' : Sto} {σ : L2.St} {env : Envr} {n : Nat} {v : V} {vs : List V} {ds : List D} {Q : VK}
theorem le_cell {i : Nat} {o : HO} (hi : i < n) (hk : ∀ ob u, H (μ i) ≠ some (.frz ob u)) (hk2 : ∀ xs, H (μ i) ≠ some (.tup xs)) : Sp1 μ n H μ n (upd H (μ i) o) := by
  refine ⟨Nat.le_refl _, fun _ _ => rfl, ⟨fun a u h z => ?_, fun a h => .inl h, fun a u h => ?_, fun a ob u h => ?_⟩⟩
  · rw [upd_ne fun e => z ⟨i, hi, e⟩]; exact h
  · rw [upd_ne fun e => hk2 _ (by rw [← e]; exact h)]; exact h
  · rw [upd_ne fun e => hk _ _ (by rw [← e]; exact h)]; exact h
/-- a cell is changed -/
theorem rs_set {i : Nat} {c c' : Cell} {o : HO} (r : RS K R H μ S) (hc : S[i]? = some c) (hs : Sp1 μ S.length H μ S.length (upd H (μ i) o)) (hn : CelR K R (upd H (μ i) o) μ S.length (μ i) c') (hb : c'.lowb i = true) : RS K R (upd H (μ i) o) μ (S.set i c') := by
  have hi := (List.getElem?_eq_some_iff.mp hc).1
  have hl : (S.set i c').length = S.length := List.length_set ..
  refine ⟨fun j k hj hk e => r.inj j k (by omega) (by omega) e, fun j d hd => ?_, fun j d hd => ?_, fun a ha => ⟨upd_there (r.res a ha).1, fun z => (r.res a ha).2 (by rw [hl] at z; exact z)⟩⟩
  · rw [hl]
    by_cases hj : i = j
    · subst hj
      rw [List.getElem?_set_self hi] at hd
      cases hd
      exact hn
    · rw [List.getElem?_set_ne hj] at hd
      have hjl := (List.getElem?_eq_some_iff.mp hd).1
      exact (r.cell j d hd).mono hs fun u hu => by rw [upd_ne fun e => hj (r.inj j i hjl hi e).symm]; exact hu
  · by_cases hj : i = j
    · subst hj
      rw [List.getElem?_set_self hi] at hd
      cases hd
      exact hb
    · rw [List.getElem?_set_ne hj] at hd
      exact r.low j d hd
end
def apF : D → D → Sto → Ot D
  | .loc i, d, S => match cellL S i with
    | some xs => if xs.length < sizeLine ∧ d.lowb i = true then .ok (.p .none) (S.set i (.lst (xs ++ [d]))) else .bad
    | none => .bad
  | _, _, _ => .bad
def isCell : D → Sto → Bool
  | .loc i, S => (cellL S i).isSome
  | _, _ => false
def eApp (mo m : EM) : EM := fun env S => (mo env S).bind fun d S1 => if isCell d S1 = true then (m env S1).bind fun y S2 => apF d y S2 else .bad
section
variable {X : Cx} {W : WX} {o e : Expr} {mo m : EM} {apos cpos pos : Pos}
theorem me_append (ho : PE X o (te X.K X.mg W mo)) (he : PE X e (te X.K X.mg W m)) (hbase : attributeBase o "append" X.env (eval o X.env) = eval o X.env := by rfl)
    (hfew : ((backTo cpos (starEach [e] X.env)).all (fun x => !x.1) && (backToKw cpos (keywordEach [] X.env)).all (fun x => x.1.isSome) && decide (([e] : List Expr).length + ([] : List Keyword).length + (if ([] : List Keyword).isEmpty then 0 else 1) < 30)) = true := by rfl)
    (hline : (apos.endLine == cpos.line) = true := by rfl) (hs : starEach [e] X.env = (false, eval e X.env) :: starEach [] X.env := by rfl) (hplain : (backTo cpos (starEach [] X.env)).any (·.1) = false := by rfl) :
    PE X (.Call (.Attribute o "append" apos) [e] [] cpos) (te X.K X.mg W (eApp mo m)) := by
  refine (pe_bm PySem.F.plainAttrs_list PySem.F.slot_list_append PySem.F.type_list_append mt_append ho (pa_cons he pa_nil hs) hbase hfew hline hs hplain).w fun σ H Q ⟨R, μ, env, S, r, h⟩ => ⟨R, μ, env, S, r, ?_⟩
  refine po_mono (po_bind r h) fun x H1 ⟨μ1, S1, d1, r1, h1⟩ => ?_
  obtain ⟨x', ws, e1, hx, _⟩ := drs_cons r1.tm
  cases e1
  by_cases hc : isCell d1 S1 = true
  · rw [if_pos hc] at h1
    cases hx with
    | p _ => cases hc
    | scr _ => cases hc
    | @loc i hi =>
      obtain ⟨xs1, hx1⟩ := Option.isSome_iff_exists.mp (show (cellL S1 i).isSome = true from hc)
      obtain ⟨ys1, g1, g2⟩ := r1.rs.cell _ _ (cellL_some hx1)
      refine ⟨.inl ⟨rfl, ys1, SqL.of g1⟩, R, μ1, env, S1, r1.drop, ?_⟩
      refine po_mono (po_bind r1 h1) fun y H2 ⟨μ2, S2, d2, r2, h2⟩ => ?_
      obtain ⟨y', ws2, e2, hy, t2⟩ := drs_cons r2.tm
      cases e2
      obtain ⟨x2, ws3, e3, hx2, _⟩ := drs_cons t2
      cases e3
      obtain ⟨e4, hi2⟩ := dr_loc hx2
      unfold apF at h2
      dsimp only at h2
      cases hx3 : cellL S2 i with
      | none => rw [hx3] at h2; exact h2.elim
      | some xs2 =>
        rw [hx3] at h2
        obtain ⟨ys2, f1, f2⟩ := r2.rs.cell _ _ (cellL_some hx3)
        by_cases hz : xs2.length < sizeLine ∧ d2.lowb i = true
        · dsimp only at h2
          rw [if_pos hz] at h2
          refine ⟨_, ys2, y, e4, rfl, f1, by rw [f2.len]; exact hz.1, ?_⟩
          have sp : Sp1 μ2 S2.length H2 μ2 S2.length (upd H2 (μ2 i) (.lst (ys2 ++ [y]))) := le_cell hi2 (fun ob u q => by rw [f1] at q; cases q) (fun u q => by rw [f1] at q; cases q)
          have low := r2.rs.low _ _ (cellL_some hx3)
          refine h2 μ2 _ (by rw [List.length_set]; exact sp) (rs_set r2.rs (cellL_some hx3) sp ⟨_, upd_same, (f2.append (.cons hy .nil)).mono sp⟩ ?_) _ (.p .non)
          show (xs2 ++ [d2]).all (D.lowb i) = true
          rw [List.all_append]
          have l1 : xs2.all (D.lowb i) = true := low
          rw [l1]
          show (true && (d2.lowb i && true)) = true
          rw [hz.2]
          rfl
        · dsimp only at h2
          rw [if_neg hz] at h2
          exact h2.elim
  · rw [if_neg hc] at h1
    exact h1.elim
end
end Mi

/-! Mi9 -/
set_option Elab.async false
set_option linter.all false
set_option maxRecDepth 100000
set_option maxHeartbeats 1000000
set_option autoImplicit false
namespace Mi
open PySem PySem.Spec PyProof.Rows L2

section
variable {K : PySem.W.Frag} {R R' : Addr → Prop} {mg : Str → Option Value} {W : WX} {μ μ' : Nat → Addr} {H H' : Hp} {S S' : Sto} {σ : L2.St} {env : Envr} {n n' : Nat}
/-- a reserved object changes -/
theorem le_resG {p : Addr} {o o' : HO} (hr : R p) (hp : H p = some o) (nt : ∀ xs, o ≠ .tup xs) (nf : ∀ ob u, o ≠ .frz ob u) : Le H (Av R μ n) (upd H p o') (Av R μ n) := by
  refine ⟨fun a u h z => ?_, fun a h => .inl h, fun a u h => ?_, fun a ob u h => ?_⟩
  · rw [upd_ne fun e => z (.inr (by rw [e]; exact hr))]; exact h
  · rw [upd_ne fun e => by rw [e, hp] at h; cases h; exact nt _ rfl]; exact h
  · rw [upd_ne fun e => by rw [e, hp] at h; cases h; exact nf _ _ rfl]; exact h
theorem rs_resG {p : Addr} {o o' : HO} (hr : R p) (hp : H p = some o) (nt : ∀ xs, o ≠ .tup xs) (nf : ∀ ob u, o ≠ .frz ob u) (r : RS K R H μ S) : RS K R (upd H p o') μ S := by
  have no := (r.res p hr).2
  refine ⟨r.inj, fun i c h => CelR.re (le_resG hr hp nt nf) (fun _ _ => rfl) (Nat.le_refl _) (fun u hu => ?_) (r.cell i c h), r.low, fun a h => ⟨upd_there (r.res a h).1, (r.res a h).2⟩⟩
  rw [upd_ne fun e => no ⟨i, (List.getElem?_eq_some_iff.mp h).1, e.symm⟩]
  exact hu
/-- a reserved object becomes a cell -/
theorem cell_over {p : Addr} {c : Cell} {n1 : Nat} {H1 : Hp} {μ1 : Nat → Addr} (h1 : H1 p = none) (hr : ¬ R p) (s : Sp1 μ1 n1 H1 μ S.length H) (rs : RS K (more R p) H μ S) (hc : CelR K (more R p) H μ S.length p c) (hb : c.lowb S.length = true) :
    Sp1 μ1 n1 H1 (ext μ S.length p) (S ++ [c]).length H ∧ RS K R H (ext μ S.length p) (S ++ [c]) ∧ DR K R H (ext μ S.length p) (S ++ [c]).length (.ref p) (.loc S.length) := by
  have no : ¬ Own μ S.length p := (rs.res p (.inr rfl)).2
  have hl : (S ++ [c]).length = S.length + 1 := by simp
  have lt1 : ∀ j, j < S.length → ext μ S.length p j = μ j := fun j hj => ext_lt hj
  have at1 : ext μ S.length p S.length = p := ext_at
  have own1 : ∀ a, Own (ext μ S.length p) (S.length + 1) a → Own μ S.length a ∨ a = p := fun a ⟨j, hj, e⟩ => by
    by_cases hjn : j = S.length
    · exact .inr (by rw [e, hjn, at1])
    · exact .inl ⟨j, by omega, by rw [e, lt1 j (by omega)]⟩
  have l2 : Le H (Av (more R p) μ S.length) H (Av R (ext μ S.length p) (S.length + 1)) := ⟨fun _ _ q _ => q, fun a z => .inl (z.elim (fun q => (own1 a q).elim .inl fun e => .inr (.inr e)) fun q => .inr (.inl q)), fun _ _ q => q, fun _ _ _ q => q⟩
  have ne1 : ∀ j, j < S.length → μ j ≠ p := fun j hj e => no ⟨j, hj, e.symm⟩
  refine ⟨?_, ⟨fun j k hj hk e => ?_, fun j d hd => ?_, fun j d hd => ?_, fun a ha => ⟨(rs.res a (.inl ha)).1, fun z => ?_⟩⟩, ?_⟩
  · rw [hl]
    exact ⟨Nat.le_succ_of_le s.le, fun j hj => (lt1 j (Nat.lt_of_lt_of_le hj s.le)).trans (s.same j hj), ⟨s.hp.keep, fun a z => (own1 a z).elim (s.hp.own a) fun e => .inr (by rw [e]; exact h1), s.hp.tups, s.hp.frzs⟩⟩
  · rw [hl] at hj hk
    by_cases ej : j = S.length
    · by_cases ek : k = S.length
      · rw [ej, ek]
      · rw [ej, at1, lt1 k (by omega)] at e
        exact absurd e.symm (ne1 k (by omega))
    · by_cases ek : k = S.length
      · rw [ek, at1, lt1 j (by omega)] at e
        exact absurd e (ne1 j (by omega))
      · rw [lt1 j (by omega), lt1 k (by omega)] at e
        exact rs.inj j k (by omega) (by omega) e
  · rw [hl]
    by_cases hj : j < S.length
    · rw [List.getElem?_append_left hj] at hd
      rw [lt1 j hj]
      exact CelR.re l2 lt1 (Nat.le_succ _) (fun _ q => q) (rs.cell j d hd)
    · have hjl := (List.getElem?_eq_some_iff.mp hd).1
      rw [hl] at hjl
      have ej : j = S.length := by omega
      subst ej
      rw [List.getElem?_append_right (Nat.le_refl _), Nat.sub_self] at hd
      cases hd
      rw [at1]
      exact CelR.re l2 lt1 (Nat.le_succ _) (fun _ q => q) hc
  · by_cases hj : j < S.length
    · rw [List.getElem?_append_left hj] at hd
      exact rs.low j d hd
    · have hjl := (List.getElem?_eq_some_iff.mp hd).1
      rw [hl] at hjl
      have ej : j = S.length := by omega
      subst ej
      rw [List.getElem?_append_right (Nat.le_refl _), Nat.sub_self] at hd
      cases hd
      exact hb
  · rw [hl] at z
    rcases own1 a z with z | z
    · exact (rs.res a (.inl ha)).2 z
    · rw [z] at ha; exact hr ha
  · have dl : DR K R H (ext μ S.length p) (S ++ [c]).length (.ref (ext μ S.length p S.length)) (.loc S.length) := .loc (by rw [hl]; exact Nat.lt_succ_self _)
    rw [at1] at dl
    exact dl
end

/-! ### dicts with keys ints and texts -/
def keyOf : D → Option Key
  | .p (.int i) => some (.inl i)
  | .p (.str x) => some (.inr x)
  | _ => none
def keyD : Key → PyData
  | .inl i => .int i
  | .inr x => .str x
def pairsM : List (EM × EM) → Envr → Sto → Ot (List (Key × D))
  | [], _, S => .ok [] S
  | (k, v) :: r, env, S => (k env S).bind fun dk S1 => (v env S1).bind fun dv S2 => match keyOf dk with
    | none => .bad
    | some y => (pairsM r env S2).bind fun l S3 => .ok ((y, dv) :: l) S3
def mkDict (mu : Bool) (l : List (Key × D)) (S : Sto) : Ot D := if (l.map (·.1)).Nodup ∧ l.length ≤ 15 then (if mu = true then .ok (.loc S.length) (S ++ [.dk l]) else match plains (l.map (·.2)) with
  | some _ => .bad
  | none => .bad) else .bad
def eDict (mu : Bool) (ps : List (EM × EM)) : EM := fun env S => (pairsM ps env S).bind (mkDict mu)
section
variable {K : PySem.W.Frag} {R R' : Addr → Prop} {mg : Str → Option Value} {W : WX} {μ μ' : Nat → Addr} {H H' : Hp} {S S' : Sto} {σ : L2.St} {env : Envr} {n n' : Nat}
theorem keyOf_v {v : V} {d : D} {k : Key} (h : DR K R H μ n v d) (e : keyOf d = some k) : v = kV k := by
  unfold keyOf at e
  split at e
  · cases e; exact dr_int h
  · cases e; exact dr_str h
  · cases e
/-- the pairs -/
theorem tpairs_ok {te' : EM → TE} (hte : te' = te K mg W) : ∀ (ps : List (EM × EM)) (σ : L2.St) (H : Hp) (P : List (V × V) → Hp → Prop) (R : Addr → Prop) (μ : Nat → Addr) (env : Envr) (S : Sto) (vs : List V) (ds : List D), RL K R μ H S σ env vs ds →
    Pg K mg W R μ S H σ env (pairsM ps env S) (fun μ' H' S' l => ∀ (kvs : List (Key × V)), kvs.map (·.1) = l.map (·.1) → DRs K R H' μ' S'.length (kvs.map (·.2)) (l.map (·.2)) → P (kvs.map fun kv => (kV kv.1, kv.2)) H') →
    tPairs (ps.map fun q => (te' q.1, te' q.2)) σ H P := by
  subst hte
  intro ps
  induction ps with
  | nil =>
    intro σ H P R μ env S vs ds r h
    exact (pg_ok h r.rs) [] rfl .nil
  | cons q ps ih =>
    intro σ H P R μ env S vs ds r h
    refine ⟨R, μ, env, S, r.drop, ?_⟩
    refine po_mono (po_bind r h) fun x H1 ⟨μ1, S1, d1, r1, h1⟩ => ⟨R, μ1, env, S1, r1.drop, ?_⟩
    refine po_mono (po_bind r1 h1) fun y H2 ⟨μ2, S2, d2, r2, h2⟩ => ?_
    cases e : keyOf d1 with
    | none => rw [e] at h2; exact h2.elim
    | some k =>
      rw [e] at h2
      dsimp only at h2
      refine ih σ H2 _ R μ2 env S2 _ _ r2 (pg_mono (pg_bind h2) fun μ3 H3 S3 l s3 rs3 p kvs hk hd => ?_)
      obtain ⟨y', ws, e1, hy, t1⟩ := drs_cons (r2.mono s3 rs3).tm
      cases e1
      obtain ⟨x', ws', e2, hx, t2⟩ := drs_cons t1
      cases e2
      have := (pg_ok p rs3) ((k, y) :: kvs) (by rw [List.map_cons, List.map_cons, hk]) (by rw [List.map_cons, List.map_cons]; exact .cons hy hd)
      rw [keyOf_v hx e]
      exact this
theorem putK_new {kvs : List (Key × V)} {k : Key} {v : V} (h : k ∉ kvs.map (·.1)) : putK kvs k v = kvs ++ [(k, v)] := by
  unfold putK
  rw [if_neg]
  intro z
  obtain ⟨q, hq, e⟩ := List.any_eq_true.mp z
  exact h (List.mem_map.mpr ⟨q, hq, of_decide_eq_true e⟩)
theorem merge_nodup : ∀ (more acc : List (Key × V)), ((acc ++ more).map (·.1)).Nodup → mergeK acc more = acc ++ more
  | [], acc, _ => by unfold mergeK; rw [List.append_nil]; rfl
  | q :: more, acc, h => by
    have hq : q.1 ∉ acc.map (·.1) := by
      rw [List.map_append, List.map_cons] at h
      intro z
      exact (List.nodup_append.mp h).2.2 q.1 z q.1 List.mem_cons_self rfl
    show mergeK (putK acc q.1 q.2) more = _
    rw [putK_new hq, merge_nodup more (acc ++ [(q.1, q.2)]) (by rw [List.append_assoc]; exact h), List.append_assoc]
    rfl
end
section
variable {X : Cx} {W : WX} {pos : Pos} {keys : List (Option Expr)} {values : List Expr} {ps : List (EM × EM)} {mu : Bool}
theorem mp_nil : PPs X pos [] [] (([] : List (EM × EM)).map fun q => (te X.K X.mg W q.1, te X.K X.mg W q.2)) := pps_nil
theorem mp_cons {k v : Expr} {ks : List (Option Expr)} {vs : List Expr} {mk mv : EM} (hk : PE X k (te X.K X.mg W mk)) (hv : PE X v (te X.K X.mg W mv)) (hr : PPs X pos ks vs (ps.map fun q => (te X.K X.mg W q.1, te X.K X.mg W q.2))) :
    PPs X pos (some k :: ks) (v :: vs) (((mk, mv) :: ps).map fun q => (te X.K X.mg W q.1, te X.K X.mg W q.2)) := pps_cons hk hv hr
theorem me_dict (h : PPs X pos keys values (ps.map fun q => (te X.K X.mg W q.1, te X.K X.mg W q.2))) (hall : keys.all (·.isSome) = true := by rfl) (hl : keys.length = values.length := by rfl) (h0 : keys ≠ [] := by exact fun z => nomatch z) (h15 : keys.length ≤ 15 := by decide) :
    PE X (.Dict keys values pos) (te X.K X.mg W (eDict mu ps)) := by
  refine (pe_disp h hall hl h0 h15).w fun σ H Q ⟨R, μ, env, S, r, h⟩ => ?_
  intro p hp
  have nR : ¬ R p := fun z => (r.rs.res p z).1 hp
  have r1 : RL X.K (more R p) μ (upd H p (.dK [])) S σ env [] [] := ⟨rs_more hp r.rs, r.en.re (le_more hp) (fun _ _ => rfl) (Nat.le_refl _), .nil⟩
  have q := pg_bind h
  have hnot : ∀ (o : Ot (List (Key × D))) , o = pairsM ps env S → tPairs (ps.map fun q => (te X.K X.mg W q.1, te X.K X.mg W q.2)) σ (upd H p (.dK [])) fun ps' H2 => H2 p = some (.dK []) ∧ ∃ kvs : List (Key × V), ps' = kvs.map (fun kv => (kV kv.1, kv.2)) ∧ kvs.length ≤ 15 ∧ Q (.ref p) (upd H2 p (.dK (mergeK [] kvs))) := by
    intro o ho
    refine tpairs_ok rfl ps σ _ _ (more R p) μ env S [] [] r1 ?_
    rw [← ho] at q ⊢
    cases o with
    | bad => exact q
    | err e S1 =>
      intro μ' H' cls dd s1 rl er
      have s0 : Sp1 μ S.length H μ' S1.length H' := (sp_new (n := S.length) hp).trans s1
      refine q μ' H' cls dd s0 ⟨rs_less rl.rs, rl.en.re le_less (fun _ _ => rfl) (Nat.le_refl _), .nil⟩ ?_
      obtain ⟨e1, d, fs, e2, e3, e4, e5⟩ := er
      exact ⟨e1, d, fs, e2, e3, e4, e5.mono le_less⟩
    | ok l S1 =>
      intro μ' H' s1 rs1 kvs hk hd
      have s0 : Sp1 μ S.length H μ' S1.length H' := (sp_new (n := S.length) hp).trans s1
      have hp1 : H' p = some (.dK []) := s1.hp.keep p _ upd_same (r1.rs.res p (.inr rfl)).2
      have q1 : Po X.K X.mg W R μ S H σ env (mkDict mu l S1) Q := by
        have h' : Po X.K X.mg W R μ S H σ env ((pairsM ps env S).bind (mkDict mu)) Q := h
        rw [← ho] at h'
        exact h'
      have hlen : kvs.length = l.length := by
        have := congrArg List.length hk
        rw [List.length_map, List.length_map] at this
        exact this
      unfold mkDict at q1
      by_cases hz : (l.map (·.1)).Nodup ∧ l.length ≤ 15
      · rw [if_pos hz] at q1
        refine ⟨hp1, kvs, rfl, by omega, ?_⟩
        have em : mergeK [] kvs = kvs := merge_nodup kvs [] (by rw [List.nil_append, hk]; exact hz.1)
        rw [em]
        have l6 : Le H' (Av (more R p) μ' S1.length) (upd H' p (.dK kvs)) (Av (more R p) μ' S1.length) := le_resG (.inr rfl) hp1 (fun _ z => nomatch z) (fun _ _ z => nomatch z)
        have rs6 : RS X.K (more R p) (upd H' p (.dK kvs)) μ' S1 := rs_resG (.inr rfl) hp1 (fun _ z => nomatch z) (fun _ _ z => nomatch z) rs1
        have s6 : Sp1 μ S.length H μ' S1.length (upd H' p (.dK kvs)) := sp_res hp s0
        have d6 := DRs.re l6 (fun _ _ => rfl) (Nat.le_refl _) hd
        cases mu with
        | true =>
          rw [if_pos rfl] at q1
          obtain ⟨g1, g2, g3⟩ := cell_over (c := .dk l) hp nR s6 rs6 ⟨kvs, upd_same, hk, d6⟩ hd.lowb
          exact q1 _ _ g1 g2 _ g3
        | false =>
          rw [if_neg Bool.false_ne_true] at q1
          cases e : plains (l.map (·.2)) with
          | none => rw [e] at q1; exact q1.elim
          | some ds =>
            rw [e] at q1
            exact q1.elim
      · rw [if_neg hz] at q1
        exact q1.elim
  exact hnot _ rfl
end
/-- d[k] of a cell -/
def dval {κ : Type} [DecidableEq κ] (kds : List (κ × D)) (k : κ) : Option D := (kds.find? fun q => decide (q.1 = k)).map (·.2)
def dput {κ : Type} [DecidableEq κ] (kds : List (κ × D)) (k : κ) (d : D) : List (κ × D) :=
  if (kds.any fun q => decide (q.1 = k)) = true then kds.map (fun q => if q.1 = k then (q.1, d) else q) else kds ++ [(k, d)]
end Mi

/-! Mi10 -/
set_option Elab.async false
set_option linter.all false
set_option maxRecDepth 100000
set_option maxHeartbeats 1000000
set_option autoImplicit false
namespace Mi
open PySem PySem.Spec PyProof.Rows L2

def cellK (S : Sto) (i : Nat) : Option (List (Key × D)) := match S[i]? with
  | some (.dk xs) => some xs
  | _ => none
theorem cellK_some {S : Sto} {i : Nat} {xs : List (Key × D)} (h : cellK S i = some xs) : S[i]? = some (.dk xs) := by
  unfold cellK at h
  split at h
  · rename_i e
    cases h
    exact e
  · cases h
section
variable {K : PySem.W.Frag} {R R' : Addr → Prop} {mg : Str → Option Value} {W : WX} {μ μ' : Nat → Addr} {H H' : Hp} {S S' : Sto} {σ : L2.St} {env : Envr} {n n' : Nat} {κ : Type} [DecidableEq κ]
theorem dkv_cons {p : κ × V} {kvs : List (κ × V)} {q : κ × D} {kds : List (κ × D)} (h : DKv K R H μ n (p :: kvs) (q :: kds)) : p.1 = q.1 ∧ DR K R H μ n p.2 q.2 ∧ DKv K R H μ n kvs kds := by
  obtain ⟨h1, h2⟩ := h
  rw [List.map_cons, List.map_cons] at h1 h2
  obtain ⟨e1, e2⟩ := List.cons.inj h1
  cases h2 with
  | cons a b => exact ⟨e1, a, e2, b⟩
theorem dval_ok : ∀ {kvs : List (κ × V)} {kds : List (κ × D)} {k : κ} {d : D}, DKv K R H μ n kvs kds → dval kds k = some d → ∃ v, valV kvs k = some v ∧ DR K R H μ n v d
  | [], [], _, _, _, e => by cases e
  | [], _ :: _, _, _, h, _ => by cases h.2
  | _ :: _, [], _, _, h, _ => by cases h.2
  | p :: kvs, q :: kds, k, d, h, e => by
    obtain ⟨h1, h2, h3⟩ := dkv_cons h
    by_cases hk : q.1 = k
    · have e' : dval (q :: kds) k = some q.2 := by simp [dval, List.find?_cons, hk]
      rw [e'] at e
      cases e
      exact ⟨p.2, valV_pos (h1.trans hk), h2⟩
    · have e' : dval (q :: kds) k = dval kds k := by simp [dval, List.find?_cons, hk]
      rw [e'] at e
      obtain ⟨v, g1, g2⟩ := dval_ok h3 e
      exact ⟨v, by rw [valV_neg (fun z => hk (h1.symm.trans z))]; exact g1, g2⟩
theorem dval_none : ∀ {kvs : List (κ × V)} {kds : List (κ × D)} {k : κ}, DKv K R H μ n kvs kds → dval kds k = none → valV kvs k = none
  | [], [], _, _, _ => rfl
  | [], _ :: _, _, h, _ => by cases h.2
  | _ :: _, [], _, h, _ => by cases h.2
  | p :: kvs, q :: kds, k, h, e => by
    obtain ⟨h1, h2, h3⟩ := dkv_cons h
    by_cases hk : q.1 = k
    · have e' : dval (q :: kds) k = some q.2 := by simp [dval, List.find?_cons, hk]
      rw [e'] at e
      cases e
    · have e' : dval (q :: kds) k = dval kds k := by simp [dval, List.find?_cons, hk]
      rw [e'] at e
      rw [valV_neg (fun z => hk (h1.symm.trans z))]
      exact dval_none h3 e
theorem dkv_any {k : κ} : ∀ {kvs : List (κ × V)} {kds : List (κ × D)}, kvs.map (·.1) = kds.map (·.1) → (kvs.any fun q => decide (q.1 = k)) = (kds.any fun q => decide (q.1 = k))
  | [], [], _ => rfl
  | [], _ :: _, h => by cases h
  | _ :: _, [], h => by cases h
  | p :: kvs, q :: kds, h => by
    rw [List.map_cons, List.map_cons] at h
    obtain ⟨e1, e2⟩ := List.cons.inj h
    rw [List.any_cons, List.any_cons, e1, dkv_any e2]
theorem dkv_map {k : κ} {v : V} {d : D} (hd : DR K R H μ n v d) : ∀ {kvs : List (κ × V)} {kds : List (κ × D)}, DKv K R H μ n kvs kds →
    DKv K R H μ n (kvs.map fun kv => if kv.1 = k then (kv.1, v) else kv) (kds.map fun q => if q.1 = k then (q.1, d) else q)
  | [], [], _ => ⟨rfl, .nil⟩
  | [], _ :: _, h => by cases h.2
  | _ :: _, [], h => by cases h.2
  | p :: kvs, q :: kds, h => by
    obtain ⟨h1, h2, h3⟩ := dkv_cons h
    obtain ⟨g1, g2⟩ := dkv_map (k := k) hd h3
    rw [List.map_cons, List.map_cons]
    by_cases e : p.1 = k
    · rw [if_pos e, if_pos (h1.symm.trans e)]
      exact ⟨by rw [List.map_cons, List.map_cons, g1, h1], by rw [List.map_cons, List.map_cons]; exact .cons hd g2⟩
    · rw [if_neg e, if_neg (fun z => e (h1.trans z))]
      exact ⟨by rw [List.map_cons, List.map_cons, g1, h1], by rw [List.map_cons, List.map_cons]; exact .cons h2 g2⟩
theorem dput_ok {kvs : List (κ × V)} {kds : List (κ × D)} {k : κ} {v : V} {d : D} (h : DKv K R H μ n kvs kds) (hd : DR K R H μ n v d) : DKv K R H μ n (putK kvs k v) (dput kds k d) := by
  unfold putK dput
  rw [dkv_any (k := k) h.1]
  by_cases c : (kds.any fun q => decide (q.1 = k)) = true
  · rw [if_pos c, if_pos c]
    exact dkv_map hd h
  · rw [if_neg c, if_neg c]
    exact ⟨by rw [List.map_append, List.map_append, h.1]; rfl, by rw [List.map_append, List.map_append]; exact h.2.append (.cons hd .nil)⟩
theorem dput_lowb {kds : List (κ × D)} {k : κ} {d : D} {i : Nat} (h : (kds.map (·.2)).all (D.lowb i) = true) (hd : d.lowb i = true) : ((dput kds k d).map (·.2)).all (D.lowb i) = true := by
  refine List.all_eq_true.mpr fun x hx => ?_
  have h' := List.all_eq_true.mp h
  unfold dput at hx
  split at hx
  · rw [List.map_map] at hx
    obtain ⟨q, hq, e⟩ := List.mem_map.mp hx
    dsimp only [Function.comp] at e
    by_cases c : q.1 = k
    · rw [if_pos c] at e
      rw [← e]
      exact hd
    · rw [if_neg c] at e
      rw [← e]
      exact h' _ (List.mem_map.mpr ⟨q, hq, rfl⟩)
  · rw [List.map_append] at hx
    rcases List.mem_append.mp hx with z | z
    · exact h' _ z
    · have : x = d := by simpa using z
      rw [this]
      exact hd
end
/-- d[k] -/
def dgD : D → D → Sto → Ot D
  | .loc i, y, S => match cellK S i, keyOf y with
    | some kds, some k => match dval kds k with
      | some d => .ok d S
      | none => .bad
    | _, _ => .bad
  | _, _, _ => .bad
/-- k in d -/
def dinD (neg : Bool) : D → D → Sto → Ot D
  | y, .loc i, S => match cellK S i, keyOf y with
    | some kds, some k => .ok (.p (.bool (if neg = true then !(dval kds k).isSome else (dval kds k).isSome))) S
    | _, _ => .bad
  | _, _, _ => .bad
/-- d[k] = v -/
def dpD : D → D → D → Sto → Option Sto
  | .loc i, y, v, S => match cellK S i, keyOf y with
    | some kds, some k => if kds.length < sizeLine ∧ v.lowb i = true then some (S.set i (.dk (dput kds k v))) else none
    | _, _ => none
  | _, _, _, _ => none
def sDput (mo mk mv : EM) : SM := fun env S => (mv env S).then env fun v S1 => (mo env S1).then env fun o S2 => (mk env S2).then env fun y S3 => match dpD o y v S3 with
  | some S4 => .nx env S4
  | none => .bad
section
variable {X : Cx} {W : WX} {o i value : Expr} {mo mk mv : EM} {pos pos' : Pos} {k : Nat}
theorem me_dget (hr : Room k X.A) (ho : PE X o (te X.K X.mg W mo)) (hi : PE X i (te X.K X.mg W mk)) (hs : NoSl i := by intro _ _; rfl) : PE X (.Subscript o i pos) (te X.K X.mg W (eOp dgD mo mk)) := by
  refine (pe_dget (hu_of hr) ho hi hs).w fun σ H Q ⟨R, μ, env, S, r, h⟩ => ⟨R, μ, env, S, r, ?_⟩
  refine po_mono (po_bind r h) fun x H1 ⟨μ1, S1, d1, r1, h1⟩ => ⟨R, μ1, env, S1, r1.drop, ?_⟩
  refine po_mono (po_bind r1 h1) fun y H2 ⟨μ2, S2, d2, r2, h2⟩ => ?_
  obtain ⟨y', ws, e1, hy, t1⟩ := drs_cons r2.tm
  cases e1
  obtain ⟨x', ws', e2, hx, _⟩ := drs_cons t1
  cases e2
  unfold dgD at h2
  split at h2
  · rename_i j y2 S3
    obtain ⟨rfl, hj⟩ := dr_loc hx
    split at h2
    · rename_i kds kk e3 e4
      split at h2
      · rename_i d e5
        obtain ⟨kvs, g1, g2⟩ := r2.rs.cell _ _ (cellK_some e3)
        obtain ⟨v, f1, f2⟩ := dval_ok g2 e5
        refine ⟨_, v, rfl, ?_, po_ok h2 r2.rs f2⟩
        rw [keyOf_v hy e4, ← f1]
        exact DGet.k g1
      · exact h2.elim
    · exact h2.elim
  · exact h2.elim
theorem dput_run {σ : L2.St} {env : Envr} {R : Addr → Prop} {μ : Nat → Addr} {H : Hp} {S S4 : Sto} {x y v : V} {dx dy dv : D} (rs : RS X.K R H μ S) (hx : DR X.K R H μ S.length x dx) (hy : DR X.K R H μ S.length y dy) (hv : DR X.K R H μ S.length v dv) (e : dpD dx dy dv S = some S4) :
    ∃ a H4, x = .ref a ∧ DPut H a y v H4 ∧ Sp1 μ S.length H μ S4.length H4 ∧ RS X.K R H4 μ S4 := by
  cases hx with
  | p _ => cases e
  | scr _ => cases e
  | @loc j hj =>
    unfold dpD at e
    dsimp only at e
    split at e
    · rename_i kds kk e3 e4
      split at e
      · rename_i hz
        cases e
        obtain ⟨kvs, g1, g2⟩ := rs.cell _ _ (cellK_some e3)
        have hlen : kvs.length = kds.length := by
          have := congrArg List.length g2.1
          rw [List.length_map, List.length_map] at this
          exact this
        have sp : Sp1 μ S.length H μ S.length (upd H (μ j) (.dK (putK kvs kk v))) := le_cell hj (fun ob u q => by rw [g1] at q; cases q) (fun u q => by rw [g1] at q; cases q)
        refine ⟨_, _, rfl, by rw [keyOf_v hy e4]; exact DPut.k g1 (by rw [hlen]; exact hz.1), by rw [List.length_set]; exact sp, rs_set rs (cellK_some e3) sp ⟨_, upd_same, (dput_ok g2 hv).mono sp⟩ ?_⟩
        exact dput_lowb (rs.low _ _ (cellK_some e3)) hz.2
      · cases e
    · cases e
theorem ms_dput (hr : Room k X.A) (ho : PE X o (te X.K X.mg W mo)) (hi : PE X i (te X.K X.mg W mk)) (hv : PE X value (te X.K X.mg W mv)) (hs : swapsWith value (some (.Subscript o i pos')) pos.line X.env = pure false := by rfl) :
    PS X (.Assign [.Subscript o i pos'] value pos) (ts X.K X.mg W (sDput mo mk mv)) := by
  refine (ps_dput (hu_of hr) ho hi hv hs).w fun D σ H ⟨R, μ, env, S, r, h⟩ => ⟨R, μ, env, S, r, ?_⟩
  refine pg_mono (pz_then h) fun μ1 H1 S1 dv s1 rs1 q1 v drv => ⟨R, μ1, env, S1, r.mono s1 rs1, ?_⟩
  refine pg_mono (pz_then q1) fun μ2 H2 S2 dx s2 rs2 q2 x drx => ⟨R, μ2, env, S2, (r.mono s1 rs1).mono s2 rs2, ?_⟩
  refine pg_mono (pz_then q2) fun μ3 H3 S3 dy s3 rs3 q3 y dry => ?_
  cases e : dpD dx dy dv S3 with
  | none => rw [e] at q3; exact q3.elim
  | some S4 =>
    rw [e] at q3
    obtain ⟨a, H4, e1, e2, s4, rs4⟩ := dput_run (σ := σ) (env := env) rs3 (drx.mono s3) dry ((drv.mono s2).mono s3) e
    have r4 : RL X.K R μ3 H4 S4 σ env [] [] := (((r.mono s1 rs1).mono s2 rs2).mono s3 rs3).mono s4 rs4
    exact ⟨a, H4, e1, e2, q3 μ3 H4 σ s4 r4⟩
theorem mc_din (hr : Room k X.A) (hi : PE X i (te X.K X.mg W mk)) (ho : PE X o (te X.K X.mg W mo)) : PC X .In i o (te X.K X.mg W (eOp (dinD false) mk mo)) := by
  refine ⟨fun pins s σ H Q I h => (pc_din (hu_of hr) hi ho).run pins s σ H Q I ?_⟩
  obtain ⟨R, μ, env, S, r, h⟩ := h
  refine ⟨R, μ, env, S, r, ?_⟩
  refine po_mono (po_bind r h) fun y H1 ⟨μ1, S1, d1, r1, h1⟩ => ⟨R, μ1, env, S1, r1.drop, ?_⟩
  refine po_mono (po_bind r1 h1) fun x H2 ⟨μ2, S2, d2, r2, h2⟩ => ?_
  obtain ⟨x', ws, e1, hx, t1⟩ := drs_cons r2.tm
  cases e1
  obtain ⟨y', ws', e2, hy, _⟩ := drs_cons t1
  cases e2
  unfold dinD at h2
  split at h2
  · obtain ⟨rfl, hj⟩ := dr_loc hx
    split at h2
    · rename_i kds kk e3 e4
      rw [if_neg Bool.false_ne_true] at h2
      obtain ⟨kvs, g1, g2⟩ := r2.rs.cell _ _ (cellK_some e3)
      refine ⟨_, valV kvs kk, rfl, by rw [keyOf_v hy e4]; exact DGet.k g1, ?_⟩
      have ei : (valV kvs kk).isSome = (dval kds kk).isSome := by
        cases e5 : dval kds kk with
        | none => rw [dval_none g2 e5] <;> rfl
        | some d => obtain ⟨v, f1, _⟩ := dval_ok g2 e5; rw [f1] <;> rfl
      rw [ei]
      exact po_ok h2 r2.rs (.p (.bl _))
    · exact h2.elim
  · exact h2.elim
theorem mc_dnotin (hr : Room k X.A) (hi : PE X i (te X.K X.mg W mk)) (ho : PE X o (te X.K X.mg W mo)) : PC X .NotIn i o (te X.K X.mg W (eOp (dinD true) mk mo)) := by
  refine ⟨fun pins s σ H Q I h => (pc_dnotin (hu_of hr) hi ho).run pins s σ H Q I ?_⟩
  obtain ⟨R, μ, env, S, r, h⟩ := h
  refine ⟨R, μ, env, S, r, ?_⟩
  refine po_mono (po_bind r h) fun y H1 ⟨μ1, S1, d1, r1, h1⟩ => ⟨R, μ1, env, S1, r1.drop, ?_⟩
  refine po_mono (po_bind r1 h1) fun x H2 ⟨μ2, S2, d2, r2, h2⟩ => ?_
  obtain ⟨x', ws, e1, hx, t1⟩ := drs_cons r2.tm
  cases e1
  obtain ⟨y', ws', e2, hy, _⟩ := drs_cons t1
  cases e2
  unfold dinD at h2
  split at h2
  · obtain ⟨rfl, hj⟩ := dr_loc hx
    split at h2
    · rename_i kds kk e3 e4
      rw [if_pos rfl] at h2
      obtain ⟨kvs, g1, g2⟩ := r2.rs.cell _ _ (cellK_some e3)
      refine ⟨_, valV kvs kk, rfl, by rw [keyOf_v hy e4]; exact DGet.k g1, ?_⟩
      have ei : (valV kvs kk).isSome = (dval kds kk).isSome := by
        cases e5 : dval kds kk with
        | none => rw [dval_none g2 e5] <;> rfl
        | some d => obtain ⟨v, f1, _⟩ := dval_ok g2 e5; rw [f1] <;> rfl
      rw [ei]
      exact po_ok h2 r2.rs (.p (.bl _))
    · exact h2.elim
  · exact h2.elim
end
/-- d = {}: a cell -/
def eNewK : EM := fun _ S => .ok (.loc S.length) (S ++ [.dk []])
theorem new_cell {K : PySem.W.Frag} {R : Addr → Prop} {mg : Str → Option Value} {W : WX} {μ : Nat → Addr} {H : Hp} {S : Sto} {σ : L2.St} {env : Envr} {Q : VK} {p : Addr} {o : HO} {c : Cell} (rs : RS K R H μ S) (hp : H p = none)
    (hc : ∀ μ' n, Sp1 μ S.length H μ' n (upd H p o) → CelR K R (upd H p o) μ' n p c) (hb : c.lowb S.length = true) (h : Po K mg W R μ S H σ env (.ok (.loc S.length) (S ++ [c])) Q) : Q (.ref p) (upd H p o) := by
  have hl : (S ++ [c]).length = S.length + 1 := by simp
  have s2 : Sp1 μ S.length H (ext μ S.length p) (S ++ [c]).length (upd H p o) := by rw [hl]; exact sp_cell hp
  have d2 : DR K R (upd H p o) (ext μ S.length p) (S ++ [c]).length (.ref (ext μ S.length p S.length)) (.loc S.length) := .loc (by rw [hl]; exact Nat.lt_succ_self _)
  rw [ext_at] at d2
  exact h _ _ s2 (rs_cell hp rs (hc _ _ s2) hb) _ d2
theorem me_newK {X : Cx} {W : WX} {pos : Pos} : PE X (.Dict [] [] pos) (te X.K X.mg W eNewK) := pe_dnewK.w fun σ H Q ⟨R, μ, env, S, r, h⟩ p hp =>
  new_cell (c := .dk []) r.rs hp (fun μ' n _ => ⟨[], upd_same, rfl, .nil⟩) rfl h
end Mi

/-! Mi11 -/
set_option Elab.async false
set_option linter.all false
set_option maxRecDepth 100000
set_option maxHeartbeats 1000000
set_option autoImplicit false
namespace Mi
open PySem PySem.Spec PyProof.Rows L2

/-! ### isinstance of built-in types -/
inductive Ty0 where
  | non | bl | int | str | lst | tup | dct
  deriving DecidableEq
def Ty0.nm : Ty0 → String
  | .non => "NoneType" | .bl => "bool" | .int => "int" | .str => "str" | .lst => "list" | .tup => "tuple" | .dct => "dict"
def tyP : PyData → Option Ty0
  | .none => some .non | .bool _ => some .bl | .int _ => some .int | .str _ => some .str | .list _ => some .lst | .tuple _ => some .tup | .dict ((.none, _) :: _) => some .tup | .dict ((.bool true, _) :: _) => some .tup | .dict ((.bool false, _) :: _) => none | .dict _ => some .dct
def tyC : Cell → Option Ty0
  | .lst _ => some .lst | .dk _ => some .dct | .dt _ => some .dct | .ins _ _ => none
def tyD : D → Sto → Option Ty0
  | .p d, _ => tyP d
  | .scr _, _ => some .lst
  | .loc i, S => (S[i]?).bind tyC
def isiB (a b : Ty0) : Bool := decide (a = b) || (decide (a = .bl) && decide (b = .int))
theorem kit_all : ∀ a b : Ty0, b ≠ .non → L2.kitB a.nm b.nm = some (isiB a b) := by
  intro a b h
  cases b <;> first | exact absurd rfl h | (cases a <;> decide +kernel)
def isiF (b : Ty0) : D → Sto → Ot D := fun d S => match tyD d S with
  | some a => .ok (.p (.bool (isiB a b))) S
  | none => .bad
def eIsi (b : Ty0) (m : EM) : EM := fun env S => (m env S).bind (isiF b)
section
variable {X : Cx} {W : WX} {e : Expr} {m : EM} {p p2 pos : Pos}
theorem tyx_of {K : PySem.W.Frag} {R : Addr → Prop} {H : Hp} {μ : Nat → Addr} {S : Sto} {v : V} {d : D} {a : Ty0} (rs : RS K R H μ S) (h : DR K R H μ S.length v d) (e : tyD d S = some a) : TyX K H v (.type a.nm) := by
  cases h with
  | p h =>
    cases h with
    | non => cases e; exact .base .non
    | bl b => cases e; exact .base (.bl b)
    | int i => cases e; exact .base (.int i)
    | str x => cases e; exact .base (.str x)
    | lst h1 _ _ => cases e; exact .base (.lst h1)
    | wk h1 _ _ => cases e; exact .base (.tup h1)
    | wkn h1 _ => cases e; exact .base (.tup h1)
    | dk0 h1 _ => cases e; exact .base (.dK h1)
    | dk1 h1 _ _ => cases e; exact .base (.dK h1)
    | dks h1 _ _ => cases e; exact .base (.dK h1)
    | ex0 _ _ _ => cases e
    | exn _ _ _ _ _ _ _ => cases e
    | tup h1 _ =>
      cases e
      obtain ⟨o, h1, _⟩ := h1
      exact .fTuple h1
  | scr h =>
    cases e
    rcases h with ⟨o, h⟩ | ⟨o, its, n, h1, h2, _⟩
    · exact .base (.frz h)
    · exact .kList h1 h2
  | @loc i h =>
    have e0 : S[i]? = some S[i] := by simp [h]
    have e' : (S[i]?).bind tyC = some a := e
    rw [e0] at e'
    have e2 : tyC S[i] = some a := e'
    have hc := rs.cell i _ e0
    cases hq : S[i] with
    | lst xs => rw [hq] at hc e2; cases e2; obtain ⟨vs, g, _⟩ := hc; exact .base (.lst g)
    | dk xs => rw [hq] at hc e2; cases e2; obtain ⟨vs, g, _⟩ := hc; exact .base (.dK g)
    | dt xs => rw [hq] at hc e2; cases e2; obtain ⟨vs, g, _⟩ := hc; exact .base (.dT g)
    | ins nm xs => rw [hq] at e2; cases e2
theorem me_isi (b : Ty0) {tn : Str} (hb : b ≠ .non) (hm : X.mg "isinstance" = none) (hmT : X.mg tn = none) (hvT : bootBuiltins tn = some (.type b.nm)) (he : PE X e (te X.K X.mg W m)) (hg : Gl X "isinstance" := by rfl) (hgT : Gl X tn := by rfl) (hnT : tn ≠ "__name__" := by decide) (hdT : (tn == ("__debug__" : Str)) = false := by decide)
    (hs : starEach [e, .Name tn p2] X.env = (false, eval e X.env) :: starEach [.Name tn p2] X.env := by rfl) (hs2 : starEach [.Name tn p2] X.env = (false, eval (.Name tn p2) X.env) :: starEach [] X.env := by rfl) (hpl : (backTo pos (starEach [.Name tn p2] X.env)).any (·.1) = false := by rfl) :
    PE X (.Call (.Name "isinstance" p) [e, .Name tn p2] [] pos) (te X.K X.mg W (eIsi b m)) := by
  refine (pe_callB call_isi hg hm boot_isinstance (pa_cons he (pa_cons (pe_bltn (v := .ty b.nm) hgT hmT hvT rfl hnT hdT) pa_nil hs2) hs) (by decide) (by decide) hs hpl).w fun σ H Q ⟨R, μ, env, S, r, h⟩ => ⟨R, μ, env, S, r, ?_⟩
  refine pg_mono (pg_bind h) fun μ1 H1 S1 d s1 rs1 q v dr => ?_
  unfold isiF at q
  cases e1 : tyD d S1 with
  | none => rw [e1] at q; exact q.elim
  | some a =>
    rw [e1] at q
    exact ⟨v, .ty b.nm, _, _, isiB a b, rfl, .ty _, tyx_of rs1 dr e1, kit_ty (kit_all a b hb), po_ok q rs1 (.p (.bl _))⟩
end

/-! ### repr of plain data -/
section
variable {prog : Program} {w : World} {h₀ : Heap}
/-- no dict stands at sys.modules -/
def NoSys (h : Heap) : Prop := ∀ o, h.get? sysModules = some o → o.cls ≠ .type "dict"
mutual
theorem shows_one (ns : NoSys h₀) {v : Value} {d : PyData} {as : List Addr} : Reads h₀ v d as → d.showable = true → d.shown.length ≤ sizeLine → ∃ bs, ReadAtMost h₀ d.depth bs ∧ ReprK prog w bs h₀ d.depth v d.shown
  | .none, _, _ => ⟨[], nofun, by rw [PyData.shown]; exact .of_is ReprIs.none _ _ _⟩
  | .bool b, _, _ => ⟨[], nofun, by rw [PyData.shown]; exact .of_is (ReprIs.bool b) _ _ _⟩
  | .int i t, hs, _ => ⟨[], nofun, by rw [PyData.shown]; exact .of_is (ReprIs.int t (by simpa [PyData.showable] using hs)) _ _ _⟩
  | .str x t, _, hz => ⟨[], nofun, by
    rw [PyData.shown] at hz ⊢
    exact .of_is (ReprIs.str x t hz) _ _ _⟩
  | .list (a := a) (vs := vs) (xs := xs) h1 h2 h3 h4, hs, hz => by
    rw [PyData.shown] at hz
    rw [PyData.showable] at hs
    obtain ⟨bs, hb, hk⟩ := shows_all ns h4 hs fun t ht => Nat.le_trans (listText_mem_le ht) hz
    have r := Reads.list h1 h2 h3 h4
    have hd : PyData.depthAll xs < (PyData.list xs).depth := by rw [PyData.depth]; omega
    have na := not_mem_of_deeper r hd hb
    refine ⟨a :: bs, .cons r (Nat.le_of_lt hd) hb, ?_⟩
    rw [PyData.depth, PyData.shown]
    obtain ⟨l⟩ := vs
    cases l with
    | cons x l => exact ReprK.list h1 h2 h3 na (by simpa using hk.length_eq) fun i y e => hk.item i y (by simpa using e)
    | nil =>
      have h5 : ReadsAll h₀ [] xs _ := h4
      cases h5
      rw [PyData.shownAll, listText_nil]
      exact ReprK.listEmpty h1 h2 h3
  | .tuple (a := a) (xs := xs) h1 h2 h3 h4, hs, hz => by
    rw [PyData.shown] at hz
    rw [PyData.showable] at hs
    obtain ⟨bs, hb, hk⟩ := shows_all ns h4 hs fun t ht => Nat.le_trans (tupleText_mem_le ht) hz
    have r := Reads.tuple h1 h2 h3 h4
    have hd : PyData.depthAll xs < (PyData.tuple xs).depth := by rw [PyData.depth]; omega
    refine ⟨a :: bs, .cons r (Nat.le_of_lt hd) hb, ?_⟩
    rw [PyData.depth, PyData.shown]
    exact ReprK.tuple h1 h2 h3 (not_mem_of_deeper r hd hb) hk
  | .dict (a := a) (es := es) (kvs := kvs) h1 h2 h3 h4 h5, hs, hz => by
    rw [PyData.shown] at hz
    rw [PyData.showable] at hs
    obtain ⟨q1, q2⟩ := PyData.showableKv_split kvs hs
    obtain ⟨b1, hb1, k1⟩ := shows_all ns h4 q1 fun t ht => by
      obtain ⟨p, hp, hl⟩ := PyData.shownKv_key_le kvs t ht
      exact Nat.le_trans hl (Nat.le_trans (dictText_mem_le hp) hz)
    obtain ⟨b2, hb2, k2⟩ := shows_all ns h5 q2 fun t ht => by
      obtain ⟨p, hp, hl⟩ := PyData.shownKv_val_le kvs t ht
      exact Nat.le_trans hl (Nat.le_trans (dictText_mem_le hp) hz)
    have r := Reads.dict h1 h2 h3 h4 h5
    have hd : PyData.depthKv kvs < (PyData.dict kvs).depth := by rw [PyData.depth]; omega
    have hb : ReadAtMost h₀ (PyData.depthKv kvs) (b1 ++ b2) := (hb1.mono (PyData.depthAll_keys_le kvs)).append (hb2.mono (PyData.depthAll_vals_le kvs))
    have sys : (a == sysModules) = false := beq_eq_false_iff_ne.mpr fun e => by
      rw [e] at h1
      exact ns _ h1 h2
    refine ⟨a :: (b1 ++ b2), .cons r (Nat.le_of_lt hd) hb, ?_⟩
    rw [PyData.depth, PyData.shown, PyData.shownKv_eq]
    have kk := k1.more_le (as' := b1 ++ b2) (fun b z => List.mem_append_left _ z) (PyData.depthAll_keys_le kvs)
    have kv := k2.more_le (as' := b1 ++ b2) (fun b z => List.mem_append_right _ z) (PyData.depthAll_vals_le kvs)
    exact ReprK.dict h1 h2 h3 sys (not_mem_of_deeper r hd hb) (ReprEntriesK.of_two es.toList _ _ kk kv)
theorem shows_all (ns : NoSys h₀) {vs : List Value} {ds : List PyData} {as : List Addr} : ReadsAll h₀ vs ds as → PyData.showableAll ds = true → (∀ t ∈ PyData.shownAll ds, t.length ≤ sizeLine) →
    ∃ bs, ReadAtMost h₀ (PyData.depthAll ds) bs ∧ ReprAllK prog w bs h₀ (PyData.depthAll ds) vs (PyData.shownAll ds)
  | .nil, _, _ => ⟨[], nofun, by rw [PyData.shownAll]; exact .nil⟩
  | .cons (d := d) (ds := ds) r rs, hs, hz => by
    rw [PyData.showableAll, Bool.and_eq_true] at hs
    rw [PyData.shownAll] at hz
    obtain ⟨b1, hb1, k1⟩ := shows_one ns r hs.1 (hz _ List.mem_cons_self)
    obtain ⟨b2, hb2, k2⟩ := shows_all ns rs hs.2 fun t ht => hz t (List.mem_cons_of_mem _ ht)
    rw [PyData.depthAll, PyData.shownAll]
    refine ⟨b1 ++ b2, (hb1.mono (Nat.le_max_left _ _)).append (hb2.mono (Nat.le_max_right _ _)), ?_⟩
    exact .cons ((k1.more fun b z => List.mem_append_left _ z).level_le (Nat.le_max_left _ _)) (k2.more_le (fun b z => List.mem_append_right _ z) (Nat.le_max_right _ _))
end
end
end Mi

/-! Mi12 -/
set_option Elab.async false
set_option linter.all false
set_option maxRecDepth 100000
set_option maxHeartbeats 1000000
set_option autoImplicit false
namespace Mi
open PySem PySem.Spec PyProof.Rows L2

section
variable {prog : Program} {w : World} {h₀ : Heap} {A : Around} {E : Value → Shared → Prop} {s : Shared} {Q : Value → Shared → Prop}
/-- repr(v) at the machine's level -/
theorem run_repr (ns : NoSys h₀) {v : Value} {d : PyData} {as : List Addr} (r : Reads h₀ v d as) (hs : d.showable = true) (hz : d.shown.length ≤ sizeLine) (hg : A.guards = some []) (hu : A.units + (d.depth + 1) < cLine) (hk0 : ∀ b o, h₀.get? b = some o → s.heap.get? b = some o)
    (hQ : ∀ h' u tk, (∀ b o, s.heap.get? b = some o → h'.get? b = some o) → Q (.str d.shown u) { s with heap := h', toks := tk }) : wpAny (model prog w) A (call (.builtin "repr") [v]) Q E s := by
  have hu1 : A.in1.units + d.depth < cLine := by show A.units + 1 + d.depth < cLine; omega
  have hu0 : A.units + 1 < cLine := by omega
  cases r with
  | none =>
    rw [PyData.shown] at hQ
    exact PySem.P.repr_of_none (hQ s.heap _ _ fun _ _ e => e)
  | bool b =>
    rw [PyData.shown] at hQ
    exact PySem.P.repr_of_bool (hQ s.heap _ _ fun _ _ e => e)
  | int i t =>
    rw [PyData.shown] at hQ
    exact PySem.P.repr_of_int (by simpa [PyData.showable] using hs) (hQ s.heap _ _ fun _ _ e => e)
  | str x t =>
    rw [PyData.shown] at hQ hz
    exact PySem.P.repr_of_str (hQ s.heap _ _ fun _ _ e => e) hz
  | list h1 h2 h3 h4 =>
    rename_i a o vs n xs as₁
    rw [PyData.shown] at hQ hz
    rw [PyData.showable] at hs
    rw [PyData.depth] at hu1
    obtain ⟨bs, hb, hk⟩ := shows_all (prog := prog) (w := w) ns h4 hs fun t ht => Nat.le_trans (listText_mem_le ht) hz
    have na := not_mem_of_deeper (Reads.list h1 h2 h3 h4) (by rw [PyData.depth]; omega) hb
    refine call_repr_slot (T := "list") (by omega) ⟨_, hk0 _ _ h1, h2⟩ F.slot_list_repr.toG ?_
    obtain ⟨l⟩ := vs
    cases l with
    | nil =>
      have h5 : ReadsAll h₀ [] xs _ := h4
      cases h5
      rw [PyData.shownAll, listText_nil] at hQ
      exact call_list_repr_empty ⟨_, hk0 _ _ h1, h2⟩ (hk0 _ _ h1) h3 ⟨_, _, rfl, hQ s.heap _ _ fun _ _ e => e⟩
    | cons x l =>
      exact call_list_reprK h1 h2 h3 na (by simpa using hk.length_eq) (fun i y e => hk.item i y (by simpa using e)) hg (fun b _ => Clear.nil b) (by omega) hk0 (fun h' u tk k => ⟨_, _, rfl, hQ h' u tk k⟩) hz
  | tuple h1 h2 h3 h4 =>
    rename_i a o vs n xs
    rw [PyData.shown] at hQ hz
    rw [PyData.showable] at hs
    rw [PyData.depth] at hu1
    obtain ⟨bs, hb, hk⟩ := shows_all (prog := prog) (w := w) ns h4 hs fun t ht => Nat.le_trans (tupleText_mem_le ht) hz
    have na := not_mem_of_deeper (Reads.tuple h1 h2 h3 h4) (by rw [PyData.depth]; omega) hb
    refine call_repr_slot (T := "tuple") (by omega) ⟨_, hk0 _ _ h1, h2⟩ F.slot_tuple_repr ?_
    exact call_tuple_reprK h1 h2 h3 na hk hg (fun b _ => Clear.nil b) (by omega) hk0 (fun h' u tk k => ⟨_, _, rfl, hQ h' u tk k⟩) hz
  | dict h1 h2 h3 h4 h5 =>
    rename_i a o es n kvs as₁ bs₁
    rw [PyData.shown] at hQ hz
    rw [PyData.showable] at hs
    rw [PyData.depth] at hu1
    obtain ⟨q1, q2⟩ := PyData.showableKv_split kvs hs
    obtain ⟨b1, hb1, k1⟩ := shows_all (prog := prog) (w := w) ns h4 q1 fun t ht => by
      obtain ⟨p, hp, hl⟩ := PyData.shownKv_key_le kvs t ht
      exact Nat.le_trans hl (Nat.le_trans (dictText_mem_le hp) hz)
    obtain ⟨b2, hb2, k2⟩ := shows_all (prog := prog) (w := w) ns h5 q2 fun t ht => by
      obtain ⟨p, hp, hl⟩ := PyData.shownKv_val_le kvs t ht
      exact Nat.le_trans hl (Nat.le_trans (dictText_mem_le hp) hz)
    have hb : ReadAtMost h₀ (PyData.depthKv kvs) (b1 ++ b2) := (hb1.mono (PyData.depthAll_keys_le kvs)).append (hb2.mono (PyData.depthAll_vals_le kvs))
    have na := not_mem_of_deeper (Reads.dict h1 h2 h3 h4 h5) (by rw [PyData.depth]; omega) hb
    have sys : (a == sysModules) = false := beq_eq_false_iff_ne.mpr fun e => by
      rw [e] at h1
      exact ns _ h1 h2
    rw [PyData.shownKv_eq] at hQ hz
    refine call_repr_slot (T := "dict") (by omega) ⟨_, hk0 _ _ h1, h2⟩ F.slot_dict_repr ?_
    have kk := k1.more_le (as' := b1 ++ b2) (fun b z => List.mem_append_left _ z) (PyData.depthAll_keys_le kvs)
    have kv := k2.more_le (as' := b1 ++ b2) (fun b z => List.mem_append_right _ z) (PyData.depthAll_vals_le kvs)
    exact call_dict_reprK h1 h2 h3 sys na (ReprEntriesK.of_two es.toList _ _ kk kv) hg (fun b _ => Clear.nil b) (by omega) hk0 (fun h' u tk k => ⟨_, _, rfl, hQ h' u tk k⟩) hz
end
/-! ### plain data is read by the machine -/
/-- the heap without a dict at sys.modules -/
def noSys (h : Heap) : Heap := PySem.W.hideAll h (if (match h.get? sysModules with | some o => o.cls == .type "dict" | none => false) = true then [sysModules] else [])
theorem noSys_sub {h : Heap} : ∀ b o, (noSys h).get? b = some o → h.get? b = some o := fun b o e => PySem.W.of_hideAll _ e
theorem noSys_no {h : Heap} : NoSys (noSys h) := fun o e c => by
  have e' := noSys_sub _ _ e
  unfold noSys at e
  rw [e'] at e
  have hc : (o.cls == Value.type "dict") = true := beq_iff_eq.mpr c
  dsimp only at e
  rw [if_pos hc] at e
  have z : (PySem.W.hideAll h [sysModules]).get? sysModules = none := PySem.W.hideAll_none _ (List.mem_singleton.mpr rfl)
  rw [z] at e
  cases e
theorem noSys_get {h : Heap} {b : Addr} {o : Obj} (e : h.get? b = some o) (n : b ≠ sysModules ∨ o.cls ≠ .type "dict") : (noSys h).get? b = some o := by
  refine PySem.W.hideAll_get _ e fun hm => ?_
  by_cases q : (match h.get? sysModules with | some o => o.cls == .type "dict" | none => false) = true
  · rw [if_pos q] at hm
    have eb : b = sysModules := List.mem_singleton.mp hm
    subst eb
    rw [e] at q
    have q' : o.cls = .type "dict" := beq_iff_eq.mp q
    rcases n with n | n
    · exact n rfl
    · exact n q'
  · rw [if_neg q] at hm
    cases hm
/-- what can be shown: no pair made in passing in it -/
def isIntP : PyData → Bool
  | .int _ => true
  | .str _ => true
  | _ => false
mutual
def layD : PyData → Bool
  | .list l => layDs l
  | .tuple l => layDs l
  | .dict kvs => layKv kvs
  | .none => true
  | .bool _ => true
  | .int _ => true
  | .str _ => true
def layDs : List PyData → Bool
  | [] => true
  | d :: r => layD d && layDs r
def layKv : List (PyData × PyData) → Bool
  | [] => true
  | p :: r => isIntP p.1 && layD p.2 && r.isEmpty
end
mutual
theorem layD_of : ∀ (d : PyData), d.canLay0 = true → layD d = true
  | .none, _ => rfl
  | .bool _, _ => rfl
  | .int _, _ => rfl
  | .str _, _ => rfl
  | .list l, h => by
    rw [layD]
    exact layDs_of l (by simpa [PyData.canLay0] using h)
  | .tuple l, h => by
    rw [layD]
    exact layDs_of l (by simpa [PyData.canLay0] using h)
  | .dict kvs, h => by simp [PyData.canLay0] at h
theorem layDs_of : ∀ (l : List PyData), PyData.canLayAll0 l = true → layDs l = true
  | [], _ => rfl
  | d :: r, h => by
    have h' : (d.canLay0 && PyData.canLayAll0 r) = true := by simpa [PyData.canLayAll0] using h
    obtain ⟨h1, h2⟩ := Bool.and_eq_true_iff.mp h'
    rw [layDs, layD_of d h1, layDs_of r h2]
    rfl
end
section
variable {X : Cx} {pins : List (Addr × Obj)} {σ : L2.St} {H : Hp} {s : Shared} {O : Addr → Prop}
mutual
theorem pd_reads (I : Inv X pins σ H s) : ∀ {v : V} {d : PyData} (u : Value), Pd X.K H O v d → layD d = true → RelV v u → ∃ as, Reads (noSys s.heap) u d as
  | _, _, u, .non, _, r => by cases r; exact ⟨_, .none⟩
  | _, _, u, .bl b, _, r => by cases r; exact ⟨_, .bool b⟩
  | _, _, u, .int i, _, r => by obtain ⟨t, rfl⟩ := r; exact ⟨_, .int i t⟩
  | _, _, u, .str x, _, r => by obtain ⟨t, rfl⟩ := r; exact ⟨_, .str x t⟩
  | _, _, u, .lst h1 _ h3, c, r => by
    cases r
    obtain ⟨its, rv, ⟨o, n, ho, hc, _, hd⟩, _⟩ := I.list (SqL.of h1)
    obtain ⟨as, hr⟩ := pda_reads I its h3 (by simpa [layD] using c) rv
    exact ⟨_, .list (noSys_get ho (.inr (by rw [hc]; decide))) hc hd hr⟩
  | _, _, u, .tup h1 h3, c, r => by
    cases r
    obtain ⟨its, rv, ⟨o, ho, hc, n, hd⟩, _⟩ := I.tuple h1.sqt
    obtain ⟨as, hr⟩ := pda_reads I its h3 (by simpa [layD] using c) rv
    exact ⟨_, .tuple (noSys_get ho (.inr (by rw [hc]; decide))) hc hd hr⟩
  | _, _, u, .wk _ _ _, c, _ => by simp [layD, layKv, isIntP] at c
  | _, _, u, .wkn _ _, c, _ => by simp [layD, layKv, isIntP] at c
  | _, _, u, .dk0 (a := a) h1 _, c, r => by
    cases r
    have ok : ObjOk X.prog X.w H s.heap a (.dK []) := I.hok a _ h1
    obtain ⟨_, hn, vs, kv, o, es, ep, ho, ex, hd, _, hp, _⟩ := ok
    have ev : vs = [] := by cases kv; rfl
    subst ev
    have ee : es.toList = [] := by
      cases z : es.toList with
      | nil => rfl
      | cons e l => rw [z] at hp; cases hp
    exact ⟨_, .dict (noSys_get ho (.inl (by simpa using hn))) ex.1 hd (by rw [ee]; exact .nil) (by rw [ee]; exact .nil)⟩
  | _, _, u, .dk1 (a := a) (i := i) (v := v) h1 _ p, c, r => by
    cases r
    have ok : ObjOk X.prog X.w H s.heap a (.dK [(.inl i, v)]) := I.hok a _ h1
    obtain ⟨_, hn, vs, kv, o, es, ep, ho, ex, hd, _, hp, _⟩ := ok
    obtain ⟨w', ev, rw'⟩ : ∃ w', vs = [(.inl i, w')] ∧ RelV v w' := by
      cases kv with
      | cons k1 k2 =>
        cases k2
        refine ⟨_, ?_, k1.2⟩
        rw [show (Sum.inl i : Key) = _ from k1.1]
    subst ev
    obtain ⟨as, q1⟩ := pd_reads I w' p (by simpa [layD, layKv, isIntP] using c) rw'
    cases z : es.toList with
    | nil => rw [z] at hp; cases hp
    | cons e l =>
      rw [z] at hp
      cases hp with
      | cons e1 e2 e3 =>
        cases e3
        obtain ⟨tk, ek⟩ : ∃ tk, e.key = .int i tk := by
          have e1' : keyIs (.inl i) e.key = true := e1
          rcases keyIs_shape e1' with ⟨j, t, z1, z2⟩ | ⟨x, t, z1, z2⟩
          · cases z1
            exact ⟨t, z2⟩
          · cases z1
        exact ⟨_, .dict (noSys_get ho (.inl (by simpa using hn))) ex.1 hd (by rw [z]; exact .cons (show Reads _ e.key (.int i) _ by rw [ek]; exact .int i tk) .nil) (by rw [z]; exact .cons (show Reads _ e.val _ _ by rw [e2]; exact q1) .nil)⟩
  | _, _, u, .dks (a := a) (k := i) (v := v) h1 _ p, c, r => by
    cases r
    have ok : ObjOk X.prog X.w H s.heap a (.dK [(.inr i, v)]) := I.hok a _ h1
    obtain ⟨_, hn, vs, kv, o, es, ep, ho, ex, hd, _, hp, _⟩ := ok
    obtain ⟨w', ev, rw'⟩ : ∃ w', vs = [(.inr i, w')] ∧ RelV v w' := by
      cases kv with
      | cons k1 k2 =>
        cases k2
        refine ⟨_, ?_, k1.2⟩
        rw [show (Sum.inr i : Key) = _ from k1.1]
    subst ev
    obtain ⟨as, q1⟩ := pd_reads I w' p (by simpa [layD, layKv, isIntP] using c) rw'
    cases z : es.toList with
    | nil => rw [z] at hp; cases hp
    | cons e l =>
      rw [z] at hp
      cases hp with
      | cons e1 e2 e3 =>
        cases e3
        obtain ⟨tk, ek⟩ : ∃ tk, e.key = .str i tk := by
          have e1' : keyIs (.inr i) e.key = true := e1
          rcases keyIs_shape e1' with ⟨j, t, z1, z2⟩ | ⟨x, t, z1, z2⟩
          · cases z1
          · cases z1
            exact ⟨t, z2⟩
        exact ⟨_, .dict (noSys_get ho (.inl (by simpa using hn))) ex.1 hd (by rw [z]; exact .cons (show Reads _ e.key (.str i) _ by rw [ek]; exact .str i tk) .nil) (by rw [z]; exact .cons (show Reads _ e.val _ _ by rw [e2]; exact q1) .nil)⟩
  | _, _, u, .ex0 _ _ _, c, _ => by simp [layD, layKv, isIntP] at c
  | _, _, u, .exn _ _ _ _ _ _ _, c, _ => by simp [layD, layKv, isIntP] at c
theorem pda_reads (I : Inv X pins σ H s) : ∀ {vs : List V} {ds : List PyData} (us : List Value), PdAll X.K H O vs ds → layDs ds = true → Vals vs us → ∃ as, ReadsAll (noSys s.heap) us ds as
  | _, _, us, .nil, _, r => by cases r; exact ⟨_, .nil⟩
  | _, _, us, .cons (d := d) (ds := ds) h1 h2, c, r => by
    have c' : (layD d && layDs ds) = true := by simpa [layDs] using c
    cases r with
    | cons r1 r2 =>
      obtain ⟨as, q1⟩ := pd_reads I _ h1 (Bool.and_eq_true_iff.mp c').1 r1
      obtain ⟨bs, q2⟩ := pda_reads I _ h2 (Bool.and_eq_true_iff.mp c').2 r2
      exact ⟨_, .cons q1 q2⟩
end
end
/-- the built-in -/
def repF : FM
  | [.p d], S => if d.showable = true ∧ d.shown.length ≤ sizeLine ∧ d.depth ≤ 60 ∧ layD d = true then .ok (.p (.str d.shown)) S else .bad
  | _, _ => .bad
def rRep (K : PySem.W.Frag) : List V → Hp → VK → Prop := fun xs H Q => ∃ v d O, xs = [v] ∧ Pd K H O v d ∧ d.showable = true ∧ d.shown.length ≤ sizeLine ∧ d.depth ≤ 60 ∧ layD d = true ∧ Q (.str d.shown) H
theorem call_rep {X : Cx} {k : Nat} (hg : X.A.guards = some []) (hr : Room k X.A) : CallR X (.builtin "repr") (rRep X.K) := by
  intro pins s σ H xs us Q I r h
  obtain ⟨v, d, O, rfl, hp, hs, hz, hd, hc, q⟩ := h
  obtain ⟨u, rfl, ru⟩ := vals1 r
  obtain ⟨as, rd⟩ := pd_reads I u hp hc ru
  have := hr.units
  exact run_repr noSys_no rd hs hz hg (by omega) noSys_sub fun h' u tk hk => ⟨.str d.shown, H, I.kept hk, ⟨_, rfl⟩, q⟩
theorem repF_ok {K : PySem.W.Frag} {mg : Str → Option Value} {W : WX} : OpC K mg W repF (rRep K) := by
  intro R μ H S σ env vs ds Q rs dr h
  unfold repF at h
  split at h
  · split at h
    · rename_i hz
      obtain ⟨v, ws, rfl, d1, d2⟩ := drs_cons dr
      obtain rfl := drs_nil d2
      cases d1 with
      | p d1 => exact ⟨v, _, _, rfl, d1, hz.1, hz.2.1, hz.2.2.1, hz.2.2.2, po_ok h rs (.p (.str _))⟩
    · exact h.elim
  · exact h.elim
end Mi

/-! Mi13 -/
set_option Elab.async false
set_option linter.all false
set_option maxRecDepth 100000
set_option maxHeartbeats 1000000
set_option autoImplicit false
namespace Mi
open PySem PySem.Spec PyProof.Rows L2

/-- the script at a, and nothing else is tracked -/
def HScr (a : Addr) (o : Obj) (ns : List Int) : Hp := fun b => if b = a then some (.frz o (.lst (ns.map V.int))) else none
theorem hscr_at {a : Addr} {o : Obj} {ns : List Int} : HScr a o ns a = some (.frz o (.lst (ns.map V.int))) := if_pos rfl
theorem hscr_ne {a b : Addr} {o : Obj} {ns : List Int} (h : b ≠ a) : HScr a o ns b = none := if_neg h
section
variable {P : Program} {w : World} {K : PySem.W.Frag} {mg mb : Str → Option Value} {k : Nat} {fa a : Addr} {fd : FuncData} {x : Str} {m : FM} {s₁ : Shared} {vs : List Value} {ns : List Int}
/-- from an abstract heap at the law's entry -/
theorem law_core (KX : K.In s₁.heap) (hns : s₁.heap.Ns mainGlobals mg) (hb : s₁.heap.Ns builtinsNs mb) (hbb : ∀ x : Str, x ≠ "__name__" → mb x = bootBuiltins x) (hlim : s₁.heap.NoLimit) (hg : s₁.gens = #[]) (hr : Room k callerA)
    (ha : s₁.heap.get? a = some { cls := .type "list", data := .seq vs.toArray }) (F : ∀ base : Heap, K.In base → base.Ns mainGlobals mg → FnG P w K mg base k fa fd [x] (spF K mg 1 m)) (hbind : ∀ (s : Shared) (u : Value), BindsTo s fd ⟨[u], []⟩ [(x, u)])
    (hm : ∀ ns, ns.length ≤ 63 → ∃ S, m [.scr ns] [] = .ok (.p (.bool true)) S) (hl : ns.length ≤ 63) (H : Hp) (hS : ScR K H a ns) (hok : HOk P w H s₁.heap) (hA : ∀ b u, H b = some u → b = a ∧ ∃ o, u = .frz o (.lst (ns.map V.int))) (hK : ∀ u, H a = some u → K.lookup a = none) :
    codeAny (model P w) callerA (.call (.ref fa) ⟨[.ref a], []⟩) (fun r s' => r = .ok (.ret (.bool true)) ∧ OldK s₁.heap s'.heap ∧ s'.os = s₁.os ∧ AllBare s'.gens) s₁ := by
  have free : ∀ b, b ≠ a → H b = none := fun b nb => by
    cases q : H b with
    | none => rfl
    | some u => exact absurd (hA b u q).1 nb
  have isdict : ∀ {b : Addr} {o : Obj} {es : Array DictEntry} {ep : Nat}, s₁.heap.get? b = some o → o.data = .dict es ep → H b = none := fun {b o es ep} e d => free b fun z => by
    rw [z, ha] at e
    cases e
    cases d
  have nsK : ∀ {b : Addr} {m : Str → Option Value}, s₁.heap.Ns b m → (hidT s₁.heap H).Ns b m := fun {b m} ⟨o, es, ep, e, d, r⟩ => ⟨o, es, ep, hidT_get e (isdict e d), d, r⟩
  have inK : K.In (hidT s₁.heap H) := fun b o e => hidT_get (KX b o e) (by
    cases q : H b with
    | none => rfl
    | some u =>
      have z := hA b u q
      rw [z.1] at q e
      rw [hK u q] at e
      cases e)
  have md : Mod K mg (hidT s₁.heap H) := ⟨inK, nsK hns, ⟨mb, nsK hb, hbb⟩, let ⟨mc, q1, q2⟩ := hlim; ⟨mc, nsK q1, q2⟩⟩
  have e0 : Env0 P w K mg (hidT s₁.heap H) callerA [] s₁ H :=
    ⟨rfl, md, fun b o e => of_hidT e, Nat.le_of_eq (hidT_size _ _), trivial, fun b z => absurd (show b ∈ ([] : List Addr) from z) (by simp), hok, .of_eq hg⟩
  have rs0 : RS K (fun _ => False) H (fun _ => 0) [] := ⟨fun i j hi => absurd hi (Nat.not_lt_zero _), fun i c h => (nomatch h), fun i c h => (nomatch h), fun _ z => z.elim⟩
  obtain ⟨S1, hm1⟩ := hm ns hl
  have sp : spF K mg 1 m [.ref a] H (fun v _ => v = .bl true) (fun _ _ _ => False) := by
    refine ⟨rfl, fun _ => False, fun _ => 0, [], [.scr ns], rs0, .cons (.scr hS) .nil, ?_⟩
    rw [hm1]
    exact fun μ' H' v _ _ dr => dr_bl dr
  apply codeAny_mono ((F _ inK (nsK hns)).go callerA [] s₁ H ⟨[.ref a], []⟩ [.ref a] [.ref a] _ _ rfl hr e0 (hbind s₁ (.ref a)) (.cons rfl .nil) sp)
  intro r s' h
  match r, h with
  | .error e, h => exact let ⟨_, _, _, _, _, _, _, _, _, _, _, _, z⟩ := h; z.elim
  | .ok .next, h => exact h.elim
  | .ok .brk, h => exact h.elim
  | .ok .cont, h => exact h.elim
  | .ok (.ret u), h =>
    obtain ⟨v, H', os, bare, un, hok', rel, q⟩ := h
    subst q
    cases rel
    refine ⟨rfl, OldK.of_keep fun b o e => ?_, os, bare⟩
    cases q : H b with
    | none => exact un.keep b o e q (fun z => absurd (show b ∈ ([] : List Addr) from z) (by simp)) (by simp)
    | some u =>
      obtain ⟨_, ob, rfl⟩ := hA b u q
      obtain ⟨e1, _⟩ := hok b _ q
      obtain ⟨e2, _⟩ := hok' b _ (un.frzs b ob _ q)
      rw [e] at e1
      cases e1
      exact e2
theorem law_go (KX : K.In s₁.heap) (hns : s₁.heap.Ns mainGlobals mg) (hb : s₁.heap.Ns builtinsNs mb) (hbb : ∀ x : Str, x ≠ "__name__" → mb x = bootBuiltins x) (hlim : s₁.heap.NoLimit) (hg : s₁.gens = #[]) (hr : Room k callerA)
    (ha : s₁.heap.get? a = some { cls := .type "list", data := .seq vs.toArray }) (hi : IntsAre vs ns) (F : ∀ base : Heap, K.In base → base.Ns mainGlobals mg → FnG P w K mg base k fa fd [x] (spF K mg 1 m)) (hbind : ∀ (s : Shared) (u : Value), BindsTo s fd ⟨[u], []⟩ [(x, u)])
    (hm : ∀ ns, ns.length ≤ 63 → ∃ S, m [.scr ns] [] = .ok (.p (.bool true)) S) (hl : ns.length ≤ 63) :
    codeAny (model P w) callerA (.call (.ref fa) ⟨[.ref a], []⟩) (fun r s' => r = .ok (.ret (.bool true)) ∧ OldK s₁.heap s'.heap ∧ s'.os = s₁.os ∧ AllBare s'.gens) s₁ := by
  have rv := vals_ints hi
  have lz : ns.length ≤ sizeLine := Nat.le_trans hl (by decide)
  cases hk : K.lookup a with
  | some o =>
    have e := KX a o hk
    rw [ha] at e
    cases e
    refine law_core (ns := ns) KX hns hb hbb hlim hg hr ha F hbind hm hl (fun _ => none) (.inr ⟨_, vs.toArray, _, hk, rfl, rfl, rfl, by rw [List.size_toArray, hi.length]; exact lz, by simpa using rv⟩) (fun _ _ z => nomatch z) (fun _ _ z => nomatch z) fun _ z => nomatch z
  | none =>
    refine law_core (ns := ns) KX hns hb hbb hlim hg hr ha F hbind hm hl (HScr a { cls := .type "list", data := .seq vs.toArray } ns) (.inl ⟨_, hscr_at⟩) (fun b u z => ?_) (fun b u z => ?_) fun _ _ => hk
    · by_cases e : b = a
      · subst e
        rw [hscr_at] at z
        cases z
        exact ⟨ha, by rw [List.length_map]; exact lz, vs, _, rv, ha⟩
      · rw [hscr_ne e] at z
        cases z
    · by_cases e : b = a
      · subst e
        rw [hscr_at] at z
        cases z
        exact ⟨rfl, _, rfl⟩
      · rw [hscr_ne e] at z
        cases z
end
/-- the goal that k_head leaves -/
theorem walk_mi {l : PySem.W.OpenLaw} {k : Nat} {q : Program} {loose : List Str} {XP : (Str → Option Value) → Heap → Prop} {YP : World → Heap → Prop} {d : DefRec} {K : Params → PySem.W.Frag} {x : Str} {m : FM}
    (hn : l.most = some 63) (hdf : d.params.defaults = []) (hr : Room k callerA) (hY : ∀ (w : World) (h : Heap), YP w h → (K w.params).In h)
    (F : ∀ (w : World) (mg : Str → Option Value) (fa : Addr) (h : Heap), (K w.params).In h → h.Ns mainGlobals mg → mg d.name = some (.ref fa) →
      ∃ fd : FuncData, (∀ (s : Shared) (u : Value), BindsTo s fd ⟨[u], []⟩ [(x, u)]) ∧ ∀ base : Heap, (K w.params).In base → base.Ns mainGlobals mg → FnG l.prog w (K w.params) mg base k fa fd [x] (spF (K w.params) mg 1 m))
    (hm : ∀ ns : List Int, ns.length ≤ 63 → ∃ S, m [.scr ns] [] = .ok (.p (.bool true)) S) : PySem.W.WalkO q loose XP YP l.row.toRowW d [] (fun f vs => PySem.call f vs) := by
  refine Att.attach_call hn hdf fun w s₀ s₁ mg mb fa o pm cd doc a vs ns G Y ho hd hcd hmg hobj hints hlen hg => ?_
  have KX := hY w _ Y
  obtain ⟨fd, hb, hF⟩ := F w mg fa _ KX G.T.g hmg
  exact law_go KX G.T.g G.T.b G.T.builtins G.T.nolimit hg hr hobj hints hF hb hm hlen
end Mi

/-! Mi14 -/
set_option Elab.async false
set_option linter.all false
set_option maxRecDepth 100000
set_option maxHeartbeats 1000000
set_option autoImplicit false
namespace Mi
open PySem PySem.Spec PyProof.Rows L2

/-! ### what leaves -/
theorem takes0 {X : Cx} : L2.Takes X W0 := fun _ _ ⟨_, _, _, _, _, _, _, _, _, _, _, _, _, _, _, _, w⟩ => w.elim
section
variable {P : Program} {w : World} {K : PySem.W.Frag} {mg : Str → Option Value} {base : Heap} {N : List Str} {qual : Str} {sc : Scope} {f : Addr} {cd : Value} {A : Around} {outer : List Env} {s : Shared} {H : Hp} {E : XK}
theorem takesD : L2.Takes (cxOf (L2.CX P w) P w K mg base N qual sc f cd A outer s H E) (WD E) := takes_of rfl rfl rfl rfl
theorem passesD : PassesOwn (model P w) (cxOf (L2.CX P w) P w K mg base N qual sc f cd A outer s H E).A (cxOf (L2.CX P w) P w K mg base N qual sc f cd A outer s H E).env (cxOf (L2.CX P w) P w K mg base N qual sc f cd A outer s H E).xe :=
  passes_of (X := cxOf (L2.CX P w) P w K mg base N qual sc f cd A outer s H E) rfl
end
section
variable {X : Cx} {W : WX} {st : Stmt} {a b : Expr} {m : EM} {aa : AM}
theorem mt_pc {op : CmpOp} {pos : Pos} (h : PC X op a b (te X.K X.mg W m)) (h1 : behindInMarks op b = false) : PT X (.Compare a [op] [b] pos) (tt X.K X.mg W (bOf m)) := by
  refine (pt_cmp h h1).w fun σ H Q ⟨R, μ, env, S, r, h⟩ => ⟨R, μ, env, S, r, ?_⟩
  exact po_mono (po_bind r h) fun x H1 ⟨μ1, S1, d1, r1, h1⟩ => po_bool r1 h1
/-- a statement that is never come to -/
def sBad : SM := fun _ _ => .bad
theorem ms_never : PS X st (ts X.K X.mg W sBad) := ps_never.w fun D σ H ⟨R, μ, env, S, r, h⟩ => h
/-- a, b = x, y -/
def sPar (i j : Nat) (aa : AM) : SM := fun env S => (aa env S).then env fun ds S1 => match ds with
  | [d, e] => .nx ((env.set i (some d)).set j (some e)) S1
  | _ => .bad
theorem ms_par {i j : Nat} {x y : Str} {px py pt : Pos} {kt k2 pt2} {pos : Pos} (hc : X.calm = true) (hN : X.N.Nodup) (ha : PA X [a, b] (ta X.K X.mg W aa)) (hi : X.N[i]? = some x := by rfl) (hj : X.N[j]? = some y := by rfl) (hij : i ≠ j := by decide)
    (hx : X.env.scope.names.lookup x = some .local := by rfl) (hy : X.env.scope.names.lookup y = some .local := by rfl)
    (hw : swappedStores [.Tuple [.Name x px, .Name y py] kt pt] (.Tuple [a, b] k2 pt2) X.env = pure (some [x, y]) := by rfl)
    (hs : swapsWithSole [.Tuple [.Name x px, .Name y py] kt pt] (.Tuple [a, b] k2 pt2) pos.line X.env = pure false := by rfl) :
    PS X (.Assign [.Tuple [.Name x px, .Name y py] kt pt] (.Tuple [a, b] k2 pt2) pos) (ts X.K X.mg W (sPar i j aa)) := by
  refine (ps_par hc hN hi hj hij hx hy ha hw hs).w fun D σ H ⟨R, μ, env, S, r, h⟩ => ⟨R, μ, env, S, r, ?_⟩
  refine pg_mono (pz_then h) fun μ1 H1 S1 ds s1 rs1 p vs dr => ?_
  cases dr with
  | nil => exact p.elim
  | cons q1 r1 =>
    cases r1 with
    | nil => exact p.elim
    | cons q2 r2 =>
      cases r2 with
      | cons _ _ => exact p.elim
      | nil => exact ⟨_, _, rfl, pz_nx p ⟨rs1, ((r.en.mono s1).set q1 i).set q2 j, .nil⟩⟩
end
end Mi

/-! Mi15 -/
set_option Elab.async false
set_option linter.all false
set_option maxRecDepth 100000
set_option maxHeartbeats 1000000
set_option autoImplicit false
namespace Mi
open PySem PySem.Spec PyProof.Rows L2

/-! ### a def that may be called by its name -/
def CallF (P : Program) (w : World) (K : PySem.W.Frag) (mg : Str → Option Value) (base : Heap) (k : Nat) (x : Str) (ps : List Str) (fm : FM) : Prop :=
  ∃ f fd, mg x = some (.ref f) ∧ PySem.W.keepIn K (.ref f) = true ∧ Binds K fd ps [] ∧ FnG P w K mg base k f fd ps (spF K mg ps.length fm) ∧ ∀ ds S, ds.length ≠ ps.length → fm ds S = .bad
theorem fnM_ar {b : Bool} {n all : Nat} {m : SM} (ds : List D) (S : Sto) (h : ds.length ≠ n) : fnM b n all m ds S = .bad := by
  unfold fnM arity
  exact if_neg h
section
variable {X : Cx} {k : Nat} {ps : List Str} {W : WX} {x : Str} {p pos : Pos} {e : Expr} {es : List Expr} {aa : AM} {fm : FM}
theorem me_callC (h : CallF X.prog X.w X.K X.mg X.base k x ps fm) (hgd : X.A.guards = some []) (hr : Room k X.A) (tk : L2.Takes X W)
    (ha : PA X (e :: es) (ta X.K X.mg W aa)) (hg : Gl X x := by rfl) (hdb : (x == ("__debug__" : Str)) = false := by decide) (he : starEach (e :: es) X.env = (false, eval e X.env) :: starEach es X.env := by rfl)
    (hpl : (backTo pos (starEach es X.env)).any (·.1) = false := by rfl) : PE X (.Call (.Name x p) (e :: es) [] pos) (te X.K X.mg W (eCall fm aa)) := by
  obtain ⟨f, fd, hm, hk, hb, F, hx⟩ := h
  refine (pe_callG F hgd hr hg hm hk hb tk ha hdb he hpl).w fun σ H Q ⟨R, μ, env, S, r, h⟩ => ⟨R, μ, env, S, r, ?_⟩
  refine poa_mono (poa_bind r h) fun xs H1 ⟨μ1, S1, ds, r1, dr1, h1⟩ => ?_
  by_cases hl : ds.length = ps.length
  · exact spf_po r1 dr1 (dr1.len.trans hl) h1
  · rw [hx ds S1 hl] at h1
    exact h1.elim
theorem me_callC0 (h : CallF X.prog X.w X.K X.mg X.base k x [] fm) (hgd : X.A.guards = some []) (hr : Room k X.A) (tk : L2.Takes X W)
    (hg : Gl X x := by rfl) (hdb : (x == ("__debug__" : Str)) = false := by decide) : PE X (.Call (.Name x p) [] [] pos) (te X.K X.mg W (eCall fm aNil)) := by
  obtain ⟨f, fd, hm, hk, hb, F, hx⟩ := h
  refine (pe_callG0 F hgd hr hg hm hk hb tk hdb).w fun σ H Q ⟨R, μ, env, S, r, h⟩ => ?_
  exact spf_po r .nil rfl h
end
/-! ### the built-ins by their names -/
structure Bn (mg : Str → Option Value) : Prop where
  len : mg "len" = none
  int : mg "int" = none
  max : mg "max" = none
  min : mg "min" = none
  tuple : mg "tuple" = none
  list : mg "list" = none
  repr : mg "repr" = none
  range : mg "range" = none
  isinstance : mg "isinstance" = none
  bool : mg "bool" = none
  str : mg "str" = none
  dict : mg "dict" = none
  enumerate : mg "enumerate" = none
  zip : mg "zip" = none
  sorted : mg "sorted" = none
  set : mg "set" = none
section
variable {X : Cx} {W : WX} {p pos : Pos} {e a b : Expr} {es : List Expr} {aa : AM} {k : Nat}
theorem me_len (B : Bn X.mg) (ha : PA X [e] (ta X.K X.mg W aa)) (hg : Gl X "len" := by rfl) (he : starEach [e] X.env = (false, eval e X.env) :: starEach [] X.env := by rfl) : PE X (.Call (.Name "len" p) [e] [] pos) (te X.K X.mg W (eCall lenF aa)) :=
  me_callB call_lenS lenF_ok B.len PySem.boot_len ha hg (by decide) (by decide) he rfl
theorem me_int1 (B : Bn X.mg) (ha : PA X [e] (ta X.K X.mg W aa)) (hg : Gl X "int" := by rfl) (he : starEach [e] X.env = (false, eval e X.env) :: starEach [] X.env := by rfl) : PE X (.Call (.Name "int" p) [e] [] pos) (te X.K X.mg W (eCall intF aa)) :=
  me_callTy call_int1 intF_ok B.int (by decide +kernel) ha hg (by decide) (by decide) he rfl
theorem me_tuple (B : Bn X.mg) (ha : PA X [e] (ta X.K X.mg W aa)) (hg : Gl X "tuple" := by rfl) (he : starEach [e] X.env = (false, eval e X.env) :: starEach [] X.env := by rfl) : PE X (.Call (.Name "tuple" p) [e] [] pos) (te X.K X.mg W (eCall tupF aa)) :=
  me_callTy call_tupOf tupF_ok B.tuple (by decide +kernel) ha hg (by decide) (by decide) he rfl
theorem me_list (B : Bn X.mg) (ha : PA X [e] (ta X.K X.mg W aa)) (hg : Gl X "list" := by rfl) (he : starEach [e] X.env = (false, eval e X.env) :: starEach [] X.env := by rfl) : PE X (.Call (.Name "list" p) [e] [] pos) (te X.K X.mg W (eCall lstF aa)) :=
  me_callTy call_lstOf lstF_ok B.list (by decide +kernel) ha hg (by decide) (by decide) he rfl
theorem me_max2 (B : Bn X.mg) (hc : X.calm = true) (ha : PA X [a, b] (ta X.K X.mg W aa)) (hg : Gl X "max" := by rfl) (he : starEach [a, b] X.env = (false, eval a X.env) :: starEach [b] X.env := by rfl) (hpl : (backTo pos (starEach [b] X.env)).any (·.1) = false := by rfl) :
    PE X (.Call (.Name "max" p) [a, b] [] pos) (te X.K X.mg W (eCall max2F aa)) :=
  me_callB (call_max2 hc) max2F_ok B.max (by decide +kernel) ha hg (by decide) (by decide) he hpl
theorem me_min2 (B : Bn X.mg) (hc : X.calm = true) (ha : PA X [a, b] (ta X.K X.mg W aa)) (hg : Gl X "min" := by rfl) (he : starEach [a, b] X.env = (false, eval a X.env) :: starEach [b] X.env := by rfl) (hpl : (backTo pos (starEach [b] X.env)).any (·.1) = false := by rfl) :
    PE X (.Call (.Name "min" p) [a, b] [] pos) (te X.K X.mg W (eCall min2F aa)) :=
  me_callB (call_min2 hc) min2F_ok B.min (by decide +kernel) ha hg (by decide) (by decide) he hpl
theorem me_repr (B : Bn X.mg) (hgd : X.A.guards = some []) (hr : Room k X.A) (ha : PA X [e] (ta X.K X.mg W aa)) (hg : Gl X "repr" := by rfl) (he : starEach [e] X.env = (false, eval e X.env) :: starEach [] X.env := by rfl) : PE X (.Call (.Name "repr" p) [e] [] pos) (te X.K X.mg W (eCall repF aa)) :=
  me_callB (call_rep hgd hr) repF_ok B.repr (by decide +kernel) ha hg (by decide) (by decide) he rfl
end
end Mi

/-! Mi16 -/
set_option Elab.async false
set_option linter.all false
set_option maxRecDepth 100000
set_option maxHeartbeats 1000000
set_option autoImplicit false
namespace Mi
open PySem PySem.Spec PyProof.Rows L2

/-- a def by its body, its scope written out -/
theorem fn_def2 {P : Program} {w : World} {K : PySem.W.Frag} {mg : Str → Option Value} {base : Heap} {x qual : Str} {st : Stmt} {f : Addr} {fd : FuncData} {N ps : List Str} {k n all : Nat} {b : Bool} {m : SM} {sc : Scope} (F : Fun K x qual st f fd) (hsc : defScope st = sc) (S : FnScope N ps sc) (hn : ps.length = n) (ha : N.length = all)
    (hb : ∀ (cdv : Value) (A : Around) (outer : List Env) (s : Shared) (H : Hp) (E : XK), A.guards = some [] → Room k (A.deeper (envOfC qual sc s.heap.objs.size f cdv)) →
      PSs (cxOf (L2.CX P w) P w K mg base N qual sc f cdv A outer s H E) (defBody st) (ts K mg (WD E) m)) :
    FnG P w K mg base (k + 1) f fd ps (spF K mg n (fnM b n all m)) := by
  subst hsc hn ha
  exact fn_def F S hb
/-- a comprehension's own scope, by reckoning -/
def blkB (N : List Str) (sc scope : Scope) (own : List (Str × Nat)) : Bool :=
  decide (scope.kind = .function) && scope.names.all (fun y => decide (scope.names.lookup y.1 = some y.2)) && own.all (fun p => decide (N[p.2]? = some p.1)) &&
    scope.names.all (fun y => !decide (y.2 = .free) || decide (sc.names.lookup y.1 = some .cell) || decide (sc.names.lookup y.1 = some .free)) &&
    scope.names.all (fun y => !(decide (y.2 = .local) || decide (y.2 = .cell)) || decide (y.1 ∈ own.map (·.1)) || !decide (y.1 ∈ N))
theorem blk_of {N : List Str} {sc scope : Scope} {own : List (Str × Nat)} (h : blkB N sc scope own = true) : BlkOk N sc scope own := by
  unfold blkB at h
  simp only [Bool.and_eq_true, List.all_eq_true, decide_eq_true_eq, Bool.or_eq_true, Bool.not_eq_true', decide_eq_false_iff_not] at h
  obtain ⟨⟨⟨⟨h1, h2⟩, h3⟩, h4⟩, h5⟩ := h
  refine ⟨h1, h2, h3, fun y hy e => ?_, fun y hy e => ?_⟩
  · rcases h4 y hy with (q | q) | q
    · exact absurd e q
    · exact .inl q
    · exact .inr q
  · rcases h5 y hy with (q | q) | q
    · exfalso
      rcases e with e | e <;> simp [e] at q
    · exact .inl q
    · exact .inr q
/-- a list that is gone through, of either kind -/
theorem mt_w {X : Cx} {W : WX} {e : Expr} {t : BM} (h : PW X e (tt X.K X.mg W t)) : PT X e (tt X.K X.mg W t) := h.pt
end Mi

/-! Mi17 -/
set_option Elab.async false
set_option linter.all false
set_option maxRecDepth 100000
set_option maxHeartbeats 1000000
set_option autoImplicit false
namespace Mi
open PySem PySem.Spec PyProof.Rows L2

/-! ### a < b < c -/
def eChain (f f' : D → D → Sto → Ot D) (a b c : EM) : EM := fun env S => (a env S).bind fun x S1 => (b env S1).bind fun y S2 => (f x y S2).bind fun z S3 => match z with
  | .p (.bool k) => if k = true then (c env S3).bind fun w S4 => f' y w S4 else .ok (.p (.bool false)) S3
  | _ => .bad
section
variable {X : Cx} {W : WX} {a b c : Expr} {ma mb mc : EM} {pos : Pos} {f f' : D → D → Sto → Ot D} {op op' : CmpOp} {r r' : R2}
theorem chain_core {σ : L2.St} {H : Hp} {Q : VK} (hf : Op2 X.K X.mg W f r) (hf' : Op2 X.K X.mg W f' r') (h : te X.K X.mg W (eChain f f' ma mb mc) σ H Q) : tChain r r' (te X.K X.mg W ma) (te X.K X.mg W mb) (te X.K X.mg W mc) σ H Q := by
  obtain ⟨R, μ, env, S, r0, h⟩ := h
  refine ⟨R, μ, env, S, r0, ?_⟩
  refine po_mono (po_bind r0 h) fun x H1 ⟨μ1, S1, d1, r1, h1⟩ => ⟨R, μ1, env, S1, r1.drop, ?_⟩
  refine po_mono (po_bind r1 h1) fun y H2 ⟨μ2, S2, d2, r2, h2⟩ => hf R μ2 H2 S2 σ env x y d1 d2 _ r2 ?_
  refine pg_mono (pg_bind h2) fun μ3 H3 S3 z s3 rs3 p3 v dr => ?_
  have r3 := r2.mono s3 rs3
  cases dr with
  | loc _ => exact p3.elim
  | scr _ => exact p3.elim
  | p dr =>
    cases dr with
    | non => exact p3.elim
    | int _ => exact p3.elim
    | str _ => exact p3.elim
    | lst _ _ _ => exact p3.elim
    | tup _ _ => exact p3.elim
    | wk _ _ _ => exact p3.elim
    | wkn _ _ => exact p3.elim
    | dk0 _ _ => exact p3.elim
    | dk1 _ _ _ => exact p3.elim
    | dks _ _ _ => exact p3.elim
    | ex0 _ _ _ => exact p3.elim
    | exn _ _ _ _ _ _ _ => exact p3.elim
    | bl k =>
      refine ⟨k, rfl, ?_⟩
      cases k with
      | false => exact iteF (pg_ok p3 rs3 _ (.p (.bl false)))
      | true =>
        refine iteT ⟨R, μ3, env, S3, r3.drop, ?_⟩
        cases r3.tm with
        | cons t1 t2 =>
          exact po_mono (po_bind ⟨r3.rs, r3.en, .cons t1 .nil⟩ p3) fun w' H4 ⟨μ4, S4, d4, r4, h4⟩ => hf' R μ4 H4 S4 σ env y w' d2 d4 Q r4 h4
theorem me_chain (ho : OpR X (compareOp op) r) (ho' : OpR X (compareOp op') r') (hf : Op2 X.K X.mg W f r) (hf' : Op2 X.K X.mg W f' r') (ha : PE X a (te X.K X.mg W ma)) (hb : PE X b (te X.K X.mg W mb)) (hc : PE X c (te X.K X.mg W mc))
    (hm : lastMarks [op, op'] [b, c] = false := by with_unfolding_all rfl) : PE X (.Compare a [op, op'] [b, c] pos) (te X.K X.mg W (eChain f f' ma mb mc)) :=
  (pe_chain ho ho' ha hb hc hm).w fun σ H Q h => chain_core hf hf' h
theorem mt_chain (ho : OpR X (compareOp op) r) (ho' : OpR X (compareOp op') r') (hf : Op2 X.K X.mg W f r) (hf' : Op2 X.K X.mg W f' r') (ha : PE X a (te X.K X.mg W ma)) (hb : PE X b (te X.K X.mg W mb)) (hc : PE X c (te X.K X.mg W mc))
    (hm : lastMarks [op, op'] [b, c] = false := by with_unfolding_all rfl) : PT X (.Compare a [op, op'] [b, c] pos) (tt X.K X.mg W (bOf (eChain f f' ma mb mc))) := by
  refine (pt_chain ho ho' ha hb hc hm).w fun σ H Q ⟨R, μ, env, S, r, h⟩ => chain_core hf hf' ⟨R, μ, env, S, r, ?_⟩
  exact po_mono (po_bind r h) fun x H1 ⟨μ1, S1, d1, r1, h1⟩ => po_bool r1 h1
end

/-! ### max(xs) of a list or tuple of ints -/
def rMaxS (K : PySem.W.Frag) : List V → Hp → VK → Prop := fun vs H Q => ∃ (a : Addr) (n : Int) (ns : List Int), vs = [.ref a] ∧ (SqL K H a ((n :: ns).map V.int) ∨ SqT K H a ((n :: ns).map V.int)) ∧ Q (.int (ns.foldl max n)) H
theorem readsAll_ints {h : Heap} : ∀ {its : List Value} {ns : List Int}, Vals (ns.map V.int) its → ReadsAll h its (ns.map PyData.int) []
  | [], [], _ => .nil
  | _ :: _, n :: ns, .cons r t => by
    obtain ⟨tk, rfl⟩ := r
    exact .cons (as := []) (bs := []) (.int n tk) (readsAll_ints t)
theorem alike_ints (ns : List Int) : PySem.W.AlikeAll (ns.map PyData.int) := by
  refine ⟨fun x hx y hy => ?_, fun x hx => ?_⟩
  · obtain ⟨i, _, rfl⟩ := List.mem_map.mp hx
    obtain ⟨j, _, rfl⟩ := List.mem_map.mp hy
    rfl
  · obtain ⟨i, _, rfl⟩ := List.mem_map.mp hx
    exact fun z => nomatch z
theorem depth_ints : ∀ ns : List Int, PyData.depthAll (ns.map PyData.int) ≤ 1
  | [] => by decide
  | n :: ns => by
    have := depth_ints ns
    show max _ _ ≤ 1
    exact Nat.max_le.mpr ⟨by show (PyData.int n).depth ≤ 1; unfold PyData.depth; decide, this⟩
theorem call_maxS {X : Cx} {k : Nat} (hc : X.calm = true) (hr : Room k X.A) : CallR X (.builtin "max") (rMaxS X.K) := by
  intro pins s σ H vs us Q I r h
  obtain ⟨a, n, ns, rfl, hs, q⟩ := h
  rw [Vals.ref1 r]
  have hu : X.A.units + 1 + PyData.depthAll (PyData.int n :: ns.map PyData.int) < cLine := by
    have e : PyData.depthAll (PyData.int n :: ns.map PyData.int) ≤ 1 := depth_ints (n :: ns)
    have := hr.un
    omega
  have al : PySem.W.AlikeAll (PyData.int n :: ns.map PyData.int) := alike_ints (n :: ns)
  have fin : ∀ (v : Value) (h' : Heap) tk (bs : List Addr), Reads h' v (PySem.W.maxD (.int n) (ns.map PyData.int)) bs → (∀ b o, s.heap.get? b = some o → h'.get? b = some o) → EP X pins σ Q v { s with heap := h', toks := tk } := fun v h' tk bs rd hk => by
    rw [PySem.W.maxD_ints] at rd
    cases rd with
    | int i t => exact ⟨.int _, H, I.kept hk, ⟨_, rfl⟩, q⟩
  rcases hs with hs | hs
  · obtain ⟨its, rv, hl, _⟩ := I.list hs
    exact PySem.W.max_list_data (I.ok.hd hc) hl.isList (by rw [List.toList_toArray]; exact readsAll_ints (ns := n :: ns) rv) al hu fun i v h' tk bs _ rd hk => fin v h' tk bs rd hk
  · obtain ⟨its, rv, hl, _⟩ := I.tuple hs
    exact PySem.W.max_tuple_data (I.ok.hd hc) hl (by rw [List.toList_toArray]; exact readsAll_ints (ns := n :: ns) rv) al hu fun i v h' tk bs _ rd hk => fin v h' tk bs rd hk
def maxI : List Int → Option Int
  | [] => none
  | n :: ns => some (ns.foldl max n)
def maxSF : FM
  | [.p (.list l)], S => match (intsOf l).bind maxI with
    | some i => .ok (.p (.int i)) S
    | none => .bad
  | [.p (.tuple l)], S => match (intsOf l).bind maxI with
    | some i => .ok (.p (.int i)) S
    | none => .bad
  | [.loc i], S => match ((cellL S i).bind plains).bind intsOf |>.bind maxI with
    | some i => .ok (.p (.int i)) S
    | none => .bad
  | _, _ => .bad
theorem maxI_some {ns : List Int} {i : Int} (h : maxI ns = some i) : ∃ n r, ns = n :: r ∧ i = r.foldl max n := by
  cases ns with
  | nil => cases h
  | cons n r => cases h; exact ⟨n, r, rfl, rfl⟩
theorem maxSF_ok {K : PySem.W.Frag} {mg : Str → Option Value} {W : WX} : OpC K mg W maxSF (rMaxS K) := by
  intro R μ H S σ env vs ds Q rs dr h
  unfold maxSF at h
  split at h
  · obtain ⟨v, ws, rfl, d1, d2⟩ := drs_cons dr
    obtain rfl := drs_nil d2
    obtain ⟨a, xs, rfl, h1, h2, h3⟩ := dr_lst d1
    split at h
    · rename_i e
      obtain ⟨ns, e1, e2⟩ := Option.bind_eq_some_iff.mp e
      obtain ⟨n, r, rfl, rfl⟩ := maxI_some e2
      rw [intsOf_eq e1] at h3
      have := pda_ints_eq h3
      subst this
      exact ⟨a, n, r, rfl, .inl (SqL.of h1), po_ok h rs (.p (.int _))⟩
    · exact h.elim
  · obtain ⟨v, ws, rfl, d1, d2⟩ := drs_cons dr
    obtain rfl := drs_nil d2
    obtain ⟨a, xs, rfl, h1, h3⟩ := dr_tup d1
    split at h
    · rename_i e
      obtain ⟨ns, e1, e2⟩ := Option.bind_eq_some_iff.mp e
      obtain ⟨n, r, rfl, rfl⟩ := maxI_some e2
      rw [intsOf_eq e1] at h3
      have := pda_ints_eq h3
      subst this
      exact ⟨a, n, r, rfl, .inr h1, po_ok h rs (.p (.int _))⟩
    · exact h.elim
  · obtain ⟨v, ws, rfl, d1, d2⟩ := drs_cons dr
    obtain rfl := drs_nil d2
    obtain ⟨rfl, hi⟩ := dr_loc d1
    split at h
    · rename_i e
      obtain ⟨ns, e1, e2⟩ := Option.bind_eq_some_iff.mp e
      obtain ⟨l, e3, e4⟩ := Option.bind_eq_some_iff.mp e1
      obtain ⟨xs, e5, e6⟩ := Option.bind_eq_some_iff.mp e3
      obtain ⟨n, r, rfl, rfl⟩ := maxI_some e2
      obtain ⟨ys, g1, g2⟩ := rs.cell _ _ (cellL_some e5)
      have g3 := plains_pd g2 e6
      rw [intsOf_eq e4] at g3
      have := pda_ints_eq g3
      subst this
      exact ⟨_, n, r, rfl, .inl (SqL.of g1), po_ok h rs (.p (.int _))⟩
    · exact h.elim
  · exact h.elim
theorem me_maxS {X : Cx} {W : WX} {p pos : Pos} {e : Expr} {aa : AM} {k : Nat} (B : Bn X.mg) (hc : X.calm = true) (hr : Room k X.A) (ha : PA X [e] (ta X.K X.mg W aa)) (hg : Gl X "max" := by rfl) (he : starEach [e] X.env = (false, eval e X.env) :: starEach [] X.env := by rfl) :
    PE X (.Call (.Name "max" p) [e] [] pos) (te X.K X.mg W (eCall maxSF aa)) :=
  me_callB (call_maxS hc hr) maxSF_ok B.max (by decide +kernel) ha hg (by decide) (by decide) he rfl
end Mi

/-! Mi18 -/
set_option Elab.async false
set_option linter.all false
set_option maxRecDepth 100000
set_option maxHeartbeats 1000000
set_option autoImplicit false
namespace Mi
open PySem PySem.Spec PyProof.Rows L2

/-! ### enumerate over a tuple: the library's walk of any iterator, as a Turn -/
/-- the tuple at a, numbered: at each turn a new pair -/
def JeT (K : PySem.W.Frag) (a : Addr) : It where
  go i H := ∃ ws y, SqT K H a ws ∧ ws[i]? = some y
  yld i H v H' := ∃ T y, v = .ref T ∧ H T = none ∧ H' = upd H T (.tup [.int (i : Nat), y]) ∧ ∀ ws, SqT K H a ws → ws[i]? = some y
  stop i H := ∃ ws : List V, SqT K H a ws ∧ ws.length = i
theorem other_cls {h : Heap} {a b : Addr} {o1 o2 : Obj} {m n : String} (e1 : h.get? a = some o1) (e2 : h.get? b = some o2) (c1 : o1.cls = .type m) (c2 : o2.cls = .type n) (ne : m ≠ n) : a ≠ b := fun q => by
  rw [q, e2] at e1
  cases e1
  exact ne (Value.type.inj (c1.symm.trans c2))
theorem turn_enumT {P : Program} {w : World} {K : PySem.W.Frag} {elts : List Expr} {kk : Nat} {tpos : Pos} (a e it : Addr) :
    Turn P w K (.Tuple elts kk tpos) (JeT K a) [e, it] e (fun i h => (∃ old, IsEnum h e it (0 + (i : Int)) old) ∧ h.IsTupleIter it a i) where
  mem := List.mem_cons_self ..
  obj := fun i h st b hb => by
    rcases st with ⟨⟨old, q1⟩, o2, q2, q3, q4⟩
    simp only [List.mem_cons, List.not_mem_nil, or_false] at hb
    rcases hb with rfl | rfl
    · exact ⟨_, q1, fun _ z => nomatch z⟩
    · exact ⟨o2, q2, fun v z => nomatch (q4.symm.trans z)⟩
  keep := fun i h h' st k => ⟨st.1.imp fun old q => k e (by simp) _ q, st.2.at fun o q => k it (by simp) o q⟩
  item := by
    rintro X rfl rfl rfl hc i pins s σ H E I hf ⟨⟨old, q1⟩, q2⟩ ⟨ws, y, hw, hy⟩
    obtain ⟨its, rv, tp, _⟩ := I.tuple hw
    obtain ⟨u, hu, ru⟩ := rv.get hy
    have n1 : a ≠ e := by obtain ⟨o, z1, z2, _⟩ := id tp; exact other_cls z1 q1 z2 rfl (by decide)
    have n2 : a ≠ it := by obtain ⟨o, z1, z2, _⟩ := id tp; obtain ⟨o', y1, y2, _⟩ := id q2; exact other_cls z1 y1 z2 y2 (by decide)
    have n3 : e ≠ it := by obtain ⟨o', y1, y2, _⟩ := id q2; exact other_cls q1 y1 rfl y2 (by decide)
    have lt : i < its.toArray.size := by simpa using (List.getElem?_eq_some_iff.mp hu).1
    have WT := WalksT.enumFrom (w := X.w) 0 (Draws.tuple (prog := X.prog) (w := X.w) (A := X.A.in1) (I.ok.hd hc) it a n2 its.toArray) e n3 (by simp [n3, Ne.symm n1]) (by simp)
    refine WT.item i s _ E lt ⟨⟨old, q1⟩, q2, tp⟩ fun T vals h1 tk ⟨t, x, hx, ev⟩ hnew hT hM hk => ⟨_, rfl, WT.go _ _ _ i T _ _ E hM fun h2 hst hk2 => ?_⟩
    have ex : x = u := by
      rw [show its.toArray[i]? = some u by simpa using hu] at hx
      exact (Option.some.inj hx).symm
    subst ex ev
    have hT2 : h2.IsTuple T #[.int (0 + (i : Int)) t, x] := hT.at fun o q => hk2 T o (WT.apart _ _ _ hM) q
    have e0 : (0 : Int) + (i : Int) = (i : Int) := Int.zero_add _
    rw [e0] at hT2
    have I2 : Inv X pins σ (upd H T (.tup [.int (i : Nat), y])) { s with heap := h2, toks := tk } :=
      I.turnedNew (ch := [e, it]) (fun b o hb q => hk2 b o hb (hk b o hb q)) hf hnew ⟨show 2 ≤ sizeLine by decide, _, .cons ⟨_, rfl⟩ (.cons ru .nil), hT2⟩
    refine ⟨.ref T, _, I2, rfl, ⟨T, y, rfl, I.hok.fresh hnew, rfl, fun zs hz => by rw [I.tuple_inj hz hw]; exact hy⟩, ⟨hst.1, hst.2.1⟩, fun b hb => ?_⟩
    have bl : b < s.heap.objs.size := by
      simp only [List.mem_cons, List.not_mem_nil, or_false] at hb
      rcases hb with rfl | rfl
      · exact Heap.lt_size q1
      · obtain ⟨o', y1, _⟩ := q2; exact Heap.lt_size y1
    rw [upd_ne (Nat.ne_of_lt (Nat.lt_of_lt_of_le bl hnew))]
    exact (hf b hb).1
  done := by
    rintro X rfl rfl rfl hc i pins s σ H E I hf ⟨⟨old, q1⟩, q2⟩ ⟨ws, hw, hl⟩
    obtain ⟨its, rv, tp, _⟩ := I.tuple hw
    have n1 : a ≠ e := by obtain ⟨o, z1, z2, _⟩ := id tp; exact other_cls z1 q1 z2 rfl (by decide)
    have n2 : a ≠ it := by obtain ⟨o, z1, z2, _⟩ := id tp; obtain ⟨o', y1, y2, _⟩ := id q2; exact other_cls z1 y1 z2 y2 (by decide)
    have n3 : e ≠ it := by obtain ⟨o', y1, y2, _⟩ := id q2; exact other_cls q1 y1 rfl y2 (by decide)
    have sz : i = its.toArray.size := by simp [← hl, rv.length]
    subst sz
    obtain ⟨f0, f1, f2, f3, f4, f5⟩ := hf it (by simp)
    refine wpAny_pyNext_enum_endD (Draws.tuple (A := X.A.in1) (I.ok.hd hc) it a n2 its.toArray) q1 ⟨q2, tp⟩ fun h' eb => ⟨rfl, ?_⟩
    exact I.turned (t' := s.toks) eb f0 f1 f3 f4 f5
  self := fun A i s Q E st h => let ⟨⟨_, q⟩, _⟩ := st; wpAny_pyIter_enum q h

/-- enumerate's making, of anything that can be gone through -/
theorem enum1_makes {v : Value} {o : Obj} {H : Heap → Prop} (B : Begins v o H) :
    Meets (Builtin.«enumerate.__new__» ⟨[.type "enumerate", v], []⟩) (fun _ R s => H s.heap ∧ R (.ok (.ret (.ref (s.heap.push o).objs.size)))
      { s with heap := (s.heap.push o).push { cls := .type "enumerate", data := .fields #[.none, .bool false, .ref s.heap.objs.size, rawInt 0, .none, .none] } }) :=
  .of_wp fun prog w A R s z => by
    obtain ⟨hp, g, d, tk, os⟩ := s
    obtain ⟨z1, z2⟩ := z
    have sb := sub_enumerate
    have go : ∀ {A' : Around} {E' Q' : Value → Shared → Prop}, Q' (.ref hp.objs.size) ⟨hp.push o, g, d, tk, os⟩ → wpAny (model prog w) A' (pyIter v) Q' E' ⟨hp, g, d, tk, os⟩ := fun q => B.iter prog w _ _ ⟨hp, g, d, tk, os⟩ _ z1 q
    wp_walk using go
    refine wpAny_stack_any fun _ => wpAny_pure ?_
    split
    · rename_i c _ _ _ _ _
      cases (c == Value.type "enumerate") <;> (wp_walk using go; exact ⟨_, rfl, z2⟩)
    · wp_walk using go
      exact ⟨_, rfl, z2⟩
theorem enum1_call {prog : Program} {w : World} {A : Around} {E : Value → Shared → Prop} {s : Shared} {v : Value} {o : Obj} {H : Heap → Prop} {Q : Value → Shared → Prop} (B : Begins v o H) (h1 : H s.heap)
    (h : ∀ h', IsEnum h' (s.heap.objs.size + 1) s.heap.objs.size 0 .none → h'.get? s.heap.objs.size = some o → (∀ b u, s.heap.get? b = some u → h'.get? b = some u) → Q (.ref (s.heap.objs.size + 1)) { s with heap := h' }) :
    wpAny (model prog w) A (call (.type "enumerate") [v]) Q E s := by
  have sz : (s.heap.push o).objs.size = s.heap.objs.size + 1 := Heap.size_push ..
  refine callType_new F.called_enumerate (by decide) (F.typeCall_enumerate_1 _) (F.newCall_enumerate_1 _) (fun obj => F.args_object_init_2 obj _) F.entry_enumerate_new (enum1_makes B) ⟨h1, ?_⟩
  show _ ∧ _
  rw [sz]
  have he : IsEnum ((s.heap.push o).push { cls := .type "enumerate", data := .fields #[.none, .bool false, .ref s.heap.objs.size, rawInt 0, .none, .none] }) (s.heap.objs.size + 1) s.heap.objs.size 0 .none := by
    rw [← sz]
    exact Heap.get?_push_size _ rfl
  exact ⟨⟨_, he, rfl⟩, h _ he (Heap.get?_push_of_some _ (Heap.get?_push_size _ B.free)) fun b u z => Heap.get?_push_of_some _ (Heap.get?_push_of_some _ z)⟩
def iEnumT (K : PySem.W.Frag) (u : TA) : TI := fun σ H R => u σ H fun vs H1 => ∃ a xs, vs = [.ref a] ∧ SqT K H1 a xs ∧ R (JeT K a) H1
theorem pi_enumT {X : Cx} {e : Expr} {u : TA} {p pos tpos : Pos} {elts : List Expr} {kk : Nat} (hg : Gl X "enumerate") (hm : X.mg "enumerate" = none) (ha : PA X [e] u) (hs : starEach [e] X.env = [(false, eval e X.env)] := by rfl) :
    PI X (.Tuple elts kk tpos) (.Call (.Name "enumerate" p) [e] [] pos) (iEnumT X.K u) := by
  refine ⟨fun pins s σ H R I h => Call_ (ld_blt I hg hm boot_enumerate (PyProof.Rows.callWith_type1 (thn (ha.run pos pins s σ H _ I h) ?_) hs rfl))⟩
  rintro us s1 ⟨vs, H1, I1, r1, a, xs, rfl, hq, q⟩
  cases r1 with
  | cons r rr =>
    cases rr
    cases r
    obtain ⟨its, rv, tp, _⟩ := I1.tuple hq
    refine enum1_call (begins_tuple a its.toArray) tp fun h' he hi hk => wpAny_pyIter_enum he ?_
    refine ⟨_, _, _, _, H1, rfl, I1.kept (t' := s1.toks) hk, turn_enumT a (s1.heap.objs.size + 1) s1.heap.objs.size, ⟨⟨.none, he⟩, ⟨_, hi, rfl, rfl⟩⟩, fun b hb => ?_, q⟩
    have le : s1.heap.objs.size ≤ b := by
      simp only [List.mem_cons, List.not_mem_nil, or_false] at hb
      rcases hb with rfl | rfl
      · exact Nat.le_succ _
      · exact Nat.le_refl _
    exact I1.fpOk le (I1.hok.fresh le)
/-! ### as an iterable of the reckoning -/
def numD : Nat → List PyData → List D
  | _, [] => []
  | k, d :: r => .p (.dict [(.none, .none), (.int (k : Int), d)]) :: numD (k + 1) r
theorem numD_len : ∀ (k : Nat) (l : List PyData), (numD k l).length = l.length
  | _, [] => rfl
  | k, d :: r => by rw [numD, List.length_cons, List.length_cons, numD_len (k + 1) r]
theorem numD_get : ∀ (k : Nat) (l : List PyData) (i : Nat), (numD k l)[i]? = l[i]?.map fun d => D.p (.dict [(.none, .none), (.int ((k + i : Nat) : Int), d)])
  | _, [], i => by simp [numD]
  | k, d :: r, 0 => by simp [numD]
  | k, d :: r, i + 1 => by
    rw [numD, List.getElem?_cons_succ, List.getElem?_cons_succ, numD_get (k + 1) r i]
    have : k + 1 + i = k + (i + 1) := by omega
    rw [this]
def enT : List D → Sto → Ot (List D × (Sto → Bool))
  | [.p (.tuple l)], S => .ok (numD 0 l, yes) S
  | _, _ => .bad
def iEnT (a : AM) : IM := fun env S => (a env S).bind enT
theorem walk_JeT {K : PySem.W.Frag} {a : Addr} {xs : List V} : Walk (JeT K a) xs.length (fun H => SqT K H a xs) (YPair (fun i => some (.int (i : Nat))) (fun i => xs[i]?)) :=
  ⟨fun i _ hi q => ⟨xs, xs[i], q, by simp [hi]⟩, fun _ q => ⟨xs, q, rfl⟩, fun i H v H' _ q ⟨T, y, h1, h2, h3, h4⟩ => ⟨T, _, y, h1, h2, h3, rfl, h4 xs q⟩⟩
theorem wk_enT {K : PySem.W.Frag} {R : Addr → Prop} {μ : Nat → Addr} {n : Nat} {H : Hp} {a : Addr} {xs : List V} {l : List PyData} (h : SqT K H a xs) (hp : PdAll K H (Av R μ n) xs l) : Wk K R μ n H (numD 0 l) yes (JeT K a) := by
  refine ⟨⟨_, _, by rw [numD_len, ← hp.len]; exact walk_JeT, fun _ μ2 S2 H2 _ s _ _ => s.hp.sqt h, fun R2 i d μ2 S2 H2 x H3 hR hi s rs _ y => ?_⟩⟩
  obtain ⟨T, v1, v2, rfl, hT, rfl, e1, e2⟩ := y
  cases e1
  rw [numD_get, Nat.zero_add] at hi
  cases e : l[i]? with
  | none => rw [e] at hi; cases hi
  | some d0 =>
    rw [e] at hi
    cases hi
    obtain ⟨v, h1, h2⟩ := pda_get (hp.mono (le_grow s hR)) e
    have e2' : xs[i]? = some v2 := e2
    rw [h1] at e2'
    cases e2'
    have sn : Sp1 μ2 S2.length H2 μ2 S2.length (upd H2 T (.tup [.int (i : Nat), v2])) := sp_new hT
    exact ⟨sn, rs_new hT rs, .p (.wk upd_same (.int _) (h2.mono (av_le sn.hp)))⟩
theorem mi_enumT {X : Cx} {W : WX} {e : Expr} {aa : AM} {p pos tpos : Pos} {elts : List Expr} {kk : Nat} (hm : X.mg "enumerate" = none) (ha : PA X [e] (ta X.K X.mg W aa)) (hg : Gl X "enumerate" := by rfl) (hs : starEach [e] X.env = [(false, eval e X.env)] := by rfl) :
    MI X W (.Tuple elts kk tpos) (.Call (.Name "enumerate" p) [e] [] pos) (iEnT aa) := by
  refine ⟨_, pi_enumT hg hm ha hs, fun σ H Rr ⟨R, μ, env, S, r, h⟩ => ⟨R, μ, env, S, r, ?_⟩⟩
  refine pg_mono (pg_bind h) fun μ1 H1 S1 ds s1 rs1 q vs dr => ?_
  unfold enT at q
  split at q
  · rename_i l
    obtain ⟨v, ws, rfl, d1, d2⟩ := drs_cons dr
    obtain rfl := drs_nil d2
    obtain ⟨a, xs, rfl, h1, h3⟩ := dr_tup d1
    exact ⟨a, xs, rfl, h1, pg_ok q rs1 _ (wk_enT h1 h3)⟩
  · exact q.elim
theorem me_gintE {X : Cx} {W : WX} {x : Str} {i : Int} {pos : Pos} (h : ∃ t : Tok, X.mg x = some (.int i t)) (hg : Gl X x := by rfl) (hd : (x == ("__debug__" : Str)) = false := by decide) : PE X (.Name x pos) (te X.K X.mg W (eC (.int i))) := by
  obtain ⟨_, h⟩ := h
  exact me_gint h hg hd
end Mi

/-! Mi19 -/
set_option Elab.async false
set_option linter.all false
set_option maxRecDepth 100000
set_option maxHeartbeats 1000000
set_option autoImplicit false
namespace Mi
open PySem PySem.Spec PyProof.Rows L2

/-! ### a comprehension's target of two names -/
theorem gc_two {K : PySem.W.Frag} {i j : Nat} (ne : i ≠ j) : GC K (gT [gN i, gN j]) (gTup K 2 (gCons (gName i) (gCons (gName j) gNil))) [i, j] := by
  refine ⟨fun R μ S H σ env env' x d Q rs en dr e q => ?_⟩
  cases dr with
  | loc _ => cases e
  | scr _ => cases e
  | p dp =>
    cases dp with
    | non => cases e
    | bl _ => cases e
    | int _ => cases e
    | str _ => cases e
    | lst _ _ _ => cases e
    | dk0 _ _ => cases e
    | wkn _ _ => cases e
    | dk1 _ _ _ => cases e
    | dks _ _ _ => cases e
    | ex0 _ _ _ => cases e
    | exn _ _ _ _ _ _ _ => cases e
    | @wk a v w x y h1 p1 p2 =>
      have el : gsOf [gN i, gN j] [x, y] env = some env' := e
      cases el
      refine ⟨a, _, rfl, SqT.of h1, rfl, _, _, rfl, _, _, rfl, rfl, q _ ?_ ((en.set (.p p1) i).set (.p p2) j)⟩
      show wipe ((((wipe σ [i, j]).set i _).set j _)) [i, j] = wipe σ [i, j]
      show ((((((σ.set j none).set i none).set i _).set j _).set j none).set i none) = (σ.set j none).set i none
      rw [List.set_set, List.set_set, List.set_comm _ _ ne, List.set_set, List.set_set]
    | @tup a xs l h1 h3 =>
      have el : gsOf [gN i, gN j] l env = some env' := e
      cases h3 with
      | nil => cases el
      | cons p1 r1 =>
        cases r1 with
        | nil => cases el
        | cons p2 r2 =>
          cases r2 with
          | cons _ _ => cases el
          | nil =>
            cases el
            refine ⟨a, _, rfl, h1.sqt, rfl, _, _, rfl, _, _, rfl, rfl, q _ ?_ ((en.set (.p p1) i).set (.p p2) j)⟩
            show wipe ((((wipe σ [i, j]).set i _).set j _)) [i, j] = wipe σ [i, j]
            show ((((((σ.set j none).set i none).set i _).set j _).set j none).set i none) = (σ.set j none).set i none
            rw [List.set_set, List.set_set, List.set_comm _ _ ne, List.set_set, List.set_set]
end Mi

/-! Mi20 -/
set_option Elab.async false
set_option linter.all false
set_option maxRecDepth 100000
set_option maxHeartbeats 1000000
set_option autoImplicit false
namespace Mi
open PySem PySem.Spec PyProof.Rows L2

/-! ### enumerate over a plain list -/
theorem wk_enL {K : PySem.W.Frag} {R : Addr → Prop} {μ : Nat → Addr} {n : Nat} {H : Hp} {a : Addr} {xs : List V} {l : List PyData} (h : H a = some (.lst xs)) (no : ¬ Av R μ n a) (hp : PdAll K H (Av R μ n) xs l) : Wk K R μ n H (numD 0 l) yes (Ite K a) := by
  refine ⟨⟨_, _, by rw [numD_len, ← hp.len]; exact walk_enum, fun _ μ2 S2 H2 _ s _ _ => SqL.of ((av_le (R := R) s.hp).keep _ _ h no), fun R2 i d μ2 S2 H2 x H3 hR hi s rs _ y => ?_⟩⟩
  obtain ⟨T, v1, v2, rfl, hT, rfl, e1, e2⟩ := y
  cases e1
  rw [numD_get, Nat.zero_add] at hi
  cases e : l[i]? with
  | none => rw [e] at hi; cases hi
  | some d0 =>
    rw [e] at hi
    cases hi
    obtain ⟨v, h1, h2⟩ := pda_get (hp.mono (le_grow s hR)) e
    have e2' : xs[i]? = some v2 := e2
    rw [h1] at e2'
    cases e2'
    have sn : Sp1 μ2 S2.length H2 μ2 S2.length (upd H2 T (.tup [.int (i : Nat), v2])) := sp_new hT
    exact ⟨sn, rs_new hT rs, .p (.wk upd_same (.int _) (h2.mono (av_le sn.hp)))⟩
def enL : List D → Sto → Ot (List D × (Sto → Bool))
  | [.p (.list l)], S => .ok (numD 0 l, yes) S
  | _, _ => .bad
def iEnL (a : AM) : IM := fun env S => (a env S).bind enL
theorem mi_enumL {X : Cx} {W : WX} {e : Expr} {aa : AM} {p pos tpos : Pos} {elts : List Expr} {kk : Nat} (hm : X.mg "enumerate" = none) (ha : PA X [e] (ta X.K X.mg W aa)) (hg : Gl X "enumerate" := by rfl) (hs : starEach [e] X.env = [(false, eval e X.env)] := by rfl) :
    MI X W (.Tuple elts kk tpos) (.Call (.Name "enumerate" p) [e] [] pos) (iEnL aa) := by
  refine ⟨_, pi_enum hg hm ha hs, fun σ H Rr ⟨R, μ, env, S, r, h⟩ => ⟨R, μ, env, S, r, ?_⟩⟩
  refine pg_mono (pg_bind h) fun μ1 H1 S1 ds s1 rs1 q vs dr => ?_
  unfold enL at q
  split at q
  · rename_i l
    obtain ⟨v, ws, rfl, d1, d2⟩ := drs_cons dr
    obtain rfl := drs_nil d2
    obtain ⟨a, xs, rfl, h1, h2, h3⟩ := dr_lst d1
    exact ⟨a, xs, rfl, SqL.of h1, pg_ok q rs1 _ (wk_enL h1 h2 h3)⟩
  · exact q.elim

/-! ### x in a list -/
def listOf : D → Sto → Option (List PyData)
  | .p (.list l), _ => some l
  | .loc i, S => (cellL S i).bind plains
  | _, _ => none
/-- a pair that was made in passing, read as the tuple that it is -/
def unw1 : PyData → PyData
  | .dict [(.none, .none), (x, y)] => .tuple [x, y]
  | d => d
theorem pd1_dp {K : PySem.W.Frag} {H : Hp} {O : Addr → Prop} {v : V} {d : PyData} (h : Pd K H O v d) (c : (unw1 d).canLay0 = true) : Dp K H v (unw1 d) := by
  cases h with
  | wk h1 h2 h3 => exact .tup (SqT.of h1) (pda_dp (O := O) _ _ (by simpa [unw1, PyData.canLay0] using c) (.cons h2 (.cons h3 .nil)))
  | non => exact pd_dp (O := O) _ _ c .non
  | bl b => exact pd_dp (O := O) _ _ c (.bl b)
  | int i => exact pd_dp (O := O) _ _ c (.int i)
  | str x => exact pd_dp (O := O) _ _ c (.str x)
  | lst h1 h2 h3 => exact pd_dp (O := O) _ _ c (.lst h1 h2 h3)
  | tup h1 h2 => exact pd_dp (O := O) _ _ c (.tup h1 h2)
  | dk0 _ _ => simp [unw1, PyData.canLay0] at c
  | wkn _ _ => simp [unw1, PyData.canLay0] at c
  | dk1 _ _ _ => simp [unw1, PyData.canLay0] at c
  | dks _ _ _ => simp [unw1, PyData.canLay0] at c
  | ex0 _ _ _ => simp [unw1, PyData.canLay0] at c
  | exn _ _ _ _ _ _ _ => simp [unw1, PyData.canLay0] at c
theorem pda1_dp {K : PySem.W.Frag} {H : Hp} {O : Addr → Prop} : ∀ {vs : List V} {ds : List PyData}, PdAll K H O vs ds → PyData.canLayAll0 (ds.map unw1) = true → DpAll K H vs (ds.map unw1)
  | _, _, .nil, _ => .nil
  | _, _, .cons (d := d) (ds := ds) h1 h2, c => by
    have c' : ((unw1 d).canLay0 && PyData.canLayAll0 (ds.map unw1)) = true := by simpa [PyData.canLayAll0] using c
    exact .cons (pd1_dp h1 (Bool.and_eq_true_iff.mp c').1) (pda1_dp h2 (Bool.and_eq_true_iff.mp c').2)
theorem listOf_dp {K : PySem.W.Frag} {R : Addr → Prop} {μ : Nat → Addr} {H : Hp} {S : Sto} {v : V} {d : D} {l : List PyData} (rs : RS K R H μ S) (h : DR K R H μ S.length v d) (e : listOf d S = some l) (c : SeqAt.shaped (.list (l.map unw1)) = true) : Dp K H v (.list (l.map unw1)) := by
  have lay : PyData.canLayAll0 (l.map unw1) = true := by simpa [PyData.canLay0] using shaped_lay c
  unfold listOf at e
  split at e
  · cases e
    obtain ⟨a, xs, rfl, h1, _, h3⟩ := dr_lst h
    exact .lst (SqL.of h1) (pda1_dp h3 lay)
  · obtain ⟨xs, q1, q2⟩ := Option.bind_eq_some_iff.mp e
    obtain ⟨rfl, hi⟩ := dr_loc h
    obtain ⟨vs, g1, g2⟩ := rs.cell _ _ (cellL_some q1)
    exact .lst (SqL.of g1) (pda1_dp (plains_pd g2 q2) lay)
  · cases e
def inG (neg : Bool) : D → D → Sto → Ot D
  | .p a, y, S => match listOf y S with
    | some l => if SeqAt.shaped (unw1 a) = true ∧ SeqAt.shaped (.list (l.map unw1)) = true then .ok (.p (.bool (if neg = true then !((l.map unw1).any fun z => PyData.eqv z (unw1 a)) else (l.map unw1).any fun z => PyData.eqv z (unw1 a)))) S else .bad
    | none => .bad
  | _, _, _ => .bad
def rInG (K : PySem.W.Frag) (neg : Bool) : R2 := if neg = true then rNotInD K else rInD K
theorem inG_ok {K : PySem.W.Frag} {mg : Str → Option Value} {W : WX} {neg : Bool} : Op2 K mg W (inG neg) (rInG K neg) := by
  intro R μ H S σ env x y dx dy Q r h
  obtain ⟨y', ws, e1, hy, r1⟩ := drs_cons r.tm
  cases e1
  obtain ⟨x', ws', e2, hx, r2⟩ := drs_cons r1
  cases e2
  cases hx with
  | loc _ => exact h.elim
  | scr _ => exact h.elim
  | @p _ a px =>
    unfold inG at h
    dsimp only at h
    cases hl : listOf dy S with
    | none => rw [hl] at h; exact h.elim
    | some l =>
      rw [hl] at h
      dsimp only at h
      by_cases hz : SeqAt.shaped (unw1 a) = true ∧ SeqAt.shaped (.list (l.map unw1)) = true
      · rw [if_pos hz] at h
        have p1 := pd1_dp px (shaped_lay hz.1)
        have p2 := listOf_dp r.rs hy hl hz.2
        unfold rInG
        cases neg with
        | true => rw [if_pos rfl] at h ⊢; exact ⟨unw1 a, l.map unw1, p1, p2, hz.1, hz.2, po_ok h r.rs (.p (.bl _))⟩
        | false => rw [if_neg Bool.false_ne_true] at h ⊢; exact ⟨unw1 a, l.map unw1, p1, p2, hz.1, hz.2, po_ok h r.rs (.p (.bl _))⟩
      · rw [if_neg hz] at h
        exact h.elim
theorem op_inG {X : Cx} (hu : X.A.units + 65 < cLine) : OpR X (compareOp .In) (rInG X.K false) := by
  unfold rInG
  rw [if_neg Bool.false_ne_true]
  exact op_inD hu
theorem op_notInG {X : Cx} (hu : X.A.units + 65 < cLine) : OpR X (compareOp .NotIn) (rInG X.K true) := by
  unfold rInG
  rw [if_pos rfl]
  exact op_notInD hu
theorem room65 {k : Nat} {A : Around} (r : Room k A) : A.units + 65 < cLine := by
  have := r.un
  omega
section
variable {X : Cx} {W : WX} {a b : Expr} {ma mb : EM} {pos : Pos} {k : Nat}
theorem me_in (hr : Room k X.A) (ha : PE X a (te X.K X.mg W ma)) (hb : PE X b (te X.K X.mg W mb)) (hm : behindInMarks .In b = false := by rfl) : PE X (.Compare a [.In] [b] pos) (te X.K X.mg W (eOp (inG false) ma mb)) := me_cmp (op_inG (room65 hr)) inG_ok ha hb hm
theorem me_notin (hr : Room k X.A) (ha : PE X a (te X.K X.mg W ma)) (hb : PE X b (te X.K X.mg W mb)) (hm : behindInMarks .NotIn b = false := by rfl) : PE X (.Compare a [.NotIn] [b] pos) (te X.K X.mg W (eOp (inG true) ma mb)) := me_cmp (op_notInG (room65 hr)) inG_ok ha hb hm
end
end Mi

/-! Mi21 -/
set_option Elab.async false
set_option linter.all false
set_option maxRecDepth 100000
set_option maxHeartbeats 1000000
set_option autoImplicit false
namespace Mi
open PySem PySem.Spec PyProof.Rows L2 RZ

/-! ### zip of two tuples, all pairs kept: from the second turn on the pair handed out first is alive -/
abbrev zipO (f0 f1 : Value) (TI TO : Addr) : Obj := { cls := .type "zip", dict := none, data := .fields #[f0, f1, .bool false, .ref TI, .ref TO], slots := #[] }
section
variable {prog : Program} {w : World} {A : Around} {E : Value → Shared → Prop} {s : Shared} {z TI TO i1 i2 l1 l2 T S : Addr} {k1 k2 : Nat} {xs ys : Array Value} {f1 : Value}
theorem alive_then {a : Addr} {o : Obj} {Q : Option Obj → Shared → Prop} (ho : s.heap.get? a = some o) (h : Q (some o) s) : wpAny (model prog w) A (loadIfAlive a) Q E s := fun Γ p hΓ => by
  unfold loadIfAlive
  rw [Sem.wp_loadIfAlive, ho]
  exact h
theorem zipH_free {Q : Bool → Shared → Prop} (hz : s.heap.get? z = some (zipO (rawInt T) f1 TI TO)) (hT : ∃ o, s.heap.get? T = some o) (hf : f1 = .bool false ∨ f1 = .bool true)
    (hq : ∀ h', h'.get? z = some (zipO (rawInt T) (.bool true) TI TO) → Heap.SameBut z s.heap h' → Q false { s with heap := h' }) : wpAny (model prog w) A (Builtin.SmallTypes.ownedTupleIsFree (.ref z)) Q E s := by
  obtain ⟨o, ho⟩ := hT
  unfold Builtin.SmallTypes.ownedTupleIsFree
  refine wpAny_bind (wpAny_field hz rfl (x := rawInt T) rfl ?_)
  simp only [rawInt]
  refine wpAny_bind (alive_then (a := T) ho ?_)
  simp only [Option.isNone_some, Bool.false_eq_true, if_false]
  refine wpAny_bind (wpAny_field hz rfl (x := f1) rfl ?_)
  rcases hf with rfl | rfl
  · rw [if_pos (by decide)]
    exact wpAny_bind (wpAny_setField_rec hz (by simp) fun h' hz' hs' => wpAny_pure (hq h' hz' hs'))
  · rw [if_neg (by decide)]
    exact wpAny_pure (hq s.heap hz ⟨rfl, fun _ _ => rfl⟩)
theorem zipH_item {x y : Value} {Q : Value → Shared → Prop} (D : ZipApart z TI TO i1 i2 l1 l2) (hz : s.heap.get? z = some (zipO (rawInt T) f1 TI TO)) (hT : ∃ o, s.heap.get? T = some o) (hf : f1 = .bool false ∨ f1 = .bool true)
    (hTI : IsPair s.heap TI (.ref i1) (.ref i2)) (h1 : s.heap.IsTupleIter i1 l1 k1) (h2 : s.heap.IsTupleIter i2 l2 k2) (hl1 : s.heap.IsTuple l1 xs) (hl2 : s.heap.IsTuple l2 ys) (hx : xs[k1]? = some x) (hy : ys[k2]? = some y)
    (hQ : ∀ h', h'.get? z = some (zipO (rawInt T) (.bool true) TI TO) → h'.IsTupleIter i1 l1 (k1 + 1) → h'.IsTupleIter i2 l2 (k2 + 1) → IsPair h' s.heap.objs.size x y → h'.objs.size = s.heap.objs.size + 1 →
      (∀ c o, c ≠ z → c ≠ i1 → c ≠ i2 → s.heap.get? c = some o → h'.get? c = some o) → Q (.ref s.heap.objs.size) { s with heap := h' }) :
    wpAny (model prog w) A (Builtin.«zip.__next__» ⟨[.ref z], []⟩) (fun fin s' => ∃ v, fin = .done (.ret v) ∧ Q v s') E s := by
  show wpAny _ _ (field (.ref z) 2 >>= _) _ _ _
  refine wpAny_bind (wpAny_field hz rfl (x := .bool false) rfl ?_)
  show wpAny _ _ (field (.ref z) 3 >>= _) _ _ _
  refine wpAny_bind (wpAny_field hz rfl (x := .ref TI) rfl ?_)
  refine wpAny_bind (wpAny_seqItems hTI rfl ?_)
  show wpAny _ _ (Builtin.SmallTypes.ownedTupleIsFree (.ref z) >>= _) _ _ _
  refine wpAny_bind (zipH_free hz hT hf fun h₁ hz₁ hs₁ => ?_)
  simp only [Bool.false_eq_true, if_false]
  refine wpAny_bind ?_
  simp only [List.forIn_toArray, List.forIn_cons, List.forIn_nil]
  refine wpAny_bind (wpAny_bind (wpAny_holding ?_))
  show wpAny _ _ (Builtin.SmallTypes.nextOf (.ref i1) >>= fun v => pure (some v)) _ _ _
  refine wpAny_bind (nextOf_tuple_item (h1.extBut hs₁.extBut D.i1z) (hl1.extBut hs₁.extBut D.l1z) hx fun h₂ h1₂ hs₂ => wpAny_pure (wpAny_pure ?_))
  refine wpAny_bind (wpAny_bind (wpAny_holding ?_))
  show wpAny _ _ (Builtin.SmallTypes.nextOf (.ref i2) >>= fun v => pure (some v)) _ _ _
  refine wpAny_bind (nextOf_tuple_item ((h2.extBut hs₁.extBut D.i2z).extBut hs₂.extBut D.i12.symm) ((hl2.extBut hs₁.extBut D.l2z).extBut hs₂.extBut D.l2i1) hy fun h₃ h2₃ hs₃ => wpAny_pure (wpAny_pure (wpAny_pure ?_)))
  refine wpAny_bind (wpAny_newTuple ?_ (by show 2 ≤ sizeLine; decide))
  have hsz : h₃.objs.size = s.heap.objs.size := by rw [hs₃.1, hs₂.1, hs₁.1]
  have up : ∀ c o, c ≠ z → c ≠ i1 → c ≠ i2 → s.heap.get? c = some o → (h₃.push { cls := .type "tuple", data := .seq #[x, y] }).get? c = some o := fun c o c1 c2 c3 e =>
    Heap.get?_push_of_some _ (hs₃.extBut _ _ c3 (hs₂.extBut _ _ c2 (hs₁.extBut _ _ c1 e)))
  refine wpAny_pure ⟨_, rfl, ?_⟩
  show Q (.ref h₃.objs.size) _
  have q := hQ (h₃.push { cls := .type "tuple", data := .seq #[x, y] }) (Heap.get?_push_of_some _ (hs₃.extBut _ _ D.i2z.symm (hs₂.extBut _ _ D.i1z.symm hz₁))) ((h1₂.extBut hs₃.extBut D.i12).at fun o e => Heap.get?_push_of_some _ e) (h2₃.at fun o e => Heap.get?_push_of_some _ e)
  rw [← hsz] at q
  exact q (Heap.get?_push_size _ rfl) (Heap.size_push ..) up
theorem zipH_end {Q : Fin → Shared → Prop} (hh : A.handled = none) (D : ZipApart z TI TO i1 i2 l1 l2) (hz : s.heap.get? z = some (zipO (rawInt T) f1 TI TO)) (hT : ∃ o, s.heap.get? T = some o) (hf : f1 = .bool false ∨ f1 = .bool true)
    (hTI : IsPair s.heap TI (.ref i1) (.ref i2)) (h1 : s.heap.IsTupleIter i1 l1 k1) (hl1 : s.heap.IsTuple l1 xs) (hx : xs[k1]? = none)
    (hE : ∀ h' e, (∀ c o, c ≠ z → c ≠ i1 → s.heap.get? c = some o → h'.get? c = some o) → (∃ o, h'.get? e = some o ∧ o.cls = .type "StopIteration") → E (.ref e) { s with heap := h' }) :
    wpAny (model prog w) A (Builtin.«zip.__next__» ⟨[.ref z], []⟩) Q E s := by
  show wpAny _ _ (field (.ref z) 2 >>= _) _ _ _
  refine wpAny_bind (wpAny_field hz rfl (x := .bool false) rfl ?_)
  show wpAny _ _ (field (.ref z) 3 >>= _) _ _ _
  refine wpAny_bind (wpAny_field hz rfl (x := .ref TI) rfl ?_)
  refine wpAny_bind (wpAny_seqItems hTI rfl ?_)
  show wpAny _ _ (Builtin.SmallTypes.ownedTupleIsFree (.ref z) >>= _) _ _ _
  refine wpAny_bind (zipH_free hz hT hf fun h₁ hz₁ hs₁ => ?_)
  simp only [Bool.false_eq_true, if_false]
  refine wpAny_bind ?_
  simp only [List.forIn_toArray, List.forIn_cons, List.forIn_nil]
  refine wpAny_bind (wpAny_bind (wpAny_holding ?_))
  show wpAny _ _ (Builtin.SmallTypes.nextOf (.ref i1) >>= fun v => pure (some v)) _ _ _
  exact wpAny_bind (nextOf_tuple_end hh (h1.extBut hs₁.extBut D.i1z) (hl1.extBut hs₁.extBut D.l1z) hx fun h₂ e hs₂ he => hE h₂ e (fun c o c1 c2 x => hs₂ _ _ c2 (hs₁.extBut _ _ c1 x)) he)

/-! one turn, whichever it is -/
/-- a zip of two tuples behind i turns -/
structure ZAt (h : Heap) (z TI TO i1 i2 l1 l2 S : Addr) (xs ys : Array Value) (i : Nat) : Prop where
  zip : ∃ f0 f1, h.get? z = some (zipO f0 f1 TI TO) ∧ ((f0 = .none ∧ f1 = .bool false) ∨ ∃ T : Addr, f0 = rawInt T ∧ (∃ o, h.get? T = some o) ∧ T ≠ z ∧ T ≠ TO ∧ T ≠ i1 ∧ T ≠ i2 ∧ T ≠ S ∧ (f1 = .bool false ∨ f1 = .bool true))
  ti : IsPair h TI (.ref i1) (.ref i2)
  to : ∃ a b, IsPair h TO a b
  it1 : h.IsTupleIter i1 l1 i
  it2 : h.IsTupleIter i2 l2 i
  tup1 : h.IsTuple l1 xs
  tup2 : h.IsTuple l2 ys
theorem zAt_next {i : Nat} {x y : Value} {Q : Option Value → Shared → Prop} (D : ZipApart z TI TO i1 i2 l1 l2) (st : ZAt s.heap z TI TO i1 i2 l1 l2 S xs ys i) (hx : xs[i]? = some x) (hy : ys[i]? = some y) (hS : S < s.heap.objs.size)
    (hQ : ∀ h', ZAt h' z TI TO i1 i2 l1 l2 S xs ys (i + 1) → IsPair h' s.heap.objs.size x y → h'.objs.size = s.heap.objs.size + 1 → (∀ c o, c ≠ z → c ≠ TO → c ≠ i1 → c ≠ i2 → s.heap.get? c = some o → h'.get? c = some o) → Q (some (.ref s.heap.objs.size)) { s with heap := h' }) :
    wpAny (model prog w) A (pyNext (.ref z)) Q E s := by
  obtain ⟨⟨f0, f1, hz, hcase⟩, hTI, ⟨a, b, hTO⟩, h1, h2, hl1, hl2⟩ := st
  have hzt : s.TypeIs (.ref z) "zip" := ⟨_, hz, rfl⟩
  have zlt := Heap.lt_size hz
  have olt := Heap.lt_size hTO
  have i1lt : i1 < s.heap.objs.size := by obtain ⟨_, e, _⟩ := h1; exact Heap.lt_size e
  have i2lt : i2 < s.heap.objs.size := by obtain ⟨_, e, _⟩ := h2; exact Heap.lt_size e
  rcases hcase with ⟨rfl, rfl⟩ | ⟨T, rfl, hT, t1, t2, t3, t4, t5, hf⟩
  · refine pyNext_zipT_item D hz hTI hTO h1 h2 hl1 hl2 hx hy fun h' a1 a2 a3 a4 a5 a6 a7 => hQ h' ⟨⟨_, _, a1, .inr ⟨_, rfl, ⟨_, a5⟩, Nat.ne_of_gt zlt, Nat.ne_of_gt olt, Nat.ne_of_gt i1lt, Nat.ne_of_gt i2lt, Nat.ne_of_gt hS, .inl rfl⟩⟩, a7 _ _ D.TIz D.TITO D.TIi1 D.TIi2 hTI, ⟨_, _, a2⟩, a3, a4, hl1.at fun o e => a7 _ o D.l1z D.l1TO D.l1i1 D.l1i2 e, hl2.at fun o e => a7 _ o D.l2z D.l2TO D.l2i1 D.l2i2 e⟩ a5 a6 a7
  · unfold pyNext
    refine wpAny_bind (wpAny_attempt (wpAny_callSpecial?_slot (name := Str.ofString "__next__") hzt F.slot_zip_next
      (wpAny_call_entry F.slot_zip_next hzt F.entry_zip_next (zipH_item D hz hT hf hTI h1 h2 hl1 hl2 hx hy fun h' b1 b2 b3 b4 b5 b6 => wpAny_pure ?_) (F.args_zip_next_1 _))))
    obtain ⟨oT, hoT⟩ := hT
    exact hQ h' ⟨⟨_, _, b1, .inr ⟨T, rfl, ⟨oT, b6 _ _ t1 t3 t4 hoT⟩, t1, t2, t3, t4, t5, .inr rfl⟩⟩, b6 _ _ D.TIz D.TIi1 D.TIi2 hTI, ⟨a, b, b6 _ _ D.TOz D.TOi1 D.TOi2 hTO⟩, b2, b3, hl1.at fun o e => b6 _ o D.l1z D.l1i1 D.l1i2 e, hl2.at fun o e => b6 _ o D.l2z D.l2i1 D.l2i2 e⟩ b4 b5 fun c o c1 _ c3 c4 e => b6 c o c1 c3 c4 e
theorem zAt_end {i : Nat} {Q : Option Value → Shared → Prop} (hh : A.handled = none) (D : ZipApart z TI TO i1 i2 l1 l2) (st : ZAt s.heap z TI TO i1 i2 l1 l2 S xs ys i) (hx : xs[i]? = none)
    (hQ : ∀ h', (∀ c o, c ≠ z → c ≠ TO → c ≠ i1 → c ≠ i2 → s.heap.get? c = some o → h'.get? c = some o) → Q none { s with heap := h' }) : wpAny (model prog w) A (pyNext (.ref z)) Q E s := by
  obtain ⟨⟨f0, f1, hz, hcase⟩, hTI, ⟨a, b, hTO⟩, h1, h2, hl1, hl2⟩ := st
  have hzt : s.TypeIs (.ref z) "zip" := ⟨_, hz, rfl⟩
  rcases hcase with ⟨rfl, rfl⟩ | ⟨T, rfl, hT, t1, t2, t3, t4, t5, hf⟩
  · exact pyNext_zipT_end hh D hz hTI hTO h1 h2 hl1 hl2 (.inl hx) hQ
  · unfold pyNext
    refine wpAny_bind (wpAny_attempt (wpAny_callSpecial?_slot (name := Str.ofString "__next__") hzt F.slot_zip_next
      (wpAny_call_entry F.slot_zip_next hzt F.entry_zip_next (zipH_end hh D hz hT hf hTI h1 hl1 hx fun h' e hk he => ?_) (F.args_zip_next_1 _))))
    obtain ⟨o, ho, hc⟩ := he
    exact wpAny_bind (wpAny_isInstance (T := "StopIteration") (b := true) ⟨o, ho, hc⟩ isSubtype_stop (wpAny_pure (hQ _ fun c o c1 _ c3 _ e => hk c o c1 c3 e)))

/-! the list that takes them all -/
abbrev lsO (acc : Array Value) (c : Nat) : Obj := { cls := .type "list", dict := none, data := .seq acc c, slots := #[] }
/-- what the list holds: new pairs, each of its own -/
def Prs (h : Heap) (S : Addr) (xs ys : Array Value) (acc : Array Value) : Prop := ∀ (j : Nat) (v : Value), acc[j]? = some v → ∃ (T : Addr) (x y : Value), v = .ref T ∧ S < T ∧ xs[j]? = some x ∧ ys[j]? = some y ∧ IsPair h T x y ∧ ∀ j', j' < j → ∀ T', acc[j']? = some (.ref T') → T' < T
theorem zAt_frame {h h' : Heap} {i : Nat} (st : ZAt h z TI TO i1 i2 l1 l2 S xs ys i) (k : ∀ c o, h.get? c = some o → c ≠ S → h'.get? c = some o) (hS : ∀ c, c = z ∨ c = TI ∨ c = TO ∨ c = i1 ∨ c = i2 ∨ c = l1 ∨ c = l2 → c ≠ S) :
    ZAt h' z TI TO i1 i2 l1 l2 S xs ys i := by
  obtain ⟨⟨f0, f1, hz, hcase⟩, hTI, ⟨a, b, hTO⟩, h1, h2, hl1, hl2⟩ := st
  refine ⟨⟨f0, f1, k _ _ hz (hS _ (by simp)), ?_⟩, k _ _ hTI (hS _ (by simp)), ⟨a, b, k _ _ hTO (hS _ (by simp))⟩, h1.at fun o e => k _ o e (hS _ (by simp)), h2.at fun o e => k _ o e (hS _ (by simp)), hl1.at fun o e => k _ o e (hS _ (by simp)), hl2.at fun o e => k _ o e (hS _ (by simp))⟩
  rcases hcase with q | ⟨T, rfl, ⟨o, hT'⟩, t1, t2, t3, t4, t5, r⟩
  · exact .inl q
  · exact .inr ⟨T, rfl, ⟨o, k _ _ hT' t5⟩, t1, t2, t3, t4, t5, r⟩
theorem prs_push {h h' : Heap} {acc : Array Value} {T : Addr} {x y : Value} (p : Prs h S xs ys acc) (k : ∀ c o, S < c → h.get? c = some o → h'.get? c = some o) (hT : S < T) (hx : xs[acc.size]? = some x) (hy : ys[acc.size]? = some y) (hp : IsPair h' T x y) (hn : ∀ T', (∃ o, h.get? T' = some o) → T' < T) : Prs h' S xs ys (acc.push (.ref T)) := by
  intro j v hj
  rw [Array.getElem?_push] at hj
  split at hj
  · rename_i e
    cases hj
    subst e
    refine ⟨T, x, y, rfl, hT, hx, hy, hp, fun j' hl T' q => ?_⟩
    rw [Array.getElem?_push, if_neg (Nat.ne_of_lt hl)] at q
    obtain ⟨T2, x2, y2, e2, _, _, _, p2, _⟩ := p j' _ q
    cases e2
    exact hn _ ⟨_, p2⟩
  · obtain ⟨T2, x2, y2, e2, l2, a2, b2, p2, q2⟩ := p j v hj
    refine ⟨T2, x2, y2, e2, l2, a2, b2, k _ _ l2 p2, fun j' hl T' q => ?_⟩
    have lt : j < acc.size := (Array.getElem?_eq_some_iff.mp hj).1
    rw [Array.getElem?_push, if_neg (Nat.ne_of_lt (Nat.lt_trans hl lt))] at q
    exact q2 j' hl T' q
theorem zip_loop {R : Result → Shared → Prop} (hh : A.handled = none) (D : ZipApart z TI TO i1 i2 l1 l2) (hS : ∀ c, c = z ∨ c = TI ∨ c = TO ∨ c = i1 ∨ c = i2 ∨ c = l1 ∨ c = l2 → c < S) (res : Value) (hl : xs.size = ys.size) (hn : xs.size ≤ sizeLine) :
    ∀ (k i : Nat) (s : Shared) (acc : Array Value) (c : Nat), xs.size - i = k → i ≤ xs.size → ZAt s.heap z TI TO i1 i2 l1 l2 S xs ys i → s.heap.get? S = some (lsO acc c) → acc.size = i → Prs s.heap S xs ys acc →
    (∀ h' acc' c', (∀ b o, b ≠ S → b ≠ z → b ≠ TO → b ≠ i1 → b ≠ i2 → s.heap.get? b = some o → h'.get? b = some o) → h'.get? S = some (lsO acc' c') → acc'.size = xs.size → Prs h' S xs ys acc' → R (.ok (.ret res)) { s with heap := h' }) →
    codeAny (model prog w) A (.builtin "list.extend.loop" ⟨[.ref S, .ref z, res], []⟩) R s := by
  have hS' : ∀ c, c = z ∨ c = TI ∨ c = TO ∨ c = i1 ∨ c = i2 ∨ c = l1 ∨ c = l2 → c ≠ S := fun c q => Nat.ne_of_lt (hS c q)
  intro k
  induction k with
  | zero =>
    intro i s acc c hk hi st hls ha hp hR
    obtain rfl : i = xs.size := by omega
    refine codeAny_builtin F.entry_extend_loop ?_
    rw [Around.under_plainId F.plain_extend_loop _]
    show wpAny _ A.in1 (pyNext (.ref z) >>= _) _ _ s
    refine wpAny_bind (zAt_end (S := S) hh D st (by simp) fun h' hk => wpAny_pure ?_)
    exact hR h' acc c (fun b o _ b1 b2 b3 b4 e => hk b o b1 b2 b3 b4 e) (hk S _ (hS' z (by simp)).symm (hS' TO (by simp)).symm (hS' i1 (by simp)).symm (hS' i2 (by simp)).symm hls) ha fun j v hj => by
      obtain ⟨T, x, y, e, l, a, b, p, q⟩ := hp j v hj
      have nz : ∀ c, (c = z ∨ c = TI ∨ c = TO ∨ c = i1 ∨ c = i2 ∨ c = l1 ∨ c = l2) → T ≠ c := fun c q => Nat.ne_of_gt (Nat.lt_trans (hS c q) l)
      exact ⟨T, x, y, e, l, a, b, hk _ _ (nz _ (by simp)) (nz _ (by simp)) (nz _ (by simp)) (nz _ (by simp)) p, q⟩
  | succ k ih =>
    intro i s acc c hk hi st hls ha hp hR
    have hlt : i < xs.size := by omega
    have hx : xs[i]? = some xs[i] := Array.getElem?_eq_getElem hlt
    have hlt2 : i < ys.size := by omega
    have hy : ys[i]? = some ys[i] := Array.getElem?_eq_getElem hlt2
    have sl := Heap.lt_size hls
    refine codeAny_builtin F.entry_extend_loop ?_
    rw [Around.under_plainId F.plain_extend_loop _]
    show wpAny _ A.in1 (pyNext (.ref z) >>= _) _ _ s
    refine wpAny_bind (zAt_next D st hx hy sl fun h' st' hp' hsz hk' => ?_)
    have hls' := hk' S _ (hS' z (by simp)).symm (hS' TO (by simp)).symm (hS' i1 (by simp)).symm (hS' i2 (by simp)).symm hls
    show wpAny _ A.in1 (updateSeq S (·.push (.ref s.heap.objs.size)) >>= _) _ _ _
    refine wpAny_bind ?_
    have ks : ∀ b o, b ≠ S → h'.get? b = some o → (h'.update S (Obj.mapSeq (·.push (.ref s.heap.objs.size)))).get? b = some o := fun b o hb e => (Heap.get?_update_other _ _ (Ne.symm hb)).trans e
    refine wpAny_updateSeq hls' rfl (wpAny_pure ⟨plainId_quiet F.plain_extend_loop _, ih (i + 1) _ (acc.push (.ref s.heap.objs.size)) _ (by omega) hlt (zAt_frame st' (fun b o e hb => ks b o hb e) hS') (Heap.get?_update_self _ hls' rfl) (by rw [Array.size_push, ha]) ?_ fun h'' acc' c' k2 q1 q2 q3 => ?_⟩)
      (by rw [ha]; omega) (by show (acc.push (Value.ref s.heap.objs.size)).size ≤ sizeLine + 1; rw [Array.size_push, ha]; omega)
    · subst ha
      refine prs_push hp (fun c o lc e => ?_) sl hx hy (ks _ _ (Nat.ne_of_gt sl) hp') fun T' ⟨o, e⟩ => Heap.lt_size e
      have nz : ∀ d, (d = z ∨ d = TI ∨ d = TO ∨ d = i1 ∨ d = i2 ∨ d = l1 ∨ d = l2) → c ≠ d := fun d q => Nat.ne_of_gt (Nat.lt_trans (hS d q) lc)
      exact ks _ _ (Nat.ne_of_gt lc) (hk' _ _ (nz _ (by simp)) (nz _ (by simp)) (nz _ (by simp)) (nz _ (by simp)) e)
    · exact hR h'' acc' c' (fun b o b0 b1 b2 b3 b4 e => k2 b o b0 b1 b2 b3 b4 (ks b o b0 (hk' b o b1 b2 b3 b4 e))) q1 q2 q3
theorem zip_no_len : typeLookup (.type "zip") "__len__" = pure none := by rw [typeLookup_type, builtinLookup_eq_fast]; kernel_rfl
theorem zip_no_hint : typeLookup (.type "zip") "__length_hint__" = pure none := by rw [typeLookup_type, builtinLookup_eq_fast]; kernel_rfl
theorem list_of_zip {Q : Value → Shared → Prop} (hh : A.handled = none) (D : ZipApart z TI TO i1 i2 l1 l2) (hz : IsZip s.heap z TI TO .none) (hTI : IsPair s.heap TI (.ref i1) (.ref i2)) (hTO : ∃ a b, IsPair s.heap TO a b) (h1 : s.heap.IsTupleIter i1 l1 0) (h2 : s.heap.IsTupleIter i2 l2 0)
    (hl1 : s.heap.IsTuple l1 xs) (hl2 : s.heap.IsTuple l2 ys) (hl : xs.size = ys.size) (hn : xs.size ≤ sizeLine)
    (hQ : ∀ h' acc c, (∀ b o, b ≠ z → b ≠ TO → b ≠ i1 → b ≠ i2 → s.heap.get? b = some o → h'.get? b = some o) → h'.get? s.heap.objs.size = some (lsO acc c) → acc.size = xs.size → Prs h' s.heap.objs.size xs ys acc → Q (.ref s.heap.objs.size) { s with heap := h' }) :
    wpAny (model prog w) A (call (.type "list") [.ref z]) Q E s := by
  have below : ∀ c, c = z ∨ c = TI ∨ c = TO ∨ c = i1 ∨ c = i2 ∨ c = l1 ∨ c = l2 → c < s.heap.objs.size := by
    rintro c (rfl | rfl | rfl | rfl | rfl | rfl | rfl)
    · exact Heap.lt_size hz
    · exact Heap.lt_size hTI
    · obtain ⟨_, _, q⟩ := hTO; exact Heap.lt_size q
    · obtain ⟨_, e, _⟩ := h1; exact Heap.lt_size e
    · obtain ⟨_, e, _⟩ := h2; exact Heap.lt_size e
    · obtain ⟨_, e, _⟩ := hl1; exact Heap.lt_size e
    · obtain ⟨_, e, _⟩ := hl2; exact Heap.lt_size e
  refine callType_codes (Q₁ := fun obj s₁ => obj = .ref s.heap.objs.size ∧ s₁ = { s with heap := s.heap.push (lsO #[] 0) }) F.called_list (F.typeCall_list_1 _) F.entry_list_init (code_list_new _ ⟨rfl, rfl⟩) fun obj s₁ q₁ => ?_
  obtain ⟨rfl, rfl⟩ := q₁
  have hls : (s.heap.push (lsO #[] 0)).get? s.heap.objs.size = some (lsO #[] 0) := Heap.get?_push_size _ rfl
  refine ⟨⟨_, hls, rfl⟩, F.args_list_init_2 _ _, ?_⟩
  show wpAny _ A.in1.in1 (do let old ← Builtin.List.listItems (.ref s.heap.objs.size); Builtin.List.listUpdate (.ref s.heap.objs.size) (fun _ => #[]); letGo old.toList.reverse; Builtin.List.listExtendWith (.ref s.heap.objs.size) (.ref z) .none) _ _ _
  refine wpAny_bind ?_
  unfold Builtin.List.listItems
  refine wpAny_bind (wpAny_seqItems hls rfl (wpAny_pure ?_))
  show wpAny _ A.in1.in1 (updateSeq s.heap.objs.size (fun _ => #[]) >>= fun _ => letGo (#[] : Array Value).toList.reverse >>= fun _ => Builtin.List.listExtendWith (.ref s.heap.objs.size) (.ref z) .none) _ _ _
  refine wpAny_bind (wpAny_updateSeq hls rfl ?_)
  have hls2 := Heap.get?_update_self (Obj.mapSeq (fun _ => (#[] : Array Value))) hls rfl
  refine wpAny_bind (wpAny_letGo ?_)
  have oth : ∀ b o, s.heap.get? b = some o → ((s.heap.push (lsO #[] 0)).update s.heap.objs.size (Obj.mapSeq (fun _ => (#[] : Array Value)))).get? b = some o :=
    fun b o e => (Heap.get?_update_other _ _ (Nat.ne_of_gt (Heap.lt_size e))).trans (Heap.get?_push_of_some _ e)
  have hz2 := oth _ _ hz
  have ht2 : ∀ t, (⟨(s.heap.push (lsO #[] 0)).update s.heap.objs.size (Obj.mapSeq (fun _ => (#[] : Array Value))), s.gens, s.drawn, t, s.os⟩ : Shared).TypeIs (.ref z) "zip" := fun _ => ⟨_, hz2, rfl⟩
  unfold Builtin.List.listExtendWith
  refine wpAny_bind (wpAny_typeOf (ht2 _) ?_)
  have e1 : Builtin.List.listSameRef (.ref s.heap.objs.size) (.ref z) = false := by simp [Builtin.List.listSameRef, Nat.ne_of_gt (below z (.inl rfl))]
  have e2 : (Value.type "zip" == Value.type "list") = false := by decide
  have e3 : (Value.type "zip" == Value.type "tuple") = false := by decide
  simp only [e1, e2, e3, Bool.or_false, Bool.false_eq_true, if_false]
  refine wpAny_bind (wpAny_pyIter_zip (f0 := .none) hz2 ?_)
  refine wpAny_bind (wpAny_holding ?_)
  unfold Builtin.List.listLengthHint
  refine wpAny_bind (wpAny_specialOf (ht2 _) zip_no_len ?_)
  show wpAny _ A.in1.in1 (specialOf (Value.ref z) (Str.ofString "__length_hint__") >>= _) _ _ _
  refine wpAny_bind (wpAny_specialOf (ht2 _) zip_no_hint ?_)
  refine wpAny_pure ?_
  show wpAny _ A.in1.in1 (rule "list.extend.makes-room" >>= fun _ => Builtin.List.listTouch (.ref s.heap.objs.size) >>= fun _ => again (.builtin "list.extend.loop" ⟨[.ref s.heap.objs.size, .ref z, .none], []⟩)) _ _ _
  refine wpAny_bind (wpAny_rule ?_)
  refine wpAny_bind ?_
  show wpAny _ A.in1.in1 (updateSeq s.heap.objs.size (·.push .none) >>= fun _ => updateSeq s.heap.objs.size (·.pop)) _ _ _
  refine wpAny_bind (wpAny_updateSeq hls2 rfl ?_)
  have hls3 := Heap.get?_update_self (Obj.mapSeq (·.push Value.none)) hls2 rfl
  refine wpAny_updateSeq (hz := by seq_fits) hls3 rfl ?_
  have hls4 := Heap.get?_update_self (Obj.mapSeq (·.pop)) hls3 rfl
  refine wpAny_pure ⟨plainId_quiet F.plain_extend_loop _, ?_⟩
  have ne : ∀ b o, s.heap.get? b = some o → b ≠ s.heap.objs.size := fun b o e => Nat.ne_of_lt (Heap.lt_size e)
  have oth2 : ∀ b o, s.heap.get? b = some o → ((((s.heap.push (lsO #[] 0)).update s.heap.objs.size (Obj.mapSeq (fun _ => (#[] : Array Value)))).update s.heap.objs.size (Obj.mapSeq (·.push Value.none))).update s.heap.objs.size (Obj.mapSeq (·.pop))).get? b = some o :=
    fun b o e => (Heap.get?_update_other _ _ (Ne.symm (ne b o e))).trans ((Heap.get?_update_other _ _ (Ne.symm (ne b o e))).trans (oth b o e))
  obtain ⟨ta, tb, hTO⟩ := hTO
  exact zip_loop (A := A.in1) hh D below .none hl hn _ 0 _ #[] _ rfl (Nat.zero_le _) ⟨⟨_, _, oth2 _ _ hz, .inl ⟨rfl, rfl⟩⟩, oth2 _ _ hTI, ⟨_, _, oth2 _ _ hTO⟩, h1.at fun o e => oth2 _ o e, h2.at fun o e => oth2 _ o e, hl1.at fun o e => oth2 _ o e, hl2.at fun o e => oth2 _ o e⟩ hls4 rfl (fun j v q => by simp at q)
    fun h' acc c k q1 q2 q3 => ⟨rfl, hQ h' acc c (fun b o b1 b2 b3 b4 e => k b o (ne b o e) b1 b2 b3 b4 (oth2 b o e)) q1 q2 q3⟩
end
end Mi

/-! Mi22 -/
set_option Elab.async false
set_option linter.all false
set_option maxRecDepth 100000
set_option maxHeartbeats 1000000
set_option autoImplicit false
namespace Mi
open PySem PySem.Spec PyProof.Rows L2 RZ StX

/-! ### many new tuples seen at once -/
structure NewT where
  t : Addr
  vs : List V
  us : List Value
theorem lay_all {X : Cx} {pins : List (Addr × Obj)} {σ : L2.St} {s : Shared} {h : Heap} : ∀ (L : List NewT) (H : Hp) (G : Heap), Inv X pins σ H { s with heap := G } → (∀ b o, G.get? b = some o → h.get? b = some o) →
    (∀ q ∈ L, G.get? q.t = none ∧ H q.t = none ∧ Vals q.vs q.us ∧ q.vs.length ≤ sizeLine ∧ h.get? q.t = some { cls := .type "tuple", data := .seq q.us.toArray }) → (L.map NewT.t).Nodup →
    ∃ (G' : Heap) (H' : Hp), Inv X pins σ H' { s with heap := G' } ∧ (∀ b o, G'.get? b = some o → h.get? b = some o) ∧ (∀ b, b ∉ L.map NewT.t → H' b = H b ∧ (G.get? b = none → G'.get? b = none)) ∧ (∀ b o, H b = some o → H' b = some o) ∧ ∀ q ∈ L, H' q.t = some (.tup q.vs)
  | [], H, G, I, sub, _, _ => ⟨G, H, I, sub, fun _ _ => ⟨rfl, id⟩, fun _ _ e => e, fun _ z => by cases z⟩
  | q :: L, H, G, I, sub, all, nd => by
    obtain ⟨a1, a2, a3, a4, a5⟩ := all q (List.mem_cons_self ..)
    obtain ⟨G1, g1, g2⟩ := restrict h fun b => (G.get? b).isSome || b == q.t
    have up : ∀ b o, G.get? b = some o → G1.get? b = some o := fun b o e => by
      rw [g1 b (by rw [e]; rfl)]
      exact sub b o e
    have at1 : G1.get? q.t = some { cls := .type "tuple", data := .seq q.us.toArray } := by
      rw [g1 q.t (by simp)]
      exact a5
    have sub1 : ∀ b o, G1.get? b = some o → h.get? b = some o := fun b o e => by
      cases z : ((G.get? b).isSome || b == q.t) with
      | true => rw [g1 b z] at e; exact e
      | false => rw [g2 b z] at e; cases e
    have I1 : Inv X pins σ (upd H q.t (.tup q.vs)) { s with heap := G1 } := I.laidN (t' := s.toks) up a1 a2 ⟨a4, q.us, a3, ⟨_, at1, rfl, _, rfl⟩⟩
    have nd' := List.nodup_cons.mp (show (q.t :: L.map NewT.t).Nodup from nd)
    have ne : ∀ p ∈ L, p.t ≠ q.t := fun p hp e => nd'.1 (List.mem_map.mpr ⟨p, hp, e⟩)
    obtain ⟨G2, H2, I2, s2, k2, m2, l2⟩ := lay_all L _ G1 I1 sub1 (fun p hp => by
      obtain ⟨b1, b2, b3, b4, b5⟩ := all p (List.mem_cons_of_mem _ hp)
      refine ⟨?_, ?_, b3, b4, b5⟩
      · refine g2 _ ?_
        rw [b1]
        simpa using ne p hp
      · rw [upd_ne (ne p hp)]
        exact b2) nd'.2
    refine ⟨G2, H2, I2, s2, fun b hb => ?_, fun b o e => m2 b o ?_, fun p hp => ?_⟩
    · have hb' : b ≠ q.t ∧ b ∉ L.map NewT.t := by
        have : b ∉ q.t :: L.map NewT.t := hb
        simpa using this
      obtain ⟨c1, c2⟩ := k2 b hb'.2
      refine ⟨c1.trans (upd_ne hb'.1), fun z => c2 (g2 b ?_)⟩
      rw [z]
      simpa using hb'.1
    · rw [upd_ne (ne_of_none e a2)]
      exact e
    · rcases List.mem_cons.mp hp with rfl | hp
      · exact m2 _ _ upd_same
      · exact l2 p hp
/-- pairs of items, new -/
def PrsH (H : Hp) (ts : List Addr) (xs ys : List V) : Prop := ts.length = xs.length ∧ ∀ (j : Nat) (t : Addr), ts[j]? = some t → ∃ x y, xs[j]? = some x ∧ ys[j]? = some y ∧ H t = some (.tup [x, y])
def kLZ (K : PySem.W.Frag) (vs : List V) (H1 : Hp) (Q : VK) : Prop := ∃ a b xs ys, vs = [V.ref a, V.ref b] ∧ SqT K H1 a xs ∧ SqT K H1 b ys ∧ xs.length = ys.length ∧
  ∀ (S : Addr) (ts : List Addr) (H' : Hp), (∀ b o, H1 b = some o → H' b = some o) → H1 S = none → H' S = some (.lst (ts.map V.ref)) → PrsH H' ts xs ys → Q (.ref S) H'
section
variable {X : Cx} {pins : List (Addr × Obj)} {σ : L2.St} {H : Hp} {s : Shared} {Q : VK}
theorem val_refs : ∀ {n : Nat} {acc : List Value}, acc.length = n → (∀ (j : Nat) (v : Value), acc[j]? = some v → ∃ T : Addr, v = Value.ref T) → ∃ ts : List Addr, acc = ts.map Value.ref
  | _, [], _, _ => ⟨[], rfl⟩
  | _, v :: acc, _, h => by
    obtain ⟨T, rfl⟩ := h 0 v rfl
    obtain ⟨ts, rfl⟩ := val_refs (acc := acc) rfl fun j v e => h (j + 1) v e
    exact ⟨T :: ts, rfl⟩
theorem vals_refs : ∀ (ts : List Addr), Vals (ts.map V.ref) (ts.map Value.ref)
  | [] => .nil
  | t :: ts => .cons rfl (vals_refs ts)
theorem news_of {P : NewT → Prop} : ∀ (ts : List Addr), (∀ t ∈ ts, ∃ q : NewT, q.t = t ∧ P q) → ∃ L : List NewT, L.map NewT.t = ts ∧ ∀ q ∈ L, P q
  | [], _ => ⟨[], rfl, fun _ z => by cases z⟩
  | t :: ts, h => by
    obtain ⟨q, e, p⟩ := h t (List.mem_cons_self ..)
    obtain ⟨L, e2, p2⟩ := news_of ts fun t ht => h t (List.mem_cons_of_mem _ ht)
    refine ⟨q :: L, by rw [List.map_cons, e, e2], fun r hr => ?_⟩
    rcases List.mem_cons.mp hr with rfl | hr
    · exact p
    · exact p2 r hr
theorem up_nodup {ts : List Addr} (h : ∀ (j j' : Nat) (t t' : Addr), j' < j → ts[j]? = some t → ts[j']? = some t' → t' < t) : ts.Nodup := by
  refine List.pairwise_iff_getElem.mpr fun i j hi hj hij e => ?_
  have := h j i ts[j] ts[i] hij (List.getElem?_eq_getElem hj) (List.getElem?_eq_getElem hi)
  rw [e] at this
  exact Nat.lt_irrefl _ this
theorem nodup_ix {ts : List Addr} (nd : ts.Nodup) {i j : Nat} {t : Addr} (e1 : ts[i]? = some t) (e2 : ts[j]? = some t) : i = j := by
  obtain ⟨i1, w1⟩ := List.getElem?_eq_some_iff.mp e1
  obtain ⟨i2, w2⟩ := List.getElem?_eq_some_iff.mp e2
  have p := List.pairwise_iff_getElem.mp nd
  rcases Nat.lt_trichotomy i j with q | q | q
  · exact absurd (w1.trans w2.symm) (p i j i1 i2 q)
  · exact q
  · exact absurd (w2.trans w1.symm) (p j i i2 i1 q)
theorem zip_then_list {a b : Addr} {xs ys : List V} (hc : X.calm = true) (I : Inv X pins σ H s) (hx : SqT X.K H a xs) (hy : SqT X.K H b ys) (hl : xs.length = ys.length) {P : Value → Shared → Prop}
    (hP : ∀ z s2, wpAny (model X.prog X.w) X.A (call (.type "list") [z]) (fun v s3 => ∃ (S : Addr) (ts : List Addr) (H' : Hp), v = .ref S ∧ Inv X pins σ H' s3 ∧ (∀ b o, H b = some o → H' b = some o) ∧ H S = none ∧ H' S = some (.lst (ts.map V.ref)) ∧ PrsH H' ts xs ys) X.xe s2 → P z s2) :
    wpAny (model X.prog X.w) X.A (call (.type "zip") [.ref a, .ref b]) P X.xe s := by
  obtain ⟨its, rv, p1, lz⟩ := I.tuple hx
  obtain ⟨its2, rv2, p2, lz2⟩ := I.tuple hy
  obtain ⟨o1, ho1, _⟩ := id p1
  obtain ⟨o2, ho2, _⟩ := id p2
  have l1 := rv.length
  have l2 := rv2.length
  refine call_zipT (show s.heap.IsTuple a its.toArray from p1) (show s.heap.IsTuple b its2.toArray from p2) fun h' hz hTI hTO h1 h2 hsz hk => hP _ _ ?_
  have D := PySem.W.ktu_apart s.heap.objs.size a b (Heap.lt_size ho1) (Heap.lt_size ho2)
  refine list_of_zip (s := { s with heap := h' }) (I.ok.hd hc) D hz hTI ⟨_, _, hTO⟩ h1 h2 ((show s.heap.IsTuple a its.toArray from p1).at fun o e => hk _ o e) ((show s.heap.IsTuple b its2.toArray from p2).at fun o e => hk _ o e) (by simp; omega) (by simp; omega) fun h acc c k q1 q2 q3 => ?_
  show ∃ (S : Addr) (ts : List Addr) (H' : Hp), Value.ref h'.objs.size = .ref S ∧ _
  have q1' : h.get? h'.objs.size = some (lsO acc c) := q1
  have q3' : Prs h h'.objs.size its.toArray its2.toArray acc := q3
  have old : ∀ b o, s.heap.get? b = some o → h.get? b = some o := fun b o e => by
    have lt := Heap.lt_size e
    refine k b o (fun z => ?_) (fun z => ?_) (fun z => ?_) (fun z => ?_) (hk b o e)
    all_goals (rw [z] at lt; first | exact absurd lt (Nat.not_lt.mpr (Nat.le_add_right _ _)) | exact absurd lt (Nat.lt_irrefl _))
  obtain ⟨ts, ets⟩ := val_refs (acc := acc.toList) rfl fun j v e => by
    obtain ⟨T, _, _, r, _⟩ := q3' j v (by simpa using e)
    exact ⟨T, r⟩
  have at_ : ∀ (j : Nat) (t : Addr), ts[j]? = some t → acc[j]? = some (.ref t) := fun j t e => by
    have : acc.toList[j]? = some (.ref t) := by rw [ets, List.getElem?_map, e]; rfl
    simpa using this
  have nd : ts.Nodup := up_nodup fun j j' t t' lt e e' => by
    obtain ⟨T, x, y, z, _, _, _, _, q⟩ := q3' j _ (at_ j t e)
    cases z
    exact q j' lt t' (at_ j' t' e')
  have big : ∀ t ∈ ts, h'.objs.size < t := fun t ht => by
    obtain ⟨j, hj, e⟩ := List.getElem_of_mem ht
    obtain ⟨T, x, y, z, l, _⟩ := q3' j _ (at_ j t (by rw [List.getElem?_eq_getElem hj, e]))
    cases z
    exact l
  obtain ⟨G0, g1, g2⟩ := restrict h fun c => !(c == h'.objs.size) && !(ts.contains c)
  have up0 : ∀ c o, s.heap.get? c = some o → G0.get? c = some o := fun c o e => by
    have lt := Heap.lt_size e
    rw [g1 c]
    · exact old c o e
    · have n1 : c ≠ h'.objs.size := fun z => by rw [z, hsz] at lt; exact absurd lt (Nat.not_lt.mpr (Nat.le_add_right _ _))
      have n2 : c ∉ ts := fun z => by
        have q := big c z
        rw [hsz] at q
        exact absurd lt (Nat.not_lt.mpr (Nat.le_of_lt (Nat.lt_of_le_of_lt (Nat.le_add_right _ 5) q)))
      simp [n1, n2]
  have I0 : Inv X pins σ H { s with heap := G0 } := I.kept (t' := s.toks) up0
  have sub0 : ∀ c o, G0.get? c = some o → h.get? c = some o := fun c o e => by
    cases z : (!(c == h'.objs.size) && !(ts.contains c)) with
    | true => rw [g1 c z] at e; exact e
    | false => rw [g2 c z] at e; cases e
  have fresh : ∀ c, s.heap.objs.size ≤ c → H c = none := fun c q => I.hok.fresh q
  obtain ⟨L, eL, pL⟩ := news_of (P := fun q => ∃ j x y, ts[j]? = some q.t ∧ xs[j]? = some x ∧ ys[j]? = some y ∧ q.vs = [x, y] ∧ Vals q.vs q.us ∧ h.get? q.t = some { cls := .type "tuple", data := .seq q.us.toArray }) ts fun t ht => by
    obtain ⟨j, hj, e⟩ := List.getElem_of_mem ht
    have e1 : ts[j]? = some t := by rw [List.getElem?_eq_getElem hj, e]
    obtain ⟨T, u, u2, z, _, z1, z2, z3, _⟩ := q3' j _ (at_ j t e1)
    cases z
    have y1 : its[j]? = some u := by simpa using z1
    have y2 : its2[j]? = some u2 := by simpa using z2
    obtain ⟨k1, _⟩ := List.getElem?_eq_some_iff.mp y1
    obtain ⟨k2, _⟩ := List.getElem?_eq_some_iff.mp y2
    have x1 : xs[j]? = some xs[j] := List.getElem?_eq_getElem (by omega)
    have x2 : ys[j]? = some ys[j] := List.getElem?_eq_getElem (by omega)
    obtain ⟨w1, f1, r1⟩ := rv.get x1
    obtain ⟨w2, f2, r2⟩ := rv2.get x2
    rw [y1] at f1
    cases f1
    rw [y2] at f2
    cases f2
    exact ⟨⟨t, [xs[j], ys[j]], [u, u2]⟩, rfl, j, _, _, e1, x1, x2, rfl, .cons r1 (.cons r2 .nil), z3⟩
  obtain ⟨G1, H1, I1, sub1, k1, m1, n1⟩ := lay_all L H G0 I0 sub0 (fun q hq => by
    obtain ⟨j, x, y, e1, _, _, e4, e5, e6⟩ := pL q hq
    have mem : q.t ∈ ts := List.mem_of_getElem? e1
    refine ⟨g2 _ (by simp [mem]), fresh _ ?_, e5, by rw [e4]; show 2 ≤ sizeLine; decide, e6⟩
    have := big _ mem
    rw [hsz] at this
    exact Nat.le_of_lt (Nat.lt_of_le_of_lt (Nat.le_add_right _ 5) this)) (by rw [eL]; exact nd)
  have nS : h'.objs.size ∉ ts := fun z => Nat.lt_irrefl _ (big _ z)
  obtain ⟨c1, c2⟩ := k1 h'.objs.size (by rw [eL]; exact nS)
  have HS : H h'.objs.size = none := fresh _ (by rw [hsz]; exact Nat.le_add_right _ _)
  have tl : ts.length = xs.length := by
    have : acc.toList.length = ts.length := by rw [ets, List.length_map]
    have e2 : acc.size = its.toArray.size := q2
    simp at this e2
    omega
  have I2 : Inv X pins σ (upd H1 h'.objs.size (.lst (ts.map V.ref))) { s with heap := h } := I1.laidN (t' := s.toks) sub1 (c2 (g2 _ (by simp))) (c1.trans HS)
    ⟨by rw [List.length_map, tl]; exact lz, ts.map Value.ref, c, vals_refs ts, by rw [← ets]; simpa using q1'⟩
  refine ⟨_, ts, _, rfl, I2, fun b o e => ?_, HS, upd_same, tl, fun j t e => ?_⟩
  · rw [upd_ne (ne_of_none e HS)]
    exact m1 b o e
  · have mem : t ∈ ts := List.mem_of_getElem? e
    rw [← eL] at mem
    obtain ⟨q, hq, rfl⟩ := List.mem_map.mp mem
    obtain ⟨j2, x, y, e1, e2, e3, e4, _⟩ := pL q hq
    have ej : j2 = j := nodup_ix nd e1 e
    subst ej
    refine ⟨x, y, e2, e3, ?_⟩
    rw [upd_ne (fun z => nS (by rw [← z, ← eL]; exact List.mem_map.mpr ⟨q, hq, rfl⟩)), n1 q hq, e4]
variable {p q pos qpos : Pos} {e1 e2 e : Expr} {ta : TA} {te : TE}
theorem pe_listZip (hc : X.calm = true) (hml : X.mg "list" = none) (hmz : X.mg "zip" = none) (ha : PA X [e1, e2] ta) (hgl : Gl X "list" := by rfl) (hgz : Gl X "zip" := by rfl)
    (hs : starEach [e1, e2] X.env = (false, eval e1 X.env) :: starEach [e2] X.env := by rfl) (hpl : (backTo qpos (starEach [e2] X.env)).any (·.1) = false := by rfl)
    (hs2 : starEach [.Call (.Name "zip" q) [e1, e2] [] qpos] X.env = (false, eval (.Call (.Name "zip" q) [e1, e2] [] qpos) X.env) :: starEach [] X.env := by rfl) :
    PE X (.Call (.Name "list" p) [.Call (.Name "zip" q) [e1, e2] [] qpos] [] pos) (fun σ H Q => ta σ H fun vs H1 => kLZ X.K vs H1 Q) := by
  refine ⟨fun pins s σ H Q I h => ?_⟩
  refine Call_ (ld_blt I hgl hml (u := .type "list") (by decide +kernel) (PyProof.Rows.callWith_type1 ?_ hs2 rfl))
  rw [hs2]
  show wpAny _ _ (spliced ((false, eval (.Call (.Name "zip" q) [e1, e2] [] qpos) X.env) :: backTo pos (starEach [] X.env))) _ _ s
  refine Calls.spliced_cons ?_
  refine Call_ (ld_blt I hgz hmz PyProof.Rows.boot_zip (PyProof.Rows.callWith_type1 (thn (ha.run qpos pins s σ H _ I h) fun us s1 ⟨vs, H1, I1, r1, q1⟩ => ?_) hs hpl))
  obtain ⟨a, b, xs, ys, rfl, hx, hy, hl, k⟩ := q1
  cases r1 with
  | cons ra rr =>
    cases rr with
    | cons rb rr =>
      cases rr
      cases ra
      cases rb
      refine zip_then_list hc I1 hx hy hl fun z s2 hz => Calls.spliced_nil (thn hz fun v s3 ⟨S, ts, H', ev, I3, k1, k2, k3, k4⟩ => ⟨.ref S, H', I3, ev, k S ts H' k1 k2 k3 k4⟩)
theorem keeper_zip {M : Model} {h : Heap} : PySem.W.Looks M h (keeperOf (.type "zip")) Keeper.machine := by
  unfold keeperOf
  exact .now
theorem pe_listZipS {sp_ : Pos} (hc : X.calm = true) (hml : X.mg "list" = none) (hmz : X.mg "zip" = none) (he : PE X e te) (hgl : Gl X "list" := by rfl) (hgz : Gl X "zip" := by rfl)
    (hst : starEach [.Starred e sp_] X.env = [(true, eval e X.env)] := by rfl)
    (hs2 : starEach [.Call (.Name "zip" q) [.Starred e sp_] [] qpos] X.env = (false, eval (.Call (.Name "zip" q) [.Starred e sp_] [] qpos) X.env) :: starEach [] X.env := by rfl) :
    PE X (.Call (.Name "list" p) [.Call (.Name "zip" q) [.Starred e sp_] [] qpos] [] pos) (fun σ H Q => te σ H fun y H1 => ∃ a ws, y = .ref a ∧ (SqT X.K H1 a ws ∨ SqL X.K H1 a ws) ∧ kLZ X.K ws H1 Q) := by
  refine ⟨fun pins s σ H Q I h => ?_⟩
  refine Call_ (ld_blt I hgl hml (u := .type "list") (by decide +kernel) (PyProof.Rows.callWith_type1 ?_ hs2 rfl))
  rw [hs2]
  show wpAny _ _ (spliced ((false, eval (.Call (.Name "zip" q) [.Starred e sp_] [] qpos) X.env) :: backTo pos (starEach [] X.env))) _ _ s
  refine Calls.spliced_cons ?_
  refine Call_ (ld_blt I hgz hmz PyProof.Rows.boot_zip ?_)
  rw [hst]
  refine PySem.W.ks_call (P := fun _ => True) rfl (fun _ _ => ⟨_, .inr (.inl rfl), keeper_zip⟩) (PySem.W.ks_lone (thn (he.run pins s σ H _ I h) fun v s1 ⟨y, H1, I1, ry, a, ws, ey, hws, q1⟩ => ?_))
  subst ey
  obtain rfl : v = Value.ref a := ry
  refine star_any I1 hws fun us s2 I2 rv => ⟨trivial, ?_⟩
  obtain ⟨a1, b1, xs, ys, rfl, hx, hy, hl, k⟩ := q1
  cases rv with
  | cons ra rr =>
    cases rr with
    | cons rb rr =>
      cases rr
      cases ra
      cases rb
      refine zip_then_list hc I2 hx hy hl fun z s3 hz => Calls.spliced_nil (thn hz fun v s4 ⟨S, ts, H', ev, I3, k1, k2, k3, k4⟩ => ⟨.ref S, H', I3, ev, k S ts H' k1 k2 k3 k4⟩)
end
end Mi

/-! Mi23 -/
set_option Elab.async false
set_option linter.all false
set_option maxRecDepth 100000
set_option maxHeartbeats 1000000
set_option autoImplicit false
namespace Mi
open PySem PySem.Spec PyProof.Rows L2

/-! ### list(zip(a, b)), list(zip(*ab)) of two tuples -/
def zipP : List PyData → List PyData → List PyData
  | a :: as, b :: bs => .dict [(.none, .none), (a, b)] :: zipP as bs
  | _, _ => []
def zipF : List D → Sto → Ot D
  | [.p (.tuple a), .p (.tuple b)], S => if a.length = b.length then .ok (.p (.list (zipP a b))) S else .bad
  | _, _ => .bad
def zipSF : D → Sto → Ot D
  | .p (.list [.tuple a, .tuple b]), S => if a.length = b.length then .ok (.p (.list (zipP a b))) S else .bad
  | _, _ => .bad
def eLZ (a : AM) : EM := fun env S => (a env S).bind zipF
def eLZS (m : EM) : EM := fun env S => (m env S).bind zipSF
section
variable {K : PySem.W.Frag} {R : Addr → Prop} {mg : Str → Option Value} {W : WX} {μ : Nat → Addr} {H H' : Hp} {S : Sto} {σ : L2.St} {env : Envr} {Q : VK}
theorem sp_keep {n : Nat} (k : ∀ b o, H b = some o → H' b = some o) : Sp1 μ n H μ n H' := ⟨Nat.le_refl _, fun _ _ => rfl, ⟨fun a o e _ => k a o e, fun _ e => .inl e, fun a xs e => k a _ e, fun a o u e => k a _ e⟩⟩
theorem rs_keep (k : ∀ b o, H b = some o → H' b = some o) (r : RS K R H μ S) : RS K R H' μ S :=
  ⟨r.inj, fun i c e => (r.cell i c e).mono (sp_keep k) fun o q => k _ o q, r.low, fun a q => by
    obtain ⟨z1, z2⟩ := r.res a q
    refine ⟨fun z => ?_, z2⟩
    cases e : H a with
    | none => exact z1 e
    | some o => rw [k a o e] at z; cases z⟩
theorem prsH_tail {t : Addr} {ts : List Addr} {x y : V} {xs ys : List V} (p : PrsH H (t :: ts) (x :: xs) (y :: ys)) : H t = some (.tup [x, y]) ∧ PrsH H ts xs ys := by
  obtain ⟨l, q⟩ := p
  refine ⟨?_, by simpa using l, fun j t' e => ?_⟩
  · obtain ⟨x', y', e1, e2, e3⟩ := q 0 t rfl
    cases e1
    cases e2
    exact e3
  · obtain ⟨x', y', e1, e2, e3⟩ := q (j + 1) t' e
    exact ⟨x', y', e1, e2, e3⟩
theorem pda_pairs {O : Addr → Prop} : ∀ {ts : List Addr} {xs ys : List V} {l l2 : List PyData}, PrsH H ts xs ys → xs.length = ys.length → PdAll K H O xs l → PdAll K H O ys l2 → PdAll K H O (ts.map V.ref) (zipP l l2)
  | [], _, _, _, _, p, hl, .nil, q => by cases q <;> exact .nil
  | [], _, _, _, _, p, hl, .cons _ _, _ => absurd p.1 (by simp)
  | t :: ts, _, _, _, _, p, hl, .nil, _ => absurd p.1 (by simp)
  | t :: ts, _, _, _, _, p, hl, .cons _ _, .nil => absurd hl (by simp)
  | t :: ts, _, _, _, _, p, hl, .cons a as, .cons b bs => by
    obtain ⟨p1, p2⟩ := prsH_tail p
    exact .cons (.wk p1 a b) (pda_pairs p2 (by simpa using hl) as bs)
theorem kLZ_ok {a b : Addr} {xs ys : List V} {l l2 : List PyData} (rs : RS K R H μ S) (hx : SqT K H a xs) (px : PdAll K H (Av R μ S.length) xs l) (hy : SqT K H b ys) (py : PdAll K H (Av R μ S.length) ys l2) (hl : l.length = l2.length)
    (h : Po K mg W R μ S H σ env (.ok (.p (.list (zipP l l2))) S) Q) : kLZ K [.ref a, .ref b] H Q := by
  have hl' : xs.length = ys.length := by rw [px.len, py.len]; exact hl
  refine ⟨a, b, xs, ys, rfl, hx, hy, hl', fun A ts H' k n1 e1 p => ?_⟩
  have sp : Sp1 μ S.length H μ S.length H' := sp_keep k
  exact h μ H' sp (rs_keep k rs) _ (.p (.lst e1 (fun z => not_own rs n1 z) (pda_pairs p hl' (px.mono (av_le sp.hp)) (py.mono (av_le sp.hp)))))
end
section
variable {X : Cx} {W : WX} {p q pos qpos sp_ : Pos} {e1 e2 e : Expr} {aa : AM} {m : EM}
theorem me_listZip (B : Bn X.mg) (hc : X.calm = true) (ha : PA X [e1, e2] (ta X.K X.mg W aa)) (hgl : Gl X "list" := by rfl) (hgz : Gl X "zip" := by rfl)
    (hs : starEach [e1, e2] X.env = (false, eval e1 X.env) :: starEach [e2] X.env := by rfl) (hpl : (backTo qpos (starEach [e2] X.env)).any (·.1) = false := by rfl)
    (hs2 : starEach [.Call (.Name "zip" q) [e1, e2] [] qpos] X.env = (false, eval (.Call (.Name "zip" q) [e1, e2] [] qpos) X.env) :: starEach [] X.env := by rfl) :
    PE X (.Call (.Name "list" p) [.Call (.Name "zip" q) [e1, e2] [] qpos] [] pos) (te X.K X.mg W (eLZ aa)) := by
  refine (pe_listZip hc B.list B.zip ha hgl hgz hs hpl hs2).w fun σ H Q ⟨R, μ, env, S, r, h⟩ => ⟨R, μ, env, S, r, ?_⟩
  refine poa_mono (poa_bind r h) fun vs H1 ⟨μ1, S1, ds, r1, dr, h1⟩ => ?_
  unfold zipF at h1
  split at h1
  · split at h1
    · rename_i hl
      obtain ⟨v, ws, rfl, d1, d2⟩ := drs_cons dr
      obtain ⟨v2, ws, rfl, f2, d3⟩ := drs_cons d2
      obtain rfl := drs_nil d3
      obtain ⟨a, xs, rfl, h3, h4⟩ := dr_tup d1
      obtain ⟨b, ys, rfl, g3, g4⟩ := dr_tup f2
      exact kLZ_ok r1.rs h3 h4 g3 g4 hl h1
    · exact h1.elim
  · exact h1.elim
theorem me_listZipS (B : Bn X.mg) (hc : X.calm = true) (he : PE X e (te X.K X.mg W m)) (hgl : Gl X "list" := by rfl) (hgz : Gl X "zip" := by rfl) (hst : starEach [.Starred e sp_] X.env = [(true, eval e X.env)] := by rfl)
    (hs2 : starEach [.Call (.Name "zip" q) [.Starred e sp_] [] qpos] X.env = (false, eval (.Call (.Name "zip" q) [.Starred e sp_] [] qpos) X.env) :: starEach [] X.env := by rfl) :
    PE X (.Call (.Name "list" p) [.Call (.Name "zip" q) [.Starred e sp_] [] qpos] [] pos) (te X.K X.mg W (eLZS m)) := by
  refine (pe_listZipS hc B.list B.zip he hgl hgz hst hs2).w fun σ H Q ⟨R, μ, env, S, r, h⟩ => ⟨R, μ, env, S, r, ?_⟩
  refine po_mono (po_bind r h) fun v H1 ⟨μ1, S1, d1, r1, h1⟩ => ?_
  obtain ⟨v', ws, ev, dv, _⟩ := drs_cons r1.tm
  cases ev
  unfold zipSF at h1
  split at h1
  · split at h1
    · rename_i hl
      obtain ⟨a, xs, rfl, h2, _, h4⟩ := dr_lst dv
      cases h4 with
      | cons ha hr =>
        cases hr with
        | cons hb hr =>
          cases hr
          cases ha with
          | tup ha1 ha2 =>
            cases hb with
            | tup hb1 hb2 =>
              exact ⟨a, _, rfl, .inr (SqL.of h2), kLZ_ok r1.rs ha1.sqt ha2 hb1.sqt hb2 hl h1⟩
    · exact h1.elim
  · exact h1.elim
end
end Mi

/-! Mi24 -/
set_option Elab.async false
set_option linter.all false
set_option maxRecDepth 100000
set_option maxHeartbeats 1000000
set_option autoImplicit false
namespace Mi
open PySem PySem.Spec PyProof.Rows L2

/-! ### tuple * 1 -/
theorem tuple_mul1 (l : Addr) (items : Array Value) (n : Nat) (dd : Option Addr) (sl : Array (Option Value)) (u : Tok) :
    Meets (Builtin.«tuple.__mul__» ⟨[.ref l, .int 1 u], []⟩) (fun _ R s => s.heap.get? l = some { cls := .type "tuple", dict := dd, data := .seq items n, slots := sl } ∧ R (.ok (.ret (.ref l))) s) :=
  .of_wp fun prog w A R s h => by
    obtain ⟨hp, g, d, tk, os⟩ := s
    obtain ⟨hl, h⟩ := h
    have f1 := AutoSeq1.idx_int
    have c1 : (items.isEmpty || (1 : Int) == 1) = true := by simp
    wp_walk using wpAny_loadPart' hl
    all_goals exact ⟨_, rfl, h⟩
def rRep1 (K : PySem.W.Frag) : R2 := fun x y H Q => ∃ l xs, x = .ref l ∧ y = .int 1 ∧ SqT K H l xs ∧ Q (.ref l) H
theorem op_rep1 {X : Cx} : OpR X (binaryOp .Mult) (rRep1 X.K) := by
  intro pins s σ H x y v u Q I rx ry h
  obtain ⟨l, xs, rfl, rfl, hT, q⟩ := h
  cases rx
  obtain ⟨t, rfl⟩ := ry
  obtain ⟨its, r, ⟨⟨cls, dd, data, sl⟩, ho, hc, n, hd⟩, hs⟩ := I.tuple hT
  simp only at hc hd
  subst hc hd
  refine wpAny_binaryOp_repeat_ref (T := "tuple") (U := "int") (by decide) ⟨_, ho, rfl⟩ (fun s' => typeIs_int s' 1 t) noFill_tuple_mul F.fills_int_mul F.slot_int_rmul repeat_tuple F.slot_int_index.lookup
    (call_meets F.slot_int_rmul (typeIs_int s 1 t) F.entry_int_rmul (F.args_int_rmul_2 _ _) (int_rmul_tuple 1 t l its.toArray n dd sl)
      ⟨ho, rfl, ⟨_, ho, rfl⟩, call_meets F.slot_tuple_mul ⟨_, ho, rfl⟩ F.entry_tuple_mul (F.args_tuple_mul_2 _ _) (tuple_mul1 l its.toArray n dd sl t) ⟨ho, ?_⟩⟩)
  exact ⟨.ref l, H, I, rfl, q⟩

/-! ### list * int, tuple * int -/
def repP (k : Nat) (l : List PyData) : List PyData := (List.replicate k l).flatten
theorem pda_rep {K : PySem.W.Frag} {H : Hp} {O : Addr → Prop} {xs : List V} {l : List PyData} (h : PdAll K H O xs l) : ∀ (k : Nat), PdAll K H O (List.replicate k xs).flatten (repP k l)
  | 0 => .nil
  | k + 1 => by
    unfold repP
    rw [List.replicate_succ, List.replicate_succ, List.flatten_cons, List.flatten_cons]
    exact pda_append h (pda_rep h k)
def repD : D → D → Sto → Ot D
  | .p (.int i), .p (.int j), S => mulD (.p (.int i)) (.p (.int j)) S
  | .p (.list l), .p (.int k), S => if 0 ≤ k ∧ k < 2 ^ 63 ∧ l.length * k.toNat ≤ sizeLine then .ok (.p (.list (repP k.toNat l))) S else .bad
  | .p (.tuple l), .p (.int k), S => if k = 1 then .ok (.p (.tuple l)) S else if l ≠ [] ∧ 2 ≤ k ∧ k ≤ 900 ∧ l.length ≤ 1000 then .ok (.p (.tuple (repP k.toNat l))) S else .bad
  | _, _, _ => .bad
def rRepD (K : PySem.W.Frag) : R2 := fun x y H Q => rI CMul (fun i j => .int (i * j)) x y H Q ∨ L2.rRep x y H Q ∨ rRep1 K x y H Q ∨ rRepF K x y H Q
theorem op_repD {X : Cx} : OpR X (binaryOp .Mult) (rRepD X.K) := by
  intro pins s σ H x y v u Q I rx ry h
  rcases h with h | h | h | h
  · exact op_mul pins s σ H x y v u Q I rx ry h
  · exact op_rep pins s σ H x y v u Q I rx ry h
  · exact op_rep1 pins s σ H x y v u Q I rx ry h
  · exact op_repF pins s σ H x y v u Q I rx ry h
theorem repD_ok {K : PySem.W.Frag} {mg : Str → Option Value} {W : WX} : Op2 K mg W repD (rRepD K) := by
  intro R μ H S σ env x y dx dy Q r h
  obtain ⟨y', ws, e1, hy, r1⟩ := drs_cons r.tm
  cases e1
  obtain ⟨x', ws', e2, hx, r2⟩ := drs_cons r1
  cases e2
  unfold repD at h
  split at h
  · exact .inl (mulD_ok R μ H S σ env _ _ _ _ Q r h)
  · split at h
    · rename_i hz
      obtain ⟨a, xs, rfl, h1, h2, h3⟩ := dr_lst hx
      rw [dr_int hy]
      exact .inr (.inl ⟨a, _, xs, rfl, rfl, h1, by omega, hz.2.1, by rw [h3.len]; exact hz.2.2, fun p hp => new_lst h r.rs (pda_rep h3 _) hp⟩)
    · exact h.elim
  · obtain ⟨a, xs, rfl, h1, h3⟩ := dr_tupE hx
    rw [dr_int hy]
    split at h
    · rename_i hk
      exact .inr (.inr (.inl ⟨a, xs, rfl, by rw [hk], h1.sqt, po_ok h r.rs (.p (.tup h1 h3))⟩))
    · split at h
      · rename_i hz
        rename_i ll kk _
        obtain ⟨m, hm⟩ : ∃ m : Nat, kk = ((m + 2 : Nat) : Int) := ⟨(kk - 2).toNat, by omega⟩
        subst hm
        have tn : (((m + 2 : Nat) : Int)).toNat = m + 2 := Int.toNat_natCast _
        rw [tn] at h
        refine .inr (.inr (.inr ⟨a, m, xs, rfl, rfl, h1.sqt, fun e => hz.1 ?_, by omega, by rw [h3.len]; exact hz.2.2.2, fun p o hp hd => new_tup h r.rs (pda_rep h3 _) hp hd⟩))
        subst e
        cases h3
        rfl
      · exact h.elim
  · exact h.elim
section
variable {X : Cx} {W : WX} {a b e o : Expr} {ma mb mo m : EM} {pos apos cpos p : Pos} {k : Nat} {aa : AM}
theorem me_rep (ha : PE X a (te X.K X.mg W ma)) (hb : PE X b (te X.K X.mg W mb)) : PE X (.BinOp a .Mult b pos) (te X.K X.mg W (eOp repD ma mb)) := me_op op_repD repD_ok ha hb

/-! ### is, is not -/
def rIsNo : R2 := fun x y H Q => y = .non ∧ Q (.bl (decide (x = .non))) H
def rIsD : R2 := fun x y H Q => rIsNo x y H Q ∨ rIsB x y H Q
theorem op_isD : OpR X (compareOp .Is) rIsD := by
  intro pins s σ H x y v u Q I rx ry h
  rcases h with h | h
  · exact op_isN pins s σ H x y v u Q I rx ry h
  · exact op_isBl pins s σ H x y v u Q I rx ry h
theorem isD_ok {K : PySem.W.Frag} {mg : Str → Option Value} {W : WX} : Op2 K mg W (isD false) rIsD := by
  intro R μ H S σ env x y dx dy Q r h
  obtain ⟨y', ws, e1, hy, r1⟩ := drs_cons r.tm
  cases e1
  obtain ⟨x', ws', e2, hx, r2⟩ := drs_cons r1
  cases e2
  unfold isD at h
  split at h
  · rename_i d
    refine .inl ⟨dr_non hy, ?_⟩
    have q := po_ok h r.rs (.p (.bl _))
    cases hx with
    | p hx => cases hx <;> exact q
  · obtain ⟨rfl, _⟩ := dr_loc hx
    exact .inl ⟨dr_non hy, po_ok h r.rs (.p (.bl _))⟩
  · rw [dr_bl hx, dr_bl hy]
    refine .inr ⟨_, _, rfl, rfl, ?_⟩
    have q := po_ok h r.rs (.p (.bl _))
    rename_i c d
    revert q
    cases c <;> cases d <;> exact id
  · exact h.elim
theorem me_is (ha : PE X a (te X.K X.mg W ma)) (hb : PE X b (te X.K X.mg W mb)) : PE X (.Compare a [.Is] [b] pos) (te X.K X.mg W (eOp (isD false) ma mb)) := me_cmp op_isD isD_ok ha hb (nomark _)

/-! ### the place of a thing: of plain data in a list, of an int in a tuple of ints -/
def indexL (y x : D) (S : Sto) : Ot D := match x with
  | .p a => match listOf y S with
    | some l => if SeqAt.shaped (unw1 a) = true ∧ SeqAt.shaped (.list (l.map unw1)) = true then (match (l.map unw1).findIdx? (fun z => PyData.eqv z (unw1 a)) with
      | some j => .ok (.p (.int (j : Nat))) S
      | none => .bad) else .bad
    | none => .bad
  | _ => .bad
theorem findIdx_at {α : Type} {p : α → Bool} : ∀ {l : List α} {j : Nat}, l.findIdx? p = some j → ∃ z, l[j]? = some z ∧ p z = true ∧ ∀ (m : Nat) (z' : α), m < j → l[m]? = some z' → p z' = false := by
  intro l j h
  obtain ⟨h1, h2, h3⟩ := List.findIdx?_eq_some_iff_getElem.mp h
  refine ⟨l[j], List.getElem?_eq_getElem h1, h2, fun m z' hm e => ?_⟩
  have q := h3 m hm
  obtain ⟨i1, i2⟩ := List.getElem?_eq_some_iff.mp e
  rw [← i2]
  simpa using q
def isLst (d : D) (S : Sto) : Bool := (listOf d S).isSome
def eIdx (ok : D → Sto → Bool) (f : D → D → Sto → Ot D) (mo m : EM) : EM := fun env S => (mo env S).bind fun d S1 => if ok d S1 = true then (m env S1).bind fun y S2 => f d y S2 else .bad
theorem listOf_seq {K : PySem.W.Frag} {R : Addr → Prop} {μ : Nat → Addr} {H : Hp} {S : Sto} {v : V} {d : D} (rs : RS K R H μ S) (h : DR K R H μ S.length v d) (e : isLst d S = true) : ∃ a xs, v = .ref a ∧ SqL K H a xs := by
  unfold isLst at e
  obtain ⟨l, e⟩ := Option.isSome_iff_exists.mp e
  unfold listOf at e
  split at e
  · obtain ⟨a, xs, rfl, h1, _⟩ := dr_lst h
    exact ⟨a, xs, rfl, SqL.of h1⟩
  · obtain ⟨xs, q1, q2⟩ := Option.bind_eq_some_iff.mp e
    obtain ⟨rfl, hi⟩ := dr_loc h
    obtain ⟨vs, g1, g2⟩ := rs.cell _ _ (cellL_some q1)
    exact ⟨_, vs, rfl, SqL.of g1⟩
  · cases e
theorem me_indexL (hr : Room k X.A) (ho : PE X o (te X.K X.mg W mo)) (he : PE X e (te X.K X.mg W m)) (hbase : attributeBase o "index" X.env (eval o X.env) = eval o X.env := by rfl)
    (hfew : ((backTo cpos (starEach [e] X.env)).all (fun x => !x.1) && (backToKw cpos (keywordEach [] X.env)).all (fun x => x.1.isSome) && decide (([e] : List Expr).length + ([] : List Keyword).length + (if ([] : List Keyword).isEmpty then 0 else 1) < 30)) = true := by rfl)
    (hline : (apos.endLine == cpos.line) = true := by rfl) (hs : starEach [e] X.env = (false, eval e X.env) :: starEach [] X.env := by rfl) (hplain : (backTo cpos (starEach [] X.env)).any (·.1) = false := by rfl) :
    PE X (.Call (.Attribute o "index" apos) [e] [] cpos) (te X.K X.mg W (eIdx isLst indexL mo m)) := by
  refine (pe_bm PySem.F.plainAttrs_list PySem.F.slot_list_index PySem.F.type_list_index (mt_indexD (room65 hr)) ho (pa_cons he pa_nil hs) hbase hfew hline hs hplain).w fun σ H Q ⟨R, μ, env, S, r, h⟩ => ⟨R, μ, env, S, r, ?_⟩
  refine po_mono (po_bind r h) fun x H1 ⟨μ1, S1, d1, r1, h1⟩ => ?_
  obtain ⟨x', ws, e1, hx, _⟩ := drs_cons r1.tm
  cases e1
  by_cases hc : isLst d1 S1 = true
  · rw [if_pos hc] at h1
    obtain ⟨a, xs, rfl, hq⟩ := listOf_seq r1.rs hx hc
    refine ⟨.inl ⟨rfl, xs, hq⟩, R, μ1, env, S1, r1.drop, ?_⟩
    refine po_mono (po_bind r1 h1) fun y H2 ⟨μ2, S2, d2, r2, h2⟩ => ?_
    obtain ⟨y', ws2, e2, hy, t2⟩ := drs_cons r2.tm
    cases e2
    obtain ⟨x2, ws3, e3, hx2, _⟩ := drs_cons t2
    cases e3
    cases hy with
    | loc _ => exact h2.elim
    | scr _ => exact h2.elim
    | @p _ z pz =>
      unfold indexL at h2
      dsimp only at h2
      cases hl : listOf d1 S2 with
      | none => rw [hl] at h2; exact h2.elim
      | some l =>
        rw [hl] at h2
        dsimp only at h2
        by_cases hz : SeqAt.shaped (unw1 z) = true ∧ SeqAt.shaped (.list (l.map unw1)) = true
        · rw [if_pos hz] at h2
          cases hj : (l.map unw1).findIdx? (fun u => PyData.eqv u (unw1 z)) with
          | none => rw [hj] at h2; exact h2.elim
          | some j =>
            rw [hj] at h2
            obtain ⟨u, f1, f2, f3⟩ := findIdx_at hj
            have p1 := pd1_dp pz (shaped_lay hz.1)
            have p2 := listOf_dp r2.rs hx2 hl hz.2
            exact ⟨a, _, unw1 z, l.map unw1, j, u, rfl, rfl, p2, p1, hz.2, hz.1, f1, f2, f3, po_ok h2 r2.rs (.p (.int _))⟩
        · rw [if_neg hz] at h2
          exact h2.elim
  · rw [if_neg hc] at h1
    exact h1.elim

/-- the first place of an int in a tuple of ints -/
def indexT (y x : D) (S : Sto) : Ot D := match y, x with
  | .p (.tuple l), .p (.int k) => match intsOf l with
    | some ns => if k ∈ ns then .ok (.p (.int (ns.idxOf k : Nat))) S else .bad
    | none => .bad
  | _, _ => .bad
def isTup : D → Sto → Bool
  | .p (.tuple _), _ => true
  | _, _ => false
theorem intsAre_of : ∀ {ns : List Int} {us : List Value}, Vals (ns.map V.int) us → IntsAre us ns
  | [], _, .nil => .nil
  | n :: ns, _, .cons h r => by
    obtain ⟨t, rfl⟩ := h
    exact .cons n t (intsAre_of r)
def rIdxT (K : PySem.W.Frag) : V → List V → Hp → VK → Prop := fun x xs H Q => ∃ (a : Addr) (ns : List Int) (k : Int), x = V.ref a ∧ xs = [V.int k] ∧ SqT K H a (ns.map V.int) ∧ k ∈ ns ∧ Q (.int (ns.idxOf k : Nat)) H
theorem mt_idxT : MtR X "tuple.index" (rIdxT X.K) := by
  intro pins s σ H x xs v us Q I rx rs h
  obtain ⟨a, ns, k, rfl, rfl, hq, hk, q⟩ := h
  cases rx
  obtain ⟨u, rfl, t, rfl⟩ := vals1 rs
  obtain ⟨its, r, pl, hz⟩ := I.tuple hq
  exact PySem.SeqAt.tuple_index_ints (show s.heap.IsTuple a its.toArray from pl) (intsAre_of r) hk ⟨.int (ns.idxOf k : Nat), H, I.tok _, ⟨_, rfl⟩, q⟩
theorem me_indexT (ho : PE X o (te X.K X.mg W mo)) (he : PE X e (te X.K X.mg W m)) (hbase : attributeBase o "index" X.env (eval o X.env) = eval o X.env := by rfl)
    (hfew : ((backTo cpos (starEach [e] X.env)).all (fun x => !x.1) && (backToKw cpos (keywordEach [] X.env)).all (fun x => x.1.isSome) && decide (([e] : List Expr).length + ([] : List Keyword).length + (if ([] : List Keyword).isEmpty then 0 else 1) < 30)) = true := by rfl)
    (hline : (apos.endLine == cpos.line) = true := by rfl) (hs : starEach [e] X.env = (false, eval e X.env) :: starEach [] X.env := by rfl) (hplain : (backTo cpos (starEach [] X.env)).any (·.1) = false := by rfl) :
    PE X (.Call (.Attribute o "index" apos) [e] [] cpos) (te X.K X.mg W (eIdx isTup indexT mo m)) := by
  refine (pe_tm PySem.F.slot_tuple_index PySem.F.type_tuple_index mt_idxT ho (pa_cons he pa_nil hs) hbase hfew hline hs hplain).w fun σ H Q ⟨R, μ, env, S, r, h⟩ => ⟨R, μ, env, S, r, ?_⟩
  refine po_mono (po_bind r h) fun x H1 ⟨μ1, S1, d1, r1, h1⟩ => ?_
  obtain ⟨x', ws, e1, hx, _⟩ := drs_cons r1.tm
  cases e1
  by_cases hc : isTup d1 S1 = true
  · rw [if_pos hc] at h1
    unfold isTup at hc
    split at hc
    · rename_i l
      obtain ⟨a, xs, rfl, hq, hp⟩ := dr_tupE hx
      refine ⟨⟨a, xs, rfl, hq⟩, R, μ1, env, S1, r1.drop, ?_⟩
      refine po_mono (po_bind r1 h1) fun y H2 ⟨μ2, S2, d2, r2, h2⟩ => ?_
      obtain ⟨y', ws2, e2, hy, t2⟩ := drs_cons r2.tm
      cases e2
      obtain ⟨x2, ws3, e3, hx2, _⟩ := drs_cons t2
      cases e3
      obtain ⟨b, ys, eb, hq2, hp2⟩ := dr_tupE hx2
      cases eb
      unfold indexT at h2
      split at h2
      · rename_i l2 k2 e4
        cases e4
        split at h2
        · rename_i ns hns
          split at h2
          · rename_i hm
            have e5 := intsOf_eq hns
            subst e5
            rw [dr_int hy]
            exact ⟨a, ns, _, rfl, rfl, by rw [← pda_ints_eq hp2]; exact hq2.sqt, hm, po_ok h2 r2.rs (.p (.int _))⟩
          · exact h2.elim
        · exact h2.elim
      · exact h2.elim
    · cases hc
  · rw [if_neg hc] at h1
    exact h1.elim
end
/-! ### sorted of a list of ints -/
def insI (x : Int) : List Int → List Int
  | [] => [x]
  | y :: r => if x ≤ y then x :: y :: r else y :: insI x r
def sortI : List Int → List Int
  | [] => []
  | x :: r => insI x (sortI r)
theorem insI_perm (x : Int) : ∀ l, (insI x l).Perm (x :: l)
  | [] => .refl _
  | y :: r => by
    unfold insI
    split
    · exact .refl _
    · exact ((insI_perm x r).cons y).trans (.swap x y r)
theorem sortI_perm : ∀ l, (sortI l).Perm l
  | [] => .refl _
  | x :: r => (insI_perm x _).trans ((sortI_perm r).cons x)
theorem insI_sorted (x : Int) : ∀ l : List Int, l.Pairwise (· ≤ ·) → (insI x l).Pairwise (· ≤ ·)
  | [], _ => List.pairwise_singleton _ _
  | y :: r, h => by
    obtain ⟨h1, h2⟩ := List.pairwise_cons.mp h
    unfold insI
    split
    · rename_i hl
      refine List.pairwise_cons.mpr ⟨fun z hz => ?_, h⟩
      rcases List.mem_cons.mp hz with rfl | hz
      · exact hl
      · exact Int.le_trans hl (h1 z hz)
    · rename_i hl
      refine List.pairwise_cons.mpr ⟨fun z hz => ?_, insI_sorted x r h2⟩
      rcases List.mem_cons.mp ((insI_perm x r).mem_iff.mp hz) with rfl | hz
      · omega
      · exact h1 z hz
theorem sortI_sorted : ∀ l, (sortI l).Pairwise (· ≤ ·)
  | [] => List.Pairwise.nil
  | x :: r => insI_sorted x _ (sortI_sorted r)
theorem sorted_one : ∀ {l m : List Int}, l.Pairwise (· ≤ ·) → m.Pairwise (· ≤ ·) → l.Perm m → l = m := fun {l m} h1 h2 p => p.eq_of_pairwise (fun a b _ _ h h' => Int.le_antisymm h h') h1 h2
def srtF : FM
  | [.p (.list l)], S => match intsOf l with
    | some ns => if ns.length < 64 then .ok (.p (.list ((sortI ns).map .int))) S else .bad
    | none => .bad
  | _, _ => .bad
theorem srtF_ok {K : PySem.W.Frag} {mg : Str → Option Value} {W : WX} : OpC K mg W srtF (rSorted K) := by
  intro R μ H S σ env vs ds Q rs dr h
  unfold srtF at h
  split at h
  · split at h
    · rename_i ns hns
      split at h
      · rename_i hz
        obtain ⟨v, ws, rfl, d1, d2⟩ := drs_cons dr
        obtain rfl := drs_nil d2
        obtain ⟨a, xs, rfl, h1, h2, h3⟩ := dr_lst d1
        have e := intsOf_eq hns
        subst e
        have e2 := pda_ints_eq h3
        subst e2
        refine ⟨a, ns, rfl, SqL.of h1, hz, fun ns' p hp hs hn => ?_⟩
        have e3 : ns' = sortI ns := sorted_one hs (sortI_sorted ns) (hp.trans (sortI_perm ns).symm)
        subst e3
        exact new_lst h rs pda_ints hn
      · exact h.elim
    · exact h.elim
  · exact h.elim
section
variable {X : Cx} {W : WX} {e : Expr} {pos p : Pos} {aa : AM}
theorem me_sorted (B : Bn X.mg) (ha : PA X [e] (ta X.K X.mg W aa)) (hg : Gl X "sorted" := by rfl) (he : starEach [e] X.env = (false, eval e X.env) :: starEach [] X.env := by rfl) : PE X (.Call (.Name "sorted" p) [e] [] pos) (te X.K X.mg W (eCall srtF aa)) :=
  me_callB cr_sorted srtF_ok B.sorted (by decide +kernel) ha hg (by decide) (by decide) he rfl
end
end Mi

/-! Mi25 -/
set_option Elab.async false
set_option linter.all false
set_option maxRecDepth 100000
set_option maxHeartbeats 1000000
set_option autoImplicit false
namespace Mi
open PySem PySem.Spec PyProof.Rows L2
/-- what has no rule: the reckoning is bad there -/
def eBad : EM := fun _ _ => .bad
theorem me_bad {X : Cx} {W : WX} {e : Expr} : PE X e (te X.K X.mg W eBad) := ⟨fun _ _ _ _ _ _ h => by
  obtain ⟨_, _, _, _, _, h⟩ := h
  exact h.elim⟩
end Mi

/-! Mi26 -/
set_option Elab.async false
set_option linter.all false
set_option maxRecDepth 100000
set_option maxHeartbeats 1000000
set_option autoImplicit false
namespace Mi
open PySem PySem.Spec PyProof.Rows L2

/-! ### dicts whose keys are tuples of ints and texts -/
def cellT (S : Sto) (i : Nat) : Option (List (List Key × D)) := match S[i]? with
  | some (.dt xs) => some xs
  | _ => none
theorem cellT_some {S : Sto} {i : Nat} {xs : List (List Key × D)} (h : cellT S i = some xs) : S[i]? = some (.dt xs) := by
  unfold cellT at h
  split at h
  · rename_i e
    cases h
    exact e
  · cases h
def keysL : List PyData → Option (List Key)
  | [] => some []
  | .int i :: r => (keysL r).map (.inl i :: ·)
  | .str x :: r => (keysL r).map (.inr x :: ·)
  | _ :: _ => none
def keysOf : D → Option (List Key)
  | .p (.dict [(.none, .none), (x, y)]) => keysL [x, y]
  | .p (.dict ((.bool true, .none) :: rest)) => keysL (rest.map Prod.fst)
  | _ => none
theorem keysL_v {K : PySem.W.Frag} {H : Hp} {O : Addr → Prop} : ∀ {l : List PyData} {xs : List V} {ks : List Key}, PdAll K H O xs l → keysL l = some ks → xs = ks.map kV
  | [], _, _, .nil, e => by cases e; rfl
  | .int i :: r, _, _, .cons h t, e => by
    obtain ⟨ks, e1, rfl⟩ := Option.map_eq_some_iff.mp (show (keysL r).map (Sum.inl i :: ·) = some _ from e)
    cases h
    rw [keysL_v t e1]
    rfl
  | .str x :: r, _, _, .cons h t, e => by
    obtain ⟨ks, e1, rfl⟩ := Option.map_eq_some_iff.mp (show (keysL r).map (Sum.inr x :: ·) = some _ from e)
    cases h
    rw [keysL_v t e1]
    rfl
  | .none :: _, _, _, _, e => by cases e
  | .bool _ :: _, _, _, _, e => by cases e
  | .list _ :: _, _, _, _, e => by cases e
  | .tuple _ :: _, _, _, _, e => by cases e
  | .dict _ :: _, _, _, _, e => by cases e
theorem keysOf_v {K : PySem.W.Frag} {R : Addr → Prop} {H : Hp} {μ : Nat → Addr} {n : Nat} {v : V} {d : D} {k : List Key} (h : DR K R H μ n v d) (e : keysOf d = some k) : ∃ b, v = .ref b ∧ H b = some (.tup (k.map kV)) := by
  unfold keysOf at e
  split at e
  · cases h with
    | p h => cases h with
      | wk h1 h2 h3 =>
        have q := keysL_v (.cons h2 (.cons h3 .nil)) e
        rw [q] at h1
        exact ⟨_, rfl, h1⟩
  · cases h with
    | p h => cases h with
      | wkn h1 h2 =>
        rw [List.map_map, show (Prod.fst ∘ fun d : PyData => (d, PyData.none)) = id from rfl, List.map_id] at e
        have q := keysL_v h2 e
        rw [q] at h1
        exact ⟨_, rfl, h1⟩
  · cases e
/-- d[k] -/
def dgT : D → D → Sto → Ot D
  | .loc i, y, S => match cellT S i, keysOf y with
    | some kds, some k => match dval kds k with
      | some d => .ok d S
      | none => .bad
    | _, _ => .bad
  | _, _, _ => .bad
/-- k in d -/
def dinT (neg : Bool) : D → D → Sto → Ot D
  | y, .loc i, S => match cellT S i, keysOf y with
    | some kds, some k => .ok (.p (.bool (if neg = true then !(dval kds k).isSome else (dval kds k).isSome))) S
    | _, _ => .bad
  | _, _, _ => .bad
/-- d[k] = v -/
def dpT : D → D → D → Sto → Option Sto
  | .loc i, y, v, S => match cellT S i, keysOf y with
    | some kds, some k => if kds.length < sizeLine ∧ v.lowb i = true then some (S.set i (.dt (dput kds k v))) else none
    | _, _ => none
  | _, _, _, _ => none
def sDputT (mo mk mv : EM) : SM := fun env S => (mv env S).then env fun v S1 => (mo env S1).then env fun o S2 => (mk env S2).then env fun y S3 => match dpT o y v S3 with
  | some S4 => .nx env S4
  | none => .bad
section
variable {X : Cx} {W : WX} {o i value : Expr} {mo mk mv : EM} {pos pos' : Pos} {k : Nat}
theorem me_dgetT (hr : Room k X.A) (ho : PE X o (te X.K X.mg W mo)) (hi : PE X i (te X.K X.mg W mk)) (hs : NoSl i := by intro _ _; rfl) : PE X (.Subscript o i pos) (te X.K X.mg W (eOp dgT mo mk)) := by
  refine (pe_dget (hu_of hr) ho hi hs).w fun σ H Q ⟨R, μ, env, S, r, h⟩ => ⟨R, μ, env, S, r, ?_⟩
  refine po_mono (po_bind r h) fun x H1 ⟨μ1, S1, d1, r1, h1⟩ => ⟨R, μ1, env, S1, r1.drop, ?_⟩
  refine po_mono (po_bind r1 h1) fun y H2 ⟨μ2, S2, d2, r2, h2⟩ => ?_
  obtain ⟨y', ws, e1, hy, t1⟩ := drs_cons r2.tm
  cases e1
  obtain ⟨x', ws', e2, hx, _⟩ := drs_cons t1
  cases e2
  unfold dgT at h2
  split at h2
  · obtain ⟨rfl, hj⟩ := dr_loc hx
    split at h2
    · rename_i kds kk e3 e4
      split at h2
      · rename_i d e5
        obtain ⟨kvs, g1, g2⟩ := r2.rs.cell _ _ (cellT_some e3)
        obtain ⟨v, f1, f2⟩ := dval_ok g2 e5
        obtain ⟨b, rfl, hb⟩ := keysOf_v hy e4
        refine ⟨_, v, rfl, ?_, po_ok h2 r2.rs f2⟩
        rw [← f1]
        exact DGet.t g1 hb
      · exact h2.elim
    · exact h2.elim
  · exact h2.elim
theorem dputT_run {σ : L2.St} {env : Envr} {R : Addr → Prop} {μ : Nat → Addr} {H : Hp} {S S4 : Sto} {x y v : V} {dx dy dv : D} (rs : RS X.K R H μ S) (hx : DR X.K R H μ S.length x dx) (hy : DR X.K R H μ S.length y dy) (hv : DR X.K R H μ S.length v dv) (e : dpT dx dy dv S = some S4) :
    ∃ a H4, x = .ref a ∧ DPut H a y v H4 ∧ Sp1 μ S.length H μ S4.length H4 ∧ RS X.K R H4 μ S4 := by
  cases hx with
  | p _ => cases e
  | scr _ => cases e
  | @loc j hj =>
    unfold dpT at e
    dsimp only at e
    split at e
    · rename_i kds kk e3 e4
      split at e
      · rename_i hz
        cases e
        obtain ⟨kvs, g1, g2⟩ := rs.cell _ _ (cellT_some e3)
        have hlen : kvs.length = kds.length := by
          have := congrArg List.length g2.1
          rw [List.length_map, List.length_map] at this
          exact this
        obtain ⟨b, rfl, hb⟩ := keysOf_v hy e4
        have sp : Sp1 μ S.length H μ S.length (upd H (μ j) (.dT (putK kvs kk v))) := le_cell hj (fun ob u q => by rw [g1] at q; cases q) (fun u q => by rw [g1] at q; cases q)
        refine ⟨_, _, rfl, DPut.t g1 hb (by rw [hlen]; exact hz.1), by rw [List.length_set]; exact sp, rs_set rs (cellT_some e3) sp ⟨_, upd_same, (dput_ok g2 hv).mono sp⟩ ?_⟩
        exact dput_lowb (rs.low _ _ (cellT_some e3)) hz.2
      · cases e
    · cases e
theorem ms_dputT (hr : Room k X.A) (ho : PE X o (te X.K X.mg W mo)) (hi : PE X i (te X.K X.mg W mk)) (hv : PE X value (te X.K X.mg W mv)) (hs : swapsWith value (some (.Subscript o i pos')) pos.line X.env = pure false := by rfl) :
    PS X (.Assign [.Subscript o i pos'] value pos) (ts X.K X.mg W (sDputT mo mk mv)) := by
  refine (ps_dput (hu_of hr) ho hi hv hs).w fun D σ H ⟨R, μ, env, S, r, h⟩ => ⟨R, μ, env, S, r, ?_⟩
  refine pg_mono (pz_then h) fun μ1 H1 S1 dv s1 rs1 q1 v drv => ⟨R, μ1, env, S1, r.mono s1 rs1, ?_⟩
  refine pg_mono (pz_then q1) fun μ2 H2 S2 dx s2 rs2 q2 x drx => ⟨R, μ2, env, S2, (r.mono s1 rs1).mono s2 rs2, ?_⟩
  refine pg_mono (pz_then q2) fun μ3 H3 S3 dy s3 rs3 q3 y dry => ?_
  cases e : dpT dx dy dv S3 with
  | none => rw [e] at q3; exact q3.elim
  | some S4 =>
    rw [e] at q3
    obtain ⟨a, H4, e1, e2, s4, rs4⟩ := dputT_run (σ := σ) (env := env) rs3 (drx.mono s3) dry ((drv.mono s2).mono s3) e
    have r4 : RL X.K R μ3 H4 S4 σ env [] [] := (((r.mono s1 rs1).mono s2 rs2).mono s3 rs3).mono s4 rs4
    exact ⟨a, H4, e1, e2, q3 μ3 H4 σ s4 r4⟩
theorem isT_ans {kvs : List (List Key × V)} {kds : List (List Key × D)} {K : PySem.W.Frag} {R : Addr → Prop} {H : Hp} {μ : Nat → Addr} {n : Nat} {kk : List Key} (g2 : DKv K R H μ n kvs kds) : (valV kvs kk).isSome = (dval kds kk).isSome := by
  cases e5 : dval kds kk with
  | none => rw [dval_none g2 e5] <;> rfl
  | some d => obtain ⟨v, f1, _⟩ := dval_ok g2 e5; rw [f1] <;> rfl
theorem mc_dinT (hr : Room k X.A) (hi : PE X i (te X.K X.mg W mk)) (ho : PE X o (te X.K X.mg W mo)) : PC X .In i o (te X.K X.mg W (eOp (dinT false) mk mo)) := by
  refine ⟨fun pins s σ H Q I h => (pc_din (hu_of hr) hi ho).run pins s σ H Q I ?_⟩
  obtain ⟨R, μ, env, S, r, h⟩ := h
  refine ⟨R, μ, env, S, r, ?_⟩
  refine po_mono (po_bind r h) fun y H1 ⟨μ1, S1, d1, r1, h1⟩ => ⟨R, μ1, env, S1, r1.drop, ?_⟩
  refine po_mono (po_bind r1 h1) fun x H2 ⟨μ2, S2, d2, r2, h2⟩ => ?_
  obtain ⟨x', ws, e1, hx, t1⟩ := drs_cons r2.tm
  cases e1
  obtain ⟨y', ws', e2, hy, _⟩ := drs_cons t1
  cases e2
  unfold dinT at h2
  split at h2
  · obtain ⟨rfl, hj⟩ := dr_loc hx
    split at h2
    · rename_i kds kk e3 e4
      rw [if_neg Bool.false_ne_true, ← isT_ans (r2.rs.cell _ _ (cellT_some e3)).choose_spec.2] at h2
      obtain ⟨g1, g2⟩ := (r2.rs.cell _ _ (cellT_some e3)).choose_spec
      obtain ⟨b, rfl, hb⟩ := keysOf_v hy e4
      exact ⟨_, _, rfl, DGet.t g1 hb, po_ok h2 r2.rs (.p (.bl _))⟩
    · exact h2.elim
  · exact h2.elim
theorem mc_dnotinT (hr : Room k X.A) (hi : PE X i (te X.K X.mg W mk)) (ho : PE X o (te X.K X.mg W mo)) : PC X .NotIn i o (te X.K X.mg W (eOp (dinT true) mk mo)) := by
  refine ⟨fun pins s σ H Q I h => (pc_dnotin (hu_of hr) hi ho).run pins s σ H Q I ?_⟩
  obtain ⟨R, μ, env, S, r, h⟩ := h
  refine ⟨R, μ, env, S, r, ?_⟩
  refine po_mono (po_bind r h) fun y H1 ⟨μ1, S1, d1, r1, h1⟩ => ⟨R, μ1, env, S1, r1.drop, ?_⟩
  refine po_mono (po_bind r1 h1) fun x H2 ⟨μ2, S2, d2, r2, h2⟩ => ?_
  obtain ⟨x', ws, e1, hx, t1⟩ := drs_cons r2.tm
  cases e1
  obtain ⟨y', ws', e2, hy, _⟩ := drs_cons t1
  cases e2
  unfold dinT at h2
  split at h2
  · obtain ⟨rfl, hj⟩ := dr_loc hx
    split at h2
    · rename_i kds kk e3 e4
      rw [if_pos rfl, ← isT_ans (r2.rs.cell _ _ (cellT_some e3)).choose_spec.2] at h2
      obtain ⟨g1, g2⟩ := (r2.rs.cell _ _ (cellT_some e3)).choose_spec
      obtain ⟨b, rfl, hb⟩ := keysOf_v hy e4
      exact ⟨_, _, rfl, DGet.t g1 hb, po_ok h2 r2.rs (.p (.bl _))⟩
    · exact h2.elim
  · exact h2.elim
end
/-- d = {}: a cell for such keys -/
def eNewT : EM := fun _ S => .ok (.loc S.length) (S ++ [.dt []])
theorem me_newT {X : Cx} {W : WX} {pos : Pos} : PE X (.Dict [] [] pos) (te X.K X.mg W eNewT) := pe_dnewT.w fun σ H Q ⟨R, μ, env, S, r, h⟩ p hp =>
  new_cell (c := .dt []) r.rs hp (fun μ' n _ => ⟨[], upd_same, rfl, .nil⟩) rfl h
end Mi

/-! Mi27 -/
set_option Elab.async false
set_option linter.all false
set_option maxRecDepth 100000
set_option maxHeartbeats 1000000
set_option autoImplicit false
namespace Mi
open PySem PySem.Spec PyProof.Rows L2
/-! ### how many pairs a dict holds -/
def lenA : FM := fun ds S => match ds with
  | [.loc i] => match cellK S i with
    | some kds => .ok (.p (.int (kds.length : Int))) S
    | none => match cellT S i with
      | some kds => .ok (.p (.int (kds.length : Int))) S
      | none => lenF [.loc i] S
  | _ => lenF ds S
def rLenA (K : PySem.W.Frag) : List V → Hp → VK → Prop := fun xs H Q => (rLenS K xs H Q ∨ ∃ a kvs, xs = [V.ref a] ∧ H a = some (.dK kvs) ∧ Q (.int kvs.length) H) ∨ rLenT xs H Q
theorem call_lenA {X : Cx} : CallR X (.builtin "len") (rLenA X.K) := (call_lenS.or call_lenD).or call_len_dT
theorem dkv_len {κ : Type} {K : PySem.W.Frag} {R : Addr → Prop} {H : Hp} {μ : Nat → Addr} {n : Nat} {kvs : List (κ × V)} {kds : List (κ × D)} (h : DKv K R H μ n kvs kds) : kvs.length = kds.length := by
  have := congrArg List.length h.1
  rwa [List.length_map, List.length_map] at this
theorem lenA_ok {K : PySem.W.Frag} {mg : Str → Option Value} {W : WX} : OpC K mg W lenA (rLenA K) := by
  intro R μ H S σ env vs ds Q rs dr h
  unfold lenA at h
  split at h
  · split at h
    · rename_i kds e
      obtain ⟨v, ws, rfl, d1, d2⟩ := drs_cons dr
      obtain rfl := drs_nil d2
      obtain ⟨rfl, hi⟩ := dr_loc d1
      obtain ⟨kvs, g1, g2⟩ := rs.cell _ _ (cellK_some e)
      exact .inl (.inr ⟨_, kvs, rfl, g1, by rw [dkv_len g2]; exact po_ok h rs (.p (.int _))⟩)
    · split at h
      · rename_i kds e
        obtain ⟨v, ws, rfl, d1, d2⟩ := drs_cons dr
        obtain rfl := drs_nil d2
        obtain ⟨rfl, hi⟩ := dr_loc d1
        obtain ⟨kvs, g1, g2⟩ := rs.cell _ _ (cellT_some e)
        exact .inr ⟨_, kvs, rfl, g1, by rw [dkv_len g2]; exact po_ok h rs (.p (.int _))⟩
      · exact .inl (.inl (lenF_ok R μ H S σ env vs _ Q rs dr h))
  · exact .inl (.inl (lenF_ok R μ H S σ env vs ds Q rs dr h))
section
variable {X : Cx} {W : WX} {p pos : Pos} {e : Expr} {aa : AM}
theorem me_lenA (B : Bn X.mg) (ha : PA X [e] (ta X.K X.mg W aa)) (hg : Gl X "len" := by rfl) (he : starEach [e] X.env = (false, eval e X.env) :: starEach [] X.env := by rfl) : PE X (.Call (.Name "len" p) [e] [] pos) (te X.K X.mg W (eCall lenA aa)) :=
  me_callB call_lenA lenA_ok B.len PySem.boot_len ha hg (by decide) (by decide) he rfl
end
end Mi

/-! Mi28 -/
set_option Elab.async false
set_option linter.all false
set_option maxRecDepth 100000
set_option maxHeartbeats 4000000
set_option autoImplicit false
namespace Mi
open PySem PySem.Spec PyProof.Rows L2 PySem.Calls PySem.W PySem.HandSPX

/-! ### an error of the program, one field, its maker asks its elder's first -/
def erA (f : Str) (p1 p2 : Pos) : Arguments := ⟨[], [⟨"self", none, p1⟩, ⟨f, none, p2⟩], none, [], [], none, []⟩
structure ErP where
  (a b c d e g i j k l m n : Pos)
def erB (f msg : Str) (p : ErP) : List Stmt :=
  [.Expr (.Call (.Attribute (.Call (.Name "super" p.a) [] [] p.b) "__init__" p.c) [.Constant (.str msg) 0 p.d] [] p.e) p.g, .Assign [.Attribute (.Name "self" p.i) f p.j] (.Name f p.k) p.l]
def erS (f : Str) : Scope := ⟨.function, [("self", .local), (f, .local), ("__class__", .free), ("super", .globalImplicit)], false, false, []⟩
abbrev erFd (q f msg : Str) (p : ErP) (doc pm : Value) (an : Option Addr) (cdv ct : Value) (cc : Addr) : FuncData := ksFn "__init__" q (erA f p.m p.n) (erB f msg p) (erS f) .none .none doc pm an cdv ct cc
/-- the first line of the maker, read as a method's call (its places stand in one line) -/
def ErLn (msg : Str) (p : ErP) : Prop := ∃ pl : Sem Bool, ∀ env : Env, eval (.Call (.Attribute (.Call (.Name "super" p.a) [] [] p.b) "__init__" p.c) [.Constant (.str msg) 0 p.d] [] p.e) env = (do
      let ov ← attributeBase (.Call (.Name "super" p.a) [] [] p.b) "__init__" env (eval (.Call (.Name "super" p.a) [] [] p.b) env)
      standAt p.c.atName
      let (f, first) ← holding [ov] (getMethod ov "__init__" pl)
      callWith p.e f first (backTo p.e (starEach [.Constant (.str msg) 0 p.d] env)) [])
/-- what the written part says of the class at C -/
structure ErTx (pr : Program) (K : Frag) (f : Str) (C fI : Addr) : Prop where
  cls : ∃ nm q N bs bm sn sub ab col dd k0 k1 k2 k3 k5, K.lookup C = some (excClassObj nm q C N bs bm true sn sub ab col dd k0 k1 k2 k3 k5 "ValueError.__new__") ∧ refsVE bm = true
  sa : findIn K (.ref C) "__setattr__" = some (some (.builtin "object.__setattr__"))
  no : findIn K (.ref C) f = some none
  iC : findIn K (.ref C) "__init__" = some (some (.ref fI))
  tI : typeIn K (.ref fI) = some (.type "function")
  kC : keepIn K (.ref C) = true
  eC : subIn K (.ref C) (.type "BaseException") = some true
  tC : typeIn K (.ref C) = some (.type "type")
  vC : subIn K (.ref C) (.type "ValueError") = some true
  sC : mroIn K C (.ref C) = some true
  up : ks_superIn K C C "__init__" = some (some (.builtin "ValueError.__init__"))
  np : nsIn K cStatics "thirdparty.any" = some none
  fn : ∃ (oc : Value) (od : Option Addr) (q msg : Str) (p : ErP) (doc pm : Value) (an : Option Addr) (cda : Addr) (ct : Value) (cc : Addr) (osl : Array (Option Value)),
    K.lookup fI = some ⟨oc, od, .func (erFd q f msg p doc pm an (.ref cda) ct cc), osl⟩ ∧ codeIn K (.ref cda) q = true ∧ ErLn msg p ∧
    (∃ (ccl : Value) (cdd : Option Addr) (vs : Array Value) (ccs : Array (Option Value)) (file : Str) (tf : Tok), K.lookup cda = some ⟨ccl, cdd, .fields vs, ccs⟩ ∧ vs[2]? = some (.str file tf) ∧ ((pr.main.file : Str) == file) = true) ∧
    ∃ (cl : Value) (cld : Option Addr) (csl : Array (Option Value)), K.lookup cc = some ⟨cl, cld, .cell (some (.ref C)), csl⟩
/-- the names of fields -/
def FldN (f : Str) : Prop := f = "place" ∨ f = "value" ∨ f = "word"
structure MadeI (h h' : Heap) (x C dx t1 : Addr) (f : Str) (v : Value) : Prop where
  keep : ∀ b o, b ≠ x → h.get? b = some o → h'.get? b = some o
  obj : h'.get? x = some { cls := .ref C, dict := some dx, data := .fields #[.ref t1, .none, .none, .none, .bool false, .none] }
  dbig : h.objs.size ≤ dx
  dne : dx ≠ x
  ns : h'.Ns1 dx (fun y => if y = f then some v else none)
section
variable {prog : Program} {w : World} {A : Around} {E : Value → Shared → Prop} {R : Result → Shared → Prop} {s : Shared} {K : Frag} {mg : Str → Option Value} {C fI : Addr} {f : Str}
theorem mw_call {h : Heap} {g : Array GenState} {d : Drawn} {t : Nat} {os : OsState} {u e t0 : Addr} {rest : List Value} {Q : Value → Shared → Prop} {nm q : Str} {N : Addr} {bs bm : List Value} {hdct : Bool} {sn : List Str} {sub : List Value} {ab : Bool} {col : Option Bool} {dd : Option Addr} {k0 k1 k2 k3 k5 : Option Value}
    (hC : h.get? C = some (excClassObj nm q C N bs bm hdct sn sub ab col dd k0 k1 k2 k3 k5 "ValueError.__new__")) (he : h.get? e = some (excO C t0)) (hu : h.get? u = some (kxs_mw "ValueError.__init__" e)) (hl : rest.length ≤ sizeLine)
    (hq : ∀ h' t1, (∀ b o, b ≠ e → h.get? b = some o → h'.get? b = some o) → h'.get? e = some (excO C t1) → Q .none ⟨h', g, d, t, os⟩) :
    wpAny (model prog w) A (call (.ref u) rest) Q E ⟨h, g, d, t, os⟩ := by
  have FB := PySem.F.excBase_ValueError
  refine wpAny_call (codeAny_of_tree ?_)
  show wpAny _ A.in1 (callAny (.ref u) ⟨rest, []⟩) _ _ _
  simp only [callAny]
  refine wpAny_bind (wpAny_load hu ?_)
  refine KFB.if_so (show (Value.type "method-wrapper" == Value.type "method" || Value.type "method-wrapper" == Value.type "builtin_function_or_method" || Value.type "method-wrapper" == Value.type "method-wrapper") = true by decide) ?_
  refine wpAny_bind (check_bound_init FB.toExcCallFacts hC he rfl ?_)
  refine wpAny_bind (wpAny_pure (wpAny_pure ?_))
  refine ⟨plainId_quiet FB.init.plain _, codeAny_builtin FB.initEntry ?_⟩
  exact exc_init_tree (cls := .ref C) (t0 := t0) (dv := none) (c2 := .none) (c3 := .none) (b4 := .bool false) he hl fun h' k' e' _ => hq h' _ k' e'
theorem er_init (T : ErTx prog K f C fI) (hf : FldN f) {x t0 : Addr} {v : Value} (X : K.In s.heap) (hlim : s.heap.NoLimit) (G : s.heap.Ns mainGlobals mg) (hs : mg "super" = none) (hb : ∃ mb, s.heap.Ns builtinsNs mb ∧ ∀ x : Str, x ≠ "__name__" → mb x = bootBuiltins x)
    (htop : (prog.main.scope.names.lookup ("super" : Str)).isSome = false) (hx : s.heap.get? x = some (excO C t0)) (hnK : ∀ o, K.lookup x ≠ some o) (hroom : A.depth < recursionLimit)
    (hq : ∀ h' tk dx t1, MadeI s.heap h' x C dx t1 f v → R (.ok (.ret .none)) { s with heap := h', toks := tk }) :
    codeAny (model prog w) A (.call (.ref fI) ⟨[.ref x, v], []⟩) R s := by
  obtain ⟨oc, od, q, msg, p, doc, pm, an, cda, ct, cc, osl, ho, hcd, ⟨pl, ln⟩, ⟨ccl, cdd, vs, ccs, file, tf, hcode, hvs, hfile⟩, cl, cld, csl, hcell⟩ := T.fn
  obtain ⟨nm, q', N, bs, bm, sn, sub, ab, col, dd, k0, k1, k2, k3, k5, hC, hbm⟩ := T.cls
  obtain ⟨mb, B, hmb⟩ := hb
  have hcl : clsIn K C = some { name := nm, bases := bs, mro := .ref C :: bm, ns := N, qualname := q', hasDict := true, slotNames := sn, subclasses := sub, abstract := ab, collection := col, hasDel := false } := by unfold clsIn; rw [hC] <;> rfl
  have hnx : x ≠ C := fun z => by
    have e := X _ _ hC
    rw [← z, hx] at e
    cases e
  have lk : ∀ y : Str, y = "self" ∨ y = f → (erS f).names.lookup y = some .local := fun y hy => by
    rcases hy with rfl | rfl
    · rfl
    · rcases hf with rfl | rfl | rfl <;> rfl
  have kS : (erS f).names.lookup ("super" : Str) = some .globalImplicit := by rcases hf with rfl | rfl | rfl <;> rfl
  have kK : (erS f).names.lookup ("__class__" : Str) = some .free := by rcases hf with rfl | rfl | rfl <;> rfl
  have kD : (f == ("__debug__" : Str)) = false := by rcases hf with rfl | rfl | rfl <;> decide
  have kf : (([("self", Value.ref x), (f, v)] : List (Str × Value)).reverse).lookup f = some v := by rcases hf with rfl | rfl | rfl <;> rfl
  have ks : (([("self", Value.ref x), (f, v)] : List (Str × Value)).reverse).lookup ("self" : Str) = some (Value.ref x) := by rcases hf with rfl | rfl | rfl <;> rfl
  have bt : BindsTo s (erFd q f msg p doc pm an (.ref cda) ct cc) ⟨[.ref x, v], []⟩ [("self", .ref x), (f, v)] := BindsTo.of_eq (by rcases hf with rfl | rfl | rfl <;> first | rfl | with_unfolding_all rfl)
  refine ks_codeAny_call_defAt (fd := erFd q f msg p doc pm an (.ref cda) ct cc) (body := erB f msg p) (binds := [("self", .ref x), (f, v)]) hroom (X _ _ ho) rfl hlim (codeRec_of X hcd) rfl bt
    (fun y hy => by
      have q : ∀ y ∈ (erS f).names, y.2 ≠ .cell := by rcases hf with rfl | rfl | rfl <;> decide
      exact q y hy) (fun (y : Str × Value) (hy : y ∈ ([("self", Value.ref x), (f, v)] : List (Str × Value))) => lk y.1 (by
      rcases List.mem_cons.mp hy with rfl | hy
      · exact .inl rfl
      · rcases List.mem_cons.mp hy with rfl | hy
        · exact .inr rfl
        · cases hy)) (fun h₁ hns k => ?_) rfl rfl rfl
  have X₁ : K.In h₁ := X.keeps k
  have hx₁ := k _ _ hx
  have hC₁ := X₁ _ _ hC
  have z1 : s.heap.objs.size < h₁.objs.size := hns.lt
  refine ks_wpAt_execs_cons (ks_wpAt_Expr_any (ks_wpAt_MethodCall ?_ (ln _)))
  refine ks_wpAt_super_base kS kK rfl rfl (X₁ _ _ ho) rfl rfl rfl (X₁ _ _ hcode) rfl hvs hfile htop ?_
  refine ks_loadName_global rfl kS (loadGlobal_builtin (G.keeps k) hs (B.keeps k) ((hmb "super" (by decide)).trans (by kernel_rfl)) ⟨rfl, ?_⟩)
  refine wpAny_loadName_free rfl kK rfl ⟨_, X₁ _ _ hcell, rfl⟩ ?_
  refine wpAny_loadName_local rfl (lk "self" (.inl rfl)) hns ks ?_
  refine ks_wpAny_isType_cls hC₁ rfl ⟨rfl, ?_⟩
  refine ks_wpAny_call_super hC₁ rfl hx₁ rfl (fun c e => by cases e) (looks_mroIn X₁ T.sC) (fun h2 e2 k2 => ?_)
  have X₂ : K.In h2 := X₁.keeps k2
  have I2 : InstAt h2 x (excO C t0) C none := ⟨k2 _ _ hx₁, rfl, rfl, trivial⟩
  have hm : alongIn K "__init__" (((Value.ref C :: bm).dropWhile (· != .ref C)).drop 1) = some (some (.builtin "ValueError.__init__")) := by
    have e := T.up
    unfold ks_superIn at e
    rw [hcl] at e
    exact e
  refine kxs_getMethod kxs_ValueError e2 (looks_opaque X₂ T.np) (l₀ := .ref C :: bm) (fun A Q E s k q => wpAny_bind ((looks_clsIn X₂ hcl) A _ E s k (wpAny_pure q))) rfl X₂ hm (I2.type.andThen (looks_subIn X₂ T.vC)) hnx (by decide) ?_
  have hx2 : (h2.push (kxs_mw "ValueError.__init__" x)).get? x = some (excO C t0) := Heap.get?_push_of_some _ I2.at_
  have hu2 : (h2.push (kxs_mw "ValueError.__init__" x)).get? h2.objs.size = some (kxs_mw "ValueError.__init__" x) := Heap.get?_push_at rfl rfl
  refine kxs_callWith (i := "ValueError.__init__") (x := x) rfl (evalArgs_plain (Calls.spliced_cons (wpAny_Constant_str (k := 0) (pos := p.d) (Calls.spliced_nil ⟨hu2, ?_⟩))))
  refine mw_call (Heap.get?_push_of_some _ (X₂ _ _ hC)) hx2 hu2 (by show 1 ≤ sizeLine; rw [sizeLine_eq]; omega) fun h3 t3 k3 hx3 => ?_
  have X3 : K.In h3 := fun b o e => by
    refine k3 b o (fun z => ?_) (Heap.get?_push_of_some _ (X₂ b o e))
    have e1 := X₂ b o e
    rw [z, I2.at_] at e1
    have e2 := X _ _ e
    rw [z, hx] at e2
    subst z
    exact hnK _ e
  have old3 : ∀ b o, b ≠ x → s.heap.get? b = some o → h3.get? b = some o := fun b o hb e => k3 b o hb (Heap.get?_push_of_some _ (k2 b o (k b o e)))
  have hn3 : h3.Ns s.heap.objs.size (fun y => ([("self", Value.ref x), (f, v)] : List (Str × Value)).reverse.lookup y) := hns.at fun o e => k3 _ _ (Nat.ne_of_gt (Heap.lt_size hx)) (Heap.get?_push_of_some _ (k2 _ _ e))
  refine ks_wpAt_execs_cons (wpAt_of_wpAny (plainObj_wpAny_Assign_Attribute ?_ ?_))
  · refine wpAny_Name (wpAny_loadName_local rfl (lk f (.inr rfl)) hn3 kf ?_) kD
    refine wpAny_Name (wpAny_loadName_local rfl (lk "self" (.inl rfl)) hn3 ks ?_) (by decide)
    refine set_plain X3 (ox := excO C t3) (od := none) ⟨hx3, rfl, rfl, trivial⟩ T.sa ?_
    refine exc_osa X3 hx3 hcl (show refsVE (.ref C :: bm) = true from hbm) rfl T.no (fun h4 tk4 dx k4 dn dne hx4 hn4 => ?_)
    show PySem.wpAt _ _ _ (execs _ _) _ _ _
    refine wpAt_of_wpAny (wpAny_execs_nil (hq h4 tk4 dx t3 ⟨fun b o hb e => k4 b o hb (old3 b o hb e), hx4, ?_, dne, hn4⟩))
    have z3 : s.heap.objs.size ≤ h3.objs.size := Nat.le_of_lt hn3.lt
    exact Nat.le_trans z3 dn
  · rcases hf with rfl | rfl | rfl <;> rfl
end
end Mi

/-! Mi29 -/
set_option Elab.async false
set_option linter.all false
set_option maxRecDepth 100000
set_option maxHeartbeats 4000000
set_option autoImplicit false
namespace Mi
open PySem PySem.Spec PyProof.Rows L2 PySem.Calls PySem.W PySem.HandSPX

/-! ### the error made -/
structure MadeE (h h' : Heap) (e C d : Addr) (f : Str) (v : Value) : Prop where
  keep : ∀ b o, h.get? b = some o → h'.get? b = some o
  big : h.objs.size ≤ e
  obj : ∃ oe vs, h'.get? e = some oe ∧ Zc (.ref C) (some d) oe ∧ oe.data = .fields vs ∧ vs[1]? = some .none
  dbig : h.objs.size ≤ d
  dne : d ≠ e
  ns : h'.Ns1 d (fun y => if y = f then some v else none)
section
variable {prog : Program} {w : World} {A : Around} {E : Value → Shared → Prop} {R : Result → Shared → Prop} {s : Shared} {K : Frag} {mg : Str → Option Value} {C fI : Addr} {f : Str}
theorem er_made (T : ErTx prog K f C fI) (hf : FldN f) {v : Value} (X : K.In s.heap) (hlim : s.heap.NoLimit) (G : s.heap.Ns mainGlobals mg) (hs : mg "super" = none) (hb : ∃ mb, s.heap.Ns builtinsNs mb ∧ ∀ x : Str, x ≠ "__name__" → mb x = bootBuiltins x)
    (htop : (prog.main.scope.names.lookup ("super" : Str)).isSome = false) (hroom : A.depth + 1 < recursionLimit)
    (hq : ∀ h' tk e d, MadeE s.heap h' e C d f v → R (.ok (.ret (.ref e))) { s with heap := h', toks := tk }) :
    codeAny (model prog w) A (.call (.ref C) ⟨[v], []⟩) R s := by
  obtain ⟨nm, q, N, bs, bm, sn, sub, ab, col, dd, k0, k1, k2, k3, k5, hC, hbm⟩ := T.cls
  obtain ⟨mb, B, hmb⟩ := hb
  obtain ⟨hp, g, dr, tk, os⟩ := s
  have k : ∀ b o, hp.get? b = some o → ((hp.push (kdv_tup [v])).push (excO C hp.objs.size)).get? b = some o := fun b o e => Heap.get?_push_of_some _ (Heap.get?_push_of_some _ e)
  have at_ : ((hp.push (kdv_tup [v])).push (excO C hp.objs.size)).get? (hp.objs.size + 1) = some (excO C hp.objs.size) := by heap_get
  have off : ∀ o, K.lookup (hp.objs.size + 1) ≠ some o := fun o e => absurd (Nat.lt_of_succ_lt (Heap.lt_size (X _ _ e))) (Nat.lt_irrefl _)
  have one : [v].length ≤ sizeLine := by show 1 ≤ sizeLine; rw [sizeLine_eq]; omega
  refine call_own PySem.F.excBase_ValueError (fun Y => refsVE_contains Y bm hbm) (X _ _ hC) (looks_findIn X T.iC) (fun self => bind_fn X self T.tI) one ?_
  refine er_init (s := ⟨(hp.push (kdv_tup [v])).push (excO C hp.objs.size), g, dr, tk, os⟩) T hf (X.keeps k) (hlim.keeps k) (G.keeps k) hs ⟨mb, B.keeps k, hmb⟩ htop at_ off hroom fun h' tk' dx t1 M => ?_
  have old : ∀ b o, hp.get? b = some o → h'.get? b = some o := fun b o e => M.keep b o (Nat.ne_of_lt (Nat.lt_succ_of_lt (Heap.lt_size e))) (k b o e)
  have z : hp.objs.size ≤ dx := by
    have y := M.dbig
    rw [Heap.size_push, Heap.size_push] at y
    omega
  exact ⟨rfl, hq h' tk' (hp.objs.size + 1) dx ⟨old, Nat.le_succ _, ⟨_, _, M.obj, ⟨rfl, rfl⟩, rfl, rfl⟩, z, M.dne, M.ns⟩⟩
end
/-- the error's dict as it is read -/
theorem relO_one {f : Str} {v : V} {u : Value} (r : RelV v u) (g : Str) : RelO (List.lookup g [(f, v)]) (if g = f then some u else none) := by
  have e := relO_put (fs := []) (mA := fun _ => none) (f := f) r (fun _ => True.intro) g
  exact e
section
variable {X : Cx} {C fI : Addr} {f x : Str}
def tMkE (C : Addr) (f : Str) (ta : TA) : L2.St → Hp → XK → Prop := fun σ H Q => ta σ H fun vs H1 => ∃ v, vs = [v] ∧ ∀ d, H1 d = none → Q (.ref C) (some d) (upd H1 d (.xd [(f, v)]))
theorem pmk_er {a : Expr} {ta : TA} {p pos : Pos} {k : Nat} (T : ErTx X.prog X.K f C fI) (hf : FldN f) (hs : X.mg "super" = none) (htop : (X.prog.main.scope.names.lookup ("super" : Str)).isSome = false) (hr : Room (k + 1) X.A) (ha : PA X [a] ta) (hm : X.mg x = some (.ref C))
    (hg : Gl X x := by rfl) (hdb : (x == ("__debug__" : Str)) = false := by decide) (he : starEach (a :: []) X.env = (false, eval a X.env) :: starEach [] X.env := by rfl) (hpl : (backTo pos (starEach [] X.env)).any (·.1) = false := by rfl) :
    PMk X (.Call (.Name x p) [a] [] pos) (tMkE C f ta) := by
  intro pins s σ H Q I h
  refine wpAny_Call_Name_kw (ld_glob I hg hm ?_ hdb)
  refine callWith_K (h₀ := X.base) I.ok.mod.kin T.kC (thn (ha.run pos pins s σ H _ I h) fun us s1 ⟨vs, H1, I1, r1, v, ev, q1⟩ => ?_) he hpl
  subst ev
  refine ⟨I1.kIn, ?_⟩
  cases r1 with
  | @cons _ u _ us' rv rn =>
    cases rn
    have lim := I1.nolimit
    have gl := I1.ok.mod.glob.keeps I1.bk
    obtain ⟨mb, b1, b2⟩ := I1.ok.mod.blt
    have bl := b1.keeps I1.bk
    obtain ⟨hp, g, dr, tk, os⟩ := s1
    refine wpAny_call (er_made T hf I1.kIn lim gl hs ⟨mb, bl, b2⟩ htop (by have := hr.dp; omega) fun h' tk' e d M => ?_)
    obtain ⟨oe, fv, hoe, hz, hdat, h1⟩ := M.obj
    obtain ⟨G', g1, g2⟩ := restrict h' fun b => decide (b ≠ e)
    have gk : ∀ b, b ≠ e → G'.get? b = h'.get? b := fun b hb => g1 b (decide_eq_true hb)
    have ge : G'.get? e = none := g2 e (by simp)
    have old : ∀ b o, hp.get? b = some o → G'.get? b = some o := fun b o q => (gk b (Nat.ne_of_lt (Nat.lt_of_lt_of_le (Heap.lt_size q) M.big))).trans (M.keep b o q)
    have ob : ObjOk X.prog X.w (upd H1 d (.xd [(f, v)])) G' d (.xd [(f, v)]) := ⟨_, M.ns.at (fun o q => (gk d M.dne).trans q), relO_one rv⟩
    have J : Inv X pins σ (upd H1 d (.xd [(f, v)])) ⟨G', g, dr, tk', os⟩ := I1.laid (t' := tk') old M.dbig ob
    refine ⟨e, oe, fv, ⟨G', g, dr, tk', os⟩, _, .ref C, some d, rfl, J, fun b o q => ?_, ge, hoe, hz, hdat, h1, ?_, rfl, I1.bare, raises_own T.eC T.tC, q1 d (I1.hok.fresh M.dbig)⟩
    · by_cases hb : b = e
      · have q' : G'.get? b = some o := q
        rw [hb, ge] at q'
        cases q'
      · exact (gk b hb).symm.trans q
    · rw [upd_ne (Ne.symm M.dne)]
      exact I1.hok.fresh M.big
end
/-! ### raise C(e), of the reckoning -/
def sRaise (x f : Str) (aa : AM) : SM := fun env S => (aa env S).then env fun ds S1 => match ds with
  | [.p d] => .err ⟨x, [(f, d)]⟩ env S1
  | _ => .bad
section
variable {X : Cx} {W : WX} {C fI : Addr} {f x : Str} {aa : AM}
theorem ms_raise {a : Expr} {p pos pos2 : Pos} {k : Nat} (hc : X.calm = true) (tk : L2.Takes X W) (T : ErTx X.prog X.K f C fI) (hf : FldN f) (hs : X.mg "super" = none) (htop : (X.prog.main.scope.names.lookup ("super" : Str)).isSome = false) (hr : Room (k + 1) X.A) (hm : X.mg x = some (.ref C))
    (ha : PA X [a] (ta X.K X.mg W aa)) (hg : Gl X x := by rfl) (hdb : (x == ("__debug__" : Str)) = false := by decide) (he : starEach (a :: []) X.env = (false, eval a X.env) :: starEach [] X.env := by rfl) (hpl : (backTo pos (starEach [] X.env)).any (·.1) = false := by rfl) :
    PS X (.Raise (some (.Call (.Name x p) [a] [] pos)) none pos2) (ts X.K X.mg W (sRaise x f aa)) := by
  refine (ps_raise hc tk (pmk_er T hf hs htop hr ha hm hg hdb he hpl)).w fun D σ H ⟨R, μ, env, S, r, h⟩ => ⟨R, μ, env, S, r, ?_⟩
  refine pg_mono (pz_then h) fun μ1 H1 S1 ds s1 rs1 p vs dr => ?_
  cases dr with
  | nil => exact p.elim
  | @cons v vs' d ds' q1 r1 =>
    cases r1 with
    | cons _ _ => cases d <;> exact p.elim
    | nil =>
      cases q1 with
      | loc _ => exact p.elim
      | scr _ => exact p.elim
      | @p _ d pd =>
        refine ⟨v, rfl, fun b hb => ?_⟩
        have s2 : Sp1 μ1 S1.length H1 μ1 S1.length (upd H1 b (.xd [(f, v)])) := sp_new hb
        exact p μ1 _ σ (.ref C) (some b) s2 ((r.mono s1 rs1).mono s2 (rs_new hb rs1)) ⟨hm, b, [(f, v)], rfl, upd_same, rfl, .cons (pd.mono (av_le s2.hp)) .nil⟩
end
end Mi

/-! Mi30 -/
set_option Elab.async false
set_option linter.all false
set_option maxRecDepth 100000
set_option maxHeartbeats 4000000
set_option autoImplicit false
namespace Mi
open PySem PySem.Spec PyProof.Rows L2 PySem.Calls

/-! ### try: .. except E as n: .. -/
/-- what the written part says of the class of a caught error -/
structure CaTx (K : PySem.W.Frag) (C : Addr) : Prop where
  xf : XfC K C
  no : ∀ f, FldN f → PySem.W.findIn K (.ref C) f = some none
  cl : (PySem.W.clsIn K C).isSome = true
  ha : PySem.W.findIn K (.ref C) "__class__" = some (some (.builtin "object.__class__"))
  hn : PySem.W.specialIn K (.builtin "object.__class__") "__get__" = some (some (.builtin "getset_descriptor.__get__"))
  ht : PySem.W.takesIn K (.builtin "object.__class__") = some true
  hm : PySem.W.mroIn K C (.type "object") = some true
/-- the classes that may be caught here -/
def Caught (K : PySem.W.Frag) (mg : Str → Option Value) (yes : List Str) : Prop := ∀ x ∈ yes, ∃ C, mg x = some (.ref C) ∧ CaTx K C
def CatBy (K : PySem.W.Frag) (mg : Str → Option Value) (yes : List Str) (y : Str) : Prop := ∃ Y, mg y = some (.ref Y) ∧ ∀ x ∈ yes, ∀ C, mg x = some (.ref C) → PySem.W.exmOne K (.ref C) (.ref Y) = some true
def IsBy (K : PySem.W.Frag) (mg : Str → Option Value) (yes : List Str) (y : Str) (subs : List Str) : Prop := ∃ Y, mg y = some (.ref Y) ∧ ∀ x ∈ yes, ∀ C, mg x = some (.ref C) → PySem.W.kitOne K (.ref C) (.ref Y) = some (decide (x ∈ subs))
/-- what a suite leans on: the error at a, in slot i -/
def teE (K : PySem.W.Frag) (mg : Str → Option Value) (yes : List Str) (i : Nat) (a : Addr) (cls : Value) (d : Option Addr) (m : Er → EM) : TE := fun σ H Q => ∃ R μ env S e, RL K R μ H S σ env [] [] ∧ σ[i]? = some (some (.ref a)) ∧ e.cls ∈ yes ∧
  ErR K mg H (Av R μ S.length) cls d e ∧ Po K mg W0 R μ S H σ env (m e env S) Q
def tsE (K : PySem.W.Frag) (mg : Str → Option Value) (yes : List Str) (i : Nat) (a : Addr) (cls : Value) (d : Option Addr) (m : Er → SM) : TS := fun D σ H => ∃ R μ env S e, RL K R μ H S σ env [] [] ∧ σ[i]? = some (some (.ref a)) ∧ e.cls ∈ yes ∧
  ErR K mg H (Av R μ S.length) cls d e ∧ Pz K mg W0 R μ S H (m e env S) D
section
variable {X : Cx} {i : Nat} {a : Addr} {oe : Obj} {cls : Value} {d : Option Addr} {pn : List (Addr × Obj)} {yes subs : List Str} {n f y : Str}
theorem xe_lift {E : Expr} {m : EM} (h : PE X E (te X.K X.mg W0 m)) : PE X E (teE X.K X.mg yes i a cls d (fun _ => m)) := h.w fun σ H Q ⟨R, μ, env, S, e, r, _, _, _, h⟩ => ⟨R, μ, env, S, r, h⟩
/-- (c, error.f) -/
def ePairE (c f : Str) : Er → EM := fun e _ S => match e.fs with
  | [(g, x)] => if g = f then .ok (.p (.tuple [.str c, x])) S else .bad
  | _ => .bad
theorem xe_pair {c : Str} {j k : Nat} {p1 p2 p3 p4 : Pos} (hf : FldN f) (Ca : Caught X.K X.mg yes) (hz : Zc cls d oe) (hv : ∃ vs, oe.data = .fields vs) (hi : X.N[i]? = some n := by rfl) (hs : Vis X.env.scope n := by first | exact Or.inl rfl | exact Or.inr (Or.inl rfl) | exact Or.inr (Or.inr rfl))
    (hd : (n == ("__debug__" : Str)) = false := by decide) (hcd : (n == ("__classdict__" : Str)) = false := by decide) (hb : attributeBase (.Name n p2) f X.env (eval (.Name n p2) X.env) = eval (.Name n p2) X.env := by rfl)
    (s1 : starEach [.Constant (.str c) j p1, .Attribute (.Name n p2) f p3] X.env = (false, eval (.Constant (.str c) j p1) X.env) :: starEach [.Attribute (.Name n p2) f p3] X.env := by rfl)
    (s2 : starEach [.Attribute (.Name n p2) f p3] X.env = (false, eval (.Attribute (.Name n p2) f p3) X.env) :: starEach [] X.env := by rfl) :
    PE (X.suite a ((a, oe) :: pn)) (.Tuple [.Constant (.str c) j p1, .Attribute (.Name n p2) f p3] k p4) (teE X.K X.mg yes i a cls d (ePairE c f)) := by
  refine ⟨fun pins s σ H Q I h => ?_⟩
  obtain ⟨R, μ, env, S, e, r, hσ, hy, ⟨hc, dd, fs, rfl, hdd, hn, hp⟩, q⟩ := h
  obtain ⟨C, mC, T⟩ := Ca _ hy
  rw [mC] at hc
  cases hc
  have key : PE (X.suite a ((a, oe) :: pn)) (.Tuple [.Constant (.str c) j p1, .Attribute (.Name n p2) f p3] k p4) (tTupF (tCons (tC (.str c)) (tCons (tXf a (.ref C) (some dd) C f (tVar i)) tNil))) :=
    pe_tupF (pa_cons pe_str (pa_cons (pe_xf T.xf (T.no f hf) hz hv (pe_var hi hs hd hcd) hb) pa_nil s2) s1)
  refine key.run pins s σ H Q I ?_
  have q' : Po X.K X.mg W0 R μ S H σ env (ePairE c f e env S) Q := q
  cases ef : e.fs with
  | nil => simp only [ePairE, ef] at q'; exact q'.elim
  | cons p rest =>
    cases rest with
    | cons _ _ => simp only [ePairE, ef] at q'; exact q'.elim
    | nil =>
      obtain ⟨g, x⟩ := p
      simp only [ePairE, ef] at q'
      by_cases hg : g = f
      · rw [if_pos hg] at q'
        subst hg
        rw [ef] at hn hp
        cases fs with
        | nil => cases hn
        | cons fv fr =>
          cases fr with
          | cons _ _ => cases hn
          | nil =>
            obtain ⟨g', v⟩ := fv
            obtain rfl : g' = g := by
              have z : [g'] = [g] := hn
              exact (List.cons.inj z).1
            cases hp with
            | cons pd _ =>
              refine ⟨.ref a, hσ, rfl, rfl, dd, [(g', v)], v, rfl, hdd, by simp [List.lookup], by show 2 ≤ sizeLine; decide, fun b o hb ho => ?_⟩
              have s3 : Sp1 μ S.length H μ S.length (upd H b (.frz o (.tup [.str c, v]))) := sp_new hb
              exact q' μ _ s3 (rs_new hb r.rs) _ (.p (.tup ⟨o, upd_same, ho⟩ (.cons (.str c) (.cons (pd.mono (av_le s3.hp)) .nil))))
      · rw [if_neg hg] at q'
        exact q'.elim
/-- isinstance(error, y) -/
def ttE (K : PySem.W.Frag) (mg : Str → Option Value) (yes : List Str) (i : Nat) (a : Addr) (cls : Value) (d : Option Addr) (subs : List Str) (k : Er → Prop) : L2.St → Hp → Prop := fun σ H => ∃ (R : Addr → Prop) (μ : Nat → Addr) (n : Nat) (e : Er), σ[i]? = some (some (.ref a)) ∧ e.cls ∈ yes ∧ ErR K mg H (Av R μ n) cls d e ∧ k e
theorem xe_is {p1 p2 p3 p4 : Pos} (B : Bn X.mg) (Ca : Caught X.K X.mg yes) (hI : IsBy X.K X.mg yes y subs) (hz : Zc cls d oe) (hv : ∃ vs, oe.data = .fields vs) (hi : X.N[i]? = some n := by rfl) (hs : Vis X.env.scope n := by first | exact Or.inl rfl | exact Or.inr (Or.inl rfl) | exact Or.inr (Or.inr rfl))
    (hd : (n == ("__debug__" : Str)) = false := by decide) (hcd : (n == ("__classdict__" : Str)) = false := by decide) (hgi : Gl X "isinstance" := by rfl) (hgy : Gl X y := by rfl) (hdy : (y == ("__debug__" : Str)) = false := by decide)
    (s1 : starEach [.Name n p1, .Name y p2] X.env = (false, eval (.Name n p1) X.env) :: starEach [.Name y p2] X.env := by rfl) (s2 : starEach [.Name y p2] X.env = (false, eval (.Name y p2) X.env) :: starEach [] X.env := by rfl)
    (hpl : (backTo p4 (starEach [.Name y p2] X.env)).any (·.1) = false := by rfl) :
    PT (X.suite a ((a, oe) :: pn)) (.Call (.Name "isinstance" p3) [.Name n p1, .Name y p2] [] p4) (fun σ H Q => ∃ (R : Addr → Prop) (μ : Nat → Addr) (m : Nat) (e : Er), σ[i]? = some (some (.ref a)) ∧ e.cls ∈ yes ∧ ErR X.K X.mg H (Av R μ m) cls d e ∧ Q (decide (e.cls ∈ subs)) H) := by
  obtain ⟨Y, mY, hY⟩ := hI
  have G : Gl (X.suite a ((a, oe) :: pn)) "isinstance" := hgi
  have rule : CallR (X.suite a ((a, oe) :: pn)) (.builtin "isinstance") (fun vs H Q => vs = [.ref a, .ref Y] ∧ ∃ (R : Addr → Prop) (μ : Nat → Addr) (m : Nat) (e : Er), e.cls ∈ yes ∧ ErR X.K X.mg H (Av R μ m) cls d e ∧ Q (.bl (decide (e.cls ∈ subs))) H) := by
    intro pins s σ H vs us Q I rr hh
    obtain ⟨rfl, R, μ, m, e, hy, ⟨hc, dd, fs, rfl, hdd, _, _⟩, q⟩ := hh
    obtain ⟨C, mC, T⟩ := Ca _ hy
    rw [mC] at hc
    cases hc
    obtain ⟨u1, u2, rfl, rx, rt⟩ : ∃ u1 u2, us = [u1, u2] ∧ RelV (.ref a) u1 ∧ RelV (.ref Y) u2 := by
      cases rr with
      | cons rx rr =>
        cases rr with
        | cons rt rr =>
          cases rr
          exact ⟨_, _, rfl, rx, rt⟩
    cases rx
    cases rt
    obtain ⟨hget, _⟩ := I.pin (a, oe) (List.mem_append.mpr (.inl List.mem_cons_self))
    obtain ⟨vs, hvv⟩ := hv
    have hx : ObjOk X.prog X.w H s.heap dd (.xd fs) := I.hok dd _ hdd
    obtain ⟨mA, hns, _⟩ := hx
    obtain ⟨od, ho, _⟩ := lookIn_ns hns
    have J : PySem.W.InstAt s.heap a oe C (some od) := ⟨hget, hz.1, by unfold PySem.W.notCls; rw [hvv] <;> rfl, by rw [hz.2]; exact ho⟩
    exact PySem.W.kia_one (PySem.W.kitx_exc T.cl T.xf.ga T.xf.gg T.xf.exC T.ha T.hn T.ht T.hm) I.kIn J (hY _ hy C mC) (fun z => nomatch z) fun tk => ⟨.bl _, H, I.kept (t' := tk) fun _ _ z => z, rfl, q⟩
  have call := pe_callB (X := X.suite a ((a, oe) :: pn)) (p := p3) (pos := p4) rule G B.isinstance (by decide +kernel) (pa_cons (pe_var (pos := p1) hi hs hd hcd) (pa_cons (pe_glob (pos := p2) (v := .ref Y) hgy mY rfl hdy) pa_nil s2) s1) (by decide) (by decide) s1 hpl
  have test := pt_val call
  refine ⟨fun pins s σ H Q I h => test.run pins s σ H Q I ?_⟩
  obtain ⟨R, μ, m, e, hσ, hy, er, q⟩ := h
  exact ⟨.ref a, hσ, rfl, R, μ, m, e, hy, er, _, rfl, q⟩
end
end Mi

/-! Mi31 -/
set_option Elab.async false
set_option linter.all false
set_option maxRecDepth 100000
set_option maxHeartbeats 4000000
set_option autoImplicit false
namespace Mi
open PySem PySem.Spec PyProof.Rows L2 PySem.Calls

/-! ### the suite's statements, the try -/
def eIfE (subs : List Str) (a b : Er → EM) : Er → EM := fun e => if e.cls ∈ subs then a e else b e
def sIfE (subs : List Str) (a b : Er → SM) : Er → SM := fun e => if e.cls ∈ subs then (fun env S => match a e env S with
  | .rt d S1 => .rt d S1
  | _ => .bad) else b e
def sRetE (m : Er → EM) : Er → SM := fun e => sRet (m e)
theorem so_p {c : Bool} {A B : Prop} (h : c = true) (x : A) : if c = true then A else B := by
  rw [if_pos h]
  exact x
theorem not_p {c : Bool} {A B : Prop} (h : c = false) (x : B) : if c = true then A else B := by
  rw [if_neg (by rw [h]; exact Bool.false_ne_true)]
  exact x
theorem in_true {e : Er} {l : List Str} {α : Type} {x y : α} (h : e.cls ∈ l) : (if e.cls ∈ l then x else y) = x := if_pos h
section
variable {X : Cx} {i : Nat} {a : Addr} {oe : Obj} {cls : Value} {d : Option Addr} {pn : List (Addr × Obj)} {yes subs : List Str} {K : PySem.W.Frag} {mg : Str → Option Value}
abbrev tIs (K : PySem.W.Frag) (mg : Str → Option Value) (yes : List Str) (i : Nat) (a : Addr) (cls : Value) (d : Option Addr) (subs : List Str) : TT :=
  fun σ H Q => ∃ (R : Addr → Prop) (μ : Nat → Addr) (m : Nat) (e : Er), σ[i]? = some (some (.ref a)) ∧ e.cls ∈ yes ∧ ErR K mg H (Av R μ m) cls d e ∧ Q (decide (e.cls ∈ subs)) H
theorem xe_if {Z : Cx} {c A B : Expr} {p : Pos} {m1 m2 : Er → EM} (hc : PT Z c (tIs K mg yes i a cls d subs)) (hA : PE Z A (teE K mg yes i a cls d m1)) (hB : PE Z B (teE K mg yes i a cls d m2)) : PE Z (.IfExp c A B p) (teE K mg yes i a cls d (eIfE subs m1 m2)) := by
  refine (pe_ifExp hc hA hB).w fun σ H Q ⟨R, μ, env, S, e, r, hσ, hy, er, q⟩ => ⟨R, μ, S.length, e, hσ, hy, er, ?_⟩
  have q' : Po K mg W0 R μ S H σ env (eIfE subs m1 m2 e env S) Q := q
  unfold eIfE at q'
  by_cases h : e.cls ∈ subs
  · rw [if_pos h] at q'
    exact so_p (decide_eq_true h) ⟨R, μ, env, S, e, r, hσ, hy, er, q'⟩
  · rw [if_neg h] at q'
    exact not_p (decide_eq_false h) ⟨R, μ, env, S, e, r, hσ, hy, er, q'⟩
theorem xs_ret {Z : Cx} {E : Expr} {p : Pos} {m : Er → EM} (hk : Z.K = K) (hm : Z.mg = mg) (h : PE Z E (teE K mg yes i a cls d m)) : PSs Z [.Return (some E) p] (tsE K mg yes i a cls d (sRetE m)) := by
  refine (pss_one (ps_ret h)).w fun D σ H ⟨R, μ, env, S, e, r, hσ, hy, er, q⟩ => ⟨R, μ, env, S, e, r, hσ, hy, er, ?_⟩
  have q' : Pz K mg W0 R μ S H (sRet (m e) env S) D := q
  exact pg_mono (pz_then q') fun μ1 H1 S1 x s1 rs1 pz v dr => pz μ1 H1 v Sp1.refl rs1 dr
theorem xs_if {Z : Cx} {c : Expr} {b rest : List Stmt} {p : Pos} {m1 m2 : Er → SM} (hc : PT Z c (tIs K mg yes i a cls d subs)) (hb : PSs Z b (tsE K mg yes i a cls d m1)) (hr : PSs Z rest (tsE K mg yes i a cls d m2)) : PSs Z (.If c b [] p :: rest) (tsE K mg yes i a cls d (sIfE subs m1 m2)) := by
  refine (pss_cons (ps_if hc hb pss_nil) hr).w fun D σ H ⟨R, μ, env, S, e, r, hσ, hy, er, q⟩ => ⟨R, μ, S.length, e, hσ, hy, er, ?_⟩
  have q' : Pz K mg W0 R μ S H (sIfE subs m1 m2 e env S) D := q
  unfold sIfE at q'
  by_cases h : e.cls ∈ subs
  · rw [if_pos h] at q'
    refine so_p (decide_eq_true h) ⟨R, μ, env, S, e, r, hσ, hy, er, ?_⟩
    cases z : m1 e env S with
    | rt x S1 => simp only [z] at q'; exact q'
    | nx _ _ => simp only [z] at q'; exact q'.elim
    | bk _ _ => simp only [z] at q'; exact q'.elim
    | ct _ _ => simp only [z] at q'; exact q'.elim
    | err _ _ _ => simp only [z] at q'; exact q'.elim
    | bad => simp only [z] at q'; exact q'.elim
  · rw [if_neg h] at q'
    exact not_p (decide_eq_false h) ⟨R, μ, env, S, e, r, hσ, hy, er, q'⟩
end
/-- try: bm, except (the classes yes) as the name in slot i: sm; what else leaves bm leaves this -/
def sTry (yes no : List Str) (i : Nat) (bm : SM) (sm : Er → SM) : SM := fun env S => match bm env S with
  | .err e env1 S1 => if e.cls ∈ yes ∧ i < env1.length then (match sm e (env1.set i none) S1 with
      | .nx env2 S2 => .nx (env2.set i none) S2
      | .bk env2 S2 => .bk (env2.set i none) S2
      | .ct env2 S2 => .ct (env2.set i none) S2
      | .rt d S2 => .rt d S2
      | _ => .bad) else if e.cls ∈ no then .err e env1 S1 else .bad
  | o => o
/-- another clause's classes -/
def CatNo (K : PySem.W.Frag) (mg : Str → Option Value) (no : List Str) (y : Str) : Prop := ∀ Y, mg y = some (.ref Y) → ∀ x ∈ no, ∀ cls, mg x = some cls → PySem.W.exmOne K cls (.ref Y) = some false
theorem catNo_nil {K : PySem.W.Frag} {mg : Str → Option Value} {y : Str} : CatNo K mg [] y := fun _ _ x h => by simp at h
theorem RL.unset {K : PySem.W.Frag} {R : Addr → Prop} {μ : Nat → Addr} {H : Hp} {S : Sto} {σ : L2.St} {env : Envr} (o : Option V) (i : Nat) (r : RL K R μ H S σ env [] []) : RL K R μ H S (σ.set i o) (env.set i none) [] [] := ⟨r.rs, DRo.unset i r.en, .nil⟩
section
variable {X : Cx} {W : WX} {i : Nat} {yes no : List Str} {n y : Str} {body suite : List Stmt} {b₀ : Stmt} {np pos pos' : Pos} {bm : SM} {sm : Er → SM}
theorem ms_try (hs : X.stack = X.env :: X.outer) (hf : X.env.frame = some X.env.locals) (hN : X.N.Nodup) (tk : L2.Takes X W) (Ca : Caught X.K X.mg yes) (hC : CatBy X.K X.mg yes y) (hno : CatNo X.K X.mg no y)
    (hb : ∀ (V : WX) (pn : List (Addr × Obj)) (xe : Value → Shared → Prop), L2.Takes (X.tr pn xe) V → PassesOwn (model X.prog X.w) X.A X.env xe → PSs (X.tr pn xe) body (ts X.K X.mg V bm))
    (hsu : ∀ (a : Addr) (oe : Obj) (cls : Value) (d : Option Addr) (pn : List (Addr × Obj)), Zc cls d oe → (∃ vs, oe.data = .fields vs) → PSs (X.suite a ((a, oe) :: pn)) (b₀ :: suite) (tsE X.K X.mg yes i a cls d sm))
    (hi : X.N[i]? = some n := by rfl) (hln : X.env.kindOf n = some .local := by rfl) (hg : Gl X y := by rfl) (hdb : (y == ("__debug__" : Str)) = false := by decide) :
    PS X (.Try body [.ExceptHandler (some (.Name y np)) (some n) (b₀ :: suite) pos'] [] [] pos) (ts X.K X.mg W (sTry yes no i bm sm)) := by
  obtain ⟨Y, mY, hY⟩ := hC
  refine (ps_try_as (c := .ref Y) (tb := fun V => ts X.K X.mg V bm) (ts := fun a cls d => tsE X.K X.mg yes i a cls d sm) (Wout := W) hs hf hN hi hln ⟨hg, hdb, .inl mY⟩ tk hb hsu).w fun D σ H ⟨R, μ, env, S, r, h⟩ => ⟨R, μ, env, S, r, ?_⟩
  unfold sTry at h
  cases z : bm env S with
  | bad => rw [z] at h; exact h
  | nx e1 S1 => rw [z] at h; exact h
  | bk e1 S1 => rw [z] at h; exact h
  | ct e1 S1 => rw [z] at h; exact h
  | rt x S1 => rw [z] at h; exact h
  | err e env1 S1 =>
    rw [z] at h
    dsimp only at h
    intro μ' H' σ' cls dd s1 r1 er
    have mc := er.1
    by_cases hy : e.cls ∈ yes ∧ i < env1.length
    · rw [if_pos hy] at h
      obtain ⟨C, mC, T⟩ := Ca _ hy.1
      rw [mC] at mc
      cases mc
      refine ⟨true, hY _ hy.1 C mC, fun _ a ha => ?_, fun q => Bool.noConfusion q⟩
      have hlen : i < σ'.length := by rw [r1.en.len]; exact hy.2
      refine ⟨R, μ', env1.set i none, S1, e, r1.unset _ i, by rw [List.getElem?_set_self hlen], hy.1, er, ?_⟩
      have h1 := pz_later s1 h
      cases q : sm e (env1.set i none) S1 with
      | bad => rw [q] at h1; exact h1.elim
      | err _ _ _ => rw [q] at h1; exact h1.elim
      | rt x S2 => rw [q] at h1; exact h1
      | nx env2 S2 => rw [q] at h1; exact fun μ2 H2 σ2 s2 r2 => h1 μ2 H2 _ s2 (r2.unset none i)
      | bk env2 S2 => rw [q] at h1; exact fun μ2 H2 σ2 s2 r2 => h1 μ2 H2 _ s2 (r2.unset none i)
      | ct env2 S2 => rw [q] at h1; exact fun μ2 H2 σ2 s2 r2 => h1 μ2 H2 _ s2 (r2.unset none i)
    · rw [if_neg hy] at h
      by_cases hn : e.cls ∈ no
      · rw [if_pos hn] at h
        refine ⟨false, hno Y mY _ hn cls mc, fun q => Bool.noConfusion q, fun _ => h μ' H' σ' cls dd s1 r1 er⟩
      · rw [if_neg hn] at h
        exact h.elim
end
end Mi

/-! Mi32 -/
set_option Elab.async false
set_option linter.all false
set_option maxRecDepth 100000
set_option maxHeartbeats 4000000
set_option autoImplicit false
namespace Mi
open PySem PySem.Spec PyProof.Rows L2

/-- {} that nothing changes -/
def eD0 : EM := fun _ S => .ok (.p (.dict [])) S
theorem me_d0 {X : Cx} {W : WX} {pos : Pos} : PE X (.Dict [] [] pos) (te X.K X.mg W eD0) := pe_dnewK.w fun σ H Q ⟨R, μ, env, S, r, h⟩ p hp => by
  have s2 : Sp1 μ S.length H μ S.length (upd H p (.dK [])) := sp_new hp
  exact h μ _ s2 (rs_new hp r.rs) _ (.p (.dk0 upd_same (not_own r.rs hp)))
/-- an error's class by its name -/
def EcX (P : Program) (K : PySem.W.Frag) (mg : Str → Option Value) (x f : Str) : Prop := ∃ C fI, mg x = some (.ref C) ∧ ErTx P K f C fI
theorem ms_raiseE {X : Cx} {W : WX} {x f : Str} {aa : AM} {a : Expr} {p pos pos2 : Pos} {k : Nat} (hc : X.calm = true) (tk : L2.Takes X W) (T : EcX X.prog X.K X.mg x f) (hf : FldN f) (hs : X.mg "super" = none) (htop : (X.prog.main.scope.names.lookup ("super" : Str)).isSome = false) (hr : Room (k + 1) X.A)
    (ha : PA X [a] (ta X.K X.mg W aa)) (hg : Gl X x := by rfl) (hdb : (x == ("__debug__" : Str)) = false := by decide) (he : starEach (a :: []) X.env = (false, eval a X.env) :: starEach [] X.env := by rfl) (hpl : (backTo pos (starEach [] X.env)).any (·.1) = false := by rfl) :
    PS X (.Raise (some (.Call (.Name x p) [a] [] pos)) none pos2) (ts X.K X.mg W (sRaise x f aa)) := by
  obtain ⟨C, fI, hm, T⟩ := T
  exact ms_raise hc tk T hf hs htop hr hm ha hg hdb he hpl
end Mi

/-! Mi33 -/
set_option Elab.async false
set_option linter.all false
set_option maxRecDepth 100000
set_option maxHeartbeats 4000000
set_option autoImplicit false
namespace Mi
open PySem PySem.Spec PyProof.Rows L2 PySem.Calls HT

/-! ### t[::-1] -/
theorem places_rev (n : Nat) : Builtin.Slice.slicePlaces ((n : Int) - 1) (-1) (-1) = n := by
  unfold Builtin.Slice.slicePlaces
  have h1 : ¬ ((-1 : Int) > 0) := by omega
  simp only [h1, if_false]
  by_cases h : n = 0
  · subst h
    rfl
  · rw [if_pos (by omega)]
    have e : ((n : Int) - 1 - -1 - 1) / - -1 + 1 = n := by
      rw [show (- -1 : Int) = 1 from rfl, Int.ediv_one]
      omega
    rw [e]
    rfl
theorem rev_pick {α : Type} (xs : Array α) : ((List.range xs.size).filterMap fun (m : Nat) => xs[(((xs.size : Nat) : Int) - 1 + (m : Int) * -1).toNat]?).toArray = xs.toList.reverse.toArray := by
  congr 1
  refine List.ext_getElem? fun k => ?_
  have e : (fun (m : Nat) => xs[(((xs.size : Nat) : Int) - 1 + (m : Int) * -1).toNat]?) = fun m => xs[xs.size - 1 - m]? := by
    funext m
    have : (((xs.size : Nat) : Int) - 1 + (m : Int) * -1).toNat = xs.size - 1 - m := by omega
    rw [this]
  rw [e]
  have f : (List.range xs.size).filterMap (fun m => xs[xs.size - 1 - m]?) = xs.toList.reverse := by
    have g : (List.range xs.size).filterMap (fun m => xs[xs.size - 1 - m]?) = ((List.range xs.size).map fun m => xs.size - 1 - m).filterMap (xs[·]?) := by
      rw [List.filterMap_map]
      rfl
    rw [g, PySem.W.krv_range, List.filterMap_reverse, PySem.W.krv_all]
  rw [f]
section
variable {prog : Program} {w : World} {A : Around} {E : Value → Shared → Prop} {s : Shared}
theorem sliceApplied_rev {sl : Addr} {vs : Value} {n : Nat} {Q : Int × Int × Nat → Shared → Prop} (hs : s.heap.IsSliceOf sl .none .none vs) (ps : IsPart vs (some (-1))) (h : Q ((n : Int) - 1, -1, n) s) :
    wpAny (model prog w) A (Builtin.Slice.sliceApplied (.ref sl) (pure (n : Int))) Q E s := by
  obtain ⟨os, hos, hcs, hds⟩ := id hs
  unfold Builtin.Slice.sliceApplied Builtin.Slice.sliceFields
  refine wpAny_bind (wpAny_bind (wpAny_field hos hds (x := .none) rfl (wpAny_bind (wpAny_field hos hds (x := .none) rfl (wpAny_bind (wpAny_field hos hds (x := vs) rfl (wpAny_pure ?_)))))))
  refine wpAny_bind (slicePart_ ps ?_)
  show wpAny _ _ (if ((-1 : Int) == 0) = true then _ else _) _ _ s
  rw [if_neg (by decide)]
  refine wpAny_bind (slicePart_none (wpAny_bind (slicePart_none (wpAny_bind (wpAny_pure ?_)))))
  show wpAny _ _ (match Builtin.Slice.sliceAdjust none none (-1) (n : Int) with | (lo, hi) => pure (lo, (-1 : Int), Builtin.Slice.slicePlaces lo hi (-1))) _ _ s
  show wpAny _ _ (pure ((n : Int) - 1, (-1 : Int), Builtin.Slice.slicePlaces ((n : Int) - 1) (-1) (-1))) _ _ s
  rw [places_rev]
  exact wpAny_pure h
theorem getItem_tuple_rev {t sl : Addr} {items : Array Value} {vs : Value} {Q : Value → Shared → Prop} (ht : IsTup s.heap t items) (hs : s.heap.IsSliceOf sl .none .none vs) (ps : IsPart vs (some (-1)))
    (h : Q (.ref s.heap.objs.size) { s with heap := s.heap.push { cls := .type "tuple", data := .seq items.toList.reverse.toArray } }) (hsz : items.size ≤ sizeLine) : wpAny (model prog w) A (getItem (.ref t) (.ref sl)) Q E s := by
  have htake : sizeOk (.seq items.toList.reverse.toArray) := by
    show items.toList.reverse.toArray.size ≤ sizeLine
    simpa using hsz
  obtain ⟨os, hos, hcs, hds⟩ := id hs
  have hTs : s.TypeIs (.ref sl) "slice" := ⟨os, hos, hcs⟩
  unfold getItem
  try with_reducible refine wpAny_holding ?_
  first | refine wpAny_bind (wpAny_pure ?_) | skip
  refine wpAny_bind (wpAny_sequenceKey ht.typeIs (by decide) ?_)
  refine wpAny_bind (wpAny_callSpecial?_slot (name := Str.ofString "__getitem__") ht.typeIs PyProof.Rows.slot_tuple_getitem
    (wpAny_call_entry PyProof.Rows.slot_tuple_getitem ht.typeIs entry_tuple_getitem ?_ (args_tuple_getitem _ _)))
  show wpAny _ _ (Builtin.Tuple.tupleItemsOf (.ref t) >>= _) _ _ s
  refine wpAny_bind (tupleItemsOf_ ht ?_)
  refine wpAny_bind (wpAny_typeOf hTs ?_)
  rw [if_pos (by decide)]
  refine wpAny_bind (sliceApplied_rev hs ps ?_)
  show wpAny _ _ (if (((items.size : Nat) : Int) - 1 == 0 && (-1 : Int) == 1 && items.size == items.size) = true then _ else _) _ _ s
  have hno : ¬ ((((items.size : Nat) : Int) - 1 == 0 && (-1 : Int) == 1 && items.size == items.size) = true) := by
    rw [show ((-1 : Int) == 1) = false from rfl, Bool.and_false, Bool.false_and]
    exact Bool.false_ne_true
  rw [if_neg hno, rev_pick]
  first
    | exact wpAny_bind (m := Builtin.Tuple.tupleExact _) (wpAny_newObj_type (wpAny_pure ⟨_, rfl, wpAny_pure h⟩) htake)
    | exact wpAny_bind (m := Builtin.Tuple.tupleExact _) (wpAny_newObj_type (wpAny_bind (wpAny_pure (wpAny_pure ⟨_, rfl, wpAny_pure h⟩))) htake)
    | exact wpAny_bind (wpAny_bind (m := Builtin.Tuple.tupleExact _) (wpAny_newObj_type (wpAny_pure (wpAny_pure ⟨_, rfl, wpAny_pure h⟩)) htake))
    | exact wpAny_bind (wpAny_bind (m := Builtin.Tuple.tupleExact _) (wpAny_newObj_type (wpAny_pure ⟨_, rfl, wpAny_pure h⟩) htake))
end
def tRevT (K : PySem.W.Frag) (te : TE) : TE := fun σ H Q => te σ H fun x H1 => ∃ a xs, x = .ref a ∧ SqT K H1 a xs ∧ NwT H1 xs.reverse Q
section
variable {X : Cx} {W : WX}
theorem pe_revT {e : Expr} {te : TE} {k : Nat} {p1 p2 p3 pos : Pos} (he : PE X e te) : PE X (.Subscript e (.Slice none none (some (.UnaryOp .USub (.Constant (.int 1) k p1) p2)) p3) pos) (tRevT X.K te) := by
  refine ⟨fun pins s σ H Q I h => ?_⟩
  refine Subscript_ (thn (he.run pins s σ H _ I h) fun v s1 ⟨x, H1, I1, r1, a, xs, ex, hx, q⟩ => ?_)
  subst ex
  cases r1
  have hst : PO X (some (.UnaryOp .USub (.Constant (.int 1) k p1) p2)) (tPart (tUn (rU fun i => .int (-i)) (tC (.int 1)))) := po_some (pe_un un_neg pe_int)
  refine wpAny_Slice (thn (po_none.run pins s1 σ H1 (fun o H2 => o = none ∧ H2 = H1) I1 ⟨rfl, rfl⟩) fun vl s2 ⟨l, H2, I2, pl, el, e2⟩ => ?_)
  subst el e2
  refine thn (po_none.run pins s2 σ H2 (fun o H3 => o = none ∧ H3 = H2) I2 ⟨rfl, rfl⟩) fun vu s3 ⟨u, H3, I3, pu, eu, e3⟩ => ?_
  subst eu e3
  refine thn (hst.run pins s3 σ H3 (fun o H4 => o = some (-1) ∧ H4 = H3) I3 ⟨1, rfl, -1, rfl, rfl, rfl⟩) fun vs s4 ⟨u, H4, I4, ps, eu, e4⟩ => ?_
  subst eu e4
  cases pl
  cases pu
  have I5 : Inv X pins σ H4 { s4 with heap := s4.heap.push { cls := .type "slice", data := .fields #[.none, .none, vs] } } := I4.kept (t' := s4.toks) fun b ob q => Heap.get?_push_of_some _ q
  obtain ⟨its, r, ht, hz⟩ := I5.tuple hx
  have hlen := r.length
  show wpAny (model X.prog X.w) X.A (subscriptTail e (.Slice none none (some (.UnaryOp .USub (.Constant (.int 1) k p1) p2)) p3) (.ref a) (.ref s4.heap.objs.size)) (EP X pins σ Q) X.xe { s4 with heap := s4.heap.push { cls := .type "slice", data := .fields #[.none, .none, vs] } }
  refine tail_any (ops := [.ref a, .ref s4.heap.objs.size]) ht.typeIs PyProof.Rows.slot_tuple_getitem.lookup ?_ (by with_unfolding_all rfl)
  refine getItem_tuple_rev ht (Heap.IsSliceOf.new _ .none .none vs) ps ?_ (by rw [List.size_toArray]; omega)
  exact laidT I5 r.reverse (by rw [List.length_reverse]; exact hz) (fun b ob q => Heap.get?_push_of_some _ q) (Heap.get?_push_size _ rfl) q
/-- .. of the reckoning -/
def revD : D → Sto → Ot D
  | .p (.tuple l), S => .ok (.p (.tuple l.reverse)) S
  | _, _ => .bad
theorem pda_reverse {K : PySem.W.Frag} {H : Hp} {O : Addr → Prop} : ∀ {xs : List V} {l : List PyData}, PdAll K H O xs l → PdAll K H O xs.reverse l.reverse
  | _, _, .nil => .nil
  | _, _, .cons h r => by
    rw [List.reverse_cons, List.reverse_cons]
    exact pda_append (pda_reverse r) (.cons h .nil)
theorem me_rev {e : Expr} {m : EM} {k : Nat} {p1 p2 p3 pos : Pos} (h : PE X e (te X.K X.mg W m)) : PE X (.Subscript e (.Slice none none (some (.UnaryOp .USub (.Constant (.int 1) k p1) p2)) p3) pos) (te X.K X.mg W (eUn revD m)) := by
  refine (pe_revT h).w fun σ H Q ⟨R, μ, env, S, r, h⟩ => ⟨R, μ, env, S, r, ?_⟩
  refine pg_mono (pg_bind h) fun μ1 H1 S1 d s1 rs1 q v dr => ?_
  unfold revD at q
  split at q
  · obtain ⟨a, xs, rfl, g1, g3⟩ := dr_tupE dr
    exact ⟨a, xs, rfl, g1.sqt, fun p o hp hd => new_tup q rs1 (pda_reverse g3) hp hd⟩
  · exact q.elim
end
/-! ### t == () -/
section
variable {X : Cx} {W : WX}
def nilD (neg : Bool) : D → D → Sto → Ot D
  | .p (.tuple l), .p (.tuple []), S => .ok (.p (.bool (if neg = true then !l.isEmpty else l.isEmpty))) S
  | _, _, _ => .bad
def rNilT (K : PySem.W.Frag) : R2 := fun x y H Q => ∃ a b xs, x = .ref a ∧ y = .ref b ∧ SqT K H a xs ∧ SqT K H b [] ∧ Q (.bl xs.isEmpty) H
theorem op_nilT (hu : X.A.units < cLine) : OpR X (compareOp .Eq) (rNilT X.K) := by
  intro pins s σ H x y v u Q I rx ry h
  obtain ⟨a, b, xs, rfl, rfl, ha, hb, q⟩ := h
  cases rx
  cases ry
  obtain ⟨its, r1, p1, _⟩ := I.tuple ha
  obtain ⟨its2, r2, p2, _⟩ := I.tuple hb
  obtain rfl : its2 = [] := by cases r2; rfl
  refine SeqAt.eq_tupleAt (show s.heap.IsTuple a its.toArray from p1) (show s.heap.IsTuple b ([] : List Value).toArray from p2) hu (e := fun _ => true) (fun j h1 h2 => absurd h2 (by simp)) ?_
  have e : (((List.range (min its.toArray.size ([] : List Value).toArray.size)).all fun _ => true) && its.toArray.size == ([] : List Value).toArray.size) = xs.isEmpty := by
    cases r1 with
    | nil => rfl
    | cons _ _ => simp
  rw [e]
  exact ⟨.bl xs.isEmpty, H, I, rfl, q⟩
theorem emp_eq {K : PySem.W.Frag} {H : Hp} {O : Addr → Prop} {xs : List V} {l : List PyData} (h : PdAll K H O xs l) : l.isEmpty = xs.isEmpty := by cases h <;> rfl
theorem nilD_ok {K : PySem.W.Frag} {mg : Str → Option Value} : Op2 K mg W (nilD false) (rNilT K) := by
  intro R μ H S σ env x y dx dy Q r h
  obtain ⟨y', ws, e1, hy, r1⟩ := drs_cons r.tm
  cases e1
  obtain ⟨x', ws', e2, hx, r2⟩ := drs_cons r1
  cases e2
  unfold nilD at h
  split at h
  · obtain ⟨a, xs, rfl, h1, h3⟩ := dr_tupE hx
    obtain ⟨b, ys, rfl, g1, g3⟩ := dr_tupE hy
    obtain rfl := pda_nil g3
    have e := emp_eq h3
    refine ⟨a, b, xs, rfl, rfl, h1.sqt, g1.sqt, ?_⟩
    rw [← e]
    exact po_ok h r.rs (.p (.bl _))
  · exact h.elim
theorem mt_nil {a b : Expr} {ma mb : EM} {pos : Pos} (hu : X.A.units < cLine) (ha : PE X a (te X.K X.mg W ma)) (hb : PE X b (te X.K X.mg W mb)) (hm : behindInMarks .Eq b = false) : PT X (.Compare a [.Eq] [b] pos) (tt X.K X.mg W (bOf (eOp (nilD false) ma mb))) := mt_cmp (op_nilT hu) nilD_ok ha hb hm
/-- a is b, as a test -/
theorem mt_is {a b : Expr} {ma mb : EM} {pos : Pos} (ha : PE X a (te X.K X.mg W ma)) (hb : PE X b (te X.K X.mg W mb)) (hm : behindInMarks .Is b = false) : PT X (.Compare a [.Is] [b] pos) (tt X.K X.mg W (bOf (eOp (isD false) ma mb))) := mt_cmp op_isD isD_ok ha hb hm
/-- {i: j}, two written ints, that nothing changes -/
def eD1 (i j : Int) : EM := fun _ S => .ok (.p (.dict [(.int i, .int j)])) S
theorem upd_twice {H : Hp} {p : Addr} {a b : HO} : upd (upd H p a) p b = upd H p b := by
  funext q
  by_cases h : q = p
  · rw [h, upd_same, upd_same]
  · rw [upd_ne h, upd_ne h, upd_ne h]
theorem me_d1 {i j : Int} {k1 k2 : Nat} {p1 p2 pos : Pos} : PE X (.Dict [some (.Constant (.int i) k1 p1)] [.Constant (.int j) k2 p2] pos) (te X.K X.mg W (eD1 i j)) := by
  refine (pe_disp (pps_cons (pe_int (i := i)) (pe_int (i := j)) pps_nil) rfl rfl (fun z => nomatch z) (by show 1 ≤ 15; omega)).w fun σ H Q ⟨R, μ, env, S, r, h⟩ => ?_
  intro p hp
  refine ⟨upd_same, [(.inl i, .int j)], rfl, by show 1 ≤ 15; omega, ?_⟩
  show Q (.ref p) (upd (upd H p (.dK [])) p (.dK (mergeK [] [(.inl i, .int j)])))
  rw [upd_twice, merge_nodup [(.inl i, .int j)] [] (by simp)]
  have s2 : Sp1 μ S.length H μ S.length (upd H p (.dK [(.inl i, .int j)])) := sp_new hp
  exact h μ _ s2 (rs_new hp r.rs) _ (.p (.dk1 upd_same (not_own r.rs hp) (.int j)))
end
end Mi

/-! Mi34 -/
set_option Elab.async false
set_option linter.all false
set_option maxRecDepth 100000
set_option maxHeartbeats 1000000
set_option autoImplicit false
namespace Mi
open PySem PySem.Spec PyProof.Rows L2 RZ

/-! ### zip of any number of tuples -/
structure ZI where
  it : Addr
  l : Addr
  xs : Array Value
structure ApN (z TI TO : Addr) (L : List ZI) : Prop where
  TIz : TI ≠ z
  TOz : TO ≠ z
  TITO : TI ≠ TO
  iz : ∀ p ∈ L, p.it ≠ z
  iTI : ∀ p ∈ L, p.it ≠ TI
  iTO : ∀ p ∈ L, p.it ≠ TO
  lz : ∀ p ∈ L, p.l ≠ z
  lTO : ∀ p ∈ L, p.l ≠ TO
  li : ∀ p ∈ L, ∀ q ∈ L, p.l ≠ q.it
  nd : ∀ (i j : Nat) (p q : ZI), L[i]? = some p → L[j]? = some q → i ≠ j → p.it ≠ q.it
abbrev tuA (us : Array Value) : Obj := { cls := .type "tuple", data := .seq us }
abbrev itsN (L : List ZI) : Array Value := (L.map fun p => Value.ref p.it).toArray
structure MidN (h0 h : Heap) (z TI TO : Addr) (L : List ZI) (f0 f1 : Value) (ks : Array Value) (i k : Nat) : Prop where
  sz : h.objs.size = h0.objs.size
  zz : h.get? z = some (zipO f0 f1 TI TO)
  ti : h.get? TI = some (tuA (itsN L))
  to : h.get? TO = some (tuA ks)
  its : ∀ j p, L[j]? = some p → h.IsTupleIter p.it p.l (if j < k then i + 1 else i)
  tups : ∀ p ∈ L, h.IsTuple p.l p.xs
  fr : ∀ c o, c ≠ z → c ≠ TO → (∀ p ∈ L, c ≠ p.it) → h0.get? c = some o → h.get? c = some o
section
variable {h0 h h' : Heap} {z TI TO : Addr} {L : List ZI} {f0 f1 g0 g1 : Value} {ks ks' : Array Value} {i k : Nat} {p : ZI}
theorem MidN.turn (D : ApN z TI TO L) (m : MidN h0 h z TI TO L f0 f1 ks i k) (hp : L[k]? = some p) (hi : h'.IsTupleIter p.it p.l (i + 1)) (hs : Heap.SameBut p.it h h') : MidN h0 h' z TI TO L f0 f1 ks i (k + 1) := by
  have mem : p ∈ L := List.mem_of_getElem? hp
  refine ⟨hs.1.trans m.sz, hs.extBut _ _ (D.iz p mem).symm m.zz, hs.extBut _ _ (D.iTI p mem).symm m.ti, hs.extBut _ _ (D.iTO p mem).symm m.to, fun j q hq => ?_, fun q hq => (m.tups q hq).extBut hs.extBut (D.li q hq p mem), fun c o c1 c2 c3 e => hs.extBut _ _ (c3 p mem) (m.fr c o c1 c2 c3 e)⟩
  by_cases e : j = k
  · subst e
    rw [hp] at hq
    cases hq
    rw [if_pos (Nat.lt_succ_self j)]
    exact hi
  · have a := (m.its j q hq).extBut hs.extBut (D.nd j k q p hq hp e)
    by_cases l : j < k
    · rw [if_pos l] at a
      rw [if_pos (Nat.lt_succ_of_lt l)]
      exact a
    · rw [if_neg l] at a
      rw [if_neg (by omega)]
      exact a
theorem MidN.write (D : ApN z TI TO L) (m : MidN h0 h z TI TO L f0 f1 ks i k) (hs : Heap.SameBut TO h h') (ht : h'.get? TO = some (tuA ks')) : MidN h0 h' z TI TO L f0 f1 ks' i k :=
  ⟨hs.1.trans m.sz, hs.extBut _ _ D.TOz.symm m.zz, hs.extBut _ _ D.TITO m.ti, ht, fun j q hq => (m.its j q hq).extBut hs.extBut (D.iTO q (List.mem_of_getElem? hq)), fun q hq => (m.tups q hq).extBut hs.extBut (D.lTO q hq), fun c o c1 c2 c3 e => hs.extBut _ _ c2 (m.fr c o c1 c2 c3 e)⟩
theorem MidN.zip (D : ApN z TI TO L) (m : MidN h0 h z TI TO L f0 f1 ks i k) (hs : Heap.SameBut z h h') (hz : h'.get? z = some (zipO g0 g1 TI TO)) : MidN h0 h' z TI TO L g0 g1 ks i k :=
  ⟨hs.1.trans m.sz, hz, hs.extBut _ _ D.TIz m.ti, hs.extBut _ _ D.TOz m.to, fun j q hq => (m.its j q hq).extBut hs.extBut (D.iz q (List.mem_of_getElem? hq)), fun q hq => (m.tups q hq).extBut hs.extBut (D.lz q hq), fun c o c1 c2 c3 e => hs.extBut _ _ c1 (m.fr c o c1 c2 c3 e)⟩
end
theorem wp_forIn_from {M : Model} {A : Around} {E : Value → Shared → Prop} {α β : Type} {Iv : Nat → β → Shared → Prop} {body : α → β → Sem (ForInStep β)} {l0 : List α} {Q : β → Shared → Prop}
    (hb : ∀ k a b s, l0[k]? = some a → Iv k b s → wpAny M A (body a b) (fun r s' => ∃ b', r = .yield b' ∧ Iv (k + 1) b' s') E s) :
    ∀ (l : List α) (k : Nat) (b : β) (s : Shared), (∀ j, l[j]? = l0[k + j]?) → Iv k b s → (∀ b s, Iv (k + l.length) b s → Q b s) → wpAny M A (forIn l b body) Q E s
  | [], k, b, s, _, i, q => by
    simp only [List.forIn_nil]
    exact wpAny_pure (q b s i)
  | a :: l, k, b, s, e, i, q => by
    simp only [List.forIn_cons]
    refine wpAny_bind (PySem.wpAny_mono (hb k a b s (by rw [show k = k + 0 from rfl, ← e 0]; rfl) i) ?_ ?_)
    · rintro r s' ⟨b', rfl, i'⟩
      refine wp_forIn_from hb l (k + 1) b' s' (fun j => ?_) i' fun b2 s2 i2 => q b2 s2 (by rw [List.length_cons, show k + (l.length + 1) = k + 1 + l.length by omega]; exact i2)
      have := e (j + 1)
      rw [show k + 1 + j = k + (j + 1) by omega, ← this]
      rfl
    · exact fun _ _ h => h
end Mi

/-! Mi35 -/
set_option Elab.async false
set_option linter.all false
set_option maxRecDepth 100000
set_option maxHeartbeats 1000000
set_option autoImplicit false
namespace Mi
open PySem PySem.Spec PyProof.Rows L2 RZ
section
variable {prog : Program} {w : World} {A : Around} {E : Value → Shared → Prop} {s : Shared} {z TI TO T S : Addr} {L : List ZI} {f1 : Value} {ks : Array Value} {i : Nat}
theorem itsN_ne {L : List ZI} (h : L ≠ []) : (itsN L).isEmpty = false := by
  cases L with
  | nil => exact absurd rfl h
  | cons _ _ => simp [itsN]
theorem itsN_get {j : Nat} {v : Value} (h : (itsN L).toList[j]? = some v) : ∃ p, L[j]? = some p ∧ v = .ref p.it := by
  simp only [itsN, List.getElem?_map] at h
  cases e : L[j]? with
  | none => rw [e] at h; cases h
  | some p => rw [e] at h; cases h; exact ⟨p, rfl, rfl⟩
theorem wpAny_setIf {TO : Addr} {ks : Array Value} {k : Nat} {x : Value} {Q : Unit → Shared → Prop} (hT : s.heap.get? TO = some (tuA ks)) (hz : ks.size ≤ sizeLine)
    (h : ∀ h', h'.get? TO = some (tuA (ks.setIfInBounds k x)) → Heap.SameBut TO s.heap h' → Q () { s with heap := h' }) : wpAny (model prog w) A (updateSeq TO (·.setIfInBounds k x)) Q E s := by
  refine wpAny_updateSeq hT rfl (h _ ?_ (Heap.SameBut.update ..)) hz (by rw [Array.size_setIfInBounds]; omega)
  rw [Heap.get?_update_self _ hT rfl]
  simp [Obj.mapSeq]
/-- the first turn -/
theorem zipN_first {Q : Value → Shared → Prop} (D : ApN z TI TO L) (hne : L ≠ []) (m : MidN s.heap s.heap z TI TO L .none (.bool false) ks i 0) (hk : ks.size = L.length) (hl : L.length ≤ sizeLine) (hx : ∀ p ∈ L, i < p.xs.size)
    (hQ : ∀ h' ys, MidN s.heap h' z TI TO L .ellipsis (.bool false) ys i L.length → ys.size = L.length → (∀ (j : Nat) (p : ZI), L[j]? = some p → ys[j]? = p.xs[i]?) →
      wpAny (model prog w) A (do let result ← newTuple ys.toList; Builtin.SmallTypes.ownedTupleHandOut (.ref z) result; ret result) (fun fin s' => ∃ v, fin = .done (.ret v) ∧ Q v s') E { s with heap := h' }) :
    wpAny (model prog w) A (Builtin.«zip.__next__» ⟨[.ref z], []⟩) (fun fin s' => ∃ v, fin = .done (.ret v) ∧ Q v s') E s := by
  show wpAny _ _ (field (.ref z) 2 >>= _) _ _ _
  refine wpAny_bind (wpAny_field m.zz rfl (x := .bool false) rfl ?_)
  show wpAny _ _ (field (.ref z) 3 >>= _) _ _ _
  refine wpAny_bind (wpAny_field m.zz rfl (x := .ref TI) rfl ?_)
  refine wpAny_bind (wpAny_seqItems m.ti rfl ?_)
  simp only [itsN_ne hne, Bool.false_eq_true, if_false]
  show wpAny _ _ (Builtin.SmallTypes.ownedTupleIsFree (.ref z) >>= _) _ _ _
  refine wpAny_bind ?_
  unfold Builtin.SmallTypes.ownedTupleIsFree
  refine wpAny_bind (wpAny_field m.zz rfl (x := .none) rfl (wpAny_pure ?_))
  simp only [if_true]
  refine wpAny_bind (wpAny_rule ?_)
  refine wpAny_bind (wpAny_field m.zz rfl (x := .ref TO) rfl ?_)
  refine wpAny_bind (wpAny_setField_rec m.zz (by simp) fun h₁ hz₁ hs₁ => ?_)
  have m1 : MidN s.heap h₁ z TI TO L .ellipsis (.bool false) ks i 0 := m.zip D hs₁ hz₁
  refine wpAny_bind ?_
  refine wp_forIn_from (Iv := fun k b s' => b = (Option.none, PUnit.unit) ∧ ∃ h' ys, s' = { s with heap := h' } ∧ MidN s.heap h' z TI TO L .ellipsis (.bool false) ys i k ∧ ys.size = L.length ∧ ∀ (j : Nat) (p : ZI), j < k → L[j]? = some p → ys[j]? = p.xs[i]?) (l0 := (itsN L).toList.zipIdx) (fun k a b s' e iv => ?_) _ 0 _ _ (fun j => by rw [Nat.zero_add]) ⟨rfl, h₁, ks, rfl, m1, hk, fun _ _ q => absurd q (Nat.not_lt_zero _)⟩ (fun b s' iv => ?_)
  · obtain ⟨rfl, h', ys, rfl, mi, hy, q⟩ := iv
    have ek : a.2 = k ∧ (itsN L).toList[k]? = some a.1 := by
      rw [List.getElem?_zipIdx] at e
      cases e2 : (itsN L).toList[k]? with
      | none => rw [e2] at e; cases e
      | some v => rw [e2] at e; cases e; exact ⟨Nat.zero_add _, rfl⟩
    obtain ⟨v, k'⟩ := a
    obtain ⟨rfl, e1⟩ := ek
    obtain ⟨p, hp, rfl⟩ := itsN_get e1
    have mem : p ∈ L := List.mem_of_getElem? hp
    have hlt := hx p mem
    have itp := mi.its _ _ hp
    rw [if_neg (Nat.lt_irrefl _)] at itp
    have e3 : p.xs[i]? = some p.xs[i] := Array.getElem?_eq_getElem hlt
    refine wpAny_bind (wpAny_onRaise ?_)
    show wpAny _ _ (Builtin.SmallTypes.nextOf (.ref p.it) >>= _) _ _ _
    refine wpAny_bind (nextOf_tuple_item itp (mi.tups p mem) e3 fun h₂ h1₂ hs₂ => wpAny_pure ?_)
    have m2 := mi.turn D hp h1₂ hs₂
    refine wpAny_bind (wpAny_seqItems m2.to rfl ?_)
    refine wpAny_bind (wpAny_setIf m2.to (by omega) fun h₃ hT hs₃ => ?_)
    refine wpAny_bind (wpAny_letGo (wpAny_pure ?_))
    refine ⟨_, rfl, rfl, h₃, _, rfl, m2.write D hs₃ hT, by rw [Array.size_setIfInBounds]; exact hy, fun j q' hj hq' => ?_⟩
    rw [Array.getElem?_setIfInBounds]
    by_cases ej : k' = j
    · subst ej
      rw [hp] at hq'
      cases hq'
      have : k' < ys.size := by rw [hy]; exact (List.getElem?_eq_some_iff.mp hp).1
      rw [if_pos rfl, if_pos this, e3]
    · rw [if_neg ej]
      exact q j q' (by omega) hq'
  · obtain ⟨rfl, h', ys, rfl, mi, hy, q⟩ := iv
    simp only [Nat.zero_add, List.length_zipIdx] at mi q
    have el : (itsN L).toList.length = L.length := by simp [itsN]
    rw [el] at mi q
    refine wpAny_bind (wpAny_seqItems mi.to rfl ?_)
    exact hQ h' ys mi hy fun j p hp => q j p (List.getElem?_eq_some_iff.mp hp).1 hp
theorem zipN_newTuple {ys : Array Value} {h : Heap} {Q : Value → Shared → Prop} (hz : ys.size ≤ sizeLine) (hq : (h.push (tuA ys)).get? h.objs.size = some (tuA ys) → Q (.ref h.objs.size) { s with heap := h.push (tuA ys) }) : wpAny (model prog w) A (newTuple ys.toList) Q E { s with heap := h } := by
  refine wpAny_newTuple ?_ (by simpa using hz)
  have e : ({ cls := .type "tuple", data := .seq ys.toList.toArray } : Obj) = tuA ys := by simp
  have e2 : h.push { cls := .type "tuple", data := .seq ys.toList.toArray } = h.push (tuA ys) := by rw [e]
  show Q (.ref h.objs.size) { s with heap := h.push { cls := .type "tuple", data := .seq ys.toList.toArray } }
  rw [e2]
  exact hq (Heap.get?_push_size _ rfl)
/-- a later turn: the tuple handed out first is alive -/
theorem zipN_held {Q : Value → Shared → Prop} (D : ApN z TI TO L) (hne : L ≠ []) (m : MidN s.heap s.heap z TI TO L (rawInt T) f1 ks i 0) (hT : ∃ o, s.heap.get? T = some o) (hf : f1 = .bool false ∨ f1 = .bool true) (hl : L.length ≤ sizeLine) (hx : ∀ p ∈ L, i < p.xs.size)
    (hQ : ∀ h' ys, MidN s.heap h' z TI TO L (rawInt T) (.bool true) ks i L.length → ys.size = L.length → (∀ (j : Nat) (p : ZI), L[j]? = some p → ys[j]? = p.xs[i]?) → (h'.push (tuA ys)).get? h'.objs.size = some (tuA ys) → Q (.ref h'.objs.size) { s with heap := h'.push (tuA ys) }) :
    wpAny (model prog w) A (Builtin.«zip.__next__» ⟨[.ref z], []⟩) (fun fin s' => ∃ v, fin = .done (.ret v) ∧ Q v s') E s := by
  show wpAny _ _ (field (.ref z) 2 >>= _) _ _ _
  refine wpAny_bind (wpAny_field m.zz rfl (x := .bool false) rfl ?_)
  show wpAny _ _ (field (.ref z) 3 >>= _) _ _ _
  refine wpAny_bind (wpAny_field m.zz rfl (x := .ref TI) rfl ?_)
  refine wpAny_bind (wpAny_seqItems m.ti rfl ?_)
  simp only [itsN_ne hne, Bool.false_eq_true, if_false]
  show wpAny _ _ (Builtin.SmallTypes.ownedTupleIsFree (.ref z) >>= _) _ _ _
  refine wpAny_bind (zipH_free m.zz hT hf fun h₁ hz₁ hs₁ => ?_)
  have m1 := m.zip D hs₁ hz₁
  simp only [Bool.false_eq_true, if_false]
  refine wpAny_bind ?_
  simp only [List.forIn_toArray]
  refine wp_forIn_from (Iv := fun k b s' => b.1 = Option.none ∧ ∃ h', s' = { s with heap := h' } ∧ MidN s.heap h' z TI TO L (rawInt T) (.bool true) ks i k ∧ b.2.size = k ∧ ∀ (j : Nat) (p : ZI), j < k → L[j]? = some p → b.2[j]? = p.xs[i]?) (l0 := L.map fun p => Value.ref p.it) (fun k a b s' e iv => ?_) _ 0 _ _ (fun j => by rw [Nat.zero_add]) ⟨rfl, h₁, rfl, m1, rfl, fun _ _ q => absurd q (Nat.not_lt_zero _)⟩ (fun b s' iv => ?_)
  · obtain ⟨hb, h', rfl, mi, hy, q⟩ := iv
    obtain ⟨b1, items⟩ := b
    have e1 : (itsN L).toList[k]? = some a := e
    obtain ⟨p, hp, rfl⟩ := itsN_get e1
    have mem : p ∈ L := List.mem_of_getElem? hp
    have hlt := hx p mem
    have itp := mi.its _ _ hp
    rw [if_neg (Nat.lt_irrefl _)] at itp
    have e3 : p.xs[i]? = some p.xs[i] := Array.getElem?_eq_getElem hlt
    refine wpAny_bind (wpAny_holding ?_)
    show wpAny _ _ (Builtin.SmallTypes.nextOf (.ref p.it) >>= fun v => pure (some v)) _ _ _
    refine wpAny_bind (nextOf_tuple_item itp (mi.tups p mem) e3 fun h₂ h1₂ hs₂ => wpAny_pure ?_)
    have m2 := mi.turn D hp h1₂ hs₂
    refine wpAny_pure ⟨_, rfl, rfl, h₂, rfl, m2, by show (items.push _).size = k + 1; rw [Array.size_push]; exact congrArg (· + 1) hy, fun j q' hj hq' => ?_⟩
    show (items.push _)[j]? = _
    have hy' : items.size = k := hy
    rw [Array.getElem?_push, hy']
    by_cases ej : j = k
    · subst ej
      rw [hp] at hq'
      cases hq'
      rw [if_pos rfl, e3]
    · rw [if_neg ej]
      exact q j q' (by omega) hq'
  · obtain ⟨hb, h', rfl, mi, hy, q⟩ := iv
    obtain ⟨b1, items⟩ := b
    obtain rfl : b1 = none := hb
    simp only [Nat.zero_add, List.length_map] at mi hy q
    have hy' : items.size = L.length := hy
    show wpAny _ _ (newTuple items.toList >>= _) _ _ _
    refine wpAny_bind (zipN_newTuple (by omega) fun at_ => wpAny_pure ⟨_, rfl, hQ h' items mi hy' (fun j p hp => q j p (List.getElem?_eq_some_iff.mp hp).1 hp) at_⟩)
/-- the end, of the first turn and of a later one -/
theorem zipN_end0 {Q : Fin → Shared → Prop} {p : ZI} {L' : List ZI} (hh : A.handled = none) (D : ApN z TI TO (p :: L')) (m : MidN s.heap s.heap z TI TO (p :: L') .none (.bool false) ks i 0) (hx : p.xs[i]? = none)
    (hE : ∀ h' e, (∀ c o, c ≠ z → c ≠ TO → (∀ q ∈ p :: L', c ≠ q.it) → s.heap.get? c = some o → h'.get? c = some o) → (∃ o, h'.get? e = some o ∧ o.cls = .type "StopIteration") → E (.ref e) { s with heap := h' }) :
    wpAny (model prog w) A (Builtin.«zip.__next__» ⟨[.ref z], []⟩) Q E s := by
  show wpAny _ _ (field (.ref z) 2 >>= _) _ _ _
  refine wpAny_bind (wpAny_field m.zz rfl (x := .bool false) rfl ?_)
  show wpAny _ _ (field (.ref z) 3 >>= _) _ _ _
  refine wpAny_bind (wpAny_field m.zz rfl (x := .ref TI) rfl ?_)
  refine wpAny_bind (wpAny_seqItems m.ti rfl ?_)
  simp only [itsN_ne (List.cons_ne_nil p L'), Bool.false_eq_true, if_false]
  show wpAny _ _ (Builtin.SmallTypes.ownedTupleIsFree (.ref z) >>= _) _ _ _
  refine wpAny_bind ?_
  unfold Builtin.SmallTypes.ownedTupleIsFree
  refine wpAny_bind (wpAny_field m.zz rfl (x := .none) rfl (wpAny_pure ?_))
  simp only [if_true]
  refine wpAny_bind (wpAny_rule ?_)
  refine wpAny_bind (wpAny_field m.zz rfl (x := .ref TO) rfl ?_)
  refine wpAny_bind (wpAny_setField_rec m.zz (by simp) fun h₁ hz₁ hs₁ => ?_)
  have m1 : MidN s.heap h₁ z TI TO (p :: L') .ellipsis (.bool false) ks i 0 := m.zip D hs₁ hz₁
  have mem : p ∈ p :: L' := List.mem_cons_self
  have itp := m1.its 0 p rfl
  rw [if_neg (Nat.lt_irrefl _)] at itp
  refine wpAny_bind ?_
  show wpAny _ _ (forIn ((Value.ref p.it, 0) :: (L'.map fun q => Value.ref q.it).zipIdx 1) _ _) _ _ _
  simp only [List.forIn_cons]
  refine wpAny_bind (wpAny_bind (wpAny_onRaise ?_))
  show wpAny _ _ (Builtin.SmallTypes.nextOf (.ref p.it) >>= _) _ _ _
  refine wpAny_bind (nextOf_tuple_end hh itp (m1.tups p mem) hx fun h₂ e hs₂ he => ?_)
  obtain ⟨oe, hoe, hce⟩ := he
  have hz₂ := hs₂ _ _ (D.iz p mem).symm m1.zz
  have hez : e ≠ z := fun x => by subst x; rw [hz₂] at hoe; cases hoe; simp at hce
  refine wpAny_setField_rec hz₂ (by simp) fun h₃ _ hs₃ => hE h₃ e (fun c o c1 c2 c3 x => hs₃.extBut _ _ c1 (hs₂ _ _ (c3 p mem) (m1.fr c o c1 c2 c3 x))) ⟨oe, hs₃.extBut _ _ hez hoe, hce⟩
theorem zipN_end1 {Q : Fin → Shared → Prop} {p : ZI} {L' : List ZI} (hh : A.handled = none) (D : ApN z TI TO (p :: L')) (m : MidN s.heap s.heap z TI TO (p :: L') (rawInt T) f1 ks i 0) (hT : ∃ o, s.heap.get? T = some o) (hf : f1 = .bool false ∨ f1 = .bool true) (hx : p.xs[i]? = none)
    (hE : ∀ h' e, (∀ c o, c ≠ z → c ≠ TO → (∀ q ∈ p :: L', c ≠ q.it) → s.heap.get? c = some o → h'.get? c = some o) → (∃ o, h'.get? e = some o ∧ o.cls = .type "StopIteration") → E (.ref e) { s with heap := h' }) :
    wpAny (model prog w) A (Builtin.«zip.__next__» ⟨[.ref z], []⟩) Q E s := by
  show wpAny _ _ (field (.ref z) 2 >>= _) _ _ _
  refine wpAny_bind (wpAny_field m.zz rfl (x := .bool false) rfl ?_)
  show wpAny _ _ (field (.ref z) 3 >>= _) _ _ _
  refine wpAny_bind (wpAny_field m.zz rfl (x := .ref TI) rfl ?_)
  refine wpAny_bind (wpAny_seqItems m.ti rfl ?_)
  simp only [itsN_ne (List.cons_ne_nil p L'), Bool.false_eq_true, if_false]
  show wpAny _ _ (Builtin.SmallTypes.ownedTupleIsFree (.ref z) >>= _) _ _ _
  refine wpAny_bind (zipH_free m.zz hT hf fun h₁ hz₁ hs₁ => ?_)
  have m1 := m.zip D hs₁ hz₁
  have mem : p ∈ p :: L' := List.mem_cons_self
  have itp := m1.its 0 p rfl
  rw [if_neg (Nat.lt_irrefl _)] at itp
  simp only [Bool.false_eq_true, if_false]
  refine wpAny_bind ?_
  simp only [List.forIn_toArray, List.map_cons, List.forIn_cons]
  refine wpAny_bind (wpAny_bind (wpAny_holding ?_))
  show wpAny _ _ (Builtin.SmallTypes.nextOf (.ref p.it) >>= fun v => pure (some v)) _ _ _
  exact wpAny_bind (nextOf_tuple_end hh itp (m1.tups p mem) hx fun h₂ e hs₂ he => hE h₂ e (fun c o c1 c2 c3 x => hs₂ _ _ (c3 p mem) (m1.fr c o c1 c2 c3 x)) he)
end
end Mi

/-! Mi36 -/
set_option Elab.async false
set_option linter.all false
set_option maxRecDepth 100000
set_option maxHeartbeats 1000000
set_option autoImplicit false
namespace Mi
open PySem PySem.Spec PyProof.Rows L2 RZ
section
variable {prog : Program} {w : World} {A : Around} {E : Value → Shared → Prop} {s : Shared} {z TI TO T S : Addr} {L : List ZI} {f0 f1 : Value} {ks : Array Value} {i k : Nat} {h0 h h' : Heap}
theorem MidN.done (m : MidN h0 h z TI TO L f0 f1 ks i L.length) : MidN h h z TI TO L f0 f1 ks (i + 1) 0 :=
  ⟨rfl, m.zz, m.ti, m.to, fun j p hp => by
    have a := m.its j p hp
    rw [if_pos (List.getElem?_eq_some_iff.mp hp).1] at a
    rw [if_neg (Nat.not_lt_zero _)]
    exact a, m.tups, fun _ _ _ _ _ e => e⟩
theorem MidN.grow (m : MidN h h z TI TO L f0 f1 ks i 0) (n : ∀ c, c = z ∨ c = TI ∨ c = TO ∨ (∃ p ∈ L, c = p.it ∨ c = p.l) → ∀ o, h.get? c = some o → h'.get? c = some o) : MidN h' h' z TI TO L f0 f1 ks i 0 :=
  ⟨rfl, n _ (.inl rfl) _ m.zz, n _ (.inr (.inl rfl)) _ m.ti, n _ (.inr (.inr (.inl rfl))) _ m.to, fun j p hp => (m.its j p hp).at fun o e => n _ (.inr (.inr (.inr ⟨p, List.mem_of_getElem? hp, .inl rfl⟩))) o e, fun p hp => (m.tups p hp).at fun o e => n _ (.inr (.inr (.inr ⟨p, hp, .inr rfl⟩))) o e, fun _ _ _ _ _ e => e⟩
theorem MidN.base (m : MidN h0 h z TI TO L f0 f1 ks i 0) : MidN h h z TI TO L f0 f1 ks i 0 := ⟨rfl, m.zz, m.ti, m.to, m.its, m.tups, fun _ _ _ _ _ e => e⟩
/-- a zip of tuples behind i turns -/
def ZAtN (h : Heap) (z TI TO S : Addr) (L : List ZI) (i : Nat) : Prop := ∃ f0 f1 ks, MidN h h z TI TO L f0 f1 ks i 0 ∧ ks.size = L.length ∧
  ((f0 = .none ∧ f1 = .bool false) ∨ ∃ T : Addr, f0 = rawInt T ∧ (∃ o, h.get? T = some o) ∧ T ≠ z ∧ T ≠ TO ∧ (∀ p ∈ L, T ≠ p.it) ∧ T ≠ S ∧ (f1 = .bool false ∨ f1 = .bool true))
theorem zAtN_next {Q : Option Value → Shared → Prop} (D : ApN z TI TO L) (hne : L ≠ []) (hl : L.length ≤ sizeLine) (st : ZAtN s.heap z TI TO S L i) (hx : ∀ p ∈ L, i < p.xs.size) (hS : S < s.heap.objs.size)
    (hQ : ∀ h' ys, ZAtN h' z TI TO S L (i + 1) → h'.get? s.heap.objs.size = some (tuA ys) → ys.size = L.length → (∀ (j : Nat) (p : ZI), L[j]? = some p → ys[j]? = p.xs[i]?) → h'.objs.size = s.heap.objs.size + 1 →
      (∀ c o, c ≠ z → c ≠ TO → (∀ p ∈ L, c ≠ p.it) → s.heap.get? c = some o → h'.get? c = some o) → Q (some (.ref s.heap.objs.size)) { s with heap := h' }) :
    wpAny (model prog w) A (pyNext (.ref z)) Q E s := by
  obtain ⟨f0, f1, ks, m, hk, hcase⟩ := st
  have hzt : s.TypeIs (.ref z) "zip" := ⟨_, m.zz, rfl⟩
  have zlt := Heap.lt_size m.zz
  have tlt := Heap.lt_size m.to
  have ilt : ∀ p ∈ L, p.it < s.heap.objs.size := fun p hp => by
    obtain ⟨j, hj, e⟩ := List.getElem_of_mem hp
    obtain ⟨_, e, _⟩ := m.its j p (by rw [List.getElem?_eq_getElem hj, e])
    exact Heap.lt_size e
  unfold pyNext
  refine wpAny_bind (wpAny_attempt (wpAny_callSpecial?_slot (name := Str.ofString "__next__") hzt F.slot_zip_next
      (wpAny_call_entry F.slot_zip_next hzt F.entry_zip_next ?_ (F.args_zip_next_1 _))))
  rcases hcase with ⟨rfl, rfl⟩ | ⟨T, rfl, hT, t1, t2, t3, t4, hf⟩
  · refine zipN_first (Q := fun v s' => wpAny _ _ (pure (some v)) Q E s') D hne m hk hl hx fun h' ys m' hy q => ?_
    have hsz : h'.objs.size = s.heap.objs.size := m'.sz
    refine wpAny_bind (zipN_newTuple (by omega) fun at_ => ?_)
    show wpAny _ _ (Builtin.SmallTypes.ownedTupleHandOut (.ref z) (.ref h'.objs.size) >>= _) _ _ _
    refine wpAny_bind ?_
    unfold Builtin.SmallTypes.ownedTupleHandOut
    have hz₆ : (h'.push (tuA ys)).get? z = _ := Heap.get?_push_of_some _ m'.zz
    refine wpAny_bind (wpAny_setField_rec hz₆ (by simp) fun h₇ hz₇ hs₇ => ?_)
    replace hz₇ : h₇.get? z = some (zipO (rawInt h'.objs.size) (.bool false) TI TO) := hz₇
    refine wpAny_setField_rec hz₇ (by simp) fun h₈ hz₈ hs₈ => ?_
    replace hz₈ : h₈.get? z = some (zipO (rawInt h'.objs.size) (.bool false) TI TO) := hz₈
    have up : ∀ c o, c ≠ z → h'.get? c = some o → h₈.get? c = some o := fun c o c1 e => hs₈.extBut _ _ c1 (hs₇.extBut _ _ c1 (Heap.get?_push_of_some _ e))
    have m7 : MidN (h'.push (tuA ys)) (h'.push (tuA ys)) z TI TO L .ellipsis (.bool false) ys (i + 1) 0 := m'.done.grow fun c _ o e => Heap.get?_push_of_some _ e
    have m8 := ((m7.zip D hs₇ hz₇).zip D hs₈ hz₈).base
    have hzlt : z < h'.objs.size := Heap.lt_size m'.zz
    have hT₈ : h₈.get? h'.objs.size = some (tuA ys) := hs₈.extBut _ _ (Nat.ne_of_gt hzlt) (hs₇.extBut _ _ (Nat.ne_of_gt hzlt) at_)
    have hz8 : h₈.objs.size = h'.objs.size + 1 := by rw [hs₈.1, hs₇.1, Heap.size_push]
    refine wpAny_pure ⟨_, rfl, wpAny_pure ?_⟩
    have fin := hQ h₈ ys ⟨_, _, _, m8, hy, .inr ⟨h'.objs.size, rfl, ⟨_, hT₈⟩, Nat.ne_of_gt hzlt, by rw [hsz]; exact Nat.ne_of_gt tlt, fun p hp => by rw [hsz]; exact Nat.ne_of_gt (ilt p hp), by rw [hsz]; exact Nat.ne_of_gt hS, .inl rfl⟩⟩
    rw [← hsz] at fin
    exact fin hT₈ hy q hz8 fun c o c1 c2 c3 e => up c o c1 (m'.fr c o c1 c2 c3 e)
  · refine zipN_held (Q := fun v s' => wpAny _ _ (pure (some v)) Q E s') D hne m hT hf hl hx fun h' ys m' hy q at_ => wpAny_pure ?_
    have hsz : h'.objs.size = s.heap.objs.size := m'.sz
    have m7 : MidN (h'.push (tuA ys)) (h'.push (tuA ys)) z TI TO L (rawInt T) (.bool true) ks (i + 1) 0 := m'.done.grow fun c _ o e => Heap.get?_push_of_some _ e
    obtain ⟨oT, hoT⟩ := hT
    have fin := hQ (h'.push (tuA ys)) ys ⟨_, _, _, m7, hk, .inr ⟨T, rfl, ⟨oT, Heap.get?_push_of_some _ (m'.fr _ _ t1 t2 t3 hoT)⟩, t1, t2, t3, t4, .inr rfl⟩⟩
    rw [← hsz] at fin
    exact fin at_ hy q (Heap.size_push ..) fun c o c1 c2 c3 e => Heap.get?_push_of_some _ (m'.fr c o c1 c2 c3 e)
theorem zAtN_end {Q : Option Value → Shared → Prop} {p : ZI} {L' : List ZI} (hh : A.handled = none) (D : ApN z TI TO (p :: L')) (st : ZAtN s.heap z TI TO S (p :: L') i) (hx : p.xs[i]? = none)
    (hQ : ∀ h', (∀ c o, c ≠ z → c ≠ TO → (∀ q ∈ p :: L', c ≠ q.it) → s.heap.get? c = some o → h'.get? c = some o) → Q none { s with heap := h' }) : wpAny (model prog w) A (pyNext (.ref z)) Q E s := by
  obtain ⟨f0, f1, ks, m, hk, hcase⟩ := st
  have hzt : s.TypeIs (.ref z) "zip" := ⟨_, m.zz, rfl⟩
  unfold pyNext
  refine wpAny_bind (wpAny_attempt (wpAny_callSpecial?_slot (name := Str.ofString "__next__") hzt F.slot_zip_next
      (wpAny_call_entry F.slot_zip_next hzt F.entry_zip_next ?_ (F.args_zip_next_1 _))))
  rcases hcase with ⟨rfl, rfl⟩ | ⟨T, rfl, hT, t1, t2, t3, t4, hf⟩
  · refine zipN_end0 hh D m hx fun h' e hk he => ?_
    obtain ⟨o, ho, hc⟩ := he
    exact wpAny_bind (wpAny_isInstance (T := "StopIteration") (b := true) ⟨o, ho, hc⟩ isSubtype_stop (wpAny_pure (hQ h' hk)))
  · refine zipN_end1 hh D m hT hf hx fun h' e hk he => ?_
    obtain ⟨o, ho, hc⟩ := he
    exact wpAny_bind (wpAny_isInstance (T := "StopIteration") (b := true) ⟨o, ho, hc⟩ isSubtype_stop (wpAny_pure (hQ h' hk)))

/-! the list that takes them all -/
/-- what the list holds: new tuples, each of its own -/
def PrsN (h : Heap) (S : Addr) (L : List ZI) (acc : Array Value) : Prop := ∀ (j : Nat) (v : Value), acc[j]? = some v → ∃ (T : Addr) (ys : Array Value), v = .ref T ∧ S < T ∧ ys.size = L.length ∧ (∀ (m : Nat) (p : ZI), L[m]? = some p → ys[m]? = p.xs[j]?) ∧ h.get? T = some (tuA ys) ∧ ∀ j', j' < j → ∀ T', acc[j']? = some (.ref T') → T' < T
theorem zAtN_frame (st : ZAtN h z TI TO S L i) (n : ∀ c, c = z ∨ c = TI ∨ c = TO ∨ (∃ p ∈ L, c = p.it ∨ c = p.l) → c ≠ S) (k : ∀ c o, h.get? c = some o → c ≠ S → h'.get? c = some o) : ZAtN h' z TI TO S L i := by
  obtain ⟨f0, f1, ks, m, hk, hcase⟩ := st
  refine ⟨f0, f1, ks, m.grow fun c hc o e => k c o e (n c hc), hk, ?_⟩
  rcases hcase with q | ⟨T, rfl, ⟨o, hT'⟩, t1, t2, t3, t4, r⟩
  · exact .inl q
  · exact .inr ⟨T, rfl, ⟨o, k _ _ hT' t4⟩, t1, t2, t3, t4, r⟩
theorem prsN_push {acc : Array Value} {ys : Array Value} (p : PrsN h S L acc) (k : ∀ c o, S < c → h.get? c = some o → h'.get? c = some o) (hT : S < T) (hy : ys.size = L.length) (hx : ∀ (m : Nat) (p : ZI), L[m]? = some p → ys[m]? = p.xs[acc.size]?) (hp : h'.get? T = some (tuA ys)) (hn : ∀ T', (∃ o, h.get? T' = some o) → T' < T) : PrsN h' S L (acc.push (.ref T)) := by
  intro j v hj
  rw [Array.getElem?_push] at hj
  split at hj
  · rename_i e
    cases hj
    subst e
    refine ⟨T, ys, rfl, hT, hy, hx, hp, fun j' hl T' q => ?_⟩
    rw [Array.getElem?_push, if_neg (Nat.ne_of_lt hl)] at q
    obtain ⟨T2, y2, e2, _, _, _, p2, _⟩ := p j' _ q
    cases e2
    exact hn _ ⟨_, p2⟩
  · obtain ⟨T2, y2, e2, l2, a2, b2, p2, q2⟩ := p j v hj
    refine ⟨T2, y2, e2, l2, a2, b2, k _ _ l2 p2, fun j' hl T' q => ?_⟩
    have lt : j < acc.size := (Array.getElem?_eq_some_iff.mp hj).1
    rw [Array.getElem?_push, if_neg (Nat.ne_of_lt (Nat.lt_trans hl lt))] at q
    exact q2 j' hl T' q
theorem zipN_loop {R : Result → Shared → Prop} {p0 : ZI} {L' : List ZI} {n : Nat} (hh : A.handled = none) (D : ApN z TI TO (p0 :: L')) (hll : (p0 :: L').length ≤ sizeLine) (hS : ∀ c, c = z ∨ c = TI ∨ c = TO ∨ (∃ p ∈ p0 :: L', c = p.it ∨ c = p.l) → c < S) (res : Value) (hl : ∀ p ∈ p0 :: L', p.xs.size = n) (hn : n ≤ sizeLine) :
    ∀ (k i : Nat) (s : Shared) (acc : Array Value) (c : Nat), n - i = k → i ≤ n → ZAtN s.heap z TI TO S (p0 :: L') i → s.heap.get? S = some (lsO acc c) → acc.size = i → PrsN s.heap S (p0 :: L') acc →
    (∀ h' acc' c', (∀ b o, b ≠ S → b ≠ z → b ≠ TO → (∀ p ∈ p0 :: L', b ≠ p.it) → s.heap.get? b = some o → h'.get? b = some o) → h'.get? S = some (lsO acc' c') → acc'.size = n → PrsN h' S (p0 :: L') acc' → R (.ok (.ret res)) { s with heap := h' }) →
    codeAny (model prog w) A (.builtin "list.extend.loop" ⟨[.ref S, .ref z, res], []⟩) R s := by
  have hS' : ∀ c, c = z ∨ c = TI ∨ c = TO ∨ (∃ p ∈ p0 :: L', c = p.it ∨ c = p.l) → c ≠ S := fun c q => Nat.ne_of_lt (hS c q)
  have sIt : ∀ p ∈ p0 :: L', S ≠ p.it := fun p hp => (hS' _ (.inr (.inr (.inr ⟨p, hp, .inl rfl⟩)))).symm
  have Sz : S ≠ z := (hS' z (.inl rfl)).symm
  have STO : S ≠ TO := (hS' TO (.inr (.inr (.inl rfl)))).symm
  intro k
  induction k with
  | zero =>
    intro i s acc c hk hi st hls ha hp hR
    obtain rfl : i = n := by omega
    refine codeAny_builtin F.entry_extend_loop ?_
    rw [Around.under_plainId F.plain_extend_loop _]
    show wpAny _ A.in1 (pyNext (.ref z) >>= _) _ _ s
    refine wpAny_bind (zAtN_end (S := S) hh D st (by rw [Array.getElem?_eq_none_iff, hl p0 List.mem_cons_self]; exact Nat.le_refl _) fun h' hk => wpAny_pure ?_)
    refine hR h' acc c (fun b o _ b1 b2 b3 e => hk b o b1 b2 b3 e) (hk S _ Sz STO sIt hls) ha fun j v hj => ?_
    obtain ⟨T, ys, e, l, a, b, p, q⟩ := hp j v hj
    have nz : ∀ c, (c = z ∨ c = TI ∨ c = TO ∨ (∃ p ∈ p0 :: L', c = p.it ∨ c = p.l)) → T ≠ c := fun c q => Nat.ne_of_gt (Nat.lt_trans (hS c q) l)
    exact ⟨T, ys, e, l, a, b, hk _ _ (nz _ (.inl rfl)) (nz _ (.inr (.inr (.inl rfl)))) (fun p hp => nz _ (.inr (.inr (.inr ⟨p, hp, .inl rfl⟩)))) p, q⟩
  | succ k ih =>
    intro i s acc c hk hi st hls ha hp hR
    have hlt : i < n := by omega
    have sl := Heap.lt_size hls
    refine codeAny_builtin F.entry_extend_loop ?_
    rw [Around.under_plainId F.plain_extend_loop _]
    show wpAny _ A.in1 (pyNext (.ref z) >>= _) _ _ s
    refine wpAny_bind (zAtN_next D (List.cons_ne_nil _ _) hll st (fun p hp => by rw [hl p hp]; exact hlt) sl fun h' ys st' hp' hy hx hsz hk' => ?_)
    have hls' := hk' S _ Sz STO sIt hls
    show wpAny _ A.in1 (updateSeq S (·.push (.ref s.heap.objs.size)) >>= _) _ _ _
    refine wpAny_bind ?_
    have ks : ∀ b o, b ≠ S → h'.get? b = some o → (h'.update S (Obj.mapSeq (·.push (.ref s.heap.objs.size)))).get? b = some o := fun b o hb e => (Heap.get?_update_other _ _ (Ne.symm hb)).trans e
    refine wpAny_updateSeq hls' rfl (wpAny_pure ⟨plainId_quiet F.plain_extend_loop _, ih (i + 1) _ (acc.push (.ref s.heap.objs.size)) _ (by omega) hlt (zAtN_frame st' hS' (fun b o e hb => ks b o hb e)) (Heap.get?_update_self _ hls' rfl) (by rw [Array.size_push, ha]) ?_ fun h'' acc' c' k2 q1 q2 q3 => ?_⟩)
      (by rw [ha]; omega) (by show (acc.push (Value.ref s.heap.objs.size)).size ≤ sizeLine + 1; rw [Array.size_push, ha]; omega)
    · subst ha
      refine prsN_push hp (fun c o lc e => ?_) sl hy hx (ks _ _ (Nat.ne_of_gt sl) hp') fun T' ⟨o, e⟩ => Heap.lt_size e
      have nz : ∀ d, (d = z ∨ d = TI ∨ d = TO ∨ (∃ p ∈ p0 :: L', d = p.it ∨ d = p.l)) → c ≠ d := fun d q => Nat.ne_of_gt (Nat.lt_trans (hS d q) lc)
      exact ks _ _ (Nat.ne_of_gt lc) (hk' _ _ (nz _ (.inl rfl)) (nz _ (.inr (.inr (.inl rfl)))) (fun p hp => nz _ (.inr (.inr (.inr ⟨p, hp, .inl rfl⟩)))) e)
    · exact hR h'' acc' c' (fun b o b0 b1 b2 b3 e => k2 b o b0 b1 b2 b3 (ks b o b0 (hk' b o b1 b2 b3 e))) q1 q2 q3
theorem list_of_zipN {Q : Value → Shared → Prop} {p0 : ZI} {L' : List ZI} {n : Nat} (hh : A.handled = none) (D : ApN z TI TO (p0 :: L')) (hll : (p0 :: L').length ≤ sizeLine) (m : MidN s.heap s.heap z TI TO (p0 :: L') .none (.bool false) ks 0 0) (hks : ks.size = (p0 :: L').length)
    (hl : ∀ p ∈ p0 :: L', p.xs.size = n) (hn : n ≤ sizeLine)
    (hQ : ∀ h' acc c, (∀ b o, b ≠ z → b ≠ TO → (∀ p ∈ p0 :: L', b ≠ p.it) → s.heap.get? b = some o → h'.get? b = some o) → h'.get? s.heap.objs.size = some (lsO acc c) → acc.size = n → PrsN h' s.heap.objs.size (p0 :: L') acc → Q (.ref s.heap.objs.size) { s with heap := h' }) :
    wpAny (model prog w) A (call (.type "list") [.ref z]) Q E s := by
  have below : ∀ c, c = z ∨ c = TI ∨ c = TO ∨ (∃ p ∈ p0 :: L', c = p.it ∨ c = p.l) → c < s.heap.objs.size := by
    rintro c (rfl | rfl | rfl | ⟨p, hp, rfl | rfl⟩)
    · exact Heap.lt_size m.zz
    · exact Heap.lt_size m.ti
    · exact Heap.lt_size m.to
    · obtain ⟨j, hj, e⟩ := List.getElem_of_mem hp
      obtain ⟨_, e, _⟩ := m.its j p (by rw [List.getElem?_eq_getElem hj, e])
      exact Heap.lt_size e
    · obtain ⟨_, e, _⟩ := m.tups p hp; exact Heap.lt_size e
  have hz := m.zz
  refine callType_codes (Q₁ := fun obj s₁ => obj = .ref s.heap.objs.size ∧ s₁ = { s with heap := s.heap.push (lsO #[] 0) }) F.called_list (F.typeCall_list_1 _) F.entry_list_init (code_list_new _ ⟨rfl, rfl⟩) fun obj s₁ q₁ => ?_
  obtain ⟨rfl, rfl⟩ := q₁
  have hls : (s.heap.push (lsO #[] 0)).get? s.heap.objs.size = some (lsO #[] 0) := Heap.get?_push_size _ rfl
  refine ⟨⟨_, hls, rfl⟩, F.args_list_init_2 _ _, ?_⟩
  show wpAny _ A.in1.in1 (do let old ← Builtin.List.listItems (.ref s.heap.objs.size); Builtin.List.listUpdate (.ref s.heap.objs.size) (fun _ => #[]); letGo old.toList.reverse; Builtin.List.listExtendWith (.ref s.heap.objs.size) (.ref z) .none) _ _ _
  refine wpAny_bind ?_
  unfold Builtin.List.listItems
  refine wpAny_bind (wpAny_seqItems hls rfl (wpAny_pure ?_))
  show wpAny _ A.in1.in1 (updateSeq s.heap.objs.size (fun _ => #[]) >>= fun _ => letGo (#[] : Array Value).toList.reverse >>= fun _ => Builtin.List.listExtendWith (.ref s.heap.objs.size) (.ref z) .none) _ _ _
  refine wpAny_bind (wpAny_updateSeq hls rfl ?_)
  have hls2 := Heap.get?_update_self (Obj.mapSeq (fun _ => (#[] : Array Value))) hls rfl
  refine wpAny_bind (wpAny_letGo ?_)
  have oth : ∀ b o, s.heap.get? b = some o → ((s.heap.push (lsO #[] 0)).update s.heap.objs.size (Obj.mapSeq (fun _ => (#[] : Array Value)))).get? b = some o :=
    fun b o e => (Heap.get?_update_other _ _ (Nat.ne_of_gt (Heap.lt_size e))).trans (Heap.get?_push_of_some _ e)
  have hz2 := oth _ _ hz
  have ht2 : ∀ t, (⟨(s.heap.push (lsO #[] 0)).update s.heap.objs.size (Obj.mapSeq (fun _ => (#[] : Array Value))), s.gens, s.drawn, t, s.os⟩ : Shared).TypeIs (.ref z) "zip" := fun _ => ⟨_, hz2, rfl⟩
  unfold Builtin.List.listExtendWith
  refine wpAny_bind (wpAny_typeOf (ht2 _) ?_)
  have e1 : Builtin.List.listSameRef (.ref s.heap.objs.size) (.ref z) = false := by simp [Builtin.List.listSameRef, Nat.ne_of_gt (below z (.inl rfl))]
  have e2 : (Value.type "zip" == Value.type "list") = false := by decide
  have e3 : (Value.type "zip" == Value.type "tuple") = false := by decide
  simp only [e1, e2, e3, Bool.or_false, Bool.false_eq_true, if_false]
  refine wpAny_bind (wpAny_pyIter_zip (f0 := .none) hz2 ?_)
  refine wpAny_bind (wpAny_holding ?_)
  unfold Builtin.List.listLengthHint
  refine wpAny_bind (wpAny_specialOf (ht2 _) zip_no_len ?_)
  show wpAny _ A.in1.in1 (specialOf (Value.ref z) (Str.ofString "__length_hint__") >>= _) _ _ _
  refine wpAny_bind (wpAny_specialOf (ht2 _) zip_no_hint ?_)
  refine wpAny_pure ?_
  show wpAny _ A.in1.in1 (rule "list.extend.makes-room" >>= fun _ => Builtin.List.listTouch (.ref s.heap.objs.size) >>= fun _ => again (.builtin "list.extend.loop" ⟨[.ref s.heap.objs.size, .ref z, .none], []⟩)) _ _ _
  refine wpAny_bind (wpAny_rule ?_)
  refine wpAny_bind ?_
  show wpAny _ A.in1.in1 (updateSeq s.heap.objs.size (·.push .none) >>= fun _ => updateSeq s.heap.objs.size (·.pop)) _ _ _
  refine wpAny_bind (wpAny_updateSeq hls2 rfl ?_)
  have hls3 := Heap.get?_update_self (Obj.mapSeq (·.push Value.none)) hls2 rfl
  refine wpAny_updateSeq (hz := by seq_fits) hls3 rfl ?_
  have hls4 := Heap.get?_update_self (Obj.mapSeq (·.pop)) hls3 rfl
  refine wpAny_pure ⟨plainId_quiet F.plain_extend_loop _, ?_⟩
  have ne : ∀ b o, s.heap.get? b = some o → b ≠ s.heap.objs.size := fun b o e => Nat.ne_of_lt (Heap.lt_size e)
  have oth2 : ∀ b o, s.heap.get? b = some o → ((((s.heap.push (lsO #[] 0)).update s.heap.objs.size (Obj.mapSeq (fun _ => (#[] : Array Value)))).update s.heap.objs.size (Obj.mapSeq (·.push Value.none))).update s.heap.objs.size (Obj.mapSeq (·.pop))).get? b = some o :=
    fun b o e => (Heap.get?_update_other _ _ (Ne.symm (ne b o e))).trans ((Heap.get?_update_other _ _ (Ne.symm (ne b o e))).trans (oth b o e))
  exact zipN_loop (A := A.in1) hh D hll below .none hl hn _ 0 _ #[] _ rfl (Nat.zero_le _) ⟨_, _, _, m.grow fun c _ o e => oth2 c o e, hks, .inl ⟨rfl, rfl⟩⟩ hls4 rfl (fun j v q => by simp at q)
    fun h' acc c k q1 q2 q3 => ⟨rfl, hQ h' acc c (fun b o b1 b2 b3 e => k b o (ne b o e) b1 b2 b3 (oth2 b o e)) q1 q2 q3⟩
end
end Mi

/-! Mi37 -/
set_option Elab.async false
set_option linter.all false
set_option maxRecDepth 100000
set_option maxHeartbeats 1000000
set_option autoImplicit false
namespace Mi
open PySem PySem.Spec PyProof.Rows L2 RZ
def itO (l : Addr) : Obj := { cls := .type "tuple_iterator", data := .fields #[.ref l, .int 0 0] }
def itH (h : Heap) : List Addr → Heap
  | [] => h
  | l :: ls => itH (h.push (itO l)) ls
theorem itH_size : ∀ (ls : List Addr) (h : Heap), (itH h ls).objs.size = h.objs.size + ls.length
  | [], _ => rfl
  | l :: ls, h => by rw [itH, itH_size ls, Heap.size_push, List.length_cons]; omega
theorem itH_old : ∀ (ls : List Addr) (h : Heap) (c : Addr) (o : Obj), h.get? c = some o → (itH h ls).get? c = some o
  | [], _, _, _, e => e
  | l :: ls, h, c, o, e => itH_old ls _ c o (Heap.get?_push_of_some _ e)
theorem itH_at : ∀ (ls : List Addr) (h : Heap) (j : Nat) (l : Addr), ls[j]? = some l → (itH h ls).get? (h.objs.size + j) = some (itO l)
  | l :: ls, h, 0, _, e => by
    cases e
    exact itH_old ls _ _ _ (Heap.get?_push_size _ rfl)
  | l :: ls, h, j + 1, l', e => by
    have q := itH_at ls (h.push (itO l)) j l' e
    rw [Heap.size_push] at q
    rw [show h.objs.size + (j + 1) = h.objs.size + 1 + j by omega]
    exact q
abbrev zItems (h : Heap) (n : Nat) : List Value := (List.range n).map fun j => Value.ref (h.objs.size + j)
abbrev zH1 (h : Heap) (ls : List Addr) : Heap := (itH h ls).push { cls := .type "tuple", data := .seq (zItems h ls.length).toArray }
abbrev zH2 (h : Heap) (ls : List Addr) : Heap := (zH1 h ls).push { cls := .type "tuple", data := .seq ((zItems h ls.length).map fun _ => Value.none).toArray }
abbrev zH3 (h : Heap) (ls : List Addr) : Heap := (zH2 h ls).push { cls := .type "zip", data := .fields #[.none, .bool false, .bool false, .ref (itH h ls).objs.size, .ref (zH1 h ls).objs.size] }
theorem itH_snoc : ∀ (ls : List Addr) (h : Heap) (l : Addr), itH h (ls ++ [l]) = (itH h ls).push (itO l)
  | [], _, _ => rfl
  | _ :: ls, h, l => itH_snoc ls _ l
section
variable {prog : Program} {w : World} {A : Around} {E : Value → Shared → Prop} {s : Shared}
theorem iterAll_ok {ls : List Addr} {Q : List Value → Shared → Prop} (hl : ∀ l ∈ ls, ∃ xs, s.heap.IsTuple l xs) (hq : Q (zItems s.heap ls.length) { s with heap := itH s.heap ls }) : wpAny (model prog w) A (Builtin.SmallTypes.iterAll (ls.map Value.ref)) Q E s := by
  unfold Builtin.SmallTypes.iterAll
  refine wpAny_bind ?_
  refine wp_forIn_from (Iv := fun k b s' => b = (zItems s.heap k).toArray ∧ s' = { s with heap := itH s.heap (ls.take k) }) (l0 := ls.map Value.ref) (fun k a b s' e iv => ?_) _ 0 _ _ (fun j => by rw [Nat.zero_add]) ⟨rfl, rfl⟩ (fun b s' iv => ?_)
  · obtain ⟨rfl, rfl⟩ := iv
    rw [List.getElem?_map] at e
    obtain ⟨l, el, rfl⟩ := Option.map_eq_some_iff.mp e
    obtain ⟨xs, hx⟩ := hl l (List.mem_of_getElem? el)
    have lt := (List.getElem?_eq_some_iff.mp el).1
    refine wpAny_bind (wpAny_holding (wpAny_pyIter_tuple (s := { s with heap := itH s.heap (ls.take k) }) (hx.at fun o e => itH_old _ _ _ o e) ?_))
    refine wpAny_pure ⟨_, rfl, ?_, ?_⟩
    · have sz : (itH s.heap (ls.take k)).objs.size = s.heap.objs.size + k := by rw [itH_size, List.length_take, Nat.min_eq_left (Nat.le_of_lt lt)]
      show (zItems s.heap k).toArray.push (Value.ref (itH s.heap (ls.take k)).objs.size) = _
      rw [sz, zItems, zItems, List.range_succ, List.map_append]
      simp
    · rw [List.take_succ, el, Option.toList_some, itH_snoc]
      rfl
  · obtain ⟨rfl, rfl⟩ := iv
    rw [Nat.zero_add, List.length_map, List.take_of_length_le (Nat.le_refl _)]
    exact wpAny_pure hq
end
theorem meets_zipN_new (ls : List Addr) (hl : ls.length ≤ sizeLine) :
    Meets (Builtin.«zip.__new__» ⟨.type "zip" :: ls.map Value.ref, []⟩) (fun _ R s => (∀ l ∈ ls, ∃ xs, s.heap.IsTuple l xs) ∧ R (.ok (.ret (.ref (zH2 s.heap ls).objs.size))) { s with heap := zH3 s.heap ls }) :=
  .of_wp fun prog w A R s h => by
    obtain ⟨hp, g, d, tk, os⟩ := s; obtain ⟨hl1, h⟩ := h
    have hsub := sub_zip
    unfold Builtin.«zip.__new__»
    refine wpAny_bind ?_
    unfold Builtin.SmallTypes.newClass
    dsimp only
    refine wpAny_bind (wpAny_of_eq (a := true) rfl ?_)
    simp only [Bool.not_true, Bool.false_eq_true, if_false]
    refine wpAny_bind (wpAny_of_eq hsub ?_)
    simp only [Bool.not_true, Bool.false_eq_true, if_false]
    refine wpAny_pure ?_
    show wpAny _ _ (Builtin.SmallTypes.iterAll (ls.map Value.ref) >>= _) _ _ _
    refine wpAny_bind (iterAll_ok hl1 ?_)
    have zl : (zItems hp ls.length).length = ls.length := by simp [zItems]
    refine wpAny_bind (wpAny_newTuple ?_ (by simpa [zl] using hl))
    refine wpAny_bind (wpAny_newTuple ?_ (by simpa [zl] using hl))
    refine wpAny_bind ?_
    unfold Builtin.SmallTypes.newRecord
    dsimp only
    refine wpAny_newObj_type ?_ (show (5 : Nat) ≤ sizeLine + 2 by rw [sizeLine_eq]; omega)
    exact wpAny_pure ⟨_, rfl, h⟩
/-- at most eight things -/
theorem zip_typeCall : ∀ (ls : List Addr), ls.length ≤ 8 → checkTypeCall "zip" ⟨ls.map Value.ref, []⟩ = pure ()
  | [], _ | [_], _ | [_, _], _ | [_, _, _], _ | [_, _, _, _], _ | [_, _, _, _, _], _ | [_, _, _, _, _, _], _ | [_, _, _, _, _, _, _], _ | [_, _, _, _, _, _, _, _], _ => by kernel_rfl
  | _ :: _ :: _ :: _ :: _ :: _ :: _ :: _ :: _ :: _, h => absurd h (by simp [List.length_cons])
theorem zip_newCall : ∀ (ls : List Addr), ls.length ≤ 8 → checkBuiltinCall "zip.__new__" ⟨.type "zip" :: ls.map Value.ref, []⟩ = pure ()
  | [], _ | [_], _ | [_, _], _ | [_, _, _], _ | [_, _, _, _], _ | [_, _, _, _, _], _ | [_, _, _, _, _, _], _ | [_, _, _, _, _, _, _], _ | [_, _, _, _, _, _, _, _], _ => by kernel_rfl
  | _ :: _ :: _ :: _ :: _ :: _ :: _ :: _ :: _ :: _, h => absurd h (by simp [List.length_cons])
theorem init_args (obj : Value) : ∀ (ls : List Addr), ls.length ≤ 8 → argsOk "object.__init__" ⟨obj :: ls.map Value.ref, []⟩
  | [], _ | [_], _ | [_, _], _ | [_, _, _], _ | [_, _, _, _], _ | [_, _, _, _, _], _ | [_, _, _, _, _, _], _ | [_, _, _, _, _, _, _], _ | [_, _, _, _, _, _, _, _], _ => by
    unfold argsOk
    rw [signature?_of (id := "object.__init__") (n := ['_', '_', 't', 'i', 'n', 'i', '_', '_']) (o := ['t', 'c', 'e', 'j', 'b', 'o']) (by kernel_rfl) F.owner_object]
    kernel_rfl
  | _ :: _ :: _ :: _ :: _ :: _ :: _ :: _ :: _ :: _, h => absurd h (by simp [List.length_cons])
section
variable {prog : Program} {w : World} {A : Around} {E : Value → Shared → Prop} {s : Shared}
/-- the iterators of a new zip -/
def ziL (n : Nat) : Nat → List (Addr × Array Value) → List ZI
  | _, [] => []
  | j, p :: r => ⟨n + j, p.1, p.2⟩ :: ziL n (j + 1) r
theorem ziL_get {n : Nat} : ∀ (r : List (Addr × Array Value)) (j k : Nat) (p : ZI), (ziL n j r)[k]? = some p → ∃ q, r[k]? = some q ∧ p = ⟨n + (j + k), q.1, q.2⟩
  | q :: r, j, 0, p, e => by
    cases e
    exact ⟨q, rfl, rfl⟩
  | q :: r, j, k + 1, p, e => by
    obtain ⟨q', e1, e2⟩ := ziL_get r (j + 1) k p e
    exact ⟨q', e1, by rw [e2, show j + 1 + k = j + (k + 1) by omega]⟩
theorem ziL_len {n : Nat} : ∀ (r : List (Addr × Array Value)) (j : Nat), (ziL n j r).length = r.length
  | [], _ => rfl
  | _ :: r, j => congrArg (· + 1) (ziL_len r (j + 1))
theorem ziL_its {n : Nat} : ∀ (r : List (Addr × Array Value)) (j : Nat), (ziL n j r).map (fun p => Value.ref p.it) = (List.range' j r.length).map fun k => Value.ref (n + k)
  | [], _ => rfl
  | p :: r, j => by
    rw [ziL, List.map_cons, ziL_its r (j + 1), List.length_cons, List.range'_succ, List.map_cons]
theorem call_zipN {rs : List (Addr × Array Value)} {Q : Value → Shared → Prop} (hn : rs.length ≤ 8) (ht : ∀ p ∈ rs, s.heap.IsTuple p.1 p.2)
    (hq : ∀ h' z TI TO, ApN z TI TO (ziL s.heap.objs.size 0 rs) → MidN h' h' z TI TO (ziL s.heap.objs.size 0 rs) .none (.bool false) (rs.map fun _ => Value.none).toArray 0 0 → h'.objs.size = s.heap.objs.size + rs.length + 3 → s.heap.objs.size ≤ z → s.heap.objs.size ≤ TO →
      (∀ c o, s.heap.get? c = some o → h'.get? c = some o) → Q (.ref z) { s with heap := h' }) :
    wpAny (model prog w) A (call (.type "zip") (rs.map fun p => Value.ref p.1)) Q E s := by
  have em : (rs.map fun p => Value.ref p.1) = (rs.map Prod.fst).map Value.ref := by rw [List.map_map]; rfl
  have ln : (rs.map Prod.fst).length = rs.length := List.length_map ..
  rw [em]
  refine callType_new F.called_zip (by decide) (zip_typeCall _ (by rw [ln]; exact hn)) (zip_newCall _ (by rw [ln]; exact hn)) (fun obj => init_args obj _ (by rw [ln]; exact hn)) F.entry_zip_new
    (meets_zipN_new (rs.map Prod.fst) (by rw [ln, sizeLine_eq]; omega)) ⟨fun l hl => ?_, ?_⟩
  · obtain ⟨p, hp, rfl⟩ := List.mem_map.mp hl
    exact ⟨_, ht p hp⟩
  generalize els : rs.map Prod.fst = ls at *
  have z0 : (itH s.heap ls).objs.size = s.heap.objs.size + rs.length := by rw [itH_size, ln]
  have z1 : (zH1 s.heap ls).objs.size = s.heap.objs.size + rs.length + 1 := by rw [Heap.size_push, z0]
  have z2 : (zH2 s.heap ls).objs.size = s.heap.objs.size + rs.length + 2 := by rw [Heap.size_push, z1]
  have z3 : (zH3 s.heap ls).objs.size = s.heap.objs.size + rs.length + 3 := by rw [Heap.size_push, z2]
  have g3 : (zH3 s.heap ls).get? (zH2 s.heap ls).objs.size = some _ := Heap.get?_push_size _ rfl
  have g2 : (zH3 s.heap ls).get? (zH1 s.heap ls).objs.size = some _ := Heap.get?_push_of_some _ (Heap.get?_push_size _ rfl)
  have g1 : (zH3 s.heap ls).get? (itH s.heap ls).objs.size = some _ := Heap.get?_push_of_some _ (Heap.get?_push_of_some _ (Heap.get?_push_size _ rfl))
  have old : ∀ c o, s.heap.get? c = some o → (zH3 s.heap ls).get? c = some o := fun c o e => Heap.get?_push_of_some _ (Heap.get?_push_of_some _ (Heap.get?_push_of_some _ (itH_old _ _ _ _ e)))
  show _ ∧ _
  refine ⟨⟨_, g3, rfl⟩, hq _ _ (itH s.heap ls).objs.size (zH1 s.heap ls).objs.size ?_ ?_ z3 (by rw [z2]; omega) (by rw [z1]; omega) old⟩
  · have itlt : ∀ p ∈ ziL s.heap.objs.size 0 rs, s.heap.objs.size ≤ p.it ∧ p.it < s.heap.objs.size + rs.length ∧ p.l < s.heap.objs.size := fun p hp => by
      obtain ⟨k, hk, e⟩ := List.getElem_of_mem hp
      obtain ⟨q, e1, e2⟩ := ziL_get rs 0 k p (by rw [List.getElem?_eq_getElem hk, e])
      obtain ⟨o, ho, _⟩ := ht q (List.mem_of_getElem? e1)
      have := (List.getElem?_eq_some_iff.mp e1).1
      rw [e2]
      refine ⟨?_, ?_, Heap.lt_size ho⟩
      · show s.heap.objs.size ≤ s.heap.objs.size + (0 + k); omega
      · show s.heap.objs.size + (0 + k) < _; omega
    rw [z0, z1, z2]
    refine ⟨?_, ?_, ?_, fun p hp => ?_, fun p hp => ?_, fun p hp => ?_, fun p hp => ?_, fun p hp => ?_, fun p hp q hq' => ?_, fun i j p q e1 e2 hij => ?_⟩
    · exact Nat.ne_of_lt (by omega)
    · exact Nat.ne_of_lt (by omega)
    · exact Nat.ne_of_lt (by omega)
    · exact Nat.ne_of_lt (Nat.lt_of_lt_of_le (itlt p hp).2.1 (by omega))
    · exact Nat.ne_of_lt (Nat.lt_of_lt_of_le (itlt p hp).2.1 (by omega))
    · exact Nat.ne_of_lt (Nat.lt_of_lt_of_le (itlt p hp).2.1 (by omega))
    · exact Nat.ne_of_lt (Nat.lt_of_lt_of_le (itlt p hp).2.2 (by omega))
    · exact Nat.ne_of_lt (Nat.lt_of_lt_of_le (itlt p hp).2.2 (by omega))
    · exact Nat.ne_of_lt (Nat.lt_of_lt_of_le (itlt p hp).2.2 (itlt q hq').1)
    · obtain ⟨_, _, rfl⟩ := ziL_get rs 0 i p e1
      obtain ⟨_, _, rfl⟩ := ziL_get rs 0 j q e2
      show s.heap.objs.size + (0 + i) ≠ s.heap.objs.size + (0 + j)
      omega
  · refine ⟨rfl, g3, ?_, ?_, fun j p hp => ?_, fun p hp => ?_, fun _ _ _ _ _ e => e⟩
    · have e : itsN (ziL s.heap.objs.size 0 rs) = (zItems s.heap ls.length).toArray := by
        rw [itsN, ziL_its, ln, zItems, ← List.range_eq_range']
      rw [e]
      exact g1
    · have e : (rs.map fun _ => Value.none).toArray = ((zItems s.heap ls.length).map fun _ => Value.none).toArray := by
        congr 1
        rw [zItems, List.map_map, ln]
        refine List.ext_getElem (by simp) fun i h1 h2 => by simp
      rw [e]
      exact g2
    · obtain ⟨q, e1, rfl⟩ := ziL_get rs 0 j p hp
      rw [if_neg (Nat.not_lt_zero _)]
      have e3 : ls[j]? = some q.1 := by rw [← els, List.getElem?_map, e1]; rfl
      have a := itH_at ls s.heap j q.1 e3
      show (zH3 s.heap ls).IsTupleIter (s.heap.objs.size + (0 + j)) q.1 0
      rw [Nat.zero_add]
      exact ⟨_, Heap.get?_push_of_some _ (Heap.get?_push_of_some _ (Heap.get?_push_of_some _ a)), rfl, rfl⟩
    · obtain ⟨k, hk, e⟩ := List.getElem_of_mem hp
      obtain ⟨q, e1, rfl⟩ := ziL_get rs 0 k p (by rw [List.getElem?_eq_getElem hk, e])
      exact (ht q (List.mem_of_getElem? e1)).at fun o e => old _ o e
end
end Mi

/-! Mi38 -/
set_option Elab.async false
set_option linter.all false
set_option maxRecDepth 100000
set_option maxHeartbeats 1000000
set_option autoImplicit false
namespace Mi
open PySem PySem.Spec PyProof.Rows L2 RZ StX
theorem vals_of_get : ∀ {vs : List V} {us : List Value}, vs.length = us.length → (∀ (m : Nat) (v : V), vs[m]? = some v → ∃ u, us[m]? = some u ∧ RelV v u) → Vals vs us
  | [], [], _, _ => .nil
  | v :: vs, u :: us, hl, h => by
    obtain ⟨u', e, r⟩ := h 0 v rfl
    cases e
    exact .cons r (vals_of_get (Nat.succ.inj hl) fun m v' e => h (m + 1) v' e)
/-- columns, new -/
def ColsH (H : Hp) (ts : List Addr) (as : List (Addr × List V)) (n : Nat) : Prop := ts.length = n ∧ ∀ (j : Nat) (t : Addr), ts[j]? = some t → ∃ vs, H t = some (.tup vs) ∧ vs.length = as.length ∧ ∀ (m : Nat) (p : Addr × List V), as[m]? = some p → vs[m]? = p.2[j]?
def kLZN (K : PySem.W.Frag) (vs : List V) (H1 : Hp) (Q : VK) : Prop := ∃ (as : List (Addr × List V)) (n : Nat), vs = as.map (fun p => V.ref p.1) ∧ as ≠ [] ∧ as.length ≤ 8 ∧ (∀ p ∈ as, SqT K H1 p.1 p.2) ∧ (∀ p ∈ as, p.2.length = n) ∧
  ∀ (S : Addr) (ts : List Addr) (H' : Hp), (∀ b o, H1 b = some o → H' b = some o) → H1 S = none → H' S = some (.lst (ts.map V.ref)) → ColsH H' ts as n → Q (.ref S) H'
section
variable {X : Cx} {pins : List (Addr × Obj)} {σ : L2.St} {H : Hp} {s : Shared} {Q : VK}
theorem rows_of (I : Inv X pins σ H s) : ∀ (as : List (Addr × List V)), (∀ p ∈ as, SqT X.K H p.1 p.2) → ∃ rs : List (Addr × Array Value), rs.length = as.length ∧ (rs.map fun q => Value.ref q.1) = as.map (fun p => Value.ref p.1) ∧
    (∀ q ∈ rs, s.heap.IsTuple q.1 q.2) ∧ ∀ (m : Nat) (p : Addr × List V), as[m]? = some p → ∃ its : List Value, rs[m]? = some (p.1, its.toArray) ∧ Vals p.2 its ∧ p.2.length ≤ sizeLine
  | [], _ => ⟨[], rfl, rfl, (fun _ h => by cases h), (fun m _ h => by cases m <;> cases h)⟩
  | p :: as, h => by
    obtain ⟨its, rv, tp, lz⟩ := I.tuple (h p List.mem_cons_self)
    obtain ⟨rs, e1, e2, e3, e4⟩ := rows_of I as fun q hq => h q (List.mem_cons_of_mem _ hq)
    refine ⟨(p.1, its.toArray) :: rs, by rw [List.length_cons, List.length_cons, e1], by rw [List.map_cons, List.map_cons, e2], fun q hq => ?_, fun m q hm => ?_⟩
    · rcases List.mem_cons.mp hq with rfl | hq
      · exact tp
      · exact e3 q hq
    · cases m with
      | zero => cases hm; exact ⟨its, rfl, rv, lz⟩
      | succ m => exact e4 m q hm
theorem zipN_then_list {as : List (Addr × List V)} {n : Nat} (hc : X.calm = true) (I : Inv X pins σ H s) (hne : as ≠ []) (h8 : as.length ≤ 8) (hx : ∀ p ∈ as, SqT X.K H p.1 p.2) (hl : ∀ p ∈ as, p.2.length = n) {P : Value → Shared → Prop}
    (hP : ∀ z s2, wpAny (model X.prog X.w) X.A (call (.type "list") [z]) (fun v s3 => ∃ (S : Addr) (ts : List Addr) (H' : Hp), v = .ref S ∧ Inv X pins σ H' s3 ∧ (∀ b o, H b = some o → H' b = some o) ∧ H S = none ∧ H' S = some (.lst (ts.map V.ref)) ∧ ColsH H' ts as n) X.xe s2 → P z s2) :
    wpAny (model X.prog X.w) X.A (call (.type "zip") (as.map fun p => Value.ref p.1)) P X.xe s := by
  obtain ⟨rs, r1, r2, r3, r4⟩ := rows_of I as hx
  have nl : n ≤ sizeLine := by
    cases as with
    | nil => exact absurd rfl hne
    | cons p as => obtain ⟨_, _, _, q⟩ := r4 0 p rfl; rw [← hl p List.mem_cons_self]; exact q
  rw [← r2]
  refine call_zipN (by rw [r1]; exact h8) r3 fun h' z TI TO D m hsz hz hTO hk => hP _ _ ?_
  cases hrs : rs with
  | nil => rw [hrs] at r1; exact absurd (List.eq_nil_of_length_eq_zero r1.symm) hne
  | cons q0 rs' =>
  have elen : (ziL s.heap.objs.size 0 rs).length = rs.length := ziL_len rs 0
  have eL : ziL s.heap.objs.size 0 rs = ⟨s.heap.objs.size + 0, q0.1, q0.2⟩ :: ziL s.heap.objs.size 1 rs' := by rw [hrs]; rfl
  have szn : ∀ p ∈ ziL s.heap.objs.size 0 rs, p.xs.size = n := fun p hp => by
    obtain ⟨k, hk, e⟩ := List.getElem_of_mem hp
    obtain ⟨q, e1, rfl⟩ := ziL_get rs 0 k p (by rw [List.getElem?_eq_getElem hk, e])
    have lt : k < as.length := by rw [← r1]; exact (List.getElem?_eq_some_iff.mp e1).1
    obtain ⟨its, e2, rv, _⟩ := r4 k as[k] (List.getElem?_eq_getElem lt)
    rw [e1] at e2
    cases e2
    show its.toArray.size = n
    rw [List.size_toArray, ← rv.length]
    exact hl _ (List.getElem_mem lt)
  have bigit : ∀ p ∈ ziL s.heap.objs.size 0 rs, s.heap.objs.size ≤ p.it := fun p hp => by
    obtain ⟨k, hk, e⟩ := List.getElem_of_mem hp
    obtain ⟨q, e1, rfl⟩ := ziL_get rs 0 k p (by rw [List.getElem?_eq_getElem hk, e])
    exact Nat.le_add_right _ _
  rw [eL] at D m szn bigit
  refine list_of_zipN (s := { s with heap := h' }) (n := n) (ks := (rs.map fun _ => Value.none).toArray) (I.ok.hd hc) D (by rw [← eL, elen, r1, sizeLine_eq]; omega) m (by rw [← eL, elen]; simp) szn nl fun h acc c k q1 q2 q3 => ?_
  show ∃ (S : Addr) (ts : List Addr) (H' : Hp), Value.ref h'.objs.size = .ref S ∧ _
  have q1' : h.get? h'.objs.size = some (lsO acc c) := q1
  have q3' : PrsN h h'.objs.size (ziL s.heap.objs.size 0 rs) acc := by rw [eL]; exact q3
  have hlt : s.heap.objs.size ≤ h'.objs.size := by rw [hsz]; omega
  have old : ∀ b o, s.heap.get? b = some o → h.get? b = some o := fun b o e => by
    have lt := Heap.lt_size e
    refine k b o (Nat.ne_of_lt (Nat.lt_of_lt_of_le lt hz)) (Nat.ne_of_lt (Nat.lt_of_lt_of_le lt hTO)) (fun p hp => Nat.ne_of_lt (Nat.lt_of_lt_of_le lt (bigit p hp))) (hk b o e)
  obtain ⟨ts, ets⟩ := val_refs (acc := acc.toList) rfl fun j v e => by
    obtain ⟨T, _, r, _⟩ := q3' j v (by simpa using e)
    exact ⟨T, r⟩
  have at_ : ∀ (j : Nat) (t : Addr), ts[j]? = some t → acc[j]? = some (.ref t) := fun j t e => by
    have : acc.toList[j]? = some (.ref t) := by rw [ets, List.getElem?_map, e]; rfl
    simpa using this
  have nd : ts.Nodup := up_nodup fun j j' t t' lt e e' => by
    obtain ⟨T, ys, z, _, _, _, _, q⟩ := q3' j _ (at_ j t e)
    cases z
    exact q j' lt t' (at_ j' t' e')
  have big : ∀ t ∈ ts, h'.objs.size < t := fun t ht => by
    obtain ⟨j, hj, e⟩ := List.getElem_of_mem ht
    obtain ⟨T, ys, z, l, _⟩ := q3' j _ (at_ j t (by rw [List.getElem?_eq_getElem hj, e]))
    cases z
    exact l
  have tl : ts.length = n := by
    have : acc.toList.length = ts.length := by rw [ets, List.length_map]
    have e2 : acc.size = n := q2
    simp at this
    omega
  obtain ⟨G0, g1, g2⟩ := restrict h fun c => !(c == h'.objs.size) && !(ts.contains c)
  have up0 : ∀ c o, s.heap.get? c = some o → G0.get? c = some o := fun c o e => by
    have lt := Nat.lt_of_lt_of_le (Heap.lt_size e) hlt
    rw [g1 c]
    · exact old c o e
    · have n1 : c ≠ h'.objs.size := Nat.ne_of_lt lt
      have n2 : c ∉ ts := fun z => absurd (Nat.lt_trans lt (big c z)) (Nat.lt_irrefl _)
      simp [n1, n2]
  have I0 : Inv X pins σ H { s with heap := G0 } := I.kept (t' := s.toks) up0
  have sub0 : ∀ c o, G0.get? c = some o → h.get? c = some o := fun c o e => by
    cases z : (!(c == h'.objs.size) && !(ts.contains c)) with
    | true => rw [g1 c z] at e; exact e
    | false => rw [g2 c z] at e; cases e
  have fresh : ∀ c, s.heap.objs.size ≤ c → H c = none := fun c q => I.hok.fresh q
  obtain ⟨L, eL2, pL⟩ := news_of (P := fun q => ∃ j, ts[j]? = some q.t ∧ q.vs.length = as.length ∧ (∀ (m : Nat) (p : Addr × List V), as[m]? = some p → q.vs[m]? = p.2[j]?) ∧ Vals q.vs q.us ∧ h.get? q.t = some { cls := .type "tuple", data := .seq q.us.toArray }) ts fun t ht => by
    obtain ⟨j, hj, e⟩ := List.getElem_of_mem ht
    have e1 : ts[j]? = some t := by rw [List.getElem?_eq_getElem hj, e]
    obtain ⟨T, ys, z, _, y1, y2, y3, _⟩ := q3' j _ (at_ j t e1)
    cases z
    have jn : j < n := by rw [← tl]; exact hj
    refine ⟨⟨t, as.map fun p => p.2.getD j .non, ys.toList⟩, rfl, j, e1, List.length_map .., fun m p hm => ?_, ?_, by simpa using y3⟩
    · show (as.map fun p => p.2.getD j V.non)[m]? = _
      have lt : j < p.2.length := by rw [hl p (List.mem_of_getElem? hm)]; exact jn
      rw [List.getElem?_map, hm, List.getElem?_eq_getElem lt]
      show some (p.2.getD j V.non) = _
      rw [List.getD_eq_getElem?_getD, List.getElem?_eq_getElem lt]
      rfl
    · refine vals_of_get ?_ fun m v hv => ?_
      · show (as.map _).length = ys.toList.length
        have := y1
        rw [elen, r1] at this
        rw [List.length_map, ← this]
        simp
      · have hv' : (as.map fun p => p.2.getD j V.non)[m]? = some v := hv
        rw [List.getElem?_map] at hv'
        obtain ⟨p, ep, rfl⟩ := Option.map_eq_some_iff.mp hv'
        have lt : j < p.2.length := by rw [hl p (List.mem_of_getElem? ep)]; exact jn
        obtain ⟨its, er, rv, _⟩ := r4 m p ep
        have ez : (ziL s.heap.objs.size 0 rs)[m]? = some ⟨s.heap.objs.size + (0 + m), p.1, its.toArray⟩ := by
          have ml : m < (ziL s.heap.objs.size 0 rs).length := by rw [elen, r1]; exact (List.getElem?_eq_some_iff.mp ep).1
          obtain ⟨q, e1, e2⟩ := ziL_get rs 0 m _ (List.getElem?_eq_getElem ml)
          rw [er] at e1
          cases e1
          rw [List.getElem?_eq_getElem ml, e2]
        have e5 := y2 m _ ez
        have x1 : p.2[j]? = some p.2[j] := List.getElem?_eq_getElem lt
        obtain ⟨w1, f1, rl⟩ := rv.get x1
        refine ⟨w1, ?_, ?_⟩
        · show ys.toList[m]? = some w1
          have : ys[m]? = its.toArray[j]? := e5
          simp only [List.getElem?_toArray, f1] at this
          simpa using this
        · show RelV (p.2.getD j V.non) w1
          rw [List.getD_eq_getElem?_getD, x1]
          exact rl
  obtain ⟨G1, H1, I1, sub1, k1, m1, n1⟩ := lay_all L H G0 I0 sub0 (fun q hq => by
    obtain ⟨j, e1, e2, e3, e4, e5⟩ := pL q hq
    have mem : q.t ∈ ts := List.mem_of_getElem? e1
    refine ⟨g2 _ (by simp [mem]), fresh _ (Nat.le_trans hlt (Nat.le_of_lt (big _ mem))), e4, by rw [e2, sizeLine_eq]; omega, e5⟩) (by rw [eL2]; exact nd)
  have nS : h'.objs.size ∉ ts := fun z => Nat.lt_irrefl _ (big _ z)
  obtain ⟨c1, c2⟩ := k1 h'.objs.size (by rw [eL2]; exact nS)
  have HS : H h'.objs.size = none := fresh _ hlt
  have I2 : Inv X pins σ (upd H1 h'.objs.size (.lst (ts.map V.ref))) { s with heap := h } := I1.laidN (t' := s.toks) sub1 (c2 (g2 _ (by simp))) (c1.trans HS)
    ⟨by rw [List.length_map, tl]; exact nl, ts.map Value.ref, c, vals_refs ts, by rw [← ets]; simpa using q1'⟩
  refine ⟨_, ts, _, rfl, I2, fun b o e => ?_, HS, upd_same, tl, fun j t e => ?_⟩
  · rw [upd_ne (ne_of_none e HS)]
    exact m1 b o e
  · have mem : t ∈ ts := List.mem_of_getElem? e
    rw [← eL2] at mem
    obtain ⟨q, hq, rfl⟩ := List.mem_map.mp mem
    obtain ⟨j2, e1, e2, e3, _⟩ := pL q hq
    have ej : j2 = j := nodup_ix nd e1 e
    subst ej
    refine ⟨q.vs, ?_, e2, e3⟩
    rw [upd_ne (fun z => nS (by rw [← z, ← eL2]; exact List.mem_map.mpr ⟨q, hq, rfl⟩)), n1 q hq]
variable {p q pos qpos sp_ : Pos} {e : Expr} {te : TE}
theorem pe_listZipN (hc : X.calm = true) (hml : X.mg "list" = none) (hmz : X.mg "zip" = none) (he : PE X e te) (hgl : Gl X "list" := by rfl) (hgz : Gl X "zip" := by rfl)
    (hst : starEach [.Starred e sp_] X.env = [(true, eval e X.env)] := by rfl)
    (hs2 : starEach [.Call (.Name "zip" q) [.Starred e sp_] [] qpos] X.env = (false, eval (.Call (.Name "zip" q) [.Starred e sp_] [] qpos) X.env) :: starEach [] X.env := by rfl) :
    PE X (.Call (.Name "list" p) [.Call (.Name "zip" q) [.Starred e sp_] [] qpos] [] pos) (fun σ H Q => te σ H fun y H1 => ∃ a ws, y = .ref a ∧ (SqT X.K H1 a ws ∨ SqL X.K H1 a ws) ∧ kLZN X.K ws H1 Q) := by
  refine ⟨fun pins s σ H Q I h => ?_⟩
  refine Call_ (ld_blt I hgl hml (u := .type "list") (by decide +kernel) (PyProof.Rows.callWith_type1 ?_ hs2 rfl))
  rw [hs2]
  show wpAny _ _ (spliced ((false, eval (.Call (.Name "zip" q) [.Starred e sp_] [] qpos) X.env) :: backTo pos (starEach [] X.env))) _ _ s
  refine Calls.spliced_cons ?_
  refine Call_ (ld_blt I hgz hmz PyProof.Rows.boot_zip ?_)
  rw [hst]
  refine PySem.W.ks_call (P := fun _ => True) rfl (fun _ _ => ⟨_, .inr (.inl rfl), keeper_zip⟩) (PySem.W.ks_lone (thn (he.run pins s σ H _ I h) fun v s1 ⟨y, H1, I1, ry, a, ws, ey, hws, q1⟩ => ?_))
  subst ey
  obtain rfl : v = Value.ref a := ry
  refine star_any I1 hws fun us s2 I2 rv => ⟨trivial, ?_⟩
  obtain ⟨as, n, rfl, hne, h8, hx, hl, k⟩ := q1
  have eu : us = as.map fun p => Value.ref p.1 := by
    clear hx hl k hne h8 hws
    induction as generalizing us with
    | nil => cases rv; rfl
    | cons p as ih =>
      cases rv with
      | cons ra rr =>
        cases ra
        rw [List.map_cons, ← ih _ rr]
  rw [eu]
  refine zipN_then_list hc I2 hne h8 hx hl fun z s3 hz => Calls.spliced_nil (thn hz fun v s4 ⟨S, ts, H', ev, I3, k1, k2, k3, k4⟩ => ⟨.ref S, H', I3, ev, k S ts H' k1 k2 k3 k4⟩)
end
end Mi

/-! Mi39 -/
set_option Elab.async false
set_option linter.all false
set_option maxRecDepth 100000
set_option maxHeartbeats 1000000
set_option autoImplicit false
namespace Mi
open PySem PySem.Spec PyProof.Rows L2

/-! ### list(zip(*rows)) of one to eight tuples of one length -/
def rowsP : List PyData → Option (List (List PyData))
  | [] => some []
  | .tuple l :: r => (rowsP r).map (l :: ·)
  | _ :: _ => none
def passP (l : List PyData) : PyData := .dict ((.bool true, .none) :: l.map fun d => (d, .none))
def colsP (n : Nat) (rows : List (List PyData)) : List PyData := (List.range n).map fun j => passP (rows.map fun r => r.getD j .none)
def zipNF : D → Sto → Ot D
  | .p (.list l), S => match rowsP l with
    | some (r :: rows) => if rows.length < 8 ∧ (∀ q ∈ rows, q.length = r.length) then .ok (.p (.list (colsP r.length (r :: rows)))) S else .bad
    | _ => .bad
  | _, _ => .bad
def eLZN (m : EM) : EM := fun env S => (m env S).bind zipNF
section
variable {K : PySem.W.Frag} {H : Hp} {O : Addr → Prop}
theorem pda_of_get : ∀ {xs : List V} {ds : List PyData}, xs.length = ds.length → (∀ (j : Nat) (x : V) (d : PyData), xs[j]? = some x → ds[j]? = some d → Pd K H O x d) → PdAll K H O xs ds
  | [], [], _, _ => .nil
  | x :: xs, d :: ds, hl, h => .cons (h 0 x d rfl rfl) (pda_of_get (Nat.succ.inj hl) fun j x d e1 e2 => h (j + 1) x d e1 e2)
theorem pda_at : ∀ {xs : List V} {ds : List PyData}, PdAll K H O xs ds → ∀ (j : Nat) (x : V) (d : PyData), xs[j]? = some x → ds[j]? = some d → Pd K H O x d
  | _, _, .cons h r, 0, _, _, e1, e2 => by
    cases e1
    cases e2
    exact h
  | _, _, .cons h r, j + 1, x, d, e1, e2 => pda_at r j x d e1 e2
theorem rowsP_as : ∀ {l : List PyData} {xs : List V} {rows : List (List PyData)}, PdAll K H O xs l → rowsP l = some rows → ∃ as : List (Addr × List V), xs = as.map (fun p => V.ref p.1) ∧ as.length = rows.length ∧ (∀ p ∈ as, SqT K H p.1 p.2) ∧
    ∀ (m : Nat) (p : Addr × List V), as[m]? = some p → ∃ r, rows[m]? = some r ∧ PdAll K H O p.2 r
  | [], _, _, .nil, e => by
    cases e
    exact ⟨[], rfl, rfl, (fun _ h => by cases h), (fun m _ h => by cases m <;> cases h)⟩
  | .tuple l :: r, _, _, .cons h t, e => by
    obtain ⟨rows, e1, rfl⟩ := Option.map_eq_some_iff.mp (show (rowsP r).map (l :: ·) = some _ from e)
    obtain ⟨as, z1, z2, z3, z4⟩ := rowsP_as t e1
    cases h with
    | @tup a ys ds hs hall =>
      refine ⟨(a, ys) :: as, by rw [z1]; rfl, by rw [List.length_cons, List.length_cons, z2], fun p hp => ?_, fun m p hm => ?_⟩
      · rcases List.mem_cons.mp hp with rfl | hp
        · exact hs.sqt
        · exact z3 p hp
      · cases m with
        | zero => cases hm; exact ⟨l, rfl, hall⟩
        | succ m => exact z4 m p hm
  | .none :: _, _, _, _, e => by cases e
  | .bool _ :: _, _, _, _, e => by cases e
  | .int _ :: _, _, _, _, e => by cases e
  | .str _ :: _, _, _, _, e => by cases e
  | .list _ :: _, _, _, _, e => by cases e
  | .dict _ :: _, _, _, _, e => by cases e
end
section
variable {X : Cx} {W : WX} {p q pos qpos sp_ : Pos} {e : Expr} {m : EM}
theorem me_listZipN (B : Bn X.mg) (hc : X.calm = true) (he : PE X e (te X.K X.mg W m)) (hgl : Gl X "list" := by rfl) (hgz : Gl X "zip" := by rfl) (hst : starEach [.Starred e sp_] X.env = [(true, eval e X.env)] := by rfl)
    (hs2 : starEach [.Call (.Name "zip" q) [.Starred e sp_] [] qpos] X.env = (false, eval (.Call (.Name "zip" q) [.Starred e sp_] [] qpos) X.env) :: starEach [] X.env := by rfl) :
    PE X (.Call (.Name "list" p) [.Call (.Name "zip" q) [.Starred e sp_] [] qpos] [] pos) (te X.K X.mg W (eLZN m)) := by
  refine (pe_listZipN hc B.list B.zip he hgl hgz hst hs2).w fun σ H Q ⟨R, μ, env, S, r, h⟩ => ⟨R, μ, env, S, r, ?_⟩
  refine po_mono (po_bind r h) fun v H1 ⟨μ1, S1, d1, r1, h1⟩ => ?_
  obtain ⟨v', ws, ev, dv, _⟩ := drs_cons r1.tm
  cases ev
  unfold zipNF at h1
  split at h1
  · rename_i l S'
    split at h1
    · rename_i r0 rows er
      split at h1
      · rename_i hl
        obtain ⟨h8, hlen⟩ := hl
        obtain ⟨a, xs, rfl, h2, _, h4⟩ := dr_lst dv
        obtain ⟨as, rfl, z2, z3, z4⟩ := rowsP_as h4 er
        have lenr : ∀ (k : Nat) (r : List PyData), (r0 :: rows)[k]? = some r → r.length = r0.length := fun k r e => by
          cases k with
          | zero => cases e; rfl
          | succ k => exact hlen r (List.mem_of_getElem? e)
        have hn : ∀ p ∈ as, p.2.length = r0.length := fun p hp => by
          obtain ⟨k, hk, e⟩ := List.getElem_of_mem hp
          obtain ⟨r, e1, pr⟩ := z4 k p (by rw [List.getElem?_eq_getElem hk, e])
          rw [pr.len]
          exact lenr k r e1
        refine ⟨a, _, rfl, .inr (SqL.of h2), as, r0.length, rfl, (fun z => by rw [z] at z2; cases z2), by rw [z2, List.length_cons]; omega, z3, hn, fun A ts H' k n1 e1 c => ?_⟩
        have sp : Sp1 μ1 S1.length H1 μ1 S1.length H' := sp_keep k
        refine h1 μ1 H' sp (rs_keep k r1.rs) _ (.p (.lst e1 (fun z => not_own r1.rs n1 z) (pda_of_get ?_ fun j x d ex ed => ?_)))
        · rw [List.length_map, colsP, List.length_map, List.length_range]
          exact c.1
        · rw [List.getElem?_map] at ex
          obtain ⟨t, et, rfl⟩ := Option.map_eq_some_iff.mp ex
          have jn : j < r0.length := by rw [← c.1]; exact (List.getElem?_eq_some_iff.mp et).1
          obtain ⟨vs, c1, c2, c3⟩ := c.2 j t et
          have ed' : d = passP ((r0 :: rows).map fun r => r.getD j .none) := by
            rw [colsP, List.getElem?_map, List.getElem?_range jn] at ed
            exact (Option.some.inj ed).symm
          rw [ed']
          refine .wkn c1 (pda_of_get (by rw [c2, z2, List.length_map]) fun m x d ex ed => ?_)
          rw [List.getElem?_map] at ed
          obtain ⟨r, er', rfl⟩ := Option.map_eq_some_iff.mp ed
          have ml : m < as.length := by rw [z2]; exact (List.getElem?_eq_some_iff.mp er').1
          have ea : as[m]? = some as[m] := List.getElem?_eq_getElem ml
          obtain ⟨r', e2, pr⟩ := z4 m _ ea
          rw [er'] at e2
          cases e2
          rw [c3 m _ ea] at ex
          have rl : j < r.length := by rw [lenr m r er']; exact jn
          have hd : r[j]? = some (r.getD j .none) := by rw [List.getD_eq_getElem?_getD, List.getElem?_eq_getElem rl]; rfl
          exact (pda_at pr j _ _ ex hd).mono (av_le sp.hp)
      · exact h1.elim
    · exact h1.elim
  · exact h1.elim
end
end Mi

/-! Mi40 -/
set_option Elab.async false
set_option linter.all false
set_option maxRecDepth 100000
set_option maxHeartbeats 1000000
set_option autoImplicit false
namespace Mi
open PySem PySem.Spec PyProof.Rows L2

/-! ### tuple(range(n)) -/
def rgP (n : Int) : List PyData := (List.range n.toNat).map fun i => .int (i : Nat)
def trD : D → Sto → Ot D
  | .p (.int n), S => if 0 ≤ n ∧ n ≤ 16777216 then .ok (.p (.tuple (rgP n))) S else .bad
  | _, _ => .bad
def eTR (m : EM) : EM := fun env S => (m env S).bind trD
section
variable {X : Cx} {W : WX} {e o i value : Expr} {m mo mk mv : EM} {pos pos' p q qpos : Pos}
def tTupRgF (te : L2.St → Hp → (Int → Int → Hp → Prop) → Prop) : TE := fun σ H Q => te σ H fun a b H1 => RgOk a b ∧ NwT H1 (rgV a b) Q
theorem pe_tupRgF {te : L2.St → Hp → (Int → Int → Hp → Prop) → Prop} (hc : X.calm = true) (hg : Gl X "tuple") (hm : X.mg "tuple" = none) (he : PRg X e te) (na : starEach [e] X.env = (false, eval e X.env) :: starEach [] X.env := by rfl) : PE X (.Call (.Name "tuple" p) [e] [] pos) (tTupRgF te) := by
  refine ⟨fun pins s σ H Q I h => ?_⟩
  refine Call_ (ld_blt I hg hm boot_tuple (PyProof.Rows.callWith_type1 (args_cons (thn (he pins s σ H _ I h) fun x s1 ⟨r, a, b, t, u, v, H1, ex, hr, I1, ok, q⟩ => args_nil ?_) na) na))
  subst ex
  obtain ⟨b1, b2, b3, b4, b5⟩ := ok
  refine call_tuple_range (n := (b - a).toNat) (I1.ok.hd hc) hr (small_one b1 b2 b3 b4) (rangeSize_nat a b) b5 fun h' tk acc hk hi => ?_
  have I2 : Inv X pins σ H1 { s1 with heap := h', toks := tk } := I1.kept hk
  have e1 : ({ cls := .type "tuple", data := .seq acc } : Obj) = tuO acc.toList := by simp [tuO]
  refine laidT (s := { s1 with heap := h', toks := tk }) (us := acc.toList) I2 (vals_rg hi) (by rw [rgV_length, sizeLine_eq]; omega) (fun c o e => Heap.get?_push_of_some _ e) ?_ q
  rw [← e1]
  exact Heap.get?_push_size _ rfl
theorem me_tupRg (B : Bn X.mg) (hc : X.calm = true) (he : PE X e (te X.K X.mg W m)) (hg : Gl X "range" := by rfl) (hgt : Gl X "tuple" := by rfl) (na : starEach [e] X.env = (false, eval e X.env) :: starEach [] X.env := by rfl)
    (nb : starEach [.Call (.Name "range" q) [e] [] qpos] X.env = (false, eval (.Call (.Name "range" q) [e] [] qpos) X.env) :: starEach [] X.env := by rfl) : PE X (.Call (.Name "tuple" p) [.Call (.Name "range" q) [e] [] qpos] [] pos) (te X.K X.mg W (eTR m)) := by
  refine (pe_tupRgF hc hgt B.tuple (prg_1 hg B.range he na) nb).w fun σ H Q ⟨R, μ, env, S, r, h⟩ => ⟨R, μ, env, S, r, ?_⟩
  refine po_mono (po_bind r h) fun x H1 ⟨μ1, S1, d1, r1, h1⟩ => ?_
  obtain ⟨x', ws, e1, hx, _⟩ := drs_cons r1.tm
  cases e1
  unfold trD at h1
  split at h1
  · rename_i n
    split at h1
    · rename_i hn
      refine ⟨n, dr_int hx, RgOk.of_le (Int.le_refl _) hn.2 (by omega) hn.1, fun t o ht hd => ?_⟩
      have e2 : rgV 0 n = (List.range n.toNat).map fun i => V.int ((i : Nat) : Int) := by
        unfold rgV
        rw [Int.sub_zero]
        exact List.map_congr_left fun i _ => by rw [Int.zero_add]
      rw [e2]
      have pd : PdAll X.K H1 (Av R μ1 S1.length) ((List.range n.toNat).map fun i => V.int ((i : Nat) : Int)) (rgP n) := by
        refine pda_of_get (by simp [rgP]) fun j x d ex ed => ?_
        rw [rgP, List.getElem?_map] at ed
        rw [List.getElem?_map] at ex
        obtain ⟨k, ek, rfl⟩ := Option.map_eq_some_iff.mp ex
        rw [ek] at ed
        cases ed
        exact .int _
      exact new_tup h1 r1.rs pd ht hd
    · exact h1.elim
  · exact h1.elim

/-! ### list(x), a cell of its own -/
def lstMF : FM
  | [.p (.list l)], S => .ok (.loc S.length) (S ++ [.lst (l.map .p)])
  | [.p (.tuple l)], S => .ok (.loc S.length) (S ++ [.lst (l.map .p)])
  | _, _ => .bad
theorem drs_p {K : PySem.W.Frag} {R : Addr → Prop} {H : Hp} {μ : Nat → Addr} {n : Nat} : ∀ {vs : List V} {ds : List PyData}, PdAll K H (Av R μ n) vs ds → DRs K R H μ n vs (ds.map .p)
  | _, _, .nil => .nil
  | _, _, .cons h r => .cons (.p h) (drs_p r)
theorem new_cellP {K : PySem.W.Frag} {R : Addr → Prop} {mg : Str → Option Value} {W : WX} {μ : Nat → Addr} {H : Hp} {S : Sto} {σ : L2.St} {env : Envr} {Q : VK} {xs : List V} {ds : List D} {p : Addr} (h : Po K mg W R μ S H σ env (.ok (.loc S.length) (S ++ [.lst ds])) Q) (rs : RS K R H μ S) (dr : DRs K R H μ S.length xs ds) (hp : H p = none) : Q (.ref p) (upd H p (.lst xs)) := by
  have hl : (S ++ [Cell.lst ds]).length = S.length + 1 := by simp
  have s2 : Sp1 μ S.length H (ext μ S.length p) (S ++ [Cell.lst ds]).length (upd H p (.lst xs)) := by rw [hl]; exact sp_cell hp
  have d2 : DR K R (upd H p (.lst xs)) (ext μ S.length p) (S ++ [Cell.lst ds]).length (.ref (ext μ S.length p S.length)) (.loc S.length) := .loc (by rw [hl]; exact Nat.lt_succ_self _)
  rw [ext_at] at d2
  exact h _ _ s2 (rs_cell hp rs ⟨xs, upd_same, dr.mono s2⟩ dr.lowb) _ d2
theorem lstMF_ok {K : PySem.W.Frag} {mg : Str → Option Value} {W : WX} : OpC K mg W lstMF (rLstOf K) := by
  intro R μ H S σ env vs ds Q rs dr h
  unfold lstMF at h
  split at h
  · obtain ⟨v, ws, rfl, d1, d2⟩ := drs_cons dr
    obtain rfl := drs_nil d2
    obtain ⟨a, xs, rfl, h1, h2, h3⟩ := dr_lst d1
    exact ⟨a, xs, rfl, .inl (SqL.of h1), fun l hl => new_cellP h rs (drs_p h3) hl⟩
  · obtain ⟨v, ws, rfl, d1, d2⟩ := drs_cons dr
    obtain rfl := drs_nil d2
    obtain ⟨a, xs, rfl, h1, h3⟩ := dr_tup d1
    exact ⟨a, xs, rfl, .inr h1, fun l hl => new_cellP h rs (drs_p h3) hl⟩
  · exact h.elim
theorem me_listM {aa : AM} (B : Bn X.mg) (ha : PA X [e] (ta X.K X.mg W aa)) (hg : Gl X "list" := by rfl) (he : starEach [e] X.env = (false, eval e X.env) :: starEach [] X.env := by rfl) : PE X (.Call (.Name "list" p) [e] [] pos) (te X.K X.mg W (eCall lstMF aa)) :=
  me_callTy call_lstOf lstMF_ok B.list (by decide +kernel) ha hg (by decide) (by decide) he rfl

/-! ### l[i] = v of a cell -/
def lpF : D → D → D → Sto → Option Sto
  | .loc i, .p (.int k), v, S => match cellL S i with
    | some xs => match ixN xs.length k with
      | some j => if v.lowb i = true then some (S.set i (.lst (xs.set j v))) else none
      | none => none
    | none => none
  | _, _, _, _ => none
def sLput (mo mk mv : EM) : SM := fun env S => (mv env S).then env fun v S1 => (mo env S1).then env fun o S2 => (mk env S2).then env fun y S3 => match lpF o y v S3 with
  | some S4 => .nx env S4
  | none => .bad
theorem drs_set {K : PySem.W.Frag} {R : Addr → Prop} {H : Hp} {μ : Nat → Addr} {n : Nat} {v : V} {d : D} (hv : DR K R H μ n v d) : ∀ {vs : List V} {ds : List D} (j : Nat), DRs K R H μ n vs ds → DRs K R H μ n (vs.set j v) (ds.set j d)
  | _, _, _, .nil => .nil
  | _, _, 0, .cons _ r => .cons hv r
  | _, _, j + 1, .cons h r => .cons h (drs_set hv j r)
theorem all_set {α : Type} (f : α → Bool) {x : α} (hx : f x = true) : ∀ (l : List α) (j : Nat), l.all f = true → (l.set j x).all f = true
  | [], _, h => h
  | a :: l, 0, h => by
    rw [List.all_cons, Bool.and_eq_true] at h
    rw [List.set_cons_zero, List.all_cons, hx, h.2]
    rfl
  | a :: l, j + 1, h => by
    rw [List.all_cons, Bool.and_eq_true] at h
    rw [List.set_cons_succ, List.all_cons, h.1, all_set f hx l j h.2]
    rfl
theorem ms_lput (ho : PE X o (te X.K X.mg W mo)) (hi : PE X i (te X.K X.mg W mk)) (hv : PE X value (te X.K X.mg W mv)) (hs : swapsWithSole [.Subscript o i pos'] value pos.line X.env = pure false := by rfl) (hw : swappedStores [.Subscript o i pos'] value X.env = pure none := by rfl)
    (h1 : (assignEach [.Subscript o i pos'] X.env).map (·.2) = [assign (.Subscript o i pos') X.env] := by rfl)
    (hb : ∀ v, assign (.Subscript o i pos') X.env v = (do
      let ov ← holding [v] (eval o X.env)
      let iv ← holding [v, ov] (eval i X.env)
      standAt pos'
      holding [v, ov, iv] (setItem ov iv v)
      release [v, ov, iv] []) := by intro _; rfl) :
    PS X (.Assign [.Subscript o i pos'] value pos) (ts X.K X.mg W (sLput mo mk mv)) := by
  refine (ps_asg hv (pg_sub ho hi set_list hb) hs hw h1).w fun D σ H ⟨R, μ, env, S, r, h⟩ => ⟨R, μ, env, S, r, ?_⟩
  refine pg_mono (pz_then h) fun μ1 H1 S1 dv s1 rs1 q1 v drv => ⟨R, μ1, env, S1, r.mono s1 rs1, ?_⟩
  refine pg_mono (pz_then q1) fun μ2 H2 S2 dx s2 rs2 q2 x drx => ⟨R, μ2, env, S2, (r.mono s1 rs1).mono s2 rs2, ?_⟩
  refine pg_mono (pz_then q2) fun μ3 H3 S3 dy s3 rs3 q3 y dry => ?_
  cases e : lpF dx dy dv S3 with
  | none => rw [e] at q3; exact q3.elim
  | some S4 =>
    rw [e] at q3
    unfold lpF at e
    split at e
    · rename_i i' k
      split at e
      · rename_i xs e3
        split at e
        · rename_i j ej
          split at e
          · rename_i hz
            cases e
            obtain ⟨ex, hj⟩ := dr_loc (drx.mono s3)
            obtain ⟨ys, g1, g2⟩ := rs3.cell _ _ (cellL_some e3)
            have dv3 := (drv.mono s2).mono s3
            have sp : Sp1 μ3 S3.length H3 μ3 S3.length (upd H3 (μ3 i') (.lst (ys.set j v))) := le_cell hj (fun ob u q => by rw [g1] at q; cases q) (fun u q => by rw [g1] at q; cases q)
            have sp4 : Sp1 μ3 S3.length H3 μ3 (S3.set i' (.lst (xs.set j dv))).length (upd H3 (μ3 i') (.lst (ys.set j v))) := by rw [List.length_set]; exact sp
            have rs4 := rs_set (c' := Cell.lst (xs.set j dv)) rs3 (cellL_some e3) sp ⟨_, upd_same, (drs_set dv3 j g2).mono sp⟩ (show (xs.set j dv).all (Mi.D.lowb i') = true from all_set _ hz xs j (rs3.low _ _ (cellL_some e3)))
            have r4 : RL X.K R μ3 _ _ σ env [] [] := (((r.mono s1 rs1).mono s2 rs2).mono s3 rs3).mono sp4 rs4
            exact ⟨_, ys, k, j, ex, dr_int dry, g1, by rw [g2.len]; exact ej, q3 μ3 _ σ sp4 r4⟩
          · cases e
        · cases e
      · cases e
    · cases e
end
end Mi

/-! Mi41 -/
set_option Elab.async false
set_option linter.all false
set_option maxRecDepth 100000
set_option maxHeartbeats 1000000
set_option autoImplicit false
namespace Mi
open PySem PySem.Spec PyProof.Rows L2

/-! ### enumerate over a list's cell, which stays the same while it is walked -/
theorem wk_enM {K : PySem.W.Frag} {R : Addr → Prop} {μ : Nat → Addr} {n : Nat} {H : Hp} {i : Nat} {xs : List D} {l : List PyData} (hi : i < n) (hl : plains xs = some l) : Wk K R μ n H (numD 0 l) (sameC i xs) (Ite K (μ i)) := by
  have at2 : ∀ {R2 : Addr → Prop} {μ2 : Nat → Addr} {S2 : Sto} {H2 : Hp}, Sp1 μ n H μ2 S2.length H2 → RS K R2 H2 μ2 S2 → sameC i xs S2 = true → ∃ vs, H2 (μ i) = some (.lst vs) ∧ PdAll K H2 (Av R2 μ2 S2.length) vs l := fun {R2 μ2 S2 H2} s rs c => by
    obtain ⟨vs, h1, h2⟩ := rs.cell i _ (sameC_iff.mp c)
    rw [s.same i hi] at h1
    exact ⟨vs, h1, plains_pd h2 hl⟩
  refine ⟨⟨fun H2 => ∃ vs, H2 (μ i) = some (.lst vs) ∧ vs.length = l.length, fun k H2 v H3 => (∃ T x, v = .ref T ∧ H2 T = none ∧ H3 = upd H2 T (.tup [.int (k : Nat), x]) ∧ ∃ vs, H2 (μ i) = some (.lst vs) ∧ vs[k]? = some x), ?_, fun R2 μ2 S2 H2 _ s rs c => ?_, fun R2 k d μ2 S2 H2 x H3 hR hk s rs c y => ?_⟩⟩
  · rw [numD_len]
    exact ⟨fun k H2 hk ⟨vs, h1, h2⟩ => ⟨vs, vs[k], SqL.of h1, by simp⟩, fun H2 ⟨vs, h1, h2⟩ => ⟨vs, SqL.of h1, Nat.le_of_eq h2⟩, fun k H2 v H3 _ ⟨vs, h1, h2⟩ ⟨T, x, y1, y2, y3, y4⟩ => ⟨T, x, y1, y2, y3, vs, h1, y4 vs (SqL.of h1)⟩⟩
  · obtain ⟨vs, h1, h2⟩ := at2 s rs c
    exact ⟨vs, h1, h2.len⟩
  · obtain ⟨T, v2, rfl, hT, rfl, vs, h1, h2⟩ := y
    obtain ⟨vs', g1, g2⟩ := at2 s rs c
    rw [h1] at g1
    cases g1
    rw [numD_get, Nat.zero_add] at hk
    cases e : l[k]? with
    | none => rw [e] at hk; cases hk
    | some d0 =>
      rw [e] at hk
      cases hk
      obtain ⟨v, f1, f2⟩ := pda_get g2 e
      rw [h2] at f1
      cases f1
      have sn : Sp1 μ2 S2.length H2 μ2 S2.length (upd H2 T (.tup [.int (k : Nat), v2])) := sp_new hT
      exact ⟨sn, rs_new hT rs, .p (.wk upd_same (.int _) (f2.mono (av_le sn.hp)))⟩
noncomputable def enM : List D → Sto → Ot (List D × (Sto → Bool))
  | [.loc i], S => match cellL S i with
    | some xs => match plains xs with
      | some l => .ok (numD 0 l, sameC i xs) S
      | none => .bad
    | none => .bad
  | _, _ => .bad
noncomputable def iEnM (a : AM) : IM := fun env S => (a env S).bind enM
theorem mi_enumM {X : Cx} {W : WX} {e : Expr} {aa : AM} {p pos tpos : Pos} {elts : List Expr} {kk : Nat} (hm : X.mg "enumerate" = none) (ha : PA X [e] (ta X.K X.mg W aa)) (hg : Gl X "enumerate" := by rfl) (hs : starEach [e] X.env = [(false, eval e X.env)] := by rfl) :
    MI X W (.Tuple elts kk tpos) (.Call (.Name "enumerate" p) [e] [] pos) (iEnM aa) := by
  refine ⟨_, pi_enum hg hm ha hs, fun σ H Rr ⟨R, μ, env, S, r, h⟩ => ⟨R, μ, env, S, r, ?_⟩⟩
  refine pg_mono (pg_bind h) fun μ1 H1 S1 ds s1 rs1 q vs dr => ?_
  unfold enM at q
  split at q
  · obtain ⟨v, ws, rfl, d1, d2⟩ := drs_cons dr
    obtain rfl := drs_nil d2
    split at q
    · rename_i xs e1
      split at q
      · rename_i l e2
        obtain ⟨rfl, hi⟩ := dr_loc d1
        obtain ⟨ys, g1, g2⟩ := rs1.cell _ _ (cellL_some e1)
        exact ⟨_, ys, rfl, SqL.of g1, pg_ok q rs1 _ (wk_enM hi e2)⟩
      · exact q.elim
    · exact q.elim
  · exact q.elim
end Mi

/-! Mi42 -/
set_option Elab.async false
set_option linter.all false
set_option maxRecDepth 100000
set_option maxHeartbeats 1000000
set_option autoImplicit false
namespace Mi
open PySem PySem.Spec PyProof.Rows L2

/-! ### a list's cell compared with a list, and with a list behind it -/
def eqC (neg : Bool) : D → D → Sto → Ot D
  | .loc i, .p b, S => match (cellL S i).bind plains with
    | some l => eqD neg (.p (.list l)) (.p b) S
    | none => .bad
  | _, _, _ => .bad
def addC : D → D → Sto → Ot D
  | .loc i, .p (.list b), S => match (cellL S i).bind plains with
    | some l => if l.length + b.length ≤ sizeLine then .ok (.loc S.length) (S ++ [.lst ((l ++ b).map .p)]) else .bad
    | none => .bad
  | _, _, _ => .bad
theorem cell_plain {K : PySem.W.Frag} {R : Addr → Prop} {H : Hp} {μ : Nat → Addr} {S : Sto} {i : Nat} {l : List PyData} (rs : RS K R H μ S) (e : (cellL S i).bind plains = some l) : ∃ ys, H (μ i) = some (.lst ys) ∧ PdAll K H (Av R μ S.length) ys l := by
  cases e1 : cellL S i with
  | none => rw [e1] at e; cases e
  | some xs =>
    rw [e1] at e
    obtain ⟨ys, g1, g2⟩ := rs.cell _ _ (cellL_some e1)
    exact ⟨ys, g1, plains_pd g2 e⟩
theorem eqC_ok {K : PySem.W.Frag} {mg : Str → Option Value} {W : WX} {neg : Bool} : Op2 K mg W (eqC neg) (rEqN K neg) := by
  intro R μ H S σ env x y dx dy Q r h
  obtain ⟨y', ws, e1, hy, r1⟩ := drs_cons r.tm
  cases e1
  obtain ⟨x', ws', e2, hx, r2⟩ := drs_cons r1
  cases e2
  unfold eqC at h
  split at h
  · split at h
    · rename_i l e
      obtain ⟨rfl, hi⟩ := dr_loc hx
      obtain ⟨ys, g1, g2⟩ := cell_plain r.rs e
      unfold eqD at h
      dsimp only at h
      split at h
      · rename_i hz
        cases hy with
        | p py =>
          have lay := shaped_lay hz.1
          have p1 : Dp K H (.ref _) (.list l) := .lst (SqL.of g1) (pda_dp (O := Av R μ S.length) l _ (by simpa [PyData.canLay0] using lay) g2)
          have p2 := pd_dp _ _ (shaped_lay hz.2) py
          unfold rEqN
          cases neg with
          | true => rw [if_pos rfl] at h ⊢; exact ⟨_, _, p1, p2, hz.1, hz.2, po_ok h r.rs (.p (.bl _))⟩
          | false => rw [if_neg Bool.false_ne_true] at h ⊢; exact ⟨_, _, p1, p2, hz.1, hz.2, po_ok h r.rs (.p (.bl _))⟩
      · exact h.elim
    · exact h.elim
  · exact h.elim
theorem addC_ok {K : PySem.W.Frag} {mg : Str → Option Value} {W : WX} : Op2 K mg W addC (rAddD K) := by
  intro R μ H S σ env x y dx dy Q r h
  obtain ⟨y', ws, e1, hy, r1⟩ := drs_cons r.tm
  cases e1
  obtain ⟨x', ws', e2, hx, r2⟩ := drs_cons r1
  cases e2
  unfold addC at h
  split at h
  · split at h
    · rename_i l e
      split at h
      · rename_i hz
        obtain ⟨rfl, hi⟩ := dr_loc hx
        obtain ⟨xs, f1, f2⟩ := cell_plain r.rs e
        obtain ⟨b, ys, rfl, g1, g2, g3⟩ := dr_lst hy
        exact .inr (.inr (.inl ⟨_, b, xs, ys, rfl, rfl, f1, g1, by rw [f2.len, g3.len]; exact hz, fun p hp => new_cellP h r.rs (drs_p (pda_append f2 g3)) hp⟩))
      · exact h.elim
    · exact h.elim
  · exact h.elim
section
variable {X : Cx} {W : WX} {a b c e : Expr} {ma mb mc : EM} {pos : Pos}
theorem me_addC (ha : PE X a (te X.K X.mg W ma)) (hb : PE X b (te X.K X.mg W mb)) : PE X (.BinOp a .Add b pos) (te X.K X.mg W (eOp addC ma mb)) := me_op op_addD addC_ok ha hb
end
end Mi

/-! Mi43 -/
set_option Elab.async false
set_option linter.all false
set_option maxRecDepth 100000
set_option maxHeartbeats 1000000
set_option autoImplicit false
namespace Mi
open PySem PySem.Spec PyProof.Rows L2 RZ

/-! ### for a, b in zip(x, y) over two tuples of one length -/
theorem zipP_get : ∀ (l l2 : List PyData) (i : Nat) (x y : PyData), l[i]? = some x → l2[i]? = some y → (zipP l l2)[i]? = some (.dict [(.none, .none), (x, y)])
  | a :: l, b :: l2, 0, _, _, e1, e2 => by
    cases e1
    cases e2
    rfl
  | a :: l, b :: l2, i + 1, x, y, e1, e2 => zipP_get l l2 i x y e1 e2
theorem zipP_len : ∀ (l l2 : List PyData), l.length = l2.length → (zipP l l2).length = l.length
  | [], [], _ => rfl
  | a :: l, b :: l2, h => congrArg (· + 1) (zipP_len l l2 (Nat.succ.inj h))
theorem walk_zipT {K : PySem.W.Frag} {a b : Addr} {xs ys : List V} (hl : xs.length = ys.length) : Walk (ItzT K a b) xs.length (fun H => SqT K H a xs ∧ SqT K H b ys) (YPair (fun i => xs[i]?) (fun i => ys[i]?)) := by
  refine ⟨fun i _ hi q => ⟨xs, ys, xs[i], ys[i]'(by omega), q.1, q.2, by simp [hi], by simp [show i < ys.length by omega]⟩, fun _ q => ⟨xs, ys, q.1, q.2, .inl (Nat.le_refl _)⟩, fun i H v H' _ q y => ?_⟩
  obtain ⟨T, x, y', h1, h2, h3, h4, h5⟩ := y
  exact ⟨T, x, y', h1, h2, h3, h4 xs q.1, h5 ys q.2⟩
theorem wk_zipT {K : PySem.W.Frag} {R : Addr → Prop} {μ : Nat → Addr} {n : Nat} {H : Hp} {a b : Addr} {xs ys : List V} {l l2 : List PyData} (h : SqT K H a xs) (h' : SqT K H b ys) (hp : PdAll K H (Av R μ n) xs l) (hp' : PdAll K H (Av R μ n) ys l2) (hl : l.length = l2.length) : Wk K R μ n H ((zipP l l2).map .p) yes (ItzT K a b) := by
  have hxy : xs.length = ys.length := by rw [hp.len, hp'.len]; exact hl
  refine ⟨⟨_, _, by rw [List.length_map, zipP_len l l2 hl, ← hp.len]; exact Mi.walk_zipT hxy, fun _ μ2 S2 H2 _ s _ _ => And.intro (s.hp.sqt h) (s.hp.sqt h'), fun R2 i d μ2 S2 H2 x H3 hR hi s rs _ y => ?_⟩⟩
  obtain ⟨T, v1, v2, rfl, hT, rfl, e1, e2⟩ := y
  have e1' : xs[i]? = some v1 := e1
  have e2' : ys[i]? = some v2 := e2
  have li : i < l.length := by rw [← hp.len]; exact (List.getElem?_eq_some_iff.mp e1').1
  have g1 : l[i]? = some l[i] := List.getElem?_eq_getElem li
  have g2 : l2[i]? = some (l2[i]'(by omega)) := List.getElem?_eq_getElem _
  rw [List.getElem?_map, zipP_get l l2 i _ _ g1 g2] at hi
  cases hi
  obtain ⟨w1, a1, b1⟩ := pda_get (hp.mono (le_grow s hR)) g1
  obtain ⟨w2, a2, b2⟩ := pda_get (hp'.mono (le_grow s hR)) g2
  rw [e1'] at a1
  cases a1
  rw [e2'] at a2
  cases a2
  have sn : Sp1 μ2 S2.length H2 μ2 S2.length (upd H2 T (.tup [v1, v2])) := sp_new hT
  exact ⟨sn, rs_new hT rs, .p (.wk upd_same (b1.mono (av_le sn.hp)) (b2.mono (av_le sn.hp)))⟩
def zpT : List D → Sto → Ot (List D × (Sto → Bool))
  | [.p (.tuple l), .p (.tuple l2)], S => if l.length = l2.length then .ok ((zipP l l2).map .p, yes) S else .bad
  | _, _ => .bad
def iZp (a : AM) : IM := fun env S => (a env S).bind zpT
theorem mi_zipT {X : Cx} {W : WX} {e e2 : Expr} {aa : AM} {p pos tpos : Pos} {elts : List Expr} {kk : Nat} (hm : X.mg "zip" = none) (ha : PA X [e, e2] (ta X.K X.mg W aa)) (hg : Gl X "zip" := by rfl) (hs : starEach [e, e2] X.env = (false, eval e X.env) :: starEach [e2] X.env := by rfl) (hpl : (backTo pos (starEach [e2] X.env)).any (·.1) = false := by rfl) :
    MI X W (.Tuple elts kk tpos) (.Call (.Name "zip" p) [e, e2] [] pos) (iZp aa) := by
  refine ⟨_, pi_zipA hg hm ha hs hpl, fun σ H Rr ⟨R, μ, env, S, r, h⟩ => ⟨R, μ, env, S, r, ?_⟩⟩
  refine pg_mono (pg_bind h) fun μ1 H1 S1 ds s1 rs1 q vs dr => ?_
  unfold zpT at q
  split at q
  · split at q
    · rename_i hl
      obtain ⟨v, ws, rfl, d1, d2⟩ := drs_cons dr
      obtain ⟨v2, ws, rfl, f1, d3⟩ := drs_cons d2
      obtain rfl := drs_nil d3
      obtain ⟨a, xs, rfl, h1, h3⟩ := dr_tup d1
      obtain ⟨b, ys, rfl, g1, g3⟩ := dr_tup f1
      exact ⟨a, b, xs, ys, rfl, .inr ⟨h1, g1, pg_ok q rs1 _ (wk_zipT h1 g1 h3 g3 hl)⟩⟩
    · exact q.elim
  · exact q.elim
end Mi

/-! Mi44 -/
set_option Elab.async false
set_option linter.all false
set_option maxRecDepth 100000
set_option maxHeartbeats 1000000
set_option autoImplicit false
namespace Mi
open PySem PySem.Spec PyProof.Rows L2

/-! ### d.setdefault(k, v) of a dict's cell -/
def isDk : D → Sto → Bool
  | .loc i, S => (cellK S i).isSome
  | _, _ => false
def sdD : D → D → D → Sto → Ot D
  | .loc i, y, v, S => match cellK S i, keyOf y with
    | some kds, some k => if kds.length < sizeLine ∧ v.lowb i = true then (match dval kds k with
      | some d => .ok d S
      | none => .ok v (S.set i (.dk (dput kds k v)))) else .bad
    | _, _ => .bad
  | _, _, _, _ => .bad
def eSetd (mo mk mv : EM) : EM := fun env S => (mo env S).bind fun o S1 => if isDk o S1 = true then (mk env S1).bind fun y S2 => (mv env S2).bind fun v S3 => sdD o y v S3 else .bad
section
variable {X : Cx} {W : WX} {o e f : Expr} {mo mk mv : EM} {apos cpos : Pos}
theorem me_setd (ho : PE X o (te X.K X.mg W mo)) (he : PE X e (te X.K X.mg W mk)) (hf : PE X f (te X.K X.mg W mv)) (hbase : attributeBase o "setdefault" X.env (eval o X.env) = eval o X.env := by rfl)
    (hfew : ((backTo cpos (starEach [e, f] X.env)).all (fun x => !x.1) && (backToKw cpos (keywordEach [] X.env)).all (fun x => x.1.isSome) && decide (([e, f] : List Expr).length + ([] : List Keyword).length + (if ([] : List Keyword).isEmpty then 0 else 1) < 30)) = true := by rfl)
    (hline : (apos.endLine == cpos.line) = true := by rfl) (htr : backTo cpos (starEach [e, f] X.env) = [(false, eval e X.env), (false, eval f X.env)] := by rfl) :
    PE X (.Call (.Attribute o "setdefault" apos) [e, f] [] cpos) (te X.K X.mg W (eSetd mo mk mv)) := by
  refine (pe_dsetd ho he hf ⟨hbase, hfew, hline, htr⟩).w fun σ H Q ⟨R, μ, env, S, r, h⟩ => ⟨R, μ, env, S, r, ?_⟩
  refine po_mono (po_bind r h) fun x H1 ⟨μ1, S1, d1, r1, h1⟩ => ?_
  obtain ⟨x', ws, e1, hx, _⟩ := drs_cons r1.tm
  cases e1
  by_cases hc : isDk d1 S1 = true
  · rw [if_pos hc] at h1
    cases hx with
    | p _ => cases hc
    | scr _ => cases hc
    | @loc i hi =>
      obtain ⟨kds1, hk1⟩ := Option.isSome_iff_exists.mp (show (cellK S1 i).isSome = true from hc)
      obtain ⟨kvs1, g1, g2⟩ := r1.rs.cell _ _ (cellK_some hk1)
      refine ⟨_, rfl, .inl ⟨kvs1, .inl g1⟩, R, μ1, env, S1, r1.drop, ?_⟩
      refine po_mono (po_bind r1 h1) fun y H2 ⟨μ2, S2, d2, r2, h2⟩ => ⟨R, μ2, env, S2, r2.drop, ?_⟩
      refine po_mono (po_bind r2 h2) fun z H3 ⟨μ3, S3, d3, r3, h3⟩ => ?_
      obtain ⟨z', ws2, e2, hz, t2⟩ := drs_cons r3.tm
      cases e2
      obtain ⟨y2, ws3, e3, hy, t3⟩ := drs_cons t2
      cases e3
      obtain ⟨x2, ws4, e4, hx2, _⟩ := drs_cons t3
      cases e4
      obtain ⟨e5, hi3⟩ := dr_loc hx2
      unfold sdD at h3
      dsimp only at h3
      split at h3
      · rename_i kds k ek ey
        split at h3
        · rename_i hlt
          obtain ⟨kvs, f1, f2⟩ := r3.rs.cell _ _ (cellK_some ek)
          have hlen : kvs.length = kds.length := by
            have := congrArg List.length f2.1
            rw [List.length_map, List.length_map] at this
            exact this
          have e6 : μ1 i = μ3 i := by injection e5
          refine ⟨kvs, k, by rw [e6]; exact f1, keyOf_v hy ey, by rw [hlen]; exact hlt.1, fun v hv => ?_, fun hn => ?_⟩
          · cases ed : dval kds k with
            | none => rw [dval_none f2 ed] at hv; cases hv
            | some d =>
              rw [ed] at h3
              obtain ⟨v', q1, q2⟩ := dval_ok f2 ed
              rw [hv] at q1
              cases q1
              exact po_ok h3 r3.rs q2
          · cases ed : dval kds k with
            | some d =>
              obtain ⟨v', q1, _⟩ := dval_ok f2 ed
              rw [hn] at q1
              cases q1
            | none =>
              rw [ed] at h3
              rw [e6]
              have sp : Sp1 μ3 S3.length H3 μ3 S3.length (upd H3 (μ3 i) (.dK (putK kvs k z))) := le_cell hi3 (fun ob u q => by rw [f1] at q; cases q) (fun u q => by rw [f1] at q; cases q)
              have rs4 := rs_set (c' := Cell.dk (dput kds k d3)) r3.rs (cellK_some ek) sp ⟨_, upd_same, (dput_ok f2 hz).mono sp⟩ (dput_lowb (r3.rs.low _ _ (cellK_some ek)) hlt.2)
              exact h3 μ3 _ (by rw [List.length_set]; exact sp) rs4 _ (by rw [List.length_set]; exact hz.mono sp)
        · exact h3.elim
      · exact h3.elim
  · rw [if_neg hc] at h1
    exact h1.elim
end
end Mi

/-! Mi45 -/
set_option Elab.async false
set_option linter.all false
set_option maxRecDepth 100000
set_option maxHeartbeats 1000000
set_option autoImplicit false
namespace Mi
open PySem PySem.Spec PyProof.Rows L2

/-! ### while, at most so many turns -/
def whF (t : BM) (body : SM) : Nat → SM
  | 0 => fun _ _ => .bad
  | k + 1 => fun env S => (t env S).then env fun c S1 => if c = true then (match body env S1 with
    | .nx e2 S2 => whF t body k e2 S2
    | .ct e2 S2 => whF t body k e2 S2
    | .bk e2 S2 => .nx e2 S2
    | o => o) else .nx env S1
section
variable {X : Cx} {W : WX} {c : Expr} {body : List Stmt} {t : BM} {mb : SM} {pos : Pos}
theorem ms_while (N : Nat) (po : PassesOwn (model X.prog X.w) X.A X.env X.xe) (hc : PT X c (tt X.K X.mg W t)) (hb : PSs X body (ts X.K X.mg W mb)) : PS X (.While c body [] pos) (ts X.K X.mg W (whF t mb N)) := by
  refine (ps_while po hc hb).w fun D σ H ⟨R, μ, env, S, r, h⟩ => ?_
  refine ⟨fun m σ H => ∃ R μ env S, RL X.K R μ H S σ env [] [] ∧ Pz X.K X.mg W R μ S H (whF t mb m env S) D, ⟨N, R, μ, env, S, r, h⟩, ?_⟩
  rintro m σ H ⟨R, μ, env, S, r, h⟩
  cases m with
  | zero => exact h.elim
  | succ k =>
    refine ⟨R, μ, env, S, r, ?_⟩
    refine pg_mono (pz_then (show Pz X.K X.mg W R μ S H ((t env S).then env fun c S1 => if c = true then (match mb env S1 with
      | .nx e2 S2 => whF t mb k e2 S2
      | .ct e2 S2 => whF t mb k e2 S2
      | .bk e2 S2 => .nx e2 S2
      | o => o) else .nx env S1) D from h)) fun μ1 H1 S1 b s1 rs1 q => ?_
    cases b with
    | false =>
      rw [if_neg Bool.false_ne_true] at q ⊢
      exact pz_nx q (r.mono s1 rs1)
    | true =>
      rw [if_pos rfl] at q ⊢
      refine ⟨fun σ' H' => ∃ R μ env S, RL X.K R μ H' S σ' env [] [] ∧ Pz X.K X.mg W R μ S H' (whF t mb k env S) D, fun σ' H' w => ⟨k, Nat.lt_succ_self k, w⟩, R, μ1, env, S1, r.mono s1 rs1, ?_⟩
      cases e2 : mb env S1 with
      | bad => rw [e2] at q; exact q.elim
      | nx e5 S5 =>
        rw [e2] at q
        exact fun μ5 H5 σ5 s5 r5 => ⟨R, μ5, e5, S5, r5, pz_later s5 q⟩
      | ct e5 S5 =>
        rw [e2] at q
        exact fun μ5 H5 σ5 s5 r5 => ⟨R, μ5, e5, S5, r5, pz_later s5 q⟩
      | bk e5 S5 =>
        rw [e2] at q
        exact fun μ5 H5 σ5 s5 r5 => q μ5 H5 σ5 s5 r5
      | rt d5 S5 =>
        rw [e2] at q
        exact q
      | err e5 v5 S5 =>
        rw [e2] at q
        exact q
end
end Mi

/-! Mi46 -/
set_option Elab.async false
set_option linter.all false
set_option maxRecDepth 100000
set_option maxHeartbeats 1000000
set_option autoImplicit false
namespace Mi
open PySem PySem.Spec PyProof.Rows L2

/-! ### len(set(l)) of a list of ints -/
/-- how many of them there are -/
def setN (ns : List Int) : Nat := (firstMet (fun i => ns.getD i 0) ns.length).length
def lsD : D → Sto → Ot D
  | .p (.list l), S => match intsOf l with
    | some ns => if ns.length < 60 then .ok (.p (.int (setN ns : Nat))) S else .bad
    | none => .bad
  | _, _ => .bad
def eLS (m : EM) : EM := fun env S => (m env S).bind lsD
def tLenSetG (K : PySem.W.Frag) (ta : TE) : TE := fun σ H Q => ta σ H fun x H1 => ∃ (l : Addr) (ns : List Int), x = V.ref l ∧ SqL K H1 l (ns.map V.int) ∧ ns.length < 60 ∧ Q (.int (setN ns : Nat)) H1
section
variable {X : Cx} {W : WX} {a : Expr} {m : EM} {p p2 q pos : Pos}
theorem pe_lenSetG {ta : TE} (hc : X.calm = true) (hg : Gl X "len") (hm : X.mg "len" = none) (hg2 : Gl X "set") (hm2 : X.mg "set" = none) (ha : PE X a ta)
    (na : starEach [a] X.env = (false, eval a X.env) :: starEach [] X.env := by rfl) : PE X (.Call (.Name "len" p) [.Call (.Name "set" p2) [a] [] q] [] pos) (tLenSetG X.K ta) := by
  refine ⟨fun pins s σ H Q I h => ?_⟩
  refine Call_ (ld_blt I hg hm PySem.boot_len ?_)
  refine PyProof.Rows.callWith_builtin1 (PyProof.Rows.args_cons ?_ rfl) rfl rfl
  refine Call_ (ld_blt I hg2 hm2 PyProof.Rows.boot_set ?_)
  refine PyProof.Rows.callWith_type1 (PyProof.Rows.args_cons (thn (ha.run pins s σ H _ I h) fun v s1 ⟨x, H1, I1, r1, q1⟩ => PyProof.Rows.args_nil ?_) na) na rfl
  obtain ⟨l, ns, rfl, hq, h1, q1⟩ := q1
  cases r1
  obtain ⟨its, r, pl, hz⟩ := I1.list hq
  have hl : its.toArray.size = ns.length := by rw [List.size_toArray, ← r.length, List.length_map]
  refine call_set_list (I1.ok.hd hc) pl.isList (ns := ns) (by simpa using r.ints) (by unfold scanBound; omega) fun h' tk hS hk => ?_
  rw [hl] at hS
  refine PyProof.Rows.args_nil ?_
  obtain ⟨o, es, ep, t, ho, hex, hd, _, _, _, hf, hn⟩ := hS
  have I2 : Inv X pins σ H1 { s1 with heap := h', toks := tk } := I1.kept fun b o e => hk b o (Heap.lt_size e) e
  have hle := firstMet_length_le (fun i => ns.getD i 0) ns.length
  refine call_len_set ho hex hd hf (by rw [hn] <;> omega) ⟨.int (setN ns : Nat), H1, I2.tok _, ⟨_, by rw [hn]; rfl⟩, q1⟩
theorem intsOf_v {K : PySem.W.Frag} {H : Hp} {O : Addr → Prop} {xs : List V} {l : List PyData} {ns : List Int} (h : PdAll K H O xs l) (e : intsOf l = some ns) : xs = ns.map V.int := by
  rw [intsOf_eq e] at h
  exact pda_ints_eq h
theorem me_lenSet (B : Bn X.mg) (hc : X.calm = true) (hm2 : X.mg "set" = none) (ha : PE X a (te X.K X.mg W m)) (hg : Gl X "len" := by rfl) (hg2 : Gl X "set" := by rfl) (na : starEach [a] X.env = (false, eval a X.env) :: starEach [] X.env := by rfl) :
    PE X (.Call (.Name "len" p) [.Call (.Name "set" p2) [a] [] q] [] pos) (te X.K X.mg W (eLS m)) := by
  refine (pe_lenSetG hc hg B.len hg2 hm2 ha na).w fun σ H Q ⟨R, μ, env, S, r, h⟩ => ⟨R, μ, env, S, r, ?_⟩
  refine po_mono (po_bind r h) fun v H1 ⟨μ1, S1, d1, r1, h1⟩ => ?_
  obtain ⟨v', ws, ev, dv, _⟩ := drs_cons r1.tm
  cases ev
  unfold lsD at h1
  split at h1
  · split at h1
    · rename_i ns e
      split at h1
      · rename_i hl
        obtain ⟨a, xs, rfl, h2, _, h4⟩ := dr_lst dv
        have ex := intsOf_v h4 e
        rw [ex] at h2
        exact ⟨a, ns, rfl, SqL.of h2, hl, po_ok h1 r1.rs (.p (.int _))⟩
      · exact h1.elim
    · exact h1.elim
  · exact h1.elim
end
end Mi

/-! Mi47 -/
set_option Elab.async false
set_option linter.all false
set_option maxRecDepth 100000
set_option maxHeartbeats 1000000
set_option autoImplicit false
namespace Mi
open PySem PySem.Spec PyProof.Rows L2

/-! ### tuple(d.values()) of a dict's cell -/
section
variable {prog : Program} {w : World} {A : Around} {E : Value → Shared → Prop} {s : Shared} {r d : Addr} {n : Nat} {P : Nat → Value → Prop} {OK : Heap → Prop}
theorem collect_src {Q : List Value → Shared → Prop} (K : PySem.W.KdlSrc prog w "dict_values" r d n P OK) (hh : A.handled = none) (hok : OK s.heap) (hn : n ≤ sizeLine)
    (hQ : ∀ (h' : Heap) (tk : Nat) (acc : Array Value), (∀ b o, s.heap.get? b = some o → h'.get? b = some o) → ItemsOf P acc n → Q acc.toList { s with heap := h', toks := tk }) :
    wpAny (model prog w) A (collect (.ref r)) Q E s := by
  unfold collect
  refine wpAny_bind (wpAny_runValue (codeAny_builtin F.entry_proto_collect ?_))
  rw [Around.under_plainId F.plain_proto_collect _]
  show wpAny _ A.in1 (newList [] >>= fun l => again (.builtin "list.__iadd__" ⟨[l, .ref r], []⟩)) _ _ s
  refine wpAny_bind (wpAny_newObj_type ?_)
  refine wpAny_pure ⟨plainId_quiet F.plain_list_iadd _, codeAny_builtin F.entry_list_iadd ?_⟩
  rw [Around.under_plainId F.plain_list_iadd _]
  show wpAny _ A.in1 (Builtin.List.listExtendWith (.ref s.heap.objs.size) (.ref r) (.ref s.heap.objs.size)) _ _ _
  have hS : (s.heap.push { cls := .type "list", data := .seq ([] : List Value).toArray }).get? s.heap.objs.size = some { cls := .type "list", data := .seq #[] 0 } := Heap.get?_push_size _ rfl
  have lt := K.there _ hok
  refine wpAny_mono (PySem.W.kdl_extend (A := A) (R := fun rr s' => rr = .ok (.ret (.ref s.heap.objs.size)) ∧ ∃ (h' : Heap) (tk : Nat) (acc : Array Value) (c' : Nat), s' = { s with heap := h', toks := tk } ∧
      (∀ b o, s.heap.get? b = some o → h'.get? b = some o) ∧ h'.get? s.heap.objs.size = some { cls := .type "list", dict := none, data := .seq acc c', slots := #[] } ∧ ItemsOf P acc n)
    (s := { s with heap := s.heap.push { cls := .type "list", data := .seq ([] : List Value).toArray } }) K hh (K.keep _ _ hok fun b _ o e => Heap.get?_push_of_some _ e) s.heap.objs.size (Nat.ne_of_gt lt.1) (Nat.ne_of_gt lt.2) _ 0 hS
    (fun h' tk acc c' hk e hi => ⟨rfl, h', tk, acc, c', rfl, fun b o q => hk b o (Nat.ne_of_lt (Heap.lt_size q)) (Heap.get?_push_of_some _ q), e, hi⟩) hn) (fun fin s' h => ?_) (fun e s' h => ?_)
  · cases fin with
    | done f =>
      obtain ⟨e, h', tk, acc, c', rfl, hk, hS', hi⟩ := h
      cases e
      show wpAny _ A (load s.heap.objs.size >>= _) _ _ _
      exact wpAny_bind (wpAny_load hS' (wpAny_pure (hQ h' tk acc hk hi)))
    | again c' =>
      refine ⟨h.1, codeAny_mono h.2 fun rr s'' hr' => ?_⟩
      obtain ⟨rfl, h', tk, acc, c', rfl, hk, hS', hi⟩ := hr'
      show wpAny _ A (load s.heap.objs.size >>= _) _ _ _
      exact wpAny_bind (wpAny_load hS' (wpAny_pure (hQ h' tk acc hk hi)))
  · exact absurd h.1 (by simp)
theorem code_tuple_new_src {Q₁ : Value → Shared → Prop} (K : PySem.W.KdlSrc prog w "dict_values" r d n P OK) (hh : A.handled = none) (hok : OK s.heap) (hn : n ≤ sizeLine)
    (h : ∀ (h' : Heap) (tk : Nat) (acc : Array Value), (∀ b o, s.heap.get? b = some o → h'.get? b = some o) → ItemsOf P acc n →
      Q₁ (.ref h'.objs.size) { s with heap := h'.push { cls := .type "tuple", data := .seq acc }, toks := tk }) :
    codeAny (model prog w) A (.call (.builtin "tuple.__new__") ⟨[.type "tuple", .ref r], []⟩) (wants Q₁ E) s := by
  refine codeAny_of_tree ?_
  show wpAny _ A.in1 (do checkBuiltinCall "tuple.__new__" ⟨[.type "tuple", .ref r], []⟩; again (.builtin "tuple.__new__" ⟨[.type "tuple", .ref r], []⟩)) _ _ s
  refine wpAny_bind (wpAny_of_eq (F.newCall_tuple_1 _) (wpAny_pure ⟨plainId_quiet F.plain_tuple_new _, codeAny_builtin F.entry_tuple_new ?_⟩))
  rw [Around.under_plainId F.plain_tuple_new _]
  have hsub := sub_tuple_self
  have hinit := init_tuple_lookup
  have hmh := madeHere_tuple
  have hTI : s.TypeIs (.ref r) "dict_values" := K.type s hok
  have hh1 : A.in1.handled = none := hh
  wp_walk using wpAny_typeOf hTI, collect_src (A := A.in1) K hh1 hok hn
  intro h' tk acc hk hacc
  show wpAny _ _ (Builtin.Tuple.tupleExact acc.toList.toArray >>= fun v => ret v) _ _ _
  unfold Builtin.Tuple.tupleExact
  refine wpAny_bind (wpAny_newObj_type ?_ (by show acc.toList.toArray.size ≤ sizeLine; simp only [Array.toArray_toList]; rw [hacc.1]; exact hn))
  refine wpAny_pure ?_
  have e : acc.toList.toArray = acc := by simp
  rw [e]
  exact h h' tk acc hk hacc
theorem call_tuple_src {Q : Value → Shared → Prop} (K : PySem.W.KdlSrc prog w "dict_values" r d n P OK) (hh : A.handled = none) (hok : OK s.heap) (hn : n ≤ sizeLine)
    (hQ : ∀ (h' : Heap) (tk : Nat) (acc : Array Value), (∀ b o, s.heap.get? b = some o → h'.get? b = some o) → ItemsOf P acc n →
      Q (.ref h'.objs.size) { s with heap := h'.push { cls := .type "tuple", data := .seq acc }, toks := tk }) :
    wpAny (model prog w) A (call (.type "tuple") [.ref r]) Q E s := by
  refine callType_codes (Q₁ := fun obj s₁ => s₁.TypeIs obj "tuple" ∧ Q obj s₁) F.called_tuple (F.typeCall_tuple_1 _) F.entry_object_init
    (code_tuple_new_src (A := A.in1) K hh hok hn fun h' tk acc hk hacc => ⟨⟨_, Heap.get?_push_size _ rfl, rfl⟩, hQ h' tk acc hk hacc⟩) fun obj s₁ h₁ => ?_
  exact ⟨h₁.1, F.args_object_init_2 obj _, object_init_meets F.called_tuple.init.lookup F.called_tuple.made (by decide) prog w A.in1 _ s₁ ⟨h₁.1, rfl, h₁.2⟩⟩
end
theorem kv_vals {κ : Type} : ∀ {kvs : List (κ × V)} {vs : List (κ × Value)}, KV kvs vs → Vals (kvs.map (·.2)) (vs.map (·.2))
  | _, _, .nil => .nil
  | _, _, .cons h t => .cons h.2 (kv_vals t)
section
variable {X : Cx} {W : WX} {o : Expr} {p pos apos mpos : Pos} {td : TE} {m : EM}
/-- tuple(o.values()) -/
def tTupVals (td : TE) : TE := fun σ H Q => td σ H fun x H1 => ∃ a kvs, x = V.ref a ∧ H1 a = some (.dK kvs) ∧ NwT H1 (kvs.map (·.2)) Q
theorem pe_tupVals (hc : X.calm = true) (hg : Gl X "tuple") (hm : X.mg "tuple" = none) (hd : PE X o td) (hbase : attributeBase o "values" X.env (eval o X.env) = eval o X.env := by rfl) (hline : (apos.endLine == mpos.line) = true := by rfl)
    (hse : starEach [Expr.Call (.Attribute o "values" apos) [] [] mpos] X.env = (false, eval (Expr.Call (.Attribute o "values" apos) [] [] mpos) X.env) :: starEach [] X.env := by rfl) :
    PE X (.Call (.Name "tuple" p) [.Call (.Attribute o "values" apos) [] [] mpos] [] pos) (tTupVals td) := by
  refine ⟨fun pins s σ H Q I h => ?_⟩
  refine Call_ (ld_blt I hg hm boot_tuple (PyProof.Rows.callWith_type1 (args_cons ?_ hse) hse))
  refine wpAny_Call_method0_late hbase hline (thn (hd.run pins s σ H _ I h) fun v s1 ⟨x, H1, I1, r1, a, kvs, ex, ha, q⟩ => ?_)
  subst ex
  obtain rfl : v = Value.ref a := r1
  obtain ⟨hz, hsys, vs, rel, dof⟩ := dk_of I1.hok ha
  obtain ⟨ep, dat⟩ := dof.dictAt
  have dat' := dat
  obtain ⟨ob, es, ho, ex, hdat, hko, hpr, hnd⟩ := dat'
  refine ⟨"dict", "dict.values", F.plainAttrs_dict, F.slot_dict_values, F.type_dict_values, ⟨ob, ho, ex.1⟩, fun b e => ?_, Calls.callWith_builtin rfl (PySem.evalArgs_none ?_)⟩
  · cases e
    exact ⟨ob, ho, ex.2.1⟩
  refine call_meetsIn F.slot_dict_values ⟨ob, ho, ex.1⟩ F.entry_dict_values (F.args_dict_values_1 _) (meets_dict_values (mixKind X.prog X.w) a hsys) ⟨⟨vs, dof⟩, ?_⟩
  have k1 : ∀ b u, s1.heap.get? b = some u → (s1.heap.push { cls := .type "dict_values", data := .fields #[.ref a] }).get? b = some u := fun b u e => Heap.get?_push_of_some _ e
  have dat1 : (s1.heap.push { cls := .type "dict_values", data := .fields #[.ref a] }).DictAt (mixKind X.prog X.w) a vs ep := dat.keep k1
  have hn : vs.length ≤ sizeLine := by rw [← rel.length]; exact hz
  refine args_nil ?_
  refine call_tuple_src (PySem.W.kdl_values (knd := mixKind X.prog X.w) (kvs := vs) (ep := ep)) (I.ok.hd hc) ⟨⟨_, Heap.get?_push_size _ rfl, rfl, rfl⟩, dat1⟩ hn fun h' tk acc hk hacc => ?_
  have hall : acc.toList = vs.map (·.2) := PySem.W.kdl_vals_eq acc.toList (by rw [Array.length_toList]; exact hacc.1) fun j v e => hacc.2 j v (by rw [← Array.getElem?_toList]; exact e)
  have rv : Vals (kvs.map (·.2)) acc.toList := by rw [hall]; exact kv_vals rel
  have I2 : Inv X pins σ H1 { s1 with heap := h', toks := tk } := I1.kept fun b o e => hk b o (k1 b o e)
  have ea : acc = acc.toList.toArray := by simp
  rw [ea]
  exact laidT (h' := h'.push (tuO acc.toList)) I2 rv (by rw [List.length_map]; exact hz) (fun b o e => Heap.get?_push_of_some _ e) (Heap.get?_push_size _ rfl) q
def tvD : D → Sto → Ot D
  | .loc i, S => match cellK S i with
    | some kds => match plains (kds.map (·.2)) with
      | some l => .ok (.p (.tuple l)) S
      | none => .bad
    | none => .bad
  | _, _ => .bad
def eTV (m : EM) : EM := fun env S => (m env S).bind tvD
theorem me_tupVals (B : Bn X.mg) (hc : X.calm = true) (hd : PE X o (te X.K X.mg W m)) (hg : Gl X "tuple" := by rfl) (hbase : attributeBase o "values" X.env (eval o X.env) = eval o X.env := by rfl) (hline : (apos.endLine == mpos.line) = true := by rfl)
    (hse : starEach [Expr.Call (.Attribute o "values" apos) [] [] mpos] X.env = (false, eval (Expr.Call (.Attribute o "values" apos) [] [] mpos) X.env) :: starEach [] X.env := by rfl) :
    PE X (.Call (.Name "tuple" p) [.Call (.Attribute o "values" apos) [] [] mpos] [] pos) (te X.K X.mg W (eTV m)) := by
  refine (pe_tupVals hc hg B.tuple hd hbase hline hse).w fun σ H Q ⟨R, μ, env, S, r, h⟩ => ⟨R, μ, env, S, r, ?_⟩
  refine po_mono (po_bind r h) fun v H1 ⟨μ1, S1, d1, r1, h1⟩ => ?_
  obtain ⟨v', ws, ev, dv, _⟩ := drs_cons r1.tm
  cases ev
  unfold tvD at h1
  split at h1
  · obtain ⟨rfl, hi⟩ := dr_loc dv
    split at h1
    · rename_i kds e
      split at h1
      · rename_i l el
        obtain ⟨kvs, g1, g2⟩ := r1.rs.cell _ _ (cellK_some e)
        exact ⟨_, kvs, rfl, g1, fun p o hp hd => new_tup h1 r1.rs (plains_pd g2.2 el) hp hd⟩
      · exact h1.elim
    · exact h1.elim
  · exact h1.elim

/-! ### is not -/
def rNotNo : R2 := fun x y H Q => y = .non ∧ Q (.bl (!decide (x = .non))) H
def rNotB : R2 := fun x y H Q => ∃ a b : Bool, x = .bl a ∧ y = .bl b ∧ Q (.bl (!decide (a = b))) H
def rNotD : R2 := fun x y H Q => rNotNo x y H Q ∨ rNotB x y H Q
theorem op_notD : OpR X (compareOp .IsNot) rNotD := by
  intro pins s σ H x y v u Q I rx ry h
  rcases h with h | h
  · exact op_notN pins s σ H x y v u Q I rx ry h
  · exact op_isnot_bl pins s σ H x y v u Q I rx ry h
theorem notD_ok {K : PySem.W.Frag} {mg : Str → Option Value} {W : WX} : Op2 K mg W (isD true) rNotD := by
  intro R μ H S σ env x y dx dy Q r h
  obtain ⟨y', ws, e1, hy, r1⟩ := drs_cons r.tm
  cases e1
  obtain ⟨x', ws', e2, hx, r2⟩ := drs_cons r1
  cases e2
  unfold isD at h
  split at h
  · rename_i d
    refine .inl ⟨dr_non hy, ?_⟩
    have q := po_ok h r.rs (.p (.bl _))
    cases hx with
    | p hx => cases hx <;> exact q
  · obtain ⟨rfl, _⟩ := dr_loc hx
    exact .inl ⟨dr_non hy, po_ok h r.rs (.p (.bl _))⟩
  · rw [dr_bl hx, dr_bl hy]
    refine .inr ⟨_, _, rfl, rfl, ?_⟩
    have q := po_ok h r.rs (.p (.bl _))
    rename_i c d
    revert q
    cases c <;> cases d <;> exact id
  · exact h.elim
theorem me_isnot {a b : Expr} {ma mb : EM} (ha : PE X a (te X.K X.mg W ma)) (hb : PE X b (te X.K X.mg W mb)) : PE X (.Compare a [.IsNot] [b] pos) (te X.K X.mg W (eOp (isD true) ma mb)) := me_cmp op_notD notD_ok ha hb (nomark _)

theorem mt_isnot {a b : Expr} {ma mb : EM} (ha : PE X a (te X.K X.mg W ma)) (hb : PE X b (te X.K X.mg W mb)) (hm : behindInMarks .IsNot b = false) : PT X (.Compare a [.IsNot] [b] pos) (tt X.K X.mg W (bOf (eOp (isD true) ma mb))) := mt_cmp op_notD notD_ok ha hb hm

/-! ### a tuple that serves as a key -/
def twF : D → Sto → Ot D
  | .p (.list l), S => .ok (.p (passP l)) S
  | _, _ => .bad
def eTW (m : EM) : EM := fun env S => (m env S).bind twF
theorem me_tupW {e : Expr} (B : Bn X.mg) (ha : PE X e (te X.K X.mg W m)) (hg : Gl X "tuple" := by rfl) (na : starEach [e] X.env = (false, eval e X.env) :: starEach [] X.env := by rfl) :
    PE X (.Call (.Name "tuple" p) [e] [] pos) (te X.K X.mg W (eTW m)) := by
  refine (pe_tupleOf hg B.tuple ha na).w fun σ H Q ⟨R, μ, env, S, r, h⟩ => ⟨R, μ, env, S, r, ?_⟩
  refine po_mono (po_bind r h) fun v H1 ⟨μ1, S1, d1, r1, h1⟩ => ?_
  obtain ⟨v', ws, ev, dv, _⟩ := drs_cons r1.tm
  cases ev
  unfold twF at h1
  split at h1
  · obtain ⟨a, xs, rfl, h2, _, h4⟩ := dr_lst dv
    refine .inl ⟨a, xs, rfl, SqL.of h2, fun q hq => ?_⟩
    have s2 : Sp1 μ1 S1.length H1 μ1 S1.length (upd H1 q (.tup xs)) := sp_new hq
    exact h1 μ1 _ s2 (rs_new hq r1.rs) _ (.p (.wkn upd_same (h4.mono (av_le s2.hp))))
  · exact h1.elim

/-! ### a walk over a list or a tuple -/
def iBoth (K : PySem.W.Frag) (tl : TE) : TI := fun σ H R => tl σ H fun x H1 => ∃ a, x = .ref a ∧ (((∃ xs, SqL K H1 a xs) ∧ R (Itl K a) H1) ∨ ((∃ xs, SqT K H1 a xs) ∧ R (Itt K a) H1))
theorem pi_both {tg l : Expr} {tl : TE} (hl : PE X l tl) : PI X tg l (iBoth X.K tl) := by
  refine ⟨fun pins s σ H R I h => ?_⟩
  refine thn (hl.run pins s σ H _ I h) fun v s1 ⟨x, H1, I1, r1, q1⟩ => ?_
  obtain ⟨a, e, q⟩ := q1
  subst e
  cases r1
  rcases q with ⟨⟨xs, hq⟩, q⟩ | ⟨⟨xs, hq⟩, q⟩
  · obtain ⟨its, rv, p, hz⟩ := I1.list hq
    refine wpAny_pyIter_list p.isList ?_
    refine ⟨s1.heap.objs.size, [s1.heap.objs.size], _, _, H1, rfl, I1.kept (t' := s1.toks) fun b o e => Heap.get?_push_of_some _ e, turn_list a _, ⟨_, Heap.get?_push_size _ rfl, rfl, rfl⟩, fun b hb => ?_, q⟩
    have e : b = s1.heap.objs.size := by simpa using hb
    subst e
    exact I1.fpOk (Nat.le_refl _) (I1.hok.fresh (Nat.le_refl _))
  · obtain ⟨its, rv, p, hz⟩ := I1.tuple hq
    refine wpAny_pyIter_tuple (show s1.heap.IsTuple a its.toArray from p) ?_
    refine ⟨s1.heap.objs.size, [s1.heap.objs.size], _, _, H1, rfl, I1.kept (t' := s1.toks) fun b o e => Heap.get?_push_of_some _ e, turn_tuple a _, ⟨_, Heap.get?_push_size _ rfl, rfl, rfl⟩, fun b hb => ?_, q⟩
    have e : b = s1.heap.objs.size := by simpa using hb
    subst e
    exact I1.fpOk (Nat.le_refl _) (I1.hok.fresh (Nat.le_refl _))
def isLT : D → Sto → Ot (List D × (Sto → Bool))
  | .p (.list l), S => .ok (l.map .p, yes) S
  | .p (.tuple l), S => .ok (l.map .p, yes) S
  | _, _ => .bad
def iLT (m : EM) : IM := fun env S => (m env S).bind isLT
theorem mi_both {tg e : Expr} (h : PE X e (te X.K X.mg W m)) : MI X W tg e (iLT m) := by
  refine ⟨_, pi_both h, fun σ H Rr ⟨R, μ, env, S, r, h⟩ => ⟨R, μ, env, S, r, ?_⟩⟩
  refine pg_mono (pg_bind h) fun μ1 H1 S1 d s1 rs1 q v dr => ?_
  cases dr with
  | loc _ => exact q.elim
  | scr _ => exact q.elim
  | p dp =>
    cases dp with
    | non => exact q.elim
    | bl _ => exact q.elim
    | int _ => exact q.elim
    | str _ => exact q.elim
    | wk _ _ _ => exact q.elim
    | wkn _ _ => exact q.elim
    | dk0 _ _ => exact q.elim
    | dk1 _ _ _ => exact q.elim
    | dks _ _ _ => exact q.elim
    | ex0 _ _ _ => exact q.elim
    | exn _ _ _ _ _ _ _ => exact q.elim
    | @lst a xs l h1 h2 h3 => exact ⟨a, rfl, .inl ⟨⟨xs, SqL.of h1⟩, pg_ok q rs1 _ (wk_list h1 h2 h3)⟩⟩
    | @tup a xs l h1 h3 => exact ⟨a, rfl, .inr ⟨⟨xs, h1.sqt⟩, pg_ok q rs1 _ (wk_tup h1.sqt h3)⟩⟩
end
end Mi

/-! Mi48 -/
set_option Elab.async false
set_option linter.all false
set_option maxRecDepth 100000
set_option maxHeartbeats 1000000
set_option autoImplicit false
namespace Mi
open PySem PySem.Spec PyProof.Rows L2

/-! ### len(set(t)) of a tuple of ints -/
def ddF (z : List Int) (x : Int) : List Int := if x ∈ z then z else z ++ [x]
def setU (ns : List Int) : Nat := (ns.foldl ddF []).length
theorem dd_fold : ∀ (ns z : List Int), z.Nodup → (ns.foldl ddF z).Nodup ∧ ∀ x, x ∈ ns.foldl ddF z ↔ x ∈ z ∨ x ∈ ns
  | [], z, h => ⟨h, fun x => by simp⟩
  | n :: ns, z, h => by
    have h1 : (ddF z n).Nodup := by
      unfold ddF
      split
      · exact h
      · rename_i q
        rw [List.nodup_append]
        exact ⟨h, List.nodup_cons.mpr ⟨by simp, List.nodup_nil⟩, fun a ha b hb e => q (by rw [List.mem_singleton] at hb; rw [← hb, ← e]; exact ha)⟩
    obtain ⟨a, b⟩ := dd_fold ns (ddF z n) h1
    refine ⟨a, fun x => ?_⟩
    rw [List.foldl_cons, b]
    unfold ddF
    split
    · rename_i q
      constructor
      · rintro (h | h)
        · exact .inl h
        · exact .inr (List.mem_cons_of_mem _ h)
      · rintro (h | h)
        · exact .inl h
        · rcases List.mem_cons.mp h with rfl | h
          · exact .inl q
          · exact .inr h
    · simp [or_assoc]
def lsT : D → Sto → Ot D
  | .p (.tuple l), S => match intsOf l with
    | some ns => if ns.length < 60 then .ok (.p (.int (setU ns : Nat))) S else .bad
    | none => .bad
  | _, _ => .bad
def eLST (m : EM) : EM := fun env S => (m env S).bind lsT
def tLenSetT (K : PySem.W.Frag) (ta : TE) : TE := fun σ H Q => ta σ H fun x H1 => ∃ (l : Addr) (ns : List Int), x = V.ref l ∧ SqT K H1 l (ns.map V.int) ∧ ns.length < 60 ∧ Q (.int (setU ns : Nat)) H1
section
variable {X : Cx} {W : WX} {a : Expr} {m : EM} {p p2 q pos : Pos}
theorem pe_lenSetT {ta : TE} (hc : X.calm = true) (hg : Gl X "len") (hm : X.mg "len" = none) (hg2 : Gl X "set") (hm2 : X.mg "set" = none) (ha : PE X a ta)
    (na : starEach [a] X.env = (false, eval a X.env) :: starEach [] X.env := by rfl) : PE X (.Call (.Name "len" p) [.Call (.Name "set" p2) [a] [] q] [] pos) (tLenSetT X.K ta) := by
  refine ⟨fun pins s σ H Q I h => ?_⟩
  refine Call_ (ld_blt I hg hm PySem.boot_len ?_)
  refine PyProof.Rows.callWith_builtin1 (PyProof.Rows.args_cons ?_ rfl) rfl rfl
  refine Call_ (ld_blt I hg2 hm2 PyProof.Rows.boot_set ?_)
  refine PyProof.Rows.callWith_type1 (PyProof.Rows.args_cons (thn (ha.run pins s σ H _ I h) fun v s1 ⟨x, H1, I1, r1, q1⟩ => PyProof.Rows.args_nil ?_) na) na rfl
  obtain ⟨l, ns, rfl, hq, h1, q1⟩ := q1
  cases r1
  obtain ⟨its, r, pl, hz⟩ := I1.tuple hq
  refine call_set_tupI ns (I1.ok.hd hc) (show s1.heap.IsTuple l its.toArray from pl) (by simpa using r.ints) (by unfold scanBound; omega) fun h' tk c hS hcn hk => ?_
  refine PyProof.Rows.args_nil ?_
  obtain ⟨o, es, ep, t, ho, hex, hd, _, hnd, hmem, hb, hf, hn, _⟩ := hS
  have I2 : Inv X pins σ H1 { s1 with heap := h', toks := tk } := I1.kept fun b o e => hk b o e
  obtain ⟨d1, d2⟩ := dd_fold ns [] List.nodup_nil
  have e : es.size = setU ns := by
    have : (es.toList.map L2.keyOf).length = (ns.foldl ddF []).length := by
      refine List.Perm.length_eq ((List.perm_ext_iff_of_nodup hnd d1).mpr fun x => ?_)
      rw [← hmem, d2, decide_eq_true_iff]
      simp
    rw [List.length_map, Array.length_toList] at this
    exact this
  refine call_len_set ho hex hd hf (by rw [hn] <;> omega) ⟨.int (setU ns : Nat), H1, I2.tok _, ⟨_, by rw [e]⟩, q1⟩
theorem me_lenSetT (B : Bn X.mg) (hc : X.calm = true) (hm2 : X.mg "set" = none) (ha : PE X a (te X.K X.mg W m)) (hg : Gl X "len" := by rfl) (hg2 : Gl X "set" := by rfl) (na : starEach [a] X.env = (false, eval a X.env) :: starEach [] X.env := by rfl) :
    PE X (.Call (.Name "len" p) [.Call (.Name "set" p2) [a] [] q] [] pos) (te X.K X.mg W (eLST m)) := by
  refine (pe_lenSetT hc hg B.len hg2 hm2 ha na).w fun σ H Q ⟨R, μ, env, S, r, h⟩ => ⟨R, μ, env, S, r, ?_⟩
  refine po_mono (po_bind r h) fun v H1 ⟨μ1, S1, d1, r1, h1⟩ => ?_
  obtain ⟨v', ws, ev, dv, _⟩ := drs_cons r1.tm
  cases ev
  unfold lsT at h1
  split at h1
  · split at h1
    · rename_i ns e
      split at h1
      · rename_i hl
        obtain ⟨a, xs, rfl, h2, h4⟩ := dr_tup dv
        have ex := intsOf_v h4 e
        rw [ex] at h2
        exact ⟨a, ns, rfl, h2, hl, po_ok h1 r1.rs (.p (.int _))⟩
      · exact h1.elim
    · exact h1.elim
  · exact h1.elim

/-! ### x in a tuple -/
def rInT (K : PySem.W.Frag) (neg : Bool) : R2 := fun x y H Q => ∃ d ds, Dp K H x d ∧ Dp K H y (.tuple ds) ∧ SeqAt.shaped d = true ∧ SeqAt.shaped (.tuple ds) = true ∧ Q (.bl (if neg = true then !(ds.any fun z => PyData.eqv z d) else ds.any fun z => PyData.eqv z d)) H
theorem op_inT (hu : X.A.units + 65 < cLine) : OpR X (compareOp .In) (rInT X.K false) := by
  intro pins s σ H x y v u Q I rx ry h
  obtain ⟨d, ds, hd, he, sd, se, q⟩ := h
  obtain ⟨as, r1⟩ := Dp.reads I d x v hd rx
  obtain ⟨bs, r2⟩ := Dp.reads I (.tuple ds) y u he ry
  exact SeqAt.in_tuple_reads r2 r1 (SeqAt.canLay_of_shaped se) (SeqAt.canLay_of_shaped sd) (room_in_shaped sd hu) ⟨.bl _, H, I, rfl, q⟩
theorem op_notInT (hu : X.A.units + 65 < cLine) : OpR X (compareOp .NotIn) (rInT X.K true) := by
  intro pins s σ H x y v u Q I rx ry h
  obtain ⟨d, ds, hd, he, sd, se, q⟩ := h
  obtain ⟨as, r1⟩ := Dp.reads I d x v hd rx
  obtain ⟨bs, r2⟩ := Dp.reads I (.tuple ds) y u he ry
  exact SeqAt.notIn_tuple_reads r2 r1 (SeqAt.canLay_of_shaped se) (SeqAt.canLay_of_shaped sd) (room_in_shaped sd hu) ⟨.bl _, H, I, rfl, q⟩
def inT (neg : Bool) : D → D → Sto → Ot D
  | .p a, .p (.tuple l), S => if SeqAt.shaped a = true ∧ SeqAt.shaped (.tuple l) = true then .ok (.p (.bool (if neg = true then !(l.any fun z => PyData.eqv z a) else l.any fun z => PyData.eqv z a))) S else .bad
  | _, _, _ => .bad
theorem inT_ok {K : PySem.W.Frag} {mg : Str → Option Value} {W : WX} {neg : Bool} : Op2 K mg W (inT neg) (rInT K neg) := by
  intro R μ H S σ env x y dx dy Q r h
  obtain ⟨y', ws, e1, hy, r1⟩ := drs_cons r.tm
  cases e1
  obtain ⟨x', ws', e2, hx, r2⟩ := drs_cons r1
  cases e2
  unfold inT at h
  split at h
  · rename_i S' a l
    split at h
    · rename_i hz
      cases hx with
      | p px =>
        cases hy with
        | p py => exact ⟨a, l, pd_dp _ _ (shaped_lay hz.1) px, pd_dp _ _ (shaped_lay hz.2) py, hz.1, hz.2, po_ok h r.rs (.p (.bl _))⟩
    · exact h.elim
  · exact h.elim
section
variable {b : Expr} {ma mb : EM} {k : Nat}
theorem me_inT (hr : Room k X.A) (ha : PE X a (te X.K X.mg W ma)) (hb : PE X b (te X.K X.mg W mb)) (hm : behindInMarks .In b = false := by rfl) : PE X (.Compare a [.In] [b] pos) (te X.K X.mg W (eOp (inT false) ma mb)) := me_cmp (op_inT (room65 hr)) inT_ok ha hb hm
theorem me_notinT (hr : Room k X.A) (ha : PE X a (te X.K X.mg W ma)) (hb : PE X b (te X.K X.mg W mb)) (hm : behindInMarks .NotIn b = false := by rfl) : PE X (.Compare a [.NotIn] [b] pos) (te X.K X.mg W (eOp (inT true) ma mb)) := me_cmp (op_notInT (room65 hr)) inT_ok ha hb hm
end

/-! ### *t in a display -/
def aStar (m : EM) (a : AM) : AM := fun env S => (m env S).bind fun d S1 => match d with
  | .p (.tuple l) => (a env S1).bind fun ds S2 => .ok (l.map D.p ++ ds) S2
  | _ => .bad
theorem ma_star {es : List Expr} {aa : AM} (h1 : PE X a (te X.K X.mg W m)) (h2 : PA X es (ta X.K X.mg W aa)) (hs : starEach (.Starred a p :: es) X.env = (true, eval a X.env) :: starEach es X.env := by rfl) : PA X (.Starred a p :: es) (ta X.K X.mg W (aStar m aa)) := by
  refine (StX.pa_star h1 h2 hs).w fun σ H Q ⟨R, μ, env, S, r, h⟩ => ⟨R, μ, env, S, r, ?_⟩
  refine po_mono (po_bind r h) fun v H1 ⟨μ1, S1, d1, r1, h1⟩ => ?_
  obtain ⟨v', ws, ev, dv, _⟩ := drs_cons r1.tm
  cases ev
  split at h1
  · rename_i l
    obtain ⟨b, xs, rfl, g1, g2⟩ := dr_tup dv
    refine ⟨b, xs, rfl, .inl g1, R, μ1, env, S1, r1.drop, ?_⟩
    refine pg_mono (pg_bind h1) fun μ2 H2 S2 ds s2 rs2 q vs dr => ?_
    exact pg_ok q rs2 _ ((drs_p (g2.mono (av_le s2.hp))).append dr)
  · exact h1.elim
end
end Mi

/-! Mi49 -/
set_option Elab.async false
set_option linter.all false
set_option maxRecDepth 100000
set_option maxHeartbeats 1000000
set_option autoImplicit false
namespace Mi
open PySem PySem.Spec PyProof.Rows L2

/-! ### [e for x in it for y in range(n)] -/
def compLoop2 (chk : Sto → Bool) (g : GM) (a1 : AM) (vs1 : List Nat) (g1 : GM) (m : EM) (env : Envr) : List D → List D → Sto → Ot (List D)
  | [], acc, S => if chk S = true then .ok acc S else .bad
  | d :: r, acc, S => if chk S = true then (match g d env with
    | none => .bad
    | some e1 => match a1 e1 S with
      | .ok [.p (.int j)] S2 => if -(2 ^ 62) ≤ j ∧ j < 2 ^ 62 then (match compLoop yes g1 bYes m (wipeE e1 vs1) (rangeD 0 j.toNat) acc S2 with
        | .ok acc2 S3 => compLoop2 chk g a1 vs1 g1 m env r acc2 S3
        | _ => .bad) else .bad
      | _ => .bad) else .bad
theorem comp_chk2 {chk : Sto → Bool} {g : GM} {a1 : AM} {vs1 : List Nat} {g1 : GM} {m : EM} {env : Envr} {l acc : List D} {S : Sto} (h : compLoop2 chk g a1 vs1 g1 m env l acc S ≠ .bad) : chk S = true := by
  cases e : chk S with
  | true => rfl
  | false => exact absurd (by cases l <;> (unfold compLoop2; rw [e, if_neg Bool.false_ne_true])) h
def eComp2 (mu : Bool) (im : IM) (own : List Nat) (g : GM) (a1 : AM) (vs1 : List Nat) (g1 : GM) (m : EM) : EM := fun env S => (im env S).bind fun items S1 => (compLoop2 items.2 g a1 vs1 g1 m (wipeE env own) items.1 [] S1).bind (keptAs mu)
section
variable {J : It} {n : Nat} {G : Hp → Prop} {Y : Nat → Hp → V → Hp → Prop}
theorem lc_out (w : Walk J n G Y) {g : TG} {vs : List Nat} {σ : L2.St} {H1 : Hp} {Qd : Hp → Prop} (BODY : L2.St → Hp → (Hp → Prop) → Prop) (Pv : Nat → Hp → Prop) (h0 : Pv 0 H1) (hG : ∀ i H, i ≤ n → Pv i H → G H)
    (hs : ∀ i x H H', i < n → Pv i H → Y i H x H' → g x (wipe σ vs) H' fun σ2 H2 => wipe σ2 vs = wipe σ vs ∧ BODY σ2 H2 (Pv (i + 1))) (hd : ∀ H, Pv n H → Qd H) :
    ∃ W : Nat → Nat → Hp → Prop, (∃ m, W 0 m H1) ∧ ∀ i m H, W i m H →
      (J.stop i H ∧ Qd H) ∨ (J.go i H ∧ ∃ Nx : Hp → Prop, (∀ H', Nx H' → ∃ m', m' < m ∧ W (i + 1) m' H') ∧ ∀ x H', J.yld i H x H' → g x (wipe σ vs) H' fun σ2 H2 => wipe σ2 vs = wipe σ vs ∧ BODY σ2 H2 Nx) := by
  refine ⟨fun i m H => m = n - i ∧ i ≤ n ∧ Pv i H, ⟨n, by simp, Nat.zero_le _, h0⟩, ?_⟩
  rintro i m H ⟨rfl, hi, p⟩
  have q := hG i H hi p
  by_cases hlt : i < n
  · refine .inr ⟨w.goes i H hlt q, Pv (i + 1), fun H' p' => ⟨n - (i + 1), by omega, rfl, hlt, p'⟩, fun x H' y => hs i x H H' hlt p (w.yields i H x H' hlt q y)⟩
  · have e : i = n := by omega
    subst e
    exact .inl ⟨w.stops H q, hd H p⟩
end
theorem range_at {n k : Nat} (h : k < (rangeD 0 n).length) : (rangeD 0 n)[k] = D.p (.int (0 + (k : Int))) := by
  simp [rangeD]
theorem gc_fst {K : PySem.W.Frag} {i j : Nat} (ne : i ≠ j) : GC K (gN i) (gName i) [i, j] := by
  refine ⟨fun R μ S H σ env env' x d Q rs en dr e q => ?_⟩
  cases e
  refine q _ ?_ (en.set dr i)
  show ((((σ.set j none).set i none).set i (some x)).set j none).set i none = (σ.set j none).set i none
  rw [List.set_set, List.set_comm _ _ ne, List.set_set, List.set_set]
section
variable {X : Cx} {W : WX} {tgt iter tgt1 elt e1 : Expr} {scope : Scope} {own : List (Str × Nat)} {vs1 : List Nat} {im : IM} {a1 : AM} {g g1 : GM} {hg' hg1' : TG} {m : EM} {pos rp rpos : Pos}
theorem lc2_coreM {wi : TI} {mu : Bool} {σ : L2.St} {H : Hp} {Q : VK} {vs : List Nat} (hti : ti X.K X.mg W im wi) (hgc : GC X.K g hg' vs) (hgc1 : GC X.K g1 hg1' vs1) (h : te X.K X.mg W (eComp2 mu im vs g a1 vs1 g1 m) σ H Q) :
    tLc2 wi hg' tYes (iRng1 (ta X.K X.mg W0 a1)) hg1' tYes (te X.K X.mg W0 m) vs vs1 σ H Q := by
  obtain ⟨R, μ, env, S, r, h⟩ := h
  refine hti σ H _ ⟨R, μ, env, S, r, pg_mono (pg_bind h) fun μ1 H1 S1 itc s1 rs1 q J w => ?_⟩
  intro D hD
  obtain ⟨items, chk⟩ := itc
  obtain ⟨G, Y, hw, hG, hY⟩ := w.ex
  dsimp only at hw hG hY q
  have nR : ¬ R D := fun z => (rs1.res D z).1 hD
  have en1 := r.en.mono s1
  obtain ⟨fo, hfo⟩ : ∃ fo, fo = compLoop2 chk g a1 vs1 g1 m (wipeE env vs) items [] S1 := ⟨_, rfl⟩
  rw [← hfo] at q
  have nb : fo ≠ .bad := fun z => by rw [z] at q; exact q.elim
  refine lc_out hw (fun σ2 H2 Nx => tYes σ2 H2 fun b H3 => if b = true then (iRng1 (ta X.K X.mg W0 a1)) σ2 H3 fun J1 H4 => ∃ W1 : Nat → Nat → Hp → Prop, (∃ m, W1 0 m H4) ∧ ∀ j k H, W1 j k H →
      (J1.stop j H ∧ Nx H) ∨ (J1.go j H ∧ ∃ Nx1 : Hp → Prop, (∀ H', Nx1 H' → ∃ k', k' < k ∧ W1 (j + 1) k' H') ∧ ∀ x H', J1.yld j H x H' → hg1' x (wipe σ2 vs1) H' fun σ3 H5 => wipe σ3 vs1 = wipe σ2 vs1 ∧ tYes σ3 H5 fun b H6 =>
        if b = true then (te X.K X.mg W0 m) σ3 H6 fun y H7 => ∃ acc, H7 D = some (.lst acc) ∧ acc.length < sizeLine ∧ Nx1 (upd H7 D (.lst (acc ++ [y]))) else Nx1 H6)
    else Nx H3) (fun i H' => ∃ μ2 S2 acc ws, Sp1 μ1 S1.length H1 μ2 S2.length H' ∧ RS X.K (more R D) H' μ2 S2 ∧ DRo X.K (more R D) H' μ2 S2.length σ env ∧ H' D = some (.lst ws) ∧ DRs X.K (more R D) H' μ2 S2.length ws acc ∧
    compLoop2 chk g a1 vs1 g1 m (wipeE env vs) (items.drop i) acc S2 = fo) ?_ ?_ ?_ ?_
  · exact ⟨μ1, S1, [], [], sp_new hD, rs_more hD rs1, en1.re (le_more hD) (fun _ _ => rfl) (Nat.le_refl _), upd_same, .nil, hfo.symm⟩
  · exact fun i H' _ ⟨μ2, S2, acc, ws, s2, rs2, _, _, _, e2⟩ => hG (more R D) μ2 S2 H' (fun a z => z.elim .inl fun e => .inr (by rw [e]; exact hD)) s2 rs2 (comp_chk2 (by rw [e2]; exact nb))
  · rintro i x H2 H3 hi ⟨μ2, S2, acc, ws, s2, rs2, en2, hp2, dr2, e2⟩ y
    have e0 : items[i]? = some items[i] := by simp [hi]
    have ed : items.drop i = items[i] :: items.drop (i + 1) := by rw [List.drop_eq_getElem_cons hi]
    have ck := comp_chk2 (chk := chk) (by rw [e2]; exact nb)
    obtain ⟨s3, rs3, dx⟩ := hY (more R D) i _ μ2 S2 H2 x H3 (fun a z => z.elim .inl fun e => .inr (by rw [e]; exact hD)) e0 s2 rs2 ck y
    have hp3 : H3 D = some (.lst ws) := s3.hp.keep D _ hp2 (rs2.res D (.inr rfl)).2
    have en3 := en2.mono s3
    have dr3 := dr2.mono s3
    have s13 := s2.trans s3
    rw [ed] at e2
    unfold compLoop2 at e2
    rw [if_pos ck] at e2
    cases e4 : g items[i] (wipeE env vs) with
    | none => rw [e4] at e2; exact absurd e2.symm nb
    | some env4 =>
      rw [e4] at e2
      dsimp only at e2
      refine hgc.run (more R D) μ2 S2 H3 σ (wipeE env vs) env4 x items[i] _ rs3 (DRo.wipe en3) dx e4 fun σ4 hw4 en4 => ⟨hw4, ?_⟩
      unfold tYes
      refine iteT ⟨more R D, μ2, env4, S2, ⟨rs3, en4, .nil⟩, ?_⟩
      cases e5 : a1 env4 S2 with
      | bad => rw [e5] at e2; exact absurd e2.symm nb
      | err _ _ => rw [e5] at e2; exact absurd e2.symm nb
      | ok ds S5 =>
        rw [e5] at e2
        intro μ5 H5 s5 rs5 vs5 dr5
        split at e2
        · rename_i j S5' ej
          cases ej
          by_cases hj : -(2 ^ 62) ≤ j ∧ j < 2 ^ 62
          · rw [if_pos hj] at e2
            refine ⟨j, drs_int1 dr5, hj.1, hj.2, ?_⟩
            obtain ⟨fo1, hfo1⟩ : ∃ fo1, fo1 = compLoop yes g1 bYes m (wipeE env4 vs1) (rangeD 0 j.toNat) acc S5 := ⟨_, rfl⟩
            rw [← hfo1] at e2
            have nb1 : fo1 ≠ .bad := fun z => by rw [z] at e2; exact nb e2.symm
            have hp5 : H5 D = some (.lst ws) := s5.hp.keep D _ hp3 (rs3.res D (.inr rfl)).2
            have ln : (rangeD 0 j.toNat).length = j.toNat := by unfold rangeD; rw [List.length_map, List.length_range]
            refine lc_out (walk_range (lo := 0) (n := j.toNat)) (fun σ3 H5 Nx1 => tYes σ3 H5 fun b H6 =>
              if b = true then (te X.K X.mg W0 m) σ3 H6 fun y H7 => ∃ acc, H7 D = some (.lst acc) ∧ acc.length < sizeLine ∧ Nx1 (upd H7 D (.lst (acc ++ [y]))) else Nx1 H6)
              (fun k H' => ∃ μ6 S6 acc6 ws6, Sp1 μ1 S1.length H1 μ6 S6.length H' ∧ RS X.K (more R D) H' μ6 S6 ∧ DRo X.K (more R D) H' μ6 S6.length σ env ∧ DRo X.K (more R D) H' μ6 S6.length σ4 env4 ∧ H' D = some (.lst ws6) ∧ DRs X.K (more R D) H' μ6 S6.length ws6 acc6 ∧
                compLoop yes g1 bYes m (wipeE env4 vs1) ((rangeD 0 j.toNat).drop k) acc6 S6 = fo1) ?_ (fun _ _ _ _ => trivial) ?_ ?_
            · exact ⟨μ5, S5, acc, ws, s13.trans s5, rs5, en3.mono s5, en4.mono s5, hp5, dr3.mono s5, hfo1.symm⟩
            · rintro k x6 H6 H6' hk ⟨μ6, S6, acc6, ws6, s6, rs6, en6, en6', hp6, dr6, e6⟩ y6
              obtain ⟨rfl, hx6⟩ := y6
              have hk' : k < (rangeD 0 j.toNat).length := by rw [ln]; exact hk
              have ed6 : (rangeD 0 j.toNat).drop k = (rangeD 0 j.toNat)[k] :: (rangeD 0 j.toNat).drop (k + 1) := by rw [List.drop_eq_getElem_cons hk']
              have it6 := range_at hk'
              rw [ed6, it6] at e6
              unfold compLoop at e6
              rw [if_pos (show yes S6 = true from rfl)] at e6
              cases e7 : g1 (.p (.int (0 + (k : Int)))) (wipeE env4 vs1) with
              | none => rw [e7] at e6; exact absurd e6.symm nb1
              | some env7 =>
                rw [e7] at e6
                dsimp only at e6
                have dx6 : DR X.K (more R D) H6' μ6 S6.length x6 (.p (.int (0 + (k : Int)))) := by
                  rw [hx6]
                  exact .p (.int _)
                refine hgc1.run (more R D) μ6 S6 H6' σ4 (wipeE env4 vs1) env7 x6 _ _ rs6 (DRo.wipe en6') dx6 e7 fun σ7 hw7 en7 => ⟨hw7, ?_⟩
                unfold tYes
                have e6' : (match m env7 S6 with | .ok y S2 => if acc6.length < sizeLine then compLoop yes g1 bYes m (wipeE env4 vs1) ((rangeD 0 j.toNat).drop (k + 1)) (acc6 ++ [y]) S2 else .bad | _ => (.bad : Ot (List Mi.D))) = fo1 := e6
                refine iteT ⟨more R D, μ6, env7, S6, ⟨rs6, en7, .nil⟩, ?_⟩
                cases e8 : m env7 S6 with
                | bad => rw [e8] at e6'; exact absurd e6'.symm nb1
                | err _ _ => rw [e8] at e6'; exact absurd e6'.symm nb1
                | ok y8 S8 =>
                  rw [e8] at e6'
                  dsimp only at e6'
                  intro μ8 H8 s8 rs8 v8 dr8
                  have hp8 : H8 D = some (.lst ws6) := s8.hp.keep D _ hp6 (rs6.res D (.inr rfl)).2
                  by_cases hz : acc6.length < sizeLine
                  · rw [if_pos hz] at e6'
                    have dr8' := (dr6.mono s8).append (.cons dr8 .nil)
                    have l8 := le_res (μ := μ8) (n := S8.length) (ys := ws6 ++ [v8]) (R := more R D) (.inr rfl) hp8
                    refine ⟨ws6, hp8, by rw [dr6.len]; exact hz, μ8, S8, acc6 ++ [y8], ws6 ++ [v8], sp_res hD (s6.trans s8), rs_res (.inr rfl) hp8 rs8, (en6.mono s8).re l8 (fun _ _ => rfl) (Nat.le_refl _), (en6'.mono s8).re l8 (fun _ _ => rfl) (Nat.le_refl _), upd_same, dr8'.re l8 (fun _ _ => rfl) (Nat.le_refl _), e6'⟩
                  · rw [if_neg hz] at e6'
                    exact absurd e6'.symm nb1
            · rintro H6 ⟨μ6, S6, acc6, ws6, s6, rs6, en6, en6', hp6, dr6, e6⟩
              have : (rangeD 0 j.toNat).drop j.toNat = [] := List.drop_eq_nil_of_le (by rw [ln]; exact Nat.le_refl _)
              rw [this] at e6
              unfold compLoop at e6
              rw [if_pos (show yes S6 = true from rfl)] at e6
              rw [← e6] at e2
              exact ⟨μ6, S6, acc6, ws6, s6, rs6, en6, hp6, dr6, e2⟩
          · rw [if_neg hj] at e2
            exact absurd e2.symm nb
        · exact absurd e2.symm nb
  · rintro H2 ⟨μ2, S2, acc, ws, s2, rs2, en2, hp2, dr2, e2⟩
    have ck := comp_chk2 (chk := chk) (by rw [e2]; exact nb)
    rw [List.drop_length] at e2
    unfold compLoop2 at e2
    rw [if_pos ck] at e2
    rw [← e2] at q
    have q3 : Po X.K X.mg W R μ1 S1 H1 σ env (keptAs mu acc S2) Q := q
    exact kept_ok rfl hD nR s2 rs2 hp2 dr2 q3
/-- y = [e for x in it for z in range(n)] -/
theorem ms_setComp2 {mu : Bool} {i : Nat} {y : Str} {py spos : Pos} (hc : X.calm = true) (hN : X.N.Nodup) (hy : X.N[i]? = some y) (hyl : X.env.scope.names.lookup y = some .local)
    (hsw : swapsWith (.ListComp elt [⟨tgt, iter, [], 0⟩, ⟨tgt1, .Call (.Name "range" rp) [e1] [] rpos, [], 0⟩] scope pos) (some (.Name y py)) spos.line X.env = pure true) (hi : MI X W tgt iter im) (ok : BlkOk X.N X.env.scope scope own) (hv : ∀ i ∈ vs1, i ∈ own.map (·.2)) (hgc : GC X.K g hg' (own.map (·.2))) (hgc1 : GC X.K g1 hg1' vs1)
    (hg : ∀ (s : Shared) (H : Hp) (C : Addr) (cl : List (Str × Addr)) (fp : List Addr), PG (X.blk s H scope (compEnvC scope cl C X.env) fp) tgt hg')
    (hm : X.mg "range" = none) (hgl : ∀ (s : Shared) (H : Hp) (C : Addr) (cl : List (Str × Addr)) (fp : List Addr), Gl (X.blk s H scope (compEnvC scope cl C X.env) fp) "range" := by intro _ _ _ _ _; rfl)
    (ha : ∀ (s : Shared) (H : Hp) (C : Addr) (cl : List (Str × Addr)) (fp : List Addr), PA (X.blk s H scope (compEnvC scope cl C X.env) fp) [e1] (ta X.K X.mg W0 a1))
    (hse : ∀ (s : Shared) (H : Hp) (C : Addr) (cl : List (Str × Addr)) (fp : List Addr), starEach [e1] (X.blk s H scope (compEnvC scope cl C X.env) fp).env = [(false, eval e1 (X.blk s H scope (compEnvC scope cl C X.env) fp).env)])
    (hg1 : ∀ (s : Shared) (H : Hp) (C : Addr) (cl : List (Str × Addr)) (fp : List Addr), PG (X.blk s H scope (compEnvC scope cl C X.env) fp) tgt1 hg1')
    (he : ∀ (s : Shared) (H : Hp) (C : Addr) (cl : List (Str × Addr)) (fp : List Addr), PE (X.blk s H scope (compEnvC scope cl C X.env) fp) elt (te X.K X.mg W0 m)) (hs : ∀ x, foldedSetIterable iter X.env x = pure x := by intro _; rfl) (hs1 : ∀ env x, foldedSetIterable (.Call (.Name "range" rp) [e1] [] rpos) env x = pure x := by intro _ _; rfl) :
    PS X (.Assign [.Name y py] (.ListComp elt [⟨tgt, iter, [], 0⟩, ⟨tgt1, .Call (.Name "range" rp) [e1] [] rpos, [], 0⟩] scope pos) spos) (ts X.K X.mg W (sAsg (eComp2 mu im (own.map (·.2)) g a1 vs1 g1 m) (gN i))) := by
  obtain ⟨wi, hpi, hti⟩ := hi
  refine (ps_setLc2 hc hN hy hyl hsw hpi ok hv hg (fun _ _ _ _ _ => pts_nil) (fun s H C cl fp => pi_range1 (hgl s H C cl fp) hm (ha s H C cl fp) (hse s H C cl fp)) hg1 (fun _ _ _ _ _ => pts_nil) he hs hs1).w fun D σ H ⟨R, μ, env, S, r, h⟩ => ?_
  refine lc2_coreM (mu := mu) (Q := fun v H1 => D.nx (σ.set i (some v)) H1) hti hgc hgc1 ⟨R, μ, env, S, r, ?_⟩
  exact pg_mono (pz_then h) fun μ1 H1 S1 d s1 rs1 p v dr => pz_nx p ⟨rs1, (r.en.mono s1).set dr i, .nil⟩
end
end Mi

/-! Mi50 -/
set_option Elab.async false
set_option linter.all false
set_option maxRecDepth 100000
set_option maxHeartbeats 1000000
set_option autoImplicit false
namespace Mi
open PySem PySem.Spec PyProof.Rows L2

/-! ### what may be a cell or plain, compared -/
def eqX (neg : Bool) : D → D → Sto → Ot D
  | .loc i, y, S => eqC neg (.loc i) y S
  | .p a, y, S => eqD neg (.p a) y S
  | .scr _, _, _ => .bad
theorem eqX_ok {K : PySem.W.Frag} {mg : Str → Option Value} {W : WX} {neg : Bool} : Op2 K mg W (eqX neg) (rEqN K neg) := by
  intro R μ H S σ env x y dx dy Q r h
  cases dx with
  | loc i => exact eqC_ok R μ H S σ env x y _ dy Q r h
  | p a => exact eqD_ok R μ H S σ env x y _ dy Q r h
  | scr _ => exact h.elim
end Mi

/-! Mi51 -/
set_option Elab.async false
set_option linter.all false
set_option maxRecDepth 100000
set_option maxHeartbeats 4000000
set_option autoImplicit false
namespace Mi
open PySem PySem.Spec PyProof.Rows L2

/-! ### instances of own classes, as cells -/
def cellI (S : Sto) (t i : Nat) : Option (List (Str × D)) := match S[i]? with
  | some (.ins t' fs) => if t' = t then some fs else none
  | _ => none
theorem cellI_some {S : Sto} {t i : Nat} {fs : List (Str × D)} (h : cellI S t i = some fs) : S[i]? = some (.ins t fs) := by
  unfold cellI at h
  split at h
  · rename_i t' fs' e
    by_cases q : t' = t
    · rw [if_pos q] at h
      cases h
      rw [← q]
      exact e
    · rw [if_neg q] at h
      cases h
  · cases h
def putD (f : Str) (v : D) : List (Str × D) → List (Str × D)
  | [] => [(f, v)]
  | (g, x) :: r => if g = f then (g, v) :: r else (g, x) :: putD f v r
section
variable {K : PySem.W.Frag} {R : Addr → Prop} {H : Hp} {μ : Nat → Addr} {n : Nat}
theorem fs_get {f : Str} : ∀ {kvs : List (Str × V)} {kds : List (Str × D)} {d : D}, DKv K R H μ n kvs kds → kds.lookup f = some d → ∃ v, kvs.lookup f = some v ∧ DR K R H μ n v d
  | [], [], _, _, e => by cases e
  | [], _ :: _, _, g, _ => by cases g.1
  | _ :: _, [], _, g, _ => by cases g.1
  | (k, v) :: r, (k', d') :: r', d, ⟨g1, g2⟩, e => by
    obtain ⟨h1, h2⟩ := List.cons.inj g1
    dsimp only at h1
    subst h1
    cases g2 with
    | cons a b =>
      cases q : f == k with
      | true =>
        have e1 : some d' = some d := by
          rw [← e]
          show _ = List.lookup f ((k, d') :: r')
          simp only [List.lookup, q]
        cases e1
        exact ⟨v, by simp only [List.lookup, q], a⟩
      | false =>
        have e1 : r'.lookup f = some d := by
          rw [← e]
          show _ = List.lookup f ((k, d') :: r')
          simp only [List.lookup, q]
        obtain ⟨w, w1, w2⟩ := fs_get (kvs := r) (kds := r') ⟨h2, b⟩ e1
        exact ⟨w, by simp only [List.lookup, q]; exact w1, w2⟩
theorem fs_no {f : Str} : ∀ {kvs : List (Str × V)} {kds : List (Str × D)}, DKv K R H μ n kvs kds → kds.lookup f = none → kvs.lookup f = none
  | [], [], _, _ => rfl
  | [], _ :: _, g, _ => by cases g.1
  | _ :: _, [], g, _ => by cases g.1
  | (k, v) :: r, (k', d') :: r', ⟨g1, g2⟩, e => by
    obtain ⟨h1, h2⟩ := List.cons.inj g1
    dsimp only at h1
    subst h1
    cases g2 with
    | cons a b =>
      cases q : f == k with
      | true =>
        have e1 : some d' = none := by
          rw [← e]
          show _ = List.lookup f ((k, d') :: r')
          simp only [List.lookup, q]
        cases e1
      | false =>
        have e1 : r'.lookup f = none := by
          rw [← e]
          show _ = List.lookup f ((k, d') :: r')
          simp only [List.lookup, q]
        have w1 := fs_no (kvs := r) (kds := r') ⟨h2, b⟩ e1
        show List.lookup f ((k, v) :: r) = none
        simp only [List.lookup, q]
        exact w1
theorem fs_put {f : Str} {v : V} {d : D} (hd : DR K R H μ n v d) : ∀ {kvs : List (Str × V)} {kds : List (Str × D)}, DKv K R H μ n kvs kds → DKv K R H μ n (putF f v kvs) (putD f d kds)
  | [], [], _ => ⟨rfl, .cons hd .nil⟩
  | [], _ :: _, g => by cases g.1
  | _ :: _, [], g => by cases g.1
  | (k, w) :: r, (k', d') :: r', ⟨g1, g2⟩ => by
    obtain ⟨h1, h2⟩ := List.cons.inj g1
    dsimp only at h1
    subst h1
    cases g2 with
    | cons a b =>
      obtain ⟨i1, i2⟩ := fs_put (f := f) hd (kvs := r) (kds := r') ⟨h2, b⟩
      show DKv K R H μ n (if k = f then (k, v) :: r else (k, w) :: putF f v r) (if k = f then (k, d) :: r' else (k, d') :: putD f d r')
      by_cases q : k = f
      · rw [if_pos q, if_pos q]
        exact ⟨by show k :: r.map (·.1) = k :: r'.map (·.1); rw [h2], .cons hd b⟩
      · rw [if_neg q, if_neg q]
        exact ⟨by show k :: (putF f v r).map (·.1) = k :: (putD f d r').map (·.1); rw [i1], .cons a i2⟩
theorem putD_lowb {f : Str} {d : D} {i : Nat} (hd : d.lowb i = true) : ∀ {fs : List (Str × D)}, (fs.map (·.2)).all (D.lowb i) = true → ((putD f d fs).map (·.2)).all (D.lowb i) = true
  | [], _ => by show (d.lowb i && true) = true; rw [hd]; rfl
  | (k, x) :: r, h => by
    obtain ⟨h1, h2⟩ := Bool.and_eq_true_iff.mp (show (x.lowb i && (r.map (·.2)).all (D.lowb i)) = true from h)
    show ((if k = f then (k, d) :: r else (k, x) :: putD f d r).map (·.2)).all (D.lowb i) = true
    by_cases q : k = f
    · rw [if_pos q]
      show (d.lowb i && (r.map (·.2)).all (D.lowb i)) = true
      rw [hd, h2]
      rfl
    · rw [if_neg q]
      show (x.lowb i && ((putD f d r).map (·.2)).all (D.lowb i)) = true
      rw [h1, putD_lowb hd h2]
      rfl
end
/-- o.f, an attribute -/
def fldF (t : Nat) (f : Str) : D → Sto → Ot D
  | .loc i, S => match cellI S t i with
    | some fs => match fs.lookup f with
      | some d => .ok d S
      | none => .bad
    | none => .bad
  | _, _ => .bad
def eFld (t : Nat) (f : Str) (m : EM) : EM := fun env S => (m env S).bind (fldF t f)
/-- o.f = v -/
def setI (t : Nat) (f : Str) : D → D → Sto → Option Sto
  | .loc i, v, S => match cellI S t i with
    | some fs => if fs.length < 1000 ∧ v.lowb i = true then some (S.set i (.ins t (putD f v fs))) else none
    | none => none
  | _, _, _ => none
def sSetF (t : Nat) (f : Str) (mo mv : EM) : SM := fun env S => (mv env S).then env fun v S1 => (mo env S1).then env fun o S2 => match setI t f o v S2 with
  | some S3 => .nx env S3
  | none => .bad
/-- an instance without the attribute f (a method's name) -/
def isI (t : Nat) (f : Str) : D → Sto → Bool
  | .loc i, S => match cellI S t i with
    | some fs => (fs.lookup f).isNone
    | none => false
  | _, _ => false
/-- the class of the number t, in the text -/
structure ClsX (K : PySem.W.Frag) (t : Nat) (C : Addr) : Prop where
  at_ : PySem.W.nsIn K mainGlobals (clsN t) = some (some (.ref C))
  cl : Cls K C
theorem cell_ins {K : PySem.W.Frag} {R : Addr → Prop} {H : Hp} {μ : Nat → Addr} {S : Sto} {t i : Nat} {fds : List (Str × D)} {C : Addr} (rs : RS K R H μ S) (c : ClsX K t C) (h : cellI S t i = some fds) :
    ∃ dx fs, H (μ i) = some (.ins C dx fs) ∧ DKv K R H μ S.length fs fds := by
  obtain ⟨fs, ⟨C', dx, hC, h1⟩, h2⟩ := rs.cell _ _ (cellI_some h)
  have e := hC.symm.trans c.at_
  cases e
  exact ⟨dx, fs, h1, h2⟩
section
variable {X : Cx} {W : WX} {e o value : Expr} {m mo mv : EM} {pos pos' : Pos} {t : Nat} {f : Str} {C : Addr}
theorem me_fld (c : ClsX X.K t C) (n : NoAttr X.K C f) (he : PE X e (te X.K X.mg W m)) (hb : attributeBase e f X.env (eval e X.env) = eval e X.env := by rfl) : PE X (.Attribute e f pos) (te X.K X.mg W (eFld t f m)) := by
  refine (pe_fld he hb).w fun σ H Q ⟨R, μ, env, S, r, h⟩ => ⟨R, μ, env, S, r, ?_⟩
  refine pg_mono (pg_bind h) fun μ1 H1 S1 d s1 rs1 q v dr => ?_
  cases dr with
  | p _ => exact q.elim
  | scr _ => exact q.elim
  | @loc i hi =>
    unfold fldF at q
    dsimp only at q
    cases e1 : cellI S1 t i with
    | none => rw [e1] at q; exact q.elim
    | some fds =>
      rw [e1] at q
      dsimp only at q
      cases e2 : fds.lookup f with
      | none => rw [e2] at q; exact q.elim
      | some d =>
        rw [e2] at q
        obtain ⟨dx, fs, h1, h2⟩ := cell_ins rs1 c e1
        obtain ⟨v, v1, v2⟩ := fs_get h2 e2
        exact ⟨μ1 i, C, dx, fs, v, rfl, h1, c.cl, n, v1, po_ok q rs1 v2⟩
theorem ms_setF (c : ClsX X.K t C) (n : NoAttr X.K C f) (ho : PE X o (te X.K X.mg W mo)) (hv : PE X value (te X.K X.mg W mv)) (hs : swapsWith value (some (.Attribute o f pos')) pos.line X.env = pure false := by rfl) :
    PS X (.Assign [.Attribute o f pos'] value pos) (ts X.K X.mg W (sSetF t f mo mv)) := by
  refine (ps_fld ho hv hs).w fun D σ H ⟨R, μ, env, S, r, h⟩ => ⟨R, μ, env, S, r, ?_⟩
  refine pg_mono (pz_then h) fun μ1 H1 S1 dv s1 rs1 q1 v drv => ⟨R, μ1, env, S1, r.mono s1 rs1, ?_⟩
  refine pg_mono (pz_then q1) fun μ2 H2 S2 dx s2 rs2 q2 x drx => ?_
  cases drx with
  | p _ => exact q2.elim
  | scr _ => exact q2.elim
  | @loc i hi =>
    cases e : setI t f (.loc i) dv S2 with
    | none => rw [e] at q2; exact q2.elim
    | some S4 =>
      rw [e] at q2
      unfold setI at e
      dsimp only at e
      cases e1 : cellI S2 t i with
      | none => rw [e1] at e; cases e
      | some fds =>
        rw [e1] at e
        dsimp only at e
        by_cases hz : fds.length < 1000 ∧ dv.lowb i = true
        · rw [if_pos hz] at e
          cases e
          obtain ⟨dx, fs, h1, h2⟩ := cell_ins rs2 c e1
          have hlen : fs.length = fds.length := by
            have := congrArg List.length h2.1
            rw [List.length_map, List.length_map] at this
            exact this
          have sp : Sp1 μ2 S2.length H2 μ2 S2.length (upd H2 (μ2 i) (.ins C dx (putF f v fs))) := le_cell hi (fun ob u q => by rw [h1] at q; cases q) (fun u q => by rw [h1] at q; cases q)
          have rs4 := rs_set rs2 (cellI_some e1) sp (c' := .ins t (putD f dv fds)) ⟨_, ⟨C, dx, c.at_, upd_same⟩, (fs_put (drv.mono s2) h2).mono sp⟩ (putD_lowb hz.2 (rs2.low _ _ (cellI_some e1)))
          have s4 : Sp1 μ2 S2.length H2 μ2 (S2.set i (.ins t (putD f dv fds))).length (upd H2 (μ2 i) (.ins C dx (putF f v fs))) := by rw [List.length_set]; exact sp
          have r4 : RL X.K R μ2 _ _ σ env [] [] := ((r.mono s1 rs1).mono s2 rs2).mono s4 rs4
          exact ⟨μ2 i, C, dx, fs, rfl, h1, c.cl, n, by rw [hlen]; exact hz.1, q2 μ2 _ σ s4 r4⟩
        · rw [if_neg hz] at e
          cases e
end
/-! ### a method that may be called -/
def CallM (P : Program) (w : World) (K : PySem.W.Frag) (mg : Str → Option Value) (base : Heap) (k : Nat) (C : Addr) (x : Str) (ps : List Str) (fm : FM) : Prop :=
  ∃ f fd, Meth K C x f ∧ Binds K fd ps [] ∧ FnG P w K mg base k f fd ps (spF K mg ps.length fm) ∧ ∀ ds S, ds.length ≠ ps.length → fm ds S = .bad
def eMeth (t : Nat) (x : Str) (fm : FM) (mo : EM) (a : AM) : EM := fun env S => (mo env S).bind fun o S1 => if isI t x o S1 = true then (a env S1).bind fun ds S2 => fm (o :: ds) S2 else .bad
def tMethG (C : Addr) (m : Str) (sp : Sp) (W : WX) (ta : TE) (t : TA) : TE := fun σ H Q => ta σ H fun x H1 => ∃ a dx fs, x = .ref a ∧ H1 a = some (.ins C dx fs) ∧ fs.lookup m = none ∧
  t σ H1 fun vs H2 => sp (x :: vs) H2 Q (EAt W σ)
section
variable {X : Cx} {k : Nat} {f C : Addr} {fd : FuncData} {ps : List Str} {sp : Sp} {W : WX} {x : Str} {p pos apos : Pos} {o e : Expr} {es : List Expr} {tt0 : TE} {t : TA}
theorem pe_methG {pl : Sem Bool} (he : PE X o tt0) (c : Cls X.K C) (hm : Meth X.K C x f) (F : FnG X.prog X.w X.K X.mg X.base k f fd ps sp) (hgd : X.A.guards = some []) (hr : Room k X.A) (hb : Binds X.K fd ps []) (tk : L2.Takes X W)
    (ha : PA X (e :: es) t) (hst : starEach (e :: es) X.env = (false, eval e X.env) :: starEach es X.env) (hpl : (backTo pos (starEach es X.env)).any (·.1) = false)
    (ht : eval (.Call (.Attribute o x apos) (e :: es) [] pos) X.env = (do
      let ov ← eval o X.env
      standAt apos.atName
      let (f, first) ← holding [ov] (getMethod ov x pl)
      callWith pos f first (backTo pos (starEach (e :: es) X.env)) (backToKw pos (keywordEach [] X.env)))) :
    PE X (.Call (.Attribute o x apos) (e :: es) [] pos) (tMethG C x sp W tt0 t) := by
  refine ⟨fun pins s σ H Q I h => ?_⟩
  refine PySem.W.methodCall_KW (pl := pl) (thn (he.run pins s σ H _ I h) fun u s1 ⟨x, H1, I1, rx, a, dx, fs, ex, ea, l, q⟩ => ?_) ht
  subst ex
  obtain rfl : u = Value.ref a := rx
  refine getmeth_ok I1 ea c hm l ?_
  refine PySem.W.callWith_K (first := [.ref a]) (h₀ := X.base) I.ok.mod.kin hm.kp (thn (ha.run pos pins s1 σ H1 _ I1 q) fun us s2 ⟨vs, H2, I2, r, q2⟩ => ⟨I2.kIn, ?_⟩) hst hpl
  exact run_g (us := .ref a :: us) (vs := .ref a :: vs) F hgd hr hb tk I2 (.cons rfl r) q2
theorem pe_methG0 {pl : Sem Bool} (he : PE X o tt0) (c : Cls X.K C) (hm : Meth X.K C x f) (F : FnG X.prog X.w X.K X.mg X.base k f fd ps sp) (hgd : X.A.guards = some []) (hr : Room k X.A) (hb : Binds X.K fd ps []) (tk : L2.Takes X W)
    (ht : eval (.Call (.Attribute o x apos) [] [] pos) X.env = (do
      let ov ← eval o X.env
      standAt apos.atName
      let (f, first) ← holding [ov] (getMethod ov x pl)
      callWith pos f first (backTo pos (starEach [] X.env)) (backToKw pos (keywordEach [] X.env)))) :
    PE X (.Call (.Attribute o x apos) [] [] pos) (tMethG C x sp W tt0 tNil) := by
  refine ⟨fun pins s σ H Q I h => ?_⟩
  refine PySem.W.methodCall_KW (pl := pl) (thn (he.run pins s σ H _ I h) fun u s1 ⟨x, H1, I1, rx, a, dx, fs, ex, ea, l, q⟩ => ?_) ht
  subst ex
  obtain rfl : u = Value.ref a := rx
  refine getmeth_ok I1 ea c hm l ?_
  exact PySem.W.callWith_K0 (first := [.ref a]) I1.kIn hm.kp (run_g (us := [.ref a]) (vs := [.ref a]) F hgd hr hb tk I1 (.cons rfl .nil) q)
end
theorem isI_ok {K : PySem.W.Frag} {R : Addr → Prop} {H : Hp} {μ : Nat → Addr} {S : Sto} {t : Nat} {x : Str} {C : Addr} {v : V} {d : D} (rs : RS K R H μ S) (c : ClsX K t C) (dr : DR K R H μ S.length v d) (h : isI t x d S = true) :
    ∃ a dx fs, v = .ref a ∧ H a = some (.ins C dx fs) ∧ fs.lookup x = none := by
  cases dr with
  | p _ => cases h
  | scr _ => cases h
  | @loc i hi =>
    unfold isI at h
    dsimp only at h
    cases e1 : cellI S t i with
    | none => rw [e1] at h; cases h
    | some fds =>
      rw [e1] at h
      obtain ⟨dx, fs, h1, h2⟩ := cell_ins rs c e1
      exact ⟨_, dx, fs, rfl, h1, fs_no h2 (Option.isNone_iff_eq_none.mp h)⟩
section
variable {X : Cx} {k : Nat} {C : Addr} {ps : List Str} {W : WX} {x : Str} {p pos apos : Pos} {o e : Expr} {es : List Expr} {aa : AM} {mo : EM} {fm : FM} {t : Nat}
theorem me_meth {pl : Sem Bool} (h : CallM X.prog X.w X.K X.mg X.base k C x ps fm) (c : ClsX X.K t C) (hgd : X.A.guards = some []) (hr : Room k X.A) (tk : L2.Takes X W) (ho : PE X o (te X.K X.mg W mo)) (ha : PA X (e :: es) (ta X.K X.mg W aa))
    (hst : starEach (e :: es) X.env = (false, eval e X.env) :: starEach es X.env := by rfl) (hpl : (backTo pos (starEach es X.env)).any (·.1) = false := by rfl)
    (ht : eval (.Call (.Attribute o x apos) (e :: es) [] pos) X.env = (do
      let ov ← eval o X.env
      standAt apos.atName
      let (f, first) ← holding [ov] (getMethod ov x pl)
      callWith pos f first (backTo pos (starEach (e :: es) X.env)) (backToKw pos (keywordEach [] X.env))) := by rfl) :
    PE X (.Call (.Attribute o x apos) (e :: es) [] pos) (te X.K X.mg W (eMeth t x fm mo aa)) := by
  obtain ⟨f, fd, hm, hb, F, hx⟩ := h
  refine (pe_methG ho c.cl hm F hgd hr hb tk ha hst hpl ht).w fun σ H Q ⟨R, μ, env, S, r, h⟩ => ⟨R, μ, env, S, r, ?_⟩
  refine po_mono (po_bind r h) fun v H1 ⟨μ1, S1, d1, r1, h1⟩ => ?_
  obtain ⟨v', ws, e1, hv, _⟩ := drs_cons r1.tm
  cases e1
  by_cases hc : isI t x d1 S1 = true
  · rw [if_pos hc] at h1
    obtain ⟨a, dx, fs, e2, ea, l⟩ := isI_ok r1.rs c hv hc
    refine ⟨a, dx, fs, e2, ea, l, R, μ1, env, S1, r1.drop, ?_⟩
    refine poa_mono (poa_bind r1 h1) fun xs H2 ⟨μ2, S2, ds, r2, dr2, h2⟩ => ?_
    obtain ⟨v2, ws2, e3, hv2, _⟩ := drs_cons r2.tm
    cases e3
    by_cases hl : (d1 :: ds).length = ps.length
    · exact spf_po r2.drop (.cons hv2 dr2) ((DRs.len (.cons hv2 dr2)).trans hl) h2
    · rw [hx (d1 :: ds) S2 hl] at h2
      exact h2.elim
  · rw [if_neg hc] at h1
    exact h1.elim
theorem me_meth0 {pl : Sem Bool} (h : CallM X.prog X.w X.K X.mg X.base k C x ps fm) (c : ClsX X.K t C) (hgd : X.A.guards = some []) (hr : Room k X.A) (tk : L2.Takes X W) (ho : PE X o (te X.K X.mg W mo))
    (ht : eval (.Call (.Attribute o x apos) [] [] pos) X.env = (do
      let ov ← eval o X.env
      standAt apos.atName
      let (f, first) ← holding [ov] (getMethod ov x pl)
      callWith pos f first (backTo pos (starEach [] X.env)) (backToKw pos (keywordEach [] X.env))) := by rfl) :
    PE X (.Call (.Attribute o x apos) [] [] pos) (te X.K X.mg W (eMeth t x fm mo aNil)) := by
  obtain ⟨f, fd, hm, hb, F, hx⟩ := h
  refine (pe_methG0 ho c.cl hm F hgd hr hb tk ht).w fun σ H Q ⟨R, μ, env, S, r, h⟩ => ⟨R, μ, env, S, r, ?_⟩
  refine po_mono (po_bind r h) fun v H1 ⟨μ1, S1, d1, r1, h1⟩ => ?_
  obtain ⟨v', ws, e1, hv, _⟩ := drs_cons r1.tm
  cases e1
  by_cases hc : isI t x d1 S1 = true
  · rw [if_pos hc] at h1
    obtain ⟨a, dx, fs, e2, ea, l⟩ := isI_ok r1.rs c hv hc
    refine ⟨a, dx, fs, e2, ea, l, ?_⟩
    by_cases hl : ([d1] : List D).length = ps.length
    · exact spf_po r1.drop (.cons hv .nil) ((DRs.len (.cons hv .nil)).trans hl) h1
    · have h2 : Po X.K X.mg W R μ1 S1 H1 σ env (fm [d1] S1) Q := h1
      rw [hx [d1] S1 hl] at h2
      exact h2.elim
  · rw [if_neg hc] at h1
    exact h1.elim
end
end Mi

/-! Mi52 -/
set_option Elab.async false
set_option linter.all false
set_option maxRecDepth 100000
set_option maxHeartbeats 4000000
set_option autoImplicit false
namespace Mi
open PySem PySem.Spec PyProof.Rows L2

/-! ### later -/
section
variable {K : PySem.W.Frag} {R : Addr → Prop} {mg : Str → Option Value} {W : WX} {μ μ' : Nat → Addr} {H H' : Hp} {S S' : Sto} {σ : L2.St} {env : Envr} {α : Type}
theorem pg_fwd {o : Ot α} {P : (Nat → Addr) → Hp → Sto → α → Prop} (s : Sp1 μ S.length H μ' S'.length H') (h : Pg K mg W R μ S H σ env o P) : Pg K mg W R μ' S' H' σ env o P := by
  cases o with
  | bad => exact h
  | err e S1 => exact fun μ2 H2 cls dd s2 rl er => h μ2 H2 cls dd (s.trans s2) rl er
  | ok a S1 => exact fun μ2 H2 s2 rs2 => h μ2 H2 (s.trans s2) rs2
end
def noErr : Ot D → Ot D
  | .ok d S => .ok d S
  | _ => .bad
def isC (t : Nat) : D → Sto → Bool
  | .loc i, S => (cellI S t i).isSome
  | _, _ => false
theorem isC_ok {K : PySem.W.Frag} {R : Addr → Prop} {H : Hp} {μ : Nat → Addr} {S : Sto} {t : Nat} {C : Addr} {v : V} {d : D} (rs : RS K R H μ S) (c : ClsX K t C) (dr : DR K R H μ S.length v d) (h : isC t d S = true) :
    ∃ a dx fs, v = .ref a ∧ H a = some (.ins C dx fs) := by
  cases dr with
  | p _ => cases h
  | scr _ => cases h
  | @loc i hi =>
    obtain ⟨fds, e1⟩ := Option.isSome_iff_exists.mp (show (cellI S t i).isSome = true from h)
    obtain ⟨dx, fs, h1, h2⟩ := cell_ins rs c e1
    exact ⟨_, dx, fs, rfl, h1⟩
/-- what a call that lets nothing out does -/
theorem spf_no {K : PySem.W.Frag} {R : Addr → Prop} {mg : Str → Option Value} {W : WX} {μ : Nat → Addr} {H : Hp} {S : Sto} {σ : L2.St} {env : Envr} {vs : List V} {ds : List D} {Q : VK} {n : Nat} {m : FM} (r : RS K R H μ S) (h : DRs K R H μ S.length vs ds) (hl : vs.length = n) (q : Po K mg W R μ S H σ env (noErr (m ds S)) Q) :
    spF K mg n m vs H Q (fun _ _ _ => False) := by
  refine ⟨hl, R, μ, S, ds, r, h, ?_⟩
  cases e : m ds S with
  | bad => rw [e] at q; exact q
  | err x S1 => rw [e] at q; exact q.elim
  | ok d S1 =>
    rw [e] at q
    exact fun μ' H' v s rs dr => q μ' H' s rs v dr

/-! ### a property -/
def CallP (P : Program) (w : World) (K : PySem.W.Frag) (mg : Str → Option Value) (base : Heap) (k : Nat) (C : Addr) (x : Str) (fm : FM) : Prop :=
  ∃ p g fd ps, PropOf K C x p g ∧ Binds K fd ps [] ∧ FnG P w K mg base k g fd ps (spF K mg 1 fm) ∧ ps.length = 1
def eProp (t : Nat) (fm : FM) (mo : EM) : EM := fun env S => (mo env S).bind fun o S1 => if isC t o S1 = true then noErr (fm [o] S1) else .bad
def tPropG (C : Addr) (sp : Sp) (ta : TE) : TE := fun σ H Q => ta σ H fun x H1 => ∃ a dx fs, x = .ref a ∧ H1 a = some (.ins C dx fs) ∧ sp [.ref a] H1 Q (fun _ _ _ => False)
section
variable {X : Cx} {k : Nat} {C p g a dx : Addr} {fs : List (Str × V)} {f : Str} {fd : FuncData} {ps : List Str} {sp : Sp} {e : Expr} {pos : Pos} {t0 : TE} {W : WX} {t : Nat} {mo : EM} {fm : FM}
theorem getprop_G {pins : List (Addr × Obj)} {σ : L2.St} {H : Hp} {s : Shared} {Q : VK} {b : Bool} {E' : Value → Shared → Prop} (I : Inv X pins σ H s) (ea : H a = some (.ins C dx fs)) (c : Cls X.K C) (hp : PropOf X.K C f p g)
    (F : FnG X.prog X.w X.K X.mg X.base k g fd ps sp) (hgd : X.A.guards = some []) (hr : Room (k + 1) X.A) (hb : Binds X.K fd ps []) (h : sp [.ref a] H Q (fun _ _ _ => False)) :
    wpAny (model X.prog X.w) X.A (getAttr (.ref a) f b) (EP X pins σ Q) E' s := by
  obtain ⟨mA, O, _, _, _, _⟩ := ins_get I.hok ea
  obtain ⟨od, J, _⟩ := O.look
  obtain ⟨rest, hrec⟩ := hp.rec_
  have I1 := I.tok (s.toks + 1)
  have hl : ([Value.ref a] ++ []).length = ps.length := by
    rw [← F.len _ _ _ _ h]
    rfl
  have hc : (PySem.W.clsIn X.K C).isSome = true := by
    obtain ⟨cd, hc, _⟩ := PySem.W.any_some c.hd
    rw [hc]
    rfl
  refine PySem.W.get_bind I.kIn J (PySem.W.plainGet_of (c.get f)).1 (PySem.W.findObj_data hc hp.at_ hp.get hp.tak) (PySem.W.plainGet_of (c.get f)).2 (wpAny_call (PySem.W.prop_get (s := { s with toks := s.toks + 1 }) I.kIn hrec ?_))
  refine codeAny_mono (F.go X.A.in1 X.stack { s with toks := s.toks + 1 } H ⟨[.ref a], []⟩ [.ref a] [.ref a] Q (fun _ _ _ => False) hgd hr.in1 I1.env0.in1 (hb _ [.ref a] I1.kIn hl) (.cons rfl .nil) h) fun r s' hq => ?_
  cases r with
  | error er =>
    obtain ⟨_, _, _, _, _, _, _, _, _, _, _, _, z⟩ := (show L2.CX X.prog X.w X.stack H { s with toks := s.toks + 1 } (fun _ _ _ => False) er s' from hq)
    exact z.elim
  | ok fl =>
    cases fl with
    | ret u =>
      obtain ⟨v, H', I3, rv, q3⟩ := I1.after hq
      show wpAny _ _ (handedOut u) _ _ _
      rw [PySem.W.handedOut_of (handed_of rv)]
      exact wpAny_pure ⟨v, H', I3, rv, q3⟩
    | next => exact False.elim hq
    | brk => exact False.elim hq
    | cont => exact False.elim hq
theorem pe_propG (he : PE X e t0) (c : Cls X.K C) (hp : PropOf X.K C f p g) (F : FnG X.prog X.w X.K X.mg X.base k g fd ps sp) (hgd : X.A.guards = some []) (hr : Room (k + 1) X.A) (hb : Binds X.K fd ps [])
    (hab : attributeBase e f X.env (eval e X.env) = eval e X.env) : PE X (.Attribute e f pos) (tPropG C sp t0) := by
  refine ⟨fun pins s σ H Q I h => ?_⟩
  refine attr_of hab (thn (he.run pins s σ H _ I h) fun u s1 ⟨x, H1, I1, rx, a, dx, fs, ex, ea, q⟩ => ?_)
  subst ex
  obtain rfl : u = Value.ref a := rx
  exact getprop_G I1 ea c hp F hgd hr hb q
theorem me_prop (h : CallP X.prog X.w X.K X.mg X.base k C f fm) (c : ClsX X.K t C) (hgd : X.A.guards = some []) (hr : Room (k + 1) X.A) (ho : PE X e (te X.K X.mg W mo)) (hab : attributeBase e f X.env (eval e X.env) = eval e X.env := by rfl) :
    PE X (.Attribute e f pos) (te X.K X.mg W (eProp t fm mo)) := by
  obtain ⟨p, g, fd, ps, hp, hb, F, hl⟩ := h
  refine (pe_propG ho c.cl hp F hgd hr hb hab).w fun σ H Q ⟨R, μ, env, S, r, h⟩ => ⟨R, μ, env, S, r, ?_⟩
  refine po_mono (po_bind r h) fun v H1 ⟨μ1, S1, d1, r1, h1⟩ => ?_
  obtain ⟨v', ws, e1, hv, _⟩ := drs_cons r1.tm
  cases e1
  by_cases hc : isC t d1 S1 = true
  · rw [if_pos hc] at h1
    obtain ⟨a, dx, fs, e2, ea⟩ := isC_ok r1.rs c hv hc
    subst e2
    exact ⟨a, dx, fs, rfl, ea, spf_no r1.rs (.cons hv .nil) rfl h1⟩
  · rw [if_neg hc] at h1
    exact h1.elim
end

/-! ### an instance made -/
def tMakeG (C : Addr) (sp : Sp) (W : WX) (t : TA) : TE := fun σ H Q => t σ H fun vs H1 => ∀ x dx, H1 x = none → H1 dx = none → dx ≠ x →
  sp (.ref x :: vs) (upd (upd H1 dx (.own x)) x (.ins C dx [])) (fun v H2 => v = .non ∧ Q (.ref x) H2) (EAt W σ)
def CallN (P : Program) (w : World) (K : PySem.W.Frag) (mg : Str → Option Value) (base : Heap) (k : Nat) (C : Addr) (ps : List Str) (fm : FM) : Prop :=
  ∃ f fd, Mk K C f ∧ Binds K fd ps [] ∧ FnG P w K mg base k f fd ps (spF K mg ps.length fm) ∧ ∀ ds S, ds.length ≠ ps.length → fm ds S = .bad
def eMake (t : Nat) (fm : FM) (a : AM) : EM := fun env S => (a env S).bind fun ds S1 => (fm (.loc S1.length :: ds) (S1 ++ [.ins t []])).bind fun d S2 => match d with
  | .p .none => .ok (.loc S1.length) S2
  | _ => .bad
section
variable {X : Cx} {k : Nat} {f C : Addr} {fd : FuncData} {ps : List Str} {sp : Sp} {W : WX} {x : Str} {p pos : Pos} {e : Expr} {es : List Expr} {ta0 : TA} {t : Nat} {aa : AM} {fm : FM}
theorem run_makeG {pins : List (Addr × Obj)} {σ : L2.St} {H : Hp} {s : Shared} {Q : VK} {us : List Value} {vs : List V} (M : Mk X.K C f) (F : FnG X.prog X.w X.K X.mg X.base k f fd ps sp) (hgd : X.A.guards = some []) (hr : Room (k + 1) X.A) (hb : Binds X.K fd ps []) (tk : L2.Takes X W)
    (I : Inv X pins σ H s) (r : Vals vs us)
    (h : ∀ x dx, H x = none → H dx = none → dx ≠ x → sp (.ref x :: vs) (upd (upd H dx (.own x)) x (.ins C dx [])) (fun v H2 => v = .non ∧ Q (.ref x) H2) (EAt W σ)) :
    wpAny (model X.prog X.w) X.A (call (.ref C) us) (EP X pins σ Q) X.xe s := by
  have hq := h (s.heap.objs.size + 1) s.heap.objs.size (I.hok.fresh (Nat.le_succ _)) (I.hok.fresh (Nat.le_refl _)) (Nat.ne_of_lt (Nat.lt_succ_self _))
  have I2 := Inv.made (C := C) I
  have r2 : Vals (V.ref (s.heap.objs.size + 1) :: vs) (Value.ref (s.heap.objs.size + 1) :: us) := .cons rfl r
  have hl : (Value.ref (s.heap.objs.size + 1) :: us ++ []).length = ps.length := by
    rw [List.append_nil, ← r2.length]
    exact F.len _ _ _ _ hq
  have bt := hb _ (Value.ref (s.heap.objs.size + 1) :: us) I2.kIn hl
  rw [List.append_nil] at bt
  refine wpAny_call (make_map (f := f) I.kIn M.makes M.init (beq_iff_eq.mp M.fn) (codeAny_mono (F.go _ X.stack _ _ ⟨Value.ref (s.heap.objs.size + 1) :: us, []⟩ (Value.ref (s.heap.objs.size + 1) :: us) _ _ (EAt W σ) ?_ (hr.make C us [])
    (I2.env0.make C us []) bt r2 hq) fun r s' hq' => ?_))
  · exact hgd
  · cases r with
    | error e => exact tk e s' (L2.XE.of_call I2 (fun _ _ _ z => z) hq')
    | ok fl =>
      cases fl with
      | ret u =>
        obtain ⟨v, H', I3, rv, ev, q3⟩ := I2.after hq'
        subst ev
        exact ⟨rv, ⟨V.ref (s.heap.objs.size + 1), H', I3, rfl, q3⟩⟩
      | next => exact False.elim hq'
      | brk => exact False.elim hq'
      | cont => exact False.elim hq'
theorem pe_makeG (M : Mk X.K C f) (F : FnG X.prog X.w X.K X.mg X.base k f fd ps sp) (hgd : X.A.guards = some []) (hr : Room (k + 1) X.A) (hg : Gl X x) (hm : X.mg x = some (.ref C)) (hb : Binds X.K fd ps []) (tk : L2.Takes X W)
    (ha : PA X (e :: es) ta0) (hdb : (x == ("__debug__" : Str)) = false) (he : starEach (e :: es) X.env = (false, eval e X.env) :: starEach es X.env) (hpl : (backTo pos (starEach es X.env)).any (·.1) = false) :
    PE X (.Call (.Name x p) (e :: es) [] pos) (tMakeG C sp W ta0) := by
  refine ⟨fun pins s σ H Q I h => ?_⟩
  refine wpAny_Call_Name_kw (ld_glob I hg hm ?_ hdb)
  refine PySem.W.callWith_K (h₀ := X.base) I.ok.mod.kin M.kp (thn (ha.run pos pins s σ H _ I h) fun us s1 ⟨vs, H1, I1, r, q⟩ => ⟨I1.kIn, ?_⟩) he hpl
  exact run_makeG M F hgd hr hb tk I1 r q
theorem me_make (h : CallN X.prog X.w X.K X.mg X.base k C ps fm) (c : ClsX X.K t C) (hgd : X.A.guards = some []) (hr : Room (k + 1) X.A) (hm : X.mg x = some (.ref C)) (tk : L2.Takes X W) (ha : PA X (e :: es) (ta X.K X.mg W aa)) (hg : Gl X x := by rfl)
    (hdb : (x == ("__debug__" : Str)) = false := by decide) (he : starEach (e :: es) X.env = (false, eval e X.env) :: starEach es X.env := by rfl) (hpl : (backTo pos (starEach es X.env)).any (·.1) = false := by rfl) :
    PE X (.Call (.Name x p) (e :: es) [] pos) (te X.K X.mg W (eMake t fm aa)) := by
  obtain ⟨f, fd, M, hb, F, hx⟩ := h
  refine (pe_makeG M F hgd hr hg hm hb tk ha hdb he hpl).w fun σ H Q ⟨R, μ, env, S, r, h⟩ => ⟨R, μ, env, S, r, ?_⟩
  refine poa_mono (poa_bind r h) fun vs H1 ⟨μ1, S1, ds, r1, dr1, h1⟩ x dx hx0 hdx ne => ?_
  have s2 : Sp1 μ1 S1.length H1 μ1 S1.length (upd H1 dx (.own x)) := sp_new hdx
  have rs2 := rs_new (o := .own x) hdx r1.rs
  have hx2 : upd H1 dx (.own x) x = none := by rw [upd_ne (Ne.symm ne)]; exact hx0
  have hl : (S1 ++ [Cell.ins t []]).length = S1.length + 1 := by simp
  have s3 : Sp1 μ1 S1.length (upd H1 dx (.own x)) (ext μ1 S1.length x) (S1 ++ [Cell.ins t []]).length (upd (upd H1 dx (.own x)) x (.ins C dx [])) := by rw [hl]; exact sp_cell hx2
  have rs3 := rs_cell (c := .ins t []) hx2 rs2 (o := .ins C dx []) ⟨[], ⟨C, dx, c.at_, upd_same⟩, rfl, .nil⟩ rfl
  have s13 := s2.trans s3
  have d3 : DR X.K R (upd (upd H1 dx (.own x)) x (.ins C dx [])) (ext μ1 S1.length x) (S1 ++ [Cell.ins t []]).length (.ref (ext μ1 S1.length x S1.length)) (.loc S1.length) := .loc (by rw [hl]; exact Nat.lt_succ_self _)
  rw [ext_at] at d3
  have dd : DRs X.K R (upd (upd H1 dx (.own x)) x (.ins C dx [])) (ext μ1 S1.length x) (S1 ++ [Cell.ins t []]).length (.ref x :: vs) (.loc S1.length :: ds) := .cons d3 (dr1.mono s13)
  have h3 := pg_bind (pg_fwd s13 h1)
  have r3 : RL X.K R (ext μ1 S1.length x) _ (S1 ++ [Cell.ins t []]) σ env [] [] := r1.drop.mono s13 rs3
  by_cases hlen : (D.loc S1.length :: ds).length = ps.length
  · refine spf_po r3 dd ((DRs.len dd).trans hlen) (pg_mono h3 fun μ4 H4 S4 d4 s4 rs4 q v dr => ?_)
    cases dr with
    | loc _ => exact q.elim
    | scr _ => exact q.elim
    | p dr =>
      cases dr with
      | non => exact ⟨rfl, po_ok q rs4 (d3.mono s4)⟩
      | _ => exact q.elim
  · have h4 := h3
    rw [hx _ _ hlen] at h4
    exact h4.elim
end

/-! ### len of an instance -/
def lenRt : D → Sto → Ot D
  | .p (.int n), S2 => if 0 ≤ n ∧ n < 1000000 then .ok (.p (.int n)) S2 else .bad
  | _, _ => .bad
theorem lenRt_ok {n : Int} {S : Sto} (h0 : 0 ≤ n) (h1 : n < 1000000) : lenRt (.p (.int n)) S = .ok (.p (.int n)) S := if_pos ⟨h0, h1⟩
def eLenI (t : Nat) (fm : FM) (mo : EM) : EM := fun env S => (mo env S).bind fun o S1 => if isC t o S1 = true then (noErr (fm [o] S1)).bind lenRt else .bad
section
variable {X : Cx} {k : Nat} {C f : Addr} {fd : FuncData} {ps : List Str} {sp : Sp} {e : Expr} {p pos : Pos} {W : WX} {t : Nat} {mo : EM} {fm : FM}
theorem call_lenG (hm : Meth X.K C "__len__" f) (F : FnG X.prog X.w X.K X.mg X.base k f fd ps sp) (hgd : X.A.guards = some []) (hr : Room (k + 1) X.A) (hb : Binds X.K fd ps []) :
    CallR X (.builtin "len") (fun xs H Q => ∃ a dx fs, xs = [.ref a] ∧ H a = some (.ins C dx fs) ∧ sp [.ref a] H (fun v H' => ∃ n : Int, v = .int n ∧ 0 ≤ n ∧ n < 2 ^ 63 ∧ Q (.int n) H') (fun _ _ _ => False)) := by
  intro pins s σ H xs us Q I r h
  obtain ⟨a, dx, fs, rfl, ea, h⟩ := h
  obtain ⟨u, rfl, ru⟩ := vals1 r
  obtain rfl : u = Value.ref a := ru
  obtain ⟨mA, O, _, _, _, _⟩ := ins_get I.hok ea
  obtain ⟨od, J, _⟩ := O.look
  have hl : ([Value.ref a] ++ []).length = ps.length := by
    rw [← F.len _ _ _ _ h]
    rfl
  have sp : PySem.W.Looks (model X.prog X.w) s.heap (specialOf (.ref a) "__len__") (some (.ref f)) := J.type.andThen (PySem.W.looks_findIn I.kIn hm.at_)
  refine Calls.call_function_entry kind_len plain_len entry_len (args_len1 _) ?_
  unfold Builtin.«len»
  refine wpAny_bind (m := oneArg "len" _) (wpAny_pure ?_)
  refine wpAny_bind (m := callSpecial? (.ref a) (PySem.Str.ofString "__len__")) ?_
  simp only [callSpecial?]
  refine wpAny_bind (sp.here ?_)
  refine wpAny_holding (wpAny_bind ((PySem.W.bind_fn I.kIn (.ref a) (beq_iff_eq.mp hm.fn)).here ?_))
  refine wpAny_bind (wpAny_call (codeAny_mono (F.go X.A.in1 X.stack s H ⟨[.ref a], []⟩ [.ref a] [.ref a] _ (fun _ _ _ => False) hgd hr.in1 I.env0.in1 (hb _ [.ref a] I.kIn hl) (.cons rfl .nil) h) fun r s' hq => ?_))
  cases r with
  | error er =>
    obtain ⟨_, _, _, _, _, _, _, _, _, _, _, _, z⟩ := (show L2.CX X.prog X.w X.stack H s (fun _ _ _ => False) er s' from hq)
    exact z.elim
  | ok fl =>
    cases fl with
    | ret u =>
      obtain ⟨v, H', I3, rv, n, ev, h0, h1, q3⟩ := I.after hq
      subst ev
      obtain ⟨tk, rfl⟩ := (show ∃ tk, u = Value.int n tk from rv)
      refine wpAny_pure ?_
      refine wpAny_bind (wpAny_holding (wpAny_pure ?_))
      refine wpAny_bind (wpAny_letGo ?_)
      show wpAny _ _ (if n < 0 then _ else _) _ _ _
      rw [if_neg (by omega)]
      show wpAny _ _ (if n ≥ 2 ^ 63 then _ else _) _ _ _
      rw [if_neg (by omega)]
      exact wpAny_bind (wpAny_mkInt (wpAny_pure ⟨_, rfl, .int n, H', I3.tok _, ⟨_, rfl⟩, q3⟩))
    | next => exact False.elim hq
    | brk => exact False.elim hq
    | cont => exact False.elim hq
theorem me_lenI (h : CallM X.prog X.w X.K X.mg X.base k C "__len__" ["self"] fm) (c : ClsX X.K t C) (hgd : X.A.guards = some []) (hr : Room (k + 1) X.A) (hm : X.mg "len" = none) (ho : PE X e (te X.K X.mg W mo)) (hg : Gl X "len" := by rfl)
    (he : starEach (e :: []) X.env = (false, eval e X.env) :: starEach [] X.env := by rfl) (hpl : (backTo pos (starEach [] X.env)).any (·.1) = false := by rfl) :
    PE X (.Call (.Name "len" p) [e] [] pos) (te X.K X.mg W (eLenI t fm mo)) := by
  obtain ⟨f, fd, hmt, hb, F, hx⟩ := h
  refine (pe_callB (call_lenG hmt F hgd hr hb) hg hm boot_len (pa_cons ho pa_nil he) (by decide) (by decide) he hpl).w fun σ H Q ⟨R, μ, env, S, r, h⟩ => ⟨R, μ, env, S, r, ?_⟩
  refine po_mono (po_bind r h) fun v H1 ⟨μ1, S1, d1, r1, h1⟩ => ?_
  obtain ⟨v', ws, e1, hv, _⟩ := drs_cons r1.tm
  cases e1
  by_cases hc : isC t d1 S1 = true
  · rw [if_pos hc] at h1
    obtain ⟨a, dx, fs, e2, ea⟩ := isC_ok r1.rs c hv hc
    subst e2
    refine ⟨a, dx, fs, rfl, ea, spf_no (env := env) (σ := σ) (mg := X.mg) (W := W) r1.rs (.cons hv .nil) rfl ?_⟩
    refine pg_mono (pg_bind h1) fun μ2 H2 S2 d2 s2 rs2 q v dr => ?_
    cases dr with
    | loc _ => exact q.elim
    | scr _ => exact q.elim
    | p dr =>
      cases dr with
      | int n =>
        unfold lenRt at q
        dsimp only at q
        by_cases hz : 0 ≤ n ∧ n < 1000000
        · rw [if_pos hz] at q
          exact ⟨n, rfl, hz.1, Int.lt_trans hz.2 (by decide), po_ok q rs2 (.p (.int n))⟩
        · rw [if_neg hz] at q
          exact q.elim
      | _ => exact q.elim
  · rw [if_neg hc] at h1
    exact h1.elim
end

/-! ### the truth of a tuple -/
def toBT : D → Sto → Ot Bool
  | .p (.tuple l), S => .ok (!l.isEmpty) S
  | _, _ => .bad
def bOfT (m : EM) : BM := fun env S => (m env S).bind toBT
theorem mt_valT {X : Cx} {W : WX} {e : Expr} {ma : EM} (h : PE X e (te X.K X.mg W ma)) (he : ∀ whole, isTrue e X.env whole = (do let v ← whole; standAt e.pos; holding [v] (truthy v)) := by intro _; rfl) : PT X e (tt X.K X.mg W (bOfT ma)) := by
  refine (pt_truth h he).w fun σ H Q ⟨R, μ, env, S, r, h⟩ => ⟨R, μ, env, S, r, ?_⟩
  refine pg_mono (pg_bind h) fun μ1 H1 S1 d s1 rs1 q v dr => ?_
  cases dr with
  | loc _ => exact q.elim
  | scr _ => exact q.elim
  | p dr =>
    cases dr with
    | @tup a xs ds h1 h2 =>
      refine ⟨!ds.isEmpty, .inr (.inl ⟨xs, h1.sqt, ?_⟩), pg_ok q rs1⟩
      cases h2 <;> rfl
    | _ => exact q.elim
end Mi

/-! Mi53 -/
set_option Elab.async false
set_option linter.all false
set_option maxRecDepth 100000
set_option maxHeartbeats 4000000
set_option autoImplicit false
namespace Mi
open PySem PySem.Spec PyProof.Rows L2

/-! ### any of a list of truth values -/
def boolsOf : List PyData → Option (List Bool)
  | [] => some []
  | .bool b :: r => (boolsOf r).map (b :: ·)
  | _ :: _ => none
theorem boolsOf_v {K : PySem.W.Frag} {H : Hp} {O : Addr → Prop} : ∀ {l : List PyData} {xs : List V} {bs : List Bool}, PdAll K H O xs l → boolsOf l = some bs → xs = bs.map V.bl
  | [], _, _, .nil, e => by cases e; rfl
  | .bool b :: r, _, _, .cons h t, e => by
    obtain ⟨ks, e1, rfl⟩ := Option.map_eq_some_iff.mp (show (boolsOf r).map (b :: ·) = some _ from e)
    cases h
    rw [boolsOf_v t e1]
    rfl
  | .none :: _, _, _, _, e => by cases e
  | .int _ :: _, _, _, _, e => by cases e
  | .str _ :: _, _, _, _, e => by cases e
  | .list _ :: _, _, _, _, e => by cases e
  | .tuple _ :: _, _, _, _, e => by cases e
  | .dict _ :: _, _, _, _, e => by cases e
def anyF : D → Sto → Ot D
  | .p (.list l), S => match boolsOf l with
    | some bs => .ok (.p (.bool (bs.any id))) S
    | none => .bad
  | _, _ => .bad
def eAny (m : EM) : EM := fun env S => (m env S).bind anyF
section
variable {X : Cx} {W : WX} {e a b c : Expr} {m : EM} {p pos : Pos} {aa : AM}
theorem me_any (hm : X.mg "any" = none) (hc : X.calm = true) (ho : PE X e (te X.K X.mg W m)) (hg : Gl X "any" := by rfl)
    (he : starEach (e :: []) X.env = (false, eval e X.env) :: starEach [] X.env := by rfl) (hpl : (backTo pos (starEach [] X.env)).any (·.1) = false := by rfl) :
    PE X (.Call (.Name "any" p) [e] [] pos) (te X.K X.mg W (eAny m)) := by
  refine (pe_callB (cr_any hc) hg hm (by decide +kernel) (pa_cons ho pa_nil he) (by decide) (by decide) he hpl).w fun σ H Q ⟨R, μ, env, S, r, h⟩ => ⟨R, μ, env, S, r, ?_⟩
  refine po_mono (po_bind r h) fun v H1 ⟨μ1, S1, d1, r1, h1⟩ => ?_
  obtain ⟨v', ws, e1, hv, _⟩ := drs_cons r1.tm
  cases e1
  unfold anyF at h1
  split at h1
  · split at h1
    · rename_i bs e2
      obtain ⟨a, xs, rfl, h2, h3, h4⟩ := dr_lst hv
      have ex := boolsOf_v h4 e2
      rw [ex] at h2
      exact ⟨a, bs, rfl, .inl (.inl h2), po_ok h1 r1.rs (.p (.bl _))⟩
    · exact h1.elim
  · exact h1.elim
/-- a, b, c = x, y, z -/
def sPar3 (i j l : Nat) (aa : AM) : SM := fun env S => (aa env S).then env fun ds S1 => match ds with
  | [d, e, f] => .nx (((env.set i (some d)).set j (some e)).set l (some f)) S1
  | _ => .bad
theorem ms_par3 {i j l : Nat} {x y z : Str} {px py pz pt : Pos} {kt k2 pt2} {pos : Pos} (hc : X.calm = true) (hN : X.N.Nodup) (ha : PA X [a, b, c] (ta X.K X.mg W aa)) (hi : X.N[i]? = some x := by rfl) (hj : X.N[j]? = some y := by rfl) (hl : X.N[l]? = some z := by rfl) (hij : i ≠ j := by decide) (hil : i ≠ l := by decide) (hjl : j ≠ l := by decide)
    (hx : X.env.scope.names.lookup x = some .local := by rfl) (hy : X.env.scope.names.lookup y = some .local := by rfl) (hz : X.env.scope.names.lookup z = some .local := by rfl)
    (hw : swappedStores [.Tuple [.Name x px, .Name y py, .Name z pz] kt pt] (.Tuple [a, b, c] k2 pt2) X.env = pure (some [x, y, z]) := by rfl)
    (hs : swapsWithSole [.Tuple [.Name x px, .Name y py, .Name z pz] kt pt] (.Tuple [a, b, c] k2 pt2) pos.line X.env = pure false := by rfl) :
    PS X (.Assign [.Tuple [.Name x px, .Name y py, .Name z pz] kt pt] (.Tuple [a, b, c] k2 pt2) pos) (ts X.K X.mg W (sPar3 i j l aa)) := by
  refine (ps_par3 hc hN hi hj hl hij hil hjl hx hy hz ha hw hs).w fun D σ H ⟨R, μ, env, S, r, h⟩ => ⟨R, μ, env, S, r, ?_⟩
  refine pg_mono (pz_then h) fun μ1 H1 S1 ds s1 rs1 p vs dr => ?_
  cases dr with
  | nil => exact p.elim
  | cons q1 r1 =>
    cases r1 with
    | nil => exact p.elim
    | cons q2 r2 =>
      cases r2 with
      | nil => exact p.elim
      | cons q3 r3 =>
        cases r3 with
        | cons _ _ => exact p.elim
        | nil => exact ⟨_, _, _, rfl, pz_nx p ⟨rs1, (((r.en.mono s1).set q1 i).set q2 j).set q3 l, .nil⟩⟩
end
end Mi

/-! Mi54 -/
set_option Elab.async false
set_option linter.all false
set_option maxRecDepth 100000
set_option maxHeartbeats 4000000
set_option autoImplicit false
namespace Mi
open PySem PySem.Spec PyProof.Rows L2 PySem.Calls PySem.W PySem.HandSPX

/-! ### errors of the program over any built-in base -/
structure BsX (B newId initId : String) (tl : List Value) : Prop where
  F : ExcBaseFacts B newId initId tl
  kx : KxsFacts B initId
  pass : ∀ self, refuseLoop self "__setattr__" tl = pure ()
  obj : tl.contains (.type "object") = true
  ne : tl.isEmpty = false
theorem bs_VE : BsX "ValueError" "ValueError.__new__" "ValueError.__init__" [.type "ValueError", .type "Exception", .type "BaseException", .type "object"] := ⟨PySem.F.excBase_ValueError, kxs_ValueError, PySem.F.store_ValueError.passes, by decide +kernel, rfl⟩
theorem bs_OE : BsX "OverflowError" "OverflowError.__new__" "OverflowError.__init__" [.type "OverflowError", .type "ArithmeticError", .type "Exception", .type "BaseException", .type "object"] := ⟨PySem.F.excBase_OverflowError, kxs_OverflowError, PySem.F.store_OverflowError.passes, by decide +kernel, rfl⟩
theorem bs_LE : BsX "LookupError" "LookupError.__new__" "LookupError.__init__" [.type "LookupError", .type "Exception", .type "BaseException", .type "object"] := ⟨PySem.F.excBase_LookupError, kxs_LookupError, PySem.F.store_LookupError.passes, by decide +kernel, rfl⟩
/-- own classes, then the built-in ones -/
def RefsT (tl l : List Value) : Prop := ∃ cs : List Addr, l = cs.map Value.ref ++ tl
theorem RefsT.con {tl l : List Value} (h : RefsT tl l) (X : String) : l.contains (.type X) = tl.contains (.type X) := by
  obtain ⟨cs, rfl⟩ := h
  induction cs with
  | nil => rfl
  | cons c r ih => rw [List.map_cons, List.cons_append, List.contains_cons, ih]; rfl
theorem RefsT.pass {tl l : List Value} {self : Value} (h : RefsT tl l) (p : refuseLoop self "__setattr__" tl = pure ()) : refuseLoop self "__setattr__" l = pure () := by
  obtain ⟨cs, rfl⟩ := h
  induction cs with
  | nil => exact p
  | cons c r ih => rw [List.map_cons, List.cons_append, refuseLoop_ref]; exact ih
theorem RefsT.cons {tl l : List Value} (c : Addr) (h : RefsT tl l) : RefsT tl (.ref c :: l) := by
  obtain ⟨cs, rfl⟩ := h
  exact ⟨c :: cs, rfl⟩
theorem RefsT.ne {tl l : List Value} (h : RefsT tl l) (n : tl.isEmpty = false) : l.isEmpty = false := by
  obtain ⟨cs, rfl⟩ := h
  cases cs with
  | nil => exact n
  | cons _ _ => rfl
/-- RefsT, to be computed -/
def refsT : List Value → List Value → Bool
  | tl, .ref c :: r => refsT tl r
  | tl, l => l == tl
theorem refsT_of {tl : List Value} : ∀ {l : List Value}, refsT tl l = true → RefsT tl l
  | .ref c :: r, h => RefsT.cons c (refsT_of (l := r) (by simpa [refsT] using h))
  | [], h => ⟨[], (by have h' : (([] : List Value) == tl) = true := by simpa [refsT] using h
                      exact beq_iff_eq.mp h')⟩
  | .none :: r, h => ⟨[], beq_iff_eq.mp (by simpa [refsT] using h)⟩
  | .ellipsis :: r, h => ⟨[], beq_iff_eq.mp (by simpa [refsT] using h)⟩
  | .notImplemented :: r, h => ⟨[], beq_iff_eq.mp (by simpa [refsT] using h)⟩
  | .bool _ :: r, h => ⟨[], beq_iff_eq.mp (by simpa [refsT] using h)⟩
  | .int _ _ :: r, h => ⟨[], beq_iff_eq.mp (by simpa [refsT] using h)⟩
  | .float _ _ :: r, h => ⟨[], beq_iff_eq.mp (by simpa [refsT] using h)⟩
  | .str _ _ :: r, h => ⟨[], beq_iff_eq.mp (by simpa [refsT] using h)⟩
  | .bytes _ _ :: r, h => ⟨[], beq_iff_eq.mp (by simpa [refsT] using h)⟩
  | .type _ :: r, h => ⟨[], beq_iff_eq.mp (by simpa [refsT] using h)⟩
  | .builtin _ :: r, h => ⟨[], beq_iff_eq.mp (by simpa [refsT] using h)⟩

/-! ### e.f = v, the first field -/
section
open Builtin Builtin.ObjectAttr
variable {prog : Program} {w : World} {A : Around} {E : Value → Shared → Prop} {R : Result → Shared → Prop} {hp : Heap} {g : Array GenState} {d : Drawn} {t : Nat} {os : OsState}
theorem osaG {tl : List Value} {K : W.Frag} {name : Str} {tk : Tok} {v : Value} {x C : Addr} {fv : Array Value} {cd : ClassData} (pass : ∀ self, refuseLoop self "__setattr__" tl = pure ()) (hobj : tl.contains (.type "object") = true) (hne : tl.isEmpty = false)
    (X : K.In hp) (hx : hp.get? x = some { cls := .ref C, data := .fields fv }) (hcd : W.clsIn K C = some cd) (hm : RefsT tl cd.mro) (hh : cd.hasDict = true) (ha : W.findIn K (.ref C) name = some none)
    (hq : ∀ h' tk' dx, (∀ b o, b ≠ x → hp.get? b = some o → h'.get? b = some o) → hp.objs.size ≤ dx → dx ≠ x → h'.get? x = some { cls := .ref C, dict := some dx, data := .fields fv } →
      h'.Ns1 dx (fun y => if y = name then some v else none) → R (.ok (.ret .none)) ⟨h', g, d, tk', os⟩) :
    codeAny (model prog w) A (.call (.builtin "object.__setattr__") ⟨[.ref x, .str name tk, v], []⟩) R ⟨hp, g, d, t, os⟩ := by
  have I : W.InstAt hp x { cls := .ref C, data := .fields fv } C none := ⟨hx, rfl, rfl, trivial⟩
  have SF := F.store_object
  have ne := hm.ne hne
  have hob : cd.mro.contains (.type "object") = true := (hm.con "object").trans hobj
  have hxs : x ≠ hp.objs.size := Nat.ne_of_lt (Heap.lt_size hx)
  have sub : W.Looks (model prog w) hp (isInstance (.ref x) (.type "object")) true := I.type.andThen (W.looks_mroIn X (by unfold W.mroIn; rw [hcd, Option.bind_some, if_neg (by rw [ne]; decide), hob]))
  refine codeAny_call_builtin SF.slot.plain SF.entry (@W.check_slot (model prog w) _ _ ⟨hp, g, d, t, os⟩ "object.__setattr__" "object" "__setattr__" (.ref x) [.str name tk, v] [] _ SF.kind SF.split sub (SF.args (.ref x) (.str name tk) v) ?_)
  have hmr : W.Looks (model prog w) hp (mroOf (.ref C)) cd.mro := (W.looks_clsIn X hcd).andThen .now
  have L3 : W.Looks (model prog w) hp (storeTaker? none) none := .now
  have hcls : W.Looks (model prog w) hp (classData C) cd := W.looks_clsIn X hcd
  rw [W.osa_eq, refuse_eq]
  refine wpAny_bind (wpAny_bind (I.type.at (wpAny_bind (hmr.at ?_))))
  rw [hm.pass (pass _)]
  refine wpAny_pure (wpAny_bind (I.type.at (wpAny_bind ((W.looks_findIn X ha).at (wpAny_bind (L3.at ?_))))))
  show wpAny _ _ (storeInOwnDict (.ref x) (.ref C) (.str name tk) name v false) _ _ _
  obtain ⟨nm, bs, mro, ns, qn, hd, sn, sb, ab, col, del⟩ := cd
  dsimp only at hh
  subst hh
  unfold storeInOwnDict ownDictForStores
  repeat (first | with_reducible refine HandSPX.store_in_new ?_ ?_ | with_reducible refine wpAny_loadPart_at hx ?_ | with_reducible refine hcls.at ?_ | wp_step)
  · exact ⟨_, #[], _, (Heap.get?_update_ne _ _ _ _ hxs.symm).trans (Heap.get?_push_at rfl rfl), rfl, fun e he => absurd he (by simp), fun _ => rfl⟩
  · intro h' tk' hn' hs
    have hx₁ : (hp.push { cls := .type "dict", data := .dict #[] }).get? x = some { cls := .ref C, data := .fields fv } := Heap.get?_push_of_some _ hx
    refine hq h' tk' hp.objs.size (fun b o hb ho => ?_) (Nat.le_refl _) hxs.symm ?_ hn'
    · exact (hs.2 b (Nat.ne_of_lt (Heap.lt_size ho))).trans ((Heap.get?_update_ne _ _ _ _ hb).trans (Heap.get?_push_of_some _ ho))
    · exact (hs.2 x hxs).trans (Heap.get?_update_self _ hx₁ rfl)
end

/-! ### C(..), with keywords too -/
section
variable {M : Model} {A : Around} {E : Value → Shared → Prop} {h : Heap} {g : Array GenState} {d : Drawn} {t : Nat} {os : OsState}
variable {nm q : Str} {C N : Addr} {bs bm bmB : List Value} {hdct : Bool} {sn : List Str} {sub : List Value} {ab : Bool} {col : Option Bool} {dd : Option Addr} {k0 k1 k2 k3 k5 : Option Value} {B newId initId : String} {kw : List (Str × Value)}
theorem check_kw (F : ExcBaseFacts B newId initId bmB) (hT : ∀ X : String, bm.contains (.type X) = bmB.contains (.type X)) {rest : List Value} {Q : Unit → Shared → Prop}
    (hC : h.get? C = some (excClassObj nm q C N bs bm hdct sn sub ab col dd k0 k1 k2 k3 k5 newId)) (hq : Q () ⟨h, g, d, t, os⟩) : wpAny M A (checkBuiltinCall newId ⟨.ref C :: rest, kw⟩) Q E ⟨h, g, d, t, os⟩ := by
  have hcont : (Value.ref C :: bm).contains (.type B) = true := by rw [List.contains_cons, hT, F.hasB, Bool.or_true]
  have hstar := F.noStar
  simp only [checkBuiltinCall, F.newKind, F.newSplit, F.newRow]
  repeat (first | refine wpAny_loadPart_at hC ?_ | (refine wpAny_isSubtype_exc hC ?_; rw [hcont]) | refine wpAny_staticBase_exc hC ?_ | refine wpAny_madeBy_exc hC ?_ | simp only [bne_self_eq_false, Bool.false_eq_true, if_false] | wp_step)
  exact hq
theorem check_tc_kw {rest : List Value} {Q : Unit → Shared → Prop} (hC : h.get? C = some (excClassObj nm q C N bs bm hdct sn sub ab col dd k0 k1 k2 k3 k5 newId))
    (hq : Q () ⟨h, g, d, t, os⟩) : wpAny M A (checkBuiltinCall "type.__call__" ⟨.ref C :: rest, kw⟩) Q E ⟨h, g, d, t, os⟩ := by
  have f3 := tc_sub
  have hT : (⟨h, g, d, t, os⟩ : Shared).TypeIs (.ref C) "type" := ⟨_, hC, rfl⟩
  simp only [checkBuiltinCall, tc_kind, tc_split]
  repeat (any_goals (first | assumption | with_reducible refine wpAny_loadPart_at hC ?_ | with_reducible refine wpAny_onRaise ?_ | with_reducible refine wpAny_map ?_ | wp_step))
end
section
variable {prog : Program} {w : World} {A : Around} {E : Value → Shared → Prop} {R : Result → Shared → Prop} {h : Heap} {g : Array GenState} {d : Drawn} {t : Nat} {os : OsState}
variable {nm q : Str} {C N : Addr} {bs bm bmB : List Value} {hdct : Bool} {sn : List Str} {sub : List Value} {ab : Bool} {col : Option Bool} {dd : Option Addr} {k0 k1 k2 k3 k5 : Option Value} {B newId initId : String} {kw : List (Str × Value)}
theorem new_kw (F : ExcBaseFacts B newId initId bmB) (hT : ∀ X : String, bm.contains (.type X) = bmB.contains (.type X)) {rest : List Value}
    (hC : h.get? C = some (excClassObj nm q C N bs bm hdct sn sub ab col dd k0 k1 k2 k3 k5 newId))
    (hq : R (.ok (.ret (.ref (h.objs.size + 1)))) ⟨(h.push { cls := .type "tuple", data := .seq rest.toArray }).push
      { cls := .ref C, data := .fields #[.ref h.objs.size, .none, .none, .none, .bool false, .none] }, g, d, t, os⟩) (hrest : rest.length ≤ sizeLine) :
    codeAny (model prog w) A (.builtin newId ⟨.ref C :: rest, kw⟩) R ⟨h, g, d, t, os⟩ := by
  have hends := F.ends
  have hcB : (Value.ref C :: bm).contains (.type B) = true := by rw [List.contains_cons, hT, F.hasB, Bool.or_true]
  have hcA : (Value.ref C :: bm).contains (.type "AttributeError") = false := by rw [List.contains_cons, hT, F.noAttr]; rfl
  have hcN : (Value.ref C :: bm).contains (.type "NameError") = false := by rw [List.contains_cons, hT, F.noName]; rfl
  refine codeAny_builtinAt F.entry ?_
  unfold Builtin.«BaseException.__new__»
  refine PySem.wpAt_bind ?_
  show PySem.wpAt _ _ _ (stack >>= _) _ _ _
  refine PySem.wpAt_bind (PySem.wpAt_stack fun p below => PySem.wpAt_of_wpAny ?_)
  wp_walk
  refine PySem.wpAt_of_wpAny ?_
  rw [F.owner]
  repeat (first | with_reducible refine wpAny_madeHere_exc F.canon hC ?_ | with_reducible refine wpAny_loadPart_at hC ?_ | (with_reducible refine wpAny_isSubtype_exc hC ?_; first | rw [hcB] | rw [hcA] | rw [hcN]) | wp_step)
  show R _ _
  rw [Heap.size_push]
  exact hq
theorem type_call_kw (F : ExcBaseFacts B newId initId bmB) (hT : ∀ X : String, bm.contains (.type X) = bmB.contains (.type X)) {rest : List Value} {fI : Addr} {Q : Fin → Shared → Prop}
    (hC : h.get? C = some (excClassObj nm q C N bs bm hdct sn sub ab col dd k0 k1 k2 k3 k5 newId))
    (hi : W.Looks (model prog w) h (typeLookup (.ref C) "__init__") (some (.ref fI))) (hb : ∀ self, W.Looks (model prog w) h (bindSpecial (.ref fI) self) (.ref fI, [self])) (hrest : rest.length ≤ sizeLine)
    (hq : codeAny (model prog w) A (.call (.ref fI) ⟨.ref (h.objs.size + 1) :: rest, kw⟩)
      (fun r s' => match r with | .ok (.ret v) => v = .none ∧ Q (.done (.ret (.ref (h.objs.size + 1)))) s' | .ok _ => False | .error e => E e s')
      ⟨(h.push (W.kdv_tup rest)).push (excO C h.objs.size), g, d, t, os⟩) :
    wpAny (model prog w) A (Builtin.«type.__call__» ⟨.ref C :: rest, kw⟩) Q E ⟨h, g, d, t, os⟩ := by
  repeat (first | with_reducible refine wpAny_loadPart_at hC ?_ | with_reducible refine wpAny_madeBy_exc hC ?_ | wp_step)
  refine codeAny_call_builtin_code (Code.quiet_builtin _ F.quiet) (check_kw F hT hC ?_)
  refine new_kw F hT hC ?_ hrest
  show wpAny _ _ _ _ _ _
  have k : ∀ b o, h.get? b = some o → ((h.push (W.kdv_tup rest)).push (excO C h.objs.size)).get? b = some o := fun b o e => Heap.get?_push_of_some _ (Heap.get?_push_of_some _ e)
  have hC₁ := k _ _ hC
  have hget : ((h.push (W.kdv_tup rest)).push (excO C h.objs.size)).get? (h.objs.size + 1) = some (excO C h.objs.size) := by heap_get
  have hcC : (Value.ref C :: bm).contains (.ref C) = true := by simp
  have i1 := hi.keeps k
  have b1 := (hb (.ref (h.objs.size + 1))).keeps k
  unfold isInstance
  repeat (first | with_reducible refine wpAny_loadPart_at hget ?_ | (with_reducible refine wpAny_isSubtype_exc hC₁ ?_; rw [hcC]) | wp_step)
  show wpAny _ _ (typeLookup (.ref C) _) _ _ _
  refine i1.at ?_
  refine wpAny_holding (wpAny_bind (b1.at ?_))
  refine wpAny_bind (wpAny_call (codeAny_mono hq fun r s' z => ?_))
  rcases r with e | (v | _ | _ | _) <;> first | exact z | exact z.elim | skip
  obtain ⟨rfl, z⟩ := z
  first
    | exact wpAny_pure (wpAny_pure z)
    | (wp_walk; exact z)
theorem call_kw (F : ExcBaseFacts B newId initId bmB) (hT : ∀ X : String, bm.contains (.type X) = bmB.contains (.type X)) {rest : List Value} {fI : Addr}
    (hC : h.get? C = some (excClassObj nm q C N bs bm hdct sn sub ab col dd k0 k1 k2 k3 k5 newId))
    (hi : W.Looks (model prog w) h (typeLookup (.ref C) "__init__") (some (.ref fI))) (hb : ∀ self, W.Looks (model prog w) h (bindSpecial (.ref fI) self) (.ref fI, [self])) (hrest : rest.length ≤ sizeLine)
    (hq : codeAny (model prog w) (A.under (.builtin "type.__call__" ⟨.ref C :: rest, kw⟩)) (.call (.ref fI) ⟨.ref (h.objs.size + 1) :: rest, kw⟩) (W.InitBack (h.objs.size + 1) R)
      ⟨(h.push (W.kdv_tup rest)).push (excO C h.objs.size), g, d, t, os⟩) :
    codeAny (model prog w) A (.call (.ref C) ⟨rest, kw⟩) R ⟨h, g, d, t, os⟩ := by
  have f1 := tc_lookup
  have f2 := tc_bind (.ref C)
  have hTy : (⟨h, g, d, t, os⟩ : Shared).TypeIs (.ref C) "type" := ⟨_, hC, rfl⟩
  refine codeAny_of_tree ?_
  show wpAny _ _ (callAny (.ref C) _) _ _ _
  repeat (any_goals (first | assumption | with_reducible refine wpAny_loadPart_at hC ?_ | wp_step))
  refine ⟨rfl, ?_⟩
  refine codeAny_call_builtin_at (Code.quiet_builtin _ (by decide +kernel)) entry_typeCall (check_tc_kw hC (type_call_kw F hT hC hi hb hrest ?_))
  refine codeAny_mono hq fun r s' z => ?_
  rcases r with e | (v | _ | _ | _) <;> exact z
end
end Mi

/-! Mi55 -/
set_option Elab.async false
set_option linter.all false
set_option maxRecDepth 100000
set_option maxHeartbeats 4000000
set_option autoImplicit false
namespace Mi
open PySem PySem.Spec PyProof.Rows L2 PySem.Calls PySem.W PySem.HandSPX

/-! ### the maker of an error with one field -/
def FldG (f : Str) : Prop := f = "place" ∨ f = "value" ∨ f = "word" ∨ f = "most"
structure ErG (pr : Program) (K : Frag) (B newId initId : String) (tl : List Value) (f : Str) (C fI : Addr) : Prop where
  cls : ∃ nm q N bs bm sn sub ab col dd k0 k1 k2 k3 k5, K.lookup C = some (excClassObj nm q C N bs bm true sn sub ab col dd k0 k1 k2 k3 k5 newId) ∧ RefsT tl bm
  sa : findIn K (.ref C) "__setattr__" = some (some (.builtin "object.__setattr__"))
  no : findIn K (.ref C) f = some none
  iC : findIn K (.ref C) "__init__" = some (some (.ref fI))
  tI : typeIn K (.ref fI) = some (.type "function")
  kC : keepIn K (.ref C) = true
  vC : subIn K (.ref C) (.type B) = some true
  sC : mroIn K C (.ref C) = some true
  up : ks_superIn K C C "__init__" = some (some (.builtin initId))
  np : nsIn K cStatics "thirdparty.any" = some none
  fn : ∃ (oc : Value) (od : Option Addr) (q msg : Str) (p : ErP) (doc pm : Value) (an : Option Addr) (cda : Addr) (ct : Value) (cc : Addr) (osl : Array (Option Value)),
    K.lookup fI = some ⟨oc, od, .func (erFd q f msg p doc pm an (.ref cda) ct cc), osl⟩ ∧ codeIn K (.ref cda) q = true ∧ ErLn msg p ∧
    (∃ (ccl : Value) (cdd : Option Addr) (vs : Array Value) (ccs : Array (Option Value)) (file : Str) (tf : Tok), K.lookup cda = some ⟨ccl, cdd, .fields vs, ccs⟩ ∧ vs[2]? = some (.str file tf) ∧ ((pr.main.file : Str) == file) = true) ∧
    ∃ (cl : Value) (cld : Option Addr) (csl : Array (Option Value)), K.lookup cc = some ⟨cl, cld, .cell (some (.ref C)), csl⟩
section
variable {prog : Program} {w : World} {A : Around} {E : Value → Shared → Prop} {R : Result → Shared → Prop} {s : Shared} {K : Frag} {mg : Str → Option Value} {C fI : Addr} {f : Str} {B newId initId : String} {tl : List Value}
theorem mw_callG {h : Heap} {g : Array GenState} {d : Drawn} {t : Nat} {os : OsState} {u e t0 : Addr} {rest : List Value} {Q : Value → Shared → Prop} {nm q : Str} {N : Addr} {bs bm : List Value} {hdct : Bool} {sn : List Str} {sub : List Value} {ab : Bool} {col : Option Bool} {dd : Option Addr} {k0 k1 k2 k3 k5 : Option Value}
    (FB : ExcBaseFacts B newId initId tl)
    (hC : h.get? C = some (excClassObj nm q C N bs bm hdct sn sub ab col dd k0 k1 k2 k3 k5 newId)) (he : h.get? e = some (excO C t0)) (hu : h.get? u = some (kxs_mw initId e)) (hl : rest.length ≤ sizeLine)
    (hq : ∀ h' t1, (∀ b o, b ≠ e → h.get? b = some o → h'.get? b = some o) → h'.get? e = some (excO C t1) → Q .none ⟨h', g, d, t, os⟩) :
    wpAny (model prog w) A (call (.ref u) rest) Q E ⟨h, g, d, t, os⟩ := by
  refine wpAny_call (codeAny_of_tree ?_)
  show wpAny _ A.in1 (callAny (.ref u) ⟨rest, []⟩) _ _ _
  simp only [callAny]
  refine wpAny_bind (wpAny_load hu ?_)
  refine KFB.if_so (show (Value.type "method-wrapper" == Value.type "method" || Value.type "method-wrapper" == Value.type "builtin_function_or_method" || Value.type "method-wrapper" == Value.type "method-wrapper") = true by decide) ?_
  refine wpAny_bind (check_bound_init FB.toExcCallFacts hC he rfl ?_)
  refine wpAny_bind (wpAny_pure (wpAny_pure ?_))
  refine ⟨plainId_quiet FB.init.plain _, codeAny_builtin FB.initEntry ?_⟩
  exact exc_init_tree (cls := .ref C) (t0 := t0) (dv := none) (c2 := .none) (c3 := .none) (b4 := .bool false) he hl fun h' k' e' _ => hq h' _ k' e'
theorem er_initG (Bs : BsX B newId initId tl) (T : ErG prog K B newId initId tl f C fI) (hf : FldG f) {x t0 : Addr} {v : Value} {ar : Args} (X : K.In s.heap) (hlim : s.heap.NoLimit) (G : s.heap.Ns mainGlobals mg) (hs : mg "super" = none) (hb : ∃ mb, s.heap.Ns builtinsNs mb ∧ ∀ x : Str, x ≠ "__name__" → mb x = bootBuiltins x)
    (htop : (prog.main.scope.names.lookup ("super" : Str)).isSome = false) (hx : s.heap.get? x = some (excO C t0)) (hnK : ∀ o, K.lookup x ≠ some o) (hroom : A.depth < recursionLimit)
    (har : ar = ⟨[.ref x, v], []⟩ ∨ ar = ⟨[.ref x], [(f, v)]⟩)
    (hq : ∀ h' tk dx t1, MadeI s.heap h' x C dx t1 f v → R (.ok (.ret .none)) { s with heap := h', toks := tk }) :
    codeAny (model prog w) A (.call (.ref fI) ar) R s := by
  obtain ⟨oc, od, q, msg, p, doc, pm, an, cda, ct, cc, osl, ho, hcd, ⟨pl, ln⟩, ⟨ccl, cdd, vs, ccs, file, tf, hcode, hvs, hfile⟩, cl, cld, csl, hcell⟩ := T.fn
  obtain ⟨nm, q', N, bs, bm, sn, sub, ab, col, dd, k0, k1, k2, k3, k5, hC, hbm⟩ := T.cls
  obtain ⟨mb, B1, hmb⟩ := hb
  have hcl : clsIn K C = some { name := nm, bases := bs, mro := .ref C :: bm, ns := N, qualname := q', hasDict := true, slotNames := sn, subclasses := sub, abstract := ab, collection := col, hasDel := false } := by unfold clsIn; rw [hC] <;> rfl
  have hnx : x ≠ C := fun z => by
    have e := X _ _ hC
    rw [← z, hx] at e
    cases e
  have lk : ∀ y : Str, y = "self" ∨ y = f → (erS f).names.lookup y = some .local := fun y hy => by
    rcases hy with rfl | rfl
    · rfl
    · rcases hf with rfl | rfl | rfl | rfl <;> rfl
  have kS : (erS f).names.lookup ("super" : Str) = some .globalImplicit := by rcases hf with rfl | rfl | rfl | rfl <;> rfl
  have kK : (erS f).names.lookup ("__class__" : Str) = some .free := by rcases hf with rfl | rfl | rfl | rfl <;> rfl
  have kD : (f == ("__debug__" : Str)) = false := by rcases hf with rfl | rfl | rfl | rfl <;> decide
  have kf : (([("self", Value.ref x), (f, v)] : List (Str × Value)).reverse).lookup f = some v := by rcases hf with rfl | rfl | rfl | rfl <;> rfl
  have ks : (([("self", Value.ref x), (f, v)] : List (Str × Value)).reverse).lookup ("self" : Str) = some (Value.ref x) := by rcases hf with rfl | rfl | rfl | rfl <;> rfl
  have bt : BindsTo s (erFd q f msg p doc pm an (.ref cda) ct cc) ar [("self", .ref x), (f, v)] := by
    rcases har with rfl | rfl
    · exact BindsTo.of_eq (by rcases hf with rfl | rfl | rfl | rfl <;> first | rfl | with_unfolding_all rfl)
    · exact BindsTo.of_eq (by rcases hf with rfl | rfl | rfl | rfl <;> first | rfl | with_unfolding_all rfl)
  refine ks_codeAny_call_defAt (fd := erFd q f msg p doc pm an (.ref cda) ct cc) (body := erB f msg p) (binds := [("self", .ref x), (f, v)]) hroom (X _ _ ho) rfl hlim (codeRec_of X hcd) rfl bt
    (fun y hy => by
      have q : ∀ y ∈ (erS f).names, y.2 ≠ .cell := by rcases hf with rfl | rfl | rfl | rfl <;> decide
      exact q y hy) (fun (y : Str × Value) (hy : y ∈ ([("self", Value.ref x), (f, v)] : List (Str × Value))) => lk y.1 (by
      rcases List.mem_cons.mp hy with rfl | hy
      · exact .inl rfl
      · rcases List.mem_cons.mp hy with rfl | hy
        · exact .inr rfl
        · cases hy)) (fun h₁ hns k => ?_) rfl rfl rfl
  have X₁ : K.In h₁ := X.keeps k
  have hx₁ := k _ _ hx
  have hC₁ := X₁ _ _ hC
  have z1 : s.heap.objs.size < h₁.objs.size := hns.lt
  refine ks_wpAt_execs_cons (ks_wpAt_Expr_any (ks_wpAt_MethodCall ?_ (ln _)))
  refine ks_wpAt_super_base kS kK rfl rfl (X₁ _ _ ho) rfl rfl rfl (X₁ _ _ hcode) rfl hvs hfile htop ?_
  refine ks_loadName_global rfl kS (loadGlobal_builtin (G.keeps k) hs (B1.keeps k) ((hmb "super" (by decide)).trans (by kernel_rfl)) ⟨rfl, ?_⟩)
  refine wpAny_loadName_free rfl kK rfl ⟨_, X₁ _ _ hcell, rfl⟩ ?_
  refine wpAny_loadName_local rfl (lk "self" (.inl rfl)) hns ks ?_
  refine ks_wpAny_isType_cls hC₁ rfl ⟨rfl, ?_⟩
  refine ks_wpAny_call_super hC₁ rfl hx₁ rfl (fun c e => by cases e) (looks_mroIn X₁ T.sC) (fun h2 e2 k2 => ?_)
  have X₂ : K.In h2 := X₁.keeps k2
  have I2 : InstAt h2 x (excO C t0) C none := ⟨k2 _ _ hx₁, rfl, rfl, trivial⟩
  have hm : alongIn K "__init__" (((Value.ref C :: bm).dropWhile (· != .ref C)).drop 1) = some (some (.builtin initId)) := by
    have e := T.up
    unfold ks_superIn at e
    rw [hcl] at e
    exact e
  refine kxs_getMethod Bs.kx e2 (looks_opaque X₂ T.np) (l₀ := .ref C :: bm) (fun A Q E s k q => wpAny_bind ((looks_clsIn X₂ hcl) A _ E s k (wpAny_pure q))) rfl X₂ hm (I2.type.andThen (looks_subIn X₂ T.vC)) hnx (by decide) ?_
  have hx2 : (h2.push (kxs_mw initId x)).get? x = some (excO C t0) := Heap.get?_push_of_some _ I2.at_
  have hu2 : (h2.push (kxs_mw initId x)).get? h2.objs.size = some (kxs_mw initId x) := Heap.get?_push_at rfl rfl
  refine kxs_callWith (i := initId) (x := x) rfl (evalArgs_plain (Calls.spliced_cons (wpAny_Constant_str (k := 0) (pos := p.d) (Calls.spliced_nil ⟨hu2, ?_⟩))))
  refine mw_callG Bs.F (Heap.get?_push_of_some _ (X₂ _ _ hC)) hx2 hu2 (by show 1 ≤ sizeLine; rw [sizeLine_eq]; omega) fun h3 t3 k3 hx3 => ?_
  have X3 : K.In h3 := fun b o e => by
    refine k3 b o (fun z => ?_) (Heap.get?_push_of_some _ (X₂ b o e))
    have e1 := X₂ b o e
    rw [z, I2.at_] at e1
    have e2 := X _ _ e
    rw [z, hx] at e2
    subst z
    exact hnK _ e
  have old3 : ∀ b o, b ≠ x → s.heap.get? b = some o → h3.get? b = some o := fun b o hb e => k3 b o hb (Heap.get?_push_of_some _ (k2 b o (k b o e)))
  have hn3 : h3.Ns s.heap.objs.size (fun y => ([("self", Value.ref x), (f, v)] : List (Str × Value)).reverse.lookup y) := hns.at fun o e => k3 _ _ (Nat.ne_of_gt (Heap.lt_size hx)) (Heap.get?_push_of_some _ (k2 _ _ e))
  refine ks_wpAt_execs_cons (wpAt_of_wpAny (plainObj_wpAny_Assign_Attribute ?_ ?_))
  · refine wpAny_Name (wpAny_loadName_local rfl (lk f (.inr rfl)) hn3 kf ?_) kD
    refine wpAny_Name (wpAny_loadName_local rfl (lk "self" (.inl rfl)) hn3 ks ?_) (by decide)
    refine set_plain X3 (ox := excO C t3) (od := none) ⟨hx3, rfl, rfl, trivial⟩ T.sa ?_
    refine osaG Bs.pass Bs.obj Bs.ne X3 hx3 hcl (RefsT.cons C hbm) rfl T.no (fun h4 tk4 dx k4 dn dne hx4 hn4 => ?_)
    show PySem.wpAt _ _ _ (execs _ _) _ _ _
    refine wpAt_of_wpAny (wpAny_execs_nil (hq h4 tk4 dx t3 ⟨fun b o hb e => k4 b o hb (old3 b o hb e), hx4, ?_, dne, hn4⟩))
    have z3 : s.heap.objs.size ≤ h3.objs.size := Nat.le_of_lt hn3.lt
    exact Nat.le_trans z3 dn
  · rcases hf with rfl | rfl | rfl | rfl <;> rfl
/-- C(v) or C(f=v) -/
theorem er_madeG (Bs : BsX B newId initId tl) (T : ErG prog K B newId initId tl f C fI) (hf : FldG f) {v : Value} {ar : Args} (X : K.In s.heap) (hlim : s.heap.NoLimit) (G : s.heap.Ns mainGlobals mg) (hs : mg "super" = none) (hb : ∃ mb, s.heap.Ns builtinsNs mb ∧ ∀ x : Str, x ≠ "__name__" → mb x = bootBuiltins x)
    (htop : (prog.main.scope.names.lookup ("super" : Str)).isSome = false) (hroom : A.depth + 1 < recursionLimit) (har : ar = ⟨[v], []⟩ ∨ ar = ⟨[], [(f, v)]⟩)
    (hq : ∀ h' tk e d, MadeE s.heap h' e C d f v → R (.ok (.ret (.ref e))) { s with heap := h', toks := tk }) :
    codeAny (model prog w) A (.call (.ref C) ar) R s := by
  obtain ⟨nm, q, N, bs, bm, sn, sub, ab, col, dd, k0, k1, k2, k3, k5, hC, hbm⟩ := T.cls
  obtain ⟨mb, B1, hmb⟩ := hb
  obtain ⟨hp, g, dr, tk, os⟩ := s
  have one : ∀ l : List Value, l.length ≤ 1 → l.length ≤ sizeLine := fun l hl => Nat.le_trans hl (by rw [sizeLine_eq]; omega)
  have key : ∀ (l : List Value) (kw : List (Str × Value)), l.length ≤ 1 → ((⟨Value.ref (hp.objs.size + 1) :: l, kw⟩ : Args) = ⟨[.ref (hp.objs.size + 1), v], []⟩ ∨ (⟨Value.ref (hp.objs.size + 1) :: l, kw⟩ : Args) = ⟨[.ref (hp.objs.size + 1)], [(f, v)]⟩) →
      codeAny (model prog w) A (.call (.ref C) ⟨l, kw⟩) R ⟨hp, g, dr, tk, os⟩ := fun l kw hl hk => by
    have k : ∀ b o, hp.get? b = some o → ((hp.push (kdv_tup l)).push (excO C hp.objs.size)).get? b = some o := fun b o e => Heap.get?_push_of_some _ (Heap.get?_push_of_some _ e)
    have at_ : ((hp.push (kdv_tup l)).push (excO C hp.objs.size)).get? (hp.objs.size + 1) = some (excO C hp.objs.size) := by heap_get
    have off : ∀ o, K.lookup (hp.objs.size + 1) ≠ some o := fun o e => absurd (Nat.lt_of_succ_lt (Heap.lt_size (X _ _ e))) (Nat.lt_irrefl _)
    refine call_kw Bs.F (fun Y => hbm.con Y) (X _ _ hC) (looks_findIn X T.iC) (fun self => bind_fn X self T.tI) (one l hl) ?_
    refine er_initG (s := ⟨(hp.push (kdv_tup l)).push (excO C hp.objs.size), g, dr, tk, os⟩) Bs T hf (X.keeps k) (hlim.keeps k) (G.keeps k) hs ⟨mb, B1.keeps k, hmb⟩ htop at_ off hroom hk fun h' tk' dx t1 M => ?_
    have old : ∀ b o, hp.get? b = some o → h'.get? b = some o := fun b o e => M.keep b o (Nat.ne_of_lt (Nat.lt_succ_of_lt (Heap.lt_size e))) (k b o e)
    have z : hp.objs.size ≤ dx := by
      have y := M.dbig
      rw [Heap.size_push, Heap.size_push] at y
      omega
    exact ⟨rfl, hq h' tk' (hp.objs.size + 1) dx ⟨old, Nat.le_succ _, ⟨_, _, M.obj, ⟨rfl, rfl⟩, rfl, rfl⟩, z, M.dne, M.ns⟩⟩
  rcases har with rfl | rfl
  · exact key [v] [] (Nat.le_refl _) (.inl rfl)
  · exact key [] [(f, v)] (Nat.zero_le _) (.inr rfl)
end
end Mi

/-! Mi56 -/
set_option Elab.async false
set_option linter.all false
set_option maxRecDepth 100000
set_option maxHeartbeats 4000000
set_option autoImplicit false
namespace Mi
open PySem PySem.Spec PyProof.Rows L2 PySem.Calls PySem.W PySem.HandSPX

/-! ### C(e), C(f=e), as data -/
theorem excH_ok {P : Program} {w : World} {H : Hp} {h : Heap} {e C d : Addr} {oe : Obj} {vs : Array Value} (he : h.get? e = some oe) (z : Zc (.ref C) (some d) oe) (hd : oe.data = .fields vs) : ObjOk P w H h e (excH e C d) :=
  ⟨⟨oe, vs, he, z, hd⟩, ⟨oe, he⟩, fun _ _ ⟨o, v, q, r⟩ k => ⟨o, v, k o q, r⟩⟩
def exD1 (c f : Str) (x : PyData) : PyData := .dict [(.bool false, .str c), (.bool false, .none), (.str f, x)]
def tMkV (C : Addr) (f : Str) (t : TE) : TE := fun σ H Q => t σ H fun v H1 => ∀ e d, H1 e = none → H1 d = none → d ≠ e → Q (.ref e) (upd (upd H1 d (.xd [(f, v)])) e (excH e C d))
structure SupX (X : Cx) : Prop where
  no : X.mg "super" = none
  top : (X.prog.main.scope.names.lookup ("super" : Str)).isSome = false
section
variable {X : Cx} {C fI : Addr} {f x : Str} {B newId initId : String} {tl : List Value}
theorem mkV_run {pins : List (Addr × Obj)} {σ : L2.St} {H1 : Hp} {s1 : Shared} {Q : VK} {v : V} {u : Value} {k : Nat} {ps : List Value} {kw : List (Str × Value)} (Bs : BsX B newId initId tl) (T : ErG X.prog X.K B newId initId tl f C fI) (hf : FldG f) (hs : SupX X) (hr : Room (k + 1) X.A)
    (I1 : Inv X pins σ H1 s1) (rv : RelV v u) (har : (⟨ps, kw⟩ : Args) = ⟨[u], []⟩ ∨ (⟨ps, kw⟩ : Args) = ⟨[], [(f, u)]⟩) (q1 : ∀ e d, H1 e = none → H1 d = none → d ≠ e → Q (.ref e) (upd (upd H1 d (.xd [(f, v)])) e (excH e C d))) :
    wpAny (model X.prog X.w) X.A (call (.ref C) ps kw) (EP X pins σ Q) X.xe s1 := by
  have lim := I1.nolimit
  have gl := I1.ok.mod.glob.keeps I1.bk
  obtain ⟨mb, b1, b2⟩ := I1.ok.mod.blt
  have bl := b1.keeps I1.bk
  obtain ⟨hp, g, dr, tk, os⟩ := s1
  refine wpAny_call (er_madeG Bs T hf I1.kIn lim gl hs.no ⟨mb, bl, b2⟩ hs.top (by have := hr.dp; omega) har fun h' tk' e d M => ?_)
  obtain ⟨oe, fv, hoe, hz, hdat, _⟩ := M.obj
  obtain ⟨G', g1, g2⟩ := restrict h' fun b => decide (b ≠ e)
  have gk : ∀ b, b ≠ e → G'.get? b = h'.get? b := fun b hb => g1 b (decide_eq_true hb)
  have ge : G'.get? e = none := g2 e (by simp)
  have old : ∀ b o, hp.get? b = some o → G'.get? b = some o := fun b o q => (gk b (Nat.ne_of_lt (Nat.lt_of_lt_of_le (Heap.lt_size q) M.big))).trans (M.keep b o q)
  have ob : ObjOk X.prog X.w (upd H1 d (.xd [(f, v)])) G' d (.xd [(f, v)]) := ⟨_, M.ns.at (fun o q => (gk d M.dne).trans q), relO_one rv⟩
  have J : Inv X pins σ (upd H1 d (.xd [(f, v)])) ⟨G', g, dr, tk', os⟩ := I1.laid (t' := tk') old M.dbig ob
  have ne : H1 e = none := I1.hok.fresh M.big
  have ne2 : upd H1 d (.xd [(f, v)]) e = none := by
    rw [upd_ne (Ne.symm M.dne)]
    exact ne
  have kk : ∀ b o, G'.get? b = some o → h'.get? b = some o := fun b o q => by
    by_cases hb : b = e
    · rw [hb, ge] at q
      cases q
    · exact (gk b hb).symm.trans q
  exact ⟨.ref e, _, J.laidN (t' := tk') kk ge ne2 (excH_ok hoe hz hdat), rfl, q1 e d ne (I1.hok.fresh M.dbig) M.dne⟩
theorem pe_mkP {a : Expr} {t : TE} {p pos : Pos} {k : Nat} (Bs : BsX B newId initId tl) (T : ErG X.prog X.K B newId initId tl f C fI) (hf : FldG f) (hs : SupX X) (hr : Room (k + 1) X.A) (ha : PE X a t) (hm : X.mg x = some (.ref C))
    (hg : Gl X x := by rfl) (hdb : (x == ("__debug__" : Str)) = false := by decide) (he : starEach (a :: []) X.env = (false, eval a X.env) :: starEach [] X.env := by rfl) (hpl : (backTo pos (starEach [] X.env)).any (·.1) = false := by rfl) :
    PE X (.Call (.Name x p) [a] [] pos) (tMkV C f t) := by
  refine ⟨fun pins s σ H Q I h => ?_⟩
  refine wpAny_Call_Name_kw (ld_glob I hg hm ?_ hdb)
  refine callWith_K (h₀ := X.base) I.ok.mod.kin T.kC ?_ he hpl
  rw [he]
  show wpAny _ _ (spliced ((false, eval a X.env) :: backTo pos (starEach [] X.env))) _ _ s
  refine Calls.spliced_cons (thn (ha.run pins s σ H _ I h) fun u s1 ⟨v, H1, I1, r1, q1⟩ => ?_)
  refine Calls.spliced_nil ⟨I1.kIn, ?_⟩
  exact mkV_run (ps := [u]) (kw := []) Bs T hf hs hr I1 r1 (.inl rfl) q1
theorem pe_mkK {a : Expr} {t : TE} {p pos kp : Pos} {k : Nat} (Bs : BsX B newId initId tl) (T : ErG X.prog X.K B newId initId tl f C fI) (hf : FldG f) (hs : SupX X) (hr : Room (k + 1) X.A) (ha : PE X a t) (hm : X.mg x = some (.ref C))
    (hg : Gl X x := by rfl) (hdb : (x == ("__debug__" : Str)) = false := by decide) (hall : (backToKw pos (keywordEach [⟨some f, a, kp⟩] X.env)).all (·.1.isSome) = true := by rfl) (hks : (backToKw pos (keywordEach [⟨some f, a, kp⟩] X.env)).filterMap (·.1) = [f] := by rfl)
    (hpl : ((backTo pos (starEach [] X.env)).any (·.1) || (backToKw pos (keywordEach [⟨some f, a, kp⟩] X.env)).any (·.1.isNone)) = false := by rfl) :
    PE X (.Call (.Name x p) [] [⟨some f, a, kp⟩] pos) (tMkV C f t) := by
  refine ⟨fun pins s σ H Q I h => ?_⟩
  refine wpAny_Call_Name_kw (ld_glob I hg hm ?_ hdb)
  refine PySem.W.callWith_KW0 (h₀ := X.base) I.ok.mod.kin T.kC hall ?_ hpl
  show wpAny _ _ (evalAll ((do let v ← eval a X.env; standAt pos; pure v) :: [])) _ _ s
  refine wpAny_evalAll_cons (wpAny_bind (thn (ha.run pins s σ H _ I h) fun u s1 ⟨v, H1, I1, r1, q1⟩ => wpAny_bind (wpAny_standAt (wpAny_pure (wpAny_evalAll_nil ⟨I1.kIn, ?_⟩)))))
  rw [hks]
  exact mkV_run (ps := []) (kw := [(f, u)]) Bs T hf hs hr I1 r1 (.inr rfl) q1
def eMkE (c f : Str) (m : EM) : EM := fun env S => (m env S).bind fun d S1 => match d with
  | .p x => .ok (.p (exD1 c f x)) S1
  | _ => .bad
/-- a class of errors with one field, by its name -/
def EgX (P : Program) (K : Frag) (mg : Str → Option Value) (x f : Str) : Prop := ∃ B newId initId tl C fI, BsX B newId initId tl ∧ nsIn K mainGlobals x = some (some (.ref C)) ∧ mg x = some (.ref C) ∧ ErG P K B newId initId tl f C fI ∧ FldG f
theorem mkE_of {W : WX} {m : EM} {a : Expr} {pe : Expr} (hp : nsIn X.K mainGlobals x = some (some (.ref C))) (h : PE X pe (tMkV C f (te X.K X.mg W m))) : PE X pe (te X.K X.mg W (eMkE x f m)) := by
  refine h.w fun σ H Q ⟨R, μ, env, S, r, h⟩ => ⟨R, μ, env, S, r, ?_⟩
  refine pg_mono (pg_bind h) fun μ1 H1 S1 d s1 rs1 q v dr e b he hb hbe => ?_
  cases dr with
  | loc _ => exact q.elim
  | scr _ => exact q.elim
  | @p _ d pd =>
    have s2 : Sp1 μ1 S1.length H1 μ1 S1.length (upd H1 b (.xd [(f, v)])) := sp_new hb
    have he2 : upd H1 b (.xd [(f, v)]) e = none := by
      rw [upd_ne (Ne.symm hbe)]
      exact he
    have s3 : Sp1 μ1 S1.length (upd H1 b (.xd [(f, v)])) μ1 S1.length (upd (upd H1 b (.xd [(f, v)])) e (excH e C b)) := sp_new he2
    have rs2 := rs_new hb rs1 (o := .xd [(f, v)])
    have rs3 := rs_new he2 rs2 (o := excH e C b)
    refine q μ1 _ (s2.trans s3) rs3 _ (.p ?_)
    refine Pd.exn (d := b) (ks := [f]) (vs := [v]) (ds := [d]) hp upd_same (not_own rs2 he2) ?_ (not_own rs1 hb) rfl (.cons ((pd.mono (av_le s2.hp)).mono (av_le s3.hp)) .nil)
    rw [upd_ne hbe, upd_same]
    rfl
theorem me_mkP {W : WX} {m : EM} {a : Expr} {p pos : Pos} {k : Nat} (T : EgX X.prog X.K X.mg x f) (hs : SupX X) (hr : Room (k + 1) X.A) (ha : PE X a (te X.K X.mg W m))
    (hg : Gl X x := by rfl) (hdb : (x == ("__debug__" : Str)) = false := by decide) (he : starEach (a :: []) X.env = (false, eval a X.env) :: starEach [] X.env := by rfl) (hpl : (backTo pos (starEach [] X.env)).any (·.1) = false := by rfl) :
    PE X (.Call (.Name x p) [a] [] pos) (te X.K X.mg W (eMkE x f m)) := by
  obtain ⟨B, newId, initId, tl, C, fI, Bs, hn, hm, T, hf⟩ := T
  exact mkE_of (a := a) hn (pe_mkP Bs T hf hs hr ha hm hg hdb he hpl)
theorem me_mkK {W : WX} {m : EM} {a : Expr} {p pos kp : Pos} {k : Nat} (T : EgX X.prog X.K X.mg x f) (hs : SupX X) (hr : Room (k + 1) X.A) (ha : PE X a (te X.K X.mg W m))
    (hg : Gl X x := by rfl) (hdb : (x == ("__debug__" : Str)) = false := by decide) (hall : (backToKw pos (keywordEach [⟨some f, a, kp⟩] X.env)).all (·.1.isSome) = true := by rfl) (hks : (backToKw pos (keywordEach [⟨some f, a, kp⟩] X.env)).filterMap (·.1) = [f] := by rfl)
    (hpl : ((backTo pos (starEach [] X.env)).any (·.1) || (backToKw pos (keywordEach [⟨some f, a, kp⟩] X.env)).any (·.1.isNone)) = false := by rfl) :
    PE X (.Call (.Name x p) [] [⟨some f, a, kp⟩] pos) (te X.K X.mg W (eMkE x f m)) := by
  obtain ⟨B, newId, initId, tl, C, fI, Bs, hn, hm, T, hf⟩ := T
  exact mkE_of (a := a) hn (pe_mkK Bs T hf hs hr ha hm hg hdb hall hks hpl)
end
end Mi

/-! Mi57 -/
set_option Elab.async false
set_option linter.all false
set_option maxRecDepth 100000
set_option maxHeartbeats 4000000
set_option autoImplicit false
namespace Mi
open PySem PySem.Spec PyProof.Rows L2 PySem.Calls

/-! ### an error as data: its fields, its class -/
def exCls : PyData → Option Str
  | .dict ((.bool false, .str c) :: _) => some c
  | _ => none
def lookS (f : Str) : List (PyData × PyData) → Option PyData
  | [] => none
  | (.str g, x) :: r => if (f == g) = true then some x else lookS f r
  | _ :: r => lookS f r
def exFld (f : Str) : PyData → Option PyData
  | .dict ((.bool false, .str _) :: (.bool false, .none) :: r) => lookS f r
  | _ => none
/-- what the written part says of a class of errors -/
structure CaG (K : PySem.W.Frag) (C : Addr) : Prop where
  xf : XfC K C
  no : ∀ f, FldG f → PySem.W.findIn K (.ref C) f = some none
  cl : (PySem.W.clsIn K C).isSome = true
  ha : PySem.W.findIn K (.ref C) "__class__" = some (some (.builtin "object.__class__"))
  hn : PySem.W.specialIn K (.builtin "object.__class__") "__get__" = some (some (.builtin "getset_descriptor.__get__"))
  ht : PySem.W.takesIn K (.builtin "object.__class__") = some true
  hm : PySem.W.mroIn K C (.type "object") = some true
def ClsG (K : PySem.W.Frag) (all : List Str) : Prop := ∀ c ∈ all, ∀ C, PySem.W.nsIn K mainGlobals c = some (some (.ref C)) → CaG K C
section
variable {K : PySem.W.Frag} {H : Hp} {O : Addr → Prop} {f : Str}
theorem pd_look : ∀ {ks : List Str} {vs : List V} {ds : List PyData} {x : PyData}, PdAll K H O vs ds → ks.length = vs.length → lookS f ((ks.zip ds).map fun p => (PyData.str p.1, p.2)) = some x → ∃ w, (ks.zip vs).lookup f = some w ∧ Pd K H O w x
  | [], _, _, _, _, _, e => by cases e
  | _ :: _, [], _, _, _, hl, _ => by cases hl
  | _ :: _, _ :: _, [], _, h, _, _ => by cases h
  | k :: ks, v :: vs, d :: ds, x, .cons h1 h2, hl, e => by
    have e' : (if (f == k) = true then some d else lookS f ((ks.zip ds).map fun p => (PyData.str p.1, p.2))) = some x := e
    by_cases q : (f == k) = true
    · rw [if_pos q] at e'
      cases e'
      exact ⟨v, by simp only [List.zip_cons_cons, List.lookup, q], h1⟩
    · rw [if_neg q] at e'
      obtain ⟨w, w1, w2⟩ := pd_look (ks := ks) h2 (Nat.succ.inj hl) e'
      exact ⟨w, by simp only [List.zip_cons_cons, List.lookup, Bool.eq_false_iff.mpr q]; exact w1, w2⟩
end
section
variable {X : Cx} {pins : List (Addr × Obj)} {σ : L2.St} {H : Hp} {s : Shared} {O : Addr → Prop} {f : Str} {v : V} {d : PyData} {c : Str}
theorem ex_inst (I : Inv X pins σ H s) (p : Pd X.K H O v d) (e : exCls d = some c) :
    ∃ a C oe od, v = .ref a ∧ PySem.W.nsIn X.K mainGlobals c = some (some (.ref C)) ∧ PySem.W.InstAt s.heap a oe C od ∧ ∀ f x, exFld f d = some x → ∃ oo w u, od = some oo ∧ PySem.W.lookIn f oo = some (some u) ∧ RelV w u ∧ Pd X.K H O w x := by
  cases p with
  | non => cases e
  | bl _ => cases e
  | int _ => cases e
  | str _ => cases e
  | lst _ _ _ => cases e
  | tup _ _ => cases e
  | wk _ _ _ => cases e
  | wkn _ _ => cases e
  | dk0 _ _ => cases e
  | dk1 _ _ _ => cases e
  | dks _ _ _ => cases e
  | @ex0 a C c' hc h1 _ =>
    cases e
    have ok : ObjOk X.prog X.w H s.heap a (ExO (.ref C) a) := I.hok a _ h1
    obtain ⟨⟨oe, vs, ho, hz, hd, _⟩, _, _⟩ := ok
    exact ⟨a, C, oe, none, rfl, hc, ⟨ho, hz.1, by unfold PySem.W.notCls; rw [hd] <;> rfl, by rw [hz.2]; trivial⟩, fun f x z => by cases z⟩
  | @exn a C dd c' ks vs ds hc h1 _ h2 _ hl hp =>
    cases e
    have ok : ObjOk X.prog X.w H s.heap a (excH a C dd) := I.hok a _ h1
    obtain ⟨⟨oe, fv, ho, hz, hd⟩, _, _⟩ := ok
    have hx : ObjOk X.prog X.w H s.heap dd (.xd (ks.zip vs)) := I.hok dd _ h2
    obtain ⟨mA, hns, hr⟩ := hx
    obtain ⟨od, ho2, hlk⟩ := lookIn_ns hns
    refine ⟨a, C, oe, some od, rfl, hc, ⟨ho, hz.1, by unfold PySem.W.notCls; rw [hd] <;> rfl, by rw [hz.2]; exact ho2⟩, fun f x z => ?_⟩
    obtain ⟨w, w1, w2⟩ := pd_look (f := f) hp hl z
    obtain ⟨u, hu, ru⟩ := RelO.some_of (v := w) (o := mA f) (by rw [← w1]; exact hr f)
    exact ⟨od, w, u, rfl, by rw [hlk, hu], ru, w2⟩
end
/-- e.f -/
def exFldD (all : List Str) (f : Str) : D → Option PyData
  | .p d => match exCls d with
    | some c => if c ∈ all then exFld f d else none
    | none => none
  | _ => none
def eExF (all : List Str) (f : Str) (m : EM) : EM := fun env S => (m env S).bind fun d S1 => match exFldD all f d with
  | some x => .ok (.p x) S1
  | none => .bad
section
variable {X : Cx} {W : WX} {e : Expr} {m : EM} {f : Str} {all : List Str} {pos : Pos}
theorem pe_exf {t : TE} (Ca : ClsG X.K all) (hf : FldG f) (he : PE X e t) (hab : attributeBase e f X.env (eval e X.env) = eval e X.env := by rfl) :
    PE X (.Attribute e f pos) (fun σ H Q => t σ H fun v H1 => ∃ O d x, Pd X.K H1 O v d ∧ exFldD all f (.p d) = some x ∧ ∀ w, Pd X.K H1 O w x → Q w H1) := by
  refine ⟨fun pins s σ H Q I h => ?_⟩
  refine attr_of hab (thn (he.run pins s σ H _ I h) fun u s1 ⟨v, H1, I1, rv, O, d, x, pd, ex, q⟩ => ?_)
  have ex' : (match exCls d with
    | some c => if c ∈ all then exFld f d else none
    | none => none) = some x := ex
  cases ec : exCls d with
  | none => rw [ec] at ex'; cases ex'
  | some c =>
    rw [ec] at ex'
    dsimp only at ex'
    by_cases hc : c ∈ all
    · rw [if_pos hc] at ex'
      obtain ⟨a, C, oe, od, rfl, hn, J, hfl⟩ := ex_inst I1 pd ec
      obtain ⟨oo, w, u', rfl, hl, rw', pw⟩ := hfl f x ex'
      obtain rfl : u = Value.ref a := rv
      have T := Ca c hc C hn
      exact HandSPX.exc_get I1.kIn J T.xf.ga T.xf.gg T.xf.exC (PySem.W.findObj_own T.xf.hdC (T.no f hf) rfl hl) (handed_of rw') ⟨w, H1, I1.tok _, rw', q w pw⟩
    · rw [if_neg hc] at ex'
      cases ex'
theorem me_exf (Ca : ClsG X.K all) (hf : FldG f) (he : PE X e (te X.K X.mg W m)) (hab : attributeBase e f X.env (eval e X.env) = eval e X.env := by rfl) : PE X (.Attribute e f pos) (te X.K X.mg W (eExF all f m)) := by
  refine (pe_exf Ca hf he hab).w fun σ H Q ⟨R, μ, env, S, r, h⟩ => ⟨R, μ, env, S, r, ?_⟩
  refine pg_mono (pg_bind h) fun μ1 H1 S1 d s1 rs1 q v dr => ?_
  cases ex : exFldD all f d with
  | none => rw [ex] at q; exact q.elim
  | some x =>
    rw [ex] at q
    cases dr with
    | loc _ => cases ex
    | scr _ => cases ex
    | @p _ d pd => exact ⟨_, d, x, pd, ex, fun w pw => q μ1 H1 Sp1.refl rs1 w (.p pw)⟩
end

/-! ### isinstance(e, y) -/
def IsG (K : PySem.W.Frag) (all : List Str) (Y : Value) (subs : List Str) : Prop := ∀ c ∈ all, ∀ C, PySem.W.nsIn K mainGlobals c = some (some (.ref C)) → PySem.W.kitOne K (.ref C) Y = some (decide (c ∈ subs))
def isGD (all subs : List Str) : D → Option Bool
  | .p d => match exCls d with
    | some c => if c ∈ all then some (decide (c ∈ subs)) else none
    | none => none
  | _ => none
def eExI (all subs : List Str) (m : EM) : EM := fun env S => (m env S).bind fun d S1 => match isGD all subs d with
  | some b => .ok (.p (.bool b)) S1
  | none => .bad
section
variable {X : Cx} {W : WX} {e : Expr} {m : EM} {y : Str} {all subs : List Str} {p p2 pos : Pos}
theorem isg_run {pins : List (Addr × Obj)} {σ : L2.St} {H : Hp} {s : Shared} {Q : VK} {O : Addr → Prop} {v : V} {u Y : Value} {d : PyData} {b : Bool} (Ca : ClsG X.K all) (hI : IsG X.K all Y subs) (I : Inv X pins σ H s) (pd : Pd X.K H O v d) (hb : isGD all subs (.p d) = some b) (rv : RelV v u) (q : Q (.bl b) H) :
    wpAny (model X.prog X.w) X.A (call (.builtin "isinstance") [u, Y]) (EP X pins σ Q) X.xe s := by
  have hb' : (match exCls d with
    | some c => if c ∈ all then some (decide (c ∈ subs)) else none
    | none => none) = some b := hb
  cases ec : exCls d with
  | none => rw [ec] at hb'; cases hb'
  | some c =>
    rw [ec] at hb'
    dsimp only at hb'
    by_cases hc : c ∈ all
    · rw [if_pos hc] at hb'
      cases hb'
      obtain ⟨a, C, oe, od, rfl, hn, J, _⟩ := ex_inst I pd ec
      obtain rfl : u = Value.ref a := rv
      have T := Ca c hc C hn
      exact PySem.W.kia_one (PySem.W.kitx_exc T.cl T.xf.ga T.xf.gg T.xf.exC T.ha T.hn T.ht T.hm) I.kIn J (hI c hc C hn) (fun z => nomatch z) fun tk => ⟨.bl _, H, I.kept (t' := tk) fun _ _ z => z, rfl, q⟩
    · rw [if_neg hc] at hb'
      cases hb'
/-- the class y, own or built in -/
def IsY (K : PySem.W.Frag) (mg : Str → Option Value) (all : List Str) (y : Str) (subs : List Str) : Prop := ∃ vy Y, RelV vy Y ∧ (∀ u, RelV vy u → u = Y) ∧ (mg y = some Y ∨ (mg y = none ∧ bootBuiltins y = some Y ∧ y ≠ "__name__")) ∧ IsG K all Y subs
theorem pe_isy {vy : V} {Y : Value} (rY : RelV vy Y) (hg : Gl X y) (hm : X.mg y = some Y ∨ (X.mg y = none ∧ bootBuiltins y = some Y ∧ y ≠ "__name__")) (hd : (y == ("__debug__" : Str)) = false) : PE X (.Name y p2) (fun _ H Q => Q vy H) := by
  rcases hm with hm | ⟨hm, hv, hn⟩
  · exact pe_glob hg hm rY hd
  · exact pe_bltn hg hm hv rY hn hd
theorem me_exi (B : Bn X.mg) (Ca : ClsG X.K all) (hI : IsY X.K X.mg all y subs) (he : PE X e (te X.K X.mg W m)) (hgi : Gl X "isinstance" := by rfl) (hgy : Gl X y := by rfl) (hdy : (y == ("__debug__" : Str)) = false := by decide)
    (hs : starEach [e, .Name y p2] X.env = (false, eval e X.env) :: starEach [.Name y p2] X.env := by rfl) (hs2 : starEach [.Name y p2] X.env = (false, eval (.Name y p2) X.env) :: starEach [] X.env := by rfl) (hpl : (backTo pos (starEach [.Name y p2] X.env)).any (·.1) = false := by rfl) :
    PE X (.Call (.Name "isinstance" p) [e, .Name y p2] [] pos) (te X.K X.mg W (eExI all subs m)) := by
  obtain ⟨vy, Y, rY, uY, hm, hI⟩ := hI
  have rule : CallR X (.builtin "isinstance") (fun vs H Q => ∃ v O d b, vs = [v, vy] ∧ Pd X.K H O v d ∧ isGD all subs (.p d) = some b ∧ Q (.bl b) H) := by
    intro pins s σ H vs us Q I rr ⟨v, O, d, b, ev, pd, hb, q⟩
    subst ev
    cases rr with
    | cons rx rr =>
      cases rr with
      | cons rt rr =>
        cases rr
        rw [uY _ rt]
        exact isg_run Ca hI I pd hb rx q
  refine (pe_callB rule hgi B.isinstance (by decide +kernel) (pa_cons he (pa_cons (pe_isy rY hgy hm hdy) pa_nil hs2) hs) (by decide) (by decide) hs hpl).w fun σ H Q ⟨R, μ, env, S, r, h⟩ => ⟨R, μ, env, S, r, ?_⟩
  refine pg_mono (pg_bind h) fun μ1 H1 S1 d s1 rs1 q v dr => ?_
  cases ex : isGD all subs d with
  | none => rw [ex] at q; exact q.elim
  | some b =>
    rw [ex] at q
    cases dr with
    | loc _ => cases ex
    | scr _ => cases ex
    | @p _ d pd => exact ⟨v, _, d, b, rfl, pd, ex, q μ1 H1 Sp1.refl rs1 _ (.p (.bl b))⟩
end
end Mi

/-! Mi58 -/
set_option Elab.async false
set_option linter.all false
set_option maxRecDepth 100000
set_option maxHeartbeats 4000000
set_option autoImplicit false
namespace Mi
open PySem PySem.Spec PyProof.Rows L2 PySem.Calls PySem.W PySem.HandSPX

/-! ### the maker of an error without a field -/
def erA0 (p1 : Pos) : Arguments := ⟨[], [⟨"self", none, p1⟩], none, [], [], none, []⟩
def erB0 (msg : Str) (p : ErP) : List Stmt := [.Expr (.Call (.Attribute (.Call (.Name "super" p.a) [] [] p.b) "__init__" p.c) [.Constant (.str msg) 0 p.d] [] p.e) p.g]
def erS0 : Scope := ⟨.function, [("self", .local), ("__class__", .free), ("super", .globalImplicit)], false, false, []⟩
abbrev erF0 (q msg : Str) (p : ErP) (doc pm : Value) (an : Option Addr) (cdv ct : Value) (cc : Addr) : FuncData := ksFn "__init__" q (erA0 p.m) (erB0 msg p) erS0 .none .none doc pm an cdv ct cc
structure ErN (pr : Program) (K : Frag) (B newId initId : String) (tl : List Value) (C fI : Addr) : Prop where
  cls : ∃ nm q N bs bm hd sn sub ab col dd k0 k1 k2 k3 k5, K.lookup C = some (excClassObj nm q C N bs bm hd sn sub ab col dd k0 k1 k2 k3 k5 newId) ∧ RefsT tl bm
  iC : findIn K (.ref C) "__init__" = some (some (.ref fI))
  tI : typeIn K (.ref fI) = some (.type "function")
  kC : keepIn K (.ref C) = true
  vC : subIn K (.ref C) (.type B) = some true
  sC : mroIn K C (.ref C) = some true
  up : ks_superIn K C C "__init__" = some (some (.builtin initId))
  np : nsIn K cStatics "thirdparty.any" = some none
  fn : ∃ (oc : Value) (od : Option Addr) (q msg : Str) (p : ErP) (doc pm : Value) (an : Option Addr) (cda : Addr) (ct : Value) (cc : Addr) (osl : Array (Option Value)),
    K.lookup fI = some ⟨oc, od, .func (erF0 q msg p doc pm an (.ref cda) ct cc), osl⟩ ∧ codeIn K (.ref cda) q = true ∧ ErLn msg p ∧
    (∃ (ccl : Value) (cdd : Option Addr) (vs : Array Value) (ccs : Array (Option Value)) (file : Str) (tf : Tok), K.lookup cda = some ⟨ccl, cdd, .fields vs, ccs⟩ ∧ vs[2]? = some (.str file tf) ∧ ((pr.main.file : Str) == file) = true) ∧
    ∃ (cl : Value) (cld : Option Addr) (csl : Array (Option Value)), K.lookup cc = some ⟨cl, cld, .cell (some (.ref C)), csl⟩
section
variable {prog : Program} {w : World} {A : Around} {E : Value → Shared → Prop} {R : Result → Shared → Prop} {s : Shared} {K : Frag} {mg : Str → Option Value} {C fI : Addr} {B newId initId : String} {tl : List Value}
theorem er_init0 (Bs : BsX B newId initId tl) (T : ErN prog K B newId initId tl C fI) {x t0 : Addr} (X : K.In s.heap) (hlim : s.heap.NoLimit) (G : s.heap.Ns mainGlobals mg) (hs : mg "super" = none) (hb : ∃ mb, s.heap.Ns builtinsNs mb ∧ ∀ x : Str, x ≠ "__name__" → mb x = bootBuiltins x)
    (htop : (prog.main.scope.names.lookup ("super" : Str)).isSome = false) (hx : s.heap.get? x = some (excO C t0)) (hroom : A.depth < recursionLimit)
    (hq : ∀ h' t1, (∀ b o, b ≠ x → s.heap.get? b = some o → h'.get? b = some o) → h'.get? x = some (excO C t1) → ∀ tk, R (.ok (.ret .none)) { s with heap := h', toks := tk }) :
    codeAny (model prog w) A (.call (.ref fI) ⟨[.ref x], []⟩) R s := by
  obtain ⟨oc, od, q, msg, p, doc, pm, an, cda, ct, cc, osl, ho, hcd, ⟨pl, ln⟩, ⟨ccl, cdd, vs, ccs, file, tf, hcode, hvs, hfile⟩, cl, cld, csl, hcell⟩ := T.fn
  obtain ⟨nm, q', N, bs, bm, hd, sn, sub, ab, col, dd, k0, k1, k2, k3, k5, hC, hbm⟩ := T.cls
  obtain ⟨mb, B1, hmb⟩ := hb
  have hcl : clsIn K C = some { name := nm, bases := bs, mro := .ref C :: bm, ns := N, qualname := q', hasDict := hd, slotNames := sn, subclasses := sub, abstract := ab, collection := col, hasDel := false } := by unfold clsIn; rw [hC] <;> rfl
  have hnx : x ≠ C := fun z => by
    have e := X _ _ hC
    rw [← z, hx] at e
    cases e
  have lk : erS0.names.lookup ("self" : Str) = some .local := rfl
  have kS : erS0.names.lookup ("super" : Str) = some .globalImplicit := rfl
  have kK : erS0.names.lookup ("__class__" : Str) = some .free := rfl
  have ks : (([("self", Value.ref x)] : List (Str × Value)).reverse).lookup ("self" : Str) = some (Value.ref x) := rfl
  have bt : BindsTo s (erF0 q msg p doc pm an (.ref cda) ct cc) ⟨[.ref x], []⟩ [("self", .ref x)] := BindsTo.of_eq (by first | rfl | with_unfolding_all rfl)
  refine ks_codeAny_call_defAt (fd := erF0 q msg p doc pm an (.ref cda) ct cc) (body := erB0 msg p) (binds := [("self", .ref x)]) hroom (X _ _ ho) rfl hlim (codeRec_of X hcd) rfl bt
    (fun y hy => by
      have q : ∀ y ∈ erS0.names, y.2 ≠ .cell := by decide
      exact q y hy) (fun (y : Str × Value) (hy : y ∈ ([("self", Value.ref x)] : List (Str × Value))) => by
      rcases List.mem_cons.mp hy with rfl | hy
      · rfl
      · cases hy) (fun h₁ hns k => ?_) rfl rfl rfl
  have X₁ : K.In h₁ := X.keeps k
  have hx₁ := k _ _ hx
  have hC₁ := X₁ _ _ hC
  refine ks_wpAt_execs_cons (ks_wpAt_Expr_any (ks_wpAt_MethodCall ?_ (ln _)))
  refine ks_wpAt_super_base kS kK rfl rfl (X₁ _ _ ho) rfl rfl rfl (X₁ _ _ hcode) rfl hvs hfile htop ?_
  refine ks_loadName_global rfl kS (loadGlobal_builtin (G.keeps k) hs (B1.keeps k) ((hmb "super" (by decide)).trans (by kernel_rfl)) ⟨rfl, ?_⟩)
  refine wpAny_loadName_free rfl kK rfl ⟨_, X₁ _ _ hcell, rfl⟩ ?_
  refine wpAny_loadName_local rfl lk hns ks ?_
  refine ks_wpAny_isType_cls hC₁ rfl ⟨rfl, ?_⟩
  refine ks_wpAny_call_super hC₁ rfl hx₁ rfl (fun c e => by cases e) (looks_mroIn X₁ T.sC) (fun h2 e2 k2 => ?_)
  have X₂ : K.In h2 := X₁.keeps k2
  have I2 : InstAt h2 x (excO C t0) C none := ⟨k2 _ _ hx₁, rfl, rfl, trivial⟩
  have hm : alongIn K "__init__" (((Value.ref C :: bm).dropWhile (· != .ref C)).drop 1) = some (some (.builtin initId)) := by
    have e := T.up
    unfold ks_superIn at e
    rw [hcl] at e
    exact e
  refine kxs_getMethod Bs.kx e2 (looks_opaque X₂ T.np) (l₀ := .ref C :: bm) (fun A Q E s k q => wpAny_bind ((looks_clsIn X₂ hcl) A _ E s k (wpAny_pure q))) rfl X₂ hm (I2.type.andThen (looks_subIn X₂ T.vC)) hnx (by decide) ?_
  have hx2 : (h2.push (kxs_mw initId x)).get? x = some (excO C t0) := Heap.get?_push_of_some _ I2.at_
  have hu2 : (h2.push (kxs_mw initId x)).get? h2.objs.size = some (kxs_mw initId x) := Heap.get?_push_at rfl rfl
  refine kxs_callWith (i := initId) (x := x) rfl (evalArgs_plain (Calls.spliced_cons (wpAny_Constant_str (k := 0) (pos := p.d) (Calls.spliced_nil ⟨hu2, ?_⟩))))
  refine mw_callG Bs.F (Heap.get?_push_of_some _ (X₂ _ _ hC)) hx2 hu2 (by show 1 ≤ sizeLine; rw [sizeLine_eq]; omega) fun h3 t3 k3 hx3 => ?_
  have old3 : ∀ b o, b ≠ x → s.heap.get? b = some o → h3.get? b = some o := fun b o hb e => k3 b o hb (Heap.get?_push_of_some _ (k2 b o (k b o e)))
  show PySem.wpAt _ _ _ (execs _ _) _ _ _
  exact wpAt_of_wpAny (wpAny_execs_nil (hq h3 t3 old3 hx3 _))
theorem er_made0 (Bs : BsX B newId initId tl) (T : ErN prog K B newId initId tl C fI) (X : K.In s.heap) (hlim : s.heap.NoLimit) (G : s.heap.Ns mainGlobals mg) (hs : mg "super" = none) (hb : ∃ mb, s.heap.Ns builtinsNs mb ∧ ∀ x : Str, x ≠ "__name__" → mb x = bootBuiltins x)
    (htop : (prog.main.scope.names.lookup ("super" : Str)).isSome = false) (hroom : A.depth + 1 < recursionLimit)
    (hq : ∀ h' tk e t1, (∀ b o, s.heap.get? b = some o → h'.get? b = some o) → s.heap.objs.size ≤ e → h'.get? e = some (excO C t1) → R (.ok (.ret (.ref e))) { s with heap := h', toks := tk }) :
    codeAny (model prog w) A (.call (.ref C) ⟨[], []⟩) R s := by
  obtain ⟨nm, q, N, bs, bm, hd, sn, sub, ab, col, dd, k0, k1, k2, k3, k5, hC, hbm⟩ := T.cls
  obtain ⟨mb, B1, hmb⟩ := hb
  obtain ⟨hp, g, dr, tk, os⟩ := s
  have k : ∀ b o, hp.get? b = some o → ((hp.push (kdv_tup [])).push (excO C hp.objs.size)).get? b = some o := fun b o e => Heap.get?_push_of_some _ (Heap.get?_push_of_some _ e)
  have at_ : ((hp.push (kdv_tup [])).push (excO C hp.objs.size)).get? (hp.objs.size + 1) = some (excO C hp.objs.size) := by heap_get
  refine call_kw (kw := []) Bs.F (fun Y => hbm.con Y) (X _ _ hC) (looks_findIn X T.iC) (fun self => bind_fn X self T.tI) (Nat.zero_le _) ?_
  refine er_init0 (s := ⟨(hp.push (kdv_tup [])).push (excO C hp.objs.size), g, dr, tk, os⟩) Bs T (X.keeps k) (hlim.keeps k) (G.keeps k) hs ⟨mb, B1.keeps k, hmb⟩ htop at_ hroom fun h' t1 old hx' tk' => ?_
  exact ⟨rfl, hq h' tk' (hp.objs.size + 1) t1 (fun b o e => old b o (Nat.ne_of_lt (Nat.lt_succ_of_lt (Heap.lt_size e))) (k b o e)) (Nat.le_succ _) hx'⟩
end
section
variable {X : Cx} {C fI : Addr} {x : Str} {B newId initId : String} {tl : List Value} {W : WX}
def exD0 (c : Str) : PyData := .dict [(.bool false, .str c)]
def eMk0 (c : Str) : EM := fun _ S => .ok (.p (exD0 c)) S
def EnX (P : Program) (K : Frag) (mg : Str → Option Value) (x : Str) : Prop := ∃ B newId initId tl C fI, BsX B newId initId tl ∧ nsIn K mainGlobals x = some (some (.ref C)) ∧ mg x = some (.ref C) ∧ ErN P K B newId initId tl C fI
theorem pe_mk0 {p pos : Pos} {k : Nat} (Bs : BsX B newId initId tl) (T : ErN X.prog X.K B newId initId tl C fI) (hs : SupX X) (hr : Room (k + 1) X.A) (hm : X.mg x = some (.ref C)) (hg : Gl X x := by rfl) (hdb : (x == ("__debug__" : Str)) = false := by decide) :
    PE X (.Call (.Name x p) [] [] pos) (fun _ H Q => ∀ e, H e = none → Q (.ref e) (upd H e (ExO (.ref C) e))) := by
  refine ⟨fun pins s σ H Q I h => ?_⟩
  refine wpAny_Call_Name_kw (ld_glob I hg hm ?_ hdb)
  refine callWith_K0 I.kIn T.kC ?_
  have lim := I.nolimit
  have gl := I.ok.mod.glob.keeps I.bk
  obtain ⟨mb, b1, b2⟩ := I.ok.mod.blt
  have bl := b1.keeps I.bk
  obtain ⟨hp, g, dr, tk, os⟩ := s
  refine wpAny_call (er_made0 Bs T I.kIn lim gl hs.no ⟨mb, bl, b2⟩ hs.top (by have := hr.dp; omega) fun h' tk' e t1 old hbig hx => ?_)
  have hn : H e = none := I.hok.fresh hbig
  have hp' : hp.get? e = none := by
    cases z : hp.get? e with
    | none => rfl
    | some o => exact absurd (Heap.lt_size z) (Nat.not_lt_of_le hbig)
  exact ⟨.ref e, _, I.laidN (t' := tk') old hp' hn (exO_ok hx ⟨rfl, rfl⟩ rfl rfl rfl (show 4 < 6 by decide)), rfl, h e hn⟩
theorem me_mk0 {p pos : Pos} {k : Nat} (T : EnX X.prog X.K X.mg x) (hs : SupX X) (hr : Room (k + 1) X.A) (hg : Gl X x := by rfl) (hdb : (x == ("__debug__" : Str)) = false := by decide) :
    PE X (.Call (.Name x p) [] [] pos) (te X.K X.mg W (eMk0 x)) := by
  obtain ⟨B, newId, initId, tl, C, fI, Bs, hn, hm, T⟩ := T
  refine (pe_mk0 Bs T hs hr hm hg hdb).w fun σ H Q ⟨R, μ, env, S, r, h⟩ e he => ?_
  have s2 : Sp1 μ S.length H μ S.length (upd H e (ExO (.ref C) e)) := sp_new he
  exact h μ _ s2 (rs_new he r.rs) _ (.p (.ex0 hn upd_same (not_own r.rs he)))
/-- a class without a maker of its own -/
def ExT (K : Frag) (mg : Str → Option Value) (x : Str) : Prop := ∃ B newId initId tl C, ExcBaseFacts B newId initId tl ∧ excIn K C tl newId = true ∧ nsIn K mainGlobals x = some (some (.ref C)) ∧ mg x = some (.ref C) ∧ keepIn K (.ref C) = true
def eMkT (c : Str) (m : EM) : EM := fun env S => (m env S).bind fun _ S1 => .ok (.p (exD0 c)) S1
theorem me_mkT {e : Expr} {m : EM} {p pos : Pos} (T : ExT X.K X.mg x) (he : PE X e (te X.K X.mg W m)) (hg : Gl X x := by rfl) (hs : starEach [e] X.env = (false, eval e X.env) :: starEach [] X.env := by rfl) (hdb : (x == ("__debug__" : Str)) = false := by decide) :
    PE X (.Call (.Name x p) [e] [] pos) (te X.K X.mg W (eMkT x m)) := by
  obtain ⟨B, newId, initId, tl, C, F, hx, hn, hm, hk⟩ := T
  refine (pe_exc1 F hx hm hk hg he hs hdb).w fun σ H Q ⟨R, μ, env, S, r, h⟩ => ⟨R, μ, env, S, r, ?_⟩
  refine pg_mono (pg_bind h) fun μ1 H1 S1 d s1 rs1 q v dr a ha => ?_
  have s2 : Sp1 μ1 S1.length H1 μ1 S1.length (upd H1 a (ExO (.ref C) a)) := sp_new ha
  exact q μ1 _ s2 (rs_new ha rs1) _ (.p (.ex0 hn upd_same (not_own rs1 ha)))
end

/-! ### isinstance(e, (built-in classes)) -/
def IsTp (K : Frag) (all : List Str) (ts : List String) (subs : List Str) : Prop := ∀ c ∈ all, ∀ C, nsIn K mainGlobals c = some (some (.ref C)) → kitAny K (.ref C) (ts.map Value.type) = some (decide (c ∈ subs))
theorem vals_ty : ∀ {ts : List String} {us : List Value}, Vals (ts.map V.ty) us → us = ts.map Value.type
  | [], _, .nil => rfl
  | t :: ts, _, .cons r rr => by
    rw [vals_ty rr]
    have r' : _ = Value.type t := r
    rw [r']
    rfl
section
variable {X : Cx} {W : WX} {e : Expr} {m : EM} {all subs : List Str} {p pos : Pos} {ts : List String}
theorem call_isT (Ca : ClsG X.K all) (hI : IsTp X.K all ts subs) : CallR X (.builtin "isinstance") (fun vs H Q => ∃ v a O d b, vs = [v, .ref a] ∧ SqT X.K H a (ts.map V.ty) ∧ Pd X.K H O v d ∧ isGD all subs (.p d) = some b ∧ Q (.bl b) H) := by
  intro pins s σ H vs us Q I rr ⟨v, ta, O, d, b, ev, ht, pd, hb, q⟩
  subst ev
  cases rr with
  | cons rx rr =>
    cases rr with
    | cons rt rr =>
      cases rr
      cases rt
      obtain ⟨its, rv, ⟨o, ho, hc, n, hd⟩, _⟩ := I.tuple ht
      have hits := vals_ty rv
      subst hits
      have hb' : (match exCls d with
        | some c => if c ∈ all then some (decide (c ∈ subs)) else none
        | none => none) = some b := hb
      cases ec : exCls d with
      | none => rw [ec] at hb'; cases hb'
      | some c =>
        rw [ec] at hb'
        dsimp only at hb'
        by_cases hcc : c ∈ all
        · rw [if_pos hcc] at hb'
          cases hb'
          obtain ⟨a, C, oe, od, rfl, hn, J, _⟩ := ex_inst I pd ec
          cases rx
          have T := Ca c hcc C hn
          obtain ⟨oc, odd, odt, osl⟩ := o
          dsimp only at hc hd
          subst hc hd
          exact PySem.W.kia_tup (PySem.W.kitx_exc T.cl T.xf.ga T.xf.gg T.xf.exC T.ha T.hn T.ht T.hm) I.kIn J ho (hI c hcc C hn) (fun z => nomatch z) fun tk => ⟨.bl _, H, I.kept (t' := tk) fun _ _ z => z, rfl, q⟩
        · rw [if_neg hcc] at hb'
          cases hb'
theorem me_exiT {tup : Expr} (B : Bn X.mg) (Ca : ClsG X.K all) (hI : IsTp X.K all ts subs) (hz : ts.length ≤ sizeLine) (he : PE X e (te X.K X.mg W m)) (ht : PE X tup (tTupF (fun _ H Q => Q (ts.map V.ty) H))) (hgi : Gl X "isinstance" := by rfl)
    (hs : starEach [e, tup] X.env = (false, eval e X.env) :: starEach [tup] X.env := by rfl) (hs2 : starEach [tup] X.env = (false, eval tup X.env) :: starEach [] X.env := by rfl) (hpl : (backTo pos (starEach [tup] X.env)).any (·.1) = false := by rfl) :
    PE X (.Call (.Name "isinstance" p) [e, tup] [] pos) (te X.K X.mg W (eExI all subs m)) := by
  refine (pe_callB (call_isT Ca hI) hgi B.isinstance (by decide +kernel) (pa_cons he (pa_cons ht pa_nil hs2) hs) (by decide) (by decide) hs hpl).w fun σ H Q ⟨R, μ, env, S, r, h⟩ => ⟨R, μ, env, S, r, ?_⟩
  refine pg_mono (pg_bind h) fun μ1 H1 S1 d s1 rs1 q v dr => ⟨by rw [List.length_map]; exact hz, fun tp o htp ho => ?_⟩
  have s2 : Sp1 μ1 S1.length H1 μ1 S1.length (upd H1 tp (.frz o (.tup (ts.map V.ty)))) := sp_new htp
  cases ex : isGD all subs d with
  | none => rw [ex] at q; exact q.elim
  | some b =>
    rw [ex] at q
    cases dr with
    | loc _ => cases ex
    | scr _ => cases ex
    | @p _ d pd => exact ⟨v, tp, _, d, b, rfl, .inl (.inr ⟨o, upd_same⟩), pd.mono (av_le s2.hp), ex, q μ1 _ s2 (rs_new htp rs1) _ (.p (.bl b))⟩
/-- a built-in class by its name -/
structure Bt (X : Cx) (n : Str) (t : String) : Prop where
  mg : X.mg n = none
  bt : bootBuiltins n = some (.type t)
  nn : n ≠ "__name__"
  nd : (n == ("__debug__" : Str)) = false
theorem pe_ty2 {n1 n2 : Str} {t1 t2 : String} {p1 p2 p4 : Pos} {k : Nat} (h1 : Bt X n1 t1) (h2 : Bt X n2 t2) (g1 : Gl X n1 := by rfl) (g2 : Gl X n2 := by rfl)
    (s1 : starEach [.Name n1 p1, .Name n2 p2] X.env = (false, eval (.Name n1 p1) X.env) :: starEach [.Name n2 p2] X.env := by rfl) (s2 : starEach [.Name n2 p2] X.env = (false, eval (.Name n2 p2) X.env) :: starEach [] X.env := by rfl) :
    PE X (.Tuple [.Name n1 p1, .Name n2 p2] k p4) (tTupF (fun _ H Q => Q ([t1, t2].map V.ty) H)) :=
  pe_tupF (pa_cons (pe_bltn (v := .ty t1) g1 h1.mg h1.bt rfl h1.nn h1.nd) (pa_cons (pe_bltn (v := .ty t2) g2 h2.mg h2.bt rfl h2.nn h2.nd) pa_nil s2) s1)
theorem pe_ty3 {n1 n2 n3 : Str} {t1 t2 t3 : String} {p1 p2 p3 p4 : Pos} {k : Nat} (h1 : Bt X n1 t1) (h2 : Bt X n2 t2) (h3 : Bt X n3 t3) (g1 : Gl X n1 := by rfl) (g2 : Gl X n2 := by rfl) (g3 : Gl X n3 := by rfl)
    (s1 : starEach [.Name n1 p1, .Name n2 p2, .Name n3 p3] X.env = (false, eval (.Name n1 p1) X.env) :: starEach [.Name n2 p2, .Name n3 p3] X.env := by rfl) (s2 : starEach [.Name n2 p2, .Name n3 p3] X.env = (false, eval (.Name n2 p2) X.env) :: starEach [.Name n3 p3] X.env := by rfl)
    (s3 : starEach [.Name n3 p3] X.env = (false, eval (.Name n3 p3) X.env) :: starEach [] X.env := by rfl) :
    PE X (.Tuple [.Name n1 p1, .Name n2 p2, .Name n3 p3] k p4) (tTupF (fun _ H Q => Q ([t1, t2, t3].map V.ty) H)) :=
  pe_tupF (pa_cons (pe_bltn (v := .ty t1) g1 h1.mg h1.bt rfl h1.nn h1.nd) (pa_cons (pe_bltn (v := .ty t2) g2 h2.mg h2.bt rfl h2.nn h2.nd) (pa_cons (pe_bltn (v := .ty t3) g3 h3.mg h3.bt rfl h3.nn h3.nd) pa_nil s3) s2) s1)
end

/-! ### {k: v}, a text to a name's value; a.join(l) -/
def eDsV (k : Str) (i : Nat) : EM := fun env S => match env[i]? with
  | some (some (.p x)) => .ok (.p (.dict [(.str k, x)])) S
  | _ => .bad
def eDsI (k : Str) (j : Int) : EM := fun _ S => .ok (.p (.dict [(.str k, .int j)])) S
def strsP : List PyData → Option (List Str)
  | [] => some []
  | .str x :: r => (strsP r).map (x :: ·)
  | _ :: _ => none
theorem strsP_ok {K : Frag} {H : Hp} {O : Addr → Prop} : ∀ {vs : List V} {ds : List PyData} {ys : List Str}, PdAll K H O vs ds → strsP ds = some ys → vs = ys.map V.str
  | _, _, _, .nil, e => by cases e; rfl
  | _, _, ys, .cons (d := d) (ds := ds) h r, e => by
    cases h with
    | str x =>
      have e' : (strsP ds).map (x :: ·) = some ys := e
      cases z : strsP ds with
      | none => rw [z] at e'; cases e'
      | some zs =>
        rw [z] at e'
        cases e'
        rw [strsP_ok r z]
        rfl
    | non => cases e
    | bl _ => cases e
    | int _ => cases e
    | lst _ _ _ => cases e
    | tup _ _ => cases e
    | wk _ _ _ => cases e
    | wkn _ _ => cases e
    | dk0 _ _ => cases e
    | dk1 _ _ _ => cases e
    | dks _ _ _ => cases e
    | ex0 _ _ _ => cases e
    | exn _ _ _ _ _ _ _ => cases e
def joinF (a : Str) : D → Sto → Ot D
  | .p (.list l), S => match strsP l with
    | some ys => if (ys.map (·.length)).sum + ys.length * a.length ≤ 16777216 then .ok (.p (.str (Txt.join a ys))) S else .bad
    | none => .bad
  | .p (.tuple l), S => match strsP l with
    | some ys => if (ys.map (·.length)).sum + ys.length * a.length ≤ 16777216 then .ok (.p (.str (Txt.join a ys))) S else .bad
    | none => .bad
  | _, _ => .bad
def eJoin (mo ml : EM) : EM := fun env S => (mo env S).bind fun o S1 => match o with
  | .p (.str a) => (ml env S1).bind (joinF a)
  | _ => .bad
section
variable {X : Cx} {W : WX} {o e : Expr} {mo ml : EM} {apos pos : Pos}
theorem me_dsI {k : Str} {j : Int} {k1 k2 : Nat} {p1 p2 pos : Pos} : PE X (.Dict [some (.Constant (.str k) k1 p1)] [.Constant (.int j) k2 p2] pos) (te X.K X.mg W (eDsI k j)) := by
  refine (pe_disp (pps_cons (pe_str (x := k)) (pe_int (i := j)) pps_nil) rfl rfl (fun z => nomatch z) (by show 1 ≤ 15; omega)).w fun σ H Q ⟨R, μ, env, S, r, h⟩ => ?_
  intro p hp
  refine ⟨upd_same, [(.inr k, .int j)], rfl, by show 1 ≤ 15; omega, ?_⟩
  show Q (.ref p) (upd (upd H p (.dK [])) p (.dK (mergeK [] [(.inr k, .int j)])))
  rw [upd_twice, merge_nodup [(.inr k, .int j)] [] (by simp)]
  have s2 : Sp1 μ S.length H μ S.length (upd H p (.dK [(.inr k, .int j)])) := sp_new hp
  exact h μ _ s2 (rs_new hp r.rs) _ (.p (.dks upd_same (not_own r.rs hp) (.int j)))
theorem me_dsV {k : Str} {i : Nat} {x : Str} {k1 : Nat} {p1 p2 pos : Pos} (hN : X.N[i]? = some x := by rfl) (hv : Vis X.env.scope x := by first | exact Or.inl rfl | exact Or.inr (Or.inl rfl) | exact Or.inr (Or.inr rfl)) (hd : (x == ("__debug__" : Str)) = false := by decide)
    (hcd : (x == ("__classdict__" : Str)) = false := by decide) : PE X (.Dict [some (.Constant (.str k) k1 p1)] [.Name x p2] pos) (te X.K X.mg W (eDsV k i)) := by
  refine (pe_disp (pps_cons (pe_str (x := k)) (pe_var hN hv hd hcd) pps_nil) rfl rfl (fun z => nomatch z) (by show 1 ≤ 15; omega)).w fun σ H Q ⟨R, μ, env, S, r, h⟩ => ?_
  intro p hp
  unfold eDsV at h
  cases ee : env[i]? with
  | none => rw [ee] at h; exact h.elim
  | some od =>
    cases od with
    | none => rw [ee] at h; exact h.elim
    | some d =>
      rw [ee] at h
      cases d with
      | loc _ => exact h.elim
      | scr _ => exact h.elim
      | p d =>
        obtain ⟨v, hv, dv⟩ := r.en.get ee
        cases dv with
        | p pd =>
          refine ⟨v, hv, upd_same, [(.inr k, v)], rfl, by show 1 ≤ 15; omega, ?_⟩
          show Q (.ref p) (upd (upd H p (.dK [])) p (.dK (mergeK [] [(.inr k, v)])))
          rw [upd_twice, merge_nodup [(.inr k, v)] [] (by simp)]
          have s2 : Sp1 μ S.length H μ S.length (upd H p (.dK [(.inr k, v)])) := sp_new hp
          exact h μ _ s2 (rs_new hp r.rs) _ (.p (.dks upd_same (not_own r.rs hp) (pd.mono (av_le s2.hp))))
theorem me_join (ho : PE X o (te X.K X.mg W mo)) (he : PE X e (te X.K X.mg W ml)) (hs : starEach [e] X.env = [(false, eval e X.env)] := by rfl) (hbase : attributeBase o "join" X.env (eval o X.env) = eval o X.env := by rfl) (hline : (apos.endLine == pos.line) = true := by rfl) :
    PE X (.Call (.Attribute o "join" apos) [e] [] pos) (te X.K X.mg W (eJoin mo ml)) := by
  refine (pe_join ho he hs hbase hline).w fun σ H Q ⟨R, μ, env, S, r, h⟩ => ⟨R, μ, env, S, r, ?_⟩
  refine po_mono (po_bind r h) fun x H1 ⟨μ1, S1, d1, r1, h1⟩ => ?_
  obtain ⟨x', ws, e1, hx, _⟩ := drs_cons r1.tm
  cases e1
  have bad : ∀ d, d1 = d → (∀ a, d ≠ .p (.str a)) → False := fun d ed hd => by
    subst ed
    cases d1 with
    | loc _ => exact h1.elim
    | scr _ => exact h1.elim
    | p z => cases z <;> first | exact h1.elim | exact hd _ rfl
  cases d1 with
  | loc _ => exact h1.elim
  | scr _ => exact h1.elim
  | p z =>
    cases z with
    | str a =>
      refine ⟨⟨a, dr_str hx⟩, R, μ1, env, S1, r1.drop, ?_⟩
      refine po_mono (po_bind r1 h1) fun y H2 ⟨μ2, S2, d2, r2, h2⟩ => ?_
      obtain ⟨y', ws2, e2, hy, t2⟩ := drs_cons r2.tm
      cases e2
      cases d2 with
      | loc _ => exact h2.elim
      | scr _ => exact h2.elim
      | p z2 =>
        cases z2 with
        | list l =>
          obtain ⟨b, xs, rfl, hb, _, hall⟩ := dr_lst hy
          cases q : strsP l with
          | none => simp only [joinF, q] at h2; exact h2.elim
          | some ys =>
            simp only [joinF, q] at h2
            by_cases hz : (ys.map (·.length)).sum + ys.length * a.length ≤ 16777216
            · rw [if_pos hz] at h2
              rw [strsP_ok hall q] at hb
              exact ⟨a, b, ys, dr_str hx, rfl, .inl (SqL.of hb), hz, po_ok h2 r2.rs (.p (.str _))⟩
            · rw [if_neg hz] at h2
              exact h2.elim
        | tuple l =>
          obtain ⟨b, xs, rfl, hb, hall⟩ := dr_tup hy
          cases q : strsP l with
          | none => simp only [joinF, q] at h2; exact h2.elim
          | some ys =>
            simp only [joinF, q] at h2
            by_cases hz : (ys.map (·.length)).sum + ys.length * a.length ≤ 16777216
            · rw [if_pos hz] at h2
              rw [strsP_ok hall q] at hb
              exact ⟨a, b, ys, dr_str hx, rfl, .inr hb, hz, po_ok h2 r2.rs (.p (.str _))⟩
            · rw [if_neg hz] at h2
              exact h2.elim
        | none => exact h2.elim
        | bool _ => exact h2.elim
        | int _ => exact h2.elim
        | str _ => exact h2.elim
        | dict _ => exact h2.elim
    | none => exact h1.elim
    | bool _ => exact h1.elim
    | int _ => exact h1.elim
    | list _ => exact h1.elim
    | tuple _ => exact h1.elim
    | dict _ => exact h1.elim
end
end Mi

/-! L4 -/
set_option Elab.async false
set_option linter.all false
set_option maxRecDepth 100000
set_option maxHeartbeats 4000000
set_option autoImplicit false
noncomputable section
namespace Lw
open PySem PySem.Spec PyProof.Rows L2 Mi
structure Gi (mg : Str → Option Value) : Prop where
  no_any : mg "any" = none

def top (i : Nat) : Stmt := PySem.Challenge.pw_keptpartings_k22_exceptions.main.body.getD i (.Pass ⟨0, 0, 0, 0⟩)
def methOf (i j : Nat) : Stmt := match top i with
  | .ClassDef _ _ _ body _ _ _ _ _ _ _ => body.getD j (.Pass ⟨0, 0, 0, 0⟩)
  | s => s
structure BX (K : PySem.W.Frag) (mg : Str → Option Value) (C : Addr) : Prop where
  c : ClsX K 0 C
  hm : mg "Bench" = some (.ref C)
  n_begin : NoAttr K C "_begin"
  n_steps : NoAttr K C "_steps"
def allX : List Str := ["PartError", "BadMachine", "BadWord", "BadParting", "BadStanding", "BadRow", "BadCode", "BadNumber", "BadPaper", "TooGreat", "Alone"]
abbrev sub_Alone : List Str := ["Alone"]
abbrev sub_BadCode : List Str := ["BadCode"]
abbrev sub_BadMachine : List Str := ["BadMachine"]
abbrev sub_BadNumber : List Str := ["BadNumber"]
abbrev sub_BadPaper : List Str := ["BadPaper"]
abbrev sub_BadParting : List Str := ["BadParting"]
abbrev sub_BadRow : List Str := ["BadRow"]
abbrev sub_BadStanding : List Str := ["BadStanding"]
abbrev sub_BadWord : List Str := ["BadWord"]
abbrev sub_LookupError : List Str := ["Alone"]
abbrev sub_OverflowError : List Str := ["TooGreat"]
abbrev sub_PartError : List Str := ["PartError", "BadMachine", "BadWord", "BadParting", "BadStanding", "BadRow", "BadCode", "BadNumber", "BadPaper"]
abbrev sub_TooGreat : List Str := ["TooGreat"]
abbrev sub_ValueError : List Str := ["PartError", "BadMachine", "BadWord", "BadParting", "BadStanding", "BadRow", "BadCode", "BadNumber", "BadPaper"]
abbrev subT0 : List Str := []
abbrev subT1 : List Str := []
structure Eg (P : Program) (K : PySem.W.Frag) (mg : Str → Option Value) : Prop where
  sup : mg "super" = none
  top : (P.main.scope.names.lookup ("super" : Str)).isSome = false
  ca : ClsG K allX
  mk_PartError : ExT K mg "PartError"
  mk_BadMachine : EgX P K mg "BadMachine" "place"
  mk_BadWord : EgX P K mg "BadWord" "place"
  mk_BadParting : EgX P K mg "BadParting" "value"
  mk_BadStanding : EgX P K mg "BadStanding" "value"
  mk_BadRow : EgX P K mg "BadRow" "value"
  mk_BadCode : EgX P K mg "BadCode" "value"
  mk_BadNumber : EgX P K mg "BadNumber" "value"
  mk_BadPaper : EgX P K mg "BadPaper" "word"
  mk_TooGreat : EgX P K mg "TooGreat" "most"
  mk_Alone : EnX P K mg "Alone"
  is_Alone : IsY K mg allX "Alone" sub_Alone
  is_BadCode : IsY K mg allX "BadCode" sub_BadCode
  is_BadMachine : IsY K mg allX "BadMachine" sub_BadMachine
  is_BadNumber : IsY K mg allX "BadNumber" sub_BadNumber
  is_BadPaper : IsY K mg allX "BadPaper" sub_BadPaper
  is_BadParting : IsY K mg allX "BadParting" sub_BadParting
  is_BadRow : IsY K mg allX "BadRow" sub_BadRow
  is_BadStanding : IsY K mg allX "BadStanding" sub_BadStanding
  is_BadWord : IsY K mg allX "BadWord" sub_BadWord
  is_LookupError : IsY K mg allX "LookupError" sub_LookupError
  is_OverflowError : IsY K mg allX "OverflowError" sub_OverflowError
  is_PartError : IsY K mg allX "PartError" sub_PartError
  is_TooGreat : IsY K mg allX "TooGreat" sub_TooGreat
  is_ValueError : IsY K mg allX "ValueError" sub_ValueError
  tp_0 : IsTp K allX ["KeyError", "IndexError"] subT0
  tp_1 : IsTp K allX ["TypeError", "RuntimeError", "ZeroDivisionError"] subT1
  no_IndexError : mg "IndexError" = none
  no_KeyError : mg "KeyError" = none
  no_RuntimeError : mg "RuntimeError" = none
  no_TypeError : mg "TypeError" = none
  no_ZeroDivisionError : mg "ZeroDivisionError" = none
section
variable {P : Program} {w : World} {K : PySem.W.Frag} {mg : Str → Option Value} {base : Heap}
abbrev s_law_begun : Stmt := top 13
def z_law_begun : Scope := ⟨.function, [("script", .local), ("k", .local), ("cells", .local), ("cell", .local), ("great", .local), ("seed", .local), ("int", .globalImplicit)], false, false, [("fast", .str "script"), ("fast", .str "k"), ("fast", .str "cells"), ("fast", .str "cell"), ("fast", .str "great"), ("fast", .str "seed")]⟩
abbrev n_law_begun : List Str := ["script", "k", "cells", "great", "seed", "cell"]
theorem sc_law_begun : FnScope n_law_begun ["script", "k"] z_law_begun := ⟨rfl, rfl, rfl, by decide +kernel, rfl, by decide +kernel, by decide +kernel⟩
def b_law_begun : SM := (sSeq (sAsg (eOp addD (eSl (eVar 0) (oSome (eVar 1)) oNone) (eSl (eVar 0) oNone (oSome (eVar 1)))) (gN 2)) (sSeq (sAsg (eComp false (iL (eVar 2)) [5] (gN 5) (bOf (eOp (cmpI fun i j => decide (j ≤ i)) (eVar 5) (eOp powD (eC (.int 10)) (eC (.int 18))))) (eVar 5)) (gN 3)) (sSeq (sAsg (eOp addD (eC (.int 71)) (eVar 1)) (gN 4)) (sSeq (sFor (iL (eVar 2)) (gN 5) (sAsg (eOp modD (eCall intF (aCons (eOp addD (eOp mulD (eVar 4) (eC (.int 48271))) (eVar 5)) aNil)) (eC (.int 2147483647))) (gN 4))) (sRet (eDict true [((eC (.str "left")), (eIf (bOf (eOp (eqD true) (eVar 3) (eLst aNil))) (eOp ixD (eVar 3) (eC (.int 0))) (eC (.int 0)))), ((eC (.str "seed")), (eVar 4)), ((eC (.str "cells")), (eOp addD (eVar 2) (eLst (aCons (eOp addD (eOp mulD (eC (.int 41)) (eVar 1)) (eC (.int 3))) aNil)))), ((eC (.str "spot")), (eC (.int 0)))]))))))
def m_law_begun : FM := fnM true 2 6 b_law_begun
theorem f_law_begun {f : Addr} {fd : FuncData} (F : Fun K "_law_begun" "_law_begun" s_law_begun f fd) (T : Bn mg) (G : Gi mg) (E : Eg P K mg)  : FnG P w K mg base 1 f fd ["script", "k"] (spF K mg 2 m_law_begun) :=
  fn_def2 (b := true) (m := b_law_begun) (sc := z_law_begun) F rfl sc_law_begun rfl rfl fun cdv A outer s H E_ hg hr => (ss_cons (ms_asg (me_add (me_sl (me_var (i := 0)) (mo_some (me_var (i := 1))) mo_none) (me_sl (me_var (i := 0)) mo_none (mo_some (me_var (i := 1))))) (mg_name (i := 2) sc_law_begun.nd)) (ss_cons (ms_setComp (mu := false) (i := 3) rfl sc_law_begun.nd rfl rfl rfl (mi_list (me_var (i := 2))) (own := [("cell", 5)]) (blk_of (N := n_law_begun) (sc := z_law_begun) (by decide +kernel)) gc_name tsc_one (fun _ _ _ _ _ => (pg_name (i := 5) sc_law_begun.nd rfl (by first | exact Or.inl rfl | exact Or.inr rfl) (by first | exact .inr rfl | exact .inl rfl))) (fun _ _ _ _ _ => pts_one (mt_cmp op_ge cmpI_ok (me_var (i := 5)) (me_pow me_int me_int) (nomark _))) (fun _ _ _ _ _ => (me_var (i := 5)))) (ss_cons (ms_asg (me_add me_int (me_var (i := 1))) (mg_name (i := 4) sc_law_begun.nd)) (ss_cons (ms_for passesD rfl (mi_list (me_var (i := 2))) (mg_name (i := 5) sc_law_begun.nd) (ss_one (ms_asg (me_mod (me_int1 T (ma_cons (me_add (me_mulI (me_var (i := 4)) me_int) (me_var (i := 5))) ma_nil)) me_int) (mg_name (i := 4) sc_law_begun.nd)))) (ss_one (ms_ret (me_dict (mu := true) (mp_cons me_str (me_if (mt_cmp (op_neN hr.units) eqD_ok (me_var (i := 3)) (me_lst ma_nil) (nomark _)) (me_ix (me_var (i := 3)) me_int) me_int) (mp_cons me_str (me_var (i := 4)) (mp_cons me_str (me_add (me_var (i := 2)) (me_lst (ma_cons (me_add (me_mulI me_int (me_var (i := 1))) me_int) ma_nil))) (mp_cons me_str me_int mp_nil)))))))))))

abbrev s_law_draw : Stmt := top 14
def z_law_draw : Scope := ⟨.function, [("m", .local), ("many", .local), ("found", .local), ("spot", .local), ("cells", .local), ("added", .local), ("cell", .local), ("blend", .local), ("int", .globalImplicit), ("len", .globalImplicit)], false, false, []⟩
abbrev n_law_draw : List Str := ["m", "many", "found", "spot", "cells", "added", "cell", "blend"]
theorem sc_law_draw : FnScope n_law_draw ["m", "many"] z_law_draw := ⟨rfl, rfl, rfl, by decide +kernel, rfl, by decide +kernel, by decide +kernel⟩
def b_law_draw : SM := (sSeq (sIf (bOf (eOp (cmpI fun i j => decide (j < i)) (eOp dgD (eVar 0) (eC (.str "left"))) (eC (.int 0)))) (sSeq (sAsg (eOp modD (eCall intF (aCons (eOp dgD (eVar 0) (eC (.str "left"))) aNil)) (eVar 1)) (gN 2)) (sSeq (sDput (eVar 0) (eC (.str "left")) (eOp divD (eOp dgD (eVar 0) (eC (.str "left"))) (eVar 1))) (sRet (eVar 2)))) sNx) (sSeq (sAsg (eOp dgD (eVar 0) (eC (.str "spot"))) (gN 3)) (sSeq (sDput (eVar 0) (eC (.str "spot")) (eOp addD (eVar 3) (eC (.int 1)))) (sSeq (sPar 4 5 (aCons (eOp dgD (eVar 0) (eC (.str "cells"))) (aCons (eOp addD (eOp dgD (eVar 0) (eC (.str "seed"))) (eOp mulD (eOp mulD (eC (.int 40503)) (eVar 3)) (eVar 3))) aNil))) (sSeq (sAsg (eOp ixD (eVar 4) (eOp modD (eCall intF (aCons (eVar 3) aNil)) (eCall lenF (aCons (eVar 4) aNil)))) (gN 6)) (sSeq (sAsg (eOp modD (eCall intF (aCons (eOp addD (eOp mulD (eVar 6) (eOp addD (eOp mulD (eC (.int 2)) (eVar 3)) (eC (.int 3)))) (eVar 5)) aNil)) (eC (.int 2147483647))) (gN 7)) (sSeq (sAsg (eOp modD (eCall intF (aCons (eOp addD (eOp addD (eOp mulD (eVar 7) (eVar 7)) (eOp mulD (eC (.int 69621)) (eVar 3))) (eOp dgD (eVar 0) (eC (.str "seed")))) aNil)) (eC (.int 2147483629))) (gN 7)) (sRet (eOp modD (eOp divD (eOp modD (eCall intF (aCons (eOp addD (eOp mulD (eVar 7) (eC (.int 48271))) (eVar 3)) aNil)) (eC (.int 2147483647))) (eC (.int 11))) (eVar 1))))))))))
def m_law_draw : FM := fnM false 2 8 b_law_draw
theorem f_law_draw {f : Addr} {fd : FuncData} (F : Fun K "_law_draw" "_law_draw" s_law_draw f fd) (T : Bn mg) (G : Gi mg) (E : Eg P K mg)  : FnG P w K mg base 1 f fd ["m", "many"] (spF K mg 2 m_law_draw) :=
  fn_def2 (b := false) (m := b_law_draw) (sc := z_law_draw) F rfl sc_law_draw rfl rfl fun cdv A outer s H E_ hg hr => (ss_cons (ms_if (mt_cmp op_gt cmpI_ok (me_dget hr (me_var (i := 0)) me_str) me_int (nomark _)) (ss_cons (ms_asg (me_mod (me_int1 T (ma_cons (me_dget hr (me_var (i := 0)) me_str) ma_nil)) (me_var (i := 1))) (mg_name (i := 2) sc_law_draw.nd)) (ss_cons (ms_dput hr (me_var (i := 0)) me_str (me_div (me_dget hr (me_var (i := 0)) me_str) (me_var (i := 1)))) (ss_one (ms_ret (me_var (i := 2)))))) ss_nil) (ss_cons (ms_asg (me_dget hr (me_var (i := 0)) me_str) (mg_name (i := 3) sc_law_draw.nd)) (ss_cons (ms_dput hr (me_var (i := 0)) me_str (me_add (me_var (i := 3)) me_int)) (ss_cons (ms_par (i := 4) (j := 5) rfl sc_law_draw.nd (ma_cons (me_dget hr (me_var (i := 0)) me_str) (ma_cons (me_add (me_dget hr (me_var (i := 0)) me_str) (me_mulI (me_mulI me_int (me_var (i := 3))) (me_var (i := 3)))) ma_nil))) (ss_cons (ms_asg (me_ix (me_var (i := 4)) (me_mod (me_int1 T (ma_cons (me_var (i := 3)) ma_nil)) (me_len T (ma_cons (me_var (i := 4)) ma_nil)))) (mg_name (i := 6) sc_law_draw.nd)) (ss_cons (ms_asg (me_mod (me_int1 T (ma_cons (me_add (me_mulI (me_var (i := 6)) (me_add (me_mulI me_int (me_var (i := 3))) me_int)) (me_var (i := 5))) ma_nil)) me_int) (mg_name (i := 7) sc_law_draw.nd)) (ss_cons (ms_asg (me_mod (me_int1 T (ma_cons (me_add (me_add (me_mulI (me_var (i := 7)) (me_var (i := 7))) (me_mulI me_int (me_var (i := 3)))) (me_dget hr (me_var (i := 0)) me_str)) ma_nil)) me_int) (mg_name (i := 7) sc_law_draw.nd)) (ss_one (ms_ret (me_mod (me_div (me_mod (me_int1 T (ma_cons (me_add (me_mulI (me_var (i := 7)) me_int) (me_var (i := 3))) ma_nil)) me_int) me_int) (me_var (i := 1))))))))))))

abbrev s_law_of : Stmt := top 15
def z_law_of : Scope := ⟨.function, [("m", .local), ("some", .local), ("_law_draw", .globalImplicit), ("len", .globalImplicit)], false, false, []⟩
abbrev n_law_of : List Str := ["m", "some"]
theorem sc_law_of : FnScope n_law_of ["m", "some"] z_law_of := ⟨rfl, rfl, rfl, by decide +kernel, rfl, by decide +kernel, by decide +kernel⟩
def b_law_of : SM := (sRet (eOp ixD (eVar 1) (eCall m_law_draw (aCons (eVar 0) (aCons (eCall lenF (aCons (eVar 1) aNil)) aNil)))))
def m_law_of : FM := fnM false 2 2 b_law_of
theorem f_law_of {f : Addr} {fd : FuncData} (F : Fun K "_law_of" "_law_of" s_law_of f fd) (T : Bn mg) (G : Gi mg) (E : Eg P K mg) (C_law_draw : ∀ base : Heap, CallF P w K mg base 1 "_law_draw" ["m", "many"] m_law_draw) : FnG P w K mg base 2 f fd ["m", "some"] (spF K mg 2 m_law_of) :=
  fn_def2 (b := false) (m := b_law_of) (sc := z_law_of) F rfl sc_law_of rfl rfl fun cdv A outer s H E_ hg hr => (ss_one (ms_ret (me_ix (me_var (i := 1)) (me_callC (C_law_draw base) hg (hr.mono (by decide)) takesD (ma_cons (me_var (i := 0)) (ma_cons (me_len T (ma_cons (me_var (i := 1)) ma_nil)) ma_nil))))))

abbrev s_law_thing : Stmt := top 16
def z_law_thing : Scope := ⟨.function, [("m", .local), ("some", .local), ("odd", .local), ("_law_of", .globalImplicit), ("_law_draw", .globalImplicit)], false, false, []⟩
abbrev n_law_thing : List Str := ["m", "some", "odd"]
theorem sc_law_thing : FnScope n_law_thing ["m"] z_law_thing := ⟨rfl, rfl, rfl, by decide +kernel, rfl, by decide +kernel, by decide +kernel⟩
def b_law_thing : SM := (sSeq (sAsg (eLst (aCons (eC .none) (aCons (eC (.bool true)) (aCons (eC (.bool false)) (aCons (eC (.int 0)) (aCons (eC (.int 1)) (aCons (eUn negD (eC (.int 1))) (aCons (eC (.int 9)) (aCons (eC (.int 300)) (aCons (eOp powD (eC (.int 10)) (eC (.int 30))) (aCons (eC (.str "")) (aCons (eC (.str "0")) (aCons (eC (.str "form")) (aCons (eC (.str "split")) (aCons (eTup aNil) (aCons (eTup (aCons (eC (.int 0)) aNil)) (aCons (eTup (aCons (eC (.int 0)) (aCons (eC (.int 1)) (aCons (eC (.int 2)) aNil)))) aNil))))))))))))))))) (gN 1)) (sSeq (sAsg (eCall m_law_of (aCons (eVar 0) (aCons (eOp addD (eVar 1) (eLst (aCons (eLst aNil) (aCons (eLst (aCons (eC (.int 0)) aNil)) (aCons eD0 (aCons (eDsI "a" 1) aNil)))))) aNil))) (gN 2)) (sRet (eOp ixD (eLst (aCons (eVar 2) (aCons (eVar 2) (aCons (eTup (aCons (eVar 2) (aCons (eLst (aCons (eVar 2) aNil)) aNil))) (aCons (eLst (aCons (eVar 2) (aCons (eTup aNil) aNil))) (aCons (eDsV "b" 2) (aCons (eTup (aCons (eC (.int 0)) (aCons (eTup (aCons (eVar 2) aNil)) aNil))) aNil))))))) (eCall m_law_draw (aCons (eVar 0) (aCons (eC (.int 6)) aNil)))))))
def m_law_thing : FM := fnM false 1 3 b_law_thing
theorem f_law_thing {f : Addr} {fd : FuncData} (F : Fun K "_law_thing" "_law_thing" s_law_thing f fd) (T : Bn mg) (G : Gi mg) (E : Eg P K mg) (C_law_of : ∀ base : Heap, CallF P w K mg base 2 "_law_of" ["m", "some"] m_law_of) (C_law_draw : ∀ base : Heap, CallF P w K mg base 1 "_law_draw" ["m", "many"] m_law_draw) : FnG P w K mg base 3 f fd ["m"] (spF K mg 1 m_law_thing) :=
  fn_def2 (b := false) (m := b_law_thing) (sc := z_law_thing) F rfl sc_law_thing rfl rfl fun cdv A outer s H E_ hg hr => (ss_cons (ms_asg (me_lst (ma_cons me_non (ma_cons me_bl (ma_cons me_bl (ma_cons me_int (ma_cons me_int (ma_cons (me_neg me_int) (ma_cons me_int (ma_cons me_int (ma_cons (me_pow me_int me_int) (ma_cons me_str (ma_cons me_str (ma_cons me_str (ma_cons me_str (ma_cons (me_tup ma_nil) (ma_cons (me_tup (ma_cons me_int ma_nil)) (ma_cons (me_tup (ma_cons me_int (ma_cons me_int (ma_cons me_int ma_nil)))) ma_nil))))))))))))))))) (mg_name (i := 1) sc_law_thing.nd)) (ss_cons (ms_asg (me_callC (C_law_of base) hg (hr.mono (by decide)) takesD (ma_cons (me_var (i := 0)) (ma_cons (me_add (me_var (i := 1)) (me_lst (ma_cons (me_lst ma_nil) (ma_cons (me_lst (ma_cons me_int ma_nil)) (ma_cons me_d0 (ma_cons me_dsI ma_nil)))))) ma_nil))) (mg_name (i := 2) sc_law_thing.nd)) (ss_one (ms_ret (me_ix (me_lst (ma_cons (me_var (i := 2)) (ma_cons (me_var (i := 2)) (ma_cons (me_tup (ma_cons (me_var (i := 2)) (ma_cons (me_lst (ma_cons (me_var (i := 2)) ma_nil)) ma_nil))) (ma_cons (me_lst (ma_cons (me_var (i := 2)) (ma_cons (me_tup ma_nil) ma_nil))) (ma_cons (me_dsV (i := 2)) (ma_cons (me_tup (ma_cons me_int (ma_cons (me_tup (ma_cons (me_var (i := 2)) ma_nil)) ma_nil))) ma_nil))))))) (me_callC (C_law_draw base) hg (hr.mono (by decide)) takesD (ma_cons (me_var (i := 0)) (ma_cons me_int ma_nil))))))))

abbrev s_law_made : Stmt := top 17
def z_law_made : Scope := ⟨.function, [("odd", .local), ("found", .local), ("BadMachine", .globalImplicit), ("BadWord", .globalImplicit), ("BadParting", .globalImplicit), ("BadStanding", .globalImplicit), ("BadRow", .globalImplicit), ("BadCode", .globalImplicit), ("BadNumber", .globalImplicit), ("BadPaper", .globalImplicit), ("TooGreat", .globalImplicit)], false, false, []⟩
abbrev n_law_made : List Str := ["odd", "found"]
theorem sc_law_made : FnScope n_law_made ["odd"] z_law_made := ⟨rfl, rfl, rfl, by decide +kernel, rfl, by decide +kernel, by decide +kernel⟩
def b_law_made : SM := (sSeq (sAsg (eLst (aCons (eMkE "BadMachine" "place" (eVar 0)) (aCons (eMkE "BadWord" "place" (eVar 0)) (aCons (eMkE "BadParting" "value" (eVar 0)) (aCons (eMkE "BadStanding" "value" (eVar 0)) (aCons (eMkE "BadRow" "value" (eVar 0)) (aCons (eMkE "BadCode" "value" (eVar 0)) aNil))))))) (gN 1)) (sRet (eOp addD (eVar 1) (eLst (aCons (eMkE "BadNumber" "value" (eVar 0)) (aCons (eMkE "BadPaper" "word" (eVar 0)) (aCons (eMkE "TooGreat" "most" (eVar 0)) aNil)))))))
def m_law_made : FM := fnM false 1 2 b_law_made
theorem f_law_made {f : Addr} {fd : FuncData} (F : Fun K "_law_made" "_law_made" s_law_made f fd) (T : Bn mg) (G : Gi mg) (E : Eg P K mg)  : FnG P w K mg base 2 f fd ["odd"] (spF K mg 1 m_law_made) :=
  fn_def2 (b := false) (m := b_law_made) (sc := z_law_made) F rfl sc_law_made rfl rfl fun cdv A outer s H E_ hg hr => (ss_cons (ms_asg (me_lst (ma_cons (me_mkP (k := 0) E.mk_BadMachine ⟨E.sup, E.top⟩ (hr.mono (by decide)) (me_var (i := 0))) (ma_cons (me_mkP (k := 0) E.mk_BadWord ⟨E.sup, E.top⟩ (hr.mono (by decide)) (me_var (i := 0))) (ma_cons (me_mkP (k := 0) E.mk_BadParting ⟨E.sup, E.top⟩ (hr.mono (by decide)) (me_var (i := 0))) (ma_cons (me_mkP (k := 0) E.mk_BadStanding ⟨E.sup, E.top⟩ (hr.mono (by decide)) (me_var (i := 0))) (ma_cons (me_mkP (k := 0) E.mk_BadRow ⟨E.sup, E.top⟩ (hr.mono (by decide)) (me_var (i := 0))) (ma_cons (me_mkP (k := 0) E.mk_BadCode ⟨E.sup, E.top⟩ (hr.mono (by decide)) (me_var (i := 0))) ma_nil))))))) (mg_name (i := 1) sc_law_made.nd)) (ss_one (ms_ret (me_add (me_var (i := 1)) (me_lst (ma_cons (me_mkP (k := 0) E.mk_BadNumber ⟨E.sup, E.top⟩ (hr.mono (by decide)) (me_var (i := 0))) (ma_cons (me_mkP (k := 0) E.mk_BadPaper ⟨E.sup, E.top⟩ (hr.mono (by decide)) (me_var (i := 0))) (ma_cons (me_mkP (k := 0) E.mk_TooGreat ⟨E.sup, E.top⟩ (hr.mono (by decide)) (me_var (i := 0))) ma_nil))))))))

abbrev s_law_named : Stmt := top 18
def z_law_named : Scope := ⟨.function, [("odd", .local), ("found", .local), ("BadMachine", .globalImplicit), ("BadWord", .globalImplicit), ("BadParting", .globalImplicit), ("BadStanding", .globalImplicit), ("BadRow", .globalImplicit), ("BadCode", .globalImplicit), ("BadNumber", .globalImplicit), ("BadPaper", .globalImplicit), ("TooGreat", .globalImplicit)], false, false, []⟩
abbrev n_law_named : List Str := ["odd", "found"]
theorem sc_law_named : FnScope n_law_named ["odd"] z_law_named := ⟨rfl, rfl, rfl, by decide +kernel, rfl, by decide +kernel, by decide +kernel⟩
def b_law_named : SM := (sSeq (sAsg (eLst (aCons (eMkE "BadMachine" "place" (eVar 0)) (aCons (eMkE "BadWord" "place" (eVar 0)) (aCons (eMkE "BadParting" "value" (eVar 0)) (aCons (eMkE "BadStanding" "value" (eVar 0)) aNil))))) (gN 1)) (sSeq (sAsg (eOp addD (eVar 1) (eLst (aCons (eMkE "BadRow" "value" (eVar 0)) (aCons (eMkE "BadCode" "value" (eVar 0)) (aCons (eMkE "BadNumber" "value" (eVar 0)) (aCons (eMkE "BadPaper" "word" (eVar 0)) aNil)))))) (gN 1)) (sRet (eOp addD (eVar 1) (eLst (aCons (eMkE "TooGreat" "most" (eVar 0)) aNil))))))
def m_law_named : FM := fnM false 1 2 b_law_named
theorem f_law_named {f : Addr} {fd : FuncData} (F : Fun K "_law_named" "_law_named" s_law_named f fd) (T : Bn mg) (G : Gi mg) (E : Eg P K mg)  : FnG P w K mg base 2 f fd ["odd"] (spF K mg 1 m_law_named) :=
  fn_def2 (b := false) (m := b_law_named) (sc := z_law_named) F rfl sc_law_named rfl rfl fun cdv A outer s H E_ hg hr => (ss_cons (ms_asg (me_lst (ma_cons (me_mkK (k := 0) E.mk_BadMachine ⟨E.sup, E.top⟩ (hr.mono (by decide)) (me_var (i := 0))) (ma_cons (me_mkK (k := 0) E.mk_BadWord ⟨E.sup, E.top⟩ (hr.mono (by decide)) (me_var (i := 0))) (ma_cons (me_mkK (k := 0) E.mk_BadParting ⟨E.sup, E.top⟩ (hr.mono (by decide)) (me_var (i := 0))) (ma_cons (me_mkK (k := 0) E.mk_BadStanding ⟨E.sup, E.top⟩ (hr.mono (by decide)) (me_var (i := 0))) ma_nil))))) (mg_name (i := 1) sc_law_named.nd)) (ss_cons (ms_asg (me_add (me_var (i := 1)) (me_lst (ma_cons (me_mkK (k := 0) E.mk_BadRow ⟨E.sup, E.top⟩ (hr.mono (by decide)) (me_var (i := 0))) (ma_cons (me_mkK (k := 0) E.mk_BadCode ⟨E.sup, E.top⟩ (hr.mono (by decide)) (me_var (i := 0))) (ma_cons (me_mkK (k := 0) E.mk_BadNumber ⟨E.sup, E.top⟩ (hr.mono (by decide)) (me_var (i := 0))) (ma_cons (me_mkK (k := 0) E.mk_BadPaper ⟨E.sup, E.top⟩ (hr.mono (by decide)) (me_var (i := 0))) ma_nil)))))) (mg_name (i := 1) sc_law_named.nd)) (ss_one (ms_ret (me_add (me_var (i := 1)) (me_lst (ma_cons (me_mkK (k := 0) E.mk_TooGreat ⟨E.sup, E.top⟩ (hr.mono (by decide)) (me_var (i := 0))) ma_nil)))))))

abbrev s_law_fields : Stmt := top 19
def z_law_fields : Scope := ⟨.function, [("errors_so", .local), ("found", .local)], false, false, [("fast", .str "errors_so"), ("fast", .str "error"), ("fast", .str "found")]⟩
abbrev n_law_fields : List Str := ["errors_so", "found", "error"]
theorem sc_law_fields : FnScope n_law_fields ["errors_so"] z_law_fields := ⟨rfl, rfl, rfl, by decide +kernel, rfl, by decide +kernel, by decide +kernel⟩
def b_law_fields : SM := (sSeq (sAsg (eOp addD (eComp false (iL (eSl (eVar 0) oNone (oSome (eC (.int 2))))) [2] (gN 2) bYes (eExF allX "place" (eVar 2))) (eComp false (iL (eSl (eVar 0) (oSome (eC (.int 2))) (oSome (eC (.int 7))))) [2] (gN 2) bYes (eExF allX "value" (eVar 2)))) (gN 1)) (sRet (eOp addD (eVar 1) (eLst (aCons (eExF allX "word" (eOp ixD (eVar 0) (eC (.int 7)))) (aCons (eExF allX "most" (eOp ixD (eVar 0) (eC (.int 8)))) aNil))))))
def m_law_fields : FM := fnM false 1 3 b_law_fields
theorem f_law_fields {f : Addr} {fd : FuncData} (F : Fun K "_law_fields" "_law_fields" s_law_fields f fd) (T : Bn mg) (G : Gi mg) (E : Eg P K mg)  : FnG P w K mg base 1 f fd ["errors_so"] (spF K mg 1 m_law_fields) :=
  fn_def2 (b := false) (m := b_law_fields) (sc := z_law_fields) F rfl sc_law_fields rfl rfl fun cdv A outer s H E_ hg hr => (ss_cons (ms_asg (me_add (me_comp (mu := false) rfl sc_law_fields.nd (mi_list (me_sl (me_var (i := 0)) mo_none (mo_some me_int))) (own := [("error", 2)]) (blk_of (N := n_law_fields) (sc := z_law_fields) (by decide +kernel)) gc_name tsc_none (fun _ _ _ _ _ => (pg_name (i := 2) sc_law_fields.nd rfl (by first | exact Or.inl rfl | exact Or.inr rfl) (by first | exact .inr rfl | exact .inl rfl))) (fun _ _ _ _ _ => pts_nil) (fun _ _ _ _ _ => (me_exf E.ca (.inl rfl) (me_var (i := 2))))) (me_comp (mu := false) rfl sc_law_fields.nd (mi_list (me_sl (me_var (i := 0)) (mo_some me_int) (mo_some me_int))) (own := [("error", 2)]) (blk_of (N := n_law_fields) (sc := z_law_fields) (by decide +kernel)) gc_name tsc_none (fun _ _ _ _ _ => (pg_name (i := 2) sc_law_fields.nd rfl (by first | exact Or.inl rfl | exact Or.inr rfl) (by first | exact .inr rfl | exact .inl rfl))) (fun _ _ _ _ _ => pts_nil) (fun _ _ _ _ _ => (me_exf E.ca (.inr (.inl rfl)) (me_var (i := 2)))))) (mg_name (i := 1) sc_law_fields.nd)) (ss_one (ms_ret (me_add (me_var (i := 1)) (me_lst (ma_cons (me_exf E.ca (.inr (.inr (.inl rfl))) (me_ix (me_var (i := 0)) me_int)) (ma_cons (me_exf E.ca (.inr (.inr (.inr rfl))) (me_ix (me_var (i := 0)) me_int)) ma_nil)))))))

abbrev s_law_kinds : Stmt := top 20
def z_law_kinds : Scope := ⟨.function, [("error", .local), ("found", .local), ("isinstance", .globalImplicit), ("BadMachine", .globalImplicit), ("BadWord", .globalImplicit), ("BadParting", .globalImplicit), ("BadStanding", .globalImplicit), ("BadRow", .globalImplicit), ("BadCode", .globalImplicit), ("BadNumber", .globalImplicit), ("BadPaper", .globalImplicit), ("TooGreat", .globalImplicit), ("Alone", .globalImplicit)], false, false, []⟩
abbrev n_law_kinds : List Str := ["error", "found"]
theorem sc_law_kinds : FnScope n_law_kinds ["error"] z_law_kinds := ⟨rfl, rfl, rfl, by decide +kernel, rfl, by decide +kernel, by decide +kernel⟩
def b_law_kinds : SM := (sSeq (sAsg (eLst (aCons (eExI allX sub_BadMachine (eVar 0)) (aCons (eExI allX sub_BadWord (eVar 0)) (aCons (eExI allX sub_BadParting (eVar 0)) aNil)))) (gN 1)) (sSeq (sAsg (eOp addD (eVar 1) (eLst (aCons (eExI allX sub_BadStanding (eVar 0)) (aCons (eExI allX sub_BadRow (eVar 0)) (aCons (eExI allX sub_BadCode (eVar 0)) aNil))))) (gN 1)) (sSeq (sAsg (eOp addD (eVar 1) (eLst (aCons (eExI allX sub_BadNumber (eVar 0)) (aCons (eExI allX sub_BadPaper (eVar 0)) (aCons (eExI allX sub_TooGreat (eVar 0)) aNil))))) (gN 1)) (sRet (eOp addD (eVar 1) (eLst (aCons (eExI allX sub_Alone (eVar 0)) aNil)))))))
def m_law_kinds : FM := fnM false 1 2 b_law_kinds
theorem f_law_kinds {f : Addr} {fd : FuncData} (F : Fun K "_law_kinds" "_law_kinds" s_law_kinds f fd) (T : Bn mg) (G : Gi mg) (E : Eg P K mg)  : FnG P w K mg base 1 f fd ["error"] (spF K mg 1 m_law_kinds) :=
  fn_def2 (b := false) (m := b_law_kinds) (sc := z_law_kinds) F rfl sc_law_kinds rfl rfl fun cdv A outer s H E_ hg hr => (ss_cons (ms_asg (me_lst (ma_cons (me_exi T E.ca E.is_BadMachine (me_var (i := 0))) (ma_cons (me_exi T E.ca E.is_BadWord (me_var (i := 0))) (ma_cons (me_exi T E.ca E.is_BadParting (me_var (i := 0))) ma_nil)))) (mg_name (i := 1) sc_law_kinds.nd)) (ss_cons (ms_asg (me_add (me_var (i := 1)) (me_lst (ma_cons (me_exi T E.ca E.is_BadStanding (me_var (i := 0))) (ma_cons (me_exi T E.ca E.is_BadRow (me_var (i := 0))) (ma_cons (me_exi T E.ca E.is_BadCode (me_var (i := 0))) ma_nil))))) (mg_name (i := 1) sc_law_kinds.nd)) (ss_cons (ms_asg (me_add (me_var (i := 1)) (me_lst (ma_cons (me_exi T E.ca E.is_BadNumber (me_var (i := 0))) (ma_cons (me_exi T E.ca E.is_BadPaper (me_var (i := 0))) (ma_cons (me_exi T E.ca E.is_TooGreat (me_var (i := 0))) ma_nil))))) (mg_name (i := 1) sc_law_kinds.nd)) (ss_one (ms_ret (me_add (me_var (i := 1)) (me_lst (ma_cons (me_exi T E.ca E.is_Alone (me_var (i := 0))) ma_nil))))))))

abbrev s_law_elders : Stmt := top 21
def z_law_elders : Scope := ⟨.function, [("error", .local), ("found", .local), ("isinstance", .globalImplicit), ("PartError", .globalImplicit), ("ValueError", .globalImplicit), ("OverflowError", .globalImplicit), ("LookupError", .globalImplicit), ("KeyError", .globalImplicit), ("IndexError", .globalImplicit), ("TypeError", .globalImplicit), ("RuntimeError", .globalImplicit), ("ZeroDivisionError", .globalImplicit)], false, false, []⟩
abbrev n_law_elders : List Str := ["error", "found"]
theorem sc_law_elders : FnScope n_law_elders ["error"] z_law_elders := ⟨rfl, rfl, rfl, by decide +kernel, rfl, by decide +kernel, by decide +kernel⟩
def b_law_elders : SM := (sSeq (sAsg (eLst (aCons (eExI allX sub_PartError (eVar 0)) (aCons (eExI allX sub_ValueError (eVar 0)) (aCons (eExI allX sub_OverflowError (eVar 0)) aNil)))) (gN 1)) (sSeq (sAsg (eOp addD (eVar 1) (eLst (aCons (eExI allX sub_LookupError (eVar 0)) (aCons (eExI allX subT0 (eVar 0)) aNil)))) (gN 1)) (sRet (eOp addD (eVar 1) (eLst (aCons (eExI allX subT1 (eVar 0)) aNil))))))
def m_law_elders : FM := fnM false 1 2 b_law_elders
theorem f_law_elders {f : Addr} {fd : FuncData} (F : Fun K "_law_elders" "_law_elders" s_law_elders f fd) (T : Bn mg) (G : Gi mg) (E : Eg P K mg)  : FnG P w K mg base 1 f fd ["error"] (spF K mg 1 m_law_elders) :=
  fn_def2 (b := false) (m := b_law_elders) (sc := z_law_elders) F rfl sc_law_elders rfl rfl fun cdv A outer s H E_ hg hr => (ss_cons (ms_asg (me_lst (ma_cons (me_exi T E.ca E.is_PartError (me_var (i := 0))) (ma_cons (me_exi T E.ca E.is_ValueError (me_var (i := 0))) (ma_cons (me_exi T E.ca E.is_OverflowError (me_var (i := 0))) ma_nil)))) (mg_name (i := 1) sc_law_elders.nd)) (ss_cons (ms_asg (me_add (me_var (i := 1)) (me_lst (ma_cons (me_exi T E.ca E.is_LookupError (me_var (i := 0))) (ma_cons (me_exiT T E.ca E.tp_0 (by decide) (me_var (i := 0)) (pe_ty2 ⟨E.no_KeyError, by decide +kernel, by decide, by decide⟩ ⟨E.no_IndexError, by decide +kernel, by decide, by decide⟩)) ma_nil)))) (mg_name (i := 1) sc_law_elders.nd)) (ss_one (ms_ret (me_add (me_var (i := 1)) (me_lst (ma_cons (me_exiT T E.ca E.tp_1 (by decide) (me_var (i := 0)) (pe_ty3 ⟨E.no_TypeError, by decide +kernel, by decide, by decide⟩ ⟨E.no_RuntimeError, by decide +kernel, by decide, by decide⟩ ⟨E.no_ZeroDivisionError, by decide +kernel, by decide, by decide⟩)) ma_nil)))))))

abbrev s_law_nine_right : Stmt := top 22
def z_law_nine_right : Scope := ⟨.function, [("odd", .local), ("away", .local), ("made", .local), ("named", .local), ("at", .cell), ("own", .local), ("line", .local), ("_law_made", .globalImplicit), ("_law_named", .globalImplicit), ("repr", .globalImplicit), ("_law_fields", .globalImplicit), ("range", .globalImplicit), ("_law_kinds", .globalImplicit), ("_law_elders", .globalImplicit)], false, false, [("fast", .str "odd"), ("fast", .str "away"), ("fast", .str "made"), ("fast", .str "named"), ("fast", .str "at"), ("fast", .str "k"), ("fast", .str "own"), ("fast", .str "line")]⟩
abbrev n_law_nine_right : List Str := ["odd", "away", "made", "named", "at", "own", "line", "k"]
theorem sc_law_nine_right : FnScope n_law_nine_right ["odd", "away"] z_law_nine_right := ⟨rfl, rfl, rfl, by decide +kernel, rfl, by decide +kernel, by decide +kernel⟩
def b_law_nine_right : SM := (sSeq (sPar 2 3 (aCons (eCall m_law_made (aCons (eVar 0) aNil)) (aCons (eCall m_law_named (aCons (eVar 1) aNil)) aNil))) (sSeq (sIf (bOr (bOf (eOp (eqD true) (eCall repF (aCons (eCall m_law_fields (aCons (eVar 2) aNil)) aNil)) (eCall repF (aCons (eOp repD (eLst (aCons (eVar 0) aNil)) (eC (.int 9))) aNil)))) (bOf (eOp (eqD true) (eCall repF (aCons (eCall m_law_fields (aCons (eVar 3) aNil)) aNil)) (eCall repF (aCons (eOp repD (eLst (aCons (eVar 1) aNil)) (eC (.int 9))) aNil))))) (sRet (eC (.bool false))) sNx) (sSeq (sFor (iR1 (aCons (eC (.int 9)) aNil)) (gN 4) (sSeq (sPar 5 6 (aCons (eComp false (iR1 (aCons (eC (.int 10)) aNil)) [7] (gN 7) bYes (eOp (eqD false) (eVar 7) (eVar 4))) (aCons (eLst (aCons (eOp (cmpI fun i j => decide (i < j)) (eVar 4) (eC (.int 8))) (aCons (eOp (cmpI fun i j => decide (i < j)) (eVar 4) (eC (.int 8))) (aCons (eOp (eqD false) (eVar 4) (eC (.int 8))) (aCons (eC (.bool false)) (aCons (eC (.bool false)) (aCons (eC (.bool false)) aNil))))))) aNil))) (sSeq (sIf (bOr (bOf (eOp (eqD true) (eCall m_law_kinds (aCons (eOp ixD (eVar 2) (eVar 4)) aNil)) (eVar 5))) (bOf (eOp (eqD true) (eCall m_law_kinds (aCons (eOp ixD (eVar 3) (eVar 4)) aNil)) (eVar 5)))) (sRet (eC (.bool false))) sNx) (sIf (bOr (bOf (eOp (eqD true) (eCall m_law_elders (aCons (eOp ixD (eVar 2) (eVar 4)) aNil)) (eVar 6))) (bOf (eOp (eqD true) (eCall m_law_elders (aCons (eOp ixD (eVar 3) (eVar 4)) aNil)) (eVar 6)))) (sRet (eC (.bool false))) sNx)))) (sRet (eOp (eqD false) (eCall repF (aCons (eCall m_law_fields (aCons (eVar 2) aNil)) aNil)) (eCall repF (aCons (eOp repD (eLst (aCons (eVar 0) aNil)) (eC (.int 9))) aNil)))))))
def m_law_nine_right : FM := fnM false 2 8 b_law_nine_right
theorem f_law_nine_right {f : Addr} {fd : FuncData} (F : Fun K "_law_nine_right" "_law_nine_right" s_law_nine_right f fd) (T : Bn mg) (G : Gi mg) (E : Eg P K mg) (C_law_made : ∀ base : Heap, CallF P w K mg base 2 "_law_made" ["odd"] m_law_made) (C_law_named : ∀ base : Heap, CallF P w K mg base 2 "_law_named" ["odd"] m_law_named) (C_law_fields : ∀ base : Heap, CallF P w K mg base 1 "_law_fields" ["errors_so"] m_law_fields) (C_law_kinds : ∀ base : Heap, CallF P w K mg base 1 "_law_kinds" ["error"] m_law_kinds) (C_law_elders : ∀ base : Heap, CallF P w K mg base 1 "_law_elders" ["error"] m_law_elders) : FnG P w K mg base 3 f fd ["odd", "away"] (spF K mg 2 m_law_nine_right) :=
  fn_def2 (b := false) (m := b_law_nine_right) (sc := z_law_nine_right) F rfl sc_law_nine_right rfl rfl fun cdv A outer s H E_ hg hr => (ss_cons (ms_par (i := 2) (j := 3) rfl sc_law_nine_right.nd (ma_cons (me_callC (C_law_made base) hg (hr.mono (by decide)) takesD (ma_cons (me_var (i := 0)) ma_nil)) (ma_cons (me_callC (C_law_named base) hg (hr.mono (by decide)) takesD (ma_cons (me_var (i := 1)) ma_nil)) ma_nil))) (ss_cons (ms_if (mt_w (mw_or (mt_cmp (op_neN hr.units) eqD_ok (me_repr T hg hr (ma_cons (me_callC (C_law_fields base) hg (hr.mono (by decide)) takesD (ma_cons (me_var (i := 2)) ma_nil)) ma_nil)) (me_repr T hg hr (ma_cons (me_rep (me_lst (ma_cons (me_var (i := 0)) ma_nil)) me_int) ma_nil)) (nomark _)) (mw_or1 (mt_cmp (op_neN hr.units) eqD_ok (me_repr T hg hr (ma_cons (me_callC (C_law_fields base) hg (hr.mono (by decide)) takesD (ma_cons (me_var (i := 3)) ma_nil)) ma_nil)) (me_repr T hg hr (ma_cons (me_rep (me_lst (ma_cons (me_var (i := 1)) ma_nil)) me_int) ma_nil)) (nomark _))))) (ss_one (ms_ret me_bl)) ss_nil) (ss_cons (ms_for passesD rfl (mi_range1 T.range (ma_cons me_int ma_nil)) (mg_name (i := 4) sc_law_nine_right.nd) (ss_cons (ms_par (i := 5) (j := 6) rfl sc_law_nine_right.nd (ma_cons (me_comp (mu := false) rfl sc_law_nine_right.nd (mi_range1 T.range (ma_cons me_int ma_nil)) (own := [("k", 7)]) (blk_of (N := n_law_nine_right) (sc := z_law_nine_right) (by decide +kernel)) gc_name tsc_none (fun _ _ _ _ _ => (pg_name (i := 7) sc_law_nine_right.nd rfl (by first | exact Or.inl rfl | exact Or.inr rfl) (by first | exact .inr rfl | exact .inl rfl))) (fun _ _ _ _ _ => pts_nil) (fun _ _ _ _ _ => (me_eq hr (me_var (i := 7)) (me_var (i := 4))))) (ma_cons (me_lst (ma_cons (me_lt (me_var (i := 4)) me_int) (ma_cons (me_lt (me_var (i := 4)) me_int) (ma_cons (me_eq hr (me_var (i := 4)) me_int) (ma_cons me_bl (ma_cons me_bl (ma_cons me_bl ma_nil))))))) ma_nil))) (ss_cons (ms_if (mt_w (mw_or (mt_cmp (op_neN hr.units) eqD_ok (me_callC (C_law_kinds base) hg (hr.mono (by decide)) takesD (ma_cons (me_ix (me_var (i := 2)) (me_var (i := 4))) ma_nil)) (me_var (i := 5)) (nomark _)) (mw_or1 (mt_cmp (op_neN hr.units) eqD_ok (me_callC (C_law_kinds base) hg (hr.mono (by decide)) takesD (ma_cons (me_ix (me_var (i := 3)) (me_var (i := 4))) ma_nil)) (me_var (i := 5)) (nomark _))))) (ss_one (ms_ret me_bl)) ss_nil) (ss_one (ms_if (mt_w (mw_or (mt_cmp (op_neN hr.units) eqD_ok (me_callC (C_law_elders base) hg (hr.mono (by decide)) takesD (ma_cons (me_ix (me_var (i := 2)) (me_var (i := 4))) ma_nil)) (me_var (i := 6)) (nomark _)) (mw_or1 (mt_cmp (op_neN hr.units) eqD_ok (me_callC (C_law_elders base) hg (hr.mono (by decide)) takesD (ma_cons (me_ix (me_var (i := 3)) (me_var (i := 4))) ma_nil)) (me_var (i := 6)) (nomark _))))) (ss_one (ms_ret me_bl)) ss_nil))))) (ss_one (ms_ret (me_eq hr (me_repr T hg hr (ma_cons (me_callC (C_law_fields base) hg (hr.mono (by decide)) takesD (ma_cons (me_var (i := 2)) ma_nil)) ma_nil)) (me_repr T hg hr (ma_cons (me_rep (me_lst (ma_cons (me_var (i := 0)) ma_nil)) me_int) ma_nil))))))))

abbrev s_law_others_right : Stmt := top 23
def z_law_others_right : Scope := ⟨.function, [("text", .local), ("some", .local), ("own", .local), ("PartError", .globalImplicit), ("Alone", .globalImplicit)], false, false, [("fast", .str "text"), ("fast", .str "some"), ("fast", .str "error"), ("fast", .str "own")]⟩
abbrev n_law_others_right : List Str := ["text", "some", "own", "error"]
theorem sc_law_others_right : FnScope n_law_others_right ["text"] z_law_others_right := ⟨rfl, rfl, rfl, by decide +kernel, rfl, by decide +kernel, by decide +kernel⟩
def b_law_others_right : SM := (sSeq (sAsg (eLst (aCons (eMkT "PartError" (eVar 0)) (aCons (eMkT "PartError" (eC (.str ""))) (aCons (eMk0 "Alone") aNil)))) (gN 1)) (sSeq (sIf (bOf (eOp (eqD true) (eComp false (iL (eVar 1)) [3] (gN 3) bYes (eCall m_law_kinds (aCons (eVar 3) aNil))) (eLst (aCons (eOp repD (eLst (aCons (eC (.bool false)) aNil)) (eC (.int 10))) (aCons (eOp repD (eLst (aCons (eC (.bool false)) aNil)) (eC (.int 10))) (aCons (eOp addD (eOp repD (eLst (aCons (eC (.bool false)) aNil)) (eC (.int 9))) (eLst (aCons (eC (.bool true)) aNil))) aNil)))))) (sRet (eC (.bool false))) sNx) (sSeq (sAsg (eLst (aCons (eC (.bool true)) (aCons (eC (.bool true)) (aCons (eC (.bool false)) (aCons (eC (.bool false)) (aCons (eC (.bool false)) (aCons (eC (.bool false)) aNil))))))) (gN 2)) (sRet (eOp (eqD false) (eComp false (iL (eVar 1)) [3] (gN 3) bYes (eCall m_law_elders (aCons (eVar 3) aNil))) (eLst (aCons (eVar 2) (aCons (eVar 2) (aCons (eLst (aCons (eC (.bool false)) (aCons (eC (.bool false)) (aCons (eC (.bool false)) (aCons (eC (.bool true)) (aCons (eC (.bool false)) (aCons (eC (.bool false)) aNil))))))) aNil)))))))))
def m_law_others_right : FM := fnM false 1 4 b_law_others_right
theorem f_law_others_right {f : Addr} {fd : FuncData} (F : Fun K "_law_others_right" "_law_others_right" s_law_others_right f fd) (T : Bn mg) (G : Gi mg) (E : Eg P K mg) (C_law_kinds : ∀ base : Heap, CallF P w K mg base 1 "_law_kinds" ["error"] m_law_kinds) (C_law_elders : ∀ base : Heap, CallF P w K mg base 1 "_law_elders" ["error"] m_law_elders) : FnG P w K mg base 2 f fd ["text"] (spF K mg 1 m_law_others_right) :=
  fn_def2 (b := false) (m := b_law_others_right) (sc := z_law_others_right) F rfl sc_law_others_right rfl rfl fun cdv A outer s H E_ hg hr => (ss_cons (ms_asg (me_lst (ma_cons (me_mkT E.mk_PartError (me_var (i := 0))) (ma_cons (me_mkT E.mk_PartError me_str) (ma_cons (me_mk0 (k := 0) E.mk_Alone ⟨E.sup, E.top⟩ (hr.mono (by decide))) ma_nil)))) (mg_name (i := 1) sc_law_others_right.nd)) (ss_cons (ms_if (mt_cmp (op_neN hr.units) eqD_ok (me_comp (mu := false) rfl sc_law_others_right.nd (mi_list (me_var (i := 1))) (own := [("error", 3)]) (blk_of (N := n_law_others_right) (sc := z_law_others_right) (by decide +kernel)) gc_name tsc_none (fun _ _ _ _ _ => (pg_name (i := 3) sc_law_others_right.nd rfl (by first | exact Or.inl rfl | exact Or.inr rfl) (by first | exact .inr rfl | exact .inl rfl))) (fun _ _ _ _ _ => pts_nil) (fun _ _ _ _ _ => (me_callC (C_law_kinds base) hg (hr.mono (by decide)) takes0 (ma_cons (me_var (i := 3)) ma_nil)))) (me_lst (ma_cons (me_rep (me_lst (ma_cons me_bl ma_nil)) me_int) (ma_cons (me_rep (me_lst (ma_cons me_bl ma_nil)) me_int) (ma_cons (me_add (me_rep (me_lst (ma_cons me_bl ma_nil)) me_int) (me_lst (ma_cons me_bl ma_nil))) ma_nil)))) (nomark _)) (ss_one (ms_ret me_bl)) ss_nil) (ss_cons (ms_asg (me_lst (ma_cons me_bl (ma_cons me_bl (ma_cons me_bl (ma_cons me_bl (ma_cons me_bl (ma_cons me_bl ma_nil))))))) (mg_name (i := 2) sc_law_others_right.nd)) (ss_one (ms_ret (me_eq hr (me_comp (mu := false) rfl sc_law_others_right.nd (mi_list (me_var (i := 1))) (own := [("error", 3)]) (blk_of (N := n_law_others_right) (sc := z_law_others_right) (by decide +kernel)) gc_name tsc_none (fun _ _ _ _ _ => (pg_name (i := 3) sc_law_others_right.nd rfl (by first | exact Or.inl rfl | exact Or.inr rfl) (by first | exact .inr rfl | exact .inl rfl))) (fun _ _ _ _ _ => pts_nil) (fun _ _ _ _ _ => (me_callC (C_law_elders base) hg (hr.mono (by decide)) takes0 (ma_cons (me_var (i := 3)) ma_nil)))) (me_lst (ma_cons (me_var (i := 2)) (ma_cons (me_var (i := 2)) (ma_cons (me_lst (ma_cons me_bl (ma_cons me_bl (ma_cons me_bl (ma_cons me_bl (ma_cons me_bl (ma_cons me_bl ma_nil))))))) ma_nil))))))))))

abbrev s_law_text : Stmt := top 24
def z_law_text : Scope := ⟨.function, [("m", .cell), ("signs", .cell), ("range", .globalImplicit), ("_law_draw", .globalImplicit)], false, false, [("fast", .str "m"), ("fast", .str "signs"), ("fast", .str "turn")]⟩
abbrev n_law_text : List Str := ["m", "signs", "turn"]
theorem sc_law_text : FnScope n_law_text ["m"] z_law_text := ⟨rfl, rfl, rfl, by decide +kernel, rfl, by decide +kernel, by decide +kernel⟩
def b_law_text : SM := (sSeq (sAsg (eC (.str "abcdefghijklmnopqrstuvwxyz 0123456789~")) (gN 1)) (sRet (eJoin (eC (.str "")) (eComp false (iR1 (aCons (eCall m_law_draw (aCons (eVar 0) (aCons (eC (.int 12)) aNil))) aNil)) [2] (gN 2) bYes (eCall m_law_of (aCons (eVar 0) (aCons (eVar 1) aNil)))))))
def m_law_text : FM := fnM false 1 3 b_law_text
theorem f_law_text {f : Addr} {fd : FuncData} (F : Fun K "_law_text" "_law_text" s_law_text f fd) (T : Bn mg) (G : Gi mg) (E : Eg P K mg) (C_law_draw : ∀ base : Heap, CallF P w K mg base 1 "_law_draw" ["m", "many"] m_law_draw) (C_law_of : ∀ base : Heap, CallF P w K mg base 2 "_law_of" ["m", "some"] m_law_of) : FnG P w K mg base 3 f fd ["m"] (spF K mg 1 m_law_text) :=
  fn_def2 (b := false) (m := b_law_text) (sc := z_law_text) F rfl sc_law_text rfl rfl fun cdv A outer s H E_ hg hr => (ss_cons (ms_asg me_str (mg_name (i := 1) sc_law_text.nd)) (ss_one (ms_ret (me_join me_str (me_comp (mu := false) rfl sc_law_text.nd (mi_range1 T.range (ma_cons (me_callC (C_law_draw base) hg (hr.mono (by decide)) takesD (ma_cons (me_var (i := 0)) (ma_cons me_int ma_nil))) ma_nil)) (own := [("turn", 2)]) (blk_of (N := n_law_text) (sc := z_law_text) (by decide +kernel)) gc_name tsc_none (fun _ _ _ _ _ => (pg_name (i := 2) sc_law_text.nd rfl (by first | exact Or.inl rfl | exact Or.inr rfl) (by first | exact .inr rfl | exact .inl rfl))) (fun _ _ _ _ _ => pts_nil) (fun _ _ _ _ _ => (me_callC (C_law_of base) hg (hr.mono (by decide)) takes0 (ma_cons (me_var (i := 0)) (ma_cons (me_var (i := 1)) ma_nil)))))))))

abbrev s_law : Stmt := top 25
def z_law : Scope := ⟨.function, [("script", .local), ("k", .local), ("m", .local), ("turn", .local), ("odd", .local), ("away", .local), ("kept_so", .local), ("range", .globalImplicit), ("min", .globalImplicit), ("len", .globalImplicit), ("_law_begun", .globalImplicit), ("_law_thing", .globalImplicit), ("repr", .globalImplicit), ("_law_nine_right", .globalImplicit), ("_law_others_right", .globalImplicit), ("_law_text", .globalImplicit)], false, false, []⟩
abbrev n_law : List Str := ["script", "k", "m", "turn", "odd", "away", "kept_so"]
theorem sc_law : FnScope n_law ["script"] z_law := ⟨rfl, rfl, rfl, by decide +kernel, rfl, by decide +kernel, by decide +kernel⟩
def b_law : SM := (sSeq (sFor (iR1 (aCons (eOp addD (eC (.int 3)) (eCall min2F (aCons (eCall lenF (aCons (eVar 0) aNil)) (aCons (eC (.int 6)) aNil)))) aNil)) (gN 1) (sSeq (sAsg (eCall m_law_begun (aCons (eVar 0) (aCons (eVar 1) aNil))) (gN 2)) (sFor (iR1 (aCons (eC (.int 4)) aNil)) (gN 3) (sSeq (sPar 4 5 (aCons (eCall m_law_thing (aCons (eVar 2) aNil)) (aCons (eCall m_law_thing (aCons (eVar 2) aNil)) aNil))) (sSeq (sAsg (eCall repF (aCons (eLst (aCons (eVar 4) (aCons (eVar 5) aNil))) aNil)) (gN 6)) (sSeq (sIf (bOr (bNot (bOf (eCall m_law_nine_right (aCons (eVar 4) (aCons (eVar 5) aNil))))) (bNot (bOf (eCall m_law_nine_right (aCons (eVar 4) (aCons (eVar 4) aNil)))))) (sRet (eC (.bool false))) sNx) (sIf (bOr (bNot (bOf (eCall m_law_others_right (aCons (eCall m_law_text (aCons (eVar 2) aNil)) aNil)))) (bOf (eOp (eqD true) (eCall repF (aCons (eLst (aCons (eVar 4) (aCons (eVar 5) aNil))) aNil)) (eVar 6)))) (sRet (eC (.bool false))) sNx))))))) (sRet (eAnd (eCall m_law_nine_right (aCons (eC .none) (aCons (eLst (aCons (eC (.int 0)) (aCons (eTup (aCons (eC (.str "form")) aNil)) aNil))) aNil))) (eCall m_law_nine_right (aCons (eTup (aCons (eC (.str "split")) (aCons (eTup aNil) aNil))) (aCons (eC (.bool true)) aNil))))))
def m_law : FM := fnM false 1 7 b_law
theorem f_law {f : Addr} {fd : FuncData} (F : Fun K "law" "law" s_law f fd) (T : Bn mg) (G : Gi mg) (E : Eg P K mg) (C_law_begun : ∀ base : Heap, CallF P w K mg base 1 "_law_begun" ["script", "k"] m_law_begun) (C_law_thing : ∀ base : Heap, CallF P w K mg base 3 "_law_thing" ["m"] m_law_thing) (C_law_nine_right : ∀ base : Heap, CallF P w K mg base 3 "_law_nine_right" ["odd", "away"] m_law_nine_right) (C_law_others_right : ∀ base : Heap, CallF P w K mg base 2 "_law_others_right" ["text"] m_law_others_right) (C_law_text : ∀ base : Heap, CallF P w K mg base 3 "_law_text" ["m"] m_law_text) : FnG P w K mg base 4 f fd ["script"] (spF K mg 1 m_law) :=
  fn_def2 (b := false) (m := b_law) (sc := z_law) F rfl sc_law rfl rfl fun cdv A outer s H E_ hg hr => (ss_cons (ms_for passesD rfl (mi_range1 T.range (ma_cons (me_add me_int (me_min2 T rfl (ma_cons (me_len T (ma_cons (me_var (i := 0)) ma_nil)) (ma_cons me_int ma_nil)))) ma_nil)) (mg_name (i := 1) sc_law.nd) (ss_cons (ms_asg (me_callC (C_law_begun base) hg (hr.mono (by decide)) takesD (ma_cons (me_var (i := 0)) (ma_cons (me_var (i := 1)) ma_nil))) (mg_name (i := 2) sc_law.nd)) (ss_one (ms_for passesD rfl (mi_range1 T.range (ma_cons me_int ma_nil)) (mg_name (i := 3) sc_law.nd) (ss_cons (ms_par (i := 4) (j := 5) rfl sc_law.nd (ma_cons (me_callC (C_law_thing base) hg (hr.mono (by decide)) takesD (ma_cons (me_var (i := 2)) ma_nil)) (ma_cons (me_callC (C_law_thing base) hg (hr.mono (by decide)) takesD (ma_cons (me_var (i := 2)) ma_nil)) ma_nil))) (ss_cons (ms_asg (me_repr T hg hr (ma_cons (me_lst (ma_cons (me_var (i := 4)) (ma_cons (me_var (i := 5)) ma_nil))) ma_nil)) (mg_name (i := 6) sc_law.nd)) (ss_cons (ms_if (mt_w (mw_or (mt_not (mt_val (me_callC (C_law_nine_right base) hg (hr.mono (by decide)) takesD (ma_cons (me_var (i := 4)) (ma_cons (me_var (i := 5)) ma_nil))))) (mw_or1 (mt_not (mt_val (me_callC (C_law_nine_right base) hg (hr.mono (by decide)) takesD (ma_cons (me_var (i := 4)) (ma_cons (me_var (i := 4)) ma_nil)))))))) (ss_one (ms_ret me_bl)) ss_nil) (ss_one (ms_if (mt_w (mw_or (mt_not (mt_val (me_callC (C_law_others_right base) hg (hr.mono (by decide)) takesD (ma_cons (me_callC (C_law_text base) hg (hr.mono (by decide)) takesD (ma_cons (me_var (i := 2)) ma_nil)) ma_nil)))) (mw_or1 (mt_cmp (op_neN hr.units) eqD_ok (me_repr T hg hr (ma_cons (me_lst (ma_cons (me_var (i := 4)) (ma_cons (me_var (i := 5)) ma_nil))) ma_nil)) (me_var (i := 6)) (nomark _))))) (ss_one (ms_ret me_bl)) ss_nil))))))))) (ss_one (ms_ret (me_and (me_callC (C_law_nine_right base) hg (hr.mono (by decide)) takesD (ma_cons me_non (ma_cons (me_lst (ma_cons me_int (ma_cons (me_tup (ma_cons me_str ma_nil)) ma_nil))) ma_nil))) (me_one (me_callC (C_law_nine_right base) hg (hr.mono (by decide)) takesD (ma_cons (me_tup (ma_cons me_str (ma_cons (me_tup ma_nil) ma_nil))) (ma_cons me_bl ma_nil))))))))

end
end Lw
end

/-! Q0 -/
set_option Elab.async false
set_option linter.all false
set_option maxRecDepth 100000
set_option maxHeartbeats 1000000
set_option autoImplicit false
namespace Mi
open PySem PySem.Spec PyProof.Rows L2

/-! ### loops and comprehensions of the reckoning, by what stands before each turn -/
section
variable {chk : Sto → Bool} {g : GM} {body : SM} {t : BM} {m : EM} {items : List D}
theorem loop_ok (P : Nat → Envr → Sto → Prop) : ∀ (items : List D) (k : Nat) (env : Envr) (S : Sto), (∀ j env S, P j env S → chk S = true) → (∀ (j : Nat) d env S, items[j]? = some d → P (k + j) env S → ∃ e1 e2 S2, g d env = some e1 ∧ (body e1 S = .nx e2 S2 ∨ body e1 S = .ct e2 S2) ∧ P (k + j + 1) e2 S2) →
    P k env S → ∃ env' S', loop chk g body items env S = .nx env' S' ∧ P (k + items.length) env' S'
  | [], k, env, S, hc, _, h => ⟨env, S, by unfold loop; rw [if_pos (hc _ _ _ h)], h⟩
  | d :: r, k, env, S, hc, step, h => by
    obtain ⟨e1, e2, S2, h1, h2, h3⟩ := step 0 d env S rfl h
    obtain ⟨e', S', q1, q2⟩ := loop_ok P r (k + 1) e2 S2 hc (fun j d' env S hj hp => by
      have a : k + 1 + j = k + (j + 1) := by omega
      rw [a] at hp
      obtain ⟨x1, x2, x3, y1, y2, y3⟩ := step (j + 1) d' env S hj hp
      exact ⟨x1, x2, x3, y1, y2, by rw [a]; exact y3⟩) h3
    refine ⟨e', S', ?_, ?_⟩
    · unfold loop
      rw [if_pos (hc _ _ _ h)]
      simp only [h1]
      rcases h2 with h2 | h2 <;> simp only [h2] <;> exact q1
    · rw [List.length_cons]
      have a : k + (r.length + 1) = k + 1 + r.length := by omega
      rw [a]
      exact q2
/-- one that may leave by what is given back -/
theorem loop_rt (P : Nat → Envr → Sto → Prop) (Z : D → Sto → Prop) : ∀ (items : List D) (k : Nat) (env : Envr) (S : Sto), (∀ j env S, P j env S → chk S = true) → (∀ (j : Nat) d env S, items[j]? = some d → P (k + j) env S → ∃ e1, g d env = some e1 ∧ ((∃ e2 S2, (body e1 S = .nx e2 S2 ∨ body e1 S = .ct e2 S2) ∧ P (k + j + 1) e2 S2) ∨ ∃ v S2, body e1 S = .rt v S2 ∧ Z v S2)) →
    P k env S → (∃ env' S', loop chk g body items env S = .nx env' S' ∧ P (k + items.length) env' S') ∨ ∃ v S', loop chk g body items env S = .rt v S' ∧ Z v S'
  | [], k, env, S, hc, _, h => .inl ⟨env, S, by unfold loop; rw [if_pos (hc _ _ _ h)], h⟩
  | d :: r, k, env, S, hc, step, h => by
    obtain ⟨e1, h1, h2⟩ := step 0 d env S rfl h
    rcases h2 with ⟨e2, S2, h2, h3⟩ | ⟨v, S2, h2, h3⟩
    · have q := loop_rt P Z r (k + 1) e2 S2 hc (fun j d' env S hj hp => by
        have a : k + 1 + j = k + (j + 1) := by omega
        rw [a] at hp
        obtain ⟨x1, y1, y2⟩ := step (j + 1) d' env S hj hp
        refine ⟨x1, y1, y2.imp (fun ⟨e2, S2, z1, z2⟩ => ⟨e2, S2, z1, by rw [a]; exact z2⟩) id⟩) h3
      have e : loop chk g body (d :: r) env S = loop chk g body r e2 S2 := by
        conv => lhs; unfold loop
        rw [if_pos (hc _ _ _ h)]
        simp only [h1]
        rcases h2 with h2 | h2 <;> simp only [h2]
      rw [e, List.length_cons]
      have a : k + (r.length + 1) = k + 1 + r.length := by omega
      rw [a]
      exact q
    · refine .inr ⟨v, S2, ?_, h3⟩
      unfold loop
      rw [if_pos (hc _ _ _ h)]
      simp only [h1, h2]
theorem comp_ok {env : Envr} (P : Nat → List D → Sto → Prop) : ∀ (items : List D) (k : Nat) (acc : List D) (S : Sto), (∀ j acc S, P j acc S → chk S = true ∧ acc.length < sizeLine) →
    (∀ (j : Nat) d acc S, items[j]? = some d → P (k + j) acc S → ∃ e1, g d env = some e1 ∧ ((∃ y S1 S2, t e1 S = .ok true S1 ∧ m e1 S1 = .ok y S2 ∧ P (k + j + 1) (acc ++ [y]) S2) ∨ ∃ S1, t e1 S = .ok false S1 ∧ P (k + j + 1) acc S1)) →
    P k acc S → ∃ acc' S', compLoop chk g t m env items acc S = .ok acc' S' ∧ P (k + items.length) acc' S'
  | [], k, acc, S, hc, _, h => ⟨acc, S, by unfold compLoop; rw [if_pos (hc _ _ _ h).1], h⟩
  | d :: r, k, acc, S, hc, step, h => by
    obtain ⟨e1, h1, h2⟩ := step 0 d acc S rfl h
    obtain ⟨c1, c2⟩ := hc _ _ _ h
    have a : ∀ j, k + 1 + j = k + (j + 1) := fun j => by omega
    have st : ∀ (j : Nat) d' acc S, r[j]? = some d' → P (k + 1 + j) acc S → ∃ e1, g d' env = some e1 ∧ ((∃ y S1 S2, t e1 S = .ok true S1 ∧ m e1 S1 = .ok y S2 ∧ P (k + 1 + j + 1) (acc ++ [y]) S2) ∨ ∃ S1, t e1 S = .ok false S1 ∧ P (k + 1 + j + 1) acc S1) := fun j d' acc S hj hp => by
      rw [a] at hp ⊢
      exact step (j + 1) d' acc S hj hp
    rcases h2 with ⟨y, S1, S2, z1, z2, z3⟩ | ⟨S1, z1, z3⟩
    · obtain ⟨acc', S', q1, q2⟩ := comp_ok P r (k + 1) (acc ++ [y]) S2 hc st z3
      refine ⟨acc', S', ?_, by rw [List.length_cons, ← a]; exact q2⟩
      unfold compLoop
      rw [if_pos c1]
      simp only [h1, z1, z2, if_true, c2, q1]
    · obtain ⟨acc', S', q1, q2⟩ := comp_ok P r (k + 1) acc S1 hc st z3
      refine ⟨acc', S', ?_, by rw [List.length_cons, ← a]; exact q2⟩
      unfold compLoop
      rw [if_pos c1]
      simp only [h1, z1, Bool.false_eq_true, if_false, q1]
/-- one that changes nothing -/
theorem comp_map {env : Envr} {S : Sto} (tf : D → Bool) (mf : D → D) : ∀ (items acc : List D), chk S = true → acc.length + items.length < sizeLine →
    (∀ d ∈ items, ∃ e1, g d env = some e1 ∧ t e1 S = .ok (tf d) S ∧ (tf d = true → m e1 S = .ok (mf d) S)) → compLoop chk g t m env items acc S = .ok (acc ++ (items.filter tf).map mf) S
  | [], acc, hc, _, _ => by
    unfold compLoop
    rw [if_pos hc]
    simp
  | d :: r, acc, hc, hl, h => by
    obtain ⟨e1, h1, h2, h3⟩ := h d (List.mem_cons_self ..)
    have hl' : acc.length + (r.length + 1) < sizeLine := hl
    unfold compLoop
    rw [if_pos hc]
    simp only [h1, h2]
    cases q : tf d with
    | true =>
      have al : acc.length < sizeLine := by omega
      simp only [h3 q, if_true, al]
      rw [comp_map tf mf r (acc ++ [mf d]) hc (by rw [List.length_append]; show acc.length + 1 + r.length < sizeLine; omega) fun d' hd => h d' (List.mem_cons_of_mem _ hd)]
      rw [List.filter_cons_of_pos q, List.map_cons, List.append_assoc]
      rfl
    | false =>
      simp only [Bool.false_eq_true, if_false]
      rw [comp_map tf mf r acc hc (by omega) fun d' hd => h d' (List.mem_cons_of_mem _ hd)]
      rw [List.filter_cons_of_neg (by rw [q]; exact Bool.false_ne_true)]
end
theorem plains_map : ∀ (l : List PyData), plains (l.map .p) = some l
  | [] => rfl
  | a :: l => by
    show (plains (l.map D.p)).map (a :: ·) = _
    rw [plains_map l]
    rfl
theorem yes_is (S : Sto) : yes S = true := rfl
end Mi

/-! P2 -/
set_option Elab.async false
set_option linter.all false
set_option maxRecDepth 100000
set_option maxHeartbeats 4000000
set_option autoImplicit false
namespace Lw
open PySem PySem.Spec PyProof.Rows L2 Mi
abbrev kL : Key := .inr "left"
abbrev kS : Key := .inr "seed"
abbrev kC : Key := .inr "cells"
abbrev kP : Key := .inr "spot"
def mcell (l s : Int) (cs : List Int) (t : Int) : Cell := .dk [(kL, .p (.int l)), (kS, .p (.int s)), (kC, .p (.list (cs.map .int))), (kP, .p (.int t))]
theorem ck_of {S : Sto} {i : Nat} {xs : List (Key × D)} (h : S[i]? = some (.dk xs)) : cellK S i = some xs := by
  unfold cellK
  simp only [h]
theorem ck {S : Sto} {i : Nat} {l s t : Int} {cs : List Int} (h : S[i]? = some (mcell l s cs t)) : cellK S i = some [(kL, .p (.int l)), (kS, .p (.int s)), (kC, .p (.list (cs.map .int))), (kP, .p (.int t))] := ck_of h
section
variable {S : Sto} {i : Nat} {l s t l' t' : Int} {cs : List Int}
theorem g_left (h : S[i]? = some (mcell l s cs t)) : dgD (.loc i) (.p (.str "left")) S = .ok (.p (.int l)) S := by
  simp only [dgD, ck h]
  rfl
theorem g_seed (h : S[i]? = some (mcell l s cs t)) : dgD (.loc i) (.p (.str "seed")) S = .ok (.p (.int s)) S := by
  simp only [dgD, ck h]
  rfl
theorem g_cells (h : S[i]? = some (mcell l s cs t)) : dgD (.loc i) (.p (.str "cells")) S = .ok (.p (.list (cs.map .int))) S := by
  simp only [dgD, ck h]
  rfl
theorem g_spot (h : S[i]? = some (mcell l s cs t)) : dgD (.loc i) (.p (.str "spot")) S = .ok (.p (.int t)) S := by
  simp only [dgD, ck h]
  rfl
theorem p_left (h : S[i]? = some (mcell l s cs t)) : dpD (.loc i) (.p (.str "left")) (.p (.int l')) S = some (S.set i (mcell l' s cs t)) := by
  simp only [dpD, ck h]
  rfl
theorem p_spot (h : S[i]? = some (mcell l s cs t)) : dpD (.loc i) (.p (.str "spot")) (.p (.int t')) S = some (S.set i (mcell l s cs t')) := by
  simp only [dpD, ck h]
  rfl
end

theorem set_get {S : Sto} {i : Nat} {c c' : Cell} (h : S[i]? = some c) : (S.set i c')[i]? = some c' := by
  obtain ⟨hl, _⟩ := List.getElem?_eq_some_iff.mp h
  simp [hl]
theorem take_len {S : Sto} : S.take S.length = S := List.take_length
theorem take_set {S : Sto} {i : Nat} {c : Cell} : (S.set i c).take S.length = S.set i c := by
  have : (S.set i c).length = S.length := List.length_set
  rw [← this, List.take_length]
theorem draw_left {S : Sto} {i : Nat} {l s t many : Int} {cs : List Int} (h : S[i]? = some (mcell l s cs t)) (hl : 0 < l) (hm : 0 < many) (hm2 : many < 1073741824) :
    m_law_draw [.loc i, .p (.int many)] S = .ok (.p (.int (l % many))) (S.set i (mcell (l / many) s cs t)) := by
  unfold m_law_draw fnM arity b_law_draw
  simp only [List.length_cons, List.length_nil, List.map_cons, List.map_nil, List.replicate, List.cons_append, List.nil_append, List.getElem?_cons_zero, List.getElem?_cons_succ, List.set_cons_zero, List.set_cons_succ, sSeq, sIf, sAsg, sRet, sPar, sDput, sNx, sExpr, eOp, eUn, eVar, eC, eCall, eTup, eLst, eIf, aCons, aNil, bOf, bNot, bAnd, bOr, eB, eAnd, eOr, gN, Ot.bind, Ot.then, cmpI, toB, modD, divD, mulD, subD, int2, addD, intF, lenF, max2F, min2F, decide_true, decide_false, if_true, if_false, Bool.false_eq_true, ite_true, ite_false, Bool.not_true, Bool.not_false, decide_eq_true_eq, Nat.reduceSub, Nat.reduceAdd, Nat.reduceEqDiff, fin, take_len, plains, mkTup, mkLst, reduceCtorEq, and_self, and_true, true_and, Bool.or_true, Bool.true_or, g_left h, hl, hm, hm2, p_left h, take_set]
theorem atI_in {α : Type} {l : List α} {k : Int} (h0 : 0 ≤ k) (h1 : k < l.length) : ∃ x, atI l k = some x := by
  have q : k.toNat < l.length := by omega
  refine ⟨l[k.toNat], ?_⟩
  unfold atI ixN
  rw [if_pos h0, if_pos h1]
  show l[k.toNat]? = _
  exact List.getElem?_eq_getElem q
def lim : Int := 1000000000
theorem small_mul {i j : Int} (h : -(2 ^ 64) < j ∧ j < 2 ^ 64) : mulOk i j = true := by
  unfold mulOk
  rw [decide_eq_true h, Bool.or_true]
theorem small_mul' {i j : Int} (h : -(2 ^ 64) < i ∧ i < 2 ^ 64) : mulOk i j = true := by
  unfold mulOk
  rw [decide_eq_true h, Bool.true_or]
theorem mo1 (x : Int) : mulOk x 48271 = true := small_mul (by decide)
theorem mo2 (x : Int) : mulOk (x % 2147483647) (x % 2147483647) = true := small_mul (by omega)
theorem draw_spot {S : Sto} {i : Nat} {l s t many : Int} {cs : List Int} (h : S[i]? = some (mcell l s cs t)) (hl : ¬ 0 < l) (hc : cs ≠ []) (ht : 0 ≤ t) (ht2 : t < 1000000000) (hm : 0 < many) (hm2 : many < 1073741824) :
    ∃ x, m_law_draw [.loc i, .p (.int many)] S = .ok (.p (.int (x % many))) (S.set i (mcell l s cs (t + 1))) := by
  have hcl : 0 < ((cs.map PyData.int).length : Int) := by
    cases cs with
    | nil => exact absurd rfl hc
    | cons a b => simp
  obtain ⟨x, hx⟩ := atI_in (l := cs.map PyData.int) (k := t % ((cs.map PyData.int).length : Int)) (Int.emod_nonneg _ (by omega)) (Int.emod_lt_of_pos _ hcl)
  obtain ⟨z, rfl⟩ : ∃ z : Int, x = .int z := by
    unfold atI at hx
    obtain ⟨j, _, h2⟩ := Option.bind_eq_some_iff.mp hx
    rw [List.getElem?_map] at h2
    obtain ⟨z, _, e⟩ := Option.map_eq_some_iff.mp h2
    exact ⟨z, e.symm⟩
  have h' := set_get (c' := mcell l s cs (t + 1)) h
  have e1 : mulOk 40503 t = true := small_mul' (by decide)
  have e2 : mulOk (40503 * t) t = true := small_mul (by omega)
  have e3 : mulOk 2 t = true := small_mul' (by decide)
  have e4 : mulOk z (2 * t + 3) = true := small_mul (by omega)
  have e5 : mulOk 69621 t = true := small_mul' (by decide)
  unfold m_law_draw fnM arity b_law_draw
  simp only [List.length_cons, List.length_nil, List.map_cons, List.map_nil, List.replicate, List.cons_append, List.nil_append, List.getElem?_cons_zero, List.getElem?_cons_succ, List.set_cons_zero, List.set_cons_succ, sSeq, sIf, sAsg, sRet, sPar, sDput, sNx, sExpr, eOp, eUn, eVar, eC, eCall, eTup, eLst, eIf, aCons, aNil, bOf, bNot, bAnd, bOr, eB, eAnd, eOr, gN, Ot.bind, Ot.then, cmpI, toB, modD, divD, mulD, subD, int2, addD, intF, lenF, max2F, min2F, decide_true, decide_false, if_true, if_false, Bool.false_eq_true, ite_true, ite_false, Bool.not_true, Bool.not_false, decide_eq_true_eq, Nat.reduceSub, Nat.reduceAdd, Nat.reduceEqDiff, fin, take_len, plains, mkTup, mkLst, reduceCtorEq, and_self, and_true, true_and, Bool.or_true, Bool.true_or, g_left h, hl, g_spot h, p_spot h, g_cells h', g_seed h', take_set, hcl, e1, e2, e3, e4, e5, ixD, hx, Int.reduceLT, mo1, mo2, hm]
  exact ⟨_, rfl⟩
end Lw

/-! P3 -/
set_option Elab.async false
set_option linter.all false
set_option maxRecDepth 100000
set_option maxHeartbeats 4000000
set_option autoImplicit false
namespace Lw
open PySem PySem.Spec PyProof.Rows L2 Mi
theorem eq_ii (neg : Bool) (a b : Int) (S : Sto) : eqD neg (.p (.int a)) (.p (.int b)) S = .ok (.p (.bool (if neg = true then !(a == b) else a == b))) S := by
  have h : ∀ x : Int, SeqAt.shaped (.int x) = true := fun x => rfl
  simp only [eqD, h, and_self, if_true]
  rfl
/-- m's cell, some draws later -/
def Gd (B : Int) (S : Sto) (i : Nat) : Prop := ∃ l s cs t, S[i]? = some (mcell l s cs t) ∧ cs ≠ [] ∧ 0 ≤ t ∧ t ≤ B
theorem Gd.lt {B : Int} {S : Sto} {i : Nat} (g : Gd B S i) : i < S.length := by
  obtain ⟨l, s, cs, t, h, _⟩ := g
  exact (List.getElem?_eq_some_iff.mp h).1
theorem Gd.mono {B B' : Int} {S : Sto} {i : Nat} (g : Gd B S i) (h : B ≤ B') : Gd B' S i := by
  obtain ⟨l, s, cs, t, h1, h2, h3, h4⟩ := g
  exact ⟨l, s, cs, t, h1, h2, h3, Int.le_trans h4 h⟩
/-- nothing but the cell i is otherwise -/
structure Ch (i : Nat) (S S' : Sto) : Prop where
  len : S'.length = S.length
  at_ : ∀ j, j ≠ i → S'[j]? = S[j]?
theorem Ch.refl {i : Nat} {S : Sto} : Ch i S S := ⟨rfl, fun _ _ => rfl⟩
theorem Ch.trans {i : Nat} {S S1 S2 : Sto} (a : Ch i S S1) (b : Ch i S1 S2) : Ch i S S2 := ⟨b.len.trans a.len, fun j h => (b.at_ j h).trans (a.at_ j h)⟩
theorem Ch.set {i : Nat} {S : Sto} {c : Cell} : Ch i S (S.set i c) := ⟨List.length_set, fun j h => by rw [List.getElem?_set_ne (Ne.symm h)]⟩
theorem draw_ok {B : Int} {S : Sto} {i : Nat} {many : Int} (g : Gd B S i) (hB : B < 1000000000) (hm : 0 < many) (hm2 : many < 1073741824) :
    ∃ v S', m_law_draw [.loc i, .p (.int many)] S = .ok (.p (.int v)) S' ∧ 0 ≤ v ∧ v < many ∧ Gd (B + 1) S' i ∧ Ch i S S' := by
  obtain ⟨l, s, cs, t, h, hc, h0, h1⟩ := g
  by_cases hl : 0 < l
  · exact ⟨_, _, draw_left h hl hm hm2, Int.emod_nonneg _ (by omega), Int.emod_lt_of_pos _ hm, ⟨_, _, _, _, set_get h, hc, h0, by omega⟩, .set⟩
  · obtain ⟨x, e⟩ := draw_spot h hl hc h0 (by omega) hm hm2
    exact ⟨_, _, e, Int.emod_nonneg _ (by omega), Int.emod_lt_of_pos _ hm, ⟨_, _, _, _, set_get h, hc, by omega, by omega⟩, .set⟩
/-- the same with cells of one's own behind -/
theorem Gd.app {B : Int} {A T : Sto} {i : Nat} (g : Gd B A i) : Gd B (A ++ T) i := by
  obtain ⟨l, s, cs, t, h, r⟩ := g
  refine ⟨l, s, cs, t, ?_, r⟩
  rw [List.getElem?_append_left (List.getElem?_eq_some_iff.mp h).1]
  exact h
theorem draw_app {B : Int} {A : Sto} (T : Sto) {i : Nat} {many : Int} (g : Gd B A i) (hB : B < 1000000000) (hm : 0 < many) (hm2 : many < 1073741824) :
    ∃ v A', m_law_draw [.loc i, .p (.int many)] (A ++ T) = .ok (.p (.int v)) (A' ++ T) ∧ 0 ≤ v ∧ v < many ∧ Gd (B + 1) A' i ∧ Ch i A A' := by
  have lt := g.lt
  obtain ⟨l, s, cs, t, h, hc, h0, h1⟩ := g
  have h' : (A ++ T)[i]? = some (mcell l s cs t) := by
    rw [List.getElem?_append_left lt]
    exact h
  by_cases hl : 0 < l
  · refine ⟨_, A.set i (mcell (l / many) s cs t), ?_, Int.emod_nonneg l (Int.ne_of_gt hm), Int.emod_lt_of_pos l hm, ⟨_, _, _, _, set_get h, hc, h0, by omega⟩, .set⟩
    rw [draw_left h' hl hm hm2, List.set_append_left _ _ lt]
  · obtain ⟨x, e⟩ := draw_spot h' hl hc h0 (by omega) hm hm2
    refine ⟨_, A.set i (mcell l s cs (t + 1)), ?_, Int.emod_nonneg x (Int.ne_of_gt hm), Int.emod_lt_of_pos x hm, ⟨_, _, _, _, set_get h, hc, by omega, by omega⟩, .set⟩
    rw [e, List.set_append_left _ _ lt]
end Lw

/-! P4 -/
set_option Elab.async false
set_option linter.all false
set_option maxRecDepth 100000
set_option maxHeartbeats 4000000
set_option autoImplicit false
namespace Lw
open PySem PySem.Spec PyProof.Rows L2 Mi
/-! ### a drawn machine -/
abbrev pI (x : Int) : D := .p (.int x)
def rc (r : List Int) : Cell := .lst (r.map fun x => pI x)
def locs (n0 n : Nat) : List D := (List.range n).map fun k => .loc (n0 + k)
def FS (A : Sto) (rows : List (List Int)) : Sto := A ++ (rows.map rc ++ [.lst (locs A.length rows.length)])
section
variable {A A' : Sto} {rows : List (List Int)} {k : Nat} {r : List Int}
theorem fs_row (h : rows[k]? = some r) : (FS A rows)[A.length + k]? = some (rc r) := by
  have hk := (List.getElem?_eq_some_iff.mp h).1
  unfold FS
  rw [List.getElem?_append_right (by omega), Nat.add_sub_cancel_left, List.getElem?_append_left (by simpa using hk), List.getElem?_map, h]
  rfl
theorem fs_all : (FS A rows)[A.length + rows.length]? = some (.lst (locs A.length rows.length)) := by
  unfold FS
  rw [List.getElem?_append_right (by omega), Nat.add_sub_cancel_left, List.getElem?_append_right (by simp)]
  simp
theorem fs_set (hk : k < rows.length) : (FS A rows).set (A.length + k) (rc r) = FS A (rows.set k r) := by
  unfold FS
  rw [List.set_append_right _ _ (by omega), Nat.add_sub_cancel_left, List.set_append_left _ _ (by simpa using hk), List.length_set, List.map_set]
theorem locs_at {n0 n : Nat} {k : Int} (h0 : 0 ≤ k) (h1 : k < n) : atI (locs n0 n) k = some (.loc (n0 + k.toNat)) := by
  have hl : (locs n0 n).length = n := by simp [locs]
  have q : k.toNat < n := by omega
  unfold atI ixN
  rw [if_pos h0, hl, if_pos h1]
  show (locs n0 n)[k.toNat]? = _
  simp [locs, q]
theorem cl_of {S : Sto} {i : Nat} {xs : List D} (h : S[i]? = some (.lst xs)) : cellL S i = some xs := by
  unfold cellL
  simp only [h]
theorem fs_ix {k : Int} (h0 : 0 ≤ k) (h1 : k < rows.length) : ixD (.loc (A.length + rows.length)) (.p (.int k)) (FS A rows) = .ok (.loc (A.length + k.toNat)) (FS A rows) := by
  have e : (cellL (FS A rows) (A.length + rows.length)).bind (fun xs => atI xs k) = some (.loc (A.length + k.toNat)) := by
    rw [cl_of fs_all]
    exact locs_at h0 h1
  simp only [ixD, e]
theorem draw_fs {B : Int} {i : Nat} {many : Int} (g : Gd B A i) (hB : B < 1000000000) (hm : 0 < many) (hm2 : many < 1073741824) :
    ∃ v A', m_law_draw [.loc i, .p (.int many)] (FS A rows) = .ok (.p (.int v)) (FS A' rows) ∧ 0 ≤ v ∧ v < many ∧ Gd (B + 1) A' i ∧ Ch i A A' := by
  obtain ⟨v, A', e, h0, h1, g', c⟩ := draw_app (rows.map rc ++ [.lst (locs A.length rows.length)]) g hB hm hm2
  refine ⟨v, A', ?_, h0, h1, g', c⟩
  unfold FS
  rw [c.len]
  exact e
theorem fs_app {k : Nat} {r : List Int} (h : rows[k]? = some r) (hl : r.length < 1000) (x : Int) : apF (.loc (A.length + k)) (pI x) (FS A rows) = .ok (.p .none) (FS A (rows.set k (r ++ [x]))) := by
  have hk := (List.getElem?_eq_some_iff.mp h).1
  have e := cl_of (fs_row (A := A) h)
  have z : (r.map fun x => pI x).length < sizeLine ∧ (pI x).lowb (A.length + k) = true := ⟨by rw [List.length_map]; exact Nat.lt_trans hl (by decide), rfl⟩
  have s : (FS A rows).set (A.length + k) (.lst ((r.map fun x => pI x) ++ [pI x])) = FS A (rows.set k (r ++ [x])) := by
    rw [← fs_set hk]
    unfold rc
    rw [List.map_append]
    rfl
  simp only [apF, e]
  rw [if_pos z, s]
theorem fs_cell {k : Nat} {r : List Int} (h : rows[k]? = some r) : isCell (.loc (A.length + k)) (FS A rows) = true := by
  simp only [isCell, cl_of (fs_row h)]
  rfl
end
end Lw

/-! P5 -/
set_option Elab.async false
set_option linter.all false
set_option maxRecDepth 100000
set_option maxHeartbeats 4000000
set_option autoImplicit false
namespace Lw
open PySem PySem.Spec PyProof.Rows L2 Mi
theorem rng_at {n : Nat} {k : Nat} {d : D} (h : (rangeD 0 n)[k]? = some d) : k < n ∧ d = pI (k : Nat) := by
  unfold rangeD at h
  rw [List.getElem?_map] at h
  obtain ⟨j, h1, h2⟩ := Option.map_eq_some_iff.mp h
  obtain ⟨q, e⟩ := List.getElem?_eq_some_iff.mp h1
  simp at q e
  subst e
  exact ⟨q, by rw [← h2, Int.zero_add]⟩
theorem rng_len {n : Nat} : (rangeD 0 n).length = n := by simp [rangeD]
theorem rng_ok {j : Int} {S : Sto} (h0 : 0 ≤ j) (h1 : j < 1000000) : rng1 [pI j] S = .ok (rangeD 0 j.toNat, yes) S := by
  simp only [rng1]
  rw [if_pos ⟨by omega, by omega⟩]
theorem sFor_r1 {a : AM} {g : GM} {body : SM} {env : Envr} {S S' : Sto} {j : Int} (h : a env S = .ok [pI j] S') (h0 : 0 ≤ j) (h1 : j < 1000000) : sFor (iR1 a) g body env S = loop yes g body (rangeD 0 j.toNat) env S' := by
  unfold sFor iR1
  rw [h]
  show ((rng1 [pI j] S').then env fun items S1 => loop items.2 g body items.1 env S1) = _
  rw [rng_ok h0 h1]
  rfl
theorem eComp_r1 {mu : Bool} {a : AM} {own : List Nat} {g : GM} {t : BM} {m : EM} {env : Envr} {S S' : Sto} {j : Int} (h : a env S = .ok [pI j] S') (h0 : 0 ≤ j) (h1 : j < 1000000) :
    eComp mu (iR1 a) own g t m env S = (compLoop yes g t m (wipeE env own) (rangeD 0 j.toNat) [] S').bind (keptAs mu) := by
  unfold eComp iR1
  rw [h]
  show ((rng1 [pI j] S').bind fun items S1 => (compLoop items.2 g t m (wipeE env own) items.1 [] S1).bind (keptAs mu)) = _
  rw [rng_ok h0 h1]
  rfl
structure RowsOk (n t k : Nat) (rows : List (List Int)) : Prop where
  len : rows.length = n
  row : ∀ (j : Nat) (r : List Int), rows[j]? = some r → r.length = (if j < k then t + 1 else t) ∧ ∀ x ∈ r, 0 ≤ x ∧ x < (n : Int)
theorem RowsOk.step {n t k : Nat} {rows : List (List Int)} {r : List Int} {x : Int} (h : RowsOk n t k rows) (hr : rows[k]? = some r) (h0 : 0 ≤ x) (h1 : x < n) : RowsOk n t (k + 1) (rows.set k (r ++ [x])) := by
  refine ⟨by rw [List.length_set]; exact h.len, fun j q e => ?_⟩
  rw [List.getElem?_set] at e
  by_cases hj : k = j
  · subst hj
    have hk := (List.getElem?_eq_some_iff.mp hr).1
    rw [if_pos rfl, if_pos hk] at e
    cases e
    obtain ⟨a, b⟩ := h.row k r hr
    rw [if_neg (Nat.lt_irrefl k)] at a
    rw [if_pos (Nat.lt_succ_self k)]
    refine ⟨by rw [List.length_append, a]; rfl, fun y hy => ?_⟩
    rcases List.mem_append.mp hy with hy | hy
    · exact b y hy
    · rw [List.mem_singleton.mp hy]; exact ⟨h0, h1⟩
  · rw [if_neg hj] at e
    obtain ⟨a, b⟩ := h.row j q e
    refine ⟨?_, b⟩
    rw [a]
    by_cases z : j < k
    · rw [if_pos z, if_pos (by omega)]
    · rw [if_neg z, if_neg (by omega)]
theorem RowsOk.next {n t : Nat} {rows : List (List Int)} (h : RowsOk n t n rows) : RowsOk n (t + 1) 0 rows := by
  refine ⟨h.len, fun j q e => ?_⟩
  obtain ⟨a, b⟩ := h.row j q e
  have hj := (List.getElem?_eq_some_iff.mp e).1
  rw [h.len] at hj
  rw [if_pos hj] at a
  exact ⟨by rw [a, if_neg (Nat.not_lt_zero j)], b⟩
section
variable {B : Int} {A : Sto} {i n t : Nat} {rows : List (List Int)} {o1 o2 o4 o6 o10 o11 o12 : Option D} {kind stp half : Int}
end
end Lw

/-! P6 -/
set_option Elab.async false
set_option linter.all false
set_option maxRecDepth 100000
set_option maxHeartbeats 4000000
set_option autoImplicit false
namespace Lw
open PySem PySem.Spec PyProof.Rows L2 Mi
section
variable {B : Int} {A : Sto} {i n t : Nat} {rows : List (List Int)} {o1 o2 o4 o6 o7 o8 o9 o10 o11 o12 : Option D}
end
end Lw

/-! P7 -/
set_option Elab.async false
set_option linter.all false
set_option maxRecDepth 100000
set_option maxHeartbeats 4000000
set_option autoImplicit false
namespace Lw
open PySem PySem.Spec PyProof.Rows L2 Mi
/-- ints as a tuple, a list -/
abbrev tI (r : List Int) : PyData := .tuple (r.map .int)
abbrev lI (r : List Int) : PyData := .list (r.map .int)
/-- a machine as data -/
def mach (tab : List (List Int)) (sh : List Int) : PyData := .tuple [.tuple (tab.map tI), tI sh]
structure IsM (n l : Nat) (tab : List (List Int)) (sh : List Int) : Prop where
  len : tab.length = n
  row : ∀ r ∈ tab, r.length = l ∧ ∀ x ∈ r, 0 ≤ x ∧ x < (n : Int)
  shl : sh.length = n
  shd : ∀ x ∈ sh, 0 ≤ x ∧ x ≤ 9
theorem at_mem {α β : Type} (f : α → β) {l : List α} {v : Int} (h0 : 0 ≤ v) (h1 : v < (l.length : Int)) : ∃ x ∈ l, atI (l.map f) v = some (f x) := by
  have q : v.toNat < l.length := by omega
  obtain ⟨x, hx⟩ : ∃ x, l[v.toNat]? = some x := ⟨_, List.getElem?_eq_getElem q⟩
  refine ⟨x, List.mem_of_getElem? hx, ?_⟩
  unfold atI ixN
  rw [if_pos h0, List.length_map, if_pos h1]
  show (l.map f)[v.toNat]? = _
  rw [List.getElem?_map, hx]
  rfl
theorem of_ok {B : Int} {A T : Sto} {i : Nat} {xs : List Int} (g : Gd B A i) (hB : B < 999999000) (hx : 0 < xs.length) (hx2 : xs.length < 1000000) :
    ∃ x A', m_law_of [.loc i, .p (lI xs)] (A ++ T) = .ok (pI x) (A' ++ T) ∧ x ∈ xs ∧ Gd (B + 1) A' i ∧ Ch i A A' := by
  obtain ⟨v, A', e, v0, v1, g', c⟩ := draw_app (many := (((xs.map PyData.int).length : Nat) : Int)) T g (by omega) (by simpa using hx) (by rw [List.length_map]; omega)
  rw [List.length_map] at v1
  obtain ⟨x, hm, at_⟩ := at_mem PyData.int v0 v1
  refine ⟨x, A', ?_, hm, g', c⟩
  have tk : (A' ++ T).take (A ++ T).length = A' ++ T := by
    have : (A ++ T).length = (A' ++ T).length := by rw [List.length_append, List.length_append, c.len]
    rw [this, List.take_length]
  unfold m_law_of fnM arity b_law_of
  simp only [List.length_cons, List.length_nil, List.map_cons, List.map_nil, List.replicate, List.cons_append, List.nil_append, List.getElem?_cons_zero, List.getElem?_cons_succ, List.set_cons_zero, List.set_cons_succ, sSeq, sIf, sAsg, sRet, sPar, sDput, sNx, sExpr, eOp, eUn, eVar, eC, eCall, eTup, eLst, eIf, aCons, aNil, bOf, bNot, bAnd, bOr, eB, eAnd, eOr, gN, Ot.bind, Ot.then, cmpI, toB, modD, divD, mulD, subD, int2, addD, intF, lenF, max2F, min2F, decide_true, decide_false, if_true, if_false, Bool.false_eq_true, ite_true, ite_false, Bool.not_true, Bool.not_false, decide_eq_true_eq, Nat.reduceSub, Nat.reduceAdd, Nat.reduceEqDiff, fin, take_len, plains, mkTup, mkLst, reduceCtorEq, and_self, and_true, true_and, Bool.or_true, Bool.true_or, e, ixD, at_, tk]
def emp (n : Nat) : List (List Int) := List.replicate n []
/-- the rows, made -/
theorem rows_made {A : Sto} {n : Nat} {env : Envr} (hn : n ≤ 8) (h3 : env[3]? = some (some (pI n))) (h10 : env.length = 13) :
    eComp true (iR1 (aCons (eVar 3) aNil)) [10] (gN 10) bYes (eLstM aNil) env A = .ok (.loc (A.length + n)) (FS A (emp n)) := by
  have ea : aCons (eVar 3) aNil env A = .ok [pI n] A := by
    simp only [aCons, eVar, h3, Ot.bind, aNil]
  rw [eComp_r1 ea (by omega) (by omega), Int.toNat_natCast]
  have step : ∀ (j : Nat) (d : D) (acc : List D) (S : Sto), (rangeD 0 n)[j]? = some d → (0 + j ≤ n ∧ acc = locs A.length (0 + j) ∧ S = A ++ (emp (0 + j)).map rc) →
      ∃ e1, gN 10 d (wipeE env [10]) = some e1 ∧ ((∃ y S1 S2, bYes e1 S = .ok true S1 ∧ eLstM aNil e1 S1 = .ok y S2 ∧ (0 + j + 1 ≤ n ∧ acc ++ [y] = locs A.length (0 + j + 1) ∧ S2 = A ++ (emp (0 + j + 1)).map rc)) ∨ ∃ S1, bYes e1 S = .ok false S1 ∧ (0 + j + 1 ≤ n ∧ acc = locs A.length (0 + j + 1) ∧ S1 = A ++ (emp (0 + j + 1)).map rc)) := by
    intro j d acc S hj hP
    obtain ⟨p1, rfl, rfl⟩ := hP
    obtain ⟨hj', rfl⟩ := rng_at hj
    rw [Nat.zero_add] at *
    refine ⟨_, rfl, .inl ⟨.loc (A.length + j), _, A ++ (emp j).map rc ++ [.lst []], rfl, ?_, hj', ?_, ?_⟩⟩
    · have ln : (A ++ (emp j).map rc).length = A.length + j := by simp [emp]
      show (if ([] : List D).length ≤ sizeLine then (Ot.ok (.loc (A ++ (emp j).map rc).length) ((A ++ (emp j).map rc) ++ [.lst []]) : Ot D) else .bad) = _
      rw [ln, if_pos (show ([] : List D).length ≤ sizeLine from Nat.zero_le _)]
    · unfold locs
      rw [List.range_succ, List.map_append]
      rfl
    · unfold emp
      rw [List.replicate_succ', List.map_append, ← List.append_assoc]
      rfl
  obtain ⟨acc, S, q1, q2, q3, q4⟩ := comp_ok (chk := yes) (g := gN 10) (t := bYes) (m := eLstM aNil) (env := wipeE env [10]) (fun k acc S => k ≤ n ∧ acc = locs A.length k ∧ S = A ++ (emp k).map rc) (rangeD 0 n) 0 [] A
    (fun j acc S h => ⟨rfl, by obtain ⟨h1, h2, _⟩ := h; rw [h2]; unfold locs; rw [List.length_map, List.length_range]; exact Nat.lt_of_le_of_lt (Nat.le_trans h1 hn) (by decide)⟩) step ⟨Nat.zero_le _, rfl, by simp [emp]⟩
  rw [rng_len, Nat.zero_add] at q3 q4
  rw [q1, q3, q4]
  show (Ot.ok (D.loc (A ++ (emp n).map rc).length) ((A ++ (emp n).map rc) ++ [.lst (locs A.length n)]) : Ot D) = _
  have ln : (A ++ (emp n).map rc).length = A.length + n := by simp [emp]
  have le : (emp n).length = n := by simp [emp]
  unfold FS
  rw [ln, le, List.append_assoc]
theorem filt_all {α : Type} (l : List α) : l.filter (fun _ => true) = l := List.filter_eq_self.mpr fun _ _ => rfl
theorem pI_map (r : List Int) : (r.map fun x => pI x) = (r.map PyData.int).map D.p := by rw [List.map_map]; rfl
theorem tup_row {A : Sto} {rows : List (List Int)} {k : Nat} {r : List Int} (h : rows[k]? = some r) : tupF [.loc (A.length + k)] (FS A rows) = .ok (.p (tI r)) (FS A rows) := by
  have e : (cellL (FS A rows) (A.length + k)).bind plains = some (r.map PyData.int) := by
    rw [cl_of (fs_row h)]
    show plains (r.map fun x => pI x) = _
    rw [pI_map, plains_map]
  simp only [tupF, e]
theorem rows_read {A : Sto} {rows : List (List Int)} {env : Envr} (hn : rows.length ≤ 8) (h5 : env[5]? = some (some (.loc (A.length + rows.length)))) (h13 : env.length = 13) :
    eComp false (iM (eVar 5)) [12] (gN 12) bYes (eCall tupF (aCons (eVar 12) aNil)) env (FS A rows) = .ok (.p (.list (rows.map tI))) (FS A rows) := by
  have e1 : iM (eVar 5) env (FS A rows) = .ok (locs A.length rows.length, sameC (A.length + rows.length) (locs A.length rows.length)) (FS A rows) := by
    unfold iM
    simp only [eVar, h5, Ot.bind, isM, fs_all]
  unfold eComp
  rw [e1]
  show (compLoop (sameC (A.length + rows.length) (locs A.length rows.length)) (gN 12) bYes (eCall tupF (aCons (eVar 12) aNil)) (wipeE env [12]) (locs A.length rows.length) [] (FS A rows)).bind (keptAs false) = _
  have w12 : ∀ d : D, ((wipeE env [12]).set 12 (some d))[12]? = some (some d) := fun d => by simp [wipeE, h13]
  rw [comp_map (fun _ => true) (fun d => match d with | .loc j => (match rows[j - A.length]? with | some r => .p (tI r) | none => d) | d => d) (locs A.length rows.length) [] (sameC_iff.mpr fs_all)
    (by unfold locs; rw [List.length_map, List.length_range]; show 0 + rows.length < sizeLine; exact Nat.lt_of_le_of_lt (by omega) (by decide : 8 < sizeLine)) (fun d hd => by
      unfold locs at hd
      obtain ⟨k, hk, rfl⟩ := List.mem_map.mp hd
      obtain ⟨r, hr⟩ : ∃ r, rows[k]? = some r := ⟨_, List.getElem?_eq_getElem (List.mem_range.mp hk)⟩
      refine ⟨_, rfl, rfl, fun _ => ?_⟩
      simp only [eCall, aCons, aNil, eVar, w12, Ot.bind, tup_row hr, Nat.add_sub_cancel_left, hr])]
  have el : ((locs A.length rows.length).filter fun _ => true).map (fun d => match d with | .loc j => (match rows[j - A.length]? with | some r => D.p (tI r) | none => d) | d => d) = (rows.map tI).map D.p := by
    rw [filt_all]
    unfold locs
    rw [List.map_map, List.map_map]
    refine List.ext_getElem? fun k => ?_
    rw [List.getElem?_map, List.getElem?_map]
    by_cases hk : k < rows.length
    · have q : (List.range rows.length)[k]? = some k := by simp [hk]
      obtain ⟨r, hr⟩ : ∃ r, rows[k]? = some r := ⟨_, List.getElem?_eq_getElem hk⟩
      rw [q, hr]
      show some (match rows[A.length + k - A.length]? with | some r => D.p (tI r) | none => _) = _
      rw [Nat.add_sub_cancel_left, hr]
      rfl
    · have q : (List.range rows.length)[k]? = none := by simp; omega
      have q2 : rows[k]? = none := List.getElem?_eq_none (by omega)
      rw [q, q2]
      rfl
  rw [el]
  show (match plains ([] ++ (rows.map tI).map D.p) with | some l => (Ot.ok (D.p (.list l)) (FS A rows) : Ot D) | none => .bad) = _
  rw [List.nil_append, plains_map]
theorem shown_made {B : Int} {A T : Sto} {i n : Nat} {env : Envr} (g : Gd B A i) (hB : B < 999990000) (hn : n ≤ 8) (h0 : env[0]? = some (some (.loc i))) (h3 : env[3]? = some (some (pI n))) (h13 : env.length = 13) :
    ∃ sh A', eComp false (iR1 (aCons (eVar 3) aNil)) [10] (gN 10) bYes (eCall m_law_of (aCons (eVar 0) (aCons (eLst (aCons (eC (.int 0)) (aCons (eC (.int 0)) (aCons (eC (.int 1)) (aCons (eC (.int 2)) aNil))))) aNil))) env (A ++ T) = .ok (.p (lI sh)) (A' ++ T) ∧
      sh.length = n ∧ (∀ x ∈ sh, 0 ≤ x ∧ x ≤ 9) ∧ Gd (B + (n : Int)) A' i ∧ Ch i A A' := by
  have ea : aCons (eVar 3) aNil env (A ++ T) = .ok [pI n] (A ++ T) := by
    simp only [aCons, eVar, h3, Ot.bind, aNil]
  have w0 : ∀ d : D, ((wipeE env [10]).set 10 (some d))[0]? = some (some (.loc i)) := fun d => by
    rw [List.getElem?_set_ne (by decide)]
    show (env.set 10 none)[0]? = _
    rw [List.getElem?_set_ne (by decide)]
    exact h0
  have step : ∀ (j : Nat) (d : D) (acc : List D) (S : Sto), (rangeD 0 n)[j]? = some d → (∃ (sh : List Int) (A' : Sto), acc = (sh.map PyData.int).map D.p ∧ S = A' ++ T ∧ sh.length = 0 + j ∧ (∀ x ∈ sh, 0 ≤ x ∧ x ≤ 9) ∧ Gd (B + ((0 + j : Nat) : Int)) A' i ∧ Ch i A A' ∧ 0 + j ≤ n) →
      ∃ e1, gN 10 d (wipeE env [10]) = some e1 ∧ ((∃ y S1 S2, bYes e1 S = .ok true S1 ∧ eCall m_law_of (aCons (eVar 0) (aCons (eLst (aCons (eC (.int 0)) (aCons (eC (.int 0)) (aCons (eC (.int 1)) (aCons (eC (.int 2)) aNil))))) aNil)) e1 S1 = .ok y S2 ∧
        (∃ (sh : List Int) (A' : Sto), acc ++ [y] = (sh.map PyData.int).map D.p ∧ S2 = A' ++ T ∧ sh.length = 0 + j + 1 ∧ (∀ x ∈ sh, 0 ≤ x ∧ x ≤ 9) ∧ Gd (B + ((0 + j + 1 : Nat) : Int)) A' i ∧ Ch i A A' ∧ 0 + j + 1 ≤ n)) ∨ ∃ S1, bYes e1 S = .ok false S1 ∧
        (∃ (sh : List Int) (A' : Sto), acc = (sh.map PyData.int).map D.p ∧ S1 = A' ++ T ∧ sh.length = 0 + j + 1 ∧ (∀ x ∈ sh, 0 ≤ x ∧ x ≤ 9) ∧ Gd (B + ((0 + j + 1 : Nat) : Int)) A' i ∧ Ch i A A' ∧ 0 + j + 1 ≤ n)) := by
    intro j d acc S hj hP
    obtain ⟨sh, A1, rfl, rfl, p1, p2, p3, p4, p5⟩ := hP
    obtain ⟨hj', rfl⟩ := rng_at hj
    rw [Nat.zero_add] at *
    obtain ⟨x, A2, e, hx, g2, c2⟩ := of_ok (T := T) (xs := [0, 0, 1, 2]) p3 (by omega) (by decide) (by decide)
    have hx9 : 0 ≤ x ∧ x ≤ 9 := by
      simp at hx
      omega
    refine ⟨_, rfl, .inl ⟨pI x, _, A2 ++ T, rfl, ?_, sh ++ [x], A2, ?_, rfl, by rw [List.length_append, p1]; rfl, fun z hz => ?_, ?_, p4.trans c2, hj'⟩⟩
    · have e' : m_law_of [.loc i, .p (.list [.int 0, .int 0, .int 1, .int 2])] (A1 ++ T) = .ok (pI x) (A2 ++ T) := e
      simp only [eCall, aCons, aNil, eVar, w0, Ot.bind, eLst, eC, mkLst, plains, Option.map, List.length_cons, List.length_nil, (show (0 + 1 + 1 + 1 + 1 ≤ sizeLine) = True from eq_true (by decide)), if_true, e']
    · rw [List.map_append, List.map_append]
      rfl
    · rcases List.mem_append.mp hz with hz | hz
      · exact p2 z hz
      · rw [List.mem_singleton.mp hz]; exact hx9
    · have eb : B + ((j + 1 : Nat) : Int) = B + (j : Int) + 1 := by omega
      rw [eb]
      exact g2
  obtain ⟨acc, S, q1, sh, A', rfl, rfl, q3, q4, q5, q6, _⟩ := comp_ok (chk := yes) (g := gN 10) (t := bYes) (env := wipeE env [10])
    (fun k acc S => ∃ (sh : List Int) (A' : Sto), acc = (sh.map PyData.int).map D.p ∧ S = A' ++ T ∧ sh.length = k ∧ (∀ x ∈ sh, 0 ≤ x ∧ x ≤ 9) ∧ Gd (B + (k : Int)) A' i ∧ Ch i A A' ∧ k ≤ n) (rangeD 0 n) 0 [] (A ++ T)
    (fun j acc S h => ⟨rfl, by obtain ⟨sh, A', rfl, _, h3, _, _, _, h4⟩ := h; rw [List.length_map, List.length_map, h3]; exact Nat.lt_of_le_of_lt (Nat.le_trans h4 hn) (by decide)⟩) step ⟨[], A, rfl, rfl, rfl, fun _ z => (by cases z), by simpa using g, .refl, Nat.zero_le _⟩
  rw [rng_len, Nat.zero_add] at q3 q5
  refine ⟨sh, A', ?_, q3, q4, q5, q6⟩
  rw [eComp_r1 ea (by omega) (by omega), Int.toNat_natCast, q1]
  show (match plains ((sh.map PyData.int).map D.p) with | some l => (Ot.ok (D.p (.list l)) (A' ++ T) : Ot D) | none => .bad) = _
  rw [plains_map]
theorem sSeq_nx {a b : SM} {env e1 : Envr} {S S1 : Sto} (h : a env S = .nx e1 S1) : sSeq a b env S = b e1 S1 := by
  unfold sSeq
  rw [h]
theorem call1 {f : FM} {m : EM} {env : Envr} {S S1 : Sto} {d : D} {r : Ot D} (h : m env S = .ok d S1) (hf : f [d] S1 = r) : eCall f (aCons m aNil) env S = r := by
  unfold eCall aCons aNil
  simp only [h, Ot.bind, hf]
theorem call2 {f : FM} {m m2 : EM} {env : Envr} {S S1 S2 : Sto} {d d2 : D} {r : Ot D} (h : m env S = .ok d S1) (h2 : m2 env S1 = .ok d2 S2) (hf : f [d, d2] S2 = r) : eCall f (aCons m (aCons m2 aNil)) env S = r := by
  unfold eCall aCons aNil
  simp only [h, h2, Ot.bind, aCons, aNil, hf]
theorem call3 {f : FM} {m m2 m3 : EM} {env : Envr} {S S1 S2 S3 : Sto} {d d2 d3 : D} {r : Ot D} (h : m env S = .ok d S1) (h2 : m2 env S1 = .ok d2 S2) (h3 : m3 env S2 = .ok d3 S3) (hf : f [d, d2, d3] S3 = r) : eCall f (aCons m (aCons m2 (aCons m3 aNil))) env S = r := by
  unfold eCall aCons aNil
  simp only [h, h2, h3, Ot.bind, aCons, aNil, hf]
theorem tup2 {m m2 : EM} {env : Envr} {S S1 S2 : Sto} {x y : PyData} (h : m env S = .ok (.p x) S1) (h2 : m2 env S1 = .ok (.p y) S2) : eTup (aCons m (aCons m2 aNil)) env S = .ok (.p (.tuple [x, y])) S2 := by
  unfold eTup aCons aNil
  simp only [h, h2, Ot.bind, aCons, aNil]
  rfl
theorem ret_ok {m : EM} {env : Envr} {S S1 : Sto} {d : D} (h : m env S = .ok d S1) : sRet m env S = .rt d S1 := by
  unfold sRet
  simp only [h, Ot.then]
theorem fnM_rt {b : Bool} {n all : Nat} {m : SM} {ds : List D} {S S1 : Sto} {d : D} (hl : ds.length = n) (h : m (ds.map some ++ List.replicate (all - n) none) S = .rt d S1) : fnM b n all m ds S = fin b S.length d S1 := by
  unfold fnM arity
  rw [if_pos hl]
  simp only [h]
theorem fnM_nx {b : Bool} {n all : Nat} {m : SM} {ds : List D} {S S1 : Sto} {e : Envr} (hl : ds.length = n) (h : m (ds.map some ++ List.replicate (all - n) none) S = .nx e S1) : fnM b n all m ds S = fin b S.length (.p .none) S1 := by
  unfold fnM arity
  rw [if_pos hl]
  simp only [h]
end Lw

/-! P8 -/
set_option Elab.async false
set_option linter.all false
set_option maxRecDepth 100000
set_option maxHeartbeats 4000000
set_option autoImplicit false
namespace Lw
open PySem PySem.Spec PyProof.Rows L2 Mi
theorem isi_ii (v : Int) (S : Sto) : isiF .int (pI v) S = .ok (.p (.bool true)) S := rfl
theorem isi_bi (v : Int) (S : Sto) : isiF .bl (pI v) S = .ok (.p (.bool false)) S := rfl
theorem isi_tt (l : List PyData) (S : Sto) : isiF .tup (.p (.tuple l)) S = .ok (.p (.bool true)) S := rfl
/-- a loop that changes nothing that counts -/
theorem enT_at {l : List PyData} {k : Nat} {d : D} (h : (numD 0 l)[k]? = some d) : ∃ x, l[k]? = some x ∧ d = .p (.dict [(.none, .none), (.int (k : Nat), x)]) := by
  rw [numD_get] at h
  obtain ⟨x, h1, h2⟩ := Option.map_eq_some_iff.mp h
  exact ⟨x, h1, by rw [← h2, Nat.zero_add]⟩
theorem sFor_T {a : AM} {g : GM} {body : SM} {env : Envr} {S S' : Sto} {l : List PyData} (h : a env S = .ok [.p (.tuple l)] S') : sFor (iEnT a) g body env S = loop yes g body (numD 0 l) env S' := by
  unfold sFor iEnT
  rw [h]
  rfl
end Lw

/-! P9 -/
set_option Elab.async false
set_option linter.all false
set_option maxRecDepth 100000
set_option maxHeartbeats 4000000
set_option autoImplicit false
namespace Lw
open PySem PySem.Spec PyProof.Rows L2 Mi
/-- a parting, by what has begun -/
def rg : Int → List Int → Prop
  | _, [] => True
  | b, x :: r => 0 ≤ x ∧ x ≤ b ∧ rg (if x + 1 > b then x + 1 else b) r
structure IsP (n : Nat) (sheet : List Int) : Prop where
  len : sheet.length = n
  up : rg 0 sheet
theorem sFor_TT {m : EM} {g : GM} {body : SM} {env : Envr} {S S' : Sto} {l : List PyData} (h : m env S = .ok (.p (.tuple l)) S') : sFor (iT m) g body env S = loop yes g body (l.map .p) env S' := by
  unfold sFor iT
  rw [h]
  rfl
theorem sFor_LL {m : EM} {g : GM} {body : SM} {env : Envr} {S S' : Sto} {l : List PyData} (h : m env S = .ok (.p (.list l)) S') : sFor (iL m) g body env S = loop yes g body (l.map .p) env S' := by
  unfold sFor iL
  rw [h]
  rfl
end Lw

/-! P10 -/
set_option Elab.async false
set_option linter.all false
set_option maxRecDepth 100000
set_option maxHeartbeats 4000000
set_option autoImplicit false
namespace Lw
open PySem PySem.Spec PyProof.Rows L2 Mi
theorem lay_ints : ∀ r : List Int, PyData.canLayAll0 (r.map .int) = true
  | [] => rfl
  | x :: r => by
    show ((PyData.int x).canLay0 && PyData.canLayAll0 (r.map .int)) = true
    rw [lay_ints r]
    rfl
theorem deep_ints : ∀ r : List Int, PyData.depthAll (r.map .int) ≤ 1
  | [] => by simp [PyData.depthAll]
  | x :: r => by
    have := deep_ints r
    simp only [List.map_cons, PyData.depthAll, PyData.depth]
    omega
theorem eqv_ints : ∀ a b : List Int, PyData.eqvAll (a.map .int) (b.map .int) = decide (a = b)
  | [], [] => rfl
  | [], _ :: _ => rfl
  | _ :: _, [] => rfl
  | x :: a, y :: b => by
    show (PyData.eqv (.int x) (.int y) && PyData.eqvAll (a.map .int) (b.map .int)) = _
    rw [eqv_ints a b]
    show ((x == y) && decide (a = b)) = _
    by_cases h : x = y
    · subst h; simp
    · simp [h]
theorem shaped_lI (r : List Int) : SeqAt.shaped (lI r) = true := by
  have := deep_ints r
  unfold SeqAt.shaped
  rw [PyData.canLay0, lay_ints]
  simp only [PyData.depth, Bool.true_and]
  exact decide_eq_true (by omega)
theorem shaped_tI (r : List Int) : SeqAt.shaped (tI r) = true := by
  have := deep_ints r
  unfold SeqAt.shaped
  rw [PyData.canLay0, lay_ints]
  simp only [PyData.depth, Bool.true_and]
  exact decide_eq_true (by omega)
theorem eq_ll (neg : Bool) (a b : List Int) (S : Sto) : eqD neg (.p (lI a)) (.p (lI b)) S = .ok (.p (.bool (if neg = true then !decide (a = b) else decide (a = b)))) S := by
  simp only [eqD, shaped_lI, and_self, if_true]
  show Ot.ok (D.p (.bool (if neg = true then !PyData.eqvAll (a.map .int) (b.map .int) else PyData.eqvAll (a.map .int) (b.map .int)))) S = _
  rw [eqv_ints]
theorem eq_tt (neg : Bool) (a b : List Int) (S : Sto) : eqD neg (.p (tI a)) (.p (tI b)) S = .ok (.p (.bool (if neg = true then !decide (a = b) else decide (a = b)))) S := by
  simp only [eqD, shaped_tI, and_self, if_true]
  show Ot.ok (D.p (.bool (if neg = true then !PyData.eqvAll (a.map .int) (b.map .int) else PyData.eqvAll (a.map .int) (b.map .int)))) S = _
  rw [eqv_ints]
end Lw

/-! P11 -/
set_option Elab.async false
set_option linter.all false
set_option maxRecDepth 100000
set_option maxHeartbeats 4000000
set_option autoImplicit false
namespace Lw
open PySem PySem.Spec PyProof.Rows L2 Mi
/-! ### the state of the draws begins -/
theorem asg_ok {m : EM} {g : GM} {env e1 : Envr} {S S1 : Sto} {d : D} (h : m env S = .ok d S1) (hg : g d env = some e1) : sAsg m g env S = .nx e1 S1 := by
  unfold sAsg
  simp only [h, Ot.then, hg]
theorem plains_ints (xs : List Int) : plains (xs.map pI) = some (xs.map .int) := by
  rw [show xs.map pI = (xs.map PyData.int).map D.p from by rw [List.map_map]; rfl]
  exact plains_map _
/-- a comprehension over a list of ints that keeps some -/
theorem comp_ints {t : BM} {m : EM} {i : Nat} {env : Envr} {S : Sto} {a : EM} {xs : List Int} (tf : Int → Bool) (mf : Int → Int) (h : a env S = .ok (.p (lI xs)) S) (hl : xs.length < 1000000)
    (ht : ∀ x ∈ xs, t ((env.set i none).set i (some (pI x))) S = .ok (tf x) S) (hm : ∀ x ∈ xs, tf x = true → m ((env.set i none).set i (some (pI x))) S = .ok (pI (mf x)) S) :
    eComp false (iL a) [i] (gN i) t m env S = .ok (.p (lI ((xs.filter tf).map mf))) S := by
  unfold eComp iL
  rw [h]
  show (compLoop yes (gN i) t m (wipeE env [i]) ((xs.map PyData.int).map D.p) [] S).bind (keptAs false) = _
  rw [comp_map (fun d => match d with | .p (.int x) => tf x | _ => false) (fun d => match d with | .p (.int x) => pI (mf x) | _ => d) ((xs.map PyData.int).map D.p) [] rfl
    (by rw [List.length_map, List.length_map]; show 0 + xs.length < sizeLine; exact Nat.lt_trans (by omega : 0 + xs.length < 1000000) (by decide)) (fun d hd => by
      obtain ⟨y, hy, rfl⟩ := List.mem_map.mp hd
      obtain ⟨x, hx, rfl⟩ := List.mem_map.mp hy
      exact ⟨_, rfl, ht x hx, fun q => hm x hx q⟩)]
  have e : (((xs.map PyData.int).map D.p).filter fun d => match d with | .p (.int x) => tf x | _ => false).map (fun d => match d with | .p (.int x) => pI (mf x) | _ => d) = ((xs.filter tf).map mf).map pI := by
    rw [List.map_map, List.filter_map, List.map_map, List.map_map]
    rfl
  rw [e]
  show (match plains ([] ++ ((xs.filter tf).map mf).map pI) with | some l => (Ot.ok (D.p (.list l)) S : Ot D) | none => .bad) = _
  rw [List.nil_append, plains_ints]
theorem last_get {α : Type} {S : List α} {c : α} : (S ++ [c])[S.length]? = some c := by simp
theorem at0 {α : Type} (a : α) (r : List α) : atI (a :: r) 0 = some a := by
  unfold atI ixN
  rw [if_pos (Int.le_refl 0), if_pos (by rw [List.length_cons]; omega)]
  rfl
theorem begun_ok {ns : List Int} {k : Nat} {S : Sto} (hl : ns.length ≤ 63) (hk : k ≤ 100) : ∃ c, m_law_begun [.scr ns, pI k] S = .ok (.loc S.length) (S ++ [c]) ∧ Gd 0 (S ++ [c]) S.length := by
  obtain ⟨cs, hcs⟩ : ∃ cs : List Int, cs = cutL ns (some (k : Int)) none ++ cutL ns none (some (k : Int)) := ⟨_, rfl⟩
  have cl : cs.length ≤ 126 := by
    rw [hcs, List.length_append]
    unfold cutL
    have a1 : ∀ (lo hi : Option Int), (((ns.drop (HT.sIx ns.length 0 lo)).take (HT.sIx ns.length ns.length hi - HT.sIx ns.length 0 lo))).length ≤ ns.length := fun lo hi => by
      rw [List.length_take, List.length_drop]
      omega
    have b1 := a1 (some (k : Int)) none
    have b2 := a1 none (some (k : Int))
    omega
  have z1 : (cs.length : Nat) ≤ sizeLine := Nat.le_trans cl (by decide)
  have x1 : eOp addD (eSl (eVar 0) (oSome (eVar 1)) oNone) (eSl (eVar 0) oNone (oSome (eVar 1))) [some (.scr ns), some (pI k), none, none, none, none] S = .ok (.p (lI cs)) S := by
    have z2 : (((cutL ns (some (k : Int)) none).map PyData.int).length + ((cutL ns none (some (k : Int))).map PyData.int).length) ≤ sizeLine := by
      rw [List.length_map, List.length_map, ← List.length_append, ← hcs]
      exact z1
    simp only [List.length_cons, List.length_nil, List.map_cons, List.map_nil, List.replicate, List.cons_append, List.nil_append, List.getElem?_cons_zero, List.getElem?_cons_succ, List.set_cons_zero, List.set_cons_succ, sSeq, sIf, sAsg, sRet, sPar, sDput, sNx, sExpr, eOp, eUn, eVar, eC, eCall, eTup, eLst, eIf, aCons, aNil, bOf, bNot, bAnd, bOr, eB, eAnd, eOr, gN, Ot.bind, Ot.then, cmpI, toB, modD, divD, mulD, subD, int2, addD, intF, lenF, max2F, min2F, decide_true, decide_false, if_true, if_false, Bool.false_eq_true, ite_true, ite_false, Bool.not_true, Bool.not_false, decide_eq_true_eq, Nat.reduceSub, Nat.reduceAdd, Nat.reduceEqDiff, fin, take_len, plains, mkTup, mkLst, reduceCtorEq, and_self, and_true, true_and, Bool.or_true, Bool.true_or, eSl, oSome, oNone, toI, slD, z2]
    rw [hcs]
    show _ = (Ot.ok (D.p (.list ((_ ++ _ : List Int).map .int))) S : Ot D)
    rw [List.map_append]
  have x2 : eComp false (iL (eVar 2)) [5] (gN 5) (bOf (eOp (cmpI fun i j => decide (j ≤ i)) (eVar 5) (eOp powD (eC (.int 10)) (eC (.int 18))))) (eVar 5) [some (.scr ns), some (pI k), some (.p (lI cs)), none, none, none] S =
      .ok (.p (lI ((cs.filter fun x => decide ((10 : Int) ^ (18 : Int).toNat ≤ x)).map id))) S :=
    comp_ints (a := eVar 2) (i := 5) (fun x => decide ((10 : Int) ^ (18 : Int).toNat ≤ x)) id rfl (by omega) (fun x _ => by
      simp only [List.length_cons, List.length_nil, List.map_cons, List.map_nil, List.replicate, List.cons_append, List.nil_append, List.getElem?_cons_zero, List.getElem?_cons_succ, List.set_cons_zero, List.set_cons_succ, sSeq, sIf, sAsg, sRet, sPar, sDput, sNx, sExpr, eOp, eUn, eVar, eC, eCall, eTup, eLst, eIf, aCons, aNil, bOf, bNot, bAnd, bOr, eB, eAnd, eOr, gN, Ot.bind, Ot.then, cmpI, toB, modD, divD, mulD, subD, int2, addD, intF, lenF, max2F, min2F, decide_true, decide_false, if_true, if_false, Bool.false_eq_true, ite_true, ite_false, Bool.not_true, Bool.not_false, decide_eq_true_eq, Nat.reduceSub, Nat.reduceAdd, Nat.reduceEqDiff, fin, take_len, plains, mkTup, mkLst, reduceCtorEq, and_self, and_true, true_and, Bool.or_true, Bool.true_or, powD]
      rfl) (fun x _ _ => rfl)
  obtain ⟨gr, hgr⟩ : ∃ gr : List Int, gr = (cs.filter fun x => decide ((10 : Int) ^ (18 : Int).toNat ≤ x)).map id := ⟨_, rfl⟩
  rw [← hgr] at x2
  have x3 := sFor_LL (m := eVar 2) (g := gN 5) (body := (sAsg (eOp modD (eCall intF (aCons (eOp addD (eOp mulD (eVar 4) (eC (.int 48271))) (eVar 5)) aNil)) (eC (.int 2147483647))) (gN 4))) (env := [some (.scr ns), some (pI k), some (.p (lI cs)), some (.p (lI gr)), some (pI (71 + k)), none]) (S := S) (S' := S) (l := cs.map .int) rfl
  obtain ⟨e4, S4, q1, sd, o5, rfl, rfl⟩ := loop_ok (chk := yes) (g := gN 5) (body := (sAsg (eOp modD (eCall intF (aCons (eOp addD (eOp mulD (eVar 4) (eC (.int 48271))) (eVar 5)) aNil)) (eC (.int 2147483647))) (gN 4))) (fun _ env S' => ∃ (sd : Int) (o5 : Option D), env = [some (.scr ns), some (pI k), some (.p (lI cs)), some (.p (lI gr)), some (pI sd), o5] ∧ S' = S)
    ((cs.map PyData.int).map .p) 0 _ S (fun _ _ _ _ => rfl) (fun j d env S' hj hP => by
      obtain ⟨sd, o5, rfl, rfl⟩ := hP
      rw [List.map_map, List.getElem?_map] at hj
      obtain ⟨x, _, rfl⟩ := Option.map_eq_some_iff.mp hj
      refine ⟨_, _, _, rfl, .inl ?_, (sd * 48271 + x) % 2147483647, some (pI x), rfl, rfl⟩
      have mo := mo1 sd
      show sAsg _ (gN 4) [some (.scr ns), some (pI k), some (.p (lI cs)), some (.p (lI gr)), some (pI sd), some (pI x)] _ = _
      simp only [List.length_cons, List.length_nil, List.map_cons, List.map_nil, List.replicate, List.cons_append, List.nil_append, List.getElem?_cons_zero, List.getElem?_cons_succ, List.set_cons_zero, List.set_cons_succ, sSeq, sIf, sAsg, sRet, sPar, sDput, sNx, sExpr, eOp, eUn, eVar, eC, eCall, eTup, eLst, eIf, aCons, aNil, bOf, bNot, bAnd, bOr, eB, eAnd, eOr, gN, Ot.bind, Ot.then, cmpI, toB, modD, divD, mulD, subD, int2, addD, intF, lenF, max2F, min2F, decide_true, decide_false, if_true, if_false, Bool.false_eq_true, ite_true, ite_false, Bool.not_true, Bool.not_false, decide_eq_true_eq, Nat.reduceSub, Nat.reduceAdd, Nat.reduceEqDiff, fin, take_len, plains, mkTup, mkLst, reduceCtorEq, and_self, and_true, true_and, Bool.or_true, Bool.true_or, mo, Int.reduceLT]) ⟨71 + k, none, rfl, rfl⟩
  have x4 : eIf (bOf (eOp (eqD true) (eVar 3) (eLst aNil))) (eOp ixD (eVar 3) (eC (.int 0))) (eC (.int 0)) [some (.scr ns), some (pI k), some (.p (lI cs)), some (.p (lI gr)), some (pI sd), o5] S4 = .ok (pI (gr.headD 0)) S4 := by
    have el := eq_ll true gr [] S4
    have el' : eqD true (.p (lI gr)) (.p (.list [])) S4 = .ok (.p (.bool (!decide (gr = [])))) S4 := el
    cases gr with
    | nil => simp only [List.length_cons, List.length_nil, List.map_cons, List.map_nil, List.replicate, List.cons_append, List.nil_append, List.getElem?_cons_zero, List.getElem?_cons_succ, List.set_cons_zero, List.set_cons_succ, sSeq, sIf, sAsg, sRet, sPar, sDput, sNx, sExpr, eOp, eUn, eVar, eC, eCall, eTup, eLst, eIf, aCons, aNil, bOf, bNot, bAnd, bOr, eB, eAnd, eOr, gN, Ot.bind, Ot.then, cmpI, toB, modD, divD, mulD, subD, int2, addD, intF, lenF, max2F, min2F, decide_true, decide_false, if_true, if_false, Bool.false_eq_true, ite_true, ite_false, Bool.not_true, Bool.not_false, decide_eq_true_eq, Nat.reduceSub, Nat.reduceAdd, Nat.reduceEqDiff, fin, take_len, plains, mkTup, mkLst, reduceCtorEq, and_self, and_true, true_and, Bool.or_true, Bool.true_or, el', (show (0 ≤ sizeLine) = True from eq_true (Nat.zero_le _))]; rfl
    | cons a r =>
      have a0 : atI (PyData.int a :: r.map PyData.int) 0 = some (.int a) := at0 _ _
      simp only [List.length_cons, List.length_nil, List.map_cons, List.map_nil, List.replicate, List.cons_append, List.nil_append, List.getElem?_cons_zero, List.getElem?_cons_succ, List.set_cons_zero, List.set_cons_succ, sSeq, sIf, sAsg, sRet, sPar, sDput, sNx, sExpr, eOp, eUn, eVar, eC, eCall, eTup, eLst, eIf, aCons, aNil, bOf, bNot, bAnd, bOr, eB, eAnd, eOr, gN, Ot.bind, Ot.then, cmpI, toB, modD, divD, mulD, subD, int2, addD, intF, lenF, max2F, min2F, decide_true, decide_false, if_true, if_false, Bool.false_eq_true, ite_true, ite_false, Bool.not_true, Bool.not_false, decide_eq_true_eq, Nat.reduceSub, Nat.reduceAdd, Nat.reduceEqDiff, fin, take_len, plains, mkTup, mkLst, reduceCtorEq, and_self, and_true, true_and, Bool.or_true, Bool.true_or, el', (show (0 ≤ sizeLine) = True from eq_true (Nat.zero_le _)), ixD, a0]
      rfl
  have x5 : eOp addD (eVar 2) (eLst (aCons (eOp addD (eOp mulD (eC (.int 41)) (eVar 1)) (eC (.int 3))) aNil)) [some (.scr ns), some (pI k), some (.p (lI cs)), some (.p (lI gr)), some (pI sd), o5] S4 = .ok (.p (lI (cs ++ [41 * (k : Int) + 3]))) S4 := by
    have m41 : mulOk 41 k = true := small_mul' (by decide)
    have z2 : (cs.map PyData.int).length + (0 + 1) ≤ sizeLine := by rw [List.length_map]; exact Nat.le_trans (by omega : cs.length + (0 + 1) ≤ 127) (by decide)
    simp only [List.length_cons, List.length_nil, List.map_cons, List.map_nil, List.replicate, List.cons_append, List.nil_append, List.getElem?_cons_zero, List.getElem?_cons_succ, List.set_cons_zero, List.set_cons_succ, sSeq, sIf, sAsg, sRet, sPar, sDput, sNx, sExpr, eOp, eUn, eVar, eC, eCall, eTup, eLst, eIf, aCons, aNil, bOf, bNot, bAnd, bOr, eB, eAnd, eOr, gN, Ot.bind, Ot.then, cmpI, toB, modD, divD, mulD, subD, int2, addD, intF, lenF, max2F, min2F, decide_true, decide_false, if_true, if_false, Bool.false_eq_true, ite_true, ite_false, Bool.not_true, Bool.not_false, decide_eq_true_eq, Nat.reduceSub, Nat.reduceAdd, Nat.reduceEqDiff, fin, take_len, plains, mkTup, mkLst, reduceCtorEq, and_self, and_true, true_and, Bool.or_true, Bool.true_or, m41, (show (0 + 1 ≤ sizeLine) = True from eq_true (by decide)), Option.map, z2]
    show (Ot.ok (D.p (.list (cs.map .int ++ [.int (41 * k + 3)]))) S4 : Ot D) = .ok (D.p (.list ((cs ++ [41 * (k : Int) + 3]).map .int))) S4
    rw [List.map_append]
    rfl
  have body : b_law_begun [some (.scr ns), some (pI k), none, none, none, none] S4 = .rt (.loc S4.length) (S4 ++ [mcell (gr.headD 0) sd (cs ++ [41 * (k : Int) + 3]) 0]) := by
    refine (sSeq_nx (asg_ok x1 rfl)).trans ((sSeq_nx (asg_ok x2 rfl)).trans ((sSeq_nx (asg_ok (d := pI (71 + k)) rfl rfl)).trans ((sSeq_nx (x3.trans q1)).trans (ret_ok ?_))))
    simp only [eDict, pairsM, x4, x5, eC, eVar, List.getElem?_cons_zero, List.getElem?_cons_succ, Ot.bind, Mi.keyOf]
    rfl
  refine ⟨mcell (gr.headD 0) sd (cs ++ [41 * (k : Int) + 3]) 0, ?_, ⟨_, _, _, _, last_get, by simp, Int.le_refl _, Int.le_refl _⟩⟩
  refine (fnM_rt (b := true) (n := 2) (all := 6) (m := b_law_begun) (ds := [.scr ns, pI k]) rfl body).trans ?_
  have g : (S4 ++ [mcell (gr.headD 0) sd (cs ++ [41 * (k : Int) + 3]) 0])[S4.length]? = some (mcell (gr.headD 0) sd (cs ++ [41 * (k : Int) + 3]) 0) := last_get
  unfold fin
  simp only [Nat.lt_irrefl, if_false, g, List.take_left]
  rfl
end Lw

/-! P12 -/
set_option Elab.async false
set_option linter.all false
set_option maxRecDepth 100000
set_option maxHeartbeats 4000000
set_option autoImplicit false
namespace Lw
open PySem PySem.Spec PyProof.Rows L2 Mi
theorem intsOf_map : ∀ r : List Int, intsOf (r.map .int) = some r
  | [] => rfl
  | x :: r => by
    show (intsOf (r.map .int)).map (x :: ·) = _
    rw [intsOf_map r]
    rfl
/-- the greatest of a row that is not empty -/
def mx (xs : List Int) : Int := xs.tail.foldl max (xs.headD 0)
theorem maxI_mx {xs : List Int} (h : xs ≠ []) : maxI xs = some (mx xs) := by
  cases xs with
  | nil => exact absurd rfl h
  | cons a r => rfl
theorem max_lI {xs : List Int} {S : Sto} (h : xs ≠ []) : maxSF [.p (lI xs)] S = .ok (pI (mx xs)) S := by
  have e : (intsOf (xs.map .int)).bind maxI = some (mx xs) := by rw [intsOf_map]; exact maxI_mx h
  simp only [maxSF, e]
theorem max_tI {xs : List Int} {S : Sto} (h : xs ≠ []) : maxSF [.p (tI xs)] S = .ok (pI (mx xs)) S := by
  have e : (intsOf (xs.map .int)).bind maxI = some (mx xs) := by rw [intsOf_map]; exact maxI_mx h
  simp only [maxSF, e]
theorem max_cell {xs : List Int} {S : Sto} {i : Nat} (h : xs ≠ []) (hc : S[i]? = some (.lst (xs.map pI))) : maxSF [.loc i] S = .ok (pI (mx xs)) S := by
  have e : (((cellL S i).bind plains).bind intsOf).bind maxI = some (mx xs) := by
    rw [cl_of hc]
    show (((plains (xs.map pI))).bind intsOf).bind maxI = _
    rw [plains_ints]
    show (intsOf (xs.map .int)).bind maxI = _
    rw [intsOf_map]
    exact maxI_mx h
  simp only [maxSF, e]
/-- how many blocks have begun -/
def bnd : Int → List Int → Int
  | b, [] => b
  | b, x :: r => bnd (if x + 1 > b then x + 1 else b) r
theorem rg_snoc : ∀ (xs : List Int) (b v : Int), rg b (xs ++ [v]) ↔ rg b xs ∧ 0 ≤ v ∧ v ≤ bnd b xs
  | [], b, v => by simp [rg, bnd]
  | x :: r, b, v => by
    show (0 ≤ x ∧ x ≤ b ∧ rg _ (r ++ [v])) ↔ (0 ≤ x ∧ x ≤ b ∧ rg _ r) ∧ 0 ≤ v ∧ v ≤ bnd _ r
    rw [rg_snoc r]
    constructor
    · rintro ⟨a, b, c, d⟩; exact ⟨⟨a, b, c⟩, d⟩
    · rintro ⟨⟨a, b, c⟩, d⟩; exact ⟨a, b, c, d⟩
theorem bnd_fold : ∀ (r : List Int) (a : Int), bnd (a + 1) r = r.foldl max a + 1
  | [], _ => rfl
  | x :: r, a => by
    show bnd (if x + 1 > a + 1 then x + 1 else a + 1) r = r.foldl max (max a x) + 1
    rw [← bnd_fold r (max a x)]
    congr 1
    split <;> omega
theorem bnd_mx {xs : List Int} (h : xs ≠ []) (hr : rg 0 xs) : bnd 0 xs = mx xs + 1 := by
  cases xs with
  | nil => exact absurd rfl h
  | cons a r =>
    obtain ⟨h0, h1, _⟩ := hr
    have : a = 0 := by omega
    subst this
    exact bnd_fold r 0
theorem rg_nonneg : ∀ {xs : List Int} {b : Int}, rg b xs → ∀ x ∈ xs, 0 ≤ x
  | y :: r, b, h, x, hx => by
    rcases List.mem_cons.mp hx with rfl | hx
    · exact h.1
    · exact rg_nonneg h.2.2 x hx
theorem mx_le : ∀ (r : List Int) (a : Int), a ≤ r.foldl max a
  | [], a => Int.le_refl _
  | x :: r, a => Int.le_trans (Int.le_max_left a x) (mx_le r (max a x))
theorem mx_pos {xs : List Int} (h : xs ≠ []) (hr : rg 0 xs) : 0 ≤ mx xs := by
  cases xs with
  | nil => exact absurd rfl h
  | cons a r => exact Int.le_trans hr.1 (mx_le r a)
theorem mx_lt : ∀ (xs : List Int) (b : Int), rg b xs → bnd b xs ≤ b + xs.length
  | [], b, _ => by simp [bnd]
  | x :: r, b, h => by
    have := mx_lt r _ h.2.2
    show bnd (if x + 1 > b then x + 1 else b) r ≤ b + ((r.length + 1 : Nat) : Int)
    have h2 := h.2.1
    split at this <;> split <;> omega
theorem op2 {f : D → D → Sto → Ot D} {m m2 : EM} {env : Envr} {S S1 S2 : Sto} {d d2 : D} {r : Ot D} (h : m env S = .ok d S1) (h2 : m2 env S1 = .ok d2 S2) (hf : f d d2 S2 = r) : eOp f m m2 env S = r := by
  unfold eOp
  simp only [h, h2, Ot.bind, hf]
theorem cell_of {S : Sto} {i : Nat} {xs : List D} (h : S[i]? = some (.lst xs)) : isCell (.loc i) S = true := by
  simp only [isCell, cl_of h]
  rfl
theorem app_of {S : Sto} {i : Nat} {xs : List D} (h : S[i]? = some (.lst xs)) (hl : xs.length < 1000000) (x : Int) : apF (.loc i) (pI x) S = .ok (.p .none) (S.set i (.lst (xs ++ [pI x]))) := by
  have z : xs.length < sizeLine ∧ (pI x).lowb i = true := ⟨Nat.lt_trans hl (by decide), rfl⟩
  simp only [apF, cl_of h]
  rw [if_pos z]
end Lw

/-! P13 -/
set_option Elab.async false
set_option linter.all false
set_option maxRecDepth 100000
set_option maxHeartbeats 4000000
set_option autoImplicit false
namespace Lw
open PySem PySem.Spec PyProof.Rows L2 Mi
/-! ### comprehensions over numbered rows and over ranges -/
def enF {α : Type} : Nat → List α → List (Nat × α)
  | _, [] => []
  | k, x :: r => (k, x) :: enF (k + 1) r
theorem enF_len {α : Type} : ∀ (k : Nat) (xs : List α), (enF k xs).length = xs.length
  | _, [] => rfl
  | k, x :: r => by
    show (enF (k + 1) r).length + 1 = r.length + 1
    rw [enF_len (k + 1) r]
theorem numD_enF {α : Type} (f : α → PyData) : ∀ (k : Nat) (xs : List α), numD k (xs.map f) = (enF k xs).map fun q => D.p (.dict [(.none, .none), (.int (q.1 : Int), f q.2)])
  | _, [] => rfl
  | k, x :: r => by
    show D.p (.dict [(.none, .none), (.int (k : Int), f x)]) :: numD (k + 1) (r.map f) = _
    rw [numD_enF f (k + 1) r]
    rfl
theorem plains_list {α : Type} (f : α → PyData) (xs : List α) : plains (xs.map fun x => D.p (f x)) = some (xs.map f) := by
  rw [show (xs.map fun x => D.p (f x)) = (xs.map f).map D.p from by rw [List.map_map]; rfl]
  exact plains_map _
/-- comp_map, for items that are made of others -/
theorem comp_by {α : Type} {chk : Sto → Bool} {g : GM} {t : BM} {m : EM} {env : Envr} {S : Sto} (c : α → D) (r : α → PyData) (tf : α → Bool) (hc : chk S = true) : ∀ (xs : List α) (acc : List D), acc.length + xs.length < sizeLine →
    (∀ x ∈ xs, ∃ e1, g (c x) env = some e1 ∧ t e1 S = .ok (tf x) S ∧ (tf x = true → m e1 S = .ok (.p (r x)) S)) → compLoop chk g t m env (xs.map c) acc S = .ok (acc ++ (xs.filter tf).map fun x => .p (r x)) S
  | [], acc, _, _ => by
    show compLoop chk g t m env [] acc S = _
    unfold compLoop
    rw [if_pos hc]
    simp
  | x :: xs, acc, hl, h => by
    obtain ⟨e1, h1, h2, h3⟩ := h x (List.mem_cons_self ..)
    have hl' : acc.length + (xs.length + 1) < sizeLine := hl
    have hx : ∀ y ∈ xs, ∃ e1, g (c y) env = some e1 ∧ t e1 S = .ok (tf y) S ∧ (tf y = true → m e1 S = .ok (.p (r y)) S) := fun y hy => h y (List.mem_cons_of_mem _ hy)
    show compLoop chk g t m env (c x :: xs.map c) acc S = _
    unfold compLoop
    rw [if_pos hc]
    simp only [h1, h2]
    cases q : tf x with
    | true =>
      have al : acc.length < sizeLine := by omega
      simp only [h3 q, if_true, al]
      rw [comp_by c r tf hc xs (acc ++ [D.p (r x)]) (by rw [List.length_append]; show acc.length + 1 + xs.length < sizeLine; omega) hx, List.filter_cons_of_pos q, List.map_cons, List.append_assoc]
      rfl
    | false =>
      simp only [Bool.false_eq_true, if_false]
      rw [comp_by c r tf hc xs acc (by omega) hx, List.filter_cons_of_neg (by rw [q]; exact Bool.false_ne_true)]
theorem kept_list {α : Type} (f : α → PyData) (xs : List α) (S : Sto) : keptAs false (xs.map fun x => D.p (f x)) S = .ok (.p (.list (xs.map f))) S := by
  show (match plains (xs.map fun x => D.p (f x)) with | some l => (Ot.ok (D.p (.list l)) S : Ot D) | none => .bad) = _
  rw [plains_list]
theorem big_ok {n : Nat} (h : n < 1000000) : 0 + n < sizeLine := Nat.lt_trans (by omega : 0 + n < 1000000) (by decide)
/-- over a range -/
theorem comp_rng {t : BM} {m : EM} {i : Nat} {env : Envr} {S : Sto} {a : AM} {n : Nat} (tf : Nat → Bool) (r : Nat → PyData) (h : a env S = .ok [pI n] S) (hl : n < 1000000)
    (ht : ∀ k, k < n → t ((env.set i none).set i (some (pI k))) S = .ok (tf k) S) (hm : ∀ k, k < n → tf k = true → m ((env.set i none).set i (some (pI k))) S = .ok (.p (r k)) S) :
    eComp false (iR1 a) [i] (gN i) t m env S = .ok (.p (.list (((List.range n).filter tf).map r))) S := by
  rw [eComp_r1 h (by omega) (by omega), Int.toNat_natCast]
  have e : rangeD 0 n = (List.range n).map fun k => pI (k : Nat) := by
    unfold rangeD
    refine List.map_congr_left fun k _ => ?_
    rw [Int.zero_add]
  rw [e]
  show (compLoop yes (gN i) t m (env.set i none) ((List.range n).map fun k => pI (k : Nat)) [] S).bind (keptAs false) = _
  rw [comp_by (fun k : Nat => pI (k : Nat)) r tf rfl (List.range n) [] (by rw [List.length_range]; exact big_ok hl) fun k hk => ⟨_, rfl, ht k (List.mem_range.mp hk), fun q => hm k (List.mem_range.mp hk) q⟩]
  exact kept_list r _ S
/-- over a tuple, numbered -/
theorem comp_enT {α : Type} {t : BM} {m : EM} {i j : Nat} {env : Envr} {S : Sto} {a : AM} (f : α → PyData) {xs : List α} (tf : Nat → α → Bool) (r : Nat → α → PyData) (h : a env S = .ok [.p (.tuple (xs.map f))] S) (hl : xs.length < 1000000)
    (ht : ∀ k x, (k, x) ∈ enF 0 xs → t ((((env.set j none).set i none).set i (some (pI k))).set j (some (.p (f x)))) S = .ok (tf k x) S)
    (hm : ∀ k x, (k, x) ∈ enF 0 xs → tf k x = true → m ((((env.set j none).set i none).set i (some (pI k))).set j (some (.p (f x)))) S = .ok (.p (r k x)) S) :
    eComp false (iEnT a) [i, j] (gT [gN i, gN j]) t m env S = .ok (.p (.list (((enF 0 xs).filter fun q => tf q.1 q.2).map fun q => r q.1 q.2))) S := by
  unfold eComp iEnT
  rw [h]
  show (compLoop yes (gT [gN i, gN j]) t m ((env.set j none).set i none) (numD 0 (xs.map f)) [] S).bind (keptAs false) = _
  rw [numD_enF, comp_by (fun q : Nat × α => D.p (.dict [(.none, .none), (.int (q.1 : Int), f q.2)])) (fun q => r q.1 q.2) (fun q => tf q.1 q.2) rfl (enF 0 xs) [] (by rw [enF_len]; exact big_ok hl) fun q hq => ⟨_, rfl, ht q.1 q.2 hq, fun z => hm q.1 q.2 hq z⟩]
  exact kept_list _ _ S
/-- over a list, numbered -/
theorem comp_enL {α : Type} {t : BM} {m : EM} {i j : Nat} {env : Envr} {S : Sto} {a : AM} (f : α → PyData) {xs : List α} (tf : Nat → α → Bool) (r : Nat → α → PyData) (h : a env S = .ok [.p (.list (xs.map f))] S) (hl : xs.length < 1000000)
    (ht : ∀ k x, (k, x) ∈ enF 0 xs → t ((((env.set j none).set i none).set i (some (pI k))).set j (some (.p (f x)))) S = .ok (tf k x) S)
    (hm : ∀ k x, (k, x) ∈ enF 0 xs → tf k x = true → m ((((env.set j none).set i none).set i (some (pI k))).set j (some (.p (f x)))) S = .ok (.p (r k x)) S) :
    eComp false (iEnL a) [i, j] (gT [gN i, gN j]) t m env S = .ok (.p (.list (((enF 0 xs).filter fun q => tf q.1 q.2).map fun q => r q.1 q.2))) S := by
  unfold eComp iEnL
  rw [h]
  show (compLoop yes (gT [gN i, gN j]) t m ((env.set j none).set i none) (numD 0 (xs.map f)) [] S).bind (keptAs false) = _
  rw [numD_enF, comp_by (fun q : Nat × α => D.p (.dict [(.none, .none), (.int (q.1 : Int), f q.2)])) (fun q => r q.1 q.2) (fun q => tf q.1 q.2) rfl (enF 0 xs) [] (by rw [enF_len]; exact big_ok hl) fun q hq => ⟨_, rfl, ht q.1 q.2 hq, fun z => hm q.1 q.2 hq z⟩]
  exact kept_list _ _ S
/-- over a list -/
theorem comp_L {α : Type} {t : BM} {m : EM} {i : Nat} {env : Envr} {S : Sto} {a : EM} (f : α → PyData) {xs : List α} (tf : α → Bool) (r : α → PyData) (h : a env S = .ok (.p (.list (xs.map f))) S) (hl : xs.length < 1000000)
    (ht : ∀ x ∈ xs, t ((env.set i none).set i (some (.p (f x)))) S = .ok (tf x) S) (hm : ∀ x ∈ xs, tf x = true → m ((env.set i none).set i (some (.p (f x)))) S = .ok (.p (r x)) S) :
    eComp false (iL a) [i] (gN i) t m env S = .ok (.p (.list ((xs.filter tf).map r))) S := by
  unfold eComp iL
  rw [h]
  show (compLoop yes (gN i) t m (env.set i none) ((xs.map f).map D.p) [] S).bind (keptAs false) = _
  rw [List.map_map, comp_by (D.p ∘ f) r tf rfl xs [] (big_ok hl) fun x hx => ⟨_, rfl, ht x hx, fun z => hm x hx z⟩]
  exact kept_list _ _ S

/-! ### a parting as classes -/
def posF (sheet : List Int) (b : Int) : List Int := ((enF 0 sheet).filter fun q => q.2 == b).map fun q => (q.1 : Int)
def clsF (sheet : List Int) : List (List Int) := (List.range (mx sheet + 1).toNat).map fun b : Nat => posF sheet (b : Int)
end Lw

/-! P14 -/
set_option Elab.async false
set_option linter.all false
set_option maxRecDepth 100000
set_option maxHeartbeats 4000000
set_option autoImplicit false
namespace Lw
open PySem PySem.Spec PyProof.Rows L2 Mi
/-! ### in, over ints and over lists of them -/
theorem unw_ints (xs : List Int) : (xs.map PyData.int).map unw1 = xs.map PyData.int := by rw [List.map_map]; rfl
theorem unw_lists (xs : List (List Int)) : (xs.map lI).map unw1 = xs.map lI := by rw [List.map_map]; rfl
theorem any_ints (x : Int) : ∀ xs : List Int, (xs.map PyData.int).any (fun z => PyData.eqv z (.int x)) = decide (x ∈ xs)
  | [] => by simp
  | y :: r => by
    rw [List.map_cons, List.any_cons, any_ints x r]
    show ((y == x) || decide (x ∈ r)) = _
    by_cases h : y = x
    · subst h; simp
    · have h' : ¬ x = y := fun e => h e.symm
      simp [h, h']
theorem any_lists (x : List Int) : ∀ xs : List (List Int), (xs.map lI).any (fun z => PyData.eqv z (lI x)) = decide (x ∈ xs)
  | [] => by simp
  | y :: r => by
    rw [List.map_cons, List.any_cons, any_lists x r]
    show (PyData.eqvAll (y.map .int) (x.map .int) || decide (x ∈ r)) = _
    rw [eqv_ints]
    by_cases h : y = x
    · subst h; simp
    · have h' : ¬ x = y := fun e => h e.symm
      simp [h, h']
theorem shaped_int (x : Int) : SeqAt.shaped (.int x) = true := rfl
theorem lay_lists : ∀ xs : List (List Int), PyData.canLayAll0 (xs.map lI) = true
  | [] => rfl
  | x :: r => by
    show ((lI x).canLay0 && PyData.canLayAll0 (r.map lI)) = true
    rw [lay_lists r, PyData.canLay0, lay_ints]
    rfl
theorem deep_lists : ∀ r : List (List Int), PyData.depthAll (r.map lI) ≤ 2
  | [] => by simp [PyData.depthAll]
  | x :: r => by
    have := deep_lists r
    have := deep_ints x
    simp only [List.map_cons, PyData.depthAll, PyData.depth]
    omega
theorem shaped_lists (xs : List (List Int)) : SeqAt.shaped (.list (xs.map lI)) = true := by
  have := deep_lists xs
  unfold SeqAt.shaped
  rw [PyData.canLay0, lay_lists]
  simp only [PyData.depth, Bool.true_and]
  exact decide_eq_true (by omega)
theorem in_ints (neg : Bool) (x : Int) (xs : List Int) (S : Sto) : inG neg (pI x) (.p (lI xs)) S = .ok (.p (.bool (if neg = true then !decide (x ∈ xs) else decide (x ∈ xs)))) S := by
  show (if SeqAt.shaped (.int x) = true ∧ SeqAt.shaped (.list ((xs.map PyData.int).map unw1)) = true then (Ot.ok (.p (.bool (if neg = true then !((xs.map PyData.int).map unw1).any fun z => PyData.eqv z (.int x) else ((xs.map PyData.int).map unw1).any fun z => PyData.eqv z (.int x)))) S : Ot D) else .bad) = _
  rw [unw_ints, any_ints, if_pos ⟨shaped_int x, shaped_lI xs⟩]
theorem in_lists (neg : Bool) (x : List Int) (xs : List (List Int)) (S : Sto) : inG neg (.p (lI x)) (.p (.list (xs.map lI))) S = .ok (.p (.bool (if neg = true then !decide (x ∈ xs) else decide (x ∈ xs)))) S := by
  show (if SeqAt.shaped (lI x) = true ∧ SeqAt.shaped (.list ((xs.map lI).map unw1)) = true then (Ot.ok (.p (.bool (if neg = true then !((xs.map lI).map unw1).any fun z => PyData.eqv z (lI x) else ((xs.map lI).map unw1).any fun z => PyData.eqv z (lI x)))) S : Ot D) else .bad) = _
  rw [unw_lists, any_lists, if_pos ⟨shaped_lI x, shaped_lists xs⟩]
/-- a loop that folds -/
theorem loop_fold {α γ ε : Type} {chk : Sto → Bool} {g : GM} {body : SM} (c : α → D) (f : γ → α → γ) (E : γ → ε → Envr) (T : γ → Sto) (I : List α → γ → Prop) (hc : ∀ r z, I r z → chk (T z) = true) :
    ∀ (xs : List α) (z : γ) (o : ε), (∀ x r z o, x ∈ xs → I (x :: r) z → ∃ e1 o', g (c x) (E z o) = some e1 ∧ body e1 (T z) = .nx (E (f z x) o') (T (f z x)) ∧ I r (f z x)) → I xs z →
    ∃ o', loop chk g body (xs.map c) (E z o) (T z) = .nx (E (xs.foldl f z) o') (T (xs.foldl f z)) ∧ I [] (xs.foldl f z)
  | [], z, o, _, h => ⟨o, by
    show loop chk g body [] (E z o) (T z) = _
    unfold loop
    rw [if_pos (hc _ _ h)]
    rfl, h⟩
  | x :: r, z, o, st, h => by
    obtain ⟨e1, o', h1, h2, h3⟩ := st x r z o (List.mem_cons_self ..) h
    obtain ⟨o2, q1, q2⟩ := loop_fold c f E T I hc r (f z x) o' (fun y r' z o hy hi => st y r' z o (List.mem_cons_of_mem _ hy) hi) h3
    refine ⟨o2, ?_, q2⟩
    show loop chk g body (c x :: r.map c) (E z o) (T z) = _
    unfold loop
    rw [if_pos (hc _ _ h)]
    simp only [h1, h2]
    exact q1
/-! ### classes run together -/
def bothF (cs : List (List Int)) (one far : Int) : List (List Int) := cs.filter fun c => decide (one ∈ c) || decide (far ∈ c)
def mergedF (cs : List (List Int)) (one far : Int) : List (List Int) := (cs.filter fun c => !decide (c ∈ bothF cs one far)) ++ [sortI (bothF cs one far).flatten]
theorem fold_flat : ∀ (cs : List (List Int)) (z : List Int), cs.foldl (fun z c => z ++ c) z = z ++ cs.flatten
  | [], z => by simp
  | c :: r, z => by
    rw [List.foldl_cons, fold_flat r, List.flatten_cons, List.append_assoc]
theorem add_ll {a b : List PyData} {S : Sto} (h : a.length + b.length < 1000000) : addD (.p (.list a)) (.p (.list b)) S = .ok (.p (.list (a ++ b))) S := by
  show (if a.length + b.length ≤ sizeLine then (Ot.ok (.p (.list (a ++ b))) S : Ot D) else .bad) = _
  rw [if_pos (Nat.le_of_lt (Nat.lt_trans h (by decide)))]
theorem srt_ok {xs : List Int} {S : Sto} (h : xs.length < 64) : srtF [.p (lI xs)] S = .ok (.p (lI (sortI xs))) S := by
  show (match intsOf (xs.map .int) with | some ns => if ns.length < 64 then (Ot.ok (.p (.list ((sortI ns).map .int))) S : Ot D) else .bad | none => .bad) = _
  rw [intsOf_map]
  show (if xs.length < 64 then (Ot.ok (.p (.list ((sortI xs).map .int))) S : Ot D) else .bad) = _
  rw [if_pos h]
theorem lst1 {m : EM} {env : Envr} {S S1 : Sto} {d : PyData} (h : m env S = .ok (.p d) S1) : eLst (aCons m aNil) env S = .ok (.p (.list [d])) S1 := by
  unfold eLst aCons aNil
  simp only [h, Ot.bind, aCons, aNil]
  rfl
end Lw

/-! P15 -/
set_option Elab.async false
set_option linter.all false
set_option maxRecDepth 100000
set_option maxHeartbeats 4000000
set_option autoImplicit false
namespace Lw
open PySem PySem.Spec PyProof.Rows L2 Mi
/-! ### names and their numbers -/
section
variable {α : Type} [DecidableEq α]
def dedF (z : List α) (x : α) : List α := if x ∈ z then z else z ++ [x]
def ded (xs : List α) : List α := xs.foldl dedF []
def pos : List α → α → Nat
  | [], _ => 0
  | y :: r, x => if y = x then 0 else pos r x + 1
theorem pos_app : ∀ {m : List α} (t : List α) {x : α}, x ∈ m → pos (m ++ t) x = pos m x
  | [], _, _, h => by simp at h
  | y :: r, t, x, h => by
    show (if y = x then 0 else pos (r ++ t) x + 1) = if y = x then 0 else pos r x + 1
    by_cases e : y = x
    · rw [if_pos e, if_pos e]
    · rw [if_neg e, if_neg e, pos_app t ((List.mem_cons.mp h).resolve_left fun q => e q.symm)]
theorem pos_new : ∀ {m : List α} {x : α}, x ∉ m → pos (m ++ [x]) x = m.length
  | [], x, _ => by show (if x = x then 0 else _) = _; rw [if_pos rfl]; rfl
  | y :: r, x, h => by
    have e : ¬ y = x := fun q => h (by rw [q]; exact List.mem_cons_self ..)
    show (if y = x then 0 else pos (r ++ [x]) x + 1) = _
    rw [if_neg e, pos_new fun q => h (List.mem_cons_of_mem _ q), List.length_cons]
theorem pos_lt : ∀ {m : List α} {x : α}, x ∈ m → pos m x < m.length
  | [], _, h => by simp at h
  | y :: r, x, h => by
    show (if y = x then 0 else pos r x + 1) < r.length + 1
    by_cases e : y = x
    · rw [if_pos e]; omega
    · rw [if_neg e]
      have := pos_lt ((List.mem_cons.mp h).resolve_left fun q => e q.symm)
      omega
theorem pos_inj : ∀ {m : List α} {x y : α}, x ∈ m → y ∈ m → pos m x = pos m y → x = y
  | [], _, _, h, _, _ => by simp at h
  | z :: r, x, y, hx, hy, h => by
    change (if z = x then 0 else pos r x + 1) = (if z = y then 0 else pos r y + 1) at h
    by_cases e : z = x
    · by_cases e2 : z = y
      · exact e.symm.trans e2
      · rw [if_pos e, if_neg e2] at h
        omega
    · by_cases e2 : z = y
      · rw [if_neg e, if_pos e2] at h
        omega
      · rw [if_neg e, if_neg e2] at h
        exact pos_inj ((List.mem_cons.mp hx).resolve_left fun q => e q.symm) ((List.mem_cons.mp hy).resolve_left fun q => e2 q.symm) (by omega)
theorem ded_snoc (xs : List α) (x : α) : ded (xs ++ [x]) = dedF (ded xs) x := by
  unfold ded
  rw [List.foldl_append]
  rfl
theorem mem_dedF {z : List α} {x y : α} : y ∈ dedF z x ↔ y ∈ z ∨ y = x := by
  unfold dedF
  by_cases h : x ∈ z
  · rw [if_pos h]
    exact ⟨.inl, fun q => q.elim id fun e => by rw [e]; exact h⟩
  · rw [if_neg h, List.mem_append, List.mem_singleton]
/-- lists, by what comes last -/
theorem snoc_ind {P : List α → Prop} (h0 : P []) (h1 : ∀ xs x, P xs → P (xs ++ [x])) (xs : List α) : P xs := by
  have q : ∀ r : List α, P r.reverse := fun r => by
    induction r with
    | nil => exact h0
    | cons a r ih => rw [List.reverse_cons]; exact h1 _ _ ih
  have := q xs.reverse
  rwa [List.reverse_reverse] at this
theorem mem_ded (xs : List α) {y : α} : y ∈ ded xs ↔ y ∈ xs := by
  refine snoc_ind (P := fun xs => y ∈ ded xs ↔ y ∈ xs) Iff.rfl (fun xs x ih => ?_) xs
  rw [ded_snoc, mem_dedF, ih, List.mem_append, List.mem_singleton]
def num (xs : List α) : List Int := xs.map fun x => (pos (ded xs) x : Int)
theorem num_len (xs : List α) : (num xs).length = xs.length := List.length_map ..
theorem dedF_ext (z : List α) (x : α) : ∃ t, dedF z x = z ++ t := by
  unfold dedF
  split
  · exact ⟨[], by simp⟩
  · exact ⟨[x], rfl⟩
theorem num_snoc (xs : List α) (x : α) : num (xs ++ [x]) = num xs ++ [(pos (ded (xs ++ [x])) x : Int)] := by
  unfold num
  rw [List.map_append, List.map_singleton]
  congr 1
  refine List.map_congr_left fun y hy => ?_
  obtain ⟨t, ht⟩ := dedF_ext (ded xs) x
  rw [ded_snoc, ht, pos_app t ((mem_ded xs).mpr hy)]
theorem ded_in {xs : List α} {x : α} (h : x ∈ xs) : ded (xs ++ [x]) = ded xs := by
  rw [ded_snoc]
  unfold dedF
  rw [if_pos ((mem_ded xs).mpr h)]
theorem ded_out {xs : List α} {x : α} (h : x ∉ xs) : ded (xs ++ [x]) = ded xs ++ [x] := by
  rw [ded_snoc]
  unfold dedF
  rw [if_neg fun q => h ((mem_ded xs).mp q)]
theorem num_get {xs : List α} {i : Nat} : (num xs)[i]? = xs[i]?.map fun x => (pos (ded xs) x : Int) := by
  unfold num
  rw [List.getElem?_map]
/-- what has one number has one name -/
theorem num_ker {xs : List α} {i j : Nat} {x y : α} (hi : xs[i]? = some x) (hj : xs[j]? = some y) : ((num xs)[i]? = (num xs)[j]?) ↔ x = y := by
  rw [num_get, num_get, hi, hj]
  constructor
  · intro h
    have h' : (pos (ded xs) x : Int) = (pos (ded xs) y : Int) := by simpa using h
    exact pos_inj ((mem_ded xs).mpr (List.mem_of_getElem? hi)) ((mem_ded xs).mpr (List.mem_of_getElem? hj)) (by omega)
  · rintro rfl; rfl
end
theorem bnd_snoc : ∀ (xs : List Int) (b v : Int), bnd b (xs ++ [v]) = if v + 1 > bnd b xs then v + 1 else bnd b xs
  | [], b, v => rfl
  | x :: r, b, v => bnd_snoc r _ v
section
variable {α β : Type} [DecidableEq α] [DecidableEq β]
theorem num_rg (xs : List α) : rg 0 (num xs) ∧ bnd 0 (num xs) = (ded xs).length := by
  refine snoc_ind (P := fun xs => rg 0 (num xs) ∧ bnd 0 (num xs) = ((ded xs).length : Int)) ⟨trivial, rfl⟩ (fun xs x ih => ?_) xs
  obtain ⟨h1, h2⟩ := ih
  rw [num_snoc, rg_snoc, bnd_snoc, h2]
  by_cases h : x ∈ xs
  · have hl := pos_lt ((mem_ded xs).mpr h)
    rw [ded_in h]
    exact ⟨⟨h1, by omega, by omega⟩, by rw [if_neg (by omega)]⟩
  · rw [ded_out h, pos_new fun q => h ((mem_ded xs).mp q), List.length_append]
    exact ⟨⟨h1, by omega, by omega⟩, by rw [if_pos (by omega)]; rfl⟩
/-- the numbers hang on nothing but which names are alike -/
theorem num_congr (xs : List α) : ∀ ys : List β, xs.length = ys.length → (∀ i j : Nat, i < j → j < xs.length → (xs[i]? = xs[j]? ↔ ys[i]? = ys[j]?)) → num xs = num ys ∧ (ded xs).length = (ded ys).length := by
  refine snoc_ind (P := fun xs => ∀ ys : List β, xs.length = ys.length → (∀ i j : Nat, i < j → j < xs.length → (xs[i]? = xs[j]? ↔ ys[i]? = ys[j]?)) → num xs = num ys ∧ (ded xs).length = (ded ys).length) ?_ (fun xs x ih => ?_) xs
  · intro ys h _
    have : ys = [] := List.length_eq_zero_iff.mp h.symm
    subst this
    exact ⟨rfl, rfl⟩
  · intro ys0 h hk
    obtain ⟨ys, y, rfl⟩ : ∃ ys y, ys0 = ys ++ [y] := by
      rcases List.eq_nil_or_concat ys0 with e | ⟨ys, y, e⟩
      · subst e; simp at h
      · exact ⟨ys, y, by rw [e, List.concat_eq_append]⟩
    rw [List.length_append, List.length_append] at h
    have hl : xs.length = ys.length := by simpa using h
    obtain ⟨e1, e2⟩ := ih ys hl fun i j hij hj => by
      have := hk i j hij (by rw [List.length_append]; omega)
      rwa [List.getElem?_append_left (by omega), List.getElem?_append_left hj, List.getElem?_append_left (by omega), List.getElem?_append_left (by omega)] at this
    have last : ∀ i, i < xs.length → (xs[i]? = some x ↔ ys[i]? = some y) := fun i hi => by
      have := hk i xs.length hi (by rw [List.length_append]; exact Nat.lt_succ_self _)
      rw [last_get (S := xs), hl, last_get (S := ys), List.getElem?_append_left hi, List.getElem?_append_left (by omega : i < ys.length)] at this
      exact this
    rw [num_snoc, num_snoc]
    by_cases hx : x ∈ xs
    · obtain ⟨i, hi, ei⟩ := List.mem_iff_getElem.mp hx
      have gx : xs[i]? = some x := by rw [List.getElem?_eq_getElem hi, ei]
      have gy := (last i hi).mp gx
      have hy := List.mem_of_getElem? gy
      rw [ded_in hx, ded_in hy, e1]
      have a1 : (num xs)[i]? = (num ys)[i]? := by rw [e1]
      rw [num_get, num_get, gx, gy] at a1
      have a2 : (pos (ded xs) x : Int) = (pos (ded ys) y : Int) := by simpa using a1
      rw [a2]
      exact ⟨rfl, e2⟩
    · have hy : y ∉ ys := fun q => by
        obtain ⟨i, hi, ei⟩ := List.mem_iff_getElem.mp q
        exact hx (List.mem_of_getElem? ((last i (by omega)).mpr (by rw [List.getElem?_eq_getElem hi, ei])))
      rw [ded_out hx, ded_out hy, pos_new fun q => hx ((mem_ded xs).mp q), pos_new fun q => hy ((mem_ded ys).mp q), e1, e2, List.length_append, List.length_append, e2]
      exact ⟨rfl, rfl⟩
end
/-- a parting is its own numbers -/
theorem num_self (xs : List Int) : rg 0 xs → num xs = xs ∧ ∀ v : Int, v ∈ xs ↔ 0 ≤ v ∧ v < bnd 0 xs := by
  refine snoc_ind (P := fun xs : List Int => rg 0 xs → num xs = xs ∧ ∀ v : Int, v ∈ xs ↔ 0 ≤ v ∧ v < bnd 0 xs) (fun _ => ⟨rfl, fun v => by simp [bnd]⟩) (fun xs x ih h => ?_) xs
  rw [rg_snoc] at h
  obtain ⟨h1, h2, h3⟩ := h
  obtain ⟨e, m⟩ := ih h1
  have nb := (num_rg xs).2
  rw [e] at nb
  rw [num_snoc, e, bnd_snoc]
  by_cases hx : x ∈ xs
  · obtain ⟨i, hi, ei⟩ := List.mem_iff_getElem.mp hx
    have gx : xs[i]? = some x := by rw [List.getElem?_eq_getElem hi, ei]
    have a : (num xs)[i]? = xs[i]? := by rw [e]
    rw [num_get, gx] at a
    have a2 : (pos (ded xs) x : Int) = x := by simpa using a
    have hb := (m x).mp hx
    refine ⟨by rw [ded_in hx, a2], fun v => ?_⟩
    rw [if_neg (by omega), List.mem_append, m v, List.mem_singleton]
    constructor
    · rintro (q | q)
      · exact q
      · omega
    · exact .inl
  · have hb : x = bnd 0 xs := by
      by_cases q : x < bnd 0 xs
      · exact absurd ((m x).mpr ⟨h2, q⟩) hx
      · omega
    refine ⟨by rw [ded_out hx, pos_new fun q => hx ((mem_ded xs).mp q), ← nb, ← hb], fun v => ?_⟩
    rw [if_pos (by omega), List.mem_append, m v, List.mem_singleton]
    constructor
    · rintro (q | q) <;> omega
    · intro q
      by_cases z : v < bnd 0 xs
      · exact .inl ⟨q.1, z⟩
      · exact .inr (by omega)
end Lw

/-! P16 -/
set_option Elab.async false
set_option linter.all false
set_option maxRecDepth 100000
set_option maxHeartbeats 4000000
set_option autoImplicit false
namespace Lw
open PySem PySem.Spec PyProof.Rows L2 Mi
/-! ### which class a standing is in -/
def hm : List (List Int) → Int → Nat
  | [], _ => 0
  | c :: r, k => if k ∈ c then 0 else hm r k + 1
theorem home_at : ∀ (cs : List (List Int)) (k0 : Nat) (k : Int), (∃ c ∈ cs, k ∈ c) → ∃ t, ((enF k0 cs).filter fun q => decide (k ∈ q.2)).map (fun q => PyData.int (q.1 : Int)) = .int ((k0 + hm cs k : Nat) : Int) :: t
  | [], _, _, h => by simp at h
  | c :: r, k0, k, h => by
    show ∃ t, (((k0, c) :: enF (k0 + 1) r).filter fun q => decide (k ∈ q.2)).map (fun q => PyData.int (q.1 : Int)) = .int ((k0 + (if k ∈ c then 0 else hm r k + 1) : Nat) : Int) :: t
    by_cases e : k ∈ c
    · rw [if_pos e, List.filter_cons_of_pos (by simpa using e)]
      exact ⟨_, rfl⟩
    · rw [if_neg e, List.filter_cons_of_neg (by simpa using e)]
      obtain ⟨c', hc, hk⟩ := h
      obtain ⟨t, ht⟩ := home_at r (k0 + 1) k ⟨c', (List.mem_cons.mp hc).resolve_left (fun q => e (by rw [← q]; exact hk)), hk⟩
      refine ⟨t, ht.trans ?_⟩
      rw [show k0 + 1 + hm r k = k0 + (hm r k + 1) by omega]
/-- classes that have nothing in common, and all standings -/
structure IsC (n : Nat) (cs : List (List Int)) : Prop where
  all : ∀ k : Nat, k < n → ∃ c ∈ cs, (k : Int) ∈ c
  low : ∀ c ∈ cs, ∀ x ∈ c, 0 ≤ x ∧ x < (n : Int)
  apart : cs.Pairwise fun c d => ∀ x ∈ c, x ∉ d
theorem hm_same : ∀ {cs : List (List Int)} {x y : Int}, cs.Pairwise (fun c d => ∀ x ∈ c, x ∉ d) → (∃ c ∈ cs, x ∈ c) → (∃ c ∈ cs, y ∈ c) → (hm cs x = hm cs y ↔ ∃ c ∈ cs, x ∈ c ∧ y ∈ c)
  | [], _, _, _, h, _ => by simp at h
  | c :: r, x, y, ap, hx, hy => by
    obtain ⟨ap1, ap2⟩ := List.pairwise_cons.mp ap
    show (if x ∈ c then 0 else hm r x + 1) = (if y ∈ c then 0 else hm r y + 1) ↔ _
    by_cases ex : x ∈ c
    · rw [if_pos ex]
      by_cases ey : y ∈ c
      · rw [if_pos ey]
        exact ⟨fun _ => ⟨c, List.mem_cons_self .., ex, ey⟩, fun _ => rfl⟩
      · rw [if_neg ey]
        refine ⟨fun h => by omega, ?_⟩
        rintro ⟨d, hd, q1, q2⟩
        rcases List.mem_cons.mp hd with rfl | hd
        · exact absurd q2 ey
        · exact absurd q1 (ap1 d hd x ex)
    · rw [if_neg ex]
      by_cases ey : y ∈ c
      · rw [if_pos ey]
        refine ⟨fun h => by omega, ?_⟩
        rintro ⟨d, hd, q1, q2⟩
        rcases List.mem_cons.mp hd with rfl | hd
        · exact absurd q1 ex
        · exact absurd q2 (ap1 d hd y ey)
      · rw [if_neg ey]
        have rx : ∃ d ∈ r, x ∈ d := by
          obtain ⟨d, hd, q⟩ := hx
          exact ⟨d, (List.mem_cons.mp hd).resolve_left (fun e => ex (by rw [← e]; exact q)), q⟩
        have ry : ∃ d ∈ r, y ∈ d := by
          obtain ⟨d, hd, q⟩ := hy
          exact ⟨d, (List.mem_cons.mp hd).resolve_left (fun e => ey (by rw [← e]; exact q)), q⟩
        have ih := hm_same ap2 rx ry
        constructor
        · intro h
          obtain ⟨d, hd, q⟩ := ih.mp (by omega)
          exact ⟨d, List.mem_cons_of_mem _ hd, q⟩
        · rintro ⟨d, hd, q1, q2⟩
          rcases List.mem_cons.mp hd with rfl | hd
          · exact absurd q1 ex
          · have := ih.mpr ⟨d, hd, q1, q2⟩
            omega
/-! ### cells that hold ints -/
theorem listOf_cell {S : Sto} {i : Nat} {xs : List Int} (h : S[i]? = some (.lst (xs.map pI))) : listOf (.loc i) S = some (xs.map .int) := by
  show (cellL S i).bind plains = _
  rw [cl_of h]
  exact plains_ints xs
theorem in_cell (neg : Bool) (x : Int) {S : Sto} {i : Nat} {xs : List Int} (h : S[i]? = some (.lst (xs.map pI))) : inG neg (pI x) (.loc i) S = .ok (.p (.bool (if neg = true then !decide (x ∈ xs) else decide (x ∈ xs)))) S := by
  have e := listOf_cell h
  show (match listOf (.loc i) S with | some l => if SeqAt.shaped (.int x) = true ∧ SeqAt.shaped (.list (l.map unw1)) = true then (Ot.ok (.p (.bool (if neg = true then !(l.map unw1).any fun z => PyData.eqv z (.int x) else (l.map unw1).any fun z => PyData.eqv z (.int x)))) S : Ot D) else .bad | none => .bad) = _
  rw [e]
  show (if SeqAt.shaped (.int x) = true ∧ SeqAt.shaped (.list ((xs.map PyData.int).map unw1)) = true then (Ot.ok (.p (.bool (if neg = true then !((xs.map PyData.int).map unw1).any fun z => PyData.eqv z (.int x) else ((xs.map PyData.int).map unw1).any fun z => PyData.eqv z (.int x)))) S : Ot D) else .bad) = _
  rw [unw_ints, any_ints, if_pos ⟨shaped_int x, shaped_lI xs⟩]
theorem find_pos : ∀ (xs : List Int) (x : Int), x ∈ xs → (xs.map PyData.int).findIdx? (fun z => PyData.eqv z (.int x)) = some (pos xs x)
  | [], _, h => by simp at h
  | y :: r, x, h => by
    rw [List.map_cons, List.findIdx?_cons]
    have e : PyData.eqv (.int y) (.int x) = decide (y = x) := by
      show (y == x) = _
      by_cases q : y = x
      · subst q; simp
      · simp [q]
    rw [e]
    show _ = some (if y = x then 0 else pos r x + 1)
    by_cases q : y = x
    · simp [q]
    · rw [find_pos r x ((List.mem_cons.mp h).resolve_left fun z => q z.symm)]
      simp [q]
theorem index_cell (x : Int) {S : Sto} {i : Nat} {xs : List Int} (h : S[i]? = some (.lst (xs.map pI))) (hx : x ∈ xs) : indexL (.loc i) (pI x) S = .ok (pI (pos xs x)) S := by
  have e := listOf_cell h
  show (match listOf (.loc i) S with | some l => if SeqAt.shaped (.int x) = true ∧ SeqAt.shaped (.list (l.map unw1)) = true then (match (l.map unw1).findIdx? (fun z => PyData.eqv z (.int x)) with | some j => (Ot.ok (.p (.int (j : Nat))) S : Ot D) | none => .bad) else .bad | none => .bad) = _
  rw [e]
  show (if SeqAt.shaped (.int x) = true ∧ SeqAt.shaped (.list ((xs.map PyData.int).map unw1)) = true then (match ((xs.map PyData.int).map unw1).findIdx? (fun z => PyData.eqv z (.int x)) with | some j => (Ot.ok (.p (.int (j : Nat))) S : Ot D) | none => .bad) else .bad) = _
  rw [unw_ints, if_pos ⟨shaped_int x, shaped_lI xs⟩, find_pos xs x hx]
theorem isLst_cell {S : Sto} {i : Nat} {xs : List Int} (h : S[i]? = some (.lst (xs.map pI))) : isLst (.loc i) S = true := by
  show (listOf (.loc i) S).isSome = true
  rw [listOf_cell h]
  rfl
theorem tup_cell {S : Sto} {i : Nat} {xs : List Int} (h : S[i]? = some (.lst (xs.map pI))) : tupF [.loc i] S = .ok (.p (tI xs)) S := by
  have e : (cellL S i).bind plains = some (xs.map PyData.int) := listOf_cell h
  simp only [tupF, e]
/-! ### told as a sheet -/
def tC (S : Sto) (z : List Int × List Int) : Sto := S ++ [.lst (z.1.map pI), .lst (z.2.map pI)]
theorem tc0 {S : Sto} {z : List Int × List Int} : (tC S z)[S.length]? = some (.lst (z.1.map pI)) := by unfold tC; simp
theorem tc1 {S : Sto} {z : List Int × List Int} : (tC S z)[S.length + 1]? = some (.lst (z.2.map pI)) := by unfold tC; simp
theorem ts0 {S : Sto} {z : List Int × List Int} {a : List Int} : (tC S z).set S.length (.lst (a.map pI)) = tC S (a, z.2) := by
  unfold tC
  rw [List.set_append_right _ _ (Nat.le_refl _), Nat.sub_self]
  rfl
theorem ts1 {S : Sto} {z : List Int × List Int} {a : List Int} : (tC S z).set (S.length + 1) (.lst (a.map pI)) = tC S (z.1, a) := by
  unfold tC
  rw [List.set_append_right _ _ (by omega), show S.length + 1 - S.length = 1 by omega]
  rfl
def tStep (z : List Int × List Int) (h : Int) : List Int × List Int := (z.1 ++ [(pos (dedF z.2 h) h : Int)], dedF z.2 h)
theorem tStep_num (hs : List Int) : hs.foldl tStep ([], []) = (num hs, ded hs) := by
  refine snoc_ind (P := fun hs : List Int => hs.foldl tStep ([], []) = (num hs, ded hs)) rfl (fun xs x ih => ?_) hs
  rw [List.foldl_append, ih, num_snoc, ded_snoc]
  rfl
theorem app_ok {mo m : EM} {env : Envr} {S : Sto} {i : Nat} {xs : List Int} {x : Int} (h1 : mo env S = .ok (.loc i) S) (hc : S[i]? = some (.lst (xs.map pI))) (h2 : m env S = .ok (pI x) S) (hl : xs.length < 1000) :
    sExpr (eApp mo m) env S = .nx env (S.set i (.lst ((xs ++ [x]).map pI))) := by
  have a := app_of hc (by rw [List.length_map]; omega) x
  have c := cell_of hc
  unfold sExpr eApp
  simp only [h1, Ot.bind, c, if_true, h2, a, Ot.then]
  rw [List.map_append]
  rfl
theorem dedF_len {α : Type} [DecidableEq α] (z : List α) (x : α) : (dedF z x).length ≤ z.length + 1 := by
  unfold dedF
  split
  · omega
  · simp
def homes (n : Nat) (cs : List (List Int)) : List Int := (List.range n).map fun k : Nat => ((hm cs (k : Int) : Nat) : Int)
end Lw

/-! P17 -/
set_option Elab.async false
set_option linter.all false
set_option maxRecDepth 100000
set_option maxHeartbeats 4000000
set_option autoImplicit false
namespace Lw
open PySem PySem.Spec PyProof.Rows L2 Mi
/-! ### classes of a parting, and run together: what they are -/
theorem mem_enF {α : Type} : ∀ {xs : List α} {k0 i : Nat} {x : α}, (i, x) ∈ enF k0 xs ↔ ∃ j, xs[j]? = some x ∧ i = k0 + j
  | [], k0, i, x => by simp [enF]
  | y :: r, k0, i, x => by
    show (i, x) ∈ (k0, y) :: enF (k0 + 1) r ↔ _
    rw [List.mem_cons, mem_enF]
    constructor
    · rintro (h | ⟨j, h1, h2⟩)
      · cases h; exact ⟨0, rfl, rfl⟩
      · exact ⟨j + 1, h1, by omega⟩
    · rintro ⟨j, h1, h2⟩
      cases j with
      | zero =>
        left
        have : y = x := by simpa using h1
        rw [this, h2]; rfl
      | succ j => exact .inr ⟨j, h1, by omega⟩
theorem mem_posF {sheet : List Int} {b x : Int} : x ∈ posF sheet b ↔ ∃ k : Nat, sheet[k]? = some b ∧ x = (k : Int) := by
  unfold posF
  rw [List.mem_map]
  constructor
  · rintro ⟨⟨i, v⟩, h, rfl⟩
    rw [List.mem_filter] at h
    obtain ⟨h1, h2⟩ := h
    obtain ⟨j, h3, h4⟩ := mem_enF.mp h1
    have e : v = b := by simpa using h2
    subst e
    exact ⟨j, h3, by show (i : Int) = j; omega⟩
  · rintro ⟨k, h, rfl⟩
    exact ⟨(k, b), List.mem_filter.mpr ⟨mem_enF.mpr ⟨k, h, by omega⟩, by simp⟩, rfl⟩
theorem filt_two {α : Type} (p q r : α → Bool) (h : ∀ x, (r x = (p x || q x)) ∧ ¬ (p x = true ∧ q x = true)) : ∀ L : List α, (L.filter p).length + (L.filter q).length = (L.filter r).length
  | [] => rfl
  | x :: L => by
    have ih := filt_two p q r h L
    obtain ⟨h1, h2⟩ := h x
    simp only [List.filter_cons, h1]
    cases hp : p x <;> cases hq : q x <;> simp_all <;> omega
theorem sum_filt {α : Type} (f : α → Int) (L : List α) : ∀ m : Nat, ((List.range m).map fun b : Nat => (L.filter fun q => f q == (b : Int)).length).sum = (L.filter fun q => decide (0 ≤ f q ∧ f q < (m : Int))).length
  | 0 => by
    rw [List.range_zero]
    show 0 = _
    symm
    rw [List.length_eq_zero_iff, List.filter_eq_nil_iff]
    intro x _
    simp only [decide_eq_true_eq]
    omega
  | m + 1 => by
    rw [List.range_succ, List.map_append, List.sum_append, sum_filt f L m, List.map_singleton, List.sum_singleton]
    refine filt_two _ _ _ (fun x => ⟨?_, ?_⟩) L
    · rw [Bool.eq_iff_iff]
      simp
      omega
    · simp; intro h1 h2; omega
theorem cls_total (sheet : List Int) : (clsF sheet).flatten.length ≤ sheet.length := by
  rw [List.length_flatten]
  unfold clsF
  rw [List.map_map]
  have e : (List.length ∘ fun b : Nat => posF sheet (b : Int)) = fun b : Nat => ((enF 0 sheet).filter fun q => q.2 == (b : Int)).length := by
    funext b
    show (posF sheet (b : Int)).length = _
    unfold posF
    rw [List.length_map]
  rw [e, sum_filt (fun q : Nat × Int => q.2) (enF 0 sheet)]
  exact Nat.le_trans (List.length_filter_le _ _) (Nat.le_of_eq (enF_len 0 sheet))
theorem cls_len {sheet : List Int} {n : Nat} (P : IsP n sheet) (h0 : 0 < n) : (clsF sheet).length ≤ n := by
  have ne : sheet ≠ [] := fun e => by have := P.len; rw [e] at this; simp at this; omega
  have m1 := mx_lt sheet 0 P.up
  rw [bnd_mx ne P.up, P.len] at m1
  unfold clsF
  rw [List.length_map, List.length_range]
  omega
theorem par_low {sheet : List Int} {n k : Nat} {v : Int} (P : IsP n sheet) (h : sheet[k]? = some v) : 0 ≤ v ∧ v ≤ mx sheet := by
  have ne : sheet ≠ [] := fun e => by rw [e] at h; simp at h
  have q := ((num_self sheet P.up).2 v).mp (List.mem_of_getElem? h)
  rw [bnd_mx ne P.up] at q
  omega
theorem cls_C {sheet : List Int} {n : Nat} (P : IsP n sheet) : IsC n (clsF sheet) where
  all k hk := by
    obtain ⟨v, hv⟩ : ∃ v, sheet[k]? = some v := ⟨_, List.getElem?_eq_getElem (by rw [P.len]; exact hk)⟩
    have q := par_low P hv
    refine ⟨posF sheet v, List.mem_map.mpr ⟨v.toNat, List.mem_range.mpr (by omega), ?_⟩, mem_posF.mpr ⟨k, hv, rfl⟩⟩
    show posF sheet (v.toNat : Int) = _
    rw [Int.toNat_of_nonneg q.1]
  low c hc x hx := by
    obtain ⟨b, _, rfl⟩ := List.mem_map.mp hc
    obtain ⟨k, h1, rfl⟩ := mem_posF.mp hx
    have := (List.getElem?_eq_some_iff.mp h1).1
    rw [P.len] at this
    omega
  apart := by
    unfold clsF
    rw [List.pairwise_map]
    refine List.pairwise_lt_range.imp fun {a b} hab x hx hy => ?_
    obtain ⟨k, h1, rfl⟩ := mem_posF.mp hx
    obtain ⟨j, h2, e⟩ := mem_posF.mp hy
    have : k = j := by omega
    subst this
    rw [h1] at h2
    have : (a : Int) = b := by simpa using h2
    omega
/-- standings that are together in classes -/
def rel (cs : List (List Int)) (x y : Nat) : Prop := ∃ c ∈ cs, (x : Int) ∈ c ∧ (y : Int) ∈ c
def ker (xs : List Int) (x y : Nat) : Prop := xs[x]? = xs[y]?
theorem cls_rel {sheet : List Int} {n x y : Nat} (P : IsP n sheet) (hx : x < n) : rel (clsF sheet) x y ↔ ker sheet x y := by
  constructor
  · rintro ⟨c, hc, h1, h2⟩
    obtain ⟨b, _, rfl⟩ := List.mem_map.mp hc
    obtain ⟨k, e1, e2⟩ := mem_posF.mp h1
    obtain ⟨j, e3, e4⟩ := mem_posF.mp h2
    have a : x = k := by omega
    have b : y = j := by omega
    subst a b
    exact e1.trans e3.symm
  · intro h
    obtain ⟨v, hv⟩ : ∃ v, sheet[x]? = some v := ⟨_, List.getElem?_eq_getElem (by rw [P.len]; exact hx)⟩
    have q := par_low P hv
    refine ⟨posF sheet v, List.mem_map.mpr ⟨v.toNat, List.mem_range.mpr (by omega), ?_⟩, mem_posF.mpr ⟨x, hv, rfl⟩, mem_posF.mpr ⟨y, h.symm.trans hv, rfl⟩⟩
    show posF sheet (v.toNat : Int) = _
    rw [Int.toNat_of_nonneg q.1]
theorem mem_insI : ∀ {r : List Int} {x y : Int}, y ∈ insI x r ↔ y = x ∨ y ∈ r
  | [], x, y => by simp [insI]
  | z :: r, x, y => by
    unfold insI
    split
    · simp
    · rw [List.mem_cons, mem_insI, List.mem_cons]
      constructor
      · rintro (h | h | h) <;> simp [h]
      · rintro (h | h | h) <;> simp [h]
theorem mem_sortI : ∀ {r : List Int} {y : Int}, y ∈ sortI r ↔ y ∈ r
  | [], y => by simp [sortI]
  | z :: r, y => by
    show y ∈ insI z (sortI r) ↔ _
    rw [mem_insI, mem_sortI, List.mem_cons]
theorem len_insI : ∀ (r : List Int) (x : Int), (insI x r).length = r.length + 1
  | [], x => rfl
  | z :: r, x => by
    unfold insI
    split
    · rfl
    · rw [List.length_cons, len_insI r x, List.length_cons]
theorem len_sortI : ∀ r : List Int, (sortI r).length = r.length
  | [] => rfl
  | z :: r => by
    show (insI z (sortI r)).length = _
    rw [len_insI, len_sortI r, List.length_cons]
def nearB (one far : Int) (c : List Int) : Bool := decide (one ∈ c) || decide (far ∈ c)
theorem merged_eq (cs : List (List Int)) (one far : Int) : mergedF cs one far = (cs.filter fun c => !nearB one far c) ++ [sortI (cs.filter (nearB one far)).flatten] := by
  unfold mergedF
  congr 1
  refine List.filter_congr fun c hc => ?_
  congr 1
  show decide (c ∈ cs.filter (nearB one far)) = nearB one far c
  rw [Bool.eq_iff_iff, decide_eq_true_iff, List.mem_filter]
  exact ⟨fun h => h.2, fun h => ⟨hc, h⟩⟩
theorem flat_filt (p : List Int → Bool) : ∀ cs : List (List Int), (cs.filter p).flatten.length + (cs.filter fun c => !p c).flatten.length = cs.flatten.length
  | [] => rfl
  | c :: r => by
    have ih := flat_filt p r
    simp only [List.filter_cons]
    cases p c <;> simp [List.length_append] at ih ⊢ <;> omega
theorem merged_total (cs : List (List Int)) (one far : Int) : (mergedF cs one far).flatten.length = cs.flatten.length := by
  rw [merged_eq, List.flatten_append, List.length_append, List.flatten_singleton, len_sortI]
  have := flat_filt (nearB one far) cs
  omega
theorem apart_eq : ∀ {cs : List (List Int)} {c d : List Int} {x : Int}, cs.Pairwise (fun c d => ∀ x ∈ c, x ∉ d) → c ∈ cs → d ∈ cs → x ∈ c → x ∈ d → c = d
  | [], _, _, _, _, h, _, _, _ => by simp at h
  | e :: r, c, d, x, ap, hc, hd, h1, h2 => by
    obtain ⟨a1, a2⟩ := List.pairwise_cons.mp ap
    rcases List.mem_cons.mp hc with e0 | hc'
    · rcases List.mem_cons.mp hd with e1 | hd'
      · rw [e0, e1]
      · rw [e0] at h1
        exact absurd h2 (a1 d hd' x h1)
    · rcases List.mem_cons.mp hd with e1 | hd'
      · rw [e1] at h2
        exact absurd h1 (a1 c hc' x h2)
      · exact apart_eq a2 hc' hd' h1 h2
theorem near_iff {one far : Int} {c : List Int} : nearB one far c = true ↔ one ∈ c ∨ far ∈ c := by
  unfold nearB
  simp
theorem merged_C {n : Nat} {cs : List (List Int)} {one far : Int} (C : IsC n cs) : IsC n (mergedF cs one far) := by
  rw [merged_eq]
  refine ⟨fun k hk => ?_, fun c hc x hx => ?_, ?_⟩
  · obtain ⟨c, hc, h⟩ := C.all k hk
    by_cases q : nearB one far c = true
    · exact ⟨_, List.mem_append_right _ (List.mem_singleton.mpr rfl), mem_sortI.mpr (List.mem_flatten.mpr ⟨c, List.mem_filter.mpr ⟨hc, q⟩, h⟩)⟩
    · exact ⟨c, List.mem_append_left _ (List.mem_filter.mpr ⟨hc, by simpa using q⟩), h⟩
  · rcases List.mem_append.mp hc with h | h
    · exact C.low c (List.mem_filter.mp h).1 x hx
    · rw [List.mem_singleton.mp h, mem_sortI] at hx
      obtain ⟨d, hd, h⟩ := List.mem_flatten.mp hx
      exact C.low d (List.mem_filter.mp hd).1 x h
  · rw [List.pairwise_append]
    refine ⟨C.apart.filter _, List.pairwise_singleton .., fun c hc d hd x hx hy => ?_⟩
    rw [List.mem_singleton.mp hd, mem_sortI] at hy
    obtain ⟨e, he, h⟩ := List.mem_flatten.mp hy
    obtain ⟨c1, c2⟩ := List.mem_filter.mp hc
    obtain ⟨e1, e2⟩ := List.mem_filter.mp he
    rw [apart_eq C.apart c1 e1 hx h] at c2
    rw [e2] at c2
    cases c2
theorem merged_len_any {n : Nat} {cs : List (List Int)} {one : Nat} {far : Int} (C : IsC n cs) (h : one < n) : (mergedF cs one far).length ≤ cs.length := by
  rw [merged_eq, List.length_append, List.length_singleton]
  obtain ⟨c, hc, hk⟩ := C.all one h
  have : (cs.filter fun c => !nearB one far c).length < cs.length := List.length_filter_lt_length_iff_exists.mpr ⟨c, hc, by
    rw [near_iff.mpr (.inl hk)]
    exact Bool.false_ne_true⟩
  omega
def addR (R : Nat → Nat → Prop) (one far x y : Nat) : Prop := R x y ∨ ((R x one ∨ R x far) ∧ (R y one ∨ R y far))
theorem merged_rel {cs : List (List Int)} {one far x y : Nat} : rel (mergedF cs one far) x y ↔ addR (rel cs) one far x y := by
  have nr : ∀ z : Nat, (rel cs z one ∨ rel cs z far) ↔ ∃ c ∈ cs.filter (nearB one far), (z : Int) ∈ c := fun z => by
    constructor
    · rintro (⟨c, hc, h1, h2⟩ | ⟨c, hc, h1, h2⟩)
      · exact ⟨c, List.mem_filter.mpr ⟨hc, near_iff.mpr (.inl h2)⟩, h1⟩
      · exact ⟨c, List.mem_filter.mpr ⟨hc, near_iff.mpr (.inr h2)⟩, h1⟩
    · rintro ⟨c, hc, h1⟩
      obtain ⟨c1, c2⟩ := List.mem_filter.mp hc
      exact (near_iff.mp c2).imp (fun h => ⟨c, c1, h1, h⟩) fun h => ⟨c, c1, h1, h⟩
  unfold addR
  rw [nr, nr, merged_eq]
  constructor
  · rintro ⟨c, hc, h1, h2⟩
    rcases List.mem_append.mp hc with h | h
    · exact .inl ⟨c, (List.mem_filter.mp h).1, h1, h2⟩
    · rw [List.mem_singleton.mp h, mem_sortI] at h1 h2
      obtain ⟨d, hd, q1⟩ := List.mem_flatten.mp h1
      obtain ⟨e, he, q2⟩ := List.mem_flatten.mp h2
      exact .inr ⟨⟨d, hd, q1⟩, e, he, q2⟩
  · rintro (⟨c, hc, h1, h2⟩ | ⟨⟨d, hd, q1⟩, e, he, q2⟩)
    · by_cases q : nearB one far c = true
      · exact ⟨_, List.mem_append_right _ (List.mem_singleton.mpr rfl), mem_sortI.mpr (List.mem_flatten.mpr ⟨c, List.mem_filter.mpr ⟨hc, q⟩, h1⟩), mem_sortI.mpr (List.mem_flatten.mpr ⟨c, List.mem_filter.mpr ⟨hc, q⟩, h2⟩)⟩
      · exact ⟨c, List.mem_append_left _ (List.mem_filter.mpr ⟨hc, by simpa using q⟩), h1, h2⟩
    · exact ⟨_, List.mem_append_right _ (List.mem_singleton.mpr rfl), mem_sortI.mpr (List.mem_flatten.mpr ⟨d, hd, q1⟩), mem_sortI.mpr (List.mem_flatten.mpr ⟨e, he, q2⟩)⟩
end Lw

/-! P18 -/
set_option Elab.async false
set_option linter.all false
set_option maxRecDepth 100000
set_option maxHeartbeats 4000000
set_option autoImplicit false
namespace Lw
open PySem PySem.Spec PyProof.Rows L2 Mi
/-! ### the least relation over both -/
structure Eqv (n : Nat) (E : Nat → Nat → Prop) : Prop where
  re : ∀ x, x < n → E x x
  sy : ∀ x y, E x y → E y x
  tr : ∀ x y z, E x y → E y z → E x z
def Sub (n : Nat) (R E : Nat → Nat → Prop) : Prop := ∀ x y, x < n → y < n → R x y → E x y
theorem ker_eqv (n : Nat) (xs : List Int) : Eqv n (ker xs) := ⟨fun _ _ => rfl, fun _ _ h => h.symm, fun _ _ _ h1 h2 => h1.trans h2⟩
theorem rel_eqv {n : Nat} {cs : List (List Int)} (C : IsC n cs) : Eqv n (rel cs) where
  re x hx := by
    obtain ⟨c, hc, h⟩ := C.all x hx
    exact ⟨c, hc, h, h⟩
  sy x y h := by
    obtain ⟨c, hc, h1, h2⟩ := h
    exact ⟨c, hc, h2, h1⟩
  tr x y z h1 h2 := by
    obtain ⟨c, hc, a1, a2⟩ := h1
    obtain ⟨d, hd, b1, b2⟩ := h2
    have := apart_eq C.apart hc hd a2 b1
    subst this
    exact ⟨c, hc, a1, b2⟩
theorem rel_lt {n : Nat} {cs : List (List Int)} (C : IsC n cs) {x y : Nat} (h : rel cs x y) : x < n ∧ y < n := by
  obtain ⟨c, hc, h1, h2⟩ := h
  have := C.low c hc _ h1
  have := C.low c hc _ h2
  omega
theorem addR_sub {n one far : Nat} {R E : Nat → Nat → Prop} (e : Eqv n E) (h : Sub n R E) (h1 : one < n) (h2 : far < n) (hp : E one far) : Sub n (addR R one far) E := by
  have near : ∀ z, z < n → (R z one ∨ R z far) → E z one := fun z hz q => q.elim (h z one hz h1) fun q => e.tr _ _ _ (h z far hz h2 q) (e.sy _ _ hp)
  rintro x y hx hy (q | ⟨q1, q2⟩)
  · exact h x y hx hy q
  · exact e.tr _ _ _ (near x hx q1) (e.sy _ _ (near y hy q2))
structure IsJ (n : Nat) (s w : List Int) (J : Nat → Nat → Prop) : Prop where
  eqv : Eqv n J
  one : Sub n (ker s) J
  two : Sub n (ker w) J
  least : ∀ E, Eqv n E → Sub n (ker s) E → Sub n (ker w) E → Sub n J E
theorem IsJ.uniq {n : Nat} {s w : List Int} {J J' : Nat → Nat → Prop} (a : IsJ n s w J) (b : IsJ n s w J') {x y : Nat} (hx : x < n) (hy : y < n) : J x y ↔ J' x y :=
  ⟨a.least J' b.eqv b.one b.two x y hx hy, b.least J a.eqv a.one a.two x y hx hy⟩
theorem IsJ.swap {n : Nat} {s w : List Int} {J : Nat → Nat → Prop} (a : IsJ n s w J) : IsJ n w s J := ⟨a.eqv, a.two, a.one, fun E e h1 h2 => a.least E e h2 h1⟩
/-! ### the law's classes, run together -/
structure Iv (n : Nat) (cs : List (List Int)) : Prop where
  C : IsC n cs
  len : cs.length ≤ 8
  tot : cs.flatten.length ≤ 8
theorem Iv.merged {n : Nat} {cs : List (List Int)} (v : Iv n cs) {a : Nat} (far : Int) (h : a < n) : Iv n (mergedF cs a far) :=
  ⟨merged_C v.C, Nat.le_trans (merged_len_any v.C h) v.len, by rw [merged_total]; exact v.tot⟩
structure Iw (n : Nat) (s w : List Int) (cs : List (List Int)) : Prop where
  v : Iv n cs
  one : Sub n (ker s) (rel cs)
  least : ∀ E, Eqv n E → Sub n (ker s) E → Sub n (ker w) E → Sub n (rel cs) E
def mergeAll (cs : List (List Int)) (c : List Int) : List (List Int) := c.tail.foldl (fun cs k => mergedF cs (c.headD 0) k) cs
theorem inner_w {n : Nat} {s w : List Int} {a : Nat} (ha : a < n) : ∀ (r : List Int) (cs : List (List Int)), Iw n s w cs → (∀ k ∈ r, ∃ j : Nat, k = (j : Int) ∧ j < n ∧ ker w a j) →
    Iw n s w (r.foldl (fun cs k => mergedF cs a k) cs) ∧ (∀ x y, rel cs x y → rel (r.foldl (fun cs k => mergedF cs a k) cs) x y) ∧ ∀ j : Nat, (j : Int) ∈ r → rel (r.foldl (fun cs k => mergedF cs a k) cs) a j
  | [], cs, v, _ => ⟨v, fun _ _ h => h, fun j h => by simp at h⟩
  | k :: r, cs, v, h => by
    obtain ⟨j, rfl, hj, hw⟩ := h k (List.mem_cons_self ..)
    have v1 : Iw n s w (mergedF cs a j) := ⟨v.v.merged _ ha, fun x y hx hy q => merged_rel.mpr (.inl (v.one x y hx hy q)), fun E e h1 h2 => fun x y hx hy q => addR_sub e (v.least E e h1 h2) ha hj (h2 a j ha hj hw) x y hx hy (merged_rel.mp q)⟩
    obtain ⟨q1, q2, q3⟩ := inner_w ha r (mergedF cs a j) v1 fun k hk => h k (List.mem_cons_of_mem _ hk)
    refine ⟨q1, fun x y q => q2 x y (merged_rel.mpr (.inl q)), fun i hi => ?_⟩
    rcases List.mem_cons.mp hi with e | hi
    · have e' : i = j := by omega
      subst e'
      exact q2 _ _ (merged_rel.mpr (.inr ⟨.inl ((rel_eqv v.v.C).re a ha), .inr ((rel_eqv v.v.C).re i hj)⟩))
    · exact q3 i hi
theorem all_w {n : Nat} {s w : List Int} {c : List Int} {cs : List (List Int)} (v : Iw n s w cs) (hl : ∀ x ∈ c, 0 ≤ x ∧ x < (n : Int)) (hw : ∀ x y : Nat, (x : Int) ∈ c → (y : Int) ∈ c → ker w x y) :
    Iw n s w (mergeAll cs c) ∧ (∀ x y, rel cs x y → rel (mergeAll cs c) x y) ∧ ∀ x y : Nat, (x : Int) ∈ c → (y : Int) ∈ c → rel (mergeAll cs c) x y := by
  cases c with
  | nil => exact ⟨v, fun _ _ h => h, fun x y h => by simp at h⟩
  | cons a r =>
    obtain ⟨a0, a1⟩ := hl a (List.mem_cons_self ..)
    obtain ⟨b, rfl⟩ : ∃ b : Nat, a = (b : Int) := ⟨a.toNat, by omega⟩
    have hb : b < n := by omega
    obtain ⟨q1, q2, q3⟩ := inner_w hb r cs v fun k hk => by
      obtain ⟨k0, k1⟩ := hl k (List.mem_cons_of_mem _ hk)
      refine ⟨k.toNat, by omega, by omega, hw b k.toNat (List.mem_cons_self ..) ?_⟩
      rw [Int.toNat_of_nonneg k0]
      exact List.mem_cons_of_mem _ hk
    have e := rel_eqv q1.v.C
    have st : ∀ x : Nat, (x : Int) ∈ ((b : Int) :: r) → rel (r.foldl (fun cs k => mergedF cs b k) cs) b x := fun x hx => by
      rcases List.mem_cons.mp hx with h | h
      · have : x = b := by omega
        subst this
        exact e.re x hb
      · exact q3 x h
    exact ⟨q1, q2, fun x y hx hy => e.tr _ _ _ (e.sy _ _ (st x hx)) (st y hy)⟩
theorem outer_w {n : Nat} {s w : List Int} : ∀ (L : List (List Int)) (cs : List (List Int)), Iw n s w cs → (∀ c ∈ L, (∀ x ∈ c, 0 ≤ x ∧ x < (n : Int)) ∧ ∀ x y : Nat, (x : Int) ∈ c → (y : Int) ∈ c → ker w x y) →
    Iw n s w (L.foldl mergeAll cs) ∧ (∀ x y, rel cs x y → rel (L.foldl mergeAll cs) x y) ∧ ∀ x y, rel L x y → rel (L.foldl mergeAll cs) x y
  | [], cs, v, _ => ⟨v, fun _ _ h => h, fun x y h => by obtain ⟨c, hc, _⟩ := h; simp at hc⟩
  | c :: L, cs, v, h => by
    obtain ⟨h1, h2⟩ := h c (List.mem_cons_self ..)
    obtain ⟨q1, q2, q3⟩ := all_w v h1 h2
    obtain ⟨r1, r2, r3⟩ := outer_w L (mergeAll cs c) q1 fun d hd => h d (List.mem_cons_of_mem _ hd)
    refine ⟨r1, fun x y q => r2 x y (q2 x y q), fun x y q => ?_⟩
    obtain ⟨d, hd, x1, y1⟩ := q
    rcases List.mem_cons.mp hd with e | hd
    · rw [e] at x1 y1
      exact r2 x y (q3 x y x1 y1)
    · exact r3 x y ⟨d, hd, x1, y1⟩
def joinC (s w : List Int) : List (List Int) := (clsF w).foldl mergeAll (clsF s)
theorem cls_v {s : List Int} {n : Nat} (P : IsP n s) (h0 : 0 < n) (hn : n ≤ 8) : Iv n (clsF s) :=
  ⟨cls_C P, Nat.le_trans (cls_len P h0) hn, Nat.le_trans (cls_total s) (by rw [P.len]; exact hn)⟩
theorem cls_of {w : List Int} {n : Nat} (P : IsP n w) : ∀ c ∈ clsF w, (∀ x ∈ c, 0 ≤ x ∧ x < (n : Int)) ∧ ∀ x y : Nat, (x : Int) ∈ c → (y : Int) ∈ c → ker w x y := fun c hc =>
  ⟨(cls_C P).low c hc, fun x y hx hy => (cls_rel P (rel_lt (cls_C P) ⟨c, hc, hx, hy⟩).1).mp ⟨c, hc, hx, hy⟩⟩
theorem joinC_J {s w : List Int} {n : Nat} (P : IsP n s) (Q : IsP n w) (h0 : 0 < n) (hn : n ≤ 8) : Iv n (joinC s w) ∧ IsJ n s w (rel (joinC s w)) := by
  have v0 : Iw n s w (clsF s) := ⟨cls_v P h0 hn, fun x y hx _ h => (cls_rel P hx).mpr h, fun E _ h1 _ x y hx hy h => h1 x y hx hy ((cls_rel P hx).mp h)⟩
  obtain ⟨q1, _, q3⟩ := outer_w (clsF w) (clsF s) v0 (cls_of Q)
  exact ⟨q1.v, rel_eqv q1.v.C, q1.one, fun x y hx _ h => q3 x y ((cls_rel Q hx).mpr h), q1.least⟩
/-- its numbers -/
theorem homes_ker {n x y : Nat} {cs : List (List Int)} (C : IsC n cs) (hx : x < n) (hy : y < n) : (homes n cs)[x]? = (homes n cs)[y]? ↔ rel cs x y := by
  unfold homes
  rw [List.getElem?_map, List.getElem?_map, List.getElem?_range hx, List.getElem?_range hy]
  have := hm_same C.apart (C.all x hx) (C.all y hy)
  constructor
  · intro h
    refine this.mp ?_
    have h' : ((hm cs (x : Int) : Nat) : Int) = ((hm cs (y : Int) : Nat) : Int) := by simpa using h
    omega
  · intro h
    rw [Option.map_some, Option.map_some, this.mpr h]
end Lw

/-! P19 -/
set_option Elab.async false
set_option linter.all false
set_option maxRecDepth 100000
set_option maxHeartbeats 4000000
set_option autoImplicit false
namespace Lw
open PySem PySem.Spec PyProof.Rows L2 Mi
/-! ### the law's join, reckoned -/
abbrev llI (cs : List (List Int)) : PyData := .list (cs.map lI)
theorem cut_tail {α : Type} (xs : List α) : cutL xs (some 1) none = xs.tail := by
  unfold cutL
  rw [HT.sIx_none, show (1 : Int) = ((1 : Nat) : Int) from rfl, HT.sIx_nat]
  cases xs with
  | nil => rfl
  | cons a r =>
    have : min 1 (a :: r).length = 1 := by simp
    rw [this]
    show r.take ((a :: r).length - 1) = r
    exact List.take_of_length_le (by simp)
end Lw

/-! P20 -/
set_option Elab.async false
set_option linter.all false
set_option maxRecDepth 100000
set_option maxHeartbeats 4000000
set_option autoImplicit false
namespace Lw
open PySem PySem.Spec PyProof.Rows L2 Mi
/-! ### loops that may end early -/
theorem loop_all {α ε : Type} {chk : Sto → Bool} {g : GM} {body : SM} {S : Sto} (c : α → D) (E : ε → Envr) (t : α → Prop) (v : D) (hc : chk S = true) :
    ∀ (xs : List α) (o : ε), (∀ x ∈ xs, ∀ o, ∃ e1, g (c x) (E o) = some e1 ∧ ((t x ∧ ∃ o', body e1 S = .nx (E o') S) ∨ (¬ t x ∧ body e1 S = .rt v S))) →
    (∃ o', loop chk g body (xs.map c) (E o) S = .nx (E o') S ∧ ∀ x ∈ xs, t x) ∨ (loop chk g body (xs.map c) (E o) S = .rt v S ∧ ∃ x ∈ xs, ¬ t x)
  | [], o, _ => .inl ⟨o, by
    show loop chk g body [] (E o) S = _
    unfold loop
    rw [if_pos hc], fun x h => by simp at h⟩
  | x :: r, o, h => by
    obtain ⟨e1, h1, h2⟩ := h x (List.mem_cons_self ..) o
    have un : loop chk g body ((x :: r).map c) (E o) S = match body e1 S with | .nx e' S' => loop chk g body (r.map c) e' S' | .ct e' S' => loop chk g body (r.map c) e' S' | .bk e' S' => .nx e' S' | o => o := by
      show loop chk g body (c x :: r.map c) (E o) S = _
      conv => lhs; unfold loop
      rw [if_pos hc]
      simp only [h1]
      all_goals (cases body e1 S <;> rfl)
    rcases h2 with ⟨ht, o', h2⟩ | ⟨ht, h2⟩
    · rw [h2] at un
      rcases loop_all c E t v hc r o' fun y hy => h y (List.mem_cons_of_mem _ hy) with ⟨o2, q1, q2⟩ | ⟨q1, y, hy, q2⟩
      · refine .inl ⟨o2, un.trans q1, fun y hy => ?_⟩
        rcases List.mem_cons.mp hy with e | hy
        · rw [e]; exact ht
        · exact q2 y hy
      · exact .inr ⟨un.trans q1, y, List.mem_cons_of_mem _ hy, q2⟩
    · rw [h2] at un
      exact .inr ⟨un, x, List.mem_cons_self .., ht⟩
theorem ix_nat {xs : List Int} {k : Nat} {x : Int} (h : xs[k]? = some x) : atI (xs.map PyData.int) (k : Int) = some (.int x) := by
  have q := (List.getElem?_eq_some_iff.mp h).1
  unfold atI ixN
  rw [if_pos (by omega), if_pos (by rw [List.length_map]; omega)]
  show (xs.map PyData.int)[(k : Int).toNat]? = _
  rw [Int.toNat_natCast, List.getElem?_map, h]
  rfl
theorem ix_T {xs : List Int} {k : Nat} {x : Int} {S : Sto} (h : xs[k]? = some x) : ixD (.p (tI xs)) (pI k) S = .ok (pI x) S := by
  show (match atI (xs.map PyData.int) (k : Int) with | some d => (Ot.ok (.p d) S : Ot D) | none => .bad) = _
  rw [ix_nat h]
theorem ix_L {xs : List Int} {k : Nat} {x : Int} {S : Sto} (h : xs[k]? = some x) : ixD (.p (lI xs)) (pI k) S = .ok (pI x) S := by
  show (match atI (xs.map PyData.int) (k : Int) with | some d => (Ot.ok (.p d) S : Ot D) | none => .bad) = _
  rw [ix_nat h]
theorem get_is {xs : List Int} {n k : Nat} (h : xs.length = n) (hk : k < n) : ∃ x, xs[k]? = some x := ⟨_, List.getElem?_eq_getElem (by omega)⟩
/-! ### finer -/
instance (xs : List Int) (x y : Nat) : Decidable (ker xs x y) := inferInstanceAs (Decidable (xs[x]? = xs[y]?))
theorem if_rt {t : BM} {a b : SM} {env : Envr} {S S1 : Sto} (h : t env S = .ok true S1) : sIf t a b env S = a env S1 := by
  unfold sIf
  rw [h]
  rfl
theorem if_no {t : BM} {a b : SM} {env : Envr} {S S1 : Sto} (h : t env S = .ok false S1) : sIf t a b env S = b env S1 := by
  unfold sIf
  rw [h]
  rfl
theorem sSeq_rt {a b : SM} {env : Envr} {S S1 : Sto} {d : D} (h : a env S = .rt d S1) : sSeq a b env S = .rt d S1 := by
  unfold sSeq
  rw [h]
theorem fin_iff {s w : List Int} {n : Nat} : (∀ a, a < n → ∀ b, b < a → ker s b a → ker w a b) ↔ Sub n (ker s) (ker w) := by
  constructor
  · intro h x y hx hy q
    rcases Nat.lt_trichotomy x y with e | e | e
    · exact (h y hy x e q).symm
    · rw [e]; rfl
    · exact h x hx y e q.symm
  · intro h a ha b hb q
    exact (h b a (by omega) ha q).symm
end Lw

/-! P21 -/
set_option Elab.async false
set_option linter.all false
set_option maxRecDepth 100000
set_option maxHeartbeats 4000000
set_option autoImplicit false
namespace Lw
open PySem PySem.Spec PyProof.Rows L2 Mi
/-! ### names and their numbers in a dict -/
section
variable {α κ : Type} [DecidableEq α] [DecidableEq κ] (kf : α → κ)
def kdsF : Nat → List α → List (κ × D)
  | _, [] => []
  | k, x :: r => (kf x, pI (k : Nat)) :: kdsF (k + 1) r
theorem kds_len : ∀ (k : Nat) (z : List α), (kdsF kf k z).length = z.length
  | _, [] => rfl
  | k, x :: r => by
    show (kdsF kf (k + 1) r).length + 1 = r.length + 1
    rw [kds_len]
theorem kds_snoc (x : α) : ∀ (k : Nat) (z : List α), kdsF kf k z ++ [(kf x, pI ((k + z.length : Nat)))] = kdsF kf k (z ++ [x])
  | _, [] => rfl
  | k, y :: r => by
    show (kf y, pI (k : Nat)) :: (kdsF kf (k + 1) r ++ [(kf x, pI ((k + (r.length + 1) : Nat)))]) = (kf y, pI (k : Nat)) :: kdsF kf (k + 1) (r ++ [x])
    rw [← kds_snoc x (k + 1) r, show k + 1 + r.length = k + (r.length + 1) by omega]
theorem kds_val (inj : ∀ a b, kf a = kf b → a = b) (x : α) : ∀ (k : Nat) (z : List α), dval (kdsF kf k z) (kf x) = if x ∈ z then some (pI ((k + pos z x : Nat))) else none
  | _, [] => by simp [kdsF, dval]
  | k, y :: r => by
    have ih := kds_val inj x (k + 1) r
    unfold dval at ih ⊢
    show ((kdsF kf k (y :: r)).find? fun q => decide (q.1 = kf x)).map (·.2) = _
    show (((kf y, pI (k : Nat)) :: kdsF kf (k + 1) r).find? fun q => decide (q.1 = kf x)).map (·.2) = if x ∈ y :: r then some (pI ((k + (if y = x then 0 else pos r x + 1) : Nat))) else none
    by_cases e : y = x
    · subst e
      simp
    · have e2 : ¬ kf y = kf x := fun q => e (inj _ _ q)
      have e3 : ¬ x = y := fun q => e q.symm
      rw [List.find?_cons_of_neg (by simpa using e2), ih]
      by_cases h : x ∈ r
      · rw [if_pos h, if_pos (List.mem_cons_of_mem _ h), if_neg e, show k + 1 + pos r x = k + (pos r x + 1) by omega]
      · rw [if_neg h, if_neg (by simp [e3, h])]
theorem kds_any (inj : ∀ a b, kf a = kf b → a = b) (x : α) : ∀ (k : Nat) (z : List α), x ∉ z → ((kdsF kf k z).any fun q => decide (q.1 = kf x)) = false
  | _, [], _ => rfl
  | k, y :: r, h => by
    show (decide (kf y = kf x) || (kdsF kf (k + 1) r).any fun q => decide (q.1 = kf x)) = false
    rw [kds_any inj x (k + 1) r fun q => h (List.mem_cons_of_mem _ q), decide_eq_false fun q => h (by rw [← inj _ _ q]; exact List.mem_cons_self ..)]
    rfl
theorem kds_put (inj : ∀ a b, kf a = kf b → a = b) {x : α} {z : List α} (h : x ∉ z) : dput (kdsF kf 0 z) (kf x) (pI (z.length : Nat)) = kdsF kf 0 (z ++ [x]) := by
  unfold dput
  rw [if_neg (by rw [kds_any kf inj x 0 z h]; exact Bool.false_ne_true), ← kds_snoc, Nat.zero_add]
end
/-- the numbering, whatever the names are -/
theorem numb_ok {α : Type} [DecidableEq α] {din dg : D → D → Sto → Ot D} {en : EM} {dp : SM} (c : α → PyData) (C : List α → Cell) {S : Sto} {xs : List α} (hl : xs.length < 1000)
    (hn : ∀ env, en env S = .ok (.loc S.length) (S ++ [C []]))
    (hdin : ∀ z x, din (.p (c x)) (.loc S.length) (S ++ [C z]) = .ok (.p (.bool (!decide (x ∈ z)))) (S ++ [C z]))
    (hdp : ∀ z x, x ∉ z → z.length < 1000 → dp [some (.p (.list (xs.map c))), some (.loc S.length), some (.p (c x))] (S ++ [C z]) = .nx [some (.p (.list (xs.map c))), some (.loc S.length), some (.p (c x))] (S ++ [C (z ++ [x])]))
    (hdg : ∀ z x, x ∈ z → dg (.loc S.length) (.p (c x)) (S ++ [C z]) = .ok (pI (pos z x : Nat)) (S ++ [C z])) :
    fnM false 1 3 (sSeq (sAsg en (gN 1)) (sSeq (sFor (iL (eVar 0)) (gN 2) (sIf (bOf (eOp din (eVar 2) (eVar 1))) dp sNx)) (sRet (eCall tupF (aCons (eComp false (iL (eVar 0)) [2] (gN 2) bYes (eOp dg (eVar 1) (eVar 2))) aNil))))) [.p (.list (xs.map c))] S = .ok (.p (tI (num xs))) S := by
  obtain ⟨o, s2, _⟩ := loop_fold (chk := yes) (g := gN 2) (body := sIf (bOf (eOp din (eVar 2) (eVar 1))) dp sNx) (fun x : α => D.p (c x)) dedF (fun (_ : List α) (o : Option D) => [some (.p (.list (xs.map c))), some (.loc S.length), o]) (fun z => S ++ [C z]) (fun r z => z.length + r.length < 1000) (fun _ _ _ => rfl)
    xs [] none (fun x r z o _ h => by
      have h' : z.length + (r.length + 1) < 1000 := h
      refine ⟨_, some (.p (c x)), rfl, ?_, ?_⟩
      · show sIf (bOf (eOp din (eVar 2) (eVar 1))) dp sNx [some (.p (.list (xs.map c))), some (.loc S.length), some (.p (c x))] (S ++ [C z]) = _
        have t : bOf (eOp din (eVar 2) (eVar 1)) [some (.p (.list (xs.map c))), some (.loc S.length), some (.p (c x))] (S ++ [C z]) = .ok (!decide (x ∈ z)) (S ++ [C z]) := by
          have a := hdin z x
          simp only [List.length_cons, List.length_nil, List.map_cons, List.map_nil, List.replicate, List.cons_append, List.nil_append, List.getElem?_cons_zero, List.getElem?_cons_succ, List.set_cons_zero, List.set_cons_succ, sSeq, sIf, sAsg, sRet, sPar, sDput, sNx, sExpr, eOp, eUn, eVar, eC, eCall, eTup, eLst, eIf, aCons, aNil, bOf, bNot, bAnd, bOr, eB, eAnd, eOr, gN, Ot.bind, Ot.then, cmpI, toB, modD, divD, mulD, subD, int2, addD, intF, lenF, max2F, min2F, decide_true, decide_false, if_true, if_false, Bool.false_eq_true, ite_true, ite_false, Bool.not_true, Bool.not_false, decide_eq_true_eq, Nat.reduceSub, Nat.reduceAdd, Nat.reduceEqDiff, fin, take_len, plains, mkTup, mkLst, reduceCtorEq, and_self, and_true, true_and, Bool.or_true, Bool.true_or, a]
        unfold dedF
        by_cases q : x ∈ z
        · rw [decide_eq_true q] at t
          rw [if_pos q]
          exact if_no t
        · rw [decide_eq_false q] at t
          rw [if_neg q]
          exact (if_rt t).trans (hdp z x q (by omega))
      · have := dedF_len z x
        show (dedF z x).length + r.length < 1000
        omega) (by simpa using hl)
  have s2' : sFor (iL (eVar 0)) (gN 2) (sIf (bOf (eOp din (eVar 2) (eVar 1))) dp sNx) [some (.p (.list (xs.map c))), some (.loc S.length), none] (S ++ [C []]) = .nx [some (.p (.list (xs.map c))), some (.loc S.length), o] (S ++ [C (ded xs)]) := by
    rw [sFor_LL (l := xs.map c) rfl, List.map_map]
    exact s2
  have y : eComp false (iL (eVar 0)) [2] (gN 2) bYes (eOp dg (eVar 1) (eVar 2)) [some (.p (.list (xs.map c))), some (.loc S.length), o] (S ++ [C (ded xs)]) = .ok (.p (lI (num xs))) (S ++ [C (ded xs)]) := by
    refine (comp_L (i := 2) c (fun _ => true) (fun x => PyData.int (pos (ded xs) x : Nat)) rfl (by omega) (fun _ _ => rfl) (fun x hx _ => ?_)).trans ?_
    · show eOp dg (eVar 1) (eVar 2) [some (.p (.list (xs.map c))), some (.loc S.length), some (.p (c x))] (S ++ [C (ded xs)]) = _
      exact op2 rfl rfl (hdg (ded xs) x ((mem_ded xs).mpr hx))
    · rw [filt_all]
      unfold num
      show _ = Ot.ok (D.p (.list ((xs.map fun x => (pos (ded xs) x : Int)).map .int))) _
      rw [List.map_map]
      rfl
  have s1 : sAsg en (gN 1) [some (.p (.list (xs.map c))), none, none] S = .nx [some (.p (.list (xs.map c))), some (.loc S.length), none] (S ++ [C []]) := asg_ok (hn _) rfl
  exact (fnM_rt (b := false) (n := 1) (all := 3) (ds := [.p (.list (xs.map c))]) rfl ((sSeq_nx s1).trans ((sSeq_nx s2').trans (ret_ok (call1 y rfl))))).trans (by unfold fin; rw [List.take_left])
end Lw

/-! P22 -/
set_option Elab.async false
set_option linter.all false
set_option maxRecDepth 100000
set_option maxHeartbeats 4000000
set_option autoImplicit false
namespace Lw
open PySem PySem.Spec PyProof.Rows L2 Mi
theorem some_dec {α : Type} (p : Prop) [Decidable p] (v : α) : (if p then some v else none).isSome = decide p := by
  by_cases h : p
  · rw [if_pos h, decide_eq_true h]; rfl
  · rw [if_neg h, decide_eq_false h]; rfl
abbrev pD (q : Int × Int) : PyData := .dict [(.none, .none), (.int q.1, .int q.2)]
def kP2 (q : Int × Int) : List Key := [.inl q.1, .inl q.2]
end Lw

/-! P26 -/
set_option Elab.async false
set_option linter.all false
set_option maxRecDepth 100000
set_option maxHeartbeats 4000000
set_option autoImplicit false
namespace Lw
open PySem PySem.Spec PyProof.Rows L2 Mi
/-! ### two drawn partings -/
theorem par_ok {i j : Nat} {m1 m2 : EM} {env : Envr} {S S1 S2 : Sto} {d1 d2 : D} (h1 : m1 env S = .ok d1 S1) (h2 : m2 env S1 = .ok d2 S2) : sPar i j (aCons m1 (aCons m2 aNil)) env S = .nx ((env.set i (some d1)).set j (some d2)) S2 := by
  unfold sPar aCons aNil
  simp only [h1, h2, Ot.bind, aCons, aNil, Ot.then]
theorem homes_len (n : Nat) (cs : List (List Int)) : (homes n cs).length = n := by unfold homes; rw [List.length_map, List.length_range]
/-! ### all sheets of up to four -/
def longF (z : List (List Int)) (row : List Int) : List (List Int) := z ++ (List.range (mx row + 2).toNat).map fun h : Nat => row ++ [(h : Int)]
theorem row_long {k : Nat} {row : List Int} (P : IsP k row) (h0 : 0 < k) {h : Nat} (hh : h < (mx row + 2).toNat) : IsP (k + 1) (row ++ [(h : Int)]) := by
  have ne : row ≠ [] := fun e => by have := P.len; rw [e] at this; simp at this; omega
  refine ⟨by rw [List.length_append, P.len]; rfl, (rg_snoc row 0 h).mpr ⟨P.up, by omega, ?_⟩⟩
  rw [bnd_mx ne P.up]
  have := mx_pos ne P.up
  omega
theorem mx_small {k : Nat} {row : List Int} (P : IsP k row) (h0 : 0 < k) : 0 ≤ mx row ∧ mx row + 1 ≤ (k : Int) := by
  have ne : row ≠ [] := fun e => by have := P.len; rw [e] at this; simp at this; omega
  have m0 := mx_pos ne P.up
  have m1 := mx_lt row 0 P.up
  rw [bnd_mx ne P.up, P.len] at m1
  omega
end Lw

/-! P27 -/
set_option Elab.async false
set_option linter.all false
set_option maxRecDepth 100000
set_option maxHeartbeats 4000000
set_option autoImplicit false
namespace Lw
open PySem PySem.Spec PyProof.Rows L2 Mi
theorem long_len {z : List (List Int)} {row : List Int} {k : Nat} (P : IsP k row) (h0 : 0 < k) (hk : k ≤ 5) : (longF z row).length ≤ z.length + 6 := by
  have := mx_small P h0
  unfold longF
  rw [List.length_append, List.length_map, List.length_range]
  omega
theorem long_mem {x : List Int} : ∀ (rows z : List (List Int)), x ∈ rows.foldl longF z ↔ x ∈ z ∨ ∃ row ∈ rows, ∃ h : Nat, h < (mx row + 2).toNat ∧ x = row ++ [(h : Int)]
  | [], z => by simp
  | row :: rows, z => by
    rw [List.foldl_cons, long_mem rows]
    unfold longF
    rw [List.mem_append, List.mem_map]
    constructor
    · rintro ((h | ⟨h, h1, rfl⟩) | ⟨r, hr, h⟩)
      · exact .inl h
      · exact .inr ⟨row, List.mem_cons_self .., h, List.mem_range.mp h1, rfl⟩
      · exact .inr ⟨r, List.mem_cons_of_mem _ hr, h⟩
    · rintro (h | ⟨r, hr, h, h1, h2⟩)
      · exact .inl (.inl h)
      · rcases List.mem_cons.mp hr with rfl | hr
        · exact .inl (.inr ⟨h, List.mem_range.mpr h1, h2.symm⟩)
        · exact .inr ⟨r, hr, h, h1, h2⟩
theorem long_all {rows : List (List Int)} {k : Nat} {x : List Int} (h0 : 0 < k) (all : ∀ y, IsP k y → y ∈ rows) (P : IsP (k + 1) x) : x ∈ rows.foldl longF [] := by
  obtain ⟨r, v, rfl⟩ : ∃ r v, x = r ++ [v] := by
    rcases List.eq_nil_or_concat x with e | ⟨r, v, e⟩
    · have := P.len; rw [e] at this; simp at this
    · exact ⟨r, v, by rw [e, List.concat_eq_append]⟩
  have ln := P.len
  rw [List.length_append] at ln
  obtain ⟨u1, u2, u3⟩ := (rg_snoc r 0 v).mp P.up
  have Pr : IsP k r := ⟨by simpa using ln, u1⟩
  have ne : r ≠ [] := fun e => by have := Pr.len; rw [e] at this; simp at this; omega
  rw [bnd_mx ne u1] at u3
  have := mx_pos ne u1
  refine (long_mem rows []).mpr (.inr ⟨r, all r Pr, v.toNat, by omega, by rw [Int.toNat_of_nonneg u2]⟩)
def sheetsL (n : Nat) : List (List Int) := (List.range (n - 1)).foldl (fun (rows : List (List Int)) (_ : Nat) => rows.foldl longF []) [[0]]
end Lw

/-! P29 -/
set_option Elab.async false
set_option linter.all false
set_option maxRecDepth 100000
set_option maxHeartbeats 4000000
set_option autoImplicit false
namespace Lw
open PySem PySem.Spec PyProof.Rows L2 Mi
/-! ### what is shown -/
def okS (x : Str) (c : Nat) : Prop := x.length ≤ c ∧ PyData.strOk x = true
theorem okS_app {x y : Str} {a b : Nat} (hx : okS x a) (hy : okS y b) : okS (x ++ y) (a + b) := by
  refine ⟨by rw [strLen_append]; have := hx.1; have := hy.1; omega, ?_⟩
  show ((x.cps ++ y.cps).all fun c => decide (c < 0x110000)) = true
  rw [Array.all_append]
  have h1 : x.cps.all (fun c => decide (c < 0x110000)) = true := hx.2
  have h2 : y.cps.all (fun c => decide (c < 0x110000)) = true := hy.2
  rw [h1, h2]
  rfl
theorem okS_mono {x : Str} {a b : Nat} (h : okS x a) (l : a ≤ b) : okS x b := ⟨Nat.le_trans h.1 l, h.2⟩
theorem okS_lit {x : Str} {c : Nat} (h1 : decide (x.length ≤ c) = true) (h2 : PyData.strOk x = true) : okS x c := ⟨of_decide_eq_true h1, h2⟩
theorem okS_from {c : Nat} : ∀ (ts : List Str) (k : Nat) (acc : Str) (a : Nat), okS acc a → (∀ t ∈ ts, okS t c) → okS (textFrom k acc ts) (a + ts.length * (c + 2))
  | [], k, acc, a, h, _ => by
    rw [List.length_nil, Nat.zero_mul]
    exact h
  | t :: r, k, acc, a, h, ht => by
    have s2 : okS ((if k > 0 then ", " else "" : String) : Str) 2 := by
      by_cases q : k > 0
      · rw [if_pos q]; exact okS_lit (by decide +kernel) (by decide +kernel)
      · rw [if_neg q]; exact okS_lit (by decide +kernel) (by decide +kernel)
    have := okS_from r (k + 1) _ _ (okS_app (okS_app h s2) (ht t (List.mem_cons_self ..))) fun u hu => ht u (List.mem_cons_of_mem _ hu)
    refine okS_mono this ?_
    rw [List.length_cons, Nat.succ_mul]
    omega
theorem okS_join {c : Nat} : ∀ ts : List Str, (∀ t ∈ ts, okS t c) → okS (Str.join ", " ts) (ts.length * (c + 2))
  | [], _ => okS_mono (okS_lit (c := 0) (x := Str.join ", " []) (by decide +kernel) (by decide +kernel)) (Nat.zero_le _)
  | [x], h => okS_mono (h x (List.mem_cons_self ..)) (by rw [List.length_singleton]; omega)
  | x :: y :: r, h => by
    have ih := okS_join (y :: r) fun u hu => h u (List.mem_cons_of_mem _ hu)
    have s2 : okS ((", " : String) : Str) 2 := okS_lit (by decide +kernel) (by decide +kernel)
    refine okS_mono (okS_app (okS_app (h x (List.mem_cons_self ..)) s2) ih) ?_
    rw [List.length_cons (a := x), Nat.succ_mul]
    omega
structure okD (d : PyData) (c h : Nat) : Prop where
  sh : d.showable = true
  s : okS d.shown c
  dp : d.depth ≤ h
  lay : layD d = true
theorem shownAll_map : ∀ xs : List PyData, PyData.shownAll xs = xs.map PyData.shown
  | [] => rfl
  | x :: r => by
    show x.shown :: PyData.shownAll r = _
    rw [shownAll_map r]
    rfl
theorem all_show {c h : Nat} : ∀ xs : List PyData, (∀ x ∈ xs, okD x c h) → PyData.showableAll xs = true ∧ PyData.depthAll xs ≤ h ∧ layDs xs = true
  | [], _ => ⟨rfl, Nat.zero_le _, rfl⟩
  | x :: r, q => by
    obtain ⟨a, b, d⟩ := all_show r fun y hy => q y (List.mem_cons_of_mem _ hy)
    have k := q x (List.mem_cons_self ..)
    refine ⟨?_, ?_, ?_⟩
    · show (x.showable && PyData.showableAll r) = true
      rw [k.sh, a]; rfl
    · show max x.depth (PyData.depthAll r) ≤ h
      have := k.dp
      omega
    · show (layD x && layDs r) = true
      rw [k.lay, d]; rfl
theorem all_text {c h : Nat} {xs : List PyData} (q : ∀ x ∈ xs, okD x c h) : ∀ t ∈ PyData.shownAll xs, okS t c := fun t ht => by
  rw [shownAll_map] at ht
  obtain ⟨x, hx, rfl⟩ := List.mem_map.mp ht
  exact (q x hx).s
theorem shown_len (xs : List PyData) : (PyData.shownAll xs).length = xs.length := by rw [shownAll_map, List.length_map]
theorem okD_list {c h m : Nat} {xs : List PyData} (q : ∀ x ∈ xs, okD x c h) (l : xs.length ≤ m) : okD (.list xs) (2 + m * (c + 2)) (h + 1) := by
  obtain ⟨a, b, d⟩ := all_show xs q
  refine ⟨a, ?_, Nat.succ_le_succ b, d⟩
  show okS (listText (PyData.shownAll xs)) _
  refine okS_mono (okS_app (okS_from (PyData.shownAll xs) 0 _ 1 (okS_lit (by decide +kernel) (by decide +kernel)) (all_text q)) (okS_lit (c := 1) (by decide +kernel) (by decide +kernel))) ?_
  rw [shown_len]
  have := Nat.mul_le_mul_right (c + 2) l
  omega
theorem okD_tup {c h m : Nat} {xs : List PyData} (q : ∀ x ∈ xs, okD x c h) (l : xs.length ≤ m) : okD (.tuple xs) (3 + m * (c + 2)) (h + 1) := by
  obtain ⟨a, b, d⟩ := all_show xs q
  refine ⟨a, ?_, Nat.succ_le_succ b, d⟩
  show okS (tupleText (PyData.shownAll xs)) _
  have e : okS ((if (PyData.shownAll xs).length == 1 then ",)" else ")" : String) : Str) 2 := by
    cases ((PyData.shownAll xs).length == 1)
    · exact okS_lit (by decide +kernel) (by decide +kernel)
    · exact okS_lit (by decide +kernel) (by decide +kernel)
  refine okS_mono (okS_app (okS_app (okS_lit (c := 1) (by decide +kernel) (by decide +kernel)) (okS_join (PyData.shownAll xs) (all_text q))) e) ?_
  rw [shown_len]
  have := Nat.mul_le_mul_right (c + 2) l
  omega
theorem okD_int {x : Int} (h0 : 0 ≤ x) (h9 : x ≤ 9) : okD (.int x) 3 0 := by
  have : x = 0 ∨ x = 1 ∨ x = 2 ∨ x = 3 ∨ x = 4 ∨ x = 5 ∨ x = 6 ∨ x = 7 ∨ x = 8 ∨ x = 9 := by omega
  rcases this with rfl | rfl | rfl | rfl | rfl | rfl | rfl | rfl | rfl | rfl <;> exact ⟨by decide +kernel, okS_lit (by decide +kernel) (by decide +kernel), Nat.le_refl _, rfl⟩
theorem okD_bool (b : Bool) : okD (.bool b) 5 0 := by
  cases b <;> exact ⟨rfl, okS_lit (by decide +kernel) (by decide +kernel), Nat.le_refl _, rfl⟩
theorem okD_tI {r : List Int} {m : Nat} (l : r.length ≤ m) (h : ∀ x ∈ r, 0 ≤ x ∧ x ≤ 9) : okD (tI r) (3 + m * 5) 1 :=
  okD_tup (c := 3) (h := 0) (fun d hd => by
    obtain ⟨x, hx, rfl⟩ := List.mem_map.mp hd
    exact okD_int (h x hx).1 (h x hx).2) (by rw [List.length_map]; exact l)
theorem okD_mono {d : PyData} {c c' h h' : Nat} (k : okD d c h) (l : c ≤ c') (l2 : h ≤ h') : okD d c' h' := ⟨k.sh, okS_mono k.s l, Nat.le_trans k.dp l2, k.lay⟩
theorem rep_ok {d : PyData} {c h : Nat} {S : Sto} (k : okD d c h) (l : c < 1000000) (l2 : h ≤ 60) : repF [.p d] S = .ok (.p (.str d.shown)) S := by
  show (if d.showable = true ∧ d.shown.length ≤ sizeLine ∧ d.depth ≤ 60 ∧ layD d = true then (Ot.ok (.p (.str d.shown)) S : Ot D) else .bad) = _
  rw [if_pos ⟨k.sh, Nat.le_trans k.s.1 (Nat.le_of_lt (Nat.lt_trans l (by decide))), Nat.le_trans k.dp l2, k.lay⟩]
theorem eq_str (neg : Bool) {d : PyData} {c h : Nat} {S : Sto} (k : okD d c h) : eqD neg (.p (.str d.shown)) (.p (.str d.shown)) S = .ok (.p (.bool (!neg))) S := by
  have sp : SeqAt.shaped (.str d.shown) = true := by
    unfold SeqAt.shaped
    rw [show (PyData.str d.shown).canLay0 = PyData.strOk d.shown from rfl, k.s.2]
    rfl
  have ev : PyData.eqv (.str d.shown) (.str d.shown) = true := by
    show (d.shown == d.shown) = true
    exact beq_self_eq_true _
  simp only [eqD, sp, ev, and_self, if_true]
  cases neg <;> rfl
end Lw

/-! G0 -/
set_option Elab.async false
set_option linter.all false
set_option maxRecDepth 100000
set_option maxHeartbeats 4000000
set_option autoImplicit false
namespace Lw
open PySem PySem.Spec PyProof.Rows L2 Mi
section
variable {env : Envr} {S S1 S2 : Sto} {m mk mx : EM} {a : AM} {d : D} {ds : List D} {l : List PyData} {k : Nat} {x : PyData}
theorem plains_p (l : List PyData) : plains (l.map D.p) = some l := by
  have := plains_list id l
  rwa [List.map_id] at this
theorem eif_rt {t : BM} {a b : EM} {env : Envr} {S S1 : Sto} (h : t env S = .ok true S1) : eIf t a b env S = a env S1 := by
  unfold eIf
  rw [h]
  rfl
theorem eif_no {t : BM} {a b : EM} {env : Envr} {S S1 : Sto} (h : t env S = .ok false S1) : eIf t a b env S = b env S1 := by
  unfold eIf
  rw [h]
  rfl
theorem bof_ok {m : EM} {env : Envr} {S : Sto} {b : Bool} (h : m env S = .ok (.p (.bool b)) S) : bOf m env S = .ok b S := by
  show (m env S).bind toB = _
  rw [h]
  rfl
theorem get_last {S : Sto} {c : Cell} : (S ++ [c])[S.length]? = some c := by simp
theorem not_ok {t : BM} {env : Envr} {S : Sto} (h : t env S = .ok true S) : bNot t env S = .ok false S := by
  unfold bNot
  rw [h]
  rfl
theorem eq_bb (neg a b : Bool) (S : Sto) : eqD neg (.p (.bool a)) (.p (.bool b)) S = .ok (.p (.bool (if neg = true then !(a == b) else a == b))) S := by
  cases neg <;> cases a <;> cases b <;> rfl
theorem and_ok {m1 m2 : EM} {env : Envr} {S : Sto} {a b : Bool} (h1 : m1 env S = .ok (.p (.bool a)) S) (h2 : m2 env S = .ok (.p (.bool b)) S) : eAnd m1 m2 env S = .ok (.p (.bool (a && b))) S := by
  have t : bOf m1 env S = .ok a S := by
    unfold bOf
    rw [h1]
    rfl
  unfold eAnd
  cases a
  · exact (eif_no t).trans rfl
  · exact (eif_rt t).trans h2
theorem aCons_ok (h1 : m env S = .ok d S1) (h2 : a env S1 = .ok ds S2) : aCons m a env S = .ok (d :: ds) S2 := by
  simp only [aCons, h1, Ot.bind, h2]
theorem aStar_ok (h1 : m env S = .ok (.p (.tuple l)) S1) (h2 : a env S1 = .ok ds S2) : aStar m a env S = .ok (l.map D.p ++ ds) S2 := by
  unfold aStar
  simp only [h1, Ot.bind, h2]
theorem eTup_ok (h : a env S = .ok (l.map D.p) S1) (hl : l.length ≤ 100000) : eTup a env S = .ok (.p (.tuple l)) S1 := by
  show (a env S).bind mkTup = _
  rw [h]
  show mkTup (l.map D.p) S1 = _
  unfold mkTup
  rw [plains_p]
  dsimp only
  have := sizeLine_eq
  rw [if_pos (by omega)]
theorem eLst_ok (h : a env S = .ok (l.map D.p) S1) (hl : l.length ≤ 100000) : eLst a env S = .ok (.p (.list l)) S1 := by
  show (a env S).bind mkLst = _
  rw [h]
  show mkLst (l.map D.p) S1 = _
  unfold mkLst
  rw [plains_p]
  dsimp only
  have := sizeLine_eq
  rw [if_pos (by omega)]
theorem bof2 {m : EM} {env : Envr} {S S1 : Sto} {b : Bool} (h : m env S = .ok (.p (.bool b)) S1) : bOf m env S = .ok b S1 := by
  unfold bOf
  rw [h]
  rfl
theorem nots {m : EM} {env : Envr} {S S1 : Sto} {b : Bool} (h : m env S = .ok (.p (.bool b)) S1) : bNot (bOf m) env S = .ok (!b) S1 := by
  unfold bNot
  rw [bof2 h]
  rfl
theorem bor_no {a b : BM} {env : Envr} {S S1 S2 : Sto} (h1 : a env S = .ok false S1) (h2 : b env S1 = .ok false S2) : bOr a b env S = .ok false S2 := by
  unfold bOr
  rw [h1]
  exact h2
theorem and2 {m1 m2 : EM} {env : Envr} {S S1 : Sto} {r : Ot D} (h1 : m1 env S = .ok (.p (.bool true)) S1) (h2 : m2 env S1 = r) : eAnd m1 m2 env S = r := (eif_rt (bof2 h1)).trans h2
theorem callA {f : FM} {a : AM} {env : Envr} {S S1 : Sto} {ds : List D} {r : Ot D} (h : a env S = .ok ds S1) (hf : f ds S1 = r) : eCall f a env S = r := by
  unfold eCall
  rw [h]
  exact hf
theorem par3_ok {i j l : Nat} {m1 m2 m3 : EM} {env : Envr} {S S1 S2 S3 : Sto} {d1 d2 d3 : D} (h1 : m1 env S = .ok d1 S1) (h2 : m2 env S1 = .ok d2 S2) (h3 : m3 env S2 = .ok d3 S3) : sPar3 i j l (aCons m1 (aCons m2 (aCons m3 aNil))) env S = .nx (((env.set i (some d1)).set j (some d2)).set l (some d3)) S3 := by
  unfold sPar3
  rw [aCons_ok h1 (aCons_ok h2 (aCons_ok h3 (show aNil env S3 = .ok [] S3 from rfl)))]
  rfl
theorem call_none {f : FM} {env : Envr} {S : Sto} {r : Ot D} (h : f [] S = r) : eCall f aNil env S = r := h
theorem nil_ok {E : Envr} {S : Sto} : aNil E S = .ok [] S := rfl
theorem same_eq {m1 m2 : EM} {env : Envr} {S : Sto} {d : PyData} {c h : Nat} (k : okD d c h) (hc : c < 1000000) (hh : h ≤ 60) (h1 : m1 env S = .ok (.p d) S) (h2 : m2 env S = .ok (.p d) S) : eOp (eqD false) (eCall repF (aCons m1 aNil)) (eCall repF (aCons m2 aNil)) env S = .ok (.p (.bool true)) S :=
  op2 (call1 h1 (rep_ok k hc hh)) (call1 h2 (rep_ok k hc hh)) (eq_str false k)
theorem lst2 {m1 m2 : EM} {env : Envr} {S S1 S2 : Sto} {x y : PyData} (h1 : m1 env S = .ok (.p x) S1) (h2 : m2 env S1 = .ok (.p y) S2) : eLst (aCons m1 (aCons m2 aNil)) env S = .ok (.p (.list [x, y])) S2 := by
  unfold eLst aCons aNil
  simp only [h1, h2, Ot.bind, aCons, aNil]
  rfl
theorem same_rep {m1 m2 : EM} {env : Envr} {S : Sto} {d : PyData} {c h : Nat} {b : SM} (k : okD d c h) (hc : c < 1000000) (hh : h ≤ 60) (h1 : m1 env S = .ok (.p d) S) (h2 : m2 env S = .ok (.p d) S) :
    sIf (bOf (eOp (eqD true) (eCall repF (aCons m1 aNil)) (eCall repF (aCons m2 aNil)))) b sNx env S = .nx env S :=
  if_no (bof_ok (op2 (call1 h1 (rep_ok k hc hh)) (call1 h2 (rep_ok k hc hh)) (eq_str true k)))
theorem loop_step {chk : Sto → Bool} {g : GM} {body : SM} {d : D} {r : List D} {env e1 e2 : Envr} {S S1 : Sto} {o : Os} (hc : chk S = true) (h1 : g d env = some e1) (h2 : body e1 S = .nx e2 S1) (h3 : loop chk g body r e2 S1 = o) : loop chk g body (d :: r) env S = o := by
  conv => lhs; unfold loop
  rw [if_pos hc]
  simp only [h1, h2]
  exact h3
theorem loop_end {g : GM} {body : SM} {env : Envr} {S : Sto} : loop yes g body [] env S = .nx env S := by
  unfold loop
  rw [if_pos (yes_is S)]
theorem tup4 {m1 m2 m3 m4 : EM} {env : Envr} {S : Sto} {x y z u : PyData} (h1 : m1 env S = .ok (.p x) S) (h2 : m2 env S = .ok (.p y) S) (h3 : m3 env S = .ok (.p z) S) (h4 : m4 env S = .ok (.p u) S) : eTup (aCons m1 (aCons m2 (aCons m3 (aCons m4 aNil)))) env S = .ok (.p (.tuple [x, y, z, u])) S := by
  unfold eTup aCons aNil
  simp only [h1, h2, h3, h4, Ot.bind, aCons, aNil]
  rfl
end
end Lw

/-! N1 -/
set_option Elab.async false
set_option linter.all false
set_option maxRecDepth 100000
set_option maxHeartbeats 4000000
set_option autoImplicit false
namespace Lw
open PySem PySem.Spec PyProof.Rows L2 Mi
/-! ### the nine errors -/
def mk9 (x : PyData) : List PyData := [exD1 "BadMachine" "place" x, exD1 "BadWord" "place" x, exD1 "BadParting" "value" x, exD1 "BadStanding" "value" x, exD1 "BadRow" "value" x, exD1 "BadCode" "value" x, exD1 "BadNumber" "value" x, exD1 "BadPaper" "word" x, exD1 "TooGreat" "most" x]
theorem made_ok (x : PyData) (S : Sto) : m_law_made [.p x] S = .ok (.p (.list (mk9 x))) S := by
  have body : b_law_made [some (.p x), none] S = .rt (.p (.list (mk9 x))) S := by kernel_rfl
  exact (fnM_rt (b := false) (n := 1) (all := 2) (m := b_law_made) (ds := [.p x]) rfl body).trans (by unfold fin; rw [take_len])
theorem named_ok (x : PyData) (S : Sto) : m_law_named [.p x] S = .ok (.p (.list (mk9 x))) S := by
  have body : b_law_named [some (.p x), none] S = .rt (.p (.list (mk9 x))) S := by kernel_rfl
  exact (fnM_rt (b := false) (n := 1) (all := 2) (m := b_law_named) (ds := [.p x]) rfl body).trans (by unfold fin; rw [take_len])
theorem fields_ok (x : PyData) (S : Sto) : m_law_fields [.p (.list (mk9 x))] S = .ok (.p (.list (List.replicate 9 x))) S := by
  have body : b_law_fields [some (.p (.list (mk9 x))), none, none] S = .rt (.p (.list (List.replicate 9 x))) S := by kernel_rfl
  exact (fnM_rt (b := false) (n := 1) (all := 3) (m := b_law_fields) (ds := [.p (.list (mk9 x))]) rfl body).trans (by unfold fin; rw [take_len])
def bl (l : List Bool) : PyData := .list (l.map .bool)
def kdB : List Str := ["BadMachine", "BadWord", "BadParting", "BadStanding", "BadRow", "BadCode", "BadNumber", "BadPaper", "TooGreat", "Alone"]
theorem kinds_ok (n : Nat) (hn : n < 9) (x : PyData) (S : Sto) : m_law_kinds [.p ((mk9 x).getD n .none)] S = .ok (.p (bl ((List.range 10).map fun k => decide (k = n)))) S := by
  have body : b_law_kinds [some (.p ((mk9 x).getD n .none)), none] S = .rt (.p (bl ((List.range 10).map fun k => decide (k = n)))) S := by
    match n, hn with
    | 0, _ => kernel_rfl
    | 1, _ => kernel_rfl
    | 2, _ => kernel_rfl
    | 3, _ => kernel_rfl
    | 4, _ => kernel_rfl
    | 5, _ => kernel_rfl
    | 6, _ => kernel_rfl
    | 7, _ => kernel_rfl
    | 8, _ => kernel_rfl
  exact (fnM_rt (b := false) (n := 1) (all := 2) (m := b_law_kinds) (ds := [.p ((mk9 x).getD n .none)]) rfl body).trans (by unfold fin; rw [take_len])
theorem elders_ok (n : Nat) (hn : n < 9) (x : PyData) (S : Sto) : m_law_elders [.p ((mk9 x).getD n .none)] S = .ok (.p (bl [decide (n < 8), decide (n < 8), decide (n = 8), false, false, false])) S := by
  have body : b_law_elders [some (.p ((mk9 x).getD n .none)), none] S = .rt (.p (bl [decide (n < 8), decide (n < 8), decide (n = 8), false, false, false])) S := by
    match n, hn with
    | 0, _ => kernel_rfl
    | 1, _ => kernel_rfl
    | 2, _ => kernel_rfl
    | 3, _ => kernel_rfl
    | 4, _ => kernel_rfl
    | 5, _ => kernel_rfl
    | 6, _ => kernel_rfl
    | 7, _ => kernel_rfl
    | 8, _ => kernel_rfl
  exact (fnM_rt (b := false) (n := 1) (all := 2) (m := b_law_elders) (ds := [.p ((mk9 x).getD n .none)]) rfl body).trans (by unfold fin; rw [take_len])
end Lw

/-! N2 -/
set_option Elab.async false
set_option linter.all false
set_option maxRecDepth 100000
set_option maxHeartbeats 4000000
set_option autoImplicit false
namespace Lw
open PySem PySem.Spec PyProof.Rows L2 Mi
theorem mk9_at (j : Nat) (hj : j < 9) (x : PyData) (S : Sto) : ixD (.p (.list (mk9 x))) (pI (j : Nat)) S = .ok (.p ((mk9 x).getD j .none)) S := by
  match j, hj with
  | 0, _ => rfl
  | 1, _ => rfl
  | 2, _ => rfl
  | 3, _ => rfl
  | 4, _ => rfl
  | 5, _ => rfl
  | 6, _ => rfl
  | 7, _ => rfl
  | 8, _ => rfl
abbrev ownB (j : Nat) : PyData := bl ((List.range 10).map fun k => decide (k = j))
abbrev lineB (j : Nat) : PyData := bl [decide (j < 8), decide (j < 8), decide (j = 8), false, false, false]
theorem own_eq (j : Nat) (hj : j < 9) (S : Sto) : eqD true (.p (ownB j)) (.p (ownB j)) S = .ok (.p (.bool false)) S := by
  match j, hj with
  | 0, _ => kernel_rfl
  | 1, _ => kernel_rfl
  | 2, _ => kernel_rfl
  | 3, _ => kernel_rfl
  | 4, _ => kernel_rfl
  | 5, _ => kernel_rfl
  | 6, _ => kernel_rfl
  | 7, _ => kernel_rfl
  | 8, _ => kernel_rfl
theorem line_eq (j : Nat) (hj : j < 9) (S : Sto) : eqD true (.p (lineB j)) (.p (lineB j)) S = .ok (.p (.bool false)) S := by
  match j, hj with
  | 0, _ => kernel_rfl
  | 1, _ => kernel_rfl
  | 2, _ => kernel_rfl
  | 3, _ => kernel_rfl
  | 4, _ => kernel_rfl
  | 5, _ => kernel_rfl
  | 6, _ => kernel_rfl
  | 7, _ => kernel_rfl
  | 8, _ => kernel_rfl
def E9 (x y : PyData) (o4 o5 o6 o7 : Option D) : Envr := [some (.p x), some (.p y), some (.p (.list (mk9 x))), some (.p (.list (mk9 y))), o4, o5, o6, o7]
theorem par9 (j : Nat) (hj : j < 9) (x y : PyData) (o5 o6 o7 : Option D) (S : Sto) :
    (sPar 5 6 (aCons (eComp false (iR1 (aCons (eC (.int 10)) aNil)) [7] (gN 7) bYes (eOp (eqD false) (eVar 7) (eVar 4))) (aCons (eLst (aCons (eOp (cmpI fun i j => decide (i < j)) (eVar 4) (eC (.int 8))) (aCons (eOp (cmpI fun i j => decide (i < j)) (eVar 4) (eC (.int 8))) (aCons (eOp (eqD false) (eVar 4) (eC (.int 8))) (aCons (eC (.bool false)) (aCons (eC (.bool false)) (aCons (eC (.bool false)) aNil))))))) aNil))) (E9 x y (some (pI (j : Nat))) o5 o6 o7) S = .nx (E9 x y (some (pI (j : Nat))) (some (.p (ownB j))) (some (.p (lineB j))) o7) S := by
  match j, hj with
  | 0, _ => kernel_rfl
  | 1, _ => kernel_rfl
  | 2, _ => kernel_rfl
  | 3, _ => kernel_rfl
  | 4, _ => kernel_rfl
  | 5, _ => kernel_rfl
  | 6, _ => kernel_rfl
  | 7, _ => kernel_rfl
  | 8, _ => kernel_rfl
def b_n9 : SM := (sSeq (sPar 5 6 (aCons (eComp false (iR1 (aCons (eC (.int 10)) aNil)) [7] (gN 7) bYes (eOp (eqD false) (eVar 7) (eVar 4))) (aCons (eLst (aCons (eOp (cmpI fun i j => decide (i < j)) (eVar 4) (eC (.int 8))) (aCons (eOp (cmpI fun i j => decide (i < j)) (eVar 4) (eC (.int 8))) (aCons (eOp (eqD false) (eVar 4) (eC (.int 8))) (aCons (eC (.bool false)) (aCons (eC (.bool false)) (aCons (eC (.bool false)) aNil))))))) aNil))) (sSeq (sIf (bOr (bOf (eOp (eqD true) (eCall m_law_kinds (aCons (eOp ixD (eVar 2) (eVar 4)) aNil)) (eVar 5))) (bOf (eOp (eqD true) (eCall m_law_kinds (aCons (eOp ixD (eVar 3) (eVar 4)) aNil)) (eVar 5)))) (sRet (eC (.bool false))) sNx) (sIf (bOr (bOf (eOp (eqD true) (eCall m_law_elders (aCons (eOp ixD (eVar 2) (eVar 4)) aNil)) (eVar 6))) (bOf (eOp (eqD true) (eCall m_law_elders (aCons (eOp ixD (eVar 3) (eVar 4)) aNil)) (eVar 6)))) (sRet (eC (.bool false))) sNx)))
theorem turn9 (j : Nat) (hj : j < 9) (x y : PyData) (o5 o6 o7 : Option D) (S : Sto) : b_n9 (E9 x y (some (pI (j : Nat))) o5 o6 o7) S = .nx (E9 x y (some (pI (j : Nat))) (some (.p (ownB j))) (some (.p (lineB j))) o7) S := by
  have a : ∀ (i : Nat) (z : PyData), (E9 x y (some (pI (j : Nat))) (some (.p (ownB j))) (some (.p (lineB j))) o7)[i]? = some (some (.p (.list (mk9 z)))) →
      eOp ixD (eVar i) (eVar 4) (E9 x y (some (pI (j : Nat))) (some (.p (ownB j))) (some (.p (lineB j))) o7) S = .ok (.p ((mk9 z).getD j .none)) S := fun i z h => by
    refine op2 (d := .p (.list (mk9 z))) (d2 := pI (j : Nat)) (S1 := S) (S2 := S) ?_ rfl (mk9_at j hj z S)
    unfold eVar
    rw [h]
  refine (sSeq_nx (par9 j hj x y o5 o6 o7 S)).trans ((sSeq_nx (e1 := E9 x y (some (pI (j : Nat))) (some (.p (ownB j))) (some (.p (lineB j))) o7) (S1 := S) ?_).trans ?_)
  · exact if_no (bor_no (bof_ok (op2 (call1 (a 2 x rfl) (kinds_ok j hj x S)) rfl (own_eq j hj S))) (bof_ok (op2 (call1 (a 3 y rfl) (kinds_ok j hj y S)) rfl (own_eq j hj S))))
  · exact if_no (bor_no (bof_ok (op2 (call1 (a 2 x rfl) (elders_ok j hj x S)) rfl (line_eq j hj S))) (bof_ok (op2 (call1 (a 3 y rfl) (elders_ok j hj y S)) rfl (line_eq j hj S))))
abbrev okX (x : PyData) : Prop := okD x 1000 10
theorem ok9 {x : PyData} (k : okX x) : okD (.list (List.replicate 9 x)) 9500 11 := okD_mono (okD_list (m := 9) (c := 1000) (h := 10) (fun d hd => by rw [List.eq_of_mem_replicate hd]; exact k) (by rw [List.length_replicate]; exact Nat.le_refl _)) (by omega) (by omega)
theorem nine_ok {x y : PyData} (kx : okX x) (ky : okX y) (S : Sto) : m_law_nine_right [.p x, .p y] S = .ok (.p (.bool true)) S := by
  have s1 : (sPar 2 3 (aCons (eCall m_law_made (aCons (eVar 0) aNil)) (aCons (eCall m_law_named (aCons (eVar 1) aNil)) aNil))) [some (.p x), some (.p y), none, none, none, none, none, none] S = .nx (E9 x y none none none none) S := par_ok (call1 rfl (made_ok x S)) (call1 rfl (named_ok y S))
  have r1 : ∀ (o4 o5 o6 o7 : Option D), eOp repD (eLst (aCons (eVar 0) aNil)) (eC (.int 9)) (E9 x y o4 o5 o6 o7) S = .ok (.p (.list (List.replicate 9 x))) S := fun _ _ _ _ => by kernel_rfl
  have r2 : eOp repD (eLst (aCons (eVar 1) aNil)) (eC (.int 9)) (E9 x y none none none none) S = .ok (.p (.list (List.replicate 9 y))) S := by kernel_rfl
  have s2 : (sIf (bOr (bOf (eOp (eqD true) (eCall repF (aCons (eCall m_law_fields (aCons (eVar 2) aNil)) aNil)) (eCall repF (aCons (eOp repD (eLst (aCons (eVar 0) aNil)) (eC (.int 9))) aNil)))) (bOf (eOp (eqD true) (eCall repF (aCons (eCall m_law_fields (aCons (eVar 3) aNil)) aNil)) (eCall repF (aCons (eOp repD (eLst (aCons (eVar 1) aNil)) (eC (.int 9))) aNil))))) (sRet (eC (.bool false))) sNx) (E9 x y none none none none) S = .nx (E9 x y none none none none) S :=
    if_no (bor_no (bof_ok (op2 (call1 (call1 rfl (fields_ok x S)) (rep_ok (ok9 kx) (by omega) (by omega))) (call1 (r1 none none none none) (rep_ok (ok9 kx) (by omega) (by omega))) (eq_str true (ok9 kx))))
      (bof_ok (op2 (call1 (call1 rfl (fields_ok y S)) (rep_ok (ok9 ky) (by omega) (by omega))) (call1 r2 (rep_ok (ok9 ky) (by omega) (by omega))) (eq_str true (ok9 ky)))))
  have st : ∀ (j : Nat) (d : D) (env : Envr) (S' : Sto), (rangeD 0 9)[j]? = some d → (∃ o4 o5 o6 o7, env = E9 x y o4 o5 o6 o7 ∧ S' = S) →
      ∃ e1 e2 S2, gN 4 d env = some e1 ∧ (b_n9 e1 S' = .nx e2 S2 ∨ b_n9 e1 S' = .ct e2 S2) ∧ (∃ o4 o5 o6 o7, e2 = E9 x y o4 o5 o6 o7 ∧ S2 = S) := by
    rintro j d env S' hj ⟨o4, o5, o6, o7, rfl, rfl⟩
    obtain ⟨hj', rfl⟩ := rng_at hj
    exact ⟨E9 x y (some (pI (j : Nat))) o5 o6 o7, _, _, rfl, .inl (turn9 j hj' x y o5 o6 o7 S'), _, _, _, _, rfl, rfl⟩
  obtain ⟨env', S', q1, o4, o5, o6, o7, rfl, rfl⟩ := loop_ok (chk := yes) (g := gN 4) (body := b_n9) (fun _ env S' => ∃ o4 o5 o6 o7, env = E9 x y o4 o5 o6 o7 ∧ S' = S) (rangeD 0 9) 0 (E9 x y none none none none) S (fun _ _ _ _ => rfl) st ⟨_, _, _, _, rfl, rfl⟩
  have x2 := sFor_r1 (a := aCons (eC (.int 9)) aNil) (g := gN 4) (body := b_n9) (env := E9 x y none none none none) (S := S') (S' := S') (j := 9) rfl (by omega) (by omega)
  have body : b_law_nine_right [some (.p x), some (.p y), none, none, none, none, none, none] S' = .rt (.p (.bool true)) S' :=
    (sSeq_nx s1).trans ((sSeq_nx s2).trans ((sSeq_nx (x2.trans q1)).trans (ret_ok (same_eq (ok9 kx) (by omega) (by omega) (call1 rfl (fields_ok x S')) (r1 _ _ _ _)))))
  exact (fnM_rt (b := false) (n := 2) (all := 8) (m := b_law_nine_right) (ds := [.p x, .p y]) rfl body).trans (by unfold fin; rw [take_len])
end Lw

/-! N3 -/
set_option Elab.async false
set_option linter.all false
set_option maxRecDepth 100000
set_option maxHeartbeats 4000000
set_option autoImplicit false
namespace Lw
open PySem PySem.Spec PyProof.Rows L2 Mi
def zer : PyData := bl (List.replicate 10 false)
theorem kinds_P (S : Sto) : m_law_kinds [.p (exD0 "PartError")] S = .ok (.p zer) S := by
  have body : b_law_kinds [some (.p (exD0 "PartError")), none] S = .rt (.p zer) S := by kernel_rfl
  exact (fnM_rt (b := false) (n := 1) (all := 2) (m := b_law_kinds) (ds := [.p (exD0 "PartError")]) rfl body).trans (by unfold fin; rw [take_len])
theorem kinds_A (S : Sto) : m_law_kinds [.p (exD0 "Alone")] S = .ok (.p (bl (List.replicate 9 false ++ [true]))) S := by
  have body : b_law_kinds [some (.p (exD0 "Alone")), none] S = .rt (.p (bl (List.replicate 9 false ++ [true]))) S := by kernel_rfl
  exact (fnM_rt (b := false) (n := 1) (all := 2) (m := b_law_kinds) (ds := [.p (exD0 "Alone")]) rfl body).trans (by unfold fin; rw [take_len])
theorem elders_P (S : Sto) : m_law_elders [.p (exD0 "PartError")] S = .ok (.p (bl [true, true, false, false, false, false])) S := by
  have body : b_law_elders [some (.p (exD0 "PartError")), none] S = .rt (.p (bl [true, true, false, false, false, false])) S := by kernel_rfl
  exact (fnM_rt (b := false) (n := 1) (all := 2) (m := b_law_elders) (ds := [.p (exD0 "PartError")]) rfl body).trans (by unfold fin; rw [take_len])
theorem elders_A (S : Sto) : m_law_elders [.p (exD0 "Alone")] S = .ok (.p (bl [false, false, false, true, false, false])) S := by
  have body : b_law_elders [some (.p (exD0 "Alone")), none] S = .rt (.p (bl [false, false, false, true, false, false])) S := by kernel_rfl
  exact (fnM_rt (b := false) (n := 1) (all := 2) (m := b_law_elders) (ds := [.p (exD0 "Alone")]) rfl body).trans (by unfold fin; rw [take_len])
theorem cl_step {chk : Sto → Bool} {g : GM} {t : BM} {m : EM} {env e1 : Envr} {d y : D} {r acc : List D} {S S1 S2 : Sto} {o : Ot (List D)} (hc : chk S = true) (h1 : g d env = some e1) (h2 : t e1 S = .ok true S1) (h3 : m e1 S1 = .ok y S2) (hz : acc.length < sizeLine) (h4 : compLoop chk g t m env r (acc ++ [y]) S2 = o) : compLoop chk g t m env (d :: r) acc S = o := by
  conv => lhs; unfold compLoop
  simp only [if_pos hc, h1, h2, h3, hz, if_true, Ot.bind]
  exact h4
theorem cl_end {g : GM} {t : BM} {m : EM} {env : Envr} {acc : List D} {S : Sto} : compLoop yes g t m env [] acc S = .ok acc S := by
  unfold compLoop
  rw [if_pos (yes_is S)]
theorem comp3 {m : EM} {a : EM} {x y z u v w : PyData} {i : Nat} {env : Envr} {S : Sto} (ha : a env S = .ok (.p (.list [x, y, z])) S) (h1 : m ((wipeE env [i]).set i (some (.p x))) S = .ok (.p u) S) (h2 : m ((wipeE env [i]).set i (some (.p y))) S = .ok (.p v) S) (h3 : m ((wipeE env [i]).set i (some (.p z))) S = .ok (.p w) S) :
    eComp false (iL a) [i] (gN i) bYes m env S = .ok (.p (.list [u, v, w])) S := by
  unfold eComp iL
  rw [ha]
  show (compLoop yes (gN i) bYes m (wipeE env [i]) [.p x, .p y, .p z] [] S).bind (keptAs false) = _
  have e : compLoop yes (gN i) bYes m (wipeE env [i]) [.p x, .p y, .p z] [] S = .ok [.p u, .p v, .p w] S :=
    cl_step (yes_is S) rfl rfl h1 (show 0 < sizeLine by decide +kernel) (cl_step (yes_is S) rfl rfl h2 (show 1 < sizeLine by decide +kernel) (cl_step (yes_is S) rfl rfl h3 (show 2 < sizeLine by decide +kernel) cl_end))
  rw [e]
  rfl
theorem others_ok (t : Str) (S : Sto) : m_law_others_right [.p (.str t)] S = .ok (.p (.bool true)) S := by
  obtain ⟨som, hsom⟩ : ∃ som : PyData, som = .list [exD0 "PartError", exD0 "PartError", exD0 "Alone"] := ⟨_, rfl⟩
  have s1 : (sAsg (eLst (aCons (eMkT "PartError" (eVar 0)) (aCons (eMkT "PartError" (eC (.str ""))) (aCons (eMk0 "Alone") aNil)))) (gN 1)) [some (.p (.str t)), none, none, none] S = .nx [some (.p (.str t)), some (.p (.list [exD0 "PartError", exD0 "PartError", exD0 "Alone"])), none, none] S := by kernel_rfl
  have s2 : (sIf (bOf (eOp (eqD true) (eComp false (iL (eVar 1)) [3] (gN 3) bYes (eCall m_law_kinds (aCons (eVar 3) aNil))) (eLst (aCons (eOp repD (eLst (aCons (eC (.bool false)) aNil)) (eC (.int 10))) (aCons (eOp repD (eLst (aCons (eC (.bool false)) aNil)) (eC (.int 10))) (aCons (eOp addD (eOp repD (eLst (aCons (eC (.bool false)) aNil)) (eC (.int 9))) (eLst (aCons (eC (.bool true)) aNil))) aNil)))))) (sRet (eC (.bool false))) sNx) [some (.p (.str t)), some (.p (.list [exD0 "PartError", exD0 "PartError", exD0 "Alone"])), none, none] S = .nx [some (.p (.str t)), some (.p (.list [exD0 "PartError", exD0 "PartError", exD0 "Alone"])), none, none] S :=
    if_no (bof_ok (op2 (d := .p (.list [zer, zer, bl (List.replicate 9 false ++ [true])])) (d2 := .p (.list [zer, zer, bl (List.replicate 9 false ++ [true])])) (S1 := S) (S2 := S) (comp3 rfl (call1 rfl (kinds_P S)) (call1 rfl (kinds_P S)) (call1 rfl (kinds_A S))) (by kernel_rfl) (by kernel_rfl)))
  have s3 : (sAsg (eLst (aCons (eC (.bool true)) (aCons (eC (.bool true)) (aCons (eC (.bool false)) (aCons (eC (.bool false)) (aCons (eC (.bool false)) (aCons (eC (.bool false)) aNil))))))) (gN 2)) [some (.p (.str t)), some (.p (.list [exD0 "PartError", exD0 "PartError", exD0 "Alone"])), none, none] S = .nx [some (.p (.str t)), some (.p (.list [exD0 "PartError", exD0 "PartError", exD0 "Alone"])), some (.p (bl [true, true, false, false, false, false])), none] S := by kernel_rfl
  have s4 : (eOp (eqD false) (eComp false (iL (eVar 1)) [3] (gN 3) bYes (eCall m_law_elders (aCons (eVar 3) aNil))) (eLst (aCons (eVar 2) (aCons (eVar 2) (aCons (eLst (aCons (eC (.bool false)) (aCons (eC (.bool false)) (aCons (eC (.bool false)) (aCons (eC (.bool true)) (aCons (eC (.bool false)) (aCons (eC (.bool false)) aNil))))))) aNil))))) [some (.p (.str t)), some (.p (.list [exD0 "PartError", exD0 "PartError", exD0 "Alone"])), some (.p (bl [true, true, false, false, false, false])), none] S = .ok (.p (.bool true)) S :=
    op2 (d := .p (.list [bl [true, true, false, false, false, false], bl [true, true, false, false, false, false], bl [false, false, false, true, false, false]])) (d2 := .p (.list [bl [true, true, false, false, false, false], bl [true, true, false, false, false, false], bl [false, false, false, true, false, false]])) (S1 := S) (S2 := S) (comp3 rfl (call1 rfl (elders_P S)) (call1 rfl (elders_P S)) (call1 rfl (elders_A S))) (by kernel_rfl) (by kernel_rfl)
  have body : b_law_others_right [some (.p (.str t)), none, none, none] S = .rt (.p (.bool true)) S := (sSeq_nx s1).trans ((sSeq_nx s2).trans ((sSeq_nx s3).trans (ret_ok s4)))
  exact (fnM_rt (b := false) (n := 1) (all := 4) (m := b_law_others_right) (ds := [.p (.str t)]) rfl body).trans (by unfold fin; rw [take_len])
end Lw

/-! N4 -/
set_option Elab.async false
set_option linter.all false
set_option maxRecDepth 100000
set_option maxHeartbeats 4000000
set_option autoImplicit false
namespace Lw
open PySem PySem.Spec PyProof.Rows L2 Mi
def odds16 : List PyData := [.none, .bool true, .bool false, .int 0, .int 1, .int (-1), .int 9, .int 300, .int 1000000000000000000000000000000, .str "", .str "0", .str "form", .str "split", .tuple [], .tuple [.int 0], .tuple [.int 0, .int 1, .int 2]]
def odds : List PyData := odds16 ++ [.list [], .list [.int 0], .dict [], .dict [(.str "a", .int 1)]]
def six (x : PyData) : List PyData := [x, x, .tuple [x, .list [x]], .list [x, .tuple []], .dict [(.str "b", x)], .tuple [.int 0, .tuple [x]]]
def okB (d : PyData) : Bool := d.showable && decide (d.shown.length ≤ 1000) && PyData.strOk d.shown && decide (d.depth ≤ 10) && layD d
theorem okB_ok {d : PyData} (h : okB d = true) : okX d := by
  unfold okB at h
  simp only [Bool.and_eq_true, decide_eq_true_eq] at h
  exact ⟨h.1.1.1.1, ⟨h.1.1.1.2, h.1.1.2⟩, h.1.2, h.2⟩
theorem things_ok : (odds.flatMap six).all okB = true := by decide +kernel
theorem thing_okX {x z : PyData} (hx : x ∈ odds) (hz : z ∈ six x) : okX z := okB_ok (List.all_eq_true.mp things_ok z (List.mem_flatMap.mpr ⟨x, hx, hz⟩))
theorem at_gen {α : Type} {l : List α} {v : Int} (h0 : 0 ≤ v) (h1 : v < (l.length : Int)) : ∃ x ∈ l, atI l v = some x := by
  obtain ⟨x, hx⟩ := atI_in h0 h1
  refine ⟨x, ?_, hx⟩
  unfold atI at hx
  obtain ⟨j, _, h2⟩ := Option.bind_eq_some_iff.mp hx
  exact List.mem_of_getElem? h2
theorem ch_tk {i : Nat} {A A' : Sto} (c : Ch i A A') : A'.take A.length = A' := by rw [← c.len, List.take_length]
theorem of_list {B : Int} {A : Sto} {i : Nat} (l : List PyData) (g : Gd B A i) (hB : B < 999999000) (hx : 0 < l.length) (hx2 : l.length < 1000000) :
    ∃ x A', m_law_of [.loc i, .p (.list l)] A = .ok (.p x) A' ∧ x ∈ l ∧ Gd (B + 1) A' i ∧ Ch i A A' := by
  obtain ⟨v, A', e, v0, v1, g', c⟩ := draw_ok (many := ((l.length : Nat) : Int)) g (by omega) (by omega) (by omega)
  obtain ⟨x, hm, at_⟩ := at_gen v0 v1
  refine ⟨x, A', ?_, hm, g', c⟩
  have tk := ch_tk c
  unfold m_law_of fnM arity b_law_of
  simp only [List.length_cons, List.length_nil, List.map_cons, List.map_nil, List.replicate, List.cons_append, List.nil_append, List.getElem?_cons_zero, List.getElem?_cons_succ, List.set_cons_zero, List.set_cons_succ, sSeq, sIf, sAsg, sRet, sPar, sDput, sNx, sExpr, eOp, eUn, eVar, eC, eCall, eTup, eLst, eIf, aCons, aNil, bOf, bNot, bAnd, bOr, eB, eAnd, eOr, gN, Ot.bind, Ot.then, cmpI, toB, modD, divD, mulD, subD, int2, addD, intF, lenF, max2F, min2F, decide_true, decide_false, if_true, if_false, Bool.false_eq_true, ite_true, ite_false, Bool.not_true, Bool.not_false, decide_eq_true_eq, Nat.reduceSub, Nat.reduceAdd, Nat.reduceEqDiff, fin, take_len, plains, mkTup, mkLst, reduceCtorEq, and_self, and_true, true_and, Bool.or_true, Bool.true_or, e, ixD, at_, tk]
theorem of_str {B : Int} {A : Sto} {i : Nat} (s : Str) (g : Gd B A i) (hB : B < 999999000) (hx : 0 < s.length) (hx2 : s.length < 1000000) (hl : s.cps.toList.length = s.length) :
    ∃ c A', m_law_of [.loc i, .p (.str s)] A = .ok (.p (.str ⟨#[c]⟩)) A' ∧ Gd (B + 1) A' i ∧ Ch i A A' := by
  obtain ⟨v, A', e, v0, v1, g', c⟩ := draw_ok (many := ((s.length : Nat) : Int)) g (by omega) (by omega) (by omega)
  obtain ⟨x, hm, at_⟩ := at_gen (l := s.cps.toList) v0 (by rw [hl]; exact v1)
  refine ⟨x, A', ?_, g', c⟩
  have tk := ch_tk c
  have hz : s.length ≤ sizeLine := Nat.le_trans (Nat.le_of_lt hx2) (by decide +kernel)
  unfold m_law_of fnM arity b_law_of
  simp only [List.length_cons, List.length_nil, List.map_cons, List.map_nil, List.replicate, List.cons_append, List.nil_append, List.getElem?_cons_zero, List.getElem?_cons_succ, List.set_cons_zero, List.set_cons_succ, sSeq, sIf, sAsg, sRet, sPar, sDput, sNx, sExpr, eOp, eUn, eVar, eC, eCall, eTup, eLst, eIf, aCons, aNil, bOf, bNot, bAnd, bOr, eB, eAnd, eOr, gN, Ot.bind, Ot.then, cmpI, toB, modD, divD, mulD, subD, int2, addD, intF, lenF, max2F, min2F, decide_true, decide_false, if_true, if_false, Bool.false_eq_true, ite_true, ite_false, Bool.not_true, Bool.not_false, decide_eq_true_eq, Nat.reduceSub, Nat.reduceAdd, Nat.reduceEqDiff, fin, take_len, plains, mkTup, mkLst, reduceCtorEq, and_self, and_true, true_and, Bool.or_true, Bool.true_or, e, ixD, at_, tk, hz]
theorem thing_ok {B : Int} {A : Sto} {i : Nat} (g : Gd B A i) (hB : B < 999998000) : ∃ z A', m_law_thing [.loc i] A = .ok (.p z) A' ∧ okX z ∧ Gd (B + 2) A' i ∧ Ch i A A' := by
  obtain ⟨x, A1, e1, hx, g1, c1⟩ := of_list odds g (by omega) (by decide +kernel) (by decide +kernel)
  obtain ⟨v, A2, e2, v0, v1, g2, c2⟩ := draw_ok (many := 6) g1 (by omega) (by omega) (by omega)
  obtain ⟨z, hz, at_⟩ := at_gen (l := six x) v0 v1
  refine ⟨z, A2, ?_, thing_okX hx hz, by rw [show B + 2 = B + 1 + 1 by omega]; exact g2, c1.trans c2⟩
  have s1 : (sAsg (eLst (aCons (eC .none) (aCons (eC (.bool true)) (aCons (eC (.bool false)) (aCons (eC (.int 0)) (aCons (eC (.int 1)) (aCons (eUn negD (eC (.int 1))) (aCons (eC (.int 9)) (aCons (eC (.int 300)) (aCons (eOp powD (eC (.int 10)) (eC (.int 30))) (aCons (eC (.str "")) (aCons (eC (.str "0")) (aCons (eC (.str "form")) (aCons (eC (.str "split")) (aCons (eTup aNil) (aCons (eTup (aCons (eC (.int 0)) aNil)) (aCons (eTup (aCons (eC (.int 0)) (aCons (eC (.int 1)) (aCons (eC (.int 2)) aNil)))) aNil))))))))))))))))) (gN 1)) [some (.loc i), none, none] A = .nx [some (.loc i), some (.p (.list odds16)), none] A := by kernel_rfl
  have y : eOp addD (eVar 1) (eLst (aCons (eLst aNil) (aCons (eLst (aCons (eC (.int 0)) aNil)) (aCons eD0 (aCons (eDsI "a" 1) aNil))))) [some (.loc i), some (.p (.list odds16)), none] A = .ok (.p (.list odds)) A := by kernel_rfl
  have s2 : (sAsg (eCall m_law_of (aCons (eVar 0) (aCons (eOp addD (eVar 1) (eLst (aCons (eLst aNil) (aCons (eLst (aCons (eC (.int 0)) aNil)) (aCons eD0 (aCons (eDsI "a" 1) aNil)))))) aNil))) (gN 2)) [some (.loc i), some (.p (.list odds16)), none] A = .nx [some (.loc i), some (.p (.list odds16)), some (.p x)] A1 := asg_ok (call2 rfl y e1) rfl
  have y2 : (eLst (aCons (eVar 2) (aCons (eVar 2) (aCons (eTup (aCons (eVar 2) (aCons (eLst (aCons (eVar 2) aNil)) aNil))) (aCons (eLst (aCons (eVar 2) (aCons (eTup aNil) aNil))) (aCons (eDsV "b" 2) (aCons (eTup (aCons (eC (.int 0)) (aCons (eTup (aCons (eVar 2) aNil)) aNil))) aNil))))))) [some (.loc i), some (.p (.list odds16)), some (.p x)] A1 = .ok (.p (.list (six x))) A1 := by kernel_rfl
  have y3 : ixD (.p (.list (six x))) (pI v) A2 = .ok (.p z) A2 := by
    simp only [ixD, at_]
  have body : b_law_thing [some (.loc i), none, none] A = .rt (.p z) A2 := (sSeq_nx s1).trans ((sSeq_nx s2).trans (ret_ok (op2 y2 (call2 rfl rfl e2) y3)))
  exact (fnM_rt (b := false) (n := 1) (all := 3) (m := b_law_thing) (ds := [.loc i]) rfl body).trans (by unfold fin; rw [ch_tk (c1.trans c2)])
abbrev signs : Str := "abcdefghijklmnopqrstuvwxyz 0123456789~"
theorem chars_sum (l : List Nat) : ((l.map fun c => (⟨#[c]⟩ : Str)).map (·.length)).sum = l.length := by
  induction l with
  | nil => rfl
  | cons a r ih =>
    show 1 + ((r.map fun c => (⟨#[c]⟩ : Str)).map (·.length)).sum = _
    rw [ih, List.length_cons]
    omega
theorem strsP_chars (l : List Nat) : strsP (l.map fun c => PyData.str ⟨#[c]⟩) = some (l.map fun c => (⟨#[c]⟩ : Str)) := by
  induction l with
  | nil => rfl
  | cons a r ih =>
    show (strsP (r.map fun c => PyData.str ⟨#[c]⟩)).map (⟨#[a]⟩ :: ·) = _
    rw [ih]
    rfl
theorem text_ok {B : Int} {A : Sto} {i : Nat} (g : Gd B A i) (hB : B < 999998000) : ∃ t A', m_law_text [.loc i] A = .ok (.p (.str t)) A' ∧ Gd (B + 13) A' i ∧ Ch i A A' := by
  obtain ⟨v, A1, e1, v0, v1, g1, c1⟩ := draw_ok (many := 12) g (by omega) (by omega) (by omega)
  have x := eComp_r1 (mu := false) (a := aCons (eCall m_law_draw (aCons (eVar 0) (aCons (eC (.int 12)) aNil))) aNil) (own := [2]) (g := gN 2) (t := bYes) (m := eCall m_law_of (aCons (eVar 0) (aCons (eVar 1) aNil))) (env := [some (.loc i), some (.p (.str signs)), none]) (S := A) (S' := A1) (j := v)
    (aCons_ok (call2 rfl rfl e1) rfl) v0 (by omega)
  obtain ⟨acc, A2, e2, l, rfl, hlen, hk, g2, c2⟩ := comp_ok (chk := yes) (g := gN 2) (t := bYes) (m := eCall m_law_of (aCons (eVar 0) (aCons (eVar 1) aNil))) (env := wipeE [some (.loc i), some (.p (.str signs)), none] [2])
    (fun k acc S => ∃ l : List Nat, acc = l.map (fun c => D.p (.str ⟨#[c]⟩)) ∧ l.length = k ∧ k ≤ 12 ∧ Gd (B + 1 + k) S i ∧ Ch i A1 S) (rangeD 0 v.toNat) 0 [] A1
    (fun k acc S h => ⟨rfl, by
      obtain ⟨l, rfl, h1, h2, _⟩ := h
      rw [List.length_map, h1]
      exact Nat.lt_of_le_of_lt h2 (by decide +kernel)⟩)
    (fun k d acc S hk h => by
      obtain ⟨l, rfl, h1, h2, g3, c3⟩ := h
      obtain ⟨hk', rfl⟩ := rng_at hk
      obtain ⟨c, A', e, g4, c4⟩ := of_str signs g3 (by omega) (by decide +kernel) (by decide +kernel) (by decide +kernel)
      refine ⟨[some (.loc i), some (.p (.str signs)), some (pI (k : Nat))], rfl, .inl ⟨_, S, A', rfl, call2 rfl rfl e, l ++ [c], by rw [List.map_append]; rfl, by rw [List.length_append, h1]; rfl, by omega, ?_, c3.trans c4⟩⟩
      rw [show B + 1 + ((0 + k + 1 : Nat) : Int) = B + 1 + ((0 + k : Nat) : Int) + 1 by omega]
      exact g4)
    ⟨[], rfl, rfl, by omega, by simpa using g1, .refl⟩
  have g3 : Gd (B + 13) A2 i := g2.mono (by omega)
  have l3 : l.length ≤ 12 := by omega
  have ee : (l.map fun c => D.p (.str ⟨#[c]⟩)) = (l.map fun c => PyData.str ⟨#[c]⟩).map D.p := by rw [List.map_map]; rfl
  have y : eComp false (iR1 (aCons (eCall m_law_draw (aCons (eVar 0) (aCons (eC (.int 12)) aNil))) aNil)) [2] (gN 2) bYes (eCall m_law_of (aCons (eVar 0) (aCons (eVar 1) aNil))) [some (.loc i), some (.p (.str signs)), none] A = .ok (.p (.list (l.map fun c => PyData.str ⟨#[c]⟩))) A2 := by
    refine x.trans ?_
    rw [e2]
    show keptAs false (l.map fun c => D.p (.str ⟨#[c]⟩)) A2 = _
    rw [ee]
    unfold keptAs
    rw [plains_p]
    rfl
  have z : eJoin (eC (.str "")) (eComp false (iR1 (aCons (eCall m_law_draw (aCons (eVar 0) (aCons (eC (.int 12)) aNil))) aNil)) [2] (gN 2) bYes (eCall m_law_of (aCons (eVar 0) (aCons (eVar 1) aNil)))) [some (.loc i), some (.p (.str signs)), none] A = .ok (.p (.str (Txt.join "" (l.map fun c => (⟨#[c]⟩ : Str))))) A2 := by
    show (Ot.bind (eComp false _ _ _ _ _ [some (.loc i), some (.p (.str signs)), none] A) (joinF "")) = _
    rw [y]
    show joinF "" (.p (.list (l.map fun c => PyData.str ⟨#[c]⟩))) A2 = _
    unfold joinF
    simp only [strsP_chars]
    rw [if_pos]
    rw [chars_sum, List.length_map]
    have e0 : ("" : Str).length = 0 := by decide +kernel
    rw [e0]
    omega
  have body : b_law_text [some (.loc i), none, none] A = .rt (.p (.str (Txt.join "" (l.map fun c => (⟨#[c]⟩ : Str))))) A2 := (sSeq_nx (asg_ok (m := eC (.str signs)) (g := gN 1) rfl rfl)).trans (ret_ok z)
  exact ⟨_, A2, (fnM_rt (b := false) (n := 1) (all := 3) (m := b_law_text) (ds := [.loc i]) rfl body).trans (by unfold fin; rw [ch_tk (c1.trans c2)]), g3, c1.trans c2⟩
end Lw

/-! N5 -/
set_option Elab.async false
set_option linter.all false
set_option maxRecDepth 100000
set_option maxHeartbeats 4000000
set_option autoImplicit false
namespace Lw
open PySem PySem.Spec PyProof.Rows L2 Mi
def b_turn4 : SM := (sSeq (sPar 4 5 (aCons (eCall m_law_thing (aCons (eVar 2) aNil)) (aCons (eCall m_law_thing (aCons (eVar 2) aNil)) aNil))) (sSeq (sAsg (eCall repF (aCons (eLst (aCons (eVar 4) (aCons (eVar 5) aNil))) aNil)) (gN 6)) (sSeq (sIf (bOr (bNot (bOf (eCall m_law_nine_right (aCons (eVar 4) (aCons (eVar 5) aNil))))) (bNot (bOf (eCall m_law_nine_right (aCons (eVar 4) (aCons (eVar 4) aNil)))))) (sRet (eC (.bool false))) sNx) (sIf (bOr (bNot (bOf (eCall m_law_others_right (aCons (eCall m_law_text (aCons (eVar 2) aNil)) aNil)))) (bOf (eOp (eqD true) (eCall repF (aCons (eLst (aCons (eVar 4) (aCons (eVar 5) aNil))) aNil)) (eVar 6)))) (sRet (eC (.bool false))) sNx))))
def b_k : SM := (sSeq (sAsg (eCall m_law_begun (aCons (eVar 0) (aCons (eVar 1) aNil))) (gN 2)) (sFor (iR1 (aCons (eC (.int 4)) aNil)) (gN 3) (sSeq (sPar 4 5 (aCons (eCall m_law_thing (aCons (eVar 2) aNil)) (aCons (eCall m_law_thing (aCons (eVar 2) aNil)) aNil))) (sSeq (sAsg (eCall repF (aCons (eLst (aCons (eVar 4) (aCons (eVar 5) aNil))) aNil)) (gN 6)) (sSeq (sIf (bOr (bNot (bOf (eCall m_law_nine_right (aCons (eVar 4) (aCons (eVar 5) aNil))))) (bNot (bOf (eCall m_law_nine_right (aCons (eVar 4) (aCons (eVar 4) aNil)))))) (sRet (eC (.bool false))) sNx) (sIf (bOr (bNot (bOf (eCall m_law_others_right (aCons (eCall m_law_text (aCons (eVar 2) aNil)) aNil)))) (bOf (eOp (eqD true) (eCall repF (aCons (eLst (aCons (eVar 4) (aCons (eVar 5) aNil))) aNil)) (eVar 6)))) (sRet (eC (.bool false))) sNx))))))
abbrev EL (ns : List Int) (o1 o2 o3 o4 o5 o6 : Option D) : Envr := [some (.scr ns), o1, o2, o3, o4, o5, o6]
theorem ok2 {x y : PyData} (kx : okX x) (ky : okX y) : okD (.list [x, y]) 3000 11 := okD_mono (okD_list (m := 2) (c := 1000) (h := 10) (fun d hd => by
    rcases List.mem_cons.mp hd with rfl | hd
    · exact kx
    · rw [List.mem_singleton.mp hd]; exact ky) (by show 2 ≤ 2; omega)) (by omega) (by omega)
theorem turn4 {B : Int} {ns : List Int} {i : Nat} {S : Sto} {o1 o3 o4 o5 o6 : Option D} (g : Gd B S i) (hB : B < 999000000) :
    ∃ o4' o5' o6' S', b_turn4 (EL ns o1 (some (.loc i)) o3 o4 o5 o6) S = .nx (EL ns o1 (some (.loc i)) o3 o4' o5' o6') S' ∧ Gd (B + 20) S' i := by
  obtain ⟨x, A1, e1, kx, g1, c1⟩ := thing_ok g (by omega)
  obtain ⟨y, A2, e2, ky, g2, c2⟩ := thing_ok g1 (by omega)
  obtain ⟨t, A3, e3, g3, c3⟩ := text_ok g2 (by omega)
  have s1 : (sPar 4 5 (aCons (eCall m_law_thing (aCons (eVar 2) aNil)) (aCons (eCall m_law_thing (aCons (eVar 2) aNil)) aNil))) (EL ns o1 (some (.loc i)) o3 o4 o5 o6) S = .nx (EL ns o1 (some (.loc i)) o3 (some (.p x)) (some (.p y)) o6) A2 := par_ok (call1 rfl e1) (call1 rfl e2)
  have l2 : ∀ (o6 : Option D) (A : Sto), eLst (aCons (eVar 4) (aCons (eVar 5) aNil)) (EL ns o1 (some (.loc i)) o3 (some (.p x)) (some (.p y)) o6) A = .ok (.p (.list [x, y])) A := fun _ _ => lst2 rfl rfl
  have s2 : (sAsg (eCall repF (aCons (eLst (aCons (eVar 4) (aCons (eVar 5) aNil))) aNil)) (gN 6)) (EL ns o1 (some (.loc i)) o3 (some (.p x)) (some (.p y)) o6) A2 = .nx (EL ns o1 (some (.loc i)) o3 (some (.p x)) (some (.p y)) (some (.p (.str (PyData.list [x, y]).shown)))) A2 := asg_ok (call1 (l2 _ _) (rep_ok (ok2 kx ky) (by omega) (by omega))) rfl
  have s3 : (sIf (bOr (bNot (bOf (eCall m_law_nine_right (aCons (eVar 4) (aCons (eVar 5) aNil))))) (bNot (bOf (eCall m_law_nine_right (aCons (eVar 4) (aCons (eVar 4) aNil)))))) (sRet (eC (.bool false))) sNx) (EL ns o1 (some (.loc i)) o3 (some (.p x)) (some (.p y)) (some (.p (.str (PyData.list [x, y]).shown)))) A2 = .nx (EL ns o1 (some (.loc i)) o3 (some (.p x)) (some (.p y)) (some (.p (.str (PyData.list [x, y]).shown)))) A2 :=
    (if_no (bor_no (nots (call2 rfl rfl (nine_ok kx ky A2))) (nots (call2 rfl rfl (nine_ok kx kx A2))))).trans rfl
  have s4 : (sIf (bOr (bNot (bOf (eCall m_law_others_right (aCons (eCall m_law_text (aCons (eVar 2) aNil)) aNil)))) (bOf (eOp (eqD true) (eCall repF (aCons (eLst (aCons (eVar 4) (aCons (eVar 5) aNil))) aNil)) (eVar 6)))) (sRet (eC (.bool false))) sNx) (EL ns o1 (some (.loc i)) o3 (some (.p x)) (some (.p y)) (some (.p (.str (PyData.list [x, y]).shown)))) A2 = .nx (EL ns o1 (some (.loc i)) o3 (some (.p x)) (some (.p y)) (some (.p (.str (PyData.list [x, y]).shown)))) A3 :=
    (if_no (bor_no (nots (call1 (call1 rfl e3) (others_ok t A3))) (bof_ok (op2 (call1 (l2 _ _) (rep_ok (ok2 kx ky) (by omega) (by omega))) rfl (eq_str true (ok2 kx ky)))))).trans rfl
  exact ⟨_, _, _, A3, (sSeq_nx s1).trans ((sSeq_nx s2).trans ((sSeq_nx s3).trans s4)), g3.mono (by omega)⟩
theorem k_turn {ns : List Int} {k : Nat} {S : Sto} {o2 o3 o4 o5 o6 : Option D} (hl : ns.length ≤ 63) (hk : k ≤ 100) : ∃ o2' o3' o4' o5' o6' S', b_k (EL ns (some (pI (k : Nat))) o2 o3 o4 o5 o6) S = .nx (EL ns (some (pI (k : Nat))) o2' o3' o4' o5' o6') S' := by
  obtain ⟨c, e1, g1⟩ := begun_ok (S := S) hl hk
  have s1 : (sAsg (eCall m_law_begun (aCons (eVar 0) (aCons (eVar 1) aNil))) (gN 2)) (EL ns (some (pI (k : Nat))) o2 o3 o4 o5 o6) S = .nx (EL ns (some (pI (k : Nat))) (some (.loc S.length)) o3 o4 o5 o6) (S ++ [c]) := asg_ok (call2 rfl rfl e1) rfl
  have st : ∀ (j : Nat) (d : D) (env : Envr) (S' : Sto), (rangeD 0 4)[j]? = some d → (∃ o3 o4 o5 o6, env = EL ns (some (pI (k : Nat))) (some (.loc S.length)) o3 o4 o5 o6 ∧ Gd (20 * ((0 + j : Nat) : Int)) S' S.length) →
      ∃ e1 e2 S2, gN 3 d env = some e1 ∧ (b_turn4 e1 S' = .nx e2 S2 ∨ b_turn4 e1 S' = .ct e2 S2) ∧ (∃ o3 o4 o5 o6, e2 = EL ns (some (pI (k : Nat))) (some (.loc S.length)) o3 o4 o5 o6 ∧ Gd (20 * ((0 + j + 1 : Nat) : Int)) S2 S.length) := by
    rintro j d env S' hj ⟨o3, o4, o5, o6, rfl, g⟩
    obtain ⟨hj', rfl⟩ := rng_at hj
    obtain ⟨o4', o5', o6', S2, e, g2⟩ := turn4 (ns := ns) (o1 := some (pI (k : Nat))) (o3 := some (pI (j : Nat))) (o4 := o4) (o5 := o5) (o6 := o6) g (by omega)
    exact ⟨_, _, S2, rfl, .inl e, _, _, _, _, rfl, g2.mono (by omega)⟩
  obtain ⟨env', S', q1, o3', o4', o5', o6', rfl, _⟩ := loop_ok (chk := yes) (g := gN 3) (body := b_turn4) (fun n env S' => ∃ o3 o4 o5 o6, env = EL ns (some (pI (k : Nat))) (some (.loc S.length)) o3 o4 o5 o6 ∧ Gd (20 * ((n : Nat) : Int)) S' S.length)
    (rangeD 0 4) 0 (EL ns (some (pI (k : Nat))) (some (.loc S.length)) o3 o4 o5 o6) (S ++ [c]) (fun _ _ _ _ => rfl) st ⟨_, _, _, _, rfl, by simpa using g1⟩
  have x2 := sFor_r1 (a := aCons (eC (.int 4)) aNil) (g := gN 3) (body := b_turn4) (env := EL ns (some (pI (k : Nat))) (some (.loc S.length)) o3 o4 o5 o6) (S := S ++ [c]) (S' := S ++ [c]) (j := 4) rfl (by omega) (by omega)
  exact ⟨_, _, _, _, _, S', (sSeq_nx s1).trans (x2.trans q1)⟩
theorem fin1 : okX (.list [.int 0, .tuple [.str "form"]]) := okB_ok (by decide +kernel)
theorem fin2 : okX (.tuple [.str "split", .tuple []]) := okB_ok (by decide +kernel)
theorem fin3 : okX (.bool true) := okB_ok (by decide +kernel)
theorem fin4 : okX .none := okB_ok (by decide +kernel)
theorem law_ok (ns : List Int) (hl : ns.length ≤ 63) : ∃ S, m_law [.scr ns] [] = .ok (.p (.bool true)) S := by
  obtain ⟨N, hN, h9⟩ : ∃ N : Nat, (N : Int) = 3 + (if (6 : Int) < (ns.length : Int) then 6 else (ns.length : Int)) ∧ N ≤ 9 := by
    by_cases q : (6 : Int) < (ns.length : Int)
    · exact ⟨9, by rw [if_pos q]; rfl, by omega⟩
    · exact ⟨3 + ns.length, by rw [if_neg q]; omega, by omega⟩
  have y : aCons (eOp addD (eC (.int 3)) (eCall min2F (aCons (eCall lenF (aCons (eVar 0) aNil)) (aCons (eC (.int 6)) aNil)))) aNil (EL ns none none none none none none) [] = .ok [pI N] [] := by
    rw [hN]
    rfl
  have step : ∀ (j : Nat) (d : D) (env : Envr) (S : Sto), (rangeD 0 N)[j]? = some d → (∃ o1 o2 o3 o4 o5 o6, env = EL ns o1 o2 o3 o4 o5 o6) →
      ∃ e1 e2 S2, gN 1 d env = some e1 ∧ (b_k e1 S = .nx e2 S2 ∨ b_k e1 S = .ct e2 S2) ∧ (∃ o1 o2 o3 o4 o5 o6, e2 = EL ns o1 o2 o3 o4 o5 o6) := by
    rintro j d env S hj ⟨o1, o2, o3, o4, o5, o6, rfl⟩
    obtain ⟨hj', rfl⟩ := rng_at hj
    obtain ⟨o2', o3', o4', o5', o6', S', e⟩ := k_turn (ns := ns) (k := j) (S := S) (o2 := o2) (o3 := o3) (o4 := o4) (o5 := o5) (o6 := o6) hl (by omega)
    exact ⟨_, _, S', rfl, .inl e, _, _, _, _, _, _, rfl⟩
  obtain ⟨env', S', q1, o1, o2, o3, o4, o5, o6, rfl⟩ := loop_ok (chk := yes) (g := gN 1) (body := b_k) (fun _ env _ => ∃ o1 o2 o3 o4 o5 o6, env = EL ns o1 o2 o3 o4 o5 o6)
    (rangeD 0 N) 0 (EL ns none none none none none none) [] (fun _ _ _ _ => rfl) step ⟨_, _, _, _, _, _, rfl⟩
  have x2 := sFor_r1 (g := gN 1) (body := b_k) y (by omega) (by omega)
  rw [Int.toNat_natCast] at x2
  have a1 : (eLst (aCons (eC (.int 0)) (aCons (eTup (aCons (eC (.str "form")) aNil)) aNil))) (EL ns o1 o2 o3 o4 o5 o6) S' = .ok (.p (.list [.int 0, .tuple [.str "form"]])) S' := by kernel_rfl
  have a2 : (eTup (aCons (eC (.str "split")) (aCons (eTup aNil) aNil))) (EL ns o1 o2 o3 o4 o5 o6) S' = .ok (.p (.tuple [.str "split", .tuple []])) S' := by kernel_rfl
  have z := and_ok (call2 (env := EL ns o1 o2 o3 o4 o5 o6) (m := eC .none) rfl a1 (nine_ok fin4 fin1 S')) (call2 (m2 := eC (.bool true)) a2 rfl (nine_ok fin2 fin3 S'))
  have body : b_law (EL ns none none none none none none) [] = .rt (.p (.bool true)) S' := (sSeq_nx (x2.trans q1)).trans (ret_ok z)
  exact ⟨_, (fnM_rt (b := false) (n := 1) (all := 7) (m := b_law) (ds := [.scr ns]) rfl body).trans rfl⟩
end Lw

/-! H4 -/
set_option Elab.async false
set_option linter.all false
set_option maxRecDepth 100000
set_option maxHeartbeats 4000000
set_option autoImplicit false
namespace Lw
open PySem PySem.Spec PyProof.Rows L2 Mi
theorem all_mk {l : PySem.W.OpenLaw} {w : World} {K : PySem.W.Frag} {h : Heap} {mg : Str → Option Value} {fa f0 f1 f2 f3 f4 f5 f6 f7 f8 f9 f10 f11 f12 : Addr} (X : K.In h) (G : h.Ns mainGlobals mg) (hfa : mg "law" = some (.ref fa))
    {od0 an0 od1 an1 od2 an2 od3 an3 od4 an4 od5 an5 od6 an6 od7 an7 od8 an8 od9 an9 od10 an10 od11 an11 od12 an12 : Option Addr} {sl0 sl1 sl2 sl3 sl4 sl5 sl6 sl7 sl8 sl9 sl10 sl11 sl12 : Array (Option Value)} {oc0 kV0 dc0 pm0 cd0 ct0 oc1 kV1 dc1 pm1 cd1 ct1 oc2 kV2 dc2 pm2 cd2 ct2 oc3 kV3 dc3 pm3 cd3 ct3 oc4 kV4 dc4 pm4 cd4 ct4 oc5 kV5 dc5 pm5 cd5 ct5 oc6 kV6 dc6 pm6 cd6 ct6 oc7 kV7 dc7 pm7 cd7 ct7 oc8 kV8 dc8 pm8 cd8 ct8 oc9 kV9 dc9 pm9 cd9 ct9 oc10 kV10 dc10 pm10 cd10 ct10 oc11 kV11 dc11 pm11 cd11 ct11 oc12 kV12 dc12 pm12 cd12 ct12 : Value}  {C0 : Addr} {C1 : Addr} {I1 N1 cda1 cc1 : Addr} {nm1 qn1 file1 : Str} {bs1 : List Value} {sn1 : List Str} {sub1 : List Value} {ab1 : Bool} {co1 : Option Bool} {dd1 xd1 xn1 yd1 zd1 : Option Addr} {m01 m11 m21 m31 m51 : Option Value} {xo1 xdc1 xpm1 xct1 yc1 zc1 : Value} {xs1 ys1 zs1 : Array (Option Value)} {vs1 : Array Value} {tf1 : Tok} {C2 : Addr} {I2 N2 cda2 cc2 : Addr} {nm2 qn2 file2 : Str} {bs2 : List Value} {sn2 : List Str} {sub2 : List Value} {ab2 : Bool} {co2 : Option Bool} {dd2 xd2 xn2 yd2 zd2 : Option Addr} {m02 m12 m22 m32 m52 : Option Value} {xo2 xdc2 xpm2 xct2 yc2 zc2 : Value} {xs2 ys2 zs2 : Array (Option Value)} {vs2 : Array Value} {tf2 : Tok} {C3 : Addr} {I3 N3 cda3 cc3 : Addr} {nm3 qn3 file3 : Str} {bs3 : List Value} {sn3 : List Str} {sub3 : List Value} {ab3 : Bool} {co3 : Option Bool} {dd3 xd3 xn3 yd3 zd3 : Option Addr} {m03 m13 m23 m33 m53 : Option Value} {xo3 xdc3 xpm3 xct3 yc3 zc3 : Value} {xs3 ys3 zs3 : Array (Option Value)} {vs3 : Array Value} {tf3 : Tok} {C4 : Addr} {I4 N4 cda4 cc4 : Addr} {nm4 qn4 file4 : Str} {bs4 : List Value} {sn4 : List Str} {sub4 : List Value} {ab4 : Bool} {co4 : Option Bool} {dd4 xd4 xn4 yd4 zd4 : Option Addr} {m04 m14 m24 m34 m54 : Option Value} {xo4 xdc4 xpm4 xct4 yc4 zc4 : Value} {xs4 ys4 zs4 : Array (Option Value)} {vs4 : Array Value} {tf4 : Tok} {C5 : Addr} {I5 N5 cda5 cc5 : Addr} {nm5 qn5 file5 : Str} {bs5 : List Value} {sn5 : List Str} {sub5 : List Value} {ab5 : Bool} {co5 : Option Bool} {dd5 xd5 xn5 yd5 zd5 : Option Addr} {m05 m15 m25 m35 m55 : Option Value} {xo5 xdc5 xpm5 xct5 yc5 zc5 : Value} {xs5 ys5 zs5 : Array (Option Value)} {vs5 : Array Value} {tf5 : Tok} {C6 : Addr} {I6 N6 cda6 cc6 : Addr} {nm6 qn6 file6 : Str} {bs6 : List Value} {sn6 : List Str} {sub6 : List Value} {ab6 : Bool} {co6 : Option Bool} {dd6 xd6 xn6 yd6 zd6 : Option Addr} {m06 m16 m26 m36 m56 : Option Value} {xo6 xdc6 xpm6 xct6 yc6 zc6 : Value} {xs6 ys6 zs6 : Array (Option Value)} {vs6 : Array Value} {tf6 : Tok} {C7 : Addr} {I7 N7 cda7 cc7 : Addr} {nm7 qn7 file7 : Str} {bs7 : List Value} {sn7 : List Str} {sub7 : List Value} {ab7 : Bool} {co7 : Option Bool} {dd7 xd7 xn7 yd7 zd7 : Option Addr} {m07 m17 m27 m37 m57 : Option Value} {xo7 xdc7 xpm7 xct7 yc7 zc7 : Value} {xs7 ys7 zs7 : Array (Option Value)} {vs7 : Array Value} {tf7 : Tok} {C8 : Addr} {I8 N8 cda8 cc8 : Addr} {nm8 qn8 file8 : Str} {bs8 : List Value} {sn8 : List Str} {sub8 : List Value} {ab8 : Bool} {co8 : Option Bool} {dd8 xd8 xn8 yd8 zd8 : Option Addr} {m08 m18 m28 m38 m58 : Option Value} {xo8 xdc8 xpm8 xct8 yc8 zc8 : Value} {xs8 ys8 zs8 : Array (Option Value)} {vs8 : Array Value} {tf8 : Tok} {C9 : Addr} {I9 N9 cda9 cc9 : Addr} {nm9 qn9 file9 : Str} {bs9 : List Value} {sn9 : List Str} {sub9 : List Value} {ab9 : Bool} {co9 : Option Bool} {dd9 xd9 xn9 yd9 zd9 : Option Addr} {m09 m19 m29 m39 m59 : Option Value} {xo9 xdc9 xpm9 xct9 yc9 zc9 : Value} {xs9 ys9 zs9 : Array (Option Value)} {vs9 : Array Value} {tf9 : Tok} {C10 : Addr} {I10 N10 cda10 cc10 : Addr} {nm10 qn10 file10 : Str} {bs10 : List Value} {sn10 : List Str} {sub10 : List Value} {ab10 : Bool} {co10 : Option Bool} {dd10 xd10 xn10 yd10 zd10 : Option Addr} {m010 m110 m210 m310 m510 : Option Value} {xo10 xdc10 xpm10 xct10 yc10 zc10 : Value} {xs10 ys10 zs10 : Array (Option Value)} {vs10 : Array Value} {tf10 : Tok}
    (b_an : PySem.W.nsIn K mainGlobals "any" = some none)
    (a0 : PySem.W.nsIn K mainGlobals "_law_begun" = some (some (.ref f0))) (l0 : K.lookup f0 = some ⟨oc0, od0, .func (PySem.W.fnOf "_law_begun" "_law_begun" (defArgs s_law_begun) (defBody s_law_begun) (defScope s_law_begun) .none kV0 dc0 pm0 an0 cd0 ct0), sl0⟩) (c0 : PySem.W.codeIn K cd0 "_law_begun" = true) (k0 : PySem.W.keepIn K (.ref f0) = true)
    (a1 : PySem.W.nsIn K mainGlobals "_law_draw" = some (some (.ref f1))) (l1 : K.lookup f1 = some ⟨oc1, od1, .func (PySem.W.fnOf "_law_draw" "_law_draw" (defArgs s_law_draw) (defBody s_law_draw) (defScope s_law_draw) .none kV1 dc1 pm1 an1 cd1 ct1), sl1⟩) (c1 : PySem.W.codeIn K cd1 "_law_draw" = true) (k1 : PySem.W.keepIn K (.ref f1) = true)
    (a2 : PySem.W.nsIn K mainGlobals "_law_of" = some (some (.ref f2))) (l2 : K.lookup f2 = some ⟨oc2, od2, .func (PySem.W.fnOf "_law_of" "_law_of" (defArgs s_law_of) (defBody s_law_of) (defScope s_law_of) .none kV2 dc2 pm2 an2 cd2 ct2), sl2⟩) (c2 : PySem.W.codeIn K cd2 "_law_of" = true) (k2 : PySem.W.keepIn K (.ref f2) = true)
    (a3 : PySem.W.nsIn K mainGlobals "_law_thing" = some (some (.ref f3))) (l3 : K.lookup f3 = some ⟨oc3, od3, .func (PySem.W.fnOf "_law_thing" "_law_thing" (defArgs s_law_thing) (defBody s_law_thing) (defScope s_law_thing) .none kV3 dc3 pm3 an3 cd3 ct3), sl3⟩) (c3 : PySem.W.codeIn K cd3 "_law_thing" = true) (k3 : PySem.W.keepIn K (.ref f3) = true)
    (a4 : PySem.W.nsIn K mainGlobals "_law_made" = some (some (.ref f4))) (l4 : K.lookup f4 = some ⟨oc4, od4, .func (PySem.W.fnOf "_law_made" "_law_made" (defArgs s_law_made) (defBody s_law_made) (defScope s_law_made) .none kV4 dc4 pm4 an4 cd4 ct4), sl4⟩) (c4 : PySem.W.codeIn K cd4 "_law_made" = true) (k4 : PySem.W.keepIn K (.ref f4) = true)
    (a5 : PySem.W.nsIn K mainGlobals "_law_named" = some (some (.ref f5))) (l5 : K.lookup f5 = some ⟨oc5, od5, .func (PySem.W.fnOf "_law_named" "_law_named" (defArgs s_law_named) (defBody s_law_named) (defScope s_law_named) .none kV5 dc5 pm5 an5 cd5 ct5), sl5⟩) (c5 : PySem.W.codeIn K cd5 "_law_named" = true) (k5 : PySem.W.keepIn K (.ref f5) = true)
    (a6 : PySem.W.nsIn K mainGlobals "_law_fields" = some (some (.ref f6))) (l6 : K.lookup f6 = some ⟨oc6, od6, .func (PySem.W.fnOf "_law_fields" "_law_fields" (defArgs s_law_fields) (defBody s_law_fields) (defScope s_law_fields) .none kV6 dc6 pm6 an6 cd6 ct6), sl6⟩) (c6 : PySem.W.codeIn K cd6 "_law_fields" = true) (k6 : PySem.W.keepIn K (.ref f6) = true)
    (a7 : PySem.W.nsIn K mainGlobals "_law_kinds" = some (some (.ref f7))) (l7 : K.lookup f7 = some ⟨oc7, od7, .func (PySem.W.fnOf "_law_kinds" "_law_kinds" (defArgs s_law_kinds) (defBody s_law_kinds) (defScope s_law_kinds) .none kV7 dc7 pm7 an7 cd7 ct7), sl7⟩) (c7 : PySem.W.codeIn K cd7 "_law_kinds" = true) (k7 : PySem.W.keepIn K (.ref f7) = true)
    (a8 : PySem.W.nsIn K mainGlobals "_law_elders" = some (some (.ref f8))) (l8 : K.lookup f8 = some ⟨oc8, od8, .func (PySem.W.fnOf "_law_elders" "_law_elders" (defArgs s_law_elders) (defBody s_law_elders) (defScope s_law_elders) .none kV8 dc8 pm8 an8 cd8 ct8), sl8⟩) (c8 : PySem.W.codeIn K cd8 "_law_elders" = true) (k8 : PySem.W.keepIn K (.ref f8) = true)
    (a9 : PySem.W.nsIn K mainGlobals "_law_nine_right" = some (some (.ref f9))) (l9 : K.lookup f9 = some ⟨oc9, od9, .func (PySem.W.fnOf "_law_nine_right" "_law_nine_right" (defArgs s_law_nine_right) (defBody s_law_nine_right) (defScope s_law_nine_right) .none kV9 dc9 pm9 an9 cd9 ct9), sl9⟩) (c9 : PySem.W.codeIn K cd9 "_law_nine_right" = true) (k9 : PySem.W.keepIn K (.ref f9) = true)
    (a10 : PySem.W.nsIn K mainGlobals "_law_others_right" = some (some (.ref f10))) (l10 : K.lookup f10 = some ⟨oc10, od10, .func (PySem.W.fnOf "_law_others_right" "_law_others_right" (defArgs s_law_others_right) (defBody s_law_others_right) (defScope s_law_others_right) .none kV10 dc10 pm10 an10 cd10 ct10), sl10⟩) (c10 : PySem.W.codeIn K cd10 "_law_others_right" = true) (k10 : PySem.W.keepIn K (.ref f10) = true)
    (a11 : PySem.W.nsIn K mainGlobals "_law_text" = some (some (.ref f11))) (l11 : K.lookup f11 = some ⟨oc11, od11, .func (PySem.W.fnOf "_law_text" "_law_text" (defArgs s_law_text) (defBody s_law_text) (defScope s_law_text) .none kV11 dc11 pm11 an11 cd11 ct11), sl11⟩) (c11 : PySem.W.codeIn K cd11 "_law_text" = true) (k11 : PySem.W.keepIn K (.ref f11) = true)
    (a12 : PySem.W.nsIn K mainGlobals "law" = some (some (.ref f12))) (l12 : K.lookup f12 = some ⟨oc12, od12, .func (PySem.W.fnOf "law" "law" (defArgs s_law) (defBody s_law) (defScope s_law) .none kV12 dc12 pm12 an12 cd12 ct12), sl12⟩) (c12 : PySem.W.codeIn K cd12 "law" = true) (k12 : PySem.W.keepIn K (.ref f12) = true)
    (z_len0 : PySem.W.nsIn K mainGlobals "len" = some none)
    (z_int0 : PySem.W.nsIn K mainGlobals "int" = some none)
    (z_max0 : PySem.W.nsIn K mainGlobals "max" = some none)
    (z_min0 : PySem.W.nsIn K mainGlobals "min" = some none)
    (z_tuple0 : PySem.W.nsIn K mainGlobals "tuple" = some none)
    (z_list0 : PySem.W.nsIn K mainGlobals "list" = some none)
    (z_repr0 : PySem.W.nsIn K mainGlobals "repr" = some none)
    (z_range0 : PySem.W.nsIn K mainGlobals "range" = some none)
    (z_isinstance0 : PySem.W.nsIn K mainGlobals "isinstance" = some none)
    (z_bool0 : PySem.W.nsIn K mainGlobals "bool" = some none)
    (z_str0 : PySem.W.nsIn K mainGlobals "str" = some none)
    (z_dict0 : PySem.W.nsIn K mainGlobals "dict" = some none)
    (z_enumerate0 : PySem.W.nsIn K mainGlobals "enumerate" = some none)
    (z_zip0 : PySem.W.nsIn K mainGlobals "zip" = some none)
    (z_sorted0 : PySem.W.nsIn K mainGlobals "sorted" = some none)
    (z_set0 : PySem.W.nsIn K mainGlobals "set" = some none)
    (e_sup : PySem.W.nsIn K mainGlobals "super" = some none) (e_np : PySem.W.nsIn K cStatics "thirdparty.any" = some none) (e_top : (l.prog.main.scope.names.lookup ("super" : Str)).isSome = false) (e_hn : PySem.W.specialIn K (.builtin "object.__class__") "__get__" = some (some (.builtin "getset_descriptor.__get__"))) (e_ht : PySem.W.takesIn K (.builtin "object.__class__") = some true)
    (e_noIndexError : PySem.W.nsIn K mainGlobals "IndexError" = some none)
    (e_noKeyError : PySem.W.nsIn K mainGlobals "KeyError" = some none)
    (e_noLookupError : PySem.W.nsIn K mainGlobals "LookupError" = some none)
    (e_noOverflowError : PySem.W.nsIn K mainGlobals "OverflowError" = some none)
    (e_noRuntimeError : PySem.W.nsIn K mainGlobals "RuntimeError" = some none)
    (e_noTypeError : PySem.W.nsIn K mainGlobals "TypeError" = some none)
    (e_noValueError : PySem.W.nsIn K mainGlobals "ValueError" = some none)
    (e_noZeroDivisionError : PySem.W.nsIn K mainGlobals "ZeroDivisionError" = some none)
    (e0a : PySem.W.nsIn K mainGlobals "PartError" = some (some (.ref C0))) (e0nplace : PySem.W.findIn K (.ref C0) "place" = some none) (e0nvalue : PySem.W.findIn K (.ref C0) "value" = some none) (e0nword : PySem.W.findIn K (.ref C0) "word" = some none) (e0nmost : PySem.W.findIn K (.ref C0) "most" = some none) (e0kC : PySem.W.keepIn K (.ref C0) = true) (e0eC : PySem.W.subIn K (.ref C0) (.type "BaseException") = some true) (e0ga : PySem.W.findIn K (.ref C0) "__getattribute__" = some (some (.builtin "BaseException.__getattribute__"))) (e0gg : PySem.W.findIn K (.ref C0) "__getattr__" = some none) (e0hd : PySem.W.hasDictIn K C0 = true) (e0hc : PySem.W.findIn K (.ref C0) "__class__" = some (some (.builtin "object.__class__"))) (e0hm : PySem.W.mroIn K C0 (.type "object") = some true) (e0cl : (PySem.W.clsIn K C0).isSome = true) (e0xi : PySem.W.excIn K C0 [.type "ValueError", .type "Exception", .type "BaseException", .type "object"] "ValueError.__new__" = true) (e0isAlone : PySem.W.kitOne K (.ref C0) (.ref C10) = some false) (e0isBadCode : PySem.W.kitOne K (.ref C0) (.ref C6) = some false) (e0isBadMachine : PySem.W.kitOne K (.ref C0) (.ref C1) = some false) (e0isBadNumber : PySem.W.kitOne K (.ref C0) (.ref C7) = some false) (e0isBadPaper : PySem.W.kitOne K (.ref C0) (.ref C8) = some false) (e0isBadParting : PySem.W.kitOne K (.ref C0) (.ref C3) = some false) (e0isBadRow : PySem.W.kitOne K (.ref C0) (.ref C5) = some false) (e0isBadStanding : PySem.W.kitOne K (.ref C0) (.ref C4) = some false) (e0isBadWord : PySem.W.kitOne K (.ref C0) (.ref C2) = some false) (e0isLookupError : PySem.W.kitOne K (.ref C0) (.type "LookupError") = some false) (e0isOverflowError : PySem.W.kitOne K (.ref C0) (.type "OverflowError") = some false) (e0isPartError : PySem.W.kitOne K (.ref C0) (.ref C0) = some true) (e0isTooGreat : PySem.W.kitOne K (.ref C0) (.ref C9) = some false) (e0isValueError : PySem.W.kitOne K (.ref C0) (.type "ValueError") = some true) (e0tp0 : PySem.W.kitAny K (.ref C0) [.type "KeyError", .type "IndexError"] = some false) (e0tp1 : PySem.W.kitAny K (.ref C0) [.type "TypeError", .type "RuntimeError", .type "ZeroDivisionError"] = some false)
    (e1a : PySem.W.nsIn K mainGlobals "BadMachine" = some (some (.ref C1))) (e1nplace : PySem.W.findIn K (.ref C1) "place" = some none) (e1nvalue : PySem.W.findIn K (.ref C1) "value" = some none) (e1nword : PySem.W.findIn K (.ref C1) "word" = some none) (e1nmost : PySem.W.findIn K (.ref C1) "most" = some none) (e1kC : PySem.W.keepIn K (.ref C1) = true) (e1eC : PySem.W.subIn K (.ref C1) (.type "BaseException") = some true) (e1ga : PySem.W.findIn K (.ref C1) "__getattribute__" = some (some (.builtin "BaseException.__getattribute__"))) (e1gg : PySem.W.findIn K (.ref C1) "__getattr__" = some none) (e1hd : PySem.W.hasDictIn K C1 = true) (e1hc : PySem.W.findIn K (.ref C1) "__class__" = some (some (.builtin "object.__class__"))) (e1hm : PySem.W.mroIn K C1 (.type "object") = some true) (e1cl : (PySem.W.clsIn K C1).isSome = true) (e1l : K.lookup C1 = some (PySem.excClassObj nm1 qn1 C1 N1 bs1 [.ref C0, .type "ValueError", .type "Exception", .type "BaseException", .type "object"] true sn1 sub1 ab1 co1 dd1 m01 m11 m21 m31 m51 "ValueError.__new__")) (e1sa : PySem.W.findIn K (.ref C1) "__setattr__" = some (some (.builtin "object.__setattr__"))) (e1iC : PySem.W.findIn K (.ref C1) "__init__" = some (some (.ref I1))) (e1tI : PySem.W.typeIn K (.ref I1) = some (.type "function")) (e1vC : PySem.W.subIn K (.ref C1) (.type "ValueError") = some true) (e1sC : PySem.W.mroIn K C1 (.ref C1) = some true) (e1up : PySem.W.ks_superIn K C1 C1 "__init__" = some (some (.builtin "ValueError.__init__"))) (e1fn : K.lookup I1 = some ⟨xo1, xd1, .func (erFd "BadMachine.__init__" "place" "this is no machine" ⟨⟨7, 8, 7, 13⟩, ⟨7, 8, 7, 15⟩, ⟨7, 8, 7, 24⟩, ⟨7, 25, 7, 45⟩, ⟨7, 8, 7, 46⟩, ⟨7, 8, 7, 46⟩, ⟨8, 8, 8, 12⟩, ⟨8, 8, 8, 18⟩, ⟨8, 21, 8, 26⟩, ⟨8, 8, 8, 26⟩, ⟨6, 17, 6, 21⟩, ⟨6, 23, 6, 28⟩⟩ xdc1 xpm1 xn1 (.ref cda1) xct1 cc1), xs1⟩) (e1cd : PySem.W.codeIn K (.ref cda1) "BadMachine.__init__" = true) (e1co : K.lookup cda1 = some ⟨yc1, yd1, .fields vs1, ys1⟩) (e1fi : vs1[2]? = some (.str file1 tf1)) (e1fj : ((l.prog.main.file : Str) == file1) = true) (e1ce : K.lookup cc1 = some ⟨zc1, zd1, .cell (some (.ref C1)), zs1⟩) (e1isAlone : PySem.W.kitOne K (.ref C1) (.ref C10) = some false) (e1isBadCode : PySem.W.kitOne K (.ref C1) (.ref C6) = some false) (e1isBadMachine : PySem.W.kitOne K (.ref C1) (.ref C1) = some true) (e1isBadNumber : PySem.W.kitOne K (.ref C1) (.ref C7) = some false) (e1isBadPaper : PySem.W.kitOne K (.ref C1) (.ref C8) = some false) (e1isBadParting : PySem.W.kitOne K (.ref C1) (.ref C3) = some false) (e1isBadRow : PySem.W.kitOne K (.ref C1) (.ref C5) = some false) (e1isBadStanding : PySem.W.kitOne K (.ref C1) (.ref C4) = some false) (e1isBadWord : PySem.W.kitOne K (.ref C1) (.ref C2) = some false) (e1isLookupError : PySem.W.kitOne K (.ref C1) (.type "LookupError") = some false) (e1isOverflowError : PySem.W.kitOne K (.ref C1) (.type "OverflowError") = some false) (e1isPartError : PySem.W.kitOne K (.ref C1) (.ref C0) = some true) (e1isTooGreat : PySem.W.kitOne K (.ref C1) (.ref C9) = some false) (e1isValueError : PySem.W.kitOne K (.ref C1) (.type "ValueError") = some true) (e1tp0 : PySem.W.kitAny K (.ref C1) [.type "KeyError", .type "IndexError"] = some false) (e1tp1 : PySem.W.kitAny K (.ref C1) [.type "TypeError", .type "RuntimeError", .type "ZeroDivisionError"] = some false)
    (e2a : PySem.W.nsIn K mainGlobals "BadWord" = some (some (.ref C2))) (e2nplace : PySem.W.findIn K (.ref C2) "place" = some none) (e2nvalue : PySem.W.findIn K (.ref C2) "value" = some none) (e2nword : PySem.W.findIn K (.ref C2) "word" = some none) (e2nmost : PySem.W.findIn K (.ref C2) "most" = some none) (e2kC : PySem.W.keepIn K (.ref C2) = true) (e2eC : PySem.W.subIn K (.ref C2) (.type "BaseException") = some true) (e2ga : PySem.W.findIn K (.ref C2) "__getattribute__" = some (some (.builtin "BaseException.__getattribute__"))) (e2gg : PySem.W.findIn K (.ref C2) "__getattr__" = some none) (e2hd : PySem.W.hasDictIn K C2 = true) (e2hc : PySem.W.findIn K (.ref C2) "__class__" = some (some (.builtin "object.__class__"))) (e2hm : PySem.W.mroIn K C2 (.type "object") = some true) (e2cl : (PySem.W.clsIn K C2).isSome = true) (e2l : K.lookup C2 = some (PySem.excClassObj nm2 qn2 C2 N2 bs2 [.ref C0, .type "ValueError", .type "Exception", .type "BaseException", .type "object"] true sn2 sub2 ab2 co2 dd2 m02 m12 m22 m32 m52 "ValueError.__new__")) (e2sa : PySem.W.findIn K (.ref C2) "__setattr__" = some (some (.builtin "object.__setattr__"))) (e2iC : PySem.W.findIn K (.ref C2) "__init__" = some (some (.ref I2))) (e2tI : PySem.W.typeIn K (.ref I2) = some (.type "function")) (e2vC : PySem.W.subIn K (.ref C2) (.type "ValueError") = some true) (e2sC : PySem.W.mroIn K C2 (.ref C2) = some true) (e2up : PySem.W.ks_superIn K C2 C2 "__init__" = some (some (.builtin "ValueError.__init__"))) (e2fn : K.lookup I2 = some ⟨xo2, xd2, .func (erFd "BadWord.__init__" "place" "this is no word of the machine" ⟨⟨12, 8, 12, 13⟩, ⟨12, 8, 12, 15⟩, ⟨12, 8, 12, 24⟩, ⟨12, 25, 12, 57⟩, ⟨12, 8, 12, 58⟩, ⟨12, 8, 12, 58⟩, ⟨13, 8, 13, 12⟩, ⟨13, 8, 13, 18⟩, ⟨13, 21, 13, 26⟩, ⟨13, 8, 13, 26⟩, ⟨11, 17, 11, 21⟩, ⟨11, 23, 11, 28⟩⟩ xdc2 xpm2 xn2 (.ref cda2) xct2 cc2), xs2⟩) (e2cd : PySem.W.codeIn K (.ref cda2) "BadWord.__init__" = true) (e2co : K.lookup cda2 = some ⟨yc2, yd2, .fields vs2, ys2⟩) (e2fi : vs2[2]? = some (.str file2 tf2)) (e2fj : ((l.prog.main.file : Str) == file2) = true) (e2ce : K.lookup cc2 = some ⟨zc2, zd2, .cell (some (.ref C2)), zs2⟩) (e2isAlone : PySem.W.kitOne K (.ref C2) (.ref C10) = some false) (e2isBadCode : PySem.W.kitOne K (.ref C2) (.ref C6) = some false) (e2isBadMachine : PySem.W.kitOne K (.ref C2) (.ref C1) = some false) (e2isBadNumber : PySem.W.kitOne K (.ref C2) (.ref C7) = some false) (e2isBadPaper : PySem.W.kitOne K (.ref C2) (.ref C8) = some false) (e2isBadParting : PySem.W.kitOne K (.ref C2) (.ref C3) = some false) (e2isBadRow : PySem.W.kitOne K (.ref C2) (.ref C5) = some false) (e2isBadStanding : PySem.W.kitOne K (.ref C2) (.ref C4) = some false) (e2isBadWord : PySem.W.kitOne K (.ref C2) (.ref C2) = some true) (e2isLookupError : PySem.W.kitOne K (.ref C2) (.type "LookupError") = some false) (e2isOverflowError : PySem.W.kitOne K (.ref C2) (.type "OverflowError") = some false) (e2isPartError : PySem.W.kitOne K (.ref C2) (.ref C0) = some true) (e2isTooGreat : PySem.W.kitOne K (.ref C2) (.ref C9) = some false) (e2isValueError : PySem.W.kitOne K (.ref C2) (.type "ValueError") = some true) (e2tp0 : PySem.W.kitAny K (.ref C2) [.type "KeyError", .type "IndexError"] = some false) (e2tp1 : PySem.W.kitAny K (.ref C2) [.type "TypeError", .type "RuntimeError", .type "ZeroDivisionError"] = some false)
    (e3a : PySem.W.nsIn K mainGlobals "BadParting" = some (some (.ref C3))) (e3nplace : PySem.W.findIn K (.ref C3) "place" = some none) (e3nvalue : PySem.W.findIn K (.ref C3) "value" = some none) (e3nword : PySem.W.findIn K (.ref C3) "word" = some none) (e3nmost : PySem.W.findIn K (.ref C3) "most" = some none) (e3kC : PySem.W.keepIn K (.ref C3) = true) (e3eC : PySem.W.subIn K (.ref C3) (.type "BaseException") = some true) (e3ga : PySem.W.findIn K (.ref C3) "__getattribute__" = some (some (.builtin "BaseException.__getattribute__"))) (e3gg : PySem.W.findIn K (.ref C3) "__getattr__" = some none) (e3hd : PySem.W.hasDictIn K C3 = true) (e3hc : PySem.W.findIn K (.ref C3) "__class__" = some (some (.builtin "object.__class__"))) (e3hm : PySem.W.mroIn K C3 (.type "object") = some true) (e3cl : (PySem.W.clsIn K C3).isSome = true) (e3l : K.lookup C3 = some (PySem.excClassObj nm3 qn3 C3 N3 bs3 [.ref C0, .type "ValueError", .type "Exception", .type "BaseException", .type "object"] true sn3 sub3 ab3 co3 dd3 m03 m13 m23 m33 m53 "ValueError.__new__")) (e3sa : PySem.W.findIn K (.ref C3) "__setattr__" = some (some (.builtin "object.__setattr__"))) (e3iC : PySem.W.findIn K (.ref C3) "__init__" = some (some (.ref I3))) (e3tI : PySem.W.typeIn K (.ref I3) = some (.type "function")) (e3vC : PySem.W.subIn K (.ref C3) (.type "ValueError") = some true) (e3sC : PySem.W.mroIn K C3 (.ref C3) = some true) (e3up : PySem.W.ks_superIn K C3 C3 "__init__" = some (some (.builtin "ValueError.__init__"))) (e3fn : K.lookup I3 = some ⟨xo3, xd3, .func (erFd "BadParting.__init__" "value" "this is no parting that serves here" ⟨⟨17, 8, 17, 13⟩, ⟨17, 8, 17, 15⟩, ⟨17, 8, 17, 24⟩, ⟨17, 25, 17, 62⟩, ⟨17, 8, 17, 63⟩, ⟨17, 8, 17, 63⟩, ⟨18, 8, 18, 12⟩, ⟨18, 8, 18, 18⟩, ⟨18, 21, 18, 26⟩, ⟨18, 8, 18, 26⟩, ⟨16, 17, 16, 21⟩, ⟨16, 23, 16, 28⟩⟩ xdc3 xpm3 xn3 (.ref cda3) xct3 cc3), xs3⟩) (e3cd : PySem.W.codeIn K (.ref cda3) "BadParting.__init__" = true) (e3co : K.lookup cda3 = some ⟨yc3, yd3, .fields vs3, ys3⟩) (e3fi : vs3[2]? = some (.str file3 tf3)) (e3fj : ((l.prog.main.file : Str) == file3) = true) (e3ce : K.lookup cc3 = some ⟨zc3, zd3, .cell (some (.ref C3)), zs3⟩) (e3isAlone : PySem.W.kitOne K (.ref C3) (.ref C10) = some false) (e3isBadCode : PySem.W.kitOne K (.ref C3) (.ref C6) = some false) (e3isBadMachine : PySem.W.kitOne K (.ref C3) (.ref C1) = some false) (e3isBadNumber : PySem.W.kitOne K (.ref C3) (.ref C7) = some false) (e3isBadPaper : PySem.W.kitOne K (.ref C3) (.ref C8) = some false) (e3isBadParting : PySem.W.kitOne K (.ref C3) (.ref C3) = some true) (e3isBadRow : PySem.W.kitOne K (.ref C3) (.ref C5) = some false) (e3isBadStanding : PySem.W.kitOne K (.ref C3) (.ref C4) = some false) (e3isBadWord : PySem.W.kitOne K (.ref C3) (.ref C2) = some false) (e3isLookupError : PySem.W.kitOne K (.ref C3) (.type "LookupError") = some false) (e3isOverflowError : PySem.W.kitOne K (.ref C3) (.type "OverflowError") = some false) (e3isPartError : PySem.W.kitOne K (.ref C3) (.ref C0) = some true) (e3isTooGreat : PySem.W.kitOne K (.ref C3) (.ref C9) = some false) (e3isValueError : PySem.W.kitOne K (.ref C3) (.type "ValueError") = some true) (e3tp0 : PySem.W.kitAny K (.ref C3) [.type "KeyError", .type "IndexError"] = some false) (e3tp1 : PySem.W.kitAny K (.ref C3) [.type "TypeError", .type "RuntimeError", .type "ZeroDivisionError"] = some false)
    (e4a : PySem.W.nsIn K mainGlobals "BadStanding" = some (some (.ref C4))) (e4nplace : PySem.W.findIn K (.ref C4) "place" = some none) (e4nvalue : PySem.W.findIn K (.ref C4) "value" = some none) (e4nword : PySem.W.findIn K (.ref C4) "word" = some none) (e4nmost : PySem.W.findIn K (.ref C4) "most" = some none) (e4kC : PySem.W.keepIn K (.ref C4) = true) (e4eC : PySem.W.subIn K (.ref C4) (.type "BaseException") = some true) (e4ga : PySem.W.findIn K (.ref C4) "__getattribute__" = some (some (.builtin "BaseException.__getattribute__"))) (e4gg : PySem.W.findIn K (.ref C4) "__getattr__" = some none) (e4hd : PySem.W.hasDictIn K C4 = true) (e4hc : PySem.W.findIn K (.ref C4) "__class__" = some (some (.builtin "object.__class__"))) (e4hm : PySem.W.mroIn K C4 (.type "object") = some true) (e4cl : (PySem.W.clsIn K C4).isSome = true) (e4l : K.lookup C4 = some (PySem.excClassObj nm4 qn4 C4 N4 bs4 [.ref C0, .type "ValueError", .type "Exception", .type "BaseException", .type "object"] true sn4 sub4 ab4 co4 dd4 m04 m14 m24 m34 m54 "ValueError.__new__")) (e4sa : PySem.W.findIn K (.ref C4) "__setattr__" = some (some (.builtin "object.__setattr__"))) (e4iC : PySem.W.findIn K (.ref C4) "__init__" = some (some (.ref I4))) (e4tI : PySem.W.typeIn K (.ref I4) = some (.type "function")) (e4vC : PySem.W.subIn K (.ref C4) (.type "ValueError") = some true) (e4sC : PySem.W.mroIn K C4 (.ref C4) = some true) (e4up : PySem.W.ks_superIn K C4 C4 "__init__" = some (some (.builtin "ValueError.__init__"))) (e4fn : K.lookup I4 = some ⟨xo4, xd4, .func (erFd "BadStanding.__init__" "value" "this is no standing that serves here" ⟨⟨22, 8, 22, 13⟩, ⟨22, 8, 22, 15⟩, ⟨22, 8, 22, 24⟩, ⟨22, 25, 22, 63⟩, ⟨22, 8, 22, 64⟩, ⟨22, 8, 22, 64⟩, ⟨23, 8, 23, 12⟩, ⟨23, 8, 23, 18⟩, ⟨23, 21, 23, 26⟩, ⟨23, 8, 23, 26⟩, ⟨21, 17, 21, 21⟩, ⟨21, 23, 21, 28⟩⟩ xdc4 xpm4 xn4 (.ref cda4) xct4 cc4), xs4⟩) (e4cd : PySem.W.codeIn K (.ref cda4) "BadStanding.__init__" = true) (e4co : K.lookup cda4 = some ⟨yc4, yd4, .fields vs4, ys4⟩) (e4fi : vs4[2]? = some (.str file4 tf4)) (e4fj : ((l.prog.main.file : Str) == file4) = true) (e4ce : K.lookup cc4 = some ⟨zc4, zd4, .cell (some (.ref C4)), zs4⟩) (e4isAlone : PySem.W.kitOne K (.ref C4) (.ref C10) = some false) (e4isBadCode : PySem.W.kitOne K (.ref C4) (.ref C6) = some false) (e4isBadMachine : PySem.W.kitOne K (.ref C4) (.ref C1) = some false) (e4isBadNumber : PySem.W.kitOne K (.ref C4) (.ref C7) = some false) (e4isBadPaper : PySem.W.kitOne K (.ref C4) (.ref C8) = some false) (e4isBadParting : PySem.W.kitOne K (.ref C4) (.ref C3) = some false) (e4isBadRow : PySem.W.kitOne K (.ref C4) (.ref C5) = some false) (e4isBadStanding : PySem.W.kitOne K (.ref C4) (.ref C4) = some true) (e4isBadWord : PySem.W.kitOne K (.ref C4) (.ref C2) = some false) (e4isLookupError : PySem.W.kitOne K (.ref C4) (.type "LookupError") = some false) (e4isOverflowError : PySem.W.kitOne K (.ref C4) (.type "OverflowError") = some false) (e4isPartError : PySem.W.kitOne K (.ref C4) (.ref C0) = some true) (e4isTooGreat : PySem.W.kitOne K (.ref C4) (.ref C9) = some false) (e4isValueError : PySem.W.kitOne K (.ref C4) (.type "ValueError") = some true) (e4tp0 : PySem.W.kitAny K (.ref C4) [.type "KeyError", .type "IndexError"] = some false) (e4tp1 : PySem.W.kitAny K (.ref C4) [.type "TypeError", .type "RuntimeError", .type "ZeroDivisionError"] = some false)
    (e5a : PySem.W.nsIn K mainGlobals "BadRow" = some (some (.ref C5))) (e5nplace : PySem.W.findIn K (.ref C5) "place" = some none) (e5nvalue : PySem.W.findIn K (.ref C5) "value" = some none) (e5nword : PySem.W.findIn K (.ref C5) "word" = some none) (e5nmost : PySem.W.findIn K (.ref C5) "most" = some none) (e5kC : PySem.W.keepIn K (.ref C5) = true) (e5eC : PySem.W.subIn K (.ref C5) (.type "BaseException") = some true) (e5ga : PySem.W.findIn K (.ref C5) "__getattribute__" = some (some (.builtin "BaseException.__getattribute__"))) (e5gg : PySem.W.findIn K (.ref C5) "__getattr__" = some none) (e5hd : PySem.W.hasDictIn K C5 = true) (e5hc : PySem.W.findIn K (.ref C5) "__class__" = some (some (.builtin "object.__class__"))) (e5hm : PySem.W.mroIn K C5 (.type "object") = some true) (e5cl : (PySem.W.clsIn K C5).isSome = true) (e5l : K.lookup C5 = some (PySem.excClassObj nm5 qn5 C5 N5 bs5 [.ref C0, .type "ValueError", .type "Exception", .type "BaseException", .type "object"] true sn5 sub5 ab5 co5 dd5 m05 m15 m25 m35 m55 "ValueError.__new__")) (e5sa : PySem.W.findIn K (.ref C5) "__setattr__" = some (some (.builtin "object.__setattr__"))) (e5iC : PySem.W.findIn K (.ref C5) "__init__" = some (some (.ref I5))) (e5tI : PySem.W.typeIn K (.ref I5) = some (.type "function")) (e5vC : PySem.W.subIn K (.ref C5) (.type "ValueError") = some true) (e5sC : PySem.W.mroIn K C5 (.ref C5) = some true) (e5up : PySem.W.ks_superIn K C5 C5 "__init__" = some (some (.builtin "ValueError.__init__"))) (e5fn : K.lookup I5 = some ⟨xo5, xd5, .func (erFd "BadRow.__init__" "value" "this is no row and no sides of the machine" ⟨⟨27, 8, 27, 13⟩, ⟨27, 8, 27, 15⟩, ⟨27, 8, 27, 24⟩, ⟨27, 25, 27, 69⟩, ⟨27, 8, 27, 70⟩, ⟨27, 8, 27, 70⟩, ⟨28, 8, 28, 12⟩, ⟨28, 8, 28, 18⟩, ⟨28, 21, 28, 26⟩, ⟨28, 8, 28, 26⟩, ⟨26, 17, 26, 21⟩, ⟨26, 23, 26, 28⟩⟩ xdc5 xpm5 xn5 (.ref cda5) xct5 cc5), xs5⟩) (e5cd : PySem.W.codeIn K (.ref cda5) "BadRow.__init__" = true) (e5co : K.lookup cda5 = some ⟨yc5, yd5, .fields vs5, ys5⟩) (e5fi : vs5[2]? = some (.str file5 tf5)) (e5fj : ((l.prog.main.file : Str) == file5) = true) (e5ce : K.lookup cc5 = some ⟨zc5, zd5, .cell (some (.ref C5)), zs5⟩) (e5isAlone : PySem.W.kitOne K (.ref C5) (.ref C10) = some false) (e5isBadCode : PySem.W.kitOne K (.ref C5) (.ref C6) = some false) (e5isBadMachine : PySem.W.kitOne K (.ref C5) (.ref C1) = some false) (e5isBadNumber : PySem.W.kitOne K (.ref C5) (.ref C7) = some false) (e5isBadPaper : PySem.W.kitOne K (.ref C5) (.ref C8) = some false) (e5isBadParting : PySem.W.kitOne K (.ref C5) (.ref C3) = some false) (e5isBadRow : PySem.W.kitOne K (.ref C5) (.ref C5) = some true) (e5isBadStanding : PySem.W.kitOne K (.ref C5) (.ref C4) = some false) (e5isBadWord : PySem.W.kitOne K (.ref C5) (.ref C2) = some false) (e5isLookupError : PySem.W.kitOne K (.ref C5) (.type "LookupError") = some false) (e5isOverflowError : PySem.W.kitOne K (.ref C5) (.type "OverflowError") = some false) (e5isPartError : PySem.W.kitOne K (.ref C5) (.ref C0) = some true) (e5isTooGreat : PySem.W.kitOne K (.ref C5) (.ref C9) = some false) (e5isValueError : PySem.W.kitOne K (.ref C5) (.type "ValueError") = some true) (e5tp0 : PySem.W.kitAny K (.ref C5) [.type "KeyError", .type "IndexError"] = some false) (e5tp1 : PySem.W.kitAny K (.ref C5) [.type "TypeError", .type "RuntimeError", .type "ZeroDivisionError"] = some false)
    (e6a : PySem.W.nsIn K mainGlobals "BadCode" = some (some (.ref C6))) (e6nplace : PySem.W.findIn K (.ref C6) "place" = some none) (e6nvalue : PySem.W.findIn K (.ref C6) "value" = some none) (e6nword : PySem.W.findIn K (.ref C6) "word" = some none) (e6nmost : PySem.W.findIn K (.ref C6) "most" = some none) (e6kC : PySem.W.keepIn K (.ref C6) = true) (e6eC : PySem.W.subIn K (.ref C6) (.type "BaseException") = some true) (e6ga : PySem.W.findIn K (.ref C6) "__getattribute__" = some (some (.builtin "BaseException.__getattribute__"))) (e6gg : PySem.W.findIn K (.ref C6) "__getattr__" = some none) (e6hd : PySem.W.hasDictIn K C6 = true) (e6hc : PySem.W.findIn K (.ref C6) "__class__" = some (some (.builtin "object.__class__"))) (e6hm : PySem.W.mroIn K C6 (.type "object") = some true) (e6cl : (PySem.W.clsIn K C6).isSome = true) (e6l : K.lookup C6 = some (PySem.excClassObj nm6 qn6 C6 N6 bs6 [.ref C0, .type "ValueError", .type "Exception", .type "BaseException", .type "object"] true sn6 sub6 ab6 co6 dd6 m06 m16 m26 m36 m56 "ValueError.__new__")) (e6sa : PySem.W.findIn K (.ref C6) "__setattr__" = some (some (.builtin "object.__setattr__"))) (e6iC : PySem.W.findIn K (.ref C6) "__init__" = some (some (.ref I6))) (e6tI : PySem.W.typeIn K (.ref I6) = some (.type "function")) (e6vC : PySem.W.subIn K (.ref C6) (.type "ValueError") = some true) (e6sC : PySem.W.mroIn K C6 (.ref C6) = some true) (e6up : PySem.W.ks_superIn K C6 C6 "__init__" = some (some (.builtin "ValueError.__init__"))) (e6fn : K.lookup I6 = some ⟨xo6, xd6, .func (erFd "BadCode.__init__" "value" "this is no code of the machine" ⟨⟨32, 8, 32, 13⟩, ⟨32, 8, 32, 15⟩, ⟨32, 8, 32, 24⟩, ⟨32, 25, 32, 57⟩, ⟨32, 8, 32, 58⟩, ⟨32, 8, 32, 58⟩, ⟨33, 8, 33, 12⟩, ⟨33, 8, 33, 18⟩, ⟨33, 21, 33, 26⟩, ⟨33, 8, 33, 26⟩, ⟨31, 17, 31, 21⟩, ⟨31, 23, 31, 28⟩⟩ xdc6 xpm6 xn6 (.ref cda6) xct6 cc6), xs6⟩) (e6cd : PySem.W.codeIn K (.ref cda6) "BadCode.__init__" = true) (e6co : K.lookup cda6 = some ⟨yc6, yd6, .fields vs6, ys6⟩) (e6fi : vs6[2]? = some (.str file6 tf6)) (e6fj : ((l.prog.main.file : Str) == file6) = true) (e6ce : K.lookup cc6 = some ⟨zc6, zd6, .cell (some (.ref C6)), zs6⟩) (e6isAlone : PySem.W.kitOne K (.ref C6) (.ref C10) = some false) (e6isBadCode : PySem.W.kitOne K (.ref C6) (.ref C6) = some true) (e6isBadMachine : PySem.W.kitOne K (.ref C6) (.ref C1) = some false) (e6isBadNumber : PySem.W.kitOne K (.ref C6) (.ref C7) = some false) (e6isBadPaper : PySem.W.kitOne K (.ref C6) (.ref C8) = some false) (e6isBadParting : PySem.W.kitOne K (.ref C6) (.ref C3) = some false) (e6isBadRow : PySem.W.kitOne K (.ref C6) (.ref C5) = some false) (e6isBadStanding : PySem.W.kitOne K (.ref C6) (.ref C4) = some false) (e6isBadWord : PySem.W.kitOne K (.ref C6) (.ref C2) = some false) (e6isLookupError : PySem.W.kitOne K (.ref C6) (.type "LookupError") = some false) (e6isOverflowError : PySem.W.kitOne K (.ref C6) (.type "OverflowError") = some false) (e6isPartError : PySem.W.kitOne K (.ref C6) (.ref C0) = some true) (e6isTooGreat : PySem.W.kitOne K (.ref C6) (.ref C9) = some false) (e6isValueError : PySem.W.kitOne K (.ref C6) (.type "ValueError") = some true) (e6tp0 : PySem.W.kitAny K (.ref C6) [.type "KeyError", .type "IndexError"] = some false) (e6tp1 : PySem.W.kitAny K (.ref C6) [.type "TypeError", .type "RuntimeError", .type "ZeroDivisionError"] = some false)
    (e7a : PySem.W.nsIn K mainGlobals "BadNumber" = some (some (.ref C7))) (e7nplace : PySem.W.findIn K (.ref C7) "place" = some none) (e7nvalue : PySem.W.findIn K (.ref C7) "value" = some none) (e7nword : PySem.W.findIn K (.ref C7) "word" = some none) (e7nmost : PySem.W.findIn K (.ref C7) "most" = some none) (e7kC : PySem.W.keepIn K (.ref C7) = true) (e7eC : PySem.W.subIn K (.ref C7) (.type "BaseException") = some true) (e7ga : PySem.W.findIn K (.ref C7) "__getattribute__" = some (some (.builtin "BaseException.__getattribute__"))) (e7gg : PySem.W.findIn K (.ref C7) "__getattr__" = some none) (e7hd : PySem.W.hasDictIn K C7 = true) (e7hc : PySem.W.findIn K (.ref C7) "__class__" = some (some (.builtin "object.__class__"))) (e7hm : PySem.W.mroIn K C7 (.type "object") = some true) (e7cl : (PySem.W.clsIn K C7).isSome = true) (e7l : K.lookup C7 = some (PySem.excClassObj nm7 qn7 C7 N7 bs7 [.ref C0, .type "ValueError", .type "Exception", .type "BaseException", .type "object"] true sn7 sub7 ab7 co7 dd7 m07 m17 m27 m37 m57 "ValueError.__new__")) (e7sa : PySem.W.findIn K (.ref C7) "__setattr__" = some (some (.builtin "object.__setattr__"))) (e7iC : PySem.W.findIn K (.ref C7) "__init__" = some (some (.ref I7))) (e7tI : PySem.W.typeIn K (.ref I7) = some (.type "function")) (e7vC : PySem.W.subIn K (.ref C7) (.type "ValueError") = some true) (e7sC : PySem.W.mroIn K C7 (.ref C7) = some true) (e7up : PySem.W.ks_superIn K C7 C7 "__init__" = some (some (.builtin "ValueError.__init__"))) (e7fn : K.lookup I7 = some ⟨xo7, xd7, .func (erFd "BadNumber.__init__" "value" "these are no numbers that serve here" ⟨⟨37, 8, 37, 13⟩, ⟨37, 8, 37, 15⟩, ⟨37, 8, 37, 24⟩, ⟨37, 25, 37, 63⟩, ⟨37, 8, 37, 64⟩, ⟨37, 8, 37, 64⟩, ⟨38, 8, 38, 12⟩, ⟨38, 8, 38, 18⟩, ⟨38, 21, 38, 26⟩, ⟨38, 8, 38, 26⟩, ⟨36, 17, 36, 21⟩, ⟨36, 23, 36, 28⟩⟩ xdc7 xpm7 xn7 (.ref cda7) xct7 cc7), xs7⟩) (e7cd : PySem.W.codeIn K (.ref cda7) "BadNumber.__init__" = true) (e7co : K.lookup cda7 = some ⟨yc7, yd7, .fields vs7, ys7⟩) (e7fi : vs7[2]? = some (.str file7 tf7)) (e7fj : ((l.prog.main.file : Str) == file7) = true) (e7ce : K.lookup cc7 = some ⟨zc7, zd7, .cell (some (.ref C7)), zs7⟩) (e7isAlone : PySem.W.kitOne K (.ref C7) (.ref C10) = some false) (e7isBadCode : PySem.W.kitOne K (.ref C7) (.ref C6) = some false) (e7isBadMachine : PySem.W.kitOne K (.ref C7) (.ref C1) = some false) (e7isBadNumber : PySem.W.kitOne K (.ref C7) (.ref C7) = some true) (e7isBadPaper : PySem.W.kitOne K (.ref C7) (.ref C8) = some false) (e7isBadParting : PySem.W.kitOne K (.ref C7) (.ref C3) = some false) (e7isBadRow : PySem.W.kitOne K (.ref C7) (.ref C5) = some false) (e7isBadStanding : PySem.W.kitOne K (.ref C7) (.ref C4) = some false) (e7isBadWord : PySem.W.kitOne K (.ref C7) (.ref C2) = some false) (e7isLookupError : PySem.W.kitOne K (.ref C7) (.type "LookupError") = some false) (e7isOverflowError : PySem.W.kitOne K (.ref C7) (.type "OverflowError") = some false) (e7isPartError : PySem.W.kitOne K (.ref C7) (.ref C0) = some true) (e7isTooGreat : PySem.W.kitOne K (.ref C7) (.ref C9) = some false) (e7isValueError : PySem.W.kitOne K (.ref C7) (.type "ValueError") = some true) (e7tp0 : PySem.W.kitAny K (.ref C7) [.type "KeyError", .type "IndexError"] = some false) (e7tp1 : PySem.W.kitAny K (.ref C7) [.type "TypeError", .type "RuntimeError", .type "ZeroDivisionError"] = some false)
    (e8a : PySem.W.nsIn K mainGlobals "BadPaper" = some (some (.ref C8))) (e8nplace : PySem.W.findIn K (.ref C8) "place" = some none) (e8nvalue : PySem.W.findIn K (.ref C8) "value" = some none) (e8nword : PySem.W.findIn K (.ref C8) "word" = some none) (e8nmost : PySem.W.findIn K (.ref C8) "most" = some none) (e8kC : PySem.W.keepIn K (.ref C8) = true) (e8eC : PySem.W.subIn K (.ref C8) (.type "BaseException") = some true) (e8ga : PySem.W.findIn K (.ref C8) "__getattribute__" = some (some (.builtin "BaseException.__getattribute__"))) (e8gg : PySem.W.findIn K (.ref C8) "__getattr__" = some none) (e8hd : PySem.W.hasDictIn K C8 = true) (e8hc : PySem.W.findIn K (.ref C8) "__class__" = some (some (.builtin "object.__class__"))) (e8hm : PySem.W.mroIn K C8 (.type "object") = some true) (e8cl : (PySem.W.clsIn K C8).isSome = true) (e8l : K.lookup C8 = some (PySem.excClassObj nm8 qn8 C8 N8 bs8 [.ref C0, .type "ValueError", .type "Exception", .type "BaseException", .type "object"] true sn8 sub8 ab8 co8 dd8 m08 m18 m28 m38 m58 "ValueError.__new__")) (e8sa : PySem.W.findIn K (.ref C8) "__setattr__" = some (some (.builtin "object.__setattr__"))) (e8iC : PySem.W.findIn K (.ref C8) "__init__" = some (some (.ref I8))) (e8tI : PySem.W.typeIn K (.ref I8) = some (.type "function")) (e8vC : PySem.W.subIn K (.ref C8) (.type "ValueError") = some true) (e8sC : PySem.W.mroIn K C8 (.ref C8) = some true) (e8up : PySem.W.ks_superIn K C8 C8 "__init__" = some (some (.builtin "ValueError.__init__"))) (e8fn : K.lookup I8 = some ⟨xo8, xd8, .func (erFd "BadPaper.__init__" "word" "this paper does not hold" ⟨⟨42, 8, 42, 13⟩, ⟨42, 8, 42, 15⟩, ⟨42, 8, 42, 24⟩, ⟨42, 25, 42, 51⟩, ⟨42, 8, 42, 52⟩, ⟨42, 8, 42, 52⟩, ⟨43, 8, 43, 12⟩, ⟨43, 8, 43, 17⟩, ⟨43, 20, 43, 24⟩, ⟨43, 8, 43, 24⟩, ⟨41, 17, 41, 21⟩, ⟨41, 23, 41, 27⟩⟩ xdc8 xpm8 xn8 (.ref cda8) xct8 cc8), xs8⟩) (e8cd : PySem.W.codeIn K (.ref cda8) "BadPaper.__init__" = true) (e8co : K.lookup cda8 = some ⟨yc8, yd8, .fields vs8, ys8⟩) (e8fi : vs8[2]? = some (.str file8 tf8)) (e8fj : ((l.prog.main.file : Str) == file8) = true) (e8ce : K.lookup cc8 = some ⟨zc8, zd8, .cell (some (.ref C8)), zs8⟩) (e8isAlone : PySem.W.kitOne K (.ref C8) (.ref C10) = some false) (e8isBadCode : PySem.W.kitOne K (.ref C8) (.ref C6) = some false) (e8isBadMachine : PySem.W.kitOne K (.ref C8) (.ref C1) = some false) (e8isBadNumber : PySem.W.kitOne K (.ref C8) (.ref C7) = some false) (e8isBadPaper : PySem.W.kitOne K (.ref C8) (.ref C8) = some true) (e8isBadParting : PySem.W.kitOne K (.ref C8) (.ref C3) = some false) (e8isBadRow : PySem.W.kitOne K (.ref C8) (.ref C5) = some false) (e8isBadStanding : PySem.W.kitOne K (.ref C8) (.ref C4) = some false) (e8isBadWord : PySem.W.kitOne K (.ref C8) (.ref C2) = some false) (e8isLookupError : PySem.W.kitOne K (.ref C8) (.type "LookupError") = some false) (e8isOverflowError : PySem.W.kitOne K (.ref C8) (.type "OverflowError") = some false) (e8isPartError : PySem.W.kitOne K (.ref C8) (.ref C0) = some true) (e8isTooGreat : PySem.W.kitOne K (.ref C8) (.ref C9) = some false) (e8isValueError : PySem.W.kitOne K (.ref C8) (.type "ValueError") = some true) (e8tp0 : PySem.W.kitAny K (.ref C8) [.type "KeyError", .type "IndexError"] = some false) (e8tp1 : PySem.W.kitAny K (.ref C8) [.type "TypeError", .type "RuntimeError", .type "ZeroDivisionError"] = some false)
    (e9a : PySem.W.nsIn K mainGlobals "TooGreat" = some (some (.ref C9))) (e9nplace : PySem.W.findIn K (.ref C9) "place" = some none) (e9nvalue : PySem.W.findIn K (.ref C9) "value" = some none) (e9nword : PySem.W.findIn K (.ref C9) "word" = some none) (e9nmost : PySem.W.findIn K (.ref C9) "most" = some none) (e9kC : PySem.W.keepIn K (.ref C9) = true) (e9eC : PySem.W.subIn K (.ref C9) (.type "BaseException") = some true) (e9ga : PySem.W.findIn K (.ref C9) "__getattribute__" = some (some (.builtin "BaseException.__getattribute__"))) (e9gg : PySem.W.findIn K (.ref C9) "__getattr__" = some none) (e9hd : PySem.W.hasDictIn K C9 = true) (e9hc : PySem.W.findIn K (.ref C9) "__class__" = some (some (.builtin "object.__class__"))) (e9hm : PySem.W.mroIn K C9 (.type "object") = some true) (e9cl : (PySem.W.clsIn K C9).isSome = true) (e9l : K.lookup C9 = some (PySem.excClassObj nm9 qn9 C9 N9 bs9 [.type "OverflowError", .type "ArithmeticError", .type "Exception", .type "BaseException", .type "object"] true sn9 sub9 ab9 co9 dd9 m09 m19 m29 m39 m59 "OverflowError.__new__")) (e9sa : PySem.W.findIn K (.ref C9) "__setattr__" = some (some (.builtin "object.__setattr__"))) (e9iC : PySem.W.findIn K (.ref C9) "__init__" = some (some (.ref I9))) (e9tI : PySem.W.typeIn K (.ref I9) = some (.type "function")) (e9vC : PySem.W.subIn K (.ref C9) (.type "OverflowError") = some true) (e9sC : PySem.W.mroIn K C9 (.ref C9) = some true) (e9up : PySem.W.ks_superIn K C9 C9 "__init__" = some (some (.builtin "OverflowError.__init__"))) (e9fn : K.lookup I9 = some ⟨xo9, xd9, .func (erFd "TooGreat.__init__" "most" "this is too great" ⟨⟨47, 8, 47, 13⟩, ⟨47, 8, 47, 15⟩, ⟨47, 8, 47, 24⟩, ⟨47, 25, 47, 44⟩, ⟨47, 8, 47, 45⟩, ⟨47, 8, 47, 45⟩, ⟨48, 8, 48, 12⟩, ⟨48, 8, 48, 17⟩, ⟨48, 20, 48, 24⟩, ⟨48, 8, 48, 24⟩, ⟨46, 17, 46, 21⟩, ⟨46, 23, 46, 27⟩⟩ xdc9 xpm9 xn9 (.ref cda9) xct9 cc9), xs9⟩) (e9cd : PySem.W.codeIn K (.ref cda9) "TooGreat.__init__" = true) (e9co : K.lookup cda9 = some ⟨yc9, yd9, .fields vs9, ys9⟩) (e9fi : vs9[2]? = some (.str file9 tf9)) (e9fj : ((l.prog.main.file : Str) == file9) = true) (e9ce : K.lookup cc9 = some ⟨zc9, zd9, .cell (some (.ref C9)), zs9⟩) (e9isAlone : PySem.W.kitOne K (.ref C9) (.ref C10) = some false) (e9isBadCode : PySem.W.kitOne K (.ref C9) (.ref C6) = some false) (e9isBadMachine : PySem.W.kitOne K (.ref C9) (.ref C1) = some false) (e9isBadNumber : PySem.W.kitOne K (.ref C9) (.ref C7) = some false) (e9isBadPaper : PySem.W.kitOne K (.ref C9) (.ref C8) = some false) (e9isBadParting : PySem.W.kitOne K (.ref C9) (.ref C3) = some false) (e9isBadRow : PySem.W.kitOne K (.ref C9) (.ref C5) = some false) (e9isBadStanding : PySem.W.kitOne K (.ref C9) (.ref C4) = some false) (e9isBadWord : PySem.W.kitOne K (.ref C9) (.ref C2) = some false) (e9isLookupError : PySem.W.kitOne K (.ref C9) (.type "LookupError") = some false) (e9isOverflowError : PySem.W.kitOne K (.ref C9) (.type "OverflowError") = some true) (e9isPartError : PySem.W.kitOne K (.ref C9) (.ref C0) = some false) (e9isTooGreat : PySem.W.kitOne K (.ref C9) (.ref C9) = some true) (e9isValueError : PySem.W.kitOne K (.ref C9) (.type "ValueError") = some false) (e9tp0 : PySem.W.kitAny K (.ref C9) [.type "KeyError", .type "IndexError"] = some false) (e9tp1 : PySem.W.kitAny K (.ref C9) [.type "TypeError", .type "RuntimeError", .type "ZeroDivisionError"] = some false)
    (e10a : PySem.W.nsIn K mainGlobals "Alone" = some (some (.ref C10))) (e10nplace : PySem.W.findIn K (.ref C10) "place" = some none) (e10nvalue : PySem.W.findIn K (.ref C10) "value" = some none) (e10nword : PySem.W.findIn K (.ref C10) "word" = some none) (e10nmost : PySem.W.findIn K (.ref C10) "most" = some none) (e10kC : PySem.W.keepIn K (.ref C10) = true) (e10eC : PySem.W.subIn K (.ref C10) (.type "BaseException") = some true) (e10ga : PySem.W.findIn K (.ref C10) "__getattribute__" = some (some (.builtin "BaseException.__getattribute__"))) (e10gg : PySem.W.findIn K (.ref C10) "__getattr__" = some none) (e10hd : PySem.W.hasDictIn K C10 = true) (e10hc : PySem.W.findIn K (.ref C10) "__class__" = some (some (.builtin "object.__class__"))) (e10hm : PySem.W.mroIn K C10 (.type "object") = some true) (e10cl : (PySem.W.clsIn K C10).isSome = true) (e10l : K.lookup C10 = some (PySem.excClassObj nm10 qn10 C10 N10 bs10 [.type "LookupError", .type "Exception", .type "BaseException", .type "object"] true sn10 sub10 ab10 co10 dd10 m010 m110 m210 m310 m510 "LookupError.__new__")) (e10sa : PySem.W.findIn K (.ref C10) "__setattr__" = some (some (.builtin "object.__setattr__"))) (e10iC : PySem.W.findIn K (.ref C10) "__init__" = some (some (.ref I10))) (e10tI : PySem.W.typeIn K (.ref I10) = some (.type "function")) (e10vC : PySem.W.subIn K (.ref C10) (.type "LookupError") = some true) (e10sC : PySem.W.mroIn K C10 (.ref C10) = some true) (e10up : PySem.W.ks_superIn K C10 C10 "__init__" = some (some (.builtin "LookupError.__init__"))) (e10fn : K.lookup I10 = some ⟨xo10, xd10, .func (erF0 "Alone.__init__" "the machine has one standing alone" ⟨⟨52, 8, 52, 13⟩, ⟨52, 8, 52, 15⟩, ⟨52, 8, 52, 24⟩, ⟨52, 25, 52, 61⟩, ⟨52, 8, 52, 62⟩, ⟨52, 8, 52, 62⟩, ⟨52, 8, 52, 62⟩, ⟨52, 8, 52, 62⟩, ⟨52, 8, 52, 62⟩, ⟨52, 8, 52, 62⟩, ⟨51, 17, 51, 21⟩, ⟨51, 17, 51, 21⟩⟩ xdc10 xpm10 xn10 (.ref cda10) xct10 cc10), xs10⟩) (e10cd : PySem.W.codeIn K (.ref cda10) "Alone.__init__" = true) (e10co : K.lookup cda10 = some ⟨yc10, yd10, .fields vs10, ys10⟩) (e10fi : vs10[2]? = some (.str file10 tf10)) (e10fj : ((l.prog.main.file : Str) == file10) = true) (e10ce : K.lookup cc10 = some ⟨zc10, zd10, .cell (some (.ref C10)), zs10⟩) (e10isAlone : PySem.W.kitOne K (.ref C10) (.ref C10) = some true) (e10isBadCode : PySem.W.kitOne K (.ref C10) (.ref C6) = some false) (e10isBadMachine : PySem.W.kitOne K (.ref C10) (.ref C1) = some false) (e10isBadNumber : PySem.W.kitOne K (.ref C10) (.ref C7) = some false) (e10isBadPaper : PySem.W.kitOne K (.ref C10) (.ref C8) = some false) (e10isBadParting : PySem.W.kitOne K (.ref C10) (.ref C3) = some false) (e10isBadRow : PySem.W.kitOne K (.ref C10) (.ref C5) = some false) (e10isBadStanding : PySem.W.kitOne K (.ref C10) (.ref C4) = some false) (e10isBadWord : PySem.W.kitOne K (.ref C10) (.ref C2) = some false) (e10isLookupError : PySem.W.kitOne K (.ref C10) (.type "LookupError") = some true) (e10isOverflowError : PySem.W.kitOne K (.ref C10) (.type "OverflowError") = some false) (e10isPartError : PySem.W.kitOne K (.ref C10) (.ref C0) = some false) (e10isTooGreat : PySem.W.kitOne K (.ref C10) (.ref C9) = some false) (e10isValueError : PySem.W.kitOne K (.ref C10) (.type "ValueError") = some false) (e10tp0 : PySem.W.kitAny K (.ref C10) [.type "KeyError", .type "IndexError"] = some false) (e10tp1 : PySem.W.kitAny K (.ref C10) [.type "TypeError", .type "RuntimeError", .type "ZeroDivisionError"] = some false) :
    ∃ fd : FuncData, (∀ (s : Shared) (v : Value), BindsTo s fd ⟨[v], []⟩ [("script", v)]) ∧ ∀ base : Heap, K.In base → base.Ns mainGlobals mg → FnG l.prog w K mg base 4 fa fd ["script"] (spF K mg 1 m_law) := by
  have e := hfa.symm.trans (PySem.W.mg_of X G a12)
  cases e
  have T : Bn mg := ⟨PySem.W.mg_none_of X G z_len0, PySem.W.mg_none_of X G z_int0, PySem.W.mg_none_of X G z_max0, PySem.W.mg_none_of X G z_min0, PySem.W.mg_none_of X G z_tuple0, PySem.W.mg_none_of X G z_list0, PySem.W.mg_none_of X G z_repr0, PySem.W.mg_none_of X G z_range0, PySem.W.mg_none_of X G z_isinstance0, PySem.W.mg_none_of X G z_bool0, PySem.W.mg_none_of X G z_str0, PySem.W.mg_none_of X G z_dict0, PySem.W.mg_none_of X G z_enumerate0, PySem.W.mg_none_of X G z_zip0, PySem.W.mg_none_of X G z_sorted0, PySem.W.mg_none_of X G z_set0⟩
  have I : Gi mg := ⟨PySem.W.mg_none_of X G b_an, ⟩
  have M0 := PySem.W.mg_of X G e0a
  have Y0 : CaG K C0 := ⟨⟨e0ga, e0gg, e0eC, e0hd⟩, fun f hf => by rcases hf with rfl | rfl | rfl | rfl <;> assumption, e0cl, e0hc, e_hn, e_ht, e0hm⟩
  have T0 : ExT K mg "PartError" := ⟨_, _, _, _, C0, PySem.F.excBase_ValueError, e0xi, e0a, M0, e0kC⟩
  have M1 := PySem.W.mg_of X G e1a
  have Y1 : CaG K C1 := ⟨⟨e1ga, e1gg, e1eC, e1hd⟩, fun f hf => by rcases hf with rfl | rfl | rfl | rfl <;> assumption, e1cl, e1hc, e_hn, e_ht, e1hm⟩
  have T1 : EgX l.prog K mg "BadMachine" "place" := ⟨_, _, _, _, C1, I1, bs_VE, e1a, M1, ⟨⟨_, _, _, _, _, _, _, _, _, _, _, _, _, _, _, e1l, ⟨[C0], rfl⟩⟩, e1sa, e1nplace, e1iC, e1tI, e1kC, e1vC, e1sC, e1up, e_np, _, _, _, _, _, _, _, _, _, _, _, _, e1fn, e1cd, ⟨_, fun env => by first | rfl | with_unfolding_all rfl⟩, ⟨_, _, _, _, _, _, e1co, e1fi, e1fj⟩, _, _, _, e1ce⟩, .inl rfl⟩
  have M2 := PySem.W.mg_of X G e2a
  have Y2 : CaG K C2 := ⟨⟨e2ga, e2gg, e2eC, e2hd⟩, fun f hf => by rcases hf with rfl | rfl | rfl | rfl <;> assumption, e2cl, e2hc, e_hn, e_ht, e2hm⟩
  have T2 : EgX l.prog K mg "BadWord" "place" := ⟨_, _, _, _, C2, I2, bs_VE, e2a, M2, ⟨⟨_, _, _, _, _, _, _, _, _, _, _, _, _, _, _, e2l, ⟨[C0], rfl⟩⟩, e2sa, e2nplace, e2iC, e2tI, e2kC, e2vC, e2sC, e2up, e_np, _, _, _, _, _, _, _, _, _, _, _, _, e2fn, e2cd, ⟨_, fun env => by first | rfl | with_unfolding_all rfl⟩, ⟨_, _, _, _, _, _, e2co, e2fi, e2fj⟩, _, _, _, e2ce⟩, .inl rfl⟩
  have M3 := PySem.W.mg_of X G e3a
  have Y3 : CaG K C3 := ⟨⟨e3ga, e3gg, e3eC, e3hd⟩, fun f hf => by rcases hf with rfl | rfl | rfl | rfl <;> assumption, e3cl, e3hc, e_hn, e_ht, e3hm⟩
  have T3 : EgX l.prog K mg "BadParting" "value" := ⟨_, _, _, _, C3, I3, bs_VE, e3a, M3, ⟨⟨_, _, _, _, _, _, _, _, _, _, _, _, _, _, _, e3l, ⟨[C0], rfl⟩⟩, e3sa, e3nvalue, e3iC, e3tI, e3kC, e3vC, e3sC, e3up, e_np, _, _, _, _, _, _, _, _, _, _, _, _, e3fn, e3cd, ⟨_, fun env => by first | rfl | with_unfolding_all rfl⟩, ⟨_, _, _, _, _, _, e3co, e3fi, e3fj⟩, _, _, _, e3ce⟩, .inr (.inl rfl)⟩
  have M4 := PySem.W.mg_of X G e4a
  have Y4 : CaG K C4 := ⟨⟨e4ga, e4gg, e4eC, e4hd⟩, fun f hf => by rcases hf with rfl | rfl | rfl | rfl <;> assumption, e4cl, e4hc, e_hn, e_ht, e4hm⟩
  have T4 : EgX l.prog K mg "BadStanding" "value" := ⟨_, _, _, _, C4, I4, bs_VE, e4a, M4, ⟨⟨_, _, _, _, _, _, _, _, _, _, _, _, _, _, _, e4l, ⟨[C0], rfl⟩⟩, e4sa, e4nvalue, e4iC, e4tI, e4kC, e4vC, e4sC, e4up, e_np, _, _, _, _, _, _, _, _, _, _, _, _, e4fn, e4cd, ⟨_, fun env => by first | rfl | with_unfolding_all rfl⟩, ⟨_, _, _, _, _, _, e4co, e4fi, e4fj⟩, _, _, _, e4ce⟩, .inr (.inl rfl)⟩
  have M5 := PySem.W.mg_of X G e5a
  have Y5 : CaG K C5 := ⟨⟨e5ga, e5gg, e5eC, e5hd⟩, fun f hf => by rcases hf with rfl | rfl | rfl | rfl <;> assumption, e5cl, e5hc, e_hn, e_ht, e5hm⟩
  have T5 : EgX l.prog K mg "BadRow" "value" := ⟨_, _, _, _, C5, I5, bs_VE, e5a, M5, ⟨⟨_, _, _, _, _, _, _, _, _, _, _, _, _, _, _, e5l, ⟨[C0], rfl⟩⟩, e5sa, e5nvalue, e5iC, e5tI, e5kC, e5vC, e5sC, e5up, e_np, _, _, _, _, _, _, _, _, _, _, _, _, e5fn, e5cd, ⟨_, fun env => by first | rfl | with_unfolding_all rfl⟩, ⟨_, _, _, _, _, _, e5co, e5fi, e5fj⟩, _, _, _, e5ce⟩, .inr (.inl rfl)⟩
  have M6 := PySem.W.mg_of X G e6a
  have Y6 : CaG K C6 := ⟨⟨e6ga, e6gg, e6eC, e6hd⟩, fun f hf => by rcases hf with rfl | rfl | rfl | rfl <;> assumption, e6cl, e6hc, e_hn, e_ht, e6hm⟩
  have T6 : EgX l.prog K mg "BadCode" "value" := ⟨_, _, _, _, C6, I6, bs_VE, e6a, M6, ⟨⟨_, _, _, _, _, _, _, _, _, _, _, _, _, _, _, e6l, ⟨[C0], rfl⟩⟩, e6sa, e6nvalue, e6iC, e6tI, e6kC, e6vC, e6sC, e6up, e_np, _, _, _, _, _, _, _, _, _, _, _, _, e6fn, e6cd, ⟨_, fun env => by first | rfl | with_unfolding_all rfl⟩, ⟨_, _, _, _, _, _, e6co, e6fi, e6fj⟩, _, _, _, e6ce⟩, .inr (.inl rfl)⟩
  have M7 := PySem.W.mg_of X G e7a
  have Y7 : CaG K C7 := ⟨⟨e7ga, e7gg, e7eC, e7hd⟩, fun f hf => by rcases hf with rfl | rfl | rfl | rfl <;> assumption, e7cl, e7hc, e_hn, e_ht, e7hm⟩
  have T7 : EgX l.prog K mg "BadNumber" "value" := ⟨_, _, _, _, C7, I7, bs_VE, e7a, M7, ⟨⟨_, _, _, _, _, _, _, _, _, _, _, _, _, _, _, e7l, ⟨[C0], rfl⟩⟩, e7sa, e7nvalue, e7iC, e7tI, e7kC, e7vC, e7sC, e7up, e_np, _, _, _, _, _, _, _, _, _, _, _, _, e7fn, e7cd, ⟨_, fun env => by first | rfl | with_unfolding_all rfl⟩, ⟨_, _, _, _, _, _, e7co, e7fi, e7fj⟩, _, _, _, e7ce⟩, .inr (.inl rfl)⟩
  have M8 := PySem.W.mg_of X G e8a
  have Y8 : CaG K C8 := ⟨⟨e8ga, e8gg, e8eC, e8hd⟩, fun f hf => by rcases hf with rfl | rfl | rfl | rfl <;> assumption, e8cl, e8hc, e_hn, e_ht, e8hm⟩
  have T8 : EgX l.prog K mg "BadPaper" "word" := ⟨_, _, _, _, C8, I8, bs_VE, e8a, M8, ⟨⟨_, _, _, _, _, _, _, _, _, _, _, _, _, _, _, e8l, ⟨[C0], rfl⟩⟩, e8sa, e8nword, e8iC, e8tI, e8kC, e8vC, e8sC, e8up, e_np, _, _, _, _, _, _, _, _, _, _, _, _, e8fn, e8cd, ⟨_, fun env => by first | rfl | with_unfolding_all rfl⟩, ⟨_, _, _, _, _, _, e8co, e8fi, e8fj⟩, _, _, _, e8ce⟩, .inr (.inr (.inl rfl))⟩
  have M9 := PySem.W.mg_of X G e9a
  have Y9 : CaG K C9 := ⟨⟨e9ga, e9gg, e9eC, e9hd⟩, fun f hf => by rcases hf with rfl | rfl | rfl | rfl <;> assumption, e9cl, e9hc, e_hn, e_ht, e9hm⟩
  have T9 : EgX l.prog K mg "TooGreat" "most" := ⟨_, _, _, _, C9, I9, bs_OE, e9a, M9, ⟨⟨_, _, _, _, _, _, _, _, _, _, _, _, _, _, _, e9l, ⟨[], rfl⟩⟩, e9sa, e9nmost, e9iC, e9tI, e9kC, e9vC, e9sC, e9up, e_np, _, _, _, _, _, _, _, _, _, _, _, _, e9fn, e9cd, ⟨_, fun env => by first | rfl | with_unfolding_all rfl⟩, ⟨_, _, _, _, _, _, e9co, e9fi, e9fj⟩, _, _, _, e9ce⟩, .inr (.inr (.inr rfl))⟩
  have M10 := PySem.W.mg_of X G e10a
  have Y10 : CaG K C10 := ⟨⟨e10ga, e10gg, e10eC, e10hd⟩, fun f hf => by rcases hf with rfl | rfl | rfl | rfl <;> assumption, e10cl, e10hc, e_hn, e_ht, e10hm⟩
  have T10 : EnX l.prog K mg "Alone" := ⟨_, _, _, _, C10, I10, bs_LE, e10a, M10, ⟨⟨_, _, _, _, _, _, _, _, _, _, _, _, _, _, _, _, e10l, ⟨[], rfl⟩⟩, e10iC, e10tI, e10kC, e10vC, e10sC, e10up, e_np, _, _, _, _, _, _, _, _, _, _, _, _, e10fn, e10cd, ⟨_, fun env => by first | rfl | with_unfolding_all rfl⟩, ⟨_, _, _, _, _, _, e10co, e10fi, e10fj⟩, _, _, _, e10ce⟩⟩
  have ca : ClsG K allX := fun c hc C hC => by
    have hc' := hc; simp only [allX, List.mem_cons, List.not_mem_nil, or_false] at hc'; rcases hc' with rfl | rfl | rfl | rfl | rfl | rfl | rfl | rfl | rfl | rfl | rfl
    · rw [e0a] at hC; cases hC; exact Y0
    · rw [e1a] at hC; cases hC; exact Y1
    · rw [e2a] at hC; cases hC; exact Y2
    · rw [e3a] at hC; cases hC; exact Y3
    · rw [e4a] at hC; cases hC; exact Y4
    · rw [e5a] at hC; cases hC; exact Y5
    · rw [e6a] at hC; cases hC; exact Y6
    · rw [e7a] at hC; cases hC; exact Y7
    · rw [e8a] at hC; cases hC; exact Y8
    · rw [e9a] at hC; cases hC; exact Y9
    · rw [e10a] at hC; cases hC; exact Y10
  have is_Alone : IsY K mg allX "Alone" sub_Alone := ⟨.ref C10, .ref C10, rfl, fun u h => h, .inl M10, fun c hc C hC => by
    have hc' := hc; simp only [allX, List.mem_cons, List.not_mem_nil, or_false] at hc'; rcases hc' with rfl | rfl | rfl | rfl | rfl | rfl | rfl | rfl | rfl | rfl | rfl
    · rw [e0a] at hC; cases hC; exact e0isAlone.trans (congrArg some (by decide +kernel))
    · rw [e1a] at hC; cases hC; exact e1isAlone.trans (congrArg some (by decide +kernel))
    · rw [e2a] at hC; cases hC; exact e2isAlone.trans (congrArg some (by decide +kernel))
    · rw [e3a] at hC; cases hC; exact e3isAlone.trans (congrArg some (by decide +kernel))
    · rw [e4a] at hC; cases hC; exact e4isAlone.trans (congrArg some (by decide +kernel))
    · rw [e5a] at hC; cases hC; exact e5isAlone.trans (congrArg some (by decide +kernel))
    · rw [e6a] at hC; cases hC; exact e6isAlone.trans (congrArg some (by decide +kernel))
    · rw [e7a] at hC; cases hC; exact e7isAlone.trans (congrArg some (by decide +kernel))
    · rw [e8a] at hC; cases hC; exact e8isAlone.trans (congrArg some (by decide +kernel))
    · rw [e9a] at hC; cases hC; exact e9isAlone.trans (congrArg some (by decide +kernel))
    · rw [e10a] at hC; cases hC; exact e10isAlone.trans (congrArg some (by decide +kernel))⟩
  have is_BadCode : IsY K mg allX "BadCode" sub_BadCode := ⟨.ref C6, .ref C6, rfl, fun u h => h, .inl M6, fun c hc C hC => by
    have hc' := hc; simp only [allX, List.mem_cons, List.not_mem_nil, or_false] at hc'; rcases hc' with rfl | rfl | rfl | rfl | rfl | rfl | rfl | rfl | rfl | rfl | rfl
    · rw [e0a] at hC; cases hC; exact e0isBadCode.trans (congrArg some (by decide +kernel))
    · rw [e1a] at hC; cases hC; exact e1isBadCode.trans (congrArg some (by decide +kernel))
    · rw [e2a] at hC; cases hC; exact e2isBadCode.trans (congrArg some (by decide +kernel))
    · rw [e3a] at hC; cases hC; exact e3isBadCode.trans (congrArg some (by decide +kernel))
    · rw [e4a] at hC; cases hC; exact e4isBadCode.trans (congrArg some (by decide +kernel))
    · rw [e5a] at hC; cases hC; exact e5isBadCode.trans (congrArg some (by decide +kernel))
    · rw [e6a] at hC; cases hC; exact e6isBadCode.trans (congrArg some (by decide +kernel))
    · rw [e7a] at hC; cases hC; exact e7isBadCode.trans (congrArg some (by decide +kernel))
    · rw [e8a] at hC; cases hC; exact e8isBadCode.trans (congrArg some (by decide +kernel))
    · rw [e9a] at hC; cases hC; exact e9isBadCode.trans (congrArg some (by decide +kernel))
    · rw [e10a] at hC; cases hC; exact e10isBadCode.trans (congrArg some (by decide +kernel))⟩
  have is_BadMachine : IsY K mg allX "BadMachine" sub_BadMachine := ⟨.ref C1, .ref C1, rfl, fun u h => h, .inl M1, fun c hc C hC => by
    have hc' := hc; simp only [allX, List.mem_cons, List.not_mem_nil, or_false] at hc'; rcases hc' with rfl | rfl | rfl | rfl | rfl | rfl | rfl | rfl | rfl | rfl | rfl
    · rw [e0a] at hC; cases hC; exact e0isBadMachine.trans (congrArg some (by decide +kernel))
    · rw [e1a] at hC; cases hC; exact e1isBadMachine.trans (congrArg some (by decide +kernel))
    · rw [e2a] at hC; cases hC; exact e2isBadMachine.trans (congrArg some (by decide +kernel))
    · rw [e3a] at hC; cases hC; exact e3isBadMachine.trans (congrArg some (by decide +kernel))
    · rw [e4a] at hC; cases hC; exact e4isBadMachine.trans (congrArg some (by decide +kernel))
    · rw [e5a] at hC; cases hC; exact e5isBadMachine.trans (congrArg some (by decide +kernel))
    · rw [e6a] at hC; cases hC; exact e6isBadMachine.trans (congrArg some (by decide +kernel))
    · rw [e7a] at hC; cases hC; exact e7isBadMachine.trans (congrArg some (by decide +kernel))
    · rw [e8a] at hC; cases hC; exact e8isBadMachine.trans (congrArg some (by decide +kernel))
    · rw [e9a] at hC; cases hC; exact e9isBadMachine.trans (congrArg some (by decide +kernel))
    · rw [e10a] at hC; cases hC; exact e10isBadMachine.trans (congrArg some (by decide +kernel))⟩
  have is_BadNumber : IsY K mg allX "BadNumber" sub_BadNumber := ⟨.ref C7, .ref C7, rfl, fun u h => h, .inl M7, fun c hc C hC => by
    have hc' := hc; simp only [allX, List.mem_cons, List.not_mem_nil, or_false] at hc'; rcases hc' with rfl | rfl | rfl | rfl | rfl | rfl | rfl | rfl | rfl | rfl | rfl
    · rw [e0a] at hC; cases hC; exact e0isBadNumber.trans (congrArg some (by decide +kernel))
    · rw [e1a] at hC; cases hC; exact e1isBadNumber.trans (congrArg some (by decide +kernel))
    · rw [e2a] at hC; cases hC; exact e2isBadNumber.trans (congrArg some (by decide +kernel))
    · rw [e3a] at hC; cases hC; exact e3isBadNumber.trans (congrArg some (by decide +kernel))
    · rw [e4a] at hC; cases hC; exact e4isBadNumber.trans (congrArg some (by decide +kernel))
    · rw [e5a] at hC; cases hC; exact e5isBadNumber.trans (congrArg some (by decide +kernel))
    · rw [e6a] at hC; cases hC; exact e6isBadNumber.trans (congrArg some (by decide +kernel))
    · rw [e7a] at hC; cases hC; exact e7isBadNumber.trans (congrArg some (by decide +kernel))
    · rw [e8a] at hC; cases hC; exact e8isBadNumber.trans (congrArg some (by decide +kernel))
    · rw [e9a] at hC; cases hC; exact e9isBadNumber.trans (congrArg some (by decide +kernel))
    · rw [e10a] at hC; cases hC; exact e10isBadNumber.trans (congrArg some (by decide +kernel))⟩
  have is_BadPaper : IsY K mg allX "BadPaper" sub_BadPaper := ⟨.ref C8, .ref C8, rfl, fun u h => h, .inl M8, fun c hc C hC => by
    have hc' := hc; simp only [allX, List.mem_cons, List.not_mem_nil, or_false] at hc'; rcases hc' with rfl | rfl | rfl | rfl | rfl | rfl | rfl | rfl | rfl | rfl | rfl
    · rw [e0a] at hC; cases hC; exact e0isBadPaper.trans (congrArg some (by decide +kernel))
    · rw [e1a] at hC; cases hC; exact e1isBadPaper.trans (congrArg some (by decide +kernel))
    · rw [e2a] at hC; cases hC; exact e2isBadPaper.trans (congrArg some (by decide +kernel))
    · rw [e3a] at hC; cases hC; exact e3isBadPaper.trans (congrArg some (by decide +kernel))
    · rw [e4a] at hC; cases hC; exact e4isBadPaper.trans (congrArg some (by decide +kernel))
    · rw [e5a] at hC; cases hC; exact e5isBadPaper.trans (congrArg some (by decide +kernel))
    · rw [e6a] at hC; cases hC; exact e6isBadPaper.trans (congrArg some (by decide +kernel))
    · rw [e7a] at hC; cases hC; exact e7isBadPaper.trans (congrArg some (by decide +kernel))
    · rw [e8a] at hC; cases hC; exact e8isBadPaper.trans (congrArg some (by decide +kernel))
    · rw [e9a] at hC; cases hC; exact e9isBadPaper.trans (congrArg some (by decide +kernel))
    · rw [e10a] at hC; cases hC; exact e10isBadPaper.trans (congrArg some (by decide +kernel))⟩
  have is_BadParting : IsY K mg allX "BadParting" sub_BadParting := ⟨.ref C3, .ref C3, rfl, fun u h => h, .inl M3, fun c hc C hC => by
    have hc' := hc; simp only [allX, List.mem_cons, List.not_mem_nil, or_false] at hc'; rcases hc' with rfl | rfl | rfl | rfl | rfl | rfl | rfl | rfl | rfl | rfl | rfl
    · rw [e0a] at hC; cases hC; exact e0isBadParting.trans (congrArg some (by decide +kernel))
    · rw [e1a] at hC; cases hC; exact e1isBadParting.trans (congrArg some (by decide +kernel))
    · rw [e2a] at hC; cases hC; exact e2isBadParting.trans (congrArg some (by decide +kernel))
    · rw [e3a] at hC; cases hC; exact e3isBadParting.trans (congrArg some (by decide +kernel))
    · rw [e4a] at hC; cases hC; exact e4isBadParting.trans (congrArg some (by decide +kernel))
    · rw [e5a] at hC; cases hC; exact e5isBadParting.trans (congrArg some (by decide +kernel))
    · rw [e6a] at hC; cases hC; exact e6isBadParting.trans (congrArg some (by decide +kernel))
    · rw [e7a] at hC; cases hC; exact e7isBadParting.trans (congrArg some (by decide +kernel))
    · rw [e8a] at hC; cases hC; exact e8isBadParting.trans (congrArg some (by decide +kernel))
    · rw [e9a] at hC; cases hC; exact e9isBadParting.trans (congrArg some (by decide +kernel))
    · rw [e10a] at hC; cases hC; exact e10isBadParting.trans (congrArg some (by decide +kernel))⟩
  have is_BadRow : IsY K mg allX "BadRow" sub_BadRow := ⟨.ref C5, .ref C5, rfl, fun u h => h, .inl M5, fun c hc C hC => by
    have hc' := hc; simp only [allX, List.mem_cons, List.not_mem_nil, or_false] at hc'; rcases hc' with rfl | rfl | rfl | rfl | rfl | rfl | rfl | rfl | rfl | rfl | rfl
    · rw [e0a] at hC; cases hC; exact e0isBadRow.trans (congrArg some (by decide +kernel))
    · rw [e1a] at hC; cases hC; exact e1isBadRow.trans (congrArg some (by decide +kernel))
    · rw [e2a] at hC; cases hC; exact e2isBadRow.trans (congrArg some (by decide +kernel))
    · rw [e3a] at hC; cases hC; exact e3isBadRow.trans (congrArg some (by decide +kernel))
    · rw [e4a] at hC; cases hC; exact e4isBadRow.trans (congrArg some (by decide +kernel))
    · rw [e5a] at hC; cases hC; exact e5isBadRow.trans (congrArg some (by decide +kernel))
    · rw [e6a] at hC; cases hC; exact e6isBadRow.trans (congrArg some (by decide +kernel))
    · rw [e7a] at hC; cases hC; exact e7isBadRow.trans (congrArg some (by decide +kernel))
    · rw [e8a] at hC; cases hC; exact e8isBadRow.trans (congrArg some (by decide +kernel))
    · rw [e9a] at hC; cases hC; exact e9isBadRow.trans (congrArg some (by decide +kernel))
    · rw [e10a] at hC; cases hC; exact e10isBadRow.trans (congrArg some (by decide +kernel))⟩
  have is_BadStanding : IsY K mg allX "BadStanding" sub_BadStanding := ⟨.ref C4, .ref C4, rfl, fun u h => h, .inl M4, fun c hc C hC => by
    have hc' := hc; simp only [allX, List.mem_cons, List.not_mem_nil, or_false] at hc'; rcases hc' with rfl | rfl | rfl | rfl | rfl | rfl | rfl | rfl | rfl | rfl | rfl
    · rw [e0a] at hC; cases hC; exact e0isBadStanding.trans (congrArg some (by decide +kernel))
    · rw [e1a] at hC; cases hC; exact e1isBadStanding.trans (congrArg some (by decide +kernel))
    · rw [e2a] at hC; cases hC; exact e2isBadStanding.trans (congrArg some (by decide +kernel))
    · rw [e3a] at hC; cases hC; exact e3isBadStanding.trans (congrArg some (by decide +kernel))
    · rw [e4a] at hC; cases hC; exact e4isBadStanding.trans (congrArg some (by decide +kernel))
    · rw [e5a] at hC; cases hC; exact e5isBadStanding.trans (congrArg some (by decide +kernel))
    · rw [e6a] at hC; cases hC; exact e6isBadStanding.trans (congrArg some (by decide +kernel))
    · rw [e7a] at hC; cases hC; exact e7isBadStanding.trans (congrArg some (by decide +kernel))
    · rw [e8a] at hC; cases hC; exact e8isBadStanding.trans (congrArg some (by decide +kernel))
    · rw [e9a] at hC; cases hC; exact e9isBadStanding.trans (congrArg some (by decide +kernel))
    · rw [e10a] at hC; cases hC; exact e10isBadStanding.trans (congrArg some (by decide +kernel))⟩
  have is_BadWord : IsY K mg allX "BadWord" sub_BadWord := ⟨.ref C2, .ref C2, rfl, fun u h => h, .inl M2, fun c hc C hC => by
    have hc' := hc; simp only [allX, List.mem_cons, List.not_mem_nil, or_false] at hc'; rcases hc' with rfl | rfl | rfl | rfl | rfl | rfl | rfl | rfl | rfl | rfl | rfl
    · rw [e0a] at hC; cases hC; exact e0isBadWord.trans (congrArg some (by decide +kernel))
    · rw [e1a] at hC; cases hC; exact e1isBadWord.trans (congrArg some (by decide +kernel))
    · rw [e2a] at hC; cases hC; exact e2isBadWord.trans (congrArg some (by decide +kernel))
    · rw [e3a] at hC; cases hC; exact e3isBadWord.trans (congrArg some (by decide +kernel))
    · rw [e4a] at hC; cases hC; exact e4isBadWord.trans (congrArg some (by decide +kernel))
    · rw [e5a] at hC; cases hC; exact e5isBadWord.trans (congrArg some (by decide +kernel))
    · rw [e6a] at hC; cases hC; exact e6isBadWord.trans (congrArg some (by decide +kernel))
    · rw [e7a] at hC; cases hC; exact e7isBadWord.trans (congrArg some (by decide +kernel))
    · rw [e8a] at hC; cases hC; exact e8isBadWord.trans (congrArg some (by decide +kernel))
    · rw [e9a] at hC; cases hC; exact e9isBadWord.trans (congrArg some (by decide +kernel))
    · rw [e10a] at hC; cases hC; exact e10isBadWord.trans (congrArg some (by decide +kernel))⟩
  have is_LookupError : IsY K mg allX "LookupError" sub_LookupError := ⟨.ty "LookupError", .type "LookupError", rfl, fun u h => h, .inr ⟨PySem.W.mg_none_of X G e_noLookupError, by decide +kernel, by decide⟩, fun c hc C hC => by
    have hc' := hc; simp only [allX, List.mem_cons, List.not_mem_nil, or_false] at hc'; rcases hc' with rfl | rfl | rfl | rfl | rfl | rfl | rfl | rfl | rfl | rfl | rfl
    · rw [e0a] at hC; cases hC; exact e0isLookupError.trans (congrArg some (by decide +kernel))
    · rw [e1a] at hC; cases hC; exact e1isLookupError.trans (congrArg some (by decide +kernel))
    · rw [e2a] at hC; cases hC; exact e2isLookupError.trans (congrArg some (by decide +kernel))
    · rw [e3a] at hC; cases hC; exact e3isLookupError.trans (congrArg some (by decide +kernel))
    · rw [e4a] at hC; cases hC; exact e4isLookupError.trans (congrArg some (by decide +kernel))
    · rw [e5a] at hC; cases hC; exact e5isLookupError.trans (congrArg some (by decide +kernel))
    · rw [e6a] at hC; cases hC; exact e6isLookupError.trans (congrArg some (by decide +kernel))
    · rw [e7a] at hC; cases hC; exact e7isLookupError.trans (congrArg some (by decide +kernel))
    · rw [e8a] at hC; cases hC; exact e8isLookupError.trans (congrArg some (by decide +kernel))
    · rw [e9a] at hC; cases hC; exact e9isLookupError.trans (congrArg some (by decide +kernel))
    · rw [e10a] at hC; cases hC; exact e10isLookupError.trans (congrArg some (by decide +kernel))⟩
  have is_OverflowError : IsY K mg allX "OverflowError" sub_OverflowError := ⟨.ty "OverflowError", .type "OverflowError", rfl, fun u h => h, .inr ⟨PySem.W.mg_none_of X G e_noOverflowError, by decide +kernel, by decide⟩, fun c hc C hC => by
    have hc' := hc; simp only [allX, List.mem_cons, List.not_mem_nil, or_false] at hc'; rcases hc' with rfl | rfl | rfl | rfl | rfl | rfl | rfl | rfl | rfl | rfl | rfl
    · rw [e0a] at hC; cases hC; exact e0isOverflowError.trans (congrArg some (by decide +kernel))
    · rw [e1a] at hC; cases hC; exact e1isOverflowError.trans (congrArg some (by decide +kernel))
    · rw [e2a] at hC; cases hC; exact e2isOverflowError.trans (congrArg some (by decide +kernel))
    · rw [e3a] at hC; cases hC; exact e3isOverflowError.trans (congrArg some (by decide +kernel))
    · rw [e4a] at hC; cases hC; exact e4isOverflowError.trans (congrArg some (by decide +kernel))
    · rw [e5a] at hC; cases hC; exact e5isOverflowError.trans (congrArg some (by decide +kernel))
    · rw [e6a] at hC; cases hC; exact e6isOverflowError.trans (congrArg some (by decide +kernel))
    · rw [e7a] at hC; cases hC; exact e7isOverflowError.trans (congrArg some (by decide +kernel))
    · rw [e8a] at hC; cases hC; exact e8isOverflowError.trans (congrArg some (by decide +kernel))
    · rw [e9a] at hC; cases hC; exact e9isOverflowError.trans (congrArg some (by decide +kernel))
    · rw [e10a] at hC; cases hC; exact e10isOverflowError.trans (congrArg some (by decide +kernel))⟩
  have is_PartError : IsY K mg allX "PartError" sub_PartError := ⟨.ref C0, .ref C0, rfl, fun u h => h, .inl M0, fun c hc C hC => by
    have hc' := hc; simp only [allX, List.mem_cons, List.not_mem_nil, or_false] at hc'; rcases hc' with rfl | rfl | rfl | rfl | rfl | rfl | rfl | rfl | rfl | rfl | rfl
    · rw [e0a] at hC; cases hC; exact e0isPartError.trans (congrArg some (by decide +kernel))
    · rw [e1a] at hC; cases hC; exact e1isPartError.trans (congrArg some (by decide +kernel))
    · rw [e2a] at hC; cases hC; exact e2isPartError.trans (congrArg some (by decide +kernel))
    · rw [e3a] at hC; cases hC; exact e3isPartError.trans (congrArg some (by decide +kernel))
    · rw [e4a] at hC; cases hC; exact e4isPartError.trans (congrArg some (by decide +kernel))
    · rw [e5a] at hC; cases hC; exact e5isPartError.trans (congrArg some (by decide +kernel))
    · rw [e6a] at hC; cases hC; exact e6isPartError.trans (congrArg some (by decide +kernel))
    · rw [e7a] at hC; cases hC; exact e7isPartError.trans (congrArg some (by decide +kernel))
    · rw [e8a] at hC; cases hC; exact e8isPartError.trans (congrArg some (by decide +kernel))
    · rw [e9a] at hC; cases hC; exact e9isPartError.trans (congrArg some (by decide +kernel))
    · rw [e10a] at hC; cases hC; exact e10isPartError.trans (congrArg some (by decide +kernel))⟩
  have is_TooGreat : IsY K mg allX "TooGreat" sub_TooGreat := ⟨.ref C9, .ref C9, rfl, fun u h => h, .inl M9, fun c hc C hC => by
    have hc' := hc; simp only [allX, List.mem_cons, List.not_mem_nil, or_false] at hc'; rcases hc' with rfl | rfl | rfl | rfl | rfl | rfl | rfl | rfl | rfl | rfl | rfl
    · rw [e0a] at hC; cases hC; exact e0isTooGreat.trans (congrArg some (by decide +kernel))
    · rw [e1a] at hC; cases hC; exact e1isTooGreat.trans (congrArg some (by decide +kernel))
    · rw [e2a] at hC; cases hC; exact e2isTooGreat.trans (congrArg some (by decide +kernel))
    · rw [e3a] at hC; cases hC; exact e3isTooGreat.trans (congrArg some (by decide +kernel))
    · rw [e4a] at hC; cases hC; exact e4isTooGreat.trans (congrArg some (by decide +kernel))
    · rw [e5a] at hC; cases hC; exact e5isTooGreat.trans (congrArg some (by decide +kernel))
    · rw [e6a] at hC; cases hC; exact e6isTooGreat.trans (congrArg some (by decide +kernel))
    · rw [e7a] at hC; cases hC; exact e7isTooGreat.trans (congrArg some (by decide +kernel))
    · rw [e8a] at hC; cases hC; exact e8isTooGreat.trans (congrArg some (by decide +kernel))
    · rw [e9a] at hC; cases hC; exact e9isTooGreat.trans (congrArg some (by decide +kernel))
    · rw [e10a] at hC; cases hC; exact e10isTooGreat.trans (congrArg some (by decide +kernel))⟩
  have is_ValueError : IsY K mg allX "ValueError" sub_ValueError := ⟨.ty "ValueError", .type "ValueError", rfl, fun u h => h, .inr ⟨PySem.W.mg_none_of X G e_noValueError, by decide +kernel, by decide⟩, fun c hc C hC => by
    have hc' := hc; simp only [allX, List.mem_cons, List.not_mem_nil, or_false] at hc'; rcases hc' with rfl | rfl | rfl | rfl | rfl | rfl | rfl | rfl | rfl | rfl | rfl
    · rw [e0a] at hC; cases hC; exact e0isValueError.trans (congrArg some (by decide +kernel))
    · rw [e1a] at hC; cases hC; exact e1isValueError.trans (congrArg some (by decide +kernel))
    · rw [e2a] at hC; cases hC; exact e2isValueError.trans (congrArg some (by decide +kernel))
    · rw [e3a] at hC; cases hC; exact e3isValueError.trans (congrArg some (by decide +kernel))
    · rw [e4a] at hC; cases hC; exact e4isValueError.trans (congrArg some (by decide +kernel))
    · rw [e5a] at hC; cases hC; exact e5isValueError.trans (congrArg some (by decide +kernel))
    · rw [e6a] at hC; cases hC; exact e6isValueError.trans (congrArg some (by decide +kernel))
    · rw [e7a] at hC; cases hC; exact e7isValueError.trans (congrArg some (by decide +kernel))
    · rw [e8a] at hC; cases hC; exact e8isValueError.trans (congrArg some (by decide +kernel))
    · rw [e9a] at hC; cases hC; exact e9isValueError.trans (congrArg some (by decide +kernel))
    · rw [e10a] at hC; cases hC; exact e10isValueError.trans (congrArg some (by decide +kernel))⟩
  have tp_0 : IsTp K allX ["KeyError", "IndexError"] subT0 := fun c hc C hC => by
    have hc' := hc; simp only [allX, List.mem_cons, List.not_mem_nil, or_false] at hc'; rcases hc' with rfl | rfl | rfl | rfl | rfl | rfl | rfl | rfl | rfl | rfl | rfl
    · rw [e0a] at hC; cases hC; exact e0tp0.trans (congrArg some (by decide +kernel))
    · rw [e1a] at hC; cases hC; exact e1tp0.trans (congrArg some (by decide +kernel))
    · rw [e2a] at hC; cases hC; exact e2tp0.trans (congrArg some (by decide +kernel))
    · rw [e3a] at hC; cases hC; exact e3tp0.trans (congrArg some (by decide +kernel))
    · rw [e4a] at hC; cases hC; exact e4tp0.trans (congrArg some (by decide +kernel))
    · rw [e5a] at hC; cases hC; exact e5tp0.trans (congrArg some (by decide +kernel))
    · rw [e6a] at hC; cases hC; exact e6tp0.trans (congrArg some (by decide +kernel))
    · rw [e7a] at hC; cases hC; exact e7tp0.trans (congrArg some (by decide +kernel))
    · rw [e8a] at hC; cases hC; exact e8tp0.trans (congrArg some (by decide +kernel))
    · rw [e9a] at hC; cases hC; exact e9tp0.trans (congrArg some (by decide +kernel))
    · rw [e10a] at hC; cases hC; exact e10tp0.trans (congrArg some (by decide +kernel))
  have tp_1 : IsTp K allX ["TypeError", "RuntimeError", "ZeroDivisionError"] subT1 := fun c hc C hC => by
    have hc' := hc; simp only [allX, List.mem_cons, List.not_mem_nil, or_false] at hc'; rcases hc' with rfl | rfl | rfl | rfl | rfl | rfl | rfl | rfl | rfl | rfl | rfl
    · rw [e0a] at hC; cases hC; exact e0tp1.trans (congrArg some (by decide +kernel))
    · rw [e1a] at hC; cases hC; exact e1tp1.trans (congrArg some (by decide +kernel))
    · rw [e2a] at hC; cases hC; exact e2tp1.trans (congrArg some (by decide +kernel))
    · rw [e3a] at hC; cases hC; exact e3tp1.trans (congrArg some (by decide +kernel))
    · rw [e4a] at hC; cases hC; exact e4tp1.trans (congrArg some (by decide +kernel))
    · rw [e5a] at hC; cases hC; exact e5tp1.trans (congrArg some (by decide +kernel))
    · rw [e6a] at hC; cases hC; exact e6tp1.trans (congrArg some (by decide +kernel))
    · rw [e7a] at hC; cases hC; exact e7tp1.trans (congrArg some (by decide +kernel))
    · rw [e8a] at hC; cases hC; exact e8tp1.trans (congrArg some (by decide +kernel))
    · rw [e9a] at hC; cases hC; exact e9tp1.trans (congrArg some (by decide +kernel))
    · rw [e10a] at hC; cases hC; exact e10tp1.trans (congrArg some (by decide +kernel))
  have EE : Eg l.prog K mg := ⟨PySem.W.mg_none_of X G e_sup, e_top, ca, T0, T1, T2, T3, T4, T5, T6, T7, T8, T9, T10, is_Alone, is_BadCode, is_BadMachine, is_BadNumber, is_BadPaper, is_BadParting, is_BadRow, is_BadStanding, is_BadWord, is_LookupError, is_OverflowError, is_PartError, is_TooGreat, is_ValueError, tp_0, tp_1, (PySem.W.mg_none_of X G e_noIndexError), (PySem.W.mg_none_of X G e_noKeyError), (PySem.W.mg_none_of X G e_noRuntimeError), (PySem.W.mg_none_of X G e_noTypeError), (PySem.W.mg_none_of X G e_noZeroDivisionError)⟩
  have F0 := fun_mk (st := s_law_begun) l0 c0 k0
  have C0_ : ∀ base : Heap, CallF l.prog w K mg base 1 "_law_begun" ["script", "k"] m_law_begun := fun base => ⟨f0, _, PySem.W.mg_of X G a0, k0, F0.binds (ps := ["script", "k"]) (fun _ _ _ _ _ _ us hl => match us, hl with | [_, _], _ => rfl), f_law_begun F0 T I EE , fun ds S h => fnM_ar ds S h⟩
  have F1 := fun_mk (st := s_law_draw) l1 c1 k1
  have C1_ : ∀ base : Heap, CallF l.prog w K mg base 1 "_law_draw" ["m", "many"] m_law_draw := fun base => ⟨f1, _, PySem.W.mg_of X G a1, k1, F1.binds (ps := ["m", "many"]) (fun _ _ _ _ _ _ us hl => match us, hl with | [_, _], _ => rfl), f_law_draw F1 T I EE , fun ds S h => fnM_ar ds S h⟩
  have F2 := fun_mk (st := s_law_of) l2 c2 k2
  have C2_ : ∀ base : Heap, CallF l.prog w K mg base 2 "_law_of" ["m", "some"] m_law_of := fun base => ⟨f2, _, PySem.W.mg_of X G a2, k2, F2.binds (ps := ["m", "some"]) (fun _ _ _ _ _ _ us hl => match us, hl with | [_, _], _ => rfl), f_law_of F2 T I EE C1_, fun ds S h => fnM_ar ds S h⟩
  have F3 := fun_mk (st := s_law_thing) l3 c3 k3
  have C3_ : ∀ base : Heap, CallF l.prog w K mg base 3 "_law_thing" ["m"] m_law_thing := fun base => ⟨f3, _, PySem.W.mg_of X G a3, k3, F3.binds (ps := ["m"]) (fun _ _ _ _ _ _ us hl => match us, hl with | [_], _ => rfl), f_law_thing F3 T I EE C2_ C1_, fun ds S h => fnM_ar ds S h⟩
  have F4 := fun_mk (st := s_law_made) l4 c4 k4
  have C4_ : ∀ base : Heap, CallF l.prog w K mg base 2 "_law_made" ["odd"] m_law_made := fun base => ⟨f4, _, PySem.W.mg_of X G a4, k4, F4.binds (ps := ["odd"]) (fun _ _ _ _ _ _ us hl => match us, hl with | [_], _ => rfl), f_law_made F4 T I EE , fun ds S h => fnM_ar ds S h⟩
  have F5 := fun_mk (st := s_law_named) l5 c5 k5
  have C5_ : ∀ base : Heap, CallF l.prog w K mg base 2 "_law_named" ["odd"] m_law_named := fun base => ⟨f5, _, PySem.W.mg_of X G a5, k5, F5.binds (ps := ["odd"]) (fun _ _ _ _ _ _ us hl => match us, hl with | [_], _ => rfl), f_law_named F5 T I EE , fun ds S h => fnM_ar ds S h⟩
  have F6 := fun_mk (st := s_law_fields) l6 c6 k6
  have C6_ : ∀ base : Heap, CallF l.prog w K mg base 1 "_law_fields" ["errors_so"] m_law_fields := fun base => ⟨f6, _, PySem.W.mg_of X G a6, k6, F6.binds (ps := ["errors_so"]) (fun _ _ _ _ _ _ us hl => match us, hl with | [_], _ => rfl), f_law_fields F6 T I EE , fun ds S h => fnM_ar ds S h⟩
  have F7 := fun_mk (st := s_law_kinds) l7 c7 k7
  have C7_ : ∀ base : Heap, CallF l.prog w K mg base 1 "_law_kinds" ["error"] m_law_kinds := fun base => ⟨f7, _, PySem.W.mg_of X G a7, k7, F7.binds (ps := ["error"]) (fun _ _ _ _ _ _ us hl => match us, hl with | [_], _ => rfl), f_law_kinds F7 T I EE , fun ds S h => fnM_ar ds S h⟩
  have F8 := fun_mk (st := s_law_elders) l8 c8 k8
  have C8_ : ∀ base : Heap, CallF l.prog w K mg base 1 "_law_elders" ["error"] m_law_elders := fun base => ⟨f8, _, PySem.W.mg_of X G a8, k8, F8.binds (ps := ["error"]) (fun _ _ _ _ _ _ us hl => match us, hl with | [_], _ => rfl), f_law_elders F8 T I EE , fun ds S h => fnM_ar ds S h⟩
  have F9 := fun_mk (st := s_law_nine_right) l9 c9 k9
  have C9_ : ∀ base : Heap, CallF l.prog w K mg base 3 "_law_nine_right" ["odd", "away"] m_law_nine_right := fun base => ⟨f9, _, PySem.W.mg_of X G a9, k9, F9.binds (ps := ["odd", "away"]) (fun _ _ _ _ _ _ us hl => match us, hl with | [_, _], _ => rfl), f_law_nine_right F9 T I EE C4_ C5_ C6_ C7_ C8_, fun ds S h => fnM_ar ds S h⟩
  have F10 := fun_mk (st := s_law_others_right) l10 c10 k10
  have C10_ : ∀ base : Heap, CallF l.prog w K mg base 2 "_law_others_right" ["text"] m_law_others_right := fun base => ⟨f10, _, PySem.W.mg_of X G a10, k10, F10.binds (ps := ["text"]) (fun _ _ _ _ _ _ us hl => match us, hl with | [_], _ => rfl), f_law_others_right F10 T I EE C7_ C8_, fun ds S h => fnM_ar ds S h⟩
  have F11 := fun_mk (st := s_law_text) l11 c11 k11
  have C11_ : ∀ base : Heap, CallF l.prog w K mg base 3 "_law_text" ["m"] m_law_text := fun base => ⟨f11, _, PySem.W.mg_of X G a11, k11, F11.binds (ps := ["m"]) (fun _ _ _ _ _ _ us hl => match us, hl with | [_], _ => rfl), f_law_text F11 T I EE C1_ C2_, fun ds S h => fnM_ar ds S h⟩
  have F12 := fun_mk (st := s_law) l12 c12 k12
  exact ⟨_, fun s v => .of_eq rfl, fun base _ _ => f_law F12 T I EE C0_ C3_ C9_ C10_ C11_⟩
end Lw
open PySem PySem.W PyProof.Rows in
set_option maxRecDepth 100000 in
set_option maxHeartbeats 0 in
theorem PySem.Challenge.cw_keptpartings_k22_exceptions_holds : PySem.Challenge.rw_keptpartings_k22_exceptions.Holds := by
  w_on; o_law; k_head; (case hw => w_witness2)
  k_fill
  refine Mi.walk_mi (l := PySem.Challenge.rw_keptpartings_k22_exceptions) (k := 4) (x := "script") (m := Lw.m_law) rfl rfl ⟨rfl, by decide, by decide⟩ (fun w h Y => PySem.W.kIn_of Y) ?F Lw.law_ok
  case F =>
    intro w mg fa h KX G hmg
    refine' Lw.all_mk KX G hmg ?b_an ?a0 ?l0 ?c0 ?k0 ?a1 ?l1 ?c1 ?k1 ?a2 ?l2 ?c2 ?k2 ?a3 ?l3 ?c3 ?k3 ?a4 ?l4 ?c4 ?k4 ?a5 ?l5 ?c5 ?k5 ?a6 ?l6 ?c6 ?k6 ?a7 ?l7 ?c7 ?k7 ?a8 ?l8 ?c8 ?k8 ?a9 ?l9 ?c9 ?k9 ?a10 ?l10 ?c10 ?k10 ?a11 ?l11 ?c11 ?k11 ?a12 ?l12 ?c12 ?k12 ?z_len0 ?z_int0 ?z_max0 ?z_min0 ?z_tuple0 ?z_list0 ?z_repr0 ?z_range0 ?z_isinstance0 ?z_bool0 ?z_str0 ?z_dict0 ?z_enumerate0 ?z_zip0 ?z_sorted0 ?z_set0 ?e_sup ?e_np ?e_top ?e_hn ?e_ht ?e_noIndexError ?e_noKeyError ?e_noLookupError ?e_noOverflowError ?e_noRuntimeError ?e_noTypeError ?e_noValueError ?e_noZeroDivisionError ?e0a ?e0nplace ?e0nvalue ?e0nword ?e0nmost ?e0kC ?e0eC ?e0ga ?e0gg ?e0hd ?e0hc ?e0hm ?e0cl ?e0xi ?e0isAlone ?e0isBadCode ?e0isBadMachine ?e0isBadNumber ?e0isBadPaper ?e0isBadParting ?e0isBadRow ?e0isBadStanding ?e0isBadWord ?e0isLookupError ?e0isOverflowError ?e0isPartError ?e0isTooGreat ?e0isValueError ?e0tp0 ?e0tp1 ?e1a ?e1nplace ?e1nvalue ?e1nword ?e1nmost ?e1kC ?e1eC ?e1ga ?e1gg ?e1hd ?e1hc ?e1hm ?e1cl ?e1l ?e1sa ?e1iC ?e1tI ?e1vC ?e1sC ?e1up ?e1fn ?e1cd ?e1co ?e1fi ?e1fj ?e1ce ?e1isAlone ?e1isBadCode ?e1isBadMachine ?e1isBadNumber ?e1isBadPaper ?e1isBadParting ?e1isBadRow ?e1isBadStanding ?e1isBadWord ?e1isLookupError ?e1isOverflowError ?e1isPartError ?e1isTooGreat ?e1isValueError ?e1tp0 ?e1tp1 ?e2a ?e2nplace ?e2nvalue ?e2nword ?e2nmost ?e2kC ?e2eC ?e2ga ?e2gg ?e2hd ?e2hc ?e2hm ?e2cl ?e2l ?e2sa ?e2iC ?e2tI ?e2vC ?e2sC ?e2up ?e2fn ?e2cd ?e2co ?e2fi ?e2fj ?e2ce ?e2isAlone ?e2isBadCode ?e2isBadMachine ?e2isBadNumber ?e2isBadPaper ?e2isBadParting ?e2isBadRow ?e2isBadStanding ?e2isBadWord ?e2isLookupError ?e2isOverflowError ?e2isPartError ?e2isTooGreat ?e2isValueError ?e2tp0 ?e2tp1 ?e3a ?e3nplace ?e3nvalue ?e3nword ?e3nmost ?e3kC ?e3eC ?e3ga ?e3gg ?e3hd ?e3hc ?e3hm ?e3cl ?e3l ?e3sa ?e3iC ?e3tI ?e3vC ?e3sC ?e3up ?e3fn ?e3cd ?e3co ?e3fi ?e3fj ?e3ce ?e3isAlone ?e3isBadCode ?e3isBadMachine ?e3isBadNumber ?e3isBadPaper ?e3isBadParting ?e3isBadRow ?e3isBadStanding ?e3isBadWord ?e3isLookupError ?e3isOverflowError ?e3isPartError ?e3isTooGreat ?e3isValueError ?e3tp0 ?e3tp1 ?e4a ?e4nplace ?e4nvalue ?e4nword ?e4nmost ?e4kC ?e4eC ?e4ga ?e4gg ?e4hd ?e4hc ?e4hm ?e4cl ?e4l ?e4sa ?e4iC ?e4tI ?e4vC ?e4sC ?e4up ?e4fn ?e4cd ?e4co ?e4fi ?e4fj ?e4ce ?e4isAlone ?e4isBadCode ?e4isBadMachine ?e4isBadNumber ?e4isBadPaper ?e4isBadParting ?e4isBadRow ?e4isBadStanding ?e4isBadWord ?e4isLookupError ?e4isOverflowError ?e4isPartError ?e4isTooGreat ?e4isValueError ?e4tp0 ?e4tp1 ?e5a ?e5nplace ?e5nvalue ?e5nword ?e5nmost ?e5kC ?e5eC ?e5ga ?e5gg ?e5hd ?e5hc ?e5hm ?e5cl ?e5l ?e5sa ?e5iC ?e5tI ?e5vC ?e5sC ?e5up ?e5fn ?e5cd ?e5co ?e5fi ?e5fj ?e5ce ?e5isAlone ?e5isBadCode ?e5isBadMachine ?e5isBadNumber ?e5isBadPaper ?e5isBadParting ?e5isBadRow ?e5isBadStanding ?e5isBadWord ?e5isLookupError ?e5isOverflowError ?e5isPartError ?e5isTooGreat ?e5isValueError ?e5tp0 ?e5tp1 ?e6a ?e6nplace ?e6nvalue ?e6nword ?e6nmost ?e6kC ?e6eC ?e6ga ?e6gg ?e6hd ?e6hc ?e6hm ?e6cl ?e6l ?e6sa ?e6iC ?e6tI ?e6vC ?e6sC ?e6up ?e6fn ?e6cd ?e6co ?e6fi ?e6fj ?e6ce ?e6isAlone ?e6isBadCode ?e6isBadMachine ?e6isBadNumber ?e6isBadPaper ?e6isBadParting ?e6isBadRow ?e6isBadStanding ?e6isBadWord ?e6isLookupError ?e6isOverflowError ?e6isPartError ?e6isTooGreat ?e6isValueError ?e6tp0 ?e6tp1 ?e7a ?e7nplace ?e7nvalue ?e7nword ?e7nmost ?e7kC ?e7eC ?e7ga ?e7gg ?e7hd ?e7hc ?e7hm ?e7cl ?e7l ?e7sa ?e7iC ?e7tI ?e7vC ?e7sC ?e7up ?e7fn ?e7cd ?e7co ?e7fi ?e7fj ?e7ce ?e7isAlone ?e7isBadCode ?e7isBadMachine ?e7isBadNumber ?e7isBadPaper ?e7isBadParting ?e7isBadRow ?e7isBadStanding ?e7isBadWord ?e7isLookupError ?e7isOverflowError ?e7isPartError ?e7isTooGreat ?e7isValueError ?e7tp0 ?e7tp1 ?e8a ?e8nplace ?e8nvalue ?e8nword ?e8nmost ?e8kC ?e8eC ?e8ga ?e8gg ?e8hd ?e8hc ?e8hm ?e8cl ?e8l ?e8sa ?e8iC ?e8tI ?e8vC ?e8sC ?e8up ?e8fn ?e8cd ?e8co ?e8fi ?e8fj ?e8ce ?e8isAlone ?e8isBadCode ?e8isBadMachine ?e8isBadNumber ?e8isBadPaper ?e8isBadParting ?e8isBadRow ?e8isBadStanding ?e8isBadWord ?e8isLookupError ?e8isOverflowError ?e8isPartError ?e8isTooGreat ?e8isValueError ?e8tp0 ?e8tp1 ?e9a ?e9nplace ?e9nvalue ?e9nword ?e9nmost ?e9kC ?e9eC ?e9ga ?e9gg ?e9hd ?e9hc ?e9hm ?e9cl ?e9l ?e9sa ?e9iC ?e9tI ?e9vC ?e9sC ?e9up ?e9fn ?e9cd ?e9co ?e9fi ?e9fj ?e9ce ?e9isAlone ?e9isBadCode ?e9isBadMachine ?e9isBadNumber ?e9isBadPaper ?e9isBadParting ?e9isBadRow ?e9isBadStanding ?e9isBadWord ?e9isLookupError ?e9isOverflowError ?e9isPartError ?e9isTooGreat ?e9isValueError ?e9tp0 ?e9tp1 ?e10a ?e10nplace ?e10nvalue ?e10nword ?e10nmost ?e10kC ?e10eC ?e10ga ?e10gg ?e10hd ?e10hc ?e10hm ?e10cl ?e10l ?e10sa ?e10iC ?e10tI ?e10vC ?e10sC ?e10up ?e10fn ?e10cd ?e10co ?e10fi ?e10fj ?e10ce ?e10isAlone ?e10isBadCode ?e10isBadMachine ?e10isBadNumber ?e10isBadPaper ?e10isBadParting ?e10isBadRow ?e10isBadStanding ?e10isBadWord ?e10isLookupError ?e10isOverflowError ?e10isPartError ?e10isTooGreat ?e10isValueError ?e10tp0 ?e10tp1
    (case b_an => k_is)
    (case a0 => k_is)
    (case l0 => k_is)
    (case c0 => k_is)
    (case k0 => k_is)
    (case a1 => k_is)
    (case l1 => k_is)
    (case c1 => k_is)
    (case k1 => k_is)
    (case a2 => k_is)
    (case l2 => k_is)
    (case c2 => k_is)
    (case k2 => k_is)
    (case a3 => k_is)
    (case l3 => k_is)
    (case c3 => k_is)
    (case k3 => k_is)
    (case a4 => k_is)
    (case l4 => k_is)
    (case c4 => k_is)
    (case k4 => k_is)
    (case a5 => k_is)
    (case l5 => k_is)
    (case c5 => k_is)
    (case k5 => k_is)
    (case a6 => k_is)
    (case l6 => k_is)
    (case c6 => k_is)
    (case k6 => k_is)
    (case a7 => k_is)
    (case l7 => k_is)
    (case c7 => k_is)
    (case k7 => k_is)
    (case a8 => k_is)
    (case l8 => k_is)
    (case c8 => k_is)
    (case k8 => k_is)
    (case a9 => k_is)
    (case l9 => k_is)
    (case c9 => k_is)
    (case k9 => k_is)
    (case a10 => k_is)
    (case l10 => k_is)
    (case c10 => k_is)
    (case k10 => k_is)
    (case a11 => k_is)
    (case l11 => k_is)
    (case c11 => k_is)
    (case k11 => k_is)
    (case a12 => k_is)
    (case l12 => k_is)
    (case c12 => k_is)
    (case k12 => k_is)
    (case z_len0 => k_is)
    (case z_int0 => k_is)
    (case z_max0 => k_is)
    (case z_min0 => k_is)
    (case z_tuple0 => k_is)
    (case z_list0 => k_is)
    (case z_repr0 => k_is)
    (case z_range0 => k_is)
    (case z_isinstance0 => k_is)
    (case z_bool0 => k_is)
    (case z_str0 => k_is)
    (case z_dict0 => k_is)
    (case z_enumerate0 => k_is)
    (case z_zip0 => k_is)
    (case z_sorted0 => k_is)
    (case z_set0 => k_is)
    (case e_sup => k_is)
    (case e_np => k_is)
    (case e_top => first | rfl | kernel_rfl | decide +kernel)
    (case e_hn => k_is)
    (case e_ht => k_is)
    (case e_noIndexError => k_is)
    (case e_noKeyError => k_is)
    (case e_noLookupError => k_is)
    (case e_noOverflowError => k_is)
    (case e_noRuntimeError => k_is)
    (case e_noTypeError => k_is)
    (case e_noValueError => k_is)
    (case e_noZeroDivisionError => k_is)
    (case e0a => k_is)
    (case e0nplace => k_is)
    (case e0nvalue => k_is)
    (case e0nword => k_is)
    (case e0nmost => k_is)
    (case e0kC => k_is)
    (case e0eC => k_is)
    (case e0ga => k_is)
    (case e0gg => k_is)
    (case e0hd => k_is)
    (case e0hc => k_is)
    (case e0hm => k_is)
    (case e0cl => first | k_is | kernel_rfl | decide +kernel)
    (case e0xi => first | k_is | kernel_rfl | decide +kernel)
    (case e0isAlone => kernel_rfl)
    (case e0isBadCode => kernel_rfl)
    (case e0isBadMachine => kernel_rfl)
    (case e0isBadNumber => kernel_rfl)
    (case e0isBadPaper => kernel_rfl)
    (case e0isBadParting => kernel_rfl)
    (case e0isBadRow => kernel_rfl)
    (case e0isBadStanding => kernel_rfl)
    (case e0isBadWord => kernel_rfl)
    (case e0isLookupError => kernel_rfl)
    (case e0isOverflowError => kernel_rfl)
    (case e0isPartError => kernel_rfl)
    (case e0isTooGreat => kernel_rfl)
    (case e0isValueError => kernel_rfl)
    (case e0tp0 => kernel_rfl)
    (case e0tp1 => kernel_rfl)
    (case e1a => k_is)
    (case e1nplace => k_is)
    (case e1nvalue => k_is)
    (case e1nword => k_is)
    (case e1nmost => k_is)
    (case e1kC => k_is)
    (case e1eC => k_is)
    (case e1ga => k_is)
    (case e1gg => k_is)
    (case e1hd => k_is)
    (case e1hc => k_is)
    (case e1hm => k_is)
    (case e1cl => first | k_is | kernel_rfl | decide +kernel)
    (case e1l => k_is)
    (case e1sa => k_is)
    (case e1iC => k_is)
    (case e1tI => k_is)
    (case e1vC => k_is)
    (case e1sC => k_is)
    (case e1up => ks_is)
    (case e1fn => k_is)
    (case e1cd => k_is)
    (case e1co => k_is)
    (case e1fi => first | rfl | kernel_rfl)
    (case e1fj => first | rfl | kernel_rfl | decide +kernel)
    (case e1ce => k_is)
    (case e1isAlone => kernel_rfl)
    (case e1isBadCode => kernel_rfl)
    (case e1isBadMachine => kernel_rfl)
    (case e1isBadNumber => kernel_rfl)
    (case e1isBadPaper => kernel_rfl)
    (case e1isBadParting => kernel_rfl)
    (case e1isBadRow => kernel_rfl)
    (case e1isBadStanding => kernel_rfl)
    (case e1isBadWord => kernel_rfl)
    (case e1isLookupError => kernel_rfl)
    (case e1isOverflowError => kernel_rfl)
    (case e1isPartError => kernel_rfl)
    (case e1isTooGreat => kernel_rfl)
    (case e1isValueError => kernel_rfl)
    (case e1tp0 => kernel_rfl)
    (case e1tp1 => kernel_rfl)
    (case e2a => k_is)
    (case e2nplace => k_is)
    (case e2nvalue => k_is)
    (case e2nword => k_is)
    (case e2nmost => k_is)
    (case e2kC => k_is)
    (case e2eC => k_is)
    (case e2ga => k_is)
    (case e2gg => k_is)
    (case e2hd => k_is)
    (case e2hc => k_is)
    (case e2hm => k_is)
    (case e2cl => first | k_is | kernel_rfl | decide +kernel)
    (case e2l => k_is)
    (case e2sa => k_is)
    (case e2iC => k_is)
    (case e2tI => k_is)
    (case e2vC => k_is)
    (case e2sC => k_is)
    (case e2up => ks_is)
    (case e2fn => k_is)
    (case e2cd => k_is)
    (case e2co => k_is)
    (case e2fi => first | rfl | kernel_rfl)
    (case e2fj => first | rfl | kernel_rfl | decide +kernel)
    (case e2ce => k_is)
    (case e2isAlone => kernel_rfl)
    (case e2isBadCode => kernel_rfl)
    (case e2isBadMachine => kernel_rfl)
    (case e2isBadNumber => kernel_rfl)
    (case e2isBadPaper => kernel_rfl)
    (case e2isBadParting => kernel_rfl)
    (case e2isBadRow => kernel_rfl)
    (case e2isBadStanding => kernel_rfl)
    (case e2isBadWord => kernel_rfl)
    (case e2isLookupError => kernel_rfl)
    (case e2isOverflowError => kernel_rfl)
    (case e2isPartError => kernel_rfl)
    (case e2isTooGreat => kernel_rfl)
    (case e2isValueError => kernel_rfl)
    (case e2tp0 => kernel_rfl)
    (case e2tp1 => kernel_rfl)
    (case e3a => k_is)
    (case e3nplace => k_is)
    (case e3nvalue => k_is)
    (case e3nword => k_is)
    (case e3nmost => k_is)
    (case e3kC => k_is)
    (case e3eC => k_is)
    (case e3ga => k_is)
    (case e3gg => k_is)
    (case e3hd => k_is)
    (case e3hc => k_is)
    (case e3hm => k_is)
    (case e3cl => first | k_is | kernel_rfl | decide +kernel)
    (case e3l => k_is)
    (case e3sa => k_is)
    (case e3iC => k_is)
    (case e3tI => k_is)
    (case e3vC => k_is)
    (case e3sC => k_is)
    (case e3up => ks_is)
    (case e3fn => k_is)
    (case e3cd => k_is)
    (case e3co => k_is)
    (case e3fi => first | rfl | kernel_rfl)
    (case e3fj => first | rfl | kernel_rfl | decide +kernel)
    (case e3ce => k_is)
    (case e3isAlone => kernel_rfl)
    (case e3isBadCode => kernel_rfl)
    (case e3isBadMachine => kernel_rfl)
    (case e3isBadNumber => kernel_rfl)
    (case e3isBadPaper => kernel_rfl)
    (case e3isBadParting => kernel_rfl)
    (case e3isBadRow => kernel_rfl)
    (case e3isBadStanding => kernel_rfl)
    (case e3isBadWord => kernel_rfl)
    (case e3isLookupError => kernel_rfl)
    (case e3isOverflowError => kernel_rfl)
    (case e3isPartError => kernel_rfl)
    (case e3isTooGreat => kernel_rfl)
    (case e3isValueError => kernel_rfl)
    (case e3tp0 => kernel_rfl)
    (case e3tp1 => kernel_rfl)
    (case e4a => k_is)
    (case e4nplace => k_is)
    (case e4nvalue => k_is)
    (case e4nword => k_is)
    (case e4nmost => k_is)
    (case e4kC => k_is)
    (case e4eC => k_is)
    (case e4ga => k_is)
    (case e4gg => k_is)
    (case e4hd => k_is)
    (case e4hc => k_is)
    (case e4hm => k_is)
    (case e4cl => first | k_is | kernel_rfl | decide +kernel)
    (case e4l => k_is)
    (case e4sa => k_is)
    (case e4iC => k_is)
    (case e4tI => k_is)
    (case e4vC => k_is)
    (case e4sC => k_is)
    (case e4up => ks_is)
    (case e4fn => k_is)
    (case e4cd => k_is)
    (case e4co => k_is)
    (case e4fi => first | rfl | kernel_rfl)
    (case e4fj => first | rfl | kernel_rfl | decide +kernel)
    (case e4ce => k_is)
    (case e4isAlone => kernel_rfl)
    (case e4isBadCode => kernel_rfl)
    (case e4isBadMachine => kernel_rfl)
    (case e4isBadNumber => kernel_rfl)
    (case e4isBadPaper => kernel_rfl)
    (case e4isBadParting => kernel_rfl)
    (case e4isBadRow => kernel_rfl)
    (case e4isBadStanding => kernel_rfl)
    (case e4isBadWord => kernel_rfl)
    (case e4isLookupError => kernel_rfl)
    (case e4isOverflowError => kernel_rfl)
    (case e4isPartError => kernel_rfl)
    (case e4isTooGreat => kernel_rfl)
    (case e4isValueError => kernel_rfl)
    (case e4tp0 => kernel_rfl)
    (case e4tp1 => kernel_rfl)
    (case e5a => k_is)
    (case e5nplace => k_is)
    (case e5nvalue => k_is)
    (case e5nword => k_is)
    (case e5nmost => k_is)
    (case e5kC => k_is)
    (case e5eC => k_is)
    (case e5ga => k_is)
    (case e5gg => k_is)
    (case e5hd => k_is)
    (case e5hc => k_is)
    (case e5hm => k_is)
    (case e5cl => first | k_is | kernel_rfl | decide +kernel)
    (case e5l => k_is)
    (case e5sa => k_is)
    (case e5iC => k_is)
    (case e5tI => k_is)
    (case e5vC => k_is)
    (case e5sC => k_is)
    (case e5up => ks_is)
    (case e5fn => k_is)
    (case e5cd => k_is)
    (case e5co => k_is)
    (case e5fi => first | rfl | kernel_rfl)
    (case e5fj => first | rfl | kernel_rfl | decide +kernel)
    (case e5ce => k_is)
    (case e5isAlone => kernel_rfl)
    (case e5isBadCode => kernel_rfl)
    (case e5isBadMachine => kernel_rfl)
    (case e5isBadNumber => kernel_rfl)
    (case e5isBadPaper => kernel_rfl)
    (case e5isBadParting => kernel_rfl)
    (case e5isBadRow => kernel_rfl)
    (case e5isBadStanding => kernel_rfl)
    (case e5isBadWord => kernel_rfl)
    (case e5isLookupError => kernel_rfl)
    (case e5isOverflowError => kernel_rfl)
    (case e5isPartError => kernel_rfl)
    (case e5isTooGreat => kernel_rfl)
    (case e5isValueError => kernel_rfl)
    (case e5tp0 => kernel_rfl)
    (case e5tp1 => kernel_rfl)
    (case e6a => k_is)
    (case e6nplace => k_is)
    (case e6nvalue => k_is)
    (case e6nword => k_is)
    (case e6nmost => k_is)
    (case e6kC => k_is)
    (case e6eC => k_is)
    (case e6ga => k_is)
    (case e6gg => k_is)
    (case e6hd => k_is)
    (case e6hc => k_is)
    (case e6hm => k_is)
    (case e6cl => first | k_is | kernel_rfl | decide +kernel)
    (case e6l => k_is)
    (case e6sa => k_is)
    (case e6iC => k_is)
    (case e6tI => k_is)
    (case e6vC => k_is)
    (case e6sC => k_is)
    (case e6up => ks_is)
    (case e6fn => k_is)
    (case e6cd => k_is)
    (case e6co => k_is)
    (case e6fi => first | rfl | kernel_rfl)
    (case e6fj => first | rfl | kernel_rfl | decide +kernel)
    (case e6ce => k_is)
    (case e6isAlone => kernel_rfl)
    (case e6isBadCode => kernel_rfl)
    (case e6isBadMachine => kernel_rfl)
    (case e6isBadNumber => kernel_rfl)
    (case e6isBadPaper => kernel_rfl)
    (case e6isBadParting => kernel_rfl)
    (case e6isBadRow => kernel_rfl)
    (case e6isBadStanding => kernel_rfl)
    (case e6isBadWord => kernel_rfl)
    (case e6isLookupError => kernel_rfl)
    (case e6isOverflowError => kernel_rfl)
    (case e6isPartError => kernel_rfl)
    (case e6isTooGreat => kernel_rfl)
    (case e6isValueError => kernel_rfl)
    (case e6tp0 => kernel_rfl)
    (case e6tp1 => kernel_rfl)
    (case e7a => k_is)
    (case e7nplace => k_is)
    (case e7nvalue => k_is)
    (case e7nword => k_is)
    (case e7nmost => k_is)
    (case e7kC => k_is)
    (case e7eC => k_is)
    (case e7ga => k_is)
    (case e7gg => k_is)
    (case e7hd => k_is)
    (case e7hc => k_is)
    (case e7hm => k_is)
    (case e7cl => first | k_is | kernel_rfl | decide +kernel)
    (case e7l => k_is)
    (case e7sa => k_is)
    (case e7iC => k_is)
    (case e7tI => k_is)
    (case e7vC => k_is)
    (case e7sC => k_is)
    (case e7up => ks_is)
    (case e7fn => k_is)
    (case e7cd => k_is)
    (case e7co => k_is)
    (case e7fi => first | rfl | kernel_rfl)
    (case e7fj => first | rfl | kernel_rfl | decide +kernel)
    (case e7ce => k_is)
    (case e7isAlone => kernel_rfl)
    (case e7isBadCode => kernel_rfl)
    (case e7isBadMachine => kernel_rfl)
    (case e7isBadNumber => kernel_rfl)
    (case e7isBadPaper => kernel_rfl)
    (case e7isBadParting => kernel_rfl)
    (case e7isBadRow => kernel_rfl)
    (case e7isBadStanding => kernel_rfl)
    (case e7isBadWord => kernel_rfl)
    (case e7isLookupError => kernel_rfl)
    (case e7isOverflowError => kernel_rfl)
    (case e7isPartError => kernel_rfl)
    (case e7isTooGreat => kernel_rfl)
    (case e7isValueError => kernel_rfl)
    (case e7tp0 => kernel_rfl)
    (case e7tp1 => kernel_rfl)
    (case e8a => k_is)
    (case e8nplace => k_is)
    (case e8nvalue => k_is)
    (case e8nword => k_is)
    (case e8nmost => k_is)
    (case e8kC => k_is)
    (case e8eC => k_is)
    (case e8ga => k_is)
    (case e8gg => k_is)
    (case e8hd => k_is)
    (case e8hc => k_is)
    (case e8hm => k_is)
    (case e8cl => first | k_is | kernel_rfl | decide +kernel)
    (case e8l => k_is)
    (case e8sa => k_is)
    (case e8iC => k_is)
    (case e8tI => k_is)
    (case e8vC => k_is)
    (case e8sC => k_is)
    (case e8up => ks_is)
    (case e8fn => k_is)
    (case e8cd => k_is)
    (case e8co => k_is)
    (case e8fi => first | rfl | kernel_rfl)
    (case e8fj => first | rfl | kernel_rfl | decide +kernel)
    (case e8ce => k_is)
    (case e8isAlone => kernel_rfl)
    (case e8isBadCode => kernel_rfl)
    (case e8isBadMachine => kernel_rfl)
    (case e8isBadNumber => kernel_rfl)
    (case e8isBadPaper => kernel_rfl)
    (case e8isBadParting => kernel_rfl)
    (case e8isBadRow => kernel_rfl)
    (case e8isBadStanding => kernel_rfl)
    (case e8isBadWord => kernel_rfl)
    (case e8isLookupError => kernel_rfl)
    (case e8isOverflowError => kernel_rfl)
    (case e8isPartError => kernel_rfl)
    (case e8isTooGreat => kernel_rfl)
    (case e8isValueError => kernel_rfl)
    (case e8tp0 => kernel_rfl)
    (case e8tp1 => kernel_rfl)
    (case e9a => k_is)
    (case e9nplace => k_is)
    (case e9nvalue => k_is)
    (case e9nword => k_is)
    (case e9nmost => k_is)
    (case e9kC => k_is)
    (case e9eC => k_is)
    (case e9ga => k_is)
    (case e9gg => k_is)
    (case e9hd => k_is)
    (case e9hc => k_is)
    (case e9hm => k_is)
    (case e9cl => first | k_is | kernel_rfl | decide +kernel)
    (case e9l => k_is)
    (case e9sa => k_is)
    (case e9iC => k_is)
    (case e9tI => k_is)
    (case e9vC => k_is)
    (case e9sC => k_is)
    (case e9up => ks_is)
    (case e9fn => k_is)
    (case e9cd => k_is)
    (case e9co => k_is)
    (case e9fi => first | rfl | kernel_rfl)
    (case e9fj => first | rfl | kernel_rfl | decide +kernel)
    (case e9ce => k_is)
    (case e9isAlone => kernel_rfl)
    (case e9isBadCode => kernel_rfl)
    (case e9isBadMachine => kernel_rfl)
    (case e9isBadNumber => kernel_rfl)
    (case e9isBadPaper => kernel_rfl)
    (case e9isBadParting => kernel_rfl)
    (case e9isBadRow => kernel_rfl)
    (case e9isBadStanding => kernel_rfl)
    (case e9isBadWord => kernel_rfl)
    (case e9isLookupError => kernel_rfl)
    (case e9isOverflowError => kernel_rfl)
    (case e9isPartError => kernel_rfl)
    (case e9isTooGreat => kernel_rfl)
    (case e9isValueError => kernel_rfl)
    (case e9tp0 => kernel_rfl)
    (case e9tp1 => kernel_rfl)
    (case e10a => k_is)
    (case e10nplace => k_is)
    (case e10nvalue => k_is)
    (case e10nword => k_is)
    (case e10nmost => k_is)
    (case e10kC => k_is)
    (case e10eC => k_is)
    (case e10ga => k_is)
    (case e10gg => k_is)
    (case e10hd => k_is)
    (case e10hc => k_is)
    (case e10hm => k_is)
    (case e10cl => first | k_is | kernel_rfl | decide +kernel)
    (case e10l => k_is)
    (case e10sa => k_is)
    (case e10iC => k_is)
    (case e10tI => k_is)
    (case e10vC => k_is)
    (case e10sC => k_is)
    (case e10up => ks_is)
    (case e10fn => k_is)
    (case e10cd => k_is)
    (case e10co => k_is)
    (case e10fi => first | rfl | kernel_rfl)
    (case e10fj => first | rfl | kernel_rfl | decide +kernel)
    (case e10ce => k_is)
    (case e10isAlone => kernel_rfl)
    (case e10isBadCode => kernel_rfl)
    (case e10isBadMachine => kernel_rfl)
    (case e10isBadNumber => kernel_rfl)
    (case e10isBadPaper => kernel_rfl)
    (case e10isBadParting => kernel_rfl)
    (case e10isBadRow => kernel_rfl)
    (case e10isBadStanding => kernel_rfl)
    (case e10isBadWord => kernel_rfl)
    (case e10isLookupError => kernel_rfl)
    (case e10isOverflowError => kernel_rfl)
    (case e10isPartError => kernel_rfl)
    (case e10isTooGreat => kernel_rfl)
    (case e10isValueError => kernel_rfl)
    (case e10tp0 => kernel_rfl)
    (case e10tp1 => kernel_rfl)
